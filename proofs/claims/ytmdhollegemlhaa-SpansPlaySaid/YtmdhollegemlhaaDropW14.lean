/- Layer 14: Drop and Has. Conditions: no more than 100 spans. -/
import Derived.Test.YtmdhollegemlhaaPutW14
namespace Go.Proofs.Ytmdhollegemlhaa
open Go.RowKit

/-- A row's last span, ended. -/
theorem own_last {w : World} {base gg n cap : Nat} {l : List Iv} {f t r : Int} (h : w.ownsRow base 64 2 (.slice (some ⟨gg, 0, none⟩) n cap) n (ics (l ++ [(f, t)]))) (hn : n = l.length + 1) :
    w.cell? ⟨gg, l.length * 2, none⟩ = some (.int .i64 f) ∧ w.cell? ⟨gg, l.length * 2 + 1, none⟩ = some (.int .i64 t) ∧ w.frozen? ⟨gg, l.length * 2 + 1, none⟩ = false ∧ (w.setCell ⟨gg, l.length * 2 + 1, none⟩ (.int .i64 r)).ownsRow base 64 2 (.slice (some ⟨gg, 0, none⟩) n cap) n (ics (l ++ [(f, r)])) := by
  have hlen : ∀ t : Int, (ics (l ++ [(f, t)])).length = n * 2 := fun t => by rw [ics_len, List.length_append, hn]; rfl
  have hget : (l ++ [((f, t) : Iv)])[l.length]? = some (f, t) := by rw [List.getElem?_append_right (Nat.le_refl _), Nat.sub_self]; rfl
  obtain ⟨h1, h2⟩ := ics_get hget
  have hc := h.cells (g := gg) rfl
  refine ⟨by simpa [Addr.add_lit] using hc _ _ h1, by simpa [Addr.add_lit] using hc _ _ h2, ?_, ?_⟩
  · rcases h.2 with ⟨e, _⟩ | ⟨g, cp, cur, e, _, hh, _⟩
    · cases e
    · injection e with e _ _
      injection e with e
      injection e with e _ _
      subst e
      exact Rk.fz hh _
  · refine ⟨hlen r, ?_⟩
    rcases h.2 with ⟨e, _⟩ | ⟨g, cp, cur, e, hb, hh, hnc, hcm, hcs, ht⟩
    · cases e
    · have e' := e
      injection e with e _ ec
      injection e with e
      injection e with e _ _
      subst e
      refine .inr ⟨gg, cp, cur.setIfInBounds (l.length * 2 + 1) (.int .i64 r), e', hb, Rk.set hh _ _, hnc, hcm, by simpa using hcs, ?_⟩
      rw [Array.toList_setIfInBounds, List.take_set, ht, ics_app, ics_app, List.set_append_right _ _ (by rw [ics_len]; omega), ics_len, Nat.add_sub_cancel_left, ics_sing, ics_sing]
      rfl

set_option maxRecDepth 100000 in
set_option maxHeartbeats 2000000 in
theorem drop14_any {w : World} {F : Nat → Prop} {g : Nat} {L : List Sp} {last : Int} (k : ByteArray) (r : Int) (h : Sk w F g L last) (hf : FineS L last) (hL : L.length ≤ 100) (hk : k.size ≤ 40) :
    Calls Try.prog 13 #[.pointer (some ⟨g, 0, none⟩), .string k, .int .i64 r] w (Turned F g L last r (dropP L last k r) w) := by
  have hno := Turned.no (r := r) h
  obtain ⟨b, V, hF, hg, hM, hsz⟩ := h
  obtain ⟨g0, g1⟩ := hg.two
  have hkl : k.size ≤ maxLen := by simp only [maxLen]; omega
  have hlk := hM.look hkl w rfl
  obtain ⟨A, c, hVk, hR⟩ := hM.read k
  have hrow := ofK_len L k
  have ko := isOpen_any hR (by omega)
  cases drop_is hf k r with
  | no hd hr =>
    rw [hd]
    rw [hVk] at hlk
    by_cases c2 : r < last
    · clear hlk ko hR hM hg hr
      go_enter Try.func13, Try.ntmps13
      go_wp2_with fail
      go_ret
      exact hno
    · have hq : openR (ofK L k) = false := hr.resolve_left c2
      rw [hq] at ko
      clear hR hM hg hr hq
      go_enter Try.func13, Try.ntmps13
      go_wp2_with (go_at_call 26; refine ko.mono ?_; rintro e w1 ⟨rfl, rfl⟩)
      go_ret
      exact hno
  | late l f hd hl hkk hr =>
    rw [hd]
    have hrk := hM.row k
    have hn : (ofK L k).length = l.length + 1 := by rw [hkk]; simp
    rw [hkk, openR_snoc, decide_eq_true rfl] at ko
    rw [hkk] at hrk
    obtain ⟨gg, cap, hVg, _⟩ := hrk.form (by simp)
    rw [hVk] at hVg
    injection hVg with e1 e2 e3
    subst e1
    subst e3
    rw [hVk] at hlk hrk
    rw [hn] at hlk
    simp only [List.length_append, List.length_singleton] at ko hrk
    rw [hn] at hrk
    obtain ⟨c0, c1, _⟩ := own_last (r := r) hrk rfl
    have hlast : ((l.length + 1 : Nat) : Int) - 1 = (l.length : Int) := by omega
    have hlt : l.length < l.length + 1 := by omega
    have hjb : l.length ≤ 100 := by omega
    clear hR hM hg hd hkk hVk hrk hn
    generalize hm : l.length + 1 = m at *
    generalize l.length = j at *
    clear hm
    go_enter Try.func13, Try.ntmps13
    go_wp2_with (go_at_call 26; refine ko.mono ?_; rintro e w1 ⟨rfl, rfl⟩)
    go_ret
    exact hno
  | yes l f L' hd hl hkk hr hkk' ho hnl hm =>
    rw [hd]
    have hrk := hM.row k
    have hn : (ofK L k).length = l.length + 1 := by rw [hkk]; simp
    have hn' : (ofK L' k).length = l.length + 1 := by rw [hkk']; simp
    rw [hkk, openR_snoc, decide_eq_true rfl] at ko
    rw [hkk] at hrk
    obtain ⟨gg, cap, hVg, _⟩ := hrk.form (by simp)
    have hVg2 := hVg
    rw [hVk] at hVg
    injection hVg with e1 e2 e3
    subst e1
    subst e3
    rw [hVk] at hlk hrk
    rw [hn] at hlk
    simp only [List.length_append, List.length_singleton] at ko hrk
    rw [hn] at hrk
    obtain ⟨c0, c1, fz, hrk'⟩ := own_last (r := r) hrk rfl
    have hlast : ((l.length + 1 : Nat) : Int) - 1 = (l.length : Int) := by omega
    have hlt : l.length < l.length + 1 := by omega
    have hjb : l.length ≤ 100 := by omega
    have hown : (V k).ownBlock = some gg := by rw [hVk]; rfl
    have hgg := hM.ne hown
    have hgn : gg ≠ g := fun e => hg.apart (hM.row k) types14 (by rw [hown, e])
    have hgb := hg.ne_map hM
    have xa := hg.other (a := ⟨gg, l.length * 2 + 1, none⟩) (Ne.symm hgn) (.int .i64 r)
    obtain ⟨p0, p1⟩ := xa.two
    have pf := xa.fz 1
    have xb := xa.set 1 (.int .i64 r)
    have hMa : MapS ((w.setCell ⟨gg, l.length * 2 + 1, none⟩ (.int .i64 r)).setCell ⟨g, 1, none⟩ (.int .i64 r)) 0 b L'.length (ofK L') V := by
      obtain ⟨D, d1, d2, d3⟩ := hM.own
      have e1 : ((w.setCell ⟨gg, l.length * 2 + 1, none⟩ (.int .i64 r)).setCell ⟨g, 1, none⟩ (.int .i64 r)).heap[b]? = w.heap[b]? := (Below.heap_setCell _ _ _ _ (Ne.symm hgb)).trans (Below.heap_setCell _ _ _ _ (Ne.symm hgg))
      refine ⟨⟨D, hnl ▸ own_map d1 e1, d2, fun c hc => ?_⟩, fun c => ?_, hM.two⟩
      · rw [d3 c hc]
        by_cases e : k = c
        · subst e
          rw [hkk, hkk']
          cases l <;> rfl
        · rw [ho c e]
      · by_cases e : k = c
        · subst e
          rw [hn', hkk', hVk, hn]
          exact own_keep hrk' fun j hj => Below.heap_setCell _ _ _ _ fun e => by
            simp only [Value.ownBlock, Option.some.injEq] at hj
            exact hgn (hj.trans e)
        · rw [ho c e]
          exact own_keep (hM.row c) fun j hj => (Below.heap_setCell _ _ _ _ fun q => hg.apart (hM.row c) types14 (by rw [hj]; exact congrArg some q)).trans (Below.heap_setCell _ _ _ _ fun q => e (hM.two k c gg hown (by rw [hj]; exact congrArg some q)))
    have hfin : Turned F g L last r (some L') w (.returned (.bool true)) ((w.setCell ⟨gg, l.length * 2 + 1, none⟩ (.int .i64 r)).setCell ⟨g, 1, none⟩ (.int .i64 r)) :=
      ⟨F, rfl, ⟨b, V, hF, xb, hMa, fun x hx => by
        rcases hm x hx with e | e
        · rw [e]; exact hk
        · exact hsz x e⟩, (((OnlyF.refl F w).set (.inl ((hF gg).2 (.inr (.inr ⟨k, hown⟩)))) _).set (.inl ((hF g).2 (.inl rfl))) _).own fun _ h => .inl h⟩
    clear hR hM hg hd hkk hkk' hVk hVg2 hrk hn hn' hrk' hMa xa xb hm ho hnl hown hgg hgb hF hsz hno
    generalize hm : l.length + 1 = m at *
    generalize l.length = j at *
    clear hm
    go_enter Try.func13, Try.ntmps13
    go_wp2_with (go_at_call 26; refine ko.mono ?_; rintro e w1 ⟨rfl, rfl⟩)
    go_ret
    exact hfin

set_option maxRecDepth 100000 in
theorem has14_any {w : World} {F : Nat → Prop} {g : Nat} {L : List Sp} {last : Int} (k : ByteArray) (r : Int) (h : Sk w F g L last) (hL : L.length ≤ 100) (hk : k.size ≤ maxLen) :
    Calls Try.prog 19 #[.pointer (some ⟨g, 0, none⟩), .string k, .int .i64 r] w fun e w' => e = .returned (.bool (hasP L k r)) ∧ Below w.heap.size w w' := by
  obtain ⟨b, V, hF, hg, hM, hsz⟩ := h
  have x1 := hg.alloc (.cells #[.int .i64 r] 3)
  have hlk := hM.look hk (w.alloc (.cells #[.int .i64 r] 3)) (Below.heap_alloc _ _ _ hM.lt)
  obtain ⟨A, c, hVk, hR⟩ := hM.read k
  have hrow := ofK_len L k
  have kc := contains_any r (hR.up (bnew w (.cells #[.int .i64 r] 3))) (Nat.le_refl _) (by omega) (Rk.new w #[.int .i64 r] 3).one
  have hq : (ofK L k).any (fun y => holdsI y r) = hasP L k r := (hasP_row L k r).symm
  rw [hq] at kc
  rw [hVk] at hlk
  obtain ⟨g0, g1⟩ := x1.two
  have hbn := bnew w (.cells #[.int .i64 r] 3)
  generalize hasP L k r = q at *
  clear hq hR hM hVk hg
  generalize (ofK L k).length = m at *
  go_enter Try.func19, Try.ntmps19
  go_wp2_with (go_at_call 32; refine kc.mono ?_; rintro e w1 ⟨rfl, hg1⟩)
  go_ret
  exact ⟨rfl, bthen hbn hbn.size hg1.upto⟩
end Go.Proofs.Ytmdhollegemlhaa
