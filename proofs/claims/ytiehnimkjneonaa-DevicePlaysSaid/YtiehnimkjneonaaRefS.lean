/- The document's own Restart. Conditions: none. -/
import Derived.Test.YtiehnimkjneonaaRefF
namespace Go.Proofs.Ytiehnimkjneonaa
open Go.RowKit
theorem pick_beyond {α : Type} {f : Nat → Bool} {ws : List α} {k : Nat} (hf : ∀ j, k ≤ j → f j = false) : ∀ d, pick f (ws.take (k + d)) = pick f (ws.take k) := by
  intro d
  induction d with
  | zero => rfl
  | succ d ih =>
    by_cases h : k + d < ws.length
    · rw [← Nat.add_assoc, pick_take_succ (List.getElem?_eq_getElem h), hf (k + d) (by omega), ih]
      simp
    · rw [← ih, List.take_of_length_le (by omega), List.take_of_length_le (by omega)]
theorem pick_till {α : Type} {f : Nat → Bool} {ws : List α} {k : Nat} (hk : k ≤ ws.length) (hf : ∀ j, k ≤ j → f j = false) : pick f ws = pick f (ws.take k) := by
  have := pick_beyond (ws := ws) hf (ws.length - k)
  rw [List.take_of_length_le (by omega)] at this
  exact this
set_option maxRecDepth 100000 in
set_option maxHeartbeats 1000000 in
theorem refRestart_any (w : World) {KA WA E : Option Addr} {kc wc ec n m : Nat} {keep : List Bool} (a : Int) (d : Bool) (l : List Sec) (ps : List (Nat × Sec)) (hn : l.length = n) (hm : ps.length = m) (hr : Rd w w.heap.size 1 KA n kc (kcs l)) (hw : Rd w w.heap.size 2 WA m wc (wsCs ps)) (hl : n ≤ 65536) (hm1 : m ≤ 1000000) (hp : ∀ p ∈ ps, p.1 ≤ 65536)
    (hkb : ∀ b o, KA = some ⟨b, o, none⟩ → b < w.heap.size) (hk : Rd w w.heap.size 1 E keep.length ec (keep.map Value.bool)) (hkl : keep.length ≤ 1000000) :
    Calls Try.prog 20 #[.agg #[.slice KA n kc, .slice WA m wc, .int .i64 a, .bool d], .slice E keep.length ec] w fun e w' => ∃ A c, e = .returned (.agg #[.slice A n c, .slice none 0 0, .int .i64 0, .bool false]) ∧
      Rd w' w'.heap.size 1 A n c (kcs (puts l (pick (fun n => keep.getD n false) ps))) ∧ (∀ b o, A = some ⟨b, o, none⟩ → KA = some ⟨b, o, none⟩ ∨ w.heap.size ≤ b) ∧ Below w.heap.size w w' := by
  go_enter Try.func20, Try.ntmps20
  go_upto_region 2 with (fail)
  have bb : Below w.heap.size w (((w.alloc (.cells #[.slice KA n kc, .slice WA m wc, .int .i64 a, .bool d] 32)).alloc (.cells #[.slice none 0 0, .slice none 0 0, .int .i64 0, .bool false] 32)).alloc (.cells #[.slice KA n kc, .slice none 0 0, .int .i64 0, .bool false] 32)) := (((Below.refl _ _).alloc (Nat.le_refl _) _).alloc (by simp) _).alloc (by simp; omega) _
  have xx := ((D4.new w (.slice KA n kc) (.slice WA m wc) a d).alloc (.cells #[.slice none 0 0, .slice none 0 0, .int .i64 0, .bool false] 32)).alloc (.cells #[.slice KA n kc, .slice none 0 0, .int .i64 0, .bool false] 32)
  have rr : D4 (((w.alloc (.cells #[.slice KA n kc, .slice WA m wc, .int .i64 a, .bool d] 32)).alloc (.cells #[.slice none 0 0, .slice none 0 0, .int .i64 0, .bool false] 32)).alloc (.cells #[.slice KA n kc, .slice none 0 0, .int .i64 0, .bool false] 32)) (w.heap.size + 1) (.slice none 0 0) (.slice none 0 0) 0 false := by
    have := (D4.new (w.alloc (.cells #[.slice KA n kc, .slice WA m wc, .int .i64 a, .bool d] 32)) (.slice none 0 0) (.slice none 0 0) 0 false).alloc (.cells #[.slice KA n kc, .slice none 0 0, .int .i64 0, .bool false] 32)
    simpa using this
  have oo : D4 (((w.alloc (.cells #[.slice KA n kc, .slice WA m wc, .int .i64 a, .bool d] 32)).alloc (.cells #[.slice none 0 0, .slice none 0 0, .int .i64 0, .bool false] 32)).alloc (.cells #[.slice KA n kc, .slice none 0 0, .int .i64 0, .bool false] 32)) (w.heap.size + 2) (.slice KA n kc) (.slice none 0 0) 0 false := by
    have := D4.new ((w.alloc (.cells #[.slice KA n kc, .slice WA m wc, .int .i64 a, .bool d] 32)).alloc (.cells #[.slice none 0 0, .slice none 0 0, .int .i64 0, .bool false] 32)) (.slice KA n kc) (.slice none 0 0) 0 false
    simpa using this
  have hs : (((w.alloc (.cells #[.slice KA n kc, .slice WA m wc, .int .i64 a, .bool d] 32)).alloc (.cells #[.slice none 0 0, .slice none 0 0, .int .i64 0, .bool false] 32)).alloc (.cells #[.slice KA n kc, .slice none 0 0, .int .i64 0, .bool false] 32)).heap.size = w.heap.size + 3 := by simp
  generalize (((w.alloc (.cells #[.slice KA n kc, .slice WA m wc, .int .i64 a, .bool d] 32)).alloc (.cells #[.slice none 0 0, .slice none 0 0, .int .i64 0, .bool false] 32)).alloc (.cells #[.slice KA n kc, .slice none 0 0, .int .i64 0, .bool false] 32)) = V at *
  go_wp2_with fail
  go_loopw [6] (fun vi wr => ∃ (k : Nat) (A : Option Addr) (c : Nat), vi = .int .i64 k ∧ k ≤ m ∧ k ≤ keep.length ∧ Rd wr wr.heap.size 1 A n c (kcs (puts l (pick (fun n => keep.getD n false) (ps.take k)))) ∧ (∀ b o, A = some ⟨b, o, none⟩ → KA = some ⟨b, o, none⟩ ∨ w.heap.size + 3 ≤ b) ∧ D4 wr w.heap.size (.slice KA n kc) (.slice WA m wc) a d ∧ D4 wr (w.heap.size + 1) (.slice none 0 0) (.slice none 0 0) 0 false ∧ D4 wr (w.heap.size + 2) (.slice A n c) (.slice none 0 0) 0 false ∧ Below w.heap.size w wr ∧ w.heap.size + 3 ≤ wr.heap.size) (fun vi _ => m - (intOf vi).toNat)
  case atStart => exact ⟨0, KA, kc, rfl, by omega, by omega, (hr.below bb).more bb.size, fun b o e => .inl e, xx, rr, oo, bb, by omega⟩
  case round =>
    obtain ⟨k, A, c, rfl, hkm, hkk, hrk, hA, hx, hr', hv, hb, hsz⟩ := hrel
    have e0 := hx.c0
    have e1 := hx.c1
    have e2 := hx.c2
    have e3 := hx.c3
    have f0 := hv.c0
    have f1 := hv.c1
    have f2 := hv.c2
    have f3 := hv.c3
    have hAb : ∀ b o, A = some ⟨b, o, none⟩ → b ≠ w.heap.size ∧ b ≠ w.heap.size + 1 ∧ b ≠ w.heap.size + 2 := fun b o e => by
      rcases hA b o e with e' | e'
      · have := hkb b o e'; omega
      · omega
    by_cases hlt : k < m ∧ k < keep.length
    · have hlz : (k : Int) < (m : Int) := by omega
      have hlk : (k : Int) < (keep.length : Int) := by omega
      obtain ⟨p, hkp⟩ : ∃ p, ps[k]? = some p := ⟨ps[k]'(by omega), List.getElem?_eq_getElem (by omega)⟩
      have hww := hw.below hb
      rw [← hm] at hww
      obtain ⟨b2, o2, rfl, hb2, d0, d1⟩ := ws_cells hww hkp
      obtain ⟨b5, o5, u5, rfl, hb5, hu5, c5w⟩ := hk.get hlt.2
      rw [List.getElem?_map, List.getElem?_eq_getElem hlt.2] at hu5
      simp at hu5
      subst hu5
      have c5 := (hb.cell (p := ⟨b5, _, none⟩) hb5).trans c5w
      have hkd : keep.getD k false = keep[k] := by rw [List.getD_eq_getElem?_getD, List.getElem?_eq_getElem hlt.2]; rfl
      have hpk := pick_take_succ (f := fun n => keep.getD n false) hkp
      simp only [hkd] at hpk
      have kp := put_n wr.drew (l := puts l (pick (fun n => keep.getD n false) (ps.take k))) (n := n) (by rw [puts_length]; exact hn) p.1 p.2 hrk.drew hl (hp p (List.mem_of_getElem? hkp))
      clear c5w
      cases hv5 : keep[k] with
      | true =>
        rw [hv5] at hpk c5
        rw [if_pos rfl] at hpk
        have hst : puts l (pick (fun n => keep.getD n false) (ps.take (k + 1))) = (puts l (pick (fun n => keep.getD n false) (ps.take k))).set p.1 p.2 := by rw [hpk]; exact puts_snoc _ _ _
        go_wp2_with fail
        go_still_tail 7, (by kernel_rfl)
        change wpList _ _ _ _ _ wr.drew
        go_wp2_with ((with_reducible refine kp.mono ?_); rintro e w3 ⟨A', c', rfl, ho, hb3⟩; have hb3' : Below wr.heap.size wr w3 := ⟨hb3.os, hb3.tape, hb3.output, hb3.size, hb3.block⟩; have x3 := hx.on hb3'; have r3 := hr'.on hb3'; have v3 := hv.on hb3'; have b3 := hb.trans (hb3'.mono hb.size); have hs3 := hb3'.size; clear e0 e1 e2 e3 f0 f1 f2 f3 kp hb3; have f0 := v3.c0; have ff := v3.fz)
        have ho' : (w3.setCell ⟨w.heap.size + 2, 0, none⟩ (.slice A' n c')).ownsRow wr.heap.size 9 1 (.slice A' n c') n (kcs ((puts l (pick (fun n => keep.getD n false) (ps.take k))).set p.1 p.2)) := own_same ho fun g e => Below.heap_setCell _ _ _ _ (by have : wr.heap.size ≤ g := (ho.lt g e).1; show g ≠ w.heap.size + 2; omega)
        obtain ⟨A2, c2, e2, hrd⟩ := Rd.own ho'
        cases e2
        exact ⟨⟨k + 1, A', c', rfl, by omega, by omega, by rw [hst]; exact hrd, fun b o e => .inr (by have : wr.heap.size ≤ b := own_at ho b o e; omega), x3.far (by show w.heap.size ≠ w.heap.size + 2; omega) _, r3.far (by show w.heap.size + 1 ≠ w.heap.size + 2; omega) _, v3.s0 _, b3.setCell (by show w.heap.size ≤ w.heap.size + 2; omega) _, by simp [World.setCell]; omega⟩, by simp [intOf]; omega⟩
      | false =>
        rw [hv5] at hpk c5
        have hst : pick (fun n => keep.getD n false) (ps.take (k + 1)) = pick (fun n => keep.getD n false) (ps.take k) := by rw [hpk]; simp
        clear kp
        go_wp2_with fail
        exact ⟨⟨k + 1, A, c, rfl, by omega, by omega, by rw [hst]; exact hrk, hA, hx, hr', hv, hb, hsz⟩, by simp [intOf]; omega⟩
    · have hpe : pick (fun n => keep.getD n false) ps = pick (fun n => keep.getD n false) (ps.take k) := by
        rcases (by omega : k = m ∨ k = keep.length) with h | h
        · rw [List.take_of_length_le (by omega)]
        · exact pick_till (by omega) fun j hj => by
            show keep.getD j false = false
            rw [List.getD_eq_getElem?_getD, List.getElem?_eq_none (by omega)]; rfl
      rw [← hpe] at hrk
      have g0 := hr'.c0
      have g1 := hr'.c1
      have g2 := hr'.c2
      have g3 := hr'.c3
      have gf := hr'.fz
      by_cases hkm2 : k = m
      · subst hkm2
        go_wp2_with fail
        have o6 := rd_far (w' := ((((wr.setCell ⟨w.heap.size + 1, 0, none⟩ (.slice A n c)).setCell ⟨w.heap.size + 1, 1, none⟩ (.slice none 0 0)).setCell ⟨w.heap.size + 1, 2, none⟩ (.int .i64 0)).setCell ⟨w.heap.size + 1, 3, none⟩ (.bool false))) hrk (g := w.heap.size + 1) (fun j hj => by rw [Below.heap_setCell _ _ _ _ hj, Below.heap_setCell _ _ _ _ hj, Below.heap_setCell _ _ _ _ hj, Below.heap_setCell _ _ _ _ hj]) (fun b o e => (hAb b o e).2.1)
        obtain ⟨V3, hV3, r6, x6, b6, hs6⟩ := four_set hr' hx (by omega) hb (Nat.le_succ _) (.slice A n c) (.slice none 0 0) 0 false
        rw [hV3] at o6 ⊢
        have k0 := r6.c0
        have k1 := r6.c1
        have k2 := r6.c2
        have k3 := r6.c3
        refine bodyPost_ret (v := .agg #[.slice A n c, .slice none 0 0, .int .i64 0, .bool false]) (by simp [results, Try.results20, go_sem, k0, k1, k2, k3]; try rfl) rfl ?_
        exact ⟨A, c, rfl, o6.more (by omega), fun b o e => (hA b o e).imp id (fun h => by omega), b6⟩
      · have hz1' : (k : Int) < (m : Int) := by omega
        have hz2' : (keep.length : Int) ≤ (k : Int) := by omega
        go_wp2_with fail
        have o6 := rd_far (w' := ((((wr.setCell ⟨w.heap.size + 1, 0, none⟩ (.slice A n c)).setCell ⟨w.heap.size + 1, 1, none⟩ (.slice none 0 0)).setCell ⟨w.heap.size + 1, 2, none⟩ (.int .i64 0)).setCell ⟨w.heap.size + 1, 3, none⟩ (.bool false))) hrk (g := w.heap.size + 1) (fun j hj => by rw [Below.heap_setCell _ _ _ _ hj, Below.heap_setCell _ _ _ _ hj, Below.heap_setCell _ _ _ _ hj, Below.heap_setCell _ _ _ _ hj]) (fun b o e => (hAb b o e).2.1)
        obtain ⟨V3, hV3, r6, x6, b6, hs6⟩ := four_set hr' hx (by omega) hb (Nat.le_succ _) (.slice A n c) (.slice none 0 0) 0 false
        rw [hV3] at o6 ⊢
        have k0 := r6.c0
        have k1 := r6.c1
        have k2 := r6.c2
        have k3 := r6.c3
        refine bodyPost_ret (v := .agg #[.slice A n c, .slice none 0 0, .int .i64 0, .bool false]) (by simp [results, Try.results20, go_sem, k0, k1, k2, k3]; try rfl) rfl ?_
        exact ⟨A, c, rfl, o6.more (by omega), fun b o e => (hA b o e).imp id (fun h => by omega), b6⟩
end Go.Proofs.Ytiehnimkjneonaa
