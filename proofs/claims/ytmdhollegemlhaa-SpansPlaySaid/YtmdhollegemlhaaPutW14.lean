/- Layer 14: New and Put. Conditions: no more than a million spans. -/
import Derived.Deep.RegionHeld3
import Derived.Outline
import Derived.Test.YtmdhollegemlhaaFunW14
namespace Go.Proofs.Ytmdhollegemlhaa
open Go.RowKit

theorem new14_any (w : World) : Calls Try.prog 10 #[] w fun e w' => ∃ g F, e = .returned (.pointer (some ⟨g, 0, none⟩)) ∧ Sk w' F g [] 0 ∧ (∀ b, F b → w.heap.size ≤ b) ∧ Below w.heap.size w w' := by
  have hm := MapS.made w
  have hlt := hm.lt
  have x1 := Rk.new (w.alloc (.map #[] 0)) #[.map (some w.heap.size), .int .i64 0] 60
  have hm2 : MapS ((w.alloc (.map #[] 0)).alloc (.cells #[.map (some w.heap.size), .int .i64 0] 60)) 0 w.heap.size 0 (ofK []) (fun _ => nilS) := (hm.same (Below.heap_alloc _ _ _ hlt) fun k j hj => by simp [Value.ownBlock] at hj).base (Nat.zero_le _)
  have hs : (w.alloc (.map #[] 0)).heap.size = w.heap.size + 1 := by simp
  rw [hs] at x1
  have hb := ((Below.refl w.heap.size w).alloc (Nat.le_refl _) (.map #[] 0)).alloc (size_alloc (Nat.le_refl _)) (.cells #[.map (some w.heap.size), .int .i64 0] 60)
  have hmm := @run_makeMap Try.prog
  go_enter Try.func10, Try.ntmps10
  go_wp2
  go_ret
  refine ⟨_, _, rfl, ⟨w.heap.size, fun _ => nilS, fun _ => Iff.rfl, x1, hm2, fun _ h => by cases h⟩, ?_, hb⟩
  rintro j (rfl | rfl | ⟨k, hk⟩)
  · omega
  · exact Nat.le_refl _
  · simp [Value.ownBlock] at hk

theorem map_some (b : Nat) (w : World) : (binOp .eql 58 (.map (some b)) (.map none)).run Try.prog w = .ok (.bool false) w := by
  kernel_rfl
/-- The slice at a key, read. -/
theorem MapS.read {w : World} {B b n : Nat} {G : ByteArray → List Iv} {V : ByteArray → Value} (h : MapS w B b n G V) (k : ByteArray) : ∃ A c, V k = .slice A (G k).length c ∧ Rd w w.heap.size 2 A (G k).length c (ics (G k)) := Rd.own (h.row k)

theorem Rk.ne_map {w : World} {B b n g : Nat} {G : ByteArray → List Iv} {V : ByteArray → Value} {cs : Array Value} {t : TypeId} (h : Rk w g cs t) (hM : MapS w B b n G V) : g ≠ b := fun e => by
  obtain ⟨D, ⟨es, clock, hb, _⟩, _⟩ := hM.own
  rw [← e, show w.heap[g]? = _ from h] at hb
  cases hb
theorem types14 : 60 ≠ 64 := by decide
/-- What Put and Drop leave, as o says. -/
def Turned (F : Nat → Prop) (g : Nat) (L : List Sp) (last r : Int) (o : Option (List Sp)) (w : World) (e : Ending) (w' : World) : Prop :=
  ∃ F', e = .returned (.bool o.isSome) ∧ Sk w' F' g (o.getD L) (if o.isSome then r else last) ∧ Own14 F F' w w'
theorem Turned.no {F : Nat → Prop} {g : Nat} {L : List Sp} {last r : Int} {w : World} (h : Sk w F g L last) : Turned F g L last r none w (.returned (.bool false)) w := ⟨F, rfl, h, (OnlyF.refl F w).own fun _ h => .inl h⟩

set_option maxRecDepth 100000 in
set_option maxHeartbeats 2000000 in
theorem put14_any {w : World} {F : Nat → Prop} {g : Nat} {L : List Sp} {last : Int} (k : ByteArray) (r : Int) (h : Sk w F g L last) (hf : FineS L last) (hL : L.length ≤ 100) (hk : k.size ≤ 40) :
    Calls Try.prog 11 #[.pointer (some ⟨g, 0, none⟩), .string k, .int .i64 r] w (Turned F g L last r (putP L last k r) w) := by
  have hno := Turned.no (r := r) h
  obtain ⟨b, V, hF, hg, hM, hsz⟩ := h
  obtain ⟨g0, g1⟩ := hg.two
  have hkl : k.size ≤ maxLen := by simp only [maxLen]; omega
  have hlk := hM.look hkl w rfl
  obtain ⟨A, c, hVk, hR⟩ := hM.read k
  have hrow := ofK_len L k
  have ko := isOpen_any hR (by omega)
  have hpr := putP_row hf k r
  by_cases c1 : r < 1
  · rw [hpr, if_pos (.inl c1)]
    clear hpr hlk ko hR hM hg
    go_enter Try.func11, Try.ntmps11
    go_wp2_with fail
    go_ret
    exact hno
  · by_cases c2 : r < last
    · rw [hpr, if_pos (.inr (.inl c2))]
      clear hpr hlk ko hR hM hg
      go_enter Try.func11, Try.ntmps11
      go_wp2_with fail
      go_ret
      exact hno
    · obtain ⟨q, hq⟩ : ∃ q, openR (ofK L k) = q := ⟨_, rfl⟩
      rw [hq] at ko hpr
      rw [hVk] at hlk
      cases q with
      | true =>
        rw [hpr, if_pos (.inr (.inr rfl))]
        clear hpr hR hM hg hq
        go_enter Try.func11, Try.ntmps11
        go_wp2_with (go_at_call 26; refine ko.mono ?_; rintro e w1 ⟨rfl, rfl⟩)
        go_ret
        exact hno
      | false =>
        rw [hpr, if_neg (by rintro (z | z | z) <;> first | exact c1 z | exact c2 z | cases z)]
        clear hpr hno hq
        -- the push
        have y0 := Rk.new w.drew #[.int .i64 r, .int .i64 0] 64
        have hM5 : MapS (w.drew.alloc (.cells #[.int .i64 r, .int .i64 0] 64)) 0 b L.length (ofK L) V := hM.same (Below.heap_alloc _ _ _ hM.lt) fun c j hj => Below.heap_alloc _ _ _ (own_lt (hM.row c) hj).2
        obtain ⟨gg, cap, w6, w7, V', r6, r7, hM7, hg6, hg7, hV'⟩ := hM5.push hkl (r, 0) (by omega) (by omega) (Nat.zero_le _) ⟨w.heap.size, 0, none⟩ (cells_at _ #[.int .i64 r, .int .i64 0] _ _ rfl) 62
        have x5 := (hg.same (w' := w.drew) rfl).alloc (.cells #[.int .i64 r, .int .i64 0] 64)
        have x6 : Rk w6 g #[.map (some b), .int .i64 last] 60 := x5.same (hg6.block g x5.lt fun e => x5.apart (hM5.row k) types14 e.symm)
        have hgb := hg.ne_map hM
        have x7 : Rk w7 g #[.map (some b), .int .i64 last] 60 := x6.same (hg7.block g x6.lt fun e => hgb (by cases e; rfl))
        have p6 := x6.two.1
        have p7 := x7.two
        have f7 := x7.fz 1
        obtain ⟨q7, _⟩ := p7
        have hO : OnlyF F w w7 := ((((OnlyF.refl F w).drew.grown (grown_new _ _) fun r e => by cases e).grown hg6 fun j e => .inl ((hF j).2 (.inr (.inr ⟨k, e⟩)))).grown hg7 fun j e => .inl ((hF j).2 (.inr (.inl (by cases e; rfl)))))
        have hfin : Turned F g L last r (some (L ++ [(k, r, 0)])) w (.returned (.bool true)) (w7.setCell ⟨g, 1, none⟩ (.int .i64 r)) := by
          have x8 := x7.set 1 (.int .i64 r)
          have hM8 : MapS (w7.setCell ⟨g, 1, none⟩ (.int .i64 r)) 0 b (L ++ [((k, r, 0) : Sp)]).length (ofK (L ++ [(k, r, 0)])) V' := by
            rw [List.length_append]
            refine (hM7.same (Below.heap_setCell _ _ _ _ (Ne.symm hgb)) fun c j hj => Below.heap_setCell _ _ _ _ fun e => x7.apart (hM7.row c) types14 (by rw [hj]; exact congrArg some e)).congr fun c => ?_
            rw [ofK_put]
            unfold pushG
            by_cases e : c = k
            · subst e
              simp
            · rw [if_neg e, if_neg (Ne.symm e)]
          refine ⟨fun j => j = g ∨ j = b ∨ ∃ c, (V' c).ownBlock = some j, rfl, ⟨b, V', fun _ => Iff.rfl, x8, hM8, fun x hx => ?_⟩, (hO.set (.inl ((hF g).2 (.inl rfl))) _).own fun j hj => ?_⟩
          · rcases List.mem_append.1 hx with hx | hx
            · exact hsz x hx
            · rw [List.mem_singleton] at hx
              subst hx
              exact hk
          · rcases hj with rfl | rfl | ⟨c, hc⟩
            · exact .inl ((hF _).2 (.inl rfl))
            · exact .inl ((hF _).2 (.inr (.inl rfl)))
            · rcases hV' c j hc with q | ⟨_, rfl⟩
              · exact .inl ((hF _).2 (.inr (.inr ⟨c, q⟩)))
              · exact .inr (by simp)
        have hlk2 := hM.look hkl w.drew rfl
        have hlk3 := hM.look hkl (w.drew.alloc (.cells #[.int .i64 r, .int .i64 0] 64)) (Below.heap_alloc _ _ _ hM.lt)
        have hlk4 := hM.look hkl (w.alloc (.cells #[.int .i64 r, .int .i64 0] 64)).drew (Below.heap_alloc _ _ _ hM.lt)
        rw [hVk] at r6 hlk2 hlk3 hlk4
        go_enter Try.func11, Try.ntmps11
        clear hM7 hV' hO x5 x6 x7 hM5 hg6 hg7 hM hg hF hsz
        have hns := map_some b
        go_upto_region 5 with (go_at_call 26; refine ko.mono ?_; rintro e w1 ⟨rfl, rfl⟩)
        go_region_held3 (fun w' => w'.cell? ⟨g, 0, none⟩ = some (.map (some b)))
          (first
            | go_keep
            | fail)
          (first
            | (refine step_append_run (by rfl) _ _ _ (by rfl) _ _ _ (by rfl) (by rfl) r6 ?_)
            | (refine step_update_run (by rfl) _ _ _ _ (by rfl) _ _ _ (by rfl) (by rfl) (by rfl) r7 ?_)
            | fail)
        go_wp2_with fail
        all_goals (go_ret; exact hfin)
end Go.Proofs.Ytmdhollegemlhaa
