/- Layer 14, the document's side: Events. Conditions: no more than a hundred thousand spans. Written by tools/events14.py. -/
import Derived.Test.YtmdhollegemlhaaRefE14
namespace Go.Proofs.Ytmdhollegemlhaa
open Go.RowKit

set_option maxRecDepth 100000 in
set_option maxHeartbeats 8000000 in
theorem revents_any {w : World} {A : Option Addr} {c : Nat} {last : Int} {L : List Sp} (h : Rd w w.heap.size 3 A L.length c (scs L)) (hl : L.length ≤ 100000) (p q : Int) :
    Calls Try.prog 24 #[.agg #[.slice A L.length c, .int .i64 last], .int .i64 p, .int .i64 q] w fun e w' => ∃ A' c', e = .returned (.slice A' (eventsP L p q).length c') ∧ Rd w' w'.heap.size 3 A' (eventsP L p q).length c' (ecs (eventsP L p q)) ∧ Below w.heap.size w w' := by
  have kput := fun (W : World) (A' : Option Addr) (c' : Nat) (E : List Ev) (x : Ev) (hR : Rd W W.heap.size 3 A' E.length c' (ecs E)) (hE : E.length ≤ 1000000) => rput_any hR hE x
  simp only [ecl] at kput
  obtain ⟨w1, hw1⟩ : ∃ w1, w.alloc (.cells #[.slice A L.length c, .int .i64 last] 30) = w1 := ⟨_, rfl⟩
  have hb1 : Below w.heap.size w w1 := hw1 ▸ bnew w _
  obtain ⟨z0, z1⟩ := box2 w (.slice A L.length c) (.int .i64 last) 30
  rw [hw1] at z0 z1
  have hlt1 : w.heap.size < w1.heap.size := by rw [← hw1]; simp
  have h1 := h.up hb1
  replace hw1 := Lib.hid hw1
  go_enter Try.func24, Try.ntmps24
  go_upto_region 1 with (fail)
  rw [hw1.out]
  clear hw1 h
  go_wp2_with fail
  go_loopw [7, 8] (fun vo vi wx => ∃ (i : Nat) (A' : Option Addr) (c' : Nat) (E : List Ev), vi = .int .i64 i ∧ i ≤ L.length ∧ vo = .slice A' E.length c' ∧ Rd wx wx.heap.size 3 A' E.length c' (ecs E) ∧ Below w1.heap.size w1 wx ∧ E.length ≤ 2 * i ∧ Hid (E = eventsP (L.take i) p q)) (fun _ vi _ => L.length - (intOf vi).toNat)
  case atStart => exact ⟨0, none, 0, [], rfl, Nat.zero_le _, rfl, Rd.none_ _ _ _, Below.refl _ _, Nat.le_refl _, Lib.hid rfl⟩
  case round =>
    obtain ⟨i, A', c', E, rfl, hi, rfl, hR, hbx, hle, hE⟩ := hrel
    have q0 : wr.cell? ⟨w.heap.size, 0, none⟩ = some (.slice A L.length c) := (hbx.cell hlt1).trans z0
    by_cases hil : i < L.length
    · have di : (i : Int) < (L.length : Int) := by omega
      obtain ⟨x, hx⟩ : ∃ x, L[i]? = some x := ⟨_, List.getElem?_eq_getElem hil⟩
      obtain ⟨b, o, rfl, hlb, g0, g1, g2⟩ := rd_span (h1.below hbx) hx
      have hsn := eventsP_snoc p q hx
      rw [← hE.out] at hsn
      obtain ⟨s, a, t⟩ := x
      dsimp only at g0 g1 g2 hsn
      have hb9 := hbx.alloc hbx.size (.cells #[.string s, .int .i64 a, .int .i64 t] 67)
      have hR9 := hR.up (bnew wr (.cells #[.string s, .int .i64 a, .int .i64 t] 67))
      have x0 : (wr.alloc (.cells #[.string s, .int .i64 a, .int .i64 t] 67)).cell? ⟨wr.heap.size, 0, none⟩ = some (.string s) := by rw [cell_of_row _ _ _ _ _ _ (heap_alloc_new wr _)]; rfl
      have x1 : (wr.alloc (.cells #[.string s, .int .i64 a, .int .i64 t] 67)).cell? ⟨wr.heap.size, 1, none⟩ = some (.int .i64 a) := by rw [cell_of_row _ _ _ _ _ _ (heap_alloc_new wr _)]; rfl
      have x2 : (wr.alloc (.cells #[.string s, .int .i64 a, .int .i64 t] 67)).cell? ⟨wr.heap.size, 2, none⟩ = some (.int .i64 t) := by rw [cell_of_row _ _ _ _ _ _ (heap_alloc_new wr _)]; rfl
      have hlt9 : wr.heap.size < (wr.alloc (.cells #[.string s, .int .i64 a, .int .i64 t] 67)).heap.size := by simp
      go_upto_region 6 with (fail)
      obtain ⟨W2, hW2⟩ : ∃ W2, wr.alloc (.cells #[.string s, .int .i64 a, .int .i64 t] 67) = W2 := ⟨_, rfl⟩
      rw [hW2] at hb9 hR9 x0 x1 x2 hlt9 ⊢
      clear hW2 hE hx g0 g1 g2 q0 hR
      unfold evsOf at hsn
      dsimp only at hsn
      by_cases k1 : p < a
      · by_cases k2 : a ≤ q
        · go_upto_region 8 with (go_at_call 36; refine (kput _ _ _ _ (a, s, true) hR9 (by omega)).mono ?_; rintro e8 w3 ⟨A3, c3, rfl, hR3, hb3⟩)
          have y0 := (hb3.cell hlt9).trans x0
          have y1 := (hb3.cell hlt9).trans x1
          have y2 := (hb3.cell hlt9).trans x2
          have hb93 := bthen hb9 hb9.size hb3
          clear x0 x1 x2 hR9
          by_cases k3 : 0 < t
          · by_cases k4 : p < t
            · by_cases k5 : t ≤ q
              · rw [if_pos (show p < a ∧ a ≤ q from ⟨k1, k2⟩), if_pos (show 0 < t ∧ p < t ∧ t ≤ q from ⟨k3, k4, k5⟩)] at hsn
                replace hsn := Lib.hid hsn
                go_wp2_with (go_at_call 36; refine (kput _ _ _ _ (t, s, false) hR3 (by rw [putE_len]; omega)).mono ?_; rintro e9 w4 ⟨A4, c4v, rfl, hR4, hb4⟩)
                exact ⟨⟨i + 1, A4, c4v, putE (putE E (a, s, true)) (t, s, false), by go_num, by omega, rfl, hR4, bthen hb93 hb93.size hb4, by simp only [putE_len]; omega, Lib.hid hsn.out.symm⟩, by simp [intOf]; omega⟩
              · rw [if_pos (show p < a ∧ a ≤ q from ⟨k1, k2⟩), if_neg (show ¬ (0 < t ∧ p < t ∧ t ≤ q) by omega)] at hsn
                replace hsn := Lib.hid hsn
                go_wp2_with fail
                exact ⟨⟨i + 1, A3, c3, (putE E (a, s, true)), by go_num, by omega, rfl, hR3, hb93, by rw [putE_len]; omega, Lib.hid hsn.out.symm⟩, by simp [intOf]; omega⟩
            · rw [if_pos (show p < a ∧ a ≤ q from ⟨k1, k2⟩), if_neg (show ¬ (0 < t ∧ p < t ∧ t ≤ q) by omega)] at hsn
              replace hsn := Lib.hid hsn
              go_wp2_with fail
              exact ⟨⟨i + 1, A3, c3, (putE E (a, s, true)), by go_num, by omega, rfl, hR3, hb93, by rw [putE_len]; omega, Lib.hid hsn.out.symm⟩, by simp [intOf]; omega⟩
          · rw [if_pos (show p < a ∧ a ≤ q from ⟨k1, k2⟩), if_neg (show ¬ (0 < t ∧ p < t ∧ t ≤ q) by omega)] at hsn
            replace hsn := Lib.hid hsn
            go_wp2_with fail
            exact ⟨⟨i + 1, A3, c3, (putE E (a, s, true)), by go_num, by omega, rfl, hR3, hb93, by rw [putE_len]; omega, Lib.hid hsn.out.symm⟩, by simp [intOf]; omega⟩
        · go_upto_region 8 with (fail)
          by_cases k3 : 0 < t
          · by_cases k4 : p < t
            · by_cases k5 : t ≤ q
              · rw [if_neg (show ¬ (p < a ∧ a ≤ q) by omega), if_pos (show 0 < t ∧ p < t ∧ t ≤ q from ⟨k3, k4, k5⟩)] at hsn
                replace hsn := Lib.hid hsn
                go_wp2_with (go_at_call 36; refine (kput _ _ _ _ (t, s, false) hR9 (by omega)).mono ?_; rintro e9 w4 ⟨A4, c4v, rfl, hR4, hb4⟩)
                exact ⟨⟨i + 1, A4, c4v, putE E (t, s, false), by go_num, by omega, rfl, hR4, bthen hb9 hb9.size hb4, by simp only [putE_len]; omega, Lib.hid hsn.out.symm⟩, by simp [intOf]; omega⟩
              · rw [if_neg (show ¬ (p < a ∧ a ≤ q) by omega), if_neg (show ¬ (0 < t ∧ p < t ∧ t ≤ q) by omega)] at hsn
                replace hsn := Lib.hid hsn
                go_wp2_with fail
                exact ⟨⟨i + 1, A', c', E, by go_num, by omega, rfl, hR9, hb9, by omega, Lib.hid hsn.out.symm⟩, by simp [intOf]; omega⟩
            · rw [if_neg (show ¬ (p < a ∧ a ≤ q) by omega), if_neg (show ¬ (0 < t ∧ p < t ∧ t ≤ q) by omega)] at hsn
              replace hsn := Lib.hid hsn
              go_wp2_with fail
              exact ⟨⟨i + 1, A', c', E, by go_num, by omega, rfl, hR9, hb9, by omega, Lib.hid hsn.out.symm⟩, by simp [intOf]; omega⟩
          · rw [if_neg (show ¬ (p < a ∧ a ≤ q) by omega), if_neg (show ¬ (0 < t ∧ p < t ∧ t ≤ q) by omega)] at hsn
            replace hsn := Lib.hid hsn
            go_wp2_with fail
            exact ⟨⟨i + 1, A', c', E, by go_num, by omega, rfl, hR9, hb9, by omega, Lib.hid hsn.out.symm⟩, by simp [intOf]; omega⟩
      · go_upto_region 8 with (fail)
        by_cases k3 : 0 < t
        · by_cases k4 : p < t
          · by_cases k5 : t ≤ q
            · rw [if_neg (show ¬ (p < a ∧ a ≤ q) by omega), if_pos (show 0 < t ∧ p < t ∧ t ≤ q from ⟨k3, k4, k5⟩)] at hsn
              replace hsn := Lib.hid hsn
              go_wp2_with (go_at_call 36; refine (kput _ _ _ _ (t, s, false) hR9 (by omega)).mono ?_; rintro e9 w4 ⟨A4, c4v, rfl, hR4, hb4⟩)
              exact ⟨⟨i + 1, A4, c4v, putE E (t, s, false), by go_num, by omega, rfl, hR4, bthen hb9 hb9.size hb4, by simp only [putE_len]; omega, Lib.hid hsn.out.symm⟩, by simp [intOf]; omega⟩
            · rw [if_neg (show ¬ (p < a ∧ a ≤ q) by omega), if_neg (show ¬ (0 < t ∧ p < t ∧ t ≤ q) by omega)] at hsn
              replace hsn := Lib.hid hsn
              go_wp2_with fail
              exact ⟨⟨i + 1, A', c', E, by go_num, by omega, rfl, hR9, hb9, by omega, Lib.hid hsn.out.symm⟩, by simp [intOf]; omega⟩
          · rw [if_neg (show ¬ (p < a ∧ a ≤ q) by omega), if_neg (show ¬ (0 < t ∧ p < t ∧ t ≤ q) by omega)] at hsn
            replace hsn := Lib.hid hsn
            go_wp2_with fail
            exact ⟨⟨i + 1, A', c', E, by go_num, by omega, rfl, hR9, hb9, by omega, Lib.hid hsn.out.symm⟩, by simp [intOf]; omega⟩
        · rw [if_neg (show ¬ (p < a ∧ a ≤ q) by omega), if_neg (show ¬ (0 < t ∧ p < t ∧ t ≤ q) by omega)] at hsn
          replace hsn := Lib.hid hsn
          go_wp2_with fail
          exact ⟨⟨i + 1, A', c', E, by go_num, by omega, rfl, hR9, hb9, by omega, Lib.hid hsn.out.symm⟩, by simp [intOf]; omega⟩
    · obtain rfl : i = L.length := by omega
      have di : ¬ (((L.length : Nat) : Int) < (L.length : Int)) := by omega
      have hN2 := hE.out
      rw [List.take_length] at hN2
      subst hN2
      clear hE
      go_wp2_with fail
      go_ret
      exact ⟨A', c', rfl, hR, bthen hb1 hb1.size hbx⟩
end Go.Proofs.Ytmdhollegemlhaa
