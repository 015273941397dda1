/- GlyphOrder walked: it answers true. -/
import Derived.Test.YtfikloeeljgelaaAwake
import Derived.Test.YtfikloeeljgelaaOrder
import Derived.Test.YtfikloeeljgelaaWorth
import Derived.Test.YtfikloeeljgelaaFrame
namespace Go.Proofs.Ytfikloeeljgelaa
open Go.RowKit

theorem drewN_belowO (w : World) (q : Nat) : Below w.heap.size w (w.drewN q) := ⟨rfl, rfl, rfl, Nat.le_refl _, fun _ _ => rfl⟩
set_option maxRecDepth 100000 in
set_option maxHeartbeats 4000000 in
theorem glyphOrder_walk (s0 : ByteArray) (s1 : ByteArray) (w : World) (f0 : s0.size ≤ maxLen) (f1 : s1.size ≤ maxLen) :
    Calls Try.prog 5 #[.string s0, .string s1] w fun e w' => e = .returned (.bool true) ∧ Below w.heap.size w w' := by
  unfold maxLen at f0 f1
  have Hb := Lib.hid (Below.refl w.heap.size w)
  have hB : w.heap.size ≤ w.heap.size := Nat.le_refl _
  by_cases h0 : 100 < s0.size
  · go_enter Try.func5, Try.ntmps5
    go_wp2_with (first
      | ((with_reducible refine (awake_any _).mono ?_); rintro e w1 ⟨rfl, hb⟩; obtain ⟨Hb, hB⟩ := chain Hb hB hb; clear hb))
    go_ret
    exact ⟨rfl, Hb.out⟩
  by_cases h1 : 100 < s1.size
  · go_enter Try.func5, Try.ntmps5
    go_wp2_with (first
      | ((with_reducible refine (awake_any _).mono ?_); rintro e w1 ⟨rfl, hb⟩; obtain ⟨Hb, hB⟩ := chain Hb hB hb; clear hb))
    go_ret
    exact ⟨rfl, Hb.out⟩
  have hs0 : s0.size ≤ 100 := by omega
  have hs1 : s1.size ≤ 100 := by omega
  clear h0 h1
  have kV0 : ∀ W, _ := fun W => valid_any s0 W (by omega)
  have kV1 : ∀ W, _ := fun W => valid_any s1 W (by omega)
  by_cases hv0 : validS s0 = true
  case neg =>
    rw [Bool.not_eq_true] at hv0
    go_enter Try.func5, Try.ntmps5
    go_wp2_with (first
      | ((with_reducible refine (awake_any _).mono ?_); rintro e w1 ⟨rfl, hb⟩; obtain ⟨Hb, hB⟩ := chain Hb hB hb; clear hb)
      | ((with_reducible refine (kV0 _).mono ?_); rintro e w2 ⟨rfl, hb⟩; obtain ⟨Hb, hB⟩ := chain Hb hB hb; clear hb))
    go_ret
    exact ⟨rfl, Hb.out⟩
  by_cases hv1 : validS s1 = true
  case neg =>
    rw [Bool.not_eq_true] at hv1
    go_enter Try.func5, Try.ntmps5
    go_wp2_with (first
      | ((with_reducible refine (awake_any _).mono ?_); rintro e w1 ⟨rfl, hb⟩; obtain ⟨Hb, hB⟩ := chain Hb hB hb; clear hb)
      | ((with_reducible refine (kV0 _).mono ?_); rintro e w2 ⟨rfl, hb⟩; obtain ⟨Hb, hB⟩ := chain Hb hB hb; clear hb)
      | ((with_reducible refine (kV1 _).mono ?_); rintro e w3 ⟨rfl, hb⟩; obtain ⟨Hb, hB⟩ := chain Hb hB hb; clear hb))
    go_ret
    exact ⟨rfl, Hb.out⟩
  have kN : ∀ W, _ := fun W => count_any s0 W (by omega)
  have kW0 : ∀ W, _ := fun W => worth_any s0 W (by omega) hv0
  have kW1 : ∀ W, _ := fun W => worth_any s1 W (by omega) hv1
  have n0 := cnt_le s0
  have n1 := cnt_le s1
  have HA := Lib.hid (fun i => order_at (a := s0) (b := s1) hv0 hv1 (i := i))
  have HE := Lib.hid (fun i => order_end (a := s0) (b := s1) hv0 hv1 (i := i))
  go_enter Try.func5, Try.ntmps5
  go_wp2_with (first
    | ((with_reducible refine (awake_any _).mono ?_); rintro e w1 ⟨rfl, hb⟩; obtain ⟨Hb, hB⟩ := chain Hb hB hb; clear hb)
    | ((with_reducible refine (kV0 _).mono ?_); rintro e w2 ⟨rfl, hb⟩; obtain ⟨Hb, hB⟩ := chain Hb hB hb; clear hb)
    | ((with_reducible refine (kV1 _).mono ?_); rintro e w3 ⟨rfl, hb⟩; obtain ⟨Hb, hB⟩ := chain Hb hB hb; clear hb))
  refine (kW0 _).mono ?_
  rintro e w4 ⟨v4, rfl, hown4, hb4⟩
  obtain ⟨A, ca, rfl, hra⟩ := Rd.own hown4
  obtain ⟨Hb, hB⟩ := chain Hb hB hb4
  have Hra := Lib.hid hra
  clear hown4 hra hb4
  go_wp2_with fail
  refine (kW1 _).mono ?_
  rintro e w5 ⟨v5, rfl, hown5, hb5⟩
  obtain ⟨C, cc, rfl, hrc⟩ := Rd.own hown5
  obtain ⟨Hb, hB⟩ := chain Hb hB hb5
  have Hrc := Lib.hid hrc
  have hra := (Hra.out.below hb5).more hb5.size
  have Hra := Lib.hid hra
  clear hown5 hrc hb5 hra
  go_wp2_with fail
  go_loopw [8, 9] (fun l i wr => ∃ k : Nat, k ≤ cnt s0 ∧ k ≤ cnt s1 ∧ i = .int .i64 k ∧ l = .bool (decide (cnt s0 < cnt s1)) ∧ (∀ j, j < k → rn s0 (plc s0 j) = rn s1 (plc s1 j)) ∧ Below w.heap.size w wr ∧ Rd wr wr.heap.size 1 A (cnt s0) ca (wv s0 (cnt s0)) ∧ Rd wr wr.heap.size 1 C (cnt s1) cc (wv s1 (cnt s1))) (fun _ i _ => cnt s0 - (intOf i).toNat)
  case atStart => exact ⟨0, Nat.zero_le _, Nat.zero_le _, rfl, rfl, (fun j hj => by omega), Hb.out, Hra.out, Hrc.out⟩
  case round =>
    obtain ⟨k, hk0, hk1, rfl, rfl, hall, hb, hra, hrc⟩ := hrel
    have Hall := Lib.hid hall
    have Hb := Lib.hid hb
    have hB := hb.size
    have Hra := Lib.hid hra
    have Hrc := Lib.hid hrc
    clear hall hb hra hrc
    by_cases hlt : k < cnt s0 ∧ k < cnt s1
    · obtain ⟨hl0, hl1⟩ := hlt
      obtain ⟨ba, oa, ua, rfl, _, hua, hca⟩ := Hra.out.get hl0
      obtain ⟨bc, oc, uc, rfl, _, huc, hcc⟩ := Hrc.out.get hl1
      rw [wv_get s0 hl0] at hua
      rw [wv_get s1 hl1] at huc
      obtain rfl := Option.some.inj hua
      obtain rfl := Option.some.inj huc
      clear hua huc
      obtain ⟨ra, hra⟩ : ∃ r, r = rn s0 (plc s0 k) := ⟨_, rfl⟩
      obtain ⟨rc, hrc⟩ : ∃ r, r = rn s1 (plc s1 k) := ⟨_, rfl⟩
      rw [← hra] at hca
      rw [← hrc] at hcc
      have HRA := Lib.hid hra
      have HRC := Lib.hid hrc
      clear hra hrc
      have hi : 0 ≤ (k : Int) ∧ (k : Int) < (cnt s0 : Int) := by omega
      have hi1 : 0 ≤ (k : Int) ∧ (k : Int) < (cnt s1 : Int) := by omega
      by_cases he : ra = rc
      · have hd : ((ra : Int) != (rc : Int)) = false := by simp [he]
        have He := Lib.hid he
        clear he
        go_wp2
        go_quiet (fail)
        go_wp2
        refine ⟨⟨k + 1, by omega, by omega, by go_num, rfl, fun j hj => ?_, Hb.out.trans ⟨rfl, rfl, rfl, Nat.le_refl _, fun _ _ => rfl⟩, Hra.out.keep fun _ _ => rfl, Hrc.out.keep fun _ _ => rfl⟩, by simp [intOf]; omega⟩
        by_cases e : j = k
        · subst e; rw [← HRA.out, ← HRC.out]; exact He.out
        · exact Hall.out j (by omega)
      · have hd : ((ra : Int) != (rc : Int)) = true := by simp; omega
        have hless := HA.out k hl0 hl1 Hall.out (by rw [← HRA.out, ← HRC.out]; exact he)
        rw [← HRA.out, ← HRC.out] at hless
        have He := Lib.hid he
        clear he
        unfold less at hless
        by_cases hx : ra < rc
        · rw [decide_eq_true hx] at hless
          have hx2 : (ra : Int) < (rc : Int) := by omega
          go_wp2
          go_quiet (fail)
          go_wp2
          go_quiet (fail)
          go_wp2_with fail
          refine (kN _).mono ?_
          rintro e w6 ⟨rfl, hb⟩
          have hb' : Below wr.heap.size wr w6 := (drewN_belowO wr _).trans hb
          obtain ⟨Hb, hB⟩ := chain Hb hB hb'
          clear hb hb'
          go_wp2
          go_ret
          exact ⟨rfl, Hb.out⟩
        · rw [decide_eq_false hx] at hless
          have hx2 : ¬ (ra : Int) < (rc : Int) := by omega
          go_wp2
          go_quiet (fail)
          go_wp2
          go_quiet (fail)
          go_wp2_with fail
          refine (kN _).mono ?_
          rintro e w6 ⟨rfl, hb⟩
          have hb' : Below wr.heap.size wr w6 := (drewN_belowO wr _).trans hb
          obtain ⟨Hb, hB⟩ := chain Hb hB hb'
          clear hb hb'
          go_wp2
          go_ret
          exact ⟨rfl, Hb.out⟩
    · have hless := HE.out k hk0 hk1 hlt Hall.out
      unfold less at hless
      by_cases hl0 : k < cnt s0
      · have hl1 : ¬ k < cnt s1 := fun h => hlt ⟨hl0, h⟩
        have hx : ¬ cnt s0 < cnt s1 := by omega
        rw [decide_eq_false hx] at hless
        clear hlt
        go_wp2_with ((with_reducible refine (kN _).mono ?_); rintro e w6 ⟨rfl, hb⟩; obtain ⟨Hb, hB⟩ := chain Hb hB hb; clear hb)
        go_ret
        exact ⟨rfl, Hb.out⟩
      · by_cases hx : cnt s0 < cnt s1
        · rw [decide_eq_true hx] at hless
          clear hlt
          go_wp2_with ((with_reducible refine (kN _).mono ?_); rintro e w6 ⟨rfl, hb⟩; obtain ⟨Hb, hB⟩ := chain Hb hB hb; clear hb)
          go_ret
          exact ⟨rfl, Hb.out⟩
        · rw [decide_eq_false hx] at hless
          clear hlt
          go_wp2_with ((with_reducible refine (kN _).mono ?_); rintro e w6 ⟨rfl, hb⟩; obtain ⟨Hb, hB⟩ := chain Hb hB hb; clear hb)
          go_ret
          exact ⟨rfl, Hb.out⟩
end Go.Proofs.Ytfikloeeljgelaa
