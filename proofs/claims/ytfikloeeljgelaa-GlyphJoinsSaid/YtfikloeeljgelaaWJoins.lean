/- GlyphJoins walked: it answers true. -/
import Derived.Test.YtfikloeeljgelaaAwake
import Derived.Test.YtfikloeeljgelaaJoin
import Derived.Test.YtfikloeeljgelaaFrame
namespace Go.Proofs.Ytfikloeeljgelaa
open Go.RowKit

set_option maxRecDepth 100000 in
set_option maxHeartbeats 4000000 in
theorem glyphJoins_walk (s0 : ByteArray) (s1 : ByteArray) (x2 : Int) (w : World) (f0 : s0.size ≤ maxLen) (f1 : s1.size ≤ maxLen) (f2 : (Lit.int .u8 x2).wf = true) :
    Calls Try.prog 4 #[.string s0, .string s1, .int .u8 x2] w fun e w' => e = .returned (.bool true) ∧ Below w.heap.size w w' := by
  unfold maxLen at f0 f1
  obtain ⟨h21, h22⟩ := wf_u8 f2
  clear f2
  have Hb := Lib.hid (Below.refl w.heap.size w)
  have hB : w.heap.size ≤ w.heap.size := Nat.le_refl _
  by_cases h400 : 200 < s0.size ∨ 200 < s1.size
  · by_cases h0 : 200 < s0.size
    · clear h400
      go_enter Try.func4, Try.ntmps4
      go_wp2_with ((with_reducible refine (awake_any _).mono ?_); rintro e w1 ⟨rfl, hb⟩; obtain ⟨Hb, hB⟩ := chain Hb hB hb; clear hb)
      go_ret
      exact ⟨rfl, Hb.out⟩
    · have h1 : 200 < s1.size := by omega
      clear h400
      go_enter Try.func4, Try.ntmps4
      go_wp2_with ((with_reducible refine (awake_any _).mono ?_); rintro e w1 ⟨rfl, hb⟩; obtain ⟨Hb, hB⟩ := chain Hb hB hb; clear hb)
      go_ret
      exact ⟨rfl, Hb.out⟩
  · have hs0 : s0.size ≤ 200 := by omega
    have hs1 : s1.size ≤ 200 := by omega
    clear h400
    obtain ⟨T, hTe⟩ : ∃ T, T = s0 ++ s1 := ⟨_, rfl⟩
    have hV : s0.size ≤ 1000000 := by omega
    have hV1 : s1.size ≤ 1000000 := by omega
    have hT : T.size ≤ 1000000 := by rw [hTe, size_app]; omega
    have hA : (cutA T x2.toNat).size ≤ 1000000 := by rw [cutA_size]; have := plc_le T x2.toNat; omega
    have hC : (cutB T x2.toNat).size ≤ 1000000 := by have := cutB_size T x2.toNat; omega
    have e1 := cut_join T x2.toNat
    have nA := cnt_cutA T x2.toNat
    have nB := cnt_cutB T x2.toNat
    have nle := cnt_le T
    have nT : T.size ≤ 1000 := by rw [hTe, size_app]; omega
    have n0 := cnt_le s0
    have n1 := cnt_le s1
    have HV := Lib.hid (valid_app (a := s0) (b := s1))
    have HN := Lib.hid (cnt_app (a := s0) (b := s1))
    have HP := Lib.hid (app_cutA (a := s0) (b := s1))
    have HQ := Lib.hid (app_cutB (a := s0) (b := s1))
    rw [← hTe] at HV HN HP HQ
    have kC : ∀ W, _ := fun W => cut_any T x2 W hT (by omega) (by omega)
    have kT : ∀ W, _ := fun W => count_any T W hT
    have kA : ∀ W, _ := fun W => count_any (cutA T x2.toNat) W hA
    have kB : ∀ W, _ := fun W => count_any (cutB T x2.toNat) W hC
    have kV0 : ∀ W, _ := fun W => valid_any s0 W hV
    have kVT : ∀ W, _ := fun W => valid_any T W hT
    have kV1 : ∀ W, _ := fun W => valid_any s1 W hV1
    have k0 : ∀ W, _ := fun W => count_any s0 W hV
    have k1 : ∀ W, _ := fun W => count_any s1 W hV1
    have hAs : (cutA T x2.toNat).size ≤ 1000 := by rw [cutA_size]; have := plc_le T x2.toNat; omega
    have hBs : (cutB T x2.toNat).size ≤ 1000 := by have := cutB_size T x2.toNat; omega
    generalize cutA T x2.toNat = xA at *
    generalize cutB T x2.toNat = yB at *
    have kD : ∀ W, _ := fun W => cut_any T (cnt s0 : Int) W hT (by omega) (by omega)
    rw [show ((cnt s0 : Nat) : Int).toNat = cnt s0 from rfl] at kD
    obtain ⟨cT, hcT⟩ : ∃ c : Int, c = cnt T := ⟨_, rfl⟩
    obtain ⟨cA, hcA⟩ : ∃ c : Int, c = cnt xA := ⟨_, rfl⟩
    obtain ⟨cB, hcB⟩ : ∃ c : Int, c = cnt yB := ⟨_, rfl⟩
    obtain ⟨c0, hc0⟩ : ∃ c : Int, c = cnt s0 := ⟨_, rfl⟩
    obtain ⟨c1, hc1⟩ : ∃ c : Int, c = cnt s1 := ⟨_, rfl⟩
    rw [← hcT] at kT
    rw [← hcA] at kA
    rw [← hcB] at kB
    rw [← hc0] at k0 kD
    rw [← hc1] at k1
    have bT1 : 0 ≤ cT := by omega
    have bT2 : cT ≤ 1000 := by omega
    have b01 : 0 ≤ c0 := by omega
    have b02 : c0 ≤ 1000 := by omega
    have b11 : 0 ≤ c1 := by omega
    have b12 : c1 ≤ 1000 := by omega
    have hkA : cA = min x2 cT := by omega
    have hkB : cB = cT - cA := by omega
    have bA1 : 0 ≤ cA := by omega
    have bA2 : cA ≤ 1000 := by omega
    have bB1 : 0 ≤ cB := by omega
    have bB2 : cB ≤ 1000 := by omega
    have hd1 : (cA != min x2 cT) = false := by simp [hkA]
    have hd2 : (cA + cB != cT) = false := by simp; omega
    have hN : validS s0 = true → cT = c0 + c1 := fun hv => by have := HN.out hv; omega
    have HN := Lib.hid hN
    have hTe' := hTe.symm
    have HkA := Lib.hid hkA
    clear nA nB nle nT hcA hcB hkB hcT hTe hN hc0 hc1 n0 n1 hV hV1 hT hA hC hkA
    by_cases hv : validS s0 = true
    · have hp := HP.out hv
      have hq := HQ.out hv
      have hs := HN.out hv
      have hx := HV.out hv
      rw [hp, hq] at kD
      rw [hx] at kVT
      have hd3 : (cT == c0 + c1) = true := by simp [hs]
      clear hp hq hs hx HP HQ HV HN
      by_cases hm : x2 ≤ cT
      · have hcx : cA = x2 := by have := HkA.out; omega
        subst hcx
        clear HkA hd1
        go_enter Try.func4, Try.ntmps4
        go_wp2_with (first
          | ((with_reducible refine (awake_any _).mono ?_); rintro e w1 ⟨rfl, hb⟩; obtain ⟨Hb, hB⟩ := chain Hb hB hb; clear hb)
          | ((with_reducible refine (kC _).mono ?_); rintro e w2 ⟨rfl, hb⟩; obtain ⟨Hb, hB⟩ := chain Hb hB hb; clear hb)
          | ((with_reducible refine (kT _).mono ?_); rintro e w3 ⟨rfl, hb⟩; obtain ⟨Hb, hB⟩ := chain Hb hB hb; clear hb)
          | ((with_reducible refine (kA _).mono ?_); rintro e w4 ⟨rfl, hb⟩; obtain ⟨Hb, hB⟩ := chain Hb hB hb; clear hb)
          | ((with_reducible refine (kB _).mono ?_); rintro e w5 ⟨rfl, hb⟩; obtain ⟨Hb, hB⟩ := chain Hb hB hb; clear hb)
          | ((with_reducible refine (kV0 _).mono ?_); rintro e w6 ⟨rfl, hb⟩; obtain ⟨Hb, hB⟩ := chain Hb hB hb; clear hb)
          | ((with_reducible refine (k0 _).mono ?_); rintro e w7 ⟨rfl, hb⟩; obtain ⟨Hb, hB⟩ := chain Hb hB hb; clear hb)
          | ((with_reducible refine (k1 _).mono ?_); rintro e w8 ⟨rfl, hb⟩; obtain ⟨Hb, hB⟩ := chain Hb hB hb; clear hb)
          | ((with_reducible refine (kD _).mono ?_); rintro e w9 ⟨rfl, hb⟩; obtain ⟨Hb, hB⟩ := chain Hb hB hb; clear hb)
          | ((with_reducible refine (kVT _).mono ?_); rintro e w10 ⟨rfl, hb⟩; obtain ⟨Hb, hB⟩ := chain Hb hB hb; clear hb)
          | ((with_reducible refine (kV1 _).mono ?_); rintro e w11 ⟨rfl, hb⟩; obtain ⟨Hb, hB⟩ := chain Hb hB hb; clear hb))
        go_ret
        exact ⟨rfl, Hb.out⟩
      · have hcx : cA = cT := by have := HkA.out; omega
        subst hcx
        have hm2 : cA < x2 := by omega
        clear HkA hd1 hm
        go_enter Try.func4, Try.ntmps4
        go_wp2_with (first
          | ((with_reducible refine (awake_any _).mono ?_); rintro e w1 ⟨rfl, hb⟩; obtain ⟨Hb, hB⟩ := chain Hb hB hb; clear hb)
          | ((with_reducible refine (kC _).mono ?_); rintro e w2 ⟨rfl, hb⟩; obtain ⟨Hb, hB⟩ := chain Hb hB hb; clear hb)
          | ((with_reducible refine (kT _).mono ?_); rintro e w3 ⟨rfl, hb⟩; obtain ⟨Hb, hB⟩ := chain Hb hB hb; clear hb)
          | ((with_reducible refine (kA _).mono ?_); rintro e w4 ⟨rfl, hb⟩; obtain ⟨Hb, hB⟩ := chain Hb hB hb; clear hb)
          | ((with_reducible refine (kB _).mono ?_); rintro e w5 ⟨rfl, hb⟩; obtain ⟨Hb, hB⟩ := chain Hb hB hb; clear hb)
          | ((with_reducible refine (kV0 _).mono ?_); rintro e w6 ⟨rfl, hb⟩; obtain ⟨Hb, hB⟩ := chain Hb hB hb; clear hb)
          | ((with_reducible refine (k0 _).mono ?_); rintro e w7 ⟨rfl, hb⟩; obtain ⟨Hb, hB⟩ := chain Hb hB hb; clear hb)
          | ((with_reducible refine (k1 _).mono ?_); rintro e w8 ⟨rfl, hb⟩; obtain ⟨Hb, hB⟩ := chain Hb hB hb; clear hb)
          | ((with_reducible refine (kD _).mono ?_); rintro e w9 ⟨rfl, hb⟩; obtain ⟨Hb, hB⟩ := chain Hb hB hb; clear hb)
          | ((with_reducible refine (kVT _).mono ?_); rintro e w10 ⟨rfl, hb⟩; obtain ⟨Hb, hB⟩ := chain Hb hB hb; clear hb)
          | ((with_reducible refine (kV1 _).mono ?_); rintro e w11 ⟨rfl, hb⟩; obtain ⟨Hb, hB⟩ := chain Hb hB hb; clear hb))
        go_ret
        exact ⟨rfl, Hb.out⟩
    · rw [Bool.not_eq_true] at hv
      clear HP HQ HV HN
      by_cases hm : x2 ≤ cT
      · have hcx : cA = x2 := by have := HkA.out; omega
        subst hcx
        clear HkA hd1
        go_enter Try.func4, Try.ntmps4
        go_wp2_with (first
          | ((with_reducible refine (awake_any _).mono ?_); rintro e w1 ⟨rfl, hb⟩; obtain ⟨Hb, hB⟩ := chain Hb hB hb; clear hb)
          | ((with_reducible refine (kC _).mono ?_); rintro e w2 ⟨rfl, hb⟩; obtain ⟨Hb, hB⟩ := chain Hb hB hb; clear hb)
          | ((with_reducible refine (kT _).mono ?_); rintro e w3 ⟨rfl, hb⟩; obtain ⟨Hb, hB⟩ := chain Hb hB hb; clear hb)
          | ((with_reducible refine (kA _).mono ?_); rintro e w4 ⟨rfl, hb⟩; obtain ⟨Hb, hB⟩ := chain Hb hB hb; clear hb)
          | ((with_reducible refine (kB _).mono ?_); rintro e w5 ⟨rfl, hb⟩; obtain ⟨Hb, hB⟩ := chain Hb hB hb; clear hb)
          | ((with_reducible refine (kV0 _).mono ?_); rintro e w6 ⟨rfl, hb⟩; obtain ⟨Hb, hB⟩ := chain Hb hB hb; clear hb))
        go_ret
        exact ⟨rfl, Hb.out⟩
      · have hcx : cA = cT := by have := HkA.out; omega
        subst hcx
        have hm2 : cA < x2 := by omega
        clear HkA hd1 hm
        go_enter Try.func4, Try.ntmps4
        go_wp2_with (first
          | ((with_reducible refine (awake_any _).mono ?_); rintro e w1 ⟨rfl, hb⟩; obtain ⟨Hb, hB⟩ := chain Hb hB hb; clear hb)
          | ((with_reducible refine (kC _).mono ?_); rintro e w2 ⟨rfl, hb⟩; obtain ⟨Hb, hB⟩ := chain Hb hB hb; clear hb)
          | ((with_reducible refine (kT _).mono ?_); rintro e w3 ⟨rfl, hb⟩; obtain ⟨Hb, hB⟩ := chain Hb hB hb; clear hb)
          | ((with_reducible refine (kA _).mono ?_); rintro e w4 ⟨rfl, hb⟩; obtain ⟨Hb, hB⟩ := chain Hb hB hb; clear hb)
          | ((with_reducible refine (kB _).mono ?_); rintro e w5 ⟨rfl, hb⟩; obtain ⟨Hb, hB⟩ := chain Hb hB hb; clear hb)
          | ((with_reducible refine (kV0 _).mono ?_); rintro e w6 ⟨rfl, hb⟩; obtain ⟨Hb, hB⟩ := chain Hb hB hb; clear hb))
        go_ret
        exact ⟨rfl, Hb.out⟩
end Go.Proofs.Ytfikloeeljgelaa
