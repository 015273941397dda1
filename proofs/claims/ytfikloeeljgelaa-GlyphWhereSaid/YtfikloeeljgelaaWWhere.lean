/- GlyphWhere walked: it answers true. -/
import Derived.Test.YtfikloeeljgelaaAwake
import Derived.Test.YtfikloeeljgelaaNext
import Derived.Test.YtfikloeeljgelaaFrame
namespace Go.Proofs.Ytfikloeeljgelaa
open Go.RowKit

theorem sNl_list : sNl.toList = [10] := by rw [ByteArray.toList_eq]; rfl
set_option maxRecDepth 100000 in
set_option maxHeartbeats 4000000 in
theorem glyphWhere_walk (s0 : ByteArray) (x1 : Int) (w : World) (f0 : s0.size ≤ maxLen) (f1 : (Lit.int .u8 x1).wf = true) :
    Calls Try.prog 7 #[.string s0, .int .u8 x1] w fun e w' => e = .returned (.bool true) ∧ Below w.heap.size w w' := by
  unfold maxLen at f0
  obtain ⟨h11, h12⟩ := wf_u8 f1
  clear f1
  have Hb := Lib.hid (Below.refl w.heap.size w)
  have hB : w.heap.size ≤ w.heap.size := Nat.le_refl _
  by_cases h200 : 200 < s0.size
  · go_enter Try.func7, Try.ntmps7
    go_wp2_with ((with_reducible refine (awake_any _).mono ?_); rintro e w1 ⟨rfl, hb⟩; obtain ⟨Hb, hB⟩ := chain Hb hB hb; clear hb)
    go_ret
    exact ⟨rfl, Hb.out⟩
  have hs : s0.size ≤ 200 := by omega
  clear h200
  obtain ⟨k, hk⟩ : ∃ k : Nat, x1 % ((s0.size : Int) + 1) = (k : Int) := ⟨(x1 % ((s0.size : Int) + 1)).toNat, by have := Int.emod_nonneg x1 (show ((s0.size : Int) + 1) ≠ 0 by omega); omega⟩
  have hks : k ≤ s0.size := by have := Int.emod_lt_of_pos x1 (show 0 < ((s0.size : Int) + 1) by omega); omega
  have hz := rest_size s0 k hks
  have hn : k < s0.size → validS (s0.extract k s0.size) = true → _ := fun a b => where_next (s := s0) (k := k) a b
  have hR : ∃ R, s0.extract k s0.size = R := ⟨_, rfl⟩
  obtain ⟨R, hR⟩ := hR
  rw [hR] at hz hn
  have hza := cutB_size R 1
  have hzb := cutA_size R 1
  have kC : ∀ W, _ := fun W => cut_any R 1 W (by omega) (by omega) (by omega)
  rw [show (1 : Int).toNat = 1 from rfl] at kC
  have hpos : 0 < R.size → 0 < (cutA R 1).size := fun h => by
    have h1 : plc R 0 < plc R 1 := plc_lt_succ (s := R) (k := 0) h
    omega
  have hae : (cutA R 1).size ≤ R.size := by rw [cutA_size]; exact plc_le R 1
  have hlen : (((cutA R 1).size : Int) + ((cutB R 1).size : Int) != (s0.size : Int) - (k : Int)) = false := by simp; omega
  generalize cutA R 1 = a at *
  generalize cutB R 1 = r at *
  have kW : ∀ W, _ := fun W => where_any s0 (k : Int) W (by omega)
  have kN : ∀ W, _ := fun W => where_any s0 ((k + a.size : Nat) : Int) W (by omega)
  have kG : ∀ W, _ := fun W => where_any s0 (-3) W (by omega)
  have kE : ∀ W, _ := fun W => where_any s0 ((s0.size : Int) + 9) W (by omega)
  have kS : ∀ W, _ := fun W => where_any s0 (s0.size : Int) W (by omega)
  have kV : ∀ W, _ := fun W => valid_any s0 W (by omega)
  have kR : ∀ W, _ := fun W => valid_any R W (by omega)
  rw [bef_neg s0 (by omega), show whrS s0 0 = (1, 1) from rfl] at kG
  rw [bef_cnt (by omega)] at kE kS
  have hq := whrS_le s0 (cnt s0)
  have hq2 := whrS_le s0 (bef s0 (k : Int))
  have hbl : bef s0 (k : Int) ≤ s0.size := bef_le s0 _
  have hcl := cnt_le s0
  have hla : a.size ≤ 200 := by omega
  have hlr : r.size ≤ 200 := by omega
  rw [show (((k + a.size : Nat) : Int)) = (k : Int) + (a.size : Int) from by omega] at kN hn
  generalize whrS s0 (bef s0 ((k : Int) + (a.size : Int))) = q1 at *
  generalize whrS s0 (bef s0 (k : Int)) = q0 at *
  generalize whrS s0 (cnt s0) = q2 at *
  obtain ⟨l, c⟩ := q0
  obtain ⟨n, f⟩ := q1
  obtain ⟨e1, e2⟩ := q2
  dsimp only at *
  have b1 : l ≤ 1000 := by omega
  have b2 : c ≤ 1000 := by omega
  have Hn := Lib.hid hn
  clear hn hq hq2 hbl hcl hza hzb
  by_cases hend : k < s0.size
  · have ha := hpos (by omega)
    have ha1 := list_ne ha
    have ha2 := list_ne2 ha
    clear hpos ha
    by_cases hv : validS s0 = true
    · by_cases hr : validS R = true
      · rcases Hn.out hend hr with ⟨e, e'⟩ | ⟨e, e'⟩
        · simp only [Prod.mk.injEq] at e'
          obtain ⟨rfl, rfl⟩ := e'
          have hne : (a.toList == [10]) = true := sNl_list ▸ toList_eq_true e
          clear Hn e
          go_enter Try.func7, Try.ntmps7
          go_wp2_with (first
            | ((with_reducible refine (awake_any _).mono ?_); rintro e w1 ⟨rfl, hb⟩; obtain ⟨Hb, hB⟩ := chain Hb hB hb; clear hb)
            | ((with_reducible refine (kW _).mono ?_); rintro e w2 ⟨rfl, hb⟩; obtain ⟨Hb, hB⟩ := chain Hb hB hb; clear hb)
            | ((with_reducible refine (kC _).mono ?_); rintro e w3 ⟨rfl, hb⟩; obtain ⟨Hb, hB⟩ := chain Hb hB hb; clear hb)
            | ((with_reducible refine (kN _).mono ?_); rintro e w4 ⟨rfl, hb⟩; obtain ⟨Hb, hB⟩ := chain Hb hB hb; clear hb)
            | ((with_reducible refine (kG _).mono ?_); rintro e w5 ⟨rfl, hb⟩; obtain ⟨Hb, hB⟩ := chain Hb hB hb; clear hb)
            | ((with_reducible refine (kE _).mono ?_); rintro e w6 ⟨rfl, hb⟩; obtain ⟨Hb, hB⟩ := chain Hb hB hb; clear hb)
            | ((with_reducible refine (kS _).mono ?_); rintro e w7 ⟨rfl, hb⟩; obtain ⟨Hb, hB⟩ := chain Hb hB hb; clear hb)
            | ((with_reducible refine (kV _).mono ?_); rintro e w8 ⟨rfl, hb⟩; obtain ⟨Hb, hB⟩ := chain Hb hB hb; clear hb)
            | ((with_reducible refine (kR _).mono ?_); rintro e w9 ⟨rfl, hb⟩; obtain ⟨Hb, hB⟩ := chain Hb hB hb; clear hb))
          go_ret
          exact ⟨rfl, Hb.out⟩
        · simp only [Prod.mk.injEq] at e'
          obtain ⟨rfl, rfl⟩ := e'
          have hne : (a.toList == [10]) = false := sNl_list ▸ toList_ne e
          clear Hn e
          go_enter Try.func7, Try.ntmps7
          go_wp2_with (first
            | ((with_reducible refine (awake_any _).mono ?_); rintro e w1 ⟨rfl, hb⟩; obtain ⟨Hb, hB⟩ := chain Hb hB hb; clear hb)
            | ((with_reducible refine (kW _).mono ?_); rintro e w2 ⟨rfl, hb⟩; obtain ⟨Hb, hB⟩ := chain Hb hB hb; clear hb)
            | ((with_reducible refine (kC _).mono ?_); rintro e w3 ⟨rfl, hb⟩; obtain ⟨Hb, hB⟩ := chain Hb hB hb; clear hb)
            | ((with_reducible refine (kN _).mono ?_); rintro e w4 ⟨rfl, hb⟩; obtain ⟨Hb, hB⟩ := chain Hb hB hb; clear hb)
            | ((with_reducible refine (kG _).mono ?_); rintro e w5 ⟨rfl, hb⟩; obtain ⟨Hb, hB⟩ := chain Hb hB hb; clear hb)
            | ((with_reducible refine (kE _).mono ?_); rintro e w6 ⟨rfl, hb⟩; obtain ⟨Hb, hB⟩ := chain Hb hB hb; clear hb)
            | ((with_reducible refine (kS _).mono ?_); rintro e w7 ⟨rfl, hb⟩; obtain ⟨Hb, hB⟩ := chain Hb hB hb; clear hb)
            | ((with_reducible refine (kV _).mono ?_); rintro e w8 ⟨rfl, hb⟩; obtain ⟨Hb, hB⟩ := chain Hb hB hb; clear hb)
            | ((with_reducible refine (kR _).mono ?_); rintro e w9 ⟨rfl, hb⟩; obtain ⟨Hb, hB⟩ := chain Hb hB hb; clear hb))
          go_ret
          exact ⟨rfl, Hb.out⟩
      · rw [Bool.not_eq_true] at hr
        clear Hn
        go_enter Try.func7, Try.ntmps7
        go_wp2_with (first
          | ((with_reducible refine (awake_any _).mono ?_); rintro e w1 ⟨rfl, hb⟩; obtain ⟨Hb, hB⟩ := chain Hb hB hb; clear hb)
          | ((with_reducible refine (kW _).mono ?_); rintro e w2 ⟨rfl, hb⟩; obtain ⟨Hb, hB⟩ := chain Hb hB hb; clear hb)
          | ((with_reducible refine (kC _).mono ?_); rintro e w3 ⟨rfl, hb⟩; obtain ⟨Hb, hB⟩ := chain Hb hB hb; clear hb)
          | ((with_reducible refine (kN _).mono ?_); rintro e w4 ⟨rfl, hb⟩; obtain ⟨Hb, hB⟩ := chain Hb hB hb; clear hb)
          | ((with_reducible refine (kG _).mono ?_); rintro e w5 ⟨rfl, hb⟩; obtain ⟨Hb, hB⟩ := chain Hb hB hb; clear hb)
          | ((with_reducible refine (kE _).mono ?_); rintro e w6 ⟨rfl, hb⟩; obtain ⟨Hb, hB⟩ := chain Hb hB hb; clear hb)
          | ((with_reducible refine (kS _).mono ?_); rintro e w7 ⟨rfl, hb⟩; obtain ⟨Hb, hB⟩ := chain Hb hB hb; clear hb)
          | ((with_reducible refine (kV _).mono ?_); rintro e w8 ⟨rfl, hb⟩; obtain ⟨Hb, hB⟩ := chain Hb hB hb; clear hb)
          | ((with_reducible refine (kR _).mono ?_); rintro e w9 ⟨rfl, hb⟩; obtain ⟨Hb, hB⟩ := chain Hb hB hb; clear hb))
        go_ret
        exact ⟨rfl, Hb.out⟩
    · rw [Bool.not_eq_true] at hv
      clear Hn
      go_enter Try.func7, Try.ntmps7
      go_wp2_with (first
        | ((with_reducible refine (awake_any _).mono ?_); rintro e w1 ⟨rfl, hb⟩; obtain ⟨Hb, hB⟩ := chain Hb hB hb; clear hb)
        | ((with_reducible refine (kW _).mono ?_); rintro e w2 ⟨rfl, hb⟩; obtain ⟨Hb, hB⟩ := chain Hb hB hb; clear hb)
        | ((with_reducible refine (kC _).mono ?_); rintro e w3 ⟨rfl, hb⟩; obtain ⟨Hb, hB⟩ := chain Hb hB hb; clear hb)
        | ((with_reducible refine (kN _).mono ?_); rintro e w4 ⟨rfl, hb⟩; obtain ⟨Hb, hB⟩ := chain Hb hB hb; clear hb)
        | ((with_reducible refine (kG _).mono ?_); rintro e w5 ⟨rfl, hb⟩; obtain ⟨Hb, hB⟩ := chain Hb hB hb; clear hb)
        | ((with_reducible refine (kE _).mono ?_); rintro e w6 ⟨rfl, hb⟩; obtain ⟨Hb, hB⟩ := chain Hb hB hb; clear hb)
        | ((with_reducible refine (kS _).mono ?_); rintro e w7 ⟨rfl, hb⟩; obtain ⟨Hb, hB⟩ := chain Hb hB hb; clear hb)
        | ((with_reducible refine (kV _).mono ?_); rintro e w8 ⟨rfl, hb⟩; obtain ⟨Hb, hB⟩ := chain Hb hB hb; clear hb)
        | ((with_reducible refine (kR _).mono ?_); rintro e w9 ⟨rfl, hb⟩; obtain ⟨Hb, hB⟩ := chain Hb hB hb; clear hb))
      go_ret
      exact ⟨rfl, Hb.out⟩
  · have ha : a.size = 0 := by omega
    obtain rfl := nil_size ha
    clear Hn ha hpos
    go_enter Try.func7, Try.ntmps7
    go_wp2_with (first
      | ((with_reducible refine (awake_any _).mono ?_); rintro e w1 ⟨rfl, hb⟩; obtain ⟨Hb, hB⟩ := chain Hb hB hb; clear hb)
      | ((with_reducible refine (kW _).mono ?_); rintro e w2 ⟨rfl, hb⟩; obtain ⟨Hb, hB⟩ := chain Hb hB hb; clear hb)
      | ((with_reducible refine (kC _).mono ?_); rintro e w3 ⟨rfl, hb⟩; obtain ⟨Hb, hB⟩ := chain Hb hB hb; clear hb)
      | ((with_reducible refine (kN _).mono ?_); rintro e w4 ⟨rfl, hb⟩; obtain ⟨Hb, hB⟩ := chain Hb hB hb; clear hb)
      | ((with_reducible refine (kG _).mono ?_); rintro e w5 ⟨rfl, hb⟩; obtain ⟨Hb, hB⟩ := chain Hb hB hb; clear hb)
      | ((with_reducible refine (kE _).mono ?_); rintro e w6 ⟨rfl, hb⟩; obtain ⟨Hb, hB⟩ := chain Hb hB hb; clear hb)
      | ((with_reducible refine (kS _).mono ?_); rintro e w7 ⟨rfl, hb⟩; obtain ⟨Hb, hB⟩ := chain Hb hB hb; clear hb)
      | ((with_reducible refine (kV _).mono ?_); rintro e w8 ⟨rfl, hb⟩; obtain ⟨Hb, hB⟩ := chain Hb hB hb; clear hb)
      | ((with_reducible refine (kR _).mono ?_); rintro e w9 ⟨rfl, hb⟩; obtain ⟨Hb, hB⟩ := chain Hb hB hb; clear hb))
    go_ret
    exact ⟨rfl, Hb.out⟩
end Go.Proofs.Ytfikloeeljgelaa
