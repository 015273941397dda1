/- GlyphNames walked: it answers true. -/
import Derived.Test.YtfikloeeljgelaaAwake
import Derived.Test.YtfikloeeljgelaaNames
import Derived.Test.YtfikloeeljgelaaFrame
import Derived.Test.YtfikloeeljgelaaBase
import Derived.Deep.DeepCutAuto
namespace Go.Proofs.Ytfikloeeljgelaa
open Go.RowKit

set_option maxRecDepth 100000 in
set_option maxHeartbeats 4000000 in
theorem glyphNames_walk (s0 : ByteArray) (s1 : ByteArray) (x2 : Int) (w : World) (f0 : s0.size ≤ maxLen) (f1 : s1.size ≤ maxLen) (f2 : (Lit.int .u8 x2).wf = true) :
    Calls Try.prog 6 #[.string s0, .string s1, .int .u8 x2] w fun e w' => e = .returned (.bool true) ∧ Below w.heap.size w w' := by
  unfold maxLen at f0 f1
  obtain ⟨h21, h22⟩ := wf_u8 f2
  clear f2
  have Hb := Lib.hid (Below.refl w.heap.size w)
  have hB : w.heap.size ≤ w.heap.size := Nat.le_refl _
  by_cases h0 : 100 < s0.size
  · go_enter Try.func6, Try.ntmps6
    go_wp2_with ((with_reducible refine (awake_any _).mono ?_); rintro e w1 ⟨rfl, hb⟩; obtain ⟨Hb, hB⟩ := chain Hb hB hb; clear hb)
    go_ret
    exact ⟨rfl, Hb.out⟩
  by_cases h1 : 100 < s1.size
  · go_enter Try.func6, Try.ntmps6
    go_wp2_with ((with_reducible refine (awake_any _).mono ?_); rintro e w1 ⟨rfl, hb⟩; obtain ⟨Hb, hB⟩ := chain Hb hB hb; clear hb)
    go_ret
    exact ⟨rfl, Hb.out⟩
  have hs0 : s0.size ≤ 100 := by omega
  have hs1 : s1.size ≤ 100 := by omega
  clear h0 h1
  obtain ⟨n, hn⟩ : ∃ n : Nat, n = x2.toNat := ⟨_, rfl⟩
  have hn2 : n < 256 := by omega
  have cO : ∀ W : World, (convert 34 9 (.slice (some ⟨W.heap.size, 0, none⟩) 1 1)).run Try.prog (W.alloc (.cells #[.int .u8 x2] 5)) = .ok (.string (sOne n)) (W.alloc (.cells #[.int .u8 x2] 5)) := fun W => by
    rw [hn]
    exact conv_one 34 9 5 Try.underlying34 Try.underlying5 Try.underlying9 W x2
  have hsz : (sOne n).size = 1 := sOne_size n
  have kO : ∀ W, _ := fun W => name_any (sOne n) W (by omega)
  rw [name_one hn2] at kO
  have kN0 : ∀ W, _ := fun W => name_any s0 W (by omega)
  have kN1 : ∀ W, _ := fun W => name_any s1 W (by omega)
  obtain ⟨lt, hlt⟩ : ∃ b : Bool, b = byteB n := ⟨_, rfl⟩
  have hltn := hlt
  rw [← hlt] at kO
  unfold byteB at hlt
  have HLT := Lib.hid hlt
  clear hlt
  have kV : ∀ W, _ := fun W => valid_any s0 W (by omega)
  have k0 : ∀ W, _ := fun W => count_any s0 W (by omega)
  have k1 : ∀ W, _ := fun W => count_any s1 W (by omega)
  have kT : ∀ W, _ := fun W => name_any (s0 ++ s1) W (by rw [size_app]; omega)
  have kF : ∀ W, _ := fun W => name_any (sOne n ++ s0) W (by rw [size_app]; omega)
  have kL : ∀ W, _ := fun W => name_any (s0 ++ sOne n) W (by rw [size_app]; omega)
  have HF : nameS s0 = true → n < 128 → lt = false → nameS (sOne n ++ s0) = false ∧ nameS (s0 ++ sOne n) = false := fun a b c => by
    rw [hltn] at c
    exact ⟨name_first s0 b c, name_last (name_valid a) b c⟩
  have HN : nameS s0 = true → nameS s1 = true → nameS (s0 ++ s1) = decide (cnt s0 + cnt s1 ≤ 24) := fun a b => name_app a b
  have HV : nameS s0 = true → validS s0 = true := name_valid
  have hE := nil_app s0 (sOne n)
  have n0 := cnt_le s0
  have n1 := cnt_le s1
  clear hltn
  obtain ⟨T, hT⟩ : ∃ T, s0 ++ s1 = T := ⟨_, rfl⟩
  obtain ⟨F, hF⟩ : ∃ F, sOne n ++ s0 = F := ⟨_, rfl⟩
  obtain ⟨L, hL⟩ : ∃ L, s0 ++ sOne n = L := ⟨_, rfl⟩
  rw [hT] at kT HN
  rw [hF] at kF HF
  rw [hL] at kL HF
  obtain ⟨o, ho⟩ : ∃ o, o = sOne n := ⟨_, rfl⟩
  rw [← ho] at cO kO hsz hF hL hE
  obtain ⟨c0, hc0⟩ : ∃ c : Int, c = cnt s0 := ⟨_, rfl⟩
  obtain ⟨c1, hc1⟩ : ∃ c : Int, c = cnt s1 := ⟨_, rfl⟩
  rw [← hc0] at k0
  rw [← hc1] at k1
  have b0 : 0 ≤ c0 := by omega
  have b0' : c0 ≤ 1000 := by omega
  have b1 : 0 ≤ c1 := by omega
  have b1' : c1 ≤ 1000 := by omega
  have HN2 : Hid (nameS s0 = true → nameS s1 = true → nameS T = decide (c0 + c1 ≤ 24)) := Lib.hid fun a b => by
    rw [HN a b, Bool.eq_iff_iff, decide_eq_true_iff, decide_eq_true_iff]; omega
  have HF2 := Lib.hid HF
  have HV2 := Lib.hid HV
  have Hn := Lib.hid hn
  clear HN HF HV hn hc0 hc1 ho n0 n1
  go_enter Try.func6, Try.ntmps6
  go_upto_region 7 with ((with_reducible refine (awake_any _).mono ?_); rintro e w1 ⟨rfl, hb⟩; obtain ⟨Hb, hB⟩ := chain Hb hB hb; clear hb)
  have Hb2 := Lib.hid (Hb.out.alloc hB (.cells #[.int .u8 x2] 5))
  go_cut [9] (fun l wr => l = .bool lt ∧ Below w.heap.size w wr)
  case first =>
    rcases Bool.eq_false_or_eq_true (x2 == 95) with h95 | h95
    all_goals
      have H95 := Lib.hid h95
      go_wp2
      all_goals go_meet
      all_goals
        refine ⟨?_, Hb2.out⟩
        congr 1
        have k95 := H95.out
        have kn := Hn.out
        rw [HLT.out, Bool.eq_iff_iff]
        simp only [beq_iff_eq, beq_eq_false_iff_ne, ne_eq] at k95
        simp only [decide_eq_true_eq, Bool.or_eq_true]
        first | omega | (simp only [true_iff, Bool.false_eq_true, false_iff]; omega)
  case rest =>
    obtain ⟨rfl, hb⟩ := hcut
    have Hb := Lib.hid hb
    have hB := hb.size
    clear hb
    by_cases hb0 : nameS s0 = true
    · by_cases hb1 : nameS s1 = true
      · have hv := HV2.out hb0
        have hN := HN2.out hb0 hb1
        by_cases h24 : c0 + c1 ≤ 24
        all_goals
          first | rw [decide_eq_true h24] at hN | rw [decide_eq_false h24] at hN
          by_cases h127 : 127 < x2
          · go_wp2_with (first
              | ((with_reducible refine (kO _).mono ?_); rintro e w1 ⟨rfl, hb⟩; obtain ⟨Hb, hB⟩ := chain Hb hB hb; clear hb)
              | ((with_reducible refine (kN0 _).mono ?_); rintro e w2 ⟨rfl, hb⟩; obtain ⟨Hb, hB⟩ := chain Hb hB hb; clear hb)
              | ((with_reducible refine (kN1 _).mono ?_); rintro e w3 ⟨rfl, hb⟩; obtain ⟨Hb, hB⟩ := chain Hb hB hb; clear hb)
              | ((with_reducible refine (k0 _).mono ?_); rintro e w4 ⟨rfl, hb⟩; obtain ⟨Hb, hB⟩ := chain Hb hB hb; clear hb)
              | ((with_reducible refine (k1 _).mono ?_); rintro e w5 ⟨rfl, hb⟩; obtain ⟨Hb, hB⟩ := chain Hb hB hb; clear hb)
              | ((with_reducible refine (kT _).mono ?_); rintro e w6 ⟨rfl, hb⟩; obtain ⟨Hb, hB⟩ := chain Hb hB hb; clear hb)
              | ((with_reducible refine (kV _).mono ?_); rintro e w7 ⟨rfl, hb⟩; obtain ⟨Hb, hB⟩ := chain Hb hB hb; clear hb)
              | ((with_reducible refine (kF _).mono ?_); rintro e w8 ⟨rfl, hb⟩; obtain ⟨Hb, hB⟩ := chain Hb hB hb; clear hb)
              | ((with_reducible refine (kL _).mono ?_); rintro e w9 ⟨rfl, hb⟩; obtain ⟨Hb, hB⟩ := chain Hb hB hb; clear hb))
            go_ret
            first | exact ⟨rfl, Hb.out⟩ | exact ⟨gret_bool (by rw [decide_eq_false (show ¬ c0 + c1 ≤ 24 by omega)]; rfl), Hb.out⟩
          · cases lt
            · obtain ⟨h1, h2⟩ := HF2.out hb0 (by have := Hn.out; omega) rfl
              go_wp2_with (first
                | ((with_reducible refine (kO _).mono ?_); rintro e w1 ⟨rfl, hb⟩; obtain ⟨Hb, hB⟩ := chain Hb hB hb; clear hb)
                | ((with_reducible refine (kN0 _).mono ?_); rintro e w2 ⟨rfl, hb⟩; obtain ⟨Hb, hB⟩ := chain Hb hB hb; clear hb)
                | ((with_reducible refine (kN1 _).mono ?_); rintro e w3 ⟨rfl, hb⟩; obtain ⟨Hb, hB⟩ := chain Hb hB hb; clear hb)
                | ((with_reducible refine (k0 _).mono ?_); rintro e w4 ⟨rfl, hb⟩; obtain ⟨Hb, hB⟩ := chain Hb hB hb; clear hb)
                | ((with_reducible refine (k1 _).mono ?_); rintro e w5 ⟨rfl, hb⟩; obtain ⟨Hb, hB⟩ := chain Hb hB hb; clear hb)
                | ((with_reducible refine (kT _).mono ?_); rintro e w6 ⟨rfl, hb⟩; obtain ⟨Hb, hB⟩ := chain Hb hB hb; clear hb)
                | ((with_reducible refine (kV _).mono ?_); rintro e w7 ⟨rfl, hb⟩; obtain ⟨Hb, hB⟩ := chain Hb hB hb; clear hb)
                | ((with_reducible refine (kF _).mono ?_); rintro e w8 ⟨rfl, hb⟩; obtain ⟨Hb, hB⟩ := chain Hb hB hb; clear hb)
                | ((with_reducible refine (kL _).mono ?_); rintro e w9 ⟨rfl, hb⟩; obtain ⟨Hb, hB⟩ := chain Hb hB hb; clear hb))
              go_ret
              first | exact ⟨rfl, Hb.out⟩ | exact ⟨gret_bool (by rw [decide_eq_false (show ¬ c0 + c1 ≤ 24 by omega)]; rfl), Hb.out⟩
            · go_wp2_with (first
                | ((with_reducible refine (kO _).mono ?_); rintro e w1 ⟨rfl, hb⟩; obtain ⟨Hb, hB⟩ := chain Hb hB hb; clear hb)
                | ((with_reducible refine (kN0 _).mono ?_); rintro e w2 ⟨rfl, hb⟩; obtain ⟨Hb, hB⟩ := chain Hb hB hb; clear hb)
                | ((with_reducible refine (kN1 _).mono ?_); rintro e w3 ⟨rfl, hb⟩; obtain ⟨Hb, hB⟩ := chain Hb hB hb; clear hb)
                | ((with_reducible refine (k0 _).mono ?_); rintro e w4 ⟨rfl, hb⟩; obtain ⟨Hb, hB⟩ := chain Hb hB hb; clear hb)
                | ((with_reducible refine (k1 _).mono ?_); rintro e w5 ⟨rfl, hb⟩; obtain ⟨Hb, hB⟩ := chain Hb hB hb; clear hb)
                | ((with_reducible refine (kT _).mono ?_); rintro e w6 ⟨rfl, hb⟩; obtain ⟨Hb, hB⟩ := chain Hb hB hb; clear hb)
                | ((with_reducible refine (kV _).mono ?_); rintro e w7 ⟨rfl, hb⟩; obtain ⟨Hb, hB⟩ := chain Hb hB hb; clear hb)
                | ((with_reducible refine (kF _).mono ?_); rintro e w8 ⟨rfl, hb⟩; obtain ⟨Hb, hB⟩ := chain Hb hB hb; clear hb)
                | ((with_reducible refine (kL _).mono ?_); rintro e w9 ⟨rfl, hb⟩; obtain ⟨Hb, hB⟩ := chain Hb hB hb; clear hb))
              go_ret
              first | exact ⟨rfl, Hb.out⟩ | exact ⟨gret_bool (by rw [decide_eq_false (show ¬ c0 + c1 ≤ 24 by omega)]; rfl), Hb.out⟩
      · rw [Bool.not_eq_true] at hb1
        go_wp2_with (first
          | ((with_reducible refine (kO _).mono ?_); rintro e w1 ⟨rfl, hb⟩; obtain ⟨Hb, hB⟩ := chain Hb hB hb; clear hb)
          | ((with_reducible refine (kN0 _).mono ?_); rintro e w2 ⟨rfl, hb⟩; obtain ⟨Hb, hB⟩ := chain Hb hB hb; clear hb)
          | ((with_reducible refine (kN1 _).mono ?_); rintro e w3 ⟨rfl, hb⟩; obtain ⟨Hb, hB⟩ := chain Hb hB hb; clear hb))
        go_ret
        exact ⟨rfl, Hb.out⟩
    · rw [Bool.not_eq_true] at hb0
      go_wp2_with (first
        | ((with_reducible refine (kO _).mono ?_); rintro e w1 ⟨rfl, hb⟩; obtain ⟨Hb, hB⟩ := chain Hb hB hb; clear hb)
        | ((with_reducible refine (kN0 _).mono ?_); rintro e w2 ⟨rfl, hb⟩; obtain ⟨Hb, hB⟩ := chain Hb hB hb; clear hb))
      go_ret
      exact ⟨rfl, Hb.out⟩
end Go.Proofs.Ytfikloeeljgelaa
