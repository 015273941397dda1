/- GlyphCuts walked: it answers true. -/
import Derived.Test.YtfikloeeljgelaaAwake
import Derived.Test.YtfikloeeljgelaaNext
import Derived.Test.YtfikloeeljgelaaFrame
namespace Go.Proofs.Ytfikloeeljgelaa
open Go.RowKit

theorem cntA_one {s : ByteArray} (h : 0 < cnt s) : cnt (cutA s 1) = 1 := by rw [cnt_cutA]; omega
theorem size_pos_cnt {s : ByteArray} (h : 0 < s.size) : 0 < cnt s := lt_cnt.2 h
theorem cutA_ne {s : ByteArray} (h : 0 < s.size) : ¬ cutA s 1 = ⟨#[]⟩ := fun e => by
  have h1 := cutA_size s 1
  rw [e] at h1
  have h2 := plc_lt_succ (s := s) (k := 0) h
  have h3 : (⟨#[]⟩ : ByteArray).size = 0 := rfl
  rw [h3] at h1
  have : plc s 0 = 0 := rfl
  rw [← h1] at h2
  omega

set_option maxRecDepth 100000 in
set_option maxHeartbeats 4000000 in
theorem glyphCuts_walk (s0 : ByteArray) (x1 x2 : Int) (w : World) (f0 : s0.size ≤ maxLen) (f1 : (Lit.int .u8 x1).wf = true) (f2 : (Lit.int .u8 x2).wf = true) :
    Calls Try.prog 8 #[.string s0, .int .u8 x1, .int .u8 x2] w fun e w' => e = .returned (.bool true) ∧ Below w.heap.size w w' := by
  unfold maxLen at f0
  obtain ⟨h11, h12⟩ := wf_u8 f1
  obtain ⟨h21, h22⟩ := wf_u8 f2
  clear f1 f2
  have Hb := Lib.hid (Below.refl w.heap.size w)
  have hB : w.heap.size ≤ w.heap.size := Nat.le_refl _
  by_cases h200 : 200 < s0.size
  · go_enter Try.func8, Try.ntmps8
    go_wp2_with ((with_reducible refine (awake_any _).mono ?_); rintro e w1 ⟨rfl, hb⟩; obtain ⟨Hb, hB⟩ := chain Hb hB hb; clear hb)
    go_ret
    exact ⟨rfl, Hb.out⟩
  have hs : s0.size ≤ 200 := by omega
  clear h200
  have z1 := cutB_size s0 x1.toNat
  have z2 := cutA_size s0 x1.toNat
  have z3 := cutA_size (cutB s0 x1.toNat) x2.toNat
  have z4 := plc_le s0 x1.toNat
  have z5 := plc_le (cutB s0 x1.toNat) x2.toNat
  have kA : ∀ W, _ := fun W => cut_any s0 x1 W (by omega) (by omega) (by omega)
  have kB : ∀ W, _ := fun W => cut_any (cutB s0 x1.toNat) x2 W (by omega) (by omega) (by omega)
  have kC : ∀ W, _ := fun W => cut_any s0 (x1 + x2) W (by omega) (by omega) (by omega)
  have kD : ∀ W, _ := fun W => cut_any s0 (-1) W (by omega) (by omega) (by omega)
  have kE : ∀ W, _ := fun W => count_any s0 W (by omega)
  rw [show (-1 : Int).toNat = 0 from rfl, cutA_zero, cutB_zero] at kD
  have e1 := cutA_cutA s0 x1.toNat x2.toNat
  have e2 := cutB_cutB s0 x1.toNat x2.toNat
  rw [show x1.toNat + x2.toNat = (x1 + x2).toNat from by omega] at e1 e2
  rw [e2] at kB
  have hX : (cutA s0 x1.toNat).size ≤ 200 := by omega
  have hP : (cutA (cutB s0 x1.toNat) x2.toNat).size ≤ 200 := by omega
  clear z1 z2 z3 z4 z5 e2
  generalize cutA (cutB s0 x1.toNat) x2.toNat = p at *
  generalize cutA s0 x1.toNat = x at *
  generalize cutB s0 x1.toNat = y at *
  generalize cutA s0 (x1 + x2).toNat = m at *
  generalize cutB s0 (x1 + x2).toNat = n at *
  go_enter Try.func8, Try.ntmps8
  go_wp2_with (first
    | ((with_reducible refine (awake_any _).mono ?_); rintro e w1 ⟨rfl, hb⟩; obtain ⟨Hb, hB⟩ := chain Hb hB hb; clear hb)
    | ((with_reducible refine (kA _).mono ?_); rintro e w2 ⟨rfl, hb⟩; obtain ⟨Hb, hB⟩ := chain Hb hB hb; clear hb)
    | ((with_reducible refine (kB _).mono ?_); rintro e w3 ⟨rfl, hb⟩; obtain ⟨Hb, hB⟩ := chain Hb hB hb; clear hb)
    | ((with_reducible refine (kC _).mono ?_); rintro e w4 ⟨rfl, hb⟩; obtain ⟨Hb, hB⟩ := chain Hb hB hb; clear hb)
    | ((with_reducible refine (kD _).mono ?_); rintro e w5 ⟨rfl, hb⟩; obtain ⟨Hb, hB⟩ := chain Hb hB hb; clear hb))
  have Hb0 := Hb
  go_loopw [16, 17] (fun k l wr => ∃ i : Nat, i ≤ cnt s0 ∧ k = .int .i64 i ∧ l = .string (cutB s0 i) ∧ Below w.heap.size w wr) (fun k _ _ => cnt s0 - (intOf k).toNat)
  case atStart => exact ⟨0, Nat.zero_le _, rfl, by rw [cutB_zero], Hb.out⟩
  case round =>
    obtain ⟨i, hi, rfl, rfl, hb⟩ := hrel
    have Hb := Lib.hid hb
    have hB := hb.size
    clear hb
    have hc := cnt_le s0
    have hz := cutB_size s0 i
    by_cases hlt : i < cnt s0
    · have hlp := lt_cnt.1 hlt
      have hpos : 0 < (cutB s0 i).size := by omega
      have k1 : ∀ W, _ := fun W => cut_any (cutB s0 i) 1 W (by omega) (by omega) (by omega)
      have k2 : ∀ W, _ := fun W => count_any (cutA (cutB s0 i) 1) W (by rw [cutA_size]; have := plc_le (cutB s0 i) 1; omega)
      rw [show (1 : Int).toNat = 1 from rfl, cutB_cutB] at k1
      rw [cntA_one (size_pos_cnt hpos)] at k2
      have hl1 := list_ne hpos
      have hl2 := list_ne2 hpos
      have ho : 0 < (cutA (cutB s0 i) 1).size := by
        rcases Nat.eq_zero_or_pos (cutA (cutB s0 i) 1).size with h | h
        · exact absurd (nil_size h) (cutA_ne hpos)
        · exact h
      have ho1 := list_ne ho
      have ho2 := list_ne2 ho
      generalize cutA (cutB s0 i) 1 = o at *
      clear hlp hpos hz
      obtain ⟨L, hL⟩ : ∃ L, L = cutB s0 i := ⟨_, rfl⟩
      obtain ⟨M, hM⟩ : ∃ M, M = cutB s0 (i + 1) := ⟨_, rfl⟩
      rw [← hL] at k1 hl1 hl2 ⊢
      rw [← hM] at k1
      have HL := Lib.hid hL
      have HM := Lib.hid hM
      clear hL hM
      go_wp2_with (first
        | ((with_reducible refine (k1 _).mono ?_); rintro e w6 ⟨rfl, hb⟩; obtain ⟨Hb, hB⟩ := chain Hb hB hb; clear hb)
        | ((with_reducible refine (k2 _).mono ?_); rintro e w7 ⟨rfl, hb⟩; obtain ⟨Hb, hB⟩ := chain Hb hB hb; clear hb))
      go_roundw
      case rel => exact ⟨i + 1, by omega, by go_num, by rw [HM.out], Hb.out⟩
      case measure => simp [intOf]; omega
    · have hi2 : i = cnt s0 := by omega
      have hz0 : (cutB s0 i).size = 0 := by have h1 := plc_end (s := s0) (k := i) (by omega); omega
      have hl1 : (!(cutB s0 i).toList.isEmpty) = false := by rw [nil_size hz0, ByteArray.toList_eq]; rfl
      have hd : ((i : Int) == (cnt s0 : Int)) = true := by simp [hi2]
      clear hi2 hz0
      obtain ⟨L, hL⟩ : ∃ L, L = cutB s0 i := ⟨_, rfl⟩
      rw [← hL] at hl1 ⊢
      have HL := Lib.hid hL
      clear hL
      go_wp2_with ((with_reducible refine (kE _).mono ?_); rintro e w8 ⟨rfl, hb⟩; obtain ⟨Hb, hB⟩ := chain Hb hB hb; clear hb)
      go_ret
      exact ⟨rfl, Hb.out⟩
end Go.Proofs.Ytfikloeeljgelaa
