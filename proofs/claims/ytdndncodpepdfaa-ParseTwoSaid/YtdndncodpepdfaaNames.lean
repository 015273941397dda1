/- Names: of one byte, of two names one behind the other, and none with a sign in it. Conditions: none; nothing of the program is named here. -/
import Derived.Test.YtdndncodpepdfaaJoin
namespace Go.Proofs.Ytdndncodpepdfaa

def sOne (n : Nat) : ByteArray := ⟨#[UInt8.ofNat n]⟩
theorem sOne_size (n : Nat) : (sOne n).size = 1 := rfl
theorem sOne_bt {n : Nat} (h : n < 256) : bt (sOne n) 0 = n := by
  show (UInt8.ofNat n).toNat = n
  simp; omega
theorem cnt_pos {s : ByteArray} (h : 0 < s.size) : 0 < cnt s := lt_cnt.2 h
theorem sOne_cnt (n : Nat) : cnt (sOne n) = 1 := by
  have h1 := cnt_pos (s := sOne n) (by rw [sOne_size]; omega)
  have h2 := cnt_le (sOne n)
  rw [sOne_size] at h2
  omega
theorem may_low {s : ByteArray} {i : Nat} (h : i < s.size) (hb : bt s i < 128) : mayB s i = byteB (bt s i) := by
  have hl : lng s i = 1 := by rw [lng_eq h, if_pos hb]
  rw [mayB_eq h, if_pos hl]
theorem may_one {n : Nat} (h : n < 256) : mayB (sOne n) 0 = byteB n := by
  by_cases hn : n < 128
  · rw [may_low (by rw [sOne_size]; omega) (by rw [sOne_bt h]; exact hn), sOne_bt h]
  · have hs : 0 < (sOne n).size := by rw [sOne_size]; omega
    have e : Utf8.decode (sOne n) 0 = (65533, 1) := by
      rw [decode_dec _ 0 hs, sOne_bt h, sOne_size]
      rcases dec_cases (1 - 0) n (bt (sOne n) (0 + 1)) (bt (sOne n) (0 + 2)) (bt (sOne n) (0 + 3)) with ⟨c, e⟩ | ⟨c, e⟩ | ⟨c, e⟩ | ⟨c, e⟩ | ⟨c, e⟩
      · omega
      · omega
      · omega
      · omega
      · exact e
    have hb : brk (sOne n) 0 = true := by unfold brk rn wd; rw [e]; rfl
    unfold mayB
    rw [hb]
    symm
    unfold byteB
    simp
    omega
theorem name_one {n : Nat} (h : n < 256) : nameS (sOne n) = byteB n := by
  rw [Bool.eq_iff_iff, nameS_iff, sOne_cnt]
  constructor
  · rintro ⟨_, _, ha⟩
    have := ha 0 (by omega)
    rw [← may_one h]; exact this
  · intro hb
    refine ⟨by omega, by omega, fun k hk => ?_⟩
    obtain rfl : k = 0 := by omega
    show mayB (sOne n) 0 = true
    rw [may_one h]; exact hb
theorem name_valid {s : ByteArray} (h : nameS s = true) : validS s = true := by
  rw [validS_iff]
  intro k hk
  have := (nameS_iff.1 h).2.2 k hk
  unfold mayB at this
  simp at this
  exact this.1
theorem name_app {a b : ByteArray} (ha : nameS a = true) (hb : nameS b = true) : nameS (a ++ b) = decide (cnt a + cnt b ≤ 24) := by
  have hv := name_valid ha
  have h1 := nameS_iff.1 ha
  have h2 := nameS_iff.1 hb
  rw [Bool.eq_iff_iff, nameS_iff, cnt_app hv, decide_eq_true_iff]
  refine ⟨fun h => h.2.1, fun h => ⟨by omega, h, fun k hk => ?_⟩⟩
  unfold mayB brk rn wd
  by_cases hl : k < cnt a
  · rw [plc_app hv k (by omega), dec_app hv hl]
    exact h1.2.2 k hl
  · obtain ⟨j, rfl⟩ : ∃ j, k = cnt a + j := ⟨k - cnt a, by omega⟩
    rw [dec_app_right hv (by omega)]
    exact h2.2.2 j (by omega)
theorem not_name {s : ByteArray} {k : Nat} (hk : k < cnt s) (h : mayB s (plc s k) = false) : nameS s = false := by
  rw [Bool.eq_false_iff]
  intro hn
  have := (nameS_iff.1 hn).2.2 k hk
  rw [h] at this
  cases this
theorem name_first {n : Nat} (s : ByteArray) (h : n < 128) (hb : byteB n = false) : nameS (sOne n ++ s) = false := by
  have hz : 0 < (sOne n ++ s).size := by rw [size_app, sOne_size]; omega
  have e : bt (sOne n ++ s) 0 = n := by rw [bt_app_left _ _ _ (by rw [sOne_size]; omega), sOne_bt (by omega)]
  refine not_name (k := 0) (cnt_pos hz) ?_
  show mayB (sOne n ++ s) 0 = false
  rw [may_low hz (by omega), e]; exact hb
theorem name_last {n : Nat} {s : ByteArray} (hv : validS s = true) (h : n < 128) (hb : byteB n = false) : nameS (s ++ sOne n) = false := by
  have e : bt (s ++ sOne n) s.size = n := by
    have := bt_app_right s (sOne n) 0 (by rw [sOne_size]; omega)
    rw [Nat.add_zero, sOne_bt (by omega)] at this
    exact this
  refine not_name (k := cnt s) (by rw [cnt_app hv, sOne_cnt]; omega) ?_
  rw [plc_app_end hv, may_low (by rw [size_app, sOne_size]; omega) (by omega), e]
  exact hb
theorem nil_app (s t : ByteArray) : s.extract 0 0 ++ t = t := by
  have h0 : (s.extract 0 0).size = 0 := by rw [size_ext]; omega
  refine bt_ext (by rw [size_app]; omega) fun k hk => ?_
  rw [size_app] at hk
  have := bt_app_right (s.extract 0 0) t k (by omega)
  rw [h0, Nat.zero_add] at this
  exact this
end Go.Proofs.Ytdndncodpepdfaa
