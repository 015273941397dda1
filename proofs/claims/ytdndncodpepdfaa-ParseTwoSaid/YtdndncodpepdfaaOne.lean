/- A rune by itself as a text: it is a name just if the rune may stand in one; a text's first rune is a valid text just if it isn't broken; where the newline and the words' ends lie. Conditions: none; nothing of the program is named here. -/
import Derived.Test.YtdndncodpepdfaaTok
namespace Go.Proofs.Ytdndncodpepdfaa

theorem one_cnt {t : ByteArray} {r : Nat} (hz : 0 < t.size) (hd : Utf8.decode t 0 = (r, t.size)) : cnt t = 1 := by
  have h0 : plc t 0 < t.size := hz
  have h1 : plc t 1 = plc t 0 + wd t (plc t 0) := plc_succ h0
  have h2 : wd t (plc t 0) = t.size := by show (Utf8.decode t 0).2 = _; rw [hd]
  have h3 : plc t 0 = 0 := rfl
  exact cnt_eq (by omega) fun j hj => by obtain rfl : j = 0 := by omega
                                         exact hz
theorem one_name {t : ByteArray} {r : Nat} (hz : 0 < t.size) (hd : Utf8.decode t 0 = (r, t.size)) (hb : brk t 0 = false) : nameS t = inNameB r := by
  have hm : mayB t 0 = inNameB r := by
    unfold mayB
    rw [hb]
    show (!false && inNameB (Utf8.decode t 0).1) = _
    rw [hd]; rfl
  rw [Bool.eq_iff_iff, nameS_iff, one_cnt hz hd, ← hm]
  constructor
  · rintro ⟨_, _, h⟩
    exact h 0 (by omega)
  · intro h
    refine ⟨by omega, by omega, fun k hk => ?_⟩
    obtain rfl : k = 0 := by omega
    exact h

theorem enc_name {r : Nat} (h : r < 55296 ∨ (57344 ≤ r ∧ r ≤ 1114111)) : nameS (Utf8.encode (r : Int)) = inNameB r := by
  have hv : Utf8.valid (r : Int) = true := by unfold Utf8.valid; simp; omega
  unfold Utf8.encode
  simp only [hv, if_true, Int.toNat_natCast]
  have of : ∀ n, n < 256 → (UInt8.ofNat n).toNat = n := fun n hn => by simp; omega
  by_cases h1 : r < 128
  · rw [if_pos h1]
    show nameS (sOne r) = _
    rw [name_one (by omega), Bool.eq_iff_iff, byteB_iff]
    unfold inNameB
    rw [decide_eq_true_iff]
    omega
  rw [if_neg h1]
  by_cases h2 : r < 2048
  · rw [if_pos h2]
    have e0 := of (192 + r / 64) (by omega)
    have e1 := of (128 + r % 64) (by omega)
    generalize UInt8.ofNat (192 + r / 64) = b0 at *
    generalize UInt8.ofNat (128 + r % 64) = b1 at *
    have hd : Utf8.decode ⟨#[b0, b1]⟩ 0 = (r, 2) := by
      rw [decode_dec _ 0 (by show 0 < 2; omega), show (⟨#[b0, b1]⟩ : ByteArray).size - 0 = 2 from rfl, show bt ⟨#[b0, b1]⟩ 0 = b0.toNat from rfl, show bt ⟨#[b0, b1]⟩ (0 + 1) = b1.toNat from rfl, e0, e1]
      unfold dec
      rw [if_neg (by omega), if_pos (by omega)]
      exact Prod.ext (by dsimp only; omega) rfl
    refine one_name (by show 0 < 2; omega) hd ?_
    unfold brk rn wd
    rw [hd]
    simp
  rw [if_neg h2]
  by_cases h3 : r < 65536
  · rw [if_pos h3]
    have e0 := of (224 + r / 4096) (by omega)
    have e1 := of (128 + r / 64 % 64) (by omega)
    have e2 := of (128 + r % 64) (by omega)
    generalize UInt8.ofNat (224 + r / 4096) = b0 at *
    generalize UInt8.ofNat (128 + r / 64 % 64) = b1 at *
    generalize UInt8.ofNat (128 + r % 64) = b2 at *
    have hd : Utf8.decode ⟨#[b0, b1, b2]⟩ 0 = (r, 3) := by
      rw [decode_dec _ 0 (by show 0 < 3; omega), show (⟨#[b0, b1, b2]⟩ : ByteArray).size - 0 = 3 from rfl, show bt ⟨#[b0, b1, b2]⟩ 0 = b0.toNat from rfl, show bt ⟨#[b0, b1, b2]⟩ (0 + 1) = b1.toNat from rfl, show bt ⟨#[b0, b1, b2]⟩ (0 + 2) = b2.toNat from rfl, e0, e1, e2]
      unfold dec
      rw [if_neg (by omega), if_neg (by omega), if_pos (by omega)]
      exact Prod.ext (by dsimp only; omega) rfl
    refine one_name (by show 0 < 3; omega) hd ?_
    unfold brk rn wd
    rw [hd]
    simp
  rw [if_neg h3]
  have e0 := of (240 + r / 262144) (by omega)
  have e1 := of (128 + r / 4096 % 64) (by omega)
  have e2 := of (128 + r / 64 % 64) (by omega)
  have e3 := of (128 + r % 64) (by omega)
  generalize UInt8.ofNat (240 + r / 262144) = b0 at *
  generalize UInt8.ofNat (128 + r / 4096 % 64) = b1 at *
  generalize UInt8.ofNat (128 + r / 64 % 64) = b2 at *
  generalize UInt8.ofNat (128 + r % 64) = b3 at *
  have hd : Utf8.decode ⟨#[b0, b1, b2, b3]⟩ 0 = (r, 4) := by
    rw [decode_dec _ 0 (by show 0 < 4; omega), show (⟨#[b0, b1, b2, b3]⟩ : ByteArray).size - 0 = 4 from rfl, show bt ⟨#[b0, b1, b2, b3]⟩ 0 = b0.toNat from rfl, show bt ⟨#[b0, b1, b2, b3]⟩ (0 + 1) = b1.toNat from rfl, show bt ⟨#[b0, b1, b2, b3]⟩ (0 + 2) = b2.toNat from rfl, show bt ⟨#[b0, b1, b2, b3]⟩ (0 + 3) = b3.toNat from rfl, e0, e1, e2, e3]
    unfold dec
    rw [if_neg (by omega), if_neg (by omega), if_neg (by omega), if_pos (by omega)]
    exact Prod.ext (by dsimp only; omega) rfl
  refine one_name (by show 0 < 4; omega) hd ?_
  unfold brk rn wd
  rw [hd]
  simp
theorem rn_range {s : ByteArray} {i : Nat} (h : i < s.size) : rn s i < 55296 ∨ (57344 ≤ rn s i ∧ rn s i ≤ 1114111) := by
  have hb := bt_lt s i
  unfold rn
  rw [decode_dec s i h]
  rcases dec_cases (s.size - i) (bt s i) (bt s (i + 1)) (bt s (i + 2)) (bt s (i + 3)) with ⟨c, e⟩ | ⟨c, e⟩ | ⟨c, e⟩ | ⟨c, e⟩ | ⟨c, e⟩
  all_goals (rw [e]; dsimp only; omega)
theorem rn_name {s : ByteArray} {i : Nat} (h : i < s.size) (hb : brk s i = false) : nameS (Utf8.encode ((rn s i : Nat) : Int)) = mayB s i := by
  rw [enc_name (rn_range h)]
  unfold mayB
  rw [hb]; rfl

/-- The first rune that a text has, as a text. -/
theorem first_valid {u : ByteArray} (h : 0 < u.size) : validS (cutA u 1) = !brk u 0 := by
  have hc : cnt (cutA u 1) = 1 := by rw [cnt_cutA]; have := cnt_pos h; omega
  have hs := cutA_size u 1
  have h1 : plc u 0 < plc u 1 := plc_lt_succ (s := u) (k := 0) h
  have hd := dec_same_pre (s := u) (t := cutA u 1) (k := 1) (j := 0) hs (cutA_bt u 1) h1
  have hb : brk (cutA u 1) 0 = brk u 0 := by
    have hd' : Utf8.decode (cutA u 1) 0 = Utf8.decode u 0 := hd
    unfold brk rn wd
    rw [hd']
  rw [Bool.eq_iff_iff, validS_iff, hc]
  constructor
  · intro h2
    have : brk (cutA u 1) 0 = false := h2 0 (by omega)
    rw [← hb, this]; rfl
  · intro h2 k hk
    obtain rfl : k = 0 := by omega
    show brk (cutA u 1) 0 = false
    rw [hb]; simpa using h2
theorem brk_cutB {s : ByteArray} {k : Nat} (h : plc s k < s.size) : brk (cutB s k) 0 = brk s (plc s k) := by
  have hz := cutB_size s k
  have hd := decode_suf hz (cutB_bt s k) (i := 0) (by omega)
  unfold brk rn wd
  rw [hd, Nat.add_zero]
end Go.Proofs.Ytdndncodpepdfaa
