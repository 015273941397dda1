/- Runes of a string as plain numbers: what stands at a place (its worth, its width, whether it is broken), said by ranges of bytes. Conditions: none; nothing of the program is named here. -/
import Derived.Laws.RangeAny
namespace Go.Proofs.Ytdndncodpepdfaa

/-- What begins at a place of which n bytes are left, the first four of them told. -/
def dec (n b0 b1 b2 b3 : Nat) : Nat × Nat :=
  if b0 < 128 then (b0, 1)
  else if 194 ≤ b0 ∧ b0 ≤ 223 ∧ 1 < n ∧ 128 ≤ b1 ∧ b1 ≤ 191 then ((b0 % 32) * 64 + b1 % 64, 2)
  else if 224 ≤ b0 ∧ b0 ≤ 239 ∧ 2 < n ∧ 128 ≤ b1 ∧ b1 ≤ 191 ∧ (b0 = 224 → 160 ≤ b1) ∧ (b0 = 237 → b1 ≤ 159) ∧ 128 ≤ b2 ∧ b2 ≤ 191 then ((b0 % 16) * 4096 + (b1 % 64) * 64 + b2 % 64, 3)
  else if 240 ≤ b0 ∧ b0 ≤ 244 ∧ 3 < n ∧ 128 ≤ b1 ∧ b1 ≤ 191 ∧ (b0 = 240 → 144 ≤ b1) ∧ (b0 = 244 → b1 ≤ 143) ∧ 128 ≤ b2 ∧ b2 ≤ 191 ∧ 128 ≤ b3 ∧ b3 ≤ 191 then ((b0 % 8) * 262144 + (b1 % 64) * 4096 + (b2 % 64) * 64 + b3 % 64, 4)
  else (65533, 1)

/-- A byte as a number. -/
def bt (s : ByteArray) (i : Nat) : Nat := (s.get! i).toNat
theorem bt_lt (s : ByteArray) (i : Nat) : bt s i < 256 := (s.get! i).toNat_lt
theorem bt_eq (s : ByteArray) (i : Nat) (h : i < s.size) : bt s i = (s[i]'h).toNat := by
  have := get_at s i h
  rw [Nat.add_zero] at this
  unfold bt; rw [this]

theorem decode_dec (s : ByteArray) (i : Nat) (h : i < s.size) : Utf8.decode s i = dec (s.size - i) (bt s i) (bt s (i + 1)) (bt s (i + 2)) (bt s (i + 3)) := by
  have h0 := bt_lt s i
  have h1 := bt_lt s (i + 1)
  have h2 := bt_lt s (i + 2)
  have h3 := bt_lt s (i + 3)
  have e : Utf8.decode s i =
    (if bt s i < 0x80 then (bt s i, 1)
    else if bt s i / 32 == 6 && (decide (i + 1 < s.size) && bt s (i + 1) / 64 == 2) then
      (if (bt s i % 32) * 64 + bt s (i + 1) % 64 ≥ 0x80 then ((bt s i % 32) * 64 + bt s (i + 1) % 64, 2) else (Utf8.runeError, 1))
    else if bt s i / 16 == 14 && (decide (i + 1 < s.size) && bt s (i + 1) / 64 == 2) && (decide (i + 2 < s.size) && bt s (i + 2) / 64 == 2) then
      (if (bt s i % 16) * 4096 + (bt s (i + 1) % 64) * 64 + bt s (i + 2) % 64 ≥ 0x800 && Utf8.valid ((bt s i % 16) * 4096 + (bt s (i + 1) % 64) * 64 + bt s (i + 2) % 64 : Nat) then ((bt s i % 16) * 4096 + (bt s (i + 1) % 64) * 64 + bt s (i + 2) % 64, 3) else (Utf8.runeError, 1))
    else if bt s i / 8 == 30 && (decide (i + 1 < s.size) && bt s (i + 1) / 64 == 2) && (decide (i + 2 < s.size) && bt s (i + 2) / 64 == 2) && (decide (i + 3 < s.size) && bt s (i + 3) / 64 == 2) then
      (if (bt s i % 8) * 262144 + (bt s (i + 1) % 64) * 4096 + (bt s (i + 2) % 64) * 64 + bt s (i + 3) % 64 ≥ 0x10000 && Utf8.valid ((bt s i % 8) * 262144 + (bt s (i + 1) % 64) * 4096 + (bt s (i + 2) % 64) * 64 + bt s (i + 3) % 64 : Nat) then ((bt s i % 8) * 262144 + (bt s (i + 1) % 64) * 4096 + (bt s (i + 2) % 64) * 64 + bt s (i + 3) % 64, 4) else (Utf8.runeError, 1))
    else (Utf8.runeError, 1)) := rfl
  rw [e]
  generalize bt s i = b0 at *
  generalize bt s (i + 1) = b1 at *
  generalize bt s (i + 2) = b2 at *
  generalize bt s (i + 3) = b3 at *
  unfold dec
  by_cases c0 : b0 < 128
  · rw [if_pos c0, if_pos c0]
  rw [if_neg c0, if_neg c0]
  by_cases c1 : 1 < s.size - i ∧ 128 ≤ b1 ∧ b1 ≤ 191
  · have k1 : (decide (i + 1 < s.size) && b1 / 64 == 2) = true := by simp; omega
    rw [k1]
    by_cases c2 : 2 < s.size - i ∧ 128 ≤ b2 ∧ b2 ≤ 191
    · have k2 : (decide (i + 2 < s.size) && b2 / 64 == 2) = true := by simp; omega
      rw [k2]
      by_cases c3 : 3 < s.size - i ∧ 128 ≤ b3 ∧ b3 ≤ 191
      · have k3 : (decide (i + 3 < s.size) && b3 / 64 == 2) = true := by simp; omega
        rw [k3]
        simp only [Bool.and_true, Utf8.runeError, Utf8.valid, ge_iff_le, Bool.and_eq_true, Bool.or_eq_true, beq_iff_eq, decide_eq_true_eq]
        repeat' split
        all_goals (first | with_reducible rfl | (exfalso; omega) | (refine Prod.ext ?_ ?_ <;> dsimp only <;> omega))
      · have k3 : (decide (i + 3 < s.size) && b3 / 64 == 2) = false := by simp; omega
        rw [k3]
        simp only [Bool.and_true, Bool.and_false, Utf8.runeError, Utf8.valid, ge_iff_le, Bool.and_eq_true, Bool.or_eq_true, beq_iff_eq, decide_eq_true_eq, Bool.false_eq_true, if_false]
        repeat' split
        all_goals (first | with_reducible rfl | (exfalso; omega) | (refine Prod.ext ?_ ?_ <;> dsimp only <;> omega))
    · have k2 : (decide (i + 2 < s.size) && b2 / 64 == 2) = false := by simp; omega
      rw [k2]
      simp only [Bool.and_true, Bool.and_false, Bool.false_and, Utf8.runeError, Utf8.valid, ge_iff_le, Bool.and_eq_true, Bool.or_eq_true, beq_iff_eq, decide_eq_true_eq, Bool.false_eq_true, if_false]
      repeat' split
      all_goals (first | with_reducible rfl | (exfalso; omega) | (refine Prod.ext ?_ ?_ <;> dsimp only <;> omega))
  · have k1 : (decide (i + 1 < s.size) && b1 / 64 == 2) = false := by simp; omega
    rw [k1]
    simp only [Bool.and_false, Bool.false_and, Bool.false_eq_true, if_false, Utf8.runeError]
    repeat' split
    all_goals (first | with_reducible rfl | (exfalso; omega) | (refine Prod.ext ?_ ?_ <;> dsimp only <;> omega))
end Go.Proofs.Ytdndncodpepdfaa
