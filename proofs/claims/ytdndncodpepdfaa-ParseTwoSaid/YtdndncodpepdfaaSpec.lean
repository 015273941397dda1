/- What the document says of a text: how many runes, whether valid, a name, its first runes, a place's line and column. Conditions: none; nothing of the program is named here. -/
import Derived.Test.YtdndncodpepdfaaPlace
namespace Go.Proofs.Ytdndncodpepdfaa

/-! the least number that is so -/
def least (p : Nat → Bool) : Nat → Nat → Nat
  | 0, k => k
  | f + 1, k => if p k then k else least p f (k + 1)
theorem least_spec (p : Nat → Bool) : ∀ f k, (∃ j, k ≤ j ∧ j ≤ k + f ∧ p j = true) → p (least p f k) = true ∧ k ≤ least p f k ∧ ∀ j, k ≤ j → j < least p f k → p j = false
  | 0, k, ⟨j, h1, h2, h3⟩ => by
    have : j = k := by omega
    subst this
    exact ⟨h3, Nat.le_refl _, fun i a b => by unfold least at b; omega⟩
  | f + 1, k, ⟨j, h1, h2, h3⟩ => by
    unfold least
    by_cases hk : p k = true
    · rw [if_pos hk]; exact ⟨hk, Nat.le_refl _, fun i a b => by omega⟩
    · rw [if_neg hk]
      have hne : j ≠ k := fun e => hk (e ▸ h3)
      obtain ⟨a, b, c⟩ := least_spec p f (k + 1) ⟨j, by omega, by omega, h3⟩
      refine ⟨a, by omega, fun i hi1 hi2 => ?_⟩
      by_cases hik : i = k
      · subst hik; simpa using hk
      · exact c i (by omega) hi2
theorem least_eq {p : Nat → Bool} {f k : Nat} (hk : p k = true) (hlt : ∀ j, j < k → p j = false) (hf : k ≤ f) : least p f 0 = k := by
  obtain ⟨a, b, c⟩ := least_spec p f 0 ⟨k, Nat.zero_le _, by omega, hk⟩
  rcases Nat.lt_trichotomy (least p f 0) k with h | h | h
  · have := hlt _ h; rw [a] at this; cases this
  · exact h
  · have := c k (Nat.zero_le _) h; rw [hk] at this; cases this

/-! places -/
def nxt (s : ByteArray) (p : Nat) : Nat := if p < s.size then p + wd s p else p
/-- Where the k-th rune begins, counted from 0 on; the end, if there are no more. -/
def plc (s : ByteArray) : Nat → Nat
  | 0 => 0
  | k + 1 => nxt s (plc s k)
theorem plc_le (s : ByteArray) : ∀ k, plc s k ≤ s.size
  | 0 => Nat.zero_le _
  | k + 1 => by
    have ih := plc_le s k
    show nxt s (plc s k) ≤ s.size
    unfold nxt
    split
    · rename_i h; exact wd_le h
    · exact ih
theorem plc_succ {s : ByteArray} {k : Nat} (h : plc s k < s.size) : plc s (k + 1) = plc s k + wd s (plc s k) := if_pos h
theorem plc_stay {s : ByteArray} {k : Nat} (h : ¬ plc s k < s.size) : plc s (k + 1) = plc s k := if_neg h
theorem plc_lt_succ {s : ByteArray} {k : Nat} (h : plc s k < s.size) : plc s k < plc s (k + 1) := by rw [plc_succ h]; have := wd_pos h; omega
theorem plc_mono1 (s : ByteArray) (k : Nat) : plc s k ≤ plc s (k + 1) := by
  by_cases h : plc s k < s.size
  · exact Nat.le_of_lt (plc_lt_succ h)
  · rw [plc_stay h]; exact Nat.le_refl _
theorem plc_mono (s : ByteArray) {j k : Nat} (h : j ≤ k) : plc s j ≤ plc s k := by
  induction k with
  | zero => have : j = 0 := by omega
            subst this; exact Nat.le_refl _
  | succ k ih =>
    by_cases e : j = k + 1
    · subst e; exact Nat.le_refl _
    · exact Nat.le_trans (ih (by omega)) (plc_mono1 s k)
theorem plc_ge {s : ByteArray} : ∀ {k : Nat}, plc s k < s.size → k ≤ plc s k
  | 0, _ => Nat.zero_le _
  | k + 1, h => by
    have h1 : plc s k < s.size := Nat.lt_of_le_of_lt (plc_mono1 s k) h
    have := plc_ge h1
    have := plc_lt_succ h1
    omega
theorem plc_size (s : ByteArray) : plc s s.size = s.size := by
  have h := plc_le s s.size
  by_cases e : plc s s.size < s.size
  · have := plc_ge e; omega
  · omega

/-- How many runes. -/
def cnt (s : ByteArray) : Nat := least (fun k => !decide (plc s k < s.size)) s.size 0
theorem cnt_spec (s : ByteArray) : plc s (cnt s) = s.size ∧ ∀ j, j < cnt s → plc s j < s.size := by
  obtain ⟨a, _, c⟩ := least_spec (fun k => !decide (plc s k < s.size)) s.size 0 ⟨s.size, Nat.zero_le _, by omega, by simp [plc_size]⟩
  refine ⟨?_, fun j hj => ?_⟩
  · have := plc_le s (cnt s)
    have a' : ¬ plc s (cnt s) < s.size := by unfold cnt; simpa only [Bool.not_eq_true', decide_eq_false_iff_not] using a
    omega
  · have := c j (Nat.zero_le _) hj
    simpa using this
theorem lt_cnt {s : ByteArray} {k : Nat} : k < cnt s ↔ plc s k < s.size := by
  refine ⟨(cnt_spec s).2 k, fun h => ?_⟩
  rcases Nat.lt_or_ge k (cnt s) with h1 | h1
  · exact h1
  · have := plc_mono s h1; rw [(cnt_spec s).1] at this; omega
theorem cnt_le (s : ByteArray) : cnt s ≤ s.size := by
  rcases Nat.lt_or_ge s.size (cnt s) with h | h
  · have := lt_cnt.1 h; rw [plc_size] at this; omega
  · exact h
theorem plc_end {s : ByteArray} {k : Nat} (h : cnt s ≤ k) : plc s k = s.size := by
  have := plc_mono s h; rw [(cnt_spec s).1] at this
  have := plc_le s k; omega
theorem cnt_eq {s : ByteArray} {k : Nat} (h1 : ¬ plc s k < s.size) (h2 : ∀ j, j < k → plc s j < s.size) : cnt s = k := by
  rcases Nat.lt_trichotomy (cnt s) k with h | h | h
  · have := h2 _ h; rw [(cnt_spec s).1] at this; omega
  · exact h
  · exact absurd (lt_cnt.1 h) h1

/-! what the document says -/
def validS (s : ByteArray) : Bool := decide (∀ k, k < cnt s → brk s (plc s k) = false)
theorem validS_iff {s : ByteArray} : validS s = true ↔ ∀ k, k < cnt s → brk s (plc s k) = false := by unfold validS; exact decide_eq_true_iff
def inNameB (r : Nat) : Bool := decide ((97 ≤ r ∧ r ≤ 122) ∨ (65 ≤ r ∧ r ≤ 90) ∨ (48 ≤ r ∧ r ≤ 57) ∨ r = 95 ∨ 160 < r)
def mayB (s : ByteArray) (i : Nat) : Bool := !brk s i && inNameB (rn s i)
def nameS (s : ByteArray) : Bool := decide (0 < cnt s ∧ cnt s ≤ 24 ∧ ∀ k, k < cnt s → mayB s (plc s k) = true)
theorem nameS_iff {s : ByteArray} : nameS s = true ↔ (0 < cnt s ∧ cnt s ≤ 24 ∧ ∀ k, k < cnt s → mayB s (plc s k) = true) := by unfold nameS; exact decide_eq_true_iff
def cutA (s : ByteArray) (n : Nat) : ByteArray := s.extract 0 (plc s n)
def cutB (s : ByteArray) (n : Nat) : ByteArray := s.extract (plc s n) s.size
def whrS (s : ByteArray) : Nat → Nat × Nat
  | 0 => (1, 1)
  | k + 1 => if bt s (plc s k) = 10 then ((whrS s k).1 + 1, 1) else ((whrS s k).1, (whrS s k).2 + 1)
theorem whrS_le (s : ByteArray) : ∀ k, (whrS s k).1 ≤ k + 1 ∧ (whrS s k).2 ≤ k + 1
  | 0 => ⟨Nat.le_refl _, Nat.le_refl _⟩
  | k + 1 => by
    have ih := whrS_le s k
    unfold whrS
    split <;> exact ⟨by dsimp only; omega, by dsimp only; omega⟩
/-- How many runes begin ahead of a place. -/
def bef (s : ByteArray) (a : Int) : Nat := least (fun k => !decide (plc s k < s.size ∧ (plc s k : Int) < a)) s.size 0
theorem bef_eq {s : ByteArray} {a : Int} {k : Nat} (h : ¬ (plc s k < s.size ∧ (plc s k : Int) < a)) (hlt : ∀ j, j < k → plc s j < s.size ∧ (plc s j : Int) < a) : bef s a = k := by
  refine least_eq (by simp only [Bool.not_eq_true', decide_eq_false_iff_not]; exact h) (fun j hj => ?_) ?_
  · simp only [Bool.not_eq_false', decide_eq_true_eq]; exact hlt j hj
  · rcases Nat.eq_zero_or_pos k with e | e
    · omega
    · have h1 := (hlt (k - 1) (by omega)).1
      have := plc_ge h1; omega
theorem bef_cnt {s : ByteArray} {a : Int} (h : (s.size : Int) ≤ a) : bef s a = cnt s :=
  bef_eq (fun k => by rw [(cnt_spec s).1] at k; omega) fun j hj => by have := (cnt_spec s).2 j hj; exact ⟨this, by omega⟩

theorem bef_spec (s : ByteArray) (a : Int) : ¬ (plc s (bef s a) < s.size ∧ (plc s (bef s a) : Int) < a) ∧ ∀ j, j < bef s a → plc s j < s.size ∧ (plc s j : Int) < a := by
  obtain ⟨x, _, y⟩ := least_spec (fun k => !decide (plc s k < s.size ∧ (plc s k : Int) < a)) s.size 0 ⟨s.size, Nat.zero_le _, by omega, by simp [plc_size]⟩
  refine ⟨?_, fun j hj => ?_⟩
  · unfold bef; simpa only [Bool.not_eq_true', decide_eq_false_iff_not] using x
  · have := y j (Nat.zero_le _) hj
    simpa only [Bool.not_eq_false', decide_eq_true_eq] using this
theorem bef_le (s : ByteArray) (a : Int) : bef s a ≤ s.size := by
  rcases Nat.lt_or_ge s.size (bef s a) with h | h
  · have := ((bef_spec s a).2 _ h).1; rw [plc_size] at this; omega
  · exact h
/-- The bytes' class of what may stand in a name. -/
def byteB (c : Nat) : Bool := decide (c = 95 ∨ (97 ≤ c ∧ c ≤ 122) ∨ (65 ≤ c ∧ c ≤ 90) ∨ (48 ≤ c ∧ c ≤ 57))
theorem dec_cases (n b0 b1 b2 b3 : Nat) :
    (b0 < 128 ∧ dec n b0 b1 b2 b3 = (b0, 1)) ∨
    ((194 ≤ b0 ∧ b0 ≤ 223 ∧ 1 < n ∧ 128 ≤ b1 ∧ b1 ≤ 191) ∧ dec n b0 b1 b2 b3 = ((b0 % 32) * 64 + b1 % 64, 2)) ∨
    ((224 ≤ b0 ∧ b0 ≤ 239 ∧ 2 < n ∧ 128 ≤ b1 ∧ b1 ≤ 191 ∧ (b0 = 224 → 160 ≤ b1) ∧ (b0 = 237 → b1 ≤ 159) ∧ 128 ≤ b2 ∧ b2 ≤ 191) ∧ dec n b0 b1 b2 b3 = ((b0 % 16) * 4096 + (b1 % 64) * 64 + b2 % 64, 3)) ∨
    ((240 ≤ b0 ∧ b0 ≤ 244 ∧ 3 < n ∧ 128 ≤ b1 ∧ b1 ≤ 191 ∧ (b0 = 240 → 144 ≤ b1) ∧ (b0 = 244 → b1 ≤ 143) ∧ 128 ≤ b2 ∧ b2 ≤ 191 ∧ 128 ≤ b3 ∧ b3 ≤ 191) ∧ dec n b0 b1 b2 b3 = ((b0 % 8) * 262144 + (b1 % 64) * 4096 + (b2 % 64) * 64 + b3 % 64, 4)) ∨
    (128 ≤ b0 ∧ dec n b0 b1 b2 b3 = (65533, 1)) := by
  unfold dec
  by_cases c0 : b0 < 128
  · exact .inl ⟨c0, if_pos c0⟩
  rw [if_neg c0]
  split
  · exact .inr (.inl ⟨‹_›, rfl⟩)
  · split
    · exact .inr (.inr (.inl ⟨‹_›, rfl⟩))
    · split
      · exact .inr (.inr (.inr (.inl ⟨‹_›, rfl⟩)))
      · exact .inr (.inr (.inr (.inr ⟨by omega, rfl⟩)))
theorem mayB_eq {s : ByteArray} {i : Nat} (h : i < s.size) : mayB s i = if lng s i = 1 then byteB (bt s i) else decide (1 < lng s i) && (!decide (bt s i = 194) || decide (160 < bt s (i + 1))) := by
  unfold mayB lng brk rn wd
  rw [decode_dec s i h]
  rcases dec_cases (s.size - i) (bt s i) (bt s (i + 1)) (bt s (i + 2)) (bt s (i + 3)) with ⟨c, e⟩ | ⟨c, e⟩ | ⟨c, e⟩ | ⟨c, e⟩ | ⟨c, e⟩
  · have hb : decide (bt s i = 65533 ∧ 1 = 1) = false := by simp; omega
    rw [e]
    dsimp only
    rw [hb]
    unfold inNameB byteB
    rw [Bool.eq_iff_iff]
    simp
    omega
  · have hb : decide (bt s i % 32 * 64 + bt s (i + 1) % 64 = 65533 ∧ 2 = 1) = false := by simp
    rw [e]
    dsimp only
    rw [hb]
    unfold inNameB
    rw [Bool.eq_iff_iff]
    simp
    omega
  · have hb : decide (bt s i % 16 * 4096 + bt s (i + 1) % 64 * 64 + bt s (i + 2) % 64 = 65533 ∧ 3 = 1) = false := by simp
    rw [e]
    dsimp only
    rw [hb]
    unfold inNameB
    rw [Bool.eq_iff_iff]
    simp
    omega
  · have hb : decide (bt s i % 8 * 262144 + bt s (i + 1) % 64 * 4096 + bt s (i + 2) % 64 * 64 + bt s (i + 3) % 64 = 65533 ∧ 4 = 1) = false := by simp
    rw [e]
    dsimp only
    rw [hb]
    unfold inNameB
    rw [Bool.eq_iff_iff]
    simp
    omega
  · rw [e]
    simp
theorem lng_next {s : ByteArray} {i : Nat} (h : i < s.size) (hl : 1 < lng s i) : i + 1 < s.size := by
  have := wd_le h
  unfold lng at hl
  split at hl <;> omega
theorem lng_le {s : ByteArray} {i : Nat} (h : i < s.size) : lng s i ≤ 4 := by
  have := wd_le4 h
  unfold lng
  split <;> omega
theorem brk_lng {s : ByteArray} {i : Nat} (h : i < s.size) : brk s i = decide (lng s i = 0) := by
  have := wd_pos h
  unfold lng
  by_cases hb : brk s i = true
  · rw [if_pos hb, hb]; rfl
  · rw [if_neg hb]; simp only [Bool.not_eq_true] at hb; rw [hb]; symm; simp; omega
end Go.Proofs.Ytdndncodpepdfaa
