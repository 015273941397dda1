/- Where a string's runes begin, how many there are, and what stands there. Conditions: none; nothing of the program is named here. -/
import Derived.Test.YtdndncodpepdfaaRune
namespace Go.Proofs.Ytdndncodpepdfaa

def rn (s : ByteArray) (i : Nat) : Nat := (Utf8.decode s i).1
def wd (s : ByteArray) (i : Nat) : Nat := (Utf8.decode s i).2
/-- A broken byte stands there. -/
def brk (s : ByteArray) (i : Nat) : Bool := decide (rn s i = 65533 ∧ wd s i = 1)
/-- How many bytes the rune there has; 0: it is broken. -/
def lng (s : ByteArray) (i : Nat) : Nat := if brk s i then 0 else wd s i
def inB (s : ByteArray) (i lo hi : Nat) : Bool := decide (i < s.size ∧ lo ≤ bt s i ∧ bt s i ≤ hi)

theorem dec_facts (n b0 b1 b2 b3 : Nat) (h : 0 < n) (hb : b0 < 256) : 1 ≤ (dec n b0 b1 b2 b3).2 ∧ (dec n b0 b1 b2 b3).2 ≤ n ∧ (dec n b0 b1 b2 b3).2 ≤ 4 ∧ (dec n b0 b1 b2 b3).1 ≤ 1114111 ∧ (128 ≤ b0 → 128 ≤ (dec n b0 b1 b2 b3).1) ∧ (b0 < 128 → dec n b0 b1 b2 b3 = (b0, 1)) := by
  unfold dec
  repeat' split
  all_goals (refine ⟨?_, ?_, ?_, ?_, ?_, ?_⟩ <;> (try dsimp only) <;> first | omega | (intro hh; exfalso; omega) | (intro hh; with_reducible rfl))
theorem wd_pos {s : ByteArray} {i : Nat} (h : i < s.size) : 1 ≤ wd s i := by unfold wd; rw [decode_dec s i h]; exact (dec_facts _ _ _ _ _ (by omega) (bt_lt s i)).1
theorem wd_le {s : ByteArray} {i : Nat} (h : i < s.size) : i + wd s i ≤ s.size := by unfold wd; rw [decode_dec s i h]; have := (dec_facts (s.size - i) _ (bt s (i + 1)) (bt s (i + 2)) (bt s (i + 3)) (by omega) (bt_lt s i)).2.1; omega
theorem wd_le4 {s : ByteArray} {i : Nat} (h : i < s.size) : wd s i ≤ 4 := by unfold wd; rw [decode_dec s i h]; exact (dec_facts _ _ _ _ _ (by omega) (bt_lt s i)).2.2.1
theorem rn_le {s : ByteArray} {i : Nat} (h : i < s.size) : rn s i ≤ 1114111 := by unfold rn; rw [decode_dec s i h]; exact (dec_facts _ _ _ _ _ (by omega) (bt_lt s i)).2.2.2.1
theorem rn_high {s : ByteArray} {i : Nat} (h : i < s.size) (hb : 128 ≤ bt s i) : 128 ≤ rn s i := by unfold rn; rw [decode_dec s i h]; exact (dec_facts _ _ _ _ _ (by omega) (bt_lt s i)).2.2.2.2.1 hb
theorem dec_low {s : ByteArray} {i : Nat} (h : i < s.size) (hb : bt s i < 128) : rn s i = bt s i ∧ wd s i = 1 := by unfold rn wd; rw [decode_dec s i h, (dec_facts _ _ _ _ _ (by omega) (bt_lt s i)).2.2.2.2.2 hb]; exact ⟨rfl, rfl⟩
theorem rn_small {s : ByteArray} {i c : Nat} (h : i < s.size) (hc : c < 128) : rn s i = c ↔ bt s i = c := by
  by_cases hb : bt s i < 128
  · rw [(dec_low h hb).1]
  · have := rn_high h (by omega); omega

def lngp (p : Nat × Nat) : Nat := if p.1 = 65533 ∧ p.2 = 1 then 0 else p.2
theorem lngp_low {b : Nat} (h : b < 128) : lngp (b, 1) = 1 := by unfold lngp; rw [if_neg (by dsimp only; omega)]
/-- What is broken, in the document's words. -/
theorem lng_eq {s : ByteArray} {i : Nat} (h : i < s.size) : lng s i =
    if bt s i < 128 then 1
    else if 194 ≤ bt s i ∧ bt s i ≤ 223 then (if inB s (i + 1) 128 191 then 2 else 0)
    else if 224 ≤ bt s i ∧ bt s i ≤ 239 then (if (if bt s i = 224 then inB s (i + 1) 160 191 else if bt s i = 237 then inB s (i + 1) 128 159 else inB s (i + 1) 128 191) && inB s (i + 2) 128 191 then 3 else 0)
    else if 240 ≤ bt s i ∧ bt s i ≤ 244 then (if (if bt s i = 240 then inB s (i + 1) 144 191 else if bt s i = 244 then inB s (i + 1) 128 143 else inB s (i + 1) 128 191) && inB s (i + 2) 128 191 && inB s (i + 3) 128 191 then 4 else 0)
    else 0 := by
  have e1 : (i + 1 < s.size) = (1 < s.size - i) := by apply propext; omega
  have e2 : (i + 2 < s.size) = (2 < s.size - i) := by apply propext; omega
  have e3 : (i + 3 < s.size) = (3 < s.size - i) := by apply propext; omega
  have hb := bt_lt s i
  have el : lng s i = lngp (Utf8.decode s i) := by unfold lng brk rn wd lngp; simp only [decide_eq_true_eq]
  rw [el, decode_dec s i h]
  unfold inB
  simp only [e1, e2, e3]
  generalize s.size - i = n
  generalize bt s i = b0 at *
  generalize bt s (i + 1) = b1 at *
  generalize bt s (i + 2) = b2 at *
  generalize bt s (i + 3) = b3 at *
  clear h e1 e2 e3 el
  unfold dec
  by_cases c0 : b0 < 128
  · rw [if_pos c0, if_pos c0, lngp_low c0]
  rw [if_neg c0, if_neg c0]
  by_cases c1 : 194 ≤ b0 ∧ b0 ≤ 223
  · rw [if_pos c1]
    by_cases d : 1 < n ∧ 128 ≤ b1 ∧ b1 ≤ 191
    · rw [if_pos ⟨c1.1, c1.2, d⟩, decide_eq_true d]
      simp [lngp]
    · rw [if_neg (fun k => d k.2.2), if_neg (by omega), if_neg (by omega), decide_eq_false d]
      simp [lngp]
  rw [if_neg c1, if_neg (fun k => c1 ⟨k.1, k.2.1⟩)]
  by_cases c2 : 224 ≤ b0 ∧ b0 ≤ 239
  · rw [if_pos c2]
    by_cases d : 2 < n ∧ 128 ≤ b1 ∧ b1 ≤ 191 ∧ (b0 = 224 → 160 ≤ b1) ∧ (b0 = 237 → b1 ≤ 159) ∧ 128 ≤ b2 ∧ b2 ≤ 191
    · rw [if_pos ⟨c2.1, c2.2, d⟩, if_pos]
      · simp [lngp]
      simp only [Bool.and_eq_true, decide_eq_true_eq]
      refine ⟨?_, by omega⟩
      repeat' split
      all_goals (simp only [decide_eq_true_eq]; omega)
    · rw [if_neg (fun k => d k.2.2), if_neg (by omega), if_neg]
      · simp [lngp]
      simp only [Bool.and_eq_true, decide_eq_true_eq]
      intro k
      obtain ⟨k1, k2⟩ := k
      repeat' split at k1
      all_goals (simp only [decide_eq_true_eq] at k1; omega)
  rw [if_neg c2, if_neg (fun k => c2 ⟨k.1, k.2.1⟩)]
  by_cases c3 : 240 ≤ b0 ∧ b0 ≤ 244
  · rw [if_pos c3]
    by_cases d : 3 < n ∧ 128 ≤ b1 ∧ b1 ≤ 191 ∧ (b0 = 240 → 144 ≤ b1) ∧ (b0 = 244 → b1 ≤ 143) ∧ 128 ≤ b2 ∧ b2 ≤ 191 ∧ 128 ≤ b3 ∧ b3 ≤ 191
    · rw [if_pos ⟨c3.1, c3.2, d⟩, if_pos]
      · simp [lngp]
      simp only [Bool.and_eq_true, decide_eq_true_eq]
      refine ⟨⟨?_, by omega⟩, by omega⟩
      repeat' split
      all_goals (simp only [decide_eq_true_eq]; omega)
    · rw [if_neg (fun k => d k.2.2), if_neg]
      · simp [lngp]
      simp only [Bool.and_eq_true, decide_eq_true_eq]
      intro k
      obtain ⟨⟨k1, k2⟩, k3⟩ := k
      repeat' split at k1
      all_goals (simp only [decide_eq_true_eq] at k1; omega)
  rw [if_neg c3, if_neg (fun k => c3 ⟨k.1, k.2.1⟩)]
  simp [lngp]

/-- The rune 65533 itself stands there, or a broken byte. -/
theorem brk_eq {s : ByteArray} {i : Nat} (h : i < s.size) : brk s i = (decide (rn s i = 65533) && !decide (i + 3 ≤ s.size ∧ bt s i = 239 ∧ bt s (i + 1) = 191 ∧ bt s (i + 2) = 189)) := by
  have e2 : (i + 3 ≤ s.size) = (2 < s.size - i) := by apply propext; omega
  unfold brk rn wd
  simp only [decode_dec s i h, e2]
  generalize s.size - i = n
  generalize bt s i = b0 at *
  generalize bt s (i + 1) = b1 at *
  generalize bt s (i + 2) = b2 at *
  generalize bt s (i + 3) = b3 at *
  rw [Bool.eq_iff_iff]
  simp only [Bool.and_eq_true, Bool.not_eq_true', decide_eq_true_eq, decide_eq_false_iff_not]
  unfold dec
  repeat' split
  all_goals (dsimp only; omega)
end Go.Proofs.Ytdndncodpepdfaa
