import Derived.Laws.RangeAny
import Derived.WalkKit
set_option maxRecDepth 100000
set_option maxHeartbeats 4000000
namespace Go.Proofs.YtahegpfdbgbioaaGreat
def dec (n b0 b1 b2 b3 : Nat) : Nat × Nat :=
 if b0 < 128 then (b0, 1)
 else if 194 ≤ b0 ∧ b0 ≤ 223 ∧ 1 < n ∧ 128 ≤ b1 ∧ b1 ≤ 191 then ((b0 % 32) * 64 + b1 % 64, 2)
 else if 224 ≤ b0 ∧ b0 ≤ 239 ∧ 2 < n ∧ 128 ≤ b1 ∧ b1 ≤ 191 ∧ (b0 = 224 → 160 ≤ b1) ∧ (b0 = 237 → b1 ≤ 159) ∧ 128 ≤ b2 ∧ b2 ≤ 191 then ((b0 % 16) * 4096 + (b1 % 64) * 64 + b2 % 64, 3)
 else if 240 ≤ b0 ∧ b0 ≤ 244 ∧ 3 < n ∧ 128 ≤ b1 ∧ b1 ≤ 191 ∧ (b0 = 240 → 144 ≤ b1) ∧ (b0 = 244 → b1 ≤ 143) ∧ 128 ≤ b2 ∧ b2 ≤ 191 ∧ 128 ≤ b3 ∧ b3 ≤ 191 then ((b0 % 8) * 262144 + (b1 % 64) * 4096 + (b2 % 64) * 64 + b3 % 64, 4)
 else (65533, 1)
def bt (s : ByteArray) (i : Nat) : Nat := (s.get! i).toNat
theorem bt_lt (s : ByteArray) (i : Nat) : bt s i < 256 := (s.get! i).toNat_lt
theorem bt_eq (s : ByteArray) (i : Nat) (h : i < s.size) : bt s i = (s[i]'h).toNat := by
 have := get_at s i h
 rw [Nat.add_zero] at this
 unfold bt; rw [this]
theorem decode_dec (s : ByteArray) (i : Nat) (h : i < s.size) : Utf8.decode s i = dec (s.size - i) (bt s i) (bt s (i + 1)) (bt s (i + 2)) (bt s (i + 3)) := by
 have h0 := bt_lt s i
 have h1 := bt_lt s (i + 1)
 have h2 := bt_lt s (i + 2)
 have h3 := bt_lt s (i + 3)
 have e : Utf8.decode s i =
  (if bt s i < 0x80 then (bt s i, 1)
  else if bt s i / 32 == 6 && (decide (i + 1 < s.size) && bt s (i + 1) / 64 == 2) then
   (if (bt s i % 32) * 64 + bt s (i + 1) % 64 ≥ 0x80 then ((bt s i % 32) * 64 + bt s (i + 1) % 64, 2) else (Utf8.runeError, 1))
  else if bt s i / 16 == 14 && (decide (i + 1 < s.size) && bt s (i + 1) / 64 == 2) && (decide (i + 2 < s.size) && bt s (i + 2) / 64 == 2) then
   (if (bt s i % 16) * 4096 + (bt s (i + 1) % 64) * 64 + bt s (i + 2) % 64 ≥ 0x800 && Utf8.valid ((bt s i % 16) * 4096 + (bt s (i + 1) % 64) * 64 + bt s (i + 2) % 64 : Nat) then ((bt s i % 16) * 4096 + (bt s (i + 1) % 64) * 64 + bt s (i + 2) % 64, 3) else (Utf8.runeError, 1))
  else if bt s i / 8 == 30 && (decide (i + 1 < s.size) && bt s (i + 1) / 64 == 2) && (decide (i + 2 < s.size) && bt s (i + 2) / 64 == 2) && (decide (i + 3 < s.size) && bt s (i + 3) / 64 == 2) then
   (if (bt s i % 8) * 262144 + (bt s (i + 1) % 64) * 4096 + (bt s (i + 2) % 64) * 64 + bt s (i + 3) % 64 ≥ 0x10000 && Utf8.valid ((bt s i % 8) * 262144 + (bt s (i + 1) % 64) * 4096 + (bt s (i + 2) % 64) * 64 + bt s (i + 3) % 64 : Nat) then ((bt s i % 8) * 262144 + (bt s (i + 1) % 64) * 4096 + (bt s (i + 2) % 64) * 64 + bt s (i + 3) % 64, 4) else (Utf8.runeError, 1))
  else (Utf8.runeError, 1)) := rfl
 rw [e]
 generalize bt s i = b0 at *
 generalize bt s (i + 1) = b1 at *
 generalize bt s (i + 2) = b2 at *
 generalize bt s (i + 3) = b3 at *
 unfold dec
 by_cases c0 : b0 < 128
 · rw [if_pos c0, if_pos c0]
 rw [if_neg c0, if_neg c0]
 by_cases c1 : 1 < s.size - i ∧ 128 ≤ b1 ∧ b1 ≤ 191
 · have k1 : (decide (i + 1 < s.size) && b1 / 64 == 2) = true := by simp; omega
   rw [k1]
   by_cases c2 : 2 < s.size - i ∧ 128 ≤ b2 ∧ b2 ≤ 191
   · have k2 : (decide (i + 2 < s.size) && b2 / 64 == 2) = true := by simp; omega
     rw [k2]
     by_cases c3 : 3 < s.size - i ∧ 128 ≤ b3 ∧ b3 ≤ 191
     · have k3 : (decide (i + 3 < s.size) && b3 / 64 == 2) = true := by simp; omega
       rw [k3]
       simp only [Bool.and_true, Utf8.runeError, Utf8.valid, ge_iff_le, Bool.and_eq_true, Bool.or_eq_true, beq_iff_eq, decide_eq_true_eq]
       repeat' split
       all_goals (first | with_reducible rfl | (exfalso; omega) | (refine Prod.ext ?_ ?_ <;> dsimp only <;> omega))
     · have k3 : (decide (i + 3 < s.size) && b3 / 64 == 2) = false := by simp; omega
       rw [k3]
       simp only [Bool.and_true, Bool.and_false, Utf8.runeError, Utf8.valid, ge_iff_le, Bool.and_eq_true, Bool.or_eq_true, beq_iff_eq, decide_eq_true_eq, Bool.false_eq_true, if_false]
       repeat' split
       all_goals (first | with_reducible rfl | (exfalso; omega) | (refine Prod.ext ?_ ?_ <;> dsimp only <;> omega))
   · have k2 : (decide (i + 2 < s.size) && b2 / 64 == 2) = false := by simp; omega
     rw [k2]
     simp only [Bool.and_true, Bool.and_false, Bool.false_and, Utf8.runeError, Utf8.valid, ge_iff_le, Bool.and_eq_true, Bool.or_eq_true, beq_iff_eq, decide_eq_true_eq, Bool.false_eq_true, if_false]
     repeat' split
     all_goals (first | with_reducible rfl | (exfalso; omega) | (refine Prod.ext ?_ ?_ <;> dsimp only <;> omega))
 · have k1 : (decide (i + 1 < s.size) && b1 / 64 == 2) = false := by simp; omega
   rw [k1]
   simp only [Bool.and_false, Bool.false_and, Bool.false_eq_true, if_false, Utf8.runeError]
   repeat' split
   all_goals (first | with_reducible rfl | (exfalso; omega) | (refine Prod.ext ?_ ?_ <;> dsimp only <;> omega))
def rn (s : ByteArray) (i : Nat) : Nat := (Utf8.decode s i).1
def wd (s : ByteArray) (i : Nat) : Nat := (Utf8.decode s i).2
def brk (s : ByteArray) (i : Nat) : Bool := decide (rn s i = 65533 ∧ wd s i = 1)
def lng (s : ByteArray) (i : Nat) : Nat := if brk s i then 0 else wd s i
def inB (s : ByteArray) (i lo hi : Nat) : Bool := decide (i < s.size ∧ lo ≤ bt s i ∧ bt s i ≤ hi)
theorem dec_facts (n b0 b1 b2 b3 : Nat) (h : 0 < n) (hb : b0 < 256) : 1 ≤ (dec n b0 b1 b2 b3).2 ∧ (dec n b0 b1 b2 b3).2 ≤ n ∧ (dec n b0 b1 b2 b3).2 ≤ 4 ∧ (dec n b0 b1 b2 b3).1 ≤ 1114111 ∧ (128 ≤ b0 → 128 ≤ (dec n b0 b1 b2 b3).1) ∧ (b0 < 128 → dec n b0 b1 b2 b3 = (b0, 1)) := by
 unfold dec
 repeat' split
 all_goals (refine ⟨?_, ?_, ?_, ?_, ?_, ?_⟩ <;> (try dsimp only) <;> first | omega | (intro hh; exfalso; omega) | (intro hh; with_reducible rfl))
theorem wd_pos {s : ByteArray} {i : Nat} (h : i < s.size) : 1 ≤ wd s i := by unfold wd; rw [decode_dec s i h]; exact (dec_facts _ _ _ _ _ (by omega) (bt_lt s i)).1
theorem wd_le {s : ByteArray} {i : Nat} (h : i < s.size) : i + wd s i ≤ s.size := by unfold wd; rw [decode_dec s i h]; have := (dec_facts (s.size - i) _ (bt s (i + 1)) (bt s (i + 2)) (bt s (i + 3)) (by omega) (bt_lt s i)).2.1; omega
theorem wd_le4 {s : ByteArray} {i : Nat} (h : i < s.size) : wd s i ≤ 4 := by unfold wd; rw [decode_dec s i h]; exact (dec_facts _ _ _ _ _ (by omega) (bt_lt s i)).2.2.1
theorem rn_high {s : ByteArray} {i : Nat} (h : i < s.size) (hb : 128 ≤ bt s i) : 128 ≤ rn s i := by unfold rn; rw [decode_dec s i h]; exact (dec_facts _ _ _ _ _ (by omega) (bt_lt s i)).2.2.2.2.1 hb
theorem dec_low {s : ByteArray} {i : Nat} (h : i < s.size) (hb : bt s i < 128) : rn s i = bt s i ∧ wd s i = 1 := by unfold rn wd; rw [decode_dec s i h, (dec_facts _ _ _ _ _ (by omega) (bt_lt s i)).2.2.2.2.2 hb]; exact ⟨rfl, rfl⟩
def lngp (p : Nat × Nat) : Nat := if p.1 = 65533 ∧ p.2 = 1 then 0 else p.2
theorem lngp_low {b : Nat} (h : b < 128) : lngp (b, 1) = 1 := by unfold lngp; rw [if_neg (by dsimp only; omega)]
theorem lng_eq {s : ByteArray} {i : Nat} (h : i < s.size) : lng s i =
 if bt s i < 128 then 1
 else if 194 ≤ bt s i ∧ bt s i ≤ 223 then (if inB s (i + 1) 128 191 then 2 else 0)
 else if 224 ≤ bt s i ∧ bt s i ≤ 239 then (if (if bt s i = 224 then inB s (i + 1) 160 191 else if bt s i = 237 then inB s (i + 1) 128 159 else inB s (i + 1) 128 191) && inB s (i + 2) 128 191 then 3 else 0)
 else if 240 ≤ bt s i ∧ bt s i ≤ 244 then (if (if bt s i = 240 then inB s (i + 1) 144 191 else if bt s i = 244 then inB s (i + 1) 128 143 else inB s (i + 1) 128 191) && inB s (i + 2) 128 191 && inB s (i + 3) 128 191 then 4 else 0)
 else 0 := by
 have e1 : (i + 1 < s.size) = (1 < s.size - i) := by apply propext; omega
 have e2 : (i + 2 < s.size) = (2 < s.size - i) := by apply propext; omega
 have e3 : (i + 3 < s.size) = (3 < s.size - i) := by apply propext; omega
 have hb := bt_lt s i
 have el : lng s i = lngp (Utf8.decode s i) := by unfold lng brk rn wd lngp; simp only [decide_eq_true_eq]
 rw [el, decode_dec s i h]
 unfold inB
 simp only [e1, e2, e3]
 generalize s.size - i = n
 generalize bt s i = b0 at *
 generalize bt s (i + 1) = b1 at *
 generalize bt s (i + 2) = b2 at *
 generalize bt s (i + 3) = b3 at *
 clear h e1 e2 e3 el
 unfold dec
 by_cases c0 : b0 < 128
 · rw [if_pos c0, if_pos c0, lngp_low c0]
 rw [if_neg c0, if_neg c0]
 by_cases c1 : 194 ≤ b0 ∧ b0 ≤ 223
 · rw [if_pos c1]
   by_cases d : 1 < n ∧ 128 ≤ b1 ∧ b1 ≤ 191
   · rw [if_pos ⟨c1.1, c1.2, d⟩, decide_eq_true d]
     simp [lngp]
   · rw [if_neg (fun k => d k.2.2), if_neg (by omega), if_neg (by omega), decide_eq_false d]
     simp [lngp]
 rw [if_neg c1, if_neg (fun k => c1 ⟨k.1, k.2.1⟩)]
 by_cases c2 : 224 ≤ b0 ∧ b0 ≤ 239
 · rw [if_pos c2]
   by_cases d : 2 < n ∧ 128 ≤ b1 ∧ b1 ≤ 191 ∧ (b0 = 224 → 160 ≤ b1) ∧ (b0 = 237 → b1 ≤ 159) ∧ 128 ≤ b2 ∧ b2 ≤ 191
   · rw [if_pos ⟨c2.1, c2.2, d⟩, if_pos]
     · simp [lngp]
     simp only [Bool.and_eq_true, decide_eq_true_eq]
     refine ⟨?_, by omega⟩
     repeat' split
     all_goals (simp only [decide_eq_true_eq]; omega)
   · rw [if_neg (fun k => d k.2.2), if_neg (by omega), if_neg]
     · simp [lngp]
     simp only [Bool.and_eq_true, decide_eq_true_eq]
     intro k
     obtain ⟨k1, k2⟩ := k
     repeat' split at k1
     all_goals (simp only [decide_eq_true_eq] at k1; omega)
 rw [if_neg c2, if_neg (fun k => c2 ⟨k.1, k.2.1⟩)]
 by_cases c3 : 240 ≤ b0 ∧ b0 ≤ 244
 · rw [if_pos c3]
   by_cases d : 3 < n ∧ 128 ≤ b1 ∧ b1 ≤ 191 ∧ (b0 = 240 → 144 ≤ b1) ∧ (b0 = 244 → b1 ≤ 143) ∧ 128 ≤ b2 ∧ b2 ≤ 191 ∧ 128 ≤ b3 ∧ b3 ≤ 191
   · rw [if_pos ⟨c3.1, c3.2, d⟩, if_pos]
     · simp [lngp]
     simp only [Bool.and_eq_true, decide_eq_true_eq]
     refine ⟨⟨?_, by omega⟩, by omega⟩
     repeat' split
     all_goals (simp only [decide_eq_true_eq]; omega)
   · rw [if_neg (fun k => d k.2.2), if_neg]
     · simp [lngp]
     simp only [Bool.and_eq_true, decide_eq_true_eq]
     intro k
     obtain ⟨⟨k1, k2⟩, k3⟩ := k
     repeat' split at k1
     all_goals (simp only [decide_eq_true_eq] at k1; omega)
 rw [if_neg c3, if_neg (fun k => c3 ⟨k.1, k.2.1⟩)]
 simp [lngp]
theorem brk_eq {s : ByteArray} {i : Nat} (h : i < s.size) : brk s i = (decide (rn s i = 65533) && !decide (i + 3 ≤ s.size ∧ bt s i = 239 ∧ bt s (i + 1) = 191 ∧ bt s (i + 2) = 189)) := by
 have e2 : (i + 3 ≤ s.size) = (2 < s.size - i) := by apply propext; omega
 unfold brk rn wd
 simp only [decode_dec s i h, e2]
 generalize s.size - i = n
 generalize bt s i = b0 at *
 generalize bt s (i + 1) = b1 at *
 generalize bt s (i + 2) = b2 at *
 generalize bt s (i + 3) = b3 at *
 rw [Bool.eq_iff_iff]
 simp only [Bool.and_eq_true, Bool.not_eq_true', decide_eq_true_eq, decide_eq_false_iff_not]
 unfold dec
 repeat' split
 all_goals (dsimp only; omega)
def least (p : Nat → Bool) : Nat → Nat → Nat
 | 0, k => k
 | f + 1, k => if p k then k else least p f (k + 1)
theorem least_spec (p : Nat → Bool) : ∀ f k, (∃ j, k ≤ j ∧ j ≤ k + f ∧ p j = true) → p (least p f k) = true ∧ k ≤ least p f k ∧ ∀ j, k ≤ j → j < least p f k → p j = false
 | 0, k, ⟨j, h1, h2, h3⟩ => by
  have : j = k := by omega
  subst this
  exact ⟨h3, Nat.le_refl _, fun i a b => by unfold least at b; omega⟩
 | f + 1, k, ⟨j, h1, h2, h3⟩ => by
  unfold least
  by_cases hk : p k = true
  · rw [if_pos hk]; exact ⟨hk, Nat.le_refl _, fun i a b => by omega⟩
  · rw [if_neg hk]
    have hne : j ≠ k := fun e => hk (e ▸ h3)
    obtain ⟨a, b, c⟩ := least_spec p f (k + 1) ⟨j, by omega, by omega, h3⟩
    refine ⟨a, by omega, fun i hi1 hi2 => ?_⟩
    by_cases hik : i = k
    · subst hik; simpa using hk
    · exact c i (by omega) hi2
theorem least_eq {p : Nat → Bool} {f k : Nat} (hk : p k = true) (hlt : ∀ j, j < k → p j = false) (hf : k ≤ f) : least p f 0 = k := by
 obtain ⟨a, b, c⟩ := least_spec p f 0 ⟨k, Nat.zero_le _, by omega, hk⟩
 rcases Nat.lt_trichotomy (least p f 0) k with h | h | h
 · have := hlt _ h; rw [a] at this; cases this
 · exact h
 · have := c k (Nat.zero_le _) h; rw [hk] at this; cases this
def nxt (s : ByteArray) (p : Nat) : Nat := if p < s.size then p + wd s p else p
def plc (s : ByteArray) : Nat → Nat
 | 0 => 0
 | k + 1 => nxt s (plc s k)
theorem plc_le (s : ByteArray) : ∀ k, plc s k ≤ s.size
 | 0 => Nat.zero_le _
 | k + 1 => by
  have ih := plc_le s k
  show nxt s (plc s k) ≤ s.size
  unfold nxt
  split
  · rename_i h; exact wd_le h
  · exact ih
theorem plc_succ {s : ByteArray} {k : Nat} (h : plc s k < s.size) : plc s (k + 1) = plc s k + wd s (plc s k) := if_pos h
theorem plc_stay {s : ByteArray} {k : Nat} (h : ¬ plc s k < s.size) : plc s (k + 1) = plc s k := if_neg h
theorem plc_lt_succ {s : ByteArray} {k : Nat} (h : plc s k < s.size) : plc s k < plc s (k + 1) := by rw [plc_succ h]; have := wd_pos h; omega
theorem plc_mono1 (s : ByteArray) (k : Nat) : plc s k ≤ plc s (k + 1) := by
 by_cases h : plc s k < s.size
 · exact Nat.le_of_lt (plc_lt_succ h)
 · rw [plc_stay h]; exact Nat.le_refl _
theorem plc_mono (s : ByteArray) {j k : Nat} (h : j ≤ k) : plc s j ≤ plc s k := by
 induction k with
 | zero => have : j = 0 := by omega
           subst this; exact Nat.le_refl _
 | succ k ih =>
  by_cases e : j = k + 1
  · subst e; exact Nat.le_refl _
  · exact Nat.le_trans (ih (by omega)) (plc_mono1 s k)
theorem plc_ge {s : ByteArray} : ∀ {k : Nat}, plc s k < s.size → k ≤ plc s k
 | 0, _ => Nat.zero_le _
 | k + 1, h => by
  have h1 : plc s k < s.size := Nat.lt_of_le_of_lt (plc_mono1 s k) h
  have := plc_ge h1
  have := plc_lt_succ h1
  omega
theorem plc_size (s : ByteArray) : plc s s.size = s.size := by
 have h := plc_le s s.size
 by_cases e : plc s s.size < s.size
 · have := plc_ge e; omega
 · omega
def cnt (s : ByteArray) : Nat := least (fun k => !decide (plc s k < s.size)) s.size 0
theorem cnt_spec (s : ByteArray) : plc s (cnt s) = s.size ∧ ∀ j, j < cnt s → plc s j < s.size := by
 obtain ⟨a, _, c⟩ := least_spec (fun k => !decide (plc s k < s.size)) s.size 0 ⟨s.size, Nat.zero_le _, by omega, by simp [plc_size]⟩
 refine ⟨?_, fun j hj => ?_⟩
 · have := plc_le s (cnt s)
   have a' : ¬ plc s (cnt s) < s.size := by unfold cnt; simpa only [Bool.not_eq_true', decide_eq_false_iff_not] using a
   omega
 · have := c j (Nat.zero_le _) hj
   simpa using this
theorem lt_cnt {s : ByteArray} {k : Nat} : k < cnt s ↔ plc s k < s.size := by
 refine ⟨(cnt_spec s).2 k, fun h => ?_⟩
 rcases Nat.lt_or_ge k (cnt s) with h1 | h1
 · exact h1
 · have := plc_mono s h1; rw [(cnt_spec s).1] at this; omega
theorem cnt_le (s : ByteArray) : cnt s ≤ s.size := by
 rcases Nat.lt_or_ge s.size (cnt s) with h | h
 · have := lt_cnt.1 h; rw [plc_size] at this; omega
 · exact h
theorem plc_end {s : ByteArray} {k : Nat} (h : cnt s ≤ k) : plc s k = s.size := by
 have := plc_mono s h; rw [(cnt_spec s).1] at this
 have := plc_le s k; omega
theorem cnt_eq {s : ByteArray} {k : Nat} (h1 : ¬ plc s k < s.size) (h2 : ∀ j, j < k → plc s j < s.size) : cnt s = k := by
 rcases Nat.lt_trichotomy (cnt s) k with h | h | h
 · have := h2 _ h; rw [(cnt_spec s).1] at this; omega
 · exact h
 · exact absurd (lt_cnt.1 h) h1
def validS (s : ByteArray) : Bool := decide (∀ k, k < cnt s → brk s (plc s k) = false)
theorem validS_iff {s : ByteArray} : validS s = true ↔ ∀ k, k < cnt s → brk s (plc s k) = false := by unfold validS; exact decide_eq_true_iff
def inNameB (r : Nat) : Bool := decide ((97 ≤ r ∧ r ≤ 122) ∨ (65 ≤ r ∧ r ≤ 90) ∨ (48 ≤ r ∧ r ≤ 57) ∨ r = 95 ∨ 160 < r)
def mayB (s : ByteArray) (i : Nat) : Bool := !brk s i && inNameB (rn s i)
def nameS (s : ByteArray) : Bool := decide (0 < cnt s ∧ cnt s ≤ 24 ∧ ∀ k, k < cnt s → mayB s (plc s k) = true)
theorem nameS_iff {s : ByteArray} : nameS s = true ↔ (0 < cnt s ∧ cnt s ≤ 24 ∧ ∀ k, k < cnt s → mayB s (plc s k) = true) := by unfold nameS; exact decide_eq_true_iff
def cutA (s : ByteArray) (n : Nat) : ByteArray := s.extract 0 (plc s n)
def cutB (s : ByteArray) (n : Nat) : ByteArray := s.extract (plc s n) s.size
def byteB (c : Nat) : Bool := decide (c = 95 ∨ (97 ≤ c ∧ c ≤ 122) ∨ (65 ≤ c ∧ c ≤ 90) ∨ (48 ≤ c ∧ c ≤ 57))
theorem dec_cases (n b0 b1 b2 b3 : Nat) :
 (b0 < 128 ∧ dec n b0 b1 b2 b3 = (b0, 1)) ∨
 ((194 ≤ b0 ∧ b0 ≤ 223 ∧ 1 < n ∧ 128 ≤ b1 ∧ b1 ≤ 191) ∧ dec n b0 b1 b2 b3 = ((b0 % 32) * 64 + b1 % 64, 2)) ∨
 ((224 ≤ b0 ∧ b0 ≤ 239 ∧ 2 < n ∧ 128 ≤ b1 ∧ b1 ≤ 191 ∧ (b0 = 224 → 160 ≤ b1) ∧ (b0 = 237 → b1 ≤ 159) ∧ 128 ≤ b2 ∧ b2 ≤ 191) ∧ dec n b0 b1 b2 b3 = ((b0 % 16) * 4096 + (b1 % 64) * 64 + b2 % 64, 3)) ∨
 ((240 ≤ b0 ∧ b0 ≤ 244 ∧ 3 < n ∧ 128 ≤ b1 ∧ b1 ≤ 191 ∧ (b0 = 240 → 144 ≤ b1) ∧ (b0 = 244 → b1 ≤ 143) ∧ 128 ≤ b2 ∧ b2 ≤ 191 ∧ 128 ≤ b3 ∧ b3 ≤ 191) ∧ dec n b0 b1 b2 b3 = ((b0 % 8) * 262144 + (b1 % 64) * 4096 + (b2 % 64) * 64 + b3 % 64, 4)) ∨
 (128 ≤ b0 ∧ dec n b0 b1 b2 b3 = (65533, 1)) := by
 unfold dec
 by_cases c0 : b0 < 128
 · exact .inl ⟨c0, if_pos c0⟩
 rw [if_neg c0]
 split
 · exact .inr (.inl ⟨‹_›, rfl⟩)
 · split
   · exact .inr (.inr (.inl ⟨‹_›, rfl⟩))
   · split
     · exact .inr (.inr (.inr (.inl ⟨‹_›, rfl⟩)))
     · exact .inr (.inr (.inr (.inr ⟨by omega, rfl⟩)))
theorem mayB_eq {s : ByteArray} {i : Nat} (h : i < s.size) : mayB s i = if lng s i = 1 then byteB (bt s i) else decide (1 < lng s i) && (!decide (bt s i = 194) || decide (160 < bt s (i + 1))) := by
 unfold mayB lng brk rn wd
 rw [decode_dec s i h]
 rcases dec_cases (s.size - i) (bt s i) (bt s (i + 1)) (bt s (i + 2)) (bt s (i + 3)) with ⟨c, e⟩ | ⟨c, e⟩ | ⟨c, e⟩ | ⟨c, e⟩ | ⟨c, e⟩
 · have hb : decide (bt s i = 65533 ∧ 1 = 1) = false := by simp; omega
   rw [e]
   dsimp only
   rw [hb]
   unfold inNameB byteB
   rw [Bool.eq_iff_iff]
   simp
   omega
 · have hb : decide (bt s i % 32 * 64 + bt s (i + 1) % 64 = 65533 ∧ 2 = 1) = false := by simp
   rw [e]
   dsimp only
   rw [hb]
   unfold inNameB
   rw [Bool.eq_iff_iff]
   simp
   omega
 · have hb : decide (bt s i % 16 * 4096 + bt s (i + 1) % 64 * 64 + bt s (i + 2) % 64 = 65533 ∧ 3 = 1) = false := by simp
   rw [e]
   dsimp only
   rw [hb]
   unfold inNameB
   rw [Bool.eq_iff_iff]
   simp
   omega
 · have hb : decide (bt s i % 8 * 262144 + bt s (i + 1) % 64 * 4096 + bt s (i + 2) % 64 * 64 + bt s (i + 3) % 64 = 65533 ∧ 4 = 1) = false := by simp
   rw [e]
   dsimp only
   rw [hb]
   unfold inNameB
   rw [Bool.eq_iff_iff]
   simp
   omega
 · rw [e]
   simp
theorem lng_next {s : ByteArray} {i : Nat} (h : i < s.size) (hl : 1 < lng s i) : i + 1 < s.size := by
 have := wd_le h
 unfold lng at hl
 split at hl <;> omega
theorem lng_le {s : ByteArray} {i : Nat} (h : i < s.size) : lng s i ≤ 4 := by
 have := wd_le4 h
 unfold lng
 split <;> omega
theorem bt_list (s : ByteArray) (i : Nat) (h : i < s.size) : s.data.toList[i]? = some (UInt8.ofNat (bt s i)) := by
 rw [bt_eq s i h]
 have : i < s.data.toList.length := by simpa using h
 rw [List.getElem?_eq_getElem this]
 simp
 rfl
theorem bt_ext {a b : ByteArray} (h : a.size = b.size) (he : ∀ k, k < a.size → bt a k = bt b k) : a = b := by
 refine ByteArray.ext_getElem h fun i h1 h2 => ?_
 have := he i h1
 rw [bt_eq a i h1, bt_eq b i h2] at this
 exact UInt8.toNat_inj.1 this
theorem size_ext (s : ByteArray) (a b : Nat) : (s.extract a b).size = min b s.size - a := by simp
theorem bt_ext_get (s : ByteArray) (a b k : Nat) (h : a + k < min b s.size) : bt (s.extract a b) k = bt s (a + k) := by
 have h1 : k < (s.extract a b).size := by rw [size_ext]; omega
 have h2 : a + k < s.size := by omega
 rw [bt_eq _ k h1, bt_eq s _ h2]
 simp [ByteArray.getElem_extract]
theorem size_app (a b : ByteArray) : (a ++ b).size = a.size + b.size := by simp
theorem bt_app_left (a b : ByteArray) (k : Nat) (h : k < a.size) : bt (a ++ b) k = bt a k := by
 rw [bt_eq _ k (by rw [size_app]; omega), bt_eq a k h, ByteArray.getElem_append_left h]
theorem bt_app_right (a b : ByteArray) (k : Nat) (h : k < b.size) : bt (a ++ b) (a.size + k) = bt b k := by
 rw [bt_eq _ _ (by rw [size_app]; omega), bt_eq b k h, ByteArray.getElem_append_right (by omega)]
 simp
theorem ext_all (s : ByteArray) : s.extract 0 s.size = s := bt_ext (by rw [size_ext]; omega) fun k hk => by rw [size_ext] at hk; rw [bt_ext_get _ _ _ _ (by omega), Nat.zero_add]
theorem app_left (a b : ByteArray) : (a ++ b).extract 0 a.size = a := by
 refine bt_ext (by rw [size_ext, size_app]; omega) fun k hk => ?_
 rw [size_ext, size_app] at hk
 rw [bt_ext_get _ _ _ _ (by rw [size_app]; omega), Nat.zero_add, bt_app_left _ _ _ (by omega)]
theorem app_right (a b : ByteArray) : (a ++ b).extract a.size (a ++ b).size = b := by
 refine bt_ext (by rw [size_ext, size_app]; omega) fun k hk => ?_
 rw [size_ext, size_app] at hk
 rw [bt_ext_get _ _ _ _ (by rw [size_app]; omega), bt_app_right _ _ _ (by omega)]
theorem toList_inj {a b : ByteArray} : (a.toList == b.toList) = decide (a = b) := by
 rw [Bool.eq_iff_iff]
 simp only [beq_iff_eq, decide_eq_true_eq]
 constructor
 · intro h
   rw [ByteArray.toList_eq, ByteArray.toList_eq] at h
   exact ByteArray.ext (Array.toList_inj.1 h)
 · intro h; rw [h]
theorem toList_eq_true {a b : ByteArray} (h : a = b) : (a.toList == b.toList) = true := by subst h; simp
theorem toList_ne {a b : ByteArray} (h : ¬ a = b) : (a.toList == b.toList) = false := by rw [toList_inj]; exact decide_eq_false h
theorem list_ne {s : ByteArray} (h : 0 < s.size) : (!s.toList.isEmpty) = true := by
 rw [ByteArray.toList_eq]
 have hl : 0 < s.data.toList.length := by simpa using h
 revert hl
 cases s.data.toList with
 | nil => intro hl; exact absurd hl (Nat.not_lt_zero _)
 | cons a r => intro _; rfl
theorem list_ne2 {s : ByteArray} (h : 0 < s.size) : s.toList.isEmpty = false := by have := list_ne h; simpa using this
def sBad : ByteArray := ⟨#[239, 191, 189]⟩
theorem sBad_size : sBad.size = 3 := rfl
theorem pre_bad {s : ByteArray} {i : Nat} (h : i < s.size) : decide (sBad.size ≤ (s.extract i s.size).size ∧ (s.extract i s.size).extract 0 sBad.size = sBad) = decide (i + 3 ≤ s.size ∧ bt s i = 239 ∧ bt s (i + 1) = 191 ∧ bt s (i + 2) = 189) := by
 rw [Bool.eq_iff_iff]
 simp only [decide_eq_true_eq, sBad_size, size_ext]
 have hsz : ∀ k, k < min 3 (s.size - i) → bt ((s.extract i s.size).extract 0 3) k = bt s (i + k) := fun k hk => by
  rw [bt_ext_get _ _ _ _ (by rw [size_ext]; omega), bt_ext_get _ _ _ _ (by omega), Nat.zero_add]
 constructor
 · rintro ⟨h1, h2⟩
   refine ⟨by omega, ?_, ?_, ?_⟩
   · have := hsz 0 (by omega); rw [h2] at this; exact this.symm
   · have := hsz 1 (by omega); rw [h2] at this; exact this.symm
   · have := hsz 2 (by omega); rw [h2] at this; exact this.symm
 · rintro ⟨h1, h2, h3, h4⟩
   refine ⟨by omega, bt_ext (by rw [size_ext, size_ext, sBad_size]; omega) fun k hk => ?_⟩
   rw [size_ext, size_ext] at hk
   rw [hsz k (by omega)]
   obtain rfl | rfl | rfl : k = 0 ∨ k = 1 ∨ k = 2 := by omega
   · rw [Nat.add_zero, h2]; rfl
   · rw [h3]; rfl
   · rw [h4]; rfl
theorem dec_congr {n b0 b1 b2 b3 c1 c2 c3 : Nat} (h1 : 1 < n → b1 = c1) (h2 : 2 < n → b2 = c2) (h3 : 3 < n → b3 = c3) : dec n b0 b1 b2 b3 = dec n b0 c1 c2 c3 := by
 by_cases n1 : 1 < n
 · rw [h1 n1]
   by_cases n2 : 2 < n
   · rw [h2 n2]
     by_cases n3 : 3 < n
     · rw [h3 n3]
     · have e : ∀ x y, dec n b0 c1 c2 x = dec n b0 c1 c2 y := fun x y => by
        unfold dec
        simp only [n3, false_and, and_false, if_false]
       exact e _ _
   · have n3 : ¬ 3 < n := by omega
     have e : ∀ x y x' y', dec n b0 c1 x y = dec n b0 c1 x' y' := fun x y x' y' => by
      unfold dec
      simp only [n2, n3, false_and, and_false, if_false]
     exact e _ _ _ _
 · have n2 : ¬ 2 < n := by omega
   have n3 : ¬ 3 < n := by omega
   have e : ∀ z x y z' x' y', dec n b0 z x y = dec n b0 z' x' y' := fun z x y z' x' y' => by
    unfold dec
    simp only [n1, n2, n3, false_and, and_false, if_false]
   exact e _ _ _ _ _ _
theorem dec_pre (n m b0 b1 b2 b3 : Nat) (hn : n ≤ m) : dec n b0 b1 b2 b3 = dec m b0 b1 b2 b3 ∨ (dec n b0 b1 b2 b3 = (65533, 1) ∧ n < (dec m b0 b1 b2 b3).2) := by
 rcases dec_cases m b0 b1 b2 b3 with ⟨c, e⟩ | ⟨c, e⟩ | ⟨c, e⟩ | ⟨c, e⟩ | ⟨c, e⟩
 · left; rw [e]; unfold dec; rw [if_pos c]
 · by_cases h : 1 < n
   · left; rw [e]; unfold dec; rw [if_neg (by omega), if_pos (by omega)]
   · right; rw [e]; unfold dec; rw [if_neg (by omega), if_neg (by omega), if_neg (by omega), if_neg (by omega)]; exact ⟨rfl, by dsimp only; omega⟩
 · by_cases h : 2 < n
   · left; rw [e]; unfold dec; rw [if_neg (by omega), if_neg (by omega), if_pos (by omega)]
   · right; rw [e]; unfold dec; rw [if_neg (by omega), if_neg (by omega), if_neg (by omega), if_neg (by omega)]; exact ⟨rfl, by dsimp only; omega⟩
 · by_cases h : 3 < n
   · left; rw [e]; unfold dec; rw [if_neg (by omega), if_neg (by omega), if_neg (by omega), if_pos (by omega)]
   · right; rw [e]; unfold dec; rw [if_neg (by omega), if_neg (by omega), if_neg (by omega), if_neg (by omega)]; exact ⟨rfl, by dsimp only; omega⟩
 · left
   rcases dec_cases n b0 b1 b2 b3 with ⟨c', e'⟩ | ⟨c', e'⟩ | ⟨c', e'⟩ | ⟨c', e'⟩ | ⟨c', e'⟩
   · omega
   · exfalso; revert e; unfold dec; rw [if_neg (by omega), if_pos (by omega)]; simp
   · exfalso; revert e; unfold dec; rw [if_neg (by omega), if_neg (by omega), if_pos (by omega)]; simp
   · exfalso; revert e; unfold dec; rw [if_neg (by omega), if_neg (by omega), if_neg (by omega), if_pos (by omega)]; simp
   · rw [e', e]
theorem decode_suf {s t : ByteArray} {p i : Nat} (hz : p + t.size = s.size) (hb : ∀ j, j < t.size → bt t j = bt s (p + j)) (hi : i < t.size) : Utf8.decode t i = Utf8.decode s (p + i) := by
 rw [decode_dec t i hi, decode_dec s (p + i) (by omega), hb i hi, show s.size - (p + i) = t.size - i from by omega]
 refine dec_congr (fun h => ?_) (fun h => ?_) (fun h => ?_)
 · rw [hb _ (by omega), Nat.add_assoc]
 · rw [hb _ (by omega), Nat.add_assoc]
 · rw [hb _ (by omega), Nat.add_assoc]
theorem decode_pre {s t : ByteArray} {i : Nat} (hz : t.size ≤ s.size) (hb : ∀ j, j < t.size → bt t j = bt s j) (hi : i < t.size) :
 Utf8.decode t i = Utf8.decode s i ∨ (Utf8.decode t i = (65533, 1) ∧ t.size < i + wd s i) := by
 have h1 : Utf8.decode t i = dec (t.size - i) (bt s i) (bt s (i + 1)) (bt s (i + 2)) (bt s (i + 3)) := by
  rw [decode_dec t i hi, hb i hi]
  exact dec_congr (fun h => hb _ (by omega)) (fun h => hb _ (by omega)) (fun h => hb _ (by omega))
 have h2 : Utf8.decode s i = dec (s.size - i) (bt s i) (bt s (i + 1)) (bt s (i + 2)) (bt s (i + 3)) := decode_dec s i (by omega)
 unfold wd
 rw [h1, h2]
 rcases dec_pre (t.size - i) (s.size - i) (bt s i) (bt s (i + 1)) (bt s (i + 2)) (bt s (i + 3)) (by omega) with h | ⟨h, h'⟩
 · exact .inl h
 · exact .inr ⟨h, by omega⟩
theorem plc_pre {s t : ByteArray} {k : Nat} (ht : t.size = plc s k) (hb : ∀ j, j < t.size → bt t j = bt s j) : ∀ j, j ≤ k → plc t j = plc s j
 | 0, _ => rfl
 | j + 1, hj => by
  have ih := plc_pre ht hb j (by omega)
  have hle := plc_le s k
  by_cases h : plc t j < t.size
  · have hs : plc s j < s.size := by omega
    rw [plc_succ h, plc_succ hs, ih]
    have hm : plc s (j + 1) ≤ plc s k := plc_mono s hj
    rw [plc_succ hs] at hm
    rcases decode_pre (s := s) (t := t) (i := plc s j) (by omega) hb (by omega) with e | ⟨_, e⟩
    · unfold wd; rw [e]
    · omega
  · have h1 := plc_le t j
    have hm : plc s (j + 1) ≤ plc s k := plc_mono s hj
    have hm2 := plc_mono1 s j
    rw [plc_stay h]; omega
theorem dec_same_pre {s t : ByteArray} {k j : Nat} (ht : t.size = plc s k) (hb : ∀ j, j < t.size → bt t j = bt s j) (hj : plc s j < plc s k) : Utf8.decode t (plc s j) = Utf8.decode s (plc s j) := by
 have hle := plc_le s k
 have hs : plc s j < s.size := by omega
 have hjk : j + 1 ≤ k := by
  rcases Nat.lt_or_ge j k with h | h
  · omega
  · have := plc_mono s h; omega
 have hm : plc s (j + 1) ≤ plc s k := plc_mono s hjk
 rw [plc_succ hs] at hm
 rcases decode_pre (s := s) (t := t) (i := plc s j) (by omega) hb (by omega) with e | ⟨_, e⟩
 · exact e
 · omega
theorem cnt_pre {s t : ByteArray} {k : Nat} (ht : t.size = plc s k) (hb : ∀ j, j < t.size → bt t j = bt s j) : cnt t = min k (cnt s) := by
 have hp := plc_pre ht hb
 refine cnt_eq ?_ fun j hj => ?_
 · rw [hp _ (Nat.min_le_left _ _), ht]
   rcases Nat.lt_or_ge k (cnt s) with h | h
   · rw [Nat.min_eq_left (Nat.le_of_lt h)]; omega
   · rw [Nat.min_eq_right h, plc_end h, (cnt_spec s).1]; omega
 · rw [hp _ (by omega), ht]
   have h1 := (cnt_spec s).2 j (by omega)
   have h2 := plc_lt_succ h1
   have h3 := plc_mono s (show j + 1 ≤ k by omega)
   omega
theorem plc_suf {s t : ByteArray} {k : Nat} (hz : plc s k + t.size = s.size) (hb : ∀ j, j < t.size → bt t j = bt s (plc s k + j)) : ∀ j, plc s k + plc t j = plc s (k + j)
 | 0 => rfl
 | j + 1 => by
  have ih := plc_suf hz hb j
  by_cases h : plc t j < t.size
  · have hs : plc s (k + j) < s.size := by omega
    rw [← Nat.add_assoc, plc_succ h, plc_succ hs, ← ih]
    unfold wd
    rw [decode_suf hz hb h]
    omega
  · rw [← Nat.add_assoc, plc_stay h, plc_stay (by omega), ih]
theorem cnt_suf {s t : ByteArray} {k : Nat} (hz : plc s k + t.size = s.size) (hb : ∀ j, j < t.size → bt t j = bt s (plc s k + j)) : cnt t = cnt s - k := by
 have hp := plc_suf hz hb
 refine cnt_eq ?_ fun j hj => ?_
 · have h := hp (cnt s - k)
   rw [plc_end (s := s) (k := k + (cnt s - k)) (by omega)] at h
   omega
 · have h := hp j
   have := lt_cnt.1 (show k + j < cnt s by omega)
   omega
theorem cutA_size (s : ByteArray) (n : Nat) : (cutA s n).size = plc s n := by unfold cutA; rw [size_ext]; have := plc_le s n; omega
theorem cutA_bt (s : ByteArray) (n : Nat) : ∀ j, j < (cutA s n).size → bt (cutA s n) j = bt s j := fun j hj => by
 rw [cutA_size] at hj
 have := plc_le s n
 unfold cutA
 rw [bt_ext_get _ _ _ _ (by omega), Nat.zero_add]
theorem cutB_size (s : ByteArray) (n : Nat) : plc s n + (cutB s n).size = s.size := by unfold cutB; rw [size_ext]; have := plc_le s n; omega
theorem cutB_bt (s : ByteArray) (n : Nat) : ∀ j, j < (cutB s n).size → bt (cutB s n) j = bt s (plc s n + j) := fun j hj => by
 have := cutB_size s n
 unfold cutB
 rw [bt_ext_get _ _ _ _ (by omega)]
theorem cnt_cutA (s : ByteArray) (n : Nat) : cnt (cutA s n) = min n (cnt s) := cnt_pre (cutA_size s n) (cutA_bt s n)
theorem cnt_cutB (s : ByteArray) (n : Nat) : cnt (cutB s n) = cnt s - n := cnt_suf (cutB_size s n) (cutB_bt s n)
theorem plc_cutB (s : ByteArray) (n j : Nat) : plc s n + plc (cutB s n) j = plc s (n + j) := plc_suf (cutB_size s n) (cutB_bt s n) j
theorem cutB_cutB (s : ByteArray) (n m : Nat) : cutB (cutB s n) m = cutB s (n + m) := by
 have h1 := plc_cutB s n m
 have h2 := cutB_size s n
 have h3 := cutB_size (cutB s n) m
 have h4 := cutB_size s (n + m)
 refine bt_ext (by omega) fun k hk => ?_
 rw [cutB_bt _ _ k hk, cutB_bt _ _ _ (by omega), cutB_bt _ _ k (by omega)]
 congr 1
 omega
theorem cutB_zero (s : ByteArray) : cutB s 0 = s := by unfold cutB; exact ext_all s
theorem cutA_zero (s : ByteArray) : cutA s 0 = ⟨#[]⟩ := bt_ext (by rw [cutA_size]; rfl) fun k hk => by rw [cutA_size] at hk; exact absurd hk (Nat.not_lt_zero _)
section
variable {a b : ByteArray}
theorem dec_app (hv : validS a = true) {j : Nat} (hj : j < cnt a) : Utf8.decode (a ++ b) (plc a j) = Utf8.decode a (plc a j) := by
 have hl := lt_cnt.1 hj
 rcases decode_pre (s := a ++ b) (t := a) (i := plc a j) (by rw [size_app]; omega) (fun k hk => (bt_app_left a b k hk).symm) hl with e | ⟨e, _⟩
 · exact e.symm
 · have := validS_iff.1 hv j hj
   unfold brk rn wd at this
   rw [e] at this
   simp at this
theorem plc_app (hv : validS a = true) : ∀ j, j ≤ cnt a → plc (a ++ b) j = plc a j
 | 0, _ => rfl
 | j + 1, hj => by
  have ih := plc_app hv j (by omega)
  have hl := lt_cnt.1 (show j < cnt a by omega)
  rw [plc_succ hl, plc_succ (by rw [ih, size_app]; omega), ih]
  unfold wd
  rw [dec_app hv (by omega)]
theorem plc_app_end (hv : validS a = true) : plc (a ++ b) (cnt a) = a.size := by rw [plc_app hv _ (Nat.le_refl _), (cnt_spec a).1]
theorem app_cutA (hv : validS a = true) : cutA (a ++ b) (cnt a) = a := by unfold cutA; rw [plc_app_end hv]; exact app_left a b
theorem app_cutB (hv : validS a = true) : cutB (a ++ b) (cnt a) = b := by unfold cutB; rw [plc_app_end hv]; exact app_right a b
theorem cnt_app (hv : validS a = true) : cnt (a ++ b) = cnt a + cnt b := by
 have h1 := cnt_cutA (a ++ b) (cnt a)
 have h2 := cnt_cutB (a ++ b) (cnt a)
 rw [app_cutA hv] at h1
 rw [app_cutB hv] at h2
 omega
theorem plc_app_right (hv : validS a = true) (j : Nat) : plc (a ++ b) (cnt a + j) = a.size + plc b j := by
 have h := plc_cutB (a ++ b) (cnt a) j
 rw [plc_app_end hv, app_cutB hv] at h
 exact h.symm
theorem dec_app_right (hv : validS a = true) {j : Nat} (hj : j < cnt b) : Utf8.decode (a ++ b) (plc (a ++ b) (cnt a + j)) = Utf8.decode b (plc b j) := by
 rw [plc_app_right hv]
 exact (decode_suf (s := a ++ b) (t := b) (p := a.size) (by rw [size_app]) (fun k hk => (bt_app_right a b k hk).symm) (lt_cnt.1 hj)).symm
theorem valid_app (hv : validS a = true) : validS (a ++ b) = validS b := by
 rw [Bool.eq_iff_iff, validS_iff, validS_iff, cnt_app hv]
 constructor
 · intro h k hk
   have := h (cnt a + k) (by omega)
   unfold brk rn wd at this ⊢
   rwa [dec_app_right hv hk] at this
 · intro h k hk
   unfold brk rn wd
   by_cases hl : k < cnt a
   · rw [plc_app hv k (by omega), dec_app hv hl]
     exact validS_iff.1 hv k hl
   · obtain ⟨j, rfl⟩ : ∃ j, k = cnt a + j := ⟨k - cnt a, by omega⟩
     rw [dec_app_right hv (by omega)]
     exact h j (by omega)
end
def sOne (n : Nat) : ByteArray := ⟨#[UInt8.ofNat n]⟩
theorem sOne_size (n : Nat) : (sOne n).size = 1 := rfl
theorem sOne_bt {n : Nat} (h : n < 256) : bt (sOne n) 0 = n := by
 show (UInt8.ofNat n).toNat = n
 simp; omega
theorem cnt_pos {s : ByteArray} (h : 0 < s.size) : 0 < cnt s := lt_cnt.2 h
theorem sOne_cnt (n : Nat) : cnt (sOne n) = 1 := by
 have h1 := cnt_pos (s := sOne n) (by rw [sOne_size]; omega)
 have h2 := cnt_le (sOne n)
 rw [sOne_size] at h2
 omega
theorem may_low {s : ByteArray} {i : Nat} (h : i < s.size) (hb : bt s i < 128) : mayB s i = byteB (bt s i) := by
 have hl : lng s i = 1 := by rw [lng_eq h, if_pos hb]
 rw [mayB_eq h, if_pos hl]
theorem may_one {n : Nat} (h : n < 256) : mayB (sOne n) 0 = byteB n := by
 by_cases hn : n < 128
 · rw [may_low (by rw [sOne_size]; omega) (by rw [sOne_bt h]; exact hn), sOne_bt h]
 · have hs : 0 < (sOne n).size := by rw [sOne_size]; omega
   have e : Utf8.decode (sOne n) 0 = (65533, 1) := by
    rw [decode_dec _ 0 hs, sOne_bt h, sOne_size]
    rcases dec_cases (1 - 0) n (bt (sOne n) (0 + 1)) (bt (sOne n) (0 + 2)) (bt (sOne n) (0 + 3)) with ⟨c, e⟩ | ⟨c, e⟩ | ⟨c, e⟩ | ⟨c, e⟩ | ⟨c, e⟩
    · omega
    · omega
    · omega
    · omega
    · exact e
   have hb : brk (sOne n) 0 = true := by unfold brk rn wd; rw [e]; rfl
   unfold mayB
   rw [hb]
   symm
   unfold byteB
   simp
   omega
theorem name_one {n : Nat} (h : n < 256) : nameS (sOne n) = byteB n := by
 rw [Bool.eq_iff_iff, nameS_iff, sOne_cnt]
 constructor
 · rintro ⟨_, _, ha⟩
   have := ha 0 (by omega)
   rw [← may_one h]; exact this
 · intro hb
   refine ⟨by omega, by omega, fun k hk => ?_⟩
   obtain rfl : k = 0 := by omega
   show mayB (sOne n) 0 = true
   rw [may_one h]; exact hb
theorem name_valid {s : ByteArray} (h : nameS s = true) : validS s = true := by
 rw [validS_iff]
 intro k hk
 have := (nameS_iff.1 h).2.2 k hk
 unfold mayB at this
 simp at this
 exact this.1
theorem name_app {a b : ByteArray} (ha : nameS a = true) (hb : nameS b = true) : nameS (a ++ b) = decide (cnt a + cnt b ≤ 24) := by
 have hv := name_valid ha
 have h1 := nameS_iff.1 ha
 have h2 := nameS_iff.1 hb
 rw [Bool.eq_iff_iff, nameS_iff, cnt_app hv, decide_eq_true_iff]
 refine ⟨fun h => h.2.1, fun h => ⟨by omega, h, fun k hk => ?_⟩⟩
 unfold mayB brk rn wd
 by_cases hl : k < cnt a
 · rw [plc_app hv k (by omega), dec_app hv hl]
   exact h1.2.2 k hl
 · obtain ⟨j, rfl⟩ : ∃ j, k = cnt a + j := ⟨k - cnt a, by omega⟩
   rw [dec_app_right hv (by omega)]
   exact h2.2.2 j (by omega)
theorem rune_at {s : ByteArray} {k : Nat} : ∀ m, k < plc s m → ∃ j, plc s j ≤ k ∧ k < plc s (j + 1)
 | 0, h => absurd h (Nat.not_lt_zero _)
 | m + 1, h => by
  by_cases hm : k < plc s m
  · exact rune_at m hm
  · exact ⟨m, by omega, h⟩
theorem inner_byte {s : ByteArray} {p k : Nat} (hp : p < s.size) (h1 : p < k) (h2 : k < p + wd s p) : 128 ≤ bt s k ∧ bt s k ≤ 191 := by
 unfold wd at h2
 rw [decode_dec s p hp] at h2
 rcases dec_cases (s.size - p) (bt s p) (bt s (p + 1)) (bt s (p + 2)) (bt s (p + 3)) with ⟨c, e⟩ | ⟨c, e⟩ | ⟨c, e⟩ | ⟨c, e⟩ | ⟨c, e⟩
 · rw [e] at h2; dsimp only at h2; omega
 · rw [e] at h2
   dsimp only at h2
   obtain rfl : k = p + 1 := by omega
   omega
 · rw [e] at h2
   dsimp only at h2
   obtain rfl | rfl : k = p + 1 ∨ k = p + 2 := by omega
   · omega
   · omega
 · rw [e] at h2
   dsimp only at h2
   obtain rfl | rfl | rfl : k = p + 1 ∨ k = p + 2 ∨ k = p + 3 := by omega
   · omega
   · omega
   · omega
 · rw [e] at h2; dsimp only at h2; omega
theorem nil_size {s : ByteArray} (h : s.size = 0) : s = ⟨#[]⟩ := bt_ext h fun k hk => by omega
def sNl : ByteArray := ⟨#[10]⟩
end Go.Proofs.YtahegpfdbgbioaaGreat
namespace Go.Proofs.YtahegpfdbgbioaaGreat
def less (a b : ByteArray) : Bool := Op.bytesLess a.toList b.toList
theorem bl_pre : ∀ (p x y : List UInt8), Op.bytesLess (p ++ x) (p ++ y) = Op.bytesLess x y
 | [], _, _ => rfl
 | c :: p, x, y => by
  show (decide (c < c) || (c == c && Op.bytesLess (p ++ x) (p ++ y))) = _
  rw [bl_pre p x y]
  simp
theorem take_eq {a b : ByteArray} {m : Nat} (ha : m ≤ a.size) (hb : m ≤ b.size) (h : ∀ j, j < m → bt a j = bt b j) : a.data.toList.take m = b.data.toList.take m := by
 refine List.ext_getElem? fun i => ?_
 rw [List.getElem?_take, List.getElem?_take]
 split
 · rw [bt_list a i (by omega), bt_list b i (by omega), h i ‹_›]
 · rfl
theorem less_drop {a b : ByteArray} {m : Nat} (ha : m ≤ a.size) (hb : m ≤ b.size) (h : ∀ j, j < m → bt a j = bt b j) : less a b = Op.bytesLess (a.data.toList.drop m) (b.data.toList.drop m) := by
 unfold less
 rw [ByteArray.toList_eq, ByteArray.toList_eq]
 have e1 := List.take_append_drop m a.data.toList
 have e2 := List.take_append_drop m b.data.toList
 have e3 : Op.bytesLess a.data.toList b.data.toList = Op.bytesLess (a.data.toList.take m ++ a.data.toList.drop m) (b.data.toList.take m ++ b.data.toList.drop m) := by rw [e1, e2]
 rw [e3, take_eq ha hb h, bl_pre]
theorem drop_end {a : ByteArray} {m : Nat} (h : a.size ≤ m) : a.data.toList.drop m = [] := List.drop_eq_nil_of_le (by simpa using h)
theorem less_right {a b : ByteArray} (hz : b.size ≤ a.size) (h : ∀ j, j < b.size → bt a j = bt b j) : less a b = false := by
 rw [less_drop hz (Nat.le_refl _) h, drop_end (a := b) (Nat.le_refl _)]
 cases a.data.toList.drop b.size <;> rfl
section
variable {a b : ByteArray}
end
end Go.Proofs.YtahegpfdbgbioaaGreat
