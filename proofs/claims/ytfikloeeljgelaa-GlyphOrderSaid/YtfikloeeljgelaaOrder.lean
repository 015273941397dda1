/- Valid texts stand byte by byte as they do rune by rune. Conditions: none; nothing of the program is named here. -/
import Derived.Test.YtfikloeeljgelaaJoin
namespace Go.Proofs.Ytfikloeeljgelaa

def less (a b : ByteArray) : Bool := Op.bytesLess a.toList b.toList
theorem bl_pre : ∀ (p x y : List UInt8), Op.bytesLess (p ++ x) (p ++ y) = Op.bytesLess x y
  | [], _, _ => rfl
  | c :: p, x, y => by
    show (decide (c < c) || (c == c && Op.bytesLess (p ++ x) (p ++ y))) = _
    rw [bl_pre p x y]
    simp
theorem take_eq {a b : ByteArray} {m : Nat} (ha : m ≤ a.size) (hb : m ≤ b.size) (h : ∀ j, j < m → bt a j = bt b j) : a.data.toList.take m = b.data.toList.take m := by
  refine List.ext_getElem? fun i => ?_
  rw [List.getElem?_take, List.getElem?_take]
  split
  · rw [bt_list a i (by omega), bt_list b i (by omega), h i ‹_›]
  · rfl
theorem less_drop {a b : ByteArray} {m : Nat} (ha : m ≤ a.size) (hb : m ≤ b.size) (h : ∀ j, j < m → bt a j = bt b j) : less a b = Op.bytesLess (a.data.toList.drop m) (b.data.toList.drop m) := by
  unfold less
  rw [ByteArray.toList_eq, ByteArray.toList_eq]
  have e1 := List.take_append_drop m a.data.toList
  have e2 := List.take_append_drop m b.data.toList
  have e3 : Op.bytesLess a.data.toList b.data.toList = Op.bytesLess (a.data.toList.take m ++ a.data.toList.drop m) (b.data.toList.take m ++ b.data.toList.drop m) := by rw [e1, e2]
  rw [e3, take_eq ha hb h, bl_pre]
theorem drop_head {a : ByteArray} {m : Nat} (h : m < a.size) : a.data.toList.drop m = UInt8.ofNat (bt a m) :: a.data.toList.drop (m + 1) := by
  have hl : m < a.data.toList.length := by simpa using h
  rw [List.drop_eq_getElem_cons hl]
  congr 1
  have := bt_list a m h
  rw [List.getElem?_eq_getElem hl] at this
  exact Option.some.inj this
theorem drop_end {a : ByteArray} {m : Nat} (h : a.size ≤ m) : a.data.toList.drop m = [] := List.drop_eq_nil_of_le (by simpa using h)
theorem u8_lt {x y : Nat} (hx : x < 256) (hy : y < 256) : (UInt8.ofNat x < UInt8.ofNat y) ↔ x < y := by
  rw [UInt8.lt_iff_toNat_lt]; simp; omega
theorem u8_eq {x y : Nat} (hx : x < 256) (hy : y < 256) (h : UInt8.ofNat x = UInt8.ofNat y) : x = y := by
  have := congrArg UInt8.toNat h; simp at this; omega
theorem less_at {a b : ByteArray} {m : Nat} (ha : m < a.size) (hb : m < b.size) (h : ∀ j, j < m → bt a j = bt b j) (hne : bt a m ≠ bt b m) : less a b = decide (bt a m < bt b m) := by
  rw [less_drop (by omega) (by omega) h, drop_head ha, drop_head hb]
  have h1 := bt_lt a m
  have h2 := bt_lt b m
  show (decide (UInt8.ofNat (bt a m) < UInt8.ofNat (bt b m)) || (UInt8.ofNat (bt a m) == UInt8.ofNat (bt b m) && _)) = _
  have hf : (UInt8.ofNat (bt a m) == UInt8.ofNat (bt b m)) = false := by
    rw [beq_eq_false_iff_ne]; exact fun e => hne (u8_eq h1 h2 e)
  rw [hf, Bool.false_and, Bool.or_false, Bool.eq_iff_iff, decide_eq_true_iff, decide_eq_true_iff]
  exact u8_lt h1 h2
theorem less_left {a b : ByteArray} (hz : a.size ≤ b.size) (h : ∀ j, j < a.size → bt a j = bt b j) : less a b = decide (a.size < b.size) := by
  rw [less_drop (Nat.le_refl _) hz h, drop_end (Nat.le_refl _)]
  rcases Nat.lt_or_ge a.size b.size with hl | hl
  · rw [drop_head hl, decide_eq_true hl]; rfl
  · rw [drop_end hl, decide_eq_false (by omega)]; rfl
theorem less_right {a b : ByteArray} (hz : b.size ≤ a.size) (h : ∀ j, j < b.size → bt a j = bt b j) : less a b = false := by
  rw [less_drop hz (Nat.le_refl _) h, drop_end (a := b) (Nat.le_refl _)]
  cases a.data.toList.drop b.size <;> rfl

/-! one rune against another -/
theorem dec_lin (n b0 b1 b2 b3 : Nat) (hb : ¬ ((dec n b0 b1 b2 b3).1 = 65533 ∧ (dec n b0 b1 b2 b3).2 = 1)) :
    (b0 < 128 ∧ dec n b0 b1 b2 b3 = (b0, 1)) ∨
    (∃ x y, b0 = 192 + x ∧ b1 = 128 + y ∧ 2 ≤ x ∧ x < 32 ∧ y < 64 ∧ dec n b0 b1 b2 b3 = (x * 64 + y, 2)) ∨
    (∃ x y z, b0 = 224 + x ∧ b1 = 128 + y ∧ b2 = 128 + z ∧ x < 16 ∧ y < 64 ∧ z < 64 ∧ 2048 ≤ x * 4096 + y * 64 + z ∧ dec n b0 b1 b2 b3 = (x * 4096 + y * 64 + z, 3)) ∨
    (∃ x y z t, b0 = 240 + x ∧ b1 = 128 + y ∧ b2 = 128 + z ∧ b3 = 128 + t ∧ x < 5 ∧ y < 64 ∧ z < 64 ∧ t < 64 ∧ 65536 ≤ x * 262144 + y * 4096 + z * 64 + t ∧ dec n b0 b1 b2 b3 = (x * 262144 + y * 4096 + z * 64 + t, 4)) := by
  rcases dec_cases n b0 b1 b2 b3 with ⟨c, e⟩ | ⟨c, e⟩ | ⟨c, e⟩ | ⟨c, e⟩ | ⟨c, e⟩
  · exact .inl ⟨c, e⟩
  · refine .inr (.inl ⟨b0 - 192, b1 - 128, by omega, by omega, by omega, by omega, by omega, ?_⟩)
    rw [e, show b0 % 32 = b0 - 192 by omega, show b1 % 64 = b1 - 128 by omega]
  · refine .inr (.inr (.inl ⟨b0 - 224, b1 - 128, b2 - 128, by omega, by omega, by omega, by omega, by omega, by omega, by omega, ?_⟩))
    rw [e, show b0 % 16 = b0 - 224 by omega, show b1 % 64 = b1 - 128 by omega, show b2 % 64 = b2 - 128 by omega]
  · refine .inr (.inr (.inr ⟨b0 - 240, b1 - 128, b2 - 128, b3 - 128, by omega, by omega, by omega, by omega, by omega, by omega, by omega, by omega, by omega, ?_⟩))
    rw [e, show b0 % 8 = b0 - 240 by omega, show b1 % 64 = b1 - 128 by omega, show b2 % 64 = b2 - 128 by omega, show b3 % 64 = b3 - 128 by omega]
  · rw [e] at hb; exact absurd ⟨rfl, rfl⟩ hb
/-- Of two runes that aren't broken: the same, or their bytes part, at the first that differs as the runes do. -/
theorem dec_order (n m b0 b1 b2 b3 c0 c1 c2 c3 : Nat) (hb : ¬ ((dec n b0 b1 b2 b3).1 = 65533 ∧ (dec n b0 b1 b2 b3).2 = 1)) (hc : ¬ ((dec m c0 c1 c2 c3).1 = 65533 ∧ (dec m c0 c1 c2 c3).2 = 1)) :
    ((dec n b0 b1 b2 b3).1 = (dec m c0 c1 c2 c3).1 → (dec n b0 b1 b2 b3).2 = (dec m c0 c1 c2 c3).2 ∧ b0 = c0 ∧ (1 < (dec n b0 b1 b2 b3).2 → b1 = c1) ∧ (2 < (dec n b0 b1 b2 b3).2 → b2 = c2) ∧ (3 < (dec n b0 b1 b2 b3).2 → b3 = c3)) ∧
    ((dec n b0 b1 b2 b3).1 < (dec m c0 c1 c2 c3).1 → b0 < c0 ∨ (b0 = c0 ∧ (dec n b0 b1 b2 b3).2 = (dec m c0 c1 c2 c3).2 ∧ 1 < (dec n b0 b1 b2 b3).2 ∧ (b1 < c1 ∨ (b1 = c1 ∧ 2 < (dec n b0 b1 b2 b3).2 ∧ (b2 < c2 ∨ (b2 = c2 ∧ 3 < (dec n b0 b1 b2 b3).2 ∧ b3 < c3)))))) := by
  rcases dec_lin n b0 b1 b2 b3 hb with ⟨p, e⟩ | ⟨x, y, p1, p2, p3, p4, p5, e⟩ | ⟨x, y, z, p1, p2, p3, p4, p5, p6, p7, e⟩ | ⟨x, y, z, t, p1, p2, p3, p4, p5, p6, p7, p8, p9, e⟩ <;>
  rcases dec_lin m c0 c1 c2 c3 hc with ⟨q, f⟩ | ⟨x', y', q1, q2, q3, q4, q5, f⟩ | ⟨x', y', z', q1, q2, q3, q4, q5, q6, q7, f⟩ | ⟨x', y', z', t', q1, q2, q3, q4, q5, q6, q7, q8, q9, f⟩ <;>
  (rw [e, f]; dsimp only; clear e f hb hc; constructor) <;> omega

theorem not_brk {s : ByteArray} {i : Nat} (h : i < s.size) (hb : brk s i = false) : ¬ ((dec (s.size - i) (bt s i) (bt s (i + 1)) (bt s (i + 2)) (bt s (i + 3))).1 = 65533 ∧ (dec (s.size - i) (bt s i) (bt s (i + 1)) (bt s (i + 2)) (bt s (i + 3))).2 = 1) := by
  unfold brk rn wd at hb
  rw [decode_dec s i h] at hb
  exact of_decide_eq_false hb
section
variable {a b : ByteArray}
theorem rune_same {p : Nat} (ha : p < a.size) (hb : p < b.size) (va : brk a p = false) (vb : brk b p = false) (h : rn a p = rn b p) :
    wd a p = wd b p ∧ ∀ k, p ≤ k → k < p + wd a p → bt a k = bt b k := by
  have h4 := wd_le4 ha
  unfold rn at h
  unfold wd at h4 ⊢
  rw [decode_dec a p ha, decode_dec b p hb] at h
  rw [decode_dec a p ha] at h4
  rw [decode_dec a p ha, decode_dec b p hb]
  obtain ⟨h1, h2, h3, h5, h6⟩ := (dec_order _ _ _ _ _ _ _ _ _ _ (not_brk ha va) (not_brk hb vb)).1 h
  refine ⟨h1, fun k hk1 hk2 => ?_⟩
  obtain rfl | rfl | rfl | rfl : k = p ∨ k = p + 1 ∨ k = p + 2 ∨ k = p + 3 := by omega
  · exact h2
  · exact h3 (by omega)
  · exact h5 (by omega)
  · exact h6 (by omega)
theorem rune_less {p : Nat} (ha : p < a.size) (hb : p < b.size) (va : brk a p = false) (vb : brk b p = false) (h : rn a p < rn b p) :
    ∃ m, p ≤ m ∧ m < a.size ∧ m < b.size ∧ (∀ k, p ≤ k → k < m → bt a k = bt b k) ∧ bt a m < bt b m := by
  have wa := wd_le ha
  have wb := wd_le hb
  unfold rn at h
  unfold wd at wa wb
  rw [decode_dec a p ha, decode_dec b p hb] at h
  rw [decode_dec a p ha] at wa
  rw [decode_dec b p hb] at wb
  rcases (dec_order _ _ _ _ _ _ _ _ _ _ (not_brk ha va) (not_brk hb vb)).2 h with h1 | ⟨h1, h2, h3, h4 | ⟨h4, h5, h6 | ⟨h6, h7, h8⟩⟩⟩
  · exact ⟨p, Nat.le_refl _, ha, hb, fun k hk1 hk2 => by omega, h1⟩
  · refine ⟨p + 1, by omega, by omega, by omega, fun k hk1 hk2 => ?_, h4⟩
    obtain rfl : k = p := by omega
    exact h1
  · refine ⟨p + 2, by omega, by omega, by omega, fun k hk1 hk2 => ?_, h6⟩
    obtain rfl | rfl : k = p ∨ k = p + 1 := by omega
    · exact h1
    · exact h4
  · refine ⟨p + 3, by omega, by omega, by omega, fun k hk1 hk2 => ?_, h8⟩
    obtain rfl | rfl | rfl : k = p ∨ k = p + 1 ∨ k = p + 2 := by omega
    · exact h1
    · exact h4
    · exact h6
/-- Texts whose first runes are the same have the same bytes there. -/
theorem same_runes (va : validS a = true) (vb : validS b = true) : ∀ i, i ≤ cnt a → i ≤ cnt b → (∀ j, j < i → rn a (plc a j) = rn b (plc b j)) → plc a i = plc b i ∧ ∀ k, k < plc a i → bt a k = bt b k
  | 0, _, _, _ => ⟨rfl, fun k hk => absurd hk (Nat.not_lt_zero _)⟩
  | i + 1, h1, h2, h => by
    obtain ⟨e, hk⟩ := same_runes va vb i (by omega) (by omega) fun j hj => h j (by omega)
    have ha := lt_cnt.1 (show i < cnt a by omega)
    have hb := lt_cnt.1 (show i < cnt b by omega)
    have h3 := h i (by omega)
    have b1 := validS_iff.1 va i (by omega)
    have b2 := validS_iff.1 vb i (by omega)
    rw [← e] at hb h3 b2
    obtain ⟨h4, h5⟩ := rune_same ha hb b1 b2 h3
    rw [plc_succ ha, plc_succ (by rw [← e]; exact hb), ← e, h4]
    refine ⟨rfl, fun k hk2 => ?_⟩
    rcases Nat.lt_or_ge k (plc a i) with hl | hl
    · exact hk k hl
    · exact h5 k hl (by omega)
theorem order_at (va : validS a = true) (vb : validS b = true) {i : Nat} (h1 : i < cnt a) (h2 : i < cnt b) (h : ∀ j, j < i → rn a (plc a j) = rn b (plc b j)) (hne : rn a (plc a i) ≠ rn b (plc b i)) : less a b = decide (rn a (plc a i) < rn b (plc b i)) := by
  obtain ⟨e, hk⟩ := same_runes va vb i (by omega) (by omega) h
  have ha := lt_cnt.1 h1
  have hb := lt_cnt.1 h2
  have b1 := validS_iff.1 va i h1
  have b2 := validS_iff.1 vb i h2
  rw [← e] at hb hne b2 ⊢
  rcases Nat.lt_or_ge (rn a (plc a i)) (rn b (plc a i)) with hl | hl
  · obtain ⟨m, m1, m2, m3, m4, m5⟩ := rune_less ha hb b1 b2 hl
    rw [less_at m2 m3 (fun j hj => ?_) (by omega), decide_eq_true m5, decide_eq_true hl]
    rcases Nat.lt_or_ge j (plc a i) with x | x
    · exact hk j x
    · exact m4 j x hj
  · obtain ⟨m, m1, m2, m3, m4, m5⟩ := rune_less hb ha b2 b1 (by omega)
    rw [less_at m3 m2 (fun j hj => ?_) (by omega), decide_eq_false (by omega), decide_eq_false (by omega)]
    rcases Nat.lt_or_ge j (plc a i) with x | x
    · exact hk j x
    · exact (m4 j x hj).symm
theorem order_end (va : validS a = true) (vb : validS b = true) {i : Nat} (h1 : i ≤ cnt a) (h2 : i ≤ cnt b) (hi : ¬ (i < cnt a ∧ i < cnt b)) (h : ∀ j, j < i → rn a (plc a j) = rn b (plc b j)) : less a b = decide (cnt a < cnt b) := by
  obtain ⟨e, hk⟩ := same_runes va vb i h1 h2 h
  rcases Nat.lt_or_ge i (cnt a) with hl | hl
  · have e2 : i = cnt b := by omega
    have hz : plc a i = b.size := by rw [e, e2, (cnt_spec b).1]
    have hp := plc_le a i
    rw [less_right (by omega) (fun j hj => hk j (by omega)), decide_eq_false (by omega)]
  · have e1 : i = cnt a := by omega
    have hz : plc a i = a.size := by rw [e1, (cnt_spec a).1]
    have hp := plc_le b i
    rw [less_left (by omega) (fun j hj => hk j (by omega)), Bool.eq_iff_iff, decide_eq_true_iff, decide_eq_true_iff]
    have hq : i < cnt b ↔ plc b i < b.size := lt_cnt
    rw [← e, hz] at hq
    omega
end
end Go.Proofs.Ytfikloeeljgelaa
