/- Runes of a text's beginning, of its rest, and of two texts one behind the other. Conditions: none; nothing of the program is named here. -/
import Derived.Test.YtdndncodpepdfaaBytes
namespace Go.Proofs.Ytdndncodpepdfaa

theorem dec_congr {n b0 b1 b2 b3 c1 c2 c3 : Nat} (h1 : 1 < n → b1 = c1) (h2 : 2 < n → b2 = c2) (h3 : 3 < n → b3 = c3) : dec n b0 b1 b2 b3 = dec n b0 c1 c2 c3 := by
  by_cases n1 : 1 < n
  · rw [h1 n1]
    by_cases n2 : 2 < n
    · rw [h2 n2]
      by_cases n3 : 3 < n
      · rw [h3 n3]
      · have e : ∀ x y, dec n b0 c1 c2 x = dec n b0 c1 c2 y := fun x y => by
          unfold dec
          simp only [n3, false_and, and_false, if_false]
        exact e _ _
    · have n3 : ¬ 3 < n := by omega
      have e : ∀ x y x' y', dec n b0 c1 x y = dec n b0 c1 x' y' := fun x y x' y' => by
        unfold dec
        simp only [n2, n3, false_and, and_false, if_false]
      exact e _ _ _ _
  · have n2 : ¬ 2 < n := by omega
    have n3 : ¬ 3 < n := by omega
    have e : ∀ z x y z' x' y', dec n b0 z x y = dec n b0 z' x' y' := fun z x y z' x' y' => by
      unfold dec
      simp only [n1, n2, n3, false_and, and_false, if_false]
    exact e _ _ _ _ _ _
theorem dec_pre (n m b0 b1 b2 b3 : Nat) (hn : n ≤ m) : dec n b0 b1 b2 b3 = dec m b0 b1 b2 b3 ∨ (dec n b0 b1 b2 b3 = (65533, 1) ∧ n < (dec m b0 b1 b2 b3).2) := by
  rcases dec_cases m b0 b1 b2 b3 with ⟨c, e⟩ | ⟨c, e⟩ | ⟨c, e⟩ | ⟨c, e⟩ | ⟨c, e⟩
  · left; rw [e]; unfold dec; rw [if_pos c]
  · by_cases h : 1 < n
    · left; rw [e]; unfold dec; rw [if_neg (by omega), if_pos (by omega)]
    · right; rw [e]; unfold dec; rw [if_neg (by omega), if_neg (by omega), if_neg (by omega), if_neg (by omega)]; exact ⟨rfl, by dsimp only; omega⟩
  · by_cases h : 2 < n
    · left; rw [e]; unfold dec; rw [if_neg (by omega), if_neg (by omega), if_pos (by omega)]
    · right; rw [e]; unfold dec; rw [if_neg (by omega), if_neg (by omega), if_neg (by omega), if_neg (by omega)]; exact ⟨rfl, by dsimp only; omega⟩
  · by_cases h : 3 < n
    · left; rw [e]; unfold dec; rw [if_neg (by omega), if_neg (by omega), if_neg (by omega), if_pos (by omega)]
    · right; rw [e]; unfold dec; rw [if_neg (by omega), if_neg (by omega), if_neg (by omega), if_neg (by omega)]; exact ⟨rfl, by dsimp only; omega⟩
  · left
    rcases dec_cases n b0 b1 b2 b3 with ⟨c', e'⟩ | ⟨c', e'⟩ | ⟨c', e'⟩ | ⟨c', e'⟩ | ⟨c', e'⟩
    · omega
    · exfalso; revert e; unfold dec; rw [if_neg (by omega), if_pos (by omega)]; simp
    · exfalso; revert e; unfold dec; rw [if_neg (by omega), if_neg (by omega), if_pos (by omega)]; simp
    · exfalso; revert e; unfold dec; rw [if_neg (by omega), if_neg (by omega), if_neg (by omega), if_pos (by omega)]; simp
    · rw [e', e]

theorem decode_suf {s t : ByteArray} {p i : Nat} (hz : p + t.size = s.size) (hb : ∀ j, j < t.size → bt t j = bt s (p + j)) (hi : i < t.size) : Utf8.decode t i = Utf8.decode s (p + i) := by
  rw [decode_dec t i hi, decode_dec s (p + i) (by omega), hb i hi, show s.size - (p + i) = t.size - i from by omega]
  refine dec_congr (fun h => ?_) (fun h => ?_) (fun h => ?_)
  · rw [hb _ (by omega), Nat.add_assoc]
  · rw [hb _ (by omega), Nat.add_assoc]
  · rw [hb _ (by omega), Nat.add_assoc]
theorem decode_pre {s t : ByteArray} {i : Nat} (hz : t.size ≤ s.size) (hb : ∀ j, j < t.size → bt t j = bt s j) (hi : i < t.size) :
    Utf8.decode t i = Utf8.decode s i ∨ (Utf8.decode t i = (65533, 1) ∧ t.size < i + wd s i) := by
  have h1 : Utf8.decode t i = dec (t.size - i) (bt s i) (bt s (i + 1)) (bt s (i + 2)) (bt s (i + 3)) := by
    rw [decode_dec t i hi, hb i hi]
    exact dec_congr (fun h => hb _ (by omega)) (fun h => hb _ (by omega)) (fun h => hb _ (by omega))
  have h2 : Utf8.decode s i = dec (s.size - i) (bt s i) (bt s (i + 1)) (bt s (i + 2)) (bt s (i + 3)) := decode_dec s i (by omega)
  unfold wd
  rw [h1, h2]
  rcases dec_pre (t.size - i) (s.size - i) (bt s i) (bt s (i + 1)) (bt s (i + 2)) (bt s (i + 3)) (by omega) with h | ⟨h, h'⟩
  · exact .inl h
  · exact .inr ⟨h, by omega⟩

/-- A beginning that ends where a rune does has the same runes. -/
theorem plc_pre {s t : ByteArray} {k : Nat} (ht : t.size = plc s k) (hb : ∀ j, j < t.size → bt t j = bt s j) : ∀ j, j ≤ k → plc t j = plc s j
  | 0, _ => rfl
  | j + 1, hj => by
    have ih := plc_pre ht hb j (by omega)
    have hle := plc_le s k
    by_cases h : plc t j < t.size
    · have hs : plc s j < s.size := by omega
      rw [plc_succ h, plc_succ hs, ih]
      have hm : plc s (j + 1) ≤ plc s k := plc_mono s hj
      rw [plc_succ hs] at hm
      rcases decode_pre (s := s) (t := t) (i := plc s j) (by omega) hb (by omega) with e | ⟨_, e⟩
      · unfold wd; rw [e]
      · omega
    · have h1 := plc_le t j
      have hm : plc s (j + 1) ≤ plc s k := plc_mono s hj
      have hm2 := plc_mono1 s j
      rw [plc_stay h]; omega
theorem dec_same_pre {s t : ByteArray} {k j : Nat} (ht : t.size = plc s k) (hb : ∀ j, j < t.size → bt t j = bt s j) (hj : plc s j < plc s k) : Utf8.decode t (plc s j) = Utf8.decode s (plc s j) := by
  have hle := plc_le s k
  have hs : plc s j < s.size := by omega
  have hjk : j + 1 ≤ k := by
    rcases Nat.lt_or_ge j k with h | h
    · omega
    · have := plc_mono s h; omega
  have hm : plc s (j + 1) ≤ plc s k := plc_mono s hjk
  rw [plc_succ hs] at hm
  rcases decode_pre (s := s) (t := t) (i := plc s j) (by omega) hb (by omega) with e | ⟨_, e⟩
  · exact e
  · omega
theorem cnt_pre {s t : ByteArray} {k : Nat} (ht : t.size = plc s k) (hb : ∀ j, j < t.size → bt t j = bt s j) : cnt t = min k (cnt s) := by
  have hp := plc_pre ht hb
  refine cnt_eq ?_ fun j hj => ?_
  · rw [hp _ (Nat.min_le_left _ _), ht]
    rcases Nat.lt_or_ge k (cnt s) with h | h
    · rw [Nat.min_eq_left (Nat.le_of_lt h)]; omega
    · rw [Nat.min_eq_right h, plc_end h, (cnt_spec s).1]; omega
  · rw [hp _ (by omega), ht]
    have h1 := (cnt_spec s).2 j (by omega)
    have h2 := plc_lt_succ h1
    have h3 := plc_mono s (show j + 1 ≤ k by omega)
    omega
/-- A rest that begins where a rune does has the runes from there on. -/
theorem plc_suf {s t : ByteArray} {k : Nat} (hz : plc s k + t.size = s.size) (hb : ∀ j, j < t.size → bt t j = bt s (plc s k + j)) : ∀ j, plc s k + plc t j = plc s (k + j)
  | 0 => rfl
  | j + 1 => by
    have ih := plc_suf hz hb j
    by_cases h : plc t j < t.size
    · have hs : plc s (k + j) < s.size := by omega
      rw [← Nat.add_assoc, plc_succ h, plc_succ hs, ← ih]
      unfold wd
      rw [decode_suf hz hb h]
      omega
    · rw [← Nat.add_assoc, plc_stay h, plc_stay (by omega), ih]
theorem cnt_suf {s t : ByteArray} {k : Nat} (hz : plc s k + t.size = s.size) (hb : ∀ j, j < t.size → bt t j = bt s (plc s k + j)) : cnt t = cnt s - k := by
  have hp := plc_suf hz hb
  refine cnt_eq ?_ fun j hj => ?_
  · have h := hp (cnt s - k)
    rw [plc_end (s := s) (k := k + (cnt s - k)) (by omega)] at h
    omega
  · have h := hp j
    have := lt_cnt.1 (show k + j < cnt s by omega)
    omega

/-! cuts -/
theorem cutA_size (s : ByteArray) (n : Nat) : (cutA s n).size = plc s n := by unfold cutA; rw [size_ext]; have := plc_le s n; omega
theorem cutA_bt (s : ByteArray) (n : Nat) : ∀ j, j < (cutA s n).size → bt (cutA s n) j = bt s j := fun j hj => by
  rw [cutA_size] at hj
  have := plc_le s n
  unfold cutA
  rw [bt_ext_get _ _ _ _ (by omega), Nat.zero_add]
theorem cutB_size (s : ByteArray) (n : Nat) : plc s n + (cutB s n).size = s.size := by unfold cutB; rw [size_ext]; have := plc_le s n; omega
theorem cutB_bt (s : ByteArray) (n : Nat) : ∀ j, j < (cutB s n).size → bt (cutB s n) j = bt s (plc s n + j) := fun j hj => by
  have := cutB_size s n
  unfold cutB
  rw [bt_ext_get _ _ _ _ (by omega)]
theorem cnt_cutA (s : ByteArray) (n : Nat) : cnt (cutA s n) = min n (cnt s) := cnt_pre (cutA_size s n) (cutA_bt s n)
theorem cnt_cutB (s : ByteArray) (n : Nat) : cnt (cutB s n) = cnt s - n := cnt_suf (cutB_size s n) (cutB_bt s n)
theorem plc_cutB (s : ByteArray) (n j : Nat) : plc s n + plc (cutB s n) j = plc s (n + j) := plc_suf (cutB_size s n) (cutB_bt s n) j
theorem cut_join (s : ByteArray) (n : Nat) : cutA s n ++ cutB s n = s := ext_join s _ (plc_le s n)
theorem cutB_cutB (s : ByteArray) (n m : Nat) : cutB (cutB s n) m = cutB s (n + m) := by
  have h1 := plc_cutB s n m
  have h2 := cutB_size s n
  have h3 := cutB_size (cutB s n) m
  have h4 := cutB_size s (n + m)
  refine bt_ext (by omega) fun k hk => ?_
  rw [cutB_bt _ _ k hk, cutB_bt _ _ _ (by omega), cutB_bt _ _ k (by omega)]
  congr 1
  omega
theorem cutA_cutA (s : ByteArray) (n m : Nat) : cutA s n ++ cutA (cutB s n) m = cutA s (n + m) := by
  have h1 := plc_cutB s n m
  have h2 := cutB_size s n
  have h3 := cutA_size s n
  have h4 := cutA_size s (n + m)
  have h5 := cutA_size (cutB s n) m
  have h6 := plc_le (cutB s n) m
  refine bt_ext (by rw [size_app]; omega) fun k hk => ?_
  rw [size_app] at hk
  rw [cutA_bt _ _ k (by omega)]
  by_cases h : k < (cutA s n).size
  · rw [bt_app_left _ _ _ h, cutA_bt _ _ k h]
  · obtain ⟨j, rfl⟩ : ∃ j, k = (cutA s n).size + j := ⟨k - (cutA s n).size, by omega⟩
    rw [bt_app_right _ _ _ (by omega), cutA_bt _ _ j (by omega), cutB_bt _ _ j (by omega), h3]
theorem cutB_zero (s : ByteArray) : cutB s 0 = s := by unfold cutB; exact ext_all s
theorem cutA_zero (s : ByteArray) : cutA s 0 = ⟨#[]⟩ := bt_ext (by rw [cutA_size]; rfl) fun k hk => by rw [cutA_size] at hk; exact absurd hk (Nat.not_lt_zero _)

/-! one text behind another -/
section
variable {a b : ByteArray}
/-- Of a valid text the runes stay, whatever stands behind. -/
theorem dec_app (hv : validS a = true) {j : Nat} (hj : j < cnt a) : Utf8.decode (a ++ b) (plc a j) = Utf8.decode a (plc a j) := by
  have hl := lt_cnt.1 hj
  rcases decode_pre (s := a ++ b) (t := a) (i := plc a j) (by rw [size_app]; omega) (fun k hk => (bt_app_left a b k hk).symm) hl with e | ⟨e, _⟩
  · exact e.symm
  · have := validS_iff.1 hv j hj
    unfold brk rn wd at this
    rw [e] at this
    simp at this
theorem plc_app (hv : validS a = true) : ∀ j, j ≤ cnt a → plc (a ++ b) j = plc a j
  | 0, _ => rfl
  | j + 1, hj => by
    have ih := plc_app hv j (by omega)
    have hl := lt_cnt.1 (show j < cnt a by omega)
    rw [plc_succ hl, plc_succ (by rw [ih, size_app]; omega), ih]
    unfold wd
    rw [dec_app hv (by omega)]
theorem plc_app_end (hv : validS a = true) : plc (a ++ b) (cnt a) = a.size := by rw [plc_app hv _ (Nat.le_refl _), (cnt_spec a).1]
theorem app_cutA (hv : validS a = true) : cutA (a ++ b) (cnt a) = a := by unfold cutA; rw [plc_app_end hv]; exact app_left a b
theorem app_cutB (hv : validS a = true) : cutB (a ++ b) (cnt a) = b := by unfold cutB; rw [plc_app_end hv]; exact app_right a b
theorem cnt_app (hv : validS a = true) : cnt (a ++ b) = cnt a + cnt b := by
  have h1 := cnt_cutA (a ++ b) (cnt a)
  have h2 := cnt_cutB (a ++ b) (cnt a)
  rw [app_cutA hv] at h1
  rw [app_cutB hv] at h2
  omega
theorem plc_app_right (hv : validS a = true) (j : Nat) : plc (a ++ b) (cnt a + j) = a.size + plc b j := by
  have h := plc_cutB (a ++ b) (cnt a) j
  rw [plc_app_end hv, app_cutB hv] at h
  exact h.symm
theorem dec_app_right (hv : validS a = true) {j : Nat} (hj : j < cnt b) : Utf8.decode (a ++ b) (plc (a ++ b) (cnt a + j)) = Utf8.decode b (plc b j) := by
  rw [plc_app_right hv]
  exact (decode_suf (s := a ++ b) (t := b) (p := a.size) (by rw [size_app]) (fun k hk => (bt_app_right a b k hk).symm) (lt_cnt.1 hj)).symm
theorem valid_app (hv : validS a = true) : validS (a ++ b) = validS b := by
  rw [Bool.eq_iff_iff, validS_iff, validS_iff, cnt_app hv]
  constructor
  · intro h k hk
    have := h (cnt a + k) (by omega)
    unfold brk rn wd at this ⊢
    rwa [dec_app_right hv hk] at this
  · intro h k hk
    unfold brk rn wd
    by_cases hl : k < cnt a
    · rw [plc_app hv k (by omega), dec_app hv hl]
      exact validS_iff.1 hv k hl
    · obtain ⟨j, rfl⟩ : ∃ j, k = cnt a + j := ⟨k - cnt a, by omega⟩
      rw [dec_app_right hv (by omega)]
      exact h j (by omega)
end
end Go.Proofs.Ytdndncodpepdfaa
