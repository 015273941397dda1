/- Runes of two texts one behind the other, where the first one's runes stay: it is valid, or what stands behind begins with no byte that follows. Conditions: none; nothing of the program is named here. -/
import Derived.Test.YtdndncodpepdfaaOne
namespace Go.Proofs.Ytdndncodpepdfaa

/-- The first text's runes stay. -/
def Sep (a b : ByteArray) : Prop := ∀ j, j < cnt a → Utf8.decode (a ++ b) (plc a j) = Utf8.decode a (plc a j)
theorem sep_valid {a b : ByteArray} (hv : validS a = true) : Sep a b := fun _ hj => dec_app hv hj
theorem dec_nc {a b : ByteArray} (hb : 0 < b.size → bt b 0 < 128 ∨ 192 ≤ bt b 0) {i : Nat} (hi : i < a.size) : Utf8.decode (a ++ b) i = Utf8.decode a i := by
  rcases decode_pre (s := a ++ b) (t := a) (i := i) (by rw [size_app]; omega) (fun k hk => (bt_app_left a b k hk).symm) hi with e | ⟨e, h⟩
  · exact e.symm
  · exfalso
    have hl : i < (a ++ b).size := by rw [size_app]; omega
    have hle := wd_le hl
    rw [size_app] at hle
    have hin := inner_byte hl (k := a.size) hi h
    have h0 := bt_app_right a b 0 (by omega)
    rw [Nat.add_zero] at h0
    have := hb (by omega)
    omega
theorem sep_nc {a b : ByteArray} (hb : 0 < b.size → bt b 0 < 128 ∨ 192 ≤ bt b 0) : Sep a b := fun _ hj => dec_nc hb (lt_cnt.1 hj)
section
variable {a b : ByteArray} (hv : Sep a b)
include hv
theorem sep_plc : ∀ j, j ≤ cnt a → plc (a ++ b) j = plc a j
  | 0, _ => rfl
  | j + 1, hj => by
    have ih := sep_plc j (by omega)
    have hl := lt_cnt.1 (show j < cnt a by omega)
    rw [plc_succ hl, plc_succ (by rw [ih, size_app]; omega), ih]
    unfold wd
    rw [hv j (by omega)]
theorem sep_end : plc (a ++ b) (cnt a) = a.size := by rw [sep_plc hv _ (Nat.le_refl _), (cnt_spec a).1]
theorem sep_cutA : cutA (a ++ b) (cnt a) = a := by unfold cutA; rw [sep_end hv]; exact app_left a b
theorem sep_cutB : cutB (a ++ b) (cnt a) = b := by unfold cutB; rw [sep_end hv]; exact app_right a b
theorem sep_cnt : cnt (a ++ b) = cnt a + cnt b := by
  have h1 := cnt_cutA (a ++ b) (cnt a)
  have h2 := cnt_cutB (a ++ b) (cnt a)
  rw [sep_cutA hv] at h1
  rw [sep_cutB hv] at h2
  omega
theorem sep_right (j : Nat) : plc (a ++ b) (cnt a + j) = a.size + plc b j := by
  have h := plc_cutB (a ++ b) (cnt a) j
  rw [sep_end hv, sep_cutB hv] at h
  exact h.symm
theorem sep_dec_right {j : Nat} (hj : j < cnt b) : Utf8.decode (a ++ b) (plc (a ++ b) (cnt a + j)) = Utf8.decode b (plc b j) := by
  rw [sep_right hv]
  exact (decode_suf (s := a ++ b) (t := b) (p := a.size) (by rw [size_app]) (fun k hk => (bt_app_right a b k hk).symm) (lt_cnt.1 hj)).symm
theorem sep_brk {j : Nat} (hj : j < cnt a) : brk (a ++ b) (plc (a ++ b) j) = brk a (plc a j) := by
  unfold brk rn wd
  rw [sep_plc hv j (by omega), hv j hj]
theorem sep_may {j : Nat} (hj : j < cnt a) : mayB (a ++ b) (plc (a ++ b) j) = mayB a (plc a j) := by
  unfold mayB brk rn wd
  rw [sep_plc hv j (by omega), hv j hj]
theorem sep_brk_right {j : Nat} (hj : j < cnt b) : brk (a ++ b) (plc (a ++ b) (cnt a + j)) = brk b (plc b j) := by
  unfold brk rn wd
  rw [sep_dec_right hv hj]
theorem sep_may_right {j : Nat} (hj : j < cnt b) : mayB (a ++ b) (plc (a ++ b) (cnt a + j)) = mayB b (plc b j) := by
  unfold mayB brk rn wd
  rw [sep_dec_right hv hj]
theorem sep_validS : validS (a ++ b) = (validS a && validS b) := by
  rw [Bool.eq_iff_iff, Bool.and_eq_true, validS_iff, validS_iff, validS_iff, sep_cnt hv]
  constructor
  · intro h
    exact ⟨fun k hk => by rw [← sep_brk hv hk]; exact h k (by omega), fun k hk => by rw [← sep_brk_right hv hk]; exact h _ (by omega)⟩
  · rintro ⟨h1, h2⟩ k hk
    by_cases hl : k < cnt a
    · rw [sep_brk hv hl]; exact h1 k hl
    · obtain ⟨j, rfl⟩ : ∃ j, k = cnt a + j := ⟨k - cnt a, by omega⟩
      rw [sep_brk_right hv (by omega)]; exact h2 j (by omega)
/-- The place of the first broken byte: where the first text has one, that. -/
theorem sep_bad (h : plc a (badN a) < a.size) : badN (a ++ b) = badN a ∧ plc (a ++ b) (badN (a ++ b)) = plc a (badN a) := by
  have hl := lt_cnt.2 h
  obtain ⟨x, y⟩ := runN_spec (fun i => !brk a i) a
  have e : badN (a ++ b) = badN a := by
    refine runN_eq (fun j hj => ?_) fun _ => ?_
    · have hj2 : j < cnt a := Nat.lt_trans hj hl
      refine ⟨by rw [sep_plc hv j (by omega), size_app]; have := lt_cnt.1 hj2; omega, ?_⟩
      rw [sep_brk hv hj2]; exact (x j hj).2
    · rw [sep_brk hv hl]; exact y h
  exact ⟨e, by rw [e, sep_plc hv _ (by omega)]⟩
theorem sep_bad_right (ha : validS a = true) (h : plc b (badN b) < b.size) : plc (a ++ b) (badN (a ++ b)) = a.size + plc b (badN b) := by
  have hl := lt_cnt.2 h
  obtain ⟨x, y⟩ := runN_spec (fun i => !brk b i) b
  have e : badN (a ++ b) = cnt a + badN b := by
    refine runN_eq (fun j hj => ?_) fun _ => ?_
    · by_cases hj2 : j < cnt a
      · refine ⟨by rw [sep_plc hv j (by omega), size_app]; have := lt_cnt.1 hj2; omega, ?_⟩
        rw [sep_brk hv hj2, validS_iff.1 ha j hj2]; rfl
      · obtain ⟨i, rfl⟩ : ∃ i, j = cnt a + i := ⟨j - cnt a, by omega⟩
        have hi : i < badN b := by omega
        refine ⟨by rw [sep_right hv, size_app]; have := (x i hi).1; omega, ?_⟩
        rw [sep_brk_right hv (by omega)]; exact (x i hi).2
    · rw [sep_brk_right hv hl]; exact y h
  rw [e, sep_right hv]
end

/-! bytes by themselves -/
theorem ascii_first {n : Nat} {r : ByteArray} (h : n < 256) : bt (sOne n ++ r) 0 = n := by rw [bt_app_left _ _ _ (by rw [sOne_size]; omega), sOne_bt h]
theorem sOne_valid {n : Nat} (h : n < 128) : validS (sOne n) = true := by
  rw [validS_iff, sOne_cnt]
  intro k hk
  obtain rfl : k = 0 := by omega
  show brk (sOne n) 0 = false
  have := (dec_low (s := sOne n) (i := 0) (by rw [sOne_size]; omega) (by rw [sOne_bt (by omega)]; exact h))
  unfold brk
  rw [this.2, this.1, sOne_bt (by omega), decide_eq_false_iff_not]
  omega
theorem one_cutB {n : Nat} {r : ByteArray} (h : n < 128) : cutB (sOne n ++ r) 1 = r ∧ plc (sOne n ++ r) 1 = 1 ∧ cutA (sOne n ++ r) 1 = sOne n := by
  have hs := sep_valid (b := r) (sOne_valid h)
  have h1 := sep_cutB hs
  have h2 := sep_end hs
  have h3 := sep_cutA hs
  rw [sOne_cnt] at h1 h2 h3
  exact ⟨h1, h2, h3⟩
theorem app_assoc (a b c : ByteArray) : a ++ b ++ c = a ++ (b ++ c) := by
  refine bt_ext (by simp only [size_app]; omega) fun k hk => ?_
  simp only [size_app] at hk
  by_cases h1 : k < a.size
  · rw [bt_app_left _ _ _ (by rw [size_app]; omega), bt_app_left _ _ _ h1, bt_app_left _ _ _ h1]
  · obtain ⟨i, rfl⟩ : ∃ i, k = a.size + i := ⟨k - a.size, by omega⟩
    by_cases h2 : i < b.size
    · rw [bt_app_left _ _ _ (by rw [size_app]; omega), bt_app_right _ _ _ h2, bt_app_right _ _ _ (by rw [size_app]; omega), bt_app_left _ _ _ h2]
    · obtain ⟨j, rfl⟩ : ∃ j, i = b.size + j := ⟨i - b.size, by omega⟩
      have e : bt (a ++ b ++ c) (a.size + (b.size + j)) = bt c j := by
        have := bt_app_right (a ++ b) c j (by omega)
        rwa [size_app, Nat.add_assoc] at this
      rw [e, bt_app_right _ _ _ (by rw [size_app]; omega), bt_app_right _ _ _ (by omega)]
theorem app_nil (a : ByteArray) : a ++ ⟨#[]⟩ = a := bt_ext (by rw [size_app]; rfl) fun k hk => by
  rw [size_app] at hk
  have e : (⟨#[]⟩ : ByteArray).size = 0 := rfl
  exact bt_app_left _ _ _ (by omega)
theorem nil_app' (a : ByteArray) : (⟨#[]⟩ : ByteArray) ++ a = a := bt_ext (by rw [size_app]; exact Nat.zero_add _) fun k hk => by
  have e : (⟨#[]⟩ : ByteArray).size = 0 := rfl
  rw [size_app, e, Nat.zero_add] at hk
  have := bt_app_right ⟨#[]⟩ a k hk
  rwa [e, Nat.zero_add] at this
end Go.Proofs.Ytdndncodpepdfaa
