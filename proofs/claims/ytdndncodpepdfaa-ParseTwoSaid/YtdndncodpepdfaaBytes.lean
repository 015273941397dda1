/- Strings byte by byte: cuts, sums, and when two are one. Conditions: none; nothing of the program is named here. -/
import Derived.WalkKit
import Derived.Test.YtdndncodpepdfaaSpec
namespace Go.Proofs.Ytdndncodpepdfaa

theorem bt_list (s : ByteArray) (i : Nat) (h : i < s.size) : s.data.toList[i]? = some (UInt8.ofNat (bt s i)) := by
  rw [bt_eq s i h]
  have : i < s.data.toList.length := by simpa using h
  rw [List.getElem?_eq_getElem this]
  simp
  rfl
theorem bt_ext {a b : ByteArray} (h : a.size = b.size) (he : ∀ k, k < a.size → bt a k = bt b k) : a = b := by
  refine ByteArray.ext_getElem h fun i h1 h2 => ?_
  have := he i h1
  rw [bt_eq a i h1, bt_eq b i h2] at this
  exact UInt8.toNat_inj.1 this
theorem size_ext (s : ByteArray) (a b : Nat) : (s.extract a b).size = min b s.size - a := by simp
theorem bt_ext_get (s : ByteArray) (a b k : Nat) (h : a + k < min b s.size) : bt (s.extract a b) k = bt s (a + k) := by
  have h1 : k < (s.extract a b).size := by rw [size_ext]; omega
  have h2 : a + k < s.size := by omega
  rw [bt_eq _ k h1, bt_eq s _ h2]
  simp [ByteArray.getElem_extract]
theorem size_app (a b : ByteArray) : (a ++ b).size = a.size + b.size := by simp
theorem bt_app_left (a b : ByteArray) (k : Nat) (h : k < a.size) : bt (a ++ b) k = bt a k := by
  rw [bt_eq _ k (by rw [size_app]; omega), bt_eq a k h, ByteArray.getElem_append_left h]
theorem bt_app_right (a b : ByteArray) (k : Nat) (h : k < b.size) : bt (a ++ b) (a.size + k) = bt b k := by
  rw [bt_eq _ _ (by rw [size_app]; omega), bt_eq b k h, ByteArray.getElem_append_right (by omega)]
  simp
theorem ext_all (s : ByteArray) : s.extract 0 s.size = s := bt_ext (by rw [size_ext]; omega) fun k hk => by rw [size_ext] at hk; rw [bt_ext_get _ _ _ _ (by omega), Nat.zero_add]
theorem ext_join (s : ByteArray) (p : Nat) (h : p ≤ s.size) : s.extract 0 p ++ s.extract p s.size = s := by
  refine bt_ext (by rw [size_app, size_ext, size_ext]; omega) fun k hk => ?_
  rw [size_app, size_ext, size_ext] at hk
  by_cases hl : k < p
  · rw [bt_app_left _ _ _ (by rw [size_ext]; omega), bt_ext_get _ _ _ _ (by omega), Nat.zero_add]
  · obtain ⟨j, rfl⟩ : ∃ j, k = p + j := ⟨k - p, by omega⟩
    have e : (s.extract 0 p).size = p := by rw [size_ext]; omega
    have := bt_app_right (s.extract 0 p) (s.extract p s.size) j (by rw [size_ext]; omega)
    rw [e] at this
    rw [this, bt_ext_get _ _ _ _ (by omega)]
theorem app_left (a b : ByteArray) : (a ++ b).extract 0 a.size = a := by
  refine bt_ext (by rw [size_ext, size_app]; omega) fun k hk => ?_
  rw [size_ext, size_app] at hk
  rw [bt_ext_get _ _ _ _ (by rw [size_app]; omega), Nat.zero_add, bt_app_left _ _ _ (by omega)]
theorem app_right (a b : ByteArray) : (a ++ b).extract a.size (a ++ b).size = b := by
  refine bt_ext (by rw [size_ext, size_app]; omega) fun k hk => ?_
  rw [size_ext, size_app] at hk
  rw [bt_ext_get _ _ _ _ (by rw [size_app]; omega), bt_app_right _ _ _ (by omega)]
theorem toList_inj {a b : ByteArray} : (a.toList == b.toList) = decide (a = b) := by
  rw [Bool.eq_iff_iff]
  simp only [beq_iff_eq, decide_eq_true_eq]
  constructor
  · intro h
    rw [ByteArray.toList_eq, ByteArray.toList_eq] at h
    exact ByteArray.ext (Array.toList_inj.1 h)
  · intro h; rw [h]
theorem toList_eq_true {a b : ByteArray} (h : a = b) : (a.toList == b.toList) = true := by subst h; simp
theorem toList_ne {a b : ByteArray} (h : ¬ a = b) : (a.toList == b.toList) = false := by rw [toList_inj]; exact decide_eq_false h

theorem list_ne {s : ByteArray} (h : 0 < s.size) : (!s.toList.isEmpty) = true := by
  rw [ByteArray.toList_eq]
  have hl : 0 < s.data.toList.length := by simpa using h
  revert hl
  cases s.data.toList with
  | nil => intro hl; exact absurd hl (Nat.not_lt_zero _)
  | cons a r => intro _; rfl
theorem list_ne2 {s : ByteArray} (h : 0 < s.size) : s.toList.isEmpty = false := by have := list_ne h; simpa using this

/-- The rune 65533 as bytes. -/
def sBad : ByteArray := ⟨#[239, 191, 189]⟩
theorem sBad_size : sBad.size = 3 := rfl
theorem pre_bad {s : ByteArray} {i : Nat} (h : i < s.size) : decide (sBad.size ≤ (s.extract i s.size).size ∧ (s.extract i s.size).extract 0 sBad.size = sBad) = decide (i + 3 ≤ s.size ∧ bt s i = 239 ∧ bt s (i + 1) = 191 ∧ bt s (i + 2) = 189) := by
  rw [Bool.eq_iff_iff]
  simp only [decide_eq_true_eq, sBad_size, size_ext]
  have hsz : ∀ k, k < min 3 (s.size - i) → bt ((s.extract i s.size).extract 0 3) k = bt s (i + k) := fun k hk => by
    rw [bt_ext_get _ _ _ _ (by rw [size_ext]; omega), bt_ext_get _ _ _ _ (by omega), Nat.zero_add]
  constructor
  · rintro ⟨h1, h2⟩
    refine ⟨by omega, ?_, ?_, ?_⟩
    · have := hsz 0 (by omega); rw [h2] at this; exact this.symm
    · have := hsz 1 (by omega); rw [h2] at this; exact this.symm
    · have := hsz 2 (by omega); rw [h2] at this; exact this.symm
  · rintro ⟨h1, h2, h3, h4⟩
    refine ⟨by omega, bt_ext (by rw [size_ext, size_ext, sBad_size]; omega) fun k hk => ?_⟩
    rw [size_ext, size_ext] at hk
    rw [hsz k (by omega)]
    obtain rfl | rfl | rfl : k = 0 ∨ k = 1 ∨ k = 2 := by omega
    · rw [Nat.add_zero, h2]; rfl
    · rw [h3]; rfl
    · rw [h4]; rfl
end Go.Proofs.Ytdndncodpepdfaa
