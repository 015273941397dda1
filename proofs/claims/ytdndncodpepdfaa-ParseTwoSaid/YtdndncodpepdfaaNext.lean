/- Of a valid text a rest that is valid begins where a rune does; behind it one column or one line is added. Conditions: none; nothing of the program is named here. -/
import Derived.Test.YtdndncodpepdfaaJoin
namespace Go.Proofs.Ytdndncodpepdfaa

theorem rune_at {s : ByteArray} {k : Nat} : ∀ m, k < plc s m → ∃ j, plc s j ≤ k ∧ k < plc s (j + 1)
  | 0, h => absurd h (Nat.not_lt_zero _)
  | m + 1, h => by
    by_cases hm : k < plc s m
    · exact rune_at m hm
    · exact ⟨m, by omega, h⟩
theorem inner_byte {s : ByteArray} {p k : Nat} (hp : p < s.size) (h1 : p < k) (h2 : k < p + wd s p) : 128 ≤ bt s k ∧ bt s k ≤ 191 := by
  unfold wd at h2
  rw [decode_dec s p hp] at h2
  rcases dec_cases (s.size - p) (bt s p) (bt s (p + 1)) (bt s (p + 2)) (bt s (p + 3)) with ⟨c, e⟩ | ⟨c, e⟩ | ⟨c, e⟩ | ⟨c, e⟩ | ⟨c, e⟩
  · rw [e] at h2; dsimp only at h2; omega
  · rw [e] at h2
    dsimp only at h2
    obtain rfl : k = p + 1 := by omega
    omega
  · rw [e] at h2
    dsimp only at h2
    obtain rfl | rfl : k = p + 1 ∨ k = p + 2 := by omega
    · omega
    · omega
  · rw [e] at h2
    dsimp only at h2
    obtain rfl | rfl | rfl : k = p + 1 ∨ k = p + 2 ∨ k = p + 3 := by omega
    · omega
    · omega
    · omega
  · rw [e] at h2; dsimp only at h2; omega
theorem nil_size {s : ByteArray} (h : s.size = 0) : s = ⟨#[]⟩ := bt_ext h fun k hk => by omega
theorem rest_size (s : ByteArray) (k : Nat) (h : k ≤ s.size) : k + (s.extract k s.size).size = s.size := by rw [size_ext]; omega
theorem rest_bt (s : ByteArray) (k : Nat) : ∀ j, j < (s.extract k s.size).size → bt (s.extract k s.size) j = bt s (k + j) := fun j hj => by
  rw [size_ext] at hj
  rw [bt_ext_get _ _ _ _ (by omega)]
theorem cont_broken {t : ByteArray} (hp : 0 < t.size) (h1 : 128 ≤ bt t 0) (h2 : bt t 0 ≤ 191) : validS t = false := by
  rw [Bool.eq_false_iff]
  intro hv
  have h := validS_iff.1 hv 0 (lt_cnt.2 hp)
  have e0 : plc t 0 = 0 := rfl
  rw [e0] at h
  unfold brk rn wd at h
  rw [decode_dec t 0 hp] at h
  rcases dec_cases (t.size - 0) (bt t 0) (bt t (0 + 1)) (bt t (0 + 2)) (bt t (0 + 3)) with ⟨c, e⟩ | ⟨c, e⟩ | ⟨c, e⟩ | ⟨c, e⟩ | ⟨c, e⟩
  · omega
  · omega
  · omega
  · omega
  · rw [e] at h; simp at h
theorem rest_begins {s : ByteArray} {k : Nat} (hk : k < s.size) (hr : validS (s.extract k s.size) = true) : ∃ j, plc s j = k := by
  obtain ⟨j, h1, h2⟩ := rune_at (s := s) (k := k) (cnt s) (by rw [(cnt_spec s).1]; exact hk)
  refine ⟨j, ?_⟩
  rcases Nat.lt_or_ge (plc s j) k with h | h
  · exfalso
    have hl : plc s j < s.size := by omega
    rw [plc_succ hl] at h2
    have hb := inner_byte hl h h2
    have hz := rest_size s k (by omega)
    have e := rest_bt s k 0 (by omega)
    rw [Nat.add_zero] at e
    have := cont_broken (t := s.extract k s.size) (by omega) (by omega) (by omega)
    rw [this] at hr
    cases hr
  · omega
theorem bef_plc {s : ByteArray} {j : Nat} (h : j ≤ cnt s) : bef s (plc s j : Int) = j := by
  refine bef_eq (fun hh => by omega) fun i hi => ?_
  have h1 := (cnt_spec s).2 i (by omega)
  have h2 := plc_lt_succ h1
  have h3 := plc_mono s (show i + 1 ≤ j by omega)
  exact ⟨h1, by omega⟩
theorem bef_neg (s : ByteArray) {a : Int} (h : a ≤ 0) : bef s a = 0 := bef_eq (fun hh => by omega) fun i hi => absurd hi (Nat.not_lt_zero _)

def sNl : ByteArray := ⟨#[10]⟩
theorem sNl_eq {t : ByteArray} : t = sNl ↔ t.size = 1 ∧ bt t 0 = 10 := by
  constructor
  · rintro rfl; exact ⟨rfl, rfl⟩
  · rintro ⟨h1, h2⟩
    refine bt_ext h1 fun k hk => ?_
    obtain rfl : k = 0 := by omega
    rw [h2]; rfl
/-- What stands behind the rune at a place. -/
theorem where_next {s : ByteArray} {k : Nat} (hk : k < s.size) (hr : validS (s.extract k s.size) = true) :
    (cutA (s.extract k s.size) 1 = sNl ∧ whrS s (bef s ((k + (cutA (s.extract k s.size) 1).size : Nat) : Int)) = ((whrS s (bef s (k : Int))).1 + 1, 1)) ∨
    (¬ cutA (s.extract k s.size) 1 = sNl ∧ whrS s (bef s ((k + (cutA (s.extract k s.size) 1).size : Nat) : Int)) = ((whrS s (bef s (k : Int))).1, (whrS s (bef s (k : Int))).2 + 1)) := by
  obtain ⟨j, rfl⟩ := rest_begins hk hr
  have hj := lt_cnt.2 hk
  have hz := rest_size s (plc s j) (by omega)
  have hb := rest_bt s (plc s j)
  have h1 : plc s j + (cutA (s.extract (plc s j) s.size) 1).size = plc s (j + 1) := by
    rw [cutA_size]; exact plc_suf hz hb 1
  rw [h1, bef_plc (by omega), bef_plc (by omega)]
  have hlt := plc_lt_succ hk
  have h0 : bt (cutA (s.extract (plc s j) s.size) 1) 0 = bt s (plc s j) := by
    rw [cutA_bt _ _ 0 (by omega), hb 0 (by omega), Nat.add_zero]
  by_cases h10 : bt s (plc s j) = 10
  · left
    have hw := (dec_low hk (by omega)).2
    refine ⟨sNl_eq.2 ⟨?_, by rw [h0, h10]⟩, ?_⟩
    · rw [plc_succ hk] at h1; omega
    · show (if _ then _ else _) = _; rw [if_pos h10]
  · right
    refine ⟨fun e => h10 ?_, ?_⟩
    · rw [← h0]; exact (sNl_eq.1 e).2
    · show (if _ then _ else _) = _; rw [if_neg h10]
end Go.Proofs.Ytdndncodpepdfaa
