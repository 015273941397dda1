/- The contract of math/bits.Len64, walked: its answer k is at most 64, and (k+7)/8 is how many bytes the number has. -/
import Derived.Test.YtgppaompcnllbaaRows
import Derived.Test.YtgppaompcnllbaaBase
namespace Go.Proofs.Ytgppaompcnllbaa
open Go.RowKit

def tab8 : ByteArray := ⟨#[0, 1, 2, 2, 3, 3, 3, 3, 4, 4, 4, 4, 4, 4, 4, 4, 5, 5, 5, 5, 5, 5, 5, 5, 5, 5, 5, 5, 5, 5, 5, 5, 6, 6, 6, 6, 6, 6, 6, 6, 6, 6, 6, 6, 6, 6, 6, 6, 6, 6, 6, 6, 6, 6, 6, 6, 6, 6, 6, 6, 6, 6, 6, 6, 7, 7, 7, 7, 7, 7, 7, 7, 7, 7, 7, 7, 7, 7, 7, 7, 7, 7, 7, 7, 7, 7, 7, 7, 7, 7, 7, 7, 7, 7, 7, 7, 7, 7, 7, 7, 7, 7, 7, 7, 7, 7, 7, 7, 7, 7, 7, 7, 7, 7, 7, 7, 7, 7, 7, 7, 7, 7, 7, 7, 7, 7, 7, 7, 8, 8, 8, 8, 8, 8, 8, 8, 8, 8, 8, 8, 8, 8, 8, 8, 8, 8, 8, 8, 8, 8, 8, 8, 8, 8, 8, 8, 8, 8, 8, 8, 8, 8, 8, 8, 8, 8, 8, 8, 8, 8, 8, 8, 8, 8, 8, 8, 8, 8, 8, 8, 8, 8, 8, 8, 8, 8, 8, 8, 8, 8, 8, 8, 8, 8, 8, 8, 8, 8, 8, 8, 8, 8, 8, 8, 8, 8, 8, 8, 8, 8, 8, 8, 8, 8, 8, 8, 8, 8, 8, 8, 8, 8, 8, 8, 8, 8, 8, 8, 8, 8, 8, 8, 8, 8, 8, 8, 8, 8, 8, 8, 8, 8, 8, 8, 8, 8, 8, 8, 8, 8, 8, 8, 8, 8, 8, 8]⟩
theorem tab8_size : tab8.size = 256 := by decide +kernel
theorem tab8_ok : ∀ i : Fin 256, tab8.data.toList[i.val]?.getD 9 ≤ 8 ∧ (tab8.data.toList[i.val]?.getD 9 = 0 ↔ i.val = 0) := by decide +kernel
theorem tab8_at (i : Nat) (h : i < 256) (h' : i < tab8.size) : tab8[i].toNat ≤ 8 ∧ (tab8[i].toNat = 0 ↔ i = 0) := by
  have H := tab8_ok ⟨i, h⟩
  have e : tab8.data.toList[i]?.getD 9 = tab8[i] := by
    rw [List.getElem?_eq_getElem (by rw [Array.length_toList]; exact h')]; rfl
  simp only [e] at H
  refine ⟨UInt8.le_iff_toNat_le.1 H.1, ?_⟩
  constructor
  · intro e
    exact H.2.1 (UInt8.toNat_inj.1 e)
  · intro e
    rw [H.2.2 e]; rfl
theorem nb_small {n : Nat} (h : n < 256) : nb n = if n = 0 then 0 else 1 := by
  by_cases h0 : n = 0
  · subst h0; rw [nb_zero]; rfl
  · rw [nb_pos (by omega), if_neg h0, show n / 256 = 0 from by omega, nb_zero]
theorem nb_of (n k t : Nat) (hn : n / 2 ^ (8 * k) < 256) (hp : 0 < n / 2 ^ (8 * k) ∨ k = 0) (ht : t ≤ 8 ∧ (t = 0 ↔ n / 2 ^ (8 * k) = 0)) : (8 * k + t + 7) / 8 = nb n := by
  induction k generalizing n with
  | zero =>
    simp at hn ht ⊢
    rw [nb_small hn]
    split <;> omega
  | succ k ih =>
    have e : n / 2 ^ (8 * (k + 1)) = (n / 256) / 2 ^ (8 * k) := by
      rw [Nat.div_div_eq_div_mul, show 2 ^ (8 * (k + 1)) = 256 * 2 ^ (8 * k) from by rw [show 8 * (k + 1) = 8 + 8 * k from by omega, Nat.pow_add]]
    rw [e] at hn ht hp
    have h0 : 0 < n / 256 := by
      rcases hp with hp | hp
      · exact Nat.pos_of_ne_zero (fun h => by rw [h] at hp; simp at hp)
      · omega
    have := ih (n / 256) hn (.inl (by rcases hp with hp | hp <;> omega)) ht
    rw [nb_pos (by omega)]
    omega

theorem len_fin (w : World) (x i : Int) (k : Nat) (c : Int) (hc : c = 8 * k) (h0 : 0 ≤ i) (h1 : i < 256) (hp : 0 < i ∨ k = 0) (hk : k ≤ 7) (hx : i = x / (2 ^ (8 * k) : Nat)) (hx0 : 0 ≤ x) (h' : i.toNat < tab8.size) :
    ∃ K : Nat, Ending.returned (.int .i64 (wrap64 (c + wrap64 (tab8[i.toNat].toNat : Int)))) = .returned (.int .i64 K) ∧ K ≤ 64 ∧ (K + 7) / 8 = nb x.toNat ∧ w = w := by
  have ht := tab8_at i.toNat (by omega) h'
  generalize tab8[i.toNat].toNat = t at ht
  have e : x.toNat / 2 ^ (8 * k) = i.toNat := by
    rw [hx]
    obtain ⟨n, rfl⟩ := Int.eq_ofNat_of_zero_le hx0
    rw [← Int.natCast_ediv, Int.toNat_natCast, Int.toNat_natCast]
  refine ⟨8 * k + t, ?_, by omega, ?_, rfl⟩
  · congr 2
    unfold wrap64
    omega
  · refine nb_of x.toNat k t (by omega) (by omega) ?_
    rw [e]; exact ht
theorem len_fin0 (w : World) (x : Int) (h0 : 0 ≤ x) (h1 : x < 256) (h' : x.toNat < tab8.size) :
    ∃ K : Nat, Ending.returned (.int .i64 (wrap64 (wrap64 (tab8[x.toNat].toNat : Int)))) = .returned (.int .i64 K) ∧ K ≤ 64 ∧ (K + 7) / 8 = nb x.toNat ∧ w = w := by
  have := len_fin w x x 0 0 rfl h0 h1 (.inr rfl) (by omega) (by simp) h0 h'
  rwa [Int.zero_add] at this
theorem mod_gone {x : Int} (h : x < 2 ^ 64) : x / 4294967296 / 65536 / 256 < 256 := by omega

set_option maxRecDepth 100000 in
set_option maxHeartbeats 400000 in
/-- math/bits.Len64: (k+7)/8 is how many bytes the number has. -/
theorem len64_any (x : Int) (h0 : 0 ≤ x) (h1 : x < 2 ^ 64) (w : World) :
    Calls Try.prog 58 #[.int .u64 x] w fun e w' => ∃ k : Nat, e = .returned (.int .i64 k) ∧ k ≤ 64 ∧ (k + 7) / 8 = nb x.toNat ∧ w = w' := by
  have H1 := Lib.hid h1
  clear h1
  have H2 := Lib.hid tab8_size
  go_enter Try.func58, Try.ntmps58
  go_wp2
  all_goals go_ret
  · have := mod_gone H1.out
    exact len_fin w x (x / 4294967296 / 65536 / 256 % 256) 7 56 rfl (by omega) (by omega) (by omega) (by omega) (by omega) h0 (by rw [H2.out]; omega)
  · exact len_fin w x (x / 4294967296 / 65536) 6 48 rfl (by omega) (by omega) (by omega) (by omega) (by omega) h0 (by rw [H2.out]; omega)
  · exact len_fin w x (x / 4294967296 / 256) 5 40 rfl (by omega) (by omega) (by omega) (by omega) (by omega) h0 (by rw [H2.out]; omega)
  · exact len_fin w x (x / 4294967296) 4 32 rfl (by omega) (by omega) (by omega) (by omega) (by omega) h0 (by rw [H2.out]; omega)
  · exact len_fin w x (x / 65536 / 256) 3 24 rfl (by omega) (by omega) (by omega) (by omega) (by omega) h0 (by rw [H2.out]; omega)
  · exact len_fin w x (x / 65536) 2 16 rfl (by omega) (by omega) (by omega) (by omega) (by omega) h0 (by rw [H2.out]; omega)
  · exact len_fin w x (x / 256) 1 8 rfl (by omega) (by omega) (by omega) (by omega) (by omega) h0 (by rw [H2.out]; omega)
  · exact len_fin0 w x h0 (by omega) (by rw [H2.out]; omega)
end Go.Proofs.Ytgppaompcnllbaa
