/- Plain laws on a number's bytes: what is put is read. Nothing of the program is named here but what a reader holds. -/
import Derived.Test.YtgppaompcnllbaaRnum
namespace Go.Proofs.Ytgppaompcnllbaa
open Go.RowKit

theorem val_append (a b : List UInt8) : val (a ++ b) = val a * 256 ^ b.length + val b := by
  induction b generalizing a with
  | nil => simp [val]
  | cons c r ih =>
    have e : a ++ c :: r = (a ++ [c]) ++ r := by simp
    have h1 := ih (a ++ [c])
    have h2 := ih [c]
    rw [e, h1, val_snoc, show c :: r = [c] ++ r from rfl, h2]
    simp only [List.length_append, List.length_singleton]
    have : val [c] = c.toNat := by simp [val]
    rw [this, Nat.add_comm 1, Nat.pow_succ, Nat.add_mul, Nat.mul_assoc, Nat.mul_comm 256, Nat.add_assoc]
theorem val_be (x : Nat) : val (be x) = x := by
  induction x using Nat.strongRecOn with
  | _ x ih =>
    by_cases h : x = 0
    · subst h; rw [be_zero]; rfl
    · rw [be_pos (by omega), val_snoc, ih _ (by omega), UInt8.toNat_ofNat']
      omega
theorem be_head {x : Nat} (h : 0 < x) : (be x).head? ≠ some 0 := by
  induction x using Nat.strongRecOn with
  | _ x ih =>
    rw [be_pos h]
    by_cases h2 : x / 256 = 0
    · rw [h2, be_zero]
      simp
      intro e
      have := congrArg UInt8.toNat e
      simp at this
      omega
    · have := ih (x / 256) (by omega) (by omega)
      rw [List.head?_append]
      cases hb : (be (x / 256)).head? with
      | none =>
        rw [List.head?_eq_none_iff] at hb
        have := be_length (x / 256)
        rw [hb, nb_pos (by omega)] at this
        simp at this
      | some y => rw [hb] at this; simpa using this
theorem nb_eq_zero {x : Nat} : nb x = 0 ↔ x = 0 := by
  constructor
  · intro h
    rcases Nat.eq_zero_or_pos x with h0 | h0
    · exact h0
    · rw [nb_pos h0] at h; omega
  · rintro rfl; exact nb_zero
theorem take_num (x : Nat) (hx : x < 2 ^ 64) (rest : List UInt8) : takeS (num x ++ rest) = (x, nb x + 1, 0) := by
  have h8 := nb_le8 hx
  have hb : (UInt8.ofNat (nb x)).toNat = nb x := by rw [UInt8.toNat_ofNat']; omega
  have hl := be_length x
  rw [num, List.cons_append, takeS, hb, if_neg (by omega), if_neg (by rw [List.length_append, hl]; omega), if_neg]
  · rw [← hl, List.take_left, val_be]
  · rintro ⟨h1, h2⟩
    have h0 : 0 < x := by rcases Nat.eq_zero_or_pos x with h0 | h0; (subst h0; rw [nb_zero] at h1; omega); exact h0
    have h3 := be_head h0
    rw [List.head?_append] at h2
    cases hb : (be x).head? with
    | none => rw [List.head?_eq_none_iff] at hb; rw [hb] at hl; simp at hl; omega
    | some y => rw [hb] at h2 h3; simp at h2; rw [h2] at h3; exact h3 rfl
end Go.Proofs.Ytgppaompcnllbaa
