/- The reference's functions on one place: where the next rune begins, whether a rune may stand in a name. Conditions: the text has at most a million bytes; the place is in it. -/
import Derived.BigQuiet
import Derived.Deep.QuietTactic
import Derived.Test.YtkeonempmchpnaaRef
namespace Go.Proofs.Ytkeonempmchpnaa
open Go.RowKit

set_option maxHeartbeats 400000 in
theorem step_any (s : ByteArray) (z : Int) (i : Nat) (w : World) (hz : z = i) (hs : s.size ≤ 1000000) (h : i < s.size) :
    Calls Try.prog 41 #[.string s, .int .i64 z] w fun e w' => e = .returned (.int .i64 ((i + wd s i : Nat) : Int)) ∧ w = w' := by
  subst hz
  have h1 := wd_pos h
  have h2 := wd_le h
  have hl : (0 : Int) ≤ lng s i := by omega
  rcases lng_wd s i with ⟨e, e'⟩ | e
  · have hd : (((lng s i : Nat) : Int) == 0) = true := by simp [e]
    have E' := Lib.hid e'
    clear e e'
    go_enter Try.func41, Try.ntmps41
    go_wp2_with ((with_reducible refine (long_any _ _ _ hs h).mono ?_); rintro e w' ⟨rfl, rfl⟩)
    go_ret
    exact ⟨ret_int (by have := E'.out; omega), rfl⟩
  · have hd : (((lng s i : Nat) : Int) == 0) = false := by simp; omega
    have hq : (lng s i : Int) ≤ 1000000 := by omega
    have E' := Lib.hid e
    clear e
    go_enter Try.func41, Try.ntmps41
    go_wp2_with ((with_reducible refine (long_any _ _ _ hs h).mono ?_); rintro e w' ⟨rfl, rfl⟩)
    go_ret
    exact ⟨ret_int (by have := E'.out; omega), rfl⟩

theorem val_int {k : IntKind} {a b : Int} (h : a = b) : Value.int k a = .int k b := by rw [h]

set_option maxRecDepth 100000 in
set_option maxHeartbeats 1000000 in
theorem rmay_any (s : ByteArray) (i : Nat) (w : World) (hs : s.size ≤ 1000000) (h : i < s.size) :
    Calls Try.prog 44 #[.string s, .int .i64 i] w fun e w' => e = .returned (.bool (mayB s i)) ∧ w = w' := by
  have E := Lib.hid (mayB_eq h)
  have hb := bt_eq s i h
  have hl := lng_le h
  by_cases h1 : lng s i = 1
  · have hd : (((lng s i : Nat) : Int) == 1) = true := by simp [h1]
    have HB := Lib.hid hb
    have H1 := Lib.hid h1
    clear hb h1
    go_enter Try.func44, Try.ntmps44
    go_wp2_with ((with_reducible refine (long_any s i _ hs h).mono ?_); rintro e w' ⟨rfl, rfl⟩)
    all_goals go_ret
    all_goals (refine ⟨ret_bool ?_, rfl⟩; rw [E.out, if_pos H1.out, HB.out]; unfold byteB; try simp only [beq_iff_eq] at *)
    all_goals first
      | (symm; exact decide_eq_true (by omega))
      | (rw [Bool.eq_iff_iff]; simp only [decide_eq_true_eq, beq_iff_eq, Bool.or_eq_true]; omega)
  · have hd : (((lng s i : Nat) : Int) == 1) = false := by simp; omega
    have HB := Lib.hid hb
    have H1 := Lib.hid h1
    clear hb h1
    by_cases h2 : 1 < lng s i
    · have hn := lng_next h h2
      have HB1 := Lib.hid (bt_eq s (i + 1) hn)
      have hd2 : (1 : Int) < lng s i := by omega
      go_enter Try.func44, Try.ntmps44
      go_wp2_with ((with_reducible refine (long_any s i _ hs h).mono ?_); rintro e w' ⟨rfl, rfl⟩)
      all_goals go_ret
      all_goals (refine ⟨ret_bool ?_, rfl⟩; rw [E.out, if_neg H1.out, HB.out, HB1.out, decide_eq_true h2, Bool.eq_iff_iff]; simp only [Bool.true_and, Bool.or_eq_true, Bool.not_eq_true', decide_eq_true_eq, decide_eq_false_iff_not]; first | omega | (simp only [true_iff]; omega))
    · have hd2 : ¬ (1 : Int) < lng s i := by omega
      go_enter Try.func44, Try.ntmps44
      go_wp2_with ((with_reducible refine (long_any s i _ hs h).mono ?_); rintro e w' ⟨rfl, rfl⟩)
      go_ret
      exact ⟨ret_bool (by rw [E.out, if_neg H1.out, decide_eq_false h2]; rfl), rfl⟩

end Go.Proofs.Ytkeonempmchpnaa
