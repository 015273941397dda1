/- The reference's functions on one place: whether a byte is within bounds, how long the rune there is, where the next one begins, whether it may stand in a name. Conditions: the text is a string of Go's; the place is in it. -/
import Derived.WalkKit
import Derived.WalkSpells
import Derived.WalkLawsBesides
import Derived.Handy
import Derived.Lib.Hide
import Derived.Test.YtkeonempmchpnaaRows
import Derived.Test.YtkeonempmchpnaaPlain
namespace Go.Proofs.Ytkeonempmchpnaa
open Go.RowKit

theorem ret_bool {a b : Bool} (h : a = b) : Ending.returned (.bool a) = .returned (.bool b) := by rw [h]
theorem ret_int {k : IntKind} {a b : Int} (h : a = b) : Ending.returned (.int k a) = .returned (.int k b) := by rw [h]

set_option maxHeartbeats 400000 in
theorem in_any (s : ByteArray) (z l u : Int) (i lo hi : Nat) (w : World) (hz : z = i) (hl : l = lo) (hu : u = hi) :
    Calls Try.prog 69 #[.string s, .int .i64 z, .int .u8 l, .int .u8 u] w fun e w' => e = .returned (.bool (inB s i lo hi)) ∧ w = w' := by
  subst hz hl hu
  by_cases h : i < s.size
  · have hb := bt_eq s i h
    go_enter Try.func69, Try.ntmps69
    go_wp2
    all_goals go_ret
    all_goals (refine ⟨ret_bool ?_, rfl⟩; unfold inB; simp [*])
  · go_enter Try.func69, Try.ntmps69
    go_wp2
    go_ret
    refine ⟨ret_bool ?_, rfl⟩
    unfold inB
    simp [h]

theorem lng_wd (s : ByteArray) (i : Nat) : lng s i = 0 ∧ wd s i = 1 ∨ lng s i = wd s i := by
  unfold lng
  by_cases hb : brk s i = true
  · refine .inl ⟨by rw [if_pos hb], ?_⟩
    unfold brk at hb
    exact (of_decide_eq_true hb).2
  · exact .inr (if_neg hb)

set_option maxRecDepth 100000 in
set_option maxHeartbeats 4000000 in
theorem long_any (s : ByteArray) (i : Nat) (w : World) (hs : s.size ≤ 1000000) (h : i < s.size) :
    Calls Try.prog 42 #[.string s, .int .i64 i] w fun e w' => e = .returned (.int .i64 (lng s i)) ∧ w = w' := by

  have HE := Lib.hid (lng_eq h)
  have hb := bt_eq s i h
  have HB := Lib.hid hb
  clear hb
  go_enter Try.func42, Try.ntmps42
  go_wp2_with (first
    | ((with_reducible refine (in_any _ _ 128 191 (i + 1) _ _ _ (by omega) rfl rfl).mono ?_); rintro e w' ⟨rfl, rfl⟩)
    | ((with_reducible refine (in_any _ _ 160 191 (i + 1) _ _ _ (by omega) rfl rfl).mono ?_); rintro e w' ⟨rfl, rfl⟩)
    | ((with_reducible refine (in_any _ _ 128 159 (i + 1) _ _ _ (by omega) rfl rfl).mono ?_); rintro e w' ⟨rfl, rfl⟩)
    | ((with_reducible refine (in_any _ _ 144 191 (i + 1) _ _ _ (by omega) rfl rfl).mono ?_); rintro e w' ⟨rfl, rfl⟩)
    | ((with_reducible refine (in_any _ _ 128 143 (i + 1) _ _ _ (by omega) rfl rfl).mono ?_); rintro e w' ⟨rfl, rfl⟩)
    | ((with_reducible refine (in_any _ _ 128 191 (i + 2) _ _ _ (by omega) rfl rfl).mono ?_); rintro e w' ⟨rfl, rfl⟩)
    | ((with_reducible refine (in_any _ _ 128 191 (i + 3) _ _ _ (by omega) rfl rfl).mono ?_); rintro e w' ⟨rfl, rfl⟩))
  all_goals go_ret
  all_goals (refine ⟨ret_int ?_, rfl⟩; rw [HE.out, HB.out]; clear HE HB; generalize s[i].toNat = b at *; try simp only [beq_iff_eq, beq_eq_false_iff_ne, ne_eq, Bool.not_eq_true] at *)
  all_goals (repeat' split)
  all_goals (first | rfl | (exfalso; omega) | (exfalso; simp_all; done) | (exfalso; simp_all; omega))
end Go.Proofs.Ytkeonempmchpnaa
