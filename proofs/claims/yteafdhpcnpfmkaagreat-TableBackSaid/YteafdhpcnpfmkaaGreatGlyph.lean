/- The program's own functions on one place: whether a text begins with another, whether the byte there is broken, whether a rune may stand in a name. Conditions: none but that the rune is the one that stands there. -/
import Derived.WalkKit
import Derived.WalkSpells
import Derived.WalkLawsBesides
import Derived.Handy
import Derived.Lib.Hide
import Derived.BigQuiet
import Derived.Deep.QuietTactic
import Derived.Lib.OthersKept
import Derived.Test.YteafdhpcnpfmkaaGreatRows
import Derived.Test.YteafdhpcnpfmkaaGreatPlain
namespace Go.Proofs.YteafdhpcnpfmkaaGreat
open Go.RowKit

theorem gret_bool {a b : Bool} (h : a = b) : Ending.returned (.bool a) = .returned (.bool b) := by rw [h]

def preB (s t : ByteArray) : Bool := decide (t.size ≤ s.size ∧ s.extract 0 t.size = t)
def badB (s : ByteArray) (i : Nat) : Bool := decide (i + 3 ≤ s.size ∧ bt s i = 239 ∧ bt s (i + 1) = 191 ∧ bt s (i + 2) = 189)
set_option maxHeartbeats 400000 in
theorem pre_any (s t : ByteArray) (w : World) :
    Calls Tryz.prog 173 #[.string s, .string t] w fun e w' => e = .returned (.bool (preB s t)) ∧ w = w' := by
  by_cases h : t.size ≤ s.size
  · go_enter Tryz.func173, Tryz.ntmps173
    go_wp2
    go_ret
    exact ⟨gret_bool (by unfold preB; rw [toList_inj, Bool.eq_iff_iff]; simp [h]), rfl⟩
  · go_enter Tryz.func173, Tryz.ntmps173
    go_wp2
    go_ret
    exact ⟨gret_bool (by unfold preB; simp [h]), rfl⟩
theorem hp_any (s : ByteArray) (i : Nat) (w : World) (h : i < s.size) :
    Calls Tryz.prog 147 #[.string (s.extract i s.size), .string ⟨#[239, 191, 189]⟩] w fun e w' => e = .returned (.bool (badB s i)) ∧ w = w' := by
  go_enter Tryz.func147, Tryz.ntmps147
  go_wp2_with ((refine (pre_any _ sBad _).mono ?_); rintro e w' ⟨rfl, rfl⟩)
  go_ret
  exact ⟨gret_bool (pre_bad h), rfl⟩
set_option maxHeartbeats 400000 in
theorem inname_any (z : Int) (r : Nat) (w : World) (hz : z = r) :
    Calls Tryz.prog 175 #[.int .i32 z] w fun e w' => e = .returned (.bool (inNameB r)) ∧ w = w' := by
  subst hz
  go_enter Tryz.func175, Tryz.ntmps175
  go_wp2
  all_goals go_ret
  all_goals (refine ⟨gret_bool ?_, rfl⟩; unfold inNameB; try simp only [beq_iff_eq, beq_eq_false_iff_ne, ne_eq] at *)
  all_goals first
    | (symm; exact decide_eq_true (by omega))
    | (rw [Bool.eq_iff_iff]; simp only [decide_eq_true_eq]; omega)
set_option maxHeartbeats 400000 in
theorem broken_any (s : ByteArray) (i : Nat) (z r : Int) (w : World) (hz : z = i) (hr : r = (rn s i : Int)) (h : i < s.size) :
    Calls Tryz.prog 146 #[.string s, .int .i64 z, .int .i32 r] w fun e w' => e = .returned (.bool (brk s i)) ∧ w = w' := by
  have E := Lib.hid (brk_eq h)
  by_cases hc : rn s i = 65533
  · have hd : (r == 65533) = true := by simp [hr, hc]
    subst hz
    have HR := Lib.hid hr
    have HC := Lib.hid hc
    clear hr hc
    go_enter Tryz.func146, Tryz.ntmps146
    go_wp2_with ((refine (hp_any s i _ h).mono ?_); rintro e w' ⟨rfl, rfl⟩)
    go_ret
    exact ⟨gret_bool (by rw [E.out, HC.out]; unfold badB; simp), rfl⟩
  · have hd : (r == 65533) = false := by simp [hr]; omega
    subst hz
    have HR := Lib.hid hr
    have HC := Lib.hid hc
    clear hr hc
    go_enter Tryz.func146, Tryz.ntmps146
    go_wp2_with ((refine (hp_any s i _ h).mono ?_); rintro e w' ⟨rfl, rfl⟩)
    go_ret
    exact ⟨gret_bool (by rw [E.out, decide_eq_false HC.out]; rfl), rfl⟩
end Go.Proofs.YteafdhpcnpfmkaaGreat
