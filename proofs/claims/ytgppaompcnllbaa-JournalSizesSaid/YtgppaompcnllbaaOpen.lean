/- The contract of fields.Open: a reader of a copy. -/
import Derived.Test.YtgppaompcnllbaaReader
namespace Go.Proofs.Ytgppaompcnllbaa
open Go.RowKit

theorem infoF' : (Try.prog.info? 5).map (fun i => (i.zero, i.size, i.bytes)) = some (some (.int .u8 0), 1, 1) := by kernel_rfl

set_option maxRecDepth 100000 in
set_option maxHeartbeats 400000 in
theorem clone_any (A : Option Addr) (n c : Nat) (l : List UInt8) (w : World) (hr : Rd w w.heap.size 1 A n c (bv l)) (hn : n ≤ 100000000000) :
    Calls Try.prog 34 #[.slice A n c] w fun e w' => ∃ v, e = .returned v ∧ w'.ownsRow w.heap.size 5 1 v l.length (bv l) ∧ Below w.heap.size w w' := by
  obtain ⟨i0, hi, hz0, hz1, hz2⟩ := info_parts infoF'
  have hl : n = l.length := hr.lenB
  subst hl
  have Hr := Lib.hid hr
  clear hr
  have hnil := fun (w : World) => Lib.run_eql_slice_nil (P := Try.prog) w 36 5 A l.length c 0 0 Try.underlying36
  rcases A with _ | a
  · obtain ⟨h0, rfl⟩ := Hr.out.nil rfl
    have h1 : l = [] := List.eq_nil_of_length_eq_zero h0
    subst h1
    simp only [Option.isNone_none, List.length_nil] at hnil ⊢
    go_enter Try.func34, Try.ntmps34
    go_wp2
    go_ret
    exact ⟨_, rfl, World.ownsRow_nil _ _ _ _, Below.refl _ _⟩
  · simp only [Option.isNone_some] at hnil
    go_enter Try.func34, Try.ntmps34
    go_wp2_with (at_builtin; go_must (refine wpList_append_src _ rfl (.tmp 5) (.tmp 6) 36 36 rfl w.heap.size 5 i0 (.int .u8 0) 1 1 Try.underlying36 hi hz0 hz1 hz2 rfl (by decide) _ 0 [] rfl (own_lit w #[] 5 0 1 w.heap.size rfl (by simp) (Nat.le_refl _)) _ l.length (bv l) rfl (Rd.src Try.underlying36 (Hr.out.alloc (Nat.le_refl _) _) (bv_one l)) (by simp only [maxLen]; omega) (by omega) (by simp) ?_); intro v1 w1 hown1 hg1 hat1)
    have hb1 : Below w.heap.size w w1 := below_of_own ((Below.refl _ _).alloc (Nat.le_refl _) _) hg1 (own_lit w #[] 5 0 1 w.heap.size rfl (by simp) (Nat.le_refl _)) (by simp) (Nat.le_refl _)
    rw [Nat.zero_add, List.nil_append] at hown1
    go_ret
    exact ⟨_, rfl, hown1, hb1⟩

set_option maxRecDepth 100000 in
set_option maxHeartbeats 400000 in
theorem open_any (A : Option Addr) (n c : Nat) (l : List UInt8) (w : World) (hr : Rd w w.heap.size 1 A n c (bv l)) (hn : n ≤ 100000000000) :
    Calls Try.prog 51 #[.slice A n c] w fun e w' => ∃ g, e = .returned (.pointer (some ⟨g, 0, none⟩)) ∧ w.heap.size ≤ g ∧ IsR w' g (l, 0) ∧ Below w.heap.size w w' := by
  go_enter Try.func51, Try.ntmps51
  go_wp2_with fail
  refine (clone_any A n c l w hr hn).mono ?_
  rintro e w1 ⟨v1, rfl, hown, hb⟩
  obtain ⟨A1, c1, rfl, hr1⟩ := Rd.own hown
  have hbs := hb.size
  go_wp2
  go_ret
  refine ⟨w1.heap.size, rfl, hbs, ⟨A1, _, c1, heap_alloc_new w1 _, hr1.alloc (Nat.le_refl _) _⟩, hb.alloc hbs _⟩
end Go.Proofs.Ytgppaompcnllbaa
