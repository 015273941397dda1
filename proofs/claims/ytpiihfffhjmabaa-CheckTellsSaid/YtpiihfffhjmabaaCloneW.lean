/- Layer 9: Find: a relation found, its lists in memory of the call's own. Conditions: none. -/
import Derived.BigQuiet
import Derived.Deep.QuietTactic
import Derived.Deep.Cut
import Derived.Test.YtpiihfffhjmabaaSmallW
namespace Go.Proofs.Ytpiihfffhjmabaa
open Go.RowKit

theorem aSubs_one (l : List (ByteArray × ByteArray)) : ∀ u ∈ l.flatMap aSub, u.oneCell' = true := by
  intro u hu
  obtain ⟨s, _, hs⟩ := List.mem_flatMap.1 hu
  simp only [aSub, List.mem_cons, List.not_mem_nil, or_false] at hs
  rcases hs with rfl | rfl <;> rfl
theorem aOps_one (l : List OpI) : ∀ u ∈ l.flatMap aOp, u.oneCell' = true := by
  intro u hu
  obtain ⟨s, _, hs⟩ := List.mem_flatMap.1 hu
  exact aocell_one s u hs
theorem run_nil9 (w : World) (t e : TypeId) (a : Option Addr) (l c : Nat) (h : Try.prog.underlying t = some (.slice e)) : (binOp .eql t (.slice a l c) (.slice none 0 0)).run Try.prog w = .ok (.bool a.isNone) w := by
  simp [binOp, run_equal_slice_nil w t e a l c h]
theorem rdsrc {w : World} {B size n c : Nat} {a : Addr} {xs : List Value} (h : Rd w B size (some a) n c xs) : ∀ j u, xs[j]? = some u → w.cell? (a.add j) = some u := by
  intro j u hj
  have hn : 0 < n := by
    have := (List.getElem?_eq_some_iff.1 hj).1
    rw [h.len] at this
    exact Nat.pos_of_ne_zero fun e => by subst e; simp at this
  obtain ⟨b, o, e, _, hc⟩ := h.at_ hn
  cases e
  rw [Addr.add_lit]
  exact hc j u hj
set_option maxRecDepth 100000 in
set_option maxHeartbeats 400000 in
theorem cloneSub_any {w : World} {A : Option Addr} {c : Nat} {l : List (ByteArray × ByteArray)} (h : Rd w w.heap.size 2 A l.length c (l.flatMap aSub)) (hn : l.length * 32 ≤ 140737488351232) :
    Calls Try.prog 23 #[.slice A l.length c] w fun e w' => (∃ A' c', e = .returned (.slice A' l.length c') ∧ w'.ownsRow w.heap.size 54 2 (.slice A' l.length c') l.length (l.flatMap aSub)) ∧ Below w.heap.size w w' := by
  have hb0 := bnew w (.cells #[] 54)
  have ho0 := own_lit w #[] 54 0 2 w.heap.size rfl (by simp [maxLen]) (Nat.le_refl _)
  go_enter Try.func23, Try.ntmps23
  cases A with
  | none =>
    obtain ⟨h0, rfl⟩ := h.nil rfl
    obtain rfl : l = [] := List.eq_nil_of_length_eq_zero h0
    have hq : (binOp .eql 33 (.slice none 0 0) (.slice none 0 0)).run Try.prog w = .ok (.bool true) w := run_nil9 w 33 54 none 0 0 Try.underlying33
    go_wp2
    go_ret
    exact ⟨⟨none, 0, rfl, World.ownsRow_nil _ _ _ _⟩, Below.refl _ _⟩
  | some a =>
    have hq : (binOp .eql 33 (.slice (some a) l.length c) (.slice none 0 0)).run Try.prog w = .ok (.bool false) w := run_nil9 w 33 54 (some a) l.length c Try.underlying33
    have hsrc := rdsrc (h.up hb0)
    obtain ⟨i0, hi0, hz0, hz1, hz2⟩ := info_parts info_sub
    go_wp2_with (at_builtin; refine wpList_append_src _ rfl (.tmp 5) (.tmp 6) 33 33 rfl w.heap.size 54 i0 (.agg #[.string .empty, .string .empty]) 2 32 Try.underlying33 hi0 hz0 hz1 hz2 rfl (by decide) (.slice (some ⟨w.heap.size, 0, none⟩) 0 0) 0 [] rfl ho0 _ l.length (l.flatMap aSub) rfl (Src.ofSlice _ Try.underlying33 _ _ _ _ h.len hsrc (aSubs_one l)) (by simp only [maxLen]; omega) (by omega) (by simp) ?_; intro v1 w5 hown1 hg1 hat1; rw [Nat.zero_add, List.nil_append] at hown1; obtain ⟨A1, c1, rfl, _⟩ := Rd.own hown1)
    go_ret
    exact ⟨⟨_, _, rfl, hown1⟩, below_of_own (v := .slice (some ⟨w.heap.size, 0, none⟩) 0 0) hb0 hg1 ho0 hb0.size (Nat.le_refl _)⟩
set_option maxRecDepth 100000 in
set_option maxHeartbeats 400000 in
theorem cloneOp_any {w : World} {A : Option Addr} {c : Nat} {l : List OpI} (h : Rd w w.heap.size 3 A l.length c (l.flatMap aOp)) (hn : l.length * 40 ≤ 140737488351232) :
    Calls Try.prog 24 #[.slice A l.length c] w fun e w' => (∃ A' c', e = .returned (.slice A' l.length c') ∧ w'.ownsRow w.heap.size 56 3 (.slice A' l.length c') l.length (l.flatMap aOp)) ∧ Below w.heap.size w w' := by
  have hb0 := bnew w (.cells #[] 56)
  have ho0 := own_lit w #[] 56 0 3 w.heap.size rfl (by simp [maxLen]) (Nat.le_refl _)
  go_enter Try.func24, Try.ntmps24
  cases A with
  | none =>
    obtain ⟨h0, rfl⟩ := h.nil rfl
    obtain rfl : l = [] := List.eq_nil_of_length_eq_zero h0
    have hq : (binOp .eql 34 (.slice none 0 0) (.slice none 0 0)).run Try.prog w = .ok (.bool true) w := run_nil9 w 34 56 none 0 0 Try.underlying34
    go_wp2
    go_ret
    exact ⟨⟨none, 0, rfl, World.ownsRow_nil _ _ _ _⟩, Below.refl _ _⟩
  | some a =>
    have hq : (binOp .eql 34 (.slice (some a) l.length c) (.slice none 0 0)).run Try.prog w = .ok (.bool false) w := run_nil9 w 34 56 (some a) l.length c Try.underlying34
    have hsrc := rdsrc (h.up hb0)
    obtain ⟨i0, hi0, hz0, hz1, hz2⟩ := info_parts info_op
    go_wp2_with (at_builtin; refine wpList_append_src _ rfl (.tmp 5) (.tmp 6) 34 34 rfl w.heap.size 56 i0 (.agg #[.int .i64 0, .string .empty, .string .empty]) 3 40 Try.underlying34 hi0 hz0 hz1 hz2 rfl (by decide) (.slice (some ⟨w.heap.size, 0, none⟩) 0 0) 0 [] rfl ho0 _ l.length (l.flatMap aOp) rfl (Src.ofSlice _ Try.underlying34 _ _ _ _ h.len hsrc (aOps_one l)) (by simp only [maxLen]; omega) (by omega) (by simp) ?_; intro v1 w5 hown1 hg1 hat1; rw [Nat.zero_add, List.nil_append] at hown1; obtain ⟨A1, c1, rfl, _⟩ := Rd.own hown1)
    go_ret
    exact ⟨⟨_, _, rfl, hown1⟩, below_of_own (v := .slice (some ⟨w.heap.size, 0, none⟩) 0 0) hb0 hg1 ho0 hb0.size (Nat.le_refl _)⟩
end Go.Proofs.Ytpiihfffhjmabaa
