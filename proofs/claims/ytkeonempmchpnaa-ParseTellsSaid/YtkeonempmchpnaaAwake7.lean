/- Layer 7: the document's example holds: awake answers true. Conditions: none. -/
import Derived.Test.YtkeonempmchpnaaGet
namespace Go.Proofs.Ytkeonempmchpnaa
open Go.RowKit

def exPT : List TypP := [⟨⟨#[100, 111, 99]⟩, [⟨⟨#[114]⟩, ⟨#[118]⟩, ⟨#[101]⟩, ⟨#[99]⟩, [(⟨#[117, 115, 101, 114]⟩, ⟨#[]⟩), (⟨#[103, 114, 111, 117, 112]⟩, ⟨#[109]⟩)], [(1, ⟨#[]⟩, ⟨#[]⟩), (3, ⟨#[97]⟩, ⟨#[98]⟩), (4, ⟨#[]⟩, ⟨#[]⟩), (2, ⟨#[99]⟩, ⟨#[]⟩), (6, ⟨#[]⟩, ⟨#[]⟩)]⟩]⟩]
theorem call_exP (w : World) : Calls Try.prog 9 #[.string ⟨#[116, 121, 112, 101, 32, 100, 111, 99, 32, 123, 32, 114, 101, 108, 32, 114, 32, 40, 118, 44, 32, 101, 44, 32, 99, 41, 58, 32, 117, 115, 101, 114, 44, 32, 103, 114, 111, 117, 112, 35, 109, 32, 105, 115, 32, 116, 104, 105, 115, 32, 124, 32, 97, 46, 98, 32, 45, 32, 99, 59, 32, 125]⟩] w fun e w' =>
    (∃ A c, e = .returned (.tuple #[.agg #[.slice A 1 c], .int .i64 0, .int .i64 0]) ∧ VTyps w.heap.size w' (.slice A 1 c) exPT) ∧ Below w.heap.size w w' :=
  parse_named exP (by decide +kernel) exP_says w
theorem call_exQ (w : World) : Calls Try.prog 9 #[.string ⟨#[116, 121, 112, 101, 32, 100, 111, 99, 32, 123, 32, 114, 101, 108]⟩] w fun e w' =>
    (∃ A c, e = .returned (.tuple #[.agg #[.slice A 0 c], .int .i64 30, .int .i64 14])) ∧ Below w.heap.size w w' :=
  (parse_named exQ (by decide +kernel) exQ_says w).mono fun _ _ ⟨⟨A, c, h1, _⟩, h2⟩ => ⟨⟨A, c, h1⟩, h2⟩
/-- What memory holds of the example. -/
theorem exP_cells {w : World} {B : Nat} {v : Value} (h : VTyps B w v exPT) : ∃ g c gr cr gs cs go co, v = .slice (some ⟨g, 0, none⟩) 1 c ∧ (g < w.heap.size ∧ gr < w.heap.size ∧ gs < w.heap.size ∧ go < w.heap.size) ∧
    w.cell? ⟨g, 1, none⟩ = some (.slice (some ⟨gr, 0, none⟩) 1 cr) ∧
    (w.cell? ⟨gr, 0, none⟩ = some (.string ⟨#[114]⟩) ∧ w.cell? ⟨gr, 1, none⟩ = some (.string ⟨#[118]⟩) ∧ w.cell? ⟨gr, 2, none⟩ = some (.string ⟨#[101]⟩) ∧ w.cell? ⟨gr, 3, none⟩ = some (.string ⟨#[99]⟩) ∧ w.cell? ⟨gr, 4, none⟩ = some (.slice (some ⟨gs, 0, none⟩) 2 cs) ∧ w.cell? ⟨gr, 5, none⟩ = some (.slice (some ⟨go, 0, none⟩) 5 co)) ∧
    (w.cell? ⟨gs, 2, none⟩ = some (.string ⟨#[103, 114, 111, 117, 112]⟩) ∧ w.cell? ⟨gs, 3, none⟩ = some (.string ⟨#[109]⟩)) ∧
    (w.cell? ⟨go, 3, none⟩ = some (.int .i64 3) ∧ w.cell? ⟨go, 4, none⟩ = some (.string ⟨#[97]⟩) ∧ w.cell? ⟨go, 5, none⟩ = some (.string ⟨#[98]⟩)) ∧
    w.cell? ⟨go, 6, none⟩ = some (.int .i64 4) ∧ w.cell? ⟨go, 9, none⟩ = some (.int .i64 2) ∧ w.cell? ⟨go, 12, none⟩ = some (.int .i64 6) := by
  obtain ⟨g, c, vr, rfl, hr, _, g1⟩ := h.get (i := 0) rfl
  obtain ⟨gr, cr, vs, vo, rfl, hs, ho, r0, r1, r2, r3, r4, r5⟩ := hr.get (i := 0) rfl
  obtain ⟨gs, cs, rfl, s0, s1⟩ := hs.get (i := 1) rfl
  obtain ⟨go, co, rfl, o0, o1, o2⟩ := ho.get (i := 1) rfl
  obtain ⟨_, _, e1, p0, _, _⟩ := ho.get (i := 2) rfl
  cases e1
  obtain ⟨_, _, e1, q0, _, _⟩ := ho.get (i := 3) rfl
  cases e1
  obtain ⟨_, _, e1, t0, _, _⟩ := ho.get (i := 4) rfl
  cases e1
  exact ⟨g, c, gr, cr, gs, cs, go, co, rfl, ⟨World.block_lt_of_cell? _ _ g1, World.block_lt_of_cell? _ _ r0, World.block_lt_of_cell? _ _ s0, World.block_lt_of_cell? _ _ o0⟩, g1, ⟨r0, r1, r2, r3, r4, r5⟩, ⟨s0, s1⟩, ⟨o0, o1, o2⟩, p0, q0, t0⟩

set_option maxRecDepth 100000 in
set_option maxHeartbeats 4000000 in
theorem awake7_any (w : World) : Calls Try.prog 8 #[] w fun e w' => e = .returned (.bool true) ∧ Below w.heap.size w w' := by
  go_enter Try.func8, Try.ntmps8
  go_wp2_with fail
  refine (call_exP _).mono ?_
  rintro e w1 ⟨⟨A, c, rfl, hv⟩, hb1⟩
  have hs1 := Bk.new w1 #[.slice A 1 c] 25
  replace hv := hv.below ((Below.refl _ w1).alloc (Nat.le_refl _) (.cells #[.slice A 1 c] 25))
  replace hb1 := hb1.alloc hb1.size (.cells #[.slice A 1 c] 25)
  go_wp2_with fail
  generalize w1.alloc (.cells #[.slice A 1 c] 25) = W1 at *
  generalize w1.heap.size = b1 at *
  refine (call_exQ _).mono ?_
  rintro e W2 ⟨⟨A2, c2, rfl⟩, hb2⟩
  replace hv := hv.below hb2
  replace hs1 := hs1.below hb2
  replace hb1 := hb1.trans (hb2.mono hb1.size)
  clear hb2
  obtain ⟨g, c3, gr, cr, gs, cs, go, co, e1, ⟨l1, l2, l3, l4⟩, g1, ⟨r0, r1, r2, r3, r4, r5⟩, ⟨s0, s1⟩, ⟨o0, o1, o2⟩, p0, q0, t0⟩ := exP_cells hv
  cases e1
  have x0 := hs1.c1
  have lx := hs1.lt
  clear hv hs1
  go_wp2_with fail
  go_ret
  exact ⟨rfl, (hb1.alloc hb1.size _).alloc (size_alloc hb1.size) _⟩
end Go.Proofs.Ytkeonempmchpnaa
