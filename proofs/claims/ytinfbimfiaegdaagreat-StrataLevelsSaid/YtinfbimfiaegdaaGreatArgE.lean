/- Layer 10: edges that come in, opened. Conditions: none. -/
import Derived.Deep.Slices
import Derived.Test.YtinfbimfiaegdaaGreatArgS
import Derived.Test.YtinfbimfiaegdaaGreatWalkD
namespace Go.Proofs.YtinfbimfiaegdaaGreat
open Go.ChangeShapes Go.WideShapes Go.ChangeAt Go.RowKit

section
variable {H : Type} {enc : TypeId × Value → H} {P : Program} {W : World} {base : Nat} {spare : Nat → Bool} {held : Bool}
theorem rd_edgeW {R : Nat} {e t0 t1 t2 : TypeId} {f0 f1 f2 : Field} {fuel : Nat} {l : List Value} {y : DataW H × List MemPlace} (he : P.underlying e = some (.struct #[f0, f1, f2])) (hone : Go.Deep.oneCellFields P #[f0, f1, f2] = true) (hl1 : l.length = 3)
    (e0 : f0.type = t0) (e1 : f1.type = t1) (e2 : f2.type = t2) (h0 : P.underlying t0 = some (.int .i64)) (h1 : P.underlying t1 = some (.int .i64)) (h2 : P.underlying t2 = some .bool) (hy : DataW.trod enc P W base spare held fuel e l = some y) (hy2 : Sz P R e y.1) :
    ∃ b : Ed, l = ecell b ∧ (Lit.int .i64 b.1).wf = true ∧ (Lit.int .i64 b.2.1).wf = true := by
  subst e0; subst e1; subst e2
  have hg := rd_structW he hone hy hy2
  match l, hl1 with
  | [u0, u1, u2], _ =>
    obtain ⟨_, z0, g0, k0⟩ := hg 0 f0 rfl
    obtain ⟨_, z1, g1, k1⟩ := hg 1 f1 rfl
    obtain ⟨_, z2, g2, k2⟩ := hg 2 f2 rfl
    obtain ⟨n0, q0, _, b0⟩ := DataW.trod_int h0 (by simpa using g0)
    obtain ⟨n1, q1, _, b1⟩ := DataW.trod_int h1 (by simpa using g1)
    obtain ⟨n2, q2, _⟩ := DataW.trod_bool h2 (by simpa using g2)
    simp at q0 q1 q2
    subst q0; subst q1; subst q2
    exact ⟨(n0, n1, n2), rfl, b0, b1⟩
theorem rd_edgesW {R : Nat} {t e t0 t1 t2 : TypeId} {f0 f1 f2 : Field} {fuel : Nat} {v : Value} {x : DataW H × List MemPlace} (ht : P.underlying t = some (.slice e)) (he : P.underlying e = some (.struct #[f0, f1, f2])) (hone : Go.Deep.oneCellFields P #[f0, f1, f2] = true) (hc : P.cellsOf e = 3)
    (e0 : f0.type = t0) (e1 : f1.type = t1) (e2 : f2.type = t2) (h0 : P.underlying t0 = some (.int .i64)) (h1 : P.underlying t1 = some (.int .i64)) (h2 : P.underlying t2 = some .bool) (h : DataW.trod enc P W base spare held fuel t [v] = some x) (hS : Sz P R t x.1) :
    ∃ (A : Option Addr) (c : Nat) (l : List Ed), v = .slice A l.length c ∧ Rd W W.heap.size 3 A l.length c (ecells l) ∧ ∀ o ∈ l, (Lit.int .i64 o.1).wf = true ∧ (Lit.int .i64 o.2.1).wf = true := by
  obtain ⟨A, c, E, rfl, _, hr, hE⟩ := rd_sliceW ht hc (by omega) h hS
  obtain ⟨k, rfl, hk⟩ := map_of_allA (g := ecell) (Q := fun o => (Lit.int .i64 o.1).wf = true ∧ (Lit.int .i64 o.2.1).wf = true) fun l hl => by
    obtain ⟨hl1, f', y, hy, hy2⟩ := hE l hl
    exact rd_edgeW he hone hl1 e0 e1 e2 h0 h1 h2 hy hy2
  simp only [List.length_map] at hr ⊢
  exact ⟨A, c, k, rfl, by unfold ecells; rw [List.flatMap_def]; exact hr, hk⟩
set_option maxRecDepth 100000 in
theorem rd_edgesIn {R : Nat} {v : Value} {d : DataW H} {p : List MemPlace} {r : Go.Reach} {b0 : Nat} (hv : Value.okWide Tryz.prog W r b0 33 v) (h : DataW.Trod enc Tryz.prog W base spare held 33 v d p) (hS : Sz Tryz.prog R 33 d) :
    ∃ (A : Option Addr) (c : Nat) (l : List Ed), v = .slice A l.length c ∧ Rd W W.heap.size 3 A l.length c (ecells l) ∧ ∀ o ∈ l, (Lit.int .i64 o.1).wf = true ∧ (Lit.int .i64 o.2.1).wf = true := by
  obtain ⟨a, n, c, rfl⟩ := okWide_slice Tryz.underlying33 hv
  obtain ⟨fuel, hf⟩ := h
  exact rd_edgesW (x := (d, p)) Tryz.underlying33 Tryz.underlying50 (by kernel_rfl) (by kernel_rfl) rfl rfl rfl Tryz.underlying3 Tryz.underlying3 Tryz.underlying4 (by simpa [Value.cells] using hf) hS
set_option maxRecDepth 100000 in
theorem rd_edgeIn {R : Nat} {v : Value} {d : DataW H} {p : List MemPlace} {r : Go.Reach} {b0 : Nat} (hv : Value.okWide Tryz.prog W r b0 50 v) (h : DataW.Trod enc Tryz.prog W base spare held 50 v d p) (hS : Sz Tryz.prog R 50 d) :
    ∃ e : Ed, v = .agg (ecell e).toArray ∧ (Lit.int .i64 e.1).wf = true ∧ (Lit.int .i64 e.2.1).wf = true := by
  obtain ⟨cs, rfl, hc⟩ := okWide_struct Tryz.underlying50 hv
  obtain ⟨fuel, hf⟩ := h
  rw [show Tryz.prog.cellsOf 50 = 3 by kernel_rfl] at hc
  obtain ⟨e, he, h1, h2⟩ := rd_edgeW (y := (d, p)) (l := cs.toList) Tryz.underlying50 (by kernel_rfl) (by simpa using hc) rfl rfl rfl Tryz.underlying3 Tryz.underlying3 Tryz.underlying4 (by simpa [Value.cells] using hf) hS
  exact ⟨e, by rw [← he, Array.toArray_toList], h1, h2⟩
end
end Go.Proofs.YtinfbimfiaegdaaGreat
