/- What sectors are to hold, as an argument bears it. Conditions: none. -/
import Derived.Test.YtgppaompcnllbaaWSizes
namespace Go.Proofs.Ytgppaompcnllbaa
open Go.ChangeShapes Go.WideShapes Go.ChangeAt Go.RowKit

structure Ly where
  kind : Int
  ep : Int
  num : Int
  sz : Int
  A : Option Addr
  c : Nat
  b : List UInt8
def lyCells (a : Ly) : List Value := [.int .u8 a.kind, .int .u8 a.ep, .int .u8 a.num, .int .u16 a.sz, .slice a.A a.b.length a.c]
structure LyOk (W : World) (a : Ly) : Prop where
  kind : 0 ≤ a.kind ∧ a.kind ≤ 255
  ep : 0 ≤ a.ep ∧ a.ep ≤ 255
  num : 0 ≤ a.num ∧ a.num ≤ 255
  sz : 0 ≤ a.sz ∧ a.sz ≤ 65535
  b : Rd W W.heap.size 1 a.A a.b.length a.c (bv a.b)
section
variable {H : Type} {enc : TypeId × Value → H} {P : Program} {W : World} {base : Nat} {spare : Nat → Bool} {held : Bool}
theorem rd_lays {t e t0 t1 t2 t3 t4 q4 : TypeId} {f0 f1 f2 f3 f4 : Field} {v : Value} {d : DataW H} {p : List MemPlace} {r : Reach} {b0 : Nat} (ht : P.underlying t = some (.slice e)) (he : P.underlying e = some (.struct #[f0, f1, f2, f3, f4]))
    (hone : Go.Deep.oneCellFields P #[f0, f1, f2, f3, f4] = true) (hc : P.cellsOf e = 5) (e0 : f0.type = t0) (e1 : f1.type = t1) (e2 : f2.type = t2) (e3 : f3.type = t3) (e4 : f4.type = t4)
    (h0 : P.underlying t0 = some (.int .u8)) (h1 : P.underlying t1 = some (.int .u8)) (h2 : P.underlying t2 = some (.int .u8)) (h3 : P.underlying t3 = some (.int .u16)) (h4 : P.underlying t4 = some (.slice q4)) (h4' : P.underlying q4 = some (.int .u8)) (hq4 : P.cellsOf q4 = 1)
    (hv : Value.okWide P W r b0 t v) (h : DataW.Trod enc P W base spare held t v d p) :
    ∃ (A : Option Addr) (c : Nat) (l : List Ly), v = .slice A l.length c ∧ Rd W W.heap.size 5 A l.length c (l.flatMap lyCells) ∧ ∀ a ∈ l, LyOk W a := by
  subst e0; subst e1; subst e2; subst e3; subst e4
  obtain ⟨a, n, c, rfl⟩ := okWide_slice ht hv
  obtain ⟨fuel, hf⟩ := h
  obtain ⟨A, c', E, hv', hr, hE⟩ := rd_slice ht hc (by omega) (v := .slice a n c) (by simpa [Value.cells] using hf)
  obtain ⟨k, rfl, hk⟩ := map_of_all (g := lyCells) (Q := LyOk W) fun l hl => by
    obtain ⟨hl1, f', y, hy⟩ := hE l hl
    obtain ⟨ys, n', _, _, _, hyl, hg⟩ := DataW.trod_struct he hy
    match l, hl1, ys, hyl with
    | [u0, u1, u2, u3, u4], _, [y0, y1, y2, y3, y4], _ =>
      obtain ⟨o0, k0⟩ := Go.Deep.hone_of hone 0 f0 rfl
      obtain ⟨o1, k1⟩ := Go.Deep.hone_of hone 1 f1 rfl
      obtain ⟨o2, k2⟩ := Go.Deep.hone_of hone 2 f2 rfl
      obtain ⟨o3, k3⟩ := Go.Deep.hone_of hone 3 f3 rfl
      obtain ⟨o4, k4⟩ := Go.Deep.hone_of hone 4 f4 rfl
      have g0 := hg 0 f0 rfl
      have g1 := hg 1 f1 rfl
      have g2 := hg 2 f2 rfl
      have g3 := hg 3 f3 rfl
      have g4 := hg 4 f4 rfl
      rw [o0, k0] at g0
      rw [o1, k1] at g1
      rw [o2, k2] at g2
      rw [o3, k3] at g3
      rw [o4, k4] at g4
      obtain ⟨z0, hz0, _, w0⟩ := DataW.trod_int h0 (by simpa using g0)
      obtain ⟨z1, hz1, _, w1⟩ := DataW.trod_int h1 (by simpa using g1)
      obtain ⟨z2, hz2, _, w2⟩ := DataW.trod_int h2 (by simpa using g2)
      obtain ⟨z3, hz3, _, w3⟩ := DataW.trod_int h3 (by simpa using g3)
      obtain ⟨A4, c4, b4, hz4, r4⟩ := in_bytes h4 h4' hq4 (by simpa using g4)
      simp at hz0 hz1 hz2 hz3
      subst hz0; subst hz1; subst hz2; subst hz3; subst hz4
      exact ⟨⟨z0, z1, z2, z3, A4, c4, b4⟩, rfl, wf_u8 w0, wf_u8 w1, wf_u8 w2, wf_u16 w3, r4⟩
  simp only [List.length_map] at hr hv'
  exact ⟨A, c', k, hv', by rw [List.flatMap_def]; exact hr, hk⟩
end
end Go.Proofs.Ytgppaompcnllbaa
