/- Layer 13: what comes in, opened: keys, and what is asked or changed. Conditions: none. -/
import Derived.Test.YtampggkjlpbbmaaArgG
import Derived.Test.YtampggkjlpbbmaaDifW
namespace Go.Proofs.Ytampggkjlpbbmaa
open Go.ChangeShapes Go.WideShapes Go.ChangeAt Go.RowKit

section
variable {H : Type} {enc : TypeId × Value → H} {P : Program} {W : World} {base : Nat} {spare : Nat → Bool} {held : Bool}
theorem rd_pairsW {R : Nat} {t e t0 t1 : TypeId} {f0 f1 : Field} {fuel : Nat} {v : Value} {x : DataW H × List MemPlace} (ht : P.underlying t = some (.slice e)) (he : P.underlying e = some (.struct #[f0, f1])) (hone : Go.Deep.oneCellFields P #[f0, f1] = true) (hc : P.cellsOf e = 2)
    (e0 : f0.type = t0) (e1 : f1.type = t1) (h0 : P.underlying t0 = some .string) (h1 : P.underlying t1 = some .bool) (h : DataW.trod enc P W base spare held fuel t [v] = some x) (hS : Sz P R t x.1) :
    ∃ (A : Option Addr) (c : Nat) (l : List (ByteArray × Bool)), v = .slice A l.length c ∧ Rd W W.heap.size 2 A l.length c (pcs l) ∧ ∀ s ∈ l, s.1.size ≤ R := by
  subst e0; subst e1
  obtain ⟨A, c, E, rfl, hB, hr, hE⟩ := rd_sliceW ht hc (by omega) h hS
  obtain ⟨k, rfl, hk⟩ := map_of_allA (g := pcell) (Q := fun s => s.1.size ≤ R) fun l hl => by
    obtain ⟨hl1, f', y, hy, hy2⟩ := hE l hl
    have hg := rd_structW he hone hy hy2
    match l, hl1 with
    | [u0, u1], _ =>
      obtain ⟨_, z0, g0, k0⟩ := hg 0 f0 rfl
      obtain ⟨_, z1, g1, k1⟩ := hg 1 f1 rfl
      obtain ⟨s0, q0, b0⟩ := rd_stringW h0 (by simpa using g0) k0
      obtain ⟨b, q1, _⟩ := DataW.trod_bool h1 (by simpa using g1)
      simp at q0 q1
      subst q0; subst q1
      exact ⟨(s0, b), rfl, b0⟩
  simp only [List.length_map] at hr hB ⊢
  exact ⟨A, c, k, rfl, by unfold pcs; rw [List.flatMap_def]; exact hr, hk⟩
set_option maxRecDepth 100000 in
theorem rd_pres {v : Value} {d : DataW H} {p : List MemPlace} {r : Go.Reach} {b0 : Nat} (hv : Value.okWide Try.prog W r b0 23 v) (h : DataW.Trod enc Try.prog W base spare held 23 v d p) (hS : Sz Try.prog 140737488351232 23 d) :
    ∃ (A : Option Addr) (c : Nat) (l : List (ByteArray × Bool)), v = .slice A l.length c ∧ Rd W W.heap.size 2 A l.length c (pcs l) ∧ ∀ s ∈ l, s.1.size ≤ maxLen := by
  obtain ⟨a, n, c, rfl⟩ := okWide_slice Try.underlying23 hv
  obtain ⟨fuel, hf⟩ := h
  obtain ⟨A, c, l, e, h1, h2⟩ := rd_pairsW (x := (d, p)) Try.underlying23 Try.underlying46 (by kernel_rfl) (by kernel_rfl) rfl rfl Try.underlying9 Try.underlying4 (by simpa [Value.cells] using hf) hS
  exact ⟨A, c, l, e, h1, fun s hs => by have := h2 s hs; unfold maxLen; omega⟩
set_option maxRecDepth 100000 in
theorem rd_changes {v : Value} {d : DataW H} {p : List MemPlace} {r : Go.Reach} {b0 : Nat} (hv : Value.okWide Try.prog W r b0 24 v) (h : DataW.Trod enc Try.prog W base spare held 24 v d p) (hS : Sz Try.prog 140737488351232 24 d) :
    ∃ (A : Option Addr) (c : Nat) (l : List (ByteArray × Bool)), v = .slice A l.length c ∧ Rd W W.heap.size 2 A l.length c (pcs l) ∧ ∀ s ∈ l, s.1.size ≤ maxLen := by
  obtain ⟨a, n, c, rfl⟩ := okWide_slice Try.underlying24 hv
  obtain ⟨fuel, hf⟩ := h
  obtain ⟨A, c, l, e, h1, h2⟩ := rd_pairsW (x := (d, p)) Try.underlying24 Try.underlying40 (by kernel_rfl) (by kernel_rfl) rfl rfl Try.underlying9 Try.underlying4 (by simpa [Value.cells] using hf) hS
  exact ⟨A, c, l, e, h1, fun s hs => by have := h2 s hs; unfold maxLen; omega⟩
theorem rd_keys {v : Value} {d : DataW H} {p : List MemPlace} {r : Go.Reach} {b0 : Nat} (hv : Value.okWide Try.prog W r b0 22 v) (h : DataW.Trod enc Try.prog W base spare held 22 v d p) :
    ∃ (A : Option Addr) (c : Nat) (l : List ByteArray), v = .slice A l.length c ∧ Rd W W.heap.size 1 A l.length c (ks l) ∧ ∀ s ∈ l, s.size ≤ maxLen := by
  obtain ⟨A, n, c, l, rfl, hr, hf⟩ := rd_strings Try.underlying22 Try.underlying9 (by kernel_rfl) hv h
  obtain rfl : n = l.length := by have := hr.len; simp at this; omega
  exact ⟨A, c, l, rfl, hr, hf⟩
end
end Go.Proofs.Ytampggkjlpbbmaa
