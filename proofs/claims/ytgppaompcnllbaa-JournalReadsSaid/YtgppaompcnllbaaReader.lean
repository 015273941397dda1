/- The contracts of the reader of bytes: Err, Left, End, Num, Text. -/
import Derived.Test.YtgppaompcnllbaaTake
namespace Go.Proofs.Ytgppaompcnllbaa
open Go.RowKit

/-- What a reader holds: what is left, and the first error. -/
abbrev RSt := List UInt8 × Nat
/-- Block g is a reader that holds st. -/
def IsR (w : World) (g : Nat) (st : RSt) : Prop :=
  ∃ A n c, w.heap[g]? = some (.cells #[.slice A n c, .int .i64 st.2] 107 (0, 0)) ∧ Rd w g 1 A n c (bv st.1)
theorem IsR.lt {w : World} {g : Nat} {st : RSt} (h : IsR w g st) : g < w.heap.size := by
  obtain ⟨A, n, c, h, _⟩ := h
  exact (Array.getElem?_eq_some_iff.1 h).1
theorem IsR.below {w w' : World} {g B : Nat} {st : RSt} (h : IsR w g st) (hb : Below B w w') (hg : g < B) : IsR w' g st := by
  obtain ⟨A, n, c, h1, h2⟩ := h
  exact ⟨A, n, c, by rw [hb.block g hg]; exact h1, h2.belowLe hb (by omega)⟩
theorem grown_set {w0 w : World} {g : Nat} (h : w0.grownBy w (some g)) (o : Nat) (u : Value) : w0.grownBy (w.setCell ⟨g, o, none⟩ u) (some g) :=
  ⟨h.os, h.tape, h.output, by simpa [World.setCell] using h.size, fun i hi hne => (Below.heap_setCell w ⟨g, o, none⟩ u i (fun e => hne (by rw [e]))).trans (h.block i hi hne)⟩
theorem grown_alloc {w0 w : World} {r : Option Nat} (h : w0.grownBy w r) (o : Obj) : w0.grownBy (w.alloc o) r :=
  ⟨h.os, h.tape, h.output, Nat.le_trans h.size (by simp), fun i hi hne => (Below.heap_alloc w o i (Nat.lt_of_lt_of_le hi h.size)).trans (h.block i hi hne)⟩
theorem grown_below {w0 w w' : World} {r : Option Nat} {B : Nat} (h : w0.grownBy w r) (hb : Below B w w') (hB : w0.heap.size ≤ B) : w0.grownBy w' r :=
  ⟨hb.os.trans h.os, hb.tape.trans h.tape, hb.output.trans h.output, Nat.le_trans h.size hb.size, fun i hi hne => (hb.block i (by omega)).trans (h.block i hi hne)⟩
theorem IsR.set0 {w : World} {g : Nat} {st : RSt} (h : IsR w g st) (A : Option Addr) (n c : Nat) (l : List UInt8) (hr : Rd w g 1 A n c (bv l)) : IsR (w.setCell ⟨g, 0, none⟩ (.slice A n c)) g (l, st.2) := by
  obtain ⟨A0, n0, c0, h1, h2⟩ := h
  refine ⟨A, n, c, ?_, hr.keep fun p hp => World.cell?_setCell_other w _ p _ (fun e => by subst e; simp at hp)⟩
  simp [World.setCell, Array.getElem?_modify, h1]
theorem IsR.set1 {w : World} {g : Nat} {st : RSt} (h : IsR w g st) (e : Nat) : IsR (w.setCell ⟨g, 1, none⟩ (.int .i64 e)) g (st.1, e) := by
  obtain ⟨A0, n0, c0, h1, h2⟩ := h
  refine ⟨A0, n0, c0, ?_, h2.keep fun p hp => World.cell?_setCell_other w _ p _ (fun e => by subst e; simp at hp)⟩
  simp [World.setCell, Array.getElem?_modify, h1]
theorem IsR.cells {w : World} {g : Nat} {st : RSt} (h : IsR w g st) : ∃ A n c, w.cell? ⟨g, 0, none⟩ = some (.slice A n c) ∧ w.cell? ⟨g, 1, none⟩ = some (.int .i64 st.2) ∧ (∀ j, w.frozen? ⟨g, j, none⟩ = false) ∧ Rd w g 1 A n c (bv st.1) := by
  obtain ⟨A, n, c, h1, h2⟩ := h
  exact ⟨A, n, c, by rw [cell_of_row _ _ _ _ _ _ h1]; rfl, by rw [cell_of_row _ _ _ _ _ _ h1]; rfl, fun j => by simp [World.frozen?, h1], h2⟩

/-- Num: the number, and what the reader holds behind it. -/
def rnum (st : RSt) : Nat × RSt :=
  if st.2 ≠ 0 then (0, st) else if (takeS st.1).2.2 ≠ 0 then (0, (st.1, (takeS st.1).2.2)) else ((takeS st.1).1, (st.1.drop (takeS st.1).2.1, 0))
set_option maxRecDepth 100000 in
set_option maxHeartbeats 400000 in
theorem err_any (g : Nat) (st : RSt) (w : World) (h : IsR w g st) :
    Calls Try.prog 53 #[.pointer (some ⟨g, 0, none⟩)] w fun e w' => e = .returned (.int .i64 st.2) ∧ w = w' := by
  obtain ⟨A, n, c, h0, h1, hf, hr⟩ := h.cells
  go_enter Try.func53, Try.ntmps53
  go_wp2
  go_ret
  exact ⟨rfl, rfl⟩
end Go.Proofs.Ytgppaompcnllbaa
