/- Layer 7: what memory holds of the document's own parser: tokens, a number, an error and its place; its smallest calls. Conditions: none. -/
import Derived.BigQuiet
import Derived.Deep.QuietTactic
import Derived.Test.YtkeonempmchpnaaParseP
import Derived.Test.YtkeonempmchpnaaRegion7
import Derived.Test.YtkeonempmchpnaaRefSign
import Derived.Test.YtkeonempmchpnaaParts
import Derived.Test.YtkeonempmchpnaaTyp
namespace Go.Proofs.Ytkeonempmchpnaa
open Go.RowKit

/-- The struct, at the block g. -/
structure PAt (w : World) (g : Nat) (A : Option Addr) (c : Nat) (T : List Tk) (i e p : Nat) : Prop where
  cells : Bk w g #[.slice A T.length c, .int .i64 i, .int .i64 e, .int .i64 p] 71
  row : Rd w g 3 A T.length c (tcells T)
  fine : Fine (T.drop i)
  few : T.length ≤ 1000000
/-- What state memory says. -/
def Says (T : List Tk) (i e p : Nat) : St → Prop
  | .ok l => e = 0 ∧ l = T.drop i
  | .error x => e = x.1 ∧ x.1 ≠ 0 ∧ p = x.2
def PSt (w : World) (g : Nat) (q : St) : Prop := ∃ A c T i e p, PAt w g A c T i e p ∧ Says T i e p q
section
variable {w w' : World} {g i e p c : Nat} {A : Option Addr} {T : List Tk} {q : St}
theorem PAt.get (h : PAt w g A c T i e p) : ∃ b o, A = some ⟨b, o, none⟩ ∧ i < T.length ∧ b < g ∧ w.cell? ⟨b, o + i * 3, none⟩ = some (.int .i64 (hdT (T.drop i)).1) ∧ w.cell? ⟨b, o + i * 3 + 1, none⟩ = some (.string (hdT (T.drop i)).2.1) ∧ w.cell? ⟨b, o + i * 3 + 2, none⟩ = some (.int .i64 (hdT (T.drop i)).2.2) := by
  obtain ⟨t, r, ht⟩ := h.fine.cons
  have hi : i < T.length := by
    have := congrArg List.length ht
    rw [List.length_drop, List.length_cons] at this
    omega
  have hti : T[i]? = some t := by
    have := congrArg (fun l : List Tk => l[0]?) ht
    simpa using this
  obtain ⟨b, o, e, hb, hc⟩ := h.row.at_ (by omega)
  refine ⟨b, o, e, hi, hb, ?_, ?_, ?_⟩
  · rw [ht]; exact hc _ _ (tcells_at T i t hti 0 _ rfl)
  · rw [ht]; exact hc _ _ (tcells_at T i t hti 1 _ rfl)
  · rw [ht]; exact hc _ _ (tcells_at T i t hti 2 _ rfl)
theorem PAt.keep (h : PAt w g A c T i e p) (hb : ∀ k, k ≤ g → w'.heap[k]? = w.heap[k]?) : PAt w' g A c T i e p := by
  refine ⟨(hb g (Nat.le_refl _)).trans h.cells, h.row.keep fun p hp => ?_, h.fine, h.few⟩
  have := hb p.block (by omega)
  unfold World.cell?
  rw [this]
theorem PAt.below (h : PAt w g A c T i e p) (hb : Below w.heap.size w w') : PAt w' g A c T i e p := h.keep fun k hk => hb.block k (by have := h.cells.lt; omega)
theorem PSt.keep (h : PSt w g q) (hb : ∀ k, k ≤ g → w'.heap[k]? = w.heap[k]?) : PSt w' g q := by
  obtain ⟨A, c, T, i, e, p, h, hs⟩ := h
  exact ⟨A, c, T, i, e, p, h.keep hb, hs⟩
theorem PSt.size (h : PSt w g q) : g < w.heap.size := by obtain ⟨A, c, T, i, e, p, h, hs⟩ := h; exact h.cells.lt
theorem PSt.below (h : PSt w g q) (hb : Below w.heap.size w w') : PSt w' g q := h.keep fun k hk => hb.block k (by have := h.size; omega)
theorem PSt.drew (h : PSt w g q) : PSt w.drew g q := h.keep fun _ _ => rfl
theorem PSt.set (h : PSt w g q) {a : Addr} (ha : g < a.block) (v : Value) : PSt (w.setCell a v) g q := h.keep fun k hk => Below.heap_setCell _ _ _ _ (by omega)
theorem PSt.alloc (h : PSt w g q) (o : Obj) : PSt (w.alloc o) g q := h.below ((Below.refl _ w).alloc (Nat.le_refl _) o)
theorem PSt.grown {base : Nat} {t : TypeId} {size n : Nat} {v : Value} {xs : List Value} {o : Obj} (h : PSt w g q) (hg : (w.alloc o).grownBy w' v.ownBlock) (hown : w.ownsRow base t size v n xs) (hle : g < base) : PSt w' g q := by
  refine h.keep fun k hk => ?_
  have hs := h.size
  refine (hg.block k (by simp; omega) fun e => ?_).trans (heap_alloc_old w _ (by omega))
  have := (hown.lt k e.symm).1
  omega
theorem PSt.grown0 {base : Nat} {t : TypeId} {size n : Nat} {v : Value} {xs : List Value} (h : PSt w g q) (hg : w.grownBy w' v.ownBlock) (hown : w.ownsRow base t size v n xs) (hle : g < base) : PSt w' g q := by
  refine h.keep fun k hk => ?_
  have hs := h.size
  refine hg.block k (by omega) fun e => ?_
  have := (hown.lt k e.symm).1
  omega
/-- The number is one more: one token is passed. -/
theorem PAt.step (h : PAt w g A c T i e p) (hf : Fine (T.drop i).tail) : PAt (w.setCell ⟨g, 1, none⟩ (.int .i64 ((i + 1 : Nat) : Int))) g A c T (i + 1) e p := by
  refine ⟨h.cells.set 1 _, h.row.keep fun p hp => ?_, by rw [← List.tail_drop]; exact hf, h.few⟩
  have := Below.heap_setCell w ⟨g, 1, none⟩ (.int .i64 ((i + 1 : Nat) : Int)) p.block (by dsimp only; omega)
  unfold World.cell?
  rw [this]
theorem PAt.set2 (h : PAt w g A c T i e p) (e' : Nat) : PAt (w.setCell ⟨g, 2, none⟩ (.int .i64 e')) g A c T i e' p := by
  refine ⟨h.cells.set 2 _, h.row.keep fun p hp => ?_, h.fine, h.few⟩
  have := Below.heap_setCell w ⟨g, 2, none⟩ (.int .i64 e') p.block (by dsimp only; omega)
  unfold World.cell?
  rw [this]
theorem PAt.set3 (h : PAt w g A c T i e p) (p' : Nat) : PAt (w.setCell ⟨g, 3, none⟩ (.int .i64 p')) g A c T i e p' := by
  refine ⟨h.cells.set 3 _, h.row.keep fun p hp => ?_, h.fine, h.few⟩
  have := Below.heap_setCell w ⟨g, 3, none⟩ (.int .i64 p') p.block (by dsimp only; omega)
  unfold World.cell?
  rw [this]
theorem kp_at (g B : Nat) (w : World) (k : Nat) (v : Value) : Kp g B w (w.setCell ⟨g, k, none⟩ v) := ⟨rfl, rfl, rfl, by simp [World.setCell], fun _ _ hn => Below.heap_setCell _ _ _ _ hn⟩
theorem PAt.up (h : PAt w g A c T i 0 p) (hf : Fine (T.drop i).tail) : PSt (w.setCell ⟨g, 1, none⟩ (.int .i64 ((i : Int) + 1))) g (upU (.ok (T.drop i))) :=
  ⟨_, _, _, _, _, _, h.step hf, rfl, by rw [← List.tail_drop]⟩
theorem isU_ok {s : ByteArray} {q : St} (h : isU s q = true) : ∃ l, q = .ok l ∧ (hdT l).2.1 = s := by
  cases q with
  | error x => cases h
  | ok l => exact ⟨l, rfl, (of_decide_eq_true h).1⟩
end
/-- How a call ends: with a value, and in a state. -/
def UPost {α : Type} (V : World → Value → α → Prop) (w : World) (g : Nat) (u : α × St) (e : Ending) (w' : World) : Prop :=
  Kp g w.heap.size w w' ∧ (∃ v, e = .returned v ∧ V w' v u.1) ∧ PSt w' g u.2
end Go.Proofs.Ytkeonempmchpnaa
