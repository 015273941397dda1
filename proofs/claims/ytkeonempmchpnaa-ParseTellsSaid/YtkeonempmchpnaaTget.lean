/- A token's cells in a list of tokens that All told. Conditions: none. -/
import Derived.Test.YtkeonempmchpnaaAll
namespace Go.Proofs.Ytkeonempmchpnaa
open Go.RowKit

/-- The cells of the token at place i. -/
theorem Toks.get {w : World} {A : Option Addr} {c : Nat} {l : List Tk} (h : Toks w A c l) {i : Nat} {t : Tk} (hi : l[i]? = some t) :
    ∃ b o, A = some ⟨b, o, none⟩ ∧ b < w.heap.size ∧ w.cell? ⟨b, o + i * 3, none⟩ = some (.int .i64 t.1) ∧ w.cell? ⟨b, o + i * 3 + 1, none⟩ = some (.string t.2.1) ∧ w.cell? ⟨b, o + i * 3 + 2, none⟩ = some (.int .i64 t.2.2) := by
  have hl : i < l.length := (List.getElem?_eq_some_iff.1 hi).1
  obtain ⟨b, o, e, hb, hc⟩ := Rd.at_ h (by omega)
  refine ⟨b, o, e, hb, ?_, ?_, ?_⟩
  · have := hc (i * 3 + 0) _ (tcells_at l i t hi 0 _ rfl)
    exact this
  · have := hc (i * 3 + 1) _ (tcells_at l i t hi 1 _ rfl)
    rwa [← Nat.add_assoc] at this
  · have := hc (i * 3 + 2) _ (tcells_at l i t hi 2 _ rfl)
    rwa [← Nat.add_assoc] at this

end Go.Proofs.Ytkeonempmchpnaa
