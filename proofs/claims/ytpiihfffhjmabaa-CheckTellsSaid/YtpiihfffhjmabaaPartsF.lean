/- Layer 9: which types and relations there are, checked; and what they name. Conditions: names aren't longer than memory. -/
import Derived.BigQuiet
import Derived.Deep.QuietTactic
import Derived.Deep.Cut
import Derived.StillTailTactics
import Derived.Test.YtpiihfffhjmabaaNamesW
namespace Go.Proofs.Ytpiihfffhjmabaa
open Go.RowKit

theorem find_any_some {α : Type} (p : α → Bool) : ∀ l : List α, (l.find? p).isSome = l.any p
  | [] => rfl
  | x :: r => by
    rw [List.find?_cons, List.any_cons]
    cases h : p x with
    | true => rfl
    | false => exact find_any_some p r
theorem SchA.pre {w : World} {R : Nat} {A : Option Addr} {c : Nat} {l : List TypA} (h : SchA w R A c l) {i : Nat} (hi : i ≤ l.length) : SchA w R A c (l.take i) := by
  have e : (l.take i).length = i := by rw [List.length_take]; omega
  refine ⟨?_, ?_, fun a ha => h.each a (List.mem_of_mem_take ha)⟩
  · rw [e, flat_take TypA.cells (sz := 2) (fun _ => rfl)]
    exact h.rows.pre hi
  · have := h.few
    rw [e]
    exact Nat.le_trans (Nat.mul_le_mul_right _ hi) this
theorem TypA.ok.pre {w : World} {R : Nat} {t : TypA} (h : t.ok w R) {i : Nat} (hi : i ≤ t.rels.length) : TypA.ok w R ⟨⟨#[]⟩, t.A, t.c, t.rels.take i⟩ := by
  have e : (t.rels.take i).length = i := by rw [List.length_take]; omega
  refine ⟨Nat.zero_le _, ?_, ?_, fun a ha => h.relz a (List.mem_of_mem_take ha)⟩
  · show Rd w w.heap.size 6 t.A (t.rels.take i).length t.c _
    rw [e, flat_take RelA.cells (sz := 6) (fun _ => rfl)]
    exact h.rels.pre hi
  · have := h.reln
    show (t.rels.take i).length * 112 ≤ R
    rw [e]
    exact Nat.le_trans (Nat.mul_le_mul_right _ hi) this
/-- The code's step through a type's relations. -/
theorem relsE_at {A : Option Addr} {c : Nat} {t : TypI} {q : List RelA} {j : Nat} {r : RelA} (hr : q[j]? = some r) :
    relsE t ((q.take j).map RelA.says) ((q.drop j).map RelA.says) = if reE ⟨⟨#[]⟩, A, c, q.take j⟩ r ≠ 0 then (reE ⟨⟨#[]⟩, A, c, q.take j⟩ r, pathS t r.says) else relsE t ((q.take (j + 1)).map RelA.says) ((q.drop (j + 1)).map RelA.says) := by
  rw [List.drop_eq_getElem_cons (List.getElem?_eq_some_iff.1 hr).1, (List.getElem?_eq_some_iff.1 hr).2, take_snoc hr, List.map_cons, List.map_append]
  have e : ((q.take j).map RelA.says).any (fun x => decide (x.name = r.says.name)) = (firstRA ⟨⟨#[]⟩, A, c, q.take j⟩ r.name).isSome := by
    unfold firstRA
    rw [find_any_some, List.any_map]
    rfl
  have eo : r.says.ops = r.ops := rfl
  unfold reE
  rw [relsE, e, eo]
  by_cases h1 : (firstRA ⟨⟨#[]⟩, A, c, q.take j⟩ r.name).isSome = true
  · rw [if_pos h1, if_pos h1, if_pos (by decide)]
  · rw [if_neg h1, if_neg h1]
    by_cases h2 : 16 < r.ops.length
    · rw [if_pos h2, if_pos h2, if_pos (by decide)]
    · rw [if_neg h2, if_neg h2, if_neg (by decide)]
      rfl
/-- The code's step through the types. -/
theorem typsE_at {l : List TypA} {i : Nat} {t : TypA} (ht : l[i]? = some t) :
    typsE ((l.take i).map TypA.says) ((l.drop i).map TypA.says) = if tyE (l.take i) t ≠ 0 then (tyE (l.take i) t, t.name) else if (relsE t.says [] (t.rels.map RelA.says)).1 ≠ 0 then relsE t.says [] (t.rels.map RelA.says) else typsE ((l.take (i + 1)).map TypA.says) ((l.drop (i + 1)).map TypA.says) := by
  rw [List.drop_eq_getElem_cons (List.getElem?_eq_some_iff.1 ht).1, (List.getElem?_eq_some_iff.1 ht).2, take_snoc ht, List.map_cons, List.map_append]
  have e : ((l.take i).map TypA.says).any (fun x => decide (x.name = t.says.name)) = (firstA (l.take i) t.name).isSome := by
    unfold firstA
    rw [find_any_some, List.any_map]
    rfl
  have eo : t.says.rels = t.rels.map RelA.says := rfl
  have el : (t.rels.map RelA.says).length = t.rels.length := List.length_map ..
  unfold tyE
  rw [typsE, e, eo, el]
  by_cases h1 : (firstA (l.take i) t.name).isSome = true
  · rw [if_pos h1, if_pos h1, if_pos (by decide)]
    rfl
  · rw [if_neg h1, if_neg h1]
    by_cases h2 : 12 < t.rels.length
    · rw [if_pos h2, if_pos h2, if_pos (by decide)]
      rfl
    · rw [if_neg h2, if_neg h2, if_neg (show ¬ ((0 : Nat) ≠ 0) by decide)]
      rfl
theorem namesRE_at {l : List TypI} {t : TypI} {q : List RelA} {j : Nat} {r : RelA} (hr : q[j]? = some r) :
    namesRE l t ((q.drop j).map RelA.says) = if namedE l t r.says ≠ 0 then (namedE l t r.says, pathS t r.says) else namesRE l t ((q.drop (j + 1)).map RelA.says) := by
  rw [List.drop_eq_getElem_cons (List.getElem?_eq_some_iff.1 hr).1, (List.getElem?_eq_some_iff.1 hr).2, List.map_cons]
  rfl
theorem namesE_at {L : List TypI} {l : List TypA} {i : Nat} {t : TypA} (ht : l[i]? = some t) :
    namesE L ((l.drop i).map TypA.says) = if (namesRE L t.says (t.rels.map RelA.says)).1 ≠ 0 then namesRE L t.says (t.rels.map RelA.says) else namesE L ((l.drop (i + 1)).map TypA.says) := by
  rw [List.drop_eq_getElem_cons (List.getElem?_eq_some_iff.1 ht).1, (List.getElem?_eq_some_iff.1 ht).2, List.map_cons]
  rfl
end Go.Proofs.Ytpiihfffhjmabaa
