/- Layer 9: the document's own Rel, over a schema in memory. Conditions: none. -/
import Derived.BigQuiet
import Derived.Deep.QuietTactic
import Derived.Test.YtinfbimfiaegdaaGreatLeadW
namespace Go.Proofs.YtinfbimfiaegdaaGreat
open Go.RowKit

/-- The place of the first that is meant; below 0: none. -/
def AtZ {α : Type} (p : α → Bool) (l : List α) (z : Int) : Prop := (z = -1 ∧ l.find? p = none) ∨ ∃ (i : Nat) (t : α), z = i ∧ l[i]? = some t ∧ l.find? p = some t ∧ ∀ x ∈ l.take i, p x = false
theorem AtZ.neg {α : Type} {p : α → Bool} {l : List α} {z : Int} (h : AtZ p l z) : decide (z < 0) = !(l.find? p).isSome := by
  rcases h with ⟨rfl, h⟩ | ⟨i, t, rfl, _, h, _⟩
  · rw [h]; rfl
  · rw [h]; exact decide_eq_false (by omega)
theorem AtZ.pos {α : Type} {p : α → Bool} {l : List α} {z : Int} (h : AtZ p l z) : decide (0 ≤ z) = (l.find? p).isSome := by
  rcases h with ⟨rfl, h⟩ | ⟨i, t, rfl, _, h, _⟩
  · rw [h]; rfl
  · rw [h]; exact decide_eq_true (by omega)
/-- Whether there is one ahead. -/
theorem AtZ.ahead {α : Type} {p : α → Bool} {l : List α} {z : Int} (h : AtZ p l z) {k : Nat} {a : α} (hk : l[k]? = some a) (ha : p a = true) : decide (z < (k : Int)) = (l.take k).any p := by
  rcases h with ⟨rfl, h⟩ | ⟨i, t, rfl, hi, hf, hn⟩
  · have := List.find?_eq_none.1 h a (List.mem_of_getElem? hk)
    exact absurd ha this
  · have hp : p t = true := List.find?_some hf
    by_cases hik : i < k
    · rw [decide_eq_true (by omega)]
      refine (List.any_eq_true.2 ⟨t, ?_, hp⟩).symm
      refine List.mem_of_getElem? (i := i) ?_
      rw [List.getElem?_take_of_lt hik]
      exact hi
    · rw [decide_eq_false (by omega)]
      refine (any_not fun x hx => hn x ?_).symm
      obtain ⟨j, hj⟩ := List.getElem?_of_mem hx
      have hjk : j < k := by
        have := (List.getElem?_eq_some_iff.1 hj).1
        rw [List.length_take] at this
        omega
      rw [List.getElem?_take_of_lt hjk] at hj
      refine List.mem_of_getElem? (i := j) ?_
      rw [List.getElem?_take_of_lt (by omega)]
      exact hj

set_option maxRecDepth 100000 in
set_option maxHeartbeats 400000 in
theorem rel9_any {w : World} {R : Nat} {q : TypA} (h : q.ok w R) (n : ByteArray) :
    Calls Tryz.prog 29 #[.agg #[.string q.name, .slice q.A q.rels.length q.c], .string n] w fun e w' => (∃ z : Int, e = .returned (.int .i64 z) ∧ AtZ (fun t : RelA => decide (t.name = n)) q.rels z) ∧ Below w.heap.size w w' := by
  have hl : (q.rels.length : Int) ≤ 9223372036854775807 := by have := h.rels.cap; have := h.rels.capm; simp only [maxLen] at this; omega
  have hb0 := bnew w (.cells #[.string q.name, .slice q.A q.rels.length q.c] 77)
  have d0 := Bk.new w #[.string q.name, .slice q.A q.rels.length q.c] 77
  have h0 := h.up hb0
  obtain ⟨qA, hqA⟩ : ∃ qA, q.A = qA := ⟨_, rfl⟩
  rw [hqA] at d0 hb0 ⊢
  rw [hqA] at h0
  go_enter Tryz.func29, Tryz.ntmps29
  go_wp2_with fail
  generalize w.alloc (.cells #[.string q.name, .slice qA q.rels.length q.c] 77) = w0 at *
  go_loopw [5] (fun vi wx => ∃ i : Nat, vi = .int .i64 i ∧ i ≤ q.rels.length ∧ (∀ t ∈ q.rels.take i, decide (t.name = n) = false) ∧ Below w0.heap.size w0 wx) (fun vi _ => q.rels.length - (intOf vi).toNat)
  case atStart => exact ⟨0, rfl, Nat.zero_le _, fun t ht => (by simp at ht), Below.refl _ _⟩
  case round =>
    obtain ⟨i, rfl, hi, hn, hbx⟩ := hrel
    have dx := d0.below hbx
    obtain ⟨x0, x1⟩ := dx.c2
    have xl := dx.lt
    by_cases hil : i < q.rels.length
    · have hdi : (i : Int) < (q.rels.length : Nat) := by omega
      obtain ⟨t, ht⟩ : ∃ t, q.rels[i]? = some t := ⟨q.rels[i], List.getElem?_eq_getElem hil⟩
      obtain ⟨g, o, eA, g0, g1, g2, g3, g4, g5, hk⟩ := (h0.up hbx).get ht
      rw [hqA] at eA
      subst eA
      have lg := World.block_lt_of_cell? _ _ g0
      dsimp only at lg
      have hq := list_dec t.name n
      cases hd : decide (t.name = n) with
      | false =>
        rw [hd] at hq
        go_wp2
        refine ⟨⟨i + 1, by go_num, by omega, take_all ht hn hd, hbx⟩, ?_⟩
        simp [intOf]; omega
      | true =>
        rw [hd] at hq
        go_wp2
        go_ret
        exact ⟨⟨_, rfl, Or.inr ⟨i, t, rfl, ht, find_at ht hn hd, hn⟩⟩, bthen hb0 hb0.size hbx⟩
    · have hdi : ¬ ((i : Int) < (q.rels.length : Nat)) := by omega
      obtain rfl : i = q.rels.length := by omega
      rw [List.take_length] at hn
      go_wp2
      go_ret
      exact ⟨⟨_, rfl, Or.inl ⟨rfl, find_none hn⟩⟩, bthen hb0 hb0.size hbx⟩
end Go.Proofs.YtinfbimfiaegdaaGreat
