/- Layer 9: the document's own Type, Rel and Has, over a schema in memory. Conditions: none. -/
import Derived.BigQuiet
import Derived.Deep.QuietTactic
import Derived.Test.YtpiihfffhjmabaaFind9
import Derived.Test.YtpiihfffhjmabaaLeadW
namespace Go.Proofs.Ytpiihfffhjmabaa
open Go.RowKit

/-- The place of the first that is meant; below 0: none. -/
def AtZ {α : Type} (p : α → Bool) (l : List α) (z : Int) : Prop := (z = -1 ∧ l.find? p = none) ∨ ∃ (i : Nat) (t : α), z = i ∧ l[i]? = some t ∧ l.find? p = some t ∧ ∀ x ∈ l.take i, p x = false
theorem AtZ.neg {α : Type} {p : α → Bool} {l : List α} {z : Int} (h : AtZ p l z) : decide (z < 0) = !(l.find? p).isSome := by
  rcases h with ⟨rfl, h⟩ | ⟨i, t, rfl, _, h, _⟩
  · rw [h]; rfl
  · rw [h]; exact decide_eq_false (by omega)
theorem AtZ.pos {α : Type} {p : α → Bool} {l : List α} {z : Int} (h : AtZ p l z) : decide (0 ≤ z) = (l.find? p).isSome := by
  rcases h with ⟨rfl, h⟩ | ⟨i, t, rfl, _, h, _⟩
  · rw [h]; rfl
  · rw [h]; exact decide_eq_true (by omega)
/-- Whether there is one ahead. -/
theorem AtZ.ahead {α : Type} {p : α → Bool} {l : List α} {z : Int} (h : AtZ p l z) {k : Nat} {a : α} (hk : l[k]? = some a) (ha : p a = true) : decide (z < (k : Int)) = (l.take k).any p := by
  rcases h with ⟨rfl, h⟩ | ⟨i, t, rfl, hi, hf, hn⟩
  · have := List.find?_eq_none.1 h a (List.mem_of_getElem? hk)
    exact absurd ha this
  · have hp : p t = true := List.find?_some hf
    by_cases hik : i < k
    · rw [decide_eq_true (by omega)]
      refine (List.any_eq_true.2 ⟨t, ?_, hp⟩).symm
      refine List.mem_of_getElem? (i := i) ?_
      rw [List.getElem?_take_of_lt hik]
      exact hi
    · rw [decide_eq_false (by omega)]
      refine (any_not fun x hx => hn x ?_).symm
      obtain ⟨j, hj⟩ := List.getElem?_of_mem hx
      have hjk : j < k := by
        have := (List.getElem?_eq_some_iff.1 hj).1
        rw [List.length_take] at this
        omega
      rw [List.getElem?_take_of_lt hjk] at hj
      refine List.mem_of_getElem? (i := j) ?_
      rw [List.getElem?_take_of_lt (by omega)]
      exact hj

set_option maxRecDepth 100000 in
set_option maxHeartbeats 400000 in
theorem type9_any {w : World} {R : Nat} {A : Option Addr} {c : Nat} {l : List TypA} (h : SchA w R A c l) (n : ByteArray) :
    Calls Try.prog 14 #[.slice A l.length c, .string n] w fun e w' => (∃ z : Int, e = .returned (.int .i64 z) ∧ AtZ (fun t : TypA => decide (t.name = n)) l z) ∧ Below w.heap.size w w' := by
  have hl : (l.length : Int) ≤ 9223372036854775807 := by have := h.rows.cap; have := h.rows.capm; simp only [maxLen] at this; omega
  go_enter Try.func14, Try.ntmps14
  go_wp2_with fail
  go_loopw [5] (fun vi wx => ∃ i : Nat, vi = .int .i64 i ∧ i ≤ l.length ∧ (∀ t ∈ l.take i, decide (t.name = n) = false) ∧ Below w.heap.size w wx) (fun vi _ => l.length - (intOf vi).toNat)
  case atStart => exact ⟨0, rfl, Nat.zero_le _, fun t ht => (by simp at ht), Below.refl _ _⟩
  case round =>
    obtain ⟨i, rfl, hi, hn, hbx⟩ := hrel
    by_cases hil : i < l.length
    · have hdi : (i : Int) < (l.length : Nat) := by omega
      obtain ⟨t, ht⟩ : ∃ t, l[i]? = some t := ⟨l[i], List.getElem?_eq_getElem hil⟩
      obtain ⟨g, o, rfl, g0, g1, hk⟩ := (h.up hbx).get ht
      have lg := World.block_lt_of_cell? _ _ g0
      dsimp only at lg
      have hq := list_dec t.name n
      cases hd : decide (t.name = n) with
      | false =>
        rw [hd] at hq
        go_wp2
        refine ⟨⟨i + 1, by go_num, by omega, take_all ht hn hd, hbx⟩, ?_⟩
        simp [intOf]; omega
      | true =>
        rw [hd] at hq
        go_wp2
        go_ret
        exact ⟨⟨_, rfl, Or.inr ⟨i, t, rfl, ht, find_at ht hn hd, hn⟩⟩, hbx⟩
    · have hdi : ¬ ((i : Int) < (l.length : Nat)) := by omega
      obtain rfl : i = l.length := by omega
      rw [List.take_length] at hn
      go_wp2
      go_ret
      exact ⟨⟨_, rfl, Or.inl ⟨rfl, find_none hn⟩⟩, hbx⟩
set_option maxRecDepth 100000 in
set_option maxHeartbeats 400000 in
theorem rel9_any {w : World} {R : Nat} {q : TypA} (h : q.ok w R) (n : ByteArray) :
    Calls Try.prog 15 #[.agg #[.string q.name, .slice q.A q.rels.length q.c], .string n] w fun e w' => (∃ z : Int, e = .returned (.int .i64 z) ∧ AtZ (fun t : RelA => decide (t.name = n)) q.rels z) ∧ Below w.heap.size w w' := by
  have hl : (q.rels.length : Int) ≤ 9223372036854775807 := by have := h.rels.cap; have := h.rels.capm; simp only [maxLen] at this; omega
  have hb0 := bnew w (.cells #[.string q.name, .slice q.A q.rels.length q.c] 43)
  have d0 := Bk.new w #[.string q.name, .slice q.A q.rels.length q.c] 43
  have h0 := h.up hb0
  obtain ⟨qA, hqA⟩ : ∃ qA, q.A = qA := ⟨_, rfl⟩
  rw [hqA] at d0 hb0 ⊢
  rw [hqA] at h0
  go_enter Try.func15, Try.ntmps15
  go_wp2_with fail
  generalize w.alloc (.cells #[.string q.name, .slice qA q.rels.length q.c] 43) = w0 at *
  go_loopw [5] (fun vi wx => ∃ i : Nat, vi = .int .i64 i ∧ i ≤ q.rels.length ∧ (∀ t ∈ q.rels.take i, decide (t.name = n) = false) ∧ Below w0.heap.size w0 wx) (fun vi _ => q.rels.length - (intOf vi).toNat)
  case atStart => exact ⟨0, rfl, Nat.zero_le _, fun t ht => (by simp at ht), Below.refl _ _⟩
  case round =>
    obtain ⟨i, rfl, hi, hn, hbx⟩ := hrel
    have dx := d0.below hbx
    obtain ⟨x0, x1⟩ := dx.c2
    have xl := dx.lt
    by_cases hil : i < q.rels.length
    · have hdi : (i : Int) < (q.rels.length : Nat) := by omega
      obtain ⟨t, ht⟩ : ∃ t, q.rels[i]? = some t := ⟨q.rels[i], List.getElem?_eq_getElem hil⟩
      obtain ⟨g, o, eA, g0, g1, g2, g3, g4, g5, hk⟩ := (h0.up hbx).get ht
      rw [hqA] at eA
      subst eA
      have lg := World.block_lt_of_cell? _ _ g0
      dsimp only at lg
      have hq := list_dec t.name n
      cases hd : decide (t.name = n) with
      | false =>
        rw [hd] at hq
        go_wp2
        refine ⟨⟨i + 1, by go_num, by omega, take_all ht hn hd, hbx⟩, ?_⟩
        simp [intOf]; omega
      | true =>
        rw [hd] at hq
        go_wp2
        go_ret
        exact ⟨⟨_, rfl, Or.inr ⟨i, t, rfl, ht, find_at ht hn hd, hn⟩⟩, bthen hb0 hb0.size hbx⟩
    · have hdi : ¬ ((i : Int) < (q.rels.length : Nat)) := by omega
      obtain rfl : i = q.rels.length := by omega
      rw [List.take_length] at hn
      go_wp2
      go_ret
      exact ⟨⟨_, rfl, Or.inl ⟨rfl, find_none hn⟩⟩, bthen hb0 hb0.size hbx⟩
set_option maxRecDepth 100000 in
set_option maxHeartbeats 400000 in
theorem has9_any {w : World} {R : Nat} {A : Option Addr} {c : Nat} {l : List TypA} (h : SchA w R A c l) (ty re : ByteArray) :
    Calls Try.prog 32 #[.slice A l.length c, .string ty, .string re] w fun e w' => e = .returned (.bool (hasI (l.map TypA.says) ty re)) ∧ Below w.heap.size w w' := by
  obtain ⟨b, hB⟩ : ∃ b, hasI (l.map TypA.says) ty re = b := ⟨_, rfl⟩
  rw [hB]
  rw [hasI_says] at hB
  replace hB := Lib.hid hB
  go_enter Try.func32, Try.ntmps32
  go_wp2_with fail
  refine (type9_any h ty).mono ?_
  rintro e w1 ⟨⟨z, rfl, hz⟩, hb1⟩
  rcases hz with ⟨rfl, hf⟩ | ⟨i, t, rfl, ht, hf, _⟩
  · have hB' := hB.out
    rw [show firstA l ty = none from hf] at hB'
    subst hB'
    go_wp2
    go_ret
    exact ⟨rfl, hb1⟩
  · have hB' := hB.out
    rw [show firstA l ty = some t from hf] at hB'
    replace hB := Lib.hid hB'
    clear hB' hf
    have hi : (0 : Int) ≤ (i : Nat) := by omega
    have hil : i < l.length := (List.getElem?_eq_some_iff.1 ht).1
    have hdi : (i : Int) < (l.length : Nat) := by omega
    obtain ⟨g, o, rfl, g0, g1, hk⟩ := (h.up hb1).get ht
    have lg := World.block_lt_of_cell? _ _ g0
    dsimp only at lg
    go_wp2_with fail
    refine (rel9_any hk re).mono ?_
    rintro e w2 ⟨⟨z, rfl, hz⟩, hb2⟩
    have hp := hz.pos
    rw [show (t.rels.find? fun t => decide (t.name = re)).isSome = b by rw [← hB.out, hasR_says]; rfl] at hp
    clear hz
    cases b with
    | true =>
      have hp := of_decide_eq_true hp
      go_wp2
      go_ret
      exact ⟨rfl, bthen hb1 hb1.size hb2⟩
    | false =>
      have hp := of_decide_eq_false hp
      go_wp2
      go_ret
      exact ⟨rfl, bthen hb1 hb1.size hb2⟩
end Go.Proofs.Ytpiihfffhjmabaa
