/- Layer 9: a type, and a relation, looked up by its name. Conditions: none. -/
import Derived.BigQuiet
import Derived.Deep.QuietTactic
import Derived.Deep.Cut
import Derived.Test.YtpiihfffhjmabaaOwnI
namespace Go.Proofs.Ytpiihfffhjmabaa
open Go.RowKit

def TypA.val (a : TypA) : Value := .agg #[.string a.name, .slice a.A a.rels.length a.c]
def RelA.val (a : RelA) : Value := .agg #[.string a.name, .string a.view, .string a.edit, .string a.check, .slice a.As a.subs.length a.cs, .slice a.Ao a.ops.length a.co]
/-- No type, no relation. -/
def noT : TypA := ⟨⟨#[]⟩, none, 0, []⟩
def noR : RelA := ⟨⟨#[]⟩, ⟨#[]⟩, ⟨#[]⟩, ⟨#[]⟩, none, 0, [], none, 0, []⟩
def firstA (l : List TypA) (n : ByteArray) : Option TypA := l.find? fun t => decide (t.name = n)
def firstRA (t : TypA) (n : ByteArray) : Option RelA := t.rels.find? fun r => decide (r.name = n)
theorem find_at {α : Type} {p : α → Bool} : ∀ {l : List α} {i : Nat} {a : α}, l[i]? = some a → (∀ x ∈ l.take i, p x = false) → p a = true → l.find? p = some a
  | [], _, _, h, _, _ => by simp at h
  | x :: r, 0, a, h, _, hp => by
    simp only [List.getElem?_cons_zero, Option.some.injEq] at h
    subst h
    rw [List.find?_cons, hp]
  | x :: r, i + 1, a, h, hn, hp => by
    rw [List.take_succ_cons] at hn
    rw [List.find?_cons, hn x List.mem_cons_self]
    exact find_at (by simpa using h) (fun y hy => hn y (List.mem_cons_of_mem _ hy)) hp
theorem find_none {α : Type} {p : α → Bool} {l : List α} (h : ∀ x ∈ l, p x = false) : l.find? p = none := List.find?_eq_none.2 fun x hx => by rw [h x hx]; decide
theorem take_all {α : Type} {p : α → Bool} {l : List α} {i : Nat} {a : α} (hi : l[i]? = some a) (hn : ∀ x ∈ l.take i, p x = false) (hp : p a = false) : ∀ x ∈ l.take (i + 1), p x = false := by
  intro x hx
  rw [List.take_add_one, hi] at hx
  rcases List.mem_append.1 hx with h | h
  · exact hn x h
  · simp at h; subst h; exact hp
theorem noT_ok (w : World) (R : Nat) : noT.ok w R := ⟨Nat.zero_le _, Rd.none_ _ _ _, Nat.zero_le _, fun _ h => by cases h⟩
theorem noR_ok (w : World) (R : Nat) : noR.ok w R := ⟨Nat.zero_le _, Nat.zero_le _, Nat.zero_le _, Nat.zero_le _, Rd.none_ _ _ _, Nat.zero_le _, fun _ h => (by cases h), Rd.none_ _ _ _, Nat.zero_le _, fun _ h => (by cases h)⟩

theorem Bk.c6 {w : World} {b : Nat} {t : TypeId} {x0 x1 x2 x3 x4 x5 : Value} (h : Bk w b #[x0, x1, x2, x3, x4, x5] t) : w.cell? ⟨b, 0, none⟩ = some x0 ∧ w.cell? ⟨b, 1, none⟩ = some x1 ∧ w.cell? ⟨b, 2, none⟩ = some x2 ∧ w.cell? ⟨b, 3, none⟩ = some x3 ∧ w.cell? ⟨b, 4, none⟩ = some x4 ∧ w.cell? ⟨b, 5, none⟩ = some x5 := ⟨h.cell 0, h.cell 1, h.cell 2, h.cell 3, h.cell 4, h.cell 5⟩

set_option maxRecDepth 100000 in
set_option maxHeartbeats 400000 in
theorem typeOf_any {w : World} {R : Nat} {A : Option Addr} {c : Nat} {l : List TypA} (h : SchA w R A c l) (n : ByteArray) :
    Calls Try.prog 21 #[.agg #[.slice A l.length c], .string n] w fun e w' => e = .returned (.tuple #[((firstA l n).getD noT).val, .bool (firstA l n).isSome]) ∧ Below w.heap.size w w' := by
  have hl : (l.length : Int) ≤ 9223372036854775807 := by have := h.rows.cap; have := h.rows.capm; simp only [maxLen] at this; omega
  go_enter Try.func21, Try.ntmps21
  go_wp2_with fail
  have hb0 := Bk.new w #[.slice A l.length c] 24
  have hz0 := Bk.new2 w (.cells #[.slice A l.length c] 24) #[.string ⟨#[]⟩, .slice none 0 0] 46
  have hB0 : Below w.heap.size w ((w.alloc (.cells #[.slice A l.length c] 24)).alloc (.cells #[.string ⟨#[]⟩, .slice none 0 0] 46)) := ((Below.refl _ w).alloc (Nat.le_refl _) _).alloc (size_alloc (Nat.le_refl _)) _
  have h0 := h.up hB0
  generalize (w.alloc (.cells #[.slice A l.length c] 24)).alloc (.cells #[.string ⟨#[]⟩, .slice none 0 0] 46) = w0 at *
  go_loopw [11] (fun vi wx => ∃ i : Nat, vi = .int .i64 i ∧ i ≤ l.length ∧ (∀ t ∈ l.take i, decide (t.name = n) = false) ∧ Below w0.heap.size w0 wx) (fun vi _ => l.length - (intOf vi).toNat)
  case atStart => exact ⟨0, rfl, Nat.zero_le _, fun t ht => (by simp at ht), Below.refl _ _⟩
  case round =>
    obtain ⟨i, rfl, hi, hn, hbx⟩ := hrel
    have hlz := hz0.lt
    by_cases hil : i < l.length
    · have hdi : (i : Int) < (l.length : Nat) := by omega
      obtain ⟨t, ht⟩ : ∃ t, l[i]? = some t := ⟨l[i], List.getElem?_eq_getElem hil⟩
      obtain ⟨g, o, rfl, g0, g1, hk⟩ := (h0.up hbx).get ht
      have lg := World.block_lt_of_cell? _ _ g0
      dsimp only at lg
      have hzx := hz0.below hbx
      obtain ⟨z0, z1⟩ := hzx.c2
      have zf := hzx.fz
      have zl := hzx.lt
      have zn1 : ¬ w.heap.size + 1 = wr.heap.size := by omega
      have zn2 : ¬ wr.heap.size = w.heap.size + 1 := by omega
      have hq := list_dec t.name n
      cases hd : decide (t.name = n) with
      | false =>
        rw [hd] at hq
        go_wp2
        refine ⟨⟨i + 1, by go_num, by omega, take_all ht hn hd, hbx.alloc hbx.size _⟩, ?_⟩
        simp [intOf]; omega
      | true =>
        rw [hd] at hq
        have hf : firstA l n = some t := find_at ht hn hd
        go_wp2
        have hw := ((hzx.set 0 (.string t.name)).set 1 (.slice t.A t.rels.length t.c)).alloc (.cells #[.string t.name, .slice t.A t.rels.length t.c] 46)
        obtain ⟨y0, y1⟩ := Bk.c2 hw
        refine bodyPost_ret (v := .tuple #[t.val, .bool true]) (by simp [results, Try.results21, go_sem, y0, y1]; try rfl) rfl ?_
        rw [hf]
        exact ⟨rfl, (((hB0.trans (hbx.mono hB0.size)).setCell (Nat.le_succ _) _).setCell (Nat.le_succ _) _).alloc (by simp; exact (hB0.trans (hbx.mono hB0.size)).size) _⟩
    · have hdi : ¬ ((i : Int) < (l.length : Nat)) := by omega
      obtain rfl : i = l.length := by omega
      rw [List.take_length] at hn
      have hf : firstA l n = none := find_none hn
      have hzx := hz0.below hbx
      obtain ⟨z0, z1⟩ := hzx.c2
      have zf := hzx.fz
      go_wp2
      have hw := (hzx.set 0 (.string ⟨#[]⟩)).set 1 (.slice none 0 0)
      obtain ⟨y0, y1⟩ := Bk.c2 hw
      refine bodyPost_ret (v := .tuple #[noT.val, .bool false]) (by simp [results, Try.results21, go_sem, y0, y1]; try rfl) rfl ?_
      exact ⟨rfl, ((hB0.trans (hbx.mono hB0.size)).setCell (Nat.le_succ _) _).setCell (Nat.le_succ _) _⟩

/- twin -/
set_option maxRecDepth 100000 in
set_option maxHeartbeats 400000 in
theorem relOf_any {w : World} {R : Nat} {q : TypA} (h : q.ok w R) (n : ByteArray) :
    Calls Try.prog 22 #[.agg #[.string q.name, .slice q.A q.rels.length q.c], .string n] w fun e w' => e = .returned (.tuple #[((firstRA q n).getD noR).val, .bool (firstRA q n).isSome]) ∧ Below w.heap.size w w' := by
  have hl : (q.rels.length : Int) ≤ 9223372036854775807 := by have := h.rels.cap; have := h.rels.capm; simp only [maxLen] at this; omega
  go_enter Try.func22, Try.ntmps22
  go_wp2_with fail
  have hb0 := Bk.new w #[.string q.name, .slice q.A q.rels.length q.c] 46
  have hz0 := Bk.new2 w (.cells #[.string q.name, .slice q.A q.rels.length q.c] 46) #[.string ⟨#[]⟩, .string ⟨#[]⟩, .string ⟨#[]⟩, .string ⟨#[]⟩, .slice none 0 0, .slice none 0 0] 36
  have hB0 : Below w.heap.size w ((w.alloc (.cells #[.string q.name, .slice q.A q.rels.length q.c] 46)).alloc (.cells #[.string ⟨#[]⟩, .string ⟨#[]⟩, .string ⟨#[]⟩, .string ⟨#[]⟩, .slice none 0 0, .slice none 0 0] 36)) := ((Below.refl _ w).alloc (Nat.le_refl _) _).alloc (size_alloc (Nat.le_refl _)) _
  have h0 := h.up hB0
  generalize (w.alloc (.cells #[.string q.name, .slice q.A q.rels.length q.c] 46)).alloc (.cells #[.string ⟨#[]⟩, .string ⟨#[]⟩, .string ⟨#[]⟩, .string ⟨#[]⟩, .slice none 0 0, .slice none 0 0] 36) = w0 at *
  go_loopw [11] (fun vi wx => ∃ i : Nat, vi = .int .i64 i ∧ i ≤ q.rels.length ∧ (∀ t ∈ q.rels.take i, decide (t.name = n) = false) ∧ Below w0.heap.size w0 wx) (fun vi _ => q.rels.length - (intOf vi).toNat)
  case atStart => exact ⟨0, rfl, Nat.zero_le _, fun t ht => (by simp at ht), Below.refl _ _⟩
  case round =>
    obtain ⟨i, rfl, hi, hn, hbx⟩ := hrel
    have hlz := hz0.lt
    by_cases hil : i < q.rels.length
    · have hdi : (i : Int) < (q.rels.length : Nat) := by omega
      obtain ⟨t, ht⟩ : ∃ t, q.rels[i]? = some t := ⟨q.rels[i], List.getElem?_eq_getElem hil⟩
      obtain ⟨g, o, eA, g0, g1, g2, g3, g4, g5, hk⟩ := (h0.up hbx).get ht
      have lg := World.block_lt_of_cell? _ _ g0
      dsimp only at lg
      have hzx := hz0.below hbx
      obtain ⟨z0, z1, z2, z3, z4, z5⟩ := hzx.c6
      have zf := hzx.fz
      have zl := hzx.lt
      have zn1 : ¬ w.heap.size + 1 = wr.heap.size := by omega
      have zn2 : ¬ wr.heap.size = w.heap.size + 1 := by omega
      have hq := list_dec t.name n
      cases hd : decide (t.name = n) with
      | false =>
        rw [hd] at hq
        go_wp2
        refine ⟨⟨i + 1, by go_num, by omega, take_all ht hn hd, hbx.alloc hbx.size _⟩, ?_⟩
        simp [intOf]; omega
      | true =>
        rw [hd] at hq
        have hf : firstRA q n = some t := find_at ht hn hd
        go_upto_region 5 with (fail)
        replace hzx := hzx.alloc (.cells #[.string t.name, .string t.view, .string t.edit, .string t.check, .slice t.As t.subs.length t.cs, .slice t.Ao t.ops.length t.co] 36)
        have hTx := Bk.new wr #[.string t.name, .string t.view, .string t.edit, .string t.check, .slice t.As t.subs.length t.cs, .slice t.Ao t.ops.length t.co] 36
        have hbx' := hbx.alloc hbx.size (.cells #[.string t.name, .string t.view, .string t.edit, .string t.check, .slice t.As t.subs.length t.cs, .slice t.Ao t.ops.length t.co] 36)
        clear z0 z1 z2 z3 z4 z5 zf zl
        generalize wr.alloc (.cells #[.string t.name, .string t.view, .string t.edit, .string t.check, .slice t.As t.subs.length t.cs, .slice t.Ao t.ops.length t.co] 36) = wy at *
        obtain ⟨z0, z1, z2, z3, z4, z5⟩ := hzx.c6
        have zf := hzx.fz
        have zl := hzx.lt
        obtain ⟨x0, x1, x2, x3, x4, x5⟩ := hTx.c6
        go_wp2
        have hw := (((((hzx.set 0 (.string t.name)).set 1 (.string t.view)).set 2 (.string t.edit)).set 3 (.string t.check)).set 4 (.slice t.As t.subs.length t.cs)).set 5 (.slice t.Ao t.ops.length t.co)
        obtain ⟨y0, y1, y2, y3, y4, y5⟩ := Bk.c6 hw
        refine bodyPost_ret (v := .tuple #[t.val, .bool true]) (by simp [results, Try.results22, go_sem, y0, y1, y2, y3, y4, y5]; try rfl) rfl ?_
        rw [hf]
        exact ⟨rfl, ((((((hB0.trans (hbx'.mono hB0.size)).setCell (Nat.le_succ _) _).setCell (Nat.le_succ _) _).setCell (Nat.le_succ _) _).setCell (Nat.le_succ _) _).setCell (Nat.le_succ _) _).setCell (Nat.le_succ _) _⟩
    · have hdi : ¬ ((i : Int) < (q.rels.length : Nat)) := by omega
      obtain rfl : i = q.rels.length := by omega
      rw [List.take_length] at hn
      have hf : firstRA q n = none := find_none hn
      have hzx := hz0.below hbx
      obtain ⟨z0, z1, z2, z3, z4, z5⟩ := hzx.c6
      have zf := hzx.fz
      go_wp2
      have hw := (((((hzx.set 0 (.string ⟨#[]⟩)).set 1 (.string ⟨#[]⟩)).set 2 (.string ⟨#[]⟩)).set 3 (.string ⟨#[]⟩)).set 4 (.slice none 0 0)).set 5 (.slice none 0 0)
      obtain ⟨y0, y1, y2, y3, y4, y5⟩ := Bk.c6 hw
      refine bodyPost_ret (v := .tuple #[noR.val, .bool false]) (by simp [results, Try.results22, go_sem, y0, y1, y2, y3, y4, y5]; try rfl) rfl ?_
      exact ⟨rfl, ((((((hB0.trans (hbx.mono hB0.size)).setCell (Nat.le_succ _) _).setCell (Nat.le_succ _) _).setCell (Nat.le_succ _) _).setCell (Nat.le_succ _) _).setCell (Nat.le_succ _) _).setCell (Nat.le_succ _) _⟩

section
variable {w : World} {R : Nat} {A : Option Addr} {c : Nat} {l : List TypA} {q : TypA} {n : ByteArray}
theorem relOf_none (h : q.ok w R) (hf : firstRA q n = none) : Calls Try.prog 22 #[.agg #[.string q.name, .slice q.A q.rels.length q.c], .string n] w fun e w' =>
    e = .returned (.tuple #[.agg #[.string ⟨#[]⟩, .string ⟨#[]⟩, .string ⟨#[]⟩, .string ⟨#[]⟩, .slice none 0 0, .slice none 0 0], .bool false]) ∧ Below w.heap.size w w' := by
  have k := relOf_any h n
  rw [hf] at k
  exact k
theorem relOf_some (h : q.ok w R) {r : RelA} (hf : firstRA q n = some r) : Calls Try.prog 22 #[.agg #[.string q.name, .slice q.A q.rels.length q.c], .string n] w fun e w' =>
    e = .returned (.tuple #[.agg #[.string r.name, .string r.view, .string r.edit, .string r.check, .slice r.As r.subs.length r.cs, .slice r.Ao r.ops.length r.co], .bool true]) ∧ Below w.heap.size w w' := by
  have k := relOf_any h n
  rw [hf] at k
  exact k
theorem typeOf_none (h : SchA w R A c l) (hf : firstA l n = none) : Calls Try.prog 21 #[.agg #[.slice A l.length c], .string n] w fun e w' =>
    e = .returned (.tuple #[.agg #[.string ⟨#[]⟩, .slice none 0 0], .bool false]) ∧ Below w.heap.size w w' := by
  have k := typeOf_any h n
  rw [hf] at k
  exact k
theorem typeOf_some (h : SchA w R A c l) {t : TypA} (hf : firstA l n = some t) : Calls Try.prog 21 #[.agg #[.slice A l.length c], .string n] w fun e w' =>
    e = .returned (.tuple #[.agg #[.string t.name, .slice t.A t.rels.length t.c], .bool true]) ∧ Below w.heap.size w w' := by
  have k := typeOf_any h n
  rw [hf] at k
  exact k
end
end Go.Proofs.Ytpiihfffhjmabaa
