/- Layer 9: slices.Contains, ContainsFunc and Clone over who may stand in a tuple; what leads. Conditions: none. -/
import Derived.BigQuiet
import Derived.Deep.QuietTactic
import Derived.Laws.StructEq
import Derived.Test.YtpiihfffhjmabaaSmallW
namespace Go.Proofs.Ytpiihfffhjmabaa
open Go.RowKit

/-- A slice of who may stand in a tuple. -/
structure SubsA (w : World) (A : Option Addr) (c : Nat) (l : List (ByteArray × ByteArray)) : Prop where
  rows : Rd w w.heap.size 2 A l.length c (l.flatMap aSub)
theorem SubsA.up {w w' : World} {A : Option Addr} {c : Nat} {l : List (ByteArray × ByteArray)} (h : SubsA w A c l) (hb : Below w.heap.size w w') : SubsA w' A c l := ⟨h.rows.up hb⟩
theorem SubsA.get {w : World} {A : Option Addr} {c : Nat} {l : List (ByteArray × ByteArray)} (h : SubsA w A c l) {i : Nat} {s : ByteArray × ByteArray} (hi : l[i]? = some s) :
    ∃ b o, A = some ⟨b, o, none⟩ ∧ w.cell? ⟨b, o + i * 2, none⟩ = some (.string s.1) ∧ w.cell? ⟨b, o + i * 2 + 1, none⟩ = some (.string s.2) := by
  obtain ⟨b, o, e, _, hc⟩ := h.rows.at_ (lt_get hi)
  have g := fun k (hk : k < 2) => flat_get aSub (sz := 2) (fun _ => rfl) hi (k := k) hk
  exact ⟨b, o, e, hc _ _ (g 0 (by omega)), hc _ _ (g 1 (by omega))⟩
theorem bdrew (w : World) (n : Nat) : Below w.heap.size w (w.drewN n) := ⟨rfl, rfl, rfl, Nat.le_refl _, fun _ _ => rfl⟩
theorem any_at {α : Type} {p : α → Bool} {l : List α} {i : Nat} {a : α} (h : l[i]? = some a) (hp : p a = true) : l.any p = true := List.any_eq_true.2 ⟨a, List.mem_of_getElem? h, hp⟩
theorem any_not {α : Type} {p : α → Bool} {l : List α} (h : ∀ x ∈ l, p x = false) : l.any p = false := by
  cases e : l.any p with
  | false => rfl
  | true =>
    obtain ⟨x, hx, hp⟩ := List.any_eq_true.1 e
    rw [h x hx] at hp
    cases hp

theorem toL_iff (a c : ByteArray) : a.toList = c.toList ↔ a = c := by
  have h := list_dec a c
  constructor
  · intro e
    rw [e] at h
    simpa using h.symm
  · rintro rfl
    rfl
theorem eqSub (a b c d : ByteArray) (w : World) : (binOp .eql 54 (.agg #[.string a, .string b]) (.agg #[.string c, .string d])).run Try.prog w = .ok (.bool (decide ((a, b) = (c, d)))) w := by
  have hS : Try.prog.underlying 54 = some (.struct (Try.prog.fieldsOf 54)) := by kernel_rfl
  have hp : Try.prog.stoodInHeld 54 = false := by kernel_rfl
  have u := Try.underlying9
  rw [run_eql_struct, show (10000 : Nat) = 9999 + 1 from rfl, run_equalIn_agg w 9999 54 _ _ hS hp]
  simp only [Program.fieldsOf, Try.underlying54]
  go_simp
  have i1 := toL_iff a c
  have i2 := toL_iff b d
  by_cases e1 : a = c <;> by_cases e2 : b = d <;> simp [e1, e2, i1, i2]
theorem pair_dec (s t : ByteArray × ByteArray) : decide ((s.1, s.2) = (t.1, t.2)) = decide (t = s) := by
  rcases s with ⟨a, b⟩
  rcases t with ⟨c, d⟩
  have e : ((a, b) = (c, d)) = ((c, d) = (a, b)) := propext eq_comm
  simp only [e]
theorem guardSub (x y : Operand) (xs ys : Array Value) (w : World) : (eqGuard .eql 54 x y (.agg xs) (.agg ys)).run Try.prog w = .ok () w := run_eqGuard_agg w .eql 54 x y xs ys (by kernel_rfl)

set_option maxRecDepth 100000 in
set_option maxHeartbeats 400000 in
theorem index_any {w : World} {A : Option Addr} {c : Nat} {l : List (ByteArray × ByteArray)} (h : SubsA w A c l) (s : ByteArray × ByteArray) :
    Calls Try.prog 53 #[.slice A l.length c, .agg #[.string s.1, .string s.2]] w fun e w' => (∃ z : Int, e = .returned (.int .i64 z) ∧ decide (0 ≤ z) = l.any fun y => decide (y = s)) ∧ Below w.heap.size w w' := by
  have hl : (l.length : Int) ≤ 9223372036854775807 := by have := h.rows.cap; have := h.rows.capm; simp only [maxLen] at this; omega
  have hb0 := bnew w (.cells #[.string s.1, .string s.2] 54)
  have hs0 := Bk.new w #[.string s.1, .string s.2] 54
  have h0 := h.up hb0
  go_enter Try.func53, Try.ntmps53
  go_wp2_with fail
  generalize w.alloc (.cells #[.string s.1, .string s.2] 54) = w0 at *
  go_loopw [8] (fun vi wx => ∃ i : Nat, vi = .int .i64 i ∧ i ≤ l.length ∧ (∀ y ∈ l.take i, decide (y = s) = false) ∧ Below w0.heap.size w0 wx) (fun vi _ => l.length - (intOf vi).toNat)
  case atStart => exact ⟨0, rfl, Nat.zero_le _, fun t ht => (by simp at ht), Below.refl _ _⟩
  case round =>
    obtain ⟨i, rfl, hi, hn, hbx⟩ := hrel
    have hsx := hs0.below hbx
    obtain ⟨y0, y1⟩ := hsx.c2
    have ly := hsx.lt
    by_cases hil : i < l.length
    · have hdi : (i : Int) < (l.length : Nat) := by omega
      obtain ⟨t, ht⟩ : ∃ t, l[i]? = some t := ⟨l[i], List.getElem?_eq_getElem hil⟩
      obtain ⟨g, o, rfl, g0, g1⟩ := (h0.up hbx).get ht
      have lg := World.block_lt_of_cell? _ _ g0
      dsimp only at lg
      have hE := eqSub s.1 s.2 t.1 t.2
      cases hd : decide (t = s) with
      | true =>
        rw [pair_dec, hd] at hE
        go_wp2_with fail
        go_quiet (fail)
        go_wp2
        go_ret
        exact ⟨⟨_, rfl, by rw [any_at ht hd]; exact decide_eq_true (by omega)⟩, bthen hb0 hb0.size (bthen hbx hbx.size (bdrew wr nq))⟩
      | false =>
        rw [pair_dec, hd] at hE
        go_wp2_with fail
        go_quiet (fail)
        go_wp2
        refine ⟨⟨i + 1, by go_num, by omega, take_all ht hn hd, bthen hbx hbx.size (bdrew wr nq)⟩, ?_⟩
        simp [intOf]; omega
    · have hdi : ¬ (i : Int) < (l.length : Nat) := by omega
      obtain rfl : i = l.length := by omega
      rw [List.take_length] at hn
      go_wp2
      go_ret
      exact ⟨⟨_, rfl, by rw [any_not hn]; decide⟩, hb0.trans (hbx.mono hb0.size)⟩
set_option maxRecDepth 100000 in
set_option maxHeartbeats 400000 in
theorem contains_any {w : World} {A : Option Addr} {c : Nat} {l : List (ByteArray × ByteArray)} (h : SubsA w A c l) (s : ByteArray × ByteArray) :
    Calls Try.prog 41 #[.slice A l.length c, .agg #[.string s.1, .string s.2]] w fun e w' => e = .returned (.bool (l.any fun y => decide (y = s))) ∧ Below w.heap.size w w' := by
  have hb0 := bnew w (.cells #[.string s.1, .string s.2] 54)
  go_enter Try.func41, Try.ntmps41
  go_wp2_with fail
  refine (index_any (h.up hb0) s).mono ?_
  rintro e w1 ⟨⟨z, rfl, hz⟩, hb1⟩
  by_cases h0 : 0 ≤ z
  · go_wp2
    go_ret
    exact ⟨by rw [← hz, decide_eq_true h0]; rfl, hb0.trans (hb1.mono hb0.size)⟩
  · go_wp2
    go_ret
    exact ⟨by rw [← hz]; rfl, hb0.trans (hb1.mono hb0.size)⟩

/-- Whether one that may stand there, without a relation, is of a type that has the next one. -/
def leadB (l : List TypI) (next : ByteArray) (x : ByteArray × ByteArray) : Bool := decide (x.2 = ⟨#[]⟩) && hasI l x.1 next
set_option maxRecDepth 100000 in
set_option maxHeartbeats 400000 in
theorem lead1_any {w : World} {R b1 b2 : Nat} {A : Option Addr} {c : Nat} {l : List TypA} {next : ByteArray} (h : SchA w R A c l) (x : ByteArray × ByteArray) (l1 : b1 < w.heap.size)
    (c1 : w.cell? ⟨b1, 0, none⟩ = some (.slice A l.length c)) (c2 : w.cell? ⟨b2, 0, none⟩ = some (.string next)) :
    Calls Try.prog 64 #[.agg #[.string x.1, .string x.2], .pointer (some ⟨b1, 0, none⟩), .pointer (some ⟨b2, 0, none⟩)] w fun e w' => e = .returned (.bool (leadB (l.map TypA.says) next x)) ∧ Below w.heap.size w w' := by
  have hb0 := bnew w (.cells #[.string x.1, .string x.2] 54)
  have hs0 := Bk.new w #[.string x.1, .string x.2] 54
  unfold leadB
  rw [hasI_says]
  cases hf : firstA l x.1 with
  | none =>
    go_enter Try.func64, Try.ntmps64
    go_wp2_with (with_reducible refine (typeOf_none (h.up hb0) hf).mono ?_; rintro e w1 ⟨rfl, hb1⟩)
    go_ret
    have hb := bthen hb0 hb0.size hb1
    exact ⟨by simp, hb.alloc hb.size _⟩
  | some t =>
    have he := empty_dec x.2
    cases hd : decide (x.2 = ⟨#[]⟩) with
    | false =>
      rw [hd] at he
      go_enter Try.func64, Try.ntmps64
      go_wp2_with (with_reducible refine (typeOf_some (h.up hb0) hf).mono ?_; rintro e w1 ⟨rfl, hb1⟩; have hs1 := hs0.below hb1; have m1 := hs1.lt; have y1 := hs1.c2.2)
      go_ret
      have hb := bthen hb0 hb0.size hb1
      exact ⟨rfl, hb.alloc hb.size _⟩
    | true =>
      rw [hd] at he
      go_enter Try.func64, Try.ntmps64
      go_wp2_with (with_reducible refine (typeOf_some (h.up hb0) hf).mono ?_; rintro e w1 ⟨rfl, hb1⟩; have hs1 := hs0.below hb1; have m1 := hs1.lt; have y1 := hs1.c2.2; have d2 := cell_under (cell_under c2 hb0) hb1; have d2l := World.block_lt_of_cell? _ _ d2; dsimp only at d2l)
      have hb := bthen hb0 hb0.size hb1
      have hb' := hb.alloc hb.size (.cells #[.string t.name, .slice t.A t.rels.length t.c] 46)
      have hk := (h.each t (firstA_mem hf)).up hb'
      go_wp2_with (with_reducible refine (hasRel_any hk _).mono ?_; rintro e w2 ⟨rfl, hb2⟩)
      go_ret
      exact ⟨rfl, bthen hb' hb'.size hb2⟩
end Go.Proofs.Ytpiihfffhjmabaa
