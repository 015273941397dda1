/- The document's own disk: its functions, called. Conditions: none. -/
import Derived.Test.YtiehnimkjneonaaFlush
namespace Go.Proofs.Ytiehnimkjneonaa
open Go.RowKit

def strLen' : Value → Nat | .string s => s.size | _ => 0
theorem strOf_app (a b : List UInt8) : strOf a ++ strOf b = strOf (a ++ b) := by
  apply ByteArray.ext
  simp [strOf]
set_option maxRecDepth 100000 in
theorem pad_any (w : World) (l : List UInt8) (hl : l.length ≤ 1000000) : Calls Try.prog 25 #[.string (strOf l)] w fun e w' => e = .returned (.string (strOf (pad l))) ∧ w' = w := by
  go_enter Try.func25, Try.ntmps25
  go_wp2_with fail
  go_loop [0] (fun v => ∃ j : Nat, v = .string (strOf (l ++ List.replicate j 0)) ∧ (j = 0 ∨ l.length + j ≤ 64)) (fun v => 64 - strLen' v)
  case atStart => exact ⟨0, by simp, .inl rfl⟩
  case round =>
    obtain ⟨j, rfl, hj⟩ := hrel
    have hTs : (strOf (l ++ List.replicate j 0)).size = l.length + j := by rw [strOf_size]; simp
    have hTn : strOf (l ++ List.replicate j 0) ++ (⟨#[0]⟩ : ByteArray) = strOf (l ++ List.replicate (j + 1) 0) := by
      rw [show (⟨#[0]⟩ : ByteArray) = strOf [0] from rfl, strOf_app, List.replicate_succ', List.append_assoc]
    by_cases hjl : l.length + j < 64
    · have hjz : (l.length : Int) + (j : Int) < 64 := by omega
      go_wp2_with fail
      exact ⟨⟨j + 1, rfl, by omega⟩, by simp [strLen', strOf_size]; omega⟩
    · have hje : l ++ List.replicate j 0 = pad l := by rw [pad, show j = 64 - l.length from by omega]
      have hjz : 64 ≤ (l.length : Int) + (j : Int) := by omega
      rw [hje] at hTs ⊢
      clear hTn
      go_wp2_with fail
      go_ret
      exact ⟨rfl, rfl⟩
/-- What a counted call makes of the number that is left. -/
def cntA (a : Int) : Int := if 0 < a then a - 1 else a
def cntD (a : Int) (d : Bool) : Bool := if a = 1 then true else d
set_option maxRecDepth 100000 in
theorem counted_any (w : World) {KA WA : Option Addr} {n kc m wc : Nat} (a : Int) (d : Bool) (ha : -9223372036854775808 ≤ a ∧ a ≤ 9223372036854775807) :
    Calls Try.prog 28 #[.agg #[.slice KA n kc, .slice WA m wc, .int .i64 a, .bool d]] w fun e w' => e = .returned (.agg #[.slice KA n kc, .slice WA m wc, .int .i64 (cntA a), .bool (cntD a d)]) ∧ Below w.heap.size w w' := by
  go_enter Try.func28, Try.ntmps28
  by_cases h1 : a = 1
  · subst h1
    go_wp2_with fail
    refine bodyPost_ret (v := _) (by simp [results, Try.results28, go_sem]; try rfl) rfl ?_
    exact ⟨rfl, ((Below.refl _ _).alloc (Nat.le_refl _) _).alloc (by simp) _⟩
  · have e1 : cntD a d = d := by rw [cntD, if_neg h1]
    by_cases h0 : 0 < a
    · have e2 : cntA a = a - 1 := by rw [cntA, if_pos h0]
      rw [e1, e2]
      go_wp2_with fail
      refine bodyPost_ret (v := _) (by simp [results, Try.results28, go_sem]; try rfl) rfl ?_
      exact ⟨rfl, ((Below.refl _ _).alloc (Nat.le_refl _) _).alloc (by simp) _⟩
    · have e2 : cntA a = a := by rw [cntA, if_neg h0]
      rw [e1, e2]
      go_wp2_with fail
      refine bodyPost_ret (v := _) (by simp [results, Try.results28, go_sem]; try rfl) rfl ?_
      exact ⟨rfl, ((Below.refl _ _).alloc (Nat.le_refl _) _).alloc (by simp) _⟩
/-- A disk of the document's in memory. -/
def D4 (w : World) (g : Nat) (K W : Value) (a : Int) (d : Bool) : Prop := w.heap[g]? = some (.cells #[K, W, .int .i64 a, .bool d] 32 (0, 0))
section
variable {w w' : World} {g : Nat} {K W : Value} {a : Int} {d : Bool}
theorem D4.new (w : World) (K W : Value) (a : Int) (d : Bool) : D4 (w.alloc (.cells #[K, W, .int .i64 a, .bool d] 32)) w.heap.size K W a d := heap_alloc_new w _
theorem D4.lt (h : D4 w g K W a d) : g < w.heap.size := (Array.getElem?_eq_some_iff.1 h).1
theorem D4.c0 (h : D4 w g K W a d) : w.cell? ⟨g, 0, none⟩ = some K := by rw [cell_of_row _ _ _ _ _ _ h]; rfl
theorem D4.c1 (h : D4 w g K W a d) : w.cell? ⟨g, 1, none⟩ = some W := by rw [cell_of_row _ _ _ _ _ _ h]; rfl
theorem D4.c2 (h : D4 w g K W a d) : w.cell? ⟨g, 2, none⟩ = some (.int .i64 a) := by rw [cell_of_row _ _ _ _ _ _ h]; rfl
theorem D4.c3 (h : D4 w g K W a d) : w.cell? ⟨g, 3, none⟩ = some (.bool d) := by rw [cell_of_row _ _ _ _ _ _ h]; rfl
theorem D4.fz (h : D4 w g K W a d) (j : Nat) : w.frozen? ⟨g, j, none⟩ = false := frozen_of_row w g j _ _ h
theorem D4.same (h : D4 w g K W a d) (hb : w'.heap[g]? = w.heap[g]?) : D4 w' g K W a d := hb.trans h
theorem D4.below {B : Nat} (h : D4 w g K W a d) (hb : Below B w w') (hg : g < B) : D4 w' g K W a d := h.same (hb.block g hg)
theorem D4.on (h : D4 w g K W a d) (hb : Below w.heap.size w w') : D4 w' g K W a d := h.same (hb.block g h.lt)
theorem D4.alloc (h : D4 w g K W a d) (o : Obj) : D4 (w.alloc o) g K W a d := h.same (Below.heap_alloc _ _ _ h.lt)
theorem D4.far (h : D4 w g K W a d) {p : Addr} (hp : g ≠ p.block) (u : Value) : D4 (w.setCell p u) g K W a d := h.same (Below.heap_setCell _ _ _ _ hp)
theorem D4.s0 (h : D4 w g K W a d) (u : Value) : D4 (w.setCell ⟨g, 0, none⟩ u) g u W a d := heap_setCell_same w g 0 _ _ u h
theorem D4.s1 (h : D4 w g K W a d) (u : Value) : D4 (w.setCell ⟨g, 1, none⟩ u) g K u a d := heap_setCell_same w g 1 _ _ u h
theorem D4.s2 (h : D4 w g K W a d) (u : Int) : D4 (w.setCell ⟨g, 2, none⟩ (.int .i64 u)) g K W u d := heap_setCell_same w g 2 _ _ _ h
theorem D4.s3 (h : D4 w g K W a d) (u : Bool) : D4 (w.setCell ⟨g, 3, none⟩ (.bool u)) g K W a u := heap_setCell_same w g 3 _ _ _ h
theorem D4.s4 (h : D4 w g K W a d) (K' W' : Value) (a' : Int) (d' : Bool) : D4 ((((w.setCell ⟨g, 0, none⟩ K').setCell ⟨g, 1, none⟩ W').setCell ⟨g, 2, none⟩ (.int .i64 a')).setCell ⟨g, 3, none⟩ (.bool d')) g K' W' a' d' := (((h.s0 K').s1 W').s2 a').s3 d'
end
def armA (a n : Int) (d : Bool) : Int := if d then a else if n < 0 then 0 else n
set_option maxRecDepth 100000 in
theorem refArm_any (w : World) {KA WA : Option Addr} {n kc m wc : Nat} (a i : Int) (d : Bool) :
    Calls Try.prog 17 #[.agg #[.slice KA n kc, .slice WA m wc, .int .i64 a, .bool d], .int .i64 i] w fun e w' => e = .returned (.agg #[.slice KA n kc, .slice WA m wc, .int .i64 (armA a i d), .bool d]) ∧ Below w.heap.size w w' := by
  go_enter Try.func17, Try.ntmps17
  cases d with
  | true =>
    have e2 : armA a i true = a := rfl
    rw [e2]
    go_wp2_with fail
    refine bodyPost_ret (v := _) (by simp [results, Try.results17, go_sem]; try rfl) rfl ?_
    exact ⟨rfl, ((Below.refl _ _).alloc (Nat.le_refl _) _).alloc (by simp) _⟩
  | false =>
    by_cases h0 : i < 0
    · have e2 : armA a i false = 0 := by rw [armA, if_neg (by simp), if_pos h0]
      rw [e2]
      go_wp2_with fail
      refine bodyPost_ret (v := _) (by simp [results, Try.results17, go_sem]; try rfl) rfl ?_
      exact ⟨rfl, ((Below.refl _ _).alloc (Nat.le_refl _) _).alloc (by simp) _⟩
    · have e2 : armA a i false = i := by rw [armA, if_neg (by simp), if_neg h0]
      rw [e2]
      go_wp2_with fail
      refine bodyPost_ret (v := _) (by simp [results, Try.results17, go_sem]; try rfl) rfl ?_
      exact ⟨rfl, ((Below.refl _ _).alloc (Nat.le_refl _) _).alloc (by simp) _⟩

set_option maxRecDepth 100000 in
theorem refWrite_bad (w : World) {KA WA : Option Addr} {n kc m wc : Nat} (a i : Int) (d : Bool) (l : List UInt8) (_hn : n ≤ 65536) (hl : l.length ≤ 1000000) (hi : i < 0 ∨ (n : Int) ≤ i ∨ 64 < l.length) :
    Calls Try.prog 13 #[.agg #[.slice KA n kc, .slice WA m wc, .int .i64 a, .bool d], .int .i64 i, .string (strOf l)] w fun e w' => e = .returned (.tuple #[.agg #[.slice KA n kc, .slice WA m wc, .int .i64 a, .bool d], .int .i64 1]) ∧ Below w.heap.size w w' := by
  have hls := strOf_size l
  go_enter Try.func13, Try.ntmps13
  by_cases h1 : i < 0
  · go_wp2_with fail
    refine bodyPost_ret (v := _) (by simp [results, Try.results13, go_sem]; try rfl) rfl ?_
    exact ⟨rfl, ((Below.refl _ _).alloc (Nat.le_refl _) _).alloc (by simp) _⟩
  · by_cases h2 : (n : Int) ≤ i
    · go_wp2_with fail
      refine bodyPost_ret (v := _) (by simp [results, Try.results13, go_sem]; try rfl) rfl ?_
      exact ⟨rfl, ((Below.refl _ _).alloc (Nat.le_refl _) _).alloc (by simp) _⟩
    · have h3 : (64 : Int) < (l.length : Int) := by omega
      have h4 : i < (n : Int) := by omega
      go_wp2_with fail
      refine bodyPost_ret (v := _) (by simp [results, Try.results13, go_sem]; try rfl) rfl ?_
      exact ⟨rfl, ((Below.refl _ _).alloc (Nat.le_refl _) _).alloc (by simp) _⟩
end Go.Proofs.Ytiehnimkjneonaa
