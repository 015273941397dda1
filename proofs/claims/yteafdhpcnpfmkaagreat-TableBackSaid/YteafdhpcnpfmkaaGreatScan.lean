/- Layer 6: what memory holds of tokens and of a text that is gone through; what add, fail and blank do. Conditions: fewer than a million tokens. -/
import Derived.WalkKit
import Derived.WalkSpells
import Derived.WalkLawsBesides
import Derived.Handy
import Derived.Lib.Hide
import Derived.Test.YteafdhpcnpfmkaaGreatBase
import Derived.Test.YteafdhpcnpfmkaaGreatScanP
import Derived.Test.YteafdhpcnpfmkaaGreatGlyphs
namespace Go.Proofs.YteafdhpcnpfmkaaGreat
open Go.RowKit

/-- A token's cells. -/
def tcell (t : Tk) : List Value := [.int .i64 t.1, .string t.2.1, .int .i64 t.2.2]
def tcells (l : List Tk) : List Value := l.flatMap tcell
theorem tcells_snoc (l : List Tk) (t : Tk) : tcells (l ++ [t]) = tcells l ++ tcell t := by simp [tcells]
theorem tcells_length (l : List Tk) : (tcells l).length = l.length * 3 := by
  induction l with
  | nil => rfl
  | cons a r ih => simp only [tcells, List.flatMap_cons, List.length_append, List.length_cons] at *; rw [ih]; simp [tcell]; omega
theorem tcells_at : ∀ (l : List Tk) (i : Nat) (t : Tk), l[i]? = some t → ∀ j u, (tcell t)[j]? = some u → (tcells l)[i * 3 + j]? = some u
  | [], _, _, h, _, _, _ => by simp at h
  | a :: r, 0, t, h, j, u, hj => by
    simp only [List.getElem?_cons_zero, Option.some.injEq] at h
    subst h
    have hl : j < (tcell a).length := (List.getElem?_eq_some_iff.1 hj).1
    show (tcell a ++ tcells r)[0 * 3 + j]? = some u
    rw [Nat.zero_mul, Nat.zero_add, List.getElem?_append_left hl]; exact hj
  | a :: r, i + 1, t, h, j, u, hj => by
    simp only [List.getElem?_cons_succ] at h
    show (tcell a ++ tcells r)[(i + 1) * 3 + j]? = some u
    rw [List.getElem?_append_right (by simp [tcell]; omega), show (i + 1) * 3 + j - (tcell a).length = i * 3 + j by simp [tcell]; omega]
    exact tcells_at r i t h j u hj
theorem tcells_one (l : List Tk) : ∀ u ∈ tcells l, u.oneCell' = true := by
  intro u hu
  obtain ⟨t, _, ht⟩ := List.mem_flatMap.1 hu
  simp only [tcell, List.mem_cons, List.not_mem_nil, or_false] at ht
  rcases ht with rfl | rfl | rfl <;> rfl

theorem tcell_one (t : Tk) : ∀ u ∈ tcell t, u.oneCell' = true := by
  intro u ht
  simp only [tcell, List.mem_cons, List.not_mem_nil, or_false] at ht
  rcases ht with rfl | rfl | rfl <;> rfl
theorem heap_c1 {w : World} {g : Nat} {a v b : Value} {t : TypeId} {fr : Nat × Nat} (h : w.heap[g]? = some (.cells #[a, v, b] t fr)) : w.cell? ⟨g, 1, none⟩ = some v := by rw [cell_of_row _ _ _ _ _ _ h]; rfl
theorem heap_fz {w : World} {g : Nat} {cs : Array Value} {t : TypeId} (h : w.heap[g]? = some (.cells cs t (0, 0))) : ∀ j, w.frozen? ⟨g, j, none⟩ = false := fun j => by simp [World.frozen?, h]
theorem size_alloc {w : World} {B : Nat} {o : Obj} (h : B ≤ w.heap.size) : B ≤ (w.alloc o).heap.size := by simp; omega

/-- Below B, but for the block g, what was there is as it was. -/
structure Kp (g B : Nat) (w w' : World) : Prop where
  os : w'.os = w.os
  tape : w'.tape = w.tape
  output : w'.output = w.output
  size : w.heap.size ≤ w'.heap.size
  block : ∀ k, k < B → k ≠ g → w'.heap[k]? = w.heap[k]?
section
variable {g B B' : Nat} {w w' w'' : World}
theorem Kp.refl (g B : Nat) (w : World) : Kp g B w w := ⟨rfl, rfl, rfl, Nat.le_refl _, fun _ _ _ => rfl⟩
theorem Kp.trans (h : Kp g B w w') (k : Kp g B w' w'') : Kp g B w w'' :=
  ⟨k.os.trans h.os, k.tape.trans h.tape, k.output.trans h.output, Nat.le_trans h.size k.size, fun i h1 h2 => (k.block i h1 h2).trans (h.block i h1 h2)⟩
theorem Kp.of_below (h : Below B w w') (g : Nat) : Kp g B w w' := ⟨h.os, h.tape, h.output, h.size, fun k hk _ => h.block k hk⟩
theorem Kp.below (h : Kp g B w w') (hB : B' ≤ B) (hg : B' ≤ g) : Below B' w w' := ⟨h.os, h.tape, h.output, h.size, fun k hk => h.block k (by omega) (by omega)⟩
theorem Kp.more (h : Kp g B w w') (hB : B' ≤ B) : Kp g B' w w' := ⟨h.os, h.tape, h.output, h.size, fun k hk hn => h.block k (by omega) hn⟩
end

theorem own_same {w w' : World} {base : Nat} {e : TypeId} {size n : Nat} {v : Value} {xs : List Value} (h : w.ownsRow base e size v n xs) (hb : ∀ g, v.ownBlock = some g → w'.heap[g]? = w.heap[g]?) : w'.ownsRow base e size v n xs := by
  refine ⟨h.1, ?_⟩
  rcases h.2 with h2 | ⟨g, cap, cur, rfl, hg, hh, r⟩
  · exact .inl h2
  · exact .inr ⟨g, cap, cur, rfl, hg, (hb g rfl).trans hh, r⟩
theorem own_below {w w' : World} {base : Nat} {e : TypeId} {size n : Nat} {v : Value} {xs : List Value} (h : w.ownsRow base e size v n xs) (hb : Below w.heap.size w w') : w'.ownsRow base e size v n xs :=
  own_same h fun g hg => hb.block g (h.lt g hg).2

/-- A text that is gone through, at the block g: the tokens so far lie from B on. -/
structure ScAt (B : Nat) (w : World) (g : Nat) (s : ByteArray) (l : List Tk) (e : Nat) (v : Value) : Prop where
  cells : w.heap[g]? = some (.cells #[.string s, v, .int .i64 e] 175 (0, 0))
  row : w.ownsRow B 222 3 v l.length (tcells l)
  lt : g < B
def Sc (B : Nat) (w : World) (g : Nat) (s : ByteArray) (l : List Tk) (e : Nat) : Prop := ∃ v, ScAt B w g s l e v
section
variable {B : Nat} {w w' : World} {g : Nat} {s : ByteArray} {l : List Tk} {e : Nat} {v : Value}
theorem ScAt.size (h : ScAt B w g s l e v) : g < w.heap.size := (Array.getElem?_eq_some_iff.1 h.cells).1
theorem ScAt.c0 (h : ScAt B w g s l e v) : w.cell? ⟨g, 0, none⟩ = some (.string s) := by rw [cell_of_row _ _ _ _ _ _ h.cells]; rfl
theorem ScAt.c1 (h : ScAt B w g s l e v) : w.cell? ⟨g, 1, none⟩ = some v := by rw [cell_of_row _ _ _ _ _ _ h.cells]; rfl
theorem ScAt.c2 (h : ScAt B w g s l e v) : w.cell? ⟨g, 2, none⟩ = some (.int .i64 e) := by rw [cell_of_row _ _ _ _ _ _ h.cells]; rfl
theorem ScAt.fz (h : ScAt B w g s l e v) (j : Nat) : w.frozen? ⟨g, j, none⟩ = false := by simp [World.frozen?, h.cells]
theorem ScAt.below (h : ScAt B w g s l e v) (hb : Below w.heap.size w w') : ScAt B w' g s l e v :=
  ⟨(hb.block g h.size).trans h.cells, own_below h.row hb, h.lt⟩
theorem Sc.below (h : Sc B w g s l e) (hb : Below w.heap.size w w') : Sc B w' g s l e := by obtain ⟨v, h⟩ := h; exact ⟨v, h.below hb⟩
end
theorem ret_num {k : IntKind} {a b : Int} (h : a = b) : Ending.returned (.int k a) = .returned (.int k b) := by rw [h]
theorem info_tok : (Tryz.prog.info? 222).map (fun i => (i.zero, i.size, i.bytes)) = some (some (.agg #[.int .i64 0, .string .empty, .int .i64 0]), 3, 32) := by kernel_rfl
theorem cells_new (w : World) (a b c : Value) (t : TypeId) : ∀ j u, [a, b, c][j]? = some u → (w.alloc (.cells #[a, b, c] t)).cell? ((⟨w.heap.size, 0, none⟩ : Addr).add j) = some u := by
  intro j u hj
  rw [Addr.add_lit, cell_of_row _ _ _ _ _ _ (heap_alloc_new w _), Nat.zero_add]
  simpa using hj

section
variable {B : Nat} {w : World} {g : Nat} {s : ByteArray} {l : List Tk} {e : Nat}
theorem add_row {w1 : World} {v : Value} {o : Obj} (H : ScAt B w g s l e v) (hg1 : (w.alloc o).grownBy w1 v.ownBlock) : w1.heap[g]? = some (.cells #[.string s, v, .int .i64 e] 175 (0, 0)) := by
  have hs := H.size
  rw [hg1.block g (by simp; omega) (fun e => by have := (H.row.lt g e.symm).1; have := H.lt; omega), Below.heap_alloc _ _ _ hs]
  exact H.cells
theorem add_done {w1 : World} {v v1 : Value} {o : Obj} {t : Tk} (H : ScAt B w g s l e v) (hB : B ≤ w.heap.size) (hg1 : (w.alloc o).grownBy w1 v.ownBlock) (hown1 : w1.ownsRow B 222 3 v1 (l.length + 1) (tcells l ++ tcell t)) :
    Sc B (w1.setCell ⟨g, 1, none⟩ v1) g s (l ++ [t]) e ∧ Kp g B w (w1.setCell ⟨g, 1, none⟩ v1) := by
  have hs := H.size
  have hc := add_row H hg1
  have hlt := H.lt
  refine ⟨⟨v1, ?_, ?_, hlt⟩, ?_⟩
  · simp [World.setCell, Array.getElem?_modify, hc]
  · rw [tcells_snoc, List.length_append]
    exact own_same hown1 fun k hk => Below.heap_setCell _ _ _ _ (by have := (hown1.lt k hk).1; show k ≠ g; omega)
  · refine ⟨hg1.os, hg1.tape, hg1.output, ?_, fun k hk hn => ?_⟩
    · have := hg1.size; simp [World.setCell] at *; omega
    · rw [Below.heap_setCell _ _ _ _ (by show k ≠ g; exact hn), hg1.block k (by simp; omega) (fun e => by have := (H.row.lt k e.symm).1; omega), Below.heap_alloc _ _ _ (by omega)]
set_option maxHeartbeats 1000000 in
theorem add_any (h : Sc B w g s l e) (hB : B ≤ w.heap.size) (k : Nat) (t : ByteArray) (p : Nat) (hl : l.length < 1000000) (hp : p ≤ 1000000) (ht : t.size ≤ 1000000) :
    Calls Tryz.prog 82 #[.pointer (some ⟨g, 0, none⟩), .int .i64 k, .string t, .int .i64 p] w fun e' w' => e' = .returned (.int .i64 ((p + t.size : Nat) : Int)) ∧ Sc B w' g s (l ++ [(k, t, p)]) e ∧ Kp g B w w' := by
  obtain ⟨v, h⟩ := h
  have c1 := h.c1
  have fz := h.fz
  have hg := h.size
  obtain ⟨i0, hi, hz0, hz1, hz2⟩ := info_parts info_tok
  obtain ⟨A, c, rfl, _⟩ := Rd.own h.row
  have H := Lib.hid h
  clear h
  go_enter Tryz.func82, Tryz.ntmps82
  go_wp2_with (first
    | (at_builtin; go_loud (refine wpList_append_src _ rfl (.tmp 13) (.tmp 18) 106 106 rfl B 222 i0 (.agg #[.int .i64 0, .string .empty, .int .i64 0]) 3 32 Tryz.underlying106 hi hz0 hz1 hz2 rfl (by decide) _ l.length (tcells l) rfl (H.out.row.alloc _) _ 1 [.int .i64 k, .string t, .int .i64 p] rfl (Src.ofSlice _ Tryz.underlying106 _ 1 1 _ rfl (cells_new _ _ _ _ _) (tcell_one (k, t, p))) (by simp only [maxLen]; omega) (by omega) (size_alloc hB) ?_; intro v1 w1 hown1 hg1 hat1; obtain ⟨A1, c1, rfl, _⟩ := Rd.own hown1; have hcg := add_row H.out hg1; have cg := heap_c1 hcg; have fg := heap_fz hcg)))
  go_ret
  exact ⟨ret_num (by omega), add_done H.out hB hg1 hown1⟩
end
end Go.Proofs.YteafdhpcnpfmkaaGreat
