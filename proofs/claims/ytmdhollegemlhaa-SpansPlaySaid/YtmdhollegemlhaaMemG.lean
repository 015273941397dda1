/- Words for memory: keys and pairs as cells, what a call leaves, boxes of two cells. Conditions: none; nothing of the program is named here. -/
import Derived.Test.YtmdhollegemlhaaBase
namespace Go.Proofs.Ytmdhollegemlhaa
open Go.RowKit

/-- Keys as cells. -/
def ks (s : List ByteArray) : List Value := s.map Value.string
theorem ks_len (s : List ByteArray) : (ks s).length = s.length := by simp [ks]
theorem ks_one (s : List ByteArray) : ∀ u ∈ ks s, u.oneCell' = true := by
  intro u hu
  obtain ⟨_, _, rfl⟩ := List.mem_map.1 hu
  rfl
theorem ks_get {s : List ByteArray} {i : Nat} {k : ByteArray} (h : s[i]? = some k) : (ks s)[i]? = some (.string k) := by simp [ks, h]
theorem ks_app (a b : List ByteArray) : ks (a ++ b) = ks a ++ ks b := by simp [ks]
theorem lt_at {α : Type} {l : List α} {i : Nat} {x : α} (h : l[i]? = some x) : i < l.length := (List.getElem?_eq_some_iff.1 h).1
theorem Rd.up {w w' : World} {size n c : Nat} {A : Option Addr} {xs : List Value} (h : Rd w w.heap.size size A n c xs) (hb : Below w.heap.size w w') : Rd w' w'.heap.size size A n c xs := (h.below hb).more hb.size
theorem bthen {B : Nat} {w w1 w2 : World} (h : Below B w w1) (hB : B ≤ w1.heap.size) (k : Below w1.heap.size w1 w2) : Below B w w2 := h.trans (k.mono hB)
theorem drewN_below (w : World) (B q : Nat) : Below B w (w.drewN q) := ⟨rfl, rfl, rfl, Nat.le_refl _, fun _ _ => rfl⟩
theorem bnew (w : World) (o : Obj) : Below w.heap.size w (w.alloc o) := (Below.refl _ w).alloc (Nat.le_refl _) o

/-- What is asked or changed, as cells. -/
def pcell (p : ByteArray × Bool) : List Value := [.string p.1, .bool p.2]
def pcs (l : List (ByteArray × Bool)) : List Value := l.flatMap pcell
theorem pcell_one (p : ByteArray × Bool) : ∀ u ∈ pcell p, u.oneCell' = true := by
  intro u hu
  simp only [pcell, List.mem_cons, List.not_mem_nil, or_false] at hu
  rcases hu with rfl | rfl <;> rfl
theorem pcs_one (l : List (ByteArray × Bool)) : ∀ u ∈ pcs l, u.oneCell' = true := by
  intro u hu
  obtain ⟨p, _, hp⟩ := List.mem_flatMap.1 hu
  exact pcell_one p u hp
theorem pcs_len (l : List (ByteArray × Bool)) : (pcs l).length = l.length * 2 := by
  induction l with
  | nil => rfl
  | cons a t ih => rw [pcs, List.flatMap_cons, List.length_append, ← pcs, ih]; simp [pcell]; omega
theorem pcs_app (a b : List (ByteArray × Bool)) : pcs (a ++ b) = pcs a ++ pcs b := List.flatMap_append
theorem pcs_snoc (l : List (ByteArray × Bool)) (k : ByteArray) (b : Bool) : pcs (l ++ [(k, b)]) = pcs l ++ [.string k, .bool b] := by rw [pcs_app]; simp [pcs, pcell]
theorem pcs_get {l : List (ByteArray × Bool)} {i : Nat} {p : ByteArray × Bool} (h : l[i]? = some p) : (pcs l)[i * 2]? = some (.string p.1) ∧ (pcs l)[i * 2 + 1]? = some (.bool p.2) := by
  induction l generalizing i with
  | nil => simp at h
  | cons a t ih =>
    rw [pcs, List.flatMap_cons, ← pcs]
    cases i with
    | zero =>
      simp at h
      subst h
      exact ⟨rfl, rfl⟩
    | succ i =>
      obtain ⟨h1, h2⟩ := ih (by simpa using h)
      rw [List.getElem?_append_right (by simp [pcell]; omega), List.getElem?_append_right (by simp [pcell]; omega)]
      simp only [pcell, List.length_cons, List.length_nil]
      rw [show (i + 1) * 2 - (0 + 1 + 1) = i * 2 by omega, show (i + 1) * 2 + 1 - (0 + 1 + 1) = i * 2 + 1 by omega]
      exact ⟨h1, h2⟩
theorem rd_pair {w : World} {B n c : Nat} {A : Option Addr} {l : List (ByteArray × Bool)} (h : Rd w B 2 A n c (pcs l)) {i : Nat} {p : ByteArray × Bool} (hi : l[i]? = some p) :
    ∃ b o, A = some ⟨b, o, none⟩ ∧ b < B ∧ w.cell? ⟨b, o + i * 2, none⟩ = some (.string p.1) ∧ w.cell? ⟨b, o + i * 2 + 1, none⟩ = some (.bool p.2) := by
  have hn : 0 < n := by
    have h1 := h.len
    have h2 := pcs_len l
    have h3 := lt_at hi
    omega
  obtain ⟨b, o, e, hb, hc⟩ := h.at_ hn
  obtain ⟨h1, h2⟩ := pcs_get hi
  exact ⟨b, o, e, hb, hc _ _ h1, by rw [Nat.add_assoc]; exact hc _ _ h2⟩
theorem rd_key {w : World} {B n c : Nat} {A : Option Addr} {l : List ByteArray} (h : Rd w B 1 A n c (ks l)) {i : Nat} {k : ByteArray} (hi : l[i]? = some k) :
    ∃ b o, A = some ⟨b, o, none⟩ ∧ b < B ∧ w.cell? ⟨b, o + i, none⟩ = some (.string k) := by
  have hn : 0 < n := by
    have h1 := h.len
    have h2 := ks_len l
    have h3 := lt_at hi
    omega
  obtain ⟨b, o, e, hb, hc⟩ := h.at_ hn
  exact ⟨b, o, e, hb, hc _ _ (ks_get hi)⟩
theorem cells_new (w : World) (cs : Array Value) (t : TypeId) (j : Nat) (u : Value) (h : cs.toList[j]? = some u) : (w.alloc (.cells cs t)).cell? ((⟨w.heap.size, 0, none⟩ : Addr).add j) = some u := by
  rw [Addr.add_lit, cell_of_row _ _ _ _ _ _ (heap_alloc_new w _), Nat.zero_add]
  simpa using h
theorem cells_at (w : World) (cs : Array Value) (t : TypeId) (bb : Nat) (hb : bb = w.heap.size) (j : Nat) (u : Value) (h : cs.toList[j]? = some u) : (w.alloc (.cells cs t)).cell? ((⟨bb, 0, none⟩ : Addr).add j) = some u := by
  subst hb
  exact cells_new w cs t j u h
theorem size_alloc {w : World} {B : Nat} {o : Obj} (h : B ≤ w.heap.size) : B ≤ (w.alloc o).heap.size := by simp; omega
theorem drop_at {α : Type} {l : List α} {i : Nat} {x : α} (h : l[i]? = some x) : l.drop i = x :: l.drop (i + 1) := by
  obtain ⟨h1, h2⟩ := List.getElem?_eq_some_iff.1 h
  rw [List.drop_eq_getElem_cons h1, h2]

theorem _root_.Go.World.grownBy.weak {w w' : World} (h : w.grownBy w' none) (row : Option Nat) : w.grownBy w' row := by
  obtain ⟨q1, q2, q3, q4, q5⟩ := h
  exact ⟨q1, q2, q3, q4, fun k hk _ => q5 k hk (by simp)⟩
theorem box2 (w : World) (x y : Value) (t : TypeId) : (w.alloc (.cells #[x, y] t)).cell? ⟨w.heap.size, 0, none⟩ = some x ∧ (w.alloc (.cells #[x, y] t)).cell? ⟨w.heap.size, 1, none⟩ = some y := by
  constructor
  · rw [cell_of_row _ _ _ _ _ _ (heap_alloc_new w _)]; rfl
  · rw [cell_of_row _ _ _ _ _ _ (heap_alloc_new w _)]; rfl
theorem box2_grown {w W : World} {x y : Value} {t : TypeId} (h : (w.alloc (.cells #[x, y] t)).grownBy W none) : W.cell? ⟨w.heap.size, 0, none⟩ = some x ∧ W.cell? ⟨w.heap.size, 1, none⟩ = some y := by
  obtain ⟨h1, h2⟩ := box2 w x y t
  exact ⟨h.cell h1 (by simp), h.cell h2 (by simp)⟩
end Go.Proofs.Ytmdhollegemlhaa
