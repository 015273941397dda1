/- Layer 9: what memory holds of the document's own values, whose kinds are any int: operations, who may stand in a tuple, relations, types. Conditions: none. -/
import Derived.BigQuiet
import Derived.Deep.QuietTactic
import Derived.Test.YtpiihfffhjmabaaSchW
import Derived.Test.YtpiihfffhjmabaaRegion7
namespace Go.Proofs.Ytpiihfffhjmabaa
open Go.RowKit

/-- Operations as cells. -/
def aocells (l : List OpI) : List Value := l.flatMap aOp
theorem aocells_app (a b : List OpI) : aocells (a ++ b) = aocells a ++ aocells b := List.flatMap_append
theorem aocell_one (t : OpI) : ∀ u ∈ aOp t, u.oneCell' = true := by
  intro u hu
  simp only [aOp, List.mem_cons, List.not_mem_nil, or_false] at hu
  rcases hu with rfl | rfl | rfl <;> rfl
theorem aocells_at (l : List OpI) (i : Nat) (o : OpI) (h : l[i]? = some o) : (aocells l)[i * 3]? = some (.int .i64 o.1) ∧ (aocells l)[i * 3 + 1]? = some (.string o.2.1) ∧ (aocells l)[i * 3 + 2]? = some (.string o.2.2) := by
  have g := fun j (hj : j < 3) => flat_get aOp (sz := 3) (fun _ => rfl) h (k := j) hj
  exact ⟨g 0 (by omega), g 1 (by omega), g 2 (by omega)⟩

/-- Operations of the call's own, from the block B on. -/
def DVOps (B : Nat) (w : World) (v : Value) (o : List OpI) : Prop := w.ownsRow B 61 3 v o.length (aocells o)
/-- Who may stand in a tuple. -/
def DVSubs (B : Nat) (w : World) (v : Value) (s : List SubP) : Prop := w.ownsRow B 60 2 v s.length (scells s)
def DVSub (_ : World) (v : Value) (s : SubP) : Prop := v = .agg #[.string s.1, .string s.2]
/-- A relation's cells. -/
def DRelC (w : World) (B : Nat) (ys : List Value) (x : RelI) : Prop := ∃ vs vo, ys = [.string x.name, .string x.view, .string x.edit, .string x.check, vs, vo] ∧ DVSubs B w vs x.subs ∧ DVOps B w vo x.ops
def DRelsC (w : World) (B : Nat) : List RelI → List Value → Prop
  | [], xs => xs = []
  | x :: r, xs => ∃ ys zs, xs = ys ++ zs ∧ DRelC w B ys x ∧ DRelsC w B r zs
/-- What keeps each of the rows of who may stand in tuples, and of operations. -/
def DKeeps (w w' : World) (B : Nat) : Prop := (∀ v n xs, w.ownsRow B 60 2 v n xs → w'.ownsRow B 60 2 v n xs) ∧ (∀ v n xs, w.ownsRow B 61 3 v n xs → w'.ownsRow B 61 3 v n xs)
theorem DRelC.keep {w w' : World} {B : Nat} {ys : List Value} {x : RelI} (h : DRelC w B ys x) (hk : DKeeps w w' B) : DRelC w' B ys x := by
  obtain ⟨vs, vo, e, h1, h2⟩ := h
  exact ⟨vs, vo, e, hk.1 _ _ _ h1, hk.2 _ _ _ h2⟩
theorem DRelsC.keep {w w' : World} {B : Nat} (hk : DKeeps w w' B) : ∀ {l : List RelI} {xs : List Value}, DRelsC w B l xs → DRelsC w' B l xs
  | [], _, h => h
  | _ :: _, _, h => by
    obtain ⟨ys, zs, e, h1, h2⟩ := h
    exact ⟨ys, zs, e, h1.keep hk, DRelsC.keep hk h2⟩
theorem DRelsC.snoc {w : World} {B : Nat} {y : RelI} {ws : List Value} (hy : DRelC w B ws y) : ∀ {l : List RelI} {xs : List Value}, DRelsC w B l xs → DRelsC w B (l ++ [y]) (xs ++ ws)
  | [], xs, h => by
    have : xs = [] := h
    subst this
    exact ⟨ws, [], by simp, hy, rfl⟩
  | x :: r, xs, h => by
    obtain ⟨ys, zs, e, h1, h2⟩ := h
    exact ⟨ys, zs ++ ws, by rw [e, List.append_assoc], h1, DRelsC.snoc hy h2⟩
def DVRels (B : Nat) (w : World) (v : Value) (l : List RelI) : Prop := ∃ xs, w.ownsRow B 50 6 v l.length xs ∧ DRelsC w B l xs
def DVTyp (B : Nat) (w : World) (v : Value) (t : TypI) : Prop := ∃ vr, v = .agg #[.string t.name, vr] ∧ DVRels B w vr t.rels
theorem dkeeps_kp {g B : Nat} {w w' : World} (hk : Kp g w.heap.size w w') (hg : g < B) : DKeeps w w' B := ⟨fun _ _ _ h => own_kp h hk hg, fun _ _ _ h => own_kp h hk hg⟩
theorem dkeeps_set {B : Nat} {w : World} {a : Addr} (ha : a.block < B) (u : Value) : DKeeps w (w.setCell a u) B := ⟨fun _ _ _ h => own_set h ha u, fun _ _ _ h => own_set h ha u⟩
theorem dkeeps_grown {w w' : World} {B B2 : Nat} {e2 : TypeId} {s2 n2 : Nat} {u : Value} {ys : List Value} {o : Obj} (hu : w.ownsRow B2 e2 s2 u n2 ys) (h1 : 60 ≠ e2) (h2 : 61 ≠ e2) (hg : (w.alloc o).grownBy w' u.ownBlock) : DKeeps w w' B :=
  ⟨fun _ _ _ h => own_grown (World.ownsRow.alloc h o) (World.ownsRow.alloc hu o) h1 hg, fun _ _ _ h => own_grown (World.ownsRow.alloc h o) (World.ownsRow.alloc hu o) h2 hg⟩
theorem DKeeps.base {w : World} {B B' : Nat} (h : B' ≤ B) {l : List RelI} {xs : List Value} : DRelsC w B l xs → DRelsC w B' l xs := by
  intro hr
  induction l generalizing xs with
  | nil => exact hr
  | cons x r ih =>
    obtain ⟨ys, zs, e, ⟨vs, vo, e2, h1, h2⟩, h3⟩ := hr
    exact ⟨ys, zs, e, ⟨vs, vo, e2, own_base h1 h, own_base h2 h⟩, ih h3⟩
theorem dkeeps_drew (w : World) (B : Nat) : DKeeps w w.drew B := ⟨fun _ _ _ h => own_drew h, fun _ _ _ h => own_drew h⟩
/-- A type's cells. -/
def DTypC (w : World) (B : Nat) (ys : List Value) (t : TypI) : Prop := ∃ vr, ys = [.string t.name, vr] ∧ DVRels B w vr t.rels
def DTypsC (w : World) (B : Nat) : List TypI → List Value → Prop
  | [], xs => xs = []
  | x :: r, xs => ∃ ys zs, xs = ys ++ zs ∧ DTypC w B ys x ∧ DTypsC w B r zs
/-- What keeps rows of relations too. -/
def DKeeps3 (w w' : World) (B : Nat) : Prop := DKeeps w w' B ∧ ∀ v n xs, w.ownsRow B 50 6 v n xs → w'.ownsRow B 50 6 v n xs
theorem DVRels.keep {w w' : World} {B : Nat} (hk : DKeeps3 w w' B) {v : Value} {l : List RelI} (h : DVRels B w v l) : DVRels B w' v l := by
  obtain ⟨xs, h1, h2⟩ := h
  exact ⟨xs, hk.2 _ _ _ h1, h2.keep hk.1⟩
theorem DTypsC.keep {w w' : World} {B : Nat} (hk : DKeeps3 w w' B) : ∀ {l : List TypI} {xs : List Value}, DTypsC w B l xs → DTypsC w' B l xs
  | [], _, h => h
  | _ :: _, _, h => by
    obtain ⟨ys, zs, e, ⟨vr, e2, h1⟩, h2⟩ := h
    exact ⟨ys, zs, e, ⟨vr, e2, h1.keep hk⟩, DTypsC.keep hk h2⟩
theorem DTypsC.snoc {w : World} {B : Nat} {y : TypI} {ws : List Value} (hy : DTypC w B ws y) : ∀ {l : List TypI} {xs : List Value}, DTypsC w B l xs → DTypsC w B (l ++ [y]) (xs ++ ws)
  | [], xs, h => by
    have : xs = [] := h
    subst this
    exact ⟨ws, [], by simp, hy, rfl⟩
  | x :: r, xs, h => by
    obtain ⟨ys, zs, e, h1, h2⟩ := h
    exact ⟨ys, zs ++ ws, by rw [e, List.append_assoc], h1, DTypsC.snoc hy h2⟩
theorem DVRels.base {w : World} {B B' : Nat} (h : B' ≤ B) {v : Value} {l : List RelI} (hr : DVRels B w v l) : DVRels B' w v l := by
  obtain ⟨xs, h1, h2⟩ := hr
  exact ⟨xs, own_base h1 h, DKeeps.base h h2⟩
theorem DTypsC.base {w : World} {B B' : Nat} (h : B' ≤ B) : ∀ {l : List TypI} {xs : List Value}, DTypsC w B l xs → DTypsC w B' l xs
  | [], _, h => h
  | _ :: _, _, hr => by
    obtain ⟨ys, zs, e, ⟨vr, e2, h1⟩, h2⟩ := hr
    exact ⟨ys, zs, e, ⟨vr, e2, h1.base h⟩, DTypsC.base h h2⟩
def DVTyps (B : Nat) (w : World) (v : Value) (l : List TypI) : Prop := ∃ xs, w.ownsRow B 43 2 v l.length xs ∧ DTypsC w B l xs
theorem dkeeps3_kp {g B : Nat} {w w' : World} (hk : Kp g w.heap.size w w') (hg : g < B) : DKeeps3 w w' B := ⟨dkeeps_kp hk hg, fun _ _ _ h => own_kp h hk hg⟩
theorem dkeeps3_below {B : Nat} {w w' : World} (hk : Below w.heap.size w w') : DKeeps3 w w' B := ⟨⟨fun _ _ _ h => own_below h hk, fun _ _ _ h => own_below h hk⟩, fun _ _ _ h => own_below h hk⟩
theorem dkeeps3_set {B : Nat} {w : World} {a : Addr} (ha : a.block < B) (u : Value) : DKeeps3 w (w.setCell a u) B := ⟨dkeeps_set ha u, fun _ _ _ h => own_set h ha u⟩
theorem dkeeps3_drew (w : World) (B : Nat) : DKeeps3 w w.drew B := ⟨dkeeps_drew w B, fun _ _ _ h => own_drew h⟩
theorem dkeeps3_grown {w w' : World} {B B2 : Nat} {e2 : TypeId} {s2 n2 : Nat} {u : Value} {ys : List Value} {o : Obj} (hu : w.ownsRow B2 e2 s2 u n2 ys) (h1 : 60 ≠ e2) (h2 : 61 ≠ e2) (h3 : 50 ≠ e2) (hg : (w.alloc o).grownBy w' u.ownBlock) : DKeeps3 w w' B :=
  ⟨dkeeps_grown hu h1 h2 hg, fun _ _ _ h => own_grown (World.ownsRow.alloc h o) (World.ownsRow.alloc hu o) h3 hg⟩
theorem DTypsC.get {w : World} {B : Nat} : ∀ {l : List TypI} {xs : List Value} {i : Nat} {t : TypI}, DTypsC w B l xs → l[i]? = some t → ∃ vr, DVRels B w vr t.rels ∧ xs[i * 2]? = some (.string t.name) ∧ xs[i * 2 + 1]? = some vr
  | [], _, _, _, _, h => by simp at h
  | x :: r, xs, 0, t, h, hi => by
    simp only [List.getElem?_cons_zero, Option.some.injEq] at hi
    subst hi
    obtain ⟨ys, zs, rfl, ⟨vr, rfl, h1⟩, _⟩ := h
    exact ⟨vr, h1, rfl, rfl⟩
  | x :: r, xs, i + 1, t, h, hi => by
    simp only [List.getElem?_cons_succ] at hi
    obtain ⟨ys, zs, rfl, ⟨vr, rfl, _⟩, h2⟩ := h
    obtain ⟨v2, a, b, c⟩ := DTypsC.get h2 hi
    refine ⟨v2, a, ?_, ?_⟩
    · rw [List.getElem?_append_right (by simp; omega), ← b]
      congr 1
      simp
      omega
    · rw [List.getElem?_append_right (by simp; omega), ← c]
      congr 1
      simp
      omega
theorem DRelsC.get {w : World} {B : Nat} : ∀ {l : List RelI} {xs : List Value} {i : Nat} {x : RelI}, DRelsC w B l xs → l[i]? = some x → ∃ vs vo, DVSubs B w vs x.subs ∧ DVOps B w vo x.ops ∧ xs[i * 6]? = some (.string x.name) ∧ xs[i * 6 + 1]? = some (.string x.view) ∧ xs[i * 6 + 2]? = some (.string x.edit) ∧ xs[i * 6 + 3]? = some (.string x.check) ∧ xs[i * 6 + 4]? = some vs ∧ xs[i * 6 + 5]? = some vo
  | [], _, _, _, _, h => by simp at h
  | y :: r, xs, 0, x, h, hi => by
    simp only [List.getElem?_cons_zero, Option.some.injEq] at hi
    subst hi
    obtain ⟨ys, zs, rfl, ⟨vs, vo, rfl, h1, h2⟩, _⟩ := h
    exact ⟨vs, vo, h1, h2, rfl, rfl, rfl, rfl, rfl, rfl⟩
  | y :: r, xs, i + 1, x, h, hi => by
    simp only [List.getElem?_cons_succ] at hi
    obtain ⟨ys, zs, rfl, ⟨vs, vo, rfl, _, _⟩, h2⟩ := h
    obtain ⟨v2, v3, a1, a2, b0, b1, b2, b3, b4, b5⟩ := DRelsC.get h2 hi
    have key : ∀ (k : Nat) (u : Value), zs[i * 6 + k]? = some u → ([.string y.name, .string y.view, .string y.edit, .string y.check, vs, vo] ++ zs)[(i + 1) * 6 + k]? = some u := fun k u hk => by
      rw [List.getElem?_append_right (by simp; omega), ← hk]
      congr 1
      simp
      omega
    exact ⟨v2, v3, a1, a2, key 0 _ b0, key 1 _ b1, key 2 _ b2, key 3 _ b3, key 4 _ b4, key 5 _ b5⟩
/-- What is read of the type at place i. -/
theorem DVTyps.get {w : World} {B : Nat} {v : Value} {l : List TypI} (h : DVTyps B w v l) {i : Nat} {t : TypI} (hi : l[i]? = some t) :
    ∃ g c vr, v = .slice (some ⟨g, 0, none⟩) l.length c ∧ DVRels B w vr t.rels ∧ w.cell? ⟨g, i * 2, none⟩ = some (.string t.name) ∧ w.cell? ⟨g, i * 2 + 1, none⟩ = some vr := by
  obtain ⟨xs, h1, h2⟩ := h
  have hl : i < l.length := (List.getElem?_eq_some_iff.1 hi).1
  obtain ⟨vr, hr, a, b⟩ := h2.get hi
  obtain ⟨g, c, e, _, _, hc⟩ := own_at h1 (by omega)
  exact ⟨g, c, vr, e, hr, hc _ _ a, hc _ _ b⟩
theorem DVRels.get {w : World} {B : Nat} {v : Value} {l : List RelI} (h : DVRels B w v l) {i : Nat} {x : RelI} (hi : l[i]? = some x) :
    ∃ g c vs vo, v = .slice (some ⟨g, 0, none⟩) l.length c ∧ DVSubs B w vs x.subs ∧ DVOps B w vo x.ops ∧ w.cell? ⟨g, i * 6, none⟩ = some (.string x.name) ∧ w.cell? ⟨g, i * 6 + 1, none⟩ = some (.string x.view) ∧ w.cell? ⟨g, i * 6 + 2, none⟩ = some (.string x.edit) ∧ w.cell? ⟨g, i * 6 + 3, none⟩ = some (.string x.check) ∧ w.cell? ⟨g, i * 6 + 4, none⟩ = some vs ∧ w.cell? ⟨g, i * 6 + 5, none⟩ = some vo := by
  obtain ⟨xs, h1, h2⟩ := h
  have hl : i < l.length := (List.getElem?_eq_some_iff.1 hi).1
  obtain ⟨vs, vo, hs, ho, b0, b1, b2, b3, b4, b5⟩ := h2.get hi
  obtain ⟨g, c, e, _, _, hc⟩ := own_at h1 (by omega)
  exact ⟨g, c, vs, vo, e, hs, ho, hc _ _ b0, hc _ _ b1, hc _ _ b2, hc _ _ b3, hc _ _ b4, hc _ _ b5⟩
theorem DVOps.get {w : World} {B : Nat} {v : Value} {l : List OpI} (h : DVOps B w v l) {i : Nat} {o : OpI} (hi : l[i]? = some o) :
    ∃ g c, v = .slice (some ⟨g, 0, none⟩) l.length c ∧ w.cell? ⟨g, i * 3, none⟩ = some (.int .i64 o.1) ∧ w.cell? ⟨g, i * 3 + 1, none⟩ = some (.string o.2.1) ∧ w.cell? ⟨g, i * 3 + 2, none⟩ = some (.string o.2.2) := by
  have hl : i < l.length := (List.getElem?_eq_some_iff.1 hi).1
  obtain ⟨b0, b1, b2⟩ := aocells_at l i o hi
  obtain ⟨g, c, e, _, _, hc⟩ := own_at h (by omega)
  exact ⟨g, c, e, hc _ _ b0, hc _ _ b1, hc _ _ b2⟩
theorem DVSubs.get {w : World} {B : Nat} {v : Value} {l : List SubP} (h : DVSubs B w v l) {i : Nat} {o : SubP} (hi : l[i]? = some o) :
    ∃ g c, v = .slice (some ⟨g, 0, none⟩) l.length c ∧ w.cell? ⟨g, i * 2, none⟩ = some (.string o.1) ∧ w.cell? ⟨g, i * 2 + 1, none⟩ = some (.string o.2) := by
  have hl : i < l.length := (List.getElem?_eq_some_iff.1 hi).1
  obtain ⟨b0, b1⟩ := scells_at l i o hi
  obtain ⟨g, c, e, _, _, hc⟩ := own_at h (by omega)
  exact ⟨g, c, e, hc _ _ b0, hc _ _ b1⟩
theorem DVTyps.below {w w' : World} {B : Nat} {v : Value} {l : List TypI} (h : DVTyps B w v l) (hb : Below w.heap.size w w') : DVTyps B w' v l := by
  obtain ⟨xs, h1, h2⟩ := h
  exact ⟨xs, own_below h1 hb, h2.keep (dkeeps3_below hb)⟩
theorem dinfo_op : (Try.prog.info? 61).map (fun i => (i.zero, i.size, i.bytes)) = some (some (.agg #[.int .i64 0, .string .empty, .string .empty]), 3, 40) := by kernel_rfl
theorem dinfo_sub : (Try.prog.info? 60).map (fun i => (i.zero, i.size, i.bytes)) = some (some (.agg #[.string .empty, .string .empty]), 2, 32) := by kernel_rfl
theorem dinfo_rel : (Try.prog.info? 50).map (fun i => (i.zero, i.size, i.bytes)) = some (some (.agg #[.string .empty, .string .empty, .string .empty, .string .empty, .slice none 0 0, .slice none 0 0]), 6, 112) := by kernel_rfl
theorem dinfo_typ : (Try.prog.info? 43).map (fun i => (i.zero, i.size, i.bytes)) = some (some (.agg #[.string .empty, .slice none 0 0]), 2, 40) := by kernel_rfl
theorem take_snoc {α : Type} {l : List α} {i : Nat} {x : α} (h : l[i]? = some x) : l.take (i + 1) = l.take i ++ [x] := by
  rw [List.take_add_one, h]
  rfl
theorem cell_under {w w' : World} {a : Addr} {v : Value} (h : w.cell? a = some v) (hb : Below w.heap.size w w') : w'.cell? a = some v := (hb.cell (World.block_lt_of_cell? _ _ h)).trans h
theorem cells_new3 (w : World) (a b c : Value) (t : TypeId) : ∀ j u, [a, b, c][j]? = some u → (w.alloc (.cells #[a, b, c] t)).cell? ((⟨w.heap.size, 0, none⟩ : Addr).add j) = some u := by
  intro j u hj
  rw [Addr.add_lit, cell_of_row _ _ _ _ _ _ (heap_alloc_new w _), Nat.zero_add]
  simpa using hj
theorem Bk.new2 (w : World) (o : Obj) (cs : Array Value) (t : TypeId) : Bk ((w.alloc o).alloc (.cells cs t)) (w.heap.size + 1) cs t := by
  have h := Bk.new (w.alloc o) cs t
  rw [show (w.alloc o).heap.size = w.heap.size + 1 by simp] at h
  exact h
theorem dtcell_one (a : ByteArray) (p : Option Addr) (n c : Nat) : ∀ u ∈ [Value.string a, .slice p n c], u.oneCell' = true := by
  intro u hu
  simp only [List.mem_cons, List.not_mem_nil, or_false] at hu
  rcases hu with rfl | rfl <;> rfl
end Go.Proofs.Ytpiihfffhjmabaa
