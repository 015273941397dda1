/- Layer 9: what is read of a schema in memory, whoever made it: one that came in, one of the call's own, one put together of both. Conditions: none. -/
import Derived.Test.YteafdhpcnpfmkaaGreatArgS
import Derived.Test.YteafdhpcnpfmkaaGreatGet
import Derived.BigQuiet
import Derived.Deep.QuietTactic
import Derived.Test.YteafdhpcnpfmkaaGreatRegion7
namespace Go.Proofs.YteafdhpcnpfmkaaGreat
open Go.RowKit

theorem Rd.up {w w' : World} {sz n c : Nat} {A : Option Addr} {xs : List Value} (h : Rd w w.heap.size sz A n c xs) (hb : Below w.heap.size w w') : Rd w' w'.heap.size sz A n c xs := (h.below hb).more hb.size
theorem RelA.ok.up {w w' : World} {R : Nat} {a : RelA} (h : a.ok w R) (hb : Below w.heap.size w w') : a.ok w' R := ⟨h.name, h.view, h.edit, h.check, h.subs.up hb, h.subn, h.subz, h.ops.up hb, h.opn, h.opz⟩
theorem TypA.ok.up {w w' : World} {R : Nat} {a : TypA} (h : a.ok w R) (hb : Below w.heap.size w w') : a.ok w' R := ⟨h.name, h.rels.up hb, h.reln, fun r hr => (h.relz r hr).up hb⟩
/-- At this slice there are these types. -/
structure SchA (w : World) (R : Nat) (A : Option Addr) (c : Nat) (l : List TypA) : Prop where
  rows : Rd w w.heap.size 2 A l.length c (l.flatMap TypA.cells)
  few : l.length * 40 ≤ R
  each : ∀ a ∈ l, a.ok w R
theorem SchA.up {w w' : World} {R : Nat} {A : Option Addr} {c : Nat} {l : List TypA} (h : SchA w R A c l) (hb : Below w.heap.size w w') : SchA w' R A c l := ⟨h.rows.up hb, h.few, fun a ha => (h.each a ha).up hb⟩
theorem flat_get {α : Type} (g : α → List Value) {sz : Nat} (hg : ∀ a, (g a).length = sz) {l : List α} {i k : Nat} {a : α} (hi : l[i]? = some a) (hk : k < sz) : (l.flatMap g)[i * sz + k]? = (g a)[k]? := by
  rw [List.flatMap_def]
  exact flatten_atA (fun x hx => by obtain ⟨y, _, rfl⟩ := List.mem_map.1 hx; exact hg y) (by rw [List.getElem?_map, hi]; rfl) hk
theorem lt_get {α : Type} {l : List α} {i : Nat} {a : α} (hi : l[i]? = some a) : 0 < l.length := by
  have := (List.getElem?_eq_some_iff.1 hi).1
  omega
/-- What is read of the type at place i. -/
theorem SchA.get {w : World} {R : Nat} {A : Option Addr} {c : Nat} {l : List TypA} (h : SchA w R A c l) {i : Nat} {t : TypA} (hi : l[i]? = some t) :
    ∃ b o, A = some ⟨b, o, none⟩ ∧ w.cell? ⟨b, o + i * 2, none⟩ = some (.string t.name) ∧ w.cell? ⟨b, o + i * 2 + 1, none⟩ = some (.slice t.A t.rels.length t.c) ∧ t.ok w R := by
  obtain ⟨b, o, rfl, _, hc⟩ := h.rows.at_ (lt_get hi)
  have g0 := flat_get TypA.cells (sz := 2) (fun _ => rfl) hi (k := 0) (by omega)
  have g1 := flat_get TypA.cells (sz := 2) (fun _ => rfl) hi (k := 1) (by omega)
  exact ⟨b, o, rfl, hc _ _ g0, hc _ _ g1, h.each t (List.mem_of_getElem? hi)⟩
theorem TypA.ok.get {w : World} {R : Nat} {t : TypA} (h : t.ok w R) {i : Nat} {x : RelA} (hi : t.rels[i]? = some x) :
    ∃ b o, t.A = some ⟨b, o, none⟩ ∧ w.cell? ⟨b, o + i * 6, none⟩ = some (.string x.name) ∧ w.cell? ⟨b, o + i * 6 + 1, none⟩ = some (.string x.view) ∧ w.cell? ⟨b, o + i * 6 + 2, none⟩ = some (.string x.edit) ∧ w.cell? ⟨b, o + i * 6 + 3, none⟩ = some (.string x.check) ∧
      w.cell? ⟨b, o + i * 6 + 4, none⟩ = some (.slice x.As x.subs.length x.cs) ∧ w.cell? ⟨b, o + i * 6 + 5, none⟩ = some (.slice x.Ao x.ops.length x.co) ∧ x.ok w R := by
  obtain ⟨b, o, e, _, hc⟩ := h.rels.at_ (lt_get hi)
  have g := fun k (hk : k < 6) => flat_get RelA.cells (sz := 6) (fun _ => rfl) hi (k := k) hk
  exact ⟨b, o, e, hc _ _ (g 0 (by omega)), hc _ _ (g 1 (by omega)), hc _ _ (g 2 (by omega)), hc _ _ (g 3 (by omega)), hc _ _ (g 4 (by omega)), hc _ _ (g 5 (by omega)), h.relz x (List.mem_of_getElem? hi)⟩
theorem RelA.ok.sub {w : World} {R : Nat} {x : RelA} (h : x.ok w R) {i : Nat} {s : ByteArray × ByteArray} (hi : x.subs[i]? = some s) :
    ∃ b o, x.As = some ⟨b, o, none⟩ ∧ w.cell? ⟨b, o + i * 2, none⟩ = some (.string s.1) ∧ w.cell? ⟨b, o + i * 2 + 1, none⟩ = some (.string s.2) ∧ s.1.size ≤ R ∧ s.2.size ≤ R := by
  obtain ⟨b, o, e, _, hc⟩ := h.subs.at_ (lt_get hi)
  have g := fun k (hk : k < 2) => flat_get aSub (sz := 2) (fun _ => rfl) hi (k := k) hk
  have z := h.subz s (List.mem_of_getElem? hi)
  exact ⟨b, o, e, hc _ _ (g 0 (by omega)), hc _ _ (g 1 (by omega)), z.1, z.2⟩
theorem RelA.ok.op {w : World} {R : Nat} {x : RelA} (h : x.ok w R) {i : Nat} {o : OpI} (hi : x.ops[i]? = some o) :
    ∃ b k, x.Ao = some ⟨b, k, none⟩ ∧ w.cell? ⟨b, k + i * 3, none⟩ = some (.int .i64 o.1) ∧ w.cell? ⟨b, k + i * 3 + 1, none⟩ = some (.string o.2.1) ∧ w.cell? ⟨b, k + i * 3 + 2, none⟩ = some (.string o.2.2) ∧ (Lit.int .i64 o.1).wf = true ∧ o.2.1.size ≤ R ∧ o.2.2.size ≤ R := by
  obtain ⟨b, k, e, _, hc⟩ := h.ops.at_ (lt_get hi)
  have g := fun j (hj : j < 3) => flat_get aOp (sz := 3) (fun _ => rfl) hi (k := j) hj
  have z := h.opz o (List.mem_of_getElem? hi)
  exact ⟨b, k, e, hc _ _ (g 0 (by omega)), hc _ _ (g 1 (by omega)), hc _ _ (g 2 (by omega)), z.1, z.2.1, z.2.2⟩

/-- What was parsed, as it is said here. -/
def opI (o : OpP) : OpI := ((o.1 : Int), o.2.1, o.2.2)
def relI (x : RelP) : RelI := ⟨x.name, x.view, x.edit, x.check, x.subs, x.ops.map opI⟩
def typI (t : TypP) : TypI := ⟨t.name, t.rels.map relI⟩
structure SmI (R : Nat) (x : RelP) : Prop where
  name : x.name.size ≤ R
  view : x.view.size ≤ R
  edit : x.edit.size ≤ R
  check : x.check.size ≤ R
  subn : x.subs.length * 32 ≤ R
  subs : ∀ s ∈ x.subs, s.1.size ≤ R ∧ s.2.size ≤ R
  opn : x.ops.length * 40 ≤ R
  ops : ∀ o ∈ x.ops, (Lit.int .i64 (o.1 : Nat)).wf = true ∧ o.2.1.size ≤ R ∧ o.2.2.size ≤ R
theorem rels_conv {w : World} {B R : Nat} : ∀ (l : List RelP) (xs : List Value), RelsC w B l xs → (∀ x ∈ l, SmI R x) → ∃ k : List RelA, xs = k.flatMap RelA.cells ∧ k.map RelA.says = l.map relI ∧ ∀ a ∈ k, a.ok w R
  | [], xs, h, _ => by
    have e : xs = [] := h
    exact ⟨[], e, rfl, fun a ha => by cases ha⟩
  | x :: l, xs, h, hz => by
    obtain ⟨ys, zs, rfl, ⟨vs, vo, rfl, hs, ho⟩, hr⟩ := h
    obtain ⟨k, rfl, hk, hok⟩ := rels_conv l zs hr fun y hy => hz y (List.mem_cons_of_mem _ hy)
    obtain ⟨As, cs, rfl, rs⟩ := Rd.own hs
    obtain ⟨Ao, co, rfl, ro⟩ := Rd.own ho
    have z := hz x List.mem_cons_self
    have e1 : scells x.subs = x.subs.flatMap aSub := rfl
    have e2 : ocells x.ops = (x.ops.map opI).flatMap aOp := by
      rw [List.flatMap_map]
      rfl
    refine ⟨⟨x.name, x.view, x.edit, x.check, As, cs, x.subs, Ao, co, x.ops.map opI⟩ :: k, ?_, ?_, fun a ha => ?_⟩
    · rw [List.flatMap_cons]
      show _ = [Value.string x.name, .string x.view, .string x.edit, .string x.check, .slice As x.subs.length cs, .slice Ao (x.ops.map opI).length co] ++ _
      rw [List.length_map]
    · rw [List.map_cons, List.map_cons, hk]
      rfl
    · rcases List.mem_cons.1 ha with rfl | ha
      · refine ⟨z.name, z.view, z.edit, z.check, rs, z.subn, z.subs, ?_, by show (x.ops.map opI).length * 40 ≤ R; rw [List.length_map]; exact z.opn, fun o ho => ?_⟩
        · show Rd w w.heap.size 3 Ao (x.ops.map opI).length co ((x.ops.map opI).flatMap aOp)
          rw [List.length_map, ← e2]
          exact ro
        · obtain ⟨p, hp, rfl⟩ := List.mem_map.1 ho
          exact z.ops p hp
      · exact hok a ha
theorem types_conv {w : World} {B R : Nat} : ∀ (l : List TypP) (xs : List Value), TypsC w B l xs → (∀ t ∈ l, t.name.size ≤ R ∧ t.rels.length * 112 ≤ R ∧ ∀ x ∈ t.rels, SmI R x) → ∃ k : List TypA, xs = k.flatMap TypA.cells ∧ k.map TypA.says = l.map typI ∧ ∀ a ∈ k, a.ok w R
  | [], xs, h, _ => by
    have e : xs = [] := h
    exact ⟨[], e, rfl, fun a ha => by cases ha⟩
  | t :: l, xs, h, hz => by
    obtain ⟨ys, zs, rfl, ⟨vr, rfl, ws, hrow, hrc⟩, hr⟩ := h
    obtain ⟨k, rfl, hk, hok⟩ := types_conv l zs hr fun y hy => hz y (List.mem_cons_of_mem _ hy)
    have z := hz t List.mem_cons_self
    obtain ⟨m, rfl, hm, hmo⟩ := rels_conv t.rels ws hrc z.2.2
    obtain ⟨A, c, rfl, rr⟩ := Rd.own hrow
    have hl : m.length = t.rels.length := by have := congrArg List.length hm; rwa [List.length_map, List.length_map] at this
    refine ⟨⟨t.name, A, c, m⟩ :: k, ?_, ?_, fun a ha => ?_⟩
    · rw [List.flatMap_cons]
      show _ = [Value.string t.name, .slice A m.length c] ++ _
      rw [hl]
    · rw [List.map_cons, List.map_cons, hk]
      show TypI.mk t.name (m.map RelA.says) :: _ = _
      rw [hm]
      rfl
    · rcases List.mem_cons.1 ha with rfl | ha
      · exact ⟨z.1, by show Rd w w.heap.size 6 A m.length c _; rw [hl]; exact rr, by show m.length * 112 ≤ R; rw [hl]; exact z.2.1, hmo⟩
      · exact hok a ha
/-- What Parse hands back, read so. -/
theorem VTyps.sch {w : World} {B R : Nat} {A : Option Addr} {c : Nat} {T : List TypP} (h : VTyps B w (.slice A T.length c) T) (hn : T.length * 40 ≤ R) (hz : ∀ t ∈ T, t.name.size ≤ R ∧ t.rels.length * 112 ≤ R ∧ ∀ x ∈ t.rels, SmI R x) : ∃ l : List TypA, l.map TypA.says = T.map typI ∧ SchA w R A c l := by
  obtain ⟨xs, h1, h2⟩ := h
  obtain ⟨l, rfl, hs, ho⟩ := types_conv T xs h2 hz
  obtain ⟨A2, c2, e, rd⟩ := Rd.own h1
  injection e with ea _ ec
  subst ea
  subst ec
  have hl : l.length = T.length := by have := congrArg List.length hs; rwa [List.length_map, List.length_map] at this
  exact ⟨l, hs, by rw [hl]; exact rd, by rw [hl]; exact hn, ho⟩
end Go.Proofs.YteafdhpcnpfmkaaGreat
/- Layer 9: what memory holds of the document's own values, whose kinds are any int: operations, who may stand in a tuple, relations, types. Conditions: none. -/
namespace Go.Proofs.YteafdhpcnpfmkaaGreat
open Go.RowKit

/-- Operations as cells. -/
def aocells (l : List OpI) : List Value := l.flatMap aOp
theorem aocells_app (a b : List OpI) : aocells (a ++ b) = aocells a ++ aocells b := List.flatMap_append
theorem aocell_one (t : OpI) : ∀ u ∈ aOp t, u.oneCell' = true := by
  intro u hu
  simp only [aOp, List.mem_cons, List.not_mem_nil, or_false] at hu
  rcases hu with rfl | rfl | rfl <;> rfl
theorem aocells_at (l : List OpI) (i : Nat) (o : OpI) (h : l[i]? = some o) : (aocells l)[i * 3]? = some (.int .i64 o.1) ∧ (aocells l)[i * 3 + 1]? = some (.string o.2.1) ∧ (aocells l)[i * 3 + 2]? = some (.string o.2.2) := by
  have g := fun j (hj : j < 3) => flat_get aOp (sz := 3) (fun _ => rfl) h (k := j) hj
  exact ⟨g 0 (by omega), g 1 (by omega), g 2 (by omega)⟩

/-- Operations of the call's own, from the block B on. -/
def DVOps (B : Nat) (w : World) (v : Value) (o : List OpI) : Prop := w.ownsRow B 60 3 v o.length (aocells o)
/-- Who may stand in a tuple. -/
def DVSubs (B : Nat) (w : World) (v : Value) (s : List SubP) : Prop := w.ownsRow B 64 2 v s.length (scells s)
def DVSub (_ : World) (v : Value) (s : SubP) : Prop := v = .agg #[.string s.1, .string s.2]
/-- A relation's cells. -/
def DRelC (w : World) (B : Nat) (ys : List Value) (x : RelI) : Prop := ∃ vs vo, ys = [.string x.name, .string x.view, .string x.edit, .string x.check, vs, vo] ∧ DVSubs B w vs x.subs ∧ DVOps B w vo x.ops
def DRelsC (w : World) (B : Nat) : List RelI → List Value → Prop
  | [], xs => xs = []
  | x :: r, xs => ∃ ys zs, xs = ys ++ zs ∧ DRelC w B ys x ∧ DRelsC w B r zs
/-- What keeps each of the rows of who may stand in tuples, and of operations. -/
def DKeeps (w w' : World) (B : Nat) : Prop := (∀ v n xs, w.ownsRow B 64 2 v n xs → w'.ownsRow B 64 2 v n xs) ∧ (∀ v n xs, w.ownsRow B 60 3 v n xs → w'.ownsRow B 60 3 v n xs)
theorem DRelC.keep {w w' : World} {B : Nat} {ys : List Value} {x : RelI} (h : DRelC w B ys x) (hk : DKeeps w w' B) : DRelC w' B ys x := by
  obtain ⟨vs, vo, e, h1, h2⟩ := h
  exact ⟨vs, vo, e, hk.1 _ _ _ h1, hk.2 _ _ _ h2⟩
theorem DRelsC.keep {w w' : World} {B : Nat} (hk : DKeeps w w' B) : ∀ {l : List RelI} {xs : List Value}, DRelsC w B l xs → DRelsC w' B l xs
  | [], _, h => h
  | _ :: _, _, h => by
    obtain ⟨ys, zs, e, h1, h2⟩ := h
    exact ⟨ys, zs, e, h1.keep hk, DRelsC.keep hk h2⟩
theorem DRelsC.snoc {w : World} {B : Nat} {y : RelI} {ws : List Value} (hy : DRelC w B ws y) : ∀ {l : List RelI} {xs : List Value}, DRelsC w B l xs → DRelsC w B (l ++ [y]) (xs ++ ws)
  | [], xs, h => by
    have : xs = [] := h
    subst this
    exact ⟨ws, [], by simp, hy, rfl⟩
  | x :: r, xs, h => by
    obtain ⟨ys, zs, e, h1, h2⟩ := h
    exact ⟨ys, zs ++ ws, by rw [e, List.append_assoc], h1, DRelsC.snoc hy h2⟩
def DVRels (B : Nat) (w : World) (v : Value) (l : List RelI) : Prop := ∃ xs, w.ownsRow B 48 6 v l.length xs ∧ DRelsC w B l xs
def DVTyp (B : Nat) (w : World) (v : Value) (t : TypI) : Prop := ∃ vr, v = .agg #[.string t.name, vr] ∧ DVRels B w vr t.rels
theorem dkeeps_kp {g B : Nat} {w w' : World} (hk : Kp g w.heap.size w w') (hg : g < B) : DKeeps w w' B := ⟨fun _ _ _ h => own_kp h hk hg, fun _ _ _ h => own_kp h hk hg⟩
theorem dkeeps_set {B : Nat} {w : World} {a : Addr} (ha : a.block < B) (u : Value) : DKeeps w (w.setCell a u) B := ⟨fun _ _ _ h => own_set h ha u, fun _ _ _ h => own_set h ha u⟩
theorem dkeeps_grown {w w' : World} {B B2 : Nat} {e2 : TypeId} {s2 n2 : Nat} {u : Value} {ys : List Value} {o : Obj} (hu : w.ownsRow B2 e2 s2 u n2 ys) (h1 : 64 ≠ e2) (h2 : 60 ≠ e2) (hg : (w.alloc o).grownBy w' u.ownBlock) : DKeeps w w' B :=
  ⟨fun _ _ _ h => own_grown (World.ownsRow.alloc h o) (World.ownsRow.alloc hu o) h1 hg, fun _ _ _ h => own_grown (World.ownsRow.alloc h o) (World.ownsRow.alloc hu o) h2 hg⟩
theorem DKeeps.base {w : World} {B B' : Nat} (h : B' ≤ B) {l : List RelI} {xs : List Value} : DRelsC w B l xs → DRelsC w B' l xs := by
  intro hr
  induction l generalizing xs with
  | nil => exact hr
  | cons x r ih =>
    obtain ⟨ys, zs, e, ⟨vs, vo, e2, h1, h2⟩, h3⟩ := hr
    exact ⟨ys, zs, e, ⟨vs, vo, e2, own_base h1 h, own_base h2 h⟩, ih h3⟩
theorem dkeeps_drew (w : World) (B : Nat) : DKeeps w w.drew B := ⟨fun _ _ _ h => own_drew h, fun _ _ _ h => own_drew h⟩
/-- A type's cells. -/
def DTypC (w : World) (B : Nat) (ys : List Value) (t : TypI) : Prop := ∃ vr, ys = [.string t.name, vr] ∧ DVRels B w vr t.rels
def DTypsC (w : World) (B : Nat) : List TypI → List Value → Prop
  | [], xs => xs = []
  | x :: r, xs => ∃ ys zs, xs = ys ++ zs ∧ DTypC w B ys x ∧ DTypsC w B r zs
/-- What keeps rows of relations too. -/
def DKeeps3 (w w' : World) (B : Nat) : Prop := DKeeps w w' B ∧ ∀ v n xs, w.ownsRow B 48 6 v n xs → w'.ownsRow B 48 6 v n xs
theorem DVRels.keep {w w' : World} {B : Nat} (hk : DKeeps3 w w' B) {v : Value} {l : List RelI} (h : DVRels B w v l) : DVRels B w' v l := by
  obtain ⟨xs, h1, h2⟩ := h
  exact ⟨xs, hk.2 _ _ _ h1, h2.keep hk.1⟩
theorem DTypsC.keep {w w' : World} {B : Nat} (hk : DKeeps3 w w' B) : ∀ {l : List TypI} {xs : List Value}, DTypsC w B l xs → DTypsC w' B l xs
  | [], _, h => h
  | _ :: _, _, h => by
    obtain ⟨ys, zs, e, ⟨vr, e2, h1⟩, h2⟩ := h
    exact ⟨ys, zs, e, ⟨vr, e2, h1.keep hk⟩, DTypsC.keep hk h2⟩
theorem DTypsC.snoc {w : World} {B : Nat} {y : TypI} {ws : List Value} (hy : DTypC w B ws y) : ∀ {l : List TypI} {xs : List Value}, DTypsC w B l xs → DTypsC w B (l ++ [y]) (xs ++ ws)
  | [], xs, h => by
    have : xs = [] := h
    subst this
    exact ⟨ws, [], by simp, hy, rfl⟩
  | x :: r, xs, h => by
    obtain ⟨ys, zs, e, h1, h2⟩ := h
    exact ⟨ys, zs ++ ws, by rw [e, List.append_assoc], h1, DTypsC.snoc hy h2⟩
theorem DVRels.base {w : World} {B B' : Nat} (h : B' ≤ B) {v : Value} {l : List RelI} (hr : DVRels B w v l) : DVRels B' w v l := by
  obtain ⟨xs, h1, h2⟩ := hr
  exact ⟨xs, own_base h1 h, DKeeps.base h h2⟩
theorem DTypsC.base {w : World} {B B' : Nat} (h : B' ≤ B) : ∀ {l : List TypI} {xs : List Value}, DTypsC w B l xs → DTypsC w B' l xs
  | [], _, h => h
  | _ :: _, _, hr => by
    obtain ⟨ys, zs, e, ⟨vr, e2, h1⟩, h2⟩ := hr
    exact ⟨ys, zs, e, ⟨vr, e2, h1.base h⟩, DTypsC.base h h2⟩
def DVTyps (B : Nat) (w : World) (v : Value) (l : List TypI) : Prop := ∃ xs, w.ownsRow B 93 2 v l.length xs ∧ DTypsC w B l xs
theorem dkeeps3_kp {g B : Nat} {w w' : World} (hk : Kp g w.heap.size w w') (hg : g < B) : DKeeps3 w w' B := ⟨dkeeps_kp hk hg, fun _ _ _ h => own_kp h hk hg⟩
theorem dkeeps3_below {B : Nat} {w w' : World} (hk : Below w.heap.size w w') : DKeeps3 w w' B := ⟨⟨fun _ _ _ h => own_below h hk, fun _ _ _ h => own_below h hk⟩, fun _ _ _ h => own_below h hk⟩
theorem dkeeps3_set {B : Nat} {w : World} {a : Addr} (ha : a.block < B) (u : Value) : DKeeps3 w (w.setCell a u) B := ⟨dkeeps_set ha u, fun _ _ _ h => own_set h ha u⟩
theorem dkeeps3_drew (w : World) (B : Nat) : DKeeps3 w w.drew B := ⟨dkeeps_drew w B, fun _ _ _ h => own_drew h⟩
theorem dkeeps3_grown {w w' : World} {B B2 : Nat} {e2 : TypeId} {s2 n2 : Nat} {u : Value} {ys : List Value} {o : Obj} (hu : w.ownsRow B2 e2 s2 u n2 ys) (h1 : 64 ≠ e2) (h2 : 60 ≠ e2) (h3 : 48 ≠ e2) (hg : (w.alloc o).grownBy w' u.ownBlock) : DKeeps3 w w' B :=
  ⟨dkeeps_grown hu h1 h2 hg, fun _ _ _ h => own_grown (World.ownsRow.alloc h o) (World.ownsRow.alloc hu o) h3 hg⟩
theorem DTypsC.get {w : World} {B : Nat} : ∀ {l : List TypI} {xs : List Value} {i : Nat} {t : TypI}, DTypsC w B l xs → l[i]? = some t → ∃ vr, DVRels B w vr t.rels ∧ xs[i * 2]? = some (.string t.name) ∧ xs[i * 2 + 1]? = some vr
  | [], _, _, _, _, h => by simp at h
  | x :: r, xs, 0, t, h, hi => by
    simp only [List.getElem?_cons_zero, Option.some.injEq] at hi
    subst hi
    obtain ⟨ys, zs, rfl, ⟨vr, rfl, h1⟩, _⟩ := h
    exact ⟨vr, h1, rfl, rfl⟩
  | x :: r, xs, i + 1, t, h, hi => by
    simp only [List.getElem?_cons_succ] at hi
    obtain ⟨ys, zs, rfl, ⟨vr, rfl, _⟩, h2⟩ := h
    obtain ⟨v2, a, b, c⟩ := DTypsC.get h2 hi
    refine ⟨v2, a, ?_, ?_⟩
    · rw [List.getElem?_append_right (by simp; omega), ← b]
      congr 1
      simp
      omega
    · rw [List.getElem?_append_right (by simp; omega), ← c]
      congr 1
      simp
      omega
theorem DRelsC.get {w : World} {B : Nat} : ∀ {l : List RelI} {xs : List Value} {i : Nat} {x : RelI}, DRelsC w B l xs → l[i]? = some x → ∃ vs vo, DVSubs B w vs x.subs ∧ DVOps B w vo x.ops ∧ xs[i * 6]? = some (.string x.name) ∧ xs[i * 6 + 1]? = some (.string x.view) ∧ xs[i * 6 + 2]? = some (.string x.edit) ∧ xs[i * 6 + 3]? = some (.string x.check) ∧ xs[i * 6 + 4]? = some vs ∧ xs[i * 6 + 5]? = some vo
  | [], _, _, _, _, h => by simp at h
  | y :: r, xs, 0, x, h, hi => by
    simp only [List.getElem?_cons_zero, Option.some.injEq] at hi
    subst hi
    obtain ⟨ys, zs, rfl, ⟨vs, vo, rfl, h1, h2⟩, _⟩ := h
    exact ⟨vs, vo, h1, h2, rfl, rfl, rfl, rfl, rfl, rfl⟩
  | y :: r, xs, i + 1, x, h, hi => by
    simp only [List.getElem?_cons_succ] at hi
    obtain ⟨ys, zs, rfl, ⟨vs, vo, rfl, _, _⟩, h2⟩ := h
    obtain ⟨v2, v3, a1, a2, b0, b1, b2, b3, b4, b5⟩ := DRelsC.get h2 hi
    have key : ∀ (k : Nat) (u : Value), zs[i * 6 + k]? = some u → ([.string y.name, .string y.view, .string y.edit, .string y.check, vs, vo] ++ zs)[(i + 1) * 6 + k]? = some u := fun k u hk => by
      rw [List.getElem?_append_right (by simp; omega), ← hk]
      congr 1
      simp
      omega
    exact ⟨v2, v3, a1, a2, key 0 _ b0, key 1 _ b1, key 2 _ b2, key 3 _ b3, key 4 _ b4, key 5 _ b5⟩
/-- What is read of the type at place i. -/
theorem DVTyps.get {w : World} {B : Nat} {v : Value} {l : List TypI} (h : DVTyps B w v l) {i : Nat} {t : TypI} (hi : l[i]? = some t) :
    ∃ g c vr, v = .slice (some ⟨g, 0, none⟩) l.length c ∧ DVRels B w vr t.rels ∧ w.cell? ⟨g, i * 2, none⟩ = some (.string t.name) ∧ w.cell? ⟨g, i * 2 + 1, none⟩ = some vr := by
  obtain ⟨xs, h1, h2⟩ := h
  have hl : i < l.length := (List.getElem?_eq_some_iff.1 hi).1
  obtain ⟨vr, hr, a, b⟩ := h2.get hi
  obtain ⟨g, c, e, _, _, hc⟩ := own_at h1 (by omega)
  exact ⟨g, c, vr, e, hr, hc _ _ a, hc _ _ b⟩
theorem DVRels.get {w : World} {B : Nat} {v : Value} {l : List RelI} (h : DVRels B w v l) {i : Nat} {x : RelI} (hi : l[i]? = some x) :
    ∃ g c vs vo, v = .slice (some ⟨g, 0, none⟩) l.length c ∧ DVSubs B w vs x.subs ∧ DVOps B w vo x.ops ∧ w.cell? ⟨g, i * 6, none⟩ = some (.string x.name) ∧ w.cell? ⟨g, i * 6 + 1, none⟩ = some (.string x.view) ∧ w.cell? ⟨g, i * 6 + 2, none⟩ = some (.string x.edit) ∧ w.cell? ⟨g, i * 6 + 3, none⟩ = some (.string x.check) ∧ w.cell? ⟨g, i * 6 + 4, none⟩ = some vs ∧ w.cell? ⟨g, i * 6 + 5, none⟩ = some vo := by
  obtain ⟨xs, h1, h2⟩ := h
  have hl : i < l.length := (List.getElem?_eq_some_iff.1 hi).1
  obtain ⟨vs, vo, hs, ho, b0, b1, b2, b3, b4, b5⟩ := h2.get hi
  obtain ⟨g, c, e, _, _, hc⟩ := own_at h1 (by omega)
  exact ⟨g, c, vs, vo, e, hs, ho, hc _ _ b0, hc _ _ b1, hc _ _ b2, hc _ _ b3, hc _ _ b4, hc _ _ b5⟩
theorem DVOps.get {w : World} {B : Nat} {v : Value} {l : List OpI} (h : DVOps B w v l) {i : Nat} {o : OpI} (hi : l[i]? = some o) :
    ∃ g c, v = .slice (some ⟨g, 0, none⟩) l.length c ∧ w.cell? ⟨g, i * 3, none⟩ = some (.int .i64 o.1) ∧ w.cell? ⟨g, i * 3 + 1, none⟩ = some (.string o.2.1) ∧ w.cell? ⟨g, i * 3 + 2, none⟩ = some (.string o.2.2) := by
  have hl : i < l.length := (List.getElem?_eq_some_iff.1 hi).1
  obtain ⟨b0, b1, b2⟩ := aocells_at l i o hi
  obtain ⟨g, c, e, _, _, hc⟩ := own_at h (by omega)
  exact ⟨g, c, e, hc _ _ b0, hc _ _ b1, hc _ _ b2⟩
theorem DVSubs.get {w : World} {B : Nat} {v : Value} {l : List SubP} (h : DVSubs B w v l) {i : Nat} {o : SubP} (hi : l[i]? = some o) :
    ∃ g c, v = .slice (some ⟨g, 0, none⟩) l.length c ∧ w.cell? ⟨g, i * 2, none⟩ = some (.string o.1) ∧ w.cell? ⟨g, i * 2 + 1, none⟩ = some (.string o.2) := by
  have hl : i < l.length := (List.getElem?_eq_some_iff.1 hi).1
  obtain ⟨b0, b1⟩ := scells_at l i o hi
  obtain ⟨g, c, e, _, _, hc⟩ := own_at h (by omega)
  exact ⟨g, c, e, hc _ _ b0, hc _ _ b1⟩
theorem DVTyps.below {w w' : World} {B : Nat} {v : Value} {l : List TypI} (h : DVTyps B w v l) (hb : Below w.heap.size w w') : DVTyps B w' v l := by
  obtain ⟨xs, h1, h2⟩ := h
  exact ⟨xs, own_below h1 hb, h2.keep (dkeeps3_below hb)⟩
theorem dinfo_op : (Tryz.prog.info? 60).map (fun i => (i.zero, i.size, i.bytes)) = some (some (.agg #[.int .i64 0, .string .empty, .string .empty]), 3, 40) := by kernel_rfl
theorem dinfo_sub : (Tryz.prog.info? 64).map (fun i => (i.zero, i.size, i.bytes)) = some (some (.agg #[.string .empty, .string .empty]), 2, 32) := by kernel_rfl
theorem dinfo_rel : (Tryz.prog.info? 48).map (fun i => (i.zero, i.size, i.bytes)) = some (some (.agg #[.string .empty, .string .empty, .string .empty, .string .empty, .slice none 0 0, .slice none 0 0]), 6, 112) := by kernel_rfl
theorem dinfo_typ : (Tryz.prog.info? 93).map (fun i => (i.zero, i.size, i.bytes)) = some (some (.agg #[.string .empty, .slice none 0 0]), 2, 40) := by kernel_rfl
theorem take_snoc {α : Type} {l : List α} {i : Nat} {x : α} (h : l[i]? = some x) : l.take (i + 1) = l.take i ++ [x] := by
  rw [List.take_add_one, h]
  rfl
theorem cell_under {w w' : World} {a : Addr} {v : Value} (h : w.cell? a = some v) (hb : Below w.heap.size w w') : w'.cell? a = some v := (hb.cell (World.block_lt_of_cell? _ _ h)).trans h
theorem cells_new3 (w : World) (a b c : Value) (t : TypeId) : ∀ j u, [a, b, c][j]? = some u → (w.alloc (.cells #[a, b, c] t)).cell? ((⟨w.heap.size, 0, none⟩ : Addr).add j) = some u := by
  intro j u hj
  rw [Addr.add_lit, cell_of_row _ _ _ _ _ _ (heap_alloc_new w _), Nat.zero_add]
  simpa using hj
theorem Bk.new2 (w : World) (o : Obj) (cs : Array Value) (t : TypeId) : Bk ((w.alloc o).alloc (.cells cs t)) (w.heap.size + 1) cs t := by
  have h := Bk.new (w.alloc o) cs t
  rw [show (w.alloc o).heap.size = w.heap.size + 1 by simp] at h
  exact h
theorem dtcell_one (a : ByteArray) (p : Option Addr) (n c : Nat) : ∀ u ∈ [Value.string a, .slice p n c], u.oneCell' = true := by
  intro u hu
  simp only [List.mem_cons, List.not_mem_nil, or_false] at hu
  rcases hu with rfl | rfl <;> rfl
end Go.Proofs.YteafdhpcnpfmkaaGreat
