import Derived.Deep.Cut
import Derived.Laws.StructEq
import Derived.Test.YtahegpfdbgbioaaGreatA09
set_option maxRecDepth 100000
set_option maxHeartbeats 4000000
namespace Go.Proofs.YtahegpfdbgbioaaGreat
open Go.RowKit
open Go.RowKit
theorem Rd.up {w w' : World} {sz n c : Nat} {A : Option Addr} {xs : List Value} (h : Rd w w.heap.size sz A n c xs) (hb : Below w.heap.size w w') : Rd w' w'.heap.size sz A n c xs := (h.below hb).more hb.size
theorem RelA.ok.up {w w' : World} {R : Nat} {a : RelA} (h : a.ok w R) (hb : Below w.heap.size w w') : a.ok w' R := ⟨h.name, h.view, h.edit, h.check, h.subs.up hb, h.subn, h.subz, h.ops.up hb, h.opn, h.opz⟩
theorem TypA.ok.up {w w' : World} {R : Nat} {a : TypA} (h : a.ok w R) (hb : Below w.heap.size w w') : a.ok w' R := ⟨h.name, h.rels.up hb, h.reln, fun r hr => (h.relz r hr).up hb⟩
structure SchA (w : World) (R : Nat) (A : Option Addr) (c : Nat) (l : List TypA) : Prop where
 rows : Rd w w.heap.size 2 A l.length c (l.flatMap TypA.cells)
 few : l.length * 40 ≤ R
 each : ∀ a ∈ l, a.ok w R
theorem SchA.up {w w' : World} {R : Nat} {A : Option Addr} {c : Nat} {l : List TypA} (h : SchA w R A c l) (hb : Below w.heap.size w w') : SchA w' R A c l := ⟨h.rows.up hb, h.few, fun a ha => (h.each a ha).up hb⟩
theorem flat_get {α : Type} (g : α → List Value) {sz : Nat} (hg : ∀ a, (g a).length = sz) {l : List α} {i k : Nat} {a : α} (hi : l[i]? = some a) (hk : k < sz) : (l.flatMap g)[i * sz + k]? = (g a)[k]? := by
 rw [List.flatMap_def]
 exact flatten_atA (fun x hx => by obtain ⟨y, _, rfl⟩ := List.mem_map.1 hx; exact hg y) (by rw [List.getElem?_map, hi]; rfl) hk
theorem lt_get {α : Type} {l : List α} {i : Nat} {a : α} (hi : l[i]? = some a) : 0 < l.length := by
 have := (List.getElem?_eq_some_iff.1 hi).1
 omega
theorem SchA.get {w : World} {R : Nat} {A : Option Addr} {c : Nat} {l : List TypA} (h : SchA w R A c l) {i : Nat} {t : TypA} (hi : l[i]? = some t) :
 ∃ b o, A = some ⟨b, o, none⟩ ∧ w.cell? ⟨b, o + i * 2, none⟩ = some (.string t.name) ∧ w.cell? ⟨b, o + i * 2 + 1, none⟩ = some (.slice t.A t.rels.length t.c) ∧ t.ok w R := by
 obtain ⟨b, o, rfl, _, hc⟩ := h.rows.at_ (lt_get hi)
 have g0 := flat_get TypA.cells (sz := 2) (fun _ => rfl) hi (k := 0) (by omega)
 have g1 := flat_get TypA.cells (sz := 2) (fun _ => rfl) hi (k := 1) (by omega)
 exact ⟨b, o, rfl, hc _ _ g0, hc _ _ g1, h.each t (List.mem_of_getElem? hi)⟩
theorem TypA.ok.get {w : World} {R : Nat} {t : TypA} (h : t.ok w R) {i : Nat} {x : RelA} (hi : t.rels[i]? = some x) :
 ∃ b o, t.A = some ⟨b, o, none⟩ ∧ w.cell? ⟨b, o + i * 6, none⟩ = some (.string x.name) ∧ w.cell? ⟨b, o + i * 6 + 1, none⟩ = some (.string x.view) ∧ w.cell? ⟨b, o + i * 6 + 2, none⟩ = some (.string x.edit) ∧ w.cell? ⟨b, o + i * 6 + 3, none⟩ = some (.string x.check) ∧
  w.cell? ⟨b, o + i * 6 + 4, none⟩ = some (.slice x.As x.subs.length x.cs) ∧ w.cell? ⟨b, o + i * 6 + 5, none⟩ = some (.slice x.Ao x.ops.length x.co) ∧ x.ok w R := by
 obtain ⟨b, o, e, _, hc⟩ := h.rels.at_ (lt_get hi)
 have g := fun k (hk : k < 6) => flat_get RelA.cells (sz := 6) (fun _ => rfl) hi (k := k) hk
 exact ⟨b, o, e, hc _ _ (g 0 (by omega)), hc _ _ (g 1 (by omega)), hc _ _ (g 2 (by omega)), hc _ _ (g 3 (by omega)), hc _ _ (g 4 (by omega)), hc _ _ (g 5 (by omega)), h.relz x (List.mem_of_getElem? hi)⟩
theorem RelA.ok.sub {w : World} {R : Nat} {x : RelA} (h : x.ok w R) {i : Nat} {s : ByteArray × ByteArray} (hi : x.subs[i]? = some s) :
 ∃ b o, x.As = some ⟨b, o, none⟩ ∧ w.cell? ⟨b, o + i * 2, none⟩ = some (.string s.1) ∧ w.cell? ⟨b, o + i * 2 + 1, none⟩ = some (.string s.2) ∧ s.1.size ≤ R ∧ s.2.size ≤ R := by
 obtain ⟨b, o, e, _, hc⟩ := h.subs.at_ (lt_get hi)
 have g := fun k (hk : k < 2) => flat_get aSub (sz := 2) (fun _ => rfl) hi (k := k) hk
 have z := h.subz s (List.mem_of_getElem? hi)
 exact ⟨b, o, e, hc _ _ (g 0 (by omega)), hc _ _ (g 1 (by omega)), z.1, z.2⟩
theorem RelA.ok.op {w : World} {R : Nat} {x : RelA} (h : x.ok w R) {i : Nat} {o : OpI} (hi : x.ops[i]? = some o) :
 ∃ b k, x.Ao = some ⟨b, k, none⟩ ∧ w.cell? ⟨b, k + i * 3, none⟩ = some (.int .i64 o.1) ∧ w.cell? ⟨b, k + i * 3 + 1, none⟩ = some (.string o.2.1) ∧ w.cell? ⟨b, k + i * 3 + 2, none⟩ = some (.string o.2.2) ∧ (Lit.int .i64 o.1).wf = true ∧ o.2.1.size ≤ R ∧ o.2.2.size ≤ R := by
 obtain ⟨b, k, e, _, hc⟩ := h.ops.at_ (lt_get hi)
 have g := fun j (hj : j < 3) => flat_get aOp (sz := 3) (fun _ => rfl) hi (k := j) hj
 have z := h.opz o (List.mem_of_getElem? hi)
 exact ⟨b, k, e, hc _ _ (g 0 (by omega)), hc _ _ (g 1 (by omega)), hc _ _ (g 2 (by omega)), z.1, z.2.1, z.2.2⟩
def opI (o : OpP) : OpI := ((o.1 : Int), o.2.1, o.2.2)
def relI (x : RelP) : RelI := ⟨x.name, x.view, x.edit, x.check, x.subs, x.ops.map opI⟩
def typI (t : TypP) : TypI := ⟨t.name, t.rels.map relI⟩
structure SmI (R : Nat) (x : RelP) : Prop where
 name : x.name.size ≤ R
 view : x.view.size ≤ R
 edit : x.edit.size ≤ R
 check : x.check.size ≤ R
 subn : x.subs.length * 32 ≤ R
 subs : ∀ s ∈ x.subs, s.1.size ≤ R ∧ s.2.size ≤ R
 opn : x.ops.length * 40 ≤ R
 ops : ∀ o ∈ x.ops, (Lit.int .i64 (o.1 : Nat)).wf = true ∧ o.2.1.size ≤ R ∧ o.2.2.size ≤ R
theorem rels_conv {w : World} {B R : Nat} : ∀ (l : List RelP) (xs : List Value), RelsC w B l xs → (∀ x ∈ l, SmI R x) → ∃ k : List RelA, xs = k.flatMap RelA.cells ∧ k.map RelA.says = l.map relI ∧ ∀ a ∈ k, a.ok w R
 | [], xs, h, _ => by
  have e : xs = [] := h
  exact ⟨[], e, rfl, fun a ha => by cases ha⟩
 | x :: l, xs, h, hz => by
  obtain ⟨ys, zs, rfl, ⟨vs, vo, rfl, hs, ho⟩, hr⟩ := h
  obtain ⟨k, rfl, hk, hok⟩ := rels_conv l zs hr fun y hy => hz y (List.mem_cons_of_mem _ hy)
  obtain ⟨As, cs, rfl, rs⟩ := Rd.own hs
  obtain ⟨Ao, co, rfl, ro⟩ := Rd.own ho
  have z := hz x List.mem_cons_self
  have e1 : scells x.subs = x.subs.flatMap aSub := rfl
  have e2 : ocells x.ops = (x.ops.map opI).flatMap aOp := by
   rw [List.flatMap_map]
   rfl
  refine ⟨⟨x.name, x.view, x.edit, x.check, As, cs, x.subs, Ao, co, x.ops.map opI⟩ :: k, ?_, ?_, fun a ha => ?_⟩
  · rw [List.flatMap_cons]
    show _ = [Value.string x.name, .string x.view, .string x.edit, .string x.check, .slice As x.subs.length cs, .slice Ao (x.ops.map opI).length co] ++ _
    rw [List.length_map]
  · rw [List.map_cons, List.map_cons, hk]
    rfl
  · rcases List.mem_cons.1 ha with rfl | ha
    · refine ⟨z.name, z.view, z.edit, z.check, rs, z.subn, z.subs, ?_, by show (x.ops.map opI).length * 40 ≤ R; rw [List.length_map]; exact z.opn, fun o ho => ?_⟩
      · show Rd w w.heap.size 3 Ao (x.ops.map opI).length co ((x.ops.map opI).flatMap aOp)
        rw [List.length_map, ← e2]
        exact ro
      · obtain ⟨p, hp, rfl⟩ := List.mem_map.1 ho
        exact z.ops p hp
    · exact hok a ha
theorem types_conv {w : World} {B R : Nat} : ∀ (l : List TypP) (xs : List Value), TypsC w B l xs → (∀ t ∈ l, t.name.size ≤ R ∧ t.rels.length * 112 ≤ R ∧ ∀ x ∈ t.rels, SmI R x) → ∃ k : List TypA, xs = k.flatMap TypA.cells ∧ k.map TypA.says = l.map typI ∧ ∀ a ∈ k, a.ok w R
 | [], xs, h, _ => by
  have e : xs = [] := h
  exact ⟨[], e, rfl, fun a ha => by cases ha⟩
 | t :: l, xs, h, hz => by
  obtain ⟨ys, zs, rfl, ⟨vr, rfl, ws, hrow, hrc⟩, hr⟩ := h
  obtain ⟨k, rfl, hk, hok⟩ := types_conv l zs hr fun y hy => hz y (List.mem_cons_of_mem _ hy)
  have z := hz t List.mem_cons_self
  obtain ⟨m, rfl, hm, hmo⟩ := rels_conv t.rels ws hrc z.2.2
  obtain ⟨A, c, rfl, rr⟩ := Rd.own hrow
  have hl : m.length = t.rels.length := by have := congrArg List.length hm; rwa [List.length_map, List.length_map] at this
  refine ⟨⟨t.name, A, c, m⟩ :: k, ?_, ?_, fun a ha => ?_⟩
  · rw [List.flatMap_cons]
    show _ = [Value.string t.name, .slice A m.length c] ++ _
    rw [hl]
  · rw [List.map_cons, List.map_cons, hk]
    show TypI.mk t.name (m.map RelA.says) :: _ = _
    rw [hm]
    rfl
  · rcases List.mem_cons.1 ha with rfl | ha
    · exact ⟨z.1, by show Rd w w.heap.size 6 A m.length c _; rw [hl]; exact rr, by show m.length * 112 ≤ R; rw [hl]; exact z.2.1, hmo⟩
    · exact hok a ha
theorem VTyps.sch {w : World} {B R : Nat} {A : Option Addr} {c : Nat} {T : List TypP} (h : VTyps B w (.slice A T.length c) T) (hn : T.length * 40 ≤ R) (hz : ∀ t ∈ T, t.name.size ≤ R ∧ t.rels.length * 112 ≤ R ∧ ∀ x ∈ t.rels, SmI R x) : ∃ l : List TypA, l.map TypA.says = T.map typI ∧ SchA w R A c l := by
 obtain ⟨xs, h1, h2⟩ := h
 obtain ⟨l, rfl, hs, ho⟩ := types_conv T xs h2 hz
 obtain ⟨A2, c2, e, rd⟩ := Rd.own h1
 injection e with ea _ ec
 subst ea
 subst ec
 have hl : l.length = T.length := by have := congrArg List.length hs; rwa [List.length_map, List.length_map] at this
 exact ⟨l, hs, by rw [hl]; exact rd, by rw [hl]; exact hn, ho⟩
def aocells (l : List OpI) : List Value := l.flatMap aOp
theorem aocells_at (l : List OpI) (i : Nat) (o : OpI) (h : l[i]? = some o) : (aocells l)[i * 3]? = some (.int .i64 o.1) ∧ (aocells l)[i * 3 + 1]? = some (.string o.2.1) ∧ (aocells l)[i * 3 + 2]? = some (.string o.2.2) := by
 have g := fun j (hj : j < 3) => flat_get aOp (sz := 3) (fun _ => rfl) h (k := j) hj
 exact ⟨g 0 (by omega), g 1 (by omega), g 2 (by omega)⟩
def DVOps (B : Nat) (w : World) (v : Value) (o : List OpI) : Prop := w.ownsRow B 60 3 v o.length (aocells o)
def DVSubs (B : Nat) (w : World) (v : Value) (s : List SubP) : Prop := w.ownsRow B 64 2 v s.length (scells s)
def DRelC (w : World) (B : Nat) (ys : List Value) (x : RelI) : Prop := ∃ vs vo, ys = [.string x.name, .string x.view, .string x.edit, .string x.check, vs, vo] ∧ DVSubs B w vs x.subs ∧ DVOps B w vo x.ops
def DRelsC (w : World) (B : Nat) : List RelI → List Value → Prop
 | [], xs => xs = []
 | x :: r, xs => ∃ ys zs, xs = ys ++ zs ∧ DRelC w B ys x ∧ DRelsC w B r zs
def DKeeps (w w' : World) (B : Nat) : Prop := (∀ v n xs, w.ownsRow B 64 2 v n xs → w'.ownsRow B 64 2 v n xs) ∧ (∀ v n xs, w.ownsRow B 60 3 v n xs → w'.ownsRow B 60 3 v n xs)
theorem DRelC.keep {w w' : World} {B : Nat} {ys : List Value} {x : RelI} (h : DRelC w B ys x) (hk : DKeeps w w' B) : DRelC w' B ys x := by
 obtain ⟨vs, vo, e, h1, h2⟩ := h
 exact ⟨vs, vo, e, hk.1 _ _ _ h1, hk.2 _ _ _ h2⟩
theorem DRelsC.keep {w w' : World} {B : Nat} (hk : DKeeps w w' B) : ∀ {l : List RelI} {xs : List Value}, DRelsC w B l xs → DRelsC w' B l xs
 | [], _, h => h
 | _ :: _, _, h => by
  obtain ⟨ys, zs, e, h1, h2⟩ := h
  exact ⟨ys, zs, e, h1.keep hk, DRelsC.keep hk h2⟩
theorem DRelsC.snoc {w : World} {B : Nat} {y : RelI} {ws : List Value} (hy : DRelC w B ws y) : ∀ {l : List RelI} {xs : List Value}, DRelsC w B l xs → DRelsC w B (l ++ [y]) (xs ++ ws)
 | [], xs, h => by
  have : xs = [] := h
  subst this
  exact ⟨ws, [], by simp, hy, rfl⟩
 | x :: r, xs, h => by
  obtain ⟨ys, zs, e, h1, h2⟩ := h
  exact ⟨ys, zs ++ ws, by rw [e, List.append_assoc], h1, DRelsC.snoc hy h2⟩
def DVRels (B : Nat) (w : World) (v : Value) (l : List RelI) : Prop := ∃ xs, w.ownsRow B 48 6 v l.length xs ∧ DRelsC w B l xs
theorem DKeeps.base {w : World} {B B' : Nat} (h : B' ≤ B) {l : List RelI} {xs : List Value} : DRelsC w B l xs → DRelsC w B' l xs := by
 intro hr
 induction l generalizing xs with
 | nil => exact hr
 | cons x r ih =>
  obtain ⟨ys, zs, e, ⟨vs, vo, e2, h1, h2⟩, h3⟩ := hr
  exact ⟨ys, zs, e, ⟨vs, vo, e2, own_base h1 h, own_base h2 h⟩, ih h3⟩
def DTypC (w : World) (B : Nat) (ys : List Value) (t : TypI) : Prop := ∃ vr, ys = [.string t.name, vr] ∧ DVRels B w vr t.rels
def DTypsC (w : World) (B : Nat) : List TypI → List Value → Prop
 | [], xs => xs = []
 | x :: r, xs => ∃ ys zs, xs = ys ++ zs ∧ DTypC w B ys x ∧ DTypsC w B r zs
def DKeeps3 (w w' : World) (B : Nat) : Prop := DKeeps w w' B ∧ ∀ v n xs, w.ownsRow B 48 6 v n xs → w'.ownsRow B 48 6 v n xs
theorem DVRels.keep {w w' : World} {B : Nat} (hk : DKeeps3 w w' B) {v : Value} {l : List RelI} (h : DVRels B w v l) : DVRels B w' v l := by
 obtain ⟨xs, h1, h2⟩ := h
 exact ⟨xs, hk.2 _ _ _ h1, h2.keep hk.1⟩
theorem DTypsC.keep {w w' : World} {B : Nat} (hk : DKeeps3 w w' B) : ∀ {l : List TypI} {xs : List Value}, DTypsC w B l xs → DTypsC w' B l xs
 | [], _, h => h
 | _ :: _, _, h => by
  obtain ⟨ys, zs, e, ⟨vr, e2, h1⟩, h2⟩ := h
  exact ⟨ys, zs, e, ⟨vr, e2, h1.keep hk⟩, DTypsC.keep hk h2⟩
theorem DTypsC.snoc {w : World} {B : Nat} {y : TypI} {ws : List Value} (hy : DTypC w B ws y) : ∀ {l : List TypI} {xs : List Value}, DTypsC w B l xs → DTypsC w B (l ++ [y]) (xs ++ ws)
 | [], xs, h => by
  have : xs = [] := h
  subst this
  exact ⟨ws, [], by simp, hy, rfl⟩
 | x :: r, xs, h => by
  obtain ⟨ys, zs, e, h1, h2⟩ := h
  exact ⟨ys, zs ++ ws, by rw [e, List.append_assoc], h1, DTypsC.snoc hy h2⟩
theorem DVRels.base {w : World} {B B' : Nat} (h : B' ≤ B) {v : Value} {l : List RelI} (hr : DVRels B w v l) : DVRels B' w v l := by
 obtain ⟨xs, h1, h2⟩ := hr
 exact ⟨xs, own_base h1 h, DKeeps.base h h2⟩
theorem DTypsC.base {w : World} {B B' : Nat} (h : B' ≤ B) : ∀ {l : List TypI} {xs : List Value}, DTypsC w B l xs → DTypsC w B' l xs
 | [], _, h => h
 | _ :: _, _, hr => by
  obtain ⟨ys, zs, e, ⟨vr, e2, h1⟩, h2⟩ := hr
  exact ⟨ys, zs, e, ⟨vr, e2, h1.base h⟩, DTypsC.base h h2⟩
def DVTyps (B : Nat) (w : World) (v : Value) (l : List TypI) : Prop := ∃ xs, w.ownsRow B 115 2 v l.length xs ∧ DTypsC w B l xs
theorem dkeeps3_below {B : Nat} {w w' : World} (hk : Below w.heap.size w w') : DKeeps3 w w' B := ⟨⟨fun _ _ _ h => own_below h hk, fun _ _ _ h => own_below h hk⟩, fun _ _ _ h => own_below h hk⟩
theorem DTypsC.get {w : World} {B : Nat} : ∀ {l : List TypI} {xs : List Value} {i : Nat} {t : TypI}, DTypsC w B l xs → l[i]? = some t → ∃ vr, DVRels B w vr t.rels ∧ xs[i * 2]? = some (.string t.name) ∧ xs[i * 2 + 1]? = some vr
 | [], _, _, _, _, h => by simp at h
 | x :: r, xs, 0, t, h, hi => by
  simp only [List.getElem?_cons_zero, Option.some.injEq] at hi
  subst hi
  obtain ⟨ys, zs, rfl, ⟨vr, rfl, h1⟩, _⟩ := h
  exact ⟨vr, h1, rfl, rfl⟩
 | x :: r, xs, i + 1, t, h, hi => by
  simp only [List.getElem?_cons_succ] at hi
  obtain ⟨ys, zs, rfl, ⟨vr, rfl, _⟩, h2⟩ := h
  obtain ⟨v2, a, b, c⟩ := DTypsC.get h2 hi
  refine ⟨v2, a, ?_, ?_⟩
  · rw [List.getElem?_append_right (by simp; omega), ← b]
    congr 1
    simp
    omega
  · rw [List.getElem?_append_right (by simp; omega), ← c]
    congr 1
    simp
    omega
theorem DRelsC.get {w : World} {B : Nat} : ∀ {l : List RelI} {xs : List Value} {i : Nat} {x : RelI}, DRelsC w B l xs → l[i]? = some x → ∃ vs vo, DVSubs B w vs x.subs ∧ DVOps B w vo x.ops ∧ xs[i * 6]? = some (.string x.name) ∧ xs[i * 6 + 1]? = some (.string x.view) ∧ xs[i * 6 + 2]? = some (.string x.edit) ∧ xs[i * 6 + 3]? = some (.string x.check) ∧ xs[i * 6 + 4]? = some vs ∧ xs[i * 6 + 5]? = some vo
 | [], _, _, _, _, h => by simp at h
 | y :: r, xs, 0, x, h, hi => by
  simp only [List.getElem?_cons_zero, Option.some.injEq] at hi
  subst hi
  obtain ⟨ys, zs, rfl, ⟨vs, vo, rfl, h1, h2⟩, _⟩ := h
  exact ⟨vs, vo, h1, h2, rfl, rfl, rfl, rfl, rfl, rfl⟩
 | y :: r, xs, i + 1, x, h, hi => by
  simp only [List.getElem?_cons_succ] at hi
  obtain ⟨ys, zs, rfl, ⟨vs, vo, rfl, _, _⟩, h2⟩ := h
  obtain ⟨v2, v3, a1, a2, b0, b1, b2, b3, b4, b5⟩ := DRelsC.get h2 hi
  have key : ∀ (k : Nat) (u : Value), zs[i * 6 + k]? = some u → ([.string y.name, .string y.view, .string y.edit, .string y.check, vs, vo] ++ zs)[(i + 1) * 6 + k]? = some u := fun k u hk => by
   rw [List.getElem?_append_right (by simp; omega), ← hk]
   congr 1
   simp
   omega
  exact ⟨v2, v3, a1, a2, key 0 _ b0, key 1 _ b1, key 2 _ b2, key 3 _ b3, key 4 _ b4, key 5 _ b5⟩
theorem DVTyps.get {w : World} {B : Nat} {v : Value} {l : List TypI} (h : DVTyps B w v l) {i : Nat} {t : TypI} (hi : l[i]? = some t) :
 ∃ g c vr, v = .slice (some ⟨g, 0, none⟩) l.length c ∧ DVRels B w vr t.rels ∧ w.cell? ⟨g, i * 2, none⟩ = some (.string t.name) ∧ w.cell? ⟨g, i * 2 + 1, none⟩ = some vr := by
 obtain ⟨xs, h1, h2⟩ := h
 have hl : i < l.length := (List.getElem?_eq_some_iff.1 hi).1
 obtain ⟨vr, hr, a, b⟩ := h2.get hi
 obtain ⟨g, c, e, _, _, hc⟩ := own_at h1 (by omega)
 exact ⟨g, c, vr, e, hr, hc _ _ a, hc _ _ b⟩
theorem DVRels.get {w : World} {B : Nat} {v : Value} {l : List RelI} (h : DVRels B w v l) {i : Nat} {x : RelI} (hi : l[i]? = some x) :
 ∃ g c vs vo, v = .slice (some ⟨g, 0, none⟩) l.length c ∧ DVSubs B w vs x.subs ∧ DVOps B w vo x.ops ∧ w.cell? ⟨g, i * 6, none⟩ = some (.string x.name) ∧ w.cell? ⟨g, i * 6 + 1, none⟩ = some (.string x.view) ∧ w.cell? ⟨g, i * 6 + 2, none⟩ = some (.string x.edit) ∧ w.cell? ⟨g, i * 6 + 3, none⟩ = some (.string x.check) ∧ w.cell? ⟨g, i * 6 + 4, none⟩ = some vs ∧ w.cell? ⟨g, i * 6 + 5, none⟩ = some vo := by
 obtain ⟨xs, h1, h2⟩ := h
 have hl : i < l.length := (List.getElem?_eq_some_iff.1 hi).1
 obtain ⟨vs, vo, hs, ho, b0, b1, b2, b3, b4, b5⟩ := h2.get hi
 obtain ⟨g, c, e, _, _, hc⟩ := own_at h1 (by omega)
 exact ⟨g, c, vs, vo, e, hs, ho, hc _ _ b0, hc _ _ b1, hc _ _ b2, hc _ _ b3, hc _ _ b4, hc _ _ b5⟩
theorem DVOps.get {w : World} {B : Nat} {v : Value} {l : List OpI} (h : DVOps B w v l) {i : Nat} {o : OpI} (hi : l[i]? = some o) :
 ∃ g c, v = .slice (some ⟨g, 0, none⟩) l.length c ∧ w.cell? ⟨g, i * 3, none⟩ = some (.int .i64 o.1) ∧ w.cell? ⟨g, i * 3 + 1, none⟩ = some (.string o.2.1) ∧ w.cell? ⟨g, i * 3 + 2, none⟩ = some (.string o.2.2) := by
 have hl : i < l.length := (List.getElem?_eq_some_iff.1 hi).1
 obtain ⟨b0, b1, b2⟩ := aocells_at l i o hi
 obtain ⟨g, c, e, _, _, hc⟩ := own_at h (by omega)
 exact ⟨g, c, e, hc _ _ b0, hc _ _ b1, hc _ _ b2⟩
theorem DVSubs.get {w : World} {B : Nat} {v : Value} {l : List SubP} (h : DVSubs B w v l) {i : Nat} {o : SubP} (hi : l[i]? = some o) :
 ∃ g c, v = .slice (some ⟨g, 0, none⟩) l.length c ∧ w.cell? ⟨g, i * 2, none⟩ = some (.string o.1) ∧ w.cell? ⟨g, i * 2 + 1, none⟩ = some (.string o.2) := by
 have hl : i < l.length := (List.getElem?_eq_some_iff.1 hi).1
 obtain ⟨b0, b1⟩ := scells_at l i o hi
 obtain ⟨g, c, e, _, _, hc⟩ := own_at h (by omega)
 exact ⟨g, c, e, hc _ _ b0, hc _ _ b1⟩
theorem DVTyps.below {w w' : World} {B : Nat} {v : Value} {l : List TypI} (h : DVTyps B w v l) (hb : Below w.heap.size w w') : DVTyps B w' v l := by
 obtain ⟨xs, h1, h2⟩ := h
 exact ⟨xs, own_below h1 hb, h2.keep (dkeeps3_below hb)⟩
theorem take_snoc {α : Type} {l : List α} {i : Nat} {x : α} (h : l[i]? = some x) : l.take (i + 1) = l.take i ++ [x] := by
 rw [List.take_add_one, h]
 rfl
theorem cell_under {w w' : World} {a : Addr} {v : Value} (h : w.cell? a = some v) (hb : Below w.heap.size w w') : w'.cell? a = some v := (hb.cell (World.block_lt_of_cell? _ _ h)).trans h
theorem cells_new3 (w : World) (a b c : Value) (t : TypeId) : ∀ j u, [a, b, c][j]? = some u → (w.alloc (.cells #[a, b, c] t)).cell? ((⟨w.heap.size, 0, none⟩ : Addr).add j) = some u := by
 intro j u hj
 rw [Addr.add_lit, cell_of_row _ _ _ _ _ _ (heap_alloc_new w _), Nat.zero_add]
 simpa using hj
theorem Bk.new2 (w : World) (o : Obj) (cs : Array Value) (t : TypeId) : Bk ((w.alloc o).alloc (.cells cs t)) (w.heap.size + 1) cs t := by
 have h := Bk.new (w.alloc o) cs t
 rw [show (w.alloc o).heap.size = w.heap.size + 1 by simp] at h
 exact h
end Go.Proofs.YtahegpfdbgbioaaGreat
namespace Go.Proofs.YtahegpfdbgbioaaGreat
open Go.RowKit
open Go.RowKit
open Go.RowKit
open Go.RowKit
def TypA.val (a : TypA) : Value := .agg #[.string a.name, .slice a.A a.rels.length a.c]
def RelA.val (a : RelA) : Value := .agg #[.string a.name, .string a.view, .string a.edit, .string a.check, .slice a.As a.subs.length a.cs, .slice a.Ao a.ops.length a.co]
def noT : TypA := ⟨⟨#[]⟩, none, 0, []⟩
def noR : RelA := ⟨⟨#[]⟩, ⟨#[]⟩, ⟨#[]⟩, ⟨#[]⟩, none, 0, [], none, 0, []⟩
def firstA (l : List TypA) (n : ByteArray) : Option TypA := l.find? fun t => decide (t.name = n)
def firstRA (t : TypA) (n : ByteArray) : Option RelA := t.rels.find? fun r => decide (r.name = n)
theorem find_at {α : Type} {p : α → Bool} : ∀ {l : List α} {i : Nat} {a : α}, l[i]? = some a → (∀ x ∈ l.take i, p x = false) → p a = true → l.find? p = some a
 | [], _, _, h, _, _ => by simp at h
 | x :: r, 0, a, h, _, hp => by
  simp only [List.getElem?_cons_zero, Option.some.injEq] at h
  subst h
  rw [List.find?_cons, hp]
 | x :: r, i + 1, a, h, hn, hp => by
  rw [List.take_succ_cons] at hn
  rw [List.find?_cons, hn x List.mem_cons_self]
  exact find_at (by simpa using h) (fun y hy => hn y (List.mem_cons_of_mem _ hy)) hp
theorem find_none {α : Type} {p : α → Bool} {l : List α} (h : ∀ x ∈ l, p x = false) : l.find? p = none := List.find?_eq_none.2 fun x hx => by rw [h x hx]; decide
theorem take_all {α : Type} {p : α → Bool} {l : List α} {i : Nat} {a : α} (hi : l[i]? = some a) (hn : ∀ x ∈ l.take i, p x = false) (hp : p a = false) : ∀ x ∈ l.take (i + 1), p x = false := by
 intro x hx
 rw [List.take_add_one, hi] at hx
 rcases List.mem_append.1 hx with h | h
 · exact hn x h
 · simp at h; subst h; exact hp
theorem Bk.c6 {w : World} {b : Nat} {t : TypeId} {x0 x1 x2 x3 x4 x5 : Value} (h : Bk w b #[x0, x1, x2, x3, x4, x5] t) : w.cell? ⟨b, 0, none⟩ = some x0 ∧ w.cell? ⟨b, 1, none⟩ = some x1 ∧ w.cell? ⟨b, 2, none⟩ = some x2 ∧ w.cell? ⟨b, 3, none⟩ = some x3 ∧ w.cell? ⟨b, 4, none⟩ = some x4 ∧ w.cell? ⟨b, 5, none⟩ = some x5 := ⟨h.cell 0, h.cell 1, h.cell 2, h.cell 3, h.cell 4, h.cell 5⟩
theorem typeOf_any {w : World} {R : Nat} {A : Option Addr} {c : Nat} {l : List TypA} (h : SchA w R A c l) (n : ByteArray) :
 Calls Tryz.prog 170 #[.agg #[.slice A l.length c], .string n] w fun e w' => e = .returned (.tuple #[((firstA l n).getD noT).val, .bool (firstA l n).isSome]) ∧ Below w.heap.size w w' := by
 have hl : (l.length : Int) ≤ 9223372036854775807 := by have := h.rows.cap; have := h.rows.capm; simp only [maxLen] at this; omega
 go_enter Tryz.func170, Tryz.ntmps170
 go_wp2_with fail
 have hb0 := Bk.new w #[.slice A l.length c] 92
 have hz0 := Bk.new2 w (.cells #[.slice A l.length c] 92) #[.string ⟨#[]⟩, .slice none 0 0] 146
 have hB0 : Below w.heap.size w ((w.alloc (.cells #[.slice A l.length c] 92)).alloc (.cells #[.string ⟨#[]⟩, .slice none 0 0] 146)) := ((Below.refl _ w).alloc (Nat.le_refl _) _).alloc (size_alloc (Nat.le_refl _)) _
 have h0 := h.up hB0
 generalize (w.alloc (.cells #[.slice A l.length c] 92)).alloc (.cells #[.string ⟨#[]⟩, .slice none 0 0] 146) = w0 at *
 go_loopw [11] (fun vi wx => ∃ i : Nat, vi = .int .i64 i ∧ i ≤ l.length ∧ (∀ t ∈ l.take i, decide (t.name = n) = false) ∧ Below w0.heap.size w0 wx) (fun vi _ => l.length - (intOf vi).toNat)
 case atStart => exact ⟨0, rfl, Nat.zero_le _, fun t ht => (by simp at ht), Below.refl _ _⟩
 case round =>
  obtain ⟨i, rfl, hi, hn, hbx⟩ := hrel
  have hlz := hz0.lt
  by_cases hil : i < l.length
  · have hdi : (i : Int) < (l.length : Nat) := by omega
    obtain ⟨t, ht⟩ : ∃ t, l[i]? = some t := ⟨l[i], List.getElem?_eq_getElem hil⟩
    obtain ⟨g, o, rfl, g0, g1, hk⟩ := (h0.up hbx).get ht
    have lg := World.block_lt_of_cell? _ _ g0
    dsimp only at lg
    have hzx := hz0.below hbx
    obtain ⟨z0, z1⟩ := hzx.c2
    have zf := hzx.fz
    have zl := hzx.lt
    have zn1 : ¬ w.heap.size + 1 = wr.heap.size := by omega
    have zn2 : ¬ wr.heap.size = w.heap.size + 1 := by omega
    have hq := list_dec t.name n
    cases hd : decide (t.name = n) with
    | false =>
     rw [hd] at hq
     go_wp2
     refine ⟨⟨i + 1, by go_num, by omega, take_all ht hn hd, hbx.alloc hbx.size _⟩, ?_⟩
     simp [intOf]; omega
    | true =>
     rw [hd] at hq
     have hf : firstA l n = some t := find_at ht hn hd
     go_wp2
     have hw := ((hzx.set 0 (.string t.name)).set 1 (.slice t.A t.rels.length t.c)).alloc (.cells #[.string t.name, .slice t.A t.rels.length t.c] 146)
     obtain ⟨y0, y1⟩ := Bk.c2 hw
     refine bodyPost_ret (v := .tuple #[t.val, .bool true]) (by simp [results, Tryz.results170, go_sem, y0, y1]; try rfl) rfl ?_
     rw [hf]
     exact ⟨rfl, (((hB0.trans (hbx.mono hB0.size)).setCell (Nat.le_succ _) _).setCell (Nat.le_succ _) _).alloc (by simp; exact (hB0.trans (hbx.mono hB0.size)).size) _⟩
  · have hdi : ¬ ((i : Int) < (l.length : Nat)) := by omega
    obtain rfl : i = l.length := by omega
    rw [List.take_length] at hn
    have hf : firstA l n = none := find_none hn
    have hzx := hz0.below hbx
    obtain ⟨z0, z1⟩ := hzx.c2
    have zf := hzx.fz
    go_wp2
    have hw := (hzx.set 0 (.string ⟨#[]⟩)).set 1 (.slice none 0 0)
    obtain ⟨y0, y1⟩ := Bk.c2 hw
    refine bodyPost_ret (v := .tuple #[noT.val, .bool false]) (by simp [results, Tryz.results170, go_sem, y0, y1]; try rfl) rfl ?_
    exact ⟨rfl, ((hB0.trans (hbx.mono hB0.size)).setCell (Nat.le_succ _) _).setCell (Nat.le_succ _) _⟩
theorem relOf_any {w : World} {R : Nat} {q : TypA} (h : q.ok w R) (n : ByteArray) :
 Calls Tryz.prog 171 #[.agg #[.string q.name, .slice q.A q.rels.length q.c], .string n] w fun e w' => e = .returned (.tuple #[((firstRA q n).getD noR).val, .bool (firstRA q n).isSome]) ∧ Below w.heap.size w w' := by
 have hl : (q.rels.length : Int) ≤ 9223372036854775807 := by have := h.rels.cap; have := h.rels.capm; simp only [maxLen] at this; omega
 go_enter Tryz.func171, Tryz.ntmps171
 go_wp2_with fail
 have hb0 := Bk.new w #[.string q.name, .slice q.A q.rels.length q.c] 146
 have hz0 := Bk.new2 w (.cells #[.string q.name, .slice q.A q.rels.length q.c] 146) #[.string ⟨#[]⟩, .string ⟨#[]⟩, .string ⟨#[]⟩, .string ⟨#[]⟩, .slice none 0 0, .slice none 0 0] 149
 have hB0 : Below w.heap.size w ((w.alloc (.cells #[.string q.name, .slice q.A q.rels.length q.c] 146)).alloc (.cells #[.string ⟨#[]⟩, .string ⟨#[]⟩, .string ⟨#[]⟩, .string ⟨#[]⟩, .slice none 0 0, .slice none 0 0] 149)) := ((Below.refl _ w).alloc (Nat.le_refl _) _).alloc (size_alloc (Nat.le_refl _)) _
 have h0 := h.up hB0
 generalize (w.alloc (.cells #[.string q.name, .slice q.A q.rels.length q.c] 146)).alloc (.cells #[.string ⟨#[]⟩, .string ⟨#[]⟩, .string ⟨#[]⟩, .string ⟨#[]⟩, .slice none 0 0, .slice none 0 0] 149) = w0 at *
 go_loopw [11] (fun vi wx => ∃ i : Nat, vi = .int .i64 i ∧ i ≤ q.rels.length ∧ (∀ t ∈ q.rels.take i, decide (t.name = n) = false) ∧ Below w0.heap.size w0 wx) (fun vi _ => q.rels.length - (intOf vi).toNat)
 case atStart => exact ⟨0, rfl, Nat.zero_le _, fun t ht => (by simp at ht), Below.refl _ _⟩
 case round =>
  obtain ⟨i, rfl, hi, hn, hbx⟩ := hrel
  have hlz := hz0.lt
  by_cases hil : i < q.rels.length
  · have hdi : (i : Int) < (q.rels.length : Nat) := by omega
    obtain ⟨t, ht⟩ : ∃ t, q.rels[i]? = some t := ⟨q.rels[i], List.getElem?_eq_getElem hil⟩
    obtain ⟨g, o, eA, g0, g1, g2, g3, g4, g5, hk⟩ := (h0.up hbx).get ht
    have lg := World.block_lt_of_cell? _ _ g0
    dsimp only at lg
    have hzx := hz0.below hbx
    obtain ⟨z0, z1, z2, z3, z4, z5⟩ := hzx.c6
    have zf := hzx.fz
    have zl := hzx.lt
    have zn1 : ¬ w.heap.size + 1 = wr.heap.size := by omega
    have zn2 : ¬ wr.heap.size = w.heap.size + 1 := by omega
    have hq := list_dec t.name n
    cases hd : decide (t.name = n) with
    | false =>
     rw [hd] at hq
     go_wp2
     refine ⟨⟨i + 1, by go_num, by omega, take_all ht hn hd, hbx.alloc hbx.size _⟩, ?_⟩
     simp [intOf]; omega
    | true =>
     rw [hd] at hq
     have hf : firstRA q n = some t := find_at ht hn hd
     go_upto_region 5 with (fail)
     replace hzx := hzx.alloc (.cells #[.string t.name, .string t.view, .string t.edit, .string t.check, .slice t.As t.subs.length t.cs, .slice t.Ao t.ops.length t.co] 149)
     have hTx := Bk.new wr #[.string t.name, .string t.view, .string t.edit, .string t.check, .slice t.As t.subs.length t.cs, .slice t.Ao t.ops.length t.co] 149
     have hbx' := hbx.alloc hbx.size (.cells #[.string t.name, .string t.view, .string t.edit, .string t.check, .slice t.As t.subs.length t.cs, .slice t.Ao t.ops.length t.co] 149)
     clear z0 z1 z2 z3 z4 z5 zf zl
     generalize wr.alloc (.cells #[.string t.name, .string t.view, .string t.edit, .string t.check, .slice t.As t.subs.length t.cs, .slice t.Ao t.ops.length t.co] 149) = wy at *
     obtain ⟨z0, z1, z2, z3, z4, z5⟩ := hzx.c6
     have zf := hzx.fz
     have zl := hzx.lt
     obtain ⟨x0, x1, x2, x3, x4, x5⟩ := hTx.c6
     go_wp2
     have hw := (((((hzx.set 0 (.string t.name)).set 1 (.string t.view)).set 2 (.string t.edit)).set 3 (.string t.check)).set 4 (.slice t.As t.subs.length t.cs)).set 5 (.slice t.Ao t.ops.length t.co)
     obtain ⟨y0, y1, y2, y3, y4, y5⟩ := Bk.c6 hw
     refine bodyPost_ret (v := .tuple #[t.val, .bool true]) (by simp [results, Tryz.results171, go_sem, y0, y1, y2, y3, y4, y5]; try rfl) rfl ?_
     rw [hf]
     exact ⟨rfl, ((((((hB0.trans (hbx'.mono hB0.size)).setCell (Nat.le_succ _) _).setCell (Nat.le_succ _) _).setCell (Nat.le_succ _) _).setCell (Nat.le_succ _) _).setCell (Nat.le_succ _) _).setCell (Nat.le_succ _) _⟩
  · have hdi : ¬ ((i : Int) < (q.rels.length : Nat)) := by omega
    obtain rfl : i = q.rels.length := by omega
    rw [List.take_length] at hn
    have hf : firstRA q n = none := find_none hn
    have hzx := hz0.below hbx
    obtain ⟨z0, z1, z2, z3, z4, z5⟩ := hzx.c6
    have zf := hzx.fz
    go_wp2
    have hw := (((((hzx.set 0 (.string ⟨#[]⟩)).set 1 (.string ⟨#[]⟩)).set 2 (.string ⟨#[]⟩)).set 3 (.string ⟨#[]⟩)).set 4 (.slice none 0 0)).set 5 (.slice none 0 0)
    obtain ⟨y0, y1, y2, y3, y4, y5⟩ := Bk.c6 hw
    refine bodyPost_ret (v := .tuple #[noR.val, .bool false]) (by simp [results, Tryz.results171, go_sem, y0, y1, y2, y3, y4, y5]; try rfl) rfl ?_
    exact ⟨rfl, ((((((hB0.trans (hbx.mono hB0.size)).setCell (Nat.le_succ _) _).setCell (Nat.le_succ _) _).setCell (Nat.le_succ _) _).setCell (Nat.le_succ _) _).setCell (Nat.le_succ _) _).setCell (Nat.le_succ _) _⟩
section
variable {w : World} {R : Nat} {A : Option Addr} {c : Nat} {l : List TypA} {q : TypA} {n : ByteArray}
theorem relOf_none (h : q.ok w R) (hf : firstRA q n = none) : Calls Tryz.prog 171 #[.agg #[.string q.name, .slice q.A q.rels.length q.c], .string n] w fun e w' =>
 e = .returned (.tuple #[.agg #[.string ⟨#[]⟩, .string ⟨#[]⟩, .string ⟨#[]⟩, .string ⟨#[]⟩, .slice none 0 0, .slice none 0 0], .bool false]) ∧ Below w.heap.size w w' := by
 have k := relOf_any h n
 rw [hf] at k
 exact k
theorem relOf_some (h : q.ok w R) {r : RelA} (hf : firstRA q n = some r) : Calls Tryz.prog 171 #[.agg #[.string q.name, .slice q.A q.rels.length q.c], .string n] w fun e w' =>
 e = .returned (.tuple #[.agg #[.string r.name, .string r.view, .string r.edit, .string r.check, .slice r.As r.subs.length r.cs, .slice r.Ao r.ops.length r.co], .bool true]) ∧ Below w.heap.size w w' := by
 have k := relOf_any h n
 rw [hf] at k
 exact k
theorem typeOf_none (h : SchA w R A c l) (hf : firstA l n = none) : Calls Tryz.prog 170 #[.agg #[.slice A l.length c], .string n] w fun e w' =>
 e = .returned (.tuple #[.agg #[.string ⟨#[]⟩, .slice none 0 0], .bool false]) ∧ Below w.heap.size w w' := by
 have k := typeOf_any h n
 rw [hf] at k
 exact k
theorem typeOf_some (h : SchA w R A c l) {t : TypA} (hf : firstA l n = some t) : Calls Tryz.prog 170 #[.agg #[.slice A l.length c], .string n] w fun e w' =>
 e = .returned (.tuple #[.agg #[.string t.name, .slice t.A t.rels.length t.c], .bool true]) ∧ Below w.heap.size w w' := by
 have k := typeOf_any h n
 rw [hf] at k
 exact k
end
theorem firstRA_says (q : TypA) (n : ByteArray) : firstR q.says n = (firstRA q n).map RelA.says := by
 show (q.rels.map RelA.says).find? _ = _
 rw [List.find?_map]
 rfl
theorem firstA_says (l : List TypA) (n : ByteArray) : firstT (l.map TypA.says) n = (firstA l n).map TypA.says := by
 show (l.map TypA.says).find? _ = _
 rw [List.find?_map]
 rfl
theorem hasR_says (q : TypA) (n : ByteArray) : hasR q.says n = (firstRA q n).isSome := by unfold hasR; rw [firstRA_says, Option.isSome_map]
theorem hasT_says (l : List TypA) (n : ByteArray) : hasT (l.map TypA.says) n = (firstA l n).isSome := by unfold hasT; rw [firstA_says, Option.isSome_map]
theorem hasI_says (l : List TypA) (ty re : ByteArray) : hasI (l.map TypA.says) ty re = (match firstA l ty with
 | none => false
 | some t => hasR t.says re) := by
 unfold hasI findI hasR
 rw [firstA_says]
 cases firstA l ty <;> rfl
theorem firstA_mem {l : List TypA} {n : ByteArray} {t : TypA} (h : firstA l n = some t) : t ∈ l := List.mem_of_find?_eq_some h
theorem firstRA_mem {q : TypA} {n : ByteArray} {r : RelA} (h : firstRA q n = some r) : r ∈ q.rels := List.mem_of_find?_eq_some h
theorem bthen {B : Nat} {w w1 w2 : World} (h : Below B w w1) (hB : B ≤ w1.heap.size) (k : Below w1.heap.size w1 w2) : Below B w w2 := h.trans (k.mono hB)
theorem bnew (w : World) (o : Obj) : Below w.heap.size w (w.alloc o) := (Below.refl _ w).alloc (Nat.le_refl _) o
theorem empty_dec (x : ByteArray) : x.toList.isEmpty = decide (x = ⟨#[]⟩) := by
 have h := list_dec x ⟨#[]⟩
 rw [← h, show (⟨#[]⟩ : ByteArray).toList = [] by decide +kernel]
 cases x.toList <;> rfl
theorem hasRel_any {w : World} {R : Nat} {q : TypA} (h : q.ok w R) (n : ByteArray) :
 Calls Tryz.prog 172 #[.agg #[.string q.name, .slice q.A q.rels.length q.c], .string n] w fun e w' => e = .returned (.bool (hasR q.says n)) ∧ Below w.heap.size w w' := by
 rw [hasR_says]
 cases hf : firstRA q n with
 | none =>
  go_enter Tryz.func172, Tryz.ntmps172
  go_wp2_with (refine (relOf_none (h.up (bnew w _)) hf).mono ?_; rintro e w1 ⟨rfl, hb1⟩)
  go_ret
  have hb := bthen (bnew w _) (size_alloc (Nat.le_refl _)) hb1
  exact ⟨rfl, hb.alloc hb.size _⟩
 | some r =>
  go_enter Tryz.func172, Tryz.ntmps172
  go_wp2_with (refine (relOf_some (h.up (bnew w _)) hf).mono ?_; rintro e w1 ⟨rfl, hb1⟩)
  go_ret
  have hb := bthen (bnew w _) (size_alloc (Nat.le_refl _)) hb1
  exact ⟨rfl, hb.alloc hb.size _⟩
theorem isThere_any {w : World} {R : Nat} {A : Option Addr} {c : Nat} {l : List TypA} (h : SchA w R A c l) (s : ByteArray × ByteArray) :
 Calls Tryz.prog 173 #[.agg #[.slice A l.length c], .agg #[.string s.1, .string s.2]] w fun e w' => e = .returned (.bool (subOk (l.map TypA.says) s)) ∧ Below w.heap.size w w' := by
 have hb0 : Below w.heap.size w ((w.alloc (.cells #[.slice A l.length c] 92)).alloc (.cells #[.string s.1, .string s.2] 126)) := (bnew w _).alloc (size_alloc (Nat.le_refl _)) _
 unfold subOk
 rw [hasT_says, hasI_says]
 cases hf : firstA l s.1 with
 | none =>
  go_enter Tryz.func173, Tryz.ntmps173
  go_wp2_with (with_reducible refine (typeOf_none (h.up hb0) hf).mono ?_; rintro e w1 ⟨rfl, hb1⟩)
  go_ret
  have hb := bthen hb0 hb0.size hb1
  exact ⟨rfl, hb.alloc hb.size _⟩
 | some t =>
  have he := empty_dec s.2
  have hs0 := Bk.new2 w (.cells #[.slice A l.length c] 92) #[.string s.1, .string s.2] 126
  cases hd : decide (s.2 = ⟨#[]⟩) with
  | true =>
   rw [hd] at he
   go_enter Tryz.func173, Tryz.ntmps173
   go_wp2_with (with_reducible refine (typeOf_some (h.up hb0) hf).mono ?_; rintro e w1 ⟨rfl, hb1⟩; have hs1 := hs0.below hb1; have l1 := hs1.lt; have y1 := hs1.c2.2)
   go_ret
   have hb := bthen hb0 hb0.size hb1
   exact ⟨rfl, hb.alloc hb.size _⟩
  | false =>
   rw [hd] at he
   go_enter Tryz.func173, Tryz.ntmps173
   go_wp2_with (with_reducible refine (typeOf_some (h.up hb0) hf).mono ?_; rintro e w1 ⟨rfl, hb1⟩; have hs1 := hs0.below hb1; have l1 := hs1.lt; have y1 := hs1.c2.2)
   have hb := bthen hb0 hb0.size hb1
   have hk := (h.each t (firstA_mem hf)).up (hb.alloc hb.size (.cells #[.string t.name, .slice t.A t.rels.length t.c] 146))
   go_wp2_with (with_reducible refine (hasRel_any hk _).mono ?_; rintro e w2 ⟨rfl, hb2⟩)
   go_ret
   have hb' := hb.alloc hb.size (.cells #[.string t.name, .slice t.A t.rels.length t.c] 146)
   exact ⟨rfl, bthen hb' hb'.size hb2⟩
theorem path_any {w : World} {q : TypA} {r : RelA} (h1 : q.name.size ≤ 140737488351232) (h2 : r.name.size ≤ 140737488351232) :
 Calls Tryz.prog 127 #[.agg #[.string q.name, .slice q.A q.rels.length q.c], .agg #[.string r.name, .string r.view, .string r.edit, .string r.check, .slice r.As r.subs.length r.cs, .slice r.Ao r.ops.length r.co]] w fun e w' =>
  e = .returned (.string (pathS q.says r.says)) ∧ Below w.heap.size w w' := by
 have e1 : pathS q.says r.says = q.name ++ ⟨#[46]⟩ ++ r.name := rfl
 rw [e1]
 have n1 : ¬ 9223372036854775807 < q.name.size + 1 := by omega
 have n2 : ¬ 9223372036854775807 < q.name.size + 1 + r.name.size := by omega
 go_enter Tryz.func127, Tryz.ntmps127
 go_wp2
 go_ret
 exact ⟨rfl, (bnew w _).alloc (size_alloc (Nat.le_refl _)) _⟩
def tyE (l : List TypA) (t : TypA) : Nat := if (firstA l t.name).isSome = true then 32 else if 12 < t.rels.length then 13 else 0
def reE (q : TypA) (r : RelA) : Nat := if (firstRA q r.name).isSome = true then 32 else if 16 < r.ops.length then 13 else 0
theorem typeFault_any {w : World} {R : Nat} {A : Option Addr} {c : Nat} {l : List TypA} {t : TypA} (h : SchA w R A c l) :
 Calls Tryz.prog 125 #[.slice A l.length c, .agg #[.string t.name, .slice t.A t.rels.length t.c]] w fun e w' =>
  e = .returned (.int .i64 (tyE l t : Nat)) ∧ Below w.heap.size w w' := by
 have hb0 := bnew w (.cells #[.string t.name, .slice t.A t.rels.length t.c] 146)
 have hs0 := Bk.new w #[.string t.name, .slice t.A t.rels.length t.c] 146
 cases hf : firstA l t.name with
 | some x =>
  have hE : tyE l t = 32 := by unfold tyE; rw [hf]; rfl
  rw [hE]
  go_enter Tryz.func125, Tryz.ntmps125
  go_wp2_with (with_reducible refine (typeOf_some (h.up hb0) hf).mono ?_; rintro e w1 ⟨rfl, hb1⟩)
  go_ret
  have hb := bthen hb0 hb0.size hb1
  exact ⟨rfl, hb.alloc hb.size _⟩
 | none =>
  by_cases hd : 12 < t.rels.length
  · have hE : tyE l t = 13 := by unfold tyE; rw [hf, if_neg (by decide), if_pos hd]
    rw [hE]
    have hdi : (12 : Int) < (t.rels.length : Nat) := by omega
    go_enter Tryz.func125, Tryz.ntmps125
    go_wp2_with (with_reducible refine (typeOf_none (h.up hb0) hf).mono ?_; rintro e w1 ⟨rfl, hb1⟩; have hs1 := hs0.below hb1; have l1 := hs1.lt; have y1 := hs1.c2.2)
    go_ret
    have hb := bthen hb0 hb0.size hb1
    exact ⟨rfl, hb.alloc hb.size _⟩
  · have hE : tyE l t = 0 := by unfold tyE; rw [hf, if_neg (by decide), if_neg hd]
    rw [hE]
    have hdi : ¬ (12 : Int) < (t.rels.length : Nat) := by omega
    go_enter Tryz.func125, Tryz.ntmps125
    go_wp2_with (with_reducible refine (typeOf_none (h.up hb0) hf).mono ?_; rintro e w1 ⟨rfl, hb1⟩; have hs1 := hs0.below hb1; have l1 := hs1.lt; have y1 := hs1.c2.2)
    go_ret
    have hb := bthen hb0 hb0.size hb1
    exact ⟨rfl, hb.alloc hb.size _⟩
theorem relFault_any {w : World} {R : Nat} {A : Option Addr} {c : Nat} {l : List RelA} {t : RelA} (h : TypA.ok w R ⟨⟨#[]⟩, A, c, l⟩) :
 Calls Tryz.prog 126 #[.slice A l.length c, .agg #[.string t.name, .string t.view, .string t.edit, .string t.check, .slice t.As t.subs.length t.cs, .slice t.Ao t.ops.length t.co]] w fun e w' =>
  e = .returned (.int .i64 (reE ⟨⟨#[]⟩, A, c, l⟩ t : Nat)) ∧ Below w.heap.size w w' := by
 have hb0 := bnew w (.cells #[.string t.name, .string t.view, .string t.edit, .string t.check, .slice t.As t.subs.length t.cs, .slice t.Ao t.ops.length t.co] 149)
 have hs0 := Bk.new w #[.string t.name, .string t.view, .string t.edit, .string t.check, .slice t.As t.subs.length t.cs, .slice t.Ao t.ops.length t.co] 149
 cases hf : firstRA ⟨⟨#[]⟩, A, c, l⟩ t.name with
 | some x =>
  have hE : reE ⟨⟨#[]⟩, A, c, l⟩ t = 32 := by unfold reE; rw [hf]; rfl
  rw [hE]
  go_enter Tryz.func126, Tryz.ntmps126
  go_wp2_with (with_reducible refine (relOf_some (h.up hb0) hf).mono ?_; rintro e w1 ⟨rfl, hb1⟩)
  go_ret
  have hb := bthen hb0 hb0.size hb1
  exact ⟨rfl, hb.alloc hb.size _⟩
 | none =>
  by_cases hd : 16 < t.ops.length
  · have hE : reE ⟨⟨#[]⟩, A, c, l⟩ t = 13 := by unfold reE; rw [hf, if_neg (by decide), if_pos hd]
    rw [hE]
    have hdi : (16 : Int) < (t.ops.length : Nat) := by omega
    go_enter Tryz.func126, Tryz.ntmps126
    go_wp2_with (with_reducible refine (relOf_none (h.up hb0) hf).mono ?_; rintro e w1 ⟨rfl, hb1⟩; have hs1 := hs0.below hb1; have l1 := hs1.lt; have y1 := hs1.c6.2.2.2.2.2)
    go_ret
    have hb := bthen hb0 hb0.size hb1
    exact ⟨rfl, hb.alloc hb.size _⟩
  · have hE : reE ⟨⟨#[]⟩, A, c, l⟩ t = 0 := by unfold reE; rw [hf, if_neg (by decide), if_neg hd]
    rw [hE]
    have hdi : ¬ (16 : Int) < (t.ops.length : Nat) := by omega
    go_enter Tryz.func126, Tryz.ntmps126
    go_wp2_with (with_reducible refine (relOf_none (h.up hb0) hf).mono ?_; rintro e w1 ⟨rfl, hb1⟩; have hs1 := hs0.below hb1; have l1 := hs1.lt; have y1 := hs1.c6.2.2.2.2.2)
    go_ret
    have hb := bthen hb0 hb0.size hb1
    exact ⟨rfl, hb.alloc hb.size _⟩
structure SubsA (w : World) (A : Option Addr) (c : Nat) (l : List (ByteArray × ByteArray)) : Prop where
 rows : Rd w w.heap.size 2 A l.length c (l.flatMap aSub)
theorem SubsA.up {w w' : World} {A : Option Addr} {c : Nat} {l : List (ByteArray × ByteArray)} (h : SubsA w A c l) (hb : Below w.heap.size w w') : SubsA w' A c l := ⟨h.rows.up hb⟩
theorem SubsA.get {w : World} {A : Option Addr} {c : Nat} {l : List (ByteArray × ByteArray)} (h : SubsA w A c l) {i : Nat} {s : ByteArray × ByteArray} (hi : l[i]? = some s) :
 ∃ b o, A = some ⟨b, o, none⟩ ∧ w.cell? ⟨b, o + i * 2, none⟩ = some (.string s.1) ∧ w.cell? ⟨b, o + i * 2 + 1, none⟩ = some (.string s.2) := by
 obtain ⟨b, o, e, _, hc⟩ := h.rows.at_ (lt_get hi)
 have g := fun k (hk : k < 2) => flat_get aSub (sz := 2) (fun _ => rfl) hi (k := k) hk
 exact ⟨b, o, e, hc _ _ (g 0 (by omega)), hc _ _ (g 1 (by omega))⟩
theorem bdrew (w : World) (n : Nat) : Below w.heap.size w (w.drewN n) := ⟨rfl, rfl, rfl, Nat.le_refl _, fun _ _ => rfl⟩
theorem any_at {α : Type} {p : α → Bool} {l : List α} {i : Nat} {a : α} (h : l[i]? = some a) (hp : p a = true) : l.any p = true := List.any_eq_true.2 ⟨a, List.mem_of_getElem? h, hp⟩
theorem any_not {α : Type} {p : α → Bool} {l : List α} (h : ∀ x ∈ l, p x = false) : l.any p = false := by
 cases e : l.any p with
 | false => rfl
 | true =>
  obtain ⟨x, hx, hp⟩ := List.any_eq_true.1 e
  rw [h x hx] at hp
  cases hp
theorem toL_iff (a c : ByteArray) : a.toList = c.toList ↔ a = c := by
 have h := list_dec a c
 constructor
 · intro e
   rw [e] at h
   simpa using h.symm
 · rintro rfl
   rfl
theorem eqSub (a b c d : ByteArray) (w : World) : (binOp .eql 126 (.agg #[.string a, .string b]) (.agg #[.string c, .string d])).run Tryz.prog w = .ok (.bool (decide ((a, b) = (c, d)))) w := by
 have hS : Tryz.prog.underlying 126 = some (.struct (Tryz.prog.fieldsOf 126)) := by kernel_rfl
 have hp : Tryz.prog.stoodInHeld 126 = false := by kernel_rfl
 have u := Tryz.underlying9
 rw [run_eql_struct, show (10000 : Nat) = 9999 + 1 from rfl, run_equalIn_agg w 9999 126 _ _ hS hp]
 simp only [Program.fieldsOf, Tryz.underlying126]
 go_simp
 have i1 := toL_iff a c
 have i2 := toL_iff b d
 by_cases e1 : a = c <;> by_cases e2 : b = d <;> simp [e1, e2, i1, i2]
theorem pair_dec (s t : ByteArray × ByteArray) : decide ((s.1, s.2) = (t.1, t.2)) = decide (t = s) := by
 rcases s with ⟨a, b⟩
 rcases t with ⟨c, d⟩
 have e : ((a, b) = (c, d)) = ((c, d) = (a, b)) := propext eq_comm
 simp only [e]
theorem index_any {w : World} {A : Option Addr} {c : Nat} {l : List (ByteArray × ByteArray)} (h : SubsA w A c l) (s : ByteArray × ByteArray) :
 Calls Tryz.prog 111 #[.slice A l.length c, .agg #[.string s.1, .string s.2]] w fun e w' => (∃ z : Int, e = .returned (.int .i64 z) ∧ decide (0 ≤ z) = l.any fun y => decide (y = s)) ∧ Below w.heap.size w w' := by
 have hl : (l.length : Int) ≤ 9223372036854775807 := by have := h.rows.cap; have := h.rows.capm; simp only [maxLen] at this; omega
 have hb0 := bnew w (.cells #[.string s.1, .string s.2] 126)
 have hs0 := Bk.new w #[.string s.1, .string s.2] 126
 have h0 := h.up hb0
 go_enter Tryz.func111, Tryz.ntmps111
 go_wp2_with fail
 generalize w.alloc (.cells #[.string s.1, .string s.2] 126) = w0 at *
 go_loopw [8] (fun vi wx => ∃ i : Nat, vi = .int .i64 i ∧ i ≤ l.length ∧ (∀ y ∈ l.take i, decide (y = s) = false) ∧ Below w0.heap.size w0 wx) (fun vi _ => l.length - (intOf vi).toNat)
 case atStart => exact ⟨0, rfl, Nat.zero_le _, fun t ht => (by simp at ht), Below.refl _ _⟩
 case round =>
  obtain ⟨i, rfl, hi, hn, hbx⟩ := hrel
  have hsx := hs0.below hbx
  obtain ⟨y0, y1⟩ := hsx.c2
  have ly := hsx.lt
  by_cases hil : i < l.length
  · have hdi : (i : Int) < (l.length : Nat) := by omega
    obtain ⟨t, ht⟩ : ∃ t, l[i]? = some t := ⟨l[i], List.getElem?_eq_getElem hil⟩
    obtain ⟨g, o, rfl, g0, g1⟩ := (h0.up hbx).get ht
    have lg := World.block_lt_of_cell? _ _ g0
    dsimp only at lg
    have hE := eqSub s.1 s.2 t.1 t.2
    cases hd : decide (t = s) with
    | true =>
     rw [pair_dec, hd] at hE
     go_wp2_with fail
     go_quiet (fail)
     go_wp2
     go_ret
     exact ⟨⟨_, rfl, by rw [any_at ht hd]; exact decide_eq_true (by omega)⟩, bthen hb0 hb0.size (bthen hbx hbx.size (bdrew wr nq))⟩
    | false =>
     rw [pair_dec, hd] at hE
     go_wp2_with fail
     go_quiet (fail)
     go_wp2
     refine ⟨⟨i + 1, by go_num, by omega, take_all ht hn hd, bthen hbx hbx.size (bdrew wr nq)⟩, ?_⟩
     simp [intOf]; omega
  · have hdi : ¬ (i : Int) < (l.length : Nat) := by omega
    obtain rfl : i = l.length := by omega
    rw [List.take_length] at hn
    go_wp2
    go_ret
    exact ⟨⟨_, rfl, by rw [any_not hn]; decide⟩, hb0.trans (hbx.mono hb0.size)⟩
theorem contains_any {w : World} {A : Option Addr} {c : Nat} {l : List (ByteArray × ByteArray)} (h : SubsA w A c l) (s : ByteArray × ByteArray) :
 Calls Tryz.prog 64 #[.slice A l.length c, .agg #[.string s.1, .string s.2]] w fun e w' => e = .returned (.bool (l.any fun y => decide (y = s))) ∧ Below w.heap.size w w' := by
 have hb0 := bnew w (.cells #[.string s.1, .string s.2] 126)
 go_enter Tryz.func64, Tryz.ntmps64
 go_wp2_with fail
 refine (index_any (h.up hb0) s).mono ?_
 rintro e w1 ⟨⟨z, rfl, hz⟩, hb1⟩
 by_cases h0 : 0 ≤ z
 · go_wp2
   go_ret
   exact ⟨by rw [← hz, decide_eq_true h0]; rfl, hb0.trans (hb1.mono hb0.size)⟩
 · go_wp2
   go_ret
   exact ⟨by rw [← hz]; rfl, hb0.trans (hb1.mono hb0.size)⟩
def leadB (l : List TypI) (next : ByteArray) (x : ByteArray × ByteArray) : Bool := decide (x.2 = ⟨#[]⟩) && hasI l x.1 next
theorem lead1_any {w : World} {R b1 b2 : Nat} {A : Option Addr} {c : Nat} {l : List TypA} {next : ByteArray} (h : SchA w R A c l) (x : ByteArray × ByteArray) (l1 : b1 < w.heap.size)
 (c1 : w.cell? ⟨b1, 0, none⟩ = some (.slice A l.length c)) (c2 : w.cell? ⟨b2, 0, none⟩ = some (.string next)) :
 Calls Tryz.prog 225 #[.agg #[.string x.1, .string x.2], .pointer (some ⟨b1, 0, none⟩), .pointer (some ⟨b2, 0, none⟩)] w fun e w' => e = .returned (.bool (leadB (l.map TypA.says) next x)) ∧ Below w.heap.size w w' := by
 have hb0 := bnew w (.cells #[.string x.1, .string x.2] 126)
 have hs0 := Bk.new w #[.string x.1, .string x.2] 126
 unfold leadB
 rw [hasI_says]
 cases hf : firstA l x.1 with
 | none =>
  go_enter Tryz.func225, Tryz.ntmps225
  go_wp2_with (with_reducible refine (typeOf_none (h.up hb0) hf).mono ?_; rintro e w1 ⟨rfl, hb1⟩)
  go_ret
  have hb := bthen hb0 hb0.size hb1
  exact ⟨by simp, hb.alloc hb.size _⟩
 | some t =>
  have he := empty_dec x.2
  cases hd : decide (x.2 = ⟨#[]⟩) with
  | false =>
   rw [hd] at he
   go_enter Tryz.func225, Tryz.ntmps225
   go_wp2_with (with_reducible refine (typeOf_some (h.up hb0) hf).mono ?_; rintro e w1 ⟨rfl, hb1⟩; have hs1 := hs0.below hb1; have m1 := hs1.lt; have y1 := hs1.c2.2)
   go_ret
   have hb := bthen hb0 hb0.size hb1
   exact ⟨rfl, hb.alloc hb.size _⟩
  | true =>
   rw [hd] at he
   go_enter Tryz.func225, Tryz.ntmps225
   go_wp2_with (with_reducible refine (typeOf_some (h.up hb0) hf).mono ?_; rintro e w1 ⟨rfl, hb1⟩; have hs1 := hs0.below hb1; have m1 := hs1.lt; have y1 := hs1.c2.2; have d2 := cell_under (cell_under c2 hb0) hb1; have d2l := World.block_lt_of_cell? _ _ d2; dsimp only at d2l)
   have hb := bthen hb0 hb0.size hb1
   have hb' := hb.alloc hb.size (.cells #[.string t.name, .slice t.A t.rels.length t.c] 146)
   have hk := (h.each t (firstA_mem hf)).up hb'
   go_wp2_with (with_reducible refine (hasRel_any hk _).mono ?_; rintro e w2 ⟨rfl, hb2⟩)
   go_ret
   exact ⟨rfl, bthen hb' hb'.size hb2⟩
theorem run_enter9 {f : FuncId} {fn : Func} (hf : Tryz.prog.funcs[f]? = some fn) (hname : (fn.name == "runtime.NumGoroutine") = false) (hb : fn.body.isNone = false) (args : Array Value) (W : World) : (callFunc f args).run Tryz.prog W = .ok (.enter f args) W := by
 have h1 : ¬ (fn.name = "runtime.NumGoroutine") := by simpa using hname
 have h2 : fn.body ≠ none := by intro e; rw [e] at hb; cases hb
 simp [callFunc, hf, h1, h2, Result.andThen]
theorem indexFunc_any {w : World} {R b1 b2 : Nat} {A A2 : Option Addr} {c c2 : Nat} {l : List TypA} {next : ByteArray} {s : List (ByteArray × ByteArray)} (h : SchA w R A c l) (hs : SubsA w A2 c2 s) (l1 : b1 < w.heap.size)
 (q1 : w.cell? ⟨b1, 0, none⟩ = some (.slice A l.length c)) (q2 : w.cell? ⟨b2, 0, none⟩ = some (.string next)) :
 Calls Tryz.prog 234 #[.slice A2 s.length c2, .func (.func 225) #[] #[.pointer (some ⟨b1, 0, none⟩), .pointer (some ⟨b2, 0, none⟩)]] w fun e w' => (∃ z : Int, e = .returned (.int .i64 z) ∧ decide (0 ≤ z) = s.any (leadB (l.map TypA.says) next)) ∧ Below w.heap.size w w' := by
 have hl : (s.length : Int) ≤ 9223372036854775807 := by have := hs.rows.cap; have := hs.rows.capm; simp only [maxLen] at this; omega
 have hen : ∀ args W, (callFunc 225 args).run Tryz.prog W = .ok (.enter 225 args) W := run_enter9 Tryz.func225 (by kernel_rfl) (by kernel_rfl)
 go_enter Tryz.func234, Tryz.ntmps234
 go_wp2_with fail
 go_loopw [8] (fun vi wx => ∃ i : Nat, vi = .int .i64 i ∧ i ≤ s.length ∧ (∀ y ∈ s.take i, leadB (l.map TypA.says) next y = false) ∧ Below w.heap.size w wx) (fun vi _ => s.length - (intOf vi).toNat)
 case atStart => exact ⟨0, rfl, Nat.zero_le _, fun t ht => (by simp at ht), Below.refl _ _⟩
 case round =>
  obtain ⟨i, rfl, hi, hn, hbx⟩ := hrel
  by_cases hil : i < s.length
  · have hdi : (i : Int) < (s.length : Nat) := by omega
    obtain ⟨t, ht⟩ : ∃ t, s[i]? = some t := ⟨s[i], List.getElem?_eq_getElem hil⟩
    obtain ⟨g, o, rfl, g0, g1⟩ := (hs.up hbx).get ht
    have lg := World.block_lt_of_cell? _ _ g0
    dsimp only at lg
    have hc := lead1_any (h.up hbx) t (Nat.lt_of_lt_of_le l1 hbx.size) (cell_under q1 hbx) (cell_under q2 hbx)
    cases hd : leadB (l.map TypA.says) next t with
    | true =>
     rw [hd] at hc
     go_wp2_with (with_reducible refine hc.mono ?_; rintro e w1 ⟨rfl, hb1⟩)
     go_ret
     exact ⟨⟨_, rfl, by rw [any_at ht hd]; exact decide_eq_true (by omega)⟩, bthen hbx hbx.size hb1⟩
    | false =>
     rw [hd] at hc
     go_wp2_with (with_reducible refine hc.mono ?_; rintro e w1 ⟨rfl, hb1⟩)
     refine ⟨⟨i + 1, by go_num, by omega, take_all ht hn hd, bthen hbx hbx.size hb1⟩, ?_⟩
     simp [intOf]; omega
  · have hdi : ¬ (i : Int) < (s.length : Nat) := by omega
    obtain rfl : i = s.length := by omega
    rw [List.take_length] at hn
    go_wp2
    go_ret
    exact ⟨⟨_, rfl, by rw [any_not hn]; decide⟩, hbx⟩
theorem containsFunc_any {w : World} {R b1 b2 : Nat} {A A2 : Option Addr} {c c2 : Nat} {l : List TypA} {next : ByteArray} {s : List (ByteArray × ByteArray)} (h : SchA w R A c l) (hs : SubsA w A2 c2 s) (l1 : b1 < w.heap.size)
 (q1 : w.cell? ⟨b1, 0, none⟩ = some (.slice A l.length c)) (q2 : w.cell? ⟨b2, 0, none⟩ = some (.string next)) :
 Calls Tryz.prog 224 #[.slice A2 s.length c2, .func (.func 225) #[] #[.pointer (some ⟨b1, 0, none⟩), .pointer (some ⟨b2, 0, none⟩)]] w fun e w' => e = .returned (.bool (s.any (leadB (l.map TypA.says) next))) ∧ Below w.heap.size w w' := by
 go_enter Tryz.func224, Tryz.ntmps224
 go_wp2_with fail
 refine (indexFunc_any h hs l1 q1 q2).mono ?_
 rintro e w1 ⟨⟨z, rfl, hz⟩, hb1⟩
 by_cases h0 : 0 ≤ z
 · go_wp2
   go_ret
   exact ⟨by rw [← hz, decide_eq_true h0]; rfl, hb1⟩
 · go_wp2
   go_ret
   exact ⟨by rw [← hz]; rfl, hb1⟩
theorem leads_any {w : World} {R : Nat} {A : Option Addr} {c : Nat} {l : List TypA} {r : RelA} {next : ByteArray} (h : SchA w R A c l) (hr : r.ok w R) :
 Calls Tryz.prog 198 #[.agg #[.slice A l.length c], .agg #[.string r.name, .string r.view, .string r.edit, .string r.check, .slice r.As r.subs.length r.cs, .slice r.Ao r.ops.length r.co], .string next] w fun e w' =>
  e = .returned (.bool (leadsI (l.map TypA.says) r.says next)) ∧ Below w.heap.size w w' := by
 have hb0 := ((bnew w (.cells #[.slice A l.length c] 92)).alloc (size_alloc (Nat.le_refl _)) (.cells #[.string r.name, .string r.view, .string r.edit, .string r.check, .slice r.As r.subs.length r.cs, .slice r.Ao r.ops.length r.co] 149))
 have hb1 := hb0.alloc hb0.size (.cells #[.string next] 9)
 have hk1 := ((Bk.new w #[.slice A l.length c] 92).alloc (.cells #[.string r.name, .string r.view, .string r.edit, .string r.check, .slice r.As r.subs.length r.cs, .slice r.Ao r.ops.length r.co] 149)).alloc (.cells #[.string next] 9)
 have hk2 := Bk.new ((w.alloc (.cells #[.slice A l.length c] 92)).alloc (.cells #[.string r.name, .string r.view, .string r.edit, .string r.check, .slice r.As r.subs.length r.cs, .slice r.Ao r.ops.length r.co] 149)) #[.string next] 9
 rw [show ((w.alloc (.cells #[.slice A l.length c] 92)).alloc (.cells #[.string r.name, .string r.view, .string r.edit, .string r.check, .slice r.As r.subs.length r.cs, .slice r.Ao r.ops.length r.co] 149)).heap.size = w.heap.size + 1 + 1 by simp] at hk2
 have k := containsFunc_any (b1 := w.heap.size) (b2 := w.heap.size + 1 + 1) (next := next) (h.up hb1) ((SubsA.mk hr.subs).up hb1) hk1.lt hk1.c1 hk2.c1
 go_enter Tryz.func198, Tryz.ntmps198
 go_wp2_with (with_reducible refine k.mono ?_; rintro e w1 ⟨rfl, hb2⟩)
 go_ret
 exact ⟨rfl, bthen hb1 hb1.size hb2⟩
theorem opHolds_any {w : World} {R : Nat} {A : Option Addr} {c : Nat} {l : List TypA} {t : TypA} (o : OpI) (h : SchA w R A c l) (ht : t.ok w R) :
 Calls Tryz.prog 174 #[.agg #[.slice A l.length c], .agg #[.string t.name, .slice t.A t.rels.length t.c], .agg #[.int .i64 o.1, .string o.2.1, .string o.2.2]] w fun e w' =>
  e = .returned (.bool (opOk (l.map TypA.says) t.says o)) ∧ Below w.heap.size w w' := by
 have hb0 := ((bnew w (.cells #[.slice A l.length c] 92)).alloc (size_alloc (Nat.le_refl _)) (.cells #[.string t.name, .slice t.A t.rels.length t.c] 146))
 have hb1 := hb0.alloc hb0.size (.cells #[.int .i64 o.1, .string o.2.1, .string o.2.2] 166)
 obtain ⟨z, n, x⟩ := o
 dsimp only at hb1 ⊢
 by_cases h2 : z = 2
 · subst h2
   rw [show opOk (l.map TypA.says) t.says (2, n, x) = hasR t.says n from rfl]
   go_enter Tryz.func174, Tryz.ntmps174
   go_wp2_with (with_reducible refine (hasRel_any (ht.up hb1) n).mono ?_; rintro e w1 ⟨rfl, hb2⟩)
   go_ret
   exact ⟨rfl, bthen hb1 hb1.size hb2⟩
 · by_cases h3 : z = 3
   · subst h3
     cases hf : firstRA t n with
     | none =>
      have hE : opOk (l.map TypA.says) t.says (3, n, x) = false := by
       unfold opOk
       rw [firstRA_says, hf]
       rfl
      rw [hE]
      go_enter Tryz.func174, Tryz.ntmps174
      go_wp2_with (with_reducible refine (relOf_none (ht.up hb1) hf).mono ?_; rintro e w1 ⟨rfl, hb2⟩)
      go_ret
      have hb := bthen hb1 hb1.size hb2
      exact ⟨rfl, hb.alloc hb.size _⟩
     | some r =>
      have hE : opOk (l.map TypA.says) t.says (3, n, x) = leadsI (l.map TypA.says) r.says x := by
       unfold opOk
       rw [firstRA_says, hf]
       rfl
      rw [hE]
      have hs1 := ((Bk.new w #[.slice A l.length c] 92).alloc (.cells #[.string t.name, .slice t.A t.rels.length t.c] 146)).alloc (.cells #[.int .i64 3, .string n, .string x] 166)
      have hs3 := Bk.new ((w.alloc (.cells #[.slice A l.length c] 92)).alloc (.cells #[.string t.name, .slice t.A t.rels.length t.c] 146)) #[.int .i64 3, .string n, .string x] 166
      rw [show ((w.alloc (.cells #[.slice A l.length c] 92)).alloc (.cells #[.string t.name, .slice t.A t.rels.length t.c] 146)).heap.size = w.heap.size + 1 + 1 by simp] at hs3
      go_enter Tryz.func174, Tryz.ntmps174
      go_wp2_with fail
      refine (relOf_some (ht.up hb1) hf).mono ?_
      rintro e w1 ⟨rfl, hb2⟩
      have z1 := (hs1.below hb2).c1
      have z2 : w1.cell? ⟨w.heap.size + 1 + 1, 2, none⟩ = some (.string x) := (hs3.below hb2).cell 2
      have z3 := (hs3.below hb2).lt
      have z4 := (hs1.below hb2).lt
      go_wp2_with fail
      have hb := bthen hb1 hb1.size hb2
      have hb' := hb.alloc hb.size (.cells #[.string r.name, .string r.view, .string r.edit, .string r.check, .slice r.As r.subs.length r.cs, .slice r.Ao r.ops.length r.co] 149)
      refine (leads_any (h.up hb') ((ht.relz r (firstRA_mem hf)).up hb')).mono ?_
      rintro e w2 ⟨rfl, hb3⟩
      go_wp2
      go_ret
      exact ⟨rfl, bthen hb' hb'.size hb3⟩
   · have hE : opOk (l.map TypA.says) t.says (z, n, x) = true := by
      unfold opOk
      rw [if_neg h2, if_neg h3]
     rw [hE]
     go_enter Tryz.func174, Tryz.ntmps174
     go_wp2
     go_ret
     exact ⟨rfl, hb1⟩
end Go.Proofs.YtahegpfdbgbioaaGreat
