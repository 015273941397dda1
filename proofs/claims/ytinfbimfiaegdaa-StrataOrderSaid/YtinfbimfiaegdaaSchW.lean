/- Layer 9: what is read of a schema in memory, whoever made it: one that came in, one of the call's own, one put together of both. Conditions: none. -/
import Derived.Test.YtinfbimfiaegdaaArgS
import Derived.Test.YtinfbimfiaegdaaGet
namespace Go.Proofs.Ytinfbimfiaegdaa
open Go.RowKit

theorem Rd.up {w w' : World} {sz n c : Nat} {A : Option Addr} {xs : List Value} (h : Rd w w.heap.size sz A n c xs) (hb : Below w.heap.size w w') : Rd w' w'.heap.size sz A n c xs := (h.below hb).more hb.size
theorem RelA.ok.up {w w' : World} {R : Nat} {a : RelA} (h : a.ok w R) (hb : Below w.heap.size w w') : a.ok w' R := ⟨h.name, h.view, h.edit, h.check, h.subs.up hb, h.subn, h.subz, h.ops.up hb, h.opn, h.opz⟩
theorem TypA.ok.up {w w' : World} {R : Nat} {a : TypA} (h : a.ok w R) (hb : Below w.heap.size w w') : a.ok w' R := ⟨h.name, h.rels.up hb, h.reln, fun r hr => (h.relz r hr).up hb⟩
/-- At this slice there are these types. -/
structure SchA (w : World) (R : Nat) (A : Option Addr) (c : Nat) (l : List TypA) : Prop where
  rows : Rd w w.heap.size 2 A l.length c (l.flatMap TypA.cells)
  few : l.length * 40 ≤ R
  each : ∀ a ∈ l, a.ok w R
theorem SchA.up {w w' : World} {R : Nat} {A : Option Addr} {c : Nat} {l : List TypA} (h : SchA w R A c l) (hb : Below w.heap.size w w') : SchA w' R A c l := ⟨h.rows.up hb, h.few, fun a ha => (h.each a ha).up hb⟩
theorem flat_get {α : Type} (g : α → List Value) {sz : Nat} (hg : ∀ a, (g a).length = sz) {l : List α} {i k : Nat} {a : α} (hi : l[i]? = some a) (hk : k < sz) : (l.flatMap g)[i * sz + k]? = (g a)[k]? := by
  rw [List.flatMap_def]
  exact flatten_atA (fun x hx => by obtain ⟨y, _, rfl⟩ := List.mem_map.1 hx; exact hg y) (by rw [List.getElem?_map, hi]; rfl) hk
theorem lt_get {α : Type} {l : List α} {i : Nat} {a : α} (hi : l[i]? = some a) : 0 < l.length := by
  have := (List.getElem?_eq_some_iff.1 hi).1
  omega
/-- What is read of the type at place i. -/
theorem SchA.get {w : World} {R : Nat} {A : Option Addr} {c : Nat} {l : List TypA} (h : SchA w R A c l) {i : Nat} {t : TypA} (hi : l[i]? = some t) :
    ∃ b o, A = some ⟨b, o, none⟩ ∧ w.cell? ⟨b, o + i * 2, none⟩ = some (.string t.name) ∧ w.cell? ⟨b, o + i * 2 + 1, none⟩ = some (.slice t.A t.rels.length t.c) ∧ t.ok w R := by
  obtain ⟨b, o, rfl, _, hc⟩ := h.rows.at_ (lt_get hi)
  have g0 := flat_get TypA.cells (sz := 2) (fun _ => rfl) hi (k := 0) (by omega)
  have g1 := flat_get TypA.cells (sz := 2) (fun _ => rfl) hi (k := 1) (by omega)
  exact ⟨b, o, rfl, hc _ _ g0, hc _ _ g1, h.each t (List.mem_of_getElem? hi)⟩
theorem TypA.ok.get {w : World} {R : Nat} {t : TypA} (h : t.ok w R) {i : Nat} {x : RelA} (hi : t.rels[i]? = some x) :
    ∃ b o, t.A = some ⟨b, o, none⟩ ∧ w.cell? ⟨b, o + i * 6, none⟩ = some (.string x.name) ∧ w.cell? ⟨b, o + i * 6 + 1, none⟩ = some (.string x.view) ∧ w.cell? ⟨b, o + i * 6 + 2, none⟩ = some (.string x.edit) ∧ w.cell? ⟨b, o + i * 6 + 3, none⟩ = some (.string x.check) ∧
      w.cell? ⟨b, o + i * 6 + 4, none⟩ = some (.slice x.As x.subs.length x.cs) ∧ w.cell? ⟨b, o + i * 6 + 5, none⟩ = some (.slice x.Ao x.ops.length x.co) ∧ x.ok w R := by
  obtain ⟨b, o, e, _, hc⟩ := h.rels.at_ (lt_get hi)
  have g := fun k (hk : k < 6) => flat_get RelA.cells (sz := 6) (fun _ => rfl) hi (k := k) hk
  exact ⟨b, o, e, hc _ _ (g 0 (by omega)), hc _ _ (g 1 (by omega)), hc _ _ (g 2 (by omega)), hc _ _ (g 3 (by omega)), hc _ _ (g 4 (by omega)), hc _ _ (g 5 (by omega)), h.relz x (List.mem_of_getElem? hi)⟩
theorem RelA.ok.sub {w : World} {R : Nat} {x : RelA} (h : x.ok w R) {i : Nat} {s : ByteArray × ByteArray} (hi : x.subs[i]? = some s) :
    ∃ b o, x.As = some ⟨b, o, none⟩ ∧ w.cell? ⟨b, o + i * 2, none⟩ = some (.string s.1) ∧ w.cell? ⟨b, o + i * 2 + 1, none⟩ = some (.string s.2) ∧ s.1.size ≤ R ∧ s.2.size ≤ R := by
  obtain ⟨b, o, e, _, hc⟩ := h.subs.at_ (lt_get hi)
  have g := fun k (hk : k < 2) => flat_get aSub (sz := 2) (fun _ => rfl) hi (k := k) hk
  have z := h.subz s (List.mem_of_getElem? hi)
  exact ⟨b, o, e, hc _ _ (g 0 (by omega)), hc _ _ (g 1 (by omega)), z.1, z.2⟩
theorem RelA.ok.op {w : World} {R : Nat} {x : RelA} (h : x.ok w R) {i : Nat} {o : OpI} (hi : x.ops[i]? = some o) :
    ∃ b k, x.Ao = some ⟨b, k, none⟩ ∧ w.cell? ⟨b, k + i * 3, none⟩ = some (.int .i64 o.1) ∧ w.cell? ⟨b, k + i * 3 + 1, none⟩ = some (.string o.2.1) ∧ w.cell? ⟨b, k + i * 3 + 2, none⟩ = some (.string o.2.2) ∧ (Lit.int .i64 o.1).wf = true ∧ o.2.1.size ≤ R ∧ o.2.2.size ≤ R := by
  obtain ⟨b, k, e, _, hc⟩ := h.ops.at_ (lt_get hi)
  have g := fun j (hj : j < 3) => flat_get aOp (sz := 3) (fun _ => rfl) hi (k := j) hj
  have z := h.opz o (List.mem_of_getElem? hi)
  exact ⟨b, k, e, hc _ _ (g 0 (by omega)), hc _ _ (g 1 (by omega)), hc _ _ (g 2 (by omega)), z.1, z.2.1, z.2.2⟩

/-- What was parsed, as it is said here. -/
def opI (o : OpP) : OpI := ((o.1 : Int), o.2.1, o.2.2)
def relI (x : RelP) : RelI := ⟨x.name, x.view, x.edit, x.check, x.subs, x.ops.map opI⟩
def typI (t : TypP) : TypI := ⟨t.name, t.rels.map relI⟩
structure SmI (R : Nat) (x : RelP) : Prop where
  name : x.name.size ≤ R
  view : x.view.size ≤ R
  edit : x.edit.size ≤ R
  check : x.check.size ≤ R
  subn : x.subs.length * 32 ≤ R
  subs : ∀ s ∈ x.subs, s.1.size ≤ R ∧ s.2.size ≤ R
  opn : x.ops.length * 40 ≤ R
  ops : ∀ o ∈ x.ops, (Lit.int .i64 (o.1 : Nat)).wf = true ∧ o.2.1.size ≤ R ∧ o.2.2.size ≤ R
theorem rels_conv {w : World} {B R : Nat} : ∀ (l : List RelP) (xs : List Value), RelsC w B l xs → (∀ x ∈ l, SmI R x) → ∃ k : List RelA, xs = k.flatMap RelA.cells ∧ k.map RelA.says = l.map relI ∧ ∀ a ∈ k, a.ok w R
  | [], xs, h, _ => by
    have e : xs = [] := h
    exact ⟨[], e, rfl, fun a ha => by cases ha⟩
  | x :: l, xs, h, hz => by
    obtain ⟨ys, zs, rfl, ⟨vs, vo, rfl, hs, ho⟩, hr⟩ := h
    obtain ⟨k, rfl, hk, hok⟩ := rels_conv l zs hr fun y hy => hz y (List.mem_cons_of_mem _ hy)
    obtain ⟨As, cs, rfl, rs⟩ := Rd.own hs
    obtain ⟨Ao, co, rfl, ro⟩ := Rd.own ho
    have z := hz x List.mem_cons_self
    have e1 : scells x.subs = x.subs.flatMap aSub := rfl
    have e2 : ocells x.ops = (x.ops.map opI).flatMap aOp := by
      rw [List.flatMap_map]
      rfl
    refine ⟨⟨x.name, x.view, x.edit, x.check, As, cs, x.subs, Ao, co, x.ops.map opI⟩ :: k, ?_, ?_, fun a ha => ?_⟩
    · rw [List.flatMap_cons]
      show _ = [Value.string x.name, .string x.view, .string x.edit, .string x.check, .slice As x.subs.length cs, .slice Ao (x.ops.map opI).length co] ++ _
      rw [List.length_map]
    · rw [List.map_cons, List.map_cons, hk]
      rfl
    · rcases List.mem_cons.1 ha with rfl | ha
      · refine ⟨z.name, z.view, z.edit, z.check, rs, z.subn, z.subs, ?_, by show (x.ops.map opI).length * 40 ≤ R; rw [List.length_map]; exact z.opn, fun o ho => ?_⟩
        · show Rd w w.heap.size 3 Ao (x.ops.map opI).length co ((x.ops.map opI).flatMap aOp)
          rw [List.length_map, ← e2]
          exact ro
        · obtain ⟨p, hp, rfl⟩ := List.mem_map.1 ho
          exact z.ops p hp
      · exact hok a ha
theorem types_conv {w : World} {B R : Nat} : ∀ (l : List TypP) (xs : List Value), TypsC w B l xs → (∀ t ∈ l, t.name.size ≤ R ∧ t.rels.length * 112 ≤ R ∧ ∀ x ∈ t.rels, SmI R x) → ∃ k : List TypA, xs = k.flatMap TypA.cells ∧ k.map TypA.says = l.map typI ∧ ∀ a ∈ k, a.ok w R
  | [], xs, h, _ => by
    have e : xs = [] := h
    exact ⟨[], e, rfl, fun a ha => by cases ha⟩
  | t :: l, xs, h, hz => by
    obtain ⟨ys, zs, rfl, ⟨vr, rfl, ws, hrow, hrc⟩, hr⟩ := h
    obtain ⟨k, rfl, hk, hok⟩ := types_conv l zs hr fun y hy => hz y (List.mem_cons_of_mem _ hy)
    have z := hz t List.mem_cons_self
    obtain ⟨m, rfl, hm, hmo⟩ := rels_conv t.rels ws hrc z.2.2
    obtain ⟨A, c, rfl, rr⟩ := Rd.own hrow
    have hl : m.length = t.rels.length := by have := congrArg List.length hm; rwa [List.length_map, List.length_map] at this
    refine ⟨⟨t.name, A, c, m⟩ :: k, ?_, ?_, fun a ha => ?_⟩
    · rw [List.flatMap_cons]
      show _ = [Value.string t.name, .slice A m.length c] ++ _
      rw [hl]
    · rw [List.map_cons, List.map_cons, hk]
      show TypI.mk t.name (m.map RelA.says) :: _ = _
      rw [hm]
      rfl
    · rcases List.mem_cons.1 ha with rfl | ha
      · exact ⟨z.1, by show Rd w w.heap.size 6 A m.length c _; rw [hl]; exact rr, by show m.length * 112 ≤ R; rw [hl]; exact z.2.1, hmo⟩
      · exact hok a ha
/-- What Parse hands back, read so. -/
theorem VTyps.sch {w : World} {B R : Nat} {A : Option Addr} {c : Nat} {T : List TypP} (h : VTyps B w (.slice A T.length c) T) (hn : T.length * 40 ≤ R) (hz : ∀ t ∈ T, t.name.size ≤ R ∧ t.rels.length * 112 ≤ R ∧ ∀ x ∈ t.rels, SmI R x) : ∃ l : List TypA, l.map TypA.says = T.map typI ∧ SchA w R A c l := by
  obtain ⟨xs, h1, h2⟩ := h
  obtain ⟨l, rfl, hs, ho⟩ := types_conv T xs h2 hz
  obtain ⟨A2, c2, e, rd⟩ := Rd.own h1
  injection e with ea _ ec
  subst ea
  subst ec
  have hl : l.length = T.length := by have := congrArg List.length hs; rwa [List.length_map, List.length_map] at this
  exact ⟨l, hs, by rw [hl]; exact rd, by rw [hl]; exact hn, ho⟩
end Go.Proofs.Ytinfbimfiaegdaa
