/- Layer 9: whether a schema holds together, as plain functions. Conditions: none; nothing of the program is named here. -/
import Derived.Test.YteafdhpcnpfmkaaGreatPlain
namespace Go.Proofs.YteafdhpcnpfmkaaGreat

abbrev OpI := Int × ByteArray × ByteArray
structure RelI where
  name : ByteArray
  view : ByteArray
  edit : ByteArray
  check : ByteArray
  subs : List (ByteArray × ByteArray)
  ops : List OpI
  deriving DecidableEq
structure TypI where
  name : ByteArray
  rels : List RelI
  deriving DecidableEq

def firstT (l : List TypI) (n : ByteArray) : Option TypI := l.find? fun t => decide (t.name = n)
def firstR (t : TypI) (n : ByteArray) : Option RelI := t.rels.find? fun r => decide (r.name = n)
def hasT (l : List TypI) (n : ByteArray) : Bool := (firstT l n).isSome
def hasR (t : TypI) (n : ByteArray) : Bool := (firstR t n).isSome
/-- Find: the first relation of that name of the first type of that name. -/
def findI (l : List TypI) (ty re : ByteArray) : Option RelI := (firstT l ty).bind fun t => firstR t re
def hasI (l : List TypI) (ty re : ByteArray) : Bool := (findI l ty re).isSome
def leadsI (l : List TypI) (r : RelI) (next : ByteArray) : Bool := r.subs.any fun x => decide (x.2 = ⟨#[]⟩) && hasI l x.1 next
def opOk (l : List TypI) (t : TypI) (o : OpI) : Bool :=
  if o.1 = 2 then hasR t o.2.1
  else if o.1 = 3 then (match firstR t o.2.1 with
    | none => false
    | some r => leadsI l r o.2.2)
  else true
def subOk (l : List TypI) (x : ByteArray × ByteArray) : Bool := hasT l x.1 && (decide (x.2 = ⟨#[]⟩) || hasI l x.1 x.2)
/-- The first that is wrong among who may stand in a tuple. -/
def subsE (l : List TypI) : List (ByteArray × ByteArray) → List (ByteArray × ByteArray) → Nat
  | _, [] => 0
  | ahead, x :: r => if subOk l x = false then 31 else if ahead.any (fun y => decide (y = x)) = true then 32 else subsE l (ahead ++ [x]) r
def namedE (l : List TypI) (t : TypI) (r : RelI) : Nat :=
  if (hasR t r.view && (hasR t r.edit && hasR t r.check)) = false then 31
  else if subsE l [] r.subs ≠ 0 then subsE l [] r.subs
  else if r.ops.all (opOk l t) = false then 31 else 0
def pathS (t : TypI) (r : RelI) : ByteArray := t.name ++ ⟨#[46]⟩ ++ r.name
/-- Type by type: names that stand twice, and what is too long. -/
def relsE (t : TypI) : List RelI → List RelI → Nat × ByteArray
  | _, [] => (0, ⟨#[]⟩)
  | ahead, r :: q => if ahead.any (fun x => decide (x.name = r.name)) = true then (32, pathS t r) else if 16 < r.ops.length then (13, pathS t r) else relsE t (ahead ++ [r]) q
def typsE : List TypI → List TypI → Nat × ByteArray
  | _, [] => (0, ⟨#[]⟩)
  | ahead, t :: q => if ahead.any (fun x => decide (x.name = t.name)) = true then (32, t.name) else if 12 < t.rels.length then (13, t.name)
    else if (relsE t [] t.rels).1 ≠ 0 then relsE t [] t.rels else typsE (ahead ++ [t]) q
/-- Once more: what is named is there. -/
def namesRE (l : List TypI) (t : TypI) : List RelI → Nat × ByteArray
  | [] => (0, ⟨#[]⟩)
  | r :: q => if namedE l t r ≠ 0 then (namedE l t r, pathS t r) else namesRE l t q
def namesE (l : List TypI) : List TypI → Nat × ByteArray
  | [] => (0, ⟨#[]⟩)
  | t :: q => if (namesRE l t t.rels).1 ≠ 0 then namesRE l t t.rels else namesE l q
def checkE (l : List TypI) : Nat × ByteArray :=
  if 8 < l.length then (13, ⟨#[]⟩) else if (typsE [] l).1 ≠ 0 then typsE [] l else namesE l l

/-- A schema that is right. -/
structure RightR (t : TypI) : Prop where
  few : t.rels.length ≤ 12
  names : (t.rels.map (·.name)).Nodup
  ops : ∀ r ∈ t.rels, r.ops.length ≤ 16
structure Right (l : List TypI) : Prop where
  few : l.length ≤ 8
  names : (l.map (·.name)).Nodup
  rels : ∀ t ∈ l, RightR t
  named : ∀ t ∈ l, ∀ r ∈ t.rels, namedE l t r = 0

theorem relsE_ok (t : TypI) : ∀ (q ahead : List RelI), (ahead.map (·.name)).Nodup →
    ((relsE t ahead q).1 = 0 ↔ ((ahead ++ q).map (·.name)).Nodup ∧ ∀ r ∈ q, r.ops.length ≤ 16) ∧ ((relsE t ahead q).1 = 0 → relsE t ahead q = (0, ⟨#[]⟩))
  | [], ahead, h => ⟨⟨fun _ => ⟨by rw [List.append_nil]; exact h, fun r hr => by cases hr⟩, fun _ => rfl⟩, fun _ => rfl⟩
  | r :: q, ahead, h => by
    unfold relsE
    by_cases h1 : ahead.any (fun x => decide (x.name = r.name)) = true
    · rw [if_pos h1]
      refine ⟨⟨fun e => (by cases e), fun ⟨e, _⟩ => ?_⟩, fun e => (by cases e)⟩
      obtain ⟨x, hx, hn⟩ := List.any_eq_true.1 h1
      have hn := of_decide_eq_true hn
      rw [List.map_append, List.nodup_append] at e
      exact absurd hn (e.2.2 x.name (List.mem_map_of_mem hx) r.name (List.mem_map_of_mem List.mem_cons_self))
    · rw [if_neg h1]
      by_cases h2 : 16 < r.ops.length
      · rw [if_pos h2]
        refine ⟨⟨fun e => (by cases e), fun ⟨_, e⟩ => ?_⟩, fun e => (by cases e)⟩
        have := e r List.mem_cons_self
        omega
      · rw [if_neg h2]
        have hnd : ((ahead ++ [r]).map (·.name)).Nodup := by
          rw [List.map_append, List.nodup_append]
          refine ⟨h, by simp, fun a ha b hb => ?_⟩
          obtain ⟨x, hx, rfl⟩ := List.mem_map.1 ha
          simp only [List.map_cons, List.map_nil, List.mem_singleton] at hb
          subst hb
          intro e
          exact h1 (List.any_eq_true.2 ⟨x, hx, decide_eq_true e⟩)
        obtain ⟨ih, ih2⟩ := relsE_ok t q (ahead ++ [r]) hnd
        rw [List.append_assoc, List.singleton_append] at ih
        refine ⟨ih.trans ⟨fun ⟨a, b⟩ => ⟨a, fun x hx => ?_⟩, fun ⟨a, b⟩ => ⟨a, fun x hx => b x (List.mem_cons_of_mem _ hx)⟩⟩, ih2⟩
        rcases List.mem_cons.1 hx with rfl | hx
        · omega
        · exact b x hx
theorem typsE_ok : ∀ (q ahead : List TypI), (ahead.map (·.name)).Nodup →
    ((typsE ahead q).1 = 0 ↔ ((ahead ++ q).map (·.name)).Nodup ∧ ∀ t ∈ q, RightR t) ∧ ((typsE ahead q).1 = 0 → typsE ahead q = (0, ⟨#[]⟩))
  | [], ahead, h => ⟨⟨fun _ => ⟨by rw [List.append_nil]; exact h, fun r hr => by cases hr⟩, fun _ => rfl⟩, fun _ => rfl⟩
  | t :: q, ahead, h => by
    unfold typsE
    by_cases h1 : ahead.any (fun x => decide (x.name = t.name)) = true
    · rw [if_pos h1]
      refine ⟨⟨fun e => (by cases e), fun ⟨e, _⟩ => ?_⟩, fun e => (by cases e)⟩
      obtain ⟨x, hx, hn⟩ := List.any_eq_true.1 h1
      have hn := of_decide_eq_true hn
      rw [List.map_append, List.nodup_append] at e
      exact absurd hn (e.2.2 x.name (List.mem_map_of_mem hx) t.name (List.mem_map_of_mem List.mem_cons_self))
    · rw [if_neg h1]
      by_cases h2 : 12 < t.rels.length
      · rw [if_pos h2]
        refine ⟨⟨fun e => (by cases e), fun ⟨_, e⟩ => ?_⟩, fun e => (by cases e)⟩
        have := (e t List.mem_cons_self).few
        omega
      · rw [if_neg h2]
        obtain ⟨hr, hr2⟩ := relsE_ok t t.rels [] (by simp)
        rw [List.nil_append] at hr
        by_cases h3 : (relsE t [] t.rels).1 = 0
        · rw [if_neg (by simpa using h3)]
          have hnd : ((ahead ++ [t]).map (·.name)).Nodup := by
            rw [List.map_append, List.nodup_append]
            refine ⟨h, by simp, fun a ha b hb => ?_⟩
            obtain ⟨x, hx, rfl⟩ := List.mem_map.1 ha
            simp only [List.map_cons, List.map_nil, List.mem_singleton] at hb
            subst hb
            intro e
            exact h1 (List.any_eq_true.2 ⟨x, hx, decide_eq_true e⟩)
          obtain ⟨ih, ih2⟩ := typsE_ok q (ahead ++ [t]) hnd
          rw [List.append_assoc, List.singleton_append] at ih
          refine ⟨ih.trans ⟨fun ⟨a, b⟩ => ⟨a, fun x hx => ?_⟩, fun ⟨a, b⟩ => ⟨a, fun x hx => b x (List.mem_cons_of_mem _ hx)⟩⟩, ih2⟩
          rcases List.mem_cons.1 hx with rfl | hx
          · exact ⟨by omega, (hr.1 h3).1, (hr.1 h3).2⟩
          · exact b x hx
        · rw [if_pos h3]
          refine ⟨⟨fun e => absurd e h3, fun ⟨_, e⟩ => ?_⟩, fun e => absurd e h3⟩
          have k := e t List.mem_cons_self
          exact hr.2 ⟨k.names, k.ops⟩
theorem namesRE_ok (l : List TypI) (t : TypI) : ∀ q : List RelI, ((namesRE l t q).1 = 0 ↔ ∀ r ∈ q, namedE l t r = 0) ∧ ((namesRE l t q).1 = 0 → namesRE l t q = (0, ⟨#[]⟩))
  | [] => ⟨⟨fun _ r hr => (by cases hr), fun _ => rfl⟩, fun _ => rfl⟩
  | r :: q => by
    obtain ⟨ih, ih2⟩ := namesRE_ok l t q
    unfold namesRE
    by_cases h : namedE l t r = 0
    · rw [if_neg (by simpa using h)]
      refine ⟨ih.trans ⟨fun a x hx => ?_, fun a x hx => a x (List.mem_cons_of_mem _ hx)⟩, ih2⟩
      rcases List.mem_cons.1 hx with rfl | hx
      · exact h
      · exact a x hx
    · rw [if_pos h]
      exact ⟨⟨fun e => absurd e h, fun a => absurd (a r List.mem_cons_self) h⟩, fun e => absurd e h⟩
theorem namesE_ok (l : List TypI) : ∀ q : List TypI, ((namesE l q).1 = 0 ↔ ∀ t ∈ q, ∀ r ∈ t.rels, namedE l t r = 0) ∧ ((namesE l q).1 = 0 → namesE l q = (0, ⟨#[]⟩))
  | [] => ⟨⟨fun _ r hr => (by cases hr), fun _ => rfl⟩, fun _ => rfl⟩
  | t :: q => by
    obtain ⟨ih, ih2⟩ := namesE_ok l q
    obtain ⟨hr, hr2⟩ := namesRE_ok l t t.rels
    unfold namesE
    by_cases h : (namesRE l t t.rels).1 = 0
    · rw [if_neg (by simpa using h)]
      refine ⟨ih.trans ⟨fun a x hx => ?_, fun a x hx => a x (List.mem_cons_of_mem _ hx)⟩, ih2⟩
      rcases List.mem_cons.1 hx with rfl | hx
      · exact hr.1 h
      · exact a x hx
    · rw [if_pos h]
      exact ⟨⟨fun e => absurd e h, fun a => hr.2 (a t List.mem_cons_self)⟩, fun e => absurd e h⟩
/-- It is told to be right if it is. -/
theorem checkE_ok (l : List TypI) : ((checkE l).1 = 0 ↔ Right l) ∧ ((checkE l).1 = 0 → checkE l = (0, ⟨#[]⟩)) := by
  obtain ⟨h1, h2⟩ := typsE_ok l [] (by simp)
  obtain ⟨n1, n2⟩ := namesE_ok l l
  rw [List.nil_append] at h1
  unfold checkE
  by_cases h8 : 8 < l.length
  · rw [if_pos h8]
    refine ⟨⟨fun e => (by cases e), fun e => ?_⟩, fun e => (by cases e)⟩
    have := e.few
    omega
  · rw [if_neg h8]
    by_cases ht : (typsE [] l).1 = 0
    · rw [if_neg (by simpa using ht)]
      refine ⟨n1.trans ⟨fun a => ⟨by omega, (h1.1 ht).1, (h1.1 ht).2, a⟩, fun e => e.named⟩, n2⟩
    · rw [if_pos ht]
      exact ⟨⟨fun e => absurd e ht, fun e => h1.2 ⟨e.names, e.rels⟩⟩, fun e => absurd e ht⟩
end Go.Proofs.YteafdhpcnpfmkaaGreat
/- Layer 9: what holds of a schema that is right. Conditions: none; nothing of the program is named here. -/
namespace Go.Proofs.YteafdhpcnpfmkaaGreat

theorem find_nodup {α : Type} (f : α → ByteArray) : ∀ (l : List α) (x : α), (l.map f).Nodup → x ∈ l → l.find? (fun y => decide (f y = f x)) = some x
  | y :: q, x, h, hx => by
    rw [List.map_cons, List.nodup_cons] at h
    rcases List.mem_cons.1 hx with rfl | hx
    · simp
    · have hne : f y ≠ f x := fun e => h.1 (e ▸ List.mem_map_of_mem hx)
      rw [List.find?_cons_of_neg (by simpa using hne)]
      exact find_nodup f q x h.2 hx
theorem Right.type {l : List TypI} (h : Right l) {t : TypI} (ht : t ∈ l) : firstT l t.name = some t := find_nodup (fun t : TypI => t.name) l t h.names ht
theorem RightR.rel {t : TypI} (h : RightR t) {r : RelI} (hr : r ∈ t.rels) : firstR t r.name = some r := find_nodup (fun r : RelI => r.name) t.rels r h.names hr
theorem Right.find {l : List TypI} (h : Right l) {t : TypI} (ht : t ∈ l) (n : ByteArray) : findI l t.name n = firstR t n := by
  unfold findI
  rw [h.type ht]
  rfl
theorem subsE_ok (l : List TypI) : ∀ (q ahead : List (ByteArray × ByteArray)), ahead.Nodup → (subsE l ahead q = 0 ↔ (∀ x ∈ q, subOk l x = true) ∧ (ahead ++ q).Nodup)
  | [], ahead, h => ⟨fun _ => ⟨fun x hx => (by cases hx), by rw [List.append_nil]; exact h⟩, fun _ => rfl⟩
  | x :: q, ahead, h => by
    unfold subsE
    by_cases h1 : subOk l x = false
    · rw [if_pos h1]
      refine ⟨fun e => (by cases e), fun ⟨a, _⟩ => ?_⟩
      have := a x List.mem_cons_self
      rw [h1] at this
      cases this
    · rw [if_neg h1]
      have h1 : subOk l x = true := by simpa using h1
      by_cases h2 : ahead.any (fun y => decide (y = x)) = true
      · rw [if_pos h2]
        refine ⟨fun e => (by cases e), fun ⟨_, a⟩ => ?_⟩
        obtain ⟨y, hy, e⟩ := List.any_eq_true.1 h2
        have e := of_decide_eq_true e
        rw [List.nodup_append] at a
        exact absurd e (a.2.2 y hy x List.mem_cons_self)
      · rw [if_neg h2]
        have hnd : (ahead ++ [x]).Nodup := by
          rw [List.nodup_append]
          refine ⟨h, by simp, fun a ha b hb e => ?_⟩
          rw [List.mem_singleton.1 hb] at e
          exact h2 (List.any_eq_true.2 ⟨a, ha, decide_eq_true e⟩)
        have ih := subsE_ok l q (ahead ++ [x]) hnd
        rw [List.append_assoc, List.singleton_append] at ih
        refine ih.trans ⟨fun ⟨a, b⟩ => ⟨fun y hy => ?_, b⟩, fun ⟨a, b⟩ => ⟨fun y hy => a y (List.mem_cons_of_mem _ hy), b⟩⟩
        rcases List.mem_cons.1 hy with rfl | hy
        · exact h1
        · exact a y hy
structure RightN (l : List TypI) (t : TypI) (r : RelI) : Prop where
  view : hasR t r.view = true
  edit : hasR t r.edit = true
  check : hasR t r.check = true
  subs : ∀ x ∈ r.subs, subOk l x = true
  twice : r.subs.Nodup
  ops : ∀ o ∈ r.ops, opOk l t o = true
theorem namedE_ok (l : List TypI) (t : TypI) (r : RelI) : namedE l t r = 0 ↔ RightN l t r := by
  have hs := subsE_ok l r.subs [] (by simp)
  rw [List.nil_append] at hs
  unfold namedE
  by_cases h1 : (hasR t r.view && (hasR t r.edit && hasR t r.check)) = false
  · rw [if_pos h1]
    refine ⟨fun e => (by cases e), fun e => ?_⟩
    rw [e.view, e.edit, e.check] at h1
    cases h1
  · rw [if_neg h1]
    have h1 : hasR t r.view = true ∧ hasR t r.edit = true ∧ hasR t r.check = true := by simpa using h1
    by_cases h2 : subsE l [] r.subs = 0
    · rw [if_neg (by simpa using h2)]
      by_cases h3 : r.ops.all (opOk l t) = false
      · rw [if_pos h3]
        refine ⟨fun e => (by cases e), fun e => ?_⟩
        rw [List.all_eq_true.2 e.ops] at h3
        cases h3
      · rw [if_neg h3]
        have h3 : r.ops.all (opOk l t) = true := by simpa using h3
        exact ⟨fun _ => ⟨h1.1, h1.2.1, h1.2.2, (hs.1 h2).1, (hs.1 h2).2, List.all_eq_true.1 h3⟩, fun _ => rfl⟩
    · rw [if_pos h2]
      exact ⟨fun e => absurd e h2, fun e => hs.2 ⟨e.subs, e.twice⟩⟩
theorem Right.all {l : List TypI} (h : Right l) {t : TypI} (ht : t ∈ l) {r : RelI} (hr : r ∈ t.rels) : RightN l t r := (namedE_ok l t r).1 (h.named t ht r hr)

/-- What is told is there. -/
theorem Right.told {l : List TypI} (h : Right l) {t : TypI} (ht : t ∈ l) {r : RelI} (hr : r ∈ t.rels) :
    hasI l t.name r.view = true ∧ hasI l t.name r.edit = true ∧ hasI l t.name r.check = true ∧ findI l t.name r.name = some r ∧ r.ops.length ≤ 16 ∧ t.rels.length ≤ 12 ∧
    (∀ s ∈ r.subs, s.2 ≠ ⟨#[]⟩ → hasI l s.1 s.2 = true) ∧ (∀ o ∈ r.ops, (o.1 = 2 ∨ o.1 = 3) → hasI l t.name o.2.1 = true) := by
  have k := h.all ht hr
  have hf := fun n => h.find ht n
  refine ⟨by unfold hasI; rw [hf]; exact k.view, by unfold hasI; rw [hf]; exact k.edit, by unfold hasI; rw [hf]; exact k.check, by rw [hf]; exact (h.rels t ht).rel hr, (h.rels t ht).ops r hr, (h.rels t ht).few, fun s hs hne => ?_, fun o ho hk => ?_⟩
  · have := k.subs s hs
    unfold subOk at this
    rw [Bool.and_eq_true, Bool.or_eq_true] at this
    exact this.2.resolve_left (by simpa using hne)
  · have := k.ops o ho
    unfold opOk at this
    unfold hasI
    rw [hf]
    rcases hk with hk | hk
    · rw [if_pos hk] at this
      exact this
    · rw [if_neg (by omega), if_pos hk] at this
      cases e : firstR t o.2.1 with
      | none => rw [e] at this; cases this
      | some x => rfl
theorem find_some9 {α : Type} {p : α → Bool} {l : List α} {x : α} (h : l.find? p = some x) : x ∈ l ∧ p x = true := ⟨List.mem_of_find?_eq_some h, List.find?_some h⟩
/-- Each is found by its names, and no other one. -/
theorem Right.there {l : List TypI} (h : Right l) (ty re : ByteArray) : hasI l ty re = true ↔ ∃ t ∈ l, ∃ r ∈ t.rels, t.name = ty ∧ r.name = re := by
  constructor
  · intro e
    unfold hasI findI at e
    cases h1 : firstT l ty with
    | none => rw [h1] at e; cases e
    | some t =>
      rw [h1] at e
      cases h2 : firstR t re with
      | none =>
        have e2 : (firstR t re).isSome = true := e
        rw [h2] at e2
        cases e2
      | some r =>
        obtain ⟨a, b⟩ := find_some9 h1
        obtain ⟨c, d⟩ := find_some9 h2
        exact ⟨t, a, r, c, of_decide_eq_true b, of_decide_eq_true d⟩
  · rintro ⟨t, ht, r, hr, rfl, rfl⟩
    unfold hasI
    rw [h.find ht, (h.rels t ht).rel hr]
    rfl

/-- A type once more behind. -/
theorem typsE_twice (t : TypI) : ∀ (q ahead : List TypI), ((ahead ++ q).map (·.name)).Nodup → (∀ x ∈ q, RightR x) → (∃ x ∈ ahead ++ q, x.name = t.name) → typsE ahead (q ++ [t]) = (32, t.name)
  | [], ahead, _, _, hx => by
    rw [List.append_nil] at hx
    show typsE ahead (t :: []) = _
    unfold typsE
    obtain ⟨x, hx, e⟩ := hx
    rw [if_pos (List.any_eq_true.2 ⟨x, hx, decide_eq_true e⟩)]
  | y :: q, ahead, h, hr, hx => by
    show typsE ahead (y :: (q ++ [t])) = _
    unfold typsE
    have h1 : ¬ ahead.any (fun x => decide (x.name = y.name)) = true := fun e => by
      obtain ⟨x, hx, hn⟩ := List.any_eq_true.1 e
      have hn := of_decide_eq_true hn
      rw [List.map_append, List.nodup_append] at h
      exact absurd hn (h.2.2 x.name (List.mem_map_of_mem hx) y.name (List.mem_map_of_mem List.mem_cons_self))
    have k := hr y List.mem_cons_self
    have h2 := k.few
    have h3 : (relsE y [] y.rels).1 = 0 := ((relsE_ok y y.rels [] (by simp)).1).2 ⟨by rw [List.nil_append]; exact k.names, k.ops⟩
    rw [if_neg h1, if_neg (by omega), if_neg (by simpa using h3)]
    exact typsE_twice t q (ahead ++ [y]) (by rw [List.append_assoc]; exact h) (fun x hx => hr x (List.mem_cons_of_mem _ hx)) (by rw [List.append_assoc]; exact hx)
theorem Right.twice {l : List TypI} (h : Right l) {t : TypI} (ht : t ∈ l) : checkE (l ++ [t]) = if 8 < l.length + 1 then (13, ⟨#[]⟩) else (32, t.name) := by
  unfold checkE
  rw [List.length_append, List.length_singleton]
  by_cases h8 : 8 < l.length + 1
  · rw [if_pos h8, if_pos h8]
  · rw [if_neg h8, if_neg h8]
    have e := typsE_twice t l [] (by rw [List.nil_append]; exact h.names) h.rels ⟨t, by rw [List.nil_append]; exact ht, rfl⟩
    rw [e, if_pos (show (32 : Nat) ≠ 0 by decide)]

/-- One type tells what the other tells, and perhaps more. -/
def ExtT (t u : TypI) : Prop := ∀ n r, firstR t n = some r → firstR u n = some r
def ExtL (l m : List TypI) : Prop := ∀ n t, firstT l n = some t → ∃ u, firstT m n = some u ∧ ExtT t u
theorem ExtT.refl (t : TypI) : ExtT t t := fun _ _ h => h
theorem ExtT.has {t u : TypI} (h : ExtT t u) {n : ByteArray} (e : hasR t n = true) : hasR u n = true := by
  unfold hasR at *
  cases k : firstR t n with
  | none => rw [k] at e; cases e
  | some r => rw [h n r k]; rfl
theorem ExtL.has {l m : List TypI} (h : ExtL l m) {n : ByteArray} (e : hasT l n = true) : hasT m n = true := by
  unfold hasT at *
  cases k : firstT l n with
  | none => rw [k] at e; cases e
  | some t =>
    obtain ⟨u, hu, _⟩ := h n t k
    rw [hu]; rfl
theorem ExtL.hasI {l m : List TypI} (h : ExtL l m) {a b : ByteArray} (e : hasI l a b = true) : hasI m a b = true := by
  unfold Go.Proofs.YteafdhpcnpfmkaaGreat.hasI findI at *
  cases k : firstT l a with
  | none => rw [k] at e; cases e
  | some t =>
    obtain ⟨u, hu, x⟩ := h a t k
    rw [k] at e
    rw [hu]
    exact x.has e
theorem ExtL.sub {l m : List TypI} (h : ExtL l m) {x : ByteArray × ByteArray} (e : subOk l x = true) : subOk m x = true := by
  unfold subOk at *
  rw [Bool.and_eq_true, Bool.or_eq_true] at *
  exact ⟨h.has e.1, e.2.imp id h.hasI⟩
theorem ExtL.op {l m : List TypI} (h : ExtL l m) {t u : TypI} (x : ExtT t u) {o : OpI} (e : opOk l t o = true) : opOk m u o = true := by
  unfold opOk at *
  by_cases h2 : o.1 = 2
  · rw [if_pos h2] at *
    exact x.has e
  · rw [if_neg h2] at *
    by_cases h3 : o.1 = 3
    · rw [if_pos h3] at *
      cases k : firstR t o.2.1 with
      | none => rw [k] at e; cases e
      | some r =>
        rw [k] at e
        rw [x _ r k]
        have e2 : leadsI l r o.2.2 = true := e
        show leadsI m r o.2.2 = true
        unfold leadsI at *
        obtain ⟨y, hy, ey⟩ := List.any_eq_true.1 e2
        rw [Bool.and_eq_true] at ey
        exact List.any_eq_true.2 ⟨y, hy, by rw [Bool.and_eq_true]; exact ⟨ey.1, h.hasI ey.2⟩⟩
    · rw [if_neg h3]
theorem ExtL.named {l m : List TypI} (h : ExtL l m) {t u : TypI} (x : ExtT t u) {r : RelI} (k : RightN l t r) : RightN m u r :=
  ⟨x.has k.view, x.has k.edit, x.has k.check, fun s hs => h.sub (k.subs s hs), k.twice, fun o ho => h.op x (k.ops o ho)⟩
/-- A type of another name, without relations, behind. -/
theorem Right.more {l : List TypI} (h : Right l) {n : ByteArray} (hn : ∀ t ∈ l, t.name ≠ n) (h8 : l.length < 8) : Right (l ++ [⟨n, []⟩]) := by
  have hx : ExtL l (l ++ [⟨n, []⟩]) := fun m t e => ⟨t, by unfold firstT at *; rw [List.find?_append, e]; rfl, ExtT.refl t⟩
  refine ⟨by rw [List.length_append]; show l.length + 1 ≤ 8; omega, ?_, fun t ht => ?_, fun t ht r hr => ?_⟩
  · rw [List.map_append, List.nodup_append]
    refine ⟨h.names, by simp, fun a ha b hb e => ?_⟩
    obtain ⟨t, ht, rfl⟩ := List.mem_map.1 ha
    simp only [List.map_cons, List.map_nil, List.mem_singleton] at hb
    exact hn t ht (e.trans hb)
  · rcases List.mem_append.1 ht with ht | ht
    · exact h.rels t ht
    · rw [List.mem_singleton.1 ht]
      exact ⟨Nat.zero_le _, by simp, fun r hr => by cases hr⟩
  · rcases List.mem_append.1 ht with ht | ht
    · exact (namedE_ok _ _ _).2 (hx.named (ExtT.refl t) (h.all ht hr))
    · rw [List.mem_singleton.1 ht] at hr
      cases hr
/-- A relation more, that names only itself. -/
def selfR (n : ByteArray) : RelI := ⟨n, n, n, n, [], [(1, ⟨#[]⟩, ⟨#[]⟩), (2, n, ⟨#[]⟩), (4, ⟨#[]⟩, ⟨#[]⟩)]⟩
def plusT (t : TypI) (n : ByteArray) : TypI := ⟨t.name, t.rels ++ [selfR n]⟩
theorem plus_ext (t : TypI) (n : ByteArray) : ExtT t (plusT t n) := fun m r e => by
  unfold firstR plusT at *
  dsimp only
  rw [List.find?_append, e]
  rfl
theorem plus_self {t : TypI} {n : ByteArray} (hn : ∀ r ∈ t.rels, r.name ≠ n) : firstR (plusT t n) n = some (selfR n) := by
  unfold firstR plusT
  dsimp only
  rw [List.find?_append, List.find?_eq_none.2 (fun r hr => by simpa using hn r hr)]
  simp [selfR]
theorem plus_extL (A B : List TypI) (t : TypI) (n : ByteArray) : ExtL (A ++ t :: B) (A ++ plusT t n :: B) := fun m u e => by
  unfold firstT at *
  rw [List.find?_append] at e ⊢
  cases hA : A.find? (fun t => decide (t.name = m)) with
  | some a =>
    rw [hA] at e
    exact ⟨u, e, ExtT.refl u⟩
  | none =>
    rw [hA] at e
    have e2 : (t :: B).find? (fun t => decide (t.name = m)) = some u := e
    show ∃ u, (plusT t n :: B).find? (fun t => decide (t.name = m)) = some u ∧ _
    by_cases ht : t.name = m
    · have e3 : t = u := by simpa [List.find?_cons, ht] using e2
      subst e3
      exact ⟨plusT t n, by simp [plusT, ht], plus_ext t n⟩
    · rw [List.find?_cons_of_neg (by simpa using ht)] at e2
      exact ⟨u, by rw [List.find?_cons_of_neg (by rw [decide_eq_true_eq]; exact ht)]; exact e2, ExtT.refl u⟩
theorem Right.plus {A B : List TypI} {t : TypI} (h : Right (A ++ t :: B)) {n : ByteArray} (hn : ∀ r ∈ t.rels, r.name ≠ n) (h12 : t.rels.length < 12) : Right (A ++ plusT t n :: B) := by
  have hx := plus_extL A B t n
  have ht : t ∈ A ++ t :: B := by simp
  have kt := h.rels t ht
  refine ⟨?_, ?_, fun u hu => ?_, fun u hu r hr => ?_⟩
  · have := h.few
    rw [List.length_append, List.length_cons] at *
    exact this
  · have := h.names
    rw [List.map_append, List.map_cons] at *
    exact this
  · have hu' : u ∈ A ++ t :: B ∨ u = plusT t n := by
      rcases List.mem_append.1 hu with hu | hu
      · exact .inl (List.mem_append_left _ hu)
      · rcases List.mem_cons.1 hu with rfl | hu
        · exact .inr rfl
        · exact .inl (List.mem_append_right _ (List.mem_cons_of_mem _ hu))
    rcases hu' with hu | rfl
    · exact h.rels u hu
    · refine ⟨by show (t.rels ++ [_]).length ≤ 12; rw [List.length_append, List.length_singleton]; omega, ?_, fun r hr => ?_⟩
      · show ((t.rels ++ [selfR n]).map (·.name)).Nodup
        rw [List.map_append, List.nodup_append]
        refine ⟨kt.names, by simp, fun a ha b hb e => ?_⟩
        obtain ⟨r, hr, rfl⟩ := List.mem_map.1 ha
        simp only [List.map_cons, List.map_nil, List.mem_singleton] at hb
        exact hn r hr (e.trans hb)
      · rcases List.mem_append.1 hr with hr | hr
        · exact kt.ops r hr
        · rw [List.mem_singleton.1 hr]
          show 3 ≤ 16
          decide
  · refine (namedE_ok _ _ _).2 ?_
    rcases List.mem_append.1 hu with hu | hu
    · exact hx.named (ExtT.refl u) (h.all (List.mem_append_left _ hu) hr)
    · rcases List.mem_cons.1 hu with rfl | hu
      · rcases List.mem_append.1 hr with hr | hr
        · exact hx.named (plus_ext t n) (h.all ht hr)
        · rw [List.mem_singleton.1 hr]
          have hs : hasR (plusT t n) n = true := by unfold hasR; rw [plus_self hn]; rfl
          refine ⟨hs, hs, hs, fun x hx => (by cases hx), by simp [selfR], fun o ho => ?_⟩
          have : o = (1, ⟨#[]⟩, ⟨#[]⟩) ∨ o = (2, n, ⟨#[]⟩) ∨ o = (4, ⟨#[]⟩, ⟨#[]⟩) := by simpa [selfR] using ho
          rcases this with rfl | rfl | rfl
          · rfl
          · unfold opOk; rw [if_pos rfl]; exact hs
          · rfl
      · exact hx.named (ExtT.refl u) (h.all (List.mem_append_right _ (List.mem_cons_of_mem _ hu)) hr)
theorem typsE_long (t : TypI) (B : List TypI) (h12 : 12 < t.rels.length) : ∀ (q ahead : List TypI), ((ahead ++ q).map (·.name)).Nodup → (∀ x ∈ q, RightR x) → (∀ x ∈ ahead ++ q, x.name ≠ t.name) → typsE ahead (q ++ t :: B) = (13, t.name)
  | [], ahead, _, _, hx => by
    rw [List.append_nil] at hx
    show typsE ahead (t :: B) = _
    unfold typsE
    rw [if_neg (fun e => by obtain ⟨x, hm, e⟩ := List.any_eq_true.1 e; exact hx x hm (of_decide_eq_true e)), if_pos h12]
  | y :: q, ahead, h, hr, hx => by
    show typsE ahead (y :: (q ++ t :: B)) = _
    unfold typsE
    have h1 : ¬ ahead.any (fun x => decide (x.name = y.name)) = true := fun e => by
      obtain ⟨x, hx, hn⟩ := List.any_eq_true.1 e
      have hn := of_decide_eq_true hn
      rw [List.map_append, List.nodup_append] at h
      exact absurd hn (h.2.2 x.name (List.mem_map_of_mem hx) y.name (List.mem_map_of_mem List.mem_cons_self))
    have k := hr y List.mem_cons_self
    have h2 := k.few
    have h3 : (relsE y [] y.rels).1 = 0 := ((relsE_ok y y.rels [] (by simp)).1).2 ⟨by rw [List.nil_append]; exact k.names, k.ops⟩
    rw [if_neg h1, if_neg (by omega), if_neg (by simpa using h3)]
    exact typsE_long t B h12 q (ahead ++ [y]) (by rw [List.append_assoc]; exact h) (fun x hx => hr x (List.mem_cons_of_mem _ hx)) (by rw [List.append_assoc]; exact hx)
theorem Right.plusLong {A B : List TypI} {t : TypI} (h : Right (A ++ t :: B)) {n : ByteArray} (h12 : 12 ≤ t.rels.length) : checkE (A ++ plusT t n :: B) = (13, t.name) := by
  have h8 := h.few
  have hnm := h.names
  rw [List.length_append, List.length_cons] at h8
  rw [List.map_append, List.map_cons, List.nodup_append] at hnm
  unfold checkE
  have hl : (A ++ plusT t n :: B).length = A.length + (B.length + 1) := by rw [List.length_append, List.length_cons]
  rw [hl, if_neg (by omega)]
  have e := typsE_long (plusT t n) B (by show 12 < (t.rels ++ [_]).length; rw [List.length_append, List.length_singleton]; omega) A [] (by rw [List.nil_append]; exact hnm.1) (fun x hx => h.rels x (List.mem_append_left _ hx)) (fun x hx e => by
    rw [List.nil_append] at hx
    exact hnm.2.2 x.name (List.mem_map_of_mem hx) t.name List.mem_cons_self e)
  rw [e, if_pos (show (13 : Nat) ≠ 0 by decide)]
  rfl
end Go.Proofs.YteafdhpcnpfmkaaGreat
