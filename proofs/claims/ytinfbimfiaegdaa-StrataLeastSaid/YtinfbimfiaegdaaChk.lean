/- Layer 9: whether a schema holds together, as plain functions. Conditions: none; nothing of the program is named here. -/
import Derived.Test.YtinfbimfiaegdaaPlain
namespace Go.Proofs.Ytinfbimfiaegdaa

abbrev OpI := Int × ByteArray × ByteArray
structure RelI where
  name : ByteArray
  view : ByteArray
  edit : ByteArray
  check : ByteArray
  subs : List (ByteArray × ByteArray)
  ops : List OpI
  deriving DecidableEq
structure TypI where
  name : ByteArray
  rels : List RelI
  deriving DecidableEq

def firstT (l : List TypI) (n : ByteArray) : Option TypI := l.find? fun t => decide (t.name = n)
def firstR (t : TypI) (n : ByteArray) : Option RelI := t.rels.find? fun r => decide (r.name = n)
def hasT (l : List TypI) (n : ByteArray) : Bool := (firstT l n).isSome
def hasR (t : TypI) (n : ByteArray) : Bool := (firstR t n).isSome
/-- Find: the first relation of that name of the first type of that name. -/
def findI (l : List TypI) (ty re : ByteArray) : Option RelI := (firstT l ty).bind fun t => firstR t re
def hasI (l : List TypI) (ty re : ByteArray) : Bool := (findI l ty re).isSome
def leadsI (l : List TypI) (r : RelI) (next : ByteArray) : Bool := r.subs.any fun x => decide (x.2 = ⟨#[]⟩) && hasI l x.1 next
def opOk (l : List TypI) (t : TypI) (o : OpI) : Bool :=
  if o.1 = 2 then hasR t o.2.1
  else if o.1 = 3 then (match firstR t o.2.1 with
    | none => false
    | some r => leadsI l r o.2.2)
  else true
def subOk (l : List TypI) (x : ByteArray × ByteArray) : Bool := hasT l x.1 && (decide (x.2 = ⟨#[]⟩) || hasI l x.1 x.2)
/-- The first that is wrong among who may stand in a tuple. -/
def subsE (l : List TypI) : List (ByteArray × ByteArray) → List (ByteArray × ByteArray) → Nat
  | _, [] => 0
  | ahead, x :: r => if subOk l x = false then 31 else if ahead.any (fun y => decide (y = x)) = true then 32 else subsE l (ahead ++ [x]) r
def namedE (l : List TypI) (t : TypI) (r : RelI) : Nat :=
  if (hasR t r.view && (hasR t r.edit && hasR t r.check)) = false then 31
  else if subsE l [] r.subs ≠ 0 then subsE l [] r.subs
  else if r.ops.all (opOk l t) = false then 31 else 0
def pathS (t : TypI) (r : RelI) : ByteArray := t.name ++ ⟨#[46]⟩ ++ r.name
/-- Type by type: names that stand twice, and what is too long. -/
def relsE (t : TypI) : List RelI → List RelI → Nat × ByteArray
  | _, [] => (0, ⟨#[]⟩)
  | ahead, r :: q => if ahead.any (fun x => decide (x.name = r.name)) = true then (32, pathS t r) else if 16 < r.ops.length then (13, pathS t r) else relsE t (ahead ++ [r]) q
def typsE : List TypI → List TypI → Nat × ByteArray
  | _, [] => (0, ⟨#[]⟩)
  | ahead, t :: q => if ahead.any (fun x => decide (x.name = t.name)) = true then (32, t.name) else if 12 < t.rels.length then (13, t.name)
    else if (relsE t [] t.rels).1 ≠ 0 then relsE t [] t.rels else typsE (ahead ++ [t]) q
/-- Once more: what is named is there. -/
def namesRE (l : List TypI) (t : TypI) : List RelI → Nat × ByteArray
  | [] => (0, ⟨#[]⟩)
  | r :: q => if namedE l t r ≠ 0 then (namedE l t r, pathS t r) else namesRE l t q
def namesE (l : List TypI) : List TypI → Nat × ByteArray
  | [] => (0, ⟨#[]⟩)
  | t :: q => if (namesRE l t t.rels).1 ≠ 0 then namesRE l t t.rels else namesE l q
def checkE (l : List TypI) : Nat × ByteArray :=
  if 8 < l.length then (13, ⟨#[]⟩) else if (typsE [] l).1 ≠ 0 then typsE [] l else namesE l l

/-- A schema that is right. -/
structure RightR (t : TypI) : Prop where
  few : t.rels.length ≤ 12
  names : (t.rels.map (·.name)).Nodup
  ops : ∀ r ∈ t.rels, r.ops.length ≤ 16
structure Right (l : List TypI) : Prop where
  few : l.length ≤ 8
  names : (l.map (·.name)).Nodup
  rels : ∀ t ∈ l, RightR t
  named : ∀ t ∈ l, ∀ r ∈ t.rels, namedE l t r = 0

theorem relsE_ok (t : TypI) : ∀ (q ahead : List RelI), (ahead.map (·.name)).Nodup →
    ((relsE t ahead q).1 = 0 ↔ ((ahead ++ q).map (·.name)).Nodup ∧ ∀ r ∈ q, r.ops.length ≤ 16) ∧ ((relsE t ahead q).1 = 0 → relsE t ahead q = (0, ⟨#[]⟩))
  | [], ahead, h => ⟨⟨fun _ => ⟨by rw [List.append_nil]; exact h, fun r hr => by cases hr⟩, fun _ => rfl⟩, fun _ => rfl⟩
  | r :: q, ahead, h => by
    unfold relsE
    by_cases h1 : ahead.any (fun x => decide (x.name = r.name)) = true
    · rw [if_pos h1]
      refine ⟨⟨fun e => (by cases e), fun ⟨e, _⟩ => ?_⟩, fun e => (by cases e)⟩
      obtain ⟨x, hx, hn⟩ := List.any_eq_true.1 h1
      have hn := of_decide_eq_true hn
      rw [List.map_append, List.nodup_append] at e
      exact absurd hn (e.2.2 x.name (List.mem_map_of_mem hx) r.name (List.mem_map_of_mem List.mem_cons_self))
    · rw [if_neg h1]
      by_cases h2 : 16 < r.ops.length
      · rw [if_pos h2]
        refine ⟨⟨fun e => (by cases e), fun ⟨_, e⟩ => ?_⟩, fun e => (by cases e)⟩
        have := e r List.mem_cons_self
        omega
      · rw [if_neg h2]
        have hnd : ((ahead ++ [r]).map (·.name)).Nodup := by
          rw [List.map_append, List.nodup_append]
          refine ⟨h, by simp, fun a ha b hb => ?_⟩
          obtain ⟨x, hx, rfl⟩ := List.mem_map.1 ha
          simp only [List.map_cons, List.map_nil, List.mem_singleton] at hb
          subst hb
          intro e
          exact h1 (List.any_eq_true.2 ⟨x, hx, decide_eq_true e⟩)
        obtain ⟨ih, ih2⟩ := relsE_ok t q (ahead ++ [r]) hnd
        rw [List.append_assoc, List.singleton_append] at ih
        refine ⟨ih.trans ⟨fun ⟨a, b⟩ => ⟨a, fun x hx => ?_⟩, fun ⟨a, b⟩ => ⟨a, fun x hx => b x (List.mem_cons_of_mem _ hx)⟩⟩, ih2⟩
        rcases List.mem_cons.1 hx with rfl | hx
        · omega
        · exact b x hx
theorem typsE_ok : ∀ (q ahead : List TypI), (ahead.map (·.name)).Nodup →
    ((typsE ahead q).1 = 0 ↔ ((ahead ++ q).map (·.name)).Nodup ∧ ∀ t ∈ q, RightR t) ∧ ((typsE ahead q).1 = 0 → typsE ahead q = (0, ⟨#[]⟩))
  | [], ahead, h => ⟨⟨fun _ => ⟨by rw [List.append_nil]; exact h, fun r hr => by cases hr⟩, fun _ => rfl⟩, fun _ => rfl⟩
  | t :: q, ahead, h => by
    unfold typsE
    by_cases h1 : ahead.any (fun x => decide (x.name = t.name)) = true
    · rw [if_pos h1]
      refine ⟨⟨fun e => (by cases e), fun ⟨e, _⟩ => ?_⟩, fun e => (by cases e)⟩
      obtain ⟨x, hx, hn⟩ := List.any_eq_true.1 h1
      have hn := of_decide_eq_true hn
      rw [List.map_append, List.nodup_append] at e
      exact absurd hn (e.2.2 x.name (List.mem_map_of_mem hx) t.name (List.mem_map_of_mem List.mem_cons_self))
    · rw [if_neg h1]
      by_cases h2 : 12 < t.rels.length
      · rw [if_pos h2]
        refine ⟨⟨fun e => (by cases e), fun ⟨_, e⟩ => ?_⟩, fun e => (by cases e)⟩
        have := (e t List.mem_cons_self).few
        omega
      · rw [if_neg h2]
        obtain ⟨hr, hr2⟩ := relsE_ok t t.rels [] (by simp)
        rw [List.nil_append] at hr
        by_cases h3 : (relsE t [] t.rels).1 = 0
        · rw [if_neg (by simpa using h3)]
          have hnd : ((ahead ++ [t]).map (·.name)).Nodup := by
            rw [List.map_append, List.nodup_append]
            refine ⟨h, by simp, fun a ha b hb => ?_⟩
            obtain ⟨x, hx, rfl⟩ := List.mem_map.1 ha
            simp only [List.map_cons, List.map_nil, List.mem_singleton] at hb
            subst hb
            intro e
            exact h1 (List.any_eq_true.2 ⟨x, hx, decide_eq_true e⟩)
          obtain ⟨ih, ih2⟩ := typsE_ok q (ahead ++ [t]) hnd
          rw [List.append_assoc, List.singleton_append] at ih
          refine ⟨ih.trans ⟨fun ⟨a, b⟩ => ⟨a, fun x hx => ?_⟩, fun ⟨a, b⟩ => ⟨a, fun x hx => b x (List.mem_cons_of_mem _ hx)⟩⟩, ih2⟩
          rcases List.mem_cons.1 hx with rfl | hx
          · exact ⟨by omega, (hr.1 h3).1, (hr.1 h3).2⟩
          · exact b x hx
        · rw [if_pos h3]
          refine ⟨⟨fun e => absurd e h3, fun ⟨_, e⟩ => ?_⟩, fun e => absurd e h3⟩
          have k := e t List.mem_cons_self
          exact hr.2 ⟨k.names, k.ops⟩
theorem namesRE_ok (l : List TypI) (t : TypI) : ∀ q : List RelI, ((namesRE l t q).1 = 0 ↔ ∀ r ∈ q, namedE l t r = 0) ∧ ((namesRE l t q).1 = 0 → namesRE l t q = (0, ⟨#[]⟩))
  | [] => ⟨⟨fun _ r hr => (by cases hr), fun _ => rfl⟩, fun _ => rfl⟩
  | r :: q => by
    obtain ⟨ih, ih2⟩ := namesRE_ok l t q
    unfold namesRE
    by_cases h : namedE l t r = 0
    · rw [if_neg (by simpa using h)]
      refine ⟨ih.trans ⟨fun a x hx => ?_, fun a x hx => a x (List.mem_cons_of_mem _ hx)⟩, ih2⟩
      rcases List.mem_cons.1 hx with rfl | hx
      · exact h
      · exact a x hx
    · rw [if_pos h]
      exact ⟨⟨fun e => absurd e h, fun a => absurd (a r List.mem_cons_self) h⟩, fun e => absurd e h⟩
theorem namesE_ok (l : List TypI) : ∀ q : List TypI, ((namesE l q).1 = 0 ↔ ∀ t ∈ q, ∀ r ∈ t.rels, namedE l t r = 0) ∧ ((namesE l q).1 = 0 → namesE l q = (0, ⟨#[]⟩))
  | [] => ⟨⟨fun _ r hr => (by cases hr), fun _ => rfl⟩, fun _ => rfl⟩
  | t :: q => by
    obtain ⟨ih, ih2⟩ := namesE_ok l q
    obtain ⟨hr, hr2⟩ := namesRE_ok l t t.rels
    unfold namesE
    by_cases h : (namesRE l t t.rels).1 = 0
    · rw [if_neg (by simpa using h)]
      refine ⟨ih.trans ⟨fun a x hx => ?_, fun a x hx => a x (List.mem_cons_of_mem _ hx)⟩, ih2⟩
      rcases List.mem_cons.1 hx with rfl | hx
      · exact hr.1 h
      · exact a x hx
    · rw [if_pos h]
      exact ⟨⟨fun e => absurd e h, fun a => hr.2 (a t List.mem_cons_self)⟩, fun e => absurd e h⟩
/-- It is told to be right if it is. -/
theorem checkE_ok (l : List TypI) : ((checkE l).1 = 0 ↔ Right l) ∧ ((checkE l).1 = 0 → checkE l = (0, ⟨#[]⟩)) := by
  obtain ⟨h1, h2⟩ := typsE_ok l [] (by simp)
  obtain ⟨n1, n2⟩ := namesE_ok l l
  rw [List.nil_append] at h1
  unfold checkE
  by_cases h8 : 8 < l.length
  · rw [if_pos h8]
    refine ⟨⟨fun e => (by cases e), fun e => ?_⟩, fun e => (by cases e)⟩
    have := e.few
    omega
  · rw [if_neg h8]
    by_cases ht : (typsE [] l).1 = 0
    · rw [if_neg (by simpa using ht)]
      refine ⟨n1.trans ⟨fun a => ⟨by omega, (h1.1 ht).1, (h1.1 ht).2, a⟩, fun e => e.named⟩, n2⟩
    · rw [if_pos ht]
      exact ⟨⟨fun e => absurd e ht, fun e => h1.2 ⟨e.names, e.rels⟩⟩, fun e => absurd e ht⟩
end Go.Proofs.Ytinfbimfiaegdaa
