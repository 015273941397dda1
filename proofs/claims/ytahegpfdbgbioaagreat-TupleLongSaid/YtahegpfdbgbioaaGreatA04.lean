import Derived.SizedLaws
import Derived.Deep.Slices
import Derived.Deep.Fields
import Derived.Test.YtahegpfdbgbioaaGreatA03
set_option maxRecDepth 100000
set_option maxHeartbeats 4000000
namespace Go.Proofs.YtahegpfdbgbioaaGreat
abbrev OpI := Int × ByteArray × ByteArray
structure RelI where
 name : ByteArray
 view : ByteArray
 edit : ByteArray
 check : ByteArray
 subs : List (ByteArray × ByteArray)
 ops : List OpI
 deriving DecidableEq
structure TypI where
 name : ByteArray
 rels : List RelI
 deriving DecidableEq
def firstT (l : List TypI) (n : ByteArray) : Option TypI := l.find? fun t => decide (t.name = n)
def firstR (t : TypI) (n : ByteArray) : Option RelI := t.rels.find? fun r => decide (r.name = n)
def hasT (l : List TypI) (n : ByteArray) : Bool := (firstT l n).isSome
def hasR (t : TypI) (n : ByteArray) : Bool := (firstR t n).isSome
def findI (l : List TypI) (ty re : ByteArray) : Option RelI := (firstT l ty).bind fun t => firstR t re
def hasI (l : List TypI) (ty re : ByteArray) : Bool := (findI l ty re).isSome
def leadsI (l : List TypI) (r : RelI) (next : ByteArray) : Bool := r.subs.any fun x => decide (x.2 = ⟨#[]⟩) && hasI l x.1 next
def opOk (l : List TypI) (t : TypI) (o : OpI) : Bool :=
 if o.1 = 2 then hasR t o.2.1
 else if o.1 = 3 then (match firstR t o.2.1 with
  | none => false
  | some r => leadsI l r o.2.2)
 else true
def subOk (l : List TypI) (x : ByteArray × ByteArray) : Bool := hasT l x.1 && (decide (x.2 = ⟨#[]⟩) || hasI l x.1 x.2)
def subsE (l : List TypI) : List (ByteArray × ByteArray) → List (ByteArray × ByteArray) → Nat
 | _, [] => 0
 | ahead, x :: r => if subOk l x = false then 31 else if ahead.any (fun y => decide (y = x)) = true then 32 else subsE l (ahead ++ [x]) r
def namedE (l : List TypI) (t : TypI) (r : RelI) : Nat :=
 if (hasR t r.view && (hasR t r.edit && hasR t r.check)) = false then 31
 else if subsE l [] r.subs ≠ 0 then subsE l [] r.subs
 else if r.ops.all (opOk l t) = false then 31 else 0
def pathS (t : TypI) (r : RelI) : ByteArray := t.name ++ ⟨#[46]⟩ ++ r.name
def relsE (t : TypI) : List RelI → List RelI → Nat × ByteArray
 | _, [] => (0, ⟨#[]⟩)
 | ahead, r :: q => if ahead.any (fun x => decide (x.name = r.name)) = true then (32, pathS t r) else if 16 < r.ops.length then (13, pathS t r) else relsE t (ahead ++ [r]) q
def typsE : List TypI → List TypI → Nat × ByteArray
 | _, [] => (0, ⟨#[]⟩)
 | ahead, t :: q => if ahead.any (fun x => decide (x.name = t.name)) = true then (32, t.name) else if 12 < t.rels.length then (13, t.name)
  else if (relsE t [] t.rels).1 ≠ 0 then relsE t [] t.rels else typsE (ahead ++ [t]) q
def namesRE (l : List TypI) (t : TypI) : List RelI → Nat × ByteArray
 | [] => (0, ⟨#[]⟩)
 | r :: q => if namedE l t r ≠ 0 then (namedE l t r, pathS t r) else namesRE l t q
def namesE (l : List TypI) : List TypI → Nat × ByteArray
 | [] => (0, ⟨#[]⟩)
 | t :: q => if (namesRE l t t.rels).1 ≠ 0 then namesRE l t t.rels else namesE l q
def checkE (l : List TypI) : Nat × ByteArray :=
 if 8 < l.length then (13, ⟨#[]⟩) else if (typsE [] l).1 ≠ 0 then typsE [] l else namesE l l
structure RightR (t : TypI) : Prop where
 few : t.rels.length ≤ 12
 names : (t.rels.map (·.name)).Nodup
 ops : ∀ r ∈ t.rels, r.ops.length ≤ 16
structure Right (l : List TypI) : Prop where
 few : l.length ≤ 8
 names : (l.map (·.name)).Nodup
 rels : ∀ t ∈ l, RightR t
 named : ∀ t ∈ l, ∀ r ∈ t.rels, namedE l t r = 0
theorem relsE_ok (t : TypI) : ∀ (q ahead : List RelI), (ahead.map (·.name)).Nodup →
 ((relsE t ahead q).1 = 0 ↔ ((ahead ++ q).map (·.name)).Nodup ∧ ∀ r ∈ q, r.ops.length ≤ 16) ∧ ((relsE t ahead q).1 = 0 → relsE t ahead q = (0, ⟨#[]⟩))
 | [], ahead, h => ⟨⟨fun _ => ⟨by rw [List.append_nil]; exact h, fun r hr => by cases hr⟩, fun _ => rfl⟩, fun _ => rfl⟩
 | r :: q, ahead, h => by
  unfold relsE
  by_cases h1 : ahead.any (fun x => decide (x.name = r.name)) = true
  · rw [if_pos h1]
    refine ⟨⟨fun e => (by cases e), fun ⟨e, _⟩ => ?_⟩, fun e => (by cases e)⟩
    obtain ⟨x, hx, hn⟩ := List.any_eq_true.1 h1
    have hn := of_decide_eq_true hn
    rw [List.map_append, List.nodup_append] at e
    exact absurd hn (e.2.2 x.name (List.mem_map_of_mem hx) r.name (List.mem_map_of_mem List.mem_cons_self))
  · rw [if_neg h1]
    by_cases h2 : 16 < r.ops.length
    · rw [if_pos h2]
      refine ⟨⟨fun e => (by cases e), fun ⟨_, e⟩ => ?_⟩, fun e => (by cases e)⟩
      have := e r List.mem_cons_self
      omega
    · rw [if_neg h2]
      have hnd : ((ahead ++ [r]).map (·.name)).Nodup := by
       rw [List.map_append, List.nodup_append]
       refine ⟨h, by simp, fun a ha b hb => ?_⟩
       obtain ⟨x, hx, rfl⟩ := List.mem_map.1 ha
       simp only [List.map_cons, List.map_nil, List.mem_singleton] at hb
       subst hb
       intro e
       exact h1 (List.any_eq_true.2 ⟨x, hx, decide_eq_true e⟩)
      obtain ⟨ih, ih2⟩ := relsE_ok t q (ahead ++ [r]) hnd
      rw [List.append_assoc, List.singleton_append] at ih
      refine ⟨ih.trans ⟨fun ⟨a, b⟩ => ⟨a, fun x hx => ?_⟩, fun ⟨a, b⟩ => ⟨a, fun x hx => b x (List.mem_cons_of_mem _ hx)⟩⟩, ih2⟩
      rcases List.mem_cons.1 hx with rfl | hx
      · omega
      · exact b x hx
theorem typsE_ok : ∀ (q ahead : List TypI), (ahead.map (·.name)).Nodup →
 ((typsE ahead q).1 = 0 ↔ ((ahead ++ q).map (·.name)).Nodup ∧ ∀ t ∈ q, RightR t) ∧ ((typsE ahead q).1 = 0 → typsE ahead q = (0, ⟨#[]⟩))
 | [], ahead, h => ⟨⟨fun _ => ⟨by rw [List.append_nil]; exact h, fun r hr => by cases hr⟩, fun _ => rfl⟩, fun _ => rfl⟩
 | t :: q, ahead, h => by
  unfold typsE
  by_cases h1 : ahead.any (fun x => decide (x.name = t.name)) = true
  · rw [if_pos h1]
    refine ⟨⟨fun e => (by cases e), fun ⟨e, _⟩ => ?_⟩, fun e => (by cases e)⟩
    obtain ⟨x, hx, hn⟩ := List.any_eq_true.1 h1
    have hn := of_decide_eq_true hn
    rw [List.map_append, List.nodup_append] at e
    exact absurd hn (e.2.2 x.name (List.mem_map_of_mem hx) t.name (List.mem_map_of_mem List.mem_cons_self))
  · rw [if_neg h1]
    by_cases h2 : 12 < t.rels.length
    · rw [if_pos h2]
      refine ⟨⟨fun e => (by cases e), fun ⟨_, e⟩ => ?_⟩, fun e => (by cases e)⟩
      have := (e t List.mem_cons_self).few
      omega
    · rw [if_neg h2]
      obtain ⟨hr, hr2⟩ := relsE_ok t t.rels [] (by simp)
      rw [List.nil_append] at hr
      by_cases h3 : (relsE t [] t.rels).1 = 0
      · rw [if_neg (by simpa using h3)]
        have hnd : ((ahead ++ [t]).map (·.name)).Nodup := by
         rw [List.map_append, List.nodup_append]
         refine ⟨h, by simp, fun a ha b hb => ?_⟩
         obtain ⟨x, hx, rfl⟩ := List.mem_map.1 ha
         simp only [List.map_cons, List.map_nil, List.mem_singleton] at hb
         subst hb
         intro e
         exact h1 (List.any_eq_true.2 ⟨x, hx, decide_eq_true e⟩)
        obtain ⟨ih, ih2⟩ := typsE_ok q (ahead ++ [t]) hnd
        rw [List.append_assoc, List.singleton_append] at ih
        refine ⟨ih.trans ⟨fun ⟨a, b⟩ => ⟨a, fun x hx => ?_⟩, fun ⟨a, b⟩ => ⟨a, fun x hx => b x (List.mem_cons_of_mem _ hx)⟩⟩, ih2⟩
        rcases List.mem_cons.1 hx with rfl | hx
        · exact ⟨by omega, (hr.1 h3).1, (hr.1 h3).2⟩
        · exact b x hx
      · rw [if_pos h3]
        refine ⟨⟨fun e => absurd e h3, fun ⟨_, e⟩ => ?_⟩, fun e => absurd e h3⟩
        have k := e t List.mem_cons_self
        exact hr.2 ⟨k.names, k.ops⟩
theorem namesRE_ok (l : List TypI) (t : TypI) : ∀ q : List RelI, ((namesRE l t q).1 = 0 ↔ ∀ r ∈ q, namedE l t r = 0) ∧ ((namesRE l t q).1 = 0 → namesRE l t q = (0, ⟨#[]⟩))
 | [] => ⟨⟨fun _ r hr => (by cases hr), fun _ => rfl⟩, fun _ => rfl⟩
 | r :: q => by
  obtain ⟨ih, ih2⟩ := namesRE_ok l t q
  unfold namesRE
  by_cases h : namedE l t r = 0
  · rw [if_neg (by simpa using h)]
    refine ⟨ih.trans ⟨fun a x hx => ?_, fun a x hx => a x (List.mem_cons_of_mem _ hx)⟩, ih2⟩
    rcases List.mem_cons.1 hx with rfl | hx
    · exact h
    · exact a x hx
  · rw [if_pos h]
    exact ⟨⟨fun e => absurd e h, fun a => absurd (a r List.mem_cons_self) h⟩, fun e => absurd e h⟩
theorem namesE_ok (l : List TypI) : ∀ q : List TypI, ((namesE l q).1 = 0 ↔ ∀ t ∈ q, ∀ r ∈ t.rels, namedE l t r = 0) ∧ ((namesE l q).1 = 0 → namesE l q = (0, ⟨#[]⟩))
 | [] => ⟨⟨fun _ r hr => (by cases hr), fun _ => rfl⟩, fun _ => rfl⟩
 | t :: q => by
  obtain ⟨ih, ih2⟩ := namesE_ok l q
  obtain ⟨hr, hr2⟩ := namesRE_ok l t t.rels
  unfold namesE
  by_cases h : (namesRE l t t.rels).1 = 0
  · rw [if_neg (by simpa using h)]
    refine ⟨ih.trans ⟨fun a x hx => ?_, fun a x hx => a x (List.mem_cons_of_mem _ hx)⟩, ih2⟩
    rcases List.mem_cons.1 hx with rfl | hx
    · exact hr.1 h
    · exact a x hx
  · rw [if_pos h]
    exact ⟨⟨fun e => absurd e h, fun a => hr.2 (a t List.mem_cons_self)⟩, fun e => absurd e h⟩
theorem checkE_ok (l : List TypI) : ((checkE l).1 = 0 ↔ Right l) ∧ ((checkE l).1 = 0 → checkE l = (0, ⟨#[]⟩)) := by
 obtain ⟨h1, h2⟩ := typsE_ok l [] (by simp)
 obtain ⟨n1, n2⟩ := namesE_ok l l
 rw [List.nil_append] at h1
 unfold checkE
 by_cases h8 : 8 < l.length
 · rw [if_pos h8]
   refine ⟨⟨fun e => (by cases e), fun e => ?_⟩, fun e => (by cases e)⟩
   have := e.few
   omega
 · rw [if_neg h8]
   by_cases ht : (typsE [] l).1 = 0
   · rw [if_neg (by simpa using ht)]
     refine ⟨n1.trans ⟨fun a => ⟨by omega, (h1.1 ht).1, (h1.1 ht).2, a⟩, fun e => e.named⟩, n2⟩
   · rw [if_pos ht]
     exact ⟨⟨fun e => absurd e ht, fun e => h1.2 ⟨e.names, e.rels⟩⟩, fun e => absurd e ht⟩
theorem find_nodup {α : Type} (f : α → ByteArray) : ∀ (l : List α) (x : α), (l.map f).Nodup → x ∈ l → l.find? (fun y => decide (f y = f x)) = some x
 | y :: q, x, h, hx => by
  rw [List.map_cons, List.nodup_cons] at h
  rcases List.mem_cons.1 hx with rfl | hx
  · simp
  · have hne : f y ≠ f x := fun e => h.1 (e ▸ List.mem_map_of_mem hx)
    rw [List.find?_cons_of_neg (by simpa using hne)]
    exact find_nodup f q x h.2 hx
theorem Right.type {l : List TypI} (h : Right l) {t : TypI} (ht : t ∈ l) : firstT l t.name = some t := find_nodup (fun t : TypI => t.name) l t h.names ht
theorem RightR.rel {t : TypI} (h : RightR t) {r : RelI} (hr : r ∈ t.rels) : firstR t r.name = some r := find_nodup (fun r : RelI => r.name) t.rels r h.names hr
theorem Right.find {l : List TypI} (h : Right l) {t : TypI} (ht : t ∈ l) (n : ByteArray) : findI l t.name n = firstR t n := by
 unfold findI
 rw [h.type ht]
 rfl
theorem subsE_ok (l : List TypI) : ∀ (q ahead : List (ByteArray × ByteArray)), ahead.Nodup → (subsE l ahead q = 0 ↔ (∀ x ∈ q, subOk l x = true) ∧ (ahead ++ q).Nodup)
 | [], ahead, h => ⟨fun _ => ⟨fun x hx => (by cases hx), by rw [List.append_nil]; exact h⟩, fun _ => rfl⟩
 | x :: q, ahead, h => by
  unfold subsE
  by_cases h1 : subOk l x = false
  · rw [if_pos h1]
    refine ⟨fun e => (by cases e), fun ⟨a, _⟩ => ?_⟩
    have := a x List.mem_cons_self
    rw [h1] at this
    cases this
  · rw [if_neg h1]
    have h1 : subOk l x = true := by simpa using h1
    by_cases h2 : ahead.any (fun y => decide (y = x)) = true
    · rw [if_pos h2]
      refine ⟨fun e => (by cases e), fun ⟨_, a⟩ => ?_⟩
      obtain ⟨y, hy, e⟩ := List.any_eq_true.1 h2
      have e := of_decide_eq_true e
      rw [List.nodup_append] at a
      exact absurd e (a.2.2 y hy x List.mem_cons_self)
    · rw [if_neg h2]
      have hnd : (ahead ++ [x]).Nodup := by
       rw [List.nodup_append]
       refine ⟨h, by simp, fun a ha b hb e => ?_⟩
       rw [List.mem_singleton.1 hb] at e
       exact h2 (List.any_eq_true.2 ⟨a, ha, decide_eq_true e⟩)
      have ih := subsE_ok l q (ahead ++ [x]) hnd
      rw [List.append_assoc, List.singleton_append] at ih
      refine ih.trans ⟨fun ⟨a, b⟩ => ⟨fun y hy => ?_, b⟩, fun ⟨a, b⟩ => ⟨fun y hy => a y (List.mem_cons_of_mem _ hy), b⟩⟩
      rcases List.mem_cons.1 hy with rfl | hy
      · exact h1
      · exact a y hy
structure RightN (l : List TypI) (t : TypI) (r : RelI) : Prop where
 view : hasR t r.view = true
 edit : hasR t r.edit = true
 check : hasR t r.check = true
 subs : ∀ x ∈ r.subs, subOk l x = true
 twice : r.subs.Nodup
 ops : ∀ o ∈ r.ops, opOk l t o = true
theorem namedE_ok (l : List TypI) (t : TypI) (r : RelI) : namedE l t r = 0 ↔ RightN l t r := by
 have hs := subsE_ok l r.subs [] (by simp)
 rw [List.nil_append] at hs
 unfold namedE
 by_cases h1 : (hasR t r.view && (hasR t r.edit && hasR t r.check)) = false
 · rw [if_pos h1]
   refine ⟨fun e => (by cases e), fun e => ?_⟩
   rw [e.view, e.edit, e.check] at h1
   cases h1
 · rw [if_neg h1]
   have h1 : hasR t r.view = true ∧ hasR t r.edit = true ∧ hasR t r.check = true := by simpa using h1
   by_cases h2 : subsE l [] r.subs = 0
   · rw [if_neg (by simpa using h2)]
     by_cases h3 : r.ops.all (opOk l t) = false
     · rw [if_pos h3]
       refine ⟨fun e => (by cases e), fun e => ?_⟩
       rw [List.all_eq_true.2 e.ops] at h3
       cases h3
     · rw [if_neg h3]
       have h3 : r.ops.all (opOk l t) = true := by simpa using h3
       exact ⟨fun _ => ⟨h1.1, h1.2.1, h1.2.2, (hs.1 h2).1, (hs.1 h2).2, List.all_eq_true.1 h3⟩, fun _ => rfl⟩
   · rw [if_pos h2]
     exact ⟨fun e => absurd e h2, fun e => hs.2 ⟨e.subs, e.twice⟩⟩
theorem Right.all {l : List TypI} (h : Right l) {t : TypI} (ht : t ∈ l) {r : RelI} (hr : r ∈ t.rels) : RightN l t r := (namedE_ok l t r).1 (h.named t ht r hr)
theorem Right.told {l : List TypI} (h : Right l) {t : TypI} (ht : t ∈ l) {r : RelI} (hr : r ∈ t.rels) :
 hasI l t.name r.view = true ∧ hasI l t.name r.edit = true ∧ hasI l t.name r.check = true ∧ findI l t.name r.name = some r ∧ r.ops.length ≤ 16 ∧ t.rels.length ≤ 12 ∧
 (∀ s ∈ r.subs, s.2 ≠ ⟨#[]⟩ → hasI l s.1 s.2 = true) ∧ (∀ o ∈ r.ops, (o.1 = 2 ∨ o.1 = 3) → hasI l t.name o.2.1 = true) := by
 have k := h.all ht hr
 have hf := fun n => h.find ht n
 refine ⟨by unfold hasI; rw [hf]; exact k.view, by unfold hasI; rw [hf]; exact k.edit, by unfold hasI; rw [hf]; exact k.check, by rw [hf]; exact (h.rels t ht).rel hr, (h.rels t ht).ops r hr, (h.rels t ht).few, fun s hs hne => ?_, fun o ho hk => ?_⟩
 · have := k.subs s hs
   unfold subOk at this
   rw [Bool.and_eq_true, Bool.or_eq_true] at this
   exact this.2.resolve_left (by simpa using hne)
 · have := k.ops o ho
   unfold opOk at this
   unfold hasI
   rw [hf]
   rcases hk with hk | hk
   · rw [if_pos hk] at this
     exact this
   · rw [if_neg (by omega), if_pos hk] at this
     cases e : firstR t o.2.1 with
     | none => rw [e] at this; cases this
     | some x => rfl
theorem find_some9 {α : Type} {p : α → Bool} {l : List α} {x : α} (h : l.find? p = some x) : x ∈ l ∧ p x = true := ⟨List.mem_of_find?_eq_some h, List.find?_some h⟩
theorem typsE_twice (t : TypI) : ∀ (q ahead : List TypI), ((ahead ++ q).map (·.name)).Nodup → (∀ x ∈ q, RightR x) → (∃ x ∈ ahead ++ q, x.name = t.name) → typsE ahead (q ++ [t]) = (32, t.name)
 | [], ahead, _, _, hx => by
  rw [List.append_nil] at hx
  show typsE ahead (t :: []) = _
  unfold typsE
  obtain ⟨x, hx, e⟩ := hx
  rw [if_pos (List.any_eq_true.2 ⟨x, hx, decide_eq_true e⟩)]
 | y :: q, ahead, h, hr, hx => by
  show typsE ahead (y :: (q ++ [t])) = _
  unfold typsE
  have h1 : ¬ ahead.any (fun x => decide (x.name = y.name)) = true := fun e => by
   obtain ⟨x, hx, hn⟩ := List.any_eq_true.1 e
   have hn := of_decide_eq_true hn
   rw [List.map_append, List.nodup_append] at h
   exact absurd hn (h.2.2 x.name (List.mem_map_of_mem hx) y.name (List.mem_map_of_mem List.mem_cons_self))
  have k := hr y List.mem_cons_self
  have h2 := k.few
  have h3 : (relsE y [] y.rels).1 = 0 := ((relsE_ok y y.rels [] (by simp)).1).2 ⟨by rw [List.nil_append]; exact k.names, k.ops⟩
  rw [if_neg h1, if_neg (by omega), if_neg (by simpa using h3)]
  exact typsE_twice t q (ahead ++ [y]) (by rw [List.append_assoc]; exact h) (fun x hx => hr x (List.mem_cons_of_mem _ hx)) (by rw [List.append_assoc]; exact hx)
theorem Right.twice {l : List TypI} (h : Right l) {t : TypI} (ht : t ∈ l) : checkE (l ++ [t]) = if 8 < l.length + 1 then (13, ⟨#[]⟩) else (32, t.name) := by
 unfold checkE
 rw [List.length_append, List.length_singleton]
 by_cases h8 : 8 < l.length + 1
 · rw [if_pos h8, if_pos h8]
 · rw [if_neg h8, if_neg h8]
   have e := typsE_twice t l [] (by rw [List.nil_append]; exact h.names) h.rels ⟨t, by rw [List.nil_append]; exact ht, rfl⟩
   rw [e, if_pos (show (32 : Nat) ≠ 0 by decide)]
def ExtT (t u : TypI) : Prop := ∀ n r, firstR t n = some r → firstR u n = some r
def ExtL (l m : List TypI) : Prop := ∀ n t, firstT l n = some t → ∃ u, firstT m n = some u ∧ ExtT t u
theorem ExtT.refl (t : TypI) : ExtT t t := fun _ _ h => h
theorem ExtT.has {t u : TypI} (h : ExtT t u) {n : ByteArray} (e : hasR t n = true) : hasR u n = true := by
 unfold hasR at *
 cases k : firstR t n with
 | none => rw [k] at e; cases e
 | some r => rw [h n r k]; rfl
theorem ExtL.has {l m : List TypI} (h : ExtL l m) {n : ByteArray} (e : hasT l n = true) : hasT m n = true := by
 unfold hasT at *
 cases k : firstT l n with
 | none => rw [k] at e; cases e
 | some t =>
  obtain ⟨u, hu, _⟩ := h n t k
  rw [hu]; rfl
theorem ExtL.hasI {l m : List TypI} (h : ExtL l m) {a b : ByteArray} (e : hasI l a b = true) : hasI m a b = true := by
 unfold Go.Proofs.YtahegpfdbgbioaaGreat.hasI findI at *
 cases k : firstT l a with
 | none => rw [k] at e; cases e
 | some t =>
  obtain ⟨u, hu, x⟩ := h a t k
  rw [k] at e
  rw [hu]
  exact x.has e
theorem ExtL.sub {l m : List TypI} (h : ExtL l m) {x : ByteArray × ByteArray} (e : subOk l x = true) : subOk m x = true := by
 unfold subOk at *
 rw [Bool.and_eq_true, Bool.or_eq_true] at *
 exact ⟨h.has e.1, e.2.imp id h.hasI⟩
theorem ExtL.op {l m : List TypI} (h : ExtL l m) {t u : TypI} (x : ExtT t u) {o : OpI} (e : opOk l t o = true) : opOk m u o = true := by
 unfold opOk at *
 by_cases h2 : o.1 = 2
 · rw [if_pos h2] at *
   exact x.has e
 · rw [if_neg h2] at *
   by_cases h3 : o.1 = 3
   · rw [if_pos h3] at *
     cases k : firstR t o.2.1 with
     | none => rw [k] at e; cases e
     | some r =>
      rw [k] at e
      rw [x _ r k]
      have e2 : leadsI l r o.2.2 = true := e
      show leadsI m r o.2.2 = true
      unfold leadsI at *
      obtain ⟨y, hy, ey⟩ := List.any_eq_true.1 e2
      rw [Bool.and_eq_true] at ey
      exact List.any_eq_true.2 ⟨y, hy, by rw [Bool.and_eq_true]; exact ⟨ey.1, h.hasI ey.2⟩⟩
   · rw [if_neg h3]
theorem ExtL.named {l m : List TypI} (h : ExtL l m) {t u : TypI} (x : ExtT t u) {r : RelI} (k : RightN l t r) : RightN m u r :=
 ⟨x.has k.view, x.has k.edit, x.has k.check, fun s hs => h.sub (k.subs s hs), k.twice, fun o ho => h.op x (k.ops o ho)⟩
theorem Right.more {l : List TypI} (h : Right l) {n : ByteArray} (hn : ∀ t ∈ l, t.name ≠ n) (h8 : l.length < 8) : Right (l ++ [⟨n, []⟩]) := by
 have hx : ExtL l (l ++ [⟨n, []⟩]) := fun m t e => ⟨t, by unfold firstT at *; rw [List.find?_append, e]; rfl, ExtT.refl t⟩
 refine ⟨by rw [List.length_append]; show l.length + 1 ≤ 8; omega, ?_, fun t ht => ?_, fun t ht r hr => ?_⟩
 · rw [List.map_append, List.nodup_append]
   refine ⟨h.names, by simp, fun a ha b hb e => ?_⟩
   obtain ⟨t, ht, rfl⟩ := List.mem_map.1 ha
   simp only [List.map_cons, List.map_nil, List.mem_singleton] at hb
   exact hn t ht (e.trans hb)
 · rcases List.mem_append.1 ht with ht | ht
   · exact h.rels t ht
   · rw [List.mem_singleton.1 ht]
     exact ⟨Nat.zero_le _, by simp, fun r hr => by cases hr⟩
 · rcases List.mem_append.1 ht with ht | ht
   · exact (namedE_ok _ _ _).2 (hx.named (ExtT.refl t) (h.all ht hr))
   · rw [List.mem_singleton.1 ht] at hr
     cases hr
end Go.Proofs.YtahegpfdbgbioaaGreat
namespace Go.Proofs.YtahegpfdbgbioaaGreat
open Go.ChangeShapes Go.WideShapes Go.ChangeAt Go.RowKit
theorem flatten_atA {α : Type} {sz : Nat} : ∀ {E : List (List α)}, (∀ l ∈ E, l.length = sz) → ∀ {i r : Nat} {l : List α}, E[i]? = some l → r < sz → E.flatten[i * sz + r]? = l[r]?
 | [], _, i, r, l, h, _ => by simp at h
 | c :: E, hE, i, r, l, h, hr => by
  have hc := hE c (List.mem_cons_self ..)
  rw [List.flatten_cons]
  cases i with
  | zero =>
   simp at h; subst h
   rw [Nat.zero_mul, Nat.zero_add, List.getElem?_append_left (by rw [hc]; exact hr)]
  | succ i =>
   rw [List.getElem?_append_right (by rw [hc, Nat.succ_mul]; omega), hc, show (i + 1) * sz + r - sz = i * sz + r from by rw [Nat.succ_mul]; omega]
   exact flatten_atA (fun d hd => hE d (List.mem_cons_of_mem _ hd)) (by simpa using h) hr
section
variable {H : Type} {enc : TypeId × Value → H} {P : Program} {W : World} {base : Nat} {spare : Nat → Bool} {held : Bool}
def aSub (s : ByteArray × ByteArray) : List Value := [.string s.1, .string s.2]
def aOp (o : OpI) : List Value := [.int .i64 o.1, .string o.2.1, .string o.2.2]
end
structure RelA where
 name : ByteArray
 view : ByteArray
 edit : ByteArray
 check : ByteArray
 As : Option Addr
 cs : Nat
 subs : List (ByteArray × ByteArray)
 Ao : Option Addr
 co : Nat
 ops : List OpI
def RelA.cells (a : RelA) : List Value := [.string a.name, .string a.view, .string a.edit, .string a.check, .slice a.As a.subs.length a.cs, .slice a.Ao a.ops.length a.co]
def RelA.says (a : RelA) : RelI := ⟨a.name, a.view, a.edit, a.check, a.subs, a.ops⟩
structure RelA.ok (W : World) (R : Nat) (a : RelA) : Prop where
 name : a.name.size ≤ R
 view : a.view.size ≤ R
 edit : a.edit.size ≤ R
 check : a.check.size ≤ R
 subs : Rd W W.heap.size 2 a.As a.subs.length a.cs (a.subs.flatMap aSub)
 subn : a.subs.length * 32 ≤ R
 subz : ∀ s ∈ a.subs, s.1.size ≤ R ∧ s.2.size ≤ R
 ops : Rd W W.heap.size 3 a.Ao a.ops.length a.co (a.ops.flatMap aOp)
 opn : a.ops.length * 40 ≤ R
 opz : ∀ o ∈ a.ops, (Lit.int .i64 o.1).wf = true ∧ o.2.1.size ≤ R ∧ o.2.2.size ≤ R
structure TypA where
 name : ByteArray
 A : Option Addr
 c : Nat
 rels : List RelA
def TypA.cells (a : TypA) : List Value := [.string a.name, .slice a.A a.rels.length a.c]
def TypA.says (a : TypA) : TypI := ⟨a.name, a.rels.map RelA.says⟩
structure TypA.ok (W : World) (R : Nat) (a : TypA) : Prop where
 name : a.name.size ≤ R
 rels : Rd W W.heap.size 6 a.A a.rels.length a.c (a.rels.flatMap RelA.cells)
 reln : a.rels.length * 112 ≤ R
 relz : ∀ r ∈ a.rels, r.ok W R
section
variable {H : Type} {enc : TypeId × Value → H} {W : World} {base : Nat} {spare : Nat → Bool} {held : Bool}
end
end Go.Proofs.YtahegpfdbgbioaaGreat
namespace Go.Proofs.YtahegpfdbgbioaaGreat
def signB (c : Nat) : Bool := decide (c = 123 ∨ c = 125 ∨ c = 40 ∨ c = 41 ∨ c = 58 ∨ c = 44 ∨ c = 59 ∨ c = 124 ∨ c = 38 ∨ c = 45 ∨ c = 46 ∨ c = 35)
def blankB (c : Nat) : Bool := decide (c = 32 ∨ c = 9 ∨ c = 10)
theorem signB_iff {c : Nat} : signB c = true ↔ (c = 123 ∨ c = 125 ∨ c = 40 ∨ c = 41 ∨ c = 58 ∨ c = 44 ∨ c = 59 ∨ c = 124 ∨ c = 38 ∨ c = 45 ∨ c = 46 ∨ c = 35) := by unfold signB; exact decide_eq_true_iff
theorem blankB_iff {c : Nat} : blankB c = true ↔ (c = 32 ∨ c = 9 ∨ c = 10) := by unfold blankB; exact decide_eq_true_iff
theorem byteB_iff {c : Nat} : byteB c = true ↔ (c = 95 ∨ (97 ≤ c ∧ c ≤ 122) ∨ (65 ≤ c ∧ c ≤ 90) ∨ (48 ≤ c ∧ c ≤ 57)) := by unfold byteB; exact decide_eq_true_iff
def runN (p : Nat → Bool) (u : ByteArray) : Nat := least (fun j => !(decide (plc u j < u.size) && p (plc u j))) u.size 0
theorem runN_spec (p : Nat → Bool) (u : ByteArray) : (∀ j, j < runN p u → plc u j < u.size ∧ p (plc u j) = true) ∧ (plc u (runN p u) < u.size → p (plc u (runN p u)) = false) := by
 obtain ⟨a, _, c⟩ := least_spec (fun j => !(decide (plc u j < u.size) && p (plc u j))) u.size 0 ⟨u.size, Nat.zero_le _, by omega, by simp [plc_size]⟩
 refine ⟨fun j hj => ?_, fun h => ?_⟩
 · have := c j (Nat.zero_le _) hj
   simpa using this
 · have a' : (!(decide (plc u (runN p u) < u.size) && p (plc u (runN p u)))) = true := a
   rw [decide_eq_true h] at a'
   simpa using a'
theorem runN_eq {p : Nat → Bool} {u : ByteArray} {k : Nat} (h1 : ∀ j, j < k → plc u j < u.size ∧ p (plc u j) = true) (h2 : plc u k < u.size → p (plc u k) = false) : runN p u = k := by
 obtain ⟨a, b⟩ := runN_spec p u
 rcases Nat.lt_trichotomy (runN p u) k with h | h | h
 · obtain ⟨x, y⟩ := h1 _ h
   rw [b x] at y; cases y
 · exact h
 · obtain ⟨x, y⟩ := a _ h
   rw [h2 x] at y; cases y
theorem runN_le (p : Nat → Bool) (u : ByteArray) : runN p u ≤ cnt u := by
 rcases Nat.lt_or_ge (cnt u) (runN p u) with h | h
 · have := ((runN_spec p u).1 _ h).1
   rw [(cnt_spec u).1] at this; omega
 · exact h
theorem runN_pos {p : Nat → Bool} {u : ByteArray} (h : 0 < u.size) (hp : p 0 = true) : 0 < runN p u := by
 rcases Nat.eq_zero_or_pos (runN p u) with e | e
 · have := (runN_spec p u).2
   rw [e] at this
   have h0 : p (plc u 0) = false := this h
   rw [show plc u 0 = 0 from rfl, hp] at h0; cases h0
 · exact e
theorem runN_zero {p : Nat → Bool} {u : ByteArray} (hp : p 0 = false) : runN p u = 0 := runN_eq (fun _ hj => absurd hj (Nat.not_lt_zero _)) fun _ => hp
def wrN (u : ByteArray) : Nat := runN (mayB u) u
def ntN (u : ByteArray) : Nat := runN (fun i => !decide (bt u i = 10)) u
def badN (u : ByteArray) : Nat := runN (fun i => !brk u i) u
def kd (u : ByteArray) : Nat :=
 if blankB (bt u 0) = true then 0 else if signB (bt u 0) = true then 2
 else if bt u 0 = 47 then (if 1 < u.size ∧ bt u 1 = 47 then 0 else 30)
 else if mayB u 0 = true then (if wrN u ≤ 24 then 1 else 31) else 30
def ln (u : ByteArray) : Nat :=
 if blankB (bt u 0) = true then 1 else if signB (bt u 0) = true then 1
 else if bt u 0 = 47 then ntN u else wrN u
theorem ln_pos {u : ByteArray} (h : 0 < u.size) (hk : kd u < 3) : 0 < ln u := by
 unfold kd at hk
 unfold ln
 by_cases h1 : blankB (bt u 0) = true
 · rw [if_pos h1]; omega
 rw [if_neg h1] at hk ⊢
 by_cases h2 : signB (bt u 0) = true
 · rw [if_pos h2]; omega
 rw [if_neg h2] at hk ⊢
 by_cases h3 : bt u 0 = 47
 · rw [if_pos h3]
   exact runN_pos h (by rw [h3]; rfl)
 rw [if_neg h3] at hk ⊢
 by_cases h4 : mayB u 0 = true
 · exact runN_pos h h4
 rw [if_neg h4] at hk; omega
theorem ln_le {u : ByteArray} (h : 0 < u.size) : ln u ≤ cnt u := by
 have := cnt_pos h
 unfold ln
 repeat' split
 · omega
 · omega
 · exact runN_le _ u
 · exact runN_le _ u
abbrev Tk := Nat × ByteArray × Nat
def scanF : Nat → ByteArray → Nat → List Tk × Nat × Nat
 | 0, _, off => ([], 0, off)
 | f + 1, u, off =>
  if u.size = 0 then ([(3, ⟨#[]⟩, off)], 0, 0)
  else if 3 ≤ kd u then ([], kd u, off)
  else ((if kd u = 0 then [] else [(kd u, cutA u (ln u), off)]) ++ (scanF f (cutB u (ln u)) (off + plc u (ln u))).1, (scanF f (cutB u (ln u)) (off + plc u (ln u))).2)
theorem cutB_lt {u : ByteArray} (h : 0 < u.size) (hk : kd u < 3) : (cutB u (ln u)).size < u.size := by
 have h1 := cutB_size u (ln u)
 have h2 := ln_pos h hk
 have h3 := plc_mono u (show 1 ≤ ln u from h2)
 have h4 : plc u 0 < plc u 1 := plc_lt_succ (s := u) (k := 0) (by exact h)
 have h5 : plc u 0 = 0 := rfl
 omega
theorem scanF_more : ∀ (f g : Nat) (u : ByteArray) (off : Nat), u.size < f → u.size < g → scanF f u off = scanF g u off
 | 0, _, _, _, h, _ => absurd h (Nat.not_lt_zero _)
 | _ + 1, 0, _, _, _, h => absurd h (Nat.not_lt_zero _)
 | f + 1, g + 1, u, off, hf, hg => by
  unfold scanF
  by_cases h0 : u.size = 0
  · rw [if_pos h0, if_pos h0]
  rw [if_neg h0, if_neg h0]
  by_cases h3 : 3 ≤ kd u
  · rw [if_pos h3, if_pos h3]
  rw [if_neg h3, if_neg h3]
  have := cutB_lt (u := u) (by omega) (by omega)
  rw [scanF_more f g _ _ (by omega) (by omega)]
def scan (u : ByteArray) (off : Nat) : List Tk × Nat × Nat := scanF (u.size + 1) u off
theorem scan_nil {u : ByteArray} {off : Nat} (h : u.size = 0) : scan u off = ([(3, ⟨#[]⟩, off)], 0, 0) := by unfold scan scanF; rw [if_pos h]
theorem scan_err {u : ByteArray} {off : Nat} (h : 0 < u.size) (hk : 3 ≤ kd u) : scan u off = ([], kd u, off) := by unfold scan scanF; rw [if_neg (by omega), if_pos hk]
theorem scan_go {u : ByteArray} {off : Nat} (h : 0 < u.size) (hk : kd u < 3) :
 scan u off = ((if kd u = 0 then [] else [(kd u, cutA u (ln u), off)]) ++ (scan (cutB u (ln u)) (off + plc u (ln u))).1, (scan (cutB u (ln u)) (off + plc u (ln u))).2) := by
 have := cutB_lt h hk
 conv => lhs; unfold scan scanF
 rw [if_neg (by omega), if_neg (by omega), scanF_more u.size ((cutB u (ln u)).size + 1) _ _ (by omega) (by omega)]
 rfl
def allS (s : ByteArray) : List Tk × Nat × Nat :=
 if 2048 < s.size then ([], 13, 0)
 else if plc s (badN s) < s.size then ([], 11, plc s (badN s))
 else if (scan s 0).2.1 = 0 then scan s 0 else ([], (scan s 0).2)
theorem badN_valid {s : ByteArray} : validS s = true ↔ ¬ plc s (badN s) < s.size := by
 obtain ⟨a, b⟩ := runN_spec (fun i => !brk s i) s
 rw [validS_iff]
 constructor
 · intro h hl
   have h1 := b hl
   have h2 : brk s (plc s (badN s)) = false := h _ (lt_cnt.2 hl)
   have h3 : (!brk s (plc s (badN s))) = false := h1
   rw [h2] at h3; cases h3
 · intro h k hk
   have hl := lt_cnt.1 hk
   rcases Nat.lt_or_ge k (badN s) with h1 | h1
   · have := (a k h1).2
     simpa using this
   · have := plc_mono s h1
     omega
def keyB (s : ByteArray) : Bool := decide (s = ⟨#[116, 121, 112, 101]⟩ ∨ s = ⟨#[114, 101, 108]⟩ ∨ s = ⟨#[105, 115]⟩ ∨ s = ⟨#[116, 104, 105, 115]⟩)
theorem one_cnt {t : ByteArray} {r : Nat} (hz : 0 < t.size) (hd : Utf8.decode t 0 = (r, t.size)) : cnt t = 1 := by
 have h0 : plc t 0 < t.size := hz
 have h1 : plc t 1 = plc t 0 + wd t (plc t 0) := plc_succ h0
 have h2 : wd t (plc t 0) = t.size := by show (Utf8.decode t 0).2 = _; rw [hd]
 have h3 : plc t 0 = 0 := rfl
 exact cnt_eq (by omega) fun j hj => by obtain rfl : j = 0 := by omega
                                        exact hz
theorem one_name {t : ByteArray} {r : Nat} (hz : 0 < t.size) (hd : Utf8.decode t 0 = (r, t.size)) (hb : brk t 0 = false) : nameS t = inNameB r := by
 have hm : mayB t 0 = inNameB r := by
  unfold mayB
  rw [hb]
  show (!false && inNameB (Utf8.decode t 0).1) = _
  rw [hd]; rfl
 rw [Bool.eq_iff_iff, nameS_iff, one_cnt hz hd, ← hm]
 constructor
 · rintro ⟨_, _, h⟩
   exact h 0 (by omega)
 · intro h
   refine ⟨by omega, by omega, fun k hk => ?_⟩
   obtain rfl : k = 0 := by omega
   exact h
theorem enc_name {r : Nat} (h : r < 55296 ∨ (57344 ≤ r ∧ r ≤ 1114111)) : nameS (Utf8.encode (r : Int)) = inNameB r := by
 have hv : Utf8.valid (r : Int) = true := by unfold Utf8.valid; simp; omega
 unfold Utf8.encode
 simp only [hv, if_true, Int.toNat_natCast]
 have of : ∀ n, n < 256 → (UInt8.ofNat n).toNat = n := fun n hn => by simp; omega
 by_cases h1 : r < 128
 · rw [if_pos h1]
   show nameS (sOne r) = _
   rw [name_one (by omega), Bool.eq_iff_iff, byteB_iff]
   unfold inNameB
   rw [decide_eq_true_iff]
   omega
 rw [if_neg h1]
 by_cases h2 : r < 2048
 · rw [if_pos h2]
   have e0 := of (192 + r / 64) (by omega)
   have e1 := of (128 + r % 64) (by omega)
   generalize UInt8.ofNat (192 + r / 64) = b0 at *
   generalize UInt8.ofNat (128 + r % 64) = b1 at *
   have hd : Utf8.decode ⟨#[b0, b1]⟩ 0 = (r, 2) := by
    rw [decode_dec _ 0 (by show 0 < 2; omega), show (⟨#[b0, b1]⟩ : ByteArray).size - 0 = 2 from rfl, show bt ⟨#[b0, b1]⟩ 0 = b0.toNat from rfl, show bt ⟨#[b0, b1]⟩ (0 + 1) = b1.toNat from rfl, e0, e1]
    unfold dec
    rw [if_neg (by omega), if_pos (by omega)]
    exact Prod.ext (by dsimp only; omega) rfl
   refine one_name (by show 0 < 2; omega) hd ?_
   unfold brk rn wd
   rw [hd]
   simp
 rw [if_neg h2]
 by_cases h3 : r < 65536
 · rw [if_pos h3]
   have e0 := of (224 + r / 4096) (by omega)
   have e1 := of (128 + r / 64 % 64) (by omega)
   have e2 := of (128 + r % 64) (by omega)
   generalize UInt8.ofNat (224 + r / 4096) = b0 at *
   generalize UInt8.ofNat (128 + r / 64 % 64) = b1 at *
   generalize UInt8.ofNat (128 + r % 64) = b2 at *
   have hd : Utf8.decode ⟨#[b0, b1, b2]⟩ 0 = (r, 3) := by
    rw [decode_dec _ 0 (by show 0 < 3; omega), show (⟨#[b0, b1, b2]⟩ : ByteArray).size - 0 = 3 from rfl, show bt ⟨#[b0, b1, b2]⟩ 0 = b0.toNat from rfl, show bt ⟨#[b0, b1, b2]⟩ (0 + 1) = b1.toNat from rfl, show bt ⟨#[b0, b1, b2]⟩ (0 + 2) = b2.toNat from rfl, e0, e1, e2]
    unfold dec
    rw [if_neg (by omega), if_neg (by omega), if_pos (by omega)]
    exact Prod.ext (by dsimp only; omega) rfl
   refine one_name (by show 0 < 3; omega) hd ?_
   unfold brk rn wd
   rw [hd]
   simp
 rw [if_neg h3]
 have e0 := of (240 + r / 262144) (by omega)
 have e1 := of (128 + r / 4096 % 64) (by omega)
 have e2 := of (128 + r / 64 % 64) (by omega)
 have e3 := of (128 + r % 64) (by omega)
 generalize UInt8.ofNat (240 + r / 262144) = b0 at *
 generalize UInt8.ofNat (128 + r / 4096 % 64) = b1 at *
 generalize UInt8.ofNat (128 + r / 64 % 64) = b2 at *
 generalize UInt8.ofNat (128 + r % 64) = b3 at *
 have hd : Utf8.decode ⟨#[b0, b1, b2, b3]⟩ 0 = (r, 4) := by
  rw [decode_dec _ 0 (by show 0 < 4; omega), show (⟨#[b0, b1, b2, b3]⟩ : ByteArray).size - 0 = 4 from rfl, show bt ⟨#[b0, b1, b2, b3]⟩ 0 = b0.toNat from rfl, show bt ⟨#[b0, b1, b2, b3]⟩ (0 + 1) = b1.toNat from rfl, show bt ⟨#[b0, b1, b2, b3]⟩ (0 + 2) = b2.toNat from rfl, show bt ⟨#[b0, b1, b2, b3]⟩ (0 + 3) = b3.toNat from rfl, e0, e1, e2, e3]
  unfold dec
  rw [if_neg (by omega), if_neg (by omega), if_neg (by omega), if_pos (by omega)]
  exact Prod.ext (by dsimp only; omega) rfl
 refine one_name (by show 0 < 4; omega) hd ?_
 unfold brk rn wd
 rw [hd]
 simp
theorem rn_range {s : ByteArray} {i : Nat} (h : i < s.size) : rn s i < 55296 ∨ (57344 ≤ rn s i ∧ rn s i ≤ 1114111) := by
 have hb := bt_lt s i
 unfold rn
 rw [decode_dec s i h]
 rcases dec_cases (s.size - i) (bt s i) (bt s (i + 1)) (bt s (i + 2)) (bt s (i + 3)) with ⟨c, e⟩ | ⟨c, e⟩ | ⟨c, e⟩ | ⟨c, e⟩ | ⟨c, e⟩
 all_goals (rw [e]; dsimp only; omega)
theorem rn_name {s : ByteArray} {i : Nat} (h : i < s.size) (hb : brk s i = false) : nameS (Utf8.encode ((rn s i : Nat) : Int)) = mayB s i := by
 rw [enc_name (rn_range h)]
 unfold mayB
 rw [hb]; rfl
theorem first_valid {u : ByteArray} (h : 0 < u.size) : validS (cutA u 1) = !brk u 0 := by
 have hc : cnt (cutA u 1) = 1 := by rw [cnt_cutA]; have := cnt_pos h; omega
 have hs := cutA_size u 1
 have h1 : plc u 0 < plc u 1 := plc_lt_succ (s := u) (k := 0) h
 have hd := dec_same_pre (s := u) (t := cutA u 1) (k := 1) (j := 0) hs (cutA_bt u 1) h1
 have hb : brk (cutA u 1) 0 = brk u 0 := by
  have hd' : Utf8.decode (cutA u 1) 0 = Utf8.decode u 0 := hd
  unfold brk rn wd
  rw [hd']
 rw [Bool.eq_iff_iff, validS_iff, hc]
 constructor
 · intro h2
   have : brk (cutA u 1) 0 = false := h2 0 (by omega)
   rw [← hb, this]; rfl
 · intro h2 k hk
   obtain rfl : k = 0 := by omega
   show brk (cutA u 1) 0 = false
   rw [hb]; simpa using h2
theorem brk_cutB {s : ByteArray} {k : Nat} (h : plc s k < s.size) : brk (cutB s k) 0 = brk s (plc s k) := by
 have hz := cutB_size s k
 have hd := decode_suf hz (cutB_bt s k) (i := 0) (by omega)
 unfold brk rn wd
 rw [hd, Nat.add_zero]
def Sep (a b : ByteArray) : Prop := ∀ j, j < cnt a → Utf8.decode (a ++ b) (plc a j) = Utf8.decode a (plc a j)
section
variable {a b : ByteArray} (hv : Sep a b)
include hv
end
theorem app_assoc (a b c : ByteArray) : a ++ b ++ c = a ++ (b ++ c) := by
 refine bt_ext (by simp only [size_app]; omega) fun k hk => ?_
 simp only [size_app] at hk
 by_cases h1 : k < a.size
 · rw [bt_app_left _ _ _ (by rw [size_app]; omega), bt_app_left _ _ _ h1, bt_app_left _ _ _ h1]
 · obtain ⟨i, rfl⟩ : ∃ i, k = a.size + i := ⟨k - a.size, by omega⟩
   by_cases h2 : i < b.size
   · rw [bt_app_left _ _ _ (by rw [size_app]; omega), bt_app_right _ _ _ h2, bt_app_right _ _ _ (by rw [size_app]; omega), bt_app_left _ _ _ h2]
   · obtain ⟨j, rfl⟩ : ∃ j, i = b.size + j := ⟨i - b.size, by omega⟩
     have e : bt (a ++ b ++ c) (a.size + (b.size + j)) = bt c j := by
      have := bt_app_right (a ++ b) c j (by omega)
      rwa [size_app, Nat.add_assoc] at this
     rw [e, bt_app_right _ _ _ (by rw [size_app]; omega), bt_app_right _ _ _ (by omega)]
theorem app_nil (a : ByteArray) : a ++ ⟨#[]⟩ = a := bt_ext (by rw [size_app]; rfl) fun k hk => by
 rw [size_app] at hk
 have e : (⟨#[]⟩ : ByteArray).size = 0 := rfl
 exact bt_app_left _ _ _ (by omega)
theorem nil_app' (a : ByteArray) : (⟨#[]⟩ : ByteArray) ++ a = a := bt_ext (by rw [size_app]; exact Nat.zero_add _) fun k hk => by
 have e : (⟨#[]⟩ : ByteArray).size = 0 := rfl
 rw [size_app, e, Nat.zero_add] at hk
 have := bt_app_right ⟨#[]⟩ a k hk
 rwa [e, Nat.zero_add] at this
section
variable {a b : ByteArray} (hs : Sep a b)
include hs
end
theorem may_not {u : ByteArray} (h : 0 < u.size) (hm : mayB u 0 = true) : blankB (bt u 0) = false ∧ signB (bt u 0) = false ∧ bt u 0 ≠ 47 := by
 by_cases hb : bt u 0 < 128
 · rw [may_low h hb] at hm
   have hm := byteB_iff.1 hm
   refine ⟨?_, ?_, by omega⟩
   · rw [Bool.eq_false_iff]; intro e; have := blankB_iff.1 e; omega
   · rw [Bool.eq_false_iff]; intro e; have := signB_iff.1 e; omega
 · refine ⟨?_, ?_, by omega⟩
   · rw [Bool.eq_false_iff]; intro e; have := blankB_iff.1 e; omega
   · rw [Bool.eq_false_iff]; intro e; have := signB_iff.1 e; omega
section
variable {r : ByteArray} {off : Nat}
end
def TkOK (t : Tk) : Prop := (t.1 = 1 ∧ nameS t.2.1 = true) ∨ (t.1 = 2 ∧ ∃ c, signB c = true ∧ t.2.1 = sOne c)
theorem step_ok {u : ByteArray} (h : 0 < u.size) (h3 : kd u < 3) (h0 : ¬ kd u = 0) (off : Nat) : TkOK (kd u, cutA u (ln u), off) := by
 unfold TkOK
 by_cases hb : blankB (bt u 0) = true
 · exact absurd (by unfold kd; rw [if_pos hb]) h0
 by_cases hs : signB (bt u 0) = true
 · right
   have hc := signB_iff.1 hs
   have hkd : kd u = 2 := by unfold kd; rw [if_neg hb, if_pos hs]
   have hln : ln u = 1 := by unfold ln; rw [if_neg hb, if_pos hs]
   refine ⟨hkd, bt u 0, hs, ?_⟩
   have hp : plc u 1 = 1 := by
    have h1 : plc u 1 = plc u 0 + wd u (plc u 0) := plc_succ (s := u) (k := 0) h
    have h2 : wd u 0 = 1 := (dec_low h (by omega)).2
    rw [h1, show plc u 0 = 0 from rfl, h2]
   have hz := cutA_size u 1
   rw [hln]
   show cutA u 1 = sOne (bt u 0)
   refine bt_ext (by rw [hz, hp, sOne_size]) fun k hk => ?_
   have hk' := hk
   rw [hz, hp] at hk'
   obtain rfl : k = 0 := by omega
   rw [cutA_bt _ _ _ hk, sOne_bt (by omega)]
 · left
   by_cases h47 : bt u 0 = 47
   · exfalso
     have : kd u = 0 ∨ kd u = 30 := by
      unfold kd; rw [if_neg hb, if_neg hs, if_pos h47]
      split
      · exact .inl rfl
      · exact .inr rfl
     omega
   · have hkd : kd u = (if mayB u 0 = true then (if wrN u ≤ 24 then 1 else 31) else 30) := by
      conv => lhs; unfold kd
      rw [if_neg hb, if_neg hs, if_neg h47]
     have hln : ln u = wrN u := by unfold ln; rw [if_neg hb, if_neg hs, if_neg h47]
     by_cases hm : mayB u 0 = true
     · rw [if_pos hm] at hkd
       by_cases h24 : wrN u ≤ 24
       · rw [if_pos h24] at hkd
         refine ⟨hkd, ?_⟩
         rw [hln]
         have hle : wrN u ≤ cnt u := runN_le _ u
         have hpos : 0 < wrN u := runN_pos h hm
         rw [nameS_iff, cnt_cutA, Nat.min_eq_left hle]
         refine ⟨hpos, h24, fun k hk => ?_⟩
         have hlt : plc u k < plc u (wrN u) := Nat.lt_of_lt_of_le (plc_lt_succ (lt_cnt.1 (by omega))) (plc_mono u hk)
         have hd := dec_same_pre (s := u) (t := cutA u (wrN u)) (k := wrN u) (j := k) (cutA_size u _) (cutA_bt u _) hlt
         have hp := plc_pre (s := u) (t := cutA u (wrN u)) (k := wrN u) (cutA_size u _) (cutA_bt u _) k (by omega)
         have := ((runN_spec (mayB u) u).1 k hk).2
         unfold mayB brk rn wd at this ⊢
         rw [hp, hd]; exact this
       · rw [if_neg h24] at hkd; omega
     · rw [if_neg hm] at hkd; omega
theorem scan_init (n : Nat) : ∀ (u : ByteArray) (off : Nat), u.size ≤ n → (scan u off).2.1 = 0 → ∃ init, (scan u off).1 = init ++ [(3, ⟨#[]⟩, off + u.size)] ∧ ∀ t ∈ init, TkOK t := by
 induction n with
 | zero =>
  intro u off hn _
  rw [scan_nil (by omega), show off + u.size = off by omega]; exact ⟨[], rfl, fun t h => by cases h⟩
 | succ n ih =>
  intro u off hn h0
  rcases Nat.eq_zero_or_pos u.size with h | h
  · rw [scan_nil h, h]; exact ⟨[], rfl, fun t h => by cases h⟩
  by_cases h3 : 3 ≤ kd u
  · rw [scan_err h h3] at h0
    dsimp only at h0
    omega
  · have hl := cutB_lt h (by omega)
    have hcz := cutB_size u (ln u)
    have hE := scan_go (off := off) h (by omega)
    have ih := ih (cutB u (ln u)) (off + plc u (ln u)) (by omega)
    rw [show off + plc u (ln u) + (cutB u (ln u)).size = off + u.size by omega] at ih
    generalize scan u off = r at hE h0 ⊢
    generalize scan (cutB u (ln u)) (off + plc u (ln u)) = r2 at hE ih
    subst hE
    dsimp only at h0 ⊢
    obtain ⟨init, e, hi⟩ := ih h0
    rw [e, ← List.append_assoc]
    refine ⟨_, rfl, fun t ht => ?_⟩
    rcases List.mem_append.1 ht with ht | ht
    · split at ht
      · cases ht
      · rename_i hk
        simp only [List.mem_cons, List.not_mem_nil, or_false] at ht
        subst ht
        exact step_ok h (by omega) hk off
    · exact hi t ht
section
variable {s : ByteArray}
theorem all_ok (hz : s.size ≤ 2048) (hv : validS s = true) (h : (scan s 0).2.1 = 0) : allS s = scan s 0 := by
 unfold allS
 rw [if_neg (by omega), if_neg (badN_valid.1 hv), if_pos h]
theorem all_err (hz : s.size ≤ 2048) (hv : validS s = true) (h : ¬ (scan s 0).2.1 = 0) : allS s = ([], (scan s 0).2) := by
 unfold allS
 rw [if_neg (by omega), if_neg (badN_valid.1 hv), if_neg h]
theorem bad_lt (hv : validS s = false) : plc s (badN s) < s.size := by
 rcases Nat.lt_or_ge (plc s (badN s)) s.size with h | h
 · exact h
 · rw [badN_valid.2 (by omega)] at hv; cases hv
theorem all_bad (hz : s.size ≤ 2048) (hv : validS s = false) : allS s = ([], 11, plc s (badN s)) := by
 unfold allS
 rw [if_neg (by omega), if_pos (bad_lt hv)]
theorem all_zero (hz : s.size ≤ 2048) (h : (allS s).2.1 = 0) : validS s = true ∧ (scan s 0).2.1 = 0 ∧ allS s = scan s 0 := by
 cases hv : validS s with
 | false => rw [all_bad hz hv] at h; dsimp only at h; omega
 | true =>
  by_cases h0 : (scan s 0).2.1 = 0
  · exact ⟨rfl, h0, all_ok hz hv h0⟩
  · rw [all_err hz hv h0] at h
    exact absurd h h0
end
section
variable {s n : ByteArray} (hv : validS n = true) (hn : ∀ i, i < n.size → bt n i ≠ 10)
include hv hn
end
end Go.Proofs.YtahegpfdbgbioaaGreat
namespace Go.Proofs.YtahegpfdbgbioaaGreat
open Go.RowKit
def tcell (t : Tk) : List Value := [.int .i64 t.1, .string t.2.1, .int .i64 t.2.2]
def tcells (l : List Tk) : List Value := l.flatMap tcell
theorem tcells_snoc (l : List Tk) (t : Tk) : tcells (l ++ [t]) = tcells l ++ tcell t := by simp [tcells]
theorem tcell_one (t : Tk) : ∀ u ∈ tcell t, u.oneCell' = true := by
 intro u ht
 simp only [tcell, List.mem_cons, List.not_mem_nil, or_false] at ht
 rcases ht with rfl | rfl | rfl <;> rfl
theorem heap_c1 {w : World} {g : Nat} {a v b : Value} {t : TypeId} {fr : Nat × Nat} (h : w.heap[g]? = some (.cells #[a, v, b] t fr)) : w.cell? ⟨g, 1, none⟩ = some v := by rw [cell_of_row _ _ _ _ _ _ h]; rfl
theorem heap_fz {w : World} {g : Nat} {cs : Array Value} {t : TypeId} (h : w.heap[g]? = some (.cells cs t (0, 0))) : ∀ j, w.frozen? ⟨g, j, none⟩ = false := fun j => by simp [World.frozen?, h]
theorem size_alloc {w : World} {B : Nat} {o : Obj} (h : B ≤ w.heap.size) : B ≤ (w.alloc o).heap.size := by simp; omega
structure Kp (g B : Nat) (w w' : World) : Prop where
 os : w'.os = w.os
 tape : w'.tape = w.tape
 output : w'.output = w.output
 size : w.heap.size ≤ w'.heap.size
 block : ∀ k, k < B → k ≠ g → w'.heap[k]? = w.heap[k]?
section
variable {g B B' : Nat} {w w' w'' : World}
theorem Kp.refl (g B : Nat) (w : World) : Kp g B w w := ⟨rfl, rfl, rfl, Nat.le_refl _, fun _ _ _ => rfl⟩
theorem Kp.trans (h : Kp g B w w') (k : Kp g B w' w'') : Kp g B w w'' :=
 ⟨k.os.trans h.os, k.tape.trans h.tape, k.output.trans h.output, Nat.le_trans h.size k.size, fun i h1 h2 => (k.block i h1 h2).trans (h.block i h1 h2)⟩
theorem Kp.of_below (h : Below B w w') (g : Nat) : Kp g B w w' := ⟨h.os, h.tape, h.output, h.size, fun k hk _ => h.block k hk⟩
theorem Kp.below (h : Kp g B w w') (hB : B' ≤ B) (hg : B' ≤ g) : Below B' w w' := ⟨h.os, h.tape, h.output, h.size, fun k hk => h.block k (by omega) (by omega)⟩
theorem Kp.more (h : Kp g B w w') (hB : B' ≤ B) : Kp g B' w w' := ⟨h.os, h.tape, h.output, h.size, fun k hk hn => h.block k (by omega) hn⟩
end
theorem own_same {w w' : World} {base : Nat} {e : TypeId} {size n : Nat} {v : Value} {xs : List Value} (h : w.ownsRow base e size v n xs) (hb : ∀ g, v.ownBlock = some g → w'.heap[g]? = w.heap[g]?) : w'.ownsRow base e size v n xs := by
 refine ⟨h.1, ?_⟩
 rcases h.2 with h2 | ⟨g, cap, cur, rfl, hg, hh, r⟩
 · exact .inl h2
 · exact .inr ⟨g, cap, cur, rfl, hg, (hb g rfl).trans hh, r⟩
theorem own_below {w w' : World} {base : Nat} {e : TypeId} {size n : Nat} {v : Value} {xs : List Value} (h : w.ownsRow base e size v n xs) (hb : Below w.heap.size w w') : w'.ownsRow base e size v n xs :=
 own_same h fun g hg => hb.block g (h.lt g hg).2
structure ScAt (B : Nat) (w : World) (g : Nat) (s : ByteArray) (l : List Tk) (e : Nat) (v : Value) : Prop where
 cells : w.heap[g]? = some (.cells #[.string s, v, .int .i64 e] 212 (0, 0))
 row : w.ownsRow B 258 3 v l.length (tcells l)
 lt : g < B
def Sc (B : Nat) (w : World) (g : Nat) (s : ByteArray) (l : List Tk) (e : Nat) : Prop := ∃ v, ScAt B w g s l e v
section
variable {B : Nat} {w w' : World} {g : Nat} {s : ByteArray} {l : List Tk} {e : Nat} {v : Value}
theorem ScAt.size (h : ScAt B w g s l e v) : g < w.heap.size := (Array.getElem?_eq_some_iff.1 h.cells).1
theorem ScAt.c0 (h : ScAt B w g s l e v) : w.cell? ⟨g, 0, none⟩ = some (.string s) := by rw [cell_of_row _ _ _ _ _ _ h.cells]; rfl
theorem ScAt.c1 (h : ScAt B w g s l e v) : w.cell? ⟨g, 1, none⟩ = some v := by rw [cell_of_row _ _ _ _ _ _ h.cells]; rfl
theorem ScAt.c2 (h : ScAt B w g s l e v) : w.cell? ⟨g, 2, none⟩ = some (.int .i64 e) := by rw [cell_of_row _ _ _ _ _ _ h.cells]; rfl
theorem ScAt.fz (h : ScAt B w g s l e v) (j : Nat) : w.frozen? ⟨g, j, none⟩ = false := by simp [World.frozen?, h.cells]
theorem ScAt.below (h : ScAt B w g s l e v) (hb : Below w.heap.size w w') : ScAt B w' g s l e v :=
 ⟨(hb.block g h.size).trans h.cells, own_below h.row hb, h.lt⟩
theorem Sc.below (h : Sc B w g s l e) (hb : Below w.heap.size w w') : Sc B w' g s l e := by obtain ⟨v, h⟩ := h; exact ⟨v, h.below hb⟩
end
theorem ret_num {k : IntKind} {a b : Int} (h : a = b) : Ending.returned (.int k a) = .returned (.int k b) := by rw [h]
theorem info_tok : (Tryz.prog.info? 258).map (fun i => (i.zero, i.size, i.bytes)) = some (some (.agg #[.int .i64 0, .string .empty, .int .i64 0]), 3, 32) := by kernel_rfl
theorem cells_new (w : World) (a b c : Value) (t : TypeId) : ∀ j u, [a, b, c][j]? = some u → (w.alloc (.cells #[a, b, c] t)).cell? ((⟨w.heap.size, 0, none⟩ : Addr).add j) = some u := by
 intro j u hj
 rw [Addr.add_lit, cell_of_row _ _ _ _ _ _ (heap_alloc_new w _), Nat.zero_add]
 simpa using hj
section
variable {B : Nat} {w : World} {g : Nat} {s : ByteArray} {l : List Tk} {e : Nat}
theorem add_row {w1 : World} {v : Value} {o : Obj} (H : ScAt B w g s l e v) (hg1 : (w.alloc o).grownBy w1 v.ownBlock) : w1.heap[g]? = some (.cells #[.string s, v, .int .i64 e] 212 (0, 0)) := by
 have hs := H.size
 rw [hg1.block g (by simp; omega) (fun e => by have := (H.row.lt g e.symm).1; have := H.lt; omega), Below.heap_alloc _ _ _ hs]
 exact H.cells
theorem add_done {w1 : World} {v v1 : Value} {o : Obj} {t : Tk} (H : ScAt B w g s l e v) (hB : B ≤ w.heap.size) (hg1 : (w.alloc o).grownBy w1 v.ownBlock) (hown1 : w1.ownsRow B 258 3 v1 (l.length + 1) (tcells l ++ tcell t)) :
 Sc B (w1.setCell ⟨g, 1, none⟩ v1) g s (l ++ [t]) e ∧ Kp g B w (w1.setCell ⟨g, 1, none⟩ v1) := by
 have hs := H.size
 have hc := add_row H hg1
 have hlt := H.lt
 refine ⟨⟨v1, ?_, ?_, hlt⟩, ?_⟩
 · simp [World.setCell, Array.getElem?_modify, hc]
 · rw [tcells_snoc, List.length_append]
   exact own_same hown1 fun k hk => Below.heap_setCell _ _ _ _ (by have := (hown1.lt k hk).1; show k ≠ g; omega)
 · refine ⟨hg1.os, hg1.tape, hg1.output, ?_, fun k hk hn => ?_⟩
   · have := hg1.size; simp [World.setCell] at *; omega
   · rw [Below.heap_setCell _ _ _ _ (by show k ≠ g; exact hn), hg1.block k (by simp; omega) (fun e => by have := (H.row.lt k e.symm).1; omega), Below.heap_alloc _ _ _ (by omega)]
theorem add_any (h : Sc B w g s l e) (hB : B ≤ w.heap.size) (k : Nat) (t : ByteArray) (p : Nat) (hl : l.length < 1000000) (hp : p ≤ 1000000) (ht : t.size ≤ 1000000) :
 Calls Tryz.prog 122 #[.pointer (some ⟨g, 0, none⟩), .int .i64 k, .string t, .int .i64 p] w fun e' w' => e' = .returned (.int .i64 ((p + t.size : Nat) : Int)) ∧ Sc B w' g s (l ++ [(k, t, p)]) e ∧ Kp g B w w' := by
 obtain ⟨v, h⟩ := h
 have c1 := h.c1
 have fz := h.fz
 have hg := h.size
 obtain ⟨i0, hi, hz0, hz1, hz2⟩ := info_parts info_tok
 obtain ⟨A, c, rfl, _⟩ := Rd.own h.row
 have H := Lib.hid h
 clear h
 go_enter Tryz.func122, Tryz.ntmps122
 go_wp2_with (first
  | (at_builtin; go_loud (refine wpList_append_src _ rfl (.tmp 13) (.tmp 18) 140 140 rfl B 258 i0 (.agg #[.int .i64 0, .string .empty, .int .i64 0]) 3 32 Tryz.underlying140 hi hz0 hz1 hz2 rfl (by decide) _ l.length (tcells l) rfl (H.out.row.alloc _) _ 1 [.int .i64 k, .string t, .int .i64 p] rfl (Src.ofSlice _ Tryz.underlying140 _ 1 1 _ rfl (cells_new _ _ _ _ _) (tcell_one (k, t, p))) (by simp only [maxLen]; omega) (by omega) (size_alloc hB) ?_; intro v1 w1 hown1 hg1 hat1; obtain ⟨A1, c1, rfl, _⟩ := Rd.own hown1; have hcg := add_row H.out hg1; have cg := heap_c1 hcg; have fg := heap_fz hcg)))
 go_ret
 exact ⟨ret_num (by omega), add_done H.out hB hg1 hown1⟩
end
end Go.Proofs.YtahegpfdbgbioaaGreat
