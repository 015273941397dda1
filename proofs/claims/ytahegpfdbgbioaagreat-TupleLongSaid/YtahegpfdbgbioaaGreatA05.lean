import Derived.Test.YtahegpfdbgbioaaGreatA04
set_option maxRecDepth 100000
set_option maxHeartbeats 4000000
namespace Go.Proofs.YtahegpfdbgbioaaGreat
abbrev OpP := Nat × ByteArray × ByteArray
abbrev SubP := ByteArray × ByteArray
structure RelP where
 name : ByteArray
 view : ByteArray
 edit : ByteArray
 check : ByteArray
 subs : List SubP
 ops : List OpP
 deriving DecidableEq
structure TypP where
 name : ByteArray
 rels : List RelP
 deriving DecidableEq
abbrev Rs (α : Type) := Except (Nat × Nat) (α × List Tk)
def sType : ByteArray := ⟨#[116, 121, 112, 101]⟩
def sRel : ByteArray := ⟨#[114, 101, 108]⟩
def sIs : ByteArray := ⟨#[105, 115]⟩
def sThis : ByteArray := ⟨#[116, 104, 105, 115]⟩
def sg (c : UInt8) : ByteArray := ⟨#[c]⟩
def hdT (l : List Tk) : Tk := l.headD (3, ⟨#[]⟩, 0)
def isT (s : ByteArray) (l : List Tk) : Bool := decide ((hdT l).2.1 = s ∧ ((hdT l).1 = 2 ∨ keyB s = true))
def badT {α : Type} (c : Nat) (l : List Tk) : Rs α := .error (c, (hdT l).2.2)
def needT (s : ByteArray) (l : List Tk) : Rs Unit := if isT s l = true then .ok ((), l.tail) else badT 30 l
def nameT (l : List Tk) : Rs ByteArray := if (hdT l).1 = 1 ∧ keyB (hdT l).2.1 = false then .ok ((hdT l).2.1, l.tail) else badT 30 l
def andT {α β : Type} (r : Rs α) (k : α → List Tk → Rs β) : Rs β := match r with
 | .error e => .error e
 | .ok (a, l) => k a l
theorem andT_ok {α β : Type} (a : α) (l : List Tk) (k : α → List Tk → Rs β) : andT (.ok (a, l)) k = k a l := rfl
theorem andT_err {α β : Type} (e : Nat × Nat) (k : α → List Tk → Rs β) : andT (.error e : Rs α) k = .error e := rfl
def opT (l : List Tk) : Nat := if isT (sg 124) l = true then 4 else if isT (sg 38) l = true then 5 else if isT (sg 45) l = true then 6 else 0
mutual
def partF : Nat → Nat → List Tk → Rs (List OpP)
 | 0, _, l => badT 30 l
 | f + 1, deep, l =>
  if isT sThis l = true then .ok ([(1, ⟨#[]⟩, ⟨#[]⟩)], l.tail)
  else if isT (sg 40) l = true then
   (if deep = 8 then badT 13 l
   else andT (partF f (deep + 1) l.tail) fun o r => andT (moreF f (deep + 1) o r) fun o r => andT (needT (sg 41) r) fun _ r => .ok (o, r))
  else andT (nameT l) fun n r =>
   if isT (sg 46) r = true then andT (nameT r.tail) fun m r => .ok ([(3, n, m)], r) else .ok ([(2, n, ⟨#[]⟩)], r)
def moreF : Nat → Nat → List OpP → List Tk → Rs (List OpP)
 | 0, _, _, l => badT 30 l
 | f + 1, deep, acc, l =>
  if opT l = 0 then .ok (acc, l)
  else andT (partF f deep l.tail) fun o r => moreF f deep (acc ++ o ++ [(opT l, ⟨#[]⟩, ⟨#[]⟩)]) r
end
def rewF (f deep : Nat) (l : List Tk) : Rs (List OpP) := andT (partF f deep l) fun o r => moreF f deep o r
def whoF : Nat → List SubP → List Tk → Rs (List SubP)
 | 0, _, l => badT 30 l
 | f + 1, acc, l => andT (nameT l) fun n r =>
  andT (if isT (sg 35) r = true then nameT r.tail else .ok (⟨#[]⟩, r)) fun m r =>
   if isT (sg 44) r = true then whoF f (acc ++ [(n, m)]) r.tail else .ok (acc ++ [(n, m)], r)
def relF (f : Nat) (l : List Tk) : Rs RelP :=
 andT (nameT l) fun n r => andT (needT (sg 40) r) fun _ r => andT (nameT r) fun v r => andT (needT (sg 44) r) fun _ r =>
 andT (nameT r) fun e r => andT (needT (sg 44) r) fun _ r => andT (nameT r) fun c r => andT (needT (sg 41) r) fun _ r =>
 andT (needT (sg 58) r) fun _ r =>
 andT (if isT sIs r = true ∨ isT (sg 59) r = true then .ok ([], r) else whoF f [] r) fun w r =>
 andT (if isT sIs r = true then rewF f 0 r.tail else .ok ([(1, ⟨#[]⟩, ⟨#[]⟩)], r)) fun o r =>
 andT (needT (sg 59) r) fun _ r => .ok (⟨n, v, e, c, w, o⟩, r)
def relsF : Nat → Nat → List RelP → List Tk → Rs (List RelP)
 | _, 0, _, l => badT 30 l
 | f, g + 1, acc, l => if isT sRel l = true then andT (relF f l.tail) fun x r => relsF f g (acc ++ [x]) r else .ok (acc, l)
def typesF : Nat → Nat → List TypP → List Tk → Rs (List TypP)
 | _, 0, _, l => badT 30 l
 | f, g + 1, acc, l =>
  if isT sType l = true then andT (nameT l.tail) fun n r => andT (needT (sg 123) r) fun _ r => andT (relsF f f [] r) fun rs r =>
   andT (needT (sg 125) r) fun _ r => typesF f g (acc ++ [⟨n, rs⟩]) r
  else .ok (acc, l)
def schemaF (l : List Tk) : Rs (List TypP) := andT (typesF (2 * l.length + 2) (2 * l.length + 2) [] l) fun t r => if (hdT r).1 = 3 then .ok (t, r) else badT 30 r
def outS (r : Rs (List TypP)) : List TypP × Nat × Nat := match r with
 | .error e => ([], e)
 | .ok p => (p.1, 0, 0)
def parseS (s : ByteArray) : List TypP × Nat × Nat := if (allS s).2.1 = 0 then outS (schemaF (allS s).1) else ([], (allS s).2)
theorem isT_len {s : ByteArray} {l : List Tk} (hs : 0 < s.size) (h : isT s l = true) : l.tail.length + 1 = l.length := by
 cases l with
 | nil =>
  unfold isT at h
  rw [decide_eq_true_iff] at h
  have : s = ⟨#[]⟩ := h.1.symm
  rw [this] at hs
  exact absurd hs (by decide)
 | cons a r => rfl
theorem nameT_len {l r : List Tk} {n : ByteArray} (h : nameT l = .ok (n, r)) : r.length + 1 = l.length := by
 unfold nameT at h
 split at h
 · rename_i hc
   cases l with
   | nil => exact absurd hc.1 (by decide)
   | cons a t =>
    cases h
    rfl
 · cases h
theorem needT_len {s : ByteArray} {l r : List Tk} {u : Unit} (hs : 0 < s.size) (h : needT s l = .ok (u, r)) : r.length + 1 = l.length := by
 unfold needT at h
 split at h
 · rename_i hc
   cases h
   exact isT_len hs hc
 · cases h
theorem andT_inv {α β : Type} {r : Rs α} {k : α → List Tk → Rs β} {b : β} {l : List Tk} (h : andT r k = .ok (b, l)) : ∃ a m, r = .ok (a, m) ∧ k a m = .ok (b, l) := by
 cases r with
 | error e => cases h
 | ok p => exact ⟨p.1, p.2, rfl, h⟩
theorem andT_congr {α β : Type} {r r' : Rs α} {k k' : α → List Tk → Rs β} (h : r = r') (hk : ∀ a m, r = .ok (a, m) → k a m = k' a m) : andT r k = andT r' k' := by
 subst h
 cases r with
 | error e => rfl
 | ok p => exact hk p.1 p.2 rfl
theorem sg_size (c : UInt8) : 0 < (sg c).size := by show 0 < 1; omega
theorem opT_len {l : List Tk} (h : ¬ opT l = 0) : l.tail.length + 1 = l.length := by
 unfold opT at h
 by_cases h1 : isT (sg 124) l = true
 · exact isT_len (sg_size _) h1
 · by_cases h2 : isT (sg 38) l = true
   · exact isT_len (sg_size _) h2
   · by_cases h3 : isT (sg 45) l = true
     · exact isT_len (sg_size _) h3
     · rw [if_neg h1, if_neg h2, if_neg h3] at h
       exact absurd rfl h
theorem eats : ∀ f : Nat, (∀ d l o r, partF f d l = .ok (o, r) → r.length < l.length) ∧ (∀ d acc l o r, moreF f d acc l = .ok (o, r) → r.length ≤ l.length)
 | 0 => ⟨fun d l o r h => (by unfold partF at h; cases h), fun d acc l o r h => (by unfold moreF at h; cases h)⟩
 | f + 1 => by
  obtain ⟨ih1, ih2⟩ := eats f
  constructor
  · intro d l o r h
    unfold partF at h
    split at h
    · rename_i hc
      cases h
      have := isT_len (by show 0 < 4; omega) hc
      omega
    · split at h
      · rename_i hc
        have h1 := isT_len (sg_size _) hc
        split at h
        · cases h
        · obtain ⟨a, m, e1, h⟩ := andT_inv h
          obtain ⟨a2, m2, e2, h⟩ := andT_inv h
          obtain ⟨a3, m3, e3, h⟩ := andT_inv h
          cases h
          have := ih1 _ _ _ _ e1
          have := ih2 _ _ _ _ _ e2
          have := needT_len (sg_size _) e3
          omega
      · obtain ⟨a, m, e1, h⟩ := andT_inv h
        have h1 := nameT_len e1
        split at h
        · rename_i hc
          have h2 := isT_len (sg_size _) hc
          obtain ⟨a2, m2, e2, h⟩ := andT_inv h
          have := nameT_len e2
          cases h
          omega
        · cases h
          omega
  · intro d acc l o r h
    unfold moreF at h
    split at h
    · cases h
      omega
    · rename_i hc
      have h1 := opT_len hc
      obtain ⟨a, m, e1, h⟩ := andT_inv h
      have := ih1 _ _ _ _ e1
      have := ih2 _ _ _ _ _ h
      omega
theorem fuel : ∀ f g : Nat, (∀ d l, l.length < f → l.length < g → partF f d l = partF g d l) ∧ (∀ d acc l, l.length < f → l.length < g → moreF f d acc l = moreF g d acc l)
 | 0, _ => ⟨fun _ _ h _ => absurd h (Nat.not_lt_zero _), fun _ _ _ h _ => absurd h (Nat.not_lt_zero _)⟩
 | _ + 1, 0 => ⟨fun _ _ _ h => absurd h (Nat.not_lt_zero _), fun _ _ _ _ h => absurd h (Nat.not_lt_zero _)⟩
 | f + 1, g + 1 => by
  obtain ⟨ih1, ih2⟩ := fuel f g
  constructor
  · intro d l hf hg
    unfold partF
    split
    · rfl
    · split
      · rename_i hc
        have h1 := isT_len (sg_size _) hc
        split
        · rfl
        · refine andT_congr (ih1 _ _ (by omega) (by omega)) fun a m e1 => ?_
          have := (eats _).1 _ _ _ _ e1
          exact andT_congr (ih2 _ _ _ (by omega) (by omega)) fun _ _ _ => rfl
      · rfl
  · intro d acc l hf hg
    unfold moreF
    split
    · rfl
    · rename_i hc
      have h1 := opT_len hc
      refine andT_congr (ih1 _ _ (by omega) (by omega)) fun a m e1 => ?_
      have := (eats _).1 _ _ _ _ e1
      exact ih2 _ _ _ (by omega) (by omega)
def partT (d : Nat) (l : List Tk) : Rs (List OpP) := partF (l.length + 1) d l
def moreT (d : Nat) (acc : List OpP) (l : List Tk) : Rs (List OpP) := moreF (l.length + 1) d acc l
def rewT (d : Nat) (l : List Tk) : Rs (List OpP) := andT (partT d l) fun o r => moreT d o r
theorem partT_eq (d : Nat) (l : List Tk) : partT d l =
 if isT sThis l = true then .ok ([(1, ⟨#[]⟩, ⟨#[]⟩)], l.tail)
 else if isT (sg 40) l = true then
  (if d = 8 then badT 13 l
  else andT (rewT (d + 1) l.tail) fun o r => andT (needT (sg 41) r) fun _ r => .ok (o, r))
 else andT (nameT l) fun n r =>
  if isT (sg 46) r = true then andT (nameT r.tail) fun m r => .ok ([(3, n, m)], r) else .ok ([(2, n, ⟨#[]⟩)], r) := by
 conv => lhs; unfold partT partF
 split
 · rfl
 · split
   · rename_i hc
     have h1 := isT_len (sg_size _) hc
     split
     · rfl
     · have e1 : partF l.length (d + 1) l.tail = partT (d + 1) l.tail := (fuel _ _).1 _ _ (by omega) (by omega)
       rw [e1]
       unfold rewT
       cases hp : partT (d + 1) l.tail with
       | error e => rfl
       | ok p =>
        have := (eats _).1 _ _ _ _ (show partF (l.tail.length + 1) (d + 1) l.tail = .ok (p.1, p.2) from hp)
        have e2 : moreF l.length (d + 1) p.1 p.2 = moreT (d + 1) p.1 p.2 := (fuel _ _).2 _ _ _ (by omega) (by omega)
        show andT (moreF l.length (d + 1) p.1 p.2) _ = andT (moreT (d + 1) p.1 p.2) _
        rw [e2]
   · rfl
theorem moreT_eq (d : Nat) (acc : List OpP) (l : List Tk) : moreT d acc l =
 if opT l = 0 then .ok (acc, l)
 else andT (partT d l.tail) fun o r => moreT d (acc ++ o ++ [(opT l, ⟨#[]⟩, ⟨#[]⟩)]) r := by
 conv => lhs; unfold moreT moreF
 split
 · rfl
 · rename_i hc
   have h1 := opT_len hc
   refine andT_congr ((fuel _ _).1 _ _ (by omega) (by omega)) fun a m e1 => ?_
   have := (eats _).1 _ _ _ _ e1
   exact (fuel _ _).2 _ _ _ (by omega) (by omega)
theorem whoF_eats : ∀ (f : Nat) (acc : List SubP) (l : List Tk) (o : List SubP) (r : List Tk), whoF f acc l = .ok (o, r) → r.length < l.length
 | 0, acc, l, o, r, h => by unfold whoF at h; cases h
 | f + 1, acc, l, o, r, h => by
  unfold whoF at h
  obtain ⟨a, m, e1, h⟩ := andT_inv h
  have h1 := nameT_len e1
  obtain ⟨a2, m2, e2, h⟩ := andT_inv h
  have h2 : m2.length ≤ m.length := by
   by_cases hc : isT (sg 35) m = true
   · rw [if_pos hc] at e2
     have := isT_len (sg_size _) hc
     have := nameT_len e2
     omega
   · rw [if_neg hc] at e2
     cases e2
     omega
  by_cases hc : isT (sg 44) m2 = true
  · rw [if_pos hc] at h
    have := isT_len (sg_size _) hc
    have := whoF_eats f _ _ _ _ h
    omega
  · rw [if_neg hc] at h
    cases h
    omega
theorem who_len {m m2 : List Tk} {a2 : ByteArray} (e2 : (if isT (sg 35) m = true then nameT m.tail else .ok (⟨#[]⟩, m)) = .ok (a2, m2)) : m2.length ≤ m.length := by
 by_cases hc : isT (sg 35) m = true
 · rw [if_pos hc] at e2
   have := isT_len (sg_size _) hc
   have := nameT_len e2
   omega
 · rw [if_neg hc] at e2
   cases e2
   omega
theorem whoF_fuel : ∀ (f g : Nat) (acc : List SubP) (l : List Tk), l.length < f → l.length < g → whoF f acc l = whoF g acc l
 | 0, _, _, _, h, _ => absurd h (Nat.not_lt_zero _)
 | _ + 1, 0, _, _, _, h => absurd h (Nat.not_lt_zero _)
 | f + 1, g + 1, acc, l, hf, hg => by
  unfold whoF
  refine andT_congr rfl fun a m e1 => ?_
  have h1 := nameT_len e1
  refine andT_congr rfl fun a2 m2 e2 => ?_
  have h2 := who_len e2
  by_cases hc : isT (sg 44) m2 = true
  · rw [if_pos hc, if_pos hc]
    have := isT_len (sg_size _) hc
    exact whoF_fuel f g _ _ (by omega) (by omega)
  · rw [if_neg hc, if_neg hc]
def whoT (acc : List SubP) (l : List Tk) : Rs (List SubP) := whoF (l.length + 1) acc l
theorem whoT_eq (acc : List SubP) (l : List Tk) : whoT acc l = andT (nameT l) fun n r =>
 andT (if isT (sg 35) r = true then nameT r.tail else .ok (⟨#[]⟩, r)) fun m r =>
  if isT (sg 44) r = true then whoT (acc ++ [(n, m)]) r.tail else .ok (acc ++ [(n, m)], r) := by
 conv => lhs; unfold whoT whoF
 refine andT_congr rfl fun a m e1 => ?_
 have h1 := nameT_len e1
 refine andT_congr rfl fun a2 m2 e2 => ?_
 have h2 := who_len e2
 by_cases hc : isT (sg 44) m2 = true
 · rw [if_pos hc, if_pos hc]
   have := isT_len (sg_size _) hc
   exact whoF_fuel _ _ _ _ (by omega) (by omega)
 · rw [if_neg hc, if_neg hc]
theorem rewF_fuel {f d : Nat} {l : List Tk} (h : l.length < f) : rewF f d l = rewT d l := by
 unfold rewF rewT partT
 refine andT_congr ((fuel _ _).1 _ _ h (by omega)) fun a m e1 => ?_
 have := (eats _).1 _ _ _ _ e1
 exact (fuel _ _).2 _ _ _ (by omega) (by omega)
theorem rewT_eats {d : Nat} {l r : List Tk} {o : List OpP} (h : rewT d l = .ok (o, r)) : r.length < l.length := by
 unfold rewT at h
 obtain ⟨a, m, e1, h⟩ := andT_inv h
 have := (eats _).1 _ _ _ _ e1
 have := (eats _).2 _ _ _ _ _ h
 omega
def relT (l : List Tk) : Rs RelP :=
 andT (nameT l) fun n r => andT (needT (sg 40) r) fun _ r => andT (nameT r) fun v r => andT (needT (sg 44) r) fun _ r =>
 andT (nameT r) fun e r => andT (needT (sg 44) r) fun _ r => andT (nameT r) fun c r => andT (needT (sg 41) r) fun _ r =>
 andT (needT (sg 58) r) fun _ r =>
 andT (if isT sIs r = true ∨ isT (sg 59) r = true then .ok ([], r) else whoT [] r) fun w r =>
 andT (if isT sIs r = true then rewT 0 r.tail else .ok ([(1, ⟨#[]⟩, ⟨#[]⟩)], r)) fun o r =>
 andT (needT (sg 59) r) fun _ r => .ok (⟨n, v, e, c, w, o⟩, r)
theorem sIs_size : 0 < sIs.size := by show 0 < 2; omega
theorem relF_fuel {f : Nat} {l : List Tk} (h : l.length < f) : relF f l = relT l ∧ ∀ o r, relT l = .ok (o, r) → r.length < l.length := by
 constructor
 · unfold relF relT
   refine andT_congr rfl fun _ _ e => ?_
   have h1 := nameT_len e
   refine andT_congr rfl fun _ _ e => ?_
   have h2 := needT_len (sg_size _) e
   refine andT_congr rfl fun _ _ e => ?_
   have h3 := nameT_len e
   refine andT_congr rfl fun _ _ e => ?_
   have h4 := needT_len (sg_size _) e
   refine andT_congr rfl fun _ _ e => ?_
   have h5 := nameT_len e
   refine andT_congr rfl fun _ _ e => ?_
   have h6 := needT_len (sg_size _) e
   refine andT_congr rfl fun _ _ e => ?_
   have h7 := nameT_len e
   refine andT_congr rfl fun _ _ e => ?_
   have h8 := needT_len (sg_size _) e
   refine andT_congr rfl fun _ _ e => ?_
   have h9 := needT_len (sg_size _) e
   rename_i m9
   refine andT_congr ?_ fun _ m e => ?_
   · split
     · rfl
     · exact whoF_fuel _ _ _ _ (by omega) (by omega)
   · have h10 : m.length ≤ m9.length := by
      split at e
      · cases e; exact Nat.le_refl _
      · have := whoF_eats _ _ _ _ _ e; omega
     refine andT_congr ?_ fun _ _ _ => rfl
     split
     · rename_i hc
       have := isT_len sIs_size hc
       exact rewF_fuel (by omega)
     · rfl
 · intro o r hr
   unfold relT at hr
   obtain ⟨_, _, e, hr⟩ := andT_inv hr
   have h1 := nameT_len e
   obtain ⟨_, _, e, hr⟩ := andT_inv hr
   have h2 := needT_len (sg_size _) e
   obtain ⟨_, _, e, hr⟩ := andT_inv hr
   have h3 := nameT_len e
   obtain ⟨_, _, e, hr⟩ := andT_inv hr
   have h4 := needT_len (sg_size _) e
   obtain ⟨_, _, e, hr⟩ := andT_inv hr
   have h5 := nameT_len e
   obtain ⟨_, _, e, hr⟩ := andT_inv hr
   have h6 := needT_len (sg_size _) e
   obtain ⟨_, _, e, hr⟩ := andT_inv hr
   have h7 := nameT_len e
   obtain ⟨_, _, e, hr⟩ := andT_inv hr
   have h8 := needT_len (sg_size _) e
   obtain ⟨_, m9, e, hr⟩ := andT_inv hr
   have h9 := needT_len (sg_size _) e
   obtain ⟨_, m, e, hr⟩ := andT_inv hr
   have h10 : m.length ≤ m9.length := by
    split at e
    · cases e; exact Nat.le_refl _
    · have := whoF_eats _ _ _ _ _ e; omega
   obtain ⟨_, m2, e, hr⟩ := andT_inv hr
   have h11 : m2.length ≤ m.length := by
    split at e
    · rename_i hc
      have := isT_len sIs_size hc
      have := rewT_eats e
      omega
    · cases e; exact Nat.le_refl _
   obtain ⟨_, _, e, hr⟩ := andT_inv hr
   have h12 := needT_len (sg_size _) e
   cases hr
   omega
theorem sRel_size : 0 < sRel.size := by show 0 < 3; omega
theorem sType_size : 0 < sType.size := by show 0 < 4; omega
theorem relsF_eats : ∀ (f g : Nat) (acc : List RelP) (l : List Tk) (o : List RelP) (r : List Tk), l.length < f → relsF f g acc l = .ok (o, r) → r.length ≤ l.length
 | _, 0, acc, l, o, r, _, h => by unfold relsF at h; cases h
 | f, g + 1, acc, l, o, r, hf, h => by
  unfold relsF at h
  by_cases hc : isT sRel l = true
  · rw [if_pos hc] at h
    have h1 := isT_len sRel_size hc
    rw [(relF_fuel (f := f) (l := l.tail) (by omega)).1] at h
    obtain ⟨a, m, e1, h⟩ := andT_inv h
    have := (relF_fuel (f := f) (l := l.tail) (by omega)).2 _ _ e1
    have := relsF_eats f g _ _ _ _ (by omega) h
    omega
  · rw [if_neg hc] at h
    cases h
    omega
theorem relsF_fuel : ∀ (g g2 f f2 : Nat) (acc : List RelP) (l : List Tk), l.length < f → l.length < f2 → l.length < g → l.length < g2 → relsF f g acc l = relsF f2 g2 acc l
 | 0, _, _, _, _, _, _, _, h, _ => absurd h (Nat.not_lt_zero _)
 | _ + 1, 0, _, _, _, _, _, _, _, h => absurd h (Nat.not_lt_zero _)
 | g + 1, g2 + 1, f, f2, acc, l, hf, hf2, hg, hg2 => by
  unfold relsF
  by_cases hc : isT sRel l = true
  · rw [if_pos hc, if_pos hc]
    have h1 := isT_len sRel_size hc
    obtain ⟨e, e2⟩ := relF_fuel (f := f) (l := l.tail) (by omega)
    rw [e, (relF_fuel (f := f2) (l := l.tail) (by omega)).1]
    refine andT_congr rfl fun a m e1 => ?_
    have := e2 _ _ e1
    exact relsF_fuel g g2 f f2 _ _ (by omega) (by omega) (by omega) (by omega)
  · rw [if_neg hc, if_neg hc]
def relsT (acc : List RelP) (l : List Tk) : Rs (List RelP) := relsF (l.length + 1) (l.length + 1) acc l
theorem relsT_eq (acc : List RelP) (l : List Tk) : relsT acc l = if isT sRel l = true then andT (relT l.tail) fun x r => relsT (acc ++ [x]) r else .ok (acc, l) := by
 conv => lhs; unfold relsT relsF
 by_cases hc : isT sRel l = true
 · rw [if_pos hc, if_pos hc]
   have h1 := isT_len sRel_size hc
   obtain ⟨e, e2⟩ := relF_fuel (f := l.length + 1) (l := l.tail) (by omega)
   rw [e]
   refine andT_congr rfl fun a m e1 => ?_
   have := e2 _ _ e1
   exact relsF_fuel _ _ _ _ _ _ (by omega) (by omega) (by omega) (by omega)
 · rw [if_neg hc, if_neg hc]
theorem typesF_fuel : ∀ (g g2 f f2 : Nat) (acc : List TypP) (l : List Tk), l.length < f → l.length < f2 → l.length < g → l.length < g2 → typesF f g acc l = typesF f2 g2 acc l
 | 0, _, _, _, _, _, _, _, h, _ => absurd h (Nat.not_lt_zero _)
 | _ + 1, 0, _, _, _, _, _, _, _, h => absurd h (Nat.not_lt_zero _)
 | g + 1, g2 + 1, f, f2, acc, l, hf, hf2, hg, hg2 => by
  unfold typesF
  by_cases hc : isT sType l = true
  · rw [if_pos hc, if_pos hc]
    have h1 := isT_len sType_size hc
    refine andT_congr rfl fun _ _ e => ?_
    have h2 := nameT_len e
    refine andT_congr rfl fun _ m3 e => ?_
    have h3 := needT_len (sg_size _) e
    refine andT_congr (relsF_fuel _ _ _ _ _ _ (by omega) (by omega) (by omega) (by omega)) fun _ _ e => ?_
    have h4 := relsF_eats _ _ _ _ _ _ (by omega) e
    refine andT_congr rfl fun _ _ e => ?_
    have h5 := needT_len (sg_size _) e
    exact typesF_fuel g g2 f f2 _ _ (by omega) (by omega) (by omega) (by omega)
  · rw [if_neg hc, if_neg hc]
def typesT (acc : List TypP) (l : List Tk) : Rs (List TypP) := typesF (l.length + 1) (l.length + 1) acc l
theorem typesT_eq (acc : List TypP) (l : List Tk) : typesT acc l =
 if isT sType l = true then andT (nameT l.tail) fun n r => andT (needT (sg 123) r) fun _ r => andT (relsT [] r) fun rs r =>
  andT (needT (sg 125) r) fun _ r => typesT (acc ++ [⟨n, rs⟩]) r
 else .ok (acc, l) := by
 conv => lhs; unfold typesT typesF
 by_cases hc : isT sType l = true
 · rw [if_pos hc, if_pos hc]
   have h1 := isT_len sType_size hc
   refine andT_congr rfl fun _ _ e => ?_
   have h2 := nameT_len e
   refine andT_congr rfl fun _ m3 e => ?_
   have h3 := needT_len (sg_size _) e
   refine andT_congr (relsF_fuel _ _ _ _ _ _ (by omega) (by omega) (by omega) (by omega)) fun _ _ e => ?_
   have h4 := relsF_eats _ _ _ _ _ _ (by omega) e
   refine andT_congr rfl fun _ _ e => ?_
   have h5 := needT_len (sg_size _) e
   exact typesF_fuel _ _ _ _ _ _ (by omega) (by omega) (by omega) (by omega)
 · rw [if_neg hc, if_neg hc]
theorem schemaF_eq (l : List Tk) : schemaF l = andT (typesT [] l) fun t r => if (hdT r).1 = 3 then .ok (t, r) else badT 30 r := by
 unfold schemaF typesT
 exact andT_congr (typesF_fuel _ _ _ _ _ _ (by omega) (by omega) (by omega) (by omega)) fun _ _ _ => rfl
def Wd (l : List Tk) : Prop := ∀ t ∈ l, t.1 = 1 → 0 < t.2.1.size
theorem Wd.tail {l : List Tk} (h : Wd l) : Wd l.tail := fun t ht => h t (List.mem_of_mem_tail ht)
def Bd (B : Nat) (l : List Tk) : Prop := ∀ t ∈ l, t.2.2 ≤ B
theorem Bd.tail {B : Nat} {l : List Tk} (h : Bd B l) : Bd B l.tail := fun t ht => h t (List.mem_of_mem_tail ht)
theorem Bd.hd {B : Nat} {l : List Tk} (h : Bd B l) : (hdT l).2.2 ≤ B := by
 cases l with
 | nil => exact Nat.zero_le _
 | cons a r => exact h a (List.mem_cons_self ..)
def Sf {α : Type} (B : Nat) : Rs α → Prop
 | .error e => e.2 ≤ B
 | .ok p => Bd B p.2
theorem Sf.and {α β : Type} {B : Nat} {r : Rs α} {k : α → List Tk → Rs β} (h : Sf B r) (hk : ∀ a l, Bd B l → Sf B (k a l)) : Sf B (andT r k) := by
 cases r with
 | error e => exact h
 | ok p => exact hk p.1 p.2 h
theorem Sf.bad {α : Type} {B : Nat} {l : List Tk} (h : Bd B l) (c : Nat) : Sf B (badT c l : Rs α) := h.hd
theorem Sf.ok {α : Type} {B : Nat} {l : List Tk} (h : Bd B l) (a : α) : Sf B (.ok (a, l) : Rs α) := h
theorem Sf.name {B : Nat} {l : List Tk} (h : Bd B l) : Sf B (nameT l) := by
 unfold nameT
 split
 · exact h.tail
 · exact Sf.bad h 30
theorem Sf.need {B : Nat} {l : List Tk} (h : Bd B l) (s : ByteArray) : Sf B (needT s l) := by
 unfold needT
 split
 · exact h.tail
 · exact Sf.bad h 30
theorem Sf.parts (B : Nat) : ∀ f : Nat, (∀ d l, Bd B l → Sf B (partF f d l)) ∧ (∀ d acc l, Bd B l → Sf B (moreF f d acc l))
 | 0 => ⟨fun d l h => (by unfold partF; exact Sf.bad h 30), fun d acc l h => (by unfold moreF; exact Sf.bad h 30)⟩
 | f + 1 => by
  obtain ⟨ih1, ih2⟩ := Sf.parts B f
  constructor
  · intro d l h
    unfold partF
    split
    · exact h.tail
    · split
      · split
        · exact Sf.bad h 13
        · exact (ih1 _ _ h.tail).and fun a m hm => (ih2 _ _ _ hm).and fun a m hm => (Sf.need hm _).and fun a m hm => hm
      · refine (Sf.name h).and fun a m hm => ?_
        split
        · exact (Sf.name hm.tail).and fun a m hm => hm
        · exact hm
  · intro d acc l h
    unfold moreF
    split
    · exact h
    · exact (ih1 _ _ h.tail).and fun a m hm => ih2 _ _ _ hm
theorem Sf.who (B : Nat) : ∀ (f : Nat) (acc : List SubP) (l : List Tk), Bd B l → Sf B (whoF f acc l)
 | 0, acc, l, h => by unfold whoF; exact Sf.bad h 30
 | f + 1, acc, l, h => by
  unfold whoF
  refine (Sf.name h).and fun a m hm => Sf.and (r := if isT (sg 35) m = true then nameT m.tail else .ok (⟨#[]⟩, m)) ?_ fun a m hm => ?_
  · split
    · exact Sf.name hm.tail
    · exact hm
  · split
    · exact Sf.who B f _ _ hm.tail
    · exact hm
theorem Sf.rel {B : Nat} {f : Nat} {l : List Tk} (h : Bd B l) : Sf B (relF f l) := by
 unfold relF
 refine (Sf.name h).and fun _ _ h => (Sf.need h _).and fun _ _ h => (Sf.name h).and fun _ _ h => (Sf.need h _).and fun _ _ h => (Sf.name h).and fun _ _ h => (Sf.need h _).and fun _ _ h => (Sf.name h).and fun _ _ h => (Sf.need h _).and fun _ _ h => (Sf.need h _).and fun _ m h => ?_
 refine Sf.and (r := if isT sIs m = true ∨ isT (sg 59) m = true then .ok ([], m) else whoF f [] m) ?_ fun _ m h => ?_
 · split
   · exact h
   · exact Sf.who B f _ _ h
 refine Sf.and (r := if isT sIs m = true then rewF f 0 m.tail else .ok ([(1, ⟨#[]⟩, ⟨#[]⟩)], m)) ?_ fun _ m h => ?_
 · split
   · unfold rewF
     exact ((Sf.parts B f).1 _ _ h.tail).and fun _ _ h => (Sf.parts B f).2 _ _ _ h
   · exact h
 exact (Sf.need h _).and fun _ _ h => h
theorem Sf.rels (B : Nat) : ∀ (g f : Nat) (acc : List RelP) (l : List Tk), Bd B l → Sf B (relsF f g acc l)
 | 0, f, acc, l, h => by unfold relsF; exact Sf.bad h 30
 | g + 1, f, acc, l, h => by
  unfold relsF
  split
  · exact (Sf.rel h.tail).and fun _ _ h => Sf.rels B g f _ _ h
  · exact h
theorem Sf.types (B : Nat) : ∀ (g f : Nat) (acc : List TypP) (l : List Tk), Bd B l → Sf B (typesF f g acc l)
 | 0, f, acc, l, h => by unfold typesF; exact Sf.bad h 30
 | g + 1, f, acc, l, h => by
  unfold typesF
  split
  · exact (Sf.name h.tail).and fun _ _ h => (Sf.need h _).and fun _ _ h => (Sf.rels B f f _ _ h).and fun _ _ h => (Sf.need h _).and fun _ _ h => Sf.types B g f _ _ h
  · exact h
theorem few_parts : ∀ f : Nat, (∀ d l o r, partF f d l = .ok (o, r) → o.length + r.length ≤ l.length) ∧ (∀ d acc l o r, moreF f d acc l = .ok (o, r) → o.length + r.length ≤ acc.length + l.length)
 | 0 => ⟨fun d l o r h => (by unfold partF at h; cases h), fun d acc l o r h => (by unfold moreF at h; cases h)⟩
 | f + 1 => by
  obtain ⟨ih1, ih2⟩ := few_parts f
  constructor
  · intro d l o r h
    unfold partF at h
    split at h
    · rename_i hc
      have h1 := isT_len (by decide) hc
      cases h
      simp only [List.length_cons, List.length_nil]
      omega
    · split at h
      · rename_i hc
        have h1 := isT_len (sg_size _) hc
        split at h
        · cases h
        · obtain ⟨a, m, e1, h⟩ := andT_inv h
          have g1 := ih1 _ _ _ _ e1
          obtain ⟨a2, m2, e2, h⟩ := andT_inv h
          have g2 := ih2 _ _ _ _ _ e2
          obtain ⟨a3, m3, e3, h⟩ := andT_inv h
          have w3 := needT_len (sg_size _) e3
          cases h
          omega
      · obtain ⟨a, m, e1, h⟩ := andT_inv h
        have s1 := nameT_len e1
        split at h
        · rename_i hc
          have h1 := isT_len (sg_size _) hc
          obtain ⟨a2, m2, e2, h⟩ := andT_inv h
          have s2 := nameT_len e2
          cases h
          simp only [List.length_cons, List.length_nil]
          omega
        · cases h
          simp only [List.length_cons, List.length_nil]
          omega
  · intro d acc l o r h
    unfold moreF at h
    split at h
    · cases h
      exact Nat.le_refl _
    · rename_i hc
      have h1 := opT_len hc
      obtain ⟨a, m, e1, h⟩ := andT_inv h
      have g1 := ih1 _ _ _ _ e1
      have g2 := ih2 _ _ _ _ _ h
      simp only [List.length_append, List.length_cons, List.length_nil] at g2
      omega
theorem few_who : ∀ (f : Nat) (acc : List SubP) (l : List Tk) (o : List SubP) (r : List Tk), whoF f acc l = .ok (o, r) → o.length + r.length ≤ acc.length + l.length
 | 0, acc, l, o, r, h => by unfold whoF at h; cases h
 | f + 1, acc, l, o, r, h => by
  unfold whoF at h
  obtain ⟨a, m, e1, h⟩ := andT_inv h
  have s1 := nameT_len e1
  obtain ⟨a2, m2, e2, h⟩ := andT_inv h
  have s2 := who_len e2
  by_cases hc : isT (sg 44) m2 = true
  · rw [if_pos hc] at h
    have s3 := isT_len (sg_size _) hc
    have := few_who f _ _ _ _ h
    simp only [List.length_append, List.length_cons, List.length_nil] at this
    omega
  · rw [if_neg hc] at h
    cases h
    simp only [List.length_append, List.length_cons, List.length_nil]
    omega
def FewR (N : Nat) (x : RelP) : Prop := x.subs.length ≤ N ∧ x.ops.length ≤ N
theorem few_rel {l r : List Tk} {x : RelP} (h : relT l = .ok (x, r)) : FewR l.length x ∧ r.length < l.length := by
 refine ⟨?_, (relF_fuel (f := l.length + 1) (Nat.lt_succ_self _)).2 _ _ h⟩
 unfold relT at h
 obtain ⟨_, _, e, h⟩ := andT_inv h
 have l0 := nameT_len e
 obtain ⟨_, _, e, h⟩ := andT_inv h
 have l1 := needT_len (sg_size _) e
 obtain ⟨_, _, e, h⟩ := andT_inv h
 have l2 := nameT_len e
 obtain ⟨_, _, e, h⟩ := andT_inv h
 have l3 := needT_len (sg_size _) e
 obtain ⟨_, _, e, h⟩ := andT_inv h
 have l4 := nameT_len e
 obtain ⟨_, _, e, h⟩ := andT_inv h
 have l5 := needT_len (sg_size _) e
 obtain ⟨_, _, e, h⟩ := andT_inv h
 have l6 := nameT_len e
 obtain ⟨_, _, e, h⟩ := andT_inv h
 have l7 := needT_len (sg_size _) e
 obtain ⟨_, _, e, h⟩ := andT_inv h
 have l8 := needT_len (sg_size _) e
 obtain ⟨subs, m, e, h⟩ := andT_inv h
 have w2 : subs.length + m.length ≤ l.length := by
  split at e
  · cases e
    simp only [List.length_nil]
    omega
  · have := few_who _ _ _ _ _ e
    simp only [List.length_nil] at this
    omega
 obtain ⟨ops, m2, e, h⟩ := andT_inv h
 have w3 : ops.length ≤ l.length := by
  split at e
  · rename_i hc
    have l9 := isT_len sIs_size hc
    unfold rewT at e
    obtain ⟨_, _, e1, e⟩ := andT_inv e
    have g1 := (few_parts _).1 _ _ _ _ e1
    have g2 := (few_parts _).2 _ _ _ _ _ e
    omega
  · cases e
    simp only [List.length_cons, List.length_nil]
    omega
 obtain ⟨_, _, e, h⟩ := andT_inv h
 cases h
 exact ⟨by dsimp only; omega, w3⟩
theorem FewR.up {N M : Nat} {x : RelP} (h : FewR N x) (hN : N ≤ M) : FewR M x := ⟨Nat.le_trans h.1 hN, Nat.le_trans h.2 hN⟩
theorem few_rels (N : Nat) : ∀ (n : Nat) (acc : List RelP) (l : List Tk) (o : List RelP) (r : List Tk), l.length ≤ n → l.length ≤ N → (∀ x ∈ acc, FewR N x) → relsT acc l = .ok (o, r) → (∀ x ∈ o, FewR N x) ∧ o.length + r.length ≤ acc.length + l.length := by
 intro n
 induction n with
 | zero =>
  intro acc l o r hn hN ha h
  rw [relsT_eq] at h
  by_cases hc : isT sRel l = true
  · have := isT_len sRel_size hc; omega
  · rw [if_neg hc] at h
    cases h
    exact ⟨ha, Nat.le_refl _⟩
 | succ n ih =>
  intro acc l o r hn hN ha h
  rw [relsT_eq] at h
  by_cases hc : isT sRel l = true
  · rw [if_pos hc] at h
    have h1 := isT_len sRel_size hc
    obtain ⟨x, m, e, h⟩ := andT_inv h
    obtain ⟨g, w⟩ := few_rel e
    have := ih _ _ _ _ (by omega) (by omega) (fun y hy => by
     rcases List.mem_append.1 hy with hy | hy
     · exact ha y hy
     · simp only [List.mem_cons, List.not_mem_nil, or_false] at hy
       subst hy; exact g.up (by omega)) h
    refine ⟨this.1, ?_⟩
    have := this.2
    simp only [List.length_append, List.length_cons, List.length_nil] at this
    omega
  · rw [if_neg hc] at h
    cases h
    exact ⟨ha, Nat.le_refl _⟩
def FewT (N : Nat) (t : TypP) : Prop := t.rels.length ≤ N ∧ ∀ x ∈ t.rels, FewR N x
theorem few_types (N : Nat) : ∀ (n : Nat) (acc : List TypP) (l : List Tk) (o : List TypP) (r : List Tk), l.length ≤ n → l.length ≤ N → (∀ t ∈ acc, FewT N t) → typesT acc l = .ok (o, r) → (∀ t ∈ o, FewT N t) ∧ o.length + r.length ≤ acc.length + l.length := by
 intro n
 induction n with
 | zero =>
  intro acc l o r hn hN ha h
  rw [typesT_eq] at h
  by_cases hc : isT sType l = true
  · have := isT_len sType_size hc; omega
  · rw [if_neg hc] at h
    cases h
    exact ⟨ha, Nat.le_refl _⟩
 | succ n ih =>
  intro acc l o r hn hN ha h
  rw [typesT_eq] at h
  by_cases hc : isT sType l = true
  · rw [if_pos hc] at h
    have h1 := isT_len sType_size hc
    obtain ⟨_, _, e, h⟩ := andT_inv h
    have l1 := nameT_len e
    obtain ⟨_, _, e, h⟩ := andT_inv h
    have l2 := needT_len (sg_size _) e
    obtain ⟨rs, m, e, h⟩ := andT_inv h
    obtain ⟨g, l3⟩ := few_rels N _ _ _ _ _ (Nat.le_refl _) (by omega) (fun x hx => by cases hx) e
    simp only [List.length_nil] at l3
    obtain ⟨_, _, e, h⟩ := andT_inv h
    have l4 := needT_len (sg_size _) e
    have := ih _ _ _ _ (by omega) (by omega) (fun t ht => by
     rcases List.mem_append.1 ht with ht | ht
     · exact ha t ht
     · simp only [List.mem_cons, List.not_mem_nil, or_false] at ht
       subst ht; exact ⟨by dsimp only; omega, g⟩) h
    refine ⟨this.1, ?_⟩
    have := this.2
    simp only [List.length_append, List.length_cons, List.length_nil] at this
    omega
  · rw [if_neg hc] at h
    cases h
    exact ⟨ha, Nat.le_refl _⟩
def Few (N : Nat) (T : List TypP) : Prop := T.length ≤ N ∧ ∀ t ∈ T, FewT N t
theorem parse_few {s : ByteArray} {N : Nat} (hl : (allS s).1.length ≤ N) : Few N (parseS s).1 := by
 unfold parseS
 split
 · rw [schemaF_eq]
   cases hT : typesT [] (allS s).1 with
   | error e => exact ⟨Nat.zero_le _, fun t ht => by cases ht⟩
   | ok q =>
    obtain ⟨g, l⟩ := few_types N _ _ _ _ _ (Nat.le_refl _) hl (fun t ht => by cases ht) (show typesT [] (allS s).1 = .ok (q.1, q.2) from hT)
    rw [andT_ok]
    simp only [List.length_nil] at l
    split
    · exact ⟨by show q.1.length ≤ N; omega, g⟩
    · exact ⟨Nat.zero_le _, fun t ht => by cases ht⟩
 · exact ⟨Nat.zero_le _, fun t ht => by cases ht⟩
abbrev St := Except (Nat × Nat) (List Tk)
def isU (s : ByteArray) : St → Bool
 | .ok l => isT s l
 | .error _ => false
def upU : St → St
 | .ok l => .ok l.tail
 | .error e => .error e
def failU (c : Nat) : St → St
 | .ok l => .error (c, (hdT l).2.2)
 | .error e => .error e
def opU : St → Nat
 | .ok l => opT l
 | .error _ => 0
def needU (s : ByteArray) (q : St) : St := if isU s q = true then upU q else failU 30 q
def isN : St → Bool
 | .ok l => decide ((hdT l).1 = 1) && !keyB (hdT l).2.1
 | .error _ => false
def hdU : St → ByteArray
 | .ok l => (hdT l).2.1
 | .error _ => ⟨#[]⟩
def nameU (q : St) : ByteArray × St := if isN q = true then (hdU q, upU q) else (⟨#[]⟩, failU 30 q)
def andU {α β : Type} (u : α × St) (k : α → St → β × St) : β × St := k u.1 u.2
mutual
def partU : Nat → Nat → St → List OpP × St
 | 0, _, q => ([], failU 30 q)
 | f + 1, d, q =>
  if isU sThis q = true then ([(1, ⟨#[]⟩, ⟨#[]⟩)], upU q)
  else if isU (sg 40) q = true then
   (if d = 8 then ([], failU 13 q)
   else andU (partU f (d + 1) (upU q)) fun o r => andU (moreU f (d + 1) o r) fun o r => (o, needU (sg 41) r))
  else andU (nameU q) fun n r =>
   if isU (sg 46) r = true then andU (nameU (upU r)) fun m r => ([(3, n, m)], r) else ([(2, n, ⟨#[]⟩)], r)
def moreU : Nat → Nat → List OpP → St → List OpP × St
 | 0, _, acc, q => (acc, failU 30 q)
 | f + 1, d, acc, q =>
  if opU q = 0 then (acc, q)
  else andU (partU f d (upU q)) fun o r => moreU f d (acc ++ o ++ [(opU q, ⟨#[]⟩, ⟨#[]⟩)]) r
end
def rewU (f d : Nat) (q : St) : List OpP × St := andU (partU f d q) fun o r => moreU f d o r
def whoU : Nat → List SubP → St → List SubP × St
 | 0, acc, q => (acc, failU 30 q)
 | f + 1, acc, q => andU (nameU q) fun n r =>
  andU (if isU (sg 35) r = true then nameU (upU r) else (⟨#[]⟩, r)) fun m r =>
   if isU (sg 44) r = true then whoU f (acc ++ [(n, m)]) (upU r) else (acc ++ [(n, m)], r)
def goodU : St → Bool
 | .ok _ => true
 | .error _ => false
def relU (f : Nat) (q : St) : RelP × St :=
 andU (nameU q) fun n r => andU (nameU (needU (sg 40) r)) fun v r => andU (nameU (needU (sg 44) r)) fun e r => andU (nameU (needU (sg 44) r)) fun c r =>
 andU (if goodU (needU (sg 58) (needU (sg 41) r)) && !isU sIs (needU (sg 58) (needU (sg 41) r)) && !isU (sg 59) (needU (sg 58) (needU (sg 41) r)) then whoU f [] (needU (sg 58) (needU (sg 41) r)) else ([], needU (sg 58) (needU (sg 41) r))) fun w r =>
 andU (if isU sIs r = true then rewU f 0 (upU r) else ([(1, ⟨#[]⟩, ⟨#[]⟩)], r)) fun o r => (⟨n, v, e, c, w, o⟩, needU (sg 59) r)
def relsU : Nat → Nat → List RelP → St → List RelP × St
 | _, 0, acc, q => (acc, failU 30 q)
 | f, g + 1, acc, q => if isU sRel q = true then andU (relU f (upU q)) fun x r => relsU f g (acc ++ [x]) r else (acc, q)
def typesU : Nat → Nat → List TypP → St → List TypP × St
 | _, 0, acc, q => (acc, failU 30 q)
 | f, g + 1, acc, q =>
  if isU sType q = true then andU (nameU (upU q)) fun n r => andU (relsU f f [] (needU (sg 123) r)) fun rs r => typesU f g (acc ++ [⟨n, rs⟩]) (needU (sg 125) r)
  else (acc, q)
def Lk {α : Type} (r : Rs α) (u : α × St) : Prop := match r with
 | .ok (a, l) => u = (a, .ok l)
 | .error e => u.2 = .error e
theorem more_err (e : Nat × Nat) : ∀ f d acc, moreU f d acc (.error e) = (acc, .error e)
 | 0, _, _ => by unfold moreU; rfl
 | _ + 1, _, _ => by unfold moreU; rfl
theorem rels_err (e : Nat × Nat) (f : Nat) : ∀ g acc, (relsU f g acc (.error e)).2 = .error e
 | 0, _ => by unfold relsU; rfl
 | _ + 1, _ => by unfold relsU; rfl
theorem types_err (e : Nat × Nat) (f : Nat) : ∀ g acc, (typesU f g acc (.error e)).2 = .error e
 | 0, _ => by unfold typesU; rfl
 | _ + 1, _ => by unfold typesU; rfl
theorem Lk.and {α β : Type} {r : Rs α} {k : α → List Tk → Rs β} {u : α × St} {ku : α → St → β × St} (h : Lk r u) (hk : ∀ a l, Lk (k a l) (ku a (.ok l))) (he : ∀ a e, (ku a (.error e)).2 = .error e) : Lk (andT r k) (andU u ku) := by
 cases r with
 | error e =>
  have h2 : u.2 = .error e := h
  show (ku u.1 u.2).2 = _
  rw [h2]
  exact he _ _
 | ok p =>
  have h2 : u = (p.1, .ok p.2) := h
  subst h2
  exact hk _ _
theorem Lk.need {β : Type} {s : ByteArray} {l : List Tk} {k : Unit → List Tk → Rs β} {ku : St → β × St} (hk : ∀ l, Lk (k () l) (ku (.ok l))) (he : ∀ e, (ku (.error e)).2 = .error e) : Lk (andT (needT s l) k) (ku (needU s (.ok l))) := by
 unfold needT needU
 by_cases h : isT s l = true
 · rw [if_pos h, if_pos (show isU s (.ok l) = true from h)]
   exact hk _
 · rw [if_neg h, if_neg (show ¬ isU s (.ok l) = true from h)]
   exact he _
theorem Lk.name (l : List Tk) : Lk (nameT l) (nameU (.ok l)) := by
 unfold nameT nameU
 by_cases h : (hdT l).1 = 1 ∧ keyB (hdT l).2.1 = false
 · rw [if_pos h, if_pos (show isN (.ok l) = true by simp [isN, h])]
   rfl
 · rw [if_neg h, if_neg (show ¬ isN (.ok l) = true by simpa [isN] using h)]
   rfl
theorem Lk.parts : ∀ f : Nat, (∀ d l, Lk (partF f d l) (partU f d (.ok l))) ∧ (∀ d acc l, Lk (moreF f d acc l) (moreU f d acc (.ok l)))
 | 0 => ⟨fun d l => (by unfold partF partU; rfl), fun d acc l => (by unfold moreF moreU; rfl)⟩
 | f + 1 => by
  obtain ⟨ih1, ih2⟩ := Lk.parts f
  constructor
  · intro d l
    unfold partF partU
    by_cases h1 : isT sThis l = true
    · rw [if_pos h1, if_pos (show isU sThis (.ok l) = true from h1)]
      rfl
    rw [if_neg h1, if_neg (show ¬ isU sThis (.ok l) = true from h1)]
    by_cases h2 : isT (sg 40) l = true
    · rw [if_pos h2, if_pos (show isU (sg 40) (.ok l) = true from h2)]
      by_cases h3 : d = 8
      · rw [if_pos h3, if_pos h3]
        rfl
      rw [if_neg h3, if_neg h3]
      refine (ih1 _ _).and (fun a m => (ih2 _ _ _).and (fun a m => ?_) fun a e => rfl) fun a e => ?_
      · exact Lk.need (ku := fun r => (a, needU (sg 41) (.ok m)) |>.map id fun _ => r) (fun _ => rfl) fun _ => rfl
      · show (needU (sg 41) (moreU f (d + 1) a (.error e)).2) = _
        rw [more_err]
        rfl
    rw [if_neg h2, if_neg (show ¬ isU (sg 40) (.ok l) = true from h2)]
    refine (Lk.name l).and (fun n m => ?_) fun a e => rfl
    by_cases h4 : isT (sg 46) m = true
    · rw [if_pos h4, if_pos (show isU (sg 46) (.ok m) = true from h4)]
      exact (Lk.name m.tail).and (fun _ _ => rfl) fun _ _ => rfl
    · rw [if_neg h4, if_neg (show ¬ isU (sg 46) (.ok m) = true from h4)]
      rfl
  · intro d acc l
    unfold moreF moreU
    by_cases h : opT l = 0
    · rw [if_pos h, if_pos (show opU (.ok l) = 0 from h)]
      rfl
    · rw [if_neg h, if_neg (show ¬ opU (.ok l) = 0 from h)]
      refine (ih1 _ _).and (fun a m => ih2 _ _ _) fun a e => ?_
      rw [more_err]
theorem Lk.rew (f d : Nat) (l : List Tk) : Lk (rewF f d l) (rewU f d (.ok l)) := ((Lk.parts f).1 d l).and (fun _ _ => (Lk.parts f).2 _ _ _) fun _ e => by rw [more_err]
theorem Lk.who : ∀ (f : Nat) (acc : List SubP) (l : List Tk), Lk (whoF f acc l) (whoU f acc (.ok l))
 | 0, acc, l => by unfold whoF whoU; rfl
 | f + 1, acc, l => by
  unfold whoF whoU
  refine (Lk.name l).and (fun n m => ?_) fun a e => rfl
  refine Lk.and (r := if isT (sg 35) m = true then nameT m.tail else .ok (⟨#[]⟩, m)) (u := if isU (sg 35) (.ok m) = true then nameU (upU (.ok m)) else (⟨#[]⟩, .ok m)) ?_ (fun a k => ?_) fun a e => rfl
  · by_cases h : isT (sg 35) m = true
    · rw [if_pos h, if_pos (show isU (sg 35) (.ok m) = true from h)]
      exact Lk.name _
    · rw [if_neg h, if_neg (show ¬ isU (sg 35) (.ok m) = true from h)]
      rfl
  · by_cases h : isT (sg 44) k = true
    · rw [if_pos h, if_pos (show isU (sg 44) (.ok k) = true from h)]
      exact Lk.who f _ _
    · rw [if_neg h, if_neg (show ¬ isU (sg 44) (.ok k) = true from h)]
      rfl
theorem Lk.needName {β : Type} {s : ByteArray} {l : List Tk} {k : ByteArray → List Tk → Rs β} {ku : ByteArray → St → β × St} (hk : ∀ a l, Lk (k a l) (ku a (.ok l))) (he : ∀ a e, (ku a (.error e)).2 = .error e) : Lk (andT (needT s l) fun _ r => andT (nameT r) k) (andU (nameU (needU s (.ok l))) ku) :=
 Lk.need (ku := fun q => andU (nameU q) ku) (fun l => (Lk.name l).and hk he) fun _ => he _ _
def tailT (f : Nat) (n v e c : ByteArray) (r : List Tk) : Rs RelP :=
 andT (if isT sIs r = true ∨ isT (sg 59) r = true then .ok ([], r) else whoF f [] r) fun w r =>
 andT (if isT sIs r = true then rewF f 0 r.tail else .ok ([(1, ⟨#[]⟩, ⟨#[]⟩)], r)) fun o r =>
 andT (needT (sg 59) r) fun _ r => .ok (⟨n, v, e, c, w, o⟩, r)
def tailU (f : Nat) (n v e c : ByteArray) (q : St) : RelP × St :=
 andU (if goodU q && !isU sIs q && !isU (sg 59) q then whoU f [] q else ([], q)) fun w r =>
 andU (if isU sIs r = true then rewU f 0 (upU r) else ([(1, ⟨#[]⟩, ⟨#[]⟩)], r)) fun o r => (⟨n, v, e, c, w, o⟩, needU (sg 59) r)
theorem Lk.tail (f : Nat) (n v e c : ByteArray) (l : List Tk) : Lk (tailT f n v e c l) (tailU f n v e c (.ok l)) := by
 unfold tailT tailU
 refine Lk.and ?_ (fun w m => ?_) fun w x => rfl
 · by_cases h : isT sIs l = true ∨ isT (sg 59) l = true
   · rw [if_pos h]
     have h2 : (goodU (.ok l) && !isU sIs (.ok l) && !isU (sg 59) (.ok l)) = false := by
      show (true && !isT sIs l && !isT (sg 59) l) = false
      rcases h with h | h <;> simp [h]
     rw [h2]
     rfl
   · rw [if_neg h]
     have h2 : (goodU (.ok l) && !isU sIs (.ok l) && !isU (sg 59) (.ok l)) = true := by
      show (true && !isT sIs l && !isT (sg 59) l) = true
      simp only [not_or, Bool.not_eq_true] at h
      simp [h.1, h.2]
     rw [h2, if_pos rfl]
     exact Lk.who f [] l
 · refine Lk.and ?_ (fun o k => ?_) fun w x => rfl
   · by_cases h : isT sIs m = true
     · rw [if_pos h, if_pos (show isU sIs (.ok m) = true from h)]
       exact Lk.rew f 0 m.tail
     · rw [if_neg h, if_neg (show ¬ isU sIs (.ok m) = true from h)]
       rfl
   · exact Lk.need (k := fun _ r => .ok ((⟨n, v, e, c, w, o⟩ : RelP), r)) (ku := fun r => ((⟨n, v, e, c, w, o⟩ : RelP), r)) (fun _ => rfl) fun _ => rfl
theorem Lk.rel (f : Nat) (l : List Tk) : Lk (relF f l) (relU f (.ok l)) := by
 unfold relF relU
 refine (Lk.name l).and (fun n m => ?_) fun a x => rfl
 refine Lk.needName (fun v m => ?_) fun a x => rfl
 refine Lk.needName (fun e m => ?_) fun a x => rfl
 refine Lk.needName (fun c m => ?_) fun a x => rfl
 exact Lk.need (k := fun _ r => andT (needT (sg 58) r) fun _ r => tailT f n v e c r) (ku := fun q => tailU f n v e c (needU (sg 58) q)) (fun m => Lk.need (k := fun _ r => tailT f n v e c r) (ku := tailU f n v e c) (fun m => Lk.tail f n v e c m) fun x => rfl) fun x => rfl
theorem Lk.rels (f : Nat) : ∀ (g : Nat) (acc : List RelP) (l : List Tk), Lk (relsF f g acc l) (relsU f g acc (.ok l))
 | 0, acc, l => by unfold relsF relsU; rfl
 | g + 1, acc, l => by
  unfold relsF relsU
  by_cases h : isT sRel l = true
  · rw [if_pos h, if_pos (show isU sRel (.ok l) = true from h)]
    exact (Lk.rel f l.tail).and (fun x m => Lk.rels f g _ m) fun x e => rels_err e f g _
  · rw [if_neg h, if_neg (show ¬ isU sRel (.ok l) = true from h)]
    rfl
theorem Lk.types (f : Nat) : ∀ (g : Nat) (acc : List TypP) (l : List Tk), Lk (typesF f g acc l) (typesU f g acc (.ok l))
 | 0, acc, l => by unfold typesF typesU; rfl
 | g + 1, acc, l => by
  unfold typesF typesU
  by_cases h : isT sType l = true
  · rw [if_pos h, if_pos (show isU sType (.ok l) = true from h)]
    refine (Lk.name l.tail).and (fun n m => ?_) fun a e => ?_
    · refine Lk.need (ku := fun q => andU (relsU f f [] q) fun rs r => typesU f g (acc ++ [⟨n, rs⟩]) (needU (sg 125) r)) (fun m => ?_) fun e => ?_
      · refine (Lk.rels f f [] m).and (fun rs m => ?_) fun a e => types_err e f g _
        exact Lk.need (k := fun _ r => typesF f g (acc ++ [⟨n, rs⟩]) r) (ku := fun q => typesU f g (acc ++ [⟨n, rs⟩]) q) (fun m => Lk.types f g _ m) fun e => types_err e f g _
      · show (typesU f g _ (needU (sg 125) (relsU f f [] (.error e)).2)).2 = _
        rw [rels_err]
        exact types_err e f g _
    · show (typesU f g _ (needU (sg 125) (relsU f f [] (.error e)).2)).2 = _
      rw [rels_err]
      exact types_err e f g _
  · rw [if_neg h, if_neg (show ¬ isU sType (.ok l) = true from h)]
    rfl
end Go.Proofs.YtahegpfdbgbioaaGreat
