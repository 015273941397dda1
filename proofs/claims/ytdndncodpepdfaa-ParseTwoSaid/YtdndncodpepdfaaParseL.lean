/- The plain parser without its fuel: what each function consumes, that more fuel changes nothing, and each function by its own equation. Conditions: none; nothing of the program is named here. -/
import Derived.Test.YtdndncodpepdfaaParse
namespace Go.Proofs.Ytdndncodpepdfaa

theorem isT_len {s : ByteArray} {l : List Tk} (hs : 0 < s.size) (h : isT s l = true) : l.tail.length + 1 = l.length := by
  cases l with
  | nil =>
    unfold isT at h
    rw [decide_eq_true_iff] at h
    have : s = ⟨#[]⟩ := h.1.symm
    rw [this] at hs
    exact absurd hs (by decide)
  | cons a r => rfl
theorem nameT_len {l r : List Tk} {n : ByteArray} (h : nameT l = .ok (n, r)) : r.length + 1 = l.length := by
  unfold nameT at h
  split at h
  · rename_i hc
    cases l with
    | nil => exact absurd hc.1 (by decide)
    | cons a t =>
      cases h
      rfl
  · cases h
theorem needT_len {s : ByteArray} {l r : List Tk} {u : Unit} (hs : 0 < s.size) (h : needT s l = .ok (u, r)) : r.length + 1 = l.length := by
  unfold needT at h
  split at h
  · rename_i hc
    cases h
    exact isT_len hs hc
  · cases h
theorem andT_inv {α β : Type} {r : Rs α} {k : α → List Tk → Rs β} {b : β} {l : List Tk} (h : andT r k = .ok (b, l)) : ∃ a m, r = .ok (a, m) ∧ k a m = .ok (b, l) := by
  cases r with
  | error e => cases h
  | ok p => exact ⟨p.1, p.2, rfl, h⟩
theorem andT_congr {α β : Type} {r r' : Rs α} {k k' : α → List Tk → Rs β} (h : r = r') (hk : ∀ a m, r = .ok (a, m) → k a m = k' a m) : andT r k = andT r' k' := by
  subst h
  cases r with
  | error e => rfl
  | ok p => exact hk p.1 p.2 rfl
theorem sg_size (c : UInt8) : 0 < (sg c).size := by show 0 < 1; omega
theorem opT_len {l : List Tk} (h : ¬ opT l = 0) : l.tail.length + 1 = l.length := by
  unfold opT at h
  by_cases h1 : isT (sg 124) l = true
  · exact isT_len (sg_size _) h1
  · by_cases h2 : isT (sg 38) l = true
    · exact isT_len (sg_size _) h2
    · by_cases h3 : isT (sg 45) l = true
      · exact isT_len (sg_size _) h3
      · rw [if_neg h1, if_neg h2, if_neg h3] at h
        exact absurd rfl h

theorem eats : ∀ f : Nat, (∀ d l o r, partF f d l = .ok (o, r) → r.length < l.length) ∧ (∀ d acc l o r, moreF f d acc l = .ok (o, r) → r.length ≤ l.length)
  | 0 => ⟨fun d l o r h => (by unfold partF at h; cases h), fun d acc l o r h => (by unfold moreF at h; cases h)⟩
  | f + 1 => by
    obtain ⟨ih1, ih2⟩ := eats f
    constructor
    · intro d l o r h
      unfold partF at h
      split at h
      · rename_i hc
        cases h
        have := isT_len (by show 0 < 4; omega) hc
        omega
      · split at h
        · rename_i hc
          have h1 := isT_len (sg_size _) hc
          split at h
          · cases h
          · obtain ⟨a, m, e1, h⟩ := andT_inv h
            obtain ⟨a2, m2, e2, h⟩ := andT_inv h
            obtain ⟨a3, m3, e3, h⟩ := andT_inv h
            cases h
            have := ih1 _ _ _ _ e1
            have := ih2 _ _ _ _ _ e2
            have := needT_len (sg_size _) e3
            omega
        · obtain ⟨a, m, e1, h⟩ := andT_inv h
          have h1 := nameT_len e1
          split at h
          · rename_i hc
            have h2 := isT_len (sg_size _) hc
            obtain ⟨a2, m2, e2, h⟩ := andT_inv h
            have := nameT_len e2
            cases h
            omega
          · cases h
            omega
    · intro d acc l o r h
      unfold moreF at h
      split at h
      · cases h
        omega
      · rename_i hc
        have h1 := opT_len hc
        obtain ⟨a, m, e1, h⟩ := andT_inv h
        have := ih1 _ _ _ _ e1
        have := ih2 _ _ _ _ _ h
        omega
/-- More fuel than tokens: it doesn't matter how much more. -/
theorem fuel : ∀ f g : Nat, (∀ d l, l.length < f → l.length < g → partF f d l = partF g d l) ∧ (∀ d acc l, l.length < f → l.length < g → moreF f d acc l = moreF g d acc l)
  | 0, _ => ⟨fun _ _ h _ => absurd h (Nat.not_lt_zero _), fun _ _ _ h _ => absurd h (Nat.not_lt_zero _)⟩
  | _ + 1, 0 => ⟨fun _ _ _ h => absurd h (Nat.not_lt_zero _), fun _ _ _ _ h => absurd h (Nat.not_lt_zero _)⟩
  | f + 1, g + 1 => by
    obtain ⟨ih1, ih2⟩ := fuel f g
    constructor
    · intro d l hf hg
      unfold partF
      split
      · rfl
      · split
        · rename_i hc
          have h1 := isT_len (sg_size _) hc
          split
          · rfl
          · refine andT_congr (ih1 _ _ (by omega) (by omega)) fun a m e1 => ?_
            have := (eats _).1 _ _ _ _ e1
            exact andT_congr (ih2 _ _ _ (by omega) (by omega)) fun _ _ _ => rfl
        · rfl
    · intro d acc l hf hg
      unfold moreF
      split
      · rfl
      · rename_i hc
        have h1 := opT_len hc
        refine andT_congr (ih1 _ _ (by omega) (by omega)) fun a m e1 => ?_
        have := (eats _).1 _ _ _ _ e1
        exact ih2 _ _ _ (by omega) (by omega)

/-- A part; what follows it; a rewrite. -/
def partT (d : Nat) (l : List Tk) : Rs (List OpP) := partF (l.length + 1) d l
def moreT (d : Nat) (acc : List OpP) (l : List Tk) : Rs (List OpP) := moreF (l.length + 1) d acc l
def rewT (d : Nat) (l : List Tk) : Rs (List OpP) := andT (partT d l) fun o r => moreT d o r
theorem partT_eq (d : Nat) (l : List Tk) : partT d l =
    if isT sThis l = true then .ok ([(1, ⟨#[]⟩, ⟨#[]⟩)], l.tail)
    else if isT (sg 40) l = true then
      (if d = 8 then badT 13 l
      else andT (rewT (d + 1) l.tail) fun o r => andT (needT (sg 41) r) fun _ r => .ok (o, r))
    else andT (nameT l) fun n r =>
      if isT (sg 46) r = true then andT (nameT r.tail) fun m r => .ok ([(3, n, m)], r) else .ok ([(2, n, ⟨#[]⟩)], r) := by
  conv => lhs; unfold partT partF
  split
  · rfl
  · split
    · rename_i hc
      have h1 := isT_len (sg_size _) hc
      split
      · rfl
      · have e1 : partF l.length (d + 1) l.tail = partT (d + 1) l.tail := (fuel _ _).1 _ _ (by omega) (by omega)
        rw [e1]
        unfold rewT
        cases hp : partT (d + 1) l.tail with
        | error e => rfl
        | ok p =>
          have := (eats _).1 _ _ _ _ (show partF (l.tail.length + 1) (d + 1) l.tail = .ok (p.1, p.2) from hp)
          have e2 : moreF l.length (d + 1) p.1 p.2 = moreT (d + 1) p.1 p.2 := (fuel _ _).2 _ _ _ (by omega) (by omega)
          show andT (moreF l.length (d + 1) p.1 p.2) _ = andT (moreT (d + 1) p.1 p.2) _
          rw [e2]
    · rfl
theorem moreT_eq (d : Nat) (acc : List OpP) (l : List Tk) : moreT d acc l =
    if opT l = 0 then .ok (acc, l)
    else andT (partT d l.tail) fun o r => moreT d (acc ++ o ++ [(opT l, ⟨#[]⟩, ⟨#[]⟩)]) r := by
  conv => lhs; unfold moreT moreF
  split
  · rfl
  · rename_i hc
    have h1 := opT_len hc
    refine andT_congr ((fuel _ _).1 _ _ (by omega) (by omega)) fun a m e1 => ?_
    have := (eats _).1 _ _ _ _ e1
    exact (fuel _ _).2 _ _ _ (by omega) (by omega)

theorem whoF_eats : ∀ (f : Nat) (acc : List SubP) (l : List Tk) (o : List SubP) (r : List Tk), whoF f acc l = .ok (o, r) → r.length < l.length
  | 0, acc, l, o, r, h => by unfold whoF at h; cases h
  | f + 1, acc, l, o, r, h => by
    unfold whoF at h
    obtain ⟨a, m, e1, h⟩ := andT_inv h
    have h1 := nameT_len e1
    obtain ⟨a2, m2, e2, h⟩ := andT_inv h
    have h2 : m2.length ≤ m.length := by
      by_cases hc : isT (sg 35) m = true
      · rw [if_pos hc] at e2
        have := isT_len (sg_size _) hc
        have := nameT_len e2
        omega
      · rw [if_neg hc] at e2
        cases e2
        omega
    by_cases hc : isT (sg 44) m2 = true
    · rw [if_pos hc] at h
      have := isT_len (sg_size _) hc
      have := whoF_eats f _ _ _ _ h
      omega
    · rw [if_neg hc] at h
      cases h
      omega
theorem who_len {m m2 : List Tk} {a2 : ByteArray} (e2 : (if isT (sg 35) m = true then nameT m.tail else .ok (⟨#[]⟩, m)) = .ok (a2, m2)) : m2.length ≤ m.length := by
  by_cases hc : isT (sg 35) m = true
  · rw [if_pos hc] at e2
    have := isT_len (sg_size _) hc
    have := nameT_len e2
    omega
  · rw [if_neg hc] at e2
    cases e2
    omega
theorem whoF_fuel : ∀ (f g : Nat) (acc : List SubP) (l : List Tk), l.length < f → l.length < g → whoF f acc l = whoF g acc l
  | 0, _, _, _, h, _ => absurd h (Nat.not_lt_zero _)
  | _ + 1, 0, _, _, _, h => absurd h (Nat.not_lt_zero _)
  | f + 1, g + 1, acc, l, hf, hg => by
    unfold whoF
    refine andT_congr rfl fun a m e1 => ?_
    have h1 := nameT_len e1
    refine andT_congr rfl fun a2 m2 e2 => ?_
    have h2 := who_len e2
    by_cases hc : isT (sg 44) m2 = true
    · rw [if_pos hc, if_pos hc]
      have := isT_len (sg_size _) hc
      exact whoF_fuel f g _ _ (by omega) (by omega)
    · rw [if_neg hc, if_neg hc]
def whoT (acc : List SubP) (l : List Tk) : Rs (List SubP) := whoF (l.length + 1) acc l
theorem whoT_eq (acc : List SubP) (l : List Tk) : whoT acc l = andT (nameT l) fun n r =>
    andT (if isT (sg 35) r = true then nameT r.tail else .ok (⟨#[]⟩, r)) fun m r =>
      if isT (sg 44) r = true then whoT (acc ++ [(n, m)]) r.tail else .ok (acc ++ [(n, m)], r) := by
  conv => lhs; unfold whoT whoF
  refine andT_congr rfl fun a m e1 => ?_
  have h1 := nameT_len e1
  refine andT_congr rfl fun a2 m2 e2 => ?_
  have h2 := who_len e2
  by_cases hc : isT (sg 44) m2 = true
  · rw [if_pos hc, if_pos hc]
    have := isT_len (sg_size _) hc
    exact whoF_fuel _ _ _ _ (by omega) (by omega)
  · rw [if_neg hc, if_neg hc]
theorem rewF_fuel {f d : Nat} {l : List Tk} (h : l.length < f) : rewF f d l = rewT d l := by
  unfold rewF rewT partT
  refine andT_congr ((fuel _ _).1 _ _ h (by omega)) fun a m e1 => ?_
  have := (eats _).1 _ _ _ _ e1
  exact (fuel _ _).2 _ _ _ (by omega) (by omega)
theorem rewT_eats {d : Nat} {l r : List Tk} {o : List OpP} (h : rewT d l = .ok (o, r)) : r.length < l.length := by
  unfold rewT at h
  obtain ⟨a, m, e1, h⟩ := andT_inv h
  have := (eats _).1 _ _ _ _ e1
  have := (eats _).2 _ _ _ _ _ h
  omega
/-- A relation, behind its key. -/
def relT (l : List Tk) : Rs RelP :=
  andT (nameT l) fun n r => andT (needT (sg 40) r) fun _ r => andT (nameT r) fun v r => andT (needT (sg 44) r) fun _ r =>
  andT (nameT r) fun e r => andT (needT (sg 44) r) fun _ r => andT (nameT r) fun c r => andT (needT (sg 41) r) fun _ r =>
  andT (needT (sg 58) r) fun _ r =>
  andT (if isT sIs r = true ∨ isT (sg 59) r = true then .ok ([], r) else whoT [] r) fun w r =>
  andT (if isT sIs r = true then rewT 0 r.tail else .ok ([(1, ⟨#[]⟩, ⟨#[]⟩)], r)) fun o r =>
  andT (needT (sg 59) r) fun _ r => .ok (⟨n, v, e, c, w, o⟩, r)
theorem sIs_size : 0 < sIs.size := by show 0 < 2; omega
theorem relF_fuel {f : Nat} {l : List Tk} (h : l.length < f) : relF f l = relT l ∧ ∀ o r, relT l = .ok (o, r) → r.length < l.length := by
  constructor
  · unfold relF relT
    refine andT_congr rfl fun _ _ e => ?_
    have h1 := nameT_len e
    refine andT_congr rfl fun _ _ e => ?_
    have h2 := needT_len (sg_size _) e
    refine andT_congr rfl fun _ _ e => ?_
    have h3 := nameT_len e
    refine andT_congr rfl fun _ _ e => ?_
    have h4 := needT_len (sg_size _) e
    refine andT_congr rfl fun _ _ e => ?_
    have h5 := nameT_len e
    refine andT_congr rfl fun _ _ e => ?_
    have h6 := needT_len (sg_size _) e
    refine andT_congr rfl fun _ _ e => ?_
    have h7 := nameT_len e
    refine andT_congr rfl fun _ _ e => ?_
    have h8 := needT_len (sg_size _) e
    refine andT_congr rfl fun _ _ e => ?_
    have h9 := needT_len (sg_size _) e
    rename_i m9
    refine andT_congr ?_ fun _ m e => ?_
    · split
      · rfl
      · exact whoF_fuel _ _ _ _ (by omega) (by omega)
    · have h10 : m.length ≤ m9.length := by
        split at e
        · cases e; exact Nat.le_refl _
        · have := whoF_eats _ _ _ _ _ e; omega
      refine andT_congr ?_ fun _ _ _ => rfl
      split
      · rename_i hc
        have := isT_len sIs_size hc
        exact rewF_fuel (by omega)
      · rfl
  · intro o r hr
    unfold relT at hr
    obtain ⟨_, _, e, hr⟩ := andT_inv hr
    have h1 := nameT_len e
    obtain ⟨_, _, e, hr⟩ := andT_inv hr
    have h2 := needT_len (sg_size _) e
    obtain ⟨_, _, e, hr⟩ := andT_inv hr
    have h3 := nameT_len e
    obtain ⟨_, _, e, hr⟩ := andT_inv hr
    have h4 := needT_len (sg_size _) e
    obtain ⟨_, _, e, hr⟩ := andT_inv hr
    have h5 := nameT_len e
    obtain ⟨_, _, e, hr⟩ := andT_inv hr
    have h6 := needT_len (sg_size _) e
    obtain ⟨_, _, e, hr⟩ := andT_inv hr
    have h7 := nameT_len e
    obtain ⟨_, _, e, hr⟩ := andT_inv hr
    have h8 := needT_len (sg_size _) e
    obtain ⟨_, m9, e, hr⟩ := andT_inv hr
    have h9 := needT_len (sg_size _) e
    obtain ⟨_, m, e, hr⟩ := andT_inv hr
    have h10 : m.length ≤ m9.length := by
      split at e
      · cases e; exact Nat.le_refl _
      · have := whoF_eats _ _ _ _ _ e; omega
    obtain ⟨_, m2, e, hr⟩ := andT_inv hr
    have h11 : m2.length ≤ m.length := by
      split at e
      · rename_i hc
        have := isT_len sIs_size hc
        have := rewT_eats e
        omega
      · cases e; exact Nat.le_refl _
    obtain ⟨_, _, e, hr⟩ := andT_inv hr
    have h12 := needT_len (sg_size _) e
    cases hr
    omega
theorem sRel_size : 0 < sRel.size := by show 0 < 3; omega
theorem sType_size : 0 < sType.size := by show 0 < 4; omega
theorem relsF_eats : ∀ (f g : Nat) (acc : List RelP) (l : List Tk) (o : List RelP) (r : List Tk), l.length < f → relsF f g acc l = .ok (o, r) → r.length ≤ l.length
  | _, 0, acc, l, o, r, _, h => by unfold relsF at h; cases h
  | f, g + 1, acc, l, o, r, hf, h => by
    unfold relsF at h
    by_cases hc : isT sRel l = true
    · rw [if_pos hc] at h
      have h1 := isT_len sRel_size hc
      rw [(relF_fuel (f := f) (l := l.tail) (by omega)).1] at h
      obtain ⟨a, m, e1, h⟩ := andT_inv h
      have := (relF_fuel (f := f) (l := l.tail) (by omega)).2 _ _ e1
      have := relsF_eats f g _ _ _ _ (by omega) h
      omega
    · rw [if_neg hc] at h
      cases h
      omega
theorem relsF_fuel : ∀ (g g2 f f2 : Nat) (acc : List RelP) (l : List Tk), l.length < f → l.length < f2 → l.length < g → l.length < g2 → relsF f g acc l = relsF f2 g2 acc l
  | 0, _, _, _, _, _, _, _, h, _ => absurd h (Nat.not_lt_zero _)
  | _ + 1, 0, _, _, _, _, _, _, _, h => absurd h (Nat.not_lt_zero _)
  | g + 1, g2 + 1, f, f2, acc, l, hf, hf2, hg, hg2 => by
    unfold relsF
    by_cases hc : isT sRel l = true
    · rw [if_pos hc, if_pos hc]
      have h1 := isT_len sRel_size hc
      obtain ⟨e, e2⟩ := relF_fuel (f := f) (l := l.tail) (by omega)
      rw [e, (relF_fuel (f := f2) (l := l.tail) (by omega)).1]
      refine andT_congr rfl fun a m e1 => ?_
      have := e2 _ _ e1
      exact relsF_fuel g g2 f f2 _ _ (by omega) (by omega) (by omega) (by omega)
    · rw [if_neg hc, if_neg hc]
/-- Relations, one behind the other. -/
def relsT (acc : List RelP) (l : List Tk) : Rs (List RelP) := relsF (l.length + 1) (l.length + 1) acc l
theorem relsT_eq (acc : List RelP) (l : List Tk) : relsT acc l = if isT sRel l = true then andT (relT l.tail) fun x r => relsT (acc ++ [x]) r else .ok (acc, l) := by
  conv => lhs; unfold relsT relsF
  by_cases hc : isT sRel l = true
  · rw [if_pos hc, if_pos hc]
    have h1 := isT_len sRel_size hc
    obtain ⟨e, e2⟩ := relF_fuel (f := l.length + 1) (l := l.tail) (by omega)
    rw [e]
    refine andT_congr rfl fun a m e1 => ?_
    have := e2 _ _ e1
    exact relsF_fuel _ _ _ _ _ _ (by omega) (by omega) (by omega) (by omega)
  · rw [if_neg hc, if_neg hc]
theorem typesF_fuel : ∀ (g g2 f f2 : Nat) (acc : List TypP) (l : List Tk), l.length < f → l.length < f2 → l.length < g → l.length < g2 → typesF f g acc l = typesF f2 g2 acc l
  | 0, _, _, _, _, _, _, _, h, _ => absurd h (Nat.not_lt_zero _)
  | _ + 1, 0, _, _, _, _, _, _, _, h => absurd h (Nat.not_lt_zero _)
  | g + 1, g2 + 1, f, f2, acc, l, hf, hf2, hg, hg2 => by
    unfold typesF
    by_cases hc : isT sType l = true
    · rw [if_pos hc, if_pos hc]
      have h1 := isT_len sType_size hc
      refine andT_congr rfl fun _ _ e => ?_
      have h2 := nameT_len e
      refine andT_congr rfl fun _ m3 e => ?_
      have h3 := needT_len (sg_size _) e
      refine andT_congr (relsF_fuel _ _ _ _ _ _ (by omega) (by omega) (by omega) (by omega)) fun _ _ e => ?_
      have h4 := relsF_eats _ _ _ _ _ _ (by omega) e
      refine andT_congr rfl fun _ _ e => ?_
      have h5 := needT_len (sg_size _) e
      exact typesF_fuel g g2 f f2 _ _ (by omega) (by omega) (by omega) (by omega)
    · rw [if_neg hc, if_neg hc]
/-- Types, one behind the other. -/
def typesT (acc : List TypP) (l : List Tk) : Rs (List TypP) := typesF (l.length + 1) (l.length + 1) acc l
theorem typesT_eq (acc : List TypP) (l : List Tk) : typesT acc l =
    if isT sType l = true then andT (nameT l.tail) fun n r => andT (needT (sg 123) r) fun _ r => andT (relsT [] r) fun rs r =>
      andT (needT (sg 125) r) fun _ r => typesT (acc ++ [⟨n, rs⟩]) r
    else .ok (acc, l) := by
  conv => lhs; unfold typesT typesF
  by_cases hc : isT sType l = true
  · rw [if_pos hc, if_pos hc]
    have h1 := isT_len sType_size hc
    refine andT_congr rfl fun _ _ e => ?_
    have h2 := nameT_len e
    refine andT_congr rfl fun _ m3 e => ?_
    have h3 := needT_len (sg_size _) e
    refine andT_congr (relsF_fuel _ _ _ _ _ _ (by omega) (by omega) (by omega) (by omega)) fun _ _ e => ?_
    have h4 := relsF_eats _ _ _ _ _ _ (by omega) e
    refine andT_congr rfl fun _ _ e => ?_
    have h5 := needT_len (sg_size _) e
    exact typesF_fuel _ _ _ _ _ _ (by omega) (by omega) (by omega) (by omega)
  · rw [if_neg hc, if_neg hc]
theorem schemaF_eq (l : List Tk) : schemaF l = andT (typesT [] l) fun t r => if (hdT r).1 = 3 then .ok (t, r) else badT 30 r := by
  unfold schemaF typesT
  exact andT_congr (typesF_fuel _ _ _ _ _ _ (by omega) (by omega) (by omega) (by omega)) fun _ _ _ => rfl
end Go.Proofs.Ytdndncodpepdfaa
