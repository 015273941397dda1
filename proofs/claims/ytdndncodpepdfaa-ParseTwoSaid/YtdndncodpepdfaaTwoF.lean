/- Two texts that say something, one behind the other, say both. Conditions: short texts. -/
import Derived.Test.YtdndncodpepdfaaSchemaF
namespace Go.Proofs.Ytdndncodpepdfaa

/-- The end of a text's tokens. -/
def enT (p : Nat) : Tk := (3, ⟨#[]⟩, p)
section
variable {p : Nat} {l2 : List Tk}
theorem isT_end {s : ByteArray} (hs : 0 < s.size) : isT s [enT p] = false := by
  unfold isT
  rw [decide_eq_false_iff_not]
  rintro ⟨h, _⟩
  have : (⟨#[]⟩ : ByteArray) = s := h
  rw [← this] at hs
  exact absurd hs (by decide)
theorem isT_app {s : ByteArray} {a : Tk} {t : List Tk} (l l' : List Tk) : isT s (a :: t ++ l) = isT s (a :: t ++ l') := rfl
theorem opT_app {a : Tk} {t : List Tk} (l l' : List Tk) : opT (a :: t ++ l) = opT (a :: t ++ l') := rfl
theorem opT_end : opT [enT p] = 0 := by
  unfold opT
  rw [isT_end (sg_size _), isT_end (sg_size _), isT_end (sg_size _)]; rfl
/-- What is read ahead of a text's end is read so, too, where more stands in place of the end; unless the end was reached. -/
def Pf {α : Type} (p : Nat) (l2 x : List Tk) (r r' : Rs α) : Prop := ∀ o m, r = .ok (o, m) → ∃ y, m = y ++ [enT p] ∧ (y.length ≤ x.length ∧ ∀ q ∈ y, q ∈ x) ∧ (y ≠ [] → r' = .ok (o, y ++ l2))
theorem Pf.and {α β : Type} {x : List Tk} {r r' : Rs α} {k k' : α → List Tk → Rs β} (h : Pf p l2 x r r') (hk : ∀ a y, y.length ≤ x.length → Pf p l2 y (k a (y ++ [enT p])) (k' a (y ++ l2))) : Pf p l2 x (andT r k) (andT r' k') := by
  intro o m he
  obtain ⟨a, m1, e1, e2⟩ := andT_inv he
  obtain ⟨y, hy, ⟨hl, hs⟩, hr⟩ := h a m1 e1
  subst hy
  obtain ⟨y2, hy2, ⟨hl2, hs2⟩, hr2⟩ := hk a y hl o m e2
  refine ⟨y2, hy2, ⟨by omega, fun q hq => hs q (hs2 q hq)⟩, fun hne => ?_⟩
  have hyn : y ≠ [] := by
    rintro rfl
    have : y2.length = 0 := by simpa using hl2
    exact hne (List.eq_nil_of_length_eq_zero this)
  rw [hr hyn, andT_ok]
  exact hr2 hne
theorem Pf.ok {α : Type} {x : List Tk} (a : α) : Pf p l2 x (.ok (a, x ++ [enT p])) (.ok (a, x ++ l2)) := by
  intro o m h
  cases h
  exact ⟨x, rfl, ⟨Nat.le_refl _, fun _ h => h⟩, fun _ => rfl⟩
theorem Pf.tail {α : Type} {x : List Tk} (hx : x ≠ []) (a : α) : Pf p l2 x (.ok (a, (x ++ [enT p]).tail)) (.ok (a, (x ++ l2).tail)) := by
  cases x with
  | nil => exact absurd rfl hx
  | cons b t =>
    intro o m h
    cases h
    exact ⟨t, rfl, ⟨by simp, fun _ h => List.mem_cons_of_mem _ h⟩, fun _ => rfl⟩
theorem Pf.bad {α : Type} {x l : List Tk} {c : Nat} (r' : Rs α) : Pf p l2 x (badT c l) r' := fun _ _ h => by cases h
theorem Pf.need (x : List Tk) {s : ByteArray} (hs : 0 < s.size) : Pf p l2 x (needT s (x ++ [enT p])) (needT s (x ++ l2)) := by
  cases x with
  | nil =>
    unfold needT
    rw [List.nil_append, isT_end hs]
    exact Pf.bad _
  | cons b t =>
    unfold needT
    rw [isT_app l2 [enT p]]
    split
    · exact Pf.tail (by simp) ()
    · exact Pf.bad _
theorem Pf.name (x : List Tk) : Pf p l2 x (nameT (x ++ [enT p])) (nameT (x ++ l2)) := by
  cases x with
  | nil =>
    unfold nameT
    rw [if_neg (by rintro ⟨h, _⟩; exact absurd h (by show ¬ (3 = 1); decide))]
    exact Pf.bad _
  | cons b t =>
    unfold nameT
    show Pf p l2 (b :: t) (if b.1 = 1 ∧ keyB b.2.1 = false then .ok (b.2.1, t ++ [enT p]) else badT 30 _) (if b.1 = 1 ∧ keyB b.2.1 = false then .ok (b.2.1, t ++ l2) else badT 30 _)
    split
    · exact Pf.tail (x := b :: t) (by simp) b.2.1
    · exact Pf.bad _
/-- A choice by the next token. -/
theorem Pf.ite {α : Type} {s : ByteArray} (hs : 0 < s.size) {x : List Tk} {r1 r2 r1' r2' : Rs α} (h1 : x ≠ [] → Pf p l2 x r1 r1') (h2 : Pf p l2 x r2 r2') (h0 : x = [] → ∀ r', Pf p l2 x r2 r') :
    Pf p l2 x (if isT s (x ++ [enT p]) = true then r1 else r2) (if isT s (x ++ l2) = true then r1' else r2') := by
  cases x with
  | nil =>
    rw [List.nil_append, isT_end hs, if_neg (by decide)]
    exact h0 rfl _
  | cons b t =>
    rw [isT_app l2 [enT p]]
    split
    · exact h1 (by simp)
    · exact h2
theorem Pf.nil {α : Type} {a : α} (r' : Rs α) : Pf p l2 [] (.ok (a, [enT p])) r' := by
  intro o m h
  cases h
  exact ⟨[], rfl, ⟨Nat.le_refl _, fun _ h => h⟩, fun h => absurd rfl h⟩
theorem Pf.nameNil (r' : Rs ByteArray) : Pf p l2 [] (nameT ([] ++ [enT p])) r' := by
  intro o m h
  unfold nameT at h
  rw [if_neg (by rintro ⟨h, _⟩; exact absurd h (by show ¬ (3 = 1); decide))] at h
  cases h
theorem Pf.more {α : Type} {x y : List Tk} {r r' : Rs α} (h : Pf p l2 y r r') (hl : y.length ≤ x.length) (hs : ∀ q ∈ y, q ∈ x := by intro q hq; exact List.mem_cons_of_mem _ hq) : Pf p l2 x r r' := by
  intro o m e
  obtain ⟨z, h1, ⟨h2, h4⟩, h3⟩ := h o m e
  exact ⟨z, h1, ⟨by omega, fun q hq => hs q (h4 q hq)⟩, h3⟩
theorem Pf.err {α : Type} {x : List Tk} {e : Nat × Nat} (r' : Rs α) : Pf p l2 x (.error e) r' := fun _ _ h => by cases h
theorem nameT_end : ∃ e, nameT [enT p] = .error e := by
  unfold nameT
  rw [if_neg (by rintro ⟨h, _⟩; exact absurd h (by show ¬ (3 = 1); decide))]
  exact ⟨_, rfl⟩
theorem partF_end : ∀ f d, ∃ e, partF f d [enT p] = .error e
  | 0, d => ⟨_, by unfold partF; rfl⟩
  | f + 1, d => by
    obtain ⟨e, he⟩ := nameT_end (p := p)
    unfold partF
    rw [isT_end (by show 0 < 4; omega), if_neg (by decide), isT_end (sg_size _), if_neg (by decide), he]
    exact ⟨e, rfl⟩
theorem Pf.parts : ∀ f : Nat, (∀ d x, Pf p l2 x (partF f d (x ++ [enT p])) (partF f d (x ++ l2))) ∧ (∀ d acc x, Pf p l2 x (moreF f d acc (x ++ [enT p])) (moreF f d acc (x ++ l2)))
  | 0 => ⟨fun d x => (by unfold partF; exact Pf.bad _), fun d acc x => (by unfold moreF; exact Pf.bad _)⟩
  | f + 1 => by
    obtain ⟨ih1, ih2⟩ := Pf.parts f
    constructor
    · intro d x
      cases x with
      | nil =>
        obtain ⟨e, he⟩ := partF_end (p := p) (f + 1) d
        rw [List.nil_append, he]
        exact Pf.err _
      | cons b t =>
        unfold partF
        refine Pf.ite (by show 0 < 4; omega) (fun h => Pf.tail h _) (Pf.ite (sg_size _) (fun _ => ?_) ?_ fun h => absurd h (by simp)) fun h => absurd h (by simp)
        · split
          · exact Pf.bad _
          · refine Pf.more (y := t) ((ih1 (d + 1) t).and fun a y hy => (ih2 (d + 1) a y).and fun a y hy => (Pf.need y (sg_size _)).and fun a y hy => Pf.ok _) (by simp)
        · refine (Pf.name (b :: t)).and fun a y hy => Pf.ite (sg_size _) (fun h => ?_) (Pf.ok _) fun h r' => ?_
          · cases y with
            | nil => exact absurd rfl h
            | cons c u => exact Pf.more (y := u) ((Pf.name u).and fun a y hy => Pf.ok _) (by simp)
          · subst h
            exact Pf.nil r'
    · intro d acc x
      cases x with
      | nil =>
        unfold moreF
        rw [List.nil_append, opT_end, if_pos rfl]
        exact Pf.nil _
      | cons b t =>
        unfold moreF
        rw [opT_app l2 [enT p]]
        split
        · exact Pf.ok _
        · exact Pf.more (y := t) ((ih1 d t).and fun a y hy => ih2 d _ y) (by simp)
theorem Pf.who : ∀ (f : Nat) (acc : List SubP) (x : List Tk), Pf p l2 x (whoF f acc (x ++ [enT p])) (whoF f acc (x ++ l2))
  | 0, acc, x => by unfold whoF; exact Pf.bad _
  | f + 1, acc, x => by
    unfold whoF
    refine (Pf.name x).and fun n y hy => Pf.and ?_ fun m z hz => Pf.ite (sg_size _) (fun h => ?_) (Pf.ok _) fun h r' => ?_
    · refine Pf.ite (sg_size _) (fun h => ?_) (Pf.ok _) fun h r' => ?_
      · cases y with
        | nil => exact absurd rfl h
        | cons c u => exact Pf.more (y := u) (Pf.name u) (by simp)
      · subst h
        exact Pf.nil r'
    · cases z with
      | nil => exact absurd rfl h
      | cons c u => exact Pf.more (y := u) (Pf.who f _ u) (by simp)
    · subst h
      exact Pf.nil r'
theorem Pf.rew (f d : Nat) (x : List Tk) : Pf p l2 x (rewF f d (x ++ [enT p])) (rewF f d (x ++ l2)) := by
  unfold rewF
  exact ((Pf.parts f).1 d x).and fun a y hy => (Pf.parts f).2 d a y
theorem Pf.rel (f : Nat) (x : List Tk) : Pf p l2 x (relF f (x ++ [enT p])) (relF f (x ++ l2)) := by
  unfold relF
  refine (Pf.name x).and fun _ x _ => (Pf.need x (sg_size _)).and fun _ x _ => (Pf.name x).and fun _ x _ => (Pf.need x (sg_size _)).and fun _ x _ => (Pf.name x).and fun _ x _ => (Pf.need x (sg_size _)).and fun _ x _ => (Pf.name x).and fun _ x _ => (Pf.need x (sg_size _)).and fun _ x _ => (Pf.need x (sg_size _)).and fun _ x _ => Pf.and ?_ fun _ x _ => Pf.and ?_ fun _ x _ => (Pf.need x (sg_size _)).and fun _ x _ => Pf.ok _
  · cases x with
    | nil =>
      rw [List.nil_append, isT_end sIs_size, isT_end (sg_size _), if_neg (by decide)]
      have := Pf.who (p := p) (l2 := l2) f [] []
      intro o m h
      obtain ⟨z, h1, h2, _⟩ := this o m h
      have hz : z = [] := List.eq_nil_of_length_eq_zero (by simpa using h2.1)
      exact ⟨z, h1, h2, fun h => absurd hz h⟩
    | cons b t =>
      rw [isT_app l2 [enT p], isT_app (s := sg 59) l2 [enT p]]
      split
      · exact Pf.ok _
      · exact Pf.who f [] _
  · refine Pf.ite sIs_size (fun h => ?_) (Pf.ok _) fun h r' => ?_
    · cases x with
      | nil => exact absurd rfl h
      | cons b t => exact Pf.more (y := t) (Pf.rew f 0 t) (by simp)
    · subst h
      exact Pf.nil r'
theorem Pf.rels : ∀ (g f : Nat) (acc : List RelP) (x : List Tk), Pf p l2 x (relsF f g acc (x ++ [enT p])) (relsF f g acc (x ++ l2))
  | 0, f, acc, x => by unfold relsF; exact Pf.bad _
  | g + 1, f, acc, x => by
    unfold relsF
    refine Pf.ite sRel_size (fun h => ?_) (Pf.ok _) fun h r' => ?_
    · cases x with
      | nil => exact absurd rfl h
      | cons b t => exact Pf.more (y := t) ((Pf.rel f t).and fun a y hy => Pf.rels g f _ y) (by simp)
    · subst h
      exact Pf.nil r'
end
end Go.Proofs.Ytdndncodpepdfaa
