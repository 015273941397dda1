/- What a whole text says: its rewrites can be done and its names aren't empty; else nothing, and a place in the text. Conditions: a text of at most 2048 bytes. -/
import Derived.Test.YtdndncodpepdfaaOpsF
namespace Go.Proofs.Ytdndncodpepdfaa

/-- Places of tokens are at most so great. -/
def Bd (B : Nat) (l : List Tk) : Prop := ∀ t ∈ l, t.2.2 ≤ B
theorem Bd.tail {B : Nat} {l : List Tk} (h : Bd B l) : Bd B l.tail := fun t ht => h t (List.mem_of_mem_tail ht)
theorem Bd.hd {B : Nat} {l : List Tk} (h : Bd B l) : (hdT l).2.2 ≤ B := by
  cases l with
  | nil => exact Nat.zero_le _
  | cons a r => exact h a (List.mem_cons_self ..)
/-- An error's place is at most so great, and so are those of what is left. -/
def Sf {α : Type} (B : Nat) : Rs α → Prop
  | .error e => e.2 ≤ B
  | .ok p => Bd B p.2
theorem Sf.and {α β : Type} {B : Nat} {r : Rs α} {k : α → List Tk → Rs β} (h : Sf B r) (hk : ∀ a l, Bd B l → Sf B (k a l)) : Sf B (andT r k) := by
  cases r with
  | error e => exact h
  | ok p => exact hk p.1 p.2 h
theorem Sf.bad {α : Type} {B : Nat} {l : List Tk} (h : Bd B l) (c : Nat) : Sf B (badT c l : Rs α) := h.hd
theorem Sf.ok {α : Type} {B : Nat} {l : List Tk} (h : Bd B l) (a : α) : Sf B (.ok (a, l) : Rs α) := h
theorem Sf.name {B : Nat} {l : List Tk} (h : Bd B l) : Sf B (nameT l) := by
  unfold nameT
  split
  · exact h.tail
  · exact Sf.bad h 30
theorem Sf.need {B : Nat} {l : List Tk} (h : Bd B l) (s : ByteArray) : Sf B (needT s l) := by
  unfold needT
  split
  · exact h.tail
  · exact Sf.bad h 30
theorem Sf.parts (B : Nat) : ∀ f : Nat, (∀ d l, Bd B l → Sf B (partF f d l)) ∧ (∀ d acc l, Bd B l → Sf B (moreF f d acc l))
  | 0 => ⟨fun d l h => (by unfold partF; exact Sf.bad h 30), fun d acc l h => (by unfold moreF; exact Sf.bad h 30)⟩
  | f + 1 => by
    obtain ⟨ih1, ih2⟩ := Sf.parts B f
    constructor
    · intro d l h
      unfold partF
      split
      · exact h.tail
      · split
        · split
          · exact Sf.bad h 13
          · exact (ih1 _ _ h.tail).and fun a m hm => (ih2 _ _ _ hm).and fun a m hm => (Sf.need hm _).and fun a m hm => hm
        · refine (Sf.name h).and fun a m hm => ?_
          split
          · exact (Sf.name hm.tail).and fun a m hm => hm
          · exact hm
    · intro d acc l h
      unfold moreF
      split
      · exact h
      · exact (ih1 _ _ h.tail).and fun a m hm => ih2 _ _ _ hm
theorem Sf.who (B : Nat) : ∀ (f : Nat) (acc : List SubP) (l : List Tk), Bd B l → Sf B (whoF f acc l)
  | 0, acc, l, h => by unfold whoF; exact Sf.bad h 30
  | f + 1, acc, l, h => by
    unfold whoF
    refine (Sf.name h).and fun a m hm => Sf.and (r := if isT (sg 35) m = true then nameT m.tail else .ok (⟨#[]⟩, m)) ?_ fun a m hm => ?_
    · split
      · exact Sf.name hm.tail
      · exact hm
    · split
      · exact Sf.who B f _ _ hm.tail
      · exact hm
theorem Sf.rel {B : Nat} {f : Nat} {l : List Tk} (h : Bd B l) : Sf B (relF f l) := by
  unfold relF
  refine (Sf.name h).and fun _ _ h => (Sf.need h _).and fun _ _ h => (Sf.name h).and fun _ _ h => (Sf.need h _).and fun _ _ h => (Sf.name h).and fun _ _ h => (Sf.need h _).and fun _ _ h => (Sf.name h).and fun _ _ h => (Sf.need h _).and fun _ _ h => (Sf.need h _).and fun _ m h => ?_
  refine Sf.and (r := if isT sIs m = true ∨ isT (sg 59) m = true then .ok ([], m) else whoF f [] m) ?_ fun _ m h => ?_
  · split
    · exact h
    · exact Sf.who B f _ _ h
  refine Sf.and (r := if isT sIs m = true then rewF f 0 m.tail else .ok ([(1, ⟨#[]⟩, ⟨#[]⟩)], m)) ?_ fun _ m h => ?_
  · split
    · unfold rewF
      exact ((Sf.parts B f).1 _ _ h.tail).and fun _ _ h => (Sf.parts B f).2 _ _ _ h
    · exact h
  exact (Sf.need h _).and fun _ _ h => h
theorem Sf.rels (B : Nat) : ∀ (g f : Nat) (acc : List RelP) (l : List Tk), Bd B l → Sf B (relsF f g acc l)
  | 0, f, acc, l, h => by unfold relsF; exact Sf.bad h 30
  | g + 1, f, acc, l, h => by
    unfold relsF
    split
    · exact (Sf.rel h.tail).and fun _ _ h => Sf.rels B g f _ _ h
    · exact h
theorem Sf.types (B : Nat) : ∀ (g f : Nat) (acc : List TypP) (l : List Tk), Bd B l → Sf B (typesF f g acc l)
  | 0, f, acc, l, h => by unfold typesF; exact Sf.bad h 30
  | g + 1, f, acc, l, h => by
    unfold typesF
    split
    · exact (Sf.name h.tail).and fun _ _ h => (Sf.need h _).and fun _ _ h => (Sf.rels B f f _ _ h).and fun _ _ h => (Sf.need h _).and fun _ _ h => Sf.types B g f _ _ h
    · exact h
theorem Sf.schema {B : Nat} {l : List Tk} (h : Bd B l) : Sf B (schemaF l) := by
  unfold schemaF
  refine (Sf.types B _ _ _ _ h).and fun _ m h => ?_
  split
  · exact h
  · exact Sf.bad h 30
theorem all_wd {s : ByteArray} (hz : s.size ≤ 2048) (h0 : (allS s).2.1 = 0) : Wd (allS s).1 := by
  obtain ⟨v, e0, eA⟩ := all_zero hz h0
  obtain ⟨init, e, hi⟩ := scan_init _ s 0 (Nat.le_refl _) e0
  rw [eA, e]
  intro t ht h1
  rcases List.mem_append.1 ht with ht | ht
  · rcases hi t ht with ⟨_, h2⟩ | ⟨h2, _⟩
    · have := (nameS_iff.1 h2).1
      have := cnt_le t.2.1
      omega
    · omega
  · simp only [List.mem_cons, List.not_mem_nil, or_false] at ht
    subst ht
    exact absurd h1 (by show ¬ (3 = 1); decide)
/-- With an error nothing, and a place in the text; else what can be done. -/
theorem parse_good {s : ByteArray} (hz : s.size ≤ 2048) :
    (¬ (parseS s).2.1 = 0 → (parseS s).1 = [] ∧ (parseS s).2.2 ≤ s.size) ∧ ((parseS s).2.1 = 0 → ∀ t ∈ (parseS s).1, ∀ x ∈ t.rels, GoodR x) := by
  by_cases h0 : (allS s).2.1 = 0
  · have hb : Bd s.size (allS s).1 := all_at s
    have hw := all_wd hz h0
    have hS := Sf.schema hb
    have eP : parseS s = outS (schemaF (allS s).1) := by unfold parseS; rw [if_pos h0]
    rw [eP]
    rw [schemaF_eq] at hS ⊢
    cases hT : typesT [] (allS s).1 with
    | error e =>
      rw [hT] at hS
      exact ⟨fun _ => ⟨rfl, hS⟩, fun h t ht => by cases ht⟩
    | ok p =>
      have hg := typesT_good _ [] _ _ _ (Nat.le_refl _) hw (fun t ht => by cases ht) (show typesT [] (allS s).1 = .ok (p.1, p.2) from hT)
      rw [hT] at hS
      rw [andT_ok] at hS ⊢
      by_cases h3 : (hdT p.2).1 = 3
      · rw [if_pos h3]
        exact ⟨fun h => absurd rfl h, fun _ => hg⟩
      · rw [if_neg h3] at hS ⊢
        exact ⟨fun _ => ⟨rfl, hS⟩, fun h t ht => by cases ht⟩
  · have eP : parseS s = ([], (allS s).2) := by unfold parseS; rw [if_neg h0]
    rw [eP]
    refine ⟨fun _ => ⟨rfl, ?_⟩, fun h => absurd h h0⟩
    unfold allS
    split
    · exact Nat.zero_le _
    · split
      · exact plc_le _ _
      · split
        · rename_i hc
          rcases scan_code _ s 0 (Nat.le_refl _) with h | ⟨_, _, h⟩
          · rw [h]; exact Nat.zero_le _
          · omega
        · rcases scan_code _ s 0 (Nat.le_refl _) with h | ⟨_, _, h⟩
          · show (scan s 0).2.2 ≤ _
            rw [h]; exact Nat.zero_le _
          · show (scan s 0).2.2 ≤ _
            omega
end Go.Proofs.Ytdndncodpepdfaa
