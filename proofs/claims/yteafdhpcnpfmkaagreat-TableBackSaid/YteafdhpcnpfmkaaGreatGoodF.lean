/- Layer 8: rewrites as trees: their operations, and their texts; how a text is put together, operation by operation. Conditions: none; nothing of the program is named here. -/
import Derived.Test.YteafdhpcnpfmkaaGreatParseP
namespace Go.Proofs.YteafdhpcnpfmkaaGreat

/-- What a rewrite is. -/
inductive Ex where
  | this : Ex
  | same (n : ByteArray) : Ex
  | via (n m : ByteArray) : Ex
  | bin (k : Nat) (a b : Ex) : Ex
def opK (k : Nat) : OpP := (k, ⟨#[]⟩, ⟨#[]⟩)
def Ex.ops : Ex → List OpP
  | .this => [(1, ⟨#[]⟩, ⟨#[]⟩)]
  | .same n => [(2, n, ⟨#[]⟩)]
  | .via n m => [(3, n, m)]
  | .bin k a b => a.ops ++ b.ops ++ [opK k]
def Ex.sg : Ex → Bool
  | .bin _ _ _ => true
  | _ => false
/-- A sign, with a blank on each side. -/
def sgnS (k : Nat) : ByteArray := if k = 4 then ⟨#[32, 124, 32]⟩ else if k = 5 then ⟨#[32, 38, 32]⟩ else ⟨#[32, 45, 32]⟩
def parS (s : Bool) (x : ByteArray) : ByteArray := if s = true then ⟨#[40]⟩ ++ x ++ ⟨#[41]⟩ else x
def Ex.text : Ex → ByteArray
  | .this => sThis
  | .same n => n
  | .via n m => n ++ ⟨#[46]⟩ ++ m
  | .bin k a b => a.text ++ sgnS k ++ parS b.sg b.text
def Ex.good : Ex → Prop
  | .bin k a b => (k = 4 ∨ k = 5 ∨ k = 6) ∧ a.good ∧ b.good
  | _ => True
/-- A part that is written, in pieces, behind a place that is left for a sign; and whether it has signs itself. -/
abbrev Gp := List ByteArray × Bool
def catL : List ByteArray → ByteArray
  | [] => ⟨#[]⟩
  | x :: r => x ++ catL r
theorem catL_app : ∀ a b : List ByteArray, catL (a ++ b) = catL a ++ catL b
  | [], b => (nil_app' _).symm
  | x :: r, b => by
    show x ++ catL (r ++ b) = x ++ catL r ++ catL b
    rw [catL_app r b, app_assoc]
def flatG (gs : List Gp) : List ByteArray := gs.flatMap fun x => ⟨#[]⟩ :: x.1
def putG (x : ByteArray) (gs : List Gp) : List Gp := gs ++ [([x], false)]
def mergeG (c : ByteArray) (a b : Gp) : Gp := (a.1 ++ (if b.2 = true then c ++ ⟨#[40]⟩ else c) :: b.1 ++ (if b.2 = true then [⟨#[41]⟩] else []), true)
/-- A sign between the last two. -/
def joinG (c : ByteArray) : List Gp → List Gp
  | [] => []
  | [a] => [a]
  | [a, b] => [mergeG c a b]
  | a :: b :: d :: r => a :: joinG c (b :: d :: r)
theorem joinG_two (c : ByteArray) (a b : Gp) : ∀ l : List Gp, joinG c (l ++ [a, b]) = l ++ [mergeG c a b]
  | [] => rfl
  | [x] => rfl
  | x :: y :: l => by
    have h := joinG_two c a b (y :: l)
    cases l with
    | nil => rfl
    | cons z l => show x :: joinG c (y :: z :: (l ++ [a, b])) = _; rw [show y :: z :: (l ++ [a, b]) = y :: z :: l ++ [a, b] from rfl, h]; rfl
def textG (o : OpP) : ByteArray := if o.1 = 1 then sThis else if o.1 = 2 then o.2.1 else o.2.1 ++ ⟨#[46]⟩ ++ o.2.2
def stepG (gs : List Gp) (o : OpP) : List Gp :=
  if o.1 = 1 ∨ o.1 = 2 ∨ o.1 = 3 then putG (textG o) gs else if o.1 = 4 ∨ o.1 = 5 ∨ o.1 = 6 then joinG (sgnS o.1) gs else gs
def foldG (gs : List Gp) (l : List OpP) : List Gp := l.foldl stepG gs
/-- What a rewrite's operations are written as. -/
def rewS (l : List OpP) : ByteArray := catL (flatG (foldG [] l))
theorem foldG_tree : ∀ (t : Ex) (gs : List Gp), t.good → ∃ r, foldG gs t.ops = gs ++ [(r, t.sg)] ∧ catL r = t.text
  | .this, gs, _ => ⟨[sThis], rfl, app_nil _⟩
  | .same n, gs, _ => ⟨[n], rfl, app_nil _⟩
  | .via n m, gs, _ => ⟨[n ++ ⟨#[46]⟩ ++ m], rfl, app_nil _⟩
  | .bin k a b, gs, h => by
    obtain ⟨hk, ha, hb⟩ := h
    obtain ⟨ra, ea, ta⟩ := foldG_tree a gs ha
    obtain ⟨rb, eb, tb⟩ := foldG_tree b (gs ++ [(ra, a.sg)]) hb
    have e : foldG gs (Ex.bin k a b).ops = stepG (foldG (foldG gs a.ops) b.ops) (opK k) := by
      show List.foldl stepG gs (a.ops ++ b.ops ++ [opK k]) = _
      rw [List.foldl_append, List.foldl_append]
      rfl
    rw [e, ea, eb, List.append_assoc]
    have e2 : stepG (gs ++ ([(ra, a.sg)] ++ [(rb, b.sg)])) (opK k) = joinG (sgnS k) (gs ++ [(ra, a.sg), (rb, b.sg)]) := by
      unfold stepG opK
      dsimp only
      rw [if_neg (by omega), if_pos (by omega)]
      rfl
    rw [e2, joinG_two]
    refine ⟨_, rfl, ?_⟩
    show catL (ra ++ (if b.sg = true then sgnS k ++ ⟨#[40]⟩ else sgnS k) :: rb ++ (if b.sg = true then [⟨#[41]⟩] else [])) = a.text ++ sgnS k ++ parS b.sg b.text
    rw [catL_app, catL_app, ta]
    show a.text ++ ((if b.sg = true then sgnS k ++ ⟨#[40]⟩ else sgnS k) ++ catL rb) ++ _ = _
    rw [tb]
    unfold parS
    split
    · rw [show catL [(⟨#[41]⟩ : ByteArray)] = ⟨#[41]⟩ from rfl]
      simp only [app_assoc]
    · rw [show catL ([] : List ByteArray) = ⟨#[]⟩ from rfl, app_nil]
      simp only [app_assoc]
theorem rewS_tree (t : Ex) (h : t.good) : rewS t.ops = t.text := by
  obtain ⟨r, e, h2⟩ := foldG_tree t [] h
  unfold rewS
  rw [e, ← h2]
  show catL (⟨#[]⟩ :: r ++ []) = _
  rw [List.append_nil]
  show ⟨#[]⟩ ++ catL r = _
  exact nil_app' _
end Go.Proofs.YteafdhpcnpfmkaaGreat
/- Layer 8: what a text says is good: its names are names and no keys, its rewrites are trees that aren't too deep. Conditions: none; nothing of the program is named here. -/
namespace Go.Proofs.YteafdhpcnpfmkaaGreat

def NmW (n : ByteArray) : Prop := nameS n = true ∧ keyB n = false
def Ex.nm : Ex → Prop
  | .this => True
  | .same n => NmW n
  | .via n m => NmW n ∧ NmW m
  | .bin _ a b => a.nm ∧ b.nm
/-- How deep parentheses are within each other, in the text. -/
def Ex.deep : Ex → Nat
  | .bin _ a b => max a.deep (if b.sg = true then b.deep + 1 else 0)
  | _ => 0
def Ex.pd (t : Ex) : Nat := if t.sg = true then t.deep + 1 else 0
theorem Ex.deep_le_pd (t : Ex) : t.deep ≤ t.pd := by
  cases t with
  | bin k a b => exact Nat.le_succ _
  | _ => exact Nat.zero_le _
/-- Words are names. -/
def WdN (l : List Tk) : Prop := ∀ t ∈ l, t.1 = 1 → nameS t.2.1 = true
theorem WdN.tail {l : List Tk} (h : WdN l) : WdN l.tail := fun t ht => h t (List.mem_of_mem_tail ht)
theorem WdN.name {l r : List Tk} {n : ByteArray} (h : WdN l) (e : nameT l = .ok (n, r)) : NmW n ∧ WdN r := by
  unfold nameT at e
  split at e
  · rename_i hc
    cases e
    refine ⟨⟨?_, hc.2⟩, h.tail⟩
    cases l with
    | nil => exact absurd hc.1 (by show ¬ (3 = 1); decide)
    | cons a t => exact h a List.mem_cons_self hc.1
  · cases e
theorem WdN.need {l r : List Tk} {s : ByteArray} {u : Unit} (h : WdN l) (e : needT s l = .ok (u, r)) : WdN r := by
  unfold needT at e
  split at e
  · cases e; exact h.tail
  · cases e
def TreeO (d : Nat) (o : List OpP) : Prop := ∃ t : Ex, o = t.ops ∧ t.good ∧ t.nm ∧ t.deep + d ≤ 8
def PartO (d : Nat) (o : List OpP) : Prop := ∃ t : Ex, o = t.ops ∧ t.good ∧ t.nm ∧ t.pd + d ≤ 8
theorem PartO.tree {d : Nat} {o : List OpP} (h : PartO d o) : TreeO d o := by
  obtain ⟨t, h1, h2, h3, h4⟩ := h
  exact ⟨t, h1, h2, h3, by have := t.deep_le_pd; omega⟩
theorem opT_kind {l : List Tk} (h : ¬ opT l = 0) : opT l = 4 ∨ opT l = 5 ∨ opT l = 6 := by
  unfold opT at h ⊢
  split
  · exact .inl rfl
  · split
    · exact .inr (.inl rfl)
    · split
      · exact .inr (.inr rfl)
      · rename_i h1 h2 h3
        rw [if_neg h1, if_neg h2, if_neg h3] at h
        exact absurd rfl h
theorem tree_parts : ∀ f : Nat, (∀ d l o r, d ≤ 8 → WdN l → partF f d l = .ok (o, r) → PartO d o ∧ WdN r) ∧ (∀ d acc l o r, d ≤ 8 → WdN l → TreeO d acc → moreF f d acc l = .ok (o, r) → TreeO d o ∧ WdN r)
  | 0 => ⟨fun d l o r _ _ h => (by unfold partF at h; cases h), fun d acc l o r _ _ _ h => (by unfold moreF at h; cases h)⟩
  | f + 1 => by
    obtain ⟨ih1, ih2⟩ := tree_parts f
    constructor
    · intro d l o r hd hw h
      unfold partF at h
      split at h
      · cases h
        exact ⟨⟨.this, rfl, trivial, trivial, by show 0 + d ≤ 8; omega⟩, hw.tail⟩
      · split at h
        · split at h
          · cases h
          · obtain ⟨a, m, e1, h⟩ := andT_inv h
            obtain ⟨g1, w1⟩ := ih1 _ _ _ _ (by omega) hw.tail e1
            obtain ⟨a2, m2, e2, h⟩ := andT_inv h
            obtain ⟨g2, w2⟩ := ih2 _ _ _ _ _ (by omega) w1 g1.tree e2
            obtain ⟨a3, m3, e3, h⟩ := andT_inv h
            have w3 := w2.need e3
            cases h
            obtain ⟨t, h1, h2, h3, h4⟩ := g2
            refine ⟨⟨t, h1, h2, h3, ?_⟩, w3⟩
            unfold Ex.pd
            split <;> omega
        · obtain ⟨a, m, e1, h⟩ := andT_inv h
          obtain ⟨n1, w1⟩ := hw.name e1
          split at h
          · obtain ⟨a2, m2, e2, h⟩ := andT_inv h
            obtain ⟨n2, w2⟩ := w1.tail.name e2
            cases h
            exact ⟨⟨.via a a2, rfl, trivial, ⟨n1, n2⟩, by show 0 + d ≤ 8; omega⟩, w2⟩
          · cases h
            exact ⟨⟨.same a, rfl, trivial, n1, by show 0 + d ≤ 8; omega⟩, w1⟩
    · intro d acc l o r hd hw ha h
      unfold moreF at h
      split at h
      · cases h
        exact ⟨ha, hw⟩
      · rename_i hc
        obtain ⟨a, m, e1, h⟩ := andT_inv h
        obtain ⟨g1, w1⟩ := ih1 _ _ _ _ hd hw.tail e1
        refine ih2 _ _ _ _ _ hd w1 ?_ h
        obtain ⟨t1, h1, h2, h3, h4⟩ := ha
        obtain ⟨t2, k1, k2, k3, k4⟩ := g1
        refine ⟨.bin (opT l) t1 t2, ?_, ⟨opT_kind hc, h2, k2⟩, ⟨h3, k3⟩, ?_⟩
        · rw [h1, k1]; rfl
        · show max t1.deep t2.pd + d ≤ 8
          omega
def SubG (s : SubP) : Prop := NmW s.1 ∧ (s.2 = ⟨#[]⟩ ∨ NmW s.2)
theorem good_who : ∀ (f : Nat) (acc : List SubP) (l : List Tk) (o : List SubP) (r : List Tk), WdN l → (∀ s ∈ acc, SubG s) → whoF f acc l = .ok (o, r) → (∀ s ∈ o, SubG s) ∧ WdN r
  | 0, acc, l, o, r, _, _, h => by unfold whoF at h; cases h
  | f + 1, acc, l, o, r, hw, ha, h => by
    unfold whoF at h
    obtain ⟨a, m, e1, h⟩ := andT_inv h
    obtain ⟨n1, w1⟩ := hw.name e1
    obtain ⟨a2, m2, e2, h⟩ := andT_inv h
    have h2 : (a2 = ⟨#[]⟩ ∨ NmW a2) ∧ WdN m2 := by
      split at e2
      · obtain ⟨n2, w2⟩ := w1.tail.name e2
        exact ⟨.inr n2, w2⟩
      · cases e2
        exact ⟨.inl rfl, w1⟩
    have hacc : ∀ s ∈ acc ++ [(a, a2)], SubG s := fun s hs => by
      rcases List.mem_append.1 hs with hs | hs
      · exact ha s hs
      · rw [List.mem_singleton.1 hs]; exact ⟨n1, h2.1⟩
    by_cases hc : isT (sg 44) m2 = true
    · rw [if_pos hc] at h
      exact good_who f _ _ _ _ h2.2.tail hacc h
    · rw [if_neg hc] at h
      cases h
      exact ⟨hacc, h2.2⟩
structure RelG (x : RelP) : Prop where
  name : NmW x.name
  view : NmW x.view
  edit : NmW x.edit
  check : NmW x.check
  subs : ∀ s ∈ x.subs, SubG s
  ops : TreeO 0 x.ops
theorem good_rel {l r : List Tk} {x : RelP} (hw : WdN l) (h : relT l = .ok (x, r)) : RelG x ∧ WdN r := by
  unfold relT at h
  obtain ⟨_, _, e, h⟩ := andT_inv h
  obtain ⟨n1, hw⟩ := hw.name e
  obtain ⟨_, _, e, h⟩ := andT_inv h
  replace hw := hw.need e
  obtain ⟨_, _, e, h⟩ := andT_inv h
  obtain ⟨n2, hw⟩ := hw.name e
  obtain ⟨_, _, e, h⟩ := andT_inv h
  replace hw := hw.need e
  obtain ⟨_, _, e, h⟩ := andT_inv h
  obtain ⟨n3, hw⟩ := hw.name e
  obtain ⟨_, _, e, h⟩ := andT_inv h
  replace hw := hw.need e
  obtain ⟨_, _, e, h⟩ := andT_inv h
  obtain ⟨n4, hw⟩ := hw.name e
  obtain ⟨_, _, e, h⟩ := andT_inv h
  replace hw := hw.need e
  obtain ⟨_, _, e, h⟩ := andT_inv h
  replace hw := hw.need e
  obtain ⟨subs, m, e, h⟩ := andT_inv h
  have hs : (∀ s ∈ subs, SubG s) ∧ WdN m := by
    split at e
    · cases e
      exact ⟨fun s hs => (by cases hs), hw⟩
    · exact good_who _ _ _ _ _ hw (fun s hs => by cases hs) e
  obtain ⟨ops, m2, e, h⟩ := andT_inv h
  have ho : TreeO 0 ops ∧ WdN m2 := by
    split at e
    · unfold rewT at e
      obtain ⟨a, _, e1, e⟩ := andT_inv e
      obtain ⟨g1, w1⟩ := (tree_parts _).1 _ _ _ _ (Nat.zero_le _) hs.2.tail e1
      exact (tree_parts _).2 _ _ _ _ _ (Nat.zero_le _) w1 g1.tree e
    · cases e
      exact ⟨⟨.this, rfl, trivial, trivial, by decide⟩, hs.2⟩
  obtain ⟨_, _, e, h⟩ := andT_inv h
  replace hw := ho.2.need e
  cases h
  exact ⟨⟨n1, n2, n3, n4, hs.1, ho.1⟩, hw⟩
theorem good_rels : ∀ (n : Nat) (acc : List RelP) (l : List Tk) (o : List RelP) (r : List Tk), l.length ≤ n → WdN l → (∀ x ∈ acc, RelG x) → relsT acc l = .ok (o, r) → (∀ x ∈ o, RelG x) ∧ WdN r := by
  intro n
  induction n with
  | zero =>
    intro acc l o r hn hw ha h
    rw [relsT_eq] at h
    by_cases hc : isT sRel l = true
    · have := isT_len sRel_size hc; omega
    · rw [if_neg hc] at h
      cases h
      exact ⟨ha, hw⟩
  | succ n ih =>
    intro acc l o r hn hw ha h
    rw [relsT_eq] at h
    by_cases hc : isT sRel l = true
    · rw [if_pos hc] at h
      have h1 := isT_len sRel_size hc
      obtain ⟨x, m, e, h⟩ := andT_inv h
      obtain ⟨g, w⟩ := good_rel hw.tail e
      have hl := (few_rel e).2
      exact ih _ _ _ _ (by omega) w (fun y hy => by
        rcases List.mem_append.1 hy with hy | hy
        · exact ha y hy
        · rw [List.mem_singleton.1 hy]; exact g) h
    · rw [if_neg hc] at h
      cases h
      exact ⟨ha, hw⟩
structure TypG (t : TypP) : Prop where
  name : NmW t.name
  rels : ∀ x ∈ t.rels, RelG x
theorem good_types : ∀ (n : Nat) (acc : List TypP) (l : List Tk) (o : List TypP) (r : List Tk), l.length ≤ n → WdN l → (∀ t ∈ acc, TypG t) → typesT acc l = .ok (o, r) → (∀ t ∈ o, TypG t) := by
  intro n
  induction n with
  | zero =>
    intro acc l o r hn hw ha h
    rw [typesT_eq] at h
    by_cases hc : isT sType l = true
    · have := isT_len sType_size hc; omega
    · rw [if_neg hc] at h
      cases h
      exact ha
  | succ n ih =>
    intro acc l o r hn hw ha h
    rw [typesT_eq] at h
    by_cases hc : isT sType l = true
    · rw [if_pos hc] at h
      have h1 := isT_len sType_size hc
      obtain ⟨_, _, e, h⟩ := andT_inv h
      have l1 := nameT_len e
      obtain ⟨n1, hw⟩ := hw.tail.name e
      obtain ⟨_, _, e, h⟩ := andT_inv h
      have l2 := needT_len (sg_size _) e
      replace hw := hw.need e
      obtain ⟨rs, m, e, h⟩ := andT_inv h
      obtain ⟨g, hw⟩ := good_rels _ _ _ _ _ (Nat.le_refl _) hw (fun x hx => by cases hx) e
      have l3 := (few_rels _ _ _ _ _ _ (Nat.le_refl _) (Nat.le_refl _) (fun x hx => by cases hx) e).2
      simp only [List.length_nil] at l3
      obtain ⟨_, _, e, h⟩ := andT_inv h
      have l4 := needT_len (sg_size _) e
      replace hw := hw.need e
      exact ih _ _ _ _ (by omega) hw (fun t ht => by
        rcases List.mem_append.1 ht with ht | ht
        · exact ha t ht
        · rw [List.mem_singleton.1 ht]; exact ⟨n1, g⟩) h
    · rw [if_neg hc] at h
      cases h
      exact ha
theorem parse_goodT (s : ByteArray) : ∀ t ∈ (parseS s).1, TypG t := by
  unfold parseS
  split
  · rename_i h0
    have hw : WdN (allS s).1 := by
      obtain ⟨v, e0, eA⟩ := all_zero (by
        rcases Nat.lt_or_ge 2048 s.size with h | h
        · unfold allS at h0
          rw [if_pos h] at h0
          exact absurd h0 (by decide)
        · exact h) h0
      obtain ⟨init, e, hi⟩ := scan_init _ s 0 (Nat.le_refl _) e0
      rw [eA, e]
      intro t ht h1
      rcases List.mem_append.1 ht with ht | ht
      · rcases hi t ht with ⟨_, h2⟩ | ⟨h2, _⟩
        · exact h2
        · rw [h2] at h1; cases h1
      · rw [List.mem_singleton.1 ht] at h1; cases h1
    rw [schemaF_eq]
    cases hT : typesT [] (allS s).1 with
    | error e => exact fun t ht => by cases ht
    | ok q =>
      have g := good_types _ _ _ _ _ (Nat.le_refl _) hw (fun t ht => by cases ht) (show typesT [] (allS s).1 = .ok (q.1, q.2) from hT)
      rw [andT_ok]
      split
      · exact g
      · exact fun t ht => by cases ht
  · exact fun t ht => by cases ht
end Go.Proofs.YteafdhpcnpfmkaaGreat
