/- Of what is told of a text each rewrite's operations can be done, one is left, and no name is empty; an error's place is in the text. Conditions: none; nothing of the program is named here. -/
import Derived.Test.YtdndncodpepdfaaParseL
import Derived.Test.YtdndncodpepdfaaNotesF
namespace Go.Proofs.Ytdndncodpepdfaa

def okOp (o : OpP) : Prop := 1 ≤ o.1 ∧ o.1 ≤ 6 ∧ (0 < o.2.1.size ↔ o.1 = 2 ∨ o.1 = 3) ∧ (0 < o.2.2.size ↔ o.1 = 3)
/-- How many are left, if it can be done. -/
def stk : List OpP → Nat → Option Nat
  | [], n => some n
  | o :: r, n => if 4 ≤ o.1 then (if 2 ≤ n then stk r (n - 1) else none) else stk r (n + 1)
theorem stk_app : ∀ (a b : List OpP) (n : Nat), stk (a ++ b) n = (stk a n).bind (stk b)
  | [], b, n => rfl
  | o :: r, b, n => by
    rw [List.cons_append]
    unfold stk
    split
    · split
      · exact stk_app r b (n - 1)
      · rfl
    · exact stk_app r b (n + 1)
def Good (o : List OpP) : Prop := (∀ x ∈ o, okOp x) ∧ ∀ n, stk o n = some (n + 1)
theorem nil_no : ¬ 0 < (⟨#[]⟩ : ByteArray).size := by decide
theorem ok_mk {k : Nat} {a b : ByteArray} (h1 : 1 ≤ k) (h6 : k ≤ 6) (h2 : 0 < a.size ↔ k = 2 ∨ k = 3) (h3 : 0 < b.size ↔ k = 3) : okOp (k, a, b) := ⟨h1, h6, h2, h3⟩
theorem good_one {o : OpP} (h : okOp o) (h4 : o.1 < 4) : Good [o] :=
  ⟨fun x hx => by simp only [List.mem_cons, List.not_mem_nil, or_false] at hx; subst hx; exact h, fun n => by unfold stk; rw [if_neg (by omega)]; rfl⟩
theorem good_more {a b : List OpP} {k : Nat} (ha : Good a) (hb : Good b) (h4 : 4 ≤ k) (h6 : k ≤ 6) : Good (a ++ b ++ [(k, ⟨#[]⟩, ⟨#[]⟩)]) := by
  refine ⟨fun x hx => ?_, fun n => ?_⟩
  · rcases List.mem_append.1 hx with hx | hx
    · rcases List.mem_append.1 hx with hx | hx
      · exact ha.1 x hx
      · exact hb.1 x hx
    · simp only [List.mem_cons, List.not_mem_nil, or_false] at hx
      subst hx
      exact ok_mk (by omega) h6 ⟨fun h => absurd h nil_no, fun h => by omega⟩ ⟨fun h => absurd h nil_no, fun h => by omega⟩
  · rw [stk_app, stk_app, ha.2]
    show (stk b (n + 1)).bind _ = _
    rw [hb.2]
    show stk [(k, ⟨#[]⟩, ⟨#[]⟩)] (n + 1 + 1) = _
    unfold stk
    rw [if_pos (by show 4 ≤ k; exact h4), if_pos (by omega)]
    rfl
/-- Words aren't empty. -/
def Wd (l : List Tk) : Prop := ∀ t ∈ l, t.1 = 1 → 0 < t.2.1.size
theorem Wd.tail {l : List Tk} (h : Wd l) : Wd l.tail := fun t ht => h t (List.mem_of_mem_tail ht)
theorem nameT_ok {l r : List Tk} {n : ByteArray} (hw : Wd l) (h : nameT l = .ok (n, r)) : 0 < n.size ∧ Wd r := by
  unfold nameT at h
  by_cases hc : (hdT l).1 = 1 ∧ keyB (hdT l).2.1 = false
  · rw [if_pos hc] at h
    cases h
    refine ⟨?_, hw.tail⟩
    cases l with
    | nil => exact absurd hc.1 (by decide)
    | cons a t => exact hw a (List.mem_cons_self ..) hc.1
  · rw [if_neg hc] at h
    cases h
theorem needT_ok {s : ByteArray} {l r : List Tk} {u : Unit} (hw : Wd l) (h : needT s l = .ok (u, r)) : Wd r := by
  unfold needT at h
  by_cases hc : isT s l = true
  · rw [if_pos hc] at h
    cases h
    exact hw.tail
  · rw [if_neg hc] at h
    cases h
theorem opT_range (l : List Tk) : opT l = 0 ∨ (4 ≤ opT l ∧ opT l ≤ 6) := by
  unfold opT
  repeat' split
  all_goals omega
theorem good_this : Good [(1, ⟨#[]⟩, ⟨#[]⟩)] := good_one ⟨by decide, by decide, by decide, by decide⟩ (by decide)
theorem good_parts : ∀ f : Nat, (∀ d l o r, Wd l → partF f d l = .ok (o, r) → Good o ∧ Wd r) ∧ (∀ d acc l o r, Wd l → Good acc → moreF f d acc l = .ok (o, r) → Good o ∧ Wd r)
  | 0 => ⟨fun d l o r _ h => (by unfold partF at h; cases h), fun d acc l o r _ _ h => (by unfold moreF at h; cases h)⟩
  | f + 1 => by
    obtain ⟨ih1, ih2⟩ := good_parts f
    constructor
    · intro d l o r hw h
      unfold partF at h
      split at h
      · cases h
        exact ⟨good_this, hw.tail⟩
      · split at h
        · split at h
          · cases h
          · obtain ⟨a, m, e1, h⟩ := andT_inv h
            obtain ⟨g1, w1⟩ := ih1 _ _ _ _ hw.tail e1
            obtain ⟨a2, m2, e2, h⟩ := andT_inv h
            obtain ⟨g2, w2⟩ := ih2 _ _ _ _ _ w1 g1 e2
            obtain ⟨a3, m3, e3, h⟩ := andT_inv h
            have w3 := needT_ok w2 e3
            cases h
            exact ⟨g2, w3⟩
        · obtain ⟨a, m, e1, h⟩ := andT_inv h
          obtain ⟨s1, w1⟩ := nameT_ok hw e1
          split at h
          · obtain ⟨a2, m2, e2, h⟩ := andT_inv h
            obtain ⟨s2, w2⟩ := nameT_ok w1.tail e2
            cases h
            exact ⟨good_one (ok_mk (by omega) (by omega) ⟨fun _ => .inr rfl, fun _ => s1⟩ ⟨fun _ => rfl, fun _ => s2⟩) (by show 3 < 4; omega), w2⟩
          · cases h
            exact ⟨good_one (ok_mk (by omega) (by omega) ⟨fun _ => .inl rfl, fun _ => s1⟩ ⟨fun h => absurd h nil_no, fun h => absurd h (by omega)⟩) (by show 2 < 4; omega), w1⟩
    · intro d acc l o r hw hg h
      unfold moreF at h
      split at h
      · cases h
        exact ⟨hg, hw⟩
      · rename_i hc
        obtain ⟨a, m, e1, h⟩ := andT_inv h
        obtain ⟨g1, w1⟩ := ih1 _ _ _ _ hw.tail e1
        have := opT_range l
        exact ih2 _ _ _ _ _ w1 (good_more hg g1 (by omega) (by omega)) h
theorem whoF_wd : ∀ (f : Nat) (acc : List SubP) (l : List Tk) (o : List SubP) (r : List Tk), Wd l → whoF f acc l = .ok (o, r) → Wd r
  | 0, acc, l, o, r, _, h => by unfold whoF at h; cases h
  | f + 1, acc, l, o, r, hw, h => by
    unfold whoF at h
    obtain ⟨a, m, e1, h⟩ := andT_inv h
    obtain ⟨_, w1⟩ := nameT_ok hw e1
    obtain ⟨a2, m2, e2, h⟩ := andT_inv h
    have w2 : Wd m2 := by
      by_cases hc : isT (sg 35) m = true
      · rw [if_pos hc] at e2
        exact (nameT_ok w1.tail e2).2
      · rw [if_neg hc] at e2
        cases e2
        exact w1
    by_cases hc : isT (sg 44) m2 = true
    · rw [if_pos hc] at h
      exact whoF_wd f _ _ _ _ w2.tail h
    · rw [if_neg hc] at h
      cases h
      exact w2
def GoodR (x : RelP) : Prop := 0 < x.name.size ∧ 0 < x.view.size ∧ 0 < x.edit.size ∧ 0 < x.check.size ∧ Good x.ops
theorem relT_good {l r : List Tk} {x : RelP} (hw : Wd l) (h : relT l = .ok (x, r)) : GoodR x ∧ Wd r := by
  unfold relT at h
  obtain ⟨_, _, e, h⟩ := andT_inv h
  obtain ⟨n1, w⟩ := nameT_ok hw e
  obtain ⟨_, _, e, h⟩ := andT_inv h
  replace w := needT_ok w e
  obtain ⟨_, _, e, h⟩ := andT_inv h
  obtain ⟨n2, w⟩ := nameT_ok w e
  obtain ⟨_, _, e, h⟩ := andT_inv h
  replace w := needT_ok w e
  obtain ⟨_, _, e, h⟩ := andT_inv h
  obtain ⟨n3, w⟩ := nameT_ok w e
  obtain ⟨_, _, e, h⟩ := andT_inv h
  replace w := needT_ok w e
  obtain ⟨_, _, e, h⟩ := andT_inv h
  obtain ⟨n4, w⟩ := nameT_ok w e
  obtain ⟨_, _, e, h⟩ := andT_inv h
  replace w := needT_ok w e
  obtain ⟨_, _, e, h⟩ := andT_inv h
  replace w := needT_ok w e
  obtain ⟨_, m, e, h⟩ := andT_inv h
  have w2 : Wd m := by
    split at e
    · cases e; exact w
    · exact whoF_wd _ _ _ _ _ w e
  obtain ⟨ops, m2, e, h⟩ := andT_inv h
  have w3 : Good ops ∧ Wd m2 := by
    split at e
    · unfold rewT at e
      obtain ⟨_, _, e1, e⟩ := andT_inv e
      obtain ⟨g1, w1⟩ := (good_parts _).1 _ _ _ _ w2.tail e1
      exact (good_parts _).2 _ _ _ _ _ w1 g1 e
    · cases e
      exact ⟨good_this, w2⟩
  obtain ⟨_, _, e, h⟩ := andT_inv h
  have w4 := needT_ok w3.2 e
  cases h
  exact ⟨⟨n1, n2, n3, n4, w3.1⟩, w4⟩
theorem relsT_good : ∀ (n : Nat) (acc : List RelP) (l : List Tk) (o : List RelP) (r : List Tk), l.length ≤ n → Wd l → (∀ x ∈ acc, GoodR x) → relsT acc l = .ok (o, r) → (∀ x ∈ o, GoodR x) ∧ Wd r := by
  intro n
  induction n with
  | zero =>
    intro acc l o r hn hw ha h
    rw [relsT_eq] at h
    by_cases hc : isT sRel l = true
    · have := isT_len sRel_size hc; omega
    · rw [if_neg hc] at h
      cases h
      exact ⟨ha, hw⟩
  | succ n ih =>
    intro acc l o r hn hw ha h
    rw [relsT_eq] at h
    by_cases hc : isT sRel l = true
    · rw [if_pos hc] at h
      have h1 := isT_len sRel_size hc
      obtain ⟨x, m, e, h⟩ := andT_inv h
      have hlt := (relF_fuel (f := l.tail.length + 1) (l := l.tail) (by omega)).2 _ _ e
      obtain ⟨g, w⟩ := relT_good hw.tail e
      refine ih _ _ _ _ (by omega) w (fun y hy => ?_) h
      rcases List.mem_append.1 hy with hy | hy
      · exact ha y hy
      · simp only [List.mem_cons, List.not_mem_nil, or_false] at hy
        subst hy; exact g
    · rw [if_neg hc] at h
      cases h
      exact ⟨ha, hw⟩
theorem typesT_good : ∀ (n : Nat) (acc : List TypP) (l : List Tk) (o : List TypP) (r : List Tk), l.length ≤ n → Wd l → (∀ t ∈ acc, ∀ x ∈ t.rels, GoodR x) → typesT acc l = .ok (o, r) → (∀ t ∈ o, ∀ x ∈ t.rels, GoodR x) := by
  intro n
  induction n with
  | zero =>
    intro acc l o r hn hw ha h
    rw [typesT_eq] at h
    by_cases hc : isT sType l = true
    · have := isT_len sType_size hc; omega
    · rw [if_neg hc] at h
      cases h
      exact ha
  | succ n ih =>
    intro acc l o r hn hw ha h
    rw [typesT_eq] at h
    by_cases hc : isT sType l = true
    · rw [if_pos hc] at h
      have h1 := isT_len sType_size hc
      obtain ⟨_, _, e, h⟩ := andT_inv h
      have l1 := nameT_len e
      obtain ⟨_, w⟩ := nameT_ok hw.tail e
      obtain ⟨_, _, e, h⟩ := andT_inv h
      have l2 := needT_len (sg_size _) e
      replace w := needT_ok w e
      obtain ⟨rs, m, e, h⟩ := andT_inv h
      have l3 := relsF_eats _ _ _ _ _ _ (Nat.lt_succ_self _) e
      obtain ⟨g, w⟩ := relsT_good _ _ _ _ _ (Nat.le_refl _) w (fun x hx => by cases hx) e
      obtain ⟨_, _, e, h⟩ := andT_inv h
      have l4 := needT_len (sg_size _) e
      replace w := needT_ok w e
      refine ih _ _ _ _ (by omega) w (fun t ht => ?_) h
      rcases List.mem_append.1 ht with ht | ht
      · exact ha t ht
      · simp only [List.mem_cons, List.not_mem_nil, or_false] at ht
        subst ht; exact g
    · rw [if_neg hc] at h
      cases h
      exact ha
end Go.Proofs.Ytdndncodpepdfaa
