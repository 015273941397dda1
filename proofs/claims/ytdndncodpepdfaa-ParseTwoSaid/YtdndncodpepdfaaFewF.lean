/- Layer 7: no list of what is told of a text is longer than its tokens. Conditions: none; nothing of the program is named here. -/
import Derived.Test.YtdndncodpepdfaaOpsF
namespace Go.Proofs.Ytdndncodpepdfaa

theorem few_parts : ∀ f : Nat, (∀ d l o r, partF f d l = .ok (o, r) → o.length + r.length ≤ l.length) ∧ (∀ d acc l o r, moreF f d acc l = .ok (o, r) → o.length + r.length ≤ acc.length + l.length)
  | 0 => ⟨fun d l o r h => (by unfold partF at h; cases h), fun d acc l o r h => (by unfold moreF at h; cases h)⟩
  | f + 1 => by
    obtain ⟨ih1, ih2⟩ := few_parts f
    constructor
    · intro d l o r h
      unfold partF at h
      split at h
      · rename_i hc
        have h1 := isT_len (by decide) hc
        cases h
        simp only [List.length_cons, List.length_nil]
        omega
      · split at h
        · rename_i hc
          have h1 := isT_len (sg_size _) hc
          split at h
          · cases h
          · obtain ⟨a, m, e1, h⟩ := andT_inv h
            have g1 := ih1 _ _ _ _ e1
            obtain ⟨a2, m2, e2, h⟩ := andT_inv h
            have g2 := ih2 _ _ _ _ _ e2
            obtain ⟨a3, m3, e3, h⟩ := andT_inv h
            have w3 := needT_len (sg_size _) e3
            cases h
            omega
        · obtain ⟨a, m, e1, h⟩ := andT_inv h
          have s1 := nameT_len e1
          split at h
          · rename_i hc
            have h1 := isT_len (sg_size _) hc
            obtain ⟨a2, m2, e2, h⟩ := andT_inv h
            have s2 := nameT_len e2
            cases h
            simp only [List.length_cons, List.length_nil]
            omega
          · cases h
            simp only [List.length_cons, List.length_nil]
            omega
    · intro d acc l o r h
      unfold moreF at h
      split at h
      · cases h
        exact Nat.le_refl _
      · rename_i hc
        have h1 := opT_len hc
        obtain ⟨a, m, e1, h⟩ := andT_inv h
        have g1 := ih1 _ _ _ _ e1
        have g2 := ih2 _ _ _ _ _ h
        simp only [List.length_append, List.length_cons, List.length_nil] at g2
        omega
theorem few_who : ∀ (f : Nat) (acc : List SubP) (l : List Tk) (o : List SubP) (r : List Tk), whoF f acc l = .ok (o, r) → o.length + r.length ≤ acc.length + l.length
  | 0, acc, l, o, r, h => by unfold whoF at h; cases h
  | f + 1, acc, l, o, r, h => by
    unfold whoF at h
    obtain ⟨a, m, e1, h⟩ := andT_inv h
    have s1 := nameT_len e1
    obtain ⟨a2, m2, e2, h⟩ := andT_inv h
    have s2 := who_len e2
    by_cases hc : isT (sg 44) m2 = true
    · rw [if_pos hc] at h
      have s3 := isT_len (sg_size _) hc
      have := few_who f _ _ _ _ h
      simp only [List.length_append, List.length_cons, List.length_nil] at this
      omega
    · rw [if_neg hc] at h
      cases h
      simp only [List.length_append, List.length_cons, List.length_nil]
      omega
/-- No list of it is longer than so. -/
def FewR (N : Nat) (x : RelP) : Prop := x.subs.length ≤ N ∧ x.ops.length ≤ N
theorem few_rel {l r : List Tk} {x : RelP} (h : relT l = .ok (x, r)) : FewR l.length x ∧ r.length < l.length := by
  refine ⟨?_, (relF_fuel (f := l.length + 1) (Nat.lt_succ_self _)).2 _ _ h⟩
  unfold relT at h
  obtain ⟨_, _, e, h⟩ := andT_inv h
  have l0 := nameT_len e
  obtain ⟨_, _, e, h⟩ := andT_inv h
  have l1 := needT_len (sg_size _) e
  obtain ⟨_, _, e, h⟩ := andT_inv h
  have l2 := nameT_len e
  obtain ⟨_, _, e, h⟩ := andT_inv h
  have l3 := needT_len (sg_size _) e
  obtain ⟨_, _, e, h⟩ := andT_inv h
  have l4 := nameT_len e
  obtain ⟨_, _, e, h⟩ := andT_inv h
  have l5 := needT_len (sg_size _) e
  obtain ⟨_, _, e, h⟩ := andT_inv h
  have l6 := nameT_len e
  obtain ⟨_, _, e, h⟩ := andT_inv h
  have l7 := needT_len (sg_size _) e
  obtain ⟨_, _, e, h⟩ := andT_inv h
  have l8 := needT_len (sg_size _) e
  obtain ⟨subs, m, e, h⟩ := andT_inv h
  have w2 : subs.length + m.length ≤ l.length := by
    split at e
    · cases e
      simp only [List.length_nil]
      omega
    · have := few_who _ _ _ _ _ e
      simp only [List.length_nil] at this
      omega
  obtain ⟨ops, m2, e, h⟩ := andT_inv h
  have w3 : ops.length ≤ l.length := by
    split at e
    · rename_i hc
      have l9 := isT_len sIs_size hc
      unfold rewT at e
      obtain ⟨_, _, e1, e⟩ := andT_inv e
      have g1 := (few_parts _).1 _ _ _ _ e1
      have g2 := (few_parts _).2 _ _ _ _ _ e
      omega
    · cases e
      simp only [List.length_cons, List.length_nil]
      omega
  obtain ⟨_, _, e, h⟩ := andT_inv h
  cases h
  exact ⟨by dsimp only; omega, w3⟩
theorem FewR.up {N M : Nat} {x : RelP} (h : FewR N x) (hN : N ≤ M) : FewR M x := ⟨Nat.le_trans h.1 hN, Nat.le_trans h.2 hN⟩
theorem few_rels (N : Nat) : ∀ (n : Nat) (acc : List RelP) (l : List Tk) (o : List RelP) (r : List Tk), l.length ≤ n → l.length ≤ N → (∀ x ∈ acc, FewR N x) → relsT acc l = .ok (o, r) → (∀ x ∈ o, FewR N x) ∧ o.length + r.length ≤ acc.length + l.length := by
  intro n
  induction n with
  | zero =>
    intro acc l o r hn hN ha h
    rw [relsT_eq] at h
    by_cases hc : isT sRel l = true
    · have := isT_len sRel_size hc; omega
    · rw [if_neg hc] at h
      cases h
      exact ⟨ha, Nat.le_refl _⟩
  | succ n ih =>
    intro acc l o r hn hN ha h
    rw [relsT_eq] at h
    by_cases hc : isT sRel l = true
    · rw [if_pos hc] at h
      have h1 := isT_len sRel_size hc
      obtain ⟨x, m, e, h⟩ := andT_inv h
      obtain ⟨g, w⟩ := few_rel e
      have := ih _ _ _ _ (by omega) (by omega) (fun y hy => by
        rcases List.mem_append.1 hy with hy | hy
        · exact ha y hy
        · simp only [List.mem_cons, List.not_mem_nil, or_false] at hy
          subst hy; exact g.up (by omega)) h
      refine ⟨this.1, ?_⟩
      have := this.2
      simp only [List.length_append, List.length_cons, List.length_nil] at this
      omega
    · rw [if_neg hc] at h
      cases h
      exact ⟨ha, Nat.le_refl _⟩
/-- No list of a type is longer than so. -/
def FewT (N : Nat) (t : TypP) : Prop := t.rels.length ≤ N ∧ ∀ x ∈ t.rels, FewR N x
theorem few_types (N : Nat) : ∀ (n : Nat) (acc : List TypP) (l : List Tk) (o : List TypP) (r : List Tk), l.length ≤ n → l.length ≤ N → (∀ t ∈ acc, FewT N t) → typesT acc l = .ok (o, r) → (∀ t ∈ o, FewT N t) ∧ o.length + r.length ≤ acc.length + l.length := by
  intro n
  induction n with
  | zero =>
    intro acc l o r hn hN ha h
    rw [typesT_eq] at h
    by_cases hc : isT sType l = true
    · have := isT_len sType_size hc; omega
    · rw [if_neg hc] at h
      cases h
      exact ⟨ha, Nat.le_refl _⟩
  | succ n ih =>
    intro acc l o r hn hN ha h
    rw [typesT_eq] at h
    by_cases hc : isT sType l = true
    · rw [if_pos hc] at h
      have h1 := isT_len sType_size hc
      obtain ⟨_, _, e, h⟩ := andT_inv h
      have l1 := nameT_len e
      obtain ⟨_, _, e, h⟩ := andT_inv h
      have l2 := needT_len (sg_size _) e
      obtain ⟨rs, m, e, h⟩ := andT_inv h
      obtain ⟨g, l3⟩ := few_rels N _ _ _ _ _ (Nat.le_refl _) (by omega) (fun x hx => by cases hx) e
      simp only [List.length_nil] at l3
      obtain ⟨_, _, e, h⟩ := andT_inv h
      have l4 := needT_len (sg_size _) e
      have := ih _ _ _ _ (by omega) (by omega) (fun t ht => by
        rcases List.mem_append.1 ht with ht | ht
        · exact ha t ht
        · simp only [List.mem_cons, List.not_mem_nil, or_false] at ht
          subst ht; exact ⟨by dsimp only; omega, g⟩) h
      refine ⟨this.1, ?_⟩
      have := this.2
      simp only [List.length_append, List.length_cons, List.length_nil] at this
      omega
    · rw [if_neg hc] at h
      cases h
      exact ⟨ha, Nat.le_refl _⟩
/-- No list of a whole text is longer than so. -/
def Few (N : Nat) (T : List TypP) : Prop := T.length ≤ N ∧ ∀ t ∈ T, FewT N t
theorem parse_few {s : ByteArray} {N : Nat} (hl : (allS s).1.length ≤ N) : Few N (parseS s).1 := by
  unfold parseS
  split
  · rw [schemaF_eq]
    cases hT : typesT [] (allS s).1 with
    | error e => exact ⟨Nat.zero_le _, fun t ht => by cases ht⟩
    | ok q =>
      obtain ⟨g, l⟩ := few_types N _ _ _ _ _ (Nat.le_refl _) hl (fun t ht => by cases ht) (show typesT [] (allS s).1 = .ok (q.1, q.2) from hT)
      rw [andT_ok]
      simp only [List.length_nil] at l
      split
      · exact ⟨by show q.1.length ≤ N; omega, g⟩
      · exact ⟨Nat.zero_le _, fun t ht => by cases ht⟩
  · exact ⟨Nat.zero_le _, fun t ht => by cases ht⟩
end Go.Proofs.Ytdndncodpepdfaa
