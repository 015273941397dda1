/- Layer 13, plainly: what the statements ask of sets and changes. Conditions: none; nothing of the program is named here. -/
import Derived.Test.YtampggkjlpbbmaaMatP
namespace Go.Proofs.Ytampggkjlpbbmaa

/-- A set with a key, whether it has it or not. -/
def withS (s : List ByteArray) (k : ByteArray) : List ByteArray := if hasK s k then s else putS s k
/-- The set of keys. -/
def setS (l : List ByteArray) : List ByteArray := l.foldl withS []
theorem withS_rises {s : List ByteArray} {k : ByteArray} (h : Rises s) : Rises (withS s k) := by
  unfold withS
  split
  · exact h
  · rename_i q
    exact putS_rises h (hasK_not.1 (by simpa using q))
theorem withS_mem {s : List ByteArray} {k x : ByteArray} : x ∈ withS s k ↔ x = k ∨ x ∈ s := by
  unfold withS
  split
  · rename_i q
    exact ⟨.inr, fun h => h.elim (fun e => by rw [e]; exact hasK_iff.1 q) id⟩
  · exact putS_mem
theorem fold_rises : ∀ {l s : List ByteArray}, Rises s → Rises (l.foldl withS s)
  | [], _, h => h
  | _ :: l, _, h => fold_rises (l := l) (withS_rises h)
theorem fold_mem : ∀ {l s : List ByteArray} {x : ByteArray}, x ∈ l.foldl withS s ↔ x ∈ s ∨ x ∈ l
  | [], _, _ => by simp
  | a :: l, s, x => by
    rw [List.foldl_cons, fold_mem (l := l), withS_mem, List.mem_cons]
    constructor
    · rintro ((h | h) | h)
      · exact .inr (.inl h)
      · exact .inl h
      · exact .inr (.inr h)
    · rintro (h | h | h)
      · exact .inl (.inr h)
      · exact .inl (.inl h)
      · exact .inr h
theorem setS_rises (l : List ByteArray) : Rises (setS l) := fold_rises List.Pairwise.nil
theorem setS_mem {l : List ByteArray} {x : ByteArray} : x ∈ setS l ↔ x ∈ l := by
  unfold setS
  rw [fold_mem]
  simp
theorem setS_len (l : List ByteArray) : (setS l).length ≤ l.length := (setS_rises l).len fun _ hx => setS_mem.1 hx
theorem setS_eq {l : List ByteArray} {s : List ByteArray} (hs : Rises s) (h : ∀ k, k ∈ s ↔ k ∈ l) : s = setS l := rises_eq hs (setS_rises l) fun k => (h k).trans setS_mem.symm
theorem setS_same {l m : List ByteArray} (h : ∀ k, k ∈ l ↔ k ∈ m) : setS l = setS m := setS_eq (setS_rises l) fun k => setS_mem.trans (h k)
theorem setS_self {s : List ByteArray} (h : Rises s) : setS s = s := (setS_eq h fun _ => Iff.rfl).symm
theorem setS_take {l : List ByteArray} {i : Nat} {k : ByteArray} (h : l[i]? = some k) : setS (l.take (i + 1)) = withS (setS (l.take i)) k := by
  unfold setS
  rw [List.take_add_one, h, Option.toList_some, List.foldl_append]
  rfl

/-! differences -/
theorem difS_self {s : List ByteArray} (h : Rises s) : difS s s = [] := by
  refine List.eq_nil_iff_forall_not_mem.2 fun ⟨x, e⟩ hx => ?_
  obtain ⟨h1, h2⟩ := (difS_mem h h x e).1 hx
  rw [h1] at h2
  cases e <;> cases h2
theorem difS_count {s t : List ByteArray} (hs : Rises s) (ht : Rises t) : (difS s t).length = (s.filter fun k => !hasK t k).length + (t.filter fun k => !hasK s k).length := by
  rw [← List.length_append, ← List.length_map (f := Prod.fst)]
  refine List.Perm.length_eq ((List.perm_ext_iff_of_nodup (dif_fst hs ht).1.nodup ?_).2 fun x => ?_)
  · refine List.nodup_append.2 ⟨(hs.filter _).nodup, (ht.filter _).nodup, fun a ha b hb e => ?_⟩
    subst e
    have h1 := (List.mem_filter.1 ha).1
    have h2 := (List.mem_filter.1 hb).2
    rw [hasK_iff.2 h1] at h2
    cases h2
  · have := (dif_fst hs ht).2 x
    rw [← hasK_iff, this, List.mem_append, List.mem_filter, List.mem_filter, ← hasK_iff, ← hasK_iff]
    cases hasK s x <;> cases hasK t x <;> simp
theorem filter_snoc {p : ByteArray → Bool} {s : List ByteArray} {i : Nat} {k : ByteArray} (h : s[i]? = some k) : ((s.take (i + 1)).filter p).length = ((s.take i).filter p).length + (if p k then 1 else 0) := by
  rw [List.take_add_one, h, Option.toList_some, List.filter_append, List.length_append]
  cases q : p k <;> simp [q]
/-- Changes that all can be done, each of another key. -/
theorem chgS_all : ∀ {d : List (ByteArray × Bool)} {t : List ByteArray} {i : Nat}, Rises t → (d.map Prod.fst).Nodup → (∀ c ∈ d, hasK t c.1 = !c.2) →
    ∃ r, chgS t d i = (r, 0, 0) ∧ Rises r ∧ (∀ c ∈ d, hasK r c.1 = c.2) ∧ ∀ x, (∀ c ∈ d, c.1 ≠ x) → hasK r x = hasK t x
  | [], t, i, h, _, _ => ⟨t, rfl, h, fun c hc => (by cases hc), fun _ _ => rfl⟩
  | c :: d, t, i, h, hn, ha => by
    have h0 := ha c (List.mem_cons_self ..)
    obtain ⟨n1, n2⟩ := List.nodup_cons.1 (show (c.1 :: d.map Prod.fst).Nodup from hn)
    have hne : ∀ e ∈ d, e.1 ≠ c.1 := fun e he q => n1 (List.mem_map.2 ⟨e, he, q⟩)
    obtain ⟨r, h1, h2, h3, h4⟩ := chgS_all (i := i + 1) (oneS_rises h h0) n2 fun e he => by
      rw [oneS_has h0, if_neg (hne e he)]
      exact ha e (List.mem_cons_of_mem _ he)
    refine ⟨r, by rw [chgS_ok h0, h1], h2, fun e he => ?_, fun x hx => ?_⟩
    · rcases List.mem_cons.1 he with rfl | he
      · rw [h4 _ hne, oneS_has h0, if_pos rfl]
      · exact h3 e he
    · rw [h4 x fun e he => hx e (List.mem_cons_of_mem _ he), oneS_has h0, if_neg (hx c (List.mem_cons_self ..)).symm]
/-- A set with its differences to another one is that. -/
theorem app_dif {s t : List ByteArray} (hs : Rises s) (ht : Rises t) : appS s [] (difS s t) = (t, 0, 0) := by
  obtain ⟨r, h1, h2, h3, h4⟩ := chgS_all (d := difS s t) (i := 0) hs (dif_fst hs ht).1.nodup fun c hc => ((difS_mem hs ht c.1 c.2).1 hc).2
  have : r = t := rises_eq h2 ht fun x => by
    rw [← hasK_iff, ← hasK_iff, ← Bool.eq_iff_iff]
    by_cases q : ∃ c ∈ difS s t, c.1 = x
    · obtain ⟨c, hc, rfl⟩ := q
      rw [h3 c hc]
      exact ((difS_mem hs ht c.1 c.2).1 hc).1.symm
    · have q2 : ∀ c ∈ difS s t, c.1 ≠ x := fun c hc e => q ⟨c, hc, e⟩
      rw [h4 x q2]
      cases e1 : hasK s x <;> cases e2 : hasK t x
      · rfl
      · exact absurd rfl (q2 (x, true) ((difS_mem hs ht x true).2 ⟨e2, e1⟩))
      · exact absurd rfl (q2 (x, false) ((difS_mem hs ht x false).2 ⟨e2, e1⟩))
      · rfl
  show chgS s (difS s t) 0 = _
  rw [h1, this]

/-! done and undone -/
theorem chgS_cases : ∀ (ch : List (ByteArray × Bool)) (t : List ByteArray) (i : Nat), Rises t → (∃ r, chgS t ch i = (r, 0, 0) ∧ Rises r) ∨
    ∃ (j : Nat) (u : List ByteArray) (c : ByteArray × Bool), ch[j]? = some c ∧ chgS t ch i = ([], if c.2 then 32 else 41, i + j) ∧ chgS t (ch.take j) i = (u, 0, 0) ∧ hasK u c.1 = c.2 ∧ Rises u
  | [], t, i, h => .inl ⟨t, rfl, h⟩
  | c :: r, t, i, h => by
    by_cases q : hasK t c.1 = !c.2
    · rcases chgS_cases r (oneS t c) (i + 1) (oneS_rises h q) with ⟨x, h1, h2⟩ | ⟨j, u, e, h1, h2, h3, h4, h5⟩
      · exact .inl ⟨x, by rw [chgS_ok q, h1], h2⟩
      · exact .inr ⟨j + 1, u, e, by simpa using h1, by rw [chgS_ok q, h2, show i + 1 + j = i + (j + 1) by omega], by rw [List.take_succ_cons, chgS_ok q, h3], h4, h5⟩
    · have q2 : hasK t c.1 = c.2 := by cases e : c.2 <;> simp_all
      exact .inr ⟨0, t, c, rfl, by rw [chgS_bad q2]; rfl, rfl, q2, h⟩
theorem chgS_shift : ∀ (ch : List (ByteArray × Bool)) (t : List ByteArray) (i k : Nat), chgS t ch (i + k) = ((chgS t ch i).1, (chgS t ch i).2.1, if (chgS t ch i).2.1 = 0 then 0 else (chgS t ch i).2.2 + k)
  | [], t, i, k => rfl
  | c :: r, t, i, k => by
    by_cases q : hasK t c.1 = !c.2
    · rw [chgS_ok q, chgS_ok q, show i + k + 1 = i + 1 + k by omega, chgS_shift r]
    · have q2 : hasK t c.1 = c.2 := by cases e : c.2 <;> simp_all
      rw [chgS_bad q2, chgS_bad q2]
      cases c.2 <;> rfl
theorem chgS_two : ∀ {a b : List (ByteArray × Bool)} {t u : List ByteArray} {i : Nat}, chgS t a i = (u, 0, 0) → chgS t (a ++ b) i = chgS u b (i + a.length)
  | [], b, t, u, i, h => by cases h; rfl
  | c :: a, b, t, u, i, h => by
    by_cases q : hasK t c.1 = !c.2
    · rw [chgS_ok q] at h
      rw [List.cons_append, chgS_ok q, chgS_two h, List.length_cons, show i + 1 + a.length = i + (a.length + 1) by omega]
    · have q2 : hasK t c.1 = c.2 := by cases e : c.2 <;> simp_all
      rw [chgS_bad q2] at h
      cases e : c.2 <;> simp [e] at h
/-- Changes the other way round, from the last one on. -/
def backS (ch : List (ByteArray × Bool)) : List (ByteArray × Bool) := ch.reverse.map fun c => (c.1, !c.2)
theorem backS_len (ch : List (ByteArray × Bool)) : (backS ch).length = ch.length := by simp [backS]
theorem backS_cons (c : ByteArray × Bool) (r : List (ByteArray × Bool)) : backS (c :: r) = backS r ++ [(c.1, !c.2)] := by simp [backS]
theorem oneS_back {t : List ByteArray} {c : ByteArray × Bool} (h : Rises t) (k : hasK t c.1 = !c.2) : oneS (oneS t c) (c.1, !c.2) = t := by
  have k2 : hasK (oneS t c) (c.1, !c.2).1 = !(c.1, !c.2).2 := by rw [oneS_has k, if_pos rfl, Bool.not_not]
  refine rises_eq (oneS_rises (oneS_rises h k) k2) h fun x => ?_
  rw [← hasK_iff, ← hasK_iff, oneS_has k2]
  by_cases e : x = c.1
  · rw [if_pos e, e, k]
  · rw [if_neg e, oneS_has k, if_neg e]
theorem chg_back : ∀ {ch : List (ByteArray × Bool)} {s t : List ByteArray} {i : Nat}, Rises s → chgS s ch i = (t, 0, 0) → ∀ k, chgS t (backS ch) k = (s, 0, 0)
  | [], s, t, i, _, h, k => by cases h; rfl
  | c :: r, s, t, i, hs, h, k => by
    by_cases q : hasK s c.1 = !c.2
    · rw [chgS_ok q] at h
      have ih := chg_back (oneS_rises hs q) h k
      have k2 : hasK (oneS s c) (c.1, !c.2).1 = !(c.1, !c.2).2 := by rw [oneS_has q, if_pos rfl, Bool.not_not]
      rw [backS_cons, chgS_two ih, chgS_ok k2, oneS_back hs q]
      rfl
    · have q2 : hasK s c.1 = c.2 := by cases e : c.2 <;> simp_all
      rw [chgS_bad q2] at h
      cases e : c.2 <;> simp [e] at h
theorem backS_snoc {ch : List (ByteArray × Bool)} {p : Nat} {c : ByteArray × Bool} (h : ch[p]? = some c) : backS (ch.drop p) = backS (ch.drop (p + 1)) ++ [(c.1, !c.2)] := by
  obtain ⟨h1, h2⟩ := List.getElem?_eq_some_iff.1 h
  rw [List.drop_eq_getElem_cons h1, h2, backS_cons]

/-! what is asked -/
/-- The first place from p on at which what is asked isn't so, or -1. -/
def FirstBad (s : List ByteArray) (p : List (ByteArray × Bool)) (j : Nat) (z : Int) : Prop :=
  (z = -1 ∧ ∀ (i : Nat) x, j ≤ i → p[i]? = some x → hasK s x.1 = x.2) ∨ ∃ q : Nat, z = q ∧ (∃ x, p[q]? = some x ∧ hasK s x.1 ≠ x.2) ∧ ∀ (i : Nat) x, j ≤ i → i < q → p[i]? = some x → hasK s x.1 = x.2
theorem FirstBad.start (s : List ByteArray) (p : List (ByteArray × Bool)) : FirstBad s p p.length (-1) := .inl ⟨rfl, fun i x hi hx => by
  have := (List.getElem?_eq_some_iff.1 hx).1
  omega⟩
theorem FirstBad.bad {s : List ByteArray} {p : List (ByteArray × Bool)} {j : Nat} {x : ByteArray × Bool} (hx : p[j]? = some x) (h : hasK s x.1 ≠ x.2) : FirstBad s p j j := .inr ⟨j, rfl, ⟨x, hx, h⟩, fun i y hi hj => by omega⟩
theorem FirstBad.good {s : List ByteArray} {p : List (ByteArray × Bool)} {j : Nat} {z : Int} {x : ByteArray × Bool} (h : FirstBad s p (j + 1) z) (hx : p[j]? = some x) (hg : hasK s x.1 = x.2) : FirstBad s p j z := by
  rcases h with ⟨h1, h2⟩ | ⟨q, h1, h2, h3⟩
  · refine .inl ⟨h1, fun i y hi hy => ?_⟩
    by_cases e : i = j
    · subst e; rw [hx] at hy; cases hy; exact hg
    · exact h2 i y (by omega) hy
  · refine .inr ⟨q, h1, h2, fun i y hi hq hy => ?_⟩
    by_cases e : i = j
    · subst e; rw [hx] at hy; cases hy; exact hg
    · exact h3 i y (by omega) hq hy
theorem FirstBad.none_ {s : List ByteArray} {p : List (ByteArray × Bool)} {z : Int} (h : FirstBad s p 0 z) (hz : z < 0) : preS s p = none := by
  rcases h with ⟨_, h2⟩ | ⟨q, h1, _⟩
  · refine preS_none fun x hx => ?_
    obtain ⟨i, hi, e⟩ := List.getElem_of_mem hx
    exact h2 i x (Nat.zero_le _) (by rw [List.getElem?_eq_getElem hi, e])
  · omega
theorem FirstBad.some_ {s : List ByteArray} {p : List (ByteArray × Bool)} {z : Int} (h : FirstBad s p 0 z) (hz : 0 ≤ z) : ∃ q : Nat, z = q ∧ preS s p = some q := by
  rcases h with ⟨h1, _⟩ | ⟨q, h1, ⟨x, hx, hb⟩, h3⟩
  · omega
  · exact ⟨q, h1, preS_some (fun i y hi hy => h3 i y (Nat.zero_le _) hi hy) hx hb⟩
end Go.Proofs.Ytampggkjlpbbmaa
