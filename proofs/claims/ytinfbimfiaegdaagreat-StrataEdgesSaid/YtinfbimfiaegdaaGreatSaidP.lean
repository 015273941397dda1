/- Layer 10: what a text says is small, its rewrites are trees, and without a minus they have no Not. Conditions: none; nothing of the program is named here but for its model's words. -/
import Derived.Test.YtinfbimfiaegdaaGreatEdgeR
import Derived.Test.YtinfbimfiaegdaaGreatSchW
import Derived.Test.YtinfbimfiaegdaaGreatWordsF
namespace Go.Proofs.YtinfbimfiaegdaaGreat

theorem few10 (s : ByteArray) : Few 2049 (parseS s).1 := by
  by_cases h0 : (allS s).2.1 = 0
  · have hz := all_long h0
    obtain ⟨v, e0, eA⟩ := all_zero hz h0
    refine parse_few ?_
    rw [eA]
    have := scan_few _ s 0 (Nat.le_refl _)
    omega
  · unfold parseS
    rw [if_neg h0]
    exact ⟨Nat.zero_le _, fun t ht => by cases ht⟩
theorem NmW.size10 {n : ByteArray} (h : NmW n) : n.size ≤ 140737488351232 := Nat.le_trans (name_size h.1) (by decide)
theorem ops_small : ∀ t : Ex, t.good → t.nm → ∀ o ∈ t.ops, (Lit.int .i64 (o.1 : Nat)).wf = true ∧ o.2.1.size ≤ 140737488351232 ∧ o.2.2.size ≤ 140737488351232
  | .this, _, _ => fun o ho => by rw [List.mem_singleton.1 ho]; exact ⟨by decide, Nat.zero_le _, Nat.zero_le _⟩
  | .same n, _, h => fun o ho => by
    have h2 : NmW n := h
    rw [List.mem_singleton.1 ho]; exact ⟨by rfl, h2.size10, Nat.zero_le _⟩
  | .via n m, _, h => fun o ho => by
    have h2 : NmW n ∧ NmW m := h
    rw [List.mem_singleton.1 ho]; exact ⟨by rfl, h2.1.size10, h2.2.size10⟩
  | .bin k a b, g, h => fun o ho => by
    rcases List.mem_append.1 ho with ho | ho
    · rcases List.mem_append.1 ho with ho | ho
      · exact ops_small a g.2.1 h.1 o ho
      · exact ops_small b g.2.2 h.2 o ho
    · rw [List.mem_singleton.1 ho]
      refine ⟨?_, Nat.zero_le _, Nat.zero_le _⟩
      rcases g.1 with rfl | rfl | rfl <;> rfl
/-- What a text says is small enough for every reading. -/
theorem said_small (s : ByteArray) : ∀ t ∈ (parseS s).1, t.name.size ≤ 140737488351232 ∧ t.rels.length * 112 ≤ 140737488351232 ∧ ∀ x ∈ t.rels, SmI 140737488351232 x := fun t ht => by
  have g := parse_goodT s t ht
  have f := (few10 s).2 t ht
  refine ⟨g.name.size10, by have := f.1; omega, fun x hx => ?_⟩
  have gx := g.rels x hx
  have fx := f.2 x hx
  obtain ⟨e, he, h1, h2, _⟩ := gx.ops
  exact ⟨gx.name.size10, gx.view.size10, gx.edit.size10, gx.check.size10, by have := fx.1; omega, fun q hq => ⟨(gx.subs q hq).1.size10, by
    rcases (gx.subs q hq).2 with e | e
    · rw [e]; exact Nat.zero_le _
    · exact e.size10⟩, by have := fx.2; omega, fun o ho => ops_small e h1 h2 o (he ▸ ho)⟩
theorem said_few (s : ByteArray) : (parseS s).1.length * 40 ≤ 140737488351232 := by have := (few10 s).1; omega
/-- Each rewrite is a tree. -/
theorem said_tree {s : ByteArray} {t : TypI} (ht : t ∈ (parseS s).1.map typI) {r : RelI} (hr : r ∈ t.rels) : ∃ e : Ex, r.ops = e.ops.map opZ ∧ e.good ∧ r.ops.length ≤ 2049 ∧ r.subs.length ≤ 2049 := by
  obtain ⟨t0, h0, rfl⟩ := List.mem_map.1 ht
  obtain ⟨r0, h1, rfl⟩ := List.mem_map.1 hr
  obtain ⟨e, he, h2, _⟩ := ((parse_goodT s t0 h0).rels r0 h1).ops
  have f := ((few10 s).2 t0 h0).2 r0 h1
  exact ⟨e, by show r0.ops.map opI = _; rw [he]; rfl, h2, by show (r0.ops.map opI).length ≤ _; rw [List.length_map]; exact f.2, f.1⟩

/-! without a minus -/
def NoM (l : List Tk) : Prop := ∀ t ∈ l, t.2.1 ≠ sg 45
theorem NoM.tail {l : List Tk} (h : NoM l) : NoM l.tail := fun t ht => h t (List.mem_of_mem_tail ht)
theorem NoM.name {l r : List Tk} {n : ByteArray} (h : NoM l) (e : nameT l = .ok (n, r)) : NoM r := by
  unfold nameT at e
  split at e
  · cases e; exact h.tail
  · cases e
theorem NoM.need {l r : List Tk} {s : ByteArray} {u : Unit} (h : NoM l) (e : needT s l = .ok (u, r)) : NoM r := by
  unfold needT at e
  split at e
  · cases e; exact h.tail
  · cases e
theorem NoM.op {l : List Tk} (h : NoM l) : opT l ≠ 6 := by
  unfold opT
  split
  · decide
  · split
    · decide
    · split
      · rename_i hc
        unfold isT at hc
        have := (of_decide_eq_true hc).1
        cases l with
        | nil => exact absurd this (by decide)
        | cons a t => exact absurd this (h a List.mem_cons_self)
      · decide
def NoK (o : List OpP) : Prop := ∀ x ∈ o, x.1 ≠ 6
theorem nok_parts : ∀ f : Nat, (∀ d l o r, NoM l → partF f d l = .ok (o, r) → NoK o ∧ NoM r) ∧ (∀ d acc l o r, NoM l → NoK acc → moreF f d acc l = .ok (o, r) → NoK o ∧ NoM r)
  | 0 => ⟨fun d l o r _ h => (by unfold partF at h; cases h), fun d acc l o r _ _ h => (by unfold moreF at h; cases h)⟩
  | f + 1 => by
    obtain ⟨ih1, ih2⟩ := nok_parts f
    have one : ∀ (k : Nat) (a b : ByteArray), k ≠ 6 → NoK [(k, a, b)] := fun k a b hk x hx => by rw [List.mem_singleton.1 hx]; exact hk
    constructor
    · intro d l o r hw h
      unfold partF at h
      split at h
      · cases h
        exact ⟨one _ _ _ (by decide), hw.tail⟩
      · split at h
        · split at h
          · cases h
          · obtain ⟨a, m, e1, h⟩ := andT_inv h
            obtain ⟨g1, w1⟩ := ih1 _ _ _ _ hw.tail e1
            obtain ⟨a2, m2, e2, h⟩ := andT_inv h
            obtain ⟨g2, w2⟩ := ih2 _ _ _ _ _ w1 g1 e2
            obtain ⟨a3, m3, e3, h⟩ := andT_inv h
            have w3 := w2.need e3
            cases h
            exact ⟨g2, w3⟩
        · obtain ⟨a, m, e1, h⟩ := andT_inv h
          have w1 := hw.name e1
          split at h
          · obtain ⟨a2, m2, e2, h⟩ := andT_inv h
            have w2 := w1.tail.name e2
            cases h
            exact ⟨one _ _ _ (by decide), w2⟩
          · cases h
            exact ⟨one _ _ _ (by decide), w1⟩
    · intro d acc l o r hw ha h
      unfold moreF at h
      split at h
      · cases h
        exact ⟨ha, hw⟩
      · obtain ⟨a, m, e1, h⟩ := andT_inv h
        obtain ⟨g1, w1⟩ := ih1 _ _ _ _ hw.tail e1
        refine ih2 _ _ _ _ _ w1 (fun x hx => ?_) h
        rcases List.mem_append.1 hx with hx | hx
        · rcases List.mem_append.1 hx with hx | hx
          · exact ha x hx
          · exact g1 x hx
        · rw [List.mem_singleton.1 hx]; exact hw.op
theorem nom_who : ∀ (f : Nat) (acc : List SubP) (l : List Tk) (o : List SubP) (r : List Tk), NoM l → whoF f acc l = .ok (o, r) → NoM r
  | 0, acc, l, o, r, _, h => by unfold whoF at h; cases h
  | f + 1, acc, l, o, r, hw, h => by
    unfold whoF at h
    obtain ⟨a, m, e1, h⟩ := andT_inv h
    have w1 := hw.name e1
    obtain ⟨a2, m2, e2, h⟩ := andT_inv h
    have h2 : NoM m2 := by
      split at e2
      · exact w1.tail.name e2
      · cases e2
        exact w1
    by_cases hc : isT (sg 44) m2 = true
    · rw [if_pos hc] at h
      exact nom_who f _ _ _ _ h2.tail h
    · rw [if_neg hc] at h
      cases h
      exact h2
theorem nok_rel {l r : List Tk} {x : RelP} (hw : NoM l) (h : relT l = .ok (x, r)) : NoK x.ops ∧ NoM r := by
  unfold relT at h
  obtain ⟨_, _, e, h⟩ := andT_inv h
  replace hw := hw.name e
  obtain ⟨_, _, e, h⟩ := andT_inv h
  replace hw := hw.need e
  obtain ⟨_, _, e, h⟩ := andT_inv h
  replace hw := hw.name e
  obtain ⟨_, _, e, h⟩ := andT_inv h
  replace hw := hw.need e
  obtain ⟨_, _, e, h⟩ := andT_inv h
  replace hw := hw.name e
  obtain ⟨_, _, e, h⟩ := andT_inv h
  replace hw := hw.need e
  obtain ⟨_, _, e, h⟩ := andT_inv h
  replace hw := hw.name e
  obtain ⟨_, _, e, h⟩ := andT_inv h
  replace hw := hw.need e
  obtain ⟨_, _, e, h⟩ := andT_inv h
  replace hw := hw.need e
  obtain ⟨subs, m, e, h⟩ := andT_inv h
  have hs : NoM m := by
    split at e
    · cases e
      exact hw
    · exact nom_who _ _ _ _ _ hw e
  obtain ⟨ops, m2, e, h⟩ := andT_inv h
  have ho : NoK ops ∧ NoM m2 := by
    split at e
    · unfold rewT at e
      obtain ⟨a, _, e1, e⟩ := andT_inv e
      obtain ⟨g1, w1⟩ := (nok_parts _).1 _ _ _ _ hs.tail e1
      exact (nok_parts _).2 _ _ _ _ _ w1 g1 e
    · cases e
      exact ⟨fun x hx => by rw [List.mem_singleton.1 hx]; decide, hs⟩
  obtain ⟨_, _, e, h⟩ := andT_inv h
  replace hw := ho.2.need e
  cases h
  exact ⟨ho.1, hw⟩
theorem nok_rels : ∀ (n : Nat) (acc : List RelP) (l : List Tk) (o : List RelP) (r : List Tk), l.length ≤ n → NoM l → (∀ x ∈ acc, NoK x.ops) → relsT acc l = .ok (o, r) → (∀ x ∈ o, NoK x.ops) ∧ NoM r := by
  intro n
  induction n with
  | zero =>
    intro acc l o r hn hw ha h
    rw [relsT_eq] at h
    by_cases hc : isT sRel l = true
    · have := isT_len sRel_size hc; omega
    · rw [if_neg hc] at h
      cases h
      exact ⟨ha, hw⟩
  | succ n ih =>
    intro acc l o r hn hw ha h
    rw [relsT_eq] at h
    by_cases hc : isT sRel l = true
    · rw [if_pos hc] at h
      have h1 := isT_len sRel_size hc
      obtain ⟨x, m, e, h⟩ := andT_inv h
      obtain ⟨g, w⟩ := nok_rel hw.tail e
      have hl := (few_rel e).2
      exact ih _ _ _ _ (by omega) w (fun y hy => by
        rcases List.mem_append.1 hy with hy | hy
        · exact ha y hy
        · rw [List.mem_singleton.1 hy]; exact g) h
    · rw [if_neg hc] at h
      cases h
      exact ⟨ha, hw⟩
theorem nok_types : ∀ (n : Nat) (acc : List TypP) (l : List Tk) (o : List TypP) (r : List Tk), l.length ≤ n → NoM l → (∀ t ∈ acc, ∀ x ∈ t.rels, NoK x.ops) → typesT acc l = .ok (o, r) → (∀ t ∈ o, ∀ x ∈ t.rels, NoK x.ops) := by
  intro n
  induction n with
  | zero =>
    intro acc l o r hn hw ha h
    rw [typesT_eq] at h
    by_cases hc : isT sType l = true
    · have := isT_len sType_size hc; omega
    · rw [if_neg hc] at h
      cases h
      exact ha
  | succ n ih =>
    intro acc l o r hn hw ha h
    rw [typesT_eq] at h
    by_cases hc : isT sType l = true
    · rw [if_pos hc] at h
      have h1 := isT_len sType_size hc
      obtain ⟨_, _, e, h⟩ := andT_inv h
      have l1 := nameT_len e
      replace hw := hw.tail.name e
      obtain ⟨_, _, e, h⟩ := andT_inv h
      have l2 := needT_len (sg_size _) e
      replace hw := hw.need e
      obtain ⟨rs, m, e, h⟩ := andT_inv h
      obtain ⟨g, hw⟩ := nok_rels _ _ _ _ _ (Nat.le_refl _) hw (fun x hx => by cases hx) e
      have l3 := (few_rels _ _ _ _ _ _ (Nat.le_refl _) (Nat.le_refl _) (fun x hx => by cases hx) e).2
      simp only [List.length_nil] at l3
      obtain ⟨_, _, e, h⟩ := andT_inv h
      have l4 := needT_len (sg_size _) e
      replace hw := hw.need e
      exact ih _ _ _ _ (by omega) hw (fun t ht => by
        rcases List.mem_append.1 ht with ht | ht
        · exact ha t ht
        · rw [List.mem_singleton.1 ht]; exact g) h
    · rw [if_neg hc] at h
      cases h
      exact ha
theorem bt_cutA0 {s : ByteArray} {k : Nat} (hk : 0 < plc s k) : bt (cutA s k) 0 = bt s 0 := cutA_bt s k 0 (by rw [cutA_size]; exact hk)
theorem scan_nom (n : Nat) : ∀ (u : ByteArray) (off : Nat), u.size ≤ n → (∀ j, j < u.size → bt u j ≠ 45) → NoM (scan u off).1 := by
  have hnil : sg 45 ≠ ⟨#[]⟩ := by decide
  induction n with
  | zero =>
    intro u off hn _
    rw [scan_nil (by omega)]
    intro t ht
    rw [List.mem_singleton.1 ht]
    exact fun e => hnil e.symm
  | succ n ih =>
    intro u off hn hb
    rcases Nat.eq_zero_or_pos u.size with h | h
    · rw [scan_nil h]
      intro t ht
      rw [List.mem_singleton.1 ht]
      exact fun e => hnil e.symm
    · by_cases hk : 3 ≤ kd u
      · rw [scan_err h hk]
        intro t ht
        cases ht
      · have hk : kd u < 3 := by omega
        have hlt := cutB_lt h hk
        have hB := ih (cutB u (ln u)) (off + plc u (ln u)) (by omega) (fun j hj => by
          have hz := cutB_size u (ln u)
          rw [bt_cutB (by omega)]
          exact hb _ (by omega))
        rw [scan_go h hk]
        intro t ht
        rcases List.mem_append.1 ht with ht | ht
        · split at ht
          · cases ht
          · rw [List.mem_singleton.1 ht]
            intro e
            have e : cutA u (ln u) = sg 45 := e
            have hsz : 0 < plc u (ln u) := by
              rcases Nat.eq_zero_or_pos (plc u (ln u)) with q | q
              · unfold cutA at e
                rw [q] at e
                have := congrArg ByteArray.size e
                rw [size_ext] at this
                have h1 : (sg 45).size = 1 := rfl
                omega
              · exact q
            have h0 : bt (cutA u (ln u)) 0 = bt (sg 45) 0 := by rw [e]
            have h1 : bt (sg 45) 0 = 45 := by decide
            rw [h1, bt_cutA0 hsz] at h0
            exact hb 0 h h0
        · exact hB t ht
/-- Without a minus there is no Not. -/
theorem said_noNot {s : ByteArray} (hs : ∀ j, j < s.size → bt s j ≠ 45) : ∀ t ∈ (parseS s).1, ∀ x ∈ t.rels, NoK x.ops := by
  unfold parseS
  split
  · rename_i h0
    have hw : NoM (allS s).1 := by
      obtain ⟨v, e0, eA⟩ := all_zero (all_long h0) h0
      rw [eA]
      exact scan_nom _ s 0 (Nat.le_refl _) hs
    rw [schemaF_eq]
    cases hT : typesT [] (allS s).1 with
    | error e => exact fun t ht => by cases ht
    | ok q =>
      have g := nok_types _ _ _ _ _ (Nat.le_refl _) hw (fun t ht => by cases ht) (show typesT [] (allS s).1 = .ok (q.1, q.2) from hT)
      rw [andT_ok]
      split
      · exact g
      · exact fun t ht => by cases ht
  · exact fun t ht => by cases ht
theorem cnt_noNot {t : Ex} (h : NoK t.ops) (p : Nat) : t.cnt p = 0 := by
  rcases Nat.eq_zero_or_pos (t.cnt p) with q | q
  · exact q
  · obtain ⟨i, _, hi, hk, _⟩ := (t.cnt_has p).1 q
    unfold Ex.kd at hk
    unfold Ex.len at hi
    rw [List.getD_eq_getElem?_getD, List.getElem?_eq_getElem hi] at hk
    exact absurd hk (h _ (List.getElem_mem hi))
/-- So no edge has one. -/
theorem edges_noNot {s : ByteArray} (hs : ∀ j, j < s.size → bt s j ≠ 45) {e : Ed} (he : e ∈ edgesP ((parseS s).1.map typI)) : e.2.2 = false := by
  unfold edgesP relE opsE at he
  simp only [List.mem_flatMap, List.mem_map] at he
  obtain ⟨⟨⟨t, r⟩, n⟩, hx, ⟨o, i⟩, ho, to_, _, rfl⟩ := he
  have hm : (t, r) ∈ relsOf ((parseS s).1.map typI) := by
    have := List.mem_zipIdx' hx
    exact this.2 ▸ List.getElem_mem _
  unfold relsOf at hm
  simp only [List.mem_flatMap, List.mem_map] at hm
  obtain ⟨_, ⟨t0, h0, rfl⟩, r1, h1, e2⟩ := hm
  cases e2
  obtain ⟨r0, h2, rfl⟩ := List.mem_map.1 h1
  obtain ⟨e, he, h3, _⟩ := ((parse_goodT s t0 h0).rels r0 h2).ops
  have hk := said_noNot hs t0 h0 r0 h2
  rw [he] at hk
  have hi : i < e.len := by
    have h4 : i < (relI r0).ops.length := (List.mem_zipIdx' ho).1
    have : (relI r0).ops.length = e.ops.length := by show (r0.ops.map opI).length = _; rw [List.length_map, he]
    unfold Ex.len
    omega
  show behindP (relI r0).ops i = false
  rw [show (relI r0).ops = e.ops.map opZ by show r0.ops.map opI = _; rw [he]; rfl, behind_tree h3 hi, cnt_noNot hk]
  rfl
end Go.Proofs.YtinfbimfiaegdaaGreat
