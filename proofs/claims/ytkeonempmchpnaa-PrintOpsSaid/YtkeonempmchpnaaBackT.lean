/- Layer 8: tokens, whatever their places, that a whole schema is shown as: what they say. Conditions: none; nothing of the program is named here. -/
import Derived.Test.YtkeonempmchpnaaBackF
import Derived.Test.YtkeonempmchpnaaShown
namespace Go.Proofs.Ytkeonempmchpnaa

/-- The tokens that a relation is shown as, behind its key. -/
def relK (x : RelP) (t : Ex) : List KT :=
  [(1, x.name), (2, sg 40), (1, x.view), (2, sg 44), (1, x.edit), (2, sg 44), (1, x.check), (2, sg 41), (2, sg 58)] ++ (whoK x.subs ++ ((if aloneB x.ops = true then [] else (1, sIs) :: tkX t) ++ [(2, sg 59)]))
theorem alone_this {t : Ex} (h : aloneB t.ops = true) : t.ops = [(1, ⟨#[]⟩, ⟨#[]⟩)] := by
  cases t with
  | this => rfl
  | same n => cases h
  | via n m => cases h
  | bin k a b =>
    have hl : 1 < (Ex.bin k a b).ops.length := by
      show 1 < (a.ops ++ b.ops ++ [_]).length
      rw [List.length_append, List.length_append, List.length_singleton]
      have hp : ∀ t : Ex, 1 ≤ t.ops.length := fun t => by
        cases t with
        | bin k a b => show 1 ≤ (a.ops ++ b.ops ++ [_]).length; rw [List.length_append, List.length_singleton]; omega
        | _ => exact Nat.le_refl _
      have := hp a
      have := hp b
      omega
    generalize (Ex.bin k a b).ops = l at *
    rcases l with _ | ⟨x, _ | ⟨y, r⟩⟩
    · cases h
    · exact absurd hl (by simp)
    · cases h
theorem kIs : keyB sIs = true := by decide +kernel
theorem back_rel {x : RelP} (g : RelG x) {t : Ex} (ht : x.ops = t.ops) (hg : t.good) (hn : t.nm) (hd : t.deep ≤ 8) {ts l : List Tk} (h : Km ts (relK x t)) : relT (ts ++ l) = .ok (x, l) := by
  obtain ⟨t1, t2, rfl, h1, h2⟩ := km_app h
  obtain ⟨p1, r1, rfl, h11⟩ := km_cons h1
  obtain ⟨p2, r2, rfl, h12⟩ := km_cons h11
  obtain ⟨p3, r3, rfl, h13⟩ := km_cons h12
  obtain ⟨p4, r4, rfl, h14⟩ := km_cons h13
  obtain ⟨p5, r5, rfl, h15⟩ := km_cons h14
  obtain ⟨p6, r6, rfl, h16⟩ := km_cons h15
  obtain ⟨p7, r7, rfl, h17⟩ := km_cons h16
  obtain ⟨p8, r8, rfl, h18⟩ := km_cons h17
  obtain ⟨p9, r9, rfl, h19⟩ := km_cons h18
  have h10 := km_nil h19
  subst h10
  obtain ⟨t3, t4, rfl, h3, h4⟩ := km_app h2
  obtain ⟨t5, t6, rfl, h5, h6⟩ := km_app h4
  obtain ⟨q, r10, rfl, h7⟩ := km_cons h6
  have h8 := km_nil h7
  subst h8
  unfold relT
  show andT (nameT ((1, x.name, p1) :: (2, sg 40, p2) :: (1, x.view, p3) :: (2, sg 44, p4) :: (1, x.edit, p5) :: (2, sg 44, p6) :: (1, x.check, p7) :: (2, sg 41, p8) :: (2, sg 58, p9) :: (t3 ++ (t5 ++ [(2, sg 59, q)]) ++ l))) _ = _
  rw [nameW g.name.2, andT_ok, needW (.inl rfl), andT_ok, nameW g.view.2, andT_ok, needW (.inl rfl), andT_ok, nameW g.edit.2, andT_ok, needW (.inl rfl), andT_ok, nameW g.check.2, andT_ok, needW (.inl rfl), andT_ok, needW (.inl rfl), andT_ok]
  rw [List.append_assoc, List.append_assoc, List.singleton_append]
  -- who
  have hhead : ∀ z, aloneB x.ops = z → ∃ y, t5 ++ (2, sg 59, q) :: l = y ∧ (isT sIs y = true ∨ isT (sg 59) y = true) ∧ isT (sg 35) y = false ∧ isT (sg 44) y = false := by
    intro z hz
    refine ⟨_, rfl, ?_⟩
    rw [hz] at h5
    cases z with
    | true =>
      have h9 := km_nil (show Km t5 [] from h5)
      subst h9
      exact ⟨.inr (isT_same (.inl rfl)), key_no (by decide +kernel), key_no (by decide +kernel)⟩
    | false =>
      obtain ⟨p, r, rfl, _⟩ := km_cons (show Km t5 ((1, sIs) :: tkX t) from h5)
      exact ⟨.inl (isT_same (.inr kIs)), key_no (by decide +kernel), key_no (by decide +kernel)⟩
  obtain ⟨y, hy, hy1, hy2, hy3⟩ := hhead _ rfl
  rw [hy]
  have hwho : (if isT sIs (t3 ++ y) = true ∨ isT (sg 59) (t3 ++ y) = true then (.ok ([], t3 ++ y) : Rs (List SubP)) else whoT [] (t3 ++ y)) = .ok (x.subs, y) := by
    have hsub := g.subs
    revert h3 hsub
    cases x.subs with
    | nil =>
      intro h3 _
      have h9 := km_nil (show Km t3 [] from h3)
      subst h9
      rw [List.nil_append, if_pos hy1]
    | cons s r =>
      intro h3 hsub
      have hs := hsub s List.mem_cons_self
      have hne : ¬ (isT sIs (t3 ++ y) = true ∨ isT (sg 59) (t3 ++ y) = true) := by
        have h3' : Km t3 (subK s ++ tailK r) := h3
        have : ∃ p r2, t3 = (1, s.1, p) :: r2 := by
          unfold subK at h3'
          split at h3'
          · obtain ⟨p, r2, e, _⟩ := km_cons h3'
            exact ⟨p, r2, e⟩
          · obtain ⟨p, r2, e, _⟩ := km_cons h3'
            exact ⟨p, r2, e⟩
        obtain ⟨p, r2, rfl⟩ := this
        rw [List.cons_append, word_no hs.1.2, word_no hs.1.2]
        simp
      rw [if_neg hne]
      exact back_who r s [] y t3 hs (fun z hz => hsub z (List.mem_cons_of_mem _ hz)) h3 hy2 hy3
  rw [hwho, andT_ok, ← hy]
  -- the rewrite
  cases hal : aloneB x.ops with
  | true =>
    rw [hal] at h5
    have h9 := km_nil (show Km t5 [] from h5)
    subst h9
    rw [List.nil_append, if_neg (by rw [key_no (by decide +kernel)]; decide), andT_ok, needW (.inl rfl), andT_ok]
    rw [ht] at hal
    have := alone_this hal
    rw [← ht] at this
    rw [← this]
  | false =>
    rw [hal] at h5
    obtain ⟨p, r, rfl, h9⟩ := km_cons (show Km t5 ((1, sIs) :: tkX t) from h5)
    rw [List.cons_append, if_pos (isT_same (.inr kIs))]
    show andT (rewT 0 (r ++ (2, sg 59, q) :: l)) _ = _
    rw [(back_tree t hg hn).1 0 _ r (by omega) h9 (key_no (by decide +kernel)), moreT_eq, show opT ((2, sg 59, q) :: l) = 0 by unfold opT; rw [isT_hd, isT_hd, isT_hd]; decide +kernel, if_pos rfl, andT_ok, needW (.inl rfl), andT_ok, ← ht]
/-- A relation, its tree, and its tokens. -/
def RelKs (x : RelP) (ks : List KT) : Prop := RelG x ∧ ∃ t : Ex, x.ops = t.ops ∧ t.good ∧ t.nm ∧ t.deep ≤ 8 ∧ ks = (1, sRel) :: relK x t
def RelsKs : List RelP → List KT → Prop
  | [], ks => ks = []
  | x :: r, ks => ∃ a b, ks = a ++ b ∧ RelKs x a ∧ RelsKs r b
theorem back_rels : ∀ (r : List RelP) (acc : List RelP) (ks : List KT) (ts l : List Tk), RelsKs r ks → Km ts ks → isT sRel l = false → relsT acc (ts ++ l) = .ok (acc ++ r, l)
  | [], acc, ks, ts, l, hr, h, hl => by
    have : ks = [] := hr
    subst this
    rw [km_nil h, List.nil_append, relsT_eq, if_neg (by rw [hl]; decide), List.append_nil]
  | x :: r, acc, ks, ts, l, hr, h, hl => by
    obtain ⟨a, b, rfl, ⟨hg, t, ht, h1, h2, h3, rfl⟩, hb⟩ := hr
    obtain ⟨t1, t2, rfl, ha, hb2⟩ := km_app h
    obtain ⟨p, t3, rfl, h4⟩ := km_cons ha
    have key := back_rels r (acc ++ [x]) b t2 l hb hb2 hl
    rw [List.append_assoc, List.singleton_append] at key
    rw [relsT_eq, List.append_assoc, List.cons_append, if_pos (isT_same (.inr (by decide +kernel)))]
    show andT (relT (t3 ++ (t2 ++ l))) _ = _
    rw [back_rel hg ht h1 h2 h3 h4, andT_ok]
    exact key
def TypKs (t : TypP) (ks : List KT) : Prop := NmW t.name ∧ ∃ b, RelsKs t.rels b ∧ ks = (1, sType) :: (1, t.name) :: (2, sg 123) :: (b ++ [(2, sg 125)])
def TypsKs : List TypP → List KT → Prop
  | [], ks => ks = []
  | x :: r, ks => ∃ a b, ks = a ++ b ∧ TypKs x a ∧ TypsKs r b
theorem back_types : ∀ (r : List TypP) (acc : List TypP) (ks : List KT) (ts l : List Tk), TypsKs r ks → Km ts ks → isT sType l = false → typesT acc (ts ++ l) = .ok (acc ++ r, l)
  | [], acc, ks, ts, l, hr, h, hl => by
    have : ks = [] := hr
    subst this
    rw [km_nil h, List.nil_append, typesT_eq, if_neg (by rw [hl]; decide), List.append_nil]
  | x :: r, acc, ks, ts, l, hr, h, hl => by
    obtain ⟨a, b, rfl, ⟨hn, c, hc, rfl⟩, hb⟩ := hr
    obtain ⟨t1, t2, rfl, ha, hb2⟩ := km_app h
    obtain ⟨p, t3, rfl, h4⟩ := km_cons ha
    obtain ⟨p2, t5, rfl, h5⟩ := km_cons h4
    obtain ⟨p3, t6, rfl, h6⟩ := km_cons h5
    obtain ⟨t7, t8, rfl, h7, h8⟩ := km_app h6
    obtain ⟨p9, t9, rfl, h9⟩ := km_cons h8
    have h10 := km_nil h9
    subst h10
    have key := back_types r (acc ++ [x]) b t2 l hb hb2 hl
    rw [List.append_assoc, List.singleton_append] at key
    rw [typesT_eq]
    show (if isT sType ((1, sType, p) :: (1, x.name, p2) :: (2, sg 123, p3) :: (t7 ++ [(2, sg 125, p9)] ++ t2 ++ l)) = true then andT (nameT ((1, x.name, p2) :: (2, sg 123, p3) :: (t7 ++ [(2, sg 125, p9)] ++ t2 ++ l))) _ else _) = _
    rw [if_pos (isT_same (.inr (by decide +kernel))), nameW hn.2, andT_ok, needW (.inl rfl), andT_ok, List.append_assoc, List.append_assoc, List.singleton_append]
    rw [back_rels x.rels [] c t7 _ hc h7 (key_no (by decide +kernel)), andT_ok, needW (.inl rfl), andT_ok]
    exact key
theorem back_schema {T : List TypP} {ks : List KT} {ts : List Tk} {q : Nat} (hT : TypsKs T ks) (h : Km ts ks) : outS (schemaF (ts ++ [(3, ⟨#[]⟩, q)])) = (T, 0, 0) := by
  rw [schemaF_eq, back_types T [] ks ts _ hT h (key_no (by decide +kernel)), andT_ok]
  rfl
end Go.Proofs.Ytkeonempmchpnaa
