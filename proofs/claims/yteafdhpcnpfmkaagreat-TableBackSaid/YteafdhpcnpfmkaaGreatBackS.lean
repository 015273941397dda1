/- Layer 8: tokens, whatever their places, that a schema is shown as: what they say. Conditions: none; nothing of the program is named here. -/
import Derived.Test.YteafdhpcnpfmkaaGreatGoodF
import Derived.Test.YteafdhpcnpfmkaaGreatShowW
import Derived.Test.YteafdhpcnpfmkaaGreatDeepF
namespace Go.Proofs.YteafdhpcnpfmkaaGreat

abbrev KT := Nat × ByteArray
def Km (ts : List Tk) (ks : List KT) : Prop := ts.map ktT = ks
theorem km_cons {ts : List Tk} {k : Nat} {x : ByteArray} {ks : List KT} (h : Km ts ((k, x) :: ks)) : ∃ p ts', ts = (k, x, p) :: ts' ∧ Km ts' ks := by
  cases ts with
  | nil => cases h
  | cons t r =>
    obtain ⟨a, b, p⟩ := t
    unfold Km at h
    rw [List.map_cons] at h
    injection h with h1 h2
    injection h1 with h3 h4
    exact ⟨p, r, by rw [← h3, ← h4], h2⟩
theorem km_nil {ts : List Tk} (h : Km ts []) : ts = [] := List.map_eq_nil_iff.1 h
theorem km_app {ts : List Tk} {a b : List KT} (h : Km ts (a ++ b)) : ∃ t1 t2, ts = t1 ++ t2 ∧ Km t1 a ∧ Km t2 b := by
  obtain ⟨t1, t2, e, h1, h2⟩ := List.map_eq_append_iff.1 h
  exact ⟨t1, t2, e, h1, h2⟩
theorem isT_hd (s : ByteArray) (k : Nat) (x : ByteArray) (p : Nat) (l : List Tk) : isT s ((k, x, p) :: l) = decide (x = s ∧ (k = 2 ∨ keyB s = true)) := rfl
theorem isT_same {s : ByteArray} {k p : Nat} {l : List Tk} (h : k = 2 ∨ keyB s = true) : isT s ((k, s, p) :: l) = true := by
  rw [isT_hd, decide_eq_true_eq]
  exact ⟨rfl, h⟩
theorem word_no {s n : ByteArray} {p : Nat} {l : List Tk} (hn : keyB n = false) : isT s ((1, n, p) :: l) = false := by
  rw [isT_hd, decide_eq_false_iff_not]
  rintro ⟨rfl, h | h⟩
  · exact absurd h (by decide)
  · rw [hn] at h; cases h
theorem key_no {s n : ByteArray} {k p : Nat} {l : List Tk} (hn : n ≠ s) : isT s ((k, n, p) :: l) = false := by
  rw [isT_hd, decide_eq_false_iff_not]
  exact fun h => hn h.1
theorem nameW {n : ByteArray} {p : Nat} {l : List Tk} (hn : keyB n = false) : nameT ((1, n, p) :: l) = .ok (n, l) := if_pos ⟨rfl, hn⟩
theorem needW {s : ByteArray} {k p : Nat} {l : List Tk} (h : k = 2 ∨ keyB s = true) : needT s ((k, s, p) :: l) = .ok ((), l) := if_pos (isT_same h)
def sgc (k : Nat) : ByteArray := if k = 4 then sg 124 else if k = 5 then sg 38 else sg 45
def tkX : Ex → List KT
  | .this => [(1, sThis)]
  | .same n => [(1, n)]
  | .via n m => [(1, n), (2, sg 46), (1, m)]
  | .bin k a b => tkX a ++ (2, sgc k) :: (if b.sg = true then (2, sg 40) :: (tkX b ++ [(2, sg 41)]) else tkX b)
def ptkX (t : Ex) : List KT := if t.sg = true then (2, sg 40) :: (tkX t ++ [(2, sg 41)]) else tkX t
theorem op_hd {k : Nat} (hk : k = 4 ∨ k = 5 ∨ k = 6) (p : Nat) (l : List Tk) : opT ((2, sgc k, p) :: l) = k := by
  unfold opT
  rw [isT_hd, isT_hd, isT_hd]
  rcases hk with rfl | rfl | rfl <;> decide +kernel
theorem back_tree : ∀ t : Ex, t.good → t.nm →
    (∀ d l ts, d + t.deep ≤ 8 → Km ts (tkX t) → isT (sg 46) l = false → rewT d (ts ++ l) = moreT d t.ops l) ∧
    (∀ d l ts, d + t.pd ≤ 8 → Km ts (ptkX t) → isT (sg 46) l = false → partT d (ts ++ l) = .ok (t.ops, l))
  | .this, _, _ => by
    have hp : ∀ d l ts, Km ts [(1, sThis)] → partT d (ts ++ l) = .ok ([(1, ⟨#[]⟩, ⟨#[]⟩)], l) := by
      intro d l ts h
      obtain ⟨p, r, e_, hh_⟩ := km_cons h
      subst e_
      replace h := hh_
      clear hh_
      rw [km_nil h, partT_eq]
      show (if isT sThis ((1, sThis, p) :: l) = true then _ else _) = _
      rw [if_pos (isT_same (.inr (by decide +kernel)))]
      rfl
    refine ⟨fun d l ts _ h _ => ?_, fun d l ts _ h _ => hp d l ts h⟩
    unfold rewT
    rw [hp d l ts h]
    rfl
  | .same n, _, hn => by
    have hn2 : NmW n := hn
    have hp : ∀ d l ts, Km ts [(1, n)] → isT (sg 46) l = false → partT d (ts ++ l) = .ok ([(2, n, ⟨#[]⟩)], l) := by
      intro d l ts h hl
      obtain ⟨p, r, e_, hh_⟩ := km_cons h
      subst e_
      replace h := hh_
      clear hh_
      rw [km_nil h, partT_eq]
      show (if isT sThis ((1, n, p) :: l) = true then _ else if isT (sg 40) ((1, n, p) :: l) = true then _ else andT (nameT ((1, n, p) :: l)) _) = _
      rw [if_neg (by rw [word_no hn2.2]; decide), if_neg (by rw [word_no hn2.2]; decide), nameW hn2.2, andT_ok, if_neg (by rw [hl]; decide)]
    refine ⟨fun d l ts _ h hl => ?_, fun d l ts _ h hl => hp d l ts h hl⟩
    unfold rewT
    rw [hp d l ts h hl]
    rfl
  | .via n m, _, hn => by
    obtain ⟨hn1, hn2⟩ := hn
    have hp : ∀ d l ts, Km ts [(1, n), (2, sg 46), (1, m)] → partT d (ts ++ l) = .ok ([(3, n, m)], l) := by
      intro d l ts h
      obtain ⟨p, r, e_, hh_⟩ := km_cons h
      subst e_
      replace h := hh_
      clear hh_
      obtain ⟨p2, r, e_, hh_⟩ := km_cons h
      subst e_
      replace h := hh_
      clear hh_
      obtain ⟨p3, r, e_, hh_⟩ := km_cons h
      subst e_
      replace h := hh_
      clear hh_
      rw [km_nil h, partT_eq]
      show (if isT sThis ((1, n, p) :: (2, sg 46, p2) :: (1, m, p3) :: l) = true then _ else if isT (sg 40) ((1, n, p) :: (2, sg 46, p2) :: (1, m, p3) :: l) = true then _ else andT (nameT ((1, n, p) :: (2, sg 46, p2) :: (1, m, p3) :: l)) _) = _
      rw [if_neg (by rw [word_no hn1.2]; decide), if_neg (by rw [word_no hn1.2]; decide), nameW hn1.2, andT_ok, if_pos (isT_same (.inl rfl))]
      show andT (nameT ((1, m, p3) :: l)) _ = _
      rw [nameW hn2.2]
      rfl
    refine ⟨fun d l ts _ h _ => ?_, fun d l ts _ h _ => hp d l ts h⟩
    unfold rewT
    rw [hp d l ts h]
    rfl
  | .bin k a b, hg, hn => by
    obtain ⟨hk, hga, hgb⟩ := hg
    obtain ⟨qa, _⟩ := back_tree a hga hn.1
    obtain ⟨_, pb⟩ := back_tree b hgb hn.2
    have hq : ∀ d l ts, d + max a.deep b.pd ≤ 8 → Km ts (tkX a ++ (2, sgc k) :: ptkX b) → isT (sg 46) l = false → rewT d (ts ++ l) = moreT d (Ex.bin k a b).ops l := by
      intro d l ts hd h hl
      obtain ⟨t1, t2, rfl, h1, h2⟩ := km_app h
      obtain ⟨p, t3, rfl, h3⟩ := km_cons h2
      have hs : isT (sg 46) ((2, sgc k, p) :: (t3 ++ l)) = false := key_no (by rcases hk with rfl | rfl | rfl <;> decide +kernel)
      rw [List.append_assoc, List.cons_append, qa d _ t1 (by omega) h1 hs, moreT_eq, op_hd hk, if_neg (by omega)]
      show andT (partT d (t3 ++ l)) _ = _
      rw [pb d l t3 (by omega) h3 hl, andT_ok]
      rfl
    refine ⟨fun d l ts hd h hl => hq d l ts hd h hl, fun d l ts hd h hl => ?_⟩
    have hd2 : d + (max a.deep b.pd + 1) ≤ 8 := hd
    obtain ⟨p, t2, rfl, h2⟩ := km_cons (show Km ts ((2, sg 40) :: (tkX (Ex.bin k a b) ++ [(2, sg 41)])) from h)
    obtain ⟨t3, t4, rfl, h3, h4⟩ := km_app h2
    obtain ⟨p4, t5, rfl, h5⟩ := km_cons h4
    rw [km_nil h5, partT_eq]
    show (if isT sThis ((2, sg 40, p) :: (t3 ++ [(2, sg 41, p4)] ++ l)) = true then _ else if isT (sg 40) ((2, sg 40, p) :: (t3 ++ [(2, sg 41, p4)] ++ l)) = true then (if d = 8 then _ else andT (rewT (d + 1) (t3 ++ [(2, sg 41, p4)] ++ l)) _) else _) = _
    rw [if_neg (by rw [key_no (by decide +kernel)]; decide), if_pos (isT_same (.inl rfl)), if_neg (by omega), List.append_assoc, List.singleton_append]
    rw [hq (d + 1) _ t3 (by omega) h3 (key_no (by decide +kernel)), moreT_eq, show opT ((2, sg 41, p4) :: l) = 0 by unfold opT; rw [isT_hd, isT_hd, isT_hd]; decide +kernel, if_pos rfl, andT_ok, needW (.inl rfl)]
    rfl
def subK (s : SubP) : List KT := if s.2 = ⟨#[]⟩ then [(1, s.1)] else [(1, s.1), (2, sg 35), (1, s.2)]
def tailK : List SubP → List KT
  | [] => []
  | s :: r => (2, sg 44) :: (subK s ++ tailK r)
def whoK : List SubP → List KT
  | [] => []
  | s :: r => subK s ++ tailK r
theorem back_who : ∀ (r : List SubP) (s : SubP) (acc : List SubP) (l ts : List Tk), SubG s → (∀ x ∈ r, SubG x) → Km ts (subK s ++ tailK r) → isT (sg 35) l = false → isT (sg 44) l = false → whoT acc (ts ++ l) = .ok (acc ++ s :: r, l) := by
  intro r
  induction r with
  | nil =>
    intro s acc l ts hs _ h h35 h44
    rw [whoT_eq]
    unfold subK at h
    split at h
    · rename_i he
      obtain ⟨p, t2, e_, hh_⟩ := km_cons h
      subst e_
      replace h := hh_
      clear hh_
      rw [km_nil h, List.singleton_append, nameW hs.1.2, andT_ok, if_neg (by rw [h35]; decide), andT_ok, if_neg (by rw [h44]; decide), ← he]
    · rename_i he
      have h2 : NmW s.2 := hs.2.resolve_left he
      obtain ⟨p, t2, e_, hh_⟩ := km_cons h
      subst e_
      replace h := hh_
      clear hh_
      obtain ⟨p2, t2, e_, hh_⟩ := km_cons h
      subst e_
      replace h := hh_
      clear hh_
      obtain ⟨p3, t2, e_, hh_⟩ := km_cons h
      subst e_
      replace h := hh_
      clear hh_
      rw [km_nil h]
      show andT (nameT ((1, s.1, p) :: (2, sg 35, p2) :: (1, s.2, p3) :: l)) _ = _
      rw [nameW hs.1.2, andT_ok, if_pos (isT_same (.inl rfl))]
      show andT (nameT ((1, s.2, p3) :: l)) _ = _
      rw [nameW h2.2, andT_ok, if_neg (by rw [h44]; decide)]
  | cons s2 r ih =>
    intro s acc l ts hs hr h h35 h44
    obtain ⟨t1, t2, rfl, h1, h2⟩ := km_app h
    obtain ⟨p, t3, rfl, h3⟩ := km_cons h2
    have key := ih s2 (acc ++ [s]) l t3 (hr _ List.mem_cons_self) (fun x hx => hr x (List.mem_cons_of_mem _ hx)) h3 h35 h44
    rw [List.append_assoc, List.singleton_append] at key
    rw [whoT_eq]
    unfold subK at h1
    split at h1
    · rename_i he
      obtain ⟨p1, t4, e_, hh_⟩ := km_cons h1
      subst e_
      replace h1 := hh_
      clear hh_
      rw [km_nil h1]
      show andT (nameT ((1, s.1, p1) :: (2, sg 44, p) :: (t3 ++ l))) _ = _
      rw [nameW hs.1.2, andT_ok, if_neg (by rw [key_no (by decide +kernel)]; decide), andT_ok, if_pos (isT_same (.inl rfl)), ← he]
      exact key
    · rename_i he
      have hm : NmW s.2 := hs.2.resolve_left he
      obtain ⟨p1, t4, e_, hh_⟩ := km_cons h1
      subst e_
      replace h1 := hh_
      clear hh_
      obtain ⟨p2, t4, e_, hh_⟩ := km_cons h1
      subst e_
      replace h1 := hh_
      clear hh_
      obtain ⟨p3, t4, e_, hh_⟩ := km_cons h1
      subst e_
      replace h1 := hh_
      clear hh_
      rw [km_nil h1]
      show andT (nameT ((1, s.1, p1) :: (2, sg 35, p2) :: (1, s.2, p3) :: (2, sg 44, p) :: (t3 ++ l))) _ = _
      rw [nameW hs.1.2, andT_ok, if_pos (isT_same (.inl rfl))]
      show andT (nameT ((1, s.2, p3) :: (2, sg 44, p) :: (t3 ++ l))) _ = _
      rw [nameW hm.2, andT_ok, if_pos (isT_same (.inl rfl))]
      exact key
end Go.Proofs.YteafdhpcnpfmkaaGreat
/- Layer 8: tokens, whatever their places, that a whole schema is shown as: what they say. Conditions: none; nothing of the program is named here. -/
namespace Go.Proofs.YteafdhpcnpfmkaaGreat

/-- The tokens that a relation is shown as, behind its key. -/
def relK (x : RelP) (t : Ex) : List KT :=
  [(1, x.name), (2, sg 40), (1, x.view), (2, sg 44), (1, x.edit), (2, sg 44), (1, x.check), (2, sg 41), (2, sg 58)] ++ (whoK x.subs ++ ((if aloneB x.ops = true then [] else (1, sIs) :: tkX t) ++ [(2, sg 59)]))
theorem alone_this {t : Ex} (h : aloneB t.ops = true) : t.ops = [(1, ⟨#[]⟩, ⟨#[]⟩)] := by
  cases t with
  | this => rfl
  | same n => cases h
  | via n m => cases h
  | bin k a b =>
    have hl : 1 < (Ex.bin k a b).ops.length := by
      show 1 < (a.ops ++ b.ops ++ [_]).length
      rw [List.length_append, List.length_append, List.length_singleton]
      have hp : ∀ t : Ex, 1 ≤ t.ops.length := fun t => by
        cases t with
        | bin k a b => show 1 ≤ (a.ops ++ b.ops ++ [_]).length; rw [List.length_append, List.length_singleton]; omega
        | _ => exact Nat.le_refl _
      have := hp a
      have := hp b
      omega
    generalize (Ex.bin k a b).ops = l at *
    rcases l with _ | ⟨x, _ | ⟨y, r⟩⟩
    · cases h
    · exact absurd hl (by simp)
    · cases h
theorem kIs : keyB sIs = true := by decide +kernel
theorem back_rel {x : RelP} (g : RelG x) {t : Ex} (ht : x.ops = t.ops) (hg : t.good) (hn : t.nm) (hd : t.deep ≤ 8) {ts l : List Tk} (h : Km ts (relK x t)) : relT (ts ++ l) = .ok (x, l) := by
  obtain ⟨t1, t2, rfl, h1, h2⟩ := km_app h
  obtain ⟨p1, r1, rfl, h11⟩ := km_cons h1
  obtain ⟨p2, r2, rfl, h12⟩ := km_cons h11
  obtain ⟨p3, r3, rfl, h13⟩ := km_cons h12
  obtain ⟨p4, r4, rfl, h14⟩ := km_cons h13
  obtain ⟨p5, r5, rfl, h15⟩ := km_cons h14
  obtain ⟨p6, r6, rfl, h16⟩ := km_cons h15
  obtain ⟨p7, r7, rfl, h17⟩ := km_cons h16
  obtain ⟨p8, r8, rfl, h18⟩ := km_cons h17
  obtain ⟨p9, r9, rfl, h19⟩ := km_cons h18
  have h10 := km_nil h19
  subst h10
  obtain ⟨t3, t4, rfl, h3, h4⟩ := km_app h2
  obtain ⟨t5, t6, rfl, h5, h6⟩ := km_app h4
  obtain ⟨q, r10, rfl, h7⟩ := km_cons h6
  have h8 := km_nil h7
  subst h8
  unfold relT
  show andT (nameT ((1, x.name, p1) :: (2, sg 40, p2) :: (1, x.view, p3) :: (2, sg 44, p4) :: (1, x.edit, p5) :: (2, sg 44, p6) :: (1, x.check, p7) :: (2, sg 41, p8) :: (2, sg 58, p9) :: (t3 ++ (t5 ++ [(2, sg 59, q)]) ++ l))) _ = _
  rw [nameW g.name.2, andT_ok, needW (.inl rfl), andT_ok, nameW g.view.2, andT_ok, needW (.inl rfl), andT_ok, nameW g.edit.2, andT_ok, needW (.inl rfl), andT_ok, nameW g.check.2, andT_ok, needW (.inl rfl), andT_ok, needW (.inl rfl), andT_ok]
  rw [List.append_assoc, List.append_assoc, List.singleton_append]
  -- who
  have hhead : ∀ z, aloneB x.ops = z → ∃ y, t5 ++ (2, sg 59, q) :: l = y ∧ (isT sIs y = true ∨ isT (sg 59) y = true) ∧ isT (sg 35) y = false ∧ isT (sg 44) y = false := by
    intro z hz
    refine ⟨_, rfl, ?_⟩
    rw [hz] at h5
    cases z with
    | true =>
      have h9 := km_nil (show Km t5 [] from h5)
      subst h9
      exact ⟨.inr (isT_same (.inl rfl)), key_no (by decide +kernel), key_no (by decide +kernel)⟩
    | false =>
      obtain ⟨p, r, rfl, _⟩ := km_cons (show Km t5 ((1, sIs) :: tkX t) from h5)
      exact ⟨.inl (isT_same (.inr kIs)), key_no (by decide +kernel), key_no (by decide +kernel)⟩
  obtain ⟨y, hy, hy1, hy2, hy3⟩ := hhead _ rfl
  rw [hy]
  have hwho : (if isT sIs (t3 ++ y) = true ∨ isT (sg 59) (t3 ++ y) = true then (.ok ([], t3 ++ y) : Rs (List SubP)) else whoT [] (t3 ++ y)) = .ok (x.subs, y) := by
    have hsub := g.subs
    revert h3 hsub
    cases x.subs with
    | nil =>
      intro h3 _
      have h9 := km_nil (show Km t3 [] from h3)
      subst h9
      rw [List.nil_append, if_pos hy1]
    | cons s r =>
      intro h3 hsub
      have hs := hsub s List.mem_cons_self
      have hne : ¬ (isT sIs (t3 ++ y) = true ∨ isT (sg 59) (t3 ++ y) = true) := by
        have h3' : Km t3 (subK s ++ tailK r) := h3
        have : ∃ p r2, t3 = (1, s.1, p) :: r2 := by
          unfold subK at h3'
          split at h3'
          · obtain ⟨p, r2, e, _⟩ := km_cons h3'
            exact ⟨p, r2, e⟩
          · obtain ⟨p, r2, e, _⟩ := km_cons h3'
            exact ⟨p, r2, e⟩
        obtain ⟨p, r2, rfl⟩ := this
        rw [List.cons_append, word_no hs.1.2, word_no hs.1.2]
        simp
      rw [if_neg hne]
      exact back_who r s [] y t3 hs (fun z hz => hsub z (List.mem_cons_of_mem _ hz)) h3 hy2 hy3
  rw [hwho, andT_ok, ← hy]
  -- the rewrite
  cases hal : aloneB x.ops with
  | true =>
    rw [hal] at h5
    have h9 := km_nil (show Km t5 [] from h5)
    subst h9
    rw [List.nil_append, if_neg (by rw [key_no (by decide +kernel)]; decide), andT_ok, needW (.inl rfl), andT_ok]
    rw [ht] at hal
    have := alone_this hal
    rw [← ht] at this
    rw [← this]
  | false =>
    rw [hal] at h5
    obtain ⟨p, r, rfl, h9⟩ := km_cons (show Km t5 ((1, sIs) :: tkX t) from h5)
    rw [List.cons_append, if_pos (isT_same (.inr kIs))]
    show andT (rewT 0 (r ++ (2, sg 59, q) :: l)) _ = _
    rw [(back_tree t hg hn).1 0 _ r (by omega) h9 (key_no (by decide +kernel)), moreT_eq, show opT ((2, sg 59, q) :: l) = 0 by unfold opT; rw [isT_hd, isT_hd, isT_hd]; decide +kernel, if_pos rfl, andT_ok, needW (.inl rfl), andT_ok, ← ht]
/-- A relation, its tree, and its tokens. -/
def RelKs (x : RelP) (ks : List KT) : Prop := RelG x ∧ ∃ t : Ex, x.ops = t.ops ∧ t.good ∧ t.nm ∧ t.deep ≤ 8 ∧ ks = (1, sRel) :: relK x t
def RelsKs : List RelP → List KT → Prop
  | [], ks => ks = []
  | x :: r, ks => ∃ a b, ks = a ++ b ∧ RelKs x a ∧ RelsKs r b
theorem back_rels : ∀ (r : List RelP) (acc : List RelP) (ks : List KT) (ts l : List Tk), RelsKs r ks → Km ts ks → isT sRel l = false → relsT acc (ts ++ l) = .ok (acc ++ r, l)
  | [], acc, ks, ts, l, hr, h, hl => by
    have : ks = [] := hr
    subst this
    rw [km_nil h, List.nil_append, relsT_eq, if_neg (by rw [hl]; decide), List.append_nil]
  | x :: r, acc, ks, ts, l, hr, h, hl => by
    obtain ⟨a, b, rfl, ⟨hg, t, ht, h1, h2, h3, rfl⟩, hb⟩ := hr
    obtain ⟨t1, t2, rfl, ha, hb2⟩ := km_app h
    obtain ⟨p, t3, rfl, h4⟩ := km_cons ha
    have key := back_rels r (acc ++ [x]) b t2 l hb hb2 hl
    rw [List.append_assoc, List.singleton_append] at key
    rw [relsT_eq, List.append_assoc, List.cons_append, if_pos (isT_same (.inr (by decide +kernel)))]
    show andT (relT (t3 ++ (t2 ++ l))) _ = _
    rw [back_rel hg ht h1 h2 h3 h4, andT_ok]
    exact key
def TypKs (t : TypP) (ks : List KT) : Prop := NmW t.name ∧ ∃ b, RelsKs t.rels b ∧ ks = (1, sType) :: (1, t.name) :: (2, sg 123) :: (b ++ [(2, sg 125)])
def TypsKs : List TypP → List KT → Prop
  | [], ks => ks = []
  | x :: r, ks => ∃ a b, ks = a ++ b ∧ TypKs x a ∧ TypsKs r b
theorem back_types : ∀ (r : List TypP) (acc : List TypP) (ks : List KT) (ts l : List Tk), TypsKs r ks → Km ts ks → isT sType l = false → typesT acc (ts ++ l) = .ok (acc ++ r, l)
  | [], acc, ks, ts, l, hr, h, hl => by
    have : ks = [] := hr
    subst this
    rw [km_nil h, List.nil_append, typesT_eq, if_neg (by rw [hl]; decide), List.append_nil]
  | x :: r, acc, ks, ts, l, hr, h, hl => by
    obtain ⟨a, b, rfl, ⟨hn, c, hc, rfl⟩, hb⟩ := hr
    obtain ⟨t1, t2, rfl, ha, hb2⟩ := km_app h
    obtain ⟨p, t3, rfl, h4⟩ := km_cons ha
    obtain ⟨p2, t5, rfl, h5⟩ := km_cons h4
    obtain ⟨p3, t6, rfl, h6⟩ := km_cons h5
    obtain ⟨t7, t8, rfl, h7, h8⟩ := km_app h6
    obtain ⟨p9, t9, rfl, h9⟩ := km_cons h8
    have h10 := km_nil h9
    subst h10
    have key := back_types r (acc ++ [x]) b t2 l hb hb2 hl
    rw [List.append_assoc, List.singleton_append] at key
    rw [typesT_eq]
    show (if isT sType ((1, sType, p) :: (1, x.name, p2) :: (2, sg 123, p3) :: (t7 ++ [(2, sg 125, p9)] ++ t2 ++ l)) = true then andT (nameT ((1, x.name, p2) :: (2, sg 123, p3) :: (t7 ++ [(2, sg 125, p9)] ++ t2 ++ l))) _ else _) = _
    rw [if_pos (isT_same (.inr (by decide +kernel))), nameW hn.2, andT_ok, needW (.inl rfl), andT_ok, List.append_assoc, List.append_assoc, List.singleton_append]
    rw [back_rels x.rels [] c t7 _ hc h7 (key_no (by decide +kernel)), andT_ok, needW (.inl rfl), andT_ok]
    exact key
theorem back_schema {T : List TypP} {ks : List KT} {ts : List Tk} {q : Nat} (hT : TypsKs T ks) (h : Km ts ks) : outS (schemaF (ts ++ [(3, ⟨#[]⟩, q)])) = (T, 0, 0) := by
  rw [schemaF_eq, back_types T [] ks ts _ hT h (key_no (by decide +kernel)), andT_ok]
  rfl
end Go.Proofs.YteafdhpcnpfmkaaGreat

/- Layer 8: the text that a schema is shown as: its tokens; parsed, it says the same. Conditions: none; nothing of the program is named here. -/
namespace Go.Proofs.YteafdhpcnpfmkaaGreat

def St8 (r : ByteArray) : Prop := 0 < r.size → mayB r 0 = false
def Tk8 (x r : ByteArray) (ks : List KT) (off : Nat) : Prop := ∃ ts, Km ts ks ∧ scan (x ++ r) off = (ts ++ (scan r (off + x.size)).1, (scan r (off + x.size)).2)
/-- A text's tokens, where no letter stands behind it; whatever stands behind it. -/
def Lw (x : ByteArray) (ks : List KT) : Prop := validS x = true ∧ ∀ r off, St8 r → Tk8 x r ks off
def Ls (x : ByteArray) (ks : List KT) : Prop := validS x = true ∧ ∀ r off, Tk8 x r ks off
def Lo8 (y : ByteArray) : Prop := ∀ r, St8 (y ++ r)
theorem Ls.weak {x : ByteArray} {ks : List KT} (h : Ls x ks) : Lw x ks := ⟨h.1, fun r off _ => h.2 r off⟩
theorem tk_app {x y r : ByteArray} {a b : List KT} {off : Nat} (hx : Tk8 x (y ++ r) a off) (hy : Tk8 y r b (off + x.size)) : Tk8 (x ++ y) r (a ++ b) off := by
  obtain ⟨t1, k1, e1⟩ := hx
  obtain ⟨t2, k2, e2⟩ := hy
  refine ⟨t1 ++ t2, by unfold Km at *; rw [List.map_append, k1, k2], ?_⟩
  rw [app_assoc, e1, e2, size_app, Nat.add_assoc, List.append_assoc]
theorem val_app {x y : ByteArray} (hx : validS x = true) (hy : validS y = true) : validS (x ++ y) = true := by rw [sep_validS (sep_valid hx), hx, hy]; rfl
theorem Ls.appS {x y : ByteArray} {a b : List KT} (hx : Ls x a) (hy : Ls y b) : Ls (x ++ y) (a ++ b) := ⟨val_app hx.1 hy.1, fun _ _ => tk_app (hx.2 _ _) (hy.2 _ _)⟩
theorem Ls.appW {x y : ByteArray} {a b : List KT} (hx : Ls x a) (hy : Lw y b) : Lw (x ++ y) (a ++ b) := ⟨val_app hx.1 hy.1, fun _ _ hr => tk_app (hx.2 _ _) (hy.2 _ _ hr)⟩
theorem Lw.appS {x y : ByteArray} {a b : List KT} (hx : Lw x a) (ho : Lo8 y) (hy : Ls y b) : Ls (x ++ y) (a ++ b) := ⟨val_app hx.1 hy.1, fun r _ => tk_app (hx.2 _ _ (ho r)) (hy.2 _ _)⟩
theorem Lw.appW {x y : ByteArray} {a b : List KT} (hx : Lw x a) (ho : Lo8 y) (hy : Lw y b) : Lw (x ++ y) (a ++ b) := ⟨val_app hx.1 hy.1, fun r _ hr => tk_app (hx.2 _ _ (ho r)) (hy.2 _ _ hr)⟩
theorem Lo8.app {y : ByteArray} (h : Lo8 y) (z : ByteArray) : Lo8 (y ++ z) := fun r => by rw [app_assoc]; exact h _
theorem word8 {x : ByteArray} (hx : nameS x = true) : Lw x [(1, x)] := ⟨name_valid hx, fun r off hr => ⟨[(1, x, off)], rfl, by rw [scan_word1 hx hr]; rfl⟩⟩
theorem empty8 : Ls ⟨#[]⟩ [] := ⟨by decide +kernel, fun r off => ⟨[], rfl, by rw [nil_app']; rfl⟩⟩
/-- Blanks and signs. -/
def litB : List Nat → ByteArray
  | [] => ⟨#[]⟩
  | c :: r => sOne c ++ litB r
def litK : List Nat → List KT
  | [] => []
  | c :: r => if signB c = true then (2, sOne c) :: litK r else litK r
theorem lit8 : ∀ l : List Nat, (∀ c ∈ l, blankB c = true ∨ signB c = true) → Ls (litB l) (litK l)
  | [], _ => empty8
  | c :: r, h => by
    have hr := lit8 r fun x hx => h x (List.mem_cons_of_mem _ hx)
    by_cases hs : signB c = true
    · have h1 : Ls (sOne c) [(2, sOne c)] := by
        obtain ⟨v, e⟩ := Lx.sign hs
        exact ⟨v, fun r off => ⟨[(2, sOne c, off)], rfl, e r off⟩⟩
      have := h1.appS hr
      show Ls (sOne c ++ litB r) (if signB c = true then _ else _)
      rw [if_pos hs]
      exact this
    · have hb : blankB c = true := (h c List.mem_cons_self).resolve_right hs
      have h1 : Ls (sOne c) [] := by
        obtain ⟨v, e⟩ := Lx.blank hb
        exact ⟨v, fun r off => ⟨[], rfl, e r off⟩⟩
      have := h1.appS hr
      show Ls (sOne c ++ litB r) (if signB c = true then _ else _)
      rw [if_neg hs]
      exact this
theorem low8 {c : Nat} (r : List Nat) (h : blankB c = true ∨ signB c = true) : Lo8 (litB (c :: r)) := fun x => by
  show St8 (sOne c ++ litB r ++ x)
  rw [app_assoc]
  exact low_no h _
/-- A literal of blanks and signs. -/
theorem lits {x : ByteArray} (l : List Nat) (e : x = litB l) (h : ∀ c ∈ l, blankB c = true ∨ signB c = true) : Ls x (litK l) := by rw [e]; exact lit8 l h
theorem lows {x : ByteArray} {c : Nat} {l : List Nat} (e : x = litB (c :: l)) (h : blankB c = true ∨ signB c = true) : Lo8 x := by rw [e]; exact low8 l h
theorem sgn8 {k : Nat} (hk : k = 4 ∨ k = 5 ∨ k = 6) : Ls (sgnS k) [(2, sgc k)] ∧ Lo8 (sgnS k) := by
  rcases hk with rfl | rfl | rfl
  · exact ⟨lits [32, 124, 32] (by decide +kernel) (by decide), lows (c := 32) (l := [124, 32]) (by decide +kernel) (.inl rfl)⟩
  · exact ⟨lits [32, 38, 32] (by decide +kernel) (by decide), lows (c := 32) (l := [38, 32]) (by decide +kernel) (.inl rfl)⟩
  · exact ⟨lits [32, 45, 32] (by decide +kernel) (by decide), lows (c := 32) (l := [45, 32]) (by decide +kernel) (.inl rfl)⟩
theorem text8 : ∀ t : Ex, t.good → t.nm → Lw t.text (tkX t)
  | .this, _, _ => word8 (by decide +kernel)
  | .same n, _, h => by
    have h2 : NmW n := h
    exact word8 h2.1
  | .via n m, _, h => by
    have h1 := (word8 h.1.1).appS (lows (x := ⟨#[46]⟩) (c := 46) (l := []) (by decide +kernel) (.inr rfl)) (lits [46] (by decide +kernel) (by decide))
    exact h1.appW (word8 h.2.1)
  | .bin k a b, hg, hn => by
    obtain ⟨hk, hga, hgb⟩ := hg
    have ha := text8 a hga hn.1
    have hb := text8 b hgb hn.2
    obtain ⟨s1, s2⟩ := sgn8 hk
    have h1 := ha.appS s2 s1
    have h2 : Lw (parS b.sg b.text) (ptkX b) := by
      unfold parS ptkX
      by_cases h : b.sg = true
      · rw [if_pos h, if_pos h]
        have o := lits (x := ⟨#[40]⟩) [40] (by decide +kernel) (by decide)
        have c := lits (x := ⟨#[41]⟩) [41] (by decide +kernel) (by decide)
        exact ((o.appW hb).appS (lows (c := 41) (l := []) (by decide +kernel) (.inr rfl)) c).weak
      · rw [if_neg h, if_neg h]
        exact hb
    have h3 := h1.appW h2
    rw [List.append_assoc] at h3
    exact h3
theorem sub8 {s : SubP} (h : SubG s) : Lw (subS s) (subK s) := by
  unfold subS subK
  by_cases he : s.2 = ⟨#[]⟩
  · rw [if_pos he, if_pos he]
    exact word8 h.1.1
  · rw [if_neg he, if_neg he]
    have h2 : NmW s.2 := h.2.resolve_left he
    exact ((word8 h.1.1).appS (lows (x := ⟨#[35]⟩) (c := 35) (l := []) (by decide +kernel) (.inr rfl)) (lits [35] (by decide +kernel) (by decide))).appW (word8 h2.1)
theorem subs8 : ∀ (r : List SubP) (s : SubP), SubG s → (∀ x ∈ r, SubG x) → Lw (subS s ++ tailJ ⟨#[44, 32]⟩ (r.map subS)) (subK s ++ tailK r)
  | [], s, hs, _ => by
    rw [show tailJ ⟨#[44, 32]⟩ (([] : List SubP).map subS) = ⟨#[]⟩ from rfl, show tailK [] = [] from rfl, app_nil, List.append_nil]
    exact sub8 hs
  | s2 :: r, s, hs, hr => by
    have ih := subs8 r s2 (hr _ List.mem_cons_self) fun x hx => hr x (List.mem_cons_of_mem _ hx)
    have c := lits (x := ⟨#[44, 32]⟩) [44, 32] (by decide +kernel) (by decide)
    have lo := lows (x := ⟨#[44, 32]⟩) (c := 44) (l := [32]) (by decide +kernel) (.inr rfl)
    have h1 := (sub8 hs).appW (lo.app _) (c.appW ih)
    have e : tailJ ⟨#[44, 32]⟩ ((s2 :: r).map subS) = ⟨#[44, 32]⟩ ++ (subS s2 ++ tailJ ⟨#[44, 32]⟩ (r.map subS)) := by simp only [List.map_cons, tailJ, app_assoc]
    have ek : litK [44, 32] = [(2, sg 44)] := by decide +kernel
    rw [ek] at h1
    rw [e]
    exact h1
def headK (x : RelP) : List KT := [(1, sRel), (1, x.name), (2, sg 40), (1, x.view), (2, sg 44), (1, x.edit), (2, sg 44), (1, x.check), (2, sg 41), (2, sg 58)]
theorem head8 {x : RelP} (g : RelG x) : Ls (headS x) (headK x) := by
  have w0 := (word8 (x := sRel) (by decide +kernel)).appS (lows (x := ⟨#[32]⟩) (c := 32) (l := []) (by decide +kernel) (.inl rfl)) (lits [32] (by decide +kernel) (by decide))
  rw [show sRel ++ ⟨#[32]⟩ = (⟨#[114, 101, 108, 32]⟩ : ByteArray) by decide +kernel] at w0
  have o := lits (x := ⟨#[32, 40]⟩) [32, 40] (by decide +kernel) (by decide)
  have lo := lows (x := ⟨#[32, 40]⟩) (c := 32) (l := [40]) (by decide +kernel) (.inl rfl)
  have c := lits (x := ⟨#[44, 32]⟩) [44, 32] (by decide +kernel) (by decide)
  have lc := lows (x := ⟨#[44, 32]⟩) (c := 44) (l := [32]) (by decide +kernel) (.inr rfl)
  have e := lits (x := ⟨#[41, 58]⟩) [41, 58] (by decide +kernel) (by decide)
  have le := lows (x := ⟨#[41, 58]⟩) (c := 41) (l := [58]) (by decide +kernel) (.inr rfl)
  exact (((((((w0.appW (word8 g.name.1)).appS lo o).appW (word8 g.view.1)).appS lc c).appW (word8 g.edit.1)).appS lc c).appW (word8 g.check.1)).appS le e
theorem who8 {x : RelP} (g : RelG x) : Lw (whoS x) (headK x ++ whoK x.subs) := by
  have hh := head8 g
  unfold whoS
  have hs := g.subs
  cases hx : x.subs with
  | nil =>
    rw [if_pos (show ([] : List SubP).length = 0 from rfl)]
    show Lw (headS x) (headK x ++ [])
    rw [List.append_nil]
    exact hh.weak
  | cons s r =>
    rw [hx] at hs
    rw [if_neg (by simp)]
    have b := lits (x := ⟨#[32]⟩) [32] (by decide +kernel) (by decide)
    exact hh.appW (b.appW (subs8 r s (hs _ List.mem_cons_self) fun y hy => hs y (List.mem_cons_of_mem _ hy)))
theorem line8 {x : RelP} (g : RelG x) {t : Ex} (ht : x.ops = t.ops) (hg : t.good) (hn : t.nm) : Ls (lineS x) ((1, sRel) :: relK x t) := by
  have hw := who8 g
  have b := lits (x := ⟨#[9]⟩) [9] (by decide +kernel) (by decide)
  have n := lits (x := ⟨#[10]⟩) [10] (by decide +kernel) (by decide)
  have e := lits (x := ⟨#[59]⟩) [59] (by decide +kernel) (by decide)
  have le := lows (x := ⟨#[59]⟩) (c := 59) (l := []) (by decide +kernel) (.inr rfl)
  have hbody : Lw (if aloneB x.ops = true then whoS x else whoS x ++ (⟨#[32, 105, 115, 32]⟩ ++ rewS x.ops)) (headK x ++ whoK x.subs ++ (if aloneB x.ops = true then [] else (1, sIs) :: tkX t)) := by
    cases hal : aloneB x.ops with
    | true =>
      simp only [↓reduceIte, List.append_nil]
      exact hw
    | false =>
      simp only [Bool.false_eq_true, ↓reduceIte]
      have i0 := lits (x := ⟨#[32]⟩) [32] (by decide +kernel) (by decide)
      have l0 := lows (x := ⟨#[32]⟩) (c := 32) (l := []) (by decide +kernel) (.inl rfl)
      have i1 := (i0.appW (word8 (x := sIs) (by decide +kernel))).appS l0 i0
      have l1 := (l0.app sIs).app ⟨#[32]⟩
      rw [show ⟨#[32]⟩ ++ sIs ++ ⟨#[32]⟩ = (⟨#[32, 105, 115, 32]⟩ : ByteArray) by decide +kernel] at i1 l1
      rw [ht, rewS_tree t hg]
      exact hw.appW (l1.app _) (i1.appW (text8 t hg hn))
  have h1 := (b.appS (hbody.appS le e)).appS n
  have hk : litK [9] ++ (headK x ++ whoK x.subs ++ (if aloneB x.ops = true then [] else (1, sIs) :: tkX t) ++ litK [59]) ++ litK [10] = (1, sRel) :: relK x t := by
    show [] ++ (headK x ++ whoK x.subs ++ (if aloneB x.ops = true then [] else (1, sIs) :: tkX t) ++ [(2, sg 59)]) ++ [] = _
    rw [List.nil_append, List.append_nil, List.append_assoc, List.append_assoc]
    rfl
  rw [hk] at h1
  exact h1
theorem lines8 : ∀ r : List RelP, (∀ x ∈ r, RelG x) → ∃ ks, RelsKs r ks ∧ Ls (catL (r.map lineS)) ks
  | [], _ => ⟨[], rfl, empty8⟩
  | x :: r, h => by
    obtain ⟨b, hb, lb⟩ := lines8 r fun y hy => h y (List.mem_cons_of_mem _ hy)
    have g := h x List.mem_cons_self
    obtain ⟨t, h1, h2, h3, h4⟩ := g.ops
    exact ⟨_, ⟨_, b, rfl, ⟨g, t, h1, h2, h3, h4, rfl⟩, hb⟩, (line8 g h1 h2 h3).appS lb⟩
theorem typ8 {t : TypP} (g : TypG t) : ∃ ks, TypKs t ks ∧ Ls (typS t) ks := by
  obtain ⟨b, hb, lb⟩ := lines8 t.rels g.rels
  have w0 := (word8 (x := sType) (by decide +kernel)).appS (lows (x := ⟨#[32]⟩) (c := 32) (l := []) (by decide +kernel) (.inl rfl)) (lits [32] (by decide +kernel) (by decide))
  rw [show sType ++ ⟨#[32]⟩ = (⟨#[116, 121, 112, 101, 32]⟩ : ByteArray) by decide +kernel] at w0
  have o := lits (x := ⟨#[32, 123, 10]⟩) [32, 123, 10] (by decide +kernel) (by decide)
  have lo := lows (x := ⟨#[32, 123, 10]⟩) (c := 32) (l := [123, 10]) (by decide +kernel) (.inl rfl)
  have e := lits (x := ⟨#[125, 10]⟩) [125, 10] (by decide +kernel) (by decide)
  have h := (((w0.appW (word8 g.name.1)).appS lo o).appS lb).appS e
  refine ⟨_, ⟨g.name, b, hb, rfl⟩, ?_⟩
  have hk : [(1, sType)] ++ litK [32] ++ [(1, t.name)] ++ litK [32, 123, 10] ++ b ++ litK [125, 10] = (1, sType) :: (1, t.name) :: (2, sg 123) :: (b ++ [(2, sg 125)]) := rfl
  rw [hk] at h
  exact h
theorem show8 : ∀ T : List TypP, (∀ t ∈ T, TypG t) → ∃ ks, TypsKs T ks ∧ Ls (showS T) ks
  | [], _ => ⟨[], rfl, empty8⟩
  | t :: r, h => by
    obtain ⟨b, hb, lb⟩ := show8 r fun y hy => h y (List.mem_cons_of_mem _ hy)
    obtain ⟨a, ha, la⟩ := typ8 (h t List.mem_cons_self)
    exact ⟨_, ⟨a, b, rfl, ha, hb⟩, la.appS lb⟩
/-- What is shown says the same. -/
theorem parse_back {T : List TypP} (h : ∀ t ∈ T, TypG t) (hz : (showS T).size ≤ 2048) : parseS (showS T) = (T, 0, 0) := by
  obtain ⟨ks, hk, hv, hl⟩ := show8 T h
  obtain ⟨ts, h1, h2⟩ := hl ⟨#[]⟩ 0
  rw [app_nil, scan_nil (u := ⟨#[]⟩) rfl] at h2
  have ha : allS (showS T) = scan (showS T) 0 := all_ok hz hv (by rw [h2])
  unfold parseS
  rw [ha, h2, if_pos rfl]
  exact back_schema hk h1
theorem parse_long {s : ByteArray} (hz : 2048 < s.size) : parseS s = ([], 13, 0) := by
  have : allS s = ([], 13, 0) := by unfold allS; rw [if_pos hz]
  unfold parseS
  rw [this]
  rfl
end Go.Proofs.YteafdhpcnpfmkaaGreat
