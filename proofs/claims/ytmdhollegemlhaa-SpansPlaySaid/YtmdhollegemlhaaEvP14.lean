/- Layer 14, plainly: what became of keys: rows that rise, put together, cut. Conditions: none; nothing of the program is named here. -/
import Derived.Test.YtmdhollegemlhaaSpanP
namespace Go.Proofs.Ytmdhollegemlhaa

theorem belowE_iff {a b : Ev} : belowE a b = true ↔ a.1 < b.1 ∨ (a.1 = b.1 ∧ (kl a.2.1 b.2.1 = true ∨ (a.2.1 = b.2.1 ∧ a.2.2 = false ∧ b.2.2 = true))) := by
  unfold belowE
  by_cases h1 : a.1 = b.1
  · rw [if_neg (by simpa using h1)]
    by_cases h2 : a.2.1 = b.2.1
    · rw [if_neg (by simpa using h2), h2, kl_irr]
      simp [h1]
    · rw [if_pos h2]
      simp [h1, h2]
  · rw [if_pos h1]
    simp [h1]
theorem belowE_irr (a : Ev) : belowE a a = false := by
  cases h : belowE a a with
  | false => rfl
  | true =>
    rcases belowE_iff.1 h with h | ⟨_, h | ⟨_, h, k⟩⟩
    · omega
    · rw [kl_irr] at h; cases h
    · rw [h] at k; cases k
theorem belowE_trans {a b c : Ev} (h : belowE a b = true) (k : belowE b c = true) : belowE a c = true := by
  rw [belowE_iff] at h k ⊢
  rcases h with h | ⟨h, h2⟩
  · rcases k with k | ⟨k, _⟩
    · exact Or.inl (by omega)
    · exact Or.inl (by omega)
  · rcases k with k | ⟨k, k2⟩
    · exact Or.inl (by omega)
    · refine Or.inr ⟨h.trans k, ?_⟩
      rcases h2 with h2 | ⟨h2, h3, h4⟩
      · rcases k2 with k2 | ⟨k2, _, _⟩
        · exact Or.inl (kl_trans h2 k2)
        · exact Or.inl (k2 ▸ h2)
      · rcases k2 with k2 | ⟨k2, k3, k4⟩
        · exact Or.inl (h2 ▸ k2)
        · rw [h4] at k3; cases k3
theorem belowE_asym {a b : Ev} (h : belowE a b = true) : belowE b a = false := by
  cases k : belowE b a with
  | false => rfl
  | true => exact absurd (belowE_trans h k) (by rw [belowE_irr]; decide)
theorem belowE_tri {a b : Ev} (h : belowE a b = false) (k : belowE b a = false) : a = b := by
  have h1 : ¬ belowE a b = true := by rw [h]; decide
  have k1 : ¬ belowE b a = true := by rw [k]; decide
  rw [belowE_iff] at h1 k1
  have e1 : a.1 = b.1 := by omega
  have e2 : a.2.1 = b.2.1 := by
    refine kl_tri ?_ ?_
    · cases q : kl a.2.1 b.2.1 with
      | false => rfl
      | true => exact absurd (Or.inr ⟨e1, Or.inl q⟩) h1
    · cases q : kl b.2.1 a.2.1 with
      | false => rfl
      | true => exact absurd (Or.inr ⟨e1.symm, Or.inl q⟩) k1
  have e3 : a.2.2 = b.2.2 := by
    cases p : a.2.2 <;> cases q : b.2.2
    · rfl
    · exact absurd (Or.inr ⟨e1, Or.inr ⟨e2, p, q⟩⟩) h1
    · exact absurd (Or.inr ⟨e1.symm, Or.inr ⟨e2.symm, q, p⟩⟩) k1
    · rfl
  exact Prod.ext e1 (Prod.ext e2 e3)
/-- Not above. -/
def LeE (a b : Ev) : Prop := belowE b a = false
theorem LeE.trans {a b c : Ev} (h : LeE a b) (k : LeE b c) : LeE a c := by
  unfold LeE at *
  cases q : belowE c a with
  | false => rfl
  | true =>
    cases p : belowE a b with
    | true => rw [belowE_trans q p] at k; cases k
    | false =>
      obtain rfl := belowE_tri p h
      rw [q] at k; cases k
theorem LeE.antisymm {a b : Ev} (h : LeE a b) (k : LeE b a) : a = b := belowE_tri k h
theorem LeE.of_lt {a b : Ev} (h : belowE a b = true) : LeE a b := belowE_asym h
def RiseE (l : List Ev) : Prop := l.Pairwise LeE

theorem putE_perm : ∀ (l : List Ev) (x : Ev), (putE l x).Perm (x :: l)
  | [], _ => List.Perm.refl _
  | a :: l, x => by
    unfold putE
    split
    · exact ((putE_perm l x).cons a).trans (List.Perm.swap x a l)
    · exact List.Perm.refl _
theorem putE_rise : ∀ {l : List Ev} (x : Ev), RiseE l → RiseE (putE l x)
  | [], _, _ => List.pairwise_singleton _ _
  | a :: l, x, h => by
    have h' := List.pairwise_cons.1 h
    unfold putE
    cases q : belowE a x with
    | true =>
      rw [if_pos rfl]
      refine List.pairwise_cons.2 ⟨fun y hy => ?_, putE_rise x h'.2⟩
      rcases List.mem_cons.1 ((putE_perm l x).mem_iff.1 hy) with rfl | hy
      · exact LeE.of_lt q
      · exact h'.1 y hy
    | false =>
      rw [if_neg (by decide)]
      refine List.pairwise_cons.2 ⟨fun y hy => ?_, h⟩
      rcases List.mem_cons.1 hy with rfl | hy
      · exact q
      · exact LeE.trans q (h'.1 y hy)
theorem rise_unique : ∀ {l m : List Ev}, RiseE l → RiseE m → l.Perm m → l = m
  | [], m, _, _, h => by rw [List.nil_perm.1 h]
  | a :: l, [], _, _, h => absurd h.length_eq (by simp)
  | a :: l, b :: m, hl, hm, h => by
    have hl' := List.pairwise_cons.1 hl
    have hm' := List.pairwise_cons.1 hm
    have e : a = b := by
      have h1 : a ∈ b :: m := h.mem_iff.1 List.mem_cons_self
      have h2 : b ∈ a :: l := h.mem_iff.2 List.mem_cons_self
      rcases List.mem_cons.1 h1 with e | h1
      · exact e
      · rcases List.mem_cons.1 h2 with e | h2
        · exact e.symm
        · exact LeE.antisymm (hl'.1 b h2) (hm'.1 a h1)
    subst e
    rw [rise_unique hl'.2 hm'.2 (List.Perm.cons_inv h)]
theorem foldE_perm : ∀ (m l : List Ev), (m.foldl putE l).Perm (l ++ m)
  | [], l => by rw [List.append_nil]; exact List.Perm.refl _
  | x :: m, l => by
    rw [List.foldl_cons]
    refine (foldE_perm m (putE l x)).trans ?_
    refine ((putE_perm l x).append_right m).trans ?_
    exact (List.perm_middle (a := x) (l₁ := l) (l₂ := m)).symm
theorem foldE_rise : ∀ (m : List Ev) {l : List Ev}, RiseE l → RiseE (m.foldl putE l)
  | [], _, h => h
  | x :: m, _, h => foldE_rise m (putE_rise x h)
theorem eventsP_gen (a b : Int) : ∀ (L : List Sp) (o : List Ev), RiseE o → RiseE (L.foldl (fun o x => (evsOf x a b).foldl putE o) o) ∧ (L.foldl (fun o x => (evsOf x a b).foldl putE o) o).Perm (o ++ L.flatMap fun x => evsOf x a b)
  | [], o, h => ⟨h, by simp⟩
  | x :: L, o, h => by
    obtain ⟨h1, h2⟩ := eventsP_gen a b L _ (foldE_rise (evsOf x a b) h)
    refine ⟨h1, h2.trans ?_⟩
    rw [List.flatMap_cons, ← List.append_assoc]
    exact (foldE_perm _ _).append_right _
theorem eventsP_rise (L : List Sp) (a b : Int) : RiseE (eventsP L a b) := (eventsP_gen a b L [] List.Pairwise.nil).1
theorem eventsP_perm (L : List Sp) (a b : Int) : (eventsP L a b).Perm (L.flatMap fun x => evsOf x a b) := by
  have h := (eventsP_gen a b L [] List.Pairwise.nil).2
  rwa [List.nil_append] at h
theorem mem_evsOf {x : Sp} {a b : Int} {e : Ev} : e ∈ evsOf x a b ↔ (a < e.1 ∧ e.1 ≤ b) ∧ ((e = (x.2.1, x.1, true)) ∨ (0 < x.2.2 ∧ e = (x.2.2, x.1, false))) := by
  unfold evsOf
  rw [List.mem_append]
  constructor
  · rintro (h | h)
    · split at h
      · next q => rw [List.mem_singleton] at h; subst h; exact ⟨q, Or.inl rfl⟩
      · cases h
    · split at h
      · next q => rw [List.mem_singleton] at h; subst h; exact ⟨⟨q.2.1, q.2.2⟩, Or.inr ⟨q.1, rfl⟩⟩
      · cases h
  · rintro ⟨h, rfl | ⟨h2, rfl⟩⟩
    · exact Or.inl (by rw [if_pos h]; exact List.mem_singleton.2 rfl)
    · exact Or.inr (by rw [if_pos ⟨h2, h.1, h.2⟩]; exact List.mem_singleton.2 rfl)
theorem mem_eventsP {L : List Sp} {a b : Int} {e : Ev} : e ∈ eventsP L a b ↔ ∃ x ∈ L, e ∈ evsOf x a b := by
  rw [(eventsP_perm L a b).mem_iff, List.mem_flatMap]
theorem eventsP_within {L : List Sp} {a b : Int} {e : Ev} (h : e ∈ eventsP L a b) : a < e.1 ∧ e.1 ≤ b := by
  obtain ⟨x, _, h⟩ := mem_eventsP.1 h
  exact (mem_evsOf.1 h).1
theorem eventsP_none {L : List Sp} {a b : Int} (h : b ≤ a) : eventsP L a b = [] := by
  refine List.eq_nil_iff_forall_not_mem.2 fun e he => ?_
  have := eventsP_within he
  omega
theorem evsOf_join (x : Sp) {a b c : Int} (h1 : a ≤ b) (h2 : b ≤ c) : (evsOf x a b ++ evsOf x b c).Perm (evsOf x a c) := by
  unfold evsOf
  have key : ∀ (p q r : Prop) [Decidable p] [Decidable q] [Decidable r] (e : Ev), (r ↔ (p ∨ q)) → ¬ (p ∧ q) → ((if p then [e] else []) ++ (if q then [e] else [])) = (if r then [e] else []) := by
    intro p q r _ _ _ e h k
    by_cases hp : p <;> by_cases hq : q
    · exact absurd ⟨hp, hq⟩ k
    · rw [if_pos hp, if_neg hq, if_pos (h.2 (Or.inl hp)), List.append_nil]
    · rw [if_neg hp, if_pos hq, if_pos (h.2 (Or.inr hq)), List.nil_append]
    · rw [if_neg hp, if_neg hq, if_neg (fun z => (h.1 z).elim hp hq), List.nil_append]
  rw [← key (a < x.2.1 ∧ x.2.1 ≤ b) (b < x.2.1 ∧ x.2.1 ≤ c) (a < x.2.1 ∧ x.2.1 ≤ c) (x.2.1, x.1, true) (by omega) (by omega),
    ← key (0 < x.2.2 ∧ a < x.2.2 ∧ x.2.2 ≤ b) (0 < x.2.2 ∧ b < x.2.2 ∧ x.2.2 ≤ c) (0 < x.2.2 ∧ a < x.2.2 ∧ x.2.2 ≤ c) (x.2.2, x.1, false) (by omega) (by omega)]
  generalize (if a < x.2.1 ∧ x.2.1 ≤ b then [((x.2.1, x.1, true) : Ev)] else []) = A
  generalize (if 0 < x.2.2 ∧ a < x.2.2 ∧ x.2.2 ≤ b then [((x.2.2, x.1, false) : Ev)] else []) = B
  generalize (if b < x.2.1 ∧ x.2.1 ≤ c then [((x.2.1, x.1, true) : Ev)] else []) = C
  generalize (if 0 < x.2.2 ∧ b < x.2.2 ∧ x.2.2 ≤ c then [((x.2.2, x.1, false) : Ev)] else []) = D
  rw [List.append_assoc, List.append_assoc]
  refine List.Perm.append_left A ?_
  rw [← List.append_assoc, ← List.append_assoc]
  exact List.Perm.append_right D List.perm_append_comm
/-- What became of all up to a revision, and behind it. -/
theorem eventsP_join (L : List Sp) {a b c : Int} (h1 : a ≤ b) (h2 : b ≤ c) : eventsP L a b ++ eventsP L b c = eventsP L a c := by
  refine rise_unique ?_ (eventsP_rise L a c) ?_
  · refine List.pairwise_append.2 ⟨eventsP_rise L a b, eventsP_rise L b c, fun x hx y hy => ?_⟩
    have hx := eventsP_within hx
    have hy := eventsP_within hy
    exact LeE.of_lt (belowE_iff.2 (Or.inl (by omega)))
  · refine ((eventsP_perm L a b).append (eventsP_perm L b c)).trans (List.Perm.trans ?_ (eventsP_perm L a c).symm)
    induction L with
    | nil => exact List.Perm.refl _
    | cons x L ih =>
      rw [List.flatMap_cons, List.flatMap_cons, List.flatMap_cons]
      refine List.Perm.trans ?_ ((evsOf_join x h1 h2).append ih)
      generalize evsOf x a b = A
      generalize evsOf x b c = B
      generalize (L.flatMap fun x => evsOf x a b) = C
      generalize (L.flatMap fun x => evsOf x b c) = D
      rw [List.append_assoc, List.append_assoc]
      refine List.Perm.append_left A ?_
      rw [← List.append_assoc, ← List.append_assoc]
      exact List.Perm.append_right D List.perm_append_comm

/-! what is as it should be -/
/-- Spans in order: of one key each one ended when the next one began; none reaches behind the last revision. -/
structure FineS (L : List Sp) (last : Int) : Prop where
  at_ : ∀ x ∈ L, 1 ≤ x.2.1 ∧ x.2.1 ≤ last ∧ (x.2.2 = 0 ∨ (x.2.1 < x.2.2 ∧ x.2.2 ≤ last))
  two : L.Pairwise fun x y => x.1 = y.1 → x.2.2 ≠ 0 ∧ x.2.2 ≤ y.2.1
  zero : 0 ≤ last
theorem FineS.nil : FineS [] 0 := ⟨fun _ h => (by cases h), List.Pairwise.nil, Int.le_refl _⟩
theorem openP_at {L : List Sp} {k : ByteArray} (h : ¬ openP L k < 0) : ∃ (i : Nat) (x : Sp), openP L k = i ∧ L[i]? = some x ∧ x.1 = k ∧ x.2.2 = 0 := by
  unfold openP at h ⊢
  cases e : L.findIdx? (openB k) with
  | none => rw [e] at h; exact absurd (by decide) h
  | some i =>
    obtain ⟨hi, h2, _⟩ := List.findIdx?_eq_some_iff_getElem.1 e
    unfold openB at h2
    rw [Bool.and_eq_true, decide_eq_true_eq, decide_eq_true_eq] at h2
    exact ⟨i, L[i], rfl, List.getElem?_eq_getElem hi, h2.1, h2.2⟩
theorem openP_no {L : List Sp} {k : ByteArray} (h : openP L k < 0) : ∀ x ∈ L, x.1 = k → x.2.2 ≠ 0 := by
  unfold openP at h
  cases e : L.findIdx? (openB k) with
  | some i => rw [e] at h; simp only at h; omega
  | none =>
    intro x hx hk h0
    have := List.findIdx?_eq_none_iff.1 e x hx
    unfold openB at this
    rw [decide_eq_true hk, decide_eq_true h0] at this
    cases this
theorem putP_some {L L' : List Sp} {last r : Int} {k : ByteArray} (h : putP L last k r = some L') : 1 ≤ r ∧ last ≤ r ∧ openP L k < 0 ∧ L' = L ++ [(k, r, 0)] := by
  unfold putP at h
  split at h
  · cases h
  · next q => injection h with h; exact ⟨by omega, by omega, by omega, h.symm⟩
theorem FineS.put {L L' : List Sp} {last r : Int} {k : ByteArray} (hf : FineS L last) (h : putP L last k r = some L') : FineS L' r := by
  obtain ⟨h1, h2, h3, rfl⟩ := putP_some h
  have h4 := openP_no h3
  refine ⟨fun x hx => ?_, List.pairwise_append.2 ⟨hf.two, List.pairwise_singleton _ _, fun x hx y hy e => ?_⟩, by omega⟩
  · rcases List.mem_append.1 hx with hx | hx
    · have := hf.at_ x hx
      exact ⟨this.1, by omega, by omega⟩
    · rw [List.mem_singleton] at hx
      subst hx
      exact ⟨h1, Int.le_refl _, Or.inl rfl⟩
  · rw [List.mem_singleton] at hy
    subst hy
    have := hf.at_ x hx
    have h5 := h4 x hx e
    exact ⟨h5, by show x.2.2 ≤ r; omega⟩
theorem dropP_some {L L' : List Sp} {last r : Int} {k : ByteArray} (h : dropP L last k r = some L') : ∃ (i : Nat) (x : Sp), last ≤ r ∧ openP L k = i ∧ L[i]? = some x ∧ x.1 = k ∧ x.2.2 = 0 ∧ x.2.1 < r ∧ L' = L.set i (k, x.2.1, r) := by
  unfold dropP at h
  split at h
  · cases h
  · next q =>
    injection h with h
    obtain ⟨i, x, h1, h2, h3, h4⟩ := openP_at (L := L) (k := k) (by omega)
    rw [h1, show ((i : Int)).toNat = i from rfl, h2, Option.map_some, Option.getD_some] at q
    refine ⟨i, x, by omega, h1, h2, h3, h4, by omega, ?_⟩
    rw [← h, h1, show ((i : Int)).toNat = i from rfl]
    unfold endAt
    rw [h2, ← h3]
theorem FineS.drop {L L' : List Sp} {last r : Int} {k : ByteArray} (hf : FineS L last) (h : dropP L last k r = some L') : FineS L' r := by
  obtain ⟨i, x, h1, h2, h3, h4, h5, h6, rfl⟩ := dropP_some h
  obtain ⟨hi, hxi⟩ := List.getElem?_eq_some_iff.1 h3
  have hL : L = L.take i ++ x :: L.drop (i + 1) := by rw [← hxi, ← List.drop_eq_getElem_cons hi, List.take_append_drop]
  have hset : L.set i (k, x.2.1, r) = L.take i ++ (k, x.2.1, r) :: L.drop (i + 1) := by rw [List.set_eq_take_append_cons_drop, if_pos hi]
  have htwo := hf.two
  have hat := hf.at_
  rw [hset]
  rw [hL] at htwo hat
  have hlen : (L.take i).length = i := by rw [List.length_take]; omega
  generalize L.take i = A at *
  generalize L.drop (i + 1) = B at *
  clear hL hset hlen h2
  obtain ⟨p1, p2, p3⟩ := List.pairwise_append.1 htwo
  obtain ⟨p4, p5⟩ := List.pairwise_cons.1 p2
  have hx := hat x (List.mem_append_right _ List.mem_cons_self)
  refine ⟨fun y hy => ?_, List.pairwise_append.2 ⟨p1, List.pairwise_cons.2 ⟨fun y hy e => ?_, p5⟩, fun y hy z hz e => ?_⟩, by have := hf.zero; omega⟩
  · have key : y ∈ A ∨ y = (k, x.2.1, r) ∨ y ∈ B := by
      rcases List.mem_append.1 hy with hy | hy
      · exact Or.inl hy
      · exact Or.inr (List.mem_cons.1 hy)
    rcases key with hy | rfl | hy
    · have := hat y (List.mem_append_left _ hy); exact ⟨this.1, by omega, by omega⟩
    · exact ⟨hx.1, by show x.2.1 ≤ r; omega, Or.inr ⟨h6, Int.le_refl _⟩⟩
    · have := hat y (List.mem_append_right _ (List.mem_cons_of_mem _ hy)); exact ⟨this.1, by omega, by omega⟩
  · exact absurd h5 (p4 y hy (h4.trans e)).1
  · rcases List.mem_cons.1 hz with rfl | hz
    · exact p3 y hy x List.mem_cons_self (e.trans h4.symm)
    · exact p3 y hy z (List.mem_cons_of_mem _ hz) e
theorem FineS.trim {L : List Sp} {last : Int} (hf : FineS L last) (r : Int) : FineS (trimP L r) last := ⟨fun x hx => hf.at_ x (List.mem_filter.1 hx).1, hf.two.filter _, hf.zero⟩

/-! trimmed -/
theorem trimP_twice (L : List Sp) (r : Int) : trimP (trimP L r) r = trimP L r := by
  unfold trimP
  rw [List.filter_filter]
  congr 1
  funext x
  rw [Bool.and_self]
theorem trimP_len (L : List Sp) (r : Int) : (trimP L r).length ≤ L.length := List.length_filter_le _ _
theorem holdsP_kept {x : Sp} {r k : Int} (h : r ≤ k) (q : keptB r x = false) : holdsP x k = false := by
  unfold keptB at q
  unfold holdsP
  rw [Bool.or_eq_false_iff, decide_eq_false_iff_not, decide_eq_false_iff_not] at q
  rw [decide_eq_false q.1, decide_eq_false (show ¬ k < x.2.2 by omega), Bool.or_self, Bool.and_false]
theorem nextP_trim {r k : Int} (h : r ≤ k) (lo hi : ByteArray) (L : List Sp) : nextP (trimP L r) k lo hi = nextP L k lo hi := by
  unfold nextP trimP
  generalize (none : Option ByteArray) = o
  induction L generalizing o with
  | nil => rfl
  | cons x L ih =>
    rw [List.filter_cons, List.foldl_cons]
    cases q : keptB r x with
    | true => rw [if_pos rfl, List.foldl_cons]; exact ih _
    | false => rw [if_neg (by decide), holdsP_kept h q, Bool.false_and, if_neg (by decide)]; exact ih _
theorem countP_trim {r k : Int} (h : r ≤ k) (L : List Sp) : countP (trimP L r) k = countP L k := by
  unfold countP trimP
  rw [List.filter_filter]
  congr 2
  funext x
  cases q : keptB r x with
  | true => rw [Bool.and_true]
  | false => rw [holdsP_kept h q]; rfl
theorem hasP_trim {r q : Int} (h : r ≤ q) (k : ByteArray) (L : List Sp) : hasP (trimP L r) k q = hasP L k q := by
  unfold hasP trimP
  rw [List.any_filter]
  congr 1
  funext x
  cases p : keptB r x with
  | true => rw [Bool.true_and]
  | false => rw [holdsP_kept h p]; rfl
theorem eventsP_trim {L : List Sp} {last : Int} (hf : FineS L last) (r k : Int) : eventsP (trimP L r) r k = eventsP L r k := by
  have hat := hf.at_
  clear hf
  unfold eventsP trimP
  generalize ([] : List Ev) = o
  induction L generalizing o with
  | nil => rfl
  | cons x L ih =>
    have ih := fun o => ih (fun y hy => hat y (List.mem_cons_of_mem _ hy)) o
    have hx := hat x List.mem_cons_self
    rw [List.filter_cons, List.foldl_cons]
    cases q : keptB r x with
    | true => rw [if_pos rfl, List.foldl_cons]; exact ih _
    | false =>
      rw [if_neg (by decide)]
      unfold keptB at q
      rw [Bool.or_eq_false_iff, decide_eq_false_iff_not, decide_eq_false_iff_not] at q
      have e : evsOf x r k = [] := by
        unfold evsOf
        rw [if_neg (by omega), if_neg (by omega)]
        rfl
      rw [e]
      exact ih _
end Go.Proofs.Ytmdhollegemlhaa
