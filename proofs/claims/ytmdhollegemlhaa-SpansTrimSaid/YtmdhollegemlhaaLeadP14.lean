/- Layer 14, plainly: the keys of a revision, told one by one, as many as are counted; with what became of them up to a later one they are that one's. Conditions: none; nothing of the program is named here. -/
import Derived.Test.YtmdhollegemlhaaEvP14
namespace Go.Proofs.Ytmdhollegemlhaa

/-! the keys of a revision -/
def keysP (L : List Sp) (r : Int) : List ByteArray := (L.filter fun x => holdsP x r).foldl (fun s x => putS s x.1) []
theorem fineS_held {L : List Sp} {last : Int} (hf : FineS L last) (r : Int) : ((L.filter fun x => holdsP x r).map (·.1)).Nodup := by
  refine List.pairwise_map.2 ?_
  refine (List.Pairwise.and_mem.1 (hf.two.filter _)).imp ?_
  rintro x y ⟨hx, hy, h⟩ e
  have hx := (List.mem_filter.1 hx).2
  have hy := (List.mem_filter.1 hy).2
  have := h e
  unfold holdsP at hx hy
  simp only [Bool.and_eq_true, Bool.or_eq_true, decide_eq_true_eq] at hx hy
  omega
theorem foldK : ∀ (M : List Sp) (s : List ByteArray), Rises s → (M.map (·.1)).Nodup → (∀ x ∈ M, x.1 ∉ s) → Rises (M.foldl (fun s x => putS s x.1) s) ∧ (M.foldl (fun s x => putS s x.1) s).length = s.length + M.length ∧ ∀ k, k ∈ M.foldl (fun s x => putS s x.1) s ↔ k ∈ s ∨ ∃ x ∈ M, x.1 = k
  | [], s, hs, _, _ => ⟨hs, rfl, fun k => by simp⟩
  | x :: M, s, hs, hn, hd => by
    rw [List.map_cons, List.nodup_cons] at hn
    have h1 := putS_rises hs (hd x List.mem_cons_self)
    obtain ⟨a1, a2, a3⟩ := foldK M (putS s x.1) h1 hn.2 (fun y hy hm => by
      rcases putS_mem.1 hm with e | hm
      · exact hn.1 (e ▸ List.mem_map_of_mem hy)
      · exact hd y (List.mem_cons_of_mem _ hy) hm)
    refine ⟨a1, by rw [List.foldl_cons, a2, putS_len, List.length_cons]; omega, fun k => ?_⟩
    rw [List.foldl_cons, a3, putS_mem]
    constructor
    · rintro ((e | h) | ⟨y, hy, e⟩)
      · exact Or.inr ⟨x, List.mem_cons_self, e.symm⟩
      · exact Or.inl h
      · exact Or.inr ⟨y, List.mem_cons_of_mem _ hy, e⟩
    · rintro (h | ⟨y, hy, e⟩)
      · exact Or.inl (Or.inr h)
      · rcases List.mem_cons.1 hy with rfl | hy
        · exact Or.inl (Or.inl e.symm)
        · exact Or.inr ⟨y, hy, e⟩
theorem keysP_all {L : List Sp} {last : Int} (hf : FineS L last) (r : Int) : Rises (keysP L r) ∧ (keysP L r).length = countP L r ∧ ∀ k, k ∈ keysP L r ↔ hasP L k r = true := by
  obtain ⟨h1, h2, h3⟩ := foldK (L.filter fun x => holdsP x r) [] List.Pairwise.nil (fineS_held hf r) (fun _ _ h => by cases h)
  refine ⟨h1, by unfold keysP; rw [h2, List.length_nil, Nat.zero_add]; rfl, fun k => ?_⟩
  unfold keysP
  rw [h3]
  unfold hasP
  rw [List.any_eq_true]
  constructor
  · rintro (h | ⟨x, hx, e⟩)
    · cases h
    · exact ⟨x, (List.mem_filter.1 hx).1, by rw [(List.mem_filter.1 hx).2, decide_eq_true e]; rfl⟩
  · rintro ⟨x, hx, h⟩
    rw [Bool.and_eq_true, decide_eq_true_eq] at h
    exact Or.inr ⟨x, List.mem_filter.2 ⟨hx, h.1⟩, h.2⟩

/-! the next one -/
/-- The least one of some that are within, or the one that there was. -/
theorem nextP_gen (r : Int) (lo hi : ByteArray) : ∀ (L : List Sp) (o : Option ByteArray),
    (L.foldl (fun b x => if holdsP x r && within lo hi x.1 then lessO b x.1 else b) o = none ↔ o = none ∧ ∀ x ∈ L, (holdsP x r && within lo hi x.1) = false) ∧
    ∀ k, L.foldl (fun b x => if holdsP x r && within lo hi x.1 then lessO b x.1 else b) o = some k →
      (o = some k ∨ ∃ x ∈ L, (holdsP x r && within lo hi x.1) = true ∧ x.1 = k) ∧ (∀ c, o = some c → kl c k = false) ∧ ∀ x ∈ L, (holdsP x r && within lo hi x.1) = true → kl x.1 k = false
  | [], o => ⟨by simp, fun k h => ⟨Or.inl h, fun c hc => by simp only [List.foldl_nil] at h; rw [h] at hc; cases hc; exact kl_irr _, fun x hx => by cases hx⟩⟩
  | x :: L, o => by
    rw [List.foldl_cons]
    obtain ⟨h1, h2⟩ := nextP_gen r lo hi L (if holdsP x r && within lo hi x.1 then lessO o x.1 else o)
    cases q : (holdsP x r && within lo hi x.1) with
    | false =>
      rw [q, if_neg (by decide)] at h1 h2
      rw [if_neg (by decide)]
      refine ⟨h1.trans ⟨fun h => ⟨h.1, fun y hy => ?_⟩, fun h => ⟨h.1, fun y hy => h.2 y (List.mem_cons_of_mem _ hy)⟩⟩, fun k hk => ?_⟩
      · rcases List.mem_cons.1 hy with rfl | hy
        · exact q
        · exact h.2 y hy
      · obtain ⟨a1, a2, a3⟩ := h2 k hk
        refine ⟨a1.imp id fun ⟨y, hy, e⟩ => ⟨y, List.mem_cons_of_mem _ hy, e⟩, a2, fun y hy hq => ?_⟩
        rcases List.mem_cons.1 hy with rfl | hy
        · rw [q] at hq; cases hq
        · exact a3 y hy hq
    | true =>
      rw [q, if_pos rfl] at h1 h2
      rw [if_pos rfl]
      have hl : ∃ c, lessO o x.1 = some c ∧ (c = x.1 ∨ o = some c) ∧ kl x.1 c = false ∧ ∀ d, o = some d → kl d c = false := by
        cases o with
        | none => exact ⟨x.1, rfl, Or.inl rfl, kl_irr _, fun _ h => by cases h⟩
        | some d =>
          unfold lessO
          cases p : kl x.1 d with
          | true => exact ⟨x.1, by simp [p], Or.inl rfl, kl_irr _, fun e he => by cases he; exact kl_asym p⟩
          | false => exact ⟨d, by simp [p], Or.inr rfl, p, fun e he => by cases he; exact kl_irr _⟩
      obtain ⟨c, hc, c1, c2, c3⟩ := hl
      rw [hc] at h1 h2 ⊢
      have ht : ∀ {a b d : ByteArray}, kl a b = false → kl b d = false → kl a d = false := fun {a b d} h k => kl_not.2 (List.le_trans (kl_not.1 k) (kl_not.1 h))
      refine ⟨h1.trans ⟨fun h => absurd h.1 (by simp), fun h => ?_⟩, fun k hk => ?_⟩
      · have := h.2 x List.mem_cons_self
        rw [q] at this; cases this
      · obtain ⟨a1, a2, a3⟩ := h2 k hk
        refine ⟨?_, fun d hd => ht (c3 d hd) (a2 c rfl), fun y hy hq => ?_⟩
        · rcases a1 with a1 | ⟨y, hy, e⟩
          · injection a1 with a1
            subst a1
            rcases c1 with c1 | c1
            · exact Or.inr ⟨x, List.mem_cons_self, q, c1.symm⟩
            · exact Or.inl c1
          · exact Or.inr ⟨y, List.mem_cons_of_mem _ hy, e⟩
        · rcases List.mem_cons.1 hy with rfl | hy
          · exact ht c2 (a2 c rfl)
          · exact a3 y hy hq
/-- The next one is the first one of the keys that is within. -/
theorem nextP_keys {L : List Sp} {last : Int} (hf : FineS L last) (r : Int) (lo hi : ByteArray) : nextP L r lo hi = (keysP L r).find? (within lo hi) := by
  obtain ⟨k1, _, k3⟩ := keysP_all hf r
  obtain ⟨h1, h2⟩ := nextP_gen r lo hi L none
  have hm : ∀ x ∈ L, (holdsP x r && within lo hi x.1) = true → x.1 ∈ keysP L r ∧ within lo hi x.1 = true := fun x hx h => by
    rw [Bool.and_eq_true] at h
    refine ⟨(k3 _).2 ?_, h.2⟩
    unfold hasP
    rw [List.any_eq_true]
    exact ⟨x, hx, by rw [h.1, decide_eq_true rfl]; rfl⟩
  have hm2 : ∀ k ∈ keysP L r, within lo hi k = true → ∃ x ∈ L, (holdsP x r && within lo hi x.1) = true ∧ x.1 = k := fun k hk hw => by
    have := (k3 _).1 hk
    unfold hasP at this
    rw [List.any_eq_true] at this
    obtain ⟨x, hx, h⟩ := this
    rw [Bool.and_eq_true, decide_eq_true_eq] at h
    exact ⟨x, hx, by rw [h.1, h.2, hw]; rfl, h.2⟩
  have key : nextP L r lo hi = L.foldl (fun b x => if holdsP x r && within lo hi x.1 then lessO b x.1 else b) none := rfl
  rw [← key] at h1 h2
  cases e : nextP L r lo hi with
  | none =>
    symm
    refine List.find?_eq_none.2 fun k hk hw => ?_
    obtain ⟨x, hx, hq, _⟩ := hm2 k hk hw
    rw [(h1.1 e).2 x hx] at hq
    cases hq
  | some k =>
    obtain ⟨a1, _, a3⟩ := h2 k e
    rcases a1 with a1 | ⟨x, hx, hq, rfl⟩
    · cases a1
    obtain ⟨m1, m2⟩ := hm x hx hq
    cases f : (keysP L r).find? (within lo hi) with
    | none => exact absurd m2 (List.find?_eq_none.1 f _ m1)
    | some c =>
      have c1 := List.mem_of_find?_eq_some f
      have c2 := List.find?_some f
      obtain ⟨y, hy, hyq, rfl⟩ := hm2 c c1 c2
      have b1 := a3 y hy hyq
      -- the found one stands ahead of the least one, or is it
      obtain ⟨as, bs, e2, e3⟩ := List.find?_eq_some_iff_append.1 f |>.2
      rw [e2] at m1 k1
      rcases List.mem_append.1 m1 with m1 | m1
      · have := e3 _ m1
        rw [m2] at this
        cases this
      · rcases List.mem_cons.1 m1 with m1 | m1
        · rw [m1]
        · have := (List.pairwise_cons.1 (List.pairwise_append.1 k1).2.1).1 _ m1
          rw [this] at b1
          cases b1

/-! told one by one -/
theorem lt_zero : ∀ (x k : List UInt8), x < k ++ [0] ↔ x ≤ k
  | [], k => by cases k <;> simp
  | a :: x, [] => by
    rw [List.nil_append, List.cons_lt_cons_iff]
    constructor
    · rintro (h | ⟨_, h⟩)
      · exact absurd h (by simp)
      · exact absurd h (by simp)
    · intro h
      exact absurd h (by simp)
  | a :: x, b :: k => by
    rw [List.cons_append, List.cons_lt_cons_iff, List.cons_le_cons_iff, lt_zero x k]
theorem within_next {k kz x : ByteArray} (h : kz.toList = k.toList ++ [0]) : within kz ⟨#[]⟩ x = kl k x := by
  unfold within
  rw [decide_eq_true rfl, Bool.true_or, Bool.and_true]
  cases q : kl k x with
  | true =>
    rw [Bool.not_eq_true', kl_not, h]
    exact List.not_lt.1 fun z => absurd ((lt_zero _ _).1 z) (List.not_le.2 (kl_iff.1 q))
  | false =>
    rw [Bool.not_eq_false', kl_iff, h, lt_zero]
    exact kl_not.1 q
theorem within_all (x : ByteArray) : within ⟨#[]⟩ ⟨#[]⟩ x = true := by
  unfold within
  rw [decide_eq_true rfl, Bool.true_or, Bool.and_true, Bool.not_eq_true', kl_not, ByteArray.toList_eq ⟨#[]⟩]
  exact List.nil_le _
theorem find_first (K : List ByteArray) : K.find? (within ⟨#[]⟩ ⟨#[]⟩) = K[0]? := by
  cases K with
  | nil => rfl
  | cons a K => rw [List.find?_cons, within_all]; rfl
theorem find_next {K : List ByteArray} (hK : Rises K) {j : Nat} {k kz : ByteArray} (hk : K[j]? = some k) (h : kz.toList = k.toList ++ [0]) : K.find? (within kz ⟨#[]⟩) = K[j + 1]? := by
  rw [show within kz ⟨#[]⟩ = kl k from funext fun x => within_next h]
  cases e : K[j + 1]? with
  | none =>
    refine List.find?_eq_none.2 fun x hx hl => ?_
    obtain ⟨i, hi, rfl⟩ := List.mem_iff_getElem.1 hx
    have hn := List.getElem?_eq_none_iff.1 e
    by_cases q : i = j
    · subst q
      rw [List.getElem?_eq_getElem hi] at hk
      injection hk with hk
      rw [hk, kl_irr] at hl; cases hl
    · have := hK.at_ (List.getElem?_eq_getElem hi) hk (by omega)
      rw [kl_asym this] at hl; cases hl
  | some y =>
    obtain ⟨hj, hy⟩ := List.getElem?_eq_some_iff.1 e
    have hy2 := hK.at_ hk e (by omega)
    have hs : K = K.take (j + 1) ++ y :: K.drop (j + 2) := by rw [← hy, ← List.drop_eq_getElem_cons hj, List.take_append_drop]
    rw [List.find?_eq_some_iff_append]
    refine ⟨hy2, K.take (j + 1), K.drop (j + 2), hs, fun x hx => ?_⟩
    obtain ⟨i, hi, rfl⟩ := List.mem_iff_getElem.1 hx
    rw [List.length_take] at hi
    rw [List.getElem_take]
    by_cases q : i = j
    · subst q
      have := (List.getElem?_eq_some_iff.1 hk).2
      rw [this, kl_irr]; rfl
    · have hiK : i < K.length := by omega
      have := hK.at_ (List.getElem?_eq_getElem hiK) hk (by omega)
      rw [kl_asym this]; rfl

/-! a key and what became of it -/
/-- What a key is, told by what became of it: none if what is told doesn't fit. -/
def altP (q : ByteArray) : Bool → List Ev → Option Bool
  | i, [] => some i
  | i, e :: l => if e.2.1 = q then (if i = e.2.2 then none else altP q e.2.2 l) else altP q i l
theorem altP_append (q : ByteArray) : ∀ (l m : List Ev) (i : Bool), altP q i (l ++ m) = (altP q i l).bind fun j => altP q j m
  | [], _, _ => rfl
  | e :: l, m, i => by
    rw [List.cons_append, altP, altP]
    split
    · split
      · rfl
      · exact altP_append q l m _
    · exact altP_append q l m i
theorem altP_filter (q : ByteArray) : ∀ (l : List Ev) (i : Bool), altP q i (l.filter fun e => decide (e.2.1 = q)) = altP q i l
  | [], _ => rfl
  | e :: l, i => by
    by_cases h : e.2.1 = q
    · rw [List.filter_cons, if_pos (by simpa using h), altP, altP, if_pos h, if_pos h, altP_filter q l]
    · rw [List.filter_cons, if_neg (by simpa using h), altP, if_neg h, altP_filter q l]
/-- One key's spans, in order. -/
theorem altP_key (q : ByteArray) {a b : Int} (hab : a ≤ b) : ∀ (S : List Sp), (∀ x ∈ S, x.1 = q ∧ (x.2.2 = 0 ∨ x.2.1 < x.2.2)) → (∀ x ∈ S, 1 ≤ x.2.1) → S.Pairwise (fun x y => x.2.2 ≠ 0 ∧ x.2.2 ≤ y.2.1) →
    altP q (S.any fun x => holdsP x a) (S.flatMap fun x => evsOf x a b) = some (S.any fun x => holdsP x b)
  | [], _, _, _ => rfl
  | x :: S, h, h0, hp => by
    obtain ⟨hp1, hp2⟩ := List.pairwise_cons.1 hp
    have ih := altP_key q hab S (fun y hy => h y (List.mem_cons_of_mem _ hy)) (fun y hy => h0 y (List.mem_cons_of_mem _ hy)) hp2
    obtain ⟨hx1, hx2⟩ := h x List.mem_cons_self
    have hx0 := h0 x List.mem_cons_self
    have late : ∀ (c : Int), x.2.2 = 0 ∨ c < x.2.2 → (S.any fun y => holdsP y c) = false := fun c hc => by
      rw [List.any_eq_false]
      intro y hy
      have := hp1 y hy
      unfold holdsP
      rw [decide_eq_false (show ¬ y.2.1 ≤ c by omega), Bool.false_and]
      decide
    have none_ : x.2.2 = 0 ∨ b < x.2.2 → (S.flatMap fun y => evsOf y a b) = [] := fun hc => by
      refine List.eq_nil_iff_forall_not_mem.2 fun e he => ?_
      obtain ⟨y, hy, he⟩ := List.mem_flatMap.1 he
      have hy1 := hp1 y hy
      have hy2 := (h y (List.mem_cons_of_mem _ hy)).2
      obtain ⟨⟨e1, e2⟩, rfl | ⟨e3, rfl⟩⟩ := mem_evsOf.1 he
      · dsimp only at e2; omega
      · dsimp only at e2; omega
    rw [List.any_cons, List.any_cons, List.flatMap_cons]
    have hold : ∀ c : Int, holdsP x c = decide (x.2.1 ≤ c ∧ (x.2.2 = 0 ∨ c < x.2.2)) := fun c => by
      unfold holdsP
      rw [Bool.decide_and, Bool.decide_or]
    rw [hold, hold]
    obtain ⟨M, hM⟩ : ∃ M, S.flatMap (fun x => evsOf x a b) = M := ⟨_, rfl⟩
    rw [hM] at none_ ih ⊢
    obtain ⟨s, f, t⟩ := x
    dsimp only at *
    subst hx1
    unfold evsOf
    dsimp only
    by_cases c1 : f ≤ a
    · rw [if_neg (show ¬ (a < f ∧ f ≤ b) by omega), List.nil_append]
      by_cases c2 : t = 0
      · rw [decide_eq_true (show f ≤ a ∧ (t = 0 ∨ a < t) from ⟨c1, Or.inl c2⟩), decide_eq_true (show f ≤ b ∧ (t = 0 ∨ b < t) from ⟨by omega, Or.inl c2⟩), if_neg (show ¬ (0 < t ∧ a < t ∧ t ≤ b) by omega), none_ (Or.inl c2)]
        rfl
      · by_cases c3 : t ≤ a
        · rw [decide_eq_false (show ¬ (f ≤ a ∧ (t = 0 ∨ a < t)) by omega), decide_eq_false (show ¬ (f ≤ b ∧ (t = 0 ∨ b < t)) by omega), if_neg (show ¬ (0 < t ∧ a < t ∧ t ≤ b) by omega)]
          exact ih
        · have l1 := late a (Or.inr (by omega))
          rw [decide_eq_true (show f ≤ a ∧ (t = 0 ∨ a < t) from ⟨c1, Or.inr (by omega)⟩)]
          by_cases c4 : t ≤ b
          · rw [decide_eq_false (show ¬ (f ≤ b ∧ (t = 0 ∨ b < t)) by omega), if_pos (show 0 < t ∧ a < t ∧ t ≤ b from ⟨by omega, by omega, c4⟩)]
            rw [l1] at ih
            rw [Bool.true_or, Bool.false_or, List.singleton_append, altP, if_pos rfl, if_neg (by simp)]
            exact ih
          · rw [decide_eq_true (show f ≤ b ∧ (t = 0 ∨ b < t) from ⟨by omega, Or.inr (by omega)⟩), if_neg (show ¬ (0 < t ∧ a < t ∧ t ≤ b) by omega), none_ (Or.inr (by omega))]
            rfl
    · have l1 : (S.any fun y => holdsP y a) = false := by
        by_cases c2 : t = 0
        · exact late a (Or.inl c2)
        · exact late a (Or.inr (by omega))
      rw [l1] at ih
      rw [decide_eq_false (show ¬ (f ≤ a ∧ (t = 0 ∨ a < t)) by omega), l1, Bool.false_or]
      by_cases c5 : f ≤ b
      · rw [if_pos (show a < f ∧ f ≤ b from ⟨by omega, c5⟩)]
        by_cases c2 : t = 0
        · rw [decide_eq_true (show f ≤ b ∧ (t = 0 ∨ b < t) from ⟨c5, Or.inl c2⟩), if_neg (show ¬ (0 < t ∧ a < t ∧ t ≤ b) by omega), none_ (Or.inl c2)]
          simp [altP]
        · by_cases c4 : t ≤ b
          · rw [decide_eq_false (show ¬ (f ≤ b ∧ (t = 0 ∨ b < t)) by omega), if_pos (show 0 < t ∧ a < t ∧ t ≤ b from ⟨by omega, by omega, c4⟩)]
            rw [Bool.false_or, List.append_assoc, List.singleton_append, List.singleton_append, altP, if_pos rfl, if_neg (by simp), altP, if_pos rfl, if_neg (by simp)]
            exact ih
          · rw [decide_eq_true (show f ≤ b ∧ (t = 0 ∨ b < t) from ⟨c5, Or.inr (by omega)⟩), if_neg (show ¬ (0 < t ∧ a < t ∧ t ≤ b) by omega), none_ (Or.inr (by omega))]
            simp [altP]
      · have e1 : decide (f ≤ b ∧ (t = 0 ∨ b < t)) = false := decide_eq_false (by omega)
        rw [e1, if_neg (show ¬ (a < f ∧ f ≤ b) by omega), if_neg (show ¬ (0 < t ∧ a < t ∧ t ≤ b) by omega), Bool.false_or]
        exact ih
/-- What became of a key is what became of its spans, one behind the other. -/
theorem events_key {L : List Sp} {last : Int} (hf : FineS L last) (q : ByteArray) (a b : Int) : ((eventsP L a b).filter fun e => decide (e.2.1 = q)) = (L.filter fun x => decide (x.1 = q)).flatMap fun x => evsOf x a b := by
  refine rise_unique ((eventsP_rise L a b).filter _) ?_ ?_
  · have hat := fun x (hx : x ∈ L.filter fun x => decide (x.1 = q)) => hf.at_ x (List.mem_filter.1 hx).1
    have hq := fun x (hx : x ∈ L.filter fun x => decide (x.1 = q)) => of_decide_eq_true (List.mem_filter.1 hx).2
    have htwo := hf.two.filter (fun x => decide (x.1 = q))
    generalize (L.filter fun x => decide (x.1 = q)) = S at *
    clear hf
    induction S with
    | nil => exact List.Pairwise.nil
    | cons x S ih =>
      obtain ⟨p1, p2⟩ := List.pairwise_cons.1 htwo
      rw [List.flatMap_cons]
      have hx := hat x List.mem_cons_self
      refine List.pairwise_append.2 ⟨?_, ih (fun y hy => hat y (List.mem_cons_of_mem _ hy)) (fun y hy => hq y (List.mem_cons_of_mem _ hy)) p2, fun e he d hd => ?_⟩
      · unfold evsOf
        split
        · split
          · refine List.pairwise_cons.2 ⟨fun y hy => ?_, List.pairwise_singleton _ _⟩
            replace hy : y = (x.2.2, x.1, false) := List.mem_singleton.1 hy
            subst hy
            exact LeE.of_lt (belowE_iff.2 (Or.inl (by show x.2.1 < x.2.2; omega)))
          · exact List.pairwise_singleton _ _
        · split
          · exact List.pairwise_singleton _ _
          · exact List.Pairwise.nil
      · obtain ⟨y, hy, hd⟩ := List.mem_flatMap.1 hd
        have hxy := p1 y hy ((hq x List.mem_cons_self).trans (hq y (List.mem_cons_of_mem _ hy)).symm)
        have hy2 := hat y (List.mem_cons_of_mem _ hy)
        have k1 := hq x List.mem_cons_self
        have k2 := hq y (List.mem_cons_of_mem _ hy)
        have he1 : e.1 ≤ x.2.2 ∧ e.2.1 = q ∧ (e.1 = x.2.2 → e.2.2 = false) := by
          obtain ⟨_, rfl | ⟨_, rfl⟩⟩ := mem_evsOf.1 he
          · exact ⟨by show x.2.1 ≤ x.2.2; omega, k1, fun z => by dsimp only at z; omega⟩
          · exact ⟨Int.le_refl _, k1, fun _ => rfl⟩
        have hd1 : y.2.1 ≤ d.1 ∧ d.2.1 = q ∧ (d.1 = y.2.1 → d.2.2 = true) := by
          obtain ⟨_, rfl | ⟨_, rfl⟩⟩ := mem_evsOf.1 hd
          · exact ⟨Int.le_refl _, k2, fun _ => rfl⟩
          · exact ⟨by show y.2.1 ≤ y.2.2; omega, k2, fun z => by dsimp only at z; omega⟩
        by_cases z : e.1 < d.1
        · exact LeE.of_lt (belowE_iff.2 (Or.inl z))
        · have z1 : e.1 = d.1 := by omega
          exact LeE.of_lt (belowE_iff.2 (Or.inr ⟨z1, Or.inr ⟨he1.2.1.trans hd1.2.1.symm, he1.2.2 (by omega), hd1.2.2 (by omega)⟩⟩))
  · refine ((eventsP_perm L a b).filter _).trans ?_
    rw [List.filter_flatMap]
    clear hf
    induction L with
    | nil => exact List.Perm.refl _
    | cons x L ih =>
      rw [List.flatMap_cons, List.filter_cons]
      by_cases h : x.1 = q
      · rw [if_pos (by simpa using h), List.flatMap_cons]
        refine List.Perm.append ?_ ih
        rw [List.filter_eq_self.2 fun e he => ?_]
        rcases (mem_evsOf.1 he).2 with rfl | ⟨_, rfl⟩ <;> simpa using h
      · rw [if_neg (by simpa using h), List.filter_eq_nil_iff.2 fun e he => ?_, List.nil_append]
        · exact ih
        · rcases (mem_evsOf.1 he).2 with rfl | ⟨_, rfl⟩ <;> simpa using h
/-- A key of a revision, with what became of it up to a later one. -/
theorem altP_events {L : List Sp} {last : Int} (hf : FineS L last) (q : ByteArray) {a b : Int} (hab : a ≤ b) : altP q (hasP L q a) (eventsP L a b) = some (hasP L q b) := by
  have hh : ∀ c : Int, hasP L q c = (L.filter fun x => decide (x.1 = q)).any fun x => holdsP x c := fun c => by
    unfold hasP
    rw [List.any_filter]
    congr 1
    funext x
    rw [Bool.and_comm]
  rw [← altP_filter, events_key hf, hh, hh]
  refine altP_key q hab _ (fun x hx => ?_) (fun x hx => (hf.at_ x (List.mem_filter.1 hx).1).1) ?_
  · have := hf.at_ x (List.mem_filter.1 hx).1
    exact ⟨of_decide_eq_true (List.mem_filter.1 hx).2, by omega⟩
  · refine (List.Pairwise.and_mem.1 (hf.two.filter _)).imp ?_
    rintro x y ⟨hx, hy, h⟩
    exact h ((of_decide_eq_true (List.mem_filter.1 hx).2).trans (of_decide_eq_true (List.mem_filter.1 hy).2).symm)
end Go.Proofs.Ytmdhollegemlhaa
