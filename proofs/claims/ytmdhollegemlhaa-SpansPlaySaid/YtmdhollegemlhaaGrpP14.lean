/- Layer 14, plainly: spans by their keys, told key by key. Conditions: none; nothing of the program is named here. -/
import Derived.Test.YtmdhollegemlhaaEvP14
namespace Go.Proofs.Ytmdhollegemlhaa

/-- From where on, and where it ended. -/
abbrev Iv := Int × Int
/-- A key's spans, in order. -/
def ofK (L : List Sp) (k : ByteArray) : List Iv := (L.filter fun x => decide (x.1 = k)).map (·.2)
theorem ofK_nil (k : ByteArray) : ofK [] k = [] := rfl
theorem ofK_app (L M : List Sp) (k : ByteArray) : ofK (L ++ M) k = ofK L k ++ ofK M k := by unfold ofK; rw [List.filter_append, List.map_append]
theorem ofK_one (x : Sp) (k : ByteArray) : ofK [x] k = if x.1 = k then [x.2] else [] := by
  unfold ofK
  by_cases h : x.1 = k
  · rw [if_pos h, List.filter_cons, if_pos (by simpa using h)]; rfl
  · rw [if_neg h, List.filter_cons, if_neg (by simpa using h)]; rfl
theorem ofK_cons (x : Sp) (L : List Sp) (k : ByteArray) : ofK (x :: L) k = (if x.1 = k then [x.2] else []) ++ ofK L k := by rw [← ofK_one, ← ofK_app]; rfl
theorem mem_ofK {L : List Sp} {k : ByteArray} {y : Iv} : y ∈ ofK L k ↔ (k, y) ∈ L := by
  unfold ofK
  rw [List.mem_map]
  constructor
  · rintro ⟨x, hx, rfl⟩
    obtain ⟨h1, h2⟩ := List.mem_filter.1 hx
    rw [decide_eq_true_eq] at h2
    rw [← h2]
    exact h1
  · intro h
    exact ⟨(k, y), List.mem_filter.2 ⟨h, by simp⟩, rfl⟩
theorem ofK_len (L : List Sp) (k : ByteArray) : (ofK L k).length ≤ L.length := by
  unfold ofK
  rw [List.length_map]
  exact List.length_filter_le _ _
theorem ofK_none {L : List Sp} {k : ByteArray} : ofK L k = [] ↔ ∀ x ∈ L, x.1 ≠ k := by
  rw [List.eq_nil_iff_forall_not_mem]
  constructor
  · rintro h ⟨k', y⟩ hx rfl
    exact h y (mem_ofK.2 hx)
  · intro h y hy
    exact h _ (mem_ofK.1 hy) rfl
theorem ofK_filter (L : List Sp) (p : Sp → Bool) (k : ByteArray) : ofK (L.filter p) k = (ofK L k).filter fun y => p (k, y) := by
  induction L with
  | nil => rfl
  | cons x L ih =>
    rw [List.filter_cons, ofK_cons, List.filter_append, ← ih]
    by_cases h : x.1 = k
    · subst h
      rw [if_pos rfl]
      cases q : p x with
      | true => rw [if_pos rfl, ofK_cons, if_pos rfl, List.filter_cons, if_pos q]; rfl
      | false => rw [if_neg (by decide), List.filter_cons, if_neg (by rw [q]; decide)]; rfl
    · rw [if_neg h]
      cases q : p x with
      | true => rw [if_pos rfl, ofK_cons, if_neg h]; rfl
      | false => rw [if_neg (by decide)]; rfl
/-- A key's spans, with the key. -/
def withK (L : List Sp) (k : ByteArray) : List Sp := (ofK L k).map fun y => (k, y)
theorem withK_eq (L : List Sp) (k : ByteArray) : withK L k = L.filter fun x => decide (x.1 = k) := by
  unfold withK ofK
  rw [List.map_map]
  conv => rhs; rw [← List.map_id (L.filter _)]
  refine List.map_congr_left fun x hx => ?_
  have := (List.mem_filter.1 hx).2
  rw [decide_eq_true_eq] at this
  show (k, x.2) = x
  rw [← this]
theorem withK_filter {L : List Sp} {k c : ByteArray} (h : k ≠ c) : withK (L.filter fun x => !decide (x.1 = c)) k = withK L k := by
  rw [withK_eq, withK_eq, List.filter_filter]
  refine List.filter_congr fun x _ => ?_
  by_cases e : x.1 = k
  · rw [decide_eq_true e, Bool.true_and, e, decide_eq_false h]; rfl
  · rw [decide_eq_false e]; rfl
/-- Told key by key: all keys that there are, each once. -/
theorem told_perm : ∀ {ks : List ByteArray} {L : List Sp}, ks.Nodup → (∀ x ∈ L, x.1 ∈ ks) → (ks.flatMap (withK L)).Perm L
  | [], L, _, h => by
    have : L = [] := List.eq_nil_iff_forall_not_mem.2 fun x hx => by cases h x hx
    subst this
    exact List.Perm.refl _
  | k :: ks, L, hn, h => by
    obtain ⟨h1, h2⟩ := List.nodup_cons.1 hn
    rw [List.flatMap_cons]
    have e : ks.flatMap (withK L) = ks.flatMap (withK (L.filter fun x => !decide (x.1 = k))) := by
      rw [List.flatMap_def, List.flatMap_def]
      congr 1
      refine List.map_congr_left fun c hc => (withK_filter fun e => h1 (by rw [← e]; exact hc)).symm
    rw [e]
    have hp := told_perm (L := L.filter fun x => !decide (x.1 = k)) h2 fun x hx => by
      obtain ⟨a, b⟩ := List.mem_filter.1 hx
      rcases List.mem_cons.1 (h x a) with q | q
      · rw [decide_eq_true q] at b; cases b
      · exact q
    refine (hp.append_left _).trans ?_
    rw [withK_eq]
    exact List.filter_append_perm _ L
theorem ofK_withK (L : List Sp) (k c : ByteArray) : ofK (withK L k) c = if k = c then ofK L c else [] := by
  by_cases h : k = c
  · subst h
    rw [if_pos rfl, withK_eq]
    unfold ofK
    rw [List.filter_filter]
    congr 1
    exact List.filter_congr fun x _ => by rw [Bool.and_self]
  · rw [if_neg h, ofK_none]
    intro x hx e
    unfold withK at hx
    obtain ⟨y, _, rfl⟩ := List.mem_map.1 hx
    exact h e
/-- Each key's spans are told in order. -/
theorem ofK_told : ∀ {ks : List ByteArray} {L : List Sp}, ks.Nodup → (∀ x ∈ L, x.1 ∈ ks) → ∀ c, ofK (ks.flatMap (withK L)) c = ofK L c := by
  intro ks L hn h c
  have key : ∀ ks : List ByteArray, ks.Nodup → (c ∈ ks → ofK (ks.flatMap (withK L)) c = ofK L c) ∧ (c ∉ ks → ofK (ks.flatMap (withK L)) c = []) := by
    intro ks
    induction ks with
    | nil => intro _; exact ⟨fun h => (by cases h), fun _ => rfl⟩
    | cons k ks ih =>
      intro hn
      obtain ⟨h1, h2⟩ := List.nodup_cons.1 hn
      obtain ⟨i1, i2⟩ := ih h2
      rw [List.flatMap_cons, ofK_app, ofK_withK]
      by_cases e : k = c
      · subst e
        rw [if_pos rfl, i2 h1, List.append_nil]
        exact ⟨fun _ => rfl, fun z => absurd List.mem_cons_self z⟩
      · rw [if_neg e, List.nil_append]
        refine ⟨fun z => ?_, fun z => i2 fun q => z (List.mem_cons_of_mem _ q)⟩
        rcases List.mem_cons.1 z with z | z
        · exact absurd z.symm e
        · exact i1 z
  obtain ⟨i1, i2⟩ := key ks hn
  rcases Classical.em (c ∈ ks) with q | q
  · exact i1 q
  · rw [i2 q]
    exact ((ofK_none (k := c)).2 fun x hx e => q (by rw [← e]; exact h x hx)).symm

/-! what is told in any order -/
theorem countP_perm {L M : List Sp} (h : L.Perm M) (r : Int) : countP L r = countP M r := (h.filter _).length_eq
theorem lessO_comm (b : Option ByteArray) (x y : ByteArray) : lessO (lessO b x) y = lessO (lessO b y) x := by
  have two : ∀ x y : ByteArray, (if kl y x then some y else some x) = (if kl x y then some x else some y) := fun x y => by
    cases p : kl y x with
    | true =>
      cases q : kl x y with
      | true => rw [kl_asym p] at q; cases q
      | false => rfl
    | false =>
      cases q : kl x y with
      | true => rfl
      | false => rw [if_neg (by decide), if_neg (by decide), kl_tri p q]
  cases b with
  | none => exact two x y
  | some c =>
    show lessO (if kl x c then some x else some c) y = lessO (if kl y c then some y else some c) x
    cases p : kl x c with
    | true =>
      cases q : kl y c with
      | true =>
        rw [if_pos rfl, if_pos rfl]
        exact two x y
      | false =>
        rw [if_pos rfl, if_neg (by decide)]
        show (if kl y x then some y else some x) = (if kl x c then some x else some c)
        rw [p, if_pos rfl, if_neg]
        intro z
        rw [kl_trans z p] at q
        cases q
    | false =>
      rw [if_neg (by decide)]
      cases q : kl y c with
      | true =>
        rw [if_pos rfl]
        show (if kl y c then some y else some c) = (if kl x y then some x else some y)
        rw [q, if_pos rfl, if_neg]
        intro z
        rw [kl_trans z q] at p
        cases p
      | false =>
        rw [if_neg (by decide)]
        show (if kl y c then some y else some c) = (if kl x c then some x else some c)
        rw [p, q]
        rfl
theorem nextP_perm {L M : List Sp} (h : L.Perm M) (r : Int) (lo hi : ByteArray) : nextP L r lo hi = nextP M r lo hi := by
  unfold nextP
  refine h.foldl_eq' (fun x _ y _ b => ?_) none
  by_cases p : (holdsP x r && within lo hi x.1) = true
  · by_cases q : (holdsP y r && within lo hi y.1) = true
    · rw [if_pos p, if_pos q, if_pos q, if_pos p, lessO_comm]
    · rw [if_neg q, if_neg q, if_pos p]
  · rw [if_neg p]
    by_cases q : (holdsP y r && within lo hi y.1) = true
    · rw [if_pos q, if_neg p]
    · rw [if_neg q, if_neg p]
/-- What the program gathers of each. -/
def evsP (x : Sp) (a b : Int) : List Ev := (if a < x.2.1 ∧ x.2.1 ≤ b then [(x.2.1, x.1, true)] else []) ++ (if x.2.2 ≠ 0 ∧ a < x.2.2 ∧ x.2.2 ≤ b then [(x.2.2, x.1, false)] else [])
theorem evsP_eq {L : List Sp} {last : Int} (h : FineS L last) {x : Sp} (hx : x ∈ L) (a b : Int) : evsP x a b = evsOf x a b := by
  have := h.at_ x hx
  unfold evsP evsOf
  congr 1
  refine ite_congr (propext ?_) (fun _ => rfl) (fun _ => rfl)
  omega
theorem eventsP_told {L ys : List Sp} {last a b : Int} (h : FineS L last) (hp : ys.Perm L) {zs : List Ev} (hz : zs.Perm (ys.flatMap fun x => evsP x a b)) (hr : RiseE zs) : zs = eventsP L a b := by
  refine rise_unique hr (eventsP_rise L a b) (hz.trans (List.Perm.trans ?_ (eventsP_perm L a b).symm))
  refine (hp.flatMap_right _).trans ?_
  rw [List.flatMap_def, List.flatMap_def, List.map_congr_left fun x hx => evsP_eq h hx a b]
  
theorem trim_told {L ys : List Sp} (r : Int) (hp : ys.Perm L) : (ys.filter (keptB r)).length = (trimP L r).length := (hp.filter _).length_eq

/-! a key's last span -/
def openR (l : List Iv) : Bool := match l.getLast? with
  | some x => decide (x.2 = 0)
  | none => false
theorem openR_snoc (l : List Iv) (x : Iv) : openR (l ++ [x]) = decide (x.2 = 0) := by
  unfold openR
  rw [List.getLast?_concat]
/-- A key's span that didn't end is its last one. -/
theorem open_last {L : List Sp} {last : Int} (hf : FineS L last) {i : Nat} {x : Sp} (hi : L[i]? = some x) (h0 : x.2.2 = 0) : ofK L x.1 = ofK (L.take i) x.1 ++ [x.2] ∧ ∀ y, ofK (L.set i (x.1, y)) x.1 = ofK (L.take i) x.1 ++ [y] := by
  obtain ⟨hl, hxi⟩ := List.getElem?_eq_some_iff.1 hi
  have hL : L = L.take i ++ x :: L.drop (i + 1) := by rw [← hxi, ← List.drop_eq_getElem_cons hl, List.take_append_drop]
  have hset : ∀ z, L.set i z = L.take i ++ z :: L.drop (i + 1) := fun z => by rw [List.set_eq_take_append_cons_drop, if_pos hl]
  have htwo := hf.two
  rw [hL] at htwo
  have hq : ofK (L.drop (i + 1)) x.1 = [] := ofK_none.2 fun y hy e => by
    have := (List.pairwise_cons.1 (List.pairwise_append.1 htwo).2.1).1 y hy e.symm
    exact this.1 h0
  constructor
  · conv => lhs; rw [hL]
    rw [ofK_app, ofK_cons, if_pos rfl, hq, List.append_nil]
  · intro y
    rw [hset, ofK_app, ofK_cons, if_pos rfl, hq, List.append_nil]
theorem set_other {L : List Sp} {i : Nat} {x : Sp} (hi : L[i]? = some x) {k : ByteArray} (h : x.1 ≠ k) (y : Iv) : ofK (L.set i (x.1, y)) k = ofK L k := by
  obtain ⟨hl, hxi⟩ := List.getElem?_eq_some_iff.1 hi
  have hL : L = L.take i ++ x :: L.drop (i + 1) := by rw [← hxi, ← List.drop_eq_getElem_cons hl, List.take_append_drop]
  rw [List.set_eq_take_append_cons_drop, if_pos hl]
  conv => rhs; rw [hL]
  rw [ofK_app, ofK_app, ofK_cons, ofK_cons, if_neg h, if_neg h]
theorem openR_ofK {L : List Sp} {last : Int} (hf : FineS L last) (k : ByteArray) : openR (ofK L k) = decide (0 ≤ openP L k) := by
  by_cases h : openP L k < 0
  · rw [decide_eq_false (by omega)]
    have hn := openP_no h
    unfold openR
    cases e : (ofK L k).getLast? with
    | none => rfl
    | some y =>
      have hy := mem_ofK.1 (List.mem_of_getLast? e)
      exact decide_eq_false (hn _ hy rfl)
  · rw [decide_eq_true (by omega)]
    obtain ⟨i, x, _, hi, rfl, h0⟩ := openP_at h
    rw [(open_last hf hi h0).1, openR_snoc, decide_eq_true h0]
/-- What a key's row says of Put. -/
theorem putP_row {L : List Sp} {last : Int} (hf : FineS L last) (k : ByteArray) (r : Int) : putP L last k r = if r < 1 ∨ r < last ∨ openR (ofK L k) = true then none else some (L ++ [(k, r, 0)]) := by
  unfold putP
  refine ite_congr (propext ?_) (fun _ => rfl) (fun _ => rfl)
  rw [openR_ofK hf, decide_eq_true_eq]
theorem ofK_put (L : List Sp) (k c : ByteArray) (r : Int) : ofK (L ++ [(k, r, 0)]) c = if k = c then ofK L c ++ [(r, 0)] else ofK L c := by
  rw [ofK_app, ofK_one]
  by_cases h : k = c
  · rw [if_pos h, if_pos h]
  · rw [if_neg h, if_neg h, List.append_nil]
/-- .. and of Drop. -/
inductive DropIs (L : List Sp) (last : Int) (k : ByteArray) (r : Int) : Prop
  | no (h : dropP L last k r = none) (hr : r < last ∨ openR (ofK L k) = false)
  | late (l : List Iv) (f : Int) (h : dropP L last k r = none) (hl : ¬ r < last) (hk : ofK L k = l ++ [(f, 0)]) (hr : r ≤ f)
  | yes (l : List Iv) (f : Int) (L' : List Sp) (h : dropP L last k r = some L') (hl : ¬ r < last) (hk : ofK L k = l ++ [(f, 0)]) (hr : ¬ r ≤ f) (hk' : ofK L' k = l ++ [(f, r)]) (ho : ∀ c, k ≠ c → ofK L' c = ofK L c) (hn : L'.length = L.length) (hm : ∀ x ∈ L', x.1 = k ∨ x ∈ L)
theorem drop_is {L : List Sp} {last : Int} (hf : FineS L last) (k : ByteArray) (r : Int) : DropIs L last k r := by
  by_cases h1 : r < last
  · exact .no (by unfold dropP; rw [if_pos (Or.inl h1)]) (Or.inl h1)
  · by_cases h2 : openP L k < 0
    · exact .no (by unfold dropP; rw [if_pos (Or.inr (Or.inl h2))]) (Or.inr (by rw [openR_ofK hf, decide_eq_false (by omega)]))
    · obtain ⟨i, x, hi1, hi2, rfl, h0⟩ := openP_at h2
      obtain ⟨e1, e2⟩ := open_last hf hi2 h0
      have e3 : x.2 = (x.2.1, 0) := Prod.ext rfl h0
      rw [e3] at e1
      by_cases h3 : r ≤ x.2.1
      · refine .late _ x.2.1 ?_ h1 e1 h3
        unfold dropP
        rw [if_pos (Or.inr (Or.inr ?_))]
        rw [hi1, show ((i : Int)).toNat = i from rfl, hi2]
        exact h3
      · refine .yes _ x.2.1 (L.set i (x.1, x.2.1, r)) ?_ h1 e1 h3 (e2 _) (fun c hc => set_other hi2 hc _) (by simp) fun y hy => ?_
        · unfold dropP
          rw [if_neg]
          · rw [hi1, show ((i : Int)).toNat = i from rfl]
            unfold endAt
            rw [hi2]
          · rw [hi1, show ((i : Int)).toNat = i from rfl, hi2]
            rintro (z | z | z)
            · exact h1 z
            · omega
            · exact h3 z
        · rcases List.mem_or_eq_of_mem_set hy with h | h
          · exact Or.inr h
          · exact Or.inl (by rw [h])
/-- Has, by a key's row. -/
theorem hasP_row (L : List Sp) (k : ByteArray) (r : Int) : hasP L k r = (ofK L k).any fun y => holdsP (k, y) r := by
  unfold hasP
  induction L with
  | nil => rfl
  | cons x L ih =>
    rw [List.any_cons, ofK_cons, List.any_append, ih]
    congr 1
    by_cases h : x.1 = k
    · subst h
      rw [if_pos rfl, decide_eq_true rfl, Bool.and_true, List.any_cons, List.any_nil, Bool.or_false]
    · rw [if_neg h, decide_eq_false h, Bool.and_false]; rfl
end Go.Proofs.Ytmdhollegemlhaa
