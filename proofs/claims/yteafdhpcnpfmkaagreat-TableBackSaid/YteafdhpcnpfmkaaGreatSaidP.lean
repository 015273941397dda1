/- Layer 10: what stands behind a Not, of a rewrite that is a tree, as plain words: by sums of differences, and by going through what each Not takes away. Conditions: none; nothing of the program is named here. -/
import Derived.Test.YteafdhpcnpfmkaaGreatGoodF
import Derived.Test.YteafdhpcnpfmkaaGreatEdgeP
import Derived.Test.YteafdhpcnpfmkaaGreatSortW
import Derived.Test.YteafdhpcnpfmkaaGreatChk
import Derived.Test.YteafdhpcnpfmkaaGreatSchW
import Derived.Test.YteafdhpcnpfmkaaGreatWordsF
namespace Go.Proofs.YteafdhpcnpfmkaaGreat

/-- An operation with its kind as a number of the program. -/
def opZ (o : OpP) : OpI := ((o.1 : Int), o.2.1, o.2.2)
def Ex.len (t : Ex) : Nat := t.ops.length
theorem Ex.len_bin (k : Nat) (a b : Ex) : (Ex.bin k a b).len = a.len + b.len + 1 := by simp [Ex.len, Ex.ops]; omega
theorem Ex.len_pos (t : Ex) : 0 < t.len := by cases t <;> simp [Ex.len, Ex.ops] <;> omega
/-- How many Nots take an operation away. -/
def Ex.cnt : Ex → Nat → Nat
  | .bin k a b, p => if p < a.len then a.cnt p else if p < a.len + b.len then b.cnt (p - a.len) + (if k = 6 then 1 else 0) else 0
  | _, _ => 0
/-- Where what a sign joins to the part ahead begins. -/
def Ex.bgn : Ex → Nat → Nat
  | .bin _ a b, i => if i < a.len then a.bgn i else if i < a.len + b.len then a.len + b.bgn (i - a.len) else a.len
  | _, _ => 0
def Ex.kd (t : Ex) (i : Nat) : Nat := (t.ops.getD i (0, ⟨#[]⟩, ⟨#[]⟩)).1
theorem Ex.kd_l {k : Nat} {a b : Ex} {i : Nat} (h : i < a.len) : (Ex.bin k a b).kd i = a.kd i := by
  unfold Ex.kd
  rw [Ex.ops, List.getD_eq_getElem?_getD, List.getD_eq_getElem?_getD, List.append_assoc, List.getElem?_append_left h]
theorem Ex.kd_r {k : Nat} {a b : Ex} {i : Nat} (h : a.len ≤ i) (h2 : i < a.len + b.len) : (Ex.bin k a b).kd i = b.kd (i - a.len) := by
  unfold Ex.kd Ex.len at *
  rw [Ex.ops, List.getD_eq_getElem?_getD, List.getD_eq_getElem?_getD, List.append_assoc, List.getElem?_append_right h, List.getElem?_append_left (by omega)]
theorem Ex.kd_o {k : Nat} {a b : Ex} : (Ex.bin k a b).kd (a.len + b.len) = k := by
  unfold Ex.kd Ex.len at *
  rw [Ex.ops, List.getD_eq_getElem?_getD, List.getElem?_append_right (by simp)]
  simp [opK]
theorem Ex.cnt_has : ∀ (t : Ex) (p : Nat), 0 < t.cnt p ↔ ∃ i, p < i ∧ i < t.len ∧ t.kd i = 6 ∧ t.bgn i ≤ p
  | .this, p => ⟨fun h => by simp [Ex.cnt] at h, fun ⟨i, h1, h2, _⟩ => by simp [Ex.len, Ex.ops] at h2; omega⟩
  | .same n, p => ⟨fun h => by simp [Ex.cnt] at h, fun ⟨i, h1, h2, _⟩ => by simp [Ex.len, Ex.ops] at h2; omega⟩
  | .via n m, p => ⟨fun h => by simp [Ex.cnt] at h, fun ⟨i, h1, h2, _⟩ => by simp [Ex.len, Ex.ops] at h2; omega⟩
  | .bin k a b, p => by
    have iha := Ex.cnt_has a p
    have ihb := Ex.cnt_has b (p - a.len)
    have hl := Ex.len_bin k a b
    constructor
    · intro h
      rw [Ex.cnt] at h
      by_cases h1 : p < a.len
      · rw [if_pos h1] at h
        obtain ⟨i, i1, i2, i3, i4⟩ := iha.1 h
        exact ⟨i, i1, by omega, by rw [Ex.kd_l i2]; exact i3, by rw [Ex.bgn, if_pos i2]; exact i4⟩
      · rw [if_neg h1] at h
        by_cases h2 : p < a.len + b.len
        · rw [if_pos h2] at h
          by_cases h3 : k = 6
          · exact ⟨a.len + b.len, h2, by omega, by rw [Ex.kd_o]; exact h3, by rw [Ex.bgn, if_neg (by omega), if_neg (by omega)]; omega⟩
          · rw [if_neg h3] at h
            obtain ⟨i, i1, i2, i3, i4⟩ := ihb.1 h
            refine ⟨a.len + i, by omega, by omega, ?_, ?_⟩
            · rw [Ex.kd_r (by omega) (by omega), Nat.add_sub_cancel_left]; exact i3
            · rw [Ex.bgn, if_neg (by omega), if_pos (by omega), Nat.add_sub_cancel_left]; omega
        · rw [if_neg h2] at h; omega
    · rintro ⟨i, i1, i2, i3, i4⟩
      rw [Ex.cnt]
      rw [Ex.bgn] at i4
      by_cases h1 : i < a.len
      · rw [if_pos h1] at i4
        rw [if_pos (by omega)]
        exact iha.2 ⟨i, i1, h1, by rw [← Ex.kd_l h1]; exact i3, i4⟩
      · rw [if_neg h1] at i4
        by_cases h2 : i < a.len + b.len
        · rw [if_pos h2] at i4
          rw [if_neg (by omega), if_pos (by omega)]
          have := ihb.2 ⟨i - a.len, by omega, by omega, by rw [← Ex.kd_r (by omega) h2]; exact i3, by omega⟩
          omega
        · rw [if_neg h2] at i4
          obtain rfl : i = a.len + b.len := by omega
          rw [Ex.kd_o] at i3
          rw [if_neg (by omega), if_pos (by omega), if_pos i3]
          omega
/-- What a sign joins is a tree of its own. -/
theorem Ex.sub_at : ∀ (t : Ex), t.good → ∀ i, i < t.len → 4 ≤ t.kd i → ∃ (pre : List OpP) (b : Ex) (post : List OpP), t.ops = pre ++ b.ops ++ post ∧ b.good ∧ pre.length = t.bgn i ∧ pre.length + b.len = i
  | .this, _, i, hi, h => by simp [Ex.len, Ex.ops] at hi; subst hi; simp [Ex.kd, Ex.ops] at h
  | .same n, _, i, hi, h => by simp [Ex.len, Ex.ops] at hi; subst hi; simp [Ex.kd, Ex.ops] at h
  | .via n m, _, i, hi, h => by simp [Ex.len, Ex.ops] at hi; subst hi; simp [Ex.kd, Ex.ops] at h
  | .bin k a b, hg, i, hi, h => by
    obtain ⟨_, ga, gb⟩ := hg
    rw [Ex.len_bin] at hi
    rw [Ex.bgn]
    by_cases h1 : i < a.len
    · rw [Ex.kd_l h1] at h
      obtain ⟨pre, c, post, e, g, h2, h3⟩ := Ex.sub_at a ga i h1 h
      refine ⟨pre, c, post ++ (b.ops ++ [opK k]), by rw [Ex.ops, e]; simp, g, by rw [if_pos h1]; exact h2, h3⟩
    · by_cases h2 : i < a.len + b.len
      · rw [Ex.kd_r (by omega) h2] at h
        obtain ⟨pre, c, post, e, g, h4, h3⟩ := Ex.sub_at b gb (i - a.len) (by omega) h
        refine ⟨a.ops ++ pre, c, post ++ [opK k], by rw [Ex.ops, e]; simp, g, ?_, ?_⟩
        · rw [if_neg h1, if_pos h2, List.length_append, h4]; rfl
        · rw [List.length_append]; unfold Ex.len at *; omega
      · obtain rfl : i = a.len + b.len := by omega
        exact ⟨a.ops, b, [opK k], by rw [Ex.ops], gb, by rw [if_neg h1, if_neg h2]; rfl, rfl⟩

/-! by sums of differences -/
def sumTo (m : List Int) (p : Nat) : Int := (m.take p).sum
theorem sumTo_add {m : List Int} {q : Nat} {d : Int} : ∀ {p : Nat}, q < m.length → sumTo (addAt m q d) p = sumTo m p + if q < p then d else 0 := by
  unfold sumTo addAt
  induction m generalizing q with
  | nil => intro p h; simp at h
  | cons x t ih =>
    intro p h
    cases p with
    | zero => simp
    | succ p =>
      cases q with
      | zero => simp; omega
      | succ q =>
        have := ih (q := q) (p := p) (by simpa using h)
        simp only [List.set_cons_succ, List.take_succ_cons, List.sum_cons, List.getD_cons_succ, this]
        by_cases e : q < p
        · rw [if_pos e, if_pos (by omega)]; omega
        · rw [if_neg e, if_neg (by omega)]; omega
theorem sumTo_succ {m : List Int} {p : Nat} (h : p < m.length) : sumTo m (p + 1) = sumTo m p + m.getD p 0 := by
  unfold sumTo
  rw [List.take_add_one, List.sum_append, List.getD_eq_getElem?_getD, List.getElem?_eq_getElem h]
  simp
theorem psum_at (m : List Int) : ∀ (j i : Nat), j < m.length → (psum m j).getD i 0 = if i ≤ j then sumTo m (i + 1) else m.getD i 0
  | 0, i, h => by
    by_cases e : i ≤ 0
    · obtain rfl : i = 0 := by omega
      rw [if_pos e, sumTo_succ h, psum]
      simp [sumTo]
    · rw [if_neg e, psum]
  | j + 1, i, h => by
    have h1 := psum_at m j (j + 1) (by omega)
    have h2 := psum_at m j j (by omega)
    have h3 := psum_at m j i (by omega)
    rw [if_neg (by omega)] at h1
    rw [if_pos (Nat.le_refl _)] at h2
    rw [psum, List.getD_eq_getElem?_getD]
    by_cases e : j + 1 = i
    · subst e
      rw [List.getElem?_set_self (by rw [psum_len]; exact h), if_pos (Nat.le_refl _), Option.getD_some, h1, h2, sumTo_succ h]
      omega
    · rw [List.getElem?_set_ne e, ← List.getD_eq_getElem?_getD, h3]
      by_cases e2 : i ≤ j
      · rw [if_pos e2, if_pos (by omega)]
      · rw [if_neg e2, if_neg (by omega)]
theorem mrun_app (s : List Int × List Nat) (i : Nat) (a b : List OpI) : mrun s i (a ++ b) = mrun (mrun s i a) (i + a.length) b := by
  induction a generalizing s i with
  | nil => rfl
  | cons x t ih => rw [List.cons_append, mrun, ih, mrun, List.length_cons, Nat.add_right_comm, ← Nat.add_assoc]
theorem opsZ_len (t : Ex) : (t.ops.map opZ).length = t.len := List.length_map _
theorem mrun_tree : ∀ (t : Ex) (m : List Int) (bg : List Nat) (i0 : Nat), t.good → i0 + t.len ≤ m.length →
    ∃ m', mrun (m, bg) i0 (t.ops.map opZ) = (m', bg ++ [i0]) ∧ m'.length = m.length ∧ ∀ p, sumTo m' (p + 1) = sumTo m (p + 1) + if i0 ≤ p ∧ p < i0 + t.len then (t.cnt (p - i0) : Int) else 0
  | .this, m, bg, i0, _, _ => ⟨m, rfl, rfl, fun p => by simp [Ex.cnt]⟩
  | .same n, m, bg, i0, _, _ => ⟨m, rfl, rfl, fun p => by simp [Ex.cnt]⟩
  | .via n n2, m, bg, i0, _, _ => ⟨m, rfl, rfl, fun p => by simp [Ex.cnt]⟩
  | .bin k a b, m, bg, i0, hg, hl => by
    obtain ⟨hk, ga, gb⟩ := hg
    rw [Ex.len_bin] at hl
    obtain ⟨m1, r1, l1, s1⟩ := mrun_tree a m bg i0 ga (by omega)
    obtain ⟨m2, r2, l2, s2⟩ := mrun_tree b m1 (bg ++ [i0]) (i0 + a.len) gb (by omega)
    have hops : (Ex.bin k a b).ops.map opZ = a.ops.map opZ ++ (b.ops.map opZ ++ [opZ (opK k)]) := by rw [Ex.ops]; simp
    have hst : mrun (m, bg) i0 ((Ex.bin k a b).ops.map opZ) = mstep (m2, bg ++ [i0] ++ [i0 + a.len]) (i0 + a.len + b.len) (k : Int) := by
      rw [hops, mrun_app, r1, opsZ_len, mrun_app, r2, opsZ_len]
      rfl
    have hlen : (bg ++ [i0] ++ [i0 + a.len]).length = bg.length + 2 := by simp
    have hlast : (bg ++ [i0] ++ [i0 + a.len]).getD ((bg ++ [i0] ++ [i0 + a.len]).length - 1) 0 = i0 + a.len := by
      rw [hlen, List.getD_eq_getElem?_getD, List.getElem?_append_right (by simp)]
      simp
    have htake : (bg ++ [i0] ++ [i0 + a.len]).take ((bg ++ [i0] ++ [i0 + a.len]).length - 1) = bg ++ [i0] := by
      rw [hlen, List.take_append_of_le_length (by simp)]
      exact List.take_of_length_le (by simp)
    have hcnt : ∀ p, i0 ≤ p → (Ex.bin k a b).cnt (p - i0) = if p < i0 + a.len then a.cnt (p - i0) else if p < i0 + a.len + b.len then b.cnt (p - (i0 + a.len)) + (if k = 6 then 1 else 0) else 0 := fun p hp => by
      rw [Ex.cnt]
      by_cases h1 : p < i0 + a.len
      · rw [if_pos h1, if_pos (by omega)]
      · rw [if_neg h1, if_neg (by omega)]
        by_cases h2 : p < i0 + a.len + b.len
        · rw [if_pos h2, if_pos (by omega), show p - i0 - a.len = p - (i0 + a.len) by omega]
        · rw [if_neg h2, if_neg (by omega)]
    rw [hst]
    unfold mstep
    dsimp only
    rw [if_neg (by omega), if_pos (by omega), if_neg (by rw [hlen]; omega), hlast, htake, Ex.len_bin]
    by_cases h6 : k = 6
    · subst h6
      rw [if_pos (by rfl)]
      refine ⟨_, rfl, by rw [addAt_len, addAt_len]; omega, fun p => ?_⟩
      rw [sumTo_add (by rw [addAt_len]; omega), sumTo_add (by omega), s2, s1]
      by_cases c0 : i0 ≤ p
      · have hc := hcnt p c0
        by_cases c1 : p < i0 + a.len
        · rw [if_pos c1] at hc
          rw [hc, if_pos ⟨c0, c1⟩, if_neg (by omega), if_neg (by omega), if_neg (by omega), if_pos ⟨c0, by omega⟩]
          omega
        · rw [if_neg c1] at hc
          by_cases c2 : p < i0 + a.len + b.len
          · rw [if_pos c2, if_pos rfl] at hc
            rw [hc, if_neg (by omega), if_pos ⟨by omega, c2⟩, if_pos (by omega), if_neg (by omega), if_pos ⟨c0, by omega⟩]
            omega
          · rw [if_neg c2] at hc
            rw [hc, if_neg (by omega), if_neg (by omega), if_pos (by omega), if_pos (by omega)]
            by_cases c3 : p < i0 + (a.len + b.len + 1)
            · rw [if_pos ⟨c0, c3⟩]; omega
            · rw [if_neg (by omega)]; omega
      · rw [if_neg (by omega), if_neg (by omega), if_neg (by omega), if_neg (by omega), if_neg (by omega)]
        omega
    · rw [if_neg (by omega)]
      refine ⟨_, rfl, by omega, fun p => ?_⟩
      rw [s2, s1]
      by_cases c0 : i0 ≤ p
      · have hc := hcnt p c0
        by_cases c1 : p < i0 + a.len
        · rw [if_pos c1] at hc
          rw [hc, if_pos ⟨c0, c1⟩, if_neg (by omega), if_pos ⟨c0, by omega⟩]
          omega
        · rw [if_neg c1] at hc
          by_cases c2 : p < i0 + a.len + b.len
          · rw [if_pos c2, if_neg h6] at hc
            rw [hc, if_neg (by omega), if_pos ⟨by omega, c2⟩, if_pos ⟨c0, by omega⟩]
            omega
          · rw [if_neg c2] at hc
            rw [hc, if_neg (by omega), if_neg (by omega)]
            by_cases c3 : p < i0 + (a.len + b.len + 1)
            · rw [if_pos ⟨c0, c3⟩]; omega
            · rw [if_neg (by omega)]; omega
      · rw [if_neg (by omega), if_neg (by omega), if_neg (by omega)]
        omega
theorem sumTo_zeros (n p : Nat) : sumTo (List.replicate n 0) p = 0 := by
  unfold sumTo
  rw [List.take_replicate, List.sum_replicate_int]
  simp
/-- Both say the same. -/
theorem behind_tree {t : Ex} (hg : t.good) {p : Nat} (hp : p < t.len) : behindP (t.ops.map opZ) p = decide (0 < t.cnt p) := by
  unfold behindP moreP
  rw [opsZ_len]
  obtain ⟨m', h1, h2, h3⟩ := mrun_tree t (List.replicate (t.len + 1) 0) [] 0 hg (by simp)
  rw [h1]
  have hl : t.len < m'.length := by rw [h2]; simp
  dsimp only
  rw [psum_at m' t.len p hl, if_pos (by omega), h3, sumTo_zeros, if_pos ⟨by omega, by omega⟩]
  simp
end Go.Proofs.YteafdhpcnpfmkaaGreat
/- Layer 10: the document's edges as plain words: numbers of paths in a schema that is right, and edges put one by one where they belong. Conditions: none; nothing of the program is named here. -/
namespace Go.Proofs.YteafdhpcnpfmkaaGreat

/-- Where a path leads, or -1. -/
def numP (ps : List Path) (q : Path) : Int := match lastIx ps q with
  | some i => (i : Int)
  | none => -1
theorem numP_some {ps : List Path} {q : Path} {i : Nat} (h : lastIx ps q = some i) : numP ps q = i := by unfold numP; rw [h]
theorem numP_none {ps : List Path} {q : Path} (h : q ∉ ps) : numP ps q = -1 := by
  unfold numP
  cases e : lastIx ps q with
  | none => rfl
  | some i => exact absurd (List.mem_of_getElem? (lastIx_lt e)) h
theorem pathsOf_app (a b : List TypI) : pathsOf (a ++ b) = pathsOf a ++ pathsOf b := by
  unfold pathsOf relsOf
  rw [List.flatMap_append, List.map_append]
theorem pathsOf_cons (t : TypI) (b : List TypI) : pathsOf (t :: b) = (t.rels.map fun r => (t.name, r.name)) ++ pathsOf b := by
  unfold pathsOf relsOf
  rw [List.flatMap_cons, List.map_append, List.map_map]
  rfl
theorem mem_paths {l : List TypI} {a b : ByteArray} : (a, b) ∈ pathsOf l ↔ ∃ t ∈ l, ∃ r ∈ t.rels, t.name = a ∧ r.name = b := by
  unfold pathsOf relsOf
  simp only [List.mem_map, List.mem_flatMap]
  constructor
  · rintro ⟨_, ⟨t, ht, r, hr, rfl⟩, e⟩
    simp only [Prod.mk.injEq] at e
    exact ⟨t, ht, r, hr, e.1, e.2⟩
  · rintro ⟨t, ht, r, hr, rfl, rfl⟩
    exact ⟨_, ⟨t, ht, r, hr, rfl⟩, rfl⟩
theorem paths_nodup : ∀ (l : List TypI), (l.map (·.name)).Nodup → (∀ t ∈ l, (t.rels.map (·.name)).Nodup) → (pathsOf l).Nodup
  | [], _, _ => List.nodup_nil
  | t :: q, h, hr => by
    rw [pathsOf_cons, List.nodup_append]
    rw [List.map_cons, List.nodup_cons] at h
    refine ⟨?_, paths_nodup q h.2 fun t ht => hr t (List.mem_cons_of_mem _ ht), fun x hx y hy => ?_⟩
    · have := hr t List.mem_cons_self
      unfold List.Nodup at this ⊢
      rw [List.pairwise_map] at this ⊢
      exact this.imp fun h e => h (Prod.ext_iff.1 e).2
    · obtain ⟨r, _, rfl⟩ := List.mem_map.1 hx
      rintro rfl
      obtain ⟨u, hu, s, _, e, _⟩ := mem_paths.1 hy
      exact h.1 (List.mem_map.2 ⟨u, hu, e⟩)
theorem Right.paths {l : List TypI} (h : Right l) : (pathsOf l).Nodup := paths_nodup l h.names fun t ht => (h.rels t ht).names
theorem split_at {α : Type} {l : List α} {i : Nat} {t : α} (h : l[i]? = some t) : l = l.take i ++ t :: l.drop (i + 1) := by
  obtain ⟨hi, rfl⟩ := List.getElem?_eq_some_iff.1 h
  rw [← List.drop_eq_getElem_cons hi, List.take_append_drop]
theorem rels_at {l : List TypI} {i k : Nat} {t : TypI} {r : RelI} (ht : l[i]? = some t) (hr : t.rels[k]? = some r) : (relsOf l)[(relsOf (l.take i)).length + k]? = some (t, r) := by
  have e : relsOf l = relsOf (l.take i) ++ ((t.rels.map fun r => (t, r)) ++ relsOf (l.drop (i + 1))) := by
    conv => lhs; rw [split_at ht]
    unfold relsOf
    rw [List.flatMap_append, List.flatMap_cons]
  rw [e, List.getElem?_append_right (Nat.le_add_right _ _), Nat.add_sub_cancel_left, List.getElem?_append_left (by rw [List.length_map]; exact (List.getElem?_eq_some_iff.1 hr).1), List.getElem?_map, hr]
  rfl
theorem num_hit {l : List TypI} (h : Right l) {i k : Nat} {t : TypI} {r : RelI} (ht : l[i]? = some t) (hr : t.rels[k]? = some r) : lastIx (pathsOf l) (t.name, r.name) = some ((relsOf (l.take i)).length + k) := by
  refine lastIx_only h.paths ?_
  unfold pathsOf
  rw [List.getElem?_map, rels_at ht hr]
  rfl
theorem num_rel {l : List TypI} (h : Right l) {t : TypI} (ht : t ∈ l) {n : ByteArray} (hn : ∀ r ∈ t.rels, r.name ≠ n) : numP (pathsOf l) (t.name, n) = -1 := numP_none fun m => by
  obtain ⟨u, hu, r, hr, e1, e2⟩ := mem_paths.1 m
  have h1 := h.names
  have : u = t := by
    obtain ⟨a, ha, rfl⟩ := List.getElem_of_mem hu
    obtain ⟨b, hb, rfl⟩ := List.getElem_of_mem ht
    have H := List.pairwise_iff_getElem.1 h1
    simp only [List.length_map, List.getElem_map] at H
    rcases Nat.lt_trichotomy a b with hl | rfl | hl
    · exact absurd e1 (H a b ha hb hl)
    · rfl
    · exact absurd e1.symm (H b a hb ha hl)
  subst this
  exact hn r hr e2
theorem num_typ {l : List TypI} {a b : ByteArray} (hn : ∀ t ∈ l, t.name ≠ a) : numP (pathsOf l) (a, b) = -1 := numP_none fun m => by
  obtain ⟨u, hu, _, _, e1, _⟩ := mem_paths.1 m
  exact hn u hu e1
/-- What a Via goes through. -/
theorem paths_via {l : List TypI} (h : Right l) {i k : Nat} {t : TypI} {x : RelI} (ht : l[i]? = some t) (hx : t.rels[k]? = some x) (subs : List Path) (m : ByteArray) :
    pathsP (pathsOf l) ((relsOf l).map (·.2)) t.name subs (3, x.name, m) = nextsP x.subs m := by
  unfold pathsP
  rw [if_neg (by intro h; cases h), if_neg (by intro h; cases h), if_pos rfl]
  dsimp only
  rw [num_hit h ht hx]
  dsimp only
  rw [List.getElem?_map, rels_at ht hx]
  rfl

/-- Edges as the document comes upon them: below 0 there is none. -/
def rawO (ps : List Path) (qs : List Path) (f : Nat) (b : Bool) : List Ed := qs.map fun p => ((f : Int), numP ps p, b)
theorem raw_mem {ps qs : List Path} {f : Nat} {b : Bool} (e : Ed) : e ∈ (qs.filterMap (lastIx ps)).map (fun q2 => ((f : Int), ((q2 : Nat) : Int), b)) ↔ e ∈ rawO ps qs f b ∧ 0 ≤ e.2.1 := by
  simp only [List.mem_map, List.mem_filterMap, rawO]
  constructor
  · rintro ⟨q2, ⟨p, hp, e1⟩, rfl⟩
    exact ⟨⟨p, hp, by rw [numP_some e1]⟩, by simp⟩
  · rintro ⟨⟨p, hp, rfl⟩, h⟩
    cases e : lastIx ps p with
    | none => unfold numP at h; rw [e] at h; simp at h
    | some i => exact ⟨i, ⟨p, hp, e⟩, by rw [numP_some e]⟩
/-- Edges that rise, each that was come upon. -/
structure IsE (Z S : List Ed) : Prop where
  up : Rising Z
  mem : ∀ e, e ∈ Z ↔ e ∈ S ∧ 0 ≤ e.2.1
theorem IsE.nil : IsE [] [] := ⟨List.Pairwise.nil, fun e => by simp⟩
theorem cfE_gt {a b : Ed} (h : a ≠ b) (h2 : ¬ cfE b a < 0) : cfE a b < 0 := by
  rw [cfE_neg] at *
  have h3 : ¬ (a.1 = b.1 ∧ a.2.1 = b.2.1 ∧ riI a = riI b) := fun ⟨e1, e2, e3⟩ => h (by
    refine Prod.ext e1 (Prod.ext e2 ?_)
    unfold riI at e3
    cases ha : a.2.2 <;> cases hb : b.2.2 <;> simp [ha, hb] at e3 ⊢)
  omega
theorem cfE_trans {a b c : Ed} (h : cfE a b < 0) (k : cfE b c < 0) : cfE a c < 0 := by rw [cfE_neg] at *; omega
theorem IsE.same {Z S : List Ed} {x : Ed} (h : IsE Z S) (hx : x.2.1 < 0 ∨ x ∈ Z) : IsE Z (S ++ [x]) := ⟨h.up, fun e => by
  rw [h.mem, List.mem_append, List.mem_singleton]
  constructor
  · rintro ⟨a, b⟩; exact ⟨.inl a, b⟩
  · rintro ⟨a | rfl, b⟩
    · exact ⟨a, b⟩
    · rcases hx with hx | hx
      · omega
      · exact (h.mem _).1 hx⟩
theorem IsE.put {Z S : List Ed} {x : Ed} {at_ : Nat} (h : IsE Z S) (h0 : 0 ≤ x.2.1) (hb : ∀ y ∈ Z.take at_, cfE y x < 0) (hs : ∀ y, Z[at_]? = some y → ¬ cfE y x < 0 ∧ y ≠ x) : IsE (Z.take at_ ++ x :: Z.drop at_) (S ++ [x]) := by
  have hz := h.up
  rw [← List.take_append_drop at_ Z] at hz
  unfold Rising at hz
  rw [List.pairwise_append] at hz
  obtain ⟨p1, p2, p3⟩ := hz
  refine ⟨?_, fun e => ?_⟩
  · unfold Rising
    rw [List.pairwise_append, List.pairwise_cons]
    have hd : ∀ z ∈ Z.drop at_, cfE x z < 0 := by
      cases e : Z.drop at_ with
      | nil => intro z hz; cases hz
      | cons y q =>
        have hy : Z[at_]? = some y := by
          have := congrArg List.head? e
          rw [List.head?_drop] at this
          simpa using this
        obtain ⟨s1, s2⟩ := hs y hy
        have hxy : cfE x y < 0 := cfE_gt (fun e => s2 e.symm) s1
        rw [e, List.pairwise_cons] at p2
        intro z hz
        rcases List.mem_cons.1 hz with rfl | hz
        · exact hxy
        · exact cfE_trans hxy (p2.1 z hz)
    refine ⟨p1, ⟨hd, p2⟩, fun y hy z hz => ?_⟩
    rcases List.mem_cons.1 hz with rfl | hz
    · exact hb y hy
    · exact p3 y hy z hz
  · have := h.mem e
    rw [← List.take_append_drop at_ Z, List.mem_append] at this
    rw [List.mem_append, List.mem_cons, List.mem_append, List.mem_singleton]
    constructor
    · rintro (a | rfl | a)
      · have := this.1 (.inl a); exact ⟨.inl this.1, this.2⟩
      · exact ⟨.inr rfl, h0⟩
      · have := this.1 (.inr a); exact ⟨.inl this.1, this.2⟩
    · rintro ⟨a | rfl, b⟩
      · rcases this.2 ⟨a, b⟩ with c | c
        · exact .inl c
        · exact .inr (.inr c)
      · exact .inr (.inl rfl)
/-- How many there may be. -/
theorem Right.rels_le {l : List TypI} (h : Right l) : (relsOf l).length ≤ 96 := by
  have H : ∀ q : List TypI, (∀ t ∈ q, t.rels.length ≤ 12) → (relsOf q).length ≤ q.length * 12 := fun q => by
    induction q with
    | nil => intro _; simp [relsOf]
    | cons t q ih =>
      intro hq
      have h1 := ih fun t ht => hq t (List.mem_cons_of_mem _ ht)
      have h2 := hq t List.mem_cons_self
      unfold relsOf at *
      rw [List.flatMap_cons, List.length_append, List.length_map, List.length_cons]
      omega
  have h1 := H l fun t ht => (h.rels t ht).few
  have h2 := h.few
  omega
end Go.Proofs.YteafdhpcnpfmkaaGreat
/- Layer 10: what a text says is small, its rewrites are trees, and without a minus they have no Not. Conditions: none; nothing of the program is named here but for its model's words. -/
namespace Go.Proofs.YteafdhpcnpfmkaaGreat

theorem few10 (s : ByteArray) : Few 2049 (parseS s).1 := by
  by_cases h0 : (allS s).2.1 = 0
  · have hz := all_long h0
    obtain ⟨v, e0, eA⟩ := all_zero hz h0
    refine parse_few ?_
    rw [eA]
    have := scan_few _ s 0 (Nat.le_refl _)
    omega
  · unfold parseS
    rw [if_neg h0]
    exact ⟨Nat.zero_le _, fun t ht => by cases ht⟩
theorem NmW.size10 {n : ByteArray} (h : NmW n) : n.size ≤ 140737488351232 := Nat.le_trans (name_size h.1) (by decide)
theorem ops_small : ∀ t : Ex, t.good → t.nm → ∀ o ∈ t.ops, (Lit.int .i64 (o.1 : Nat)).wf = true ∧ o.2.1.size ≤ 140737488351232 ∧ o.2.2.size ≤ 140737488351232
  | .this, _, _ => fun o ho => by rw [List.mem_singleton.1 ho]; exact ⟨by decide, Nat.zero_le _, Nat.zero_le _⟩
  | .same n, _, h => fun o ho => by
    have h2 : NmW n := h
    rw [List.mem_singleton.1 ho]; exact ⟨by rfl, h2.size10, Nat.zero_le _⟩
  | .via n m, _, h => fun o ho => by
    have h2 : NmW n ∧ NmW m := h
    rw [List.mem_singleton.1 ho]; exact ⟨by rfl, h2.1.size10, h2.2.size10⟩
  | .bin k a b, g, h => fun o ho => by
    rcases List.mem_append.1 ho with ho | ho
    · rcases List.mem_append.1 ho with ho | ho
      · exact ops_small a g.2.1 h.1 o ho
      · exact ops_small b g.2.2 h.2 o ho
    · rw [List.mem_singleton.1 ho]
      refine ⟨?_, Nat.zero_le _, Nat.zero_le _⟩
      rcases g.1 with rfl | rfl | rfl <;> rfl
/-- What a text says is small enough for every reading. -/
theorem said_small (s : ByteArray) : ∀ t ∈ (parseS s).1, t.name.size ≤ 140737488351232 ∧ t.rels.length * 112 ≤ 140737488351232 ∧ ∀ x ∈ t.rels, SmI 140737488351232 x := fun t ht => by
  have g := parse_goodT s t ht
  have f := (few10 s).2 t ht
  refine ⟨g.name.size10, by have := f.1; omega, fun x hx => ?_⟩
  have gx := g.rels x hx
  have fx := f.2 x hx
  obtain ⟨e, he, h1, h2, _⟩ := gx.ops
  exact ⟨gx.name.size10, gx.view.size10, gx.edit.size10, gx.check.size10, by have := fx.1; omega, fun q hq => ⟨(gx.subs q hq).1.size10, by
    rcases (gx.subs q hq).2 with e | e
    · rw [e]; exact Nat.zero_le _
    · exact e.size10⟩, by have := fx.2; omega, fun o ho => ops_small e h1 h2 o (he ▸ ho)⟩
theorem said_few (s : ByteArray) : (parseS s).1.length * 40 ≤ 140737488351232 := by have := (few10 s).1; omega
/-- Each rewrite is a tree. -/
theorem said_tree {s : ByteArray} {t : TypI} (ht : t ∈ (parseS s).1.map typI) {r : RelI} (hr : r ∈ t.rels) : ∃ e : Ex, r.ops = e.ops.map opZ ∧ e.good ∧ r.ops.length ≤ 2049 ∧ r.subs.length ≤ 2049 := by
  obtain ⟨t0, h0, rfl⟩ := List.mem_map.1 ht
  obtain ⟨r0, h1, rfl⟩ := List.mem_map.1 hr
  obtain ⟨e, he, h2, _⟩ := ((parse_goodT s t0 h0).rels r0 h1).ops
  have f := ((few10 s).2 t0 h0).2 r0 h1
  exact ⟨e, by show r0.ops.map opI = _; rw [he]; rfl, h2, by show (r0.ops.map opI).length ≤ _; rw [List.length_map]; exact f.2, f.1⟩

/-! without a minus -/
def NoM (l : List Tk) : Prop := ∀ t ∈ l, t.2.1 ≠ sg 45
theorem NoM.tail {l : List Tk} (h : NoM l) : NoM l.tail := fun t ht => h t (List.mem_of_mem_tail ht)
theorem NoM.name {l r : List Tk} {n : ByteArray} (h : NoM l) (e : nameT l = .ok (n, r)) : NoM r := by
  unfold nameT at e
  split at e
  · cases e; exact h.tail
  · cases e
theorem NoM.need {l r : List Tk} {s : ByteArray} {u : Unit} (h : NoM l) (e : needT s l = .ok (u, r)) : NoM r := by
  unfold needT at e
  split at e
  · cases e; exact h.tail
  · cases e
theorem NoM.op {l : List Tk} (h : NoM l) : opT l ≠ 6 := by
  unfold opT
  split
  · decide
  · split
    · decide
    · split
      · rename_i hc
        unfold isT at hc
        have := (of_decide_eq_true hc).1
        cases l with
        | nil => exact absurd this (by decide)
        | cons a t => exact absurd this (h a List.mem_cons_self)
      · decide
def NoK (o : List OpP) : Prop := ∀ x ∈ o, x.1 ≠ 6
theorem nok_parts : ∀ f : Nat, (∀ d l o r, NoM l → partF f d l = .ok (o, r) → NoK o ∧ NoM r) ∧ (∀ d acc l o r, NoM l → NoK acc → moreF f d acc l = .ok (o, r) → NoK o ∧ NoM r)
  | 0 => ⟨fun d l o r _ h => (by unfold partF at h; cases h), fun d acc l o r _ _ h => (by unfold moreF at h; cases h)⟩
  | f + 1 => by
    obtain ⟨ih1, ih2⟩ := nok_parts f
    have one : ∀ (k : Nat) (a b : ByteArray), k ≠ 6 → NoK [(k, a, b)] := fun k a b hk x hx => by rw [List.mem_singleton.1 hx]; exact hk
    constructor
    · intro d l o r hw h
      unfold partF at h
      split at h
      · cases h
        exact ⟨one _ _ _ (by decide), hw.tail⟩
      · split at h
        · split at h
          · cases h
          · obtain ⟨a, m, e1, h⟩ := andT_inv h
            obtain ⟨g1, w1⟩ := ih1 _ _ _ _ hw.tail e1
            obtain ⟨a2, m2, e2, h⟩ := andT_inv h
            obtain ⟨g2, w2⟩ := ih2 _ _ _ _ _ w1 g1 e2
            obtain ⟨a3, m3, e3, h⟩ := andT_inv h
            have w3 := w2.need e3
            cases h
            exact ⟨g2, w3⟩
        · obtain ⟨a, m, e1, h⟩ := andT_inv h
          have w1 := hw.name e1
          split at h
          · obtain ⟨a2, m2, e2, h⟩ := andT_inv h
            have w2 := w1.tail.name e2
            cases h
            exact ⟨one _ _ _ (by decide), w2⟩
          · cases h
            exact ⟨one _ _ _ (by decide), w1⟩
    · intro d acc l o r hw ha h
      unfold moreF at h
      split at h
      · cases h
        exact ⟨ha, hw⟩
      · obtain ⟨a, m, e1, h⟩ := andT_inv h
        obtain ⟨g1, w1⟩ := ih1 _ _ _ _ hw.tail e1
        refine ih2 _ _ _ _ _ w1 (fun x hx => ?_) h
        rcases List.mem_append.1 hx with hx | hx
        · rcases List.mem_append.1 hx with hx | hx
          · exact ha x hx
          · exact g1 x hx
        · rw [List.mem_singleton.1 hx]; exact hw.op
theorem nom_who : ∀ (f : Nat) (acc : List SubP) (l : List Tk) (o : List SubP) (r : List Tk), NoM l → whoF f acc l = .ok (o, r) → NoM r
  | 0, acc, l, o, r, _, h => by unfold whoF at h; cases h
  | f + 1, acc, l, o, r, hw, h => by
    unfold whoF at h
    obtain ⟨a, m, e1, h⟩ := andT_inv h
    have w1 := hw.name e1
    obtain ⟨a2, m2, e2, h⟩ := andT_inv h
    have h2 : NoM m2 := by
      split at e2
      · exact w1.tail.name e2
      · cases e2
        exact w1
    by_cases hc : isT (sg 44) m2 = true
    · rw [if_pos hc] at h
      exact nom_who f _ _ _ _ h2.tail h
    · rw [if_neg hc] at h
      cases h
      exact h2
theorem nok_rel {l r : List Tk} {x : RelP} (hw : NoM l) (h : relT l = .ok (x, r)) : NoK x.ops ∧ NoM r := by
  unfold relT at h
  obtain ⟨_, _, e, h⟩ := andT_inv h
  replace hw := hw.name e
  obtain ⟨_, _, e, h⟩ := andT_inv h
  replace hw := hw.need e
  obtain ⟨_, _, e, h⟩ := andT_inv h
  replace hw := hw.name e
  obtain ⟨_, _, e, h⟩ := andT_inv h
  replace hw := hw.need e
  obtain ⟨_, _, e, h⟩ := andT_inv h
  replace hw := hw.name e
  obtain ⟨_, _, e, h⟩ := andT_inv h
  replace hw := hw.need e
  obtain ⟨_, _, e, h⟩ := andT_inv h
  replace hw := hw.name e
  obtain ⟨_, _, e, h⟩ := andT_inv h
  replace hw := hw.need e
  obtain ⟨_, _, e, h⟩ := andT_inv h
  replace hw := hw.need e
  obtain ⟨subs, m, e, h⟩ := andT_inv h
  have hs : NoM m := by
    split at e
    · cases e
      exact hw
    · exact nom_who _ _ _ _ _ hw e
  obtain ⟨ops, m2, e, h⟩ := andT_inv h
  have ho : NoK ops ∧ NoM m2 := by
    split at e
    · unfold rewT at e
      obtain ⟨a, _, e1, e⟩ := andT_inv e
      obtain ⟨g1, w1⟩ := (nok_parts _).1 _ _ _ _ hs.tail e1
      exact (nok_parts _).2 _ _ _ _ _ w1 g1 e
    · cases e
      exact ⟨fun x hx => by rw [List.mem_singleton.1 hx]; decide, hs⟩
  obtain ⟨_, _, e, h⟩ := andT_inv h
  replace hw := ho.2.need e
  cases h
  exact ⟨ho.1, hw⟩
theorem nok_rels : ∀ (n : Nat) (acc : List RelP) (l : List Tk) (o : List RelP) (r : List Tk), l.length ≤ n → NoM l → (∀ x ∈ acc, NoK x.ops) → relsT acc l = .ok (o, r) → (∀ x ∈ o, NoK x.ops) ∧ NoM r := by
  intro n
  induction n with
  | zero =>
    intro acc l o r hn hw ha h
    rw [relsT_eq] at h
    by_cases hc : isT sRel l = true
    · have := isT_len sRel_size hc; omega
    · rw [if_neg hc] at h
      cases h
      exact ⟨ha, hw⟩
  | succ n ih =>
    intro acc l o r hn hw ha h
    rw [relsT_eq] at h
    by_cases hc : isT sRel l = true
    · rw [if_pos hc] at h
      have h1 := isT_len sRel_size hc
      obtain ⟨x, m, e, h⟩ := andT_inv h
      obtain ⟨g, w⟩ := nok_rel hw.tail e
      have hl := (few_rel e).2
      exact ih _ _ _ _ (by omega) w (fun y hy => by
        rcases List.mem_append.1 hy with hy | hy
        · exact ha y hy
        · rw [List.mem_singleton.1 hy]; exact g) h
    · rw [if_neg hc] at h
      cases h
      exact ⟨ha, hw⟩
theorem nok_types : ∀ (n : Nat) (acc : List TypP) (l : List Tk) (o : List TypP) (r : List Tk), l.length ≤ n → NoM l → (∀ t ∈ acc, ∀ x ∈ t.rels, NoK x.ops) → typesT acc l = .ok (o, r) → (∀ t ∈ o, ∀ x ∈ t.rels, NoK x.ops) := by
  intro n
  induction n with
  | zero =>
    intro acc l o r hn hw ha h
    rw [typesT_eq] at h
    by_cases hc : isT sType l = true
    · have := isT_len sType_size hc; omega
    · rw [if_neg hc] at h
      cases h
      exact ha
  | succ n ih =>
    intro acc l o r hn hw ha h
    rw [typesT_eq] at h
    by_cases hc : isT sType l = true
    · rw [if_pos hc] at h
      have h1 := isT_len sType_size hc
      obtain ⟨_, _, e, h⟩ := andT_inv h
      have l1 := nameT_len e
      replace hw := hw.tail.name e
      obtain ⟨_, _, e, h⟩ := andT_inv h
      have l2 := needT_len (sg_size _) e
      replace hw := hw.need e
      obtain ⟨rs, m, e, h⟩ := andT_inv h
      obtain ⟨g, hw⟩ := nok_rels _ _ _ _ _ (Nat.le_refl _) hw (fun x hx => by cases hx) e
      have l3 := (few_rels _ _ _ _ _ _ (Nat.le_refl _) (Nat.le_refl _) (fun x hx => by cases hx) e).2
      simp only [List.length_nil] at l3
      obtain ⟨_, _, e, h⟩ := andT_inv h
      have l4 := needT_len (sg_size _) e
      replace hw := hw.need e
      exact ih _ _ _ _ (by omega) hw (fun t ht => by
        rcases List.mem_append.1 ht with ht | ht
        · exact ha t ht
        · rw [List.mem_singleton.1 ht]; exact g) h
    · rw [if_neg hc] at h
      cases h
      exact ha
theorem bt_cutA0 {s : ByteArray} {k : Nat} (hk : 0 < plc s k) : bt (cutA s k) 0 = bt s 0 := cutA_bt s k 0 (by rw [cutA_size]; exact hk)
theorem scan_nom (n : Nat) : ∀ (u : ByteArray) (off : Nat), u.size ≤ n → (∀ j, j < u.size → bt u j ≠ 45) → NoM (scan u off).1 := by
  have hnil : sg 45 ≠ ⟨#[]⟩ := by decide
  induction n with
  | zero =>
    intro u off hn _
    rw [scan_nil (by omega)]
    intro t ht
    rw [List.mem_singleton.1 ht]
    exact fun e => hnil e.symm
  | succ n ih =>
    intro u off hn hb
    rcases Nat.eq_zero_or_pos u.size with h | h
    · rw [scan_nil h]
      intro t ht
      rw [List.mem_singleton.1 ht]
      exact fun e => hnil e.symm
    · by_cases hk : 3 ≤ kd u
      · rw [scan_err h hk]
        intro t ht
        cases ht
      · have hk : kd u < 3 := by omega
        have hlt := cutB_lt h hk
        have hB := ih (cutB u (ln u)) (off + plc u (ln u)) (by omega) (fun j hj => by
          have hz := cutB_size u (ln u)
          rw [bt_cutB (by omega)]
          exact hb _ (by omega))
        rw [scan_go h hk]
        intro t ht
        rcases List.mem_append.1 ht with ht | ht
        · split at ht
          · cases ht
          · rw [List.mem_singleton.1 ht]
            intro e
            have e : cutA u (ln u) = sg 45 := e
            have hsz : 0 < plc u (ln u) := by
              rcases Nat.eq_zero_or_pos (plc u (ln u)) with q | q
              · unfold cutA at e
                rw [q] at e
                have := congrArg ByteArray.size e
                rw [size_ext] at this
                have h1 : (sg 45).size = 1 := rfl
                omega
              · exact q
            have h0 : bt (cutA u (ln u)) 0 = bt (sg 45) 0 := by rw [e]
            have h1 : bt (sg 45) 0 = 45 := by decide
            rw [h1, bt_cutA0 hsz] at h0
            exact hb 0 h h0
        · exact hB t ht
/-- Without a minus there is no Not. -/
theorem said_noNot {s : ByteArray} (hs : ∀ j, j < s.size → bt s j ≠ 45) : ∀ t ∈ (parseS s).1, ∀ x ∈ t.rels, NoK x.ops := by
  unfold parseS
  split
  · rename_i h0
    have hw : NoM (allS s).1 := by
      obtain ⟨v, e0, eA⟩ := all_zero (all_long h0) h0
      rw [eA]
      exact scan_nom _ s 0 (Nat.le_refl _) hs
    rw [schemaF_eq]
    cases hT : typesT [] (allS s).1 with
    | error e => exact fun t ht => by cases ht
    | ok q =>
      have g := nok_types _ _ _ _ _ (Nat.le_refl _) hw (fun t ht => by cases ht) (show typesT [] (allS s).1 = .ok (q.1, q.2) from hT)
      rw [andT_ok]
      split
      · exact g
      · exact fun t ht => by cases ht
  · exact fun t ht => by cases ht
theorem cnt_noNot {t : Ex} (h : NoK t.ops) (p : Nat) : t.cnt p = 0 := by
  rcases Nat.eq_zero_or_pos (t.cnt p) with q | q
  · exact q
  · obtain ⟨i, _, hi, hk, _⟩ := (t.cnt_has p).1 q
    unfold Ex.kd at hk
    unfold Ex.len at hi
    rw [List.getD_eq_getElem?_getD, List.getElem?_eq_getElem hi] at hk
    exact absurd hk (h _ (List.getElem_mem hi))
/-- So no edge has one. -/
theorem edges_noNot {s : ByteArray} (hs : ∀ j, j < s.size → bt s j ≠ 45) {e : Ed} (he : e ∈ edgesP ((parseS s).1.map typI)) : e.2.2 = false := by
  unfold edgesP relE opsE at he
  simp only [List.mem_flatMap, List.mem_map] at he
  obtain ⟨⟨⟨t, r⟩, n⟩, hx, ⟨o, i⟩, ho, to_, _, rfl⟩ := he
  have hm : (t, r) ∈ relsOf ((parseS s).1.map typI) := by
    have := List.mem_zipIdx' hx
    exact this.2 ▸ List.getElem_mem _
  unfold relsOf at hm
  simp only [List.mem_flatMap, List.mem_map] at hm
  obtain ⟨_, ⟨t0, h0, rfl⟩, r1, h1, e2⟩ := hm
  cases e2
  obtain ⟨r0, h2, rfl⟩ := List.mem_map.1 h1
  obtain ⟨e, he, h3, _⟩ := ((parse_goodT s t0 h0).rels r0 h2).ops
  have hk := said_noNot hs t0 h0 r0 h2
  rw [he] at hk
  have hi : i < e.len := by
    have h4 : i < (relI r0).ops.length := (List.mem_zipIdx' ho).1
    have : (relI r0).ops.length = e.ops.length := by show (r0.ops.map opI).length = _; rw [List.length_map, he]
    unfold Ex.len
    omega
  show behindP (relI r0).ops i = false
  rw [show (relI r0).ops = e.ops.map opZ by show r0.ops.map opI = _; rw [he]; rfl, behind_tree h3 hi, cnt_noNot hk]
  rfl
end Go.Proofs.YteafdhpcnpfmkaaGreat
