/- Layer 10: what stands behind a Not, of a rewrite that is a tree, as plain words: by sums of differences, and by going through what each Not takes away. Conditions: none; nothing of the program is named here. -/
import Derived.Test.YtinfbimfiaegdaaGreatGoodF
import Derived.Test.YtinfbimfiaegdaaGreatEdgeP
import Derived.Test.YtinfbimfiaegdaaGreatSortW
import Derived.Test.YtinfbimfiaegdaaGreatChk
namespace Go.Proofs.YtinfbimfiaegdaaGreat

/-- An operation with its kind as a number of the program. -/
def opZ (o : OpP) : OpI := ((o.1 : Int), o.2.1, o.2.2)
def Ex.len (t : Ex) : Nat := t.ops.length
theorem Ex.len_bin (k : Nat) (a b : Ex) : (Ex.bin k a b).len = a.len + b.len + 1 := by simp [Ex.len, Ex.ops]; omega
theorem Ex.len_pos (t : Ex) : 0 < t.len := by cases t <;> simp [Ex.len, Ex.ops] <;> omega
/-- How many Nots take an operation away. -/
def Ex.cnt : Ex → Nat → Nat
  | .bin k a b, p => if p < a.len then a.cnt p else if p < a.len + b.len then b.cnt (p - a.len) + (if k = 6 then 1 else 0) else 0
  | _, _ => 0
/-- Where what a sign joins to the part ahead begins. -/
def Ex.bgn : Ex → Nat → Nat
  | .bin _ a b, i => if i < a.len then a.bgn i else if i < a.len + b.len then a.len + b.bgn (i - a.len) else a.len
  | _, _ => 0
def Ex.kd (t : Ex) (i : Nat) : Nat := (t.ops.getD i (0, ⟨#[]⟩, ⟨#[]⟩)).1
theorem Ex.kd_l {k : Nat} {a b : Ex} {i : Nat} (h : i < a.len) : (Ex.bin k a b).kd i = a.kd i := by
  unfold Ex.kd
  rw [Ex.ops, List.getD_eq_getElem?_getD, List.getD_eq_getElem?_getD, List.append_assoc, List.getElem?_append_left h]
theorem Ex.kd_r {k : Nat} {a b : Ex} {i : Nat} (h : a.len ≤ i) (h2 : i < a.len + b.len) : (Ex.bin k a b).kd i = b.kd (i - a.len) := by
  unfold Ex.kd Ex.len at *
  rw [Ex.ops, List.getD_eq_getElem?_getD, List.getD_eq_getElem?_getD, List.append_assoc, List.getElem?_append_right h, List.getElem?_append_left (by omega)]
theorem Ex.kd_o {k : Nat} {a b : Ex} : (Ex.bin k a b).kd (a.len + b.len) = k := by
  unfold Ex.kd Ex.len at *
  rw [Ex.ops, List.getD_eq_getElem?_getD, List.getElem?_append_right (by simp)]
  simp [opK]
theorem Ex.cnt_has : ∀ (t : Ex) (p : Nat), 0 < t.cnt p ↔ ∃ i, p < i ∧ i < t.len ∧ t.kd i = 6 ∧ t.bgn i ≤ p
  | .this, p => ⟨fun h => by simp [Ex.cnt] at h, fun ⟨i, h1, h2, _⟩ => by simp [Ex.len, Ex.ops] at h2; omega⟩
  | .same n, p => ⟨fun h => by simp [Ex.cnt] at h, fun ⟨i, h1, h2, _⟩ => by simp [Ex.len, Ex.ops] at h2; omega⟩
  | .via n m, p => ⟨fun h => by simp [Ex.cnt] at h, fun ⟨i, h1, h2, _⟩ => by simp [Ex.len, Ex.ops] at h2; omega⟩
  | .bin k a b, p => by
    have iha := Ex.cnt_has a p
    have ihb := Ex.cnt_has b (p - a.len)
    have hl := Ex.len_bin k a b
    constructor
    · intro h
      rw [Ex.cnt] at h
      by_cases h1 : p < a.len
      · rw [if_pos h1] at h
        obtain ⟨i, i1, i2, i3, i4⟩ := iha.1 h
        exact ⟨i, i1, by omega, by rw [Ex.kd_l i2]; exact i3, by rw [Ex.bgn, if_pos i2]; exact i4⟩
      · rw [if_neg h1] at h
        by_cases h2 : p < a.len + b.len
        · rw [if_pos h2] at h
          by_cases h3 : k = 6
          · exact ⟨a.len + b.len, h2, by omega, by rw [Ex.kd_o]; exact h3, by rw [Ex.bgn, if_neg (by omega), if_neg (by omega)]; omega⟩
          · rw [if_neg h3] at h
            obtain ⟨i, i1, i2, i3, i4⟩ := ihb.1 h
            refine ⟨a.len + i, by omega, by omega, ?_, ?_⟩
            · rw [Ex.kd_r (by omega) (by omega), Nat.add_sub_cancel_left]; exact i3
            · rw [Ex.bgn, if_neg (by omega), if_pos (by omega), Nat.add_sub_cancel_left]; omega
        · rw [if_neg h2] at h; omega
    · rintro ⟨i, i1, i2, i3, i4⟩
      rw [Ex.cnt]
      rw [Ex.bgn] at i4
      by_cases h1 : i < a.len
      · rw [if_pos h1] at i4
        rw [if_pos (by omega)]
        exact iha.2 ⟨i, i1, h1, by rw [← Ex.kd_l h1]; exact i3, i4⟩
      · rw [if_neg h1] at i4
        by_cases h2 : i < a.len + b.len
        · rw [if_pos h2] at i4
          rw [if_neg (by omega), if_pos (by omega)]
          have := ihb.2 ⟨i - a.len, by omega, by omega, by rw [← Ex.kd_r (by omega) h2]; exact i3, by omega⟩
          omega
        · rw [if_neg h2] at i4
          obtain rfl : i = a.len + b.len := by omega
          rw [Ex.kd_o] at i3
          rw [if_neg (by omega), if_pos (by omega), if_pos i3]
          omega
/-- What a sign joins is a tree of its own. -/
theorem Ex.sub_at : ∀ (t : Ex), t.good → ∀ i, i < t.len → 4 ≤ t.kd i → ∃ (pre : List OpP) (b : Ex) (post : List OpP), t.ops = pre ++ b.ops ++ post ∧ b.good ∧ pre.length = t.bgn i ∧ pre.length + b.len = i
  | .this, _, i, hi, h => by simp [Ex.len, Ex.ops] at hi; subst hi; simp [Ex.kd, Ex.ops] at h
  | .same n, _, i, hi, h => by simp [Ex.len, Ex.ops] at hi; subst hi; simp [Ex.kd, Ex.ops] at h
  | .via n m, _, i, hi, h => by simp [Ex.len, Ex.ops] at hi; subst hi; simp [Ex.kd, Ex.ops] at h
  | .bin k a b, hg, i, hi, h => by
    obtain ⟨_, ga, gb⟩ := hg
    rw [Ex.len_bin] at hi
    rw [Ex.bgn]
    by_cases h1 : i < a.len
    · rw [Ex.kd_l h1] at h
      obtain ⟨pre, c, post, e, g, h2, h3⟩ := Ex.sub_at a ga i h1 h
      refine ⟨pre, c, post ++ (b.ops ++ [opK k]), by rw [Ex.ops, e]; simp, g, by rw [if_pos h1]; exact h2, h3⟩
    · by_cases h2 : i < a.len + b.len
      · rw [Ex.kd_r (by omega) h2] at h
        obtain ⟨pre, c, post, e, g, h4, h3⟩ := Ex.sub_at b gb (i - a.len) (by omega) h
        refine ⟨a.ops ++ pre, c, post ++ [opK k], by rw [Ex.ops, e]; simp, g, ?_, ?_⟩
        · rw [if_neg h1, if_pos h2, List.length_append, h4]; rfl
        · rw [List.length_append]; unfold Ex.len at *; omega
      · obtain rfl : i = a.len + b.len := by omega
        exact ⟨a.ops, b, [opK k], by rw [Ex.ops], gb, by rw [if_neg h1, if_neg h2]; rfl, rfl⟩

/-! by sums of differences -/
def sumTo (m : List Int) (p : Nat) : Int := (m.take p).sum
theorem sumTo_add {m : List Int} {q : Nat} {d : Int} : ∀ {p : Nat}, q < m.length → sumTo (addAt m q d) p = sumTo m p + if q < p then d else 0 := by
  unfold sumTo addAt
  induction m generalizing q with
  | nil => intro p h; simp at h
  | cons x t ih =>
    intro p h
    cases p with
    | zero => simp
    | succ p =>
      cases q with
      | zero => simp; omega
      | succ q =>
        have := ih (q := q) (p := p) (by simpa using h)
        simp only [List.set_cons_succ, List.take_succ_cons, List.sum_cons, List.getD_cons_succ, this]
        by_cases e : q < p
        · rw [if_pos e, if_pos (by omega)]; omega
        · rw [if_neg e, if_neg (by omega)]; omega
theorem sumTo_succ {m : List Int} {p : Nat} (h : p < m.length) : sumTo m (p + 1) = sumTo m p + m.getD p 0 := by
  unfold sumTo
  rw [List.take_add_one, List.sum_append, List.getD_eq_getElem?_getD, List.getElem?_eq_getElem h]
  simp
theorem psum_at (m : List Int) : ∀ (j i : Nat), j < m.length → (psum m j).getD i 0 = if i ≤ j then sumTo m (i + 1) else m.getD i 0
  | 0, i, h => by
    by_cases e : i ≤ 0
    · obtain rfl : i = 0 := by omega
      rw [if_pos e, sumTo_succ h, psum]
      simp [sumTo]
    · rw [if_neg e, psum]
  | j + 1, i, h => by
    have h1 := psum_at m j (j + 1) (by omega)
    have h2 := psum_at m j j (by omega)
    have h3 := psum_at m j i (by omega)
    rw [if_neg (by omega)] at h1
    rw [if_pos (Nat.le_refl _)] at h2
    rw [psum, List.getD_eq_getElem?_getD]
    by_cases e : j + 1 = i
    · subst e
      rw [List.getElem?_set_self (by rw [psum_len]; exact h), if_pos (Nat.le_refl _), Option.getD_some, h1, h2, sumTo_succ h]
      omega
    · rw [List.getElem?_set_ne e, ← List.getD_eq_getElem?_getD, h3]
      by_cases e2 : i ≤ j
      · rw [if_pos e2, if_pos (by omega)]
      · rw [if_neg e2, if_neg (by omega)]
theorem mrun_app (s : List Int × List Nat) (i : Nat) (a b : List OpI) : mrun s i (a ++ b) = mrun (mrun s i a) (i + a.length) b := by
  induction a generalizing s i with
  | nil => rfl
  | cons x t ih => rw [List.cons_append, mrun, ih, mrun, List.length_cons, Nat.add_right_comm, ← Nat.add_assoc]
theorem opsZ_len (t : Ex) : (t.ops.map opZ).length = t.len := List.length_map _
theorem mrun_tree : ∀ (t : Ex) (m : List Int) (bg : List Nat) (i0 : Nat), t.good → i0 + t.len ≤ m.length →
    ∃ m', mrun (m, bg) i0 (t.ops.map opZ) = (m', bg ++ [i0]) ∧ m'.length = m.length ∧ ∀ p, sumTo m' (p + 1) = sumTo m (p + 1) + if i0 ≤ p ∧ p < i0 + t.len then (t.cnt (p - i0) : Int) else 0
  | .this, m, bg, i0, _, _ => ⟨m, rfl, rfl, fun p => by simp [Ex.cnt]⟩
  | .same n, m, bg, i0, _, _ => ⟨m, rfl, rfl, fun p => by simp [Ex.cnt]⟩
  | .via n n2, m, bg, i0, _, _ => ⟨m, rfl, rfl, fun p => by simp [Ex.cnt]⟩
  | .bin k a b, m, bg, i0, hg, hl => by
    obtain ⟨hk, ga, gb⟩ := hg
    rw [Ex.len_bin] at hl
    obtain ⟨m1, r1, l1, s1⟩ := mrun_tree a m bg i0 ga (by omega)
    obtain ⟨m2, r2, l2, s2⟩ := mrun_tree b m1 (bg ++ [i0]) (i0 + a.len) gb (by omega)
    have hops : (Ex.bin k a b).ops.map opZ = a.ops.map opZ ++ (b.ops.map opZ ++ [opZ (opK k)]) := by rw [Ex.ops]; simp
    have hst : mrun (m, bg) i0 ((Ex.bin k a b).ops.map opZ) = mstep (m2, bg ++ [i0] ++ [i0 + a.len]) (i0 + a.len + b.len) (k : Int) := by
      rw [hops, mrun_app, r1, opsZ_len, mrun_app, r2, opsZ_len]
      rfl
    have hlen : (bg ++ [i0] ++ [i0 + a.len]).length = bg.length + 2 := by simp
    have hlast : (bg ++ [i0] ++ [i0 + a.len]).getD ((bg ++ [i0] ++ [i0 + a.len]).length - 1) 0 = i0 + a.len := by
      rw [hlen, List.getD_eq_getElem?_getD, List.getElem?_append_right (by simp)]
      simp
    have htake : (bg ++ [i0] ++ [i0 + a.len]).take ((bg ++ [i0] ++ [i0 + a.len]).length - 1) = bg ++ [i0] := by
      rw [hlen, List.take_append_of_le_length (by simp)]
      exact List.take_of_length_le (by simp)
    have hcnt : ∀ p, i0 ≤ p → (Ex.bin k a b).cnt (p - i0) = if p < i0 + a.len then a.cnt (p - i0) else if p < i0 + a.len + b.len then b.cnt (p - (i0 + a.len)) + (if k = 6 then 1 else 0) else 0 := fun p hp => by
      rw [Ex.cnt]
      by_cases h1 : p < i0 + a.len
      · rw [if_pos h1, if_pos (by omega)]
      · rw [if_neg h1, if_neg (by omega)]
        by_cases h2 : p < i0 + a.len + b.len
        · rw [if_pos h2, if_pos (by omega), show p - i0 - a.len = p - (i0 + a.len) by omega]
        · rw [if_neg h2, if_neg (by omega)]
    rw [hst]
    unfold mstep
    dsimp only
    rw [if_neg (by omega), if_pos (by omega), if_neg (by rw [hlen]; omega), hlast, htake, Ex.len_bin]
    by_cases h6 : k = 6
    · subst h6
      rw [if_pos (by rfl)]
      refine ⟨_, rfl, by rw [addAt_len, addAt_len]; omega, fun p => ?_⟩
      rw [sumTo_add (by rw [addAt_len]; omega), sumTo_add (by omega), s2, s1]
      by_cases c0 : i0 ≤ p
      · have hc := hcnt p c0
        by_cases c1 : p < i0 + a.len
        · rw [if_pos c1] at hc
          rw [hc, if_pos ⟨c0, c1⟩, if_neg (by omega), if_neg (by omega), if_neg (by omega), if_pos ⟨c0, by omega⟩]
          omega
        · rw [if_neg c1] at hc
          by_cases c2 : p < i0 + a.len + b.len
          · rw [if_pos c2, if_pos rfl] at hc
            rw [hc, if_neg (by omega), if_pos ⟨by omega, c2⟩, if_pos (by omega), if_neg (by omega), if_pos ⟨c0, by omega⟩]
            omega
          · rw [if_neg c2] at hc
            rw [hc, if_neg (by omega), if_neg (by omega), if_pos (by omega), if_pos (by omega)]
            by_cases c3 : p < i0 + (a.len + b.len + 1)
            · rw [if_pos ⟨c0, c3⟩]; omega
            · rw [if_neg (by omega)]; omega
      · rw [if_neg (by omega), if_neg (by omega), if_neg (by omega), if_neg (by omega), if_neg (by omega)]
        omega
    · rw [if_neg (by omega)]
      refine ⟨_, rfl, by omega, fun p => ?_⟩
      rw [s2, s1]
      by_cases c0 : i0 ≤ p
      · have hc := hcnt p c0
        by_cases c1 : p < i0 + a.len
        · rw [if_pos c1] at hc
          rw [hc, if_pos ⟨c0, c1⟩, if_neg (by omega), if_pos ⟨c0, by omega⟩]
          omega
        · rw [if_neg c1] at hc
          by_cases c2 : p < i0 + a.len + b.len
          · rw [if_pos c2, if_neg h6] at hc
            rw [hc, if_neg (by omega), if_pos ⟨by omega, c2⟩, if_pos ⟨c0, by omega⟩]
            omega
          · rw [if_neg c2] at hc
            rw [hc, if_neg (by omega), if_neg (by omega)]
            by_cases c3 : p < i0 + (a.len + b.len + 1)
            · rw [if_pos ⟨c0, c3⟩]; omega
            · rw [if_neg (by omega)]; omega
      · rw [if_neg (by omega), if_neg (by omega), if_neg (by omega)]
        omega
theorem sumTo_zeros (n p : Nat) : sumTo (List.replicate n 0) p = 0 := by
  unfold sumTo
  rw [List.take_replicate, List.sum_replicate_int]
  simp
/-- Both say the same. -/
theorem behind_tree {t : Ex} (hg : t.good) {p : Nat} (hp : p < t.len) : behindP (t.ops.map opZ) p = decide (0 < t.cnt p) := by
  unfold behindP moreP
  rw [opsZ_len]
  obtain ⟨m', h1, h2, h3⟩ := mrun_tree t (List.replicate (t.len + 1) 0) [] 0 hg (by simp)
  rw [h1]
  have hl : t.len < m'.length := by rw [h2]; simp
  dsimp only
  rw [psum_at m' t.len p hl, if_pos (by omega), h3, sumTo_zeros, if_pos ⟨by omega, by omega⟩]
  simp
end Go.Proofs.YtinfbimfiaegdaaGreat
/- Layer 10: the document's edges as plain words: numbers of paths in a schema that is right, and edges put one by one where they belong. Conditions: none; nothing of the program is named here. -/
namespace Go.Proofs.YtinfbimfiaegdaaGreat

/-- Where a path leads, or -1. -/
def numP (ps : List Path) (q : Path) : Int := match lastIx ps q with
  | some i => (i : Int)
  | none => -1
theorem numP_some {ps : List Path} {q : Path} {i : Nat} (h : lastIx ps q = some i) : numP ps q = i := by unfold numP; rw [h]
theorem numP_none {ps : List Path} {q : Path} (h : q ∉ ps) : numP ps q = -1 := by
  unfold numP
  cases e : lastIx ps q with
  | none => rfl
  | some i => exact absurd (List.mem_of_getElem? (lastIx_lt e)) h
theorem pathsOf_app (a b : List TypI) : pathsOf (a ++ b) = pathsOf a ++ pathsOf b := by
  unfold pathsOf relsOf
  rw [List.flatMap_append, List.map_append]
theorem pathsOf_cons (t : TypI) (b : List TypI) : pathsOf (t :: b) = (t.rels.map fun r => (t.name, r.name)) ++ pathsOf b := by
  unfold pathsOf relsOf
  rw [List.flatMap_cons, List.map_append, List.map_map]
  rfl
theorem mem_paths {l : List TypI} {a b : ByteArray} : (a, b) ∈ pathsOf l ↔ ∃ t ∈ l, ∃ r ∈ t.rels, t.name = a ∧ r.name = b := by
  unfold pathsOf relsOf
  simp only [List.mem_map, List.mem_flatMap]
  constructor
  · rintro ⟨_, ⟨t, ht, r, hr, rfl⟩, e⟩
    simp only [Prod.mk.injEq] at e
    exact ⟨t, ht, r, hr, e.1, e.2⟩
  · rintro ⟨t, ht, r, hr, rfl, rfl⟩
    exact ⟨_, ⟨t, ht, r, hr, rfl⟩, rfl⟩
theorem paths_nodup : ∀ (l : List TypI), (l.map (·.name)).Nodup → (∀ t ∈ l, (t.rels.map (·.name)).Nodup) → (pathsOf l).Nodup
  | [], _, _ => List.nodup_nil
  | t :: q, h, hr => by
    rw [pathsOf_cons, List.nodup_append]
    rw [List.map_cons, List.nodup_cons] at h
    refine ⟨?_, paths_nodup q h.2 fun t ht => hr t (List.mem_cons_of_mem _ ht), fun x hx y hy => ?_⟩
    · have := hr t List.mem_cons_self
      unfold List.Nodup at this ⊢
      rw [List.pairwise_map] at this ⊢
      exact this.imp fun h e => h (Prod.ext_iff.1 e).2
    · obtain ⟨r, _, rfl⟩ := List.mem_map.1 hx
      rintro rfl
      obtain ⟨u, hu, s, _, e, _⟩ := mem_paths.1 hy
      exact h.1 (List.mem_map.2 ⟨u, hu, e⟩)
theorem Right.paths {l : List TypI} (h : Right l) : (pathsOf l).Nodup := paths_nodup l h.names fun t ht => (h.rels t ht).names
theorem split_at {α : Type} {l : List α} {i : Nat} {t : α} (h : l[i]? = some t) : l = l.take i ++ t :: l.drop (i + 1) := by
  obtain ⟨hi, rfl⟩ := List.getElem?_eq_some_iff.1 h
  rw [← List.drop_eq_getElem_cons hi, List.take_append_drop]
theorem rels_at {l : List TypI} {i k : Nat} {t : TypI} {r : RelI} (ht : l[i]? = some t) (hr : t.rels[k]? = some r) : (relsOf l)[(relsOf (l.take i)).length + k]? = some (t, r) := by
  have e : relsOf l = relsOf (l.take i) ++ ((t.rels.map fun r => (t, r)) ++ relsOf (l.drop (i + 1))) := by
    conv => lhs; rw [split_at ht]
    unfold relsOf
    rw [List.flatMap_append, List.flatMap_cons]
  rw [e, List.getElem?_append_right (Nat.le_add_right _ _), Nat.add_sub_cancel_left, List.getElem?_append_left (by rw [List.length_map]; exact (List.getElem?_eq_some_iff.1 hr).1), List.getElem?_map, hr]
  rfl
theorem num_hit {l : List TypI} (h : Right l) {i k : Nat} {t : TypI} {r : RelI} (ht : l[i]? = some t) (hr : t.rels[k]? = some r) : lastIx (pathsOf l) (t.name, r.name) = some ((relsOf (l.take i)).length + k) := by
  refine lastIx_only h.paths ?_
  unfold pathsOf
  rw [List.getElem?_map, rels_at ht hr]
  rfl
theorem num_rel {l : List TypI} (h : Right l) {t : TypI} (ht : t ∈ l) {n : ByteArray} (hn : ∀ r ∈ t.rels, r.name ≠ n) : numP (pathsOf l) (t.name, n) = -1 := numP_none fun m => by
  obtain ⟨u, hu, r, hr, e1, e2⟩ := mem_paths.1 m
  have h1 := h.names
  have : u = t := by
    obtain ⟨a, ha, rfl⟩ := List.getElem_of_mem hu
    obtain ⟨b, hb, rfl⟩ := List.getElem_of_mem ht
    have H := List.pairwise_iff_getElem.1 h1
    simp only [List.length_map, List.getElem_map] at H
    rcases Nat.lt_trichotomy a b with hl | rfl | hl
    · exact absurd e1 (H a b ha hb hl)
    · rfl
    · exact absurd e1.symm (H b a hb ha hl)
  subst this
  exact hn r hr e2
theorem num_typ {l : List TypI} {a b : ByteArray} (hn : ∀ t ∈ l, t.name ≠ a) : numP (pathsOf l) (a, b) = -1 := numP_none fun m => by
  obtain ⟨u, hu, _, _, e1, _⟩ := mem_paths.1 m
  exact hn u hu e1
/-- What a Via goes through. -/
theorem paths_via {l : List TypI} (h : Right l) {i k : Nat} {t : TypI} {x : RelI} (ht : l[i]? = some t) (hx : t.rels[k]? = some x) (subs : List Path) (m : ByteArray) :
    pathsP (pathsOf l) ((relsOf l).map (·.2)) t.name subs (3, x.name, m) = nextsP x.subs m := by
  unfold pathsP
  rw [if_neg (by intro h; cases h), if_neg (by intro h; cases h), if_pos rfl]
  dsimp only
  rw [num_hit h ht hx]
  dsimp only
  rw [List.getElem?_map, rels_at ht hx]
  rfl

/-- Edges as the document comes upon them: below 0 there is none. -/
def rawO (ps : List Path) (qs : List Path) (f : Nat) (b : Bool) : List Ed := qs.map fun p => ((f : Int), numP ps p, b)
theorem raw_mem {ps qs : List Path} {f : Nat} {b : Bool} (e : Ed) : e ∈ (qs.filterMap (lastIx ps)).map (fun q2 => ((f : Int), ((q2 : Nat) : Int), b)) ↔ e ∈ rawO ps qs f b ∧ 0 ≤ e.2.1 := by
  simp only [List.mem_map, List.mem_filterMap, rawO]
  constructor
  · rintro ⟨q2, ⟨p, hp, e1⟩, rfl⟩
    exact ⟨⟨p, hp, by rw [numP_some e1]⟩, by simp⟩
  · rintro ⟨⟨p, hp, rfl⟩, h⟩
    cases e : lastIx ps p with
    | none => unfold numP at h; rw [e] at h; simp at h
    | some i => exact ⟨i, ⟨p, hp, e⟩, by rw [numP_some e]⟩
/-- Edges that rise, each that was come upon. -/
structure IsE (Z S : List Ed) : Prop where
  up : Rising Z
  mem : ∀ e, e ∈ Z ↔ e ∈ S ∧ 0 ≤ e.2.1
theorem IsE.nil : IsE [] [] := ⟨List.Pairwise.nil, fun e => by simp⟩
theorem cfE_gt {a b : Ed} (h : a ≠ b) (h2 : ¬ cfE b a < 0) : cfE a b < 0 := by
  rw [cfE_neg] at *
  have h3 : ¬ (a.1 = b.1 ∧ a.2.1 = b.2.1 ∧ riI a = riI b) := fun ⟨e1, e2, e3⟩ => h (by
    refine Prod.ext e1 (Prod.ext e2 ?_)
    unfold riI at e3
    cases ha : a.2.2 <;> cases hb : b.2.2 <;> simp [ha, hb] at e3 ⊢)
  omega
theorem cfE_trans {a b c : Ed} (h : cfE a b < 0) (k : cfE b c < 0) : cfE a c < 0 := by rw [cfE_neg] at *; omega
theorem IsE.same {Z S : List Ed} {x : Ed} (h : IsE Z S) (hx : x.2.1 < 0 ∨ x ∈ Z) : IsE Z (S ++ [x]) := ⟨h.up, fun e => by
  rw [h.mem, List.mem_append, List.mem_singleton]
  constructor
  · rintro ⟨a, b⟩; exact ⟨.inl a, b⟩
  · rintro ⟨a | rfl, b⟩
    · exact ⟨a, b⟩
    · rcases hx with hx | hx
      · omega
      · exact (h.mem _).1 hx⟩
theorem IsE.put {Z S : List Ed} {x : Ed} {at_ : Nat} (h : IsE Z S) (h0 : 0 ≤ x.2.1) (hb : ∀ y ∈ Z.take at_, cfE y x < 0) (hs : ∀ y, Z[at_]? = some y → ¬ cfE y x < 0 ∧ y ≠ x) : IsE (Z.take at_ ++ x :: Z.drop at_) (S ++ [x]) := by
  have hz := h.up
  rw [← List.take_append_drop at_ Z] at hz
  unfold Rising at hz
  rw [List.pairwise_append] at hz
  obtain ⟨p1, p2, p3⟩ := hz
  refine ⟨?_, fun e => ?_⟩
  · unfold Rising
    rw [List.pairwise_append, List.pairwise_cons]
    have hd : ∀ z ∈ Z.drop at_, cfE x z < 0 := by
      cases e : Z.drop at_ with
      | nil => intro z hz; cases hz
      | cons y q =>
        have hy : Z[at_]? = some y := by
          have := congrArg List.head? e
          rw [List.head?_drop] at this
          simpa using this
        obtain ⟨s1, s2⟩ := hs y hy
        have hxy : cfE x y < 0 := cfE_gt (fun e => s2 e.symm) s1
        rw [e, List.pairwise_cons] at p2
        intro z hz
        rcases List.mem_cons.1 hz with rfl | hz
        · exact hxy
        · exact cfE_trans hxy (p2.1 z hz)
    refine ⟨p1, ⟨hd, p2⟩, fun y hy z hz => ?_⟩
    rcases List.mem_cons.1 hz with rfl | hz
    · exact hb y hy
    · exact p3 y hy z hz
  · have := h.mem e
    rw [← List.take_append_drop at_ Z, List.mem_append] at this
    rw [List.mem_append, List.mem_cons, List.mem_append, List.mem_singleton]
    constructor
    · rintro (a | rfl | a)
      · have := this.1 (.inl a); exact ⟨.inl this.1, this.2⟩
      · exact ⟨.inr rfl, h0⟩
      · have := this.1 (.inr a); exact ⟨.inl this.1, this.2⟩
    · rintro ⟨a | rfl, b⟩
      · rcases this.2 ⟨a, b⟩ with c | c
        · exact .inl c
        · exact .inr (.inr c)
      · exact .inr (.inl rfl)
/-- How many there may be. -/
theorem Right.rels_le {l : List TypI} (h : Right l) : (relsOf l).length ≤ 96 := by
  have H : ∀ q : List TypI, (∀ t ∈ q, t.rels.length ≤ 12) → (relsOf q).length ≤ q.length * 12 := fun q => by
    induction q with
    | nil => intro _; simp [relsOf]
    | cons t q ih =>
      intro hq
      have h1 := ih fun t ht => hq t (List.mem_cons_of_mem _ ht)
      have h2 := hq t List.mem_cons_self
      unfold relsOf at *
      rw [List.flatMap_cons, List.length_append, List.length_map, List.length_cons]
      omega
  have h1 := H l fun t ht => (h.rels t ht).few
  have h2 := h.few
  omega
end Go.Proofs.YtinfbimfiaegdaaGreat
