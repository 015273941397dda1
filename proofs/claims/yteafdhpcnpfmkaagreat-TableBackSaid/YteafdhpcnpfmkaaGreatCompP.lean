/- Layer 11: what a table tells, as plain words: numbers of paths, operations by numbers, and what levels keep. Conditions: none; nothing of the program is named here. -/
import Derived.Test.YteafdhpcnpfmkaaGreatSaidP
import Derived.Test.YteafdhpcnpfmkaaGreatTabN
import Derived.Test.YteafdhpcnpfmkaaGreatCompW
namespace Go.Proofs.YteafdhpcnpfmkaaGreat

theorem ix_some {ps : List Path} {q : Path} (h : q ∈ ps) : lastIx ps q = some (ixP ps q) := by
  obtain ⟨i, hi⟩ := lastIx_mem h
  unfold ixP
  rw [hi]
  rfl
theorem lastIx_no {ps : List Path} {q : Path} (h : q ∉ ps) : lastIx ps q = none := by
  cases e : lastIx ps q with
  | none => rfl
  | some i => exact absurd (List.mem_of_getElem? (lastIx_lt e)) h
theorem lastIx_is {ps : List Path} {q : Path} : (lastIx ps q).isSome = true ↔ q ∈ ps := by
  constructor
  · intro h
    cases e : lastIx ps q with
    | none => rw [e] at h; cases h
    | some i => exact List.mem_of_getElem? (lastIx_lt e)
  · intro h
    rw [ix_some h]
    rfl
theorem ix_get {ps : List Path} {q : Path} (h : q ∈ ps) : ps[ixP ps q]? = some q := lastIx_lt (ix_some h)
theorem ix_lt {ps : List Path} {q : Path} (h : q ∈ ps) : ixP ps q < ps.length := (List.getElem?_eq_some_iff.1 (ix_get h)).1
theorem numP_ix {ps : List Path} {q : Path} (h : q ∈ ps) : numP ps q = (ixP ps q : Nat) := numP_some (ix_some h)
theorem numP_max {ps : List Path} {q : Path} : (0 ≤ numP ps q ↔ q ∈ ps) ∧ max (numP ps q) 0 = (ixP ps q : Nat) := by
  by_cases h : q ∈ ps
  · rw [numP_ix h]
    exact ⟨⟨fun _ => h, fun _ => by omega⟩, by omega⟩
  · rw [numP_none h]
    unfold ixP
    rw [lastIx_no h]
    exact ⟨⟨fun h => by omega, fun k => absurd k h⟩, by decide⟩

theorem relsOf_len (l : List TypI) : (pathsOf l).length = (relsOf l).length := List.length_map _
theorem rel_mem {l : List TypI} {x : TypI × RelI} (h : x ∈ relsOf l) : x.1 ∈ l ∧ x.2 ∈ x.1.rels := by
  unfold relsOf at h
  obtain ⟨t, ht, h⟩ := List.mem_flatMap.1 h
  obtain ⟨r, hr, rfl⟩ := List.mem_map.1 h
  exact ⟨ht, hr⟩
theorem path_at {l : List TypI} {i : Nat} {x : TypI × RelI} (h : (relsOf l)[i]? = some x) : (pathsOf l)[i]? = some (x.1.name, x.2.name) := by
  unfold pathsOf
  rw [List.getElem?_map, h]
  rfl
theorem at_path {l : List TypI} {i : Nat} {q : Path} (h : (pathsOf l)[i]? = some q) : ∃ x, (relsOf l)[i]? = some x ∧ q = (x.1.name, x.2.name) := by
  unfold pathsOf at h
  rw [List.getElem?_map] at h
  cases e : (relsOf l)[i]? with
  | none => rw [e] at h; cases h
  | some x => rw [e] at h; exact ⟨x, rfl, (Option.some.inj h).symm⟩
theorem Right.ix_at {l : List TypI} (h : Right l) {i : Nat} {x : TypI × RelI} (hx : (relsOf l)[i]? = some x) : lastIx (pathsOf l) (x.1.name, x.2.name) = some i := lastIx_only h.paths (path_at hx)
theorem hasR_mem {t : TypI} {n : ByteArray} (h : hasR t n = true) : ∃ r ∈ t.rels, r.name = n := by
  unfold hasR at h
  cases e : firstR t n with
  | none => rw [e] at h; cases h
  | some r =>
    obtain ⟨a, b⟩ := find_some9 e
    exact ⟨r, a, of_decide_eq_true b⟩
theorem hasR_path {l : List TypI} {t : TypI} (ht : t ∈ l) {n : ByteArray} (h : hasR t n = true) : (t.name, n) ∈ pathsOf l := by
  obtain ⟨r, hr, rfl⟩ := hasR_mem h
  exact mem_paths.2 ⟨t, ht, r, hr, rfl, rfl⟩
theorem Right.metas {l : List TypI} (h : Right l) {x : TypI × RelI} (hx : x ∈ relsOf l) : (x.1.name, x.2.view) ∈ pathsOf l ∧ (x.1.name, x.2.edit) ∈ pathsOf l ∧ (x.1.name, x.2.check) ∈ pathsOf l := by
  obtain ⟨h1, h2⟩ := rel_mem hx
  have k := h.all h1 h2
  exact ⟨hasR_path h1 k.view, hasR_path h1 k.edit, hasR_path h1 k.check⟩
theorem Right.opPath {l : List TypI} (h : Right l) {x : TypI × RelI} (hx : x ∈ relsOf l) {o : OpI} (ho : o ∈ x.2.ops) (hk : o.1 = 2 ∨ o.1 = 3) : (x.1.name, o.2.1) ∈ pathsOf l := by
  obtain ⟨h1, h2⟩ := rel_mem hx
  have k := (h.all h1 h2).ops o ho
  unfold opOk at k
  rcases hk with e | e
  · rw [if_pos e] at k
    exact hasR_path h1 k
  · rw [if_neg (by omega), if_pos e] at k
    refine hasR_path h1 ?_
    unfold hasR
    cases e2 : firstR x.1 o.2.1 with
    | none => rw [e2] at k; cases k
    | some r => rfl
theorem hasT_mem {l : List TypI} {n : ByteArray} : hasT l n = true ↔ ∃ t ∈ l, t.name = n := by
  unfold hasT
  constructor
  · intro h
    cases e : firstT l n with
    | none => rw [e] at h; cases h
    | some t =>
      obtain ⟨a, b⟩ := find_some9 e
      exact ⟨t, a, of_decide_eq_true b⟩
  · rintro ⟨t, ht, e⟩
    unfold firstT
    rw [List.find?_isSome]
    exact ⟨t, ht, decide_eq_true e⟩
/-- Who may stand in tuples is there. -/
theorem Right.subPath {l : List TypI} (h : Right l) {x : TypI × RelI} (hx : x ∈ relsOf l) {s : Path} (hs : s ∈ x.2.subs) : (∃ t ∈ l, t.name = s.1) ∧ (s.2 ≠ ⟨#[]⟩ → s ∈ pathsOf l) := by
  obtain ⟨h1, h2⟩ := rel_mem hx
  have k := (h.all h1 h2).subs s hs
  unfold subOk at k
  rw [Bool.and_eq_true, Bool.or_eq_true] at k
  refine ⟨hasT_mem.1 k.1, fun hne => ?_⟩
  have h3 := k.2.resolve_left (by simpa using hne)
  obtain ⟨t, ht, r, hr, e1, e2⟩ := (h.there _ _).1 h3
  exact mem_paths.2 ⟨t, ht, r, hr, e1, e2⟩

/-- An operation Same tells an edge. -/
theorem same_edge {l : List TypI} (h : Right l) {i j : Nat} {x : TypI × RelI} (hx : (relsOf l)[i]? = some x) {o : OpI} (ho : x.2.ops[j]? = some o) (hk : o.1 = 2) :
    ((i : Int), ((ixP (pathsOf l) (x.1.name, o.2.1) : Nat) : Int), behindP x.2.ops j) ∈ edgesP l := by
  have hm := h.opPath (List.mem_of_getElem? hx) (List.mem_of_getElem? ho) (.inl hk)
  unfold edgesP relE opsE
  simp only [List.mem_flatMap, List.mem_map]
  refine ⟨(x, i), List.mk_mem_zipIdx_iff_getElem?.2 hx, (o, j), List.mk_mem_zipIdx_iff_getElem?.2 ho, ixP (pathsOf l) (x.1.name, o.2.1), ?_, rfl⟩
  unfold namedP pathsP
  rw [if_neg (by simp only; omega), if_pos (by simp only; exact hk)]
  simp only [List.filterMap_cons, ix_some hm, List.filterMap_nil, List.mem_singleton]
theorem same_level {n : Nat} {l : List TypI} {v : Nat → Int} (h : Right l) (hL : Sol n (edgesP l) v) {i j : Nat} {x : TypI × RelI} (hx : (relsOf l)[i]? = some x) {o : OpI} (ho : x.2.ops[j]? = some o) (hk : o.1 = 2) :
    v (ixP (pathsOf l) (x.1.name, o.2.1)) ≤ v i ∧ (behindP x.2.ops j = true → v (ixP (pathsOf l) (x.1.name, o.2.1)) < v i) := by
  have := hL.2 _ (same_edge h hx ho hk)
  simp only [fr, tt, rise, Int.toNat_natCast] at this
  refine ⟨by split at this <;> omega, fun hb => ?_⟩
  rw [if_pos hb] at this
  omega
/-- The second one of two, of which a Not takes it away. -/
theorem not_behind {t : Ex} (hg : t.good) (h3 : t.len = 3) (h6 : t.kd 2 = 6) : behindP (t.ops.map opZ) 1 = true := by
  rw [behind_tree hg (by omega)]
  cases t with
  | this => simp [Ex.len, Ex.ops] at h3
  | same n => simp [Ex.len, Ex.ops] at h3
  | via n m => simp [Ex.len, Ex.ops] at h3
  | bin k a b =>
    have hl := Ex.len_bin k a b
    have pa := a.len_pos
    have pb := b.len_pos
    have ea : a.len = 1 := by omega
    have eb : b.len = 1 := by omega
    have hk : k = 6 := by have := Ex.kd_o (k := k) (a := a) (b := b); rw [ea, eb] at this; exact this.symm.trans h6
    have : (Ex.bin k a b).cnt 1 = b.cnt 0 + 1 := by
      show (if 1 < a.len then a.cnt 1 else if 1 < a.len + b.len then b.cnt (1 - a.len) + (if k = 6 then 1 else 0) else 0) = _
      rw [if_neg (by omega), if_pos (by omega), if_pos hk, ea]
    rw [this]
    exact decide_eq_true (by omega)
/-- Levels are below the number of relations. -/
theorem Least.below {n : Nat} {l : List Ed} {v : Nat → Int} (hi : InR n l) (h : Least n l v) {i : Nat} (hin : i < n) : v i < n := by
  have h0 := h.1.1 i hin
  have key : ∀ c : Nat, (c : Int) ≤ v i → ∃ k, k < n ∧ v k = c := by
    intro c hc
    rcases Nat.eq_zero_or_pos c with rfl | hp
    · by_cases hz : v i = 0
      · exact ⟨i, hin, hz⟩
      · obtain ⟨e, he, h1, h2⟩ := h.nots hin (c := 1) (by omega) (by omega)
        have h3 := h.1.2 e he
        have h4 := h.1.1 (tt e) (hi.tt he)
        have h5 : rise e = 1 := by unfold rise; rw [if_pos h1]
        exact ⟨tt e, hi.tt he, by simp only [Int.natCast_zero]; omega⟩
    · obtain ⟨e, he, h1, h2⟩ := h.nots hin (c := c) (by omega) hc
      exact ⟨fr e, hi.fr he, h2⟩
  obtain ⟨m, hm⟩ : ∃ m : Nat, v i = m := ⟨(v i).toNat, by omega⟩
  rw [hm] at key ⊢
  suffices H : ∀ c : Nat, c ≤ m → ∃ L : List Nat, L.Nodup ∧ (∀ k ∈ L, k < n ∧ v k ≤ c) ∧ L.length = c + 1 by
    obtain ⟨L, h1, h2, h3⟩ := H m (Nat.le_refl _)
    have := nodup_le h1 fun k hk => (h2 k hk).1
    omega
  intro c
  induction c with
  | zero =>
    intro _
    obtain ⟨k, hk, e⟩ := key 0 (by omega)
    exact ⟨[k], by simp, fun q hq => by rw [List.mem_singleton.1 hq]; exact ⟨hk, by omega⟩, rfl⟩
  | succ c ih =>
    intro hc
    obtain ⟨L, h1, h2, h3⟩ := ih (by omega)
    obtain ⟨k, hk, e⟩ := key (c + 1) (by omega)
    refine ⟨k :: L, List.nodup_cons.2 ⟨fun hm => ?_, h1⟩, fun q hq => ?_, by rw [List.length_cons, h3]⟩
    · have := (h2 k hm).2; omega
    · rcases List.mem_cons.1 hq with rfl | hq
      · exact ⟨hk, by omega⟩
      · have := h2 q hq; exact ⟨this.1, by omega⟩
end Go.Proofs.YteafdhpcnpfmkaaGreat
/- Layer 11: what Compile answers is one answer, and hangs on what the text says alone. Conditions: none. -/
namespace Go.Proofs.YteafdhpcnpfmkaaGreat

theorem CompIs.move {s t : ByteArray} (h1 : (parseS s).1 = (parseS t).1) (h2 : (parseS s).2.1 = (parseS t).2.1) {e : Nat} {tx : ByteArray} {ty : List ByteArray} {ps : List Path} {R : List RelT} (h : CompIs t e tx ty ps R) : CompIs s e tx ty ps R := by
  cases h with
  | parse e h h0 => exact .parse e (h2.trans h) h0
  | check e a h h0 => exact .check e (h2.trans a) (by rw [h1]; exact h) h0
  | cyc a hR hc => exact .cyc (h2.trans a) (by rw [h1]; exact hR) (by rw [h1]; exact hc)
  | long a hR hc hz => exact .long (h2.trans a) (by rw [h1]; exact hR) (by rw [h1]; exact hc) (by rw [h1]; exact hz)
  | ok a hR v hv hi hL hz =>
    rw [← h1] at hR hv hi hL hz ⊢
    exact .ok (h2.trans a) hR v hv hi hL hz
/-- What is told of a table that there is. -/
structure TabOk (s : ByteArray) (tx : ByteArray) (ty : List ByteArray) (ps : List Path) (R : List RelT) (v : List Int) : Prop where
  says : (parseS s).2.1 = 0
  right : Right ((parseS s).1.map typI)
  len : v.length = (relsOf ((parseS s).1.map typI)).length
  inr : InR v.length (edgesP ((parseS s).1.map typI))
  least : Least v.length (edgesP ((parseS s).1.map typI)) (lvAt v)
  size : (showS (parseS s).1).size ≤ 2048
  text : tx = showS (parseS s).1
  types : ty = (parseS s).1.map (·.name)
  paths : ps = pathsOf ((parseS s).1.map typI)
  rels : R = relsTT ((parseS s).1.map typI) v
theorem CompIs.yes {s : ByteArray} {e : Nat} {tx : ByteArray} {ty : List ByteArray} {ps : List Path} {R : List RelT} (h : CompIs s e tx ty ps R) : (e ≠ 0 ∧ tx = ⟨#[]⟩ ∧ ty = [] ∧ ps = [] ∧ R = []) ∨ (e = 0 ∧ ∃ v, TabOk s tx ty ps R v) := by
  cases h with
  | parse e h h0 => exact .inl ⟨h0, rfl, rfl, rfl, rfl⟩
  | check e a h h0 => exact .inl ⟨h0, rfl, rfl, rfl, rfl⟩
  | cyc a hR hc => exact .inl ⟨by decide, rfl, rfl, rfl, rfl⟩
  | long a hR hc hz => exact .inl ⟨by decide, rfl, rfl, rfl, rfl⟩
  | ok a hR v hv hi hL hz => exact .inr ⟨rfl, v, ⟨a, hR, hv, hi, hL, hz, rfl, rfl, rfl, rfl⟩⟩
theorem levels_one {n : Nat} {l : List Ed} {v u : List Int} (h1 : v.length = n) (h2 : u.length = n) (a : Least n l (lvAt v)) (b : Least n l (lvAt u)) : v = u :=
  List.ext_getElem (by omega) fun i h3 h4 => by
    have := a.same b (i := i) (by omega)
    simpa [lvAt, h3, h4] using this
/-- One answer. -/
theorem CompIs.one {s : ByteArray} {e f : Nat} {tx ux : ByteArray} {ty uy : List ByteArray} {ps qs : List Path} {R Q : List RelT} (h : CompIs s e tx ty ps R) (k : CompIs s f ux uy qs Q) : e = f ∧ tx = ux ∧ ty = uy ∧ ps = qs ∧ R = Q := by
  have hck : Right ((parseS s).1.map typI) → (checkE ((parseS s).1.map typI)).1 = 0 := fun h => (checkE_ok _).1.2 h
  cases h with
  | parse e h h0 =>
    cases k with
    | parse f k k0 => exact ⟨h.symm.trans k, rfl, rfl, rfl, rfl⟩
    | check f a => exact absurd (h.symm.trans a) h0
    | cyc a => exact absurd (h.symm.trans a) h0
    | long a => exact absurd (h.symm.trans a) h0
    | ok a => exact absurd (h.symm.trans a) h0
  | check e a h h0 =>
    cases k with
    | parse f k k0 => exact absurd (k.symm.trans a) k0
    | check f b k k0 => exact ⟨h.symm.trans k, rfl, rfl, rfl, rfl⟩
    | cyc b hR => exact absurd (h.symm.trans (hck hR)) h0
    | long b hR => exact absurd (h.symm.trans (hck hR)) h0
    | ok b hR => exact absurd (h.symm.trans (hck hR)) h0
  | cyc a hR hc =>
    cases k with
    | parse f k k0 => exact absurd (k.symm.trans a) k0
    | check f b k k0 => exact absurd (k.symm.trans (hck hR)) k0
    | cyc => exact ⟨rfl, rfl, rfl, rfl, rfl⟩
    | long _ _ hn => exact absurd hc hn
    | ok _ _ v _ _ hL => exact (Cyc.none hc hL.1).elim
  | long a hR hn hz =>
    cases k with
    | parse f k k0 => exact absurd (k.symm.trans a) k0
    | check f b k k0 => exact absurd (k.symm.trans (hck hR)) k0
    | cyc _ _ hc => exact absurd hc hn
    | long => exact ⟨rfl, rfl, rfl, rfl, rfl⟩
    | ok _ _ v _ _ _ hz2 => omega
  | ok a hR v hv hi hL hz =>
    cases k with
    | parse f k k0 => exact absurd (k.symm.trans a) k0
    | check f b k k0 => exact absurd (k.symm.trans (hck hR)) k0
    | cyc _ _ hc => exact (Cyc.none hc hL.1).elim
    | long _ _ _ hz2 => omega
    | ok _ _ u hu _ hM =>
      rw [hv] at hL
      rw [hu] at hM
      have := levels_one hv hu hL hM
      subst this
      exact ⟨rfl, rfl, rfl, rfl, rfl⟩
end Go.Proofs.YteafdhpcnpfmkaaGreat
