/- Layer 10: the edges of a schema, as plain words, in the code's own steps: paths and their numbers, what an operation names, what stands behind a Not. Conditions: none; nothing of the program is named here. -/
import Derived.Test.YteafdhpcnpfmkaaGreatLevP
import Derived.Test.YteafdhpcnpfmkaaGreatChk
namespace Go.Proofs.YteafdhpcnpfmkaaGreat

abbrev Path := ByteArray × ByteArray
/-- The last place of a path. -/
def lastIx (ps : List Path) (q : Path) : Option Nat := ps.zipIdx.foldl (fun a p => if p.1 = q then some p.2 else a) none
theorem lastIx_snoc (ps : List Path) (p q : Path) : lastIx (ps ++ [p]) q = if p = q then some ps.length else lastIx ps q := by
  unfold lastIx
  rw [List.zipIdx_append, List.foldl_append]
  simp
theorem lastIx_lt {ps : List Path} {q : Path} {i : Nat} (h : lastIx ps q = some i) : ps[i]? = some q := by
  suffices H : ∀ n (ps : List Path), ps.length = n → ∀ i, lastIx ps q = some i → ps[i]? = some q from H _ ps rfl i h
  intro n
  induction n with
  | zero => intro ps hn i h; rw [List.eq_nil_of_length_eq_zero hn] at h; simp [lastIx] at h
  | succ n ih =>
    intro ps hn i h
    rcases List.eq_nil_or_concat ps with rfl | ⟨ps', p, rfl⟩
    · simp at hn
    · rw [List.concat_eq_append] at *
      rw [lastIx_snoc] at h
      by_cases e : p = q
      · rw [if_pos e] at h; cases h; subst e; simp
      · rw [if_neg e] at h
        have := ih ps' (by simpa using hn) i h
        have hl := (List.getElem?_eq_some_iff.1 this).1
        rw [List.getElem?_append_left hl]; exact this
theorem lastIx_mem {ps : List Path} {q : Path} (h : q ∈ ps) : ∃ i, lastIx ps q = some i := by
  suffices H : ∀ n (ps : List Path), ps.length = n → q ∈ ps → ∃ i, lastIx ps q = some i from H _ ps rfl h
  intro n
  induction n with
  | zero => intro ps hn h; rw [List.eq_nil_of_length_eq_zero hn] at h; cases h
  | succ n ih =>
    intro ps hn h
    rcases List.eq_nil_or_concat ps with rfl | ⟨ps', p, rfl⟩
    · cases h
    · rw [List.concat_eq_append] at *
      rw [lastIx_snoc]
      by_cases e : p = q
      · exact ⟨_, if_pos e⟩
      · rw [if_neg e]
        rcases List.mem_append.1 h with h | h
        · exact ih ps' (by simpa using hn) h
        · exact absurd (List.mem_singleton.1 h).symm e
/-- Where no path is twice it is the only place. -/
theorem lastIx_only {ps : List Path} {q : Path} {i : Nat} (hn : ps.Nodup) (h : ps[i]? = some q) : lastIx ps q = some i := by
  obtain ⟨j, hj⟩ := lastIx_mem (List.mem_of_getElem? h)
  have h2 := lastIx_lt hj
  rw [hj]
  congr 1
  have H := List.pairwise_iff_getElem.1 hn
  obtain ⟨k1, k2⟩ := List.getElem?_eq_some_iff.1 h2
  obtain ⟨k3, k4⟩ := List.getElem?_eq_some_iff.1 h
  rcases Nat.lt_trichotomy j i with hl | hl | hl
  · exact absurd (k2.trans k4.symm) (H j i k1 k3 hl)
  · exact hl
  · exact absurd (k4.trans k2.symm) (H i j k3 k1 hl)

/-- All relations with their paths, in order. -/
def relsOf (l : List TypI) : List (TypI × RelI) := l.flatMap fun t => t.rels.map fun r => (t, r)
def pathsOf (l : List TypI) : List Path := (relsOf l).map fun x => (x.1.name, x.2.name)
def setsP (l : List Path) : List Path := l.filter fun s => !decide (s.2 = ⟨#[]⟩)
def nextsP (l : List Path) (n : ByteArray) : List Path := (l.filter fun s => decide (s.2 = ⟨#[]⟩)).map fun s => (s.1, n)
/-- The paths that an operation names. -/
def pathsP (ps : List Path) (rs : List RelI) (tn : ByteArray) (subs : List Path) (o : OpI) : List Path :=
  if o.1 = 1 then setsP subs
  else if o.1 = 2 then [(tn, o.2.1)]
  else if o.1 = 3 then (match lastIx ps (tn, o.2.1) with
    | some i => (match rs[i]? with
      | some x => nextsP x.subs o.2.2
      | none => [])
    | none => [])
  else []
def namedP (ps : List Path) (rs : List RelI) (tn : ByteArray) (subs : List Path) (o : OpI) : List Nat := (pathsP ps rs tn subs o).filterMap (lastIx ps)

/-- One operation: how many more Nots take each one away, and the beginnings of parts. -/
def addAt (m : List Int) (i : Nat) (d : Int) : List Int := m.set i (m.getD i 0 + d)
def mstep (s : List Int × List Nat) (i : Nat) (k : Int) : List Int × List Nat :=
  if k = 1 ∨ k = 2 ∨ k = 3 then (s.1, s.2 ++ [i])
  else if k = 4 ∨ k = 5 ∨ k = 6 then
    (if s.2.length < 2 then s
     else (if k = 6 then addAt (addAt s.1 (s.2.getD (s.2.length - 1) 0) 1) i (-1) else s.1, s.2.take (s.2.length - 1)))
  else s
def mrun (s : List Int × List Nat) (i : Nat) : List OpI → List Int × List Nat
  | [] => s
  | o :: r => mrun (mstep s i o.1) (i + 1) r
theorem mrun_snoc (s : List Int × List Nat) (i : Nat) (l : List OpI) (o : OpI) : mrun s i (l ++ [o]) = mstep (mrun s i l) (i + l.length) o.1 := by
  induction l generalizing s i with
  | nil => rfl
  | cons a t ih => rw [List.cons_append, mrun, ih, mrun, List.length_cons, Nat.add_right_comm, ← Nat.add_assoc]
/-- From the first on each number is the sum of all up to it. -/
def psum (m : List Int) : Nat → List Int
  | 0 => m
  | j + 1 => (psum m j).set (j + 1) ((psum m j).getD (j + 1) 0 + (psum m j).getD j 0)
def moreP (l : List OpI) : List Int := (mrun (List.replicate (l.length + 1) 0, []) 0 l).1
def behindP (l : List OpI) (i : Nat) : Bool := decide (0 < (psum (moreP l) l.length).getD i 0)

theorem addAt_len (m : List Int) (i : Nat) (d : Int) : (addAt m i d).length = m.length := by unfold addAt; rw [List.length_set]
theorem mstep_len (s : List Int × List Nat) (i : Nat) (k : Int) : (mstep s i k).1.length = s.1.length := by
  unfold mstep
  split
  · rfl
  · split
    · split
      · rfl
      · split
        · rw [addAt_len, addAt_len]
        · rfl
    · rfl
theorem mrun_len (s : List Int × List Nat) (i : Nat) (l : List OpI) : (mrun s i l).1.length = s.1.length := by
  induction l generalizing s i with
  | nil => rfl
  | cons a t ih => rw [mrun, ih, mstep_len]
theorem psum_len (m : List Int) (j : Nat) : (psum m j).length = m.length := by
  induction j with
  | zero => rfl
  | succ j ih => rw [psum, List.length_set, ih]
theorem mrun_beg (l : List OpI) : ∀ (s : List Int × List Nat) (i : Nat), (mrun s i l).2.length ≤ s.2.length + l.length := by
  induction l with
  | nil => intro s i; exact Nat.le_refl _
  | cons o r ih =>
    intro s i
    have h1 := ih (mstep s i o.1) (i + 1)
    have h2 : (mstep s i o.1).2.length ≤ s.2.length + 1 := by
      unfold mstep
      split
      · simp
      · split
        · split
          · omega
          · rw [List.length_take]; omega
        · omega
    rw [mrun, List.length_cons]
    omega
/-- Beginnings are places of operations that came. -/
theorem mrun_lt (l : List OpI) : ∀ (s : List Int × List Nat) (i : Nat), (∀ b ∈ s.2, b < i) → ∀ b ∈ (mrun s i l).2, b < i + l.length := by
  induction l with
  | nil => intro s i h b hb; exact h b hb
  | cons o r ih =>
    intro s i h b hb
    have := ih (mstep s i o.1) (i + 1) (fun c hc => by
      unfold mstep at hc
      split at hc
      · rcases List.mem_append.1 hc with q | q
        · have := h c q; omega
        · rw [List.mem_singleton.1 q]; omega
      · split at hc
        · split at hc
          · have := h c hc; omega
          · have := h c (List.mem_of_mem_take hc); omega
        · have := h c hc; omega) b hb
    rw [List.length_cons]
    omega
/-- All numbers stay small. -/
def Small (m : List Int) (k : Int) : Prop := ∀ x ∈ m, -k ≤ x ∧ x ≤ k
theorem addAt_small {m : List Int} {k : Int} (h : Small m k) (i : Nat) (d : Int) (hk : 0 ≤ k) (hd : -1 ≤ d ∧ d ≤ 1) : Small (addAt m i d) (k + 1) := by
  intro x hx
  unfold addAt at hx
  rcases List.mem_or_eq_of_mem_set hx with hx | rfl
  · have := h x hx; omega
  · rw [List.getD_eq_getElem?_getD]
    cases hi : m[i]? with
    | none => simp; omega
    | some y => have := h y (List.mem_of_getElem? hi); simp; omega
theorem mstep_small {s : List Int × List Nat} {k : Int} (h : Small s.1 k) (i : Nat) (o : Int) (hk : 0 ≤ k) : Small (mstep s i o).1 (k + 2) := by
  have up : ∀ {m : List Int}, Small m k → Small m (k + 2) := fun q x hx => by have := q x hx; omega
  unfold mstep
  split
  · exact up h
  · split
    · split
      · exact up h
      · split
        · have := addAt_small (addAt_small h (s.2.getD (s.2.length - 1) 0) 1 hk (by omega)) i (-1) (by omega) (by omega)
          rw [Int.add_assoc] at this
          exact this
        · exact up h
    · exact up h
theorem mrun_small (l : List OpI) : ∀ (s : List Int × List Nat) (i : Nat) (k : Int), 0 ≤ k → Small s.1 k → Small (mrun s i l).1 (k + 2 * l.length) := by
  induction l with
  | nil => intro s i k _ h; simpa [mrun] using h
  | cons o r ih =>
    intro s i k hk h
    have := ih (mstep s i o.1) (i + 1) (k + 2) (by omega) (mstep_small h i o.1 hk)
    rw [List.length_cons]
    intro x hx
    have := this x hx
    omega
theorem psum_small {m : List Int} {k : Int} (h : Small m k) (hk : 0 ≤ k) (j : Nat) : Small (psum m j) (k * (j + 1)) ∧ (∀ i, j < i → (psum m j).getD i 0 = m.getD i 0) := by
  induction j with
  | zero => exact ⟨by simpa [psum] using h, fun _ _ => rfl⟩
  | succ j ih =>
    obtain ⟨h1, h2⟩ := ih
    have g : ∀ (m' : List Int) (b : Int), 0 ≤ b → Small m' b → ∀ i, -b ≤ m'.getD i 0 ∧ m'.getD i 0 ≤ b := fun m' b hb hs i => by
      rw [List.getD_eq_getElem?_getD]
      cases hi : m'[i]? with
      | none => simp; omega
      | some y => have := hs y (List.mem_of_getElem? hi); simpa using this
    have hkj : 0 ≤ k * (j : Int) := Int.mul_nonneg hk (by omega)
    have e1 : k * ((j : Int) + 1) = k * j + k := by rw [Int.mul_add, Int.mul_one]
    have e2 : k * (((j + 1 : Nat) : Int) + 1) = k * j + k + k := by rw [Int.natCast_add, Int.mul_add, Int.mul_add]; simp
    refine ⟨fun x hx => ?_, fun i hi => ?_⟩
    · rw [psum] at hx
      rw [e2]
      rcases List.mem_or_eq_of_mem_set hx with hx | rfl
      · have := h1 x hx; rw [e1] at this; omega
      · rw [h2 (j + 1) (by omega)]
        have a1 := g m k hk h (j + 1)
        have a2 := g _ _ (by rw [e1]; omega) h1 j
        rw [e1] at a2
        omega
    · rw [psum, List.getD_eq_getElem?_getD, List.getElem?_set_ne (by omega), ← List.getD_eq_getElem?_getD]
      exact h2 i (by omega)

/-- All edges, as they are come upon. -/
def opsE (ps : List Path) (rs : List RelI) (tn : ByteArray) (r : RelI) (from_ : Nat) (i : Nat) (o : OpI) : List Ed := (namedP ps rs tn r.subs o).map fun to => ((from_ : Int), ((to : Nat) : Int), behindP r.ops i)
def relE (ps : List Path) (rs : List RelI) (tn : ByteArray) (r : RelI) (from_ : Nat) : List Ed := (r.ops.zipIdx).flatMap fun x => opsE ps rs tn r from_ x.2 x.1
def edgesP (l : List TypI) : List Ed := ((relsOf l).zipIdx).flatMap fun x => relE (pathsOf l) ((relsOf l).map (·.2)) x.1.1.name x.1.2 x.2
end Go.Proofs.YteafdhpcnpfmkaaGreat
