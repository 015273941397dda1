/- Layer 10: least levels by rounds, as plain words: a round takes for each the greatest that its edges ask for; after as many rounds as there are places all have their least level. Conditions: none; nothing of the program is named here. -/
import Derived.Test.YtinfbimfiaegdaaGreatLevP
namespace Go.Proofs.YtinfbimfiaegdaaGreat

/-- A round. -/
structure JStep (l : List Ed) (o s : Nat → Int) : Prop where
  up : ∀ i, o i ≤ s i
  asks : ∀ e ∈ l, o (tt e) + rise e ≤ s (fr e)
  only : ∀ i, s i = o i ∨ ∃ e ∈ l, fr e = i ∧ s i = o (tt e) + rise e
theorem JStep.le {n : Nat} {l : List Ed} {o s v : Nat → Int} (hl : InR n l) (h : JStep l o s) (hv : Sol n l v) (ho : ∀ i, i < n → o i ≤ v i) : ∀ i, i < n → s i ≤ v i := fun i hi => by
  rcases h.only i with e | ⟨e, he, hf, e2⟩
  · rw [e]; exact ho i hi
  · have h1 := ho _ (hl.tt he)
    have h2 := hv.2 e he
    rw [hf] at h2
    omega
/-- While some lack theirs, one more gets it. -/
theorem JStep.more {n : Nat} {l : List Ed} {o s v : Nat → Int} (hl : InR n l) (h : JStep l o s) (hv : Least n l v) (h0 : ∀ i, i < n → 0 ≤ o i) (ho : ∀ i, i < n → o i ≤ v i) (hx : ∃ i, i < n ∧ o i < v i) : ∃ i, i < n ∧ o i < v i ∧ s i = v i := Classical.byContradiction fun hn => by
  have hlt : ∀ i, i < n → o i < v i → s i < v i := fun i hi hlt => by
    have h1 := h.le hl hv.1 ho i hi
    have h2 : s i ≠ v i := fun e => hn ⟨i, hi, hlt, e⟩
    omega
  have hs : Sol n l (fun i => if o i < v i then v i - 1 else v i) := by
    refine ⟨fun i hi => ?_, fun e he => ?_⟩
    · have h1 := hv.1.1 i hi
      have h2 := h0 i hi
      dsimp only
      split <;> omega
    · have h1 := hv.1.2 e he
      have h2 := h.asks e he
      have h3 := hlt _ (hl.fr he)
      have h4 := ho _ (hl.tt he)
      dsimp only
      split
      · omega
      · split
        · rename_i ht hf
          have := h3 hf
          omega
        · exact h1
  obtain ⟨i, hi, hlt2⟩ := hx
  have := hv.2 _ hs i hi
  rw [if_pos hlt2] at this
  omega
/-- How many have theirs. -/
def doneN (n : Nat) (o v : Nat → Int) : Nat := ((List.range n).filter fun i => decide (o i = v i)).length
theorem doneN_le (n : Nat) (o v : Nat → Int) : doneN n o v ≤ n := by
  have := List.length_filter_le (fun i => decide (o i = v i)) (List.range n)
  rwa [List.length_range] at this
theorem doneN_all {n : Nat} {o v : Nat → Int} (h : doneN n o v = n) : ∀ i, i < n → o i = v i := fun i hi => by
  have h1 : ((List.range n).filter fun i => decide (o i = v i)).length = (List.range n).length := by rw [List.length_range]; exact h
  have := List.length_filter_eq_length_iff.1 h1 i (List.mem_range.2 hi)
  simpa using this
theorem doneN_lt {n : Nat} {o s v : Nat → Int} (hk : ∀ i, i < n → o i = v i → s i = v i) {j : Nat} (hj : j < n) (h1 : o j ≠ v j) (h2 : s j = v j) : doneN n o v < doneN n s v := by
  induction n with
  | zero => omega
  | succ n ih =>
    unfold doneN at *
    rw [List.range_succ, List.filter_append, List.filter_append, List.length_append, List.length_append]
    have hle : ((List.range n).filter fun i => decide (o i = v i)).length ≤ ((List.range n).filter fun i => decide (s i = v i)).length := by
      rw [← List.countP_eq_length_filter, ← List.countP_eq_length_filter]
      exact List.countP_mono_left fun i hi h => by
        have := List.mem_range.1 hi
        simp only [decide_eq_true_eq] at h ⊢
        exact hk i (by omega) h
    by_cases e : j = n
    · subst e
      simp [h1, h2]
      omega
    · have := ih (fun i hi => hk i (by omega)) (by omega)
      have h3 : ([n].filter fun i => decide (o i = v i)).length ≤ ([n].filter fun i => decide (s i = v i)).length := by
        by_cases h4 : o n = v n
        · have := hk n (by omega) h4
          simp [h4, this]
        · simp [h4]
      omega
/-- So many rounds. -/
inductive JRun (l : List Ed) (o : Nat → Int) : Nat → (Nat → Int) → Prop
  | nil : JRun l o 0 o
  | on {k : Nat} {s t : Nat → Int} (h : JRun l o k s) (j : JStep l s t) : JRun l o (k + 1) t
theorem JRun.done {n k : Nat} {l : List Ed} {o s v : Nat → Int} (hl : InR n l) (hv : Least n l v) (h0 : ∀ i, i < n → o i = 0) (h : JRun l o k s) : (∀ i, i < n → 0 ≤ s i ∧ s i ≤ v i) ∧ min k n ≤ doneN n s v := by
  induction h with
  | nil => exact ⟨fun i hi => by rw [h0 i hi]; exact ⟨Int.le_refl _, hv.1.1 i hi⟩, by omega⟩
  | @on k s t h j ih =>
    obtain ⟨h1, h2⟩ := ih
    have h3 := j.le hl hv.1 fun i hi => (h1 i hi).2
    refine ⟨fun i hi => ⟨Int.le_trans (h1 i hi).1 (j.up i), h3 i hi⟩, ?_⟩
    have hk : ∀ i, i < n → s i = v i → t i = v i := fun i hi e => by
      have := j.up i
      have := h3 i hi
      omega
    by_cases hx : ∃ i, i < n ∧ s i < v i
    · obtain ⟨i, hi, h4, h5⟩ := j.more hl hv (fun i hi => (h1 i hi).1) (fun i hi => (h1 i hi).2) hx
      have := doneN_lt hk hi (by omega) h5
      omega
    · have hall : ∀ i, i < n → t i = v i := fun i hi => hk i hi (by
        have := (h1 i hi).2
        have : ¬ s i < v i := fun e => hx ⟨i, hi, e⟩
        omega)
      have : doneN n t v = n := by
        unfold doneN
        rw [List.filter_eq_self.2 fun i hi => by simpa using hall i (List.mem_range.1 hi), List.length_range]
      omega
theorem JRun.least {n k : Nat} {l : List Ed} {o s v : Nat → Int} (hl : InR n l) (hv : Least n l v) (h0 : ∀ i, i < n → o i = 0) (h : JRun l o k s) (hk : n ≤ k) : ∀ i, i < n → s i = v i := by
  have h1 := (h.done hl hv h0).2
  have h2 := doneN_le n s v
  exact doneN_all (by omega)
end Go.Proofs.YtinfbimfiaegdaaGreat
/- Layer 10: ways of edges over places below a bound, as plain words; a way that has a Not and leads back. Conditions: none; nothing of the program is named here. -/
namespace Go.Proofs.YtinfbimfiaegdaaGreat

/-- A way of one edge or more, all places between being below k. -/
inductive PathLt (l : List Ed) (k : Nat) : Nat → Nat → Prop
  | one {e : Ed} (h : e ∈ l) : PathLt l k (fr e) (tt e)
  | join {i m j : Nat} (hm : m < k) (a : PathLt l k i m) (b : PathLt l k m j) : PathLt l k i j
theorem PathLt.more {l : List Ed} {k k' i j : Nat} (hk : k ≤ k') (h : PathLt l k i j) : PathLt l k' i j := by
  induction h with
  | one h => exact .one h
  | join hm _ _ ha hb => exact .join (by omega) ha hb
/-- The next place: it is between, or it isn't. -/
theorem PathLt.part {l : List Ed} {k i j : Nat} (h : PathLt l (k + 1) i j) : PathLt l k i j ∨ (PathLt l k i k ∧ PathLt l k k j) := by
  induction h with
  | one h => exact .inl (.one h)
  | @join i m j hm _ _ ha hb =>
    by_cases e : m < k
    · rcases ha with ha | ⟨ha, ha2⟩
      · rcases hb with hb | ⟨hb, hb2⟩
        · exact .inl (.join e ha hb)
        · exact .inr ⟨.join e ha hb, hb2⟩
      · rcases hb with hb | ⟨hb, hb2⟩
        · exact .inr ⟨ha, .join e ha2 hb⟩
        · exact .inr ⟨ha, hb2⟩
    · obtain rfl : m = k := by omega
      refine .inr ⟨?_, ?_⟩
      · rcases ha with ha | ⟨ha, _⟩ <;> exact ha
      · rcases hb with hb | ⟨_, hb⟩ <;> exact hb
theorem PathLt.zero {l : List Ed} {i j : Nat} (h : PathLt l 0 i j) : ∃ e ∈ l, fr e = i ∧ tt e = j := by
  cases h with
  | one h => exact ⟨_, h, rfl, rfl⟩
  | join hm => omega
theorem PathLt.reach {l : List Ed} {k i j : Nat} (h : PathLt l k i j) : Reach l i j := by
  induction h with
  | one h => exact .one h
  | join _ _ _ ha hb => exact ha.trans hb
theorem Reach.path {n : Nat} {l : List Ed} (hl : InR n l) {i j : Nat} (h : Reach l i j) : i = j ∨ PathLt l n i j := by
  induction h with
  | refl => exact .inl rfl
  | on m _ ih =>
    obtain ⟨e, he, rfl, rfl⟩ := mem_goE.1 m
    rcases ih with rfl | ih
    · exact .inr (.one he)
    · exact .inr (.join (hl.tt he) (.one he) ih)
/-- What the ways say is what leads back. -/
theorem cyc_path {n : Nat} {l : List Ed} (hl : InR n l) : Cyc l ↔ ∃ e ∈ l, e.2.2 = true ∧ (fr e = tt e ∨ PathLt l n (tt e) (fr e)) := by
  constructor
  · rintro ⟨e, he, hb, hr⟩
    exact ⟨e, he, hb, (hr.path hl).imp Eq.symm id⟩
  · rintro ⟨e, he, hb, h | h⟩
    · exact ⟨e, he, hb, by rw [h]; exact .refl _⟩
    · exact ⟨e, he, hb, h.reach⟩
end Go.Proofs.YtinfbimfiaegdaaGreat
