import Derived.Test.YtmblgnddgmfkhaaGreatK40
namespace Go.Proofs.YtmblgnddgmfkhaaGreat
open Go.RowKit
theorem rnum_len (st : RSt) : (zbn st).2.1.length ≤ st.1.length := by
  unfold zbn
  split
  · exact Nat.le_refl _
  · split
    · exact Nat.le_refl _
    · rw [List.length_drop]; omega
theorem rtext_len (st : RSt) : (zaX st).1.length ≤ st.1.length ∧ (zaX st).2.1.length ≤ st.1.length := by
  have h := rnum_len st
  unfold zaX
  split
  · exact ⟨Nat.zero_le _, h⟩
  · split
    · exact ⟨Nat.zero_le _, h⟩
    · simp only [List.length_take, List.length_drop]
      omega
theorem steps_len15 : ∀ (k : Nat) (st : RSt), (∀ t ∈ (steps k st).1, t.length ≤ st.1.length) ∧ (steps k st).2.1.length ≤ st.1.length
  | 0, st => ⟨(fun _ h => by cases h), Nat.le_refl _⟩
  | k + 1, st => by
    obtain ⟨h1, h2⟩ := steps_len15 k st
    obtain ⟨h3, h4⟩ := rtext_len (steps k st).2
    unfold steps
    dsimp only
    refine ⟨fun t ht => ?_, Nat.le_trans h4 h2⟩
    rcases List.mem_append.1 ht with ht | ht
    · exact h1 t ht
    · rw [List.mem_singleton.1 ht]
      omega
theorem rlist_len (st : RSt) (n : Nat) : (∀ t ∈ (zcA st n).1, t.length ≤ st.1.length) ∧ (zcA st n).2.1.length ≤ st.1.length := by
  have h := rnum_len st
  obtain ⟨h1, h2⟩ := steps_len15 (zbn st).1 (zbn st).2
  unfold zcA
  split
  · exact ⟨(fun _ h => by cases h), h⟩
  · split
    · exact ⟨(fun _ h => by cases h), h⟩
    · split
      · exact ⟨(fun _ h => by cases h), Nat.le_trans h2 h⟩
      · exact ⟨fun t ht => Nat.le_trans (h1 t ht) h, Nat.le_trans h2 h⟩
theorem ShortR.small {st : RSt} (h : st.1.length ≤ 100000) : ShortR st := by
  obtain ⟨a1, a2⟩ := rtext_len st
  obtain ⟨b1, b2⟩ := rtext_len (zaX st).2
  obtain ⟨c1, c2⟩ := rtext_len (zaX (zaX st).2).2
  have d := rnum_len (zdR st).2
  have e : (zdR st).2.1.length ≤ 100000 := by unfold zdR; dsimp only; omega
  refine ⟨⟨fun _ => ?_, fun _ t ht => ?_⟩, ?_, ?_, ?_⟩
  · have := (rtext_len (zbn (zdR st).2).2).1
    omega
  · have := (rlist_len (zbn (zdR st).2).2 100000).1 t ht
    omega
  · unfold zdR; dsimp only; rw [zdm]; omega
  · unfold zdR; dsimp only; rw [zdm]; omega
  · unfold zdR; dsimp only; rw [zdm]; omega
section
variable {f : CoF}
theorem again_len (s : Sto Tb Nd15) (st : RSt) : (zbk (p15 f) s st).2.2.1.length ≤ st.1.length := by
  obtain ⟨_, a2⟩ := rtext_len st
  obtain ⟨_, b2⟩ := rtext_len (zaX st).2
  obtain ⟨_, c2⟩ := rtext_len (zaX (zaX st).2).2
  have d := rnum_len (zdR st).2
  have e : (zdR st).2.1.length ≤ st.1.length := by unfold zdR; dsimp only; omega
  have h1 := (rtext_len (zbn (zdR st).2).2).2
  have h2 := (rlist_len (zbn (zdR st).2).2 100000).2
  unfold zbk zgl
  split
  · unfold zg1; dsimp only; omega
  · unfold zg2; dsimp only; omega
theorem ShortN.small : ∀ (n : Nat) (s : Sto Tb Nd15) (st : RSt), st.1.length ≤ 100000 → ShortN f n s st
  | 0, _, _, _ => trivial
  | n + 1, s, st, h => ⟨ShortR.small h, fun _ => ShortN.small n _ _ (Nat.le_trans (again_len s st) h)⟩
theorem ShortU.small {q : Int} {b : List UInt8} (h : b.length ≤ 100000) : ShortU f q b := by
  have h1 := rnum_len (b, 0)
  have h2 := rnum_len (zbn (b, 0)).2
  obtain ⟨h3, h4⟩ := rtext_len (zbn (zbn (b, 0)).2).2
  obtain ⟨h5, h6⟩ := rlist_len (zaX (zbn (zbn (b, 0)).2).2).2 100000
  dsimp only at h1
  exact ⟨by omega, fun t ht => by have := h5 t ht; omega, fun s _ => ShortN.small _ _ _ (by omega)⟩
end
end Go.Proofs.YtmblgnddgmfkhaaGreat
