/- Plain laws: bytes that are cut anywhere ahead of their end are short, read in whatever parts they were put. -/
import Derived.Test.YtoddmaiplinkaaaPlain
namespace Go.Proofs.Ytoddmaiplinkaaa
open Go.RowKit

/-- A reader of L that was cut somewhere ahead of its end, or that has told so. -/
def CutOf (st : RSt) (L : List UInt8) : Prop := (∃ c, c < L.length ∧ st = (L.take c, 0)) ∨ st.2 = 10
theorem rnum_err {st : RSt} (h : st.2 ≠ 0) : rnum st = (0, st) := by simp [rnum, h]
theorem take_cut (x : Nat) (hx : x < 2 ^ 64) (c : Nat) (hc : c < (num x).length) : takeS ((num x).take c) = (0, 0, 10) := by
  have h8 := nb_le8 hx
  rw [num_length] at hc
  cases c with
  | zero => simp [takeS]
  | succ c =>
    have hb : (UInt8.ofNat (nb x)).toNat = nb x := by rw [UInt8.toNat_ofNat']; omega
    rw [num, List.take_succ_cons, takeS, hb, if_neg (by omega), if_pos (by rw [List.length_take, be_length]; omega)]
theorem rnum_cut {st : RSt} {x : Nat} (hx : x < 2 ^ 64) {R : List UInt8} (h : CutOf st (num x ++ R)) : CutOf (rnum st).2 R ∧ ((rnum st).2.2 = 0 → (rnum st).1 = x) := by
  rcases h with ⟨c, hc, rfl⟩ | h
  · rw [List.length_append] at hc
    rcases Nat.lt_or_ge c (num x).length with h1 | h1
    · have e : (num x ++ R).take c = (num x).take c := by rw [List.take_append_of_le_length (by omega)]
      have ht := take_cut x hx c h1
      rw [e]
      have hr : rnum ((num x).take c, 0) = (0, ((num x).take c, 10)) := by simp [rnum, ht]
      rw [hr]
      exact ⟨.inr rfl, fun h => absurd h (by simp)⟩
    · have e : (num x ++ R).take c = num x ++ R.take (c - (num x).length) := by
        rw [List.take_append, List.take_of_length_le h1]
      rw [e, rnum_num x hx]
      exact ⟨.inl ⟨c - (num x).length, by omega, rfl⟩, fun _ => rfl⟩
  · rw [rnum_err (by rw [h]; omega)]
    exact ⟨.inr h, fun h2 => by simp only at h2; omega⟩
theorem rtext_cut {st : RSt} {s : ByteArray} (hs : s.size < 2 ^ 64) {R : List UInt8} (h : CutOf st (text s ++ R)) : CutOf (rtext st).2 R := by
  have h0 : CutOf st (num s.size ++ (s.data.toList ++ R)) := by rwa [← List.append_assoc]
  obtain ⟨h1, h2⟩ := rnum_cut hs h0
  by_cases he : (rnum st).2.2 = 0
  · have hv := h2 he
    rcases h1 with ⟨c, hc, hst⟩ | h1
    · have hl := size_eq s
      rw [List.length_append, hl] at hc
      by_cases hlt : c < s.size
      · have : rtext st = ([], ((rnum st).2.1, 10)) := by
          simp only [rtext, he, ne_eq, not_true_eq_false, if_false]
          rw [if_pos]
          rw [hv, hst]; simp only [List.length_take, List.length_append, hl]; omega
        rw [this]; exact .inr rfl
      · have : (rtext st).2 = ((rnum st).2.1.drop s.size, 0) := by
          simp only [rtext, he, ne_eq, not_true_eq_false, if_false]
          rw [if_neg, hv]
          rw [hv, hst]; simp only [List.length_take, List.length_append, hl]; omega
        rw [this, hst]
        refine .inl ⟨c - s.size, by omega, ?_⟩
        simp only
        rw [List.take_append, List.take_of_length_le (by omega), List.drop_append, hl, List.drop_of_length_le (by omega)]
        simp
    · omega
  · have : (rtext st).2 = (rnum st).2 := by simp [rtext, he]
    rw [this]
    rcases h1 with ⟨c, hc, hst⟩ | h1
    · rw [hst] at he; exact absurd rfl he
    · exact .inr h1
theorem steps_cut (ss : List ByteArray) (hs : ∀ s ∈ ss, s.size < 2 ^ 64) (st : RSt) (h : CutOf st (texts ss)) (k : Nat) (hk : k ≤ ss.length) : CutOf (steps k st).2 (texts (ss.drop k)) := by
  induction k with
  | zero => simpa [steps] using h
  | succ k ih =>
    have h1 := ih (by omega)
    have hd : ss.drop k = ss[k]'(by omega) :: ss.drop (k + 1) := List.drop_eq_getElem_cons (by omega)
    rw [hd, texts_cons] at h1
    exact rtext_cut (hs _ (List.getElem_mem _)) h1
theorem cut_nil {st : RSt} (h : CutOf st []) : st.2 = 10 := by
  rcases h with ⟨c, hc, _⟩ | h
  · simp at hc
  · exact h
theorem rlist_cut (ss : List ByteArray) (hs : ∀ s ∈ ss, s.size < 2 ^ 64) (hn : ss.length < 2 ^ 64) (st : RSt) (h : CutOf st (num ss.length ++ texts ss)) : (rlist st ss.length).2.2 = 10 := by
  obtain ⟨h1, h2⟩ := rnum_cut hn h
  by_cases he : (rnum st).2.2 = 0
  · have hv := h2 he
    have h3 := steps_cut ss hs _ h1 ss.length (Nat.le_refl _)
    rw [List.drop_length] at h3
    have h4 := cut_nil h3
    simp only [rlist, he, ne_eq, not_true_eq_false, if_false, hv]
    rw [if_neg (by omega), if_pos (by rw [h4]; simp)]
    exact h4
  · rcases h1 with ⟨c, hc, hst⟩ | h1
    · rw [hst] at he; exact absurd rfl he
    · simp only [rlist, he, ne_eq, not_false_eq_true, if_true]
      exact h1
theorem nums_cons (u : Int) (r : List Int) : nums (u :: r) = num u.toNat ++ nums r := by simp [nums]
theorem own_below {w w' : World} {base : Nat} {e : TypeId} {size n : Nat} {v : Value} {xs : List Value} (h : w.ownsRow base e size v n xs) (hb : Below w.heap.size w w') : w'.ownsRow base e size v n xs :=
  h.kept (row := none) ⟨hb.os, hb.tape, hb.output, hb.size, fun k hk _ => hb.block k hk⟩ (by cases hv : v.ownBlock with
    | none => exact .inl rfl
    | some k => exact .inr (by simp))
end Go.Proofs.Ytoddmaiplinkaaa
