/- Plain laws on a number's bytes and what is read of them: what is put is read; bytes that are taken are those that their number is put as; the lesser number's bytes are below the greater one's. Nothing of the program is named here but what a reader holds. -/
import Derived.Test.YtoddmaiplinkaaaRlist
import Derived.Test.YtoddmaiplinkaaaTexts
namespace Go.Proofs.Ytoddmaiplinkaaa
open Go.RowKit

theorem val_append (a b : List UInt8) : val (a ++ b) = val a * 256 ^ b.length + val b := by
  induction b generalizing a with
  | nil => simp [val]
  | cons c r ih =>
    have e : a ++ c :: r = (a ++ [c]) ++ r := by simp
    have h1 := ih (a ++ [c])
    have h2 := ih [c]
    rw [e, h1, val_snoc, show c :: r = [c] ++ r from rfl, h2]
    simp only [List.length_append, List.length_singleton]
    have : val [c] = c.toNat := by simp [val]
    rw [this, Nat.add_comm 1, Nat.pow_succ, Nat.add_mul, Nat.mul_assoc, Nat.mul_comm 256, Nat.add_assoc]
theorem val_be (x : Nat) : val (be x) = x := by
  induction x using Nat.strongRecOn with
  | _ x ih =>
    by_cases h : x = 0
    · subst h; rw [be_zero]; rfl
    · rw [be_pos (by omega), val_snoc, ih _ (by omega), UInt8.toNat_ofNat']
      omega
theorem be_head {x : Nat} (h : 0 < x) : (be x).head? ≠ some 0 := by
  induction x using Nat.strongRecOn with
  | _ x ih =>
    rw [be_pos h]
    by_cases h2 : x / 256 = 0
    · rw [h2, be_zero]
      simp
      intro e
      have := congrArg UInt8.toNat e
      simp at this
      omega
    · have := ih (x / 256) (by omega) (by omega)
      rw [List.head?_append]
      cases hb : (be (x / 256)).head? with
      | none =>
        rw [List.head?_eq_none_iff] at hb
        have := be_length (x / 256)
        rw [hb, nb_pos (by omega)] at this
        simp at this
      | some y => rw [hb] at this; simpa using this
theorem nb_eq_zero {x : Nat} : nb x = 0 ↔ x = 0 := by
  constructor
  · intro h
    rcases Nat.eq_zero_or_pos x with h0 | h0
    · exact h0
    · rw [nb_pos h0] at h; omega
  · rintro rfl; exact nb_zero
theorem take_num (x : Nat) (hx : x < 2 ^ 64) (rest : List UInt8) : takeS (num x ++ rest) = (x, nb x + 1, 0) := by
  have h8 := nb_le8 hx
  have hb : (UInt8.ofNat (nb x)).toNat = nb x := by rw [UInt8.toNat_ofNat']; omega
  have hl := be_length x
  rw [num, List.cons_append, takeS, hb, if_neg (by omega), if_neg (by rw [List.length_append, hl]; omega), if_neg]
  · rw [← hl, List.take_left, val_be]
  · rintro ⟨h1, h2⟩
    have h0 : 0 < x := by rcases Nat.eq_zero_or_pos x with h0 | h0; (subst h0; rw [nb_zero] at h1; omega); exact h0
    have h3 := be_head h0
    rw [List.head?_append] at h2
    cases hb : (be x).head? with
    | none => rw [List.head?_eq_none_iff] at hb; rw [hb] at hl; simp at hl; omega
    | some y => rw [hb] at h2 h3; simp at h2; rw [h2] at h3; exact h3 rfl
/-- What bytes without a 0 ahead are worth, as bytes. -/
theorem be_val (t : List UInt8) (h : t.head? ≠ some 0) : be (val t) = t := by
  have key : ∀ (n : Nat) (t : List UInt8), t.length = n → t.head? ≠ some 0 → be (val t) = t := by
    intro n
    induction n with
    | zero =>
      intro t hl _
      have : t = [] := List.eq_nil_of_length_eq_zero hl
      subst this; rw [val_nil, be_zero]
    | succ n ih =>
      intro t hl ht
      obtain ⟨s, c, rfl⟩ : ∃ s c, t = s ++ [c] := ⟨t.dropLast, t.getLast (by intro e; subst e; simp at hl), (List.dropLast_concat_getLast _).symm⟩
      have hs : s.length = n := by simpa using hl
      have hc := c.toNat_lt
      have h1 : s.head? ≠ some 0 := by
        intro e; apply ht; rw [List.head?_append, e]; rfl
      rw [val_snoc]
      have h2 := ih s hs h1
      have hpos : 0 < val s * 256 + c.toNat := by
        rcases Nat.eq_zero_or_pos (val s) with h0 | h0
        · rw [h0, be_zero] at h2
          subst h2
          have : c ≠ 0 := by intro e; apply ht; subst e; rfl
          have : c.toNat ≠ 0 := fun e => this (UInt8.toNat_inj.1 e)
          omega
        · omega
      rw [be_pos hpos, show (val s * 256 + c.toNat) / 256 = val s by omega, show (val s * 256 + c.toNat) % 256 = c.toNat by omega, h2]
      simp
  exact key t.length t rfl h
theorem take_inv {l : List UInt8} {x k : Nat} (h : takeS l = (x, k, 0)) : ∃ rest, l = num x ++ rest ∧ k = nb x + 1 ∧ x < 2 ^ 64 := by
  have hx := (take_ok h).2.1
  cases l with
  | nil => simp [takeS] at h
  | cons b r =>
    simp only [takeS] at h
    split at h
    · simp at h
    · rename_i h8
      split at h
      · simp at h
      · rename_i hlen
        split at h
        · simp at h
        · rename_i h0
          simp only [Prod.mk.injEq] at h
          obtain ⟨rfl, rfl, _⟩ := h
          have hh : (r.take b.toNat).head? ≠ some 0 := by
            intro e
            apply h0
            rw [List.head?_take] at e
            split at e
            · cases e
            · exact ⟨by omega, e⟩
          have hv := be_val _ hh
          have hnb : nb (val (r.take b.toNat)) = b.toNat := by rw [← be_length, hv, List.length_take]; omega
          refine ⟨r.drop b.toNat, ?_, by rw [hnb], hx⟩
          rw [num, hnb, hv, List.cons_append, List.take_append_drop]
          simp

theorem rnum_num (x : Nat) (hx : x < 2 ^ 64) (rest : List UInt8) : rnum (num x ++ rest, 0) = (x, (rest, 0)) := by
  have h := take_num x hx rest
  have hl := num_length x
  simp only [rnum, ne_eq, not_true_eq_false, if_false, h]
  rw [← hl, List.drop_left]
theorem rtext_text (s : ByteArray) (hs : s.size < 2 ^ 64) (rest : List UInt8) : rtext (text s ++ rest, 0) = (s.data.toList, (rest, 0)) := by
  have h := rnum_num s.size hs (s.data.toList ++ rest)
  rw [← List.append_assoc] at h
  have hl := size_eq s
  simp only [rtext, text, h, ne_eq, not_true_eq_false, if_false]
  rw [if_neg (by rw [List.length_append, hl]; omega), ← hl, List.take_left, List.drop_left]
theorem texts_cons (s : ByteArray) (r : List ByteArray) : texts (s :: r) = text s ++ texts r := by simp [texts]
theorem steps_texts (ss : List ByteArray) (hs : ∀ s ∈ ss, s.size < 2 ^ 64) (rest : List UInt8) (k : Nat) (hk : k ≤ ss.length) :
    steps k (texts ss ++ rest, 0) = ((ss.take k).map (fun s => s.data.toList), (texts (ss.drop k) ++ rest, 0)) := by
  induction k with
  | zero => simp [steps]
  | succ k ih =>
    have h := ih (by omega)
    have hd : ss.drop k = ss[k]'(by omega) :: ss.drop (k + 1) := List.drop_eq_getElem_cons (by omega)
    have ht := rtext_text (ss[k]'(by omega)) (hs _ (List.getElem_mem _)) (texts (ss.drop (k + 1)) ++ rest)
    rw [← List.append_assoc, ← texts_cons, ← hd] at ht
    simp only [steps, h, ht]
    rw [List.take_succ_eq_append_getElem (by omega), List.map_append]
    rfl
theorem rlist_list (ss : List ByteArray) (hs : ∀ s ∈ ss, s.size < 2 ^ 64) (hn : ss.length < 2 ^ 64) (rest : List UInt8) (most : Nat) :
    rlist (num ss.length ++ texts ss ++ rest, 0) most = if most < ss.length then ([], (texts ss ++ rest, 13)) else (ss.map (fun s => s.data.toList), (rest, 0)) := by
  have h := rnum_num ss.length hn (texts ss ++ rest)
  rw [← List.append_assoc] at h
  have h2 := steps_texts ss hs rest ss.length (Nat.le_refl _)
  rw [List.take_length, List.drop_length, show texts [] = [] from rfl, List.nil_append] at h2
  simp only [rlist, h, h2, ne_eq, not_true_eq_false, if_false]
theorem tv_map (ss : List ByteArray) : tv (ss.map (fun s => s.data.toList)) = ss.map Value.string := by
  unfold tv
  rw [List.map_map]
  exact List.map_congr_left fun s _ => by simp [Function.comp, strOf_of]

/-! order -/
theorem nb_mono {x y : Nat} (h : x ≤ y) : nb x ≤ nb y := by
  induction y using Nat.strongRecOn generalizing x with
  | _ y ih =>
    rcases Nat.eq_zero_or_pos x with h0 | h0
    · subst h0; rw [nb_zero]; omega
    · have h1 := nb_pos h0
      have h2 := nb_pos (show 0 < y by omega)
      have := ih (y / 256) (by omega) (x := x / 256) (by omega)
      omega
theorem less_val : ∀ (s t : List UInt8), s.length = t.length → Op.bytesLess s t = decide (val s < val t)
  | [], [], _ => rfl
  | a :: s, b :: t, h => by
    have hl : s.length = t.length := by simpa using h
    have ih := less_val s t hl
    have h1 := val_append [a] s
    have h2 := val_append [b] t
    have ha : val [a] = a.toNat := by simp [val]
    have hb : val [b] = b.toNat := by simp [val]
    have hs := val_lt s
    have ht := val_lt t
    rw [ha] at h1; rw [hb] at h2
    simp only [List.singleton_append] at h1 h2
    rw [← hl] at h2 ht
    rw [Op.bytesLess, ih, h1, h2]
    generalize hp : 256 ^ s.length = p at *
    have key : ∀ (m n : Nat), m < n → m * p + val s < n * p + val t := by
      intro m n hmn
      have : (m + 1) * p ≤ n * p := Nat.mul_le_mul_right p hmn
      rw [Nat.add_mul] at this
      omega
    have key2 : ∀ (m n : Nat), n < m → ¬ m * p + val s < n * p + val t := by
      intro m n hmn
      have : (n + 1) * p ≤ m * p := Nat.mul_le_mul_right p hmn
      rw [Nat.add_mul] at this
      omega
    rcases Nat.lt_trichotomy a.toNat b.toNat with hab | hab | hab
    · have e1 : a < b := UInt8.lt_iff_toNat_lt.2 hab
      simp [e1, key _ _ hab]
    · have e1 : a = b := UInt8.toNat_inj.1 hab
      subst e1
      simp
    · have e1 : ¬ a < b := fun h => by have := UInt8.lt_iff_toNat_lt.1 h; omega
      have e2 : (a == b) = false := by
        rw [beq_eq_false_iff_ne]; intro e; subst e; omega
      simp [e1, e2]
      have := key2 _ _ hab
      omega
theorem less_num (x y : Nat) (hx : x < 2 ^ 64) (hy : y < 2 ^ 64) : Op.bytesLess (num x) (num y) = decide (x < y) := by
  have h8 := nb_le8 hx
  have h9 := nb_le8 hy
  have hbx : (UInt8.ofNat (nb x)).toNat = nb x := by rw [UInt8.toNat_ofNat']; omega
  have hby : (UInt8.ofNat (nb y)).toNat = nb y := by rw [UInt8.toNat_ofNat']; omega
  rw [num, num, Op.bytesLess]
  rcases Nat.lt_trichotomy (nb x) (nb y) with h | h | h
  · have e1 : UInt8.ofNat (nb x) < UInt8.ofNat (nb y) := UInt8.lt_iff_toNat_lt.2 (by rw [hbx, hby]; exact h)
    have e2 : x < y := by
      rcases Nat.lt_or_ge x y with h2 | h2
      · exact h2
      · have := nb_mono h2; omega
    simp [e1, e2]
  · rw [h, less_val _ _ (by rw [be_length, be_length, h]), val_be, val_be]
    simp
  · have e1 : ¬ UInt8.ofNat (nb x) < UInt8.ofNat (nb y) := fun h2 => by have := UInt8.lt_iff_toNat_lt.1 h2; rw [hbx, hby] at this; omega
    have e2 : (UInt8.ofNat (nb x) == UInt8.ofNat (nb y)) = false := by
      rw [beq_eq_false_iff_ne]; intro e; have := congrArg UInt8.toNat e; rw [hbx, hby] at this; omega
    have e3 : ¬ x < y := fun h2 => by have := nb_mono (Nat.le_of_lt h2); omega
    simp [e1, e2, e3]
theorem num_inj {x y : Nat} (hx : x < 2 ^ 64) (hy : y < 2 ^ 64) (h : num x = num y) : x = y := by
  have h1 := take_num x hx []
  have h2 := take_num y hy []
  rw [h, h2] at h1
  exact (congrArg (·.1) h1).symm
theorem num_beq (x y : Nat) (hx : x < 2 ^ 64) (hy : y < 2 ^ 64) : (num x == num y) = decide (x = y) := by
  by_cases h : x = y
  · subst h; simp
  · have : num x ≠ num y := fun e => h (num_inj hx hy e)
    simp [h, this]
end Go.Proofs.Ytoddmaiplinkaaa
