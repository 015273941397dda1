/- Layer 14, plainly: a key that is put in once, dropped, put in again and trimmed, among others that didn't end. Conditions: none; nothing of the program is named here. -/
import Derived.Test.YtmdhollegemlhaaEvP14
namespace Go.Proofs.Ytmdhollegemlhaa

/-- Others that didn't end and begin ahead of a. -/
def OnceS (L : List Sp) (k : ByteArray) (a : Int) : Prop := ∀ x ∈ L, x.1 ≠ k ∧ x.2.2 = 0 ∧ 1 ≤ x.2.1 ∧ x.2.1 < a
theorem OnceS.nil (k : ByteArray) (a : Int) : OnceS [] k a := fun _ h => by cases h
theorem OnceS.put {L L' : List Sp} {k q : ByteArray} {a last r : Int} (h : OnceS L k a) (hq : q ≠ k) (hr : r < a) (hp : putP L last q r = some L') : OnceS L' k a := by
  obtain ⟨h1, _, _, rfl⟩ := putP_some hp
  intro x hx
  rcases List.mem_append.1 hx with hx | hx
  · exact h x hx
  · rw [List.mem_singleton] at hx
    subst hx
    exact ⟨hq, rfl, h1, hr⟩
theorem OnceS.any {L : List Sp} {k : ByteArray} {a : Int} (h : OnceS L k a) (p : Sp → Bool) : (L.any fun x => p x && decide (x.1 = k)) = false := by
  rw [List.any_eq_false]
  intro x hx
  rw [decide_eq_false (h x hx).1, Bool.and_false]
  decide
theorem OnceS.count {L : List Sp} {k : ByteArray} {a b : Int} (h : OnceS L k a) (hb : a ≤ b) : countP L b = L.length := by
  unfold countP
  rw [List.filter_eq_self.2 fun x hx => ?_]
  have := h x hx
  unfold holdsP
  rw [decide_eq_true (show x.2.1 ≤ b by omega), decide_eq_true this.2.1]
  rfl
theorem OnceS.open_ {L : List Sp} {k : ByteArray} {a : Int} (h : OnceS L k a) : ∀ x ∈ L, openB k x = false := fun x hx => by
  unfold openB
  rw [decide_eq_false (h x hx).1, Bool.false_and]
/-- Behind the others: the key's span that didn't end. -/
theorem OnceS.open1 {L : List Sp} {k : ByteArray} {a : Int} (h : OnceS L k a) (r : Int) : openP (L ++ [(k, r, 0)]) k = L.length :=
  openP_some (x := (k, r, 0)) (fun j y hj hy => by
    rw [List.getElem?_append_left hj] at hy
    exact h.open_ y (List.mem_of_getElem? hy)) (by rw [List.getElem?_append_right (Nat.le_refl _), Nat.sub_self]; rfl) (by unfold openB; rw [decide_eq_true rfl, decide_eq_true rfl]; rfl)
theorem OnceS.ended {L : List Sp} {k : ByteArray} {a b c : Int} (h : OnceS L k a) (hb : b ≠ 0) : openP (L ++ [(k, c, b)]) k = -1 := by
  refine openP_none fun x hx => ?_
  rcases List.mem_append.1 hx with hx | hx
  · exact h.open_ x hx
  · rw [List.mem_singleton] at hx
    subst hx
    unfold openB
    rw [decide_eq_false hb, Bool.and_false]
theorem OnceS.again {L : List Sp} {k : ByteArray} {a b c d : Int} (h : OnceS L k a) (hb : b ≠ 0) : openP (L ++ [(k, c, b), (k, d, 0)]) k = (L.length + 1 : Nat) := by
  refine openP_some (x := (k, d, 0)) (fun j y hj hy => ?_) (by rw [List.getElem?_append_right (by omega), Nat.add_sub_cancel_left]; rfl) (by unfold openB; rw [decide_eq_true rfl, decide_eq_true rfl]; rfl)
  by_cases q : j < L.length
  · rw [List.getElem?_append_left q] at hy
    exact h.open_ y (List.mem_of_getElem? hy)
  · obtain rfl : j = L.length := by omega
    rw [List.getElem?_append_right (Nat.le_refl _), Nat.sub_self] at hy
    injection hy with hy
    subst hy
    unfold openB
    rw [decide_eq_false hb, Bool.and_false]
/-- All that the law asks, in its order. -/
theorem once_put {L : List Sp} {k : ByteArray} {a last : Int} (h : OnceS L k a) (ha : 1 ≤ a) (hl : last ≤ a) : putP L last k a = some (L ++ [(k, a, 0)]) := by
  unfold putP
  rw [openP_none h.open_, if_neg (by omega)]
theorem once_twice {L : List Sp} {k : ByteArray} {a last r : Int} (h : OnceS L k a) : putP (L ++ [(k, a, 0)]) last k r = none := by
  unfold putP
  rw [h.open1, if_pos (by omega)]
theorem has_snoc (L : List Sp) (x : Sp) (k : ByteArray) (r : Int) : hasP (L ++ [x]) k r = (hasP L k r || (holdsP x r && decide (x.1 = k))) := by
  unfold hasP
  rw [List.any_append, List.any_cons, List.any_nil, Bool.or_false]
theorem count_snoc (L : List Sp) (x : Sp) (r : Int) : countP (L ++ [x]) r = countP L r + (if holdsP x r then 1 else 0) := by
  unfold countP
  rw [List.filter_append, List.length_append]
  cases q : holdsP x r <;> simp [q]
theorem once_has {L : List Sp} {k : ByteArray} {a t : Int} (h : OnceS L k a) (r : Int) : hasP (L ++ [(k, a, t)]) k r = holdsP (k, a, t) r := by
  rw [has_snoc, show hasP L k r = false from h.any fun x => holdsP x r, Bool.false_or, decide_eq_true rfl, Bool.and_true]
theorem holds_open {k : ByteArray} {a r : Int} : holdsP (k, a, 0) r = decide (a ≤ r) := by
  unfold holdsP
  rw [decide_eq_true (show ((k, a, (0 : Int)) : Sp).2.2 = 0 from rfl), Bool.true_or, Bool.and_true]
theorem holds_shut {k : ByteArray} {a b r : Int} (hb : b ≠ 0) : holdsP (k, a, b) r = decide (a ≤ r ∧ r < b) := by
  unfold holdsP
  rw [decide_eq_false (show ¬ ((k, a, b) : Sp).2.2 = 0 from hb), Bool.false_or, Bool.decide_and]
theorem once_drop {L : List Sp} {k : ByteArray} {a last r : Int} (h : OnceS L k a) : dropP (L ++ [(k, a, 0)]) last k r = if r < last ∨ r ≤ a then none else some (L ++ [(k, a, r)]) := by
  unfold dropP
  rw [h.open1, show ((L.length : Nat) : Int).toNat = L.length from rfl]
  have hx : (L ++ [((k, a, 0) : Sp)])[L.length]? = some (k, a, 0) := by rw [List.getElem?_append_right (Nat.le_refl _), Nat.sub_self]; rfl
  rw [hx, Option.map_some, Option.getD_some]
  have he : endAt (L ++ [((k, a, 0) : Sp)]) L.length r = L ++ [(k, a, r)] := by
    unfold endAt
    rw [hx]
    dsimp only
    rw [List.set_append_right _ _ (Nat.le_refl _), Nat.sub_self]
    rfl
  rw [he]
  by_cases c : r < last ∨ r ≤ a
  · rw [if_pos c, if_pos (by dsimp only; omega)]
  · rw [if_neg c, if_neg (by dsimp only; omega)]
theorem once_gone {L : List Sp} {k : ByteArray} {a b last r : Int} (h : OnceS L k a) (hb : b ≠ 0) : dropP (L ++ [(k, a, b)]) last k r = none := by
  unfold dropP
  rw [h.ended hb, if_pos (by omega)]
theorem once_again {L : List Sp} {k : ByteArray} {a b last : Int} (h : OnceS L k a) (hb : 1 ≤ b) (hl : last ≤ b) : putP (L ++ [(k, a, b)]) last k b = some (L ++ [(k, a, b)] ++ [(k, b, 0)]) := by
  unfold putP
  rw [h.ended (by omega), if_neg (by omega)]
theorem once_trim {L : List Sp} {k : ByteArray} {a b : Int} (h : OnceS L k a) (hb : 1 ≤ b) : trimP (L ++ [(k, a, b)] ++ [(k, b, 0)]) b = L ++ [(k, b, 0)] := by
  unfold trimP
  rw [List.filter_append, List.filter_append, List.filter_eq_self.2 fun x hx => ?_]
  · have e1 : keptB b (k, a, b) = false := by
      unfold keptB
      rw [decide_eq_false (show ¬ ((k, a, b) : Sp).2.2 = 0 by show ¬ b = 0; omega), decide_eq_false (show ¬ b < ((k, a, b) : Sp).2.2 by show ¬ b < b; omega)]
      rfl
    have e2 : keptB b (k, b, 0) = true := by
      unfold keptB
      rw [decide_eq_true (show ((k, b, (0 : Int)) : Sp).2.2 = 0 from rfl)]
      rfl
    rw [List.filter_cons, if_neg (by rw [e1]; decide), List.filter_nil, List.append_nil, List.filter_cons, if_pos e2, List.filter_nil]
  · unfold keptB
    rw [decide_eq_true (h x hx).2.1]
    rfl
end Go.Proofs.Ytmdhollegemlhaa
