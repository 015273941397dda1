/- Layer 14, plainly: spans in one row, as the document has them. Conditions: none; nothing of the program is named here. -/
import Derived.Test.YtmdhollegemlhaaMatP
namespace Go.Proofs.Ytmdhollegemlhaa

/-- A span: its key, from where on, and where it ended (0: it didn't). -/
abbrev Sp := ByteArray × Int × Int
/-- What became of a key. -/
abbrev Ev := Int × ByteArray × Bool
def holdsP (x : Sp) (r : Int) : Bool := decide (x.2.1 ≤ r) && (decide (x.2.2 = 0) || decide (r < x.2.2))
/-- Is it the key's, and didn't end? -/
def openB (k : ByteArray) (x : Sp) : Bool := decide (x.1 = k) && decide (x.2.2 = 0)
/-- The first place at which the key's span that didn't end stands, or -1. -/
def openP (L : List Sp) (k : ByteArray) : Int := match L.findIdx? (openB k) with
  | some i => i
  | none => -1
def putP (L : List Sp) (last : Int) (k : ByteArray) (r : Int) : Option (List Sp) := if r < 1 ∨ r < last ∨ 0 ≤ openP L k then none else some (L ++ [(k, r, 0)])
/-- A span ended. -/
def endAt (L : List Sp) (i : Nat) (r : Int) : List Sp := match L[i]? with
  | some x => L.set i (x.1, x.2.1, r)
  | none => L
def dropP (L : List Sp) (last : Int) (k : ByteArray) (r : Int) : Option (List Sp) := if r < last ∨ openP L k < 0 ∨ r ≤ ((L[(openP L k).toNat]?).map (·.2.1)).getD 0 then none else some (endAt L (openP L k).toNat r)
def hasP (L : List Sp) (k : ByteArray) (r : Int) : Bool := L.any fun x => holdsP x r && decide (x.1 = k)
/-- Is a key within? -/
def within (lo hi k : ByteArray) : Bool := !kl k lo && (decide (hi = ⟨#[]⟩) || kl k hi)
/-- The lesser one of what there is so far and a key. -/
def lessO (b : Option ByteArray) (k : ByteArray) : Option ByteArray := match b with
  | none => some k
  | some c => if kl k c then some k else some c
def nextP (L : List Sp) (r : Int) (lo hi : ByteArray) : Option ByteArray := L.foldl (fun b x => if holdsP x r && within lo hi x.1 then lessO b x.1 else b) none
def countP (L : List Sp) (r : Int) : Nat := (L.filter fun x => holdsP x r).length
/-- Is one ahead of another one? -/
def belowE (a b : Ev) : Bool := if a.1 ≠ b.1 then decide (a.1 < b.1) else if a.2.1 ≠ b.2.1 then kl a.2.1 b.2.1 else !a.2.2 && b.2.2
def putE : List Ev → Ev → List Ev
  | [], x => [x]
  | a :: l, x => if belowE a x then a :: putE l x else x :: a :: l
def evsOf (x : Sp) (a b : Int) : List Ev := (if a < x.2.1 ∧ x.2.1 ≤ b then [(x.2.1, x.1, true)] else []) ++ (if 0 < x.2.2 ∧ a < x.2.2 ∧ x.2.2 ≤ b then [(x.2.2, x.1, false)] else [])
/-- What became of all, in order. -/
def eventsP (L : List Sp) (a b : Int) : List Ev := L.foldl (fun o x => (evsOf x a b).foldl putE o) []
def keptB (r : Int) (x : Sp) : Bool := decide (x.2.2 = 0) || decide (r < x.2.2)
def trimP (L : List Sp) (r : Int) : List Sp := L.filter (keptB r)

theorem openP_some {L : List Sp} {k : ByteArray} {i : Nat} {x : Sp} (h1 : ∀ (j : Nat) y, j < i → L[j]? = some y → openB k y = false) (hx : L[i]? = some x) (h : openB k x = true) : openP L k = i := by
  have : L.findIdx? (openB k) = some i := by
    obtain ⟨hi, e⟩ := List.getElem?_eq_some_iff.1 hx
    refine List.findIdx?_eq_some_iff_getElem.2 ⟨hi, by rw [e]; exact h, fun j hj => ?_⟩
    rw [h1 j _ hj (List.getElem?_eq_getElem (by omega))]
    decide
  unfold openP
  rw [this]
theorem openP_none {L : List Sp} {k : ByteArray} (h : ∀ x ∈ L, openB k x = false) : openP L k = -1 := by
  have : L.findIdx? (openB k) = none := List.findIdx?_eq_none_iff.2 h
  unfold openP
  rw [this]
theorem hasP_snoc {L : List Sp} {i : Nat} {x : Sp} (k : ByteArray) (r : Int) (h : L[i]? = some x) : hasP (L.take (i + 1)) k r = (hasP (L.take i) k r || (holdsP x r && decide (x.1 = k))) := by
  unfold hasP
  rw [List.take_add_one, h, Option.toList_some, List.any_append, List.any_cons, List.any_nil, Bool.or_false]
theorem nextP_snoc {L : List Sp} {i : Nat} {x : Sp} (r : Int) (lo hi : ByteArray) (h : L[i]? = some x) : nextP (L.take (i + 1)) r lo hi = if holdsP x r && within lo hi x.1 then lessO (nextP (L.take i) r lo hi) x.1 else nextP (L.take i) r lo hi := by
  unfold nextP
  rw [List.take_add_one, h, Option.toList_some, List.foldl_append]
  rfl
theorem countP_snoc {L : List Sp} {i : Nat} {x : Sp} (r : Int) (h : L[i]? = some x) : countP (L.take (i + 1)) r = countP (L.take i) r + (if holdsP x r then 1 else 0) := by
  unfold countP
  rw [List.take_add_one, h, Option.toList_some, List.filter_append, List.length_append]
  cases q : holdsP x r <;> simp [q]
theorem eventsP_snoc {L : List Sp} {i : Nat} {x : Sp} (a b : Int) (h : L[i]? = some x) : eventsP (L.take (i + 1)) a b = (evsOf x a b).foldl putE (eventsP (L.take i) a b) := by
  unfold eventsP
  rw [List.take_add_one, h, Option.toList_some, List.foldl_append]
  rfl
theorem trimP_snoc {L : List Sp} {i : Nat} {x : Sp} (r : Int) (h : L[i]? = some x) : trimP (L.take (i + 1)) r = trimP (L.take i) r ++ (if keptB r x then [x] else []) := by
  unfold trimP
  rw [List.take_add_one, h, Option.toList_some, List.filter_append]
  cases q : keptB r x <;> simp [q]
theorem putE_len : ∀ (l : List Ev) (x : Ev), (putE l x).length = l.length + 1
  | [], _ => rfl
  | a :: l, x => by
    unfold putE
    split
    · rw [List.length_cons, putE_len, List.length_cons]
    · rfl
theorem putE_at : ∀ {l : List Ev} {x : Ev} {i : Nat}, i ≤ l.length → (∀ (j : Nat) a, j < i → l[j]? = some a → belowE a x = true) → (∀ a, l[i]? = some a → belowE a x = false) → putE l x = l.take i ++ x :: l.drop i
  | [], x, i, hi, _, _ => by
    have : i = 0 := by simpa using hi
    subst this; rfl
  | a :: l, x, 0, _, _, h => by
    unfold putE
    rw [h a rfl, if_neg (by decide)]
    rfl
  | a :: l, x, i + 1, hi, h1, h2 => by
    unfold putE
    rw [h1 0 a (by omega) rfl, if_pos rfl, putE_at (by simpa using hi) (fun j b hj hb => h1 (j + 1) b (by omega) (by simpa using hb)) fun b hb => h2 b (by simpa using hb)]
    rfl
theorem evsOf_len (x : Sp) (a b : Int) : (evsOf x a b).length ≤ 2 := by
  unfold evsOf
  rw [List.length_append]
  split <;> split <;> simp
theorem foldE_len : ∀ (m l : List Ev), (m.foldl putE l).length = l.length + m.length
  | [], _ => rfl
  | x :: m, l => by rw [List.foldl_cons, foldE_len, putE_len, List.length_cons]; omega
theorem eventsP_len (L : List Sp) (a b : Int) : (eventsP L a b).length ≤ 2 * L.length := by
  have : ∀ (L : List Sp) (o : List Ev), (L.foldl (fun o x => (evsOf x a b).foldl putE o) o).length ≤ o.length + 2 * L.length := by
    intro L
    induction L with
    | nil => intro o; exact Nat.le_refl _
    | cons x r ih =>
      intro o
      rw [List.foldl_cons]
      have h1 := ih ((evsOf x a b).foldl putE o)
      have h2 := foldE_len (evsOf x a b) o
      have h3 := evsOf_len x a b
      rw [List.length_cons]
      omega
  have h := this L []
  rw [List.length_nil, Nat.zero_add] at h
  exact h
end Go.Proofs.Ytmdhollegemlhaa
