/- Layer 8: rewrites as trees: their operations, and their texts; how a text is put together, operation by operation. Conditions: none; nothing of the program is named here. -/
import Derived.Test.YtkeonempmchpnaaParseP
namespace Go.Proofs.Ytkeonempmchpnaa

/-- What a rewrite is. -/
inductive Ex where
  | this : Ex
  | same (n : ByteArray) : Ex
  | via (n m : ByteArray) : Ex
  | bin (k : Nat) (a b : Ex) : Ex
def opK (k : Nat) : OpP := (k, ⟨#[]⟩, ⟨#[]⟩)
def Ex.ops : Ex → List OpP
  | .this => [(1, ⟨#[]⟩, ⟨#[]⟩)]
  | .same n => [(2, n, ⟨#[]⟩)]
  | .via n m => [(3, n, m)]
  | .bin k a b => a.ops ++ b.ops ++ [opK k]
def Ex.sg : Ex → Bool
  | .bin _ _ _ => true
  | _ => false
/-- A sign, with a blank on each side. -/
def sgnS (k : Nat) : ByteArray := if k = 4 then ⟨#[32, 124, 32]⟩ else if k = 5 then ⟨#[32, 38, 32]⟩ else ⟨#[32, 45, 32]⟩
def parS (s : Bool) (x : ByteArray) : ByteArray := if s = true then ⟨#[40]⟩ ++ x ++ ⟨#[41]⟩ else x
def Ex.text : Ex → ByteArray
  | .this => sThis
  | .same n => n
  | .via n m => n ++ ⟨#[46]⟩ ++ m
  | .bin k a b => a.text ++ sgnS k ++ parS b.sg b.text
def Ex.good : Ex → Prop
  | .bin k a b => (k = 4 ∨ k = 5 ∨ k = 6) ∧ a.good ∧ b.good
  | _ => True
/-- A part that is written, in pieces, behind a place that is left for a sign; and whether it has signs itself. -/
abbrev Gp := List ByteArray × Bool
def catL : List ByteArray → ByteArray
  | [] => ⟨#[]⟩
  | x :: r => x ++ catL r
theorem catL_app : ∀ a b : List ByteArray, catL (a ++ b) = catL a ++ catL b
  | [], b => (nil_app' _).symm
  | x :: r, b => by
    show x ++ catL (r ++ b) = x ++ catL r ++ catL b
    rw [catL_app r b, app_assoc]
def flatG (gs : List Gp) : List ByteArray := gs.flatMap fun x => ⟨#[]⟩ :: x.1
def putG (x : ByteArray) (gs : List Gp) : List Gp := gs ++ [([x], false)]
def mergeG (c : ByteArray) (a b : Gp) : Gp := (a.1 ++ (if b.2 = true then c ++ ⟨#[40]⟩ else c) :: b.1 ++ (if b.2 = true then [⟨#[41]⟩] else []), true)
/-- A sign between the last two. -/
def joinG (c : ByteArray) : List Gp → List Gp
  | [] => []
  | [a] => [a]
  | [a, b] => [mergeG c a b]
  | a :: b :: d :: r => a :: joinG c (b :: d :: r)
theorem joinG_two (c : ByteArray) (a b : Gp) : ∀ l : List Gp, joinG c (l ++ [a, b]) = l ++ [mergeG c a b]
  | [] => rfl
  | [x] => rfl
  | x :: y :: l => by
    have h := joinG_two c a b (y :: l)
    cases l with
    | nil => rfl
    | cons z l => show x :: joinG c (y :: z :: (l ++ [a, b])) = _; rw [show y :: z :: (l ++ [a, b]) = y :: z :: l ++ [a, b] from rfl, h]; rfl
def textG (o : OpP) : ByteArray := if o.1 = 1 then sThis else if o.1 = 2 then o.2.1 else o.2.1 ++ ⟨#[46]⟩ ++ o.2.2
def stepG (gs : List Gp) (o : OpP) : List Gp :=
  if o.1 = 1 ∨ o.1 = 2 ∨ o.1 = 3 then putG (textG o) gs else if o.1 = 4 ∨ o.1 = 5 ∨ o.1 = 6 then joinG (sgnS o.1) gs else gs
def foldG (gs : List Gp) (l : List OpP) : List Gp := l.foldl stepG gs
/-- What a rewrite's operations are written as. -/
def rewS (l : List OpP) : ByteArray := catL (flatG (foldG [] l))
theorem foldG_tree : ∀ (t : Ex) (gs : List Gp), t.good → ∃ r, foldG gs t.ops = gs ++ [(r, t.sg)] ∧ catL r = t.text
  | .this, gs, _ => ⟨[sThis], rfl, app_nil _⟩
  | .same n, gs, _ => ⟨[n], rfl, app_nil _⟩
  | .via n m, gs, _ => ⟨[n ++ ⟨#[46]⟩ ++ m], rfl, app_nil _⟩
  | .bin k a b, gs, h => by
    obtain ⟨hk, ha, hb⟩ := h
    obtain ⟨ra, ea, ta⟩ := foldG_tree a gs ha
    obtain ⟨rb, eb, tb⟩ := foldG_tree b (gs ++ [(ra, a.sg)]) hb
    have e : foldG gs (Ex.bin k a b).ops = stepG (foldG (foldG gs a.ops) b.ops) (opK k) := by
      show List.foldl stepG gs (a.ops ++ b.ops ++ [opK k]) = _
      rw [List.foldl_append, List.foldl_append]
      rfl
    rw [e, ea, eb, List.append_assoc]
    have e2 : stepG (gs ++ ([(ra, a.sg)] ++ [(rb, b.sg)])) (opK k) = joinG (sgnS k) (gs ++ [(ra, a.sg), (rb, b.sg)]) := by
      unfold stepG opK
      dsimp only
      rw [if_neg (by omega), if_pos (by omega)]
      rfl
    rw [e2, joinG_two]
    refine ⟨_, rfl, ?_⟩
    show catL (ra ++ (if b.sg = true then sgnS k ++ ⟨#[40]⟩ else sgnS k) :: rb ++ (if b.sg = true then [⟨#[41]⟩] else [])) = a.text ++ sgnS k ++ parS b.sg b.text
    rw [catL_app, catL_app, ta]
    show a.text ++ ((if b.sg = true then sgnS k ++ ⟨#[40]⟩ else sgnS k) ++ catL rb) ++ _ = _
    rw [tb]
    unfold parS
    split
    · rw [show catL [(⟨#[41]⟩ : ByteArray)] = ⟨#[41]⟩ from rfl]
      simp only [app_assoc]
    · rw [show catL ([] : List ByteArray) = ⟨#[]⟩ from rfl, app_nil]
      simp only [app_assoc]
theorem rewS_tree (t : Ex) (h : t.good) : rewS t.ops = t.text := by
  obtain ⟨r, e, h2⟩ := foldG_tree t [] h
  unfold rewS
  rw [e, ← h2]
  show catL (⟨#[]⟩ :: r ++ []) = _
  rw [List.append_nil]
  show ⟨#[]⟩ ++ catL r = _
  exact nil_app' _
end Go.Proofs.Ytkeonempmchpnaa
