/- Layer 8: the signs and the parentheses of a rewrite's text are as many as its operations ask. Conditions: none; nothing of the program is named here. -/
import Derived.Test.YtkeonempmchpnaaTree
namespace Go.Proofs.Ytkeonempmchpnaa

def Ex.plain : Ex → Prop
  | .this => True
  | .bin k a b => (k = 4 ∨ k = 5 ∨ k = 6) ∧ a.plain ∧ b.plain
  | _ => False
def Ex.leaves : Ex → Nat
  | .bin _ a b => a.leaves + b.leaves
  | _ => 1
def Ex.sgnN : Ex → Nat
  | .bin _ a b => a.sgnN + b.sgnN + 1
  | _ => 0
def Ex.opnN : Ex → Nat
  | .bin _ a b => a.opnN + b.opnN + (if 1 < b.leaves then 1 else 0)
  | _ => 0
theorem Ex.leaves_pos : ∀ t : Ex, 1 ≤ t.leaves
  | .this => Nat.le_refl _
  | .same _ => Nat.le_refl _
  | .via _ _ => Nat.le_refl _
  | .bin _ a b => by
    have := Ex.leaves_pos a
    show 1 ≤ a.leaves + b.leaves
    omega
theorem Ex.sg_leaves (t : Ex) : t.sg = decide (1 < t.leaves) := by
  cases t with
  | bin k a b =>
    have := a.leaves_pos
    have := b.leaves_pos
    show true = decide (1 < a.leaves + b.leaves)
    rw [eq_comm, decide_eq_true_eq]
    omega
  | _ => rfl
theorem Ex.plain_good : ∀ t : Ex, t.plain → t.good
  | .this, _ => trivial
  | .bin _ a b, h => ⟨h.1, Ex.plain_good a h.2.1, Ex.plain_good b h.2.2⟩
theorem Ex.leaves_le : ∀ t : Ex, t.leaves ≤ t.ops.length
  | .this => Nat.le_refl _
  | .same _ => Nat.le_refl _
  | .via _ _ => Nat.le_refl _
  | .bin _ a b => by
    have := Ex.leaves_le a
    have := Ex.leaves_le b
    show a.leaves + b.leaves ≤ (a.ops ++ b.ops ++ [_]).length
    rw [List.length_append, List.length_append, List.length_singleton]
    omega
/-- How many bytes are such. -/
def cntP (p : UInt8 → Bool) (s : ByteArray) : Nat := s.data.toList.countP p
theorem cntP_app (p : UInt8 → Bool) (a b : ByteArray) : cntP p (a ++ b) = cntP p a + cntP p b := by
  unfold cntP
  rw [ByteArray.data_append, Array.toList_append, List.countP_append]
def isSg (c : UInt8) : Bool := c == 124 || (c == 38 || c == 45)
def isOp (c : UInt8) : Bool := c == 40
theorem text_signs : ∀ t : Ex, t.plain → cntP isSg t.text = t.sgnN ∧ cntP isOp t.text = t.opnN
  | .this, _ => ⟨by decide +kernel, by decide +kernel⟩
  | .bin k a b, h => by
    obtain ⟨hk, ha, hb⟩ := h
    obtain ⟨a1, a2⟩ := text_signs a ha
    obtain ⟨b1, b2⟩ := text_signs b hb
    have hs : cntP isSg (sgnS k) = 1 ∧ cntP isOp (sgnS k) = 0 := by rcases hk with rfl | rfl | rfl <;> exact ⟨by decide +kernel, by decide +kernel⟩
    have hp : cntP isSg (parS b.sg b.text) = b.sgnN ∧ cntP isOp (parS b.sg b.text) = b.opnN + (if 1 < b.leaves then 1 else 0) := by
      unfold parS
      rw [Ex.sg_leaves]
      by_cases h1 : 1 < b.leaves
      · rw [if_pos (decide_eq_true h1), if_pos h1, cntP_app, cntP_app, cntP_app, cntP_app, b1, b2]
        rw [show cntP isSg ⟨#[40]⟩ = 0 by decide +kernel, show cntP isSg ⟨#[41]⟩ = 0 by decide +kernel, show cntP isOp ⟨#[40]⟩ = 1 by decide +kernel, show cntP isOp ⟨#[41]⟩ = 0 by decide +kernel]
        omega
      · rw [if_neg (by simpa using h1), if_neg h1, b1, b2]
        exact ⟨rfl, rfl⟩
    show cntP isSg (a.text ++ sgnS k ++ parS b.sg b.text) = a.sgnN + b.sgnN + 1 ∧ cntP isOp (a.text ++ sgnS k ++ parS b.sg b.text) = a.opnN + b.opnN + (if 1 < b.leaves then 1 else 0)
    rw [cntP_app, cntP_app, cntP_app, cntP_app, a1, a2, hs.1, hs.2, hp.1, hp.2]
    omega
/-- What lies on the stack, as operations and as numbers. -/
def opsK (st : List Ex) : List OpP := st.flatMap Ex.ops
def sgsK (st : List Ex) : Nat := (st.map Ex.sgnN).sum
def opnK (st : List Ex) : Nat := (st.map Ex.opnN).sum
theorem opsK_app (a b : List Ex) : opsK (a ++ b) = opsK a ++ opsK b := by unfold opsK; rw [List.flatMap_append]
theorem sgsK_app (a b : List Ex) : sgsK (a ++ b) = sgsK a + sgsK b := by unfold sgsK; rw [List.map_append, List.sum_append]
theorem opnK_app (a b : List Ex) : opnK (a ++ b) = opnK a + opnK b := by unfold opnK; rw [List.map_append, List.sum_append]
theorem opsK_bin (s : List Ex) (k : Nat) (a b : Ex) : opsK (s ++ [.bin k a b]) = opsK (s ++ [a, b]) ++ [opK k] := by
  rw [opsK_app, opsK_app, List.append_assoc]
  simp [opsK, Ex.ops]
theorem leaves_sum : ∀ st : List Ex, (st.map Ex.leaves).sum ≤ (opsK st).length
  | [] => Nat.le_refl _
  | t :: r => by
    have h1 := leaves_sum r
    have h2 := t.leaves_le
    show t.leaves + (r.map Ex.leaves).sum ≤ (t.ops ++ opsK r).length
    rw [List.length_append]
    omega
theorem sgs_le : ∀ t : Ex, t.sgnN ≤ t.ops.length ∧ t.opnN ≤ t.ops.length
  | .this => ⟨Nat.zero_le _, Nat.zero_le _⟩
  | .same _ => ⟨Nat.zero_le _, Nat.zero_le _⟩
  | .via _ _ => ⟨Nat.zero_le _, Nat.zero_le _⟩
  | .bin k a b => by
    have := sgs_le a
    have := sgs_le b
    show a.sgnN + b.sgnN + 1 ≤ (a.ops ++ b.ops ++ [_]).length ∧ a.opnN + b.opnN + (if 1 < b.leaves then 1 else 0) ≤ (a.ops ++ b.ops ++ [_]).length
    rw [List.length_append, List.length_append, List.length_singleton]
    split <;> omega
theorem sgsK_le : ∀ st : List Ex, sgsK st ≤ (opsK st).length ∧ opnK st ≤ (opsK st).length
  | [] => ⟨Nat.le_refl _, Nat.le_refl _⟩
  | t :: r => by
    have h1 := sgsK_le r
    have h2 := sgs_le t
    show t.sgnN + sgsK r ≤ (t.ops ++ opsK r).length ∧ t.opnN + opnK r ≤ (t.ops ++ opsK r).length
    rw [List.length_append]
    omega
end Go.Proofs.Ytkeonempmchpnaa
