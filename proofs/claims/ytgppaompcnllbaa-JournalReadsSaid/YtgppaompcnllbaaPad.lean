/- The document's own Pad, called. Conditions: none. -/
import Derived.Test.YtgppaompcnllbaaSpec
import Derived.Test.YtgppaompcnllbaaProg
namespace Go.Proofs.Ytgppaompcnllbaa
open Go.RowKit

def strLen' : Value → Nat | .string s => s.size | _ => 0
theorem strOf_app (a b : List UInt8) : strOf a ++ strOf b = strOf (a ++ b) := by
  apply ByteArray.ext
  simp [strOf]
set_option maxRecDepth 100000 in
theorem pad_any (w : World) (l : List UInt8) (hl : l.length ≤ 1000000) : Calls Try.prog 31 #[.string (strOf l)] w fun e w' => e = .returned (.string (strOf (pad l))) ∧ w' = w := by
  go_enter Try.func31, Try.ntmps31
  go_wp2_with fail
  go_loop [0] (fun v => ∃ j : Nat, v = .string (strOf (l ++ List.replicate j 0)) ∧ (j = 0 ∨ l.length + j ≤ 64)) (fun v => 64 - strLen' v)
  case atStart => exact ⟨0, by simp, .inl rfl⟩
  case round =>
    obtain ⟨j, rfl, hj⟩ := hrel
    have hTs : (strOf (l ++ List.replicate j 0)).size = l.length + j := by rw [strOf_size]; simp
    have hTn : strOf (l ++ List.replicate j 0) ++ (⟨#[0]⟩ : ByteArray) = strOf (l ++ List.replicate (j + 1) 0) := by
      rw [show (⟨#[0]⟩ : ByteArray) = strOf [0] from rfl, strOf_app, List.replicate_succ', List.append_assoc]
    by_cases hjl : l.length + j < 64
    · have hjz : (l.length : Int) + (j : Int) < 64 := by omega
      go_wp2_with fail
      exact ⟨⟨j + 1, rfl, by omega⟩, by simp [strLen', strOf_size]; omega⟩
    · have hje : l ++ List.replicate j 0 = pad l := by rw [pad, show j = 64 - l.length from by omega]
      have hjz : 64 ≤ (l.length : Int) + (j : Int) := by omega
      rw [hje] at hTs ⊢
      clear hTn
      go_wp2_with fail
      go_ret
      exact ⟨rfl, rfl⟩
end Go.Proofs.Ytgppaompcnllbaa
