/- The contracts of the document's own answers for layer 1 (numbers and texts as strings). -/
import Derived.Test.YtgppaompcnllbaaBase
import Derived.Test.YtgppaompcnllbaaRows
import Derived.Test.YtgppaompcnllbaaTake
namespace Go.Proofs.Ytgppaompcnllbaa
open Go.RowKit

theorem size_eq (s : ByteArray) : s.data.toList.length = s.size := by rw [Array.length_toList]; rfl

set_option maxRecDepth 100000 in
set_option maxHeartbeats 400000 in
theorem refNum_any (x : Nat) (hx : x < 2 ^ 64) (w : World) :
    Calls Try.prog 35 #[.int .u64 x] w fun e w' => e = .returned (.string (strOf (num x))) ∧ Below w.heap.size w w' := by
  have Hx := Lib.hid hx
  clear hx
  have hcv := conv_one (P := Try.prog) 36 9 5 Try.underlying36 Try.underlying5 Try.underlying9
  go_enter Try.func35, Try.ntmps35
  go_wp2
  go_loopw [3, 4] (fun t i wr => ∃ (y : Nat) (s : ByteArray), i = .int .u64 y ∧ y ≤ x ∧ t = .string s ∧ be y ++ s.data.toList = be x ∧ Below w.heap.size w wr) (fun _ i _ => (intOf i).toNat)
  case atStart => exact ⟨x, _, rfl, Nat.le_refl _, rfl, by simp, Below.refl _ _⟩
  case round =>
    obtain ⟨y, s, rfl, hyx, rfl, hs, hb⟩ := hrel
    have hs8 : s.size ≤ 8 := by
      have h1 := congrArg List.length hs
      have h2 := nb_le8 Hx.out
      rw [List.length_append, be_length, be_length, size_eq] at h1
      omega
    have Hs := Lib.hid hs
    have Hb := Lib.hid hb
    clear hs hb
    by_cases hlt : 0 < y
    · go_wp2
      have e1 : IntKind.u64.wrap ((y : Int) / 256) = ((y / 256 : Nat) : Int) := by have := Hx.out; rw [IntKind.wrap_u64]; omega
      refine ⟨⟨y / 256, _, by rw [e1], by omega, rfl, ?_, Hb.out.alloc Hb.out.size _⟩, by rw [e1]; simp [intOf]; omega⟩
      rw [← Hs.out, be_pos hlt]
      simp
    · have e : y = 0 := by omega
      subst e
      go_wp2
      go_ret
      refine ⟨?_, Hb.out.alloc Hb.out.size _⟩
      have h := Hs.out
      rw [be_zero, List.nil_append] at h
      have e2 : s.size = nb x := by rw [← be_length, ← h, size_eq]
      have e3 : strOf (num x) = { data := #[UInt8.ofNat s.size] } ++ s := by
        rw [num, ← h, e2]; apply ByteArray.ext; simp [strOf]
      rw [e3]
      rfl

theorem strOf_append (a b : List UInt8) : strOf a ++ strOf b = strOf (a ++ b) := by apply ByteArray.ext; simp [strOf]
end Go.Proofs.Ytgppaompcnllbaa
