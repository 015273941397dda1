/- The contracts of the document's own reader for layer 1 (Read, ReadText, ReadList), over a struct of a string and an error. -/
import Derived.Test.YtgppaompcnllbaaRefTake
import Derived.Test.YtgppaompcnllbaaRnum
import Derived.RegionTactic
import Derived.ChangeAlike
namespace Go.Proofs.Ytgppaompcnllbaa
open Go.RowKit

/-- The document's reader, as a value. -/
def rv (st : RSt) : Value := .agg #[.string (strOf st.1), .int .i64 st.2]

theorem strOf_drop (l : List UInt8) (n : Nat) : (strOf l).extract n l.length = strOf (l.drop n) := by
  apply ByteArray.ext
  apply Array.ext'
  rw [strOf_list]
  have : ((strOf l).extract n l.length).data.toList = (l.drop n).take (l.length - n) := by simp [strOf]
  rw [this, List.take_of_length_le (by simp)]
theorem below2 (w : World) (a b : Obj) : Below w.heap.size w ((w.alloc a).alloc b) := ((Below.refl _ _).alloc (Nat.le_refl _) _).alloc (by simp) _
theorem strOf_takeE (l : List UInt8) (n : Nat) : (strOf l).extract 0 n = strOf (l.take n) := by
  apply ByteArray.ext
  apply Array.ext'
  rw [strOf_list]
  simp [strOf]

set_option maxRecDepth 100000 in
set_option maxHeartbeats 400000 in
theorem refRead_any (st : RSt) (hl : st.1.length ≤ 1000000) (w : World) :
    Calls Try.prog 38 #[.agg #[.string (strOf st.1), .int .i64 st.2]] w fun e w' => e = .returned (.tuple #[.int .u64 (rnum st).1, .agg #[.string (strOf (rnum st).2.1), .int .i64 (rnum st).2.2]]) ∧ Below w.heap.size w w' := by
  obtain ⟨l, x⟩ := st
  have hsz := strOf_size l
  simp only at hl ⊢
  by_cases hx : x = 0
  · subst hx
    obtain ⟨q, k, f, hT⟩ : ∃ q k f, takeS l = (q, k, f) := ⟨_, _, _, rfl⟩
    have T : Hid (taken l = .tuple #[.int .u64 q, .int .i64 k, .int .i64 f]) := Lib.hid (by rw [taken, hT])
    by_cases hf : f = 0
    · subst hf
      obtain ⟨hk1, hk2, hk9⟩ := (take_ok hT).1 rfl
      have E : Hid (rnum (l, 0) = (q, (l.drop k, 0))) := Lib.hid (by simp [rnum, hT])
      clear hT
      go_enter Try.func38, Try.ntmps38
      go_wp2_with fail
      refine (refTake_any l (by omega) _).mono ?_
      rintro e w' ⟨rfl, rfl⟩
      rw [T.out]
      go_wp2_with fail
      have hdr := strOf_drop l
      go_region
      all_goals go_wp2
      go_returns
      rw [E.out]
      exact ⟨rfl, (below2 _ _ _).drew⟩
    · have hf1 : ((f : Int) != 0) = true := by simp [hf]
      have E : Hid (rnum (l, 0) = (0, (l, f))) := Lib.hid (by simp [rnum, hT, hf])
      clear hT
      go_enter Try.func38, Try.ntmps38
      go_wp2_with fail
      refine (refTake_any l (by omega) _).mono ?_
      rintro e w' ⟨rfl, rfl⟩
      rw [T.out]
      go_wp2_with fail
      go_region
      all_goals go_wp2
      go_returns
      rw [E.out]
      exact ⟨rfl, (below2 _ _ _).drew⟩
  · have hx1 : ((x : Int) != 0) = true := by simp [hx]
    have E : Hid (rnum (l, x) = (0, (l, x))) := Lib.hid (by simp [rnum, hx])
    go_enter Try.func38, Try.ntmps38
    go_wp2_with fail
    go_region
    all_goals go_wp2
    go_returns
    rw [E.out]
    exact ⟨rfl, (below2 _ _ _).drew⟩

theorem rnum_len (st : RSt) : (rnum st).2.1.length ≤ st.1.length := by
  unfold rnum
  split
  · exact Nat.le_refl _
  · split
    · exact Nat.le_refl _
    · simp
end Go.Proofs.Ytgppaompcnllbaa
