/- The contracts of the document's own reader for layer 1 (Read, ReadText, ReadList), over a struct of a string and an error. -/
import Derived.Test.YtoddmaiplinkaaaRefTake
import Derived.Test.YtoddmaiplinkaaaRlist
import Derived.RegionTactic
import Derived.ChangeAlike
namespace Go.Proofs.Ytoddmaiplinkaaa
open Go.RowKit

/-- The document's reader, as a value. -/
def rv (st : RSt) : Value := .agg #[.string (strOf st.1), .int .i64 st.2]

theorem strOf_drop (l : List UInt8) (n : Nat) : (strOf l).extract n l.length = strOf (l.drop n) := by
  apply ByteArray.ext
  apply Array.ext'
  rw [strOf_list]
  have : ((strOf l).extract n l.length).data.toList = (l.drop n).take (l.length - n) := by simp [strOf]
  rw [this, List.take_of_length_le (by simp)]
theorem below2 (w : World) (a b : Obj) : Below w.heap.size w ((w.alloc a).alloc b) := ((Below.refl _ _).alloc (Nat.le_refl _) _).alloc (by simp) _
theorem strOf_takeE (l : List UInt8) (n : Nat) : (strOf l).extract 0 n = strOf (l.take n) := by
  apply ByteArray.ext
  apply Array.ext'
  rw [strOf_list]
  simp [strOf]

set_option maxRecDepth 100000 in
set_option maxHeartbeats 400000 in
theorem refRead_any (st : RSt) (hl : st.1.length ≤ 1000000) (w : World) :
    Calls Try.prog 19 #[.agg #[.string (strOf st.1), .int .i64 st.2]] w fun e w' => e = .returned (.tuple #[.int .u64 (rnum st).1, .agg #[.string (strOf (rnum st).2.1), .int .i64 (rnum st).2.2]]) ∧ Below w.heap.size w w' := by
  obtain ⟨l, x⟩ := st
  have hsz := strOf_size l
  simp only at hl ⊢
  by_cases hx : x = 0
  · subst hx
    obtain ⟨q, k, f, hT⟩ : ∃ q k f, takeS l = (q, k, f) := ⟨_, _, _, rfl⟩
    have T : Hid (taken l = .tuple #[.int .u64 q, .int .i64 k, .int .i64 f]) := Lib.hid (by rw [taken, hT])
    by_cases hf : f = 0
    · subst hf
      obtain ⟨hk1, hk2, hk9⟩ := (take_ok hT).1 rfl
      have E : Hid (rnum (l, 0) = (q, (l.drop k, 0))) := Lib.hid (by simp [rnum, hT])
      clear hT
      go_enter Try.func19, Try.ntmps19
      go_wp2_with fail
      refine (refTake_any l (by omega) _).mono ?_
      rintro e w' ⟨rfl, rfl⟩
      rw [T.out]
      go_wp2_with fail
      have hdr := strOf_drop l
      go_region
      all_goals go_wp2
      go_returns
      rw [E.out]
      exact ⟨rfl, (below2 _ _ _).drew⟩
    · have hf1 : ((f : Int) != 0) = true := by simp [hf]
      have E : Hid (rnum (l, 0) = (0, (l, f))) := Lib.hid (by simp [rnum, hT, hf])
      clear hT
      go_enter Try.func19, Try.ntmps19
      go_wp2_with fail
      refine (refTake_any l (by omega) _).mono ?_
      rintro e w' ⟨rfl, rfl⟩
      rw [T.out]
      go_wp2_with fail
      go_region
      all_goals go_wp2
      go_returns
      rw [E.out]
      exact ⟨rfl, (below2 _ _ _).drew⟩
  · have hx1 : ((x : Int) != 0) = true := by simp [hx]
    have E : Hid (rnum (l, x) = (0, (l, x))) := Lib.hid (by simp [rnum, hx])
    go_enter Try.func19, Try.ntmps19
    go_wp2_with fail
    go_region
    all_goals go_wp2
    go_returns
    rw [E.out]
    exact ⟨rfl, (below2 _ _ _).drew⟩

theorem rnum_len (st : RSt) : (rnum st).2.1.length ≤ st.1.length := by
  unfold rnum
  split
  · exact Nat.le_refl _
  · split
    · exact Nat.le_refl _
    · simp
theorem rtext_len (st : RSt) : (rtext st).2.1.length ≤ st.1.length := by
  have h := rnum_len st
  unfold rtext
  split
  · exact h
  · split
    · exact h
    · simp only [List.length_drop]; omega

/-- What a call leaves of a struct of two cells that was made ahead of it. -/
theorem after2 {w w3 : World} {a : Obj} {u v : Value} {t : TypeId} (hb : Below ((w.alloc a).alloc (.cells #[u, v] t)).heap.size ((w.alloc a).alloc (.cells #[u, v] t)) w3) :
    w3.cell? ⟨w.heap.size + 1, 0, none⟩ = some u ∧ w3.cell? ⟨w.heap.size + 1, 1, none⟩ = some v ∧ w3.frozen? ⟨w.heap.size + 1, 0, none⟩ = false ∧ w3.frozen? ⟨w.heap.size + 1, 1, none⟩ = false ∧ w.heap.size + 1 < w3.heap.size ∧ Below w.heap.size w w3 := by
  have hs := hb.size
  have hh : ((w.alloc a).alloc (.cells #[u, v] t)).heap[w.heap.size + 1]? = some (.cells #[u, v] t (0, 0)) := by
    have := heap_alloc_new (w.alloc a) (.cells #[u, v] t)
    simpa using this
  have h3 : w3.heap[w.heap.size + 1]? = some (.cells #[u, v] t (0, 0)) := (hb.block _ (by simp)).trans hh
  simp only [World.size_alloc] at hs
  refine ⟨by rw [cell_of_row _ _ _ _ _ _ h3]; rfl, by rw [cell_of_row _ _ _ _ _ _ h3]; rfl, by simp [World.frozen?, h3], by simp [World.frozen?, h3], by omega, (below2 w a _).trans (hb.mono (by simp; omega))⟩

theorem set2 {w3 : World} {g : Nat} {a b : Value} (u v : Value) (o : Obj) (g0 : w3.cell? ⟨g, 0, none⟩ = some a) (g1 : w3.cell? ⟨g, 1, none⟩ = some b) :
    (((w3.setCell ⟨g, 0, none⟩ u).setCell ⟨g, 1, none⟩ v).alloc o).cell? ⟨g, 0, none⟩ = some u ∧ (((w3.setCell ⟨g, 0, none⟩ u).setCell ⟨g, 1, none⟩ v).alloc o).cell? ⟨g, 1, none⟩ = some v := by
  have hlt : g < w3.heap.size := World.block_lt_of_cell? w3 _ g0
  have e := fun (i : Nat) => World.cell?_alloc_lt ((w3.setCell ⟨g, 0, none⟩ u).setCell ⟨g, 1, none⟩ v) o ⟨g, i, none⟩ (by simp [World.setCell]; exact hlt)
  rw [e 0, e 1]
  constructor
  · rw [World.cell?_setCell_other _ _ _ _ (by simp)]
    exact World.cell?_setCell_same _ _ _ (by rw [g0])
  · exact World.cell?_setCell_same _ _ _ (by rw [World.cell?_setCell_other _ _ _ _ (by simp), g1])

set_option maxRecDepth 100000 in
set_option maxHeartbeats 800000 in
theorem refText_rd (st : RSt) (hl : st.1.length ≤ 1000000) (w : World) :
    Calls Try.prog 21 #[.agg #[.string (strOf st.1), .int .i64 st.2]] w fun e w' => e = .returned (.tuple #[.string (strOf (rtext st).1), .agg #[.string (strOf (rtext st).2.1), .int .i64 (rtext st).2.2]]) ∧ Below w.heap.size w w' := by
  obtain ⟨q, ⟨l, x⟩, hN⟩ : ∃ q st1, rnum st = (q, st1) := ⟨_, _, rfl⟩
  have HN := Lib.hid hN
  have hll : l.length ≤ 1000000 := by have := rnum_len st; rw [hN] at this; simp only at this; omega
  have hsz := strOf_size l
  obtain ⟨L, X⟩ := st
  simp only at hl ⊢
  by_cases hx : x = 0
  · subst hx
    by_cases hq : l.length < q
    · have E : Hid (rtext (L, X) = ([], (l, 10))) := Lib.hid (by simp [rtext, hN, hq])
      clear hN
      go_enter Try.func21, Try.ntmps21
      go_wp2_with fail
      refine (refRead_any (L, X) hl _).mono ?_
      rintro e w3 ⟨rfl, hb3⟩
      rw [HN.out]
      obtain ⟨g0, g1, g2, g3, g4, hbw⟩ := after2 hb3
      have Hb := Lib.hid hbw
      clear hb3 hbw
      go_wp2_with fail
      go_region
      all_goals go_wp2
      have hset := set2 (.string (strOf l)) (.int .i64 10) (.cells #[.string (strOf l), .int .i64 0] 41) g0 g1
      refine bodyPost_ret (v := .tuple #[.string (strOf []), .agg #[.string (strOf l), .int .i64 10]]) (by simp [results, Try.results21, go_sem, hset.1, hset.2]; try rfl) rfl ?_
      rw [E.out]
      exact ⟨rfl, ((((Hb.out.setCell (Nat.le_succ _) _).setCell (Nat.le_succ _) _).alloc (by simp [World.setCell]; omega) _).drew)⟩
    · have E : Hid (rtext (L, X) = (l.take q, (l.drop q, 0))) := Lib.hid (by simp [rtext, hN, hq])
      have hq2 : q ≤ l.length := by omega
      have hdr := strOf_drop l
      have htk := strOf_takeE l
      clear hN
      go_enter Try.func21, Try.ntmps21
      go_wp2_with fail
      refine (refRead_any (L, X) hl _).mono ?_
      rintro e w3 ⟨rfl, hb3⟩
      rw [HN.out]
      obtain ⟨g0, g1, g2, g3, g4, hbw⟩ := after2 hb3
      have Hb := Lib.hid hbw
      clear hb3 hbw
      go_wp2_with fail
      go_region
      all_goals go_wp2
      have hset := set2 (.string (strOf (l.drop q))) (.int .i64 0) (.cells #[.string (strOf l), .int .i64 0] 41) g0 g1
      refine bodyPost_ret (v := .tuple #[.string (strOf (l.take q)), .agg #[.string (strOf (l.drop q)), .int .i64 0]]) (by simp [results, Try.results21, go_sem, hset.1, hset.2]; try rfl) rfl ?_
      rw [E.out]
      exact ⟨rfl, ((((Hb.out.setCell (Nat.le_succ _) _).setCell (Nat.le_succ _) _).alloc (by simp [World.setCell]; omega) _).drew)⟩
  · have hx1 : ((x : Int) != 0) = true := by simp [hx]
    have E : Hid (rtext (L, X) = ([], (l, x))) := Lib.hid (by simp [rtext, hN, hx])
    clear hN
    go_enter Try.func21, Try.ntmps21
    go_wp2_with fail
    refine (refRead_any (L, X) hl _).mono ?_
    rintro e w3 ⟨rfl, hb3⟩
    rw [HN.out]
    obtain ⟨g0, g1, g2, g3, g4, hbw⟩ := after2 hb3
    have Hb := Lib.hid hbw
    clear hb3 hbw
    go_wp2_with fail
    go_region
    all_goals go_wp2
    have hset := set2 (.string (strOf l)) (.int .i64 x) (.cells #[.string (strOf l), .int .i64 x] 41) g0 g1
    refine bodyPost_ret (v := .tuple #[.string (strOf []), .agg #[.string (strOf l), .int .i64 x]]) (by simp [results, Try.results21, go_sem, hset.1, hset.2]; try rfl) rfl ?_
    rw [E.out]
    exact ⟨rfl, ((((Hb.out.setCell (Nat.le_succ _) _).setCell (Nat.le_succ _) _).alloc (by simp [World.setCell]; omega) _).drew)⟩
end Go.Proofs.Ytoddmaiplinkaaa
