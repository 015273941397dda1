/- The document's own New and put. Conditions: none. -/
import Derived.Test.YtiehnimkjneonaaRefW
namespace Go.Proofs.Ytiehnimkjneonaa
open Go.RowKit
def kcs (l : List Sec) : List Value := l.map fun p => Value.string (strOf p)
theorem kcs_length (l : List Sec) : (kcs l).length = l.length := by simp [kcs]
theorem kcs_get (l : List Sec) (k : Nat) : (kcs l)[k]? = (l[k]?).map fun p => Value.string (strOf p) := by simp [kcs]
theorem kcs_take (l : List Sec) (k : Nat) : (kcs l).take k = kcs (l.take k) := by simp [kcs]
theorem kcs_one (l : List Sec) : ∀ u ∈ kcs l, u.oneCell' = true := fun u hu => by
  obtain ⟨p, _, rfl⟩ := List.mem_map.1 hu
  rfl
theorem info_str : (Try.prog.info? 9).map (fun i => (i.zero, i.size, i.bytes)) = some (some (.string .empty), 1, 16) := by kernel_rfl
/-- A write of the document's in memory. -/
def D2 (w : World) (g : Nat) (i : Int) (s : ByteArray) : Prop := w.heap[g]? = some (.cells #[.int .i64 i, .string s] 69 (0, 0))
theorem D2.new (w : World) (i : Int) (s : ByteArray) : D2 (w.alloc (.cells #[.int .i64 i, .string s] 69)) w.heap.size i s := heap_alloc_new w _
theorem D2.lt {w : World} {g : Nat} {i : Int} {s : ByteArray} (h : D2 w g i s) : g < w.heap.size := (Array.getElem?_eq_some_iff.1 h).1
theorem D2.c0 {w : World} {g : Nat} {i : Int} {s : ByteArray} (h : D2 w g i s) : w.cell? ⟨g, 0, none⟩ = some (.int .i64 i) := by rw [cell_of_row _ _ _ _ _ _ h]; rfl
theorem D2.c1 {w : World} {g : Nat} {i : Int} {s : ByteArray} (h : D2 w g i s) : w.cell? ⟨g, 1, none⟩ = some (.string s) := by rw [cell_of_row _ _ _ _ _ _ h]; rfl
theorem D2.same {w w' : World} {g : Nat} {i : Int} {s : ByteArray} (h : D2 w g i s) (hb : w'.heap[g]? = w.heap[g]?) : D2 w' g i s := hb.trans h

set_option maxRecDepth 100000 in
set_option maxHeartbeats 1000000 in
theorem put_any (w : World) {A : Option Addr} {c : Nat} (l : List Sec) (at_ : Nat) (p : Sec) (hr : Rd w w.heap.size 1 A l.length c (kcs l)) (hl : l.length ≤ 65536) (hat : at_ ≤ 65536) :
    Calls Try.prog 31 #[.slice A l.length c, .agg #[.int .i64 at_, .string (strOf p)]] w fun e w' => ∃ A' c', e = .returned (.slice A' l.length c') ∧ w'.ownsRow w.heap.size 9 1 (.slice A' l.length c') l.length (kcs (l.set at_ p)) ∧ Below w.heap.size w w' := by
  obtain ⟨i0, hi, hz0, hz1, hz2⟩ := info_parts info_str
  go_enter Try.func31, Try.ntmps31
  go_wp2_with fail
  have hD := D2.new w at_ (strOf p)
  have hb := (Below.refl w.heap.size w).alloc (Nat.le_refl _) (.cells #[.int .i64 at_, .string (strOf p)] 69)
  have hs : (w.alloc (.cells #[.int .i64 at_, .string (strOf p)] 69)).heap.size = w.heap.size + 1 := by simp
  generalize w.alloc (.cells #[.int .i64 at_, .string (strOf p)] 69) = V at *
  go_loopw [5, 6] (fun vo vi wr => ∃ k : Nat, vi = .int .i64 k ∧ k ≤ l.length ∧ wr.ownsRow (w.heap.size + 1) 9 1 vo k (kcs ((l.set at_ p).take k)) ∧ D2 wr w.heap.size at_ (strOf p) ∧ Below w.heap.size w wr ∧ w.heap.size + 1 ≤ wr.heap.size) (fun _ vi _ => l.length - (intOf vi).toNat)
  case atStart => exact ⟨0, rfl, by omega, World.ownsRow_nil _ _ _ _, hD, hb, by omega⟩
  case round =>
    obtain ⟨k, rfl, hkl, hown, hD, hb, hsz⟩ := hrel
    have c0 := hD.c0
    have c1 := hD.c1
    by_cases hlt : k < l.length
    · have hlz : (k : Int) < (l.length : Int) := by omega
      have hown1 := fun o => hown.alloc o
      by_cases hk : k = at_
      · subst hk
        have hnx : (l.set k p).take (k + 1) = (l.set k p).take k ++ [p] := by rw [List.take_add_one, List.getElem?_set_self (by omega)]; rfl
        go_wp2_with (at_builtin; refine wpList_append_src _ rfl (.tmp 17) (.tmp 20) 29 29 rfl (w.heap.size + 1) 9 i0 (.string .empty) 1 16 Try.underlying29 hi hz0 hz1 hz2 rfl (by decide) _ k _ rfl (hown.alloc _) _ 1 [_] rfl (Src.ofSlice _ Try.underlying29 _ 1 1 _ rfl (cell_one_new _ _ _) (fun u hu => by simp at hu; subst hu; rfl)) (by simp only [maxLen]; omega) (by omega) (by simp; omega) ?_; intro v2 w3 hown3 hg3 hat3)
        have hrow : ∀ q, some q = (u5).ownBlock → w.heap.size + 1 ≤ q := fun q e => (hown.lt q e.symm).1
        refine ⟨⟨k + 1, rfl, by omega, ?_, (show D2 (wr.alloc _) _ _ _ from hD.same (Below.heap_alloc _ _ _ hD.lt)).same (hg3.block _ (by simp; omega) (fun e => by have := hrow _ e; omega)), (hb.alloc (by omega) _).grown hg3 (by simp; omega) (fun q e => by have := hrow q e.symm; omega), ?_⟩, by simp [intOf]; omega⟩
        · rw [hnx]
          have : kcs ((l.set k p).take k ++ [p]) = kcs ((l.set k p).take k) ++ [.string (strOf p)] := by simp [kcs]
          rw [this]
          exact hown3
        · have := hg3.size
          simp at this
          omega
      · have hne : ¬ (k : Int) = (at_ : Int) := by omega
        obtain ⟨b, o, u, rfl, hbb, hu, cu⟩ := hr.get hlt
        rw [kcs_get, List.getElem?_eq_getElem hlt] at hu
        simp at hu
        subst hu
        have cw := (hb.cell (p := ⟨b, _, none⟩) hbb).trans cu
        have hnx : (l.set at_ p).take (k + 1) = (l.set at_ p).take k ++ [l[k]] := by rw [List.take_add_one, List.getElem?_set_ne (by omega), List.getElem?_eq_getElem hlt]; rfl
        clear cu
        go_wp2_with (at_builtin; refine wpList_append_src _ rfl (.tmp 22) (.tmp 27) 29 29 rfl (w.heap.size + 1) 9 i0 (.string .empty) 1 16 Try.underlying29 hi hz0 hz1 hz2 rfl (by decide) _ k _ rfl (hown.alloc _) _ 1 [_] rfl (Src.ofSlice _ Try.underlying29 _ 1 1 _ rfl (cell_one_new _ _ _) (fun u hu => by simp at hu; subst hu; rfl)) (by simp only [maxLen]; omega) (by omega) (by simp; omega) ?_; intro v2 w3 hown3 hg3 hat3)
        have hrow : ∀ q, some q = (u5).ownBlock → w.heap.size + 1 ≤ q := fun q e => (hown.lt q e.symm).1
        refine ⟨⟨k + 1, rfl, by omega, ?_, (show D2 (wr.alloc _) _ _ _ from hD.same (Below.heap_alloc _ _ _ hD.lt)).same (hg3.block _ (by simp; omega) (fun e => by have := hrow _ e; omega)), (hb.alloc (by omega) _).grown hg3 (by simp; omega) (fun q e => by have := hrow q e.symm; omega), ?_⟩, by simp [intOf]; omega⟩
        · rw [hnx]
          have : kcs ((l.set at_ p).take k ++ [l[k]]) = kcs ((l.set at_ p).take k) ++ [.string (strOf l[k])] := by simp [kcs]
          rw [this]
          exact hown3
        · have := hg3.size
          simp at this
          omega
    · obtain rfl : k = l.length := by omega
      rw [List.take_of_length_le (by simp)] at hown
      go_wp2_with fail
      obtain ⟨A', c', rfl, _⟩ := Rd.own hown
      go_ret
      exact ⟨A', c', rfl, own_base hown (by omega), hb⟩
end Go.Proofs.Ytiehnimkjneonaa
