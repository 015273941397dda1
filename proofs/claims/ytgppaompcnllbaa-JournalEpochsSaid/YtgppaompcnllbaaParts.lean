/- Layer 4: the parts of a record, told by a range over a function. Conditions: none but for sizes of up to a million. -/
import Derived.Test.YtgppaompcnllbaaHead
import Derived.RangeFuncNested
import Derived.RangeFuncBound
import Derived.RangeFuncCalls
import Derived.RangeFuncLeaves
import Derived.Shelf.Abstract
import Derived.Shelf.RegionOpen
import Derived.OwnWalkIn
import Derived.TacticsInMore
import Derived.LoopNIn
import Derived.LoopIn
namespace Go.Proofs.Ytgppaompcnllbaa
open Go.RowKit Go.Shelf
attribute [local go_sem] Oper.semAt_some

/-- Where a part ends. -/
def ptTo (n j : Nat) : Nat := min (63 * j + 63) n
def ptEnc {n : Nat} (x : Fin (pn n)) : Array Value := #[.int .i64 (63 * x.1 : Nat), .int .i64 (ptTo n x.1 : Nat)]
def ptAll (n : Nat) : List (Fin (pn n)) := List.finRange (pn n)
theorem ptAll_len (n : Nat) : (ptAll n).length = pn n := by simp [ptAll]
theorem ptAll_get (n : Nat) {k : Nat} (h : k < pn n) : (ptAll n)[k]? = some ⟨k, h⟩ := by
  rw [List.getElem?_eq_getElem (by rw [ptAll_len]; exact h)]
  simp [ptAll]
theorem ptAll_step (n : Nat) {k : Nat} (h : k < pn n) : (ptAll n).take (k + 1) = (ptAll n).take k ++ [⟨k, h⟩] := by
  rw [List.take_add_one, ptAll_get n h]; rfl
/-- Block x is as it was. -/
structure KpB (x : Nat) (W W' : World) : Prop where
  size : W.heap.size ≤ W'.heap.size
  same : W'.heap[x]? = W.heap[x]?
theorem KpB.refl (x : Nat) (W : World) : KpB x W W := ⟨Nat.le_refl _, rfl⟩
theorem KpB.trans {x : Nat} {A B C : World} (h : KpB x A B) (k : KpB x B C) : KpB x A C := ⟨Nat.le_trans h.size k.size, k.same.trans h.same⟩
theorem KpB.cell {x : Nat} {A B : World} (h : KpB x A B) (o : Nat) : B.cell? ⟨x, o, none⟩ = A.cell? ⟨x, o, none⟩ := World.cell?_of_block h.same
theorem KpB.putObj {x : Nat} (W : World) (l : Nat) (o : Obj) (hl : x ≠ l) : KpB x W (W.putObj l o) :=
  ⟨(grownBy_putObj' W l o).size, by
    by_cases hg : x < W.heap.size
    · exact (grownBy_putObj' W l o).block x hg (fun e => by cases e; exact hl rfl)
    · rw [World.putObj_heap_other hl]⟩

set_option maxRecDepth 100000 in
set_option maxHeartbeats 2000000 in
theorem parts_in {m : Nat} (n : Nat) (hn : 1 ≤ n) (hm : m ≤ 1000000) (l Bn : Nat) (J Jx : List (Fin (pn m)) → World → Prop) (W : World)
    (hBn : W.cell? ⟨Bn, 0, none⟩ = some (.int .i64 m))
    (hY : ∀ pre x1 W1, J pre W1 → pre.length < pn m → YieldAt Fence.wide (n - 1) Try.prog l (ptEnc x1) W1 fun e W' =>
      (e = .returned (.bool true) ∧ J (pre ++ [x1]) W' ∧ KpB Bn W1 W') ∨ (e = .returned (.bool false) ∧ Jx (pre ++ [x1]) W'))
    (h0 : J [] W) :
    CallsIn Fence.wide n Try.prog 54 #[.func (.yield l) #[] #[], .pointer (some ⟨Bn, 0, none⟩)] W fun e W' => (∃ v, e = .returned v) ∧
      ((∃ ys, ys = ptAll m ∧ J ys W') ∨ (∃ pre, (∃ k, k ≤ pn m ∧ pre = (ptAll m).take k) ∧ Jx pre W')) := by
  refine callsIn_of_wp Try.func54 rfl trivial ?_ rfl
  simp only [Try.ntmps54, List.size_toArray, List.length_cons, List.length_nil, Nat.reduceAdd, Nat.reduceSub, Array.replicate_succ, Array.replicate_zero, List.push_toArray, List.append_toArray, List.nil_append, List.cons_append]
  gi_wp2
  gi_loopw [3] (fun i wr => ∃ k : Nat, k ≤ pn m ∧ i = .int .i64 (63 * k : Nat) ∧ J ((ptAll m).take k) wr ∧ KpB Bn W wr)
    (fun i _ => pn m - (intOf i).toNat / 63)
  case atStart => exact ⟨0, Nat.zero_le _, rfl, h0, KpB.refl _ _⟩
  case round =>
    obtain ⟨k, hk, rfl, hJs, hkp⟩ := hrel
    have hc := (hkp.cell 0).trans hBn
    have hpl := pn_le m
    by_cases hlt : k < pn m
    · have hlm : 63 * k < m := pn_lt.1 hlt
      have hz : 63 * (k : Int) < (m : Int) := by omega
      have hz2 : (m : Int) ≤ 1000000 := by omega
      obtain ⟨fn, tmps, assign, body, hyy, hR⟩ := hY _ ⟨k, hlt⟩ wr hJs (by rw [List.length_take, ptAll_len]; omega)
      simp only [ptEnc] at hyy
      have e1 : ((63 * k : Nat) : Int) = 63 * (k : Int) := by omega
      by_cases h63 : 63 * (k : Int) + 63 ≤ (m : Int)
      · have e2 : ((ptTo m k : Nat) : Int) = 63 * (k : Int) + 63 := by unfold ptTo; omega
        rw [e1, e2] at hyy
        clear e1 e2
        gi_wp2
        refine hR.mono ?_
        rintro e W3 (⟨rfl, hJ3, hk3⟩ | ⟨rfl, hJx3⟩)
        · gi_wp2
          go_roundw
          case rel => exact ⟨k + 1, by omega, by simp; omega, by rw [ptAll_step m hlt]; exact hJ3, hkp.trans hk3⟩
          case measure => simp [intOf]; omega
        · gi_wp2
          refine bodyPost_ret (results_none rfl _ _ _) rfl ?_
          exact ⟨⟨_, rfl⟩, .inr ⟨_, ⟨k + 1, by omega, (ptAll_step m hlt).symm⟩, hJx3⟩⟩
      · have e2 : ((ptTo m k : Nat) : Int) = (m : Int) := by unfold ptTo; omega
        rw [e1, e2] at hyy
        clear e1 e2
        gi_wp2
        refine hR.mono ?_
        rintro e W3 (⟨rfl, hJ3, hk3⟩ | ⟨rfl, hJx3⟩)
        · gi_wp2
          go_roundw
          case rel => exact ⟨k + 1, by omega, by simp; omega, by rw [ptAll_step m hlt]; exact hJ3, hkp.trans hk3⟩
          case measure => simp [intOf]; omega
        · gi_wp2
          refine bodyPost_ret (results_none rfl _ _ _) rfl ?_
          exact ⟨⟨_, rfl⟩, .inr ⟨_, ⟨k + 1, by omega, (ptAll_step m hlt).symm⟩, hJx3⟩⟩
    · obtain rfl : k = pn m := by omega
      have hpb := pn_bd m
      have hz : ¬ 63 * (pn m : Int) < (m : Int) := by omega
      gi_wp2
      go_end0
      rw [List.take_of_length_le (by rw [ptAll_len]; exact Nat.le_refl _)] at hJs
      exact ⟨⟨_, rfl⟩, .inl hJs⟩
/-- The parts come, in order. -/
theorem parts_stop {m : Nat} (n : Nat) (hn : 1 ≤ n) (hm : m ≤ 1000000) (Bn : Nat) (w : World) (hBn : Bn < w.heap.size ∧ w.cell? ⟨Bn, 0, none⟩ = some (.int .i64 m)) :
    SeqStopsK Fence.wide n Try.prog 54 #[.pointer (some ⟨Bn, 0, none⟩)] (ptEnc (n := m)) (KpB Bn) (fun ys => ys = ptAll m) (fun pre => ∃ k, k ≤ pn m ∧ pre = (ptAll m).take k) (pn m) w := fun l J Jx W hW _ _ hY h0 =>
  parts_in n hn hm l Bn J Jx W ((hW.cell (p := ⟨Bn, 0, none⟩) hBn.1).trans hBn.2) hY h0
/-- The function that tells them. -/
theorem parts_any (w : World) (m : Nat) : Calls Try.prog 45 #[.int .i64 m] w fun e w' =>
    e = .returned (.func (.func 54) #[] #[.pointer (some ⟨w.heap.size, 0, none⟩)]) ∧ w' = w.alloc (.cells #[.int .i64 m] 3) := by
  go_enter Try.func45, Try.ntmps45
  go_wp2
  go_ret
  exact ⟨rfl, rfl⟩
end Go.Proofs.Ytgppaompcnllbaa
