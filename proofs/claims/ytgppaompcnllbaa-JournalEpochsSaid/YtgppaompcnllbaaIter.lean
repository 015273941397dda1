/- Layer 3: the writes that wait, told by a range over a function: what the iterator does, whatever the loop's body, and which numbers stay. Conditions: none. -/
import Derived.Test.YtgppaompcnllbaaWrite
import Derived.RangeFuncNested
import Derived.RangeFuncBound
import Derived.RangeFuncCalls
import Derived.RangeFuncLeaves
import Derived.Shelf.Abstract
import Derived.Shelf.RegionOpen
import Derived.OwnWalkIn
import Derived.TacticsInMore
import Derived.LoopNIn
import Derived.LoopIn
namespace Go.Proofs.Ytgppaompcnllbaa
open Go.RowKit Go.Shelf
attribute [local go_sem] Oper.semAt_some

theorem wpListIn_load_mid {F : Fence} {n : Nat} {P : Program} {w : World} {ops : Array Oper} {rest : List Oper} {o : Oper} {a : Act} {Q : Exit → Act → World → Prop} (hw : Region.wanted o (yielded ops a.tmps) = true) (ty : TypeId) (x : Operand) (ho : o.op = .load ty x)
    (b off : Nat) (hx : a.eval x = .pointer (some ⟨b, off, none⟩)) (cs : List Value) (d : TypeDesc) (hc : w.rangeAt b off cs)
    (hu : P.underlying ty = some d) (hd : d.isRow = true) (hi : (P.info? ty).map (·.size) = some cs.length)
    (h : wpListIn F n P ops Q rest (a.put o.dst (.agg cs.toArray)) w) : wpListIn F n P ops Q (o :: rest) a w := by
  refine BigFrame.wpListIn_want hw fun K hK => ?_
  unfold Oper.wpIn
  refine ⟨?_, ?_⟩
  · simp [Oper.about, ho]
  · rw [Oper.semAt_plain F _ _ (by rw [ho]; intro c hc'; cases hc')]
    have hr := run_loadAt_mid (P := P) w b off ty cs d hc hu hd hi
    simp [execOp, ho, hx, hr, Result.andThen]
    exact hK _ _ h

/-! a region that draws its order, in a round: its operations but the last ones only read -/
section
variable {l0 n : Nat} {P : Program} {ops : Array Oper} {md : Region.Mode} {w : World}
theorem opIn_of_still {o : Oper} {a : Act} {K : Act → Prop} {K' : Act → World → Prop} {Q' : Exit → Act → World → Prop} (hd : ∀ c, o.op ≠ .defer c) (h : ∀ a, K a → K' a w) (hh : o.still P a w K) : o.wpIn (Fence.wide.inRound l0) n P a w K' Q' := by
  refine ⟨fun _ _ => trivial, ?_⟩
  rw [Oper.semAt_plain _ _ _ hd]
  unfold Oper.still at hh
  generalize (execOp a.eval o).run P w = r at *
  cases r with
  | ok x w' =>
    cases x <;> simp only [Oper.stillUpon] at hh <;> simp only [Oper.uponIn]
    case enter f args =>
      obtain ⟨rfl, v, hc, hn⟩ := hh
      exact ⟨fun e => (by cases e), CallsIn.inRound l0 ((callsIn_wide.2 hc).mono fun e w'' ⟨he, hw⟩ => by subst he; subst hw; exact h _ hn)⟩
    all_goals (obtain ⟨rfl, h2⟩ := hh; exact h _ h2)
  | halt x w' => simp only [Oper.stillUpon] at hh
theorem wpOpIn_of_stOp {i : Nat} {a : Act} {K : Act → Prop} {K' : Act → World → Prop} {Q' : Exit → Act → World → Prop} (hd : ∀ (j : Nat) (o : Oper) c, ops[j]? = some o → o.op ≠ .defer c) (h : ∀ a, K a → K' a w) (hh : stOp P ops w i K a) : wpOpIn (Fence.wide.inRound l0) n P ops Q' i K' a w := by
  unfold stOp at hh
  unfold wpOpIn
  split
  · rename_i ho; simp only [ho] at hh; exact h _ hh
  · rename_i o ho
    simp only [ho] at hh
    split
    · rename_i hw; simp only [hw, if_true] at hh; exact opIn_of_still (fun c => hd i o c ho) h hh
    · rename_i hw; simp only [hw] at hh; exact ⟨fun _ _ => trivial, h _ hh⟩
theorem wpAnyIn_of_head {k g : Nat} {L : Array Bool → Act → Prop} {Q' : Exit → Act → World → Prop} (hd : ∀ (j : Nat) (o : Oper) c, ops[j]? = some o → o.op ≠ .defer c) (hL : ∀ listed a, L listed a → wpAnyIn (Fence.wide.inRound l0) n P md ops Q' g listed a w) :
    ∀ (f : Nat) (listed : Array Bool) (a : Act), wpAnyL P md ops w k L f listed a → wpAnyIn (Fence.wide.inRound l0) n P md ops Q' (f + g) listed a w
  | 0, listed, a, h => by rw [Nat.zero_add]; exact hL _ _ h
  | f + 1, listed, a, h => by
    rw [show f + 1 + g = (f + g) + 1 by omega]
    exact ⟨fun h0 => absurd h0 h.1, fun i hi => wpOpIn_of_stOp hd (fun a' h' => wpAnyIn_of_head hd hL f _ a' h') (h.2 i hi).2⟩
theorem wpAnyIn_of_seq {Q' : Exit → Act → World → Prop} : ∀ (l : List Oper) (k : Nat) (listed : Array Bool) (a : Act) (w : World), (∀ j, l[j]? = ops[k + j]?) →
    Region.seqB md ops l.length k listed = true → wpListIn (Fence.wide.inRound l0) n P ops Q' l a w → wpAnyIn (Fence.wide.inRound l0) n P md ops Q' l.length listed a w
  | [], _, _, _, _, _, hB, h => ⟨by simpa [Region.seqB] using hB, h⟩
  | o :: l, k, listed, a, w, hl, hB, h => by
    have h0 : ops[k]? = some o := by simpa using (hl 0).symm
    simp only [List.length_cons, Region.seqB, Bool.and_eq_true, decide_eq_true_eq] at hB
    refine ⟨fun h1 => (by rw [hB.1] at h1; cases h1), fun i hi => ?_⟩
    rw [hB.1] at hi
    have hik : i = k := by simpa using hi
    subst hik
    have hw : wpOpIn (Fence.wide.inRound l0) n P ops Q' i (wpListIn (Fence.wide.inRound l0) n P ops Q' l) a w := by unfold wpOpIn; simp only [h0]; exact h
    exact wpOpIn_mono (fun a' w' h' => wpAnyIn_of_seq l (i + 1) _ a' w' (fun j => by have := hl (j + 1); simpa [Nat.add_assoc, Nat.add_comm 1 j] using this) hB.2 h') hw
theorem wpIn_region_still_tail {id : Nat} {Q : Exit → Act → World → Prop} {a : Act} {w : World} {l : List Oper} (k : Nat) (hm : P.follows .mixedOrders = true) (hB : Region.lexTailB .any l.toArray k = true) (hd : l.all (fun o => match o.op with | .defer _ => false | _ => true) = true)
    (h : wpStill P l.toArray w.drew (fun a' => wpListIn (Fence.wide.inRound l0) n P l.toArray Q (l.drop k) a' w.drew) (l.take k) a) : (Code.region id l.toArray true).wpIn (Fence.wide.inRound l0) n P Q a w := by
  have hd' : ∀ (j : Nat) (o : Oper) c, l.toArray[j]? = some o → o.op ≠ .defer c := fun j o c hj e => by
    have := List.all_eq_true.1 hd o (List.mem_of_getElem? (by simpa using hj))
    rw [e] at this
    cases this
  simp only [Region.lexTailB, Bool.and_eq_true, decide_eq_true_eq] at hB
  obtain ⟨⟨⟨⟨hsel, hn⟩, hs⟩, hc⟩, hlex⟩ := hB
  have hn' : k < l.length := by simpa using hn
  have htl : (l.take k).length = k := by simp; omega
  have hdl : (l.drop k).length = l.toArray.size - k := by simp
  have inv0 : HeadInv .any l.toArray k (Array.replicate l.toArray.size false) :=
    ⟨by simp, fun j oj _ hl => (by rw [getD_replicate_false] at hl; cases hl), fun t _ ht => getD_in (by simpa using ht) (getD_replicate_false _ _)⟩
  have H := wpAnyL_lex (md := .any) (g := l.toArray.size - k) hsel hs hc hn (l.take k) 0 _ a (fun j hj => by
    have hj' : j < k := by rw [htl] at hj; exact hj
    simp [hj']) (by simpa using htl) inv0 (by rw [htl]; exact hlex) h
  refine wpIn_region_any hm ?_
  have := wpAnyIn_of_head (Q' := Q) (g := l.toArray.size - k) hd' (fun listed a' hL => by
    have := wpAnyIn_of_seq (md := .any) (Q' := Q) (l.drop k) k listed a' w.drew (fun j => by simp [List.getElem?_drop]) (by rw [hdl]; exact hL.1) hL.2
    rwa [hdl] at this) _ _ _ H
  rw [htl, show k + (l.toArray.size - k) = l.toArray.size by omega] at this
  exact this
end

/-- A write that waits, as it is told. -/
abbrev Wr (m : Nat) := { p : Nat × Sec // p.1 < m ∧ p.2.length = 64 }
def wEnc {m : Nat} (x : Wr m) : Array Value := #[.int .i64 (x.1.1 : Int), .agg (bv x.1.2).toArray]
/-- All that was there is as it was, but for row x. -/
structure Kp (M x : Nat) (W W' : World) : Prop where
  size : W.heap.size ≤ W'.heap.size
  same : ∀ g, g < M → g ≠ x → W'.heap[g]? = W.heap[g]?
theorem Kp.refl (M x : Nat) (W : World) : Kp M x W W := ⟨Nat.le_refl _, fun _ _ _ => rfl⟩
theorem Kp.trans {M x : Nat} {A B C : World} (h : Kp M x A B) (k : Kp M x B C) : Kp M x A C := ⟨Nat.le_trans h.size k.size, fun g h1 h2 => (k.same g h1 h2).trans (h.same g h1 h2)⟩
theorem Kp.alloc {M x : Nat} {A B : World} (h : Kp M x A B) (hM : M ≤ B.heap.size) (o : Obj) : Kp M x A (B.alloc o) := ⟨by simp; have := h.size; omega, fun g h1 h2 => (Below.heap_alloc _ _ _ (by omega)).trans (h.same g h1 h2)⟩
theorem Kp.cell {M x : Nat} {A B : World} (h : Kp M x A B) {p : Addr} (h1 : p.block < M) (h2 : p.block ≠ x) : B.cell? p = A.cell? p := World.cell?_of_block (h.same _ h1 h2)
theorem Kp.putObj {M x : Nat} (W : World) (l : Nat) (o : Obj) (hl : M ≤ l) : Kp M x W (W.putObj l o) :=
  ⟨(grownBy_putObj' W l o).size, fun g h1 _ => by
    by_cases hg : g < W.heap.size
    · exact (grownBy_putObj' W l o).block g hg (fun e => by cases e; omega)
    · rw [World.putObj_heap_other (by omega)]⟩

set_option maxRecDepth 100000 in
set_option maxHeartbeats 2000000 in
theorem iter_in {m : Nat} (n : Nat) (hn : 1 ≤ n) (l Bd Bs b : Nat) (ws : List (Wr m)) (A : Option Addr) (c : Nat) (gf : Nat) (caps : Array Value) (f : Nat → Bool) (M x : Nat) (J Jx : List (Wr m) → World → Prop) (W : World) (hM : M ≤ W.heap.size)
    (hJa : ∀ s W' o, J s W' → J s (W'.alloc o))
    (hBd : W.cell? ⟨Bd, 0, none⟩ = some (.pointer (some ⟨b, 0, none⟩))) (hBs : W.cell? ⟨Bs, 0, none⟩ = some (.func (.func gf) #[] caps))
    (hc2 : W.cell? ⟨b, 2, none⟩ = some (.slice A ws.length c)) (hrow : Rd W W.heap.size 65 A ws.length c (wcells (ws.map (·.1)))) (hA : ∀ bb o, A = some ⟨bb, o, none⟩ → bb ≠ x ∧ bb < M)
    (h2 : Bs < M ∧ Bs ≠ x) (hlen : ws.length ≤ 1000000)
    (eg : ∀ args W', (callFunc gf args).run Try.prog W' = .ok (.enter gf args) W')
    (hst : ∀ W' k, Kp M x W W' → k < ws.length → CallsIn Fence.wide (n - 1) Try.prog gf (#[.int .i64 (k : Int)] ++ caps) W' fun e w' => e = .returned (.bool (f k)) ∧ w' = W')
    (hY : ∀ pre x1 W1, J pre W1 → pre.length < ws.length → YieldAt Fence.wide (n - 1) Try.prog l (wEnc x1) W1 fun e W' =>
      (e = .returned (.bool true) ∧ J (pre ++ [x1]) W' ∧ Kp M x W1 W') ∨ (e = .returned (.bool false) ∧ Jx (pre ++ [x1]) W'))
    (h0 : J [] W) :
    CallsIn Fence.wide n Try.prog 50 #[.func (.yield l) #[] #[], .pointer (some ⟨Bd, 0, none⟩), .pointer (some ⟨Bs, 0, none⟩)] W fun e W' => (∃ v, e = .returned v) ∧
      ((∃ ys, ys = pick f ws ∧ J ys W') ∨ (∃ pre, True ∧ Jx pre W')) := by
  refine callsIn_of_wp Try.func50 rfl trivial ?_ rfl
  simp only [Try.ntmps50, List.size_toArray, List.length_cons, List.length_nil, Nat.reduceAdd, Nat.reduceSub, Array.replicate_succ, Array.replicate_zero, List.push_toArray, List.append_toArray, List.nil_append, List.cons_append]
  gi_wp2
  gi_loopw [11] (fun i wr => ∃ k : Nat, k ≤ ws.length ∧ i = .int .i64 k ∧ J (pick f (ws.take k)) wr ∧ Kp M x W wr)
    (fun i _ => ws.length - (intOf i).toNat)
  case atStart => exact ⟨0, Nat.zero_le _, rfl, h0, Kp.refl _ _ _⟩
  case round =>
    obtain ⟨k, hk, rfl, hJs, hnx⟩ := hrel
    by_cases hlt : k < ws.length
    · have hmM := hnx.size
      obtain ⟨y, hy⟩ : ∃ y, ws[k]? = some y := ⟨ws[k], List.getElem?_eq_getElem hlt⟩
      have hyp := y.2.2
      have hCl : (wcell y.1).length = 65 := wcell_length hyp
      have hC1 : (wcell y.1).toArray.all (·.oneCell') = true := all_oneCell_toArray (fun u hu => wcells_one [y.1] u (by simpa [wcells] using hu))
      have hs65 : (Try.prog.info? 77).map (·.size) = some (wcell y.1).length := by rw [hCl]; kernel_rfl
      have hs64 : (Try.prog.info? 75).map (·.size) = some (bv y.1.2).length := by rw [bv_length, hyp]; kernel_rfl
      obtain ⟨bb, o, rfl, _, hcc⟩ := hrow.at_ (by omega)
      obtain ⟨hbx, hbM⟩ := hA bb o rfl
      have hrg : wr.rangeAt bb (o + k * 65) (wcell y.1) := fun j v hj => by
        have hj65 : j < 65 := by rw [← hCl]; exact (List.getElem?_eq_some_iff.1 hj).1
        rw [hnx.cell (p := ⟨bb, o + k * 65 + j, none⟩) hbM hbx, Nat.add_assoc]
        refine hcc _ v ?_
        rw [wcells_at (l := ws.map (·.1)) (fun p hp => by obtain ⟨q, _, rfl⟩ := List.mem_map.1 hp; exact q.2.2) (by rw [List.getElem?_map, hy]; rfl) hj65]
        exact hj
      have z1 := zeroW_run
      have z4 := fun W : World => storeW W _ (by rw [List.size_toArray]; exact hCl) hC1
      have z5 := fun W : World => storeWC W _ hCl hC1
      have z6 := zeroW_size
      generalize hC : wcell y.1 = C at *
      have hlt' : (k : Int) < (ws.length : Int) := by omega
      have cBs : wr.cell? ⟨Bs, 0, none⟩ = some (.func (.func gf) #[] caps) := (hnx.cell (p := ⟨Bs, 0, none⟩) h2.1 h2.2).trans hBs
      have hBsl : Bs < wr.heap.size := by omega
      have hkp := hnx.alloc (by omega) (.cells C.toArray 77)
      have hJ2 := hJa _ _ (.cells C.toArray 77) hJs
      have kst := hst _ k hkp hlt
      gi_wp2_with (have _t := hrg; refine wpListIn_load_mid (o := ⟨some 15, _, _, _, _, _⟩) (by rfl) 77 (.tmp 14) rfl bb (o + k * 65) rfl C _ hrg Try.underlying77 rfl hs65 ?_; clear hrg)
      refine ⟨trivial, kst.mono ?_⟩
      rintro e W2 ⟨rfl, hW2⟩
      have e2 : W2.heap[wr.heap.size]? = some (.cells C.toArray 77 (0, 0)) := by rw [hW2]; exact heap_alloc_new _ _
      rw [← hW2] at hkp hJ2
      clear hW2 kst z1 z4 z5 z6
      have c0 : W2.cell? ⟨wr.heap.size, 0, none⟩ = some (.int .i64 (y.1.1 : Int)) := by rw [cell_of_row _ _ _ _ _ _ e2, ← hC]; rfl
      have hr64 : W2.rangeAt wr.heap.size 1 (bv y.1.2) := fun j v hj => by
        rw [cell_of_row _ _ _ _ _ _ e2, ← hC]
        simpa [wcell, Nat.add_comm 1] using hj
      have hstep := pick_take_succ (f := f) hy
      have hpl : (pick f (ws.take k)).length < ws.length := by
        have := pick_le f (ws.take k)
        rw [List.length_take] at this
        omega
      cases hf : f k with
      | false =>
        rw [hf] at hstep
        gi_wp2
        refine ⟨fun _ h => (by cases h), ?_⟩
        gi_wp2
        go_roundw
        case rel => exact ⟨k + 1, by omega, by simp, by rw [hstep]; simpa using hJ2, hkp⟩
        case measure => simp [intOf]; omega
      | true =>
        rw [hf] at hstep
        obtain ⟨fn, tmps, assign, body, hyy, hR⟩ := hY _ y W2 hJ2 hpl
        simp only [wEnc] at hyy
        gi_wp2_with (have _t := hr64; refine wpListIn_load_mid (o := ⟨some 24, _, _, _, _, _⟩) (by rfl) 75 (.tmp 23) rfl wr.heap.size 1 rfl (bv y.1.2) _ hr64 Try.underlying75 rfl hs64 ?_; clear hr64)
        refine hR.mono ?_
        rintro e W3 (⟨rfl, hJ3, hk3⟩ | ⟨rfl, hJx3⟩)
        · gi_wp2
          go_roundw
          case rel => exact ⟨k + 1, by omega, by simp, by rw [hstep]; simpa using hJ3, hkp.trans hk3⟩
          case measure => simp [intOf]; omega
        · gi_wp2
          refine bodyPost_ret (results_none rfl _ _ _) rfl ?_
          exact ⟨⟨_, rfl⟩, .inr ⟨_, trivial, hJx3⟩⟩
    · obtain rfl : k = ws.length := by omega
      gi_wp2
      go_end0
      exact ⟨⟨_, rfl⟩, .inl ⟨_, by rw [List.take_length], hJs⟩⟩

/-- The writes that stay come, in order. -/
theorem writes_stop {m : Nat} (n : Nat) (hn : 1 ≤ n) (Bd Bs b : Nat) (ws : List (Wr m)) (A : Option Addr) (c : Nat) (gf : Nat) (caps : Array Value) (f : Nat → Bool) (M x : Nat) (w : World) (hM : M ≤ w.heap.size)
    (hBd : Bd < w.heap.size ∧ w.cell? ⟨Bd, 0, none⟩ = some (.pointer (some ⟨b, 0, none⟩))) (hBs : w.cell? ⟨Bs, 0, none⟩ = some (.func (.func gf) #[] caps))
    (hc2 : b < w.heap.size ∧ w.cell? ⟨b, 2, none⟩ = some (.slice A ws.length c)) (hrow : Rd w w.heap.size 65 A ws.length c (wcells (ws.map (·.1)))) (hA : ∀ bb o, A = some ⟨bb, o, none⟩ → bb ≠ x ∧ bb < M)
    (h2 : Bs < M ∧ Bs ≠ x) (hlen : ws.length ≤ 1000000)
    (eg : ∀ args W', (callFunc gf args).run Try.prog W' = .ok (.enter gf args) W')
    (hst : ∀ W' k, Kp M x w W' → k < ws.length → CallsIn Fence.wide (n - 1) Try.prog gf (#[.int .i64 (k : Int)] ++ caps) W' fun e w' => e = .returned (.bool (f k)) ∧ w' = W') :
    SeqStopsK Fence.wide n Try.prog 50 #[.pointer (some ⟨Bd, 0, none⟩), .pointer (some ⟨Bs, 0, none⟩)] (wEnc (m := m)) (Kp M x) (fun ys => ys = pick f ws) (fun _ => True) ws.length w := fun l J Jx W hW hJ _ hY h0 => by
  have hk : Kp M x w W := ⟨hW.size, fun g h1 _ => hW.block g (by omega)⟩
  exact iter_in n hn l Bd Bs b ws A c gf caps f M x J Jx W (Nat.le_trans hM hW.size) (fun s W' o hs => hJ s W' _ none hs (World.grownBy_alloc W' o none) (fun r e => by cases e))
    ((hW.cell (p := ⟨Bd, 0, none⟩) hBd.1).trans hBd.2) ((hW.cell (p := ⟨Bs, 0, none⟩) (by show Bs < _; omega)).trans hBs) ((hW.cell (p := ⟨b, 2, none⟩) hc2.1).trans hc2.2)
    ((hrow.below hW).more hW.size) hA h2 hlen eg (fun W' k hk' hl => hst W' k (hk.trans hk') hl) hY h0
/-- The function that tells them. -/
theorem writes_any (w : World) (p : Option Addr) (gf : Nat) (caps : Array Value) : Calls Try.prog 41 #[.pointer p, .func (.func gf) #[] caps] w fun e w' =>
    e = .returned (.func (.func 50) #[] #[.pointer (some ⟨w.heap.size, 0, none⟩), .pointer (some ⟨w.heap.size + 1, 0, none⟩)]) ∧ w' = (w.alloc (.cells #[.pointer p] 26)).alloc (.cells #[.func (.func gf) #[] caps] 73) := by
  go_enter Try.func41, Try.ntmps41
  go_wp2
  go_ret
  exact ⟨rfl, rfl⟩
theorem stays_all (w : World) (k : Int) : Calls Try.prog 55 #[.int .i64 k] w fun e w' => e = .returned (.bool true) ∧ w' = w := by
  go_enter Try.func55, Try.ntmps55
  go_wp2
  go_ret
  exact ⟨rfl, rfl⟩
theorem stays_told (w : World) (B : Nat) {A : Option Addr} {c : Nat} {keep : List Bool} {C : Nat} (hr : Rd w C 1 A keep.length c (keep.map Value.bool)) (hb : w.cell? ⟨B, 0, none⟩ = some (.slice A keep.length c)) (k : Nat) :
    Calls Try.prog 42 #[.int .i64 (k : Int), .pointer (some ⟨B, 0, none⟩)] w fun e w' => e = .returned (.bool (keep.getD k false)) ∧ w' = w := by
  go_enter Try.func42, Try.ntmps42
  by_cases hk : k < keep.length
  · obtain ⟨b, o, u, rfl, _, hu, hcu⟩ := hr.get hk
    have hk' : (k : Int) < (keep.length : Int) := by omega
    rw [List.getElem?_map, List.getElem?_eq_getElem hk] at hu
    simp at hu
    subst hu
    go_wp2
    go_ret
    exact ⟨by rw [List.getD_eq_getElem?_getD, List.getElem?_eq_getElem hk]; rfl, rfl⟩
  · have hk' : ¬ (k : Int) < (keep.length : Int) := by omega
    go_wp2
    go_ret
    exact ⟨rfl, rfl⟩
end Go.Proofs.Ytgppaompcnllbaa
