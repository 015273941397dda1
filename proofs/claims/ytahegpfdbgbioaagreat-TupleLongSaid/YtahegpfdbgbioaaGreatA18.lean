import Derived.RangeFuncNested
import Derived.RangeFuncBound
import Derived.RangeFuncCalls
import Derived.RangeFuncLeaves
import Derived.Shelf.Abstract
import Derived.Shelf.RegionOpen
import Derived.OwnWalkIn
import Derived.TacticsInMore
import Derived.LoopNIn
import Derived.LoopIn
import Derived.Lib.SliceRun
import Derived.Great.BuildSlice
import Derived.Laws.MakeOwn
import Derived.Outline
import Derived.Test.YtahegpfdbgbioaaGreatA17
set_option maxRecDepth 100000
set_option maxHeartbeats 4000000
namespace Go.Proofs.YtahegpfdbgbioaaGreat
open Go.RowKit Go.Shelf
attribute [local go_sem] Oper.semAt_some
open Go.RowKit Go.Shelf
attribute [local go_sem] Oper.semAt_some
structure Kq (M x y : Nat) (W W' : World) : Prop where
 size : W.heap.size ≤ W'.heap.size
 same : ∀ g, g < M → g ≠ x → g ≠ y → W'.heap[g]? = W.heap[g]?
theorem Kq.refl (M x y : Nat) (W : World) : Kq M x y W W := ⟨Nat.le_refl _, fun _ _ _ _ => rfl⟩
theorem Kq.trans {M x y : Nat} {A B C : World} (h : Kq M x y A B) (k : Kq M x y B C) : Kq M x y A C := ⟨Nat.le_trans h.size k.size, fun g h1 h2 h3 => (k.same g h1 h2 h3).trans (h.same g h1 h2 h3)⟩
theorem Kq.alloc {M x y : Nat} {A B : World} (h : Kq M x y A B) (hM : M ≤ B.heap.size) (o : Obj) : Kq M x y A (B.alloc o) := ⟨by simp; have := h.size; omega, fun g h1 h2 h3 => (Below.heap_alloc _ _ _ (by omega)).trans (h.same g h1 h2 h3)⟩
theorem Kq.cell {M x y : Nat} {A B : World} (h : Kq M x y A B) {p : Addr} (h1 : p.block < M) (h2 : p.block ≠ x) (h3 : p.block ≠ y) : B.cell? p = A.cell? p := World.cell?_of_block (h.same _ h1 h2 h3)
theorem Kq.putObj {M x y : Nat} (W : World) (l : Nat) (o : Obj) (hl : M ≤ l) : Kq M x y W (W.putObj l o) :=
 ⟨(grownBy_putObj' W l o).size, fun g h1 _ _ => by
  by_cases hg : g < W.heap.size
  · exact (grownBy_putObj' W l o).block g hg (fun e => by cases e; omega)
  · rw [World.putObj_heap_other (by omega)]⟩
abbrev Pl (n : Nat) := Nat × { k : Nat // k < n }
def plEnc {n : Nat} (x : Pl n) : Array Value := #[.int .i64 (x.1 : Int), .int .i64 (x.2.1 : Int)]
def nums {n : Nat} (L : List { k : Nat // k < n }) : List Nat := L.map (·.1)
def bk {n : Nat} (L : List { k : Nat // k < n }) : List (Pl n) := ((List.range L.length).zip L).reverse
theorem bk_len {n : Nat} (L : List { k : Nat // k < n }) : (bk L).length = L.length := by simp [bk]
theorem bk_at {n : Nat} {L : List { k : Nat // k < n }} {i j : Nat} {q : { k : Nat // k < n }} (hi : i + j + 1 = L.length) (h : L[i]? = some q) : (bk L)[j]? = some (i, q) := by
 unfold bk
 rw [List.getElem?_reverse (by simp; omega), show ((List.range L.length).zip L).length - 1 - j = i by simp; omega, List.getElem?_zip_eq_some]
 exact ⟨by rw [List.getElem?_range (by omega)], h⟩
theorem bk_pre {n : Nat} {L : List { k : Nat // k < n }} {pre : List (Pl n)} {x : Pl n} (h : pre ++ [x] <+: bk L) : ∃ P Q, L = P ++ x.2 :: Q ∧ Q = (pre.map (·.2)).reverse := by
 obtain ⟨r, hr⟩ := h
 have e : L = (bk L).reverse.map (·.2) := by
  unfold bk
  rw [List.reverse_reverse, List.map_snd_zip (by simp)]
 refine ⟨(r.map (·.2)).reverse, (pre.map (·.2)).reverse, ?_, rfl⟩
 rw [e, ← hr]
 simp
theorem back_in {k : Nat} (n : Nat) (hn : 1 ≤ n) (l Bx : Nat) (L : List { i : Nat // i < k }) (A : Option Addr) (c : Nat) (M x y : Nat) (J Jx : List (Pl k) → World → Prop) (W : World)
 (hBx : W.cell? ⟨Bx, 0, none⟩ = some (.slice A L.length c)) (hrow : Rd W W.heap.size 1 A L.length c (ints (nums L))) (hA : ∀ bb o, A = some ⟨bb, o, none⟩ → bb < M ∧ bb ≠ x ∧ bb ≠ y)
 (h2 : Bx < M ∧ Bx ≠ x ∧ Bx ≠ y) (hlen : L.length ≤ 1000000)
 (hY : ∀ pre x1 W1, J pre W1 → pre.length < L.length → YieldAt Fence.wide (n - 1) Tryz.prog l (plEnc x1) W1 fun e W' =>
  (e = .returned (.bool true) ∧ J (pre ++ [x1]) W' ∧ Kq M x y W1 W') ∨ (e = .returned (.bool false) ∧ Jx (pre ++ [x1]) W'))
 (h0 : J [] W) :
 CallsIn Fence.wide n Tryz.prog 177 #[.func (.yield l) #[] #[], .pointer (some ⟨Bx, 0, none⟩)] W fun e W' => (∃ v, e = .returned v) ∧
  ((∃ ys, ys = bk L ∧ J ys W') ∨ (∃ pre, True ∧ Jx pre W')) := by
 refine callsIn_of_wp Tryz.func177 rfl trivial ?_ rfl
 simp only [Tryz.ntmps177, List.size_toArray, List.length_cons, List.length_nil, Nat.reduceAdd, Nat.reduceSub, Array.replicate_succ, Array.replicate_zero, List.push_toArray, List.append_toArray, List.nil_append, List.cons_append]
 gi_wp2
 gi_loopw [3] (fun i wr => ∃ j : Nat, j ≤ L.length ∧ i = .int .i64 ((L.length : Int) - 1 - j) ∧ J ((bk L).take j) wr ∧ Kq M x y W wr)
  (fun i _ => (intOf i + 1).toNat)
 case atStart => exact ⟨0, Nat.zero_le _, by simp, h0, Kq.refl _ _ _ _⟩
 case round =>
  obtain ⟨j, hj, rfl, hJs, hnx⟩ := hrel
  by_cases hlt : j < L.length
  · have hmM := hnx.size
    obtain ⟨i, hi⟩ : ∃ i : Nat, (L.length : Int) - 1 - j = (i : Int) := ⟨L.length - 1 - j, by omega⟩
    have hiL : i < L.length := by omega
    obtain ⟨q, hq⟩ : ∃ q, L[i]? = some q := ⟨_, List.getElem?_eq_getElem hiL⟩
    have hb := bk_at (j := j) (by omega) hq
    obtain ⟨bb, o, u, rfl, _, hu, hcc⟩ := hrow.get hiL
    obtain ⟨hbM, hbx, hby⟩ := hA bb o rfl
    have hu' : u = .int .i64 (q.1 : Int) := by
     simp only [ints, nums, List.map_map, List.getElem?_map, hq, Option.map_some, Function.comp, Option.some.injEq] at hu
     exact hu.symm
    subst hu'
    have c1 := (hnx.cell (p := ⟨bb, o + i, none⟩) hbM hbx hby).trans hcc
    have c0 := (hnx.cell (p := ⟨Bx, 0, none⟩) h2.1 h2.2.1 h2.2.2).trans hBx
    obtain ⟨fn, tmps, assign, body, hyy, hR⟩ := hY ((bk L).take j) (i, q) wr hJs (by rw [List.length_take, bk_len]; omega)
    simp only [plEnc] at hyy
    have htk : (bk L).take (j + 1) = (bk L).take j ++ [(i, q)] := by rw [List.take_add_one, hb]; rfl
    have hil : (i : Int) < (L.length : Int) := by omega
    have hi0 : (i : Int) ≥ 0 := by omega
    rw [hi]
    have hi := Lib.hid hi
    gi_wp2
    refine hR.mono ?_
    rintro e W3 (⟨rfl, hJ3, hk3⟩ | ⟨rfl, hJx3⟩)
    · gi_wp2
      go_roundw
      case rel => exact ⟨j + 1, by omega, by have := hi.out; (congr 1 <;> omega), by rw [htk]; exact hJ3, hnx.trans hk3⟩
      case measure => simp [intOf] <;> omega
    · gi_wp2
      refine bodyPost_ret (results_none rfl _ _ _) rfl ?_
      exact ⟨⟨_, rfl⟩, .inr ⟨_, trivial, hJx3⟩⟩
  · obtain rfl : j = L.length := by omega
    have hge : ¬ ((L.length : Int) - 1 - (L.length : Nat)) ≥ 0 := by omega
    gi_wp2
    go_end0
    rw [List.take_of_length_le (Nat.le_of_eq (bk_len L))] at hJs
    exact ⟨⟨_, rfl⟩, .inl hJs⟩
theorem back_stop {k : Nat} (n : Nat) (hn : 1 ≤ n) (Bx : Nat) (L : List { i : Nat // i < k }) (A : Option Addr) (c : Nat) (M x y : Nat) (w : World) (hM : M ≤ w.heap.size)
 (hBx : w.cell? ⟨Bx, 0, none⟩ = some (.slice A L.length c)) (hrow : Rd w w.heap.size 1 A L.length c (ints (nums L))) (hA : ∀ bb o, A = some ⟨bb, o, none⟩ → bb < M ∧ bb ≠ x ∧ bb ≠ y)
 (h2 : Bx < M ∧ Bx ≠ x ∧ Bx ≠ y) (hlen : L.length ≤ 1000000) :
 SeqStopsK Fence.wide n Tryz.prog 177 #[.pointer (some ⟨Bx, 0, none⟩)] (plEnc (n := k)) (Kq M x y) (fun ys => ys = bk L) (fun _ => True) L.length w := fun l J Jx W hW _ _ hY h0 =>
 back_in n hn l Bx L A c M x y J Jx W ((hW.cell (p := ⟨Bx, 0, none⟩) (by show Bx < _; omega)).trans hBx) ((hrow.below hW).more hW.size) hA h2 hlen hY h0
def VRing (B : Nat) (w : World) (v : Value) (all : List (List Nat)) : Prop :=
 ∃ vs, w.ownsRow B 32 1 v all.length vs ∧ ∀ (i : Nat) (r : List Nat), all[i]? = some r → ∃ u : Value, vs[i]? = some u ∧ w.ownsRow B 3 1 u r.length (ints r)
theorem info_bool : (Tryz.prog.info? 4).map (fun i => (i.zero, i.size, i.bytes)) = some (some (.bool false), 1, 1) := by kernel_rfl
theorem made_bools (n : Nat) : madeCells #[.bool false] n = bools (List.replicate n false) := by
 apply Array.ext'
 rw [toList_madeCells_one]
 simp [bools]
theorem zeroF (w : World) : (zeroValue 4).run Tryz.prog w = .ok (.bool false) w := by kernel_rfl
theorem back_any (w : World) (A : Option Addr) (n c : Nat) : Calls Tryz.prog 132 #[.slice A n c] w fun e w' =>
 e = .returned (.func (.func 177) #[] #[.pointer (some ⟨w.heap.size, 0, none⟩)]) ∧ w' = w.alloc (.cells #[.slice A n c] 32) := by
 go_enter Tryz.func132, Tryz.ntmps132
 go_wp2
 go_ret
 exact ⟨rfl, rfl⟩
theorem clear_bools {w : World} {gs n : Nat} {s : List Bool} (h : Bk w gs (bools s) 4) (hs : s.length = n) : ∃ W', (∀ ty, (Builtin.clear_ #[203] ty #[.slice (some ⟨gs, 0, none⟩) n n]).run Tryz.prog w = .ok (.tuple #[]) W') ∧
 Bk W' gs (bools (List.replicate n false)) 4 ∧ W'.heap.size = w.heap.size ∧ W'.os = w.os ∧ W'.tape = w.tape ∧ W'.output = w.output ∧ ∀ g, g ≠ gs → W'.heap[g]? = w.heap[g]? := by
 by_cases hn : 0 < n
 · refine ⟨w.setCells gs 0 (List.replicate n (.bool false)), fun ty => Lib.run_clear_slice w 203 4 ty (.bool false) Tryz.underlying203 zeroF rfl rfl gs 0 n n hn (fun j hj => ?_) (fun j hj => ?_), ?_, setCells_size _ _ _ _, (setCells_streams _ _ _ _).1, (setCells_streams _ _ _ _).2.1, (setCells_streams _ _ _ _).2.2, fun g hg => setCells_heap_other gs _ _ _ g hg⟩
   · rw [Nat.zero_add, h.cell j, bools_get, List.getElem?_eq_getElem (by omega)]
     rfl
   · exact h.fz _
   · obtain ⟨cur, g1, g2, g3⟩ := setCells_heap_same gs 4 (0, 0) (List.replicate n (.bool false)) 0 w (bools s) h (by simp [bools_size, hs])
     have e : cur = bools (List.replicate n false) := by
      apply Array.ext'
      rw [bools_size, hs] at g2
      rw [List.length_replicate, Nat.zero_add, List.take_of_length_le (by rw [Array.length_toList]; omega)] at g3
      rw [g3]
      simp [bools]
     rw [e] at g1
     exact g1
 · obtain rfl : n = 0 := by omega
   refine ⟨w, fun ty => by simp [Builtin.clear_, run_underlying Tryz.underlying203], ?_, rfl, rfl, rfl, rfl, fun _ _ => rfl⟩
   rw [List.eq_nil_of_length_eq_zero hs] at h
   exact h
theorem info_ints : (Tryz.prog.info? 32).map (fun i => (i.zero, i.size, i.bytes)) = some (some (.slice none 0 0), 1, 24) := by kernel_rfl
theorem Bk.stay {X Y : World} {b : Nat} {cs : Array Value} {t : TypeId} {row : Option Nat} (h : Bk X b cs t) (hg : X.grownBy Y row) (hr : ∀ r, row = some r → ∃ o : Obj, X.heap[r]? = some o ∧ o.isCells = false) : Bk Y b cs t :=
 (hg.block b h.lt fun e => by
  obtain ⟨o, ho, hc⟩ := hr b e.symm
  rw [show X.heap[b]? = _ from h] at ho
  cases ho
  cases hc).trans h
theorem own_stay {X Y : World} {B : Nat} {e : TypeId} {s n : Nat} {v : Value} {xs : List Value} {row : Option Nat} (h : X.ownsRow B e s v n xs) (hg : X.grownBy Y row) (hr : ∀ r, row = some r → ∃ o : Obj, X.heap[r]? = some o ∧ o.isCells = false) : Y.ownsRow B e s v n xs :=
 own_same h fun g hg2 => hg.block g (h.lt g hg2).2 fun e' => by
  obtain ⟨o, ho, hc⟩ := hr g e'.symm
  rcases h.2 with ⟨rfl, _⟩ | ⟨g2, cap2, cur2, rfl, _, hh2, _⟩
  · simp [Value.ownBlock] at hg2
  simp only [Value.ownBlock, Option.some.injEq] at hg2
  subst hg2
  rw [hh2] at ho
  cases ho
  cases hc
theorem Bk.cell' {w : World} {b : Nat} {v : Value} {t : TypeId} (h : Bk w b #[v] t) : w.cell? ⟨b, 0, none⟩ = some v := h.cell 0
theorem VRing.map {B : Nat} {X Y : World} {v : Value} {all : List (List Nat)} (h : VRing B X v all) (k1 : ∀ v n xs, X.ownsRow B 32 1 v n xs → Y.ownsRow B 32 1 v n xs) (k2 : ∀ v n xs, X.ownsRow B 3 1 v n xs → Y.ownsRow B 3 1 v n xs) : VRing B Y v all := by
 obtain ⟨vs, h1, h2⟩ := h
 exact ⟨vs, k1 _ _ _ h1, fun i r hi => by obtain ⟨u, hu, hr⟩ := h2 i r hi; exact ⟨u, hu, k2 _ _ _ hr⟩⟩
structure RI (w W4 : World) (l : List Ed) (k gs b8 : Nat) (L : List { i : Nat // i < k }) (pre : List (Pl k)) (W : World) : Prop where
 one : ∃ s all v8, Bk W gs (bools s) 4 ∧ s.length = k ∧ Bk W b8 #[v8] 155 ∧ VRing W4.heap.size W v8 all ∧ all.length ≤ pre.length ∧ (pre <+: bk L → Told l k (nums ((pre.map (·.2)).reverse)) s all)
 kq : Kq W4.heap.size gs b8 W4 W
 below : Below w.heap.size w W
theorem RI.stay {w W4 X Y : World} {l : List Ed} {k gs b8 : Nat} {L : List { i : Nat // i < k }} {pre : List (Pl k)} {row : Option Nat} (h : RI w W4 l k gs b8 L pre X) (hw : w.heap.size ≤ W4.heap.size) (hg : X.grownBy Y row) (hr : ∀ r, row = some r → W4.heap.size ≤ r ∧ ∃ o : Obj, X.heap[r]? = some o ∧ o.isCells = false) : RI w W4 l k gs b8 L pre Y := by
 obtain ⟨⟨s, all, v8, h1, h2, h3, h4, h5, h6⟩, h7, h8⟩ := h
 have hr' : ∀ r, row = some r → ∃ o : Obj, X.heap[r]? = some o ∧ o.isCells = false := fun r e => (hr r e).2
 refine ⟨⟨s, all, v8, h1.stay hg hr', h2, h3.stay hg hr', h4.map (fun _ _ _ h => own_stay h hg hr') (fun _ _ _ h => own_stay h hg hr'), h5, h6⟩, ⟨Nat.le_trans h7.size hg.size, fun g a b c => (hg.block g (by have := h7.size; omega) (fun e => by have := (hr g e.symm).1; omega)).trans (h7.same g a b c)⟩, ?_⟩
 exact h8.grown hg h8.size fun r e => by have := (hr r e).1; omega
section
variable {w W4 W w3 : World} {l : List Ed} {k gs b8 : Nat} {L : List { i : Nat // i < k }} {pre : List (Pl k)} {x : Pl k} {s s6 : List Bool} {all : List (List Nat)} {L6 : List Nat} {v8 rv : Value}
theorem told_more (hl : InR k l) (hO : OrdOk l k (nums L)) (m6 : pre <+: bk L → Told l k (nums ((pre.map (·.2)).reverse)) s all) (hW6 : Walks (goE l) s [x.2.1] s6 L6) :
 pre ++ [x] <+: bk L → Told l k (nums (((pre ++ [x]).map (·.2)).reverse)) s6 (if L6 = [] then all else all ++ [L6]) := fun hp => by
 obtain ⟨P, Q, e, hQ⟩ := bk_pre hp
 have h1 := m6 ((List.prefix_append pre [x]).trans hp)
 rw [← hQ] at h1
 have hO' : OrdOk l k (nums P ++ x.2.1 :: nums Q) := by
  have e2 : nums L = nums P ++ x.2.1 :: nums Q := by rw [e]; simp [nums]
  rwa [e2] at hO
 have h2 := Told.step hl hO' h1 hW6
 have e3 : nums (((pre ++ [x]).map (·.2)).reverse) = x.2.1 :: nums Q := by rw [hQ]; simp [nums]
 rw [e3]
 exact h2
theorem step_same (hw4 : w.heap.size ≤ gs ∧ gs < W4.heap.size ∧ w.heap.size ≤ W4.heap.size) (m7 : Kq W4.heap.size gs b8 W4 W) (m8 : Below w.heap.size w W)
 (hK6 : Kp gs W.heap.size (W.alloc (.cells #[.slice none 0 0] 32)) w3) : KeepsFrom W4.heap.size W w3 ∧ Kq W4.heap.size gs b8 W w3 ∧ Below w.heap.size w w3 ∧ ∀ g, g < W.heap.size → g ≠ gs → w3.heap[g]? = W.heap[g]? := by
 have hs := hK6.size
 have h7 := m7.size
 simp only [World.size_alloc] at hs
 have hk : ∀ g, g < W.heap.size → g ≠ gs → w3.heap[g]? = W.heap[g]? := fun g h1 h2 => (hK6.block g h1 h2).trans (Below.heap_alloc _ _ _ h1)
 refine ⟨⟨by omega, fun g o h1 h2 _ => (hk g (Array.getElem?_eq_some_iff.1 h2).1 (by omega)).trans h2⟩, ⟨by omega, fun g h1 h2 _ => hk g (by omega) h2⟩, m8.trans (((Below.refl _ W).alloc (by omega) _).trans (hK6.below (by omega) hw4.1)), hk⟩
theorem ring_row {w5 : World} {o : Obj} {vs : List Value} (h8 : Bk w3 b8 #[v8] 155) (h1 : w3.ownsRow W4.heap.size 32 1 v8 all.length vs) (hg : (w3.alloc o).grownBy w5 v8.ownBlock) : Bk w5 b8 #[v8] 155 :=
 bk_grown (h8.alloc o) (h1.alloc o) (by decide) hg
theorem ring_done {w5 : World} {o : Obj} {vs : List Value} {v9 : Value} (hw4 : w.heap.size ≤ b8 ∧ b8 < W4.heap.size ∧ w.heap.size ≤ W4.heap.size ∧ W4.heap.size ≤ w3.heap.size) (h8 : Bk w3 b8 #[v8] 155) (hgs : Bk w3 gs (bools s6) 4)
 (h1 : w3.ownsRow W4.heap.size 32 1 v8 all.length vs) (h2 : ∀ (i : Nat) (r : List Nat), all[i]? = some r → ∃ u : Value, vs[i]? = some u ∧ w3.ownsRow W4.heap.size 3 1 u r.length (ints r)) (hrr : w3.ownsRow W4.heap.size 3 1 rv L6.length (ints L6))
 (hg : (w3.alloc o).grownBy w5 v8.ownBlock) (h5 : w5.ownsRow W4.heap.size 32 1 v9 (all.length + 1) (vs ++ [rv])) :
 KeepsFrom W4.heap.size w3 (w5.setCell ⟨b8, 0, none⟩ v9) ∧ Kq W4.heap.size gs b8 w3 (w5.setCell ⟨b8, 0, none⟩ v9) ∧ Below w.heap.size w3 (w5.setCell ⟨b8, 0, none⟩ v9) ∧ Bk (w5.setCell ⟨b8, 0, none⟩ v9) gs (bools s6) 4 ∧ Bk (w5.setCell ⟨b8, 0, none⟩ v9) b8 #[v9] 155 ∧ VRing W4.heap.size (w5.setCell ⟨b8, 0, none⟩ v9) v9 (all ++ [L6]) := by
 have hsz := hg.size
 simp only [World.size_alloc] at hsz
 have h1' := h1.alloc o
 have hk : ∀ g, g < w3.heap.size → g ≠ b8 → v8.ownBlock ≠ some g → (w5.setCell ⟨b8, 0, none⟩ v9).heap[g]? = w3.heap[g]? := fun g a b c =>
  ((Below.heap_setCell _ _ _ _ b).trans (hg.block g (by simp; omega) fun e => c e.symm)).trans (Below.heap_alloc _ _ _ a)
 have hss : (w5.setCell ⟨b8, 0, none⟩ v9).heap.size = w5.heap.size := by simp [World.setCell]
 have hb5 := ring_row h8 h1 hg
 have hint : ∀ (v : Value) (n : Nat) (xs : List Value), w3.ownsRow W4.heap.size 3 1 v n xs → (w5.setCell ⟨b8, 0, none⟩ v9).ownsRow W4.heap.size 3 1 v n xs := fun v n xs h => by
  have q := own_grown (h.alloc o) h1' (by decide) hg
  exact own_same q fun g hg2 => Below.heap_setCell _ _ _ _ fun e => own_ne hb5 q (by decide) ((show g = b8 from e) ▸ hg2)
 refine ⟨⟨by omega, fun g o' a b c => ?_⟩, ⟨by omega, fun g a b c => hk g (by omega) c fun e => by have := (h1.lt g e).1; omega⟩, ?_, ?_, ?_, vs ++ [rv], ?_, fun i r hi => ?_⟩
 · have hgl := (Array.getElem?_eq_some_iff.1 b).1
   refine (hk g hgl (by omega) fun e => ?_).trans b
   rcases h1.2 with ⟨rfl, _⟩ | ⟨g2, cap2, cur2, rfl, _, hh2, _⟩
   · simp [Value.ownBlock] at e
   simp only [Value.ownBlock, Option.some.injEq] at e
   subst e
   rw [hh2] at b
   cases b
   cases c
 · exact (below_of_own ((Below.refl _ w3).alloc (by omega) o) hg h1' (by simp; omega) (by omega)).setCell hw4.1 _
 · exact (bk_grown (hgs.alloc o) h1' (by decide) hg).other (a := ⟨b8, 0, none⟩) (fun e => by
    have e' : gs = b8 := e
    subst e'
    have := hgs.symm.trans h8
    injection this with this
    injection this with _ h3 _
    exact absurd h3 (by decide)) _
 · have := hb5.set 0 v9
   simpa using this
 · rw [List.length_append]
   exact own_same h5 fun g hg2 => Below.heap_setCell _ _ _ _ fun e => own_ne hb5 h5 (by decide) ((show g = b8 from e) ▸ hg2)
 · have hlv : vs.length = all.length := by have := h1.1; omega
   rcases Nat.lt_or_ge i all.length with hi2 | hi2
   · rw [List.getElem?_append_left hi2] at hi
     obtain ⟨u, hu, hr⟩ := h2 i r hi
     exact ⟨u, by rw [List.getElem?_append_left (by omega)]; exact hu, hint _ _ _ hr⟩
   · rw [List.getElem?_append_right hi2] at hi
     obtain ⟨h0, hi⟩ := List.getElem?_eq_some_iff.1 hi
     simp at h0 hi
     subst hi
     exact ⟨rv, by rw [List.getElem?_append_right (by omega), show i - vs.length = 0 by omega]; rfl, hint _ _ _ hrr⟩
theorem own_step {B : Nat} {e : TypeId} {sz n : Nat} {v : Value} {xs : List Value} (h : W.ownsRow B e sz v n xs) (hne : e ≠ 4) (hgs : Bk W gs (bools s) 4) (hk : ∀ g, g < W.heap.size → g ≠ gs → w3.heap[g]? = W.heap[g]?) : w3.ownsRow B e sz v n xs :=
 own_same h fun g hg => hk g (h.lt g hg).2 fun e' => own_ne hgs h (fun e'' => hne e''.symm) (e' ▸ hg)
end
theorem rings_in (m : Nat) (hm : 6 ≤ m) {w : World} {B n c c' : Nat} {A A' : Option Addr} {l : List Ed} (h1 : Gr w B A c n l) (h2 : Gr w B A' c' n (l.map turn)) (hB : B ≤ w.heap.size) :
 CallsIn Fence.wide m Tryz.prog 84 #[.slice A n c, .slice A' n c'] w fun e w' => ∃ v all ord s, e = .returned v ∧ OrdOk l n ord ∧ Told l n ord s all ∧ VRing w.heap.size w' v all ∧ Below w.heap.size w w' := by
 have hn := h1.few
 obtain ⟨i1, hi1, hy0, hy1, hy2⟩ := info_parts info_bool
 have hmk : ∀ W : World, (Instr.makeSlice 203 (.int .i64 (n : Int)) (.int .i64 (n : Int))).run Tryz.prog W = .ok (.slice (some ⟨W.heap.size, 0, none⟩) n n) (W.alloc (.cells (bools (List.replicate n false)) 4)) := fun W => by
  have := run_make (P := Tryz.prog) W 203 4 i1 _ Tryz.underlying203 hi1 hy0 .i64 .i64 n n (by omega) (Int.le_refl _) (by rw [hy2]; omega) (by omega)
  rw [Int.toNat_natCast, hy1, Nat.mul_one] at this
  rw [← made_bools]
  exact this
 refine callsIn_of_wp_marks Tryz.func84 rfl trivial ?_ rfl
 simp only [Tryz.ntmps84, List.size_toArray, List.length_cons, List.length_nil, Nat.reduceAdd, Nat.reduceSub, Array.replicate_succ, Array.replicate_zero, List.push_toArray, List.append_toArray, List.nil_append, List.cons_append]
 gi_wp2
 have hW0 : Below w.heap.size w ((((w.alloc (.cells #[.slice A n c] 152)).alloc (.cells #[.slice none 0 0] 32)).alloc (.cells (bools (List.replicate n false)) 4)).alloc (.cells #[.slice (some ⟨w.heap.size + 1 + 1, 0, none⟩) n n] 203)) :=
  ((((Below.refl _ w).alloc (Nat.le_refl _) _).alloc (by simp) _).alloc (by simp; omega) _).alloc (by simp; omega) _
 have hz0 : ((((w.alloc (.cells #[.slice A n c] 152)).alloc (.cells #[.slice none 0 0] 32)).alloc (.cells (bools (List.replicate n false)) 4)).alloc (.cells #[.slice (some ⟨w.heap.size + 1 + 1, 0, none⟩) n n] 203)).heap.size = w.heap.size + 4 := by simp
 have d0 := (((Bk.new w #[.slice A n c] 152).alloc (.cells #[.slice none 0 0] 32)).alloc (.cells (bools (List.replicate n false)) 4)).alloc (.cells #[.slice (some ⟨w.heap.size + 1 + 1, 0, none⟩) n n] 203)
 have d1 := ((Bk.new (w.alloc (.cells #[.slice A n c] 152)) #[.slice none 0 0] 32).alloc (.cells (bools (List.replicate n false)) 4)).alloc (.cells #[.slice (some ⟨w.heap.size + 1 + 1, 0, none⟩) n n] 203)
 have d2 := (Bk.new ((w.alloc (.cells #[.slice A n c] 152)).alloc (.cells #[.slice none 0 0] 32)) (bools (List.replicate n false)) 4).alloc (.cells #[.slice (some ⟨w.heap.size + 1 + 1, 0, none⟩) n n] 203)
 have d3 := Bk.new (((w.alloc (.cells #[.slice A n c] 152)).alloc (.cells #[.slice none 0 0] 32)).alloc (.cells (bools (List.replicate n false)) 4)) #[.slice (some ⟨w.heap.size + 1 + 1, 0, none⟩) n n] 203
 simp only [World.size_alloc] at d1 d2 d3
 generalize (((w.alloc (.cells #[.slice A n c] 152)).alloc (.cells #[.slice none 0 0] 32)).alloc (.cells (bools (List.replicate n false)) 4)).alloc (.cells #[.slice (some ⟨w.heap.size + 1 + 1, 0, none⟩) n n] 203) = W1 at *
 have hS1 : Sw W1 (w.heap.size + 1) (w.heap.size + 1 + 1) (w.heap.size + 1) n (List.replicate n false) [] := ⟨d2, ⟨⟨_, d1, World.ownsRow_nil _ _ _ _⟩, Nat.le_refl _⟩, by simp⟩
 have h1' := h1.below (hW0.mono hB)
 have h2' := h2.below (hW0.mono hB)
 gi_loopw [17] (fun vi wr => ∃ (k : Nat) (s : List Bool) (L : List Nat), vi = .int .i64 k ∧ k ≤ n ∧ Walks (goE (l.map turn)) (List.replicate n false) (List.range k) s L ∧ Sw wr (w.heap.size + 1) (w.heap.size + 1 + 1) (w.heap.size + 1) n s L ∧ Kp (w.heap.size + 1 + 1) (w.heap.size + 1) W1 wr ∧ Bw W1 wr)
  (fun vi _ => n - (intOf vi).toNat)
 case atStart => exact ⟨0, _, [], rfl, Nat.zero_le _, .nil _, hS1, Kp.refl _ _ _, Bw.refl _⟩
 case round =>
  obtain ⟨k, s, L, rfl, hk, hW, hS, hK, hV⟩ := hrel
  have hb6 := hV _ _ _ (by decide) (by decide) (by decide) d3
  by_cases hlt : k < n
  · have hlt' : (k : Int) < (n : Int) := by omega
    have c6 := hb6.cell 0
    have hcf := hW.cf
    rw [List.count_replicate_self] at hcf
    have kw := walk_any (w := wr) (s := s) (L := L) (a := k) 131 (M0 := B) (M := w.heap.size + 1) (gs := w.heap.size + 1 + 1) (go := w.heap.size + 1) (n := n) (c := c') (cs := n) (A := A') (l := l.map turn) (by omega) (by omega) (by omega)
     (enters_of Tryz.func131 (by kernel_rfl) rfl) (fun w L k h hl => leave1_any h k hl) (s.count false) (Nat.le_refl _) hlt (h2'.below (hK.below (by omega) (by omega))) hS (by omega)
    gi_wp2_with (refine ⟨trivial, fun e => (by cases e), ?_⟩; (with_reducible refine (callsIn_wide.2 kw).mono ?_); rintro e w2 ⟨rfl, s2, L2, hW2, hS2, hK2, hV2⟩)
    go_roundw
    case rel => exact ⟨k + 1, s2, L ++ L2, by simp, by omega, by rw [List.range_succ]; exact hW.app hW2, hS2, hK.trans hK2, hV.trans hV2⟩
    case measure => simp [intOf]; omega
  · obtain rfl : k = n := by omega
    have hlt' : ¬ ((k : Int) < (k : Nat)) := by omega
    have hO := ord_of h1.inr hW
    obtain ⟨ov, hv, hr⟩ := hS.od.one
    obtain ⟨A2, c2, rfl, hrR⟩ := Rd.own hr
    have hlo : L.length = k := by
     have := hW.cf
     have h0 : s.count false = 0 := by
      rw [List.count_eq_zero]
      intro m
      obtain ⟨i, hi, e⟩ := List.getElem_of_mem m
      have h3 : s[i]? = some false := by rw [List.getElem?_eq_getElem hi, e]
      have hik : i < k := by rw [hS.len] at hi; exact hi
      exact absurd ((hO.mem i).2 hik) ((hW.seen.2.1 i).1 h3).2
     rw [List.count_replicate_self] at this
     omega
    replace hlo := Lib.hid hlo
    obtain ⟨W3, hcl, e3, s3, s3a, s3b, s3c, k3⟩ := clear_bools (hS.seen.alloc (.cells #[.slice none 0 0] 155)) hS.len
    have s3' : W3.heap.size = wr.heap.size + 1 := by rw [s3]; simp
    have hgl := hS.seen.lt
    have hol := hv.lt
    have b3 : Kp (w.heap.size + 1 + 1) (w.heap.size + 1) (wr.alloc (.cells #[.slice none 0 0] 155)) W3 := ⟨s3a, s3b, s3c, by omega, fun g _ hg => k3 g hg⟩
    have x6 : Bk W3 (w.heap.size + 1 + 1 + 1) _ _ := (k3 _ (by omega)).trans (hb6.alloc _)
    have x5 : Bk W3 (w.heap.size + 1) _ _ := (k3 _ (by omega)).trans (hv.alloc _)
    have x8 : Bk W3 wr.heap.size #[.slice none 0 0] 155 := (k3 _ (by omega)).trans (Bk.new wr _ _)
    have r5 : W3.ownsRow (w.heap.size + 1) 3 1 (.slice A2 L.length c2) L.length (ints L) := own_same (hr.alloc (.cells #[.slice none 0 0] 155)) fun g hg => k3 g fun e => own_ne hS.seen hr (by decide) (e ▸ hg)
    have c6 := (hb6.alloc (.cells #[.slice none 0 0] 155)).cell 0
    have c5 := x5.cell 0
    have kb := back_any W3 A2 L.length c2
    clear s3
    replace s3' := Lib.hid s3'
    gi_wp2_with (refine ⟨trivial, fun e => (by cases e), ?_⟩; (with_reducible refine (callsIn_wide.2 kb).mono ?_); rintro e w2 ⟨rfl, hw2⟩)
    replace s3' := s3'.out
    have hM0 := hS.od.ge
    have hsz4 : w2.heap.size = W3.heap.size + 1 := by rw [hw2]; simp
    have bx := hw2 ▸ Bk.new W3 #[.slice A2 L.length c2] 32
    have y6 : Bk w2 _ _ _ := hw2 ▸ x6.alloc (.cells #[.slice A2 L.length c2] 32)
    have y8 : Bk w2 _ _ _ := hw2 ▸ x8.alloc (.cells #[.slice A2 L.length c2] 32)
    have y0 : Bk W3 w.heap.size #[.slice A k c] 152 := (k3 _ (by omega)).trans ((hV _ _ _ (by decide) (by decide) (by decide) d0).alloc _)
    replace y0 : Bk w2 _ _ _ := hw2 ▸ y0.alloc (.cells #[.slice A2 L.length c2] 32)
    have e4 : Bk w2 _ _ _ := hw2 ▸ e3.alloc (.cells #[.slice A2 L.length c2] 32)
    have r4 : w2.ownsRow (w.heap.size + 1) 3 1 (.slice A2 L.length c2) L.length (ints L) := hw2 ▸ r5.alloc (.cells #[.slice A2 L.length c2] 32)
    have bw4 : Below w.heap.size w w2 := by
     have q1 : Below w.heap.size W1 wr := hK.below (by omega) (by omega)
     have q2 : Below w.heap.size wr W3 := ((Below.refl _ wr).alloc (by omega) _).trans (b3.below (by omega) (by omega))
     rw [hw2]
     exact ((hW0.trans q1).trans q2).alloc (by omega) _
    rw [← hw2]
    clear hw2 kb hcl e3 s3a s3b s3c k3 b3 x6 x5 x8 r5 c5 c6 hv hr hrR hb6
    obtain ⟨L', hL'⟩ : ∃ L' : List { i : Nat // i < k }, nums L' = L := ⟨L.pmap Subtype.mk fun a ha => (hO.mem a).1 ha, by simp [nums, List.map_pmap]⟩
    subst hL'
    have hln : (nums L').length = L'.length := by simp [nums]
    have hlk := hlo.out
    rw [hln] at hlk r4 bx
    obtain ⟨A3, c3, e34, hrd⟩ := Rd.own r4
    injection e34 with e34 _ e35
    subst e34 e35
    have hg4 := h1.below (bw4.mono hB)
    have hseq := back_stop (m - 1) (by omega) W3.heap.size L' A2 c2 w2.heap.size (w.heap.size + 1 + 1) wr.heap.size w2 (Nat.le_refl _) bx.cell' hrd
     (fun bb o e => by
      have hob : (Value.slice A2 L'.length c2).ownBlock = some bb := by rw [e]; rfl
      refine ⟨(r4.lt bb hob).2, fun e' => own_ne e4 r4 (by decide) (e' ▸ hob), fun e' => own_ne y8 r4 (by decide) (e' ▸ hob)⟩)
     ⟨by omega, by omega, by omega⟩ (by omega)
    obtain ⟨i0, hi0, hz0', hz1', hz2'⟩ := info_parts info_ints
    have hs0 : W1.heap.size ≤ wr.heap.size := hK.size
    refine wpIn_rangeFunc_ownH (w0 := w2) rfl (by omega) (gf := 177) (lb := #[.pointer (some ⟨W3.heap.size, 0, none⟩)]) rfl trivial (enters_of Tryz.func177 (by kernel_rfl) rfl)
     hseq (fun h k => h.trans k) (fun W l o o' h1 _ _ _ => Kq.putObj W l o' h1) (Below.refl _ _) (fun _ => rfl)
     (RI w w2 l k (w.heap.size + 1 + 1) wr.heap.size L')
     (fun _ _ _ => False)
     (fun pre X Y row hI hg hr => hI.stay bw4.size hg hr)
     (fun _ _ _ _ _ hs _ _ => hs)
     ⟨⟨_, [], _, e4, by simp, y8, ⟨[], World.ownsRow_nil _ _ _ _, fun i r h => by simp at h⟩, by simp, fun _ => Told.start⟩, Kq.refl _ _ _ _, bw4⟩
     (fun x a' W => a' = { tmps := #[.slice A k c, .slice A' k c', .pointer (some ⟨w.heap.size, 0, none⟩), undef, .slice none 0 0, .pointer (some ⟨w.heap.size + 1, 0, none⟩), .pointer (some ⟨w.heap.size + 1 + 1 + 1, 0, none⟩), u7,
      .pointer (some ⟨wr.heap.size, 0, none⟩), undef, .int .i64 (x.2.1 : Int), undef, .slice A' k c', .int .i64 (k : Int), .slice (some ⟨w.heap.size + 1 + 1, 0, none⟩) k k, .slice A' k c', .int .i64 (k : Int), .int .i64 (k : Int), .bool false, u19, u20, u21, u22, u23, u24, u25,
      .slice (some ⟨w.heap.size + 1 + 1, 0, none⟩) k k, .slice A2 k c2, .func (.func 177) #[] #[.pointer (some ⟨wr.heap.size + 1, 0, none⟩)], .int .i64 (x.1 : Int), .int .i64 (x.2.1 : Int), undef, undef, undef, undef, undef, undef, undef, undef, undef, undef, undef, undef, undef], defers := [] })
     (fun x a' _ X Y row hs hg hr => hs)
     ?assign ?body ?done ?stop
    case assign =>
     intro l2 pre x W K hI hK2
     simp only [plEnc]
     gi_wp2
     exact hK2 _ _ ((KeepsOthers.refl _).from _) (Kq.refl _ _ _ _) hI rfl
    case body =>
     rintro l2 pre x a' W hl2 ⟨r, hr⟩ hI rfl hlt
     obtain ⟨⟨s5, all, v8, m1, m2, m3, m4, m5, m6⟩, m7, m8⟩ := hI
     have hWs := m7.size
     have hxk := x.2.2
     have z0 : Bk W _ _ _ := (m7.same w.heap.size (by omega) (by omega) (by omega)).trans y0
     have z6 : Bk W _ _ _ := (m7.same (w.heap.size + 1 + 1 + 1) (by omega) (by omega) (by omega)).trans y6
     have c0 := (z0.alloc (.cells #[.slice none 0 0] 32)).cell'
     have c6 := (z6.alloc (.cells #[.slice none 0 0] 32)).cell'
     have hGw : Gr W B A c k l := h1.below (m8.mono hB)
     have hS5 : Sw (W.alloc (.cells #[.slice none 0 0] 32)) W.heap.size (w.heap.size + 1 + 1) W.heap.size k s5 [] := ⟨m1.alloc _, ⟨⟨_, Bk.new W _ _, World.ownsRow_nil _ _ _ _⟩, Nat.le_refl _⟩, m2⟩
     have hcl5 : s5.count false ≤ k := by rw [← m2]; exact List.count_le_length
     have kw := walk_any (w := W.alloc (.cells #[.slice none 0 0] 32)) (s := s5) (L := []) (a := x.2.1) 133 (M0 := B) (M := W.heap.size) (gs := w.heap.size + 1 + 1) (go := W.heap.size) (n := k) (c := c) (cs := k) (A := A) (l := l) (by omega) (by omega) (by omega)
      (enters_of Tryz.func133 (by kernel_rfl) rfl) (fun w L k h hl => leave2_any h k hl) (s5.count false) (Nat.le_refl _) hxk (hGw.below ((Below.refl _ _).alloc (by omega) _)) hS5 (by simp; omega)
     gi_wp2
     refine ⟨trivial, fun e => (by cases e), CallsIn.inRound l2 ((callsIn_wide.2 kw).mono ?_)⟩
     rintro e w3 ⟨rfl, s6, L6, hW6, hS6, hK6, hV6⟩
     rw [List.nil_append] at hS6
     obtain ⟨rv, hrv, hrr⟩ := hS6.od.one
     obtain ⟨A6, c6', rfl, _⟩ := Rd.own hrr
     obtain ⟨k1, k2, k3', k4⟩ := step_same (w := w) (W4 := w2) (gs := w.heap.size + 1 + 1) ⟨by omega, by omega, by omega⟩ m7 m8 hK6
     have t6 := told_more h1.inr hO m6 hW6
     have n8 : Bk w3 wr.heap.size #[v8] 155 := hV6 _ _ _ (by decide) (by decide) (by decide) (m3.alloc _)
     obtain ⟨vs, mv1, mv2⟩ := m4
     have mv1' := own_step mv1 (by decide) m1 k4
     have mv2' : ∀ (i : Nat) (r : List Nat), all[i]? = some r → ∃ u : Value, vs[i]? = some u ∧ w3.ownsRow w2.heap.size 3 1 u r.length (ints r) := fun i r hi => by
      obtain ⟨u, hu, hr⟩ := mv2 i r hi
      exact ⟨u, hu, own_step hr (by decide) m1 k4⟩
     have cr := hrv.cell'
     have hl3 : w2.heap.size ≤ w3.heap.size := by have := k1.size; omega
     by_cases h60 : L6 = []
     · have hz : ¬ ((L6.length : Int) > 0) := by rw [h60]; simp
       rw [if_pos h60] at t6
       have h60 := Lib.hid h60
       gi_wp2
       exact ⟨k1, k2, ⟨s6, all, v8, hS6.seen, hS6.len, n8, ⟨vs, mv1', mv2'⟩, by rw [List.length_append]; omega, t6⟩, m7.trans k2, k3'⟩
     · have hz : ((L6.length : Int) > 0) := by have := List.length_pos_iff.2 h60; omega
       rw [if_neg h60] at t6
       have h60 := Lib.hid h60
       have c8 := n8.cell'
       have f8 := n8.fz 0
       obtain ⟨A8, c8', rfl, _⟩ := Rd.own mv1'
       gi_wp2_with (gi_at_builtin; refine wpListIn_append_own _ rfl (.tmp 39) (.tmp 41) 155 rfl w2.heap.size 32 i0 (.slice none 0 0) 1 24 Tryz.underlying155 hi0 hz0' hz1' hz2' rfl (by decide) _ all.length vs rfl (mv1'.alloc _) ⟨w3.heap.size, 0, none⟩ 1 1 [.slice A6 L6.length c6'] rfl rfl (cells_new1 _ _ _) (fun u hu => by simp at hu; subst hu; rfl) (by simp only [maxLen]; omega) (by omega) (by simp; omega) ?_; intro v9 w5 hown5 hg5 _; obtain ⟨A9, c9', rfl, _⟩ := Rd.own hown5; have hb5 := ring_row n8 mv1' hg5; have cb5 := hb5.cell'; have fb5 := hb5.fz 0)
       obtain ⟨j1, j2, j3, j4, j5, j6⟩ := ring_done (w := w) ⟨by omega, by omega, by omega, hl3⟩ n8 hS6.seen mv1' mv2' (own_base hrr (by omega)) hg5 hown5
       exact ⟨k1.trans j1, k2.trans j2, ⟨s6, all ++ [L6], _, j4, hS6.len, j5, j6, by rw [List.length_append, List.length_append]; simp; omega, t6⟩, m7.trans (k2.trans j2), k3'.trans j3⟩
    case done =>
     rintro D ys W hD rfl hI hK3
     have c8 : ∃ v8, W.cell? ⟨wr.heap.size, 0, none⟩ = some v8 ∧ ∃ s5 all, VRing w2.heap.size (W.putObj D (.deferred none)) v8 all ∧ Told l k (nums L') s5 all ∧ Below w.heap.size w (W.putObj D (.deferred none)) := by
      have hI2 := hI.stay bw4.size (grownBy_putObj' W D (.deferred none)) (fun r e => by cases e; exact ⟨hD, _, hK3, rfl⟩)
      obtain ⟨⟨s5, all, v8, m1, m2, m3, m4, m5, m6⟩, m7, m8⟩ := hI2
      obtain ⟨⟨_, _, v8', _, _, m3', _, _, _⟩, _, _⟩ := hI
      have e8 : v8' = v8 := by
       have q := m3'.stay (grownBy_putObj' W D (.deferred none)) (fun r e => by cases e; exact ⟨_, hK3, rfl⟩)
       have := q.cell'.symm.trans m3.cell'
       exact Option.some.inj this
      subst e8
      have hb : (bk L').map (·.2) = L'.reverse := by
       unfold bk
       rw [List.map_reverse, List.map_snd_zip (by simp)]
      have t6 := m6 (List.prefix_rfl)
      rw [hb, List.reverse_reverse] at t6
      exact ⟨v8', m3'.cell', s5, all, m4, t6, m8⟩
     obtain ⟨v8, c8, s5, all, m4, t6, m8⟩ := c8
     gi_wp2
     refine ⟨by simp, .inl ⟨_, _, rfl, run_takeDeferred hK3, ?_⟩⟩
     obtain ⟨vs, q1, q2⟩ := m4
     exact ⟨_, results_tmp rfl _ _ _, _, rfl, all, nums L', hO, ⟨s5, t6⟩, ⟨vs, own_base q1 bw4.size, fun i r hi => by obtain ⟨u, hu, hr⟩ := q2 i r hi; exact ⟨u, hu, own_base hr bw4.size⟩⟩, m8⟩
    case stop =>
     rintro D c pre W _ _ h _
     exact h.elim
end Go.Proofs.YtahegpfdbgbioaaGreat
namespace Go.Proofs.YtahegpfdbgbioaaGreat
open Go.RowKit
structure LvO (w : World) (base g n : Nat) (l : List Ed) (vs : List Value) : Prop where
 blk : Bk w g vs.toArray 100
 len : vs.length = n
 rows : ∀ i, i < n → ∃ u, vs[i]? = some u ∧ w.ownsRow base 151 3 u (outE l i).length (ecells (outE l i))
 ap : ∀ (i j : Nat) (u v : Value) (b : Nat), i ≠ j → vs[i]? = some u → vs[j]? = some v → u.ownBlock = some b → v.ownBlock ≠ some b
theorem outE_snoc (l : List Ed) (e : Ed) (i : Nat) : outE (l ++ [e]) i = outE l i ++ if fr e = i then [e] else [] := by
 unfold outE
 rw [List.filter_append]
 by_cases h : fr e = i <;> simp [h]
section
variable {w w' : World} {base g n : Nat} {l : List Ed} {vs : List Value}
theorem LvO.same (h : LvO w base g n l vs) (hg : w'.heap[g]? = w.heap[g]?) (hb : ∀ v m xs, w.ownsRow base 151 3 v m xs → w'.ownsRow base 151 3 v m xs) : LvO w' base g n l vs :=
 ⟨hg.trans h.blk, h.len, fun i hi => by obtain ⟨u, hu, hr⟩ := h.rows i hi; exact ⟨u, hu, hb _ _ _ hr⟩, h.ap⟩
theorem LvO.alloc (h : LvO w base g n l vs) (o : Obj) : LvO (w.alloc o) base g n l vs := h.same (Below.heap_alloc _ _ _ h.blk.lt) fun _ _ _ hr => hr.alloc o
theorem LvO.drew (h : LvO w base g n l vs) : LvO w.drew base g n l vs := h.same rfl fun _ _ _ hr => own_drew hr
theorem LvO.start (n : Nat) (hw : w.heap[g]? = some (.cells (Array.replicate n (.slice none 0 0)) 100 (0, 0))) : LvO w base g n [] (List.replicate n (.slice none 0 0)) :=
 ⟨by rw [List.toArray_replicate]; exact hw, by simp, fun i hi => ⟨.slice none 0 0, by rw [List.getElem?_replicate]; simp [hi], World.ownsRow_nil _ _ _ _⟩, fun i j u v b _ hu hv e => by
  rw [List.getElem?_replicate] at hu
  split at hu
  · cases hu; simp [Value.ownBlock] at e
  · cases hu⟩
theorem LvO.cell (h : LvO w base g n l vs) {i : Nat} {u : Value} (hu : vs[i]? = some u) : w.cell? ⟨g, i, none⟩ = some u := by
 rw [h.blk.cell i]
 simpa using hu
theorem LvO.step {w8 : World} {e : Ed} {u v9 : Value} {o : Obj} (h : LvO w base g n l vs) (hu : vs[fr e]? = some u) (hr : w.ownsRow base 151 3 u (outE l (fr e)).length (ecells (outE l (fr e))))
 (hg : (w.alloc o).grownBy w8 u.ownBlock) (hown : w8.ownsRow base 151 3 v9 ((outE l (fr e)).length + 1) (ecells (outE l (fr e)) ++ ecell e)) (hat : v9.ownBlock = u.ownBlock ∨ v9.ownBlock = some (w.alloc o).heap.size) :
 Bk w8 g vs.toArray 100 ∧ LvO (w8.setCell ⟨g, fr e, none⟩ v9) base g n (l ++ [e]) (vs.set (fr e) v9) := by
 have hb8 : Bk w8 g vs.toArray 100 := bk_grown (h.blk.alloc o) (hr.alloc o) (by decide) hg
 have hset : ∀ {v : Value} {m : Nat} {xs : List Value}, w8.ownsRow base 151 3 v m xs → (w8.setCell ⟨g, fr e, none⟩ v9).ownsRow base 151 3 v m xs := fun q =>
  own_same q fun k hk => Below.heap_setCell _ _ _ _ fun e' => own_ne hb8 q (by decide) ((show k = g from e') ▸ hk)
 have hlt : fr e < vs.length := (List.getElem?_eq_some_iff.1 hu).1
 refine ⟨hb8, ?_, by rw [List.length_set]; exact h.len, fun i hi => ?_, fun i j x y b hne hx hy hb => ?_⟩
 · have := hb8.set (fr e) v9
   simpa using this
 · rw [outE_snoc]
   by_cases hie : fr e = i
   · subst hie
     refine ⟨v9, by rw [List.getElem?_set_self hlt], ?_⟩
     rw [if_pos rfl, List.length_append, ecells_app]
     have : ecells [e] = ecell e := by simp [ecells]
     rw [this]
     exact hset hown
   · obtain ⟨x, hx, hr2⟩ := h.rows i hi
     refine ⟨x, by rw [List.getElem?_set_ne hie]; exact hx, ?_⟩
     rw [if_neg hie, List.append_nil]
     refine hset (World.ownsRow.kept (hr2.alloc o) hg ?_)
     rcases hb : x.ownBlock with _ | b
     · exact .inl rfl
     · exact .inr fun e' => h.ap i (fr e) x u b (fun q => hie q.symm) hx hu hb e'.symm
 · have old : ∀ (k : Nat) (z : Value) (c : Nat), vs[k]? = some z → z.ownBlock = some c → c < w.heap.size := fun k z c hz hc => by
    have hk : k < n := by have := (List.getElem?_eq_some_iff.1 hz).1; rw [h.len] at this; exact this
    obtain ⟨z', hz', hr'⟩ := h.rows k hk
    rw [hz] at hz'
    cases hz'
    exact (hr'.lt c hc).2
   by_cases hie : fr e = i
   · subst hie
     rw [List.getElem?_set_self hlt] at hx
     cases hx
     rw [List.getElem?_set_ne hne] at hy
     rcases hat with ha | ha
     · rw [ha] at hb
       exact h.ap _ _ _ _ _ hne hu hy hb
     · rw [ha] at hb
       cases hb
       intro hc
       have := old j y _ hy hc
       simp at this
       omega
   · rw [List.getElem?_set_ne hie] at hx
     by_cases hje : fr e = j
     · subst hje
       rw [List.getElem?_set_self hlt] at hy
       cases hy
       intro hc
       rcases hat with ha | ha
       · rw [ha] at hc
         exact h.ap _ _ _ _ _ hne hx hu hb hc
       · rw [ha] at hc
         cases hc
         have := old i x _ hx hb
         simp at this
         omega
     · rw [List.getElem?_set_ne hje] at hy
       exact h.ap _ _ _ _ _ hne hx hy hb
theorem LvO.gr (h : LvO w base g n l vs) (hi : InR n l) (hn : n ≤ 4096) : Gr w w.heap.size (some ⟨g, 0, none⟩) n n l := by
 refine ⟨⟨vs, ⟨by rw [h.len]; omega, Nat.le_refl _, by simp only [maxLen]; omega, fun e => (by cases e), fun _ => ⟨g, 0, rfl, h.blk.lt, fun j u hj => by rw [Nat.zero_add]; exact h.cell hj⟩⟩, fun i hi2 => ?_⟩, hi, hn⟩
 obtain ⟨u, hu, hr⟩ := h.rows i hi2
 obtain ⟨A, c, rfl, hR⟩ := Rd.own hr
 exact ⟨A, c, hu, hR⟩
end
theorem info_edge : (Tryz.prog.info? 151).map (fun i => (i.zero, i.size, i.bytes)) = some (some (.agg #[.int .i64 0, .int .i64 0, .bool false]), 3, 24) := by kernel_rfl
theorem info_edges : (Tryz.prog.info? 100).map (fun i => (i.zero, i.size, i.bytes)) = some (some (.slice none 0 0), 1, 24) := by kernel_rfl
theorem op_append_at {P : Program} (w : World) {Q : Exit → Act → World → Prop} {o : Oper} {a : Act} {K : Act → World → Prop} (d : Option Tmp) (hd : o.dst = d) (s x : Operand) (t tx : TypeId)
 (ho : o.op = .call { callee := .builtin .append, args := #[s, x], argTypes := #[t, tx] })
 (base : Nat) (e : TypeId) (i : TypeInfo) (z : Value) (size bytes : Nat) (ht : P.underlying t = some (.slice e)) (hi : P.info? e = some i) (hz : i.zero = some z)
 (hsize : i.size = size) (hby : i.bytes = bytes) (hzs : z.cells.size = size) (hsz : 0 < size)
 (v : Value) (n : Nat) (xs : List Value) (hv : a.eval s = v) (hown : w.ownsRow base e size v n xs) (y : Value) (m : Nat) (news : List Value) (hx : a.eval x = y) (hs : Src P size tx y m news w)
 (h63 : n + m ≤ maxLen) (hbytes : (n + m) * bytes ≤ 140737488355328) (hbase : base ≤ w.heap.size)
 (h : ∀ v' w', w'.ownsRow base e size v' (n + m) (xs ++ news) → w.grownBy w' v.ownBlock → (v'.ownBlock = v.ownBlock ∨ v'.ownBlock = some w.heap.size) → K (a.put d v') w') :
 Oper.wp P o a w K Q := by
 subst hd
 obtain ⟨v', w', hr, h2, h3, h4⟩ := run_append_src (P := P) w base t tx o.type e i z size bytes ht hi hz hsize hby hzs hsz v n xs hown y m news hs h63 hbytes hbase
 unfold Oper.wp execOp
 simp only [ho, resolve, invoke, builtin, Sem.run_bind, Sem.run_pure, Result.andThen_ok, List.map_toArray, List.map_cons, List.map_nil, hv, hx, hr]
 exact h v' w' h2 h3 h4
theorem outE_le (l : List Ed) (i : Nat) : (outE l i).length ≤ l.length := List.length_filter_le _ _
theorem made_nils (n : Nat) : madeCells #[.slice none 0 0] n = Array.replicate n (Value.slice none 0 0) := by
 apply Array.ext'
 rw [toList_madeCells_one, Array.toList_replicate]
theorem leaving_any {w : World} {n c : Nat} {A : Option Addr} {l : List Ed} (h : Rd w w.heap.size 3 A l.length c (ecells l)) (hi : InR n l) (hn : n ≤ 4096) (hl : l.length ≤ 1000000) :
 Calls Tryz.prog 82 #[.int .i64 (n : Int), .slice A l.length c] w fun e w' => e = .returned (.slice (some ⟨w.heap.size, 0, none⟩) n n) ∧ Gr w' w'.heap.size (some ⟨w.heap.size, 0, none⟩) n n l ∧ Below w.heap.size w w' := by
 obtain ⟨i1, hi1, hy0, hy1, hy2⟩ := info_parts info_edges
 obtain ⟨i0, hi0, hz0, hz1, hz2⟩ := info_parts info_edge
 have hmk : ∀ W : World, (Instr.makeSlice 152 (.int .i64 (n : Int)) (.int .i64 (n : Int))).run Tryz.prog W = .ok (.slice (some ⟨W.heap.size, 0, none⟩) n n) (W.alloc (.cells (Array.replicate n (.slice none 0 0)) 100)) := fun W => by
  have := run_make (P := Tryz.prog) W 152 100 i1 _ Tryz.underlying152 hi1 hy0 .i64 .i64 n n (by omega) (Int.le_refl _) (by rw [hy2]; omega) (by omega)
  rw [Int.toNat_natCast, hy1, Nat.mul_one] at this
  rw [← made_nils]
  exact this
 go_enter Tryz.func82, Tryz.ntmps82
 go_wp2_with fail
 have hb0 : Below w.heap.size w (w.alloc (.cells (Array.replicate n (.slice none 0 0)) 100)) := (Below.refl _ w).alloc (Nat.le_refl _) _
 have hO0 := LvO.start (w := w.alloc (.cells (Array.replicate n (.slice none 0 0)) 100)) (base := w.heap.size) (g := w.heap.size) n (heap_alloc_new w _)
 clear hmk
 generalize w.alloc (.cells (Array.replicate n (.slice none 0 0)) 100) = w0 at *
 go_loopw [12] (fun vi wx => ∃ (j : Nat) (vs : List Value), vi = .int .i64 j ∧ j ≤ l.length ∧ LvO wx w.heap.size w.heap.size n (l.take j) vs ∧ Below w.heap.size w wx) (fun vi _ => l.length - (intOf vi).toNat)
 case atStart => exact ⟨0, _, rfl, Nat.zero_le _, hO0, hb0⟩
 case round =>
  obtain ⟨j, vs, rfl, hj, hO, hbx⟩ := hrel
  by_cases hjl : j < l.length
  · have hdj : (j : Int) < (l.length : Int) := by omega
    obtain ⟨e, he⟩ : ∃ e, l[j]? = some e := ⟨_, List.getElem?_eq_getElem hjl⟩
    have hem := List.mem_of_getElem? he
    have hfe : e.1 = ((fr e : Nat) : Int) := by have := hi e hem; unfold fr; omega
    have hfn := hi.fr hem
    have hfi : ((fr e : Nat) : Int) < (n : Int) := by omega
    obtain ⟨b, o, rfl, hb, c0, c1, c2⟩ := rd_edge ((h.below hbx).more hbx.size) he
    rw [hfe] at c0
    obtain ⟨u, hu, hr⟩ := hO.rows (fr e) hfn
    have hub : ∀ b, u.ownBlock = some b → b < wr.heap.size := fun b e' => (hr.lt b e').2
    have hol := outE_le (l.take j) (fr e)
    rw [List.length_take] at hol
    go_upto_region 5 with (fail)
    have hO1 := (hO.alloc (.cells #[.int .i64 ((fr e : Nat) : Int), .int .i64 e.2.1, .bool e.2.2] 151)).drew
    have hr1 := own_drew (hr.alloc (.cells #[.int .i64 ((fr e : Nat) : Int), .int .i64 e.2.1, .bool e.2.2] 151))
    have hbx1 : Below w.heap.size w (World.drew (wr.alloc (.cells #[.int .i64 ((fr e : Nat) : Int), .int .i64 e.2.1, .bool e.2.2] 151))) := (hbx.alloc hbx.size _).drew
    have hx1 : Bk (World.drew (wr.alloc (.cells #[.int .i64 ((fr e : Nat) : Int), .int .i64 e.2.1, .bool e.2.2] 151))) wr.heap.size _ _ := Bk.new wr _ _
    have hws := hbx.size
    refine roL_begin (fun W => W.cell? ⟨wr.heap.size, 0, none⟩ = some (.int .i64 ((fr e : Nat) : Int)) ∧ W.cell? ⟨wr.heap.size, 1, none⟩ = some (.int .i64 e.2.1) ∧ W.cell? ⟨wr.heap.size, 2, none⟩ = some (.bool e.2.2) ∧ W.cell? ⟨w.heap.size, fr e, none⟩ = some u) 12 (by kernel_rfl) ?_
    change wpAnyL _ _ _ _ _ _ _ _ _ (World.drew _)
    clear hO hr c0 c1 c2 hbx
    generalize hdw : World.drew (wr.alloc (.cells #[.int .i64 ((fr e : Nat) : Int), .int .i64 e.2.1, .bool e.2.2] 151)) = wd at *
    have hzd : Hid (wd.heap.size = wr.heap.size + 1) := Lib.hid (by subst hdw; show (wr.alloc _).heap.size = _; simp)
    have HS : wd.cell? ⟨wr.heap.size, 0, none⟩ = some (.int .i64 ((fr e : Nat) : Int)) ∧ wd.cell? ⟨wr.heap.size, 1, none⟩ = some (.int .i64 e.2.1) ∧ wd.cell? ⟨wr.heap.size, 2, none⟩ = some (.bool e.2.2) ∧ wd.cell? ⟨w.heap.size, fr e, none⟩ = some u := ⟨hx1.cell 0, hx1.cell 1, hx1.cell 2, hO1.cell hu⟩
    clear hdw
    refine roL_take 0 (some 16) (v := ?v0r5) rfl rfl (by kernel_rfl) (by decide) (by kernel_rfl) (by kernel_rfl) (by kernel_rfl) (fun _ _ _ h => h) (by rfl) ?y0r5 HS ?r0r5
    case y0r5 => (intro w hS; (try dsimp only at hS); obtain ⟨q0, q1, q2, q3⟩ := hS; go_simp; try with_reducible rfl)
    simp only [Act.put, List.setIfInBounds_toArray, List.set_cons_zero, List.set_cons_succ]
    refine roL_take 1 (some 17) (v := ?v1r5) rfl rfl (by kernel_rfl) (by decide) (by kernel_rfl) (by kernel_rfl) (by kernel_rfl) (fun _ _ _ h => h) (by rfl) ?y1r5 HS ?r1r5
    case y1r5 => (intro w hS; (try dsimp only at hS); obtain ⟨q0, q1, q2, q3⟩ := hS; go_simp; try with_reducible rfl)
    simp only [Act.put, List.setIfInBounds_toArray, List.set_cons_zero, List.set_cons_succ]
    refine roL_take 2 (some 18) (v := ?v2r5) rfl rfl (by kernel_rfl) (by decide) (by kernel_rfl) (by kernel_rfl) (by kernel_rfl) (fun _ _ _ h => h) (by rfl) ?y2r5 HS ?r2r5
    case y2r5 => (intro w hS; (try dsimp only at hS); obtain ⟨q0, q1, q2, q3⟩ := hS; go_simp; try with_reducible rfl)
    simp only [Act.put, List.setIfInBounds_toArray, List.set_cons_zero, List.set_cons_succ]
    refine roL_take 3 (some 19) (v := ?v3r5) rfl rfl (by kernel_rfl) (by decide) (by kernel_rfl) (by kernel_rfl) (by kernel_rfl) (fun _ _ _ h => h) (by rfl) ?y3r5 HS ?r3r5
    case y3r5 => (intro w hS; (try dsimp only at hS); obtain ⟨q0, q1, q2, q3⟩ := hS; go_simp; try with_reducible rfl)
    simp only [Act.put, List.setIfInBounds_toArray, List.set_cons_zero, List.set_cons_succ]
    refine roL_take 4 (some 20) (v := ?v4r5) rfl rfl (by kernel_rfl) (by decide) (by kernel_rfl) (by kernel_rfl) (by kernel_rfl) (fun _ _ _ h => h) (by rfl) ?y4r5 HS ?r4r5
    case y4r5 => (intro w hS; (try dsimp only at hS); obtain ⟨q0, q1, q2, q3⟩ := hS; go_simp; try with_reducible rfl)
    simp only [Act.put, List.setIfInBounds_toArray, List.set_cons_zero, List.set_cons_succ]
    refine roL_take 5 (some 21) (v := ?v5r5) rfl rfl (by kernel_rfl) (by decide) (by kernel_rfl) (by kernel_rfl) (by kernel_rfl) (fun _ _ _ h => h) (by rfl) ?y5r5 HS ?r5r5
    case y5r5 => (intro w hS; (try dsimp only at hS); obtain ⟨q0, q1, q2, q3⟩ := hS; go_simp; try with_reducible rfl)
    simp only [Act.put, List.setIfInBounds_toArray, List.set_cons_zero, List.set_cons_succ]
    refine roL_take 6 (some 22) (v := ?v6r5) rfl rfl (by kernel_rfl) (by decide) (by kernel_rfl) (by kernel_rfl) (by kernel_rfl) (fun _ _ _ h => h) (by rfl) ?y6r5 HS ?r6r5
    case y6r5 => (intro w hS; (try dsimp only at hS); obtain ⟨q0, q1, q2, q3⟩ := hS; go_simp; try with_reducible rfl)
    simp only [Act.put, List.setIfInBounds_toArray, List.set_cons_zero, List.set_cons_succ]
    refine roL_take 7 (some 23) (v := ?v7r5) rfl rfl (by kernel_rfl) (by decide) (by kernel_rfl) (by kernel_rfl) (by kernel_rfl) (fun _ _ _ h => h) (by rfl) ?y7r5 HS ?r7r5
    case y7r5 => (intro w hS; (try dsimp only at hS); obtain ⟨q0, q1, q2, q3⟩ := hS; go_simp; try with_reducible rfl)
    simp only [Act.put, List.setIfInBounds_toArray, List.set_cons_zero, List.set_cons_succ]
    refine roL_take 8 (some 24) (v := ?v8r5) rfl rfl (by kernel_rfl) (by decide) (by kernel_rfl) (by kernel_rfl) (by kernel_rfl) (fun _ _ _ h => h) (by rfl) ?y8r5 HS ?r8r5
    case y8r5 => (intro w hS; (try dsimp only at hS); obtain ⟨q0, q1, q2, q3⟩ := hS; go_simp; try with_reducible rfl)
    simp only [Act.put, List.setIfInBounds_toArray, List.set_cons_zero, List.set_cons_succ]
    refine roL_one 9 rfl (by kernel_rfl) fun K hK' => ?_
    go_simp
    refine hK' _ _ (fun _ => ⟨cell_alloc HS.1 _, cell_alloc HS.2.1 _, cell_alloc HS.2.2.1 _, cell_alloc HS.2.2.2 _⟩) ?_
    clear hK' K
    refine roL_one 10 rfl (by kernel_rfl) fun K hK' => ?_
    rw [if_pos (by rfl)]
    refine op_append_at _ (some 26) rfl (.tmp 23) (.tmp 25) 100 100 rfl w.heap.size 151 i0 (.agg #[.int .i64 0, .int .i64 0, .bool false]) 3 24 Tryz.underlying100 hi0 hz0 hz1 hz2 rfl (by decide) u (outE (l.take j) (fr e)).length (ecells (outE (l.take j) (fr e))) rfl (World.ownsRow.alloc hr1 _) _ 1 [.int .i64 ((fr e : Nat) : Int), .int .i64 e.2.1, .bool e.2.2] rfl (Src.ofSlice _ Tryz.underlying100 _ 1 1 _ rfl (cells_new _ _ _ _ _) (by intro u hu; simp only [List.mem_cons, List.not_mem_nil, or_false] at hu; rcases hu with rfl | rfl | rfl <;> rfl)) (by simp only [maxLen]; omega) (by omega) (size_alloc (by have := hzd.out; omega)) ?_
    intro v9 w8 hown8 hg8 hat8
    rw [← hfe] at hown8
    obtain ⟨hb8, hO8⟩ := hO1.step hu hr1 hg8 hown8 hat8
    have hx8 : Bk w8 wr.heap.size _ _ := (hg8.block wr.heap.size (by have := hzd.out; simp; omega) fun e' => by have := hub _ e'.symm; omega).trans (hx1.alloc _)
    have HS8 : w8.cell? ⟨wr.heap.size, 0, none⟩ = some (.int .i64 ((fr e : Nat) : Int)) ∧ w8.cell? ⟨wr.heap.size, 1, none⟩ = some (.int .i64 e.2.1) ∧ w8.cell? ⟨wr.heap.size, 2, none⟩ = some (.bool e.2.2) ∧ w8.cell? ⟨w.heap.size, fr e, none⟩ = some u := ⟨hx8.cell 0, hx8.cell 1, hx8.cell 2, by rw [hb8.cell]; simpa using hu⟩
    have hbx8 : Below w.heap.size w w8 := below_of_own (hbx1.alloc hbx1.size _) hg8 (World.ownsRow.alloc hr1 _) (by have := hbx1.size; simp; omega) (Nat.le_refl _)
    refine hK' _ _ (fun _ => HS8) ?_
    clear hK' K HS hO1 hr1 hbx1 hx1 hg8 hat8
    simp only [Act.put, List.setIfInBounds_toArray, List.set_cons_zero, List.set_cons_succ]
    refine roL_take 11 (some 27) (v := ?v11r5) rfl rfl (by kernel_rfl) (by decide) (by kernel_rfl) (by kernel_rfl) (by kernel_rfl) (fun _ _ _ h => h) (by rfl) ?y11r5 HS8 ?r11r5
    case y11r5 => (intro w hS; (try dsimp only at hS); obtain ⟨q0, q1, q2, q3⟩ := hS; go_simp; try with_reducible rfl)
    simp only [Act.put, List.setIfInBounds_toArray, List.set_cons_zero, List.set_cons_succ]
    refine roL_one 12 rfl (by kernel_rfl) fun K hK' => ?_
    obtain ⟨A9, c9, rfl, _⟩ := Rd.own hown8
    have fz8 := hb8.fz (fr e)
    have q8 := HS8.2.2.2
    go_simp
    refine hK' _ _ (fun h => absurd rfl h) ?_
    clear hK' K
    refine roL_done (by kernel_rfl) ?_ _
    have hbx9 : Below w.heap.size w (w8.setCell ⟨w.heap.size, fr e, none⟩ (.slice A9 ((outE (l.take j) (fr e)).length + 1) c9)) := hbx8.setCell (Nat.le_refl _) _
    clear hx8 hb8 HS8 hbx8 hown8 fz8 q8
    generalize World.setCell w8 _ _ = w9 at *
    go_wp2_with fail
    have hO9 : LvO w9 w.heap.size w.heap.size n (l.take (j + 1)) (vs.set (fr e) (.slice A9 ((outE (l.take j) (fr e)).length + 1) c9)) := by
     rw [List.take_add_one, he]
     exact hO8
    exact ⟨⟨j + 1, _, by go_num, by omega, hO9, hbx9⟩, by simp [intOf]; omega⟩
  · obtain rfl : j = l.length := by omega
    have hdj : ¬ (((l.length : Nat) : Int) < (l.length : Int)) := by omega
    rw [List.take_length] at hO
    go_wp2_with fail
    go_ret
    exact ⟨rfl, hO.gr hi hn, hbx⟩
end Go.Proofs.YtahegpfdbgbioaaGreat
