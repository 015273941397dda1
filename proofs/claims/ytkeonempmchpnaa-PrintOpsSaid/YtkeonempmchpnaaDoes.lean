/- Layer 8: what an operation does to a line: the map of closures, and each of them. Conditions: none. -/
import Derived.Maps.Own
import Derived.Deep.WholeRow
import Derived.Test.YtkeonempmchpnaaPline
namespace Go.Proofs.Ytkeonempmchpnaa
open Go.RowKit Go.ChangeMaps

def entV (i : Nat) (p : Nat × Value) : MapEntry := ⟨.int .i64 p.1, p.2, i⟩
def entsV (l : List (Nat × Value)) : Array MapEntry := (l.mapIdx entV).toArray
theorem entsV_push (l : List (Nat × Value)) (p : Nat × Value) : entsV (l ++ [p]) = (entsV l).push (entV l.length p) := by
  unfold entsV
  rw [List.mapIdx_append]
  simp
theorem findNow_entsV (z : Int) : ∀ (l : List (Nat × Value)) (i k : Nat), Instr.findNow (.int .i64) (.int .i64 z) (l.mapIdx fun j p => entV (j + k) p) i = some ((l.zipIdx i).find? (fun q => decide ((q.1.1 : Int) = z)) |>.map fun q => (q.2, q.1.2))
  | [], _, _ => rfl
  | p :: r, i, k => by
    rw [List.mapIdx_cons]
    show Instr.findNow (.int .i64) (.int .i64 z) (entV (0 + k) p :: _) i = _
    have ih := findNow_entsV z r (i + 1) (k + 1)
    unfold Instr.findNow
    rw [List.zipIdx_cons, List.find?_cons]
    by_cases h : (p.1 : Int) = z
    · have : Instr.sameNow (.int .i64) (.int .i64 z) (entV (0 + k) p).key = some true := by simp [Instr.sameNow, entV, h]
      rw [this]
      simp [h, entV]
    · have h' : ¬ z = (p.1 : Int) := fun e => h e.symm
      have : Instr.sameNow (.int .i64) (.int .i64 z) (entV (0 + k) p).key = some false := by simp [Instr.sameNow, entV, h']
      rw [this]
      simp only [h, decide_false]
      rw [← ih]
      congr 2
      funext j q
      rw [show j + 1 + k = j + (k + 1) by omega]
theorem find_entsV (z : Int) (l : List (Nat × Value)) : Instr.findNow (.int .i64) (.int .i64 z) (entsV l).toList 0 = some ((l.zipIdx 0).find? (fun q => decide ((q.1.1 : Int) = z)) |>.map fun q => (q.2, q.1.2)) := by
  have := findNow_entsV z l 0 0
  simpa [entsV] using this
theorem check_int (b : Bool) (z : Int) (W : World) : (Instr.checkKey b 10000 3 (.int .i64 z)).run Try.prog W = .ok () W := by
  unfold Instr.checkKey
  simp [run_underlying Try.underlying3]
/-- The function of a closure. -/
def fnV (f : Nat) (caps : Array Value) : Value := .func (.func f) #[] caps
theorem run_updV (W : World) {b clk : Nat} {l : List (Nat × Value)} (hb : W.heap[b]? = some (.map (entsV l) clk)) (hc : clk = l.length) (z f : Nat) (caps : Array Value) (hf : (l.zipIdx 0).find? (fun q => decide ((q.1.1 : Int) = (z : Int))) = none) :
    (Instr.mapUpdate 85 (.map (some b)) (.int .i64 z) (fnV f caps)).run Try.prog W = .ok () (setBlock W b (.map (entsV (l ++ [(z, fnV f caps)])) (l ++ [(z, fnV f caps)]).length)) := by
  subst hc
  rw [entsV_push]
  have h1 := find_entsV z l
  rw [hf] at h1
  simp [Instr.mapUpdate, Instr.findKey, run_underlying Try.underlying85, run_underlying Try.underlying3, MapKept.run_getObj_map hb, check_int, h1, MapKept.run_setObj_map _ hb, Result.andThen, setBlock, entV]
/-- All but one block is as it was. -/
structure Kb8 (b : Nat) (w w' : World) : Prop where
  os : w'.os = w.os
  tape : w'.tape = w.tape
  output : w'.output = w.output
  size : w'.heap.size = w.heap.size
  block : ∀ k, k ≠ b → w'.heap[k]? = w.heap[k]?
theorem Kb8.below {b B : Nat} {w0 w w' : World} (h : Kb8 b w w') (hb : Below B w0 w) (hB : B ≤ b) : Below B w0 w' :=
  hb.trans ⟨h.os, h.tape, h.output, by rw [h.size]; exact Nat.le_refl _, fun k hk => h.block k (by omega)⟩
theorem updV_ex (W : World) {b clk : Nat} {l : List (Nat × Value)} (hb : W.heap[b]? = some (.map (entsV l) clk)) (hc : clk = l.length) (z : Int) (c f : Nat) (caps : Array Value) (hz : z = (c : Int)) (hf : (l.zipIdx 0).find? (fun q => decide ((q.1.1 : Int) = (c : Int))) = none) :
    ∃ W', (Instr.mapUpdate 85 (.map (some b)) (.int .i64 z) (.func (.func f) #[] caps)).run Try.prog W = .ok () W' ∧ W'.heap[b]? = some (.map (entsV (l ++ [(c, fnV f caps)])) (l ++ [(c, fnV f caps)]).length) ∧ Kb8 b W W' := by
  subst hz
  have hlt : b < W.heap.size := (Array.getElem?_eq_some_iff.1 hb).1
  refine ⟨_, run_updV W hb hc c f caps hf, ?_, ⟨rfl, rfl, rfl, by simp [setBlock], fun k hk => by simp only [setBlock]; rw [Array.getElem?_setIfInBounds, if_neg (by omega)]⟩⟩
  simp [setBlock, hlt]
/-- What the map holds. -/
def actL (bx t4 t5 t6 : Nat) : List (Nat × Value) := [(1, fnV 50 #[.pointer (some ⟨bx, 0, none⟩)]), (2, fnV 52 #[.pointer (some ⟨bx, 0, none⟩)]), (3, fnV 53 #[.pointer (some ⟨bx, 0, none⟩)]),
  (4, fnV 48 #[.pointer (some ⟨bx, 0, none⟩), .pointer (some ⟨t4, 0, none⟩)]), (5, fnV 48 #[.pointer (some ⟨bx, 0, none⟩), .pointer (some ⟨t5, 0, none⟩)]), (6, fnV 48 #[.pointer (some ⟨bx, 0, none⟩), .pointer (some ⟨t6, 0, none⟩)])]
/-- The map, and what its closures hold, below the block B. -/
structure Mp (B g m : Nat) (w : World) (bx t4 t5 t6 : Nat) : Prop where
  map : w.heap[m]? = some (.map (entsV (actL bx t4 t5 t6)) 6)
  box : Bk w bx #[.pointer (some ⟨g, 0, none⟩)] 81
  s4 : Bk w t4 #[.string (sgnS 4)] 9
  s5 : Bk w t5 #[.string (sgnS 5)] 9
  s6 : Bk w t6 #[.string (sgnS 6)] 9
  lt : m < B ∧ bx < B ∧ t4 < B ∧ t5 < B ∧ t6 < B
  ne : m ≠ g ∧ bx ≠ g ∧ t4 ≠ g ∧ t5 ≠ g ∧ t6 ≠ g
theorem Mp.kp {B g m bx t4 t5 t6 : Nat} {w w' : World} (h : Mp B g m w bx t4 t5 t6) (hk : Kp g B w w') : Mp B g m w' bx t4 t5 t6 :=
  have b := hk.block
  ⟨(b _ h.lt.1 h.ne.1).trans h.map, (b _ h.lt.2.1 h.ne.2.1).trans h.box, (b _ h.lt.2.2.1 h.ne.2.2.1).trans h.s4, (b _ h.lt.2.2.2.1 h.ne.2.2.2.1).trans h.s5, (b _ h.lt.2.2.2.2 h.ne.2.2.2.2).trans h.s6, h.lt, h.ne⟩
section
variable {W : World} {B g m bx t4 t5 t6 : Nat} (hb : Mp B g m W bx t4 t5 t6)
include hb
theorem look_some (k i : Nat) (f : Nat) (caps : Array Value) (hf : ((actL bx t4 t5 t6).zipIdx 0).find? (fun q => decide ((q.1.1 : Int) = (k : Int))) = some ((k, fnV f caps), i)) :
    (Instr.lookup 85 (.map (some m)) (.int .i64 (k : Int)) true).run Try.prog W = .ok (.tuple #[.func (.func f) #[] caps, .bool true]) W := by
  have h := find_entsV (k : Int) (actL bx t4 t5 t6)
  rw [hf] at h
  simp [Instr.lookup, Instr.findKey, run_underlying Try.underlying85, run_underlying Try.underlying3, MapKept.run_getObj_map hb.map, check_int, h, Result.andThen, fnV]
theorem look_no {k : Nat} (h : ¬ (1 ≤ k ∧ k ≤ 6)) : (Instr.lookup 85 (.map (some m)) (.int .i64 (k : Int)) true).run Try.prog W = .ok (.tuple #[.nilFunc, .bool false]) W := by
  have hz : ∀ W, (zeroValue 87).run Try.prog W = .ok .nilFunc W := (zero_of_info (P := Try.prog) (t := 87) (v := .nilFunc) (n := 1) (by kernel_rfl)).1
  have hn : ((actL bx t4 t5 t6).zipIdx 0).find? (fun q => decide ((q.1.1 : Int) = (k : Int))) = none := by
    rw [List.find?_eq_none]
    intro q hq
    simp only [actL, List.zipIdx_cons, List.zipIdx_nil, List.mem_cons, List.not_mem_nil, or_false] at hq
    simp only [decide_eq_true_eq]
    intro e
    rcases hq with rfl | rfl | rfl | rfl | rfl | rfl <;> (dsimp only at e; omega)
  have h4 := find_entsV (k : Int) (actL bx t4 t5 t6)
  rw [hn] at h4
  simp [Instr.lookup, Instr.findKey, run_underlying Try.underlying85, run_underlying Try.underlying3, MapKept.run_getObj_map hb.map, check_int, h4, hz, Result.andThen]
end

set_option maxRecDepth 100000 in
set_option maxHeartbeats 2000000 in
theorem does_any (w : World) (g : Nat) (hg : g < w.heap.size) :
    Calls Try.prog 29 #[.pointer (some ⟨g, 0, none⟩)] w fun e w' => (∃ m bx t4 t5 t6, e = .returned (.map (some m)) ∧ Mp w'.heap.size g m w' bx t4 t5 t6) ∧ Below w.heap.size w w' := by
  have hmm := @run_makeMap Try.prog
  have hbx := Bk.new w #[.pointer (some ⟨g, 0, none⟩)] 81
  have hB0 : Below w.heap.size w (w.alloc (.cells #[.pointer (some ⟨g, 0, none⟩)] 81)) := (Below.refl _ w).alloc (Nat.le_refl _) _
  have h0 : ((w.alloc (.cells #[.pointer (some ⟨g, 0, none⟩)] 81)).alloc (.map #[] 0)).heap[w.heap.size + 1]? = some (.map (entsV []) 0) := by
    have := heap_alloc_new (w.alloc (.cells #[.pointer (some ⟨g, 0, none⟩)] 81)) (.map #[] 0)
    rw [show (w.alloc (.cells #[.pointer (some ⟨g, 0, none⟩)] 81)).heap.size = w.heap.size + 1 by simp] at this
    exact this
  have hb0 : Below (w.heap.size + 1) (w.alloc (.cells #[.pointer (some ⟨g, 0, none⟩)] 81)) ((w.alloc (.cells #[.pointer (some ⟨g, 0, none⟩)] 81)).alloc (.map #[] 0)) := (Below.refl _ _).alloc (by simp) _
  have hs0 : ((w.alloc (.cells #[.pointer (some ⟨g, 0, none⟩)] 81)).alloc (.map #[] 0)).heap.size = w.heap.size + 2 := by simp
  obtain ⟨W1, hu1, h1, k1⟩ := updV_ex ((w.alloc (.cells #[.pointer (some ⟨g, 0, none⟩)] 81)).alloc (.map #[] 0)) h0 rfl 1 1 50 #[.pointer (some ⟨w.heap.size, 0, none⟩)] rfl rfl
  have hb1 := k1.below hb0 (Nat.le_refl _)
  have hs1 : W1.heap.size = w.heap.size + 2 := by rw [k1.size]; exact hs0
  obtain ⟨W2, hu2, h2, k2⟩ := updV_ex W1 h1 rfl 2 2 52 #[.pointer (some ⟨w.heap.size, 0, none⟩)] rfl rfl
  have hb2 := k2.below hb1 (Nat.le_refl _)
  have hs2 : W2.heap.size = w.heap.size + 2 := by rw [k2.size]; exact hs1
  obtain ⟨W3, hu3, h3, k3⟩ := updV_ex W2 h2 rfl 3 3 53 #[.pointer (some ⟨w.heap.size, 0, none⟩)] rfl rfl
  have hb3 := k3.below hb2 (Nat.le_refl _)
  have hs3 : W3.heap.size = w.heap.size + 2 := by rw [k3.size]; exact hs2
  have g4 : (W3.alloc (.cells #[.string ⟨#[32, 124, 32]⟩] 9)).heap[w.heap.size + 1]? = _ := (heap_alloc_old W3 _ (by omega)).trans h3
  obtain ⟨W4, hu4, h4, k4⟩ := updV_ex (W3.alloc (.cells #[.string ⟨#[32, 124, 32]⟩] 9)) g4 rfl 4 4 48 #[.pointer (some ⟨w.heap.size, 0, none⟩), .pointer (some ⟨W3.heap.size, 0, none⟩)] rfl rfl
  have hb4 := k4.below (hb3.alloc (by omega) (.cells #[.string ⟨#[32, 124, 32]⟩] 9)) (Nat.le_refl _)
  have hs4 : W4.heap.size = w.heap.size + 3 := by rw [k4.size]; simp; omega
  have hv4 := Bk.new W3 #[.string ⟨#[32, 124, 32]⟩] 9
  have g5 : (W4.alloc (.cells #[.string ⟨#[32, 38, 32]⟩] 9)).heap[w.heap.size + 1]? = _ := (heap_alloc_old W4 _ (by omega)).trans h4
  obtain ⟨W5, hu5, h5, k5⟩ := updV_ex (W4.alloc (.cells #[.string ⟨#[32, 38, 32]⟩] 9)) g5 rfl 5 5 48 #[.pointer (some ⟨w.heap.size, 0, none⟩), .pointer (some ⟨W4.heap.size, 0, none⟩)] rfl rfl
  have hb5 := k5.below (hb4.alloc (by omega) (.cells #[.string ⟨#[32, 38, 32]⟩] 9)) (Nat.le_refl _)
  have hs5 : W5.heap.size = w.heap.size + 4 := by rw [k5.size]; simp; omega
  have hv5 := Bk.new W4 #[.string ⟨#[32, 38, 32]⟩] 9
  have g6 : (W5.alloc (.cells #[.string ⟨#[32, 45, 32]⟩] 9)).heap[w.heap.size + 1]? = _ := (heap_alloc_old W5 _ (by omega)).trans h5
  obtain ⟨W6, hu6, h6, k6⟩ := updV_ex (W5.alloc (.cells #[.string ⟨#[32, 45, 32]⟩] 9)) g6 rfl 6 6 48 #[.pointer (some ⟨w.heap.size, 0, none⟩), .pointer (some ⟨W5.heap.size, 0, none⟩)] rfl rfl
  have hb6 := k6.below (hb5.alloc (by omega) (.cells #[.string ⟨#[32, 45, 32]⟩] 9)) (Nat.le_refl _)
  have hs6 : W6.heap.size = w.heap.size + 5 := by rw [k6.size]; simp; omega
  have hv6 := Bk.new W5 #[.string ⟨#[32, 45, 32]⟩] 9
  have q4 : Bk W4 W3.heap.size #[.string ⟨#[32, 124, 32]⟩] 9 := (k4.block _ (by omega)).trans hv4
  have q42 : Bk (W4.alloc (.cells #[.string ⟨#[32, 38, 32]⟩] 9)) W3.heap.size #[.string ⟨#[32, 124, 32]⟩] 9 := q4.alloc _
  have q43 : Bk W5 W3.heap.size #[.string ⟨#[32, 124, 32]⟩] 9 := (k5.block _ (by omega)).trans q42
  have q44 : Bk W6 W3.heap.size #[.string ⟨#[32, 124, 32]⟩] 9 := (k6.block _ (by omega)).trans (q43.alloc _)
  have q5 : Bk W5 W4.heap.size #[.string ⟨#[32, 38, 32]⟩] 9 := (k5.block _ (by omega)).trans hv5
  have q54 : Bk W6 W4.heap.size #[.string ⟨#[32, 38, 32]⟩] 9 := (k6.block _ (by omega)).trans (q5.alloc _)
  have q6 : Bk W6 W5.heap.size #[.string ⟨#[32, 45, 32]⟩] 9 := (k6.block _ (by omega)).trans hv6
  have qb : Bk W6 w.heap.size #[.pointer (some ⟨g, 0, none⟩)] 81 := (hb6.block _ (by omega)).trans hbx
  have HM : Hid (Mp W6.heap.size g (w.heap.size + 1) W6 w.heap.size W3.heap.size W4.heap.size W5.heap.size) := Lib.hid ⟨h6, qb, q44, q54, q6, by omega, by omega⟩
  have HB : Hid (Below w.heap.size w W6) := Lib.hid (hB0.trans (hb6.mono (Nat.le_succ _)))
  clear h0 hb0 hs0 h1 h2 h3 h4 h5 h6 k1 k2 k3 k4 k5 k6 hb1 hb2 hb3 hb4 hb5 hb6 g4 g5 g6 hv4 hv5 hv6 q4 q42 q43 q44 q5 q54 q6 qb hbx hB0 hs1 hs2 hs3 hs4 hs5 hs6
  go_enter Try.func29, Try.ntmps29
  go_wp2
  go_returns
  exact ⟨⟨_, _, _, _, _, rfl, HM.out⟩, HB.out⟩
end Go.Proofs.Ytkeonempmchpnaa
