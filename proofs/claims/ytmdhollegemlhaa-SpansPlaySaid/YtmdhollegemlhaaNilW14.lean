/- Layer 14: of nil. Conditions: none. -/
import Derived.Test.YtmdhollegemlhaaSpkW14
namespace Go.Proofs.Ytmdhollegemlhaa
open Go.RowKit Go.Shelf
attribute [local go_sem] Oper.semAt_some

theorem put_nil (k : ByteArray) (r : Int) (w : World) : Calls Try.prog 11 #[.pointer none, .string k, .int .i64 r] w fun e w' => e = .returned (.bool false) ∧ w' = w := by
  go_enter Try.func11, Try.ntmps11
  go_wp2
  go_ret
  exact ⟨rfl, rfl⟩
theorem drop_nil (k : ByteArray) (r : Int) (w : World) : Calls Try.prog 13 #[.pointer none, .string k, .int .i64 r] w fun e w' => e = .returned (.bool false) ∧ w' = w := by
  go_enter Try.func13, Try.ntmps13
  go_wp2
  go_ret
  exact ⟨rfl, rfl⟩
theorem has_nil (k : ByteArray) (r : Int) (w : World) : Calls Try.prog 19 #[.pointer none, .string k, .int .i64 r] w fun e w' => e = .returned (.bool false) ∧ Below w.heap.size w w' := by
  have hb := bnew w (.cells #[.int .i64 r] 3)
  go_enter Try.func19, Try.ntmps19
  go_wp2
  go_ret
  exact ⟨rfl, hb⟩
theorem trim_nil (r : Int) (w : World) : Calls Try.prog 15 #[.pointer none, .int .i64 r] w fun e w' => e = .returned (.int .i64 0) ∧ Below w.heap.size w w' := by
  have hb := bnew w (.cells #[.int .i64 r] 3)
  go_enter Try.func15, Try.ntmps15
  go_wp2
  go_ret
  exact ⟨rfl, hb⟩
theorem all_nil (n : Nat) {w : World} {Bs : Nat} (hBs : w.cell? ⟨Bs, 0, none⟩ = some (.pointer none)) :
    SeqStopsK Fence.wide n Try.prog 37 #[.pointer (some ⟨Bs, 0, none⟩)] spEnc KeepsWalks (fun ys => ys = []) (fun _ => True) 0 w := fun l J Jx W hW hJ _ hY h0 => by
  have c0 := (hW.cell (p := ⟨Bs, 0, none⟩) (World.block_lt_of_cell? w _ hBs)).trans hBs
  clear hJ hY
  refine callsIn_of_wp Try.func37 rfl trivial ?_ rfl
  simp only [Try.ntmps37, List.size_toArray, List.length_cons, List.length_nil, Nat.reduceAdd, Nat.reduceSub, Array.replicate_succ, Array.replicate_zero, List.push_toArray, List.append_toArray, List.nil_append, List.cons_append]
  gi_wp2
  refine bodyPost_ret (results_none rfl _ _ _) rfl ?_
  exact ⟨⟨_, rfl⟩, .inl ⟨[], rfl, h0⟩⟩

/-- What is asked of a range over nothing: what lay in cells lies there still. -/
structure NiI (w w3 : World) (W : World) : Prop where
  below : Below w.heap.size w W
  cells : ∀ b cs t, Rk w3 b cs t → Rk W b cs t
theorem NiI.stay {w w3 X Y : World} {row : Option Nat} (h : NiI w w3 X) (hg : X.grownBy Y row) (hr : ∀ j, row = some j → w.heap.size ≤ j ∧ ∃ o : Obj, X.heap[j]? = some o ∧ o.isCells = false) : NiI w w3 Y :=
  ⟨h.below.grown hg h.below.size fun j e => (hr j e).1, fun b cs t hb => (h.cells b cs t hb).stay hg fun j e => (hr j e).2⟩

set_option maxRecDepth 100000 in
set_option maxHeartbeats 2000000 in
theorem count_nilI (m : Nat) (hm : 6 ≤ m) (r : Int) (w : World) :
    CallsIn Fence.wide m Try.prog 21 #[.pointer none, .int .i64 r] w fun e w' => e = .returned (.int .i64 0) ∧ Below w.heap.size w w' := by
  have ka := fun W => all_any none W
  refine callsIn_of_wp_marks Try.func21 rfl trivial ?_ rfl
  simp only [Try.ntmps21, List.size_toArray, List.length_cons, List.length_nil, Nat.reduceAdd, Nat.reduceSub, Array.replicate_succ, Array.replicate_zero, List.push_toArray, List.append_toArray, List.nil_append, List.cons_append]
  have b0 := bnew w (.cells #[.int .i64 r] 3)
  have b1 := b0.alloc b0.size (.cells #[.int .i64 0] 3)
  have y1 := Rk.new (w.alloc (.cells #[.int .i64 r] 3)) #[.int .i64 0] 3
  simp only [World.size_alloc] at y1
  gi_wp2_with (refine ⟨trivial, fun e => (by cases e), ?_⟩; (with_reducible refine (callsIn_wide.2 (ka _)).mono ?_); rintro e w2 ⟨rfl, hw2⟩)
  clear hw2 ka
  have b3 := b1.alloc b1.size (.cells #[.pointer none] 26)
  have y3 := y1.alloc (.cells #[.pointer none] 26)
  have z3 := Rk.new ((w.alloc (.cells #[.int .i64 r] 3)).alloc (.cells #[.int .i64 0] 3)) #[.pointer none] 26
  simp only [World.size_alloc] at z3
  generalize ((w.alloc (.cells #[.int .i64 r] 3)).alloc (.cells #[.int .i64 0] 3)).alloc (.cells #[.pointer none] 26) = w3 at *
  clear b0 b1 y1
  have hsz := b3.size
  refine wpIn_rangeFunc_ownH (w0 := w3) rfl (by omega) (gf := 37) (lb := #[.pointer (some ⟨w.heap.size + 1 + 1, 0, none⟩)]) rfl trivial (enters_of Try.func37 (by kernel_rfl) rfl)
    (all_nil (m - 1) z3.one) (fun h k => h.trans k) (fun W l o o' _ h2 _ h4 => KeepsWalks.putObj o' h2 h4) (Below.refl _ _) (fun _ => rfl)
    (fun _ W => NiI w w3 W) (fun _ _ _ => False) (fun pre X Y row hI hg hr => hI.stay hg fun j e => ⟨by have := (hr j e).1; omega, (hr j e).2⟩) (fun _ _ _ _ _ hs _ _ => hs)
    ⟨b3, fun _ _ _ h => h⟩ (fun _ _ _ => True) (fun _ _ _ _ _ _ _ _ _ => trivial) ?assign ?body ?done ?stop
  case assign =>
    intro l2 pre x W K hI hK2
    obtain ⟨k, x1, x2⟩ := x
    simp only [spEnc] at *
    gi_wp2
    exact hK2 _ _ ((KeepsOthers.alloc _ _).from _) (KeepsWalks.alloc _ _) (hI.stay (grown_new _ _) fun j e => by cases e) trivial
  case body =>
    intro l2 pre x a' W _ _ _ _ hlt
    exact absurd hlt (Nat.not_lt_zero _)
  case done =>
    rintro D ys W hD _ hI hK3
    have cn := (hI.cells _ _ _ y3).one
    have hI2 := hI.stay (grownBy_putObj' W D (.deferred none)) (fun r e => by cases e; exact ⟨by omega, _, hK3, rfl⟩)
    gi_wp2
    refine ⟨by simp, .inl ⟨_, _, rfl, run_takeDeferred hK3, ?_⟩⟩
    exact ⟨_, results_tmp rfl _ _ _, rfl, hI2.below⟩
  case stop =>
    rintro D c pre W _ _ h _
    exact h.elim
set_option maxRecDepth 100000 in
set_option maxHeartbeats 2000000 in
theorem next_nilI (m : Nat) (hm : 6 ≤ m) (r : Int) (lo hi : ByteArray) (w : World) :
    CallsIn Fence.wide m Try.prog 17 #[.pointer none, .int .i64 r, .string lo, .string hi] w fun e w' => e = .returned (.tuple #[.string ⟨#[]⟩, .bool false]) ∧ Below w.heap.size w w' := by
  have ka := fun W => all_any none W
  refine callsIn_of_wp_marks Try.func17 rfl trivial ?_ rfl
  simp only [Try.ntmps17, List.size_toArray, List.length_cons, List.length_nil, Nat.reduceAdd, Nat.reduceSub, Array.replicate_succ, Array.replicate_zero, List.push_toArray, List.append_toArray, List.nil_append, List.cons_append]
  gi_wp2_with (refine ⟨trivial, fun e => (by cases e), ?_⟩; (with_reducible refine (callsIn_wide.2 (ka _)).mono ?_); rintro e w2 ⟨rfl, hw2⟩)
  clear hw2 ka
  have b0 := Below.refl w.heap.size w
  have b1 := b0.alloc b0.size (.cells #[.int .i64 r] 3)
  have b2 := b1.alloc b1.size (.cells #[.string lo] 9)
  have b3 := b2.alloc b2.size (.cells #[.string hi] 9)
  have b4 := b3.alloc b3.size (.cells #[.string ⟨#[]⟩] 9)
  have y3 := Rk.new (((w.alloc (.cells #[.int .i64 r] 3)).alloc (.cells #[.string lo] 9)).alloc (.cells #[.string hi] 9)) #[.string ⟨#[]⟩] 9
  have y3 := y3.alloc (.cells #[.bool false] 4)
  have b5 := b4.alloc b4.size (.cells #[.bool false] 4)
  have y4 := Rk.new ((((w.alloc (.cells #[.int .i64 r] 3)).alloc (.cells #[.string lo] 9)).alloc (.cells #[.string hi] 9)).alloc (.cells #[.string ⟨#[]⟩] 9)) #[.bool false] 4
  have y3 := y3.alloc (.cells #[.pointer none] 26)
  have y4 := y4.alloc (.cells #[.pointer none] 26)
  have b6 := b5.alloc b5.size (.cells #[.pointer none] 26)
  have y5 := Rk.new (((((w.alloc (.cells #[.int .i64 r] 3)).alloc (.cells #[.string lo] 9)).alloc (.cells #[.string hi] 9)).alloc (.cells #[.string ⟨#[]⟩] 9)).alloc (.cells #[.bool false] 4)) #[.pointer none] 26
  simp only [World.size_alloc] at y3 y4 y5
  have z3 := y5
  have b3 := b6
  generalize ((((((w.alloc (.cells #[.int .i64 r] 3)).alloc (.cells #[.string lo] 9)).alloc (.cells #[.string hi] 9)).alloc (.cells #[.string ⟨#[]⟩] 9)).alloc (.cells #[.bool false] 4)).alloc (.cells #[.pointer none] 26)) = w3 at *
  have hsz := b3.size
  refine wpIn_rangeFunc_ownH (w0 := w3) rfl (by omega) (gf := 37) (lb := #[.pointer (some ⟨w.heap.size + 1 + 1 + 1 + 1 + 1, 0, none⟩)]) rfl trivial (enters_of Try.func37 (by kernel_rfl) rfl)
    (all_nil (m - 1) z3.one) (fun h k => h.trans k) (fun W l o o' _ h2 _ h4 => KeepsWalks.putObj o' h2 h4) (Below.refl _ _) (fun _ => rfl)
    (fun _ W => NiI w w3 W) (fun _ _ _ => False) (fun pre X Y row hI hg hr => hI.stay hg fun j e => ⟨by have := (hr j e).1; omega, (hr j e).2⟩) (fun _ _ _ _ _ hs _ _ => hs)
    ⟨b3, fun _ _ _ h => h⟩ (fun _ _ _ => True) (fun _ _ _ _ _ _ _ _ _ => trivial) ?assign ?body ?done ?stop
  case assign =>
    intro l2 pre x W K hI hK2
    obtain ⟨k, x1, x2⟩ := x
    simp only [spEnc] at *
    gi_wp2
    exact hK2 _ _ ((KeepsOthers.alloc _ _).from _) (KeepsWalks.alloc _ _) (hI.stay (grown_new _ _) fun j e => by cases e) trivial
  case body =>
    intro l2 pre x a' W _ _ _ _ hlt
    exact absurd hlt (Nat.not_lt_zero _)
  case done =>
    rintro D ys W hD _ hI hK3
    have cn := (hI.cells _ _ _ y3).one
    have cm := (hI.cells _ _ _ y4).one
    have hI2 := hI.stay (grownBy_putObj' W D (.deferred none)) (fun r e => by cases e; exact ⟨by omega, _, hK3, rfl⟩)
    gi_wp2
    gi_quiet_th (fail)
    gi_wp2
    have hK4 : (W.drewN nq).heap[D]? = some (.deferred (some [])) := hK3
    refine ⟨by simp, .inl ⟨_, _, rfl, run_takeDeferred hK4, ?_⟩⟩
    refine ⟨_, results_tmp2 rfl _ _ _, rfl, ?_⟩
    have hb := hI2.below
    exact ⟨hb.os, hb.tape, hb.output, hb.size, hb.block⟩
  case stop =>
    rintro D c pre W _ _ h _
    exact h.elim
set_option maxRecDepth 100000 in
set_option maxHeartbeats 2000000 in
theorem events_nilI (m : Nat) (hm : 6 ≤ m) (a b : Int) (w : World) :
    CallsIn Fence.wide m Try.prog 23 #[.pointer none, .int .i64 a, .int .i64 b] w fun e w' => e = .returned (.slice none 0 0) ∧ Below w.heap.size w w' := by
  have ka := fun W => all_any none W
  refine callsIn_of_wp_marks Try.func23 rfl trivial ?_ rfl
  simp only [Try.ntmps23, List.size_toArray, List.length_cons, List.length_nil, Nat.reduceAdd, Nat.reduceSub, Array.replicate_succ, Array.replicate_zero, List.push_toArray, List.append_toArray, List.nil_append, List.cons_append]
  gi_wp2_with (refine ⟨trivial, fun e => (by cases e), ?_⟩; (with_reducible refine (callsIn_wide.2 (ka _)).mono ?_); rintro e w2 ⟨rfl, hw2⟩)
  clear hw2 ka
  have b0 := Below.refl w.heap.size w
  have b1 := b0.alloc b0.size (.cells #[.int .i64 a] 3)
  have b2 := b1.alloc b1.size (.cells #[.int .i64 b] 3)
  have b3 := b2.alloc b2.size (.cells #[.slice none 0 0] 44)
  have y2 := Rk.new ((w.alloc (.cells #[.int .i64 a] 3)).alloc (.cells #[.int .i64 b] 3)) #[.slice none 0 0] 44
  have y2 := y2.alloc (.cells #[.pointer none] 26)
  have b4 := b3.alloc b3.size (.cells #[.pointer none] 26)
  have y3 := Rk.new (((w.alloc (.cells #[.int .i64 a] 3)).alloc (.cells #[.int .i64 b] 3)).alloc (.cells #[.slice none 0 0] 44)) #[.pointer none] 26
  simp only [World.size_alloc] at y2 y3
  have z3 := y3
  have b3 := b4
  generalize ((((w.alloc (.cells #[.int .i64 a] 3)).alloc (.cells #[.int .i64 b] 3)).alloc (.cells #[.slice none 0 0] 44)).alloc (.cells #[.pointer none] 26)) = w3 at *
  have hsz := b3.size
  refine wpIn_rangeFunc_ownH (w0 := w3) rfl (by omega) (gf := 37) (lb := #[.pointer (some ⟨w.heap.size + 1 + 1 + 1, 0, none⟩)]) rfl trivial (enters_of Try.func37 (by kernel_rfl) rfl)
    (all_nil (m - 1) z3.one) (fun h k => h.trans k) (fun W l o o' _ h2 _ h4 => KeepsWalks.putObj o' h2 h4) (Below.refl _ _) (fun _ => rfl)
    (fun _ W => NiI w w3 W) (fun _ _ _ => False) (fun pre X Y row hI hg hr => hI.stay hg fun j e => ⟨by have := (hr j e).1; omega, (hr j e).2⟩) (fun _ _ _ _ _ hs _ _ => hs)
    ⟨b3, fun _ _ _ h => h⟩ (fun _ _ _ => True) (fun _ _ _ _ _ _ _ _ _ => trivial) ?assign ?body ?done ?stop
  case assign =>
    intro l2 pre x W K hI hK2
    obtain ⟨k, x1, x2⟩ := x
    simp only [spEnc] at *
    gi_wp2
    exact hK2 _ _ ((KeepsOthers.alloc _ _).from _) (KeepsWalks.alloc _ _) (hI.stay (grown_new _ _) fun j e => by cases e) trivial
  case body =>
    intro l2 pre x a' W _ _ _ _ hlt
    exact absurd hlt (Nat.not_lt_zero _)
  case done =>
    rintro D ys W hD _ hI hK3
    have cn := (hI.cells _ _ _ y2).one
    have hI2 := hI.stay (grownBy_putObj' W D (.deferred none)) (fun r e => by cases e; exact ⟨by omega, _, hK3, rfl⟩)
    have ks := fun W' => sort_none14 none 0 (.func (.func 35) #[] #[]) W'
    gi_wp2_with (refine ⟨trivial, fun e => (by cases e), ?_⟩; (with_reducible refine (callsIn_wide.2 (ks _)).mono ?_); rintro e w4 ⟨rfl, rfl⟩)
    refine ⟨by simp, .inl ⟨_, _, rfl, run_takeDeferred hK3, ?_⟩⟩
    refine ⟨_, results_tmp rfl _ _ _, rfl, hI2.below⟩
  case stop =>
    rintro D c pre W _ _ h _
    exact h.elim
theorem count_nil (r : Int) (w : World) : Calls Try.prog 21 #[.pointer none, .int .i64 r] w fun e w' => e = .returned (.int .i64 0) ∧ Below w.heap.size w w' := callsIn_wide.1 (count_nilI 6 (Nat.le_refl _) r w)
theorem next_nil (r : Int) (lo hi : ByteArray) (w : World) : Calls Try.prog 17 #[.pointer none, .int .i64 r, .string lo, .string hi] w fun e w' => e = .returned (.tuple #[.string ⟨#[]⟩, .bool false]) ∧ Below w.heap.size w w' := callsIn_wide.1 (next_nilI 6 (Nat.le_refl _) r lo hi w)
theorem events_nil (a b : Int) (w : World) : Calls Try.prog 23 #[.pointer none, .int .i64 a, .int .i64 b] w fun e w' => e = .returned (.slice none 0 0) ∧ Below w.heap.size w w' := callsIn_wide.1 (events_nilI 6 (Nat.le_refl _) a b w)
end Go.Proofs.Ytmdhollegemlhaa
