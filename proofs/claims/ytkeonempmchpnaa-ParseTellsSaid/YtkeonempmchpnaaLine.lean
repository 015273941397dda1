/- Layer 8: a line that is being written, in memory: its pieces and its parts. Conditions: none. -/
import Derived.BigQuiet
import Derived.Deep.QuietTactic
import Derived.Test.YtkeonempmchpnaaTree
import Derived.Test.YtkeonempmchpnaaRegion7
import Derived.Test.YtkeonempmchpnaaParts
import Derived.Test.YtkeonempmchpnaaTyp
namespace Go.Proofs.Ytkeonempmchpnaa
open Go.RowKit

def partC : Nat → List Gp → List Value
  | _, [] => []
  | p, x :: r => [.int .i64 (p : Nat), .bool x.2] ++ partC (p + 1 + x.1.length) r
theorem partC_len : ∀ (p : Nat) (gs : List Gp), (partC p gs).length = gs.length * 2
  | _, [] => rfl
  | p, x :: r => by
    show (partC (p + 1 + x.1.length) r).length + 2 = _
    rw [partC_len, List.length_cons]
    omega
theorem flat_len : ∀ gs : List Gp, (flatG gs).length = (gs.map fun x => 1 + x.1.length).sum
  | [] => rfl
  | x :: r => by
    show ((⟨#[]⟩ :: x.1) ++ flatG r).length = _
    rw [List.length_append, List.length_cons, flat_len r, List.map_cons, List.sum_cons]
    omega
theorem flat_app (a b : List Gp) : flatG (a ++ b) = flatG a ++ flatG b := by unfold flatG; rw [List.flatMap_append]
theorem partC_app : ∀ (p : Nat) (a b : List Gp), partC p (a ++ b) = partC p a ++ partC (p + (flatG a).length) b
  | p, [], b => rfl
  | p, x :: r, b => by
    show [Value.int .i64 (p : Nat), .bool x.2] ++ partC (p + 1 + x.1.length) (r ++ b) = [Value.int .i64 (p : Nat), .bool x.2] ++ partC (p + 1 + x.1.length) r ++ _
    rw [partC_app (p + 1 + x.1.length) r b, List.append_assoc]
    congr 3
    show p + 1 + x.1.length + (flatG r).length = p + ((⟨#[]⟩ :: x.1) ++ flatG r).length
    rw [List.length_append, List.length_cons]
    omega
/-- The struct at the block g; its rows lie from the block B on. -/
structure LnAt (w : World) (B g : Nat) (Ap : Option Addr) (cp : Nat) (Aq : Option Addr) (cq : Nat) (gs : List Gp) : Prop where
  cells : Bk w g #[.slice Ap (flatG gs).length cp, .slice Aq gs.length cq] 84
  ps : w.ownsRow B 9 1 (.slice Ap (flatG gs).length cp) (flatG gs).length ((flatG gs).map .string)
  qs : w.ownsRow B 134 2 (.slice Aq gs.length cq) gs.length (partC 0 gs)
def Ln (B : Nat) (w : World) (g : Nat) (gs : List Gp) : Prop := ∃ Ap cp Aq cq, LnAt w B g Ap cp Aq cq gs
theorem LnAt.below {w w' : World} {B g : Nat} {Ap : Option Addr} {cp : Nat} {Aq : Option Addr} {cq : Nat} {gs : List Gp} (h : LnAt w B g Ap cp Aq cq gs) (hb : Below w.heap.size w w') : LnAt w' B g Ap cp Aq cq gs :=
  ⟨h.cells.below hb, own_below h.ps hb, own_below h.qs hb⟩
theorem Ln.below {w w' : World} {B g : Nat} {gs : List Gp} (h : Ln B w g gs) (hb : Below w.heap.size w w') : Ln B w' g gs := by
  obtain ⟨Ap, cp, Aq, cq, h⟩ := h
  exact ⟨Ap, cp, Aq, cq, h.below hb⟩
theorem info_str : (Try.prog.info? 9).map (fun i => (i.zero, i.size, i.bytes)) = some (some (.string .empty), 1, 16) := by kernel_rfl
theorem info_part : (Try.prog.info? 134).map (fun i => (i.zero, i.size, i.bytes)) = some (some (.agg #[.int .i64 0, .bool false]), 2, 16) := by kernel_rfl
theorem own_ne {w : World} {B B2 : Nat} {e e2 : TypeId} {s s2 n n2 : Nat} {u v : Value} {xs ys : List Value} (h : w.ownsRow B e s v n xs) (hu : w.ownsRow B2 e2 s2 u n2 ys) (hne : e ≠ e2) : v.ownBlock = none ∨ v.ownBlock ≠ u.ownBlock := by
  rcases h.2 with ⟨rfl, _⟩ | ⟨g, c, cur, rfl, _, h1, _⟩
  · exact .inl rfl
  · refine .inr fun e3 => ?_
    rcases hu.2 with ⟨rfl, _⟩ | ⟨g2, c2, cur2, rfl, _, h2, _⟩
    · cases e3
    · have : g = g2 := by injection e3
      subst this
      rw [h1] at h2
      injection h2 with h2
      injection h2 with _ h2 _
      exact hne h2
theorem pcell_one (p : Nat) (b : Bool) : ∀ u ∈ [Value.int .i64 (p : Nat), .bool b], u.oneCell' = true := by
  intro u hu
  simp only [List.mem_cons, List.not_mem_nil, or_false] at hu
  rcases hu with rfl | rfl <;> rfl
theorem str_one (l : List ByteArray) : ∀ u ∈ l.map Value.string, u.oneCell' = true := by
  intro u hu
  obtain ⟨x, _, rfl⟩ := List.mem_map.1 hu
  rfl
theorem kp_line (g B : Nat) (w : World) (k : Nat) (v : Value) : Kp g B w (w.setCell ⟨g, k, none⟩ v) := ⟨rfl, rfl, rfl, by simp [World.setCell], fun _ _ hn => Below.heap_setCell _ _ _ _ hn⟩
/-- How a call ends that writes on: no value, and the line. -/
def LPost (B : Nat) (w : World) (g : Nat) (gs : List Gp) (e : Ending) (w' : World) : Prop := e = .returned (.tuple #[]) ∧ Ln B w' g gs ∧ Kp g B w w'
set_option maxRecDepth 100000 in
set_option maxHeartbeats 2000000 in
theorem put_any {w : World} {B g : Nat} {gs : List Gp} (x : ByteArray) (h : Ln B w g gs) (hg : g < B) (hB : B ≤ w.heap.size) (hn : gs.length ≤ 1000000) (hp : (flatG gs).length ≤ 1000000) :
    Calls Try.prog 51 #[.pointer (some ⟨g, 0, none⟩), .string x] w (LPost B w g (putG x gs)) := by
  obtain ⟨Ap, cp, Aq, cq, h⟩ := h
  go_enter Try.func51, Try.ntmps51
  go_wp2_with fail
  refine roL_begin (fun W => W.cell? ⟨g, 0, none⟩ = some (.slice Ap (flatG gs).length cp) ∧ W.cell? ⟨g, 1, none⟩ = some (.slice Aq gs.length cq)) 15 (by kernel_rfl) ?_
  change wpAnyL _ _ _ _ _ _ _ _ _ (World.drew _)
  have hbd : Below w.heap.size w (World.drew w) := ⟨rfl, rfl, rfl, Nat.le_refl _, fun _ _ => rfl⟩
  have hzd : w.heap.size = (World.drew w).heap.size := rfl
  generalize World.drew w = wd at *
  replace h := h.below hbd
  have HS : wd.cell? ⟨g, 0, none⟩ = some (.slice Ap (flatG gs).length cp) ∧ wd.cell? ⟨g, 1, none⟩ = some (.slice Aq gs.length cq) := ⟨h.cells.cell 0, h.cells.cell 1⟩
  refine roL_take 0 (some 4) (v := ?v0r0) rfl rfl (by kernel_rfl) (by decide) (by kernel_rfl) (by kernel_rfl) (by kernel_rfl) (fun _ _ _ h => h) (by rfl) ?y0r0 HS ?r0r0
  case y0r0 => (intro w hS; (try dsimp only at hS); obtain ⟨q0, q1⟩ := hS; go_simp; try with_reducible rfl)
  simp only [Act.put, List.setIfInBounds_toArray, List.set_cons_zero, List.set_cons_succ]
  refine roL_take 1 (some 5) (v := ?v1r0) rfl rfl (by kernel_rfl) (by decide) (by kernel_rfl) (by kernel_rfl) (by kernel_rfl) (fun _ _ _ h => h) (by rfl) ?y1r0 HS ?r1r0
  case y1r0 => (intro w hS; (try dsimp only at hS); obtain ⟨q0, q1⟩ := hS; go_simp; try with_reducible rfl)
  simp only [Act.put, List.setIfInBounds_toArray, List.set_cons_zero, List.set_cons_succ]
  refine roL_take 2 (some 6) (v := ?v2r0) rfl rfl (by kernel_rfl) (by decide) (by kernel_rfl) (by kernel_rfl) (by kernel_rfl) (fun _ _ _ h => h) (by rfl) ?y2r0 HS ?r2r0
  case y2r0 => (intro w hS; (try dsimp only at hS); obtain ⟨q0, q1⟩ := hS; go_simp; try with_reducible rfl)
  simp only [Act.put, List.setIfInBounds_toArray, List.set_cons_zero, List.set_cons_succ]
  refine roL_take 3 (some 7) (v := ?v3r0) rfl rfl (by kernel_rfl) (by decide) (by kernel_rfl) (by kernel_rfl) (by kernel_rfl) (fun _ _ _ h => h) (by rfl) ?y3r0 HS ?r3r0
  case y3r0 => (intro w hS; (try dsimp only at hS); obtain ⟨q0, q1⟩ := hS; go_simp; try with_reducible rfl)
  simp only [Act.put, List.setIfInBounds_toArray, List.set_cons_zero, List.set_cons_succ]
  refine roL_take 4 (some 8) (v := ?v4r0) rfl rfl (by kernel_rfl) (by decide) (by kernel_rfl) (by kernel_rfl) (by kernel_rfl) (fun _ _ _ h => h) (by rfl) ?y4r0 HS ?r4r0
  case y4r0 => (intro w hS; (try dsimp only at hS); obtain ⟨q0, q1⟩ := hS; go_simp; try with_reducible rfl)
  simp only [Act.put, List.setIfInBounds_toArray, List.set_cons_zero, List.set_cons_succ]
  refine roL_take 5 (some 9) (v := ?v5r0) rfl rfl (by kernel_rfl) (by decide) (by kernel_rfl) (by kernel_rfl) (by kernel_rfl) (fun _ _ _ h => h) (by rfl) ?y5r0 HS ?r5r0
  case y5r0 => (intro w hS; (try dsimp only at hS); obtain ⟨q0, q1⟩ := hS; go_simp; try with_reducible rfl)
  simp only [Act.put, List.setIfInBounds_toArray, List.set_cons_zero, List.set_cons_succ]
  refine roL_take 6 (some 10) (v := ?v6r0) rfl rfl (by kernel_rfl) (by decide) (by kernel_rfl) (by kernel_rfl) (by kernel_rfl) (fun _ _ _ h => h) (by rfl) ?y6r0 HS ?r6r0
  case y6r0 => (intro w hS; (try dsimp only at hS); obtain ⟨q0, q1⟩ := hS; go_simp; try with_reducible rfl)
  simp only [Act.put, List.setIfInBounds_toArray, List.set_cons_zero, List.set_cons_succ]
  refine roL_take 7 (some 11) (v := ?v7r0) rfl rfl (by kernel_rfl) (by decide) (by kernel_rfl) (by kernel_rfl) (by kernel_rfl) (fun _ _ _ h => h) (by rfl) ?y7r0 HS ?r7r0
  case y7r0 => (intro w hS; (try dsimp only at hS); obtain ⟨q0, q1⟩ := hS; go_simp; try with_reducible rfl)
  simp only [Act.put, List.setIfInBounds_toArray, List.set_cons_zero, List.set_cons_succ]
  refine roL_take 8 (some 12) (v := ?v8r0) rfl rfl (by kernel_rfl) (by decide) (by kernel_rfl) (by kernel_rfl) (by kernel_rfl) (fun _ _ _ h => h) (by rfl) ?y8r0 HS ?r8r0
  case y8r0 => (intro w hS; (try dsimp only at hS); obtain ⟨q0, q1⟩ := hS; go_simp; try with_reducible rfl)
  simp only [Act.put, List.setIfInBounds_toArray, List.set_cons_zero, List.set_cons_succ]
  refine roL_take 9 (some 13) (v := ?v9r0) rfl rfl (by kernel_rfl) (by decide) (by kernel_rfl) (by kernel_rfl) (by kernel_rfl) (fun _ _ _ h => h) (by rfl) ?y9r0 HS ?r9r0
  case y9r0 => (intro w hS; (try dsimp only at hS); obtain ⟨q0, q1⟩ := hS; go_simp; try with_reducible rfl)
  simp only [Act.put, List.setIfInBounds_toArray, List.set_cons_zero, List.set_cons_succ]
  refine roL_take 10 (some 14) (v := ?v10r0) rfl rfl (by kernel_rfl) (by decide) (by kernel_rfl) (by kernel_rfl) (by kernel_rfl) (fun _ _ _ h => h) (by rfl) ?y10r0 HS ?r10r0
  case y10r0 => (intro w hS; (try dsimp only at hS); obtain ⟨q0, q1⟩ := hS; go_simp; try with_reducible rfl)
  simp only [Act.put, List.setIfInBounds_toArray, List.set_cons_zero, List.set_cons_succ]
  refine roL_one 11 rfl (by kernel_rfl) fun K hK' => ?_
  go_simp
  refine hK' _ _ (fun _ => ⟨cell_alloc HS.1 _, cell_alloc HS.2 _⟩) ?_
  clear hK' K
  obtain ⟨i0, hi0, hz0, hz1, hz2⟩ := info_parts info_part
  have hz7 : B ≤ wd.heap.size := by omega
  refine roL_one 12 rfl (by kernel_rfl) fun K hK' => ?_
  rw [if_pos (by rfl)]
  refine op_append_src _ (some 16) rfl (.tmp 8) (.tmp 15) 82 82 rfl B 134 i0 (.agg #[.int .i64 0, .bool false]) 2 16 Try.underlying82 hi0 hz0 hz1 hz2 rfl (by decide) (.slice Aq gs.length cq) gs.length (partC 0 gs) rfl (World.ownsRow.alloc h.qs _) _ 1 [.int .i64 ((flatG gs).length : Nat), .bool false] rfl (Src.ofSlice _ Try.underlying82 _ 1 1 _ rfl (cells_new2 _ _ _ _) (pcell_one _ _)) (by simp only [maxLen]; omega) (by omega) (size_alloc hz7) ?_
  intro v8 W8 hown8 hg8
  have hc8 := h.cells.grown (v := .slice Aq gs.length cq) hg8 h.qs hg
  have hK8 := kp_grown (v := .slice Aq gs.length cq) (Kp.of_below (hbd.mono hB) g) hg8 h.qs hz7 (Nat.le_refl _)
  have hp8 := own_grown (World.ownsRow.alloc h.ps (.cells #[.int .i64 ((flatG gs).length : Nat), .bool false] 134)) (World.ownsRow.alloc h.qs _) (by decide) hg8
  obtain ⟨A8, c8, rfl, _⟩ := Rd.own hown8
  have HS8 : W8.cell? ⟨g, 0, none⟩ = some (.slice Ap (flatG gs).length cp) ∧ W8.cell? ⟨g, 1, none⟩ = some (.slice Aq gs.length cq) := ⟨hc8.cell 0, hc8.cell 1⟩
  refine hK' _ _ (fun _ => HS8) ?_
  clear hK' K HS hg8
  have HS := HS8
  clear HS8
  simp only [Act.put, List.setIfInBounds_toArray, List.set_cons_zero, List.set_cons_succ]
  refine roL_one 13 rfl (by kernel_rfl) fun K hK' => ?_
  go_simp
  refine hK' _ _ (fun _ => HS) ?_
  clear hK' K
  refine roL_take 14 (some 18) (v := ?v14r0) rfl rfl (by kernel_rfl) (by decide) (by kernel_rfl) (by kernel_rfl) (by kernel_rfl) (fun _ _ _ h => h) (by rfl) ?y14r0 HS ?r14r0
  case y14r0 => (intro w hS; (try dsimp only at hS); obtain ⟨q0, q1⟩ := hS; go_simp; try with_reducible rfl)
  simp only [Act.put, List.setIfInBounds_toArray, List.set_cons_zero, List.set_cons_succ]
  refine roL_one 15 rfl (by kernel_rfl) fun K hK' => ?_
  have fz8 := hc8.fz 1
  have q8 := hc8.cell 1
  go_simp
  refine hK' _ _ (fun h => absurd rfl h) ?_
  clear hK' K
  refine roL_done (by kernel_rfl) ?_ _
  have hc9 : Bk _ g #[.slice Ap (flatG gs).length cp, .slice A8 (gs.length + 1) c8] 84 := hc8.set 1 (.slice A8 (gs.length + 1) c8)
  have hK9 := hK8.trans (kp_line g B W8 1 (.slice A8 (gs.length + 1) c8))
  have hp9 := own_set (a := ⟨g, 1, none⟩) hp8 (by dsimp only; omega) (.slice A8 (gs.length + 1) c8)
  have hq9 := own_set (a := ⟨g, 1, none⟩) hown8 (by dsimp only; omega) (.slice A8 (gs.length + 1) c8)
  clear HS hc8 hK8 hp8 hown8 fz8 q8
  generalize W8.setCell ⟨g, 1, none⟩ (.slice A8 (gs.length + 1) c8) = W9 at *
  have x0 : W9.cell? ⟨g, 0, none⟩ = some (.slice Ap (flatG gs).length cp) := hc9.cell 0
  have lg := hc9.lt
  have fz0 := hc9.fz 0
  obtain ⟨i0, hi0, hz0, hz1, hz2⟩ := info_parts info_str
  have hz9 : B ≤ W9.heap.size := Nat.le_trans hB hK9.size
  clear h hbd
  go_wp2_with (at_builtin; refine wpList_append_src _ rfl (.tmp 23) (.tmp 25) 58 58 rfl B 9 i0 (.string .empty) 1 16 Try.underlying58 hi0 hz0 hz1 hz2 rfl (by decide) _ (flatG gs).length ((flatG gs).map .string) rfl (World.ownsRow.alloc hp9 _) _ 2 [.string ⟨#[]⟩, .string x] rfl (Src.ofSlice _ Try.underlying58 _ 2 2 _ rfl (cells_new2 _ _ _ _) (str_one [⟨#[]⟩, x])) (by simp only [maxLen]; omega) (by omega) (size_alloc hz9) ?_; intro v1 W1 hown1 hg1 hat1; obtain ⟨A1, c1, rfl, _⟩ := Rd.own hown1; have hc1 := hc9.grown (v := .slice Ap (flatG gs).length cp) hg1 hp9 hg; have y0 : W1.cell? ⟨g, 0, none⟩ = some (.slice Ap (flatG gs).length cp) := hc1.cell 0; have fz1 := hc1.fz 0; have lc1 := hc1.lt)
  have hK1 := kp_grown (v := .slice Ap (flatG gs).length cp) hK9 hg1 hp9 hz9 (Nat.le_refl _)
  have hq1 := own_grown (World.ownsRow.alloc hq9 (.cells #[.string ⟨#[]⟩, .string x] 9)) (World.ownsRow.alloc hp9 _) (by decide) hg1
  go_returns
  refine ⟨rfl, ⟨A1, c1, A8, c8, ?_⟩, hK1.trans (kp_line g B W1 0 _)⟩
  have hf : flatG (putG x gs) = flatG gs ++ [⟨#[]⟩, x] := by unfold putG; rw [flat_app]; rfl
  have hl : (flatG (putG x gs)).length = (flatG gs).length + 2 := by rw [hf, List.length_append]; rfl
  have hl2 : (putG x gs).length = gs.length + 1 := by unfold putG; rw [List.length_append]; rfl
  have hc : partC 0 (putG x gs) = partC 0 gs ++ [.int .i64 ((flatG gs).length : Nat), .bool false] := by unfold putG; rw [partC_app, Nat.zero_add]; rfl
  refine ⟨?_, ?_, ?_⟩
  · rw [hl, hl2]
    exact hc1.set 0 _
  · rw [hl, hf, List.map_append]
    exact own_set (a := ⟨g, 0, none⟩) hown1 (by dsimp only; omega) _
  · rw [hl2, hc]
    exact own_set (a := ⟨g, 0, none⟩) hq1 (by dsimp only; omega) _
end Go.Proofs.Ytkeonempmchpnaa
