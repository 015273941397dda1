/- Layer 7: what is deferred where tokens are read: it knows a fault that was thrown, and tells it. Conditions: none. -/
import Derived.Test.YtinfbimfiaegdaaSchema
namespace Go.Proofs.Ytinfbimfiaegdaa
open Go.RowKit

set_option maxRecDepth 100000 in
theorem catch_idle (p q r : Addr) (w : World) :
    CallsD Try.prog 33 #[.pointer (some p), .pointer (some q), .pointer (some r)] .returning w fun e u' w' => e = .returned (.tuple #[]) ∧ u' = .returning ∧ w' = w := by
  refine callsD_of_wpS Try.func33 rfl fun c₀ cs hu => ?_
  apply wpS_seq
  apply wpS_region
  simp [wpOpsS, go_sem, recoverD, hu, Exit.thenS, Try.ntmps33]
  rw [show (#[.pointer (some p), .pointer (some q), .pointer (some r)] : Array Value) ++ ((Array.replicate 19 undef).setIfInBounds 3 (.nilIface)).setIfInBounds 0 (.nilIface) = #[.pointer (some p), .pointer (some q), .pointer (some r), .nilIface, undef, undef, .nilIface, undef, undef, undef, undef, undef, undef, undef, undef, undef, undef, undef, undef, undef, undef, undef] from by kernel_rfl]
  refine wpS_of_wp ?_
  go_wp2
  refine ⟨rfl, .returning, by rw [← hu], .tuple #[], ?_, rfl, rfl, rfl⟩
  simp [results, Try.results33, go_sem]
theorem assert_fault (x y : Value) (W : World) : (Instr.typeAssert (.iface 94 (.agg #[x, y])) 20 94 true).run Try.prog W = .ok (.tuple #[.agg #[x, y], .bool true]) W := by kernel_rfl
set_option maxRecDepth 100000 in
theorem catch_fault (c k : Nat) (bs be ba : Nat) (v0 v1 v2 : Value) (w : World) (h0 : Bk w bs #[v0] 36) (h1 : Bk w be #[v1] 25) (h2 : Bk w ba #[v2] 3) (n1 : bs < be) (n2 : be < ba) :
    CallsD Try.prog 33 #[.pointer (some ⟨bs, 0, none⟩), .pointer (some ⟨be, 0, none⟩), .pointer (some ⟨ba, 0, none⟩)] (.panicking [{ v := .iface 94 (.agg #[.int .i64 c, .int .i64 k]), recovered := false }]) w fun e u' w' =>
      e = .returned (.tuple #[]) ∧ u' = .panicking [{ v := .iface 94 (.agg #[.int .i64 c, .int .i64 k]), recovered := true }] ∧
      Bk w' bs #[.slice none 0 0] 36 ∧ Bk w' be #[.int .i64 c] 25 ∧ Bk w' ba #[.int .i64 k] 3 ∧ Below bs w w' := by
  have f0 := Bk.new w #[.int .i64 c, .int .i64 k] 94
  have l0 := h2.lt
  have hb : Below bs w (w.alloc (.cells #[.int .i64 c, .int .i64 k] 94)) := (Below.refl _ w).alloc (by omega) _
  have hS : w.heap.size ≤ (w.alloc (.cells #[.int .i64 c, .int .i64 k] 94)).heap.size := size_alloc (Nat.le_refl _)
  have g0 := h0.alloc (.cells #[.int .i64 c, .int .i64 k] 94)
  have g1 := h1.alloc (.cells #[.int .i64 c, .int .i64 k] 94)
  have g2 := h2.alloc (.cells #[.int .i64 c, .int .i64 k] 94)
  refine callsD_of_wpS Try.func33 rfl fun c₀ cs hu => ?_
  apply wpS_seq
  apply wpS_region
  simp [wpOpsS, go_sem, recoverD, hu, Exit.thenS, Try.ntmps33]
  rw [show (#[.pointer (some ⟨bs, 0, none⟩), .pointer (some ⟨be, 0, none⟩), .pointer (some ⟨ba, 0, none⟩)] : Array Value) ++ ((Array.replicate 19 undef).setIfInBounds 3 (.iface 94 (.agg #[.int .i64 c, .int .i64 k]))).setIfInBounds 0 (.iface 94 (.agg #[.int .i64 c, .int .i64 k])) = #[.pointer (some ⟨bs, 0, none⟩), .pointer (some ⟨be, 0, none⟩), .pointer (some ⟨ba, 0, none⟩), .iface 94 (.agg #[.int .i64 c, .int .i64 k]), undef, undef, .iface 94 (.agg #[.int .i64 c, .int .i64 k]), undef, undef, undef, undef, undef, undef, undef, undef, undef, undef, undef, undef, undef, undef, undef] from by kernel_rfl]
  refine wpS_of_wp ?_
  have hta := assert_fault
  go_wp2
  replace g0 : Bk (w.alloc (.cells #[.int .i64 c, .int .i64 k] 94)).drew _ _ _ := g0
  replace g1 : Bk (w.alloc (.cells #[.int .i64 c, .int .i64 k] 94)).drew _ _ _ := g1
  replace g2 : Bk (w.alloc (.cells #[.int .i64 c, .int .i64 k] 94)).drew _ _ _ := g2
  replace f0 : Bk (w.alloc (.cells #[.int .i64 c, .int .i64 k] 94)).drew _ _ _ := f0
  replace hb := hb.drew
  refine wp_region_held (S := fun W => W.cell? ⟨w.heap.size, 0, none⟩ = some (.int .i64 c) ∧ W.cell? ⟨w.heap.size, 1, none⟩ = some (.int .i64 k)) (by kernel_rfl) ?_
  change wpAnyH _ _ _ _ _ _ _ _ (World.drew _)
  generalize (w.alloc (.cells #[.int .i64 c, .int .i64 k] 94)).drew = W at *
  have q0 := g0.c1
  have q1 := g1.c1
  have q2 := g2.c1
  have z0 := g0.fz
  have z1 := g1.fz
  have z2 := g2.fz
  have hSW : W.cell? ⟨w.heap.size, 0, none⟩ = some (.int .i64 c) ∧ W.cell? ⟨w.heap.size, 1, none⟩ = some (.int .i64 k) := f0.c2
  have ne1 : ¬ bs = be := by omega
  have ne2 : ¬ be = bs := by omega
  have ne3 : ¬ bs = ba := by omega
  have ne4 : ¬ ba = bs := by omega
  have ne5 : ¬ be = ba := by omega
  have ne6 : ¬ ba = be := by omega
  -- 1 fieldAddr
  refine roH_take 1 (some 18) (v := ?v1) rfl rfl (by kernel_rfl) (by kernel_rfl) (by kernel_rfl) (fun _ _ _ h => h) (by rfl) ?y1 hSW ?r1
  case y1 => (intro w hS; (try dsimp only at hS); go_simp; try with_reducible rfl)
  simp only [Act.put, List.setIfInBounds_toArray, List.set_cons_zero, List.set_cons_succ]
  -- 3 fieldAddr
  refine roH_take 3 (some 20) (v := ?v3) rfl rfl (by kernel_rfl) (by kernel_rfl) (by kernel_rfl) (fun _ _ _ h => h) (by rfl) ?y3 hSW ?r3
  case y3 => (intro w hS; (try dsimp only at hS); go_simp; try with_reducible rfl)
  simp only [Act.put, List.setIfInBounds_toArray, List.set_cons_zero, List.set_cons_succ]
  -- 2 load
  refine roH_take 2 (some 19) (v := ?v2) rfl rfl (by kernel_rfl) (by kernel_rfl) (by kernel_rfl) (fun _ _ _ h => h) (by rfl) ?y2 hSW ?r2
  case y2 => (intro w hS; (try dsimp only at hS); go_simp; try with_reducible rfl)
  simp only [Act.put, List.setIfInBounds_toArray, List.set_cons_zero, List.set_cons_succ]
  -- 4 load
  refine roH_take 4 (some 21) (v := ?v4) rfl rfl (by kernel_rfl) (by kernel_rfl) (by kernel_rfl) (fun _ _ _ h => h) (by rfl) ?y4 hSW ?r4
  case y4 => (intro w hS; (try dsimp only at hS); go_simp; try with_reducible rfl)
  simp only [Act.put, List.setIfInBounds_toArray, List.set_cons_zero, List.set_cons_succ]
  refine roH_one 0 rfl (by kernel_rfl) ?_
  intro K hK
  go_simp
  refine hK _ _ hSW ?_
  clear hK K
  -- 5 store
  refine roH_one 5 rfl (by kernel_rfl) ?_
  intro K hK
  go_simp
  have f1 := f0.other (a := ⟨bs, 0, none⟩) (show w.heap.size ≠ bs by omega) (.slice none 0 0)
  refine hK _ _ f1.c2 ?_
  clear hK K
  -- 6 store
  refine roH_one 6 rfl (by kernel_rfl) ?_
  intro K hK
  go_simp
  have f2 := f1.other (a := ⟨be, 0, none⟩) (show w.heap.size ≠ be by omega) (.int .i64 c)
  refine hK _ _ f2.c2 ?_
  clear hK K
  -- 7 store
  refine roH_one 7 rfl (by kernel_rfl) ?_
  intro K hK
  go_simp
  have f3 := f2.other (a := ⟨ba, 0, none⟩) (show w.heap.size ≠ ba by omega) (.int .i64 k)
  refine hK _ _ f3.c2 ?_
  clear hK K
  refine wpAnyH_done (by kernel_rfl) ?_ _
  refine ⟨rfl, _, rfl, .tuple #[], ?_, rfl, rfl, ?_, ?_, ?_, ?_⟩
  · simp [results, Try.results33, go_sem]
  · exact (((g0.set 0 (.slice none 0 0)).other (a := ⟨be, 0, none⟩) (show bs ≠ be by omega) (.int .i64 c)).other (a := ⟨ba, 0, none⟩) (show bs ≠ ba by omega) (.int .i64 k))
  · exact (((g1.other (a := ⟨bs, 0, none⟩) (show be ≠ bs by omega) (.slice none 0 0)).set 0 (.int .i64 c)).other (a := ⟨ba, 0, none⟩) (show be ≠ ba by omega) (.int .i64 k))
  · exact (((g2.other (a := ⟨bs, 0, none⟩) (show ba ≠ bs by omega) (.slice none 0 0)).other (a := ⟨be, 0, none⟩) (show ba ≠ be by omega) (.int .i64 c)).set 0 (.int .i64 k))
  · refine Below.setCell (Below.setCell (Below.setCell hb ?_ _) ?_ _) ?_ _ <;> (dsimp only; omega)
end Go.Proofs.Ytinfbimfiaegdaa
