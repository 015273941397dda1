/- Layer 7: the document's own parser: its smallest calls. Conditions: none. -/
import Derived.Test.YtkeonempmchpnaaRefM
namespace Go.Proofs.Ytkeonempmchpnaa
open Go.RowKit

section
variable {w : World} {g : Nat} {q : St}
set_option maxRecDepth 100000 in
set_option maxHeartbeats 1000000 in
theorem rfail_any (h : PSt w g q) {c0 : Nat} (hc : c0 ≠ 0) : Calls Try.prog 27 #[.pointer (some ⟨g, 0, none⟩), .int .i64 c0] w (UPost VUnit w g ((), failU c0 q)) := by
  obtain ⟨A, c, T, i, e, p, h, hs⟩ := h
  have lt := h.cells.lt
  have u2 : w.cell? ⟨g, 2, none⟩ = some (.int .i64 e) := h.cells.cell 2
  have z2 := h.cells.fz 2
  cases q with
  | error x =>
    obtain ⟨rfl, hx, rfl⟩ := hs
    have d0 : (((x.1 : Nat) : Int) == 0) = false := by rw [beq_eq_false_iff_ne]; omega
    go_enter Try.func27, Try.ntmps27
    go_wp2
    go_returns
    exact ⟨⟨rfl, rfl, rfl, Nat.le_refl _, fun _ _ _ => rfl⟩, ⟨_, rfl, rfl⟩, A, c, T, i, _, _, h, rfl, hx, rfl⟩
  | ok l =>
    obtain ⟨rfl, rfl⟩ := hs
    go_enter Try.func27, Try.ntmps27
    go_wp2_with fail
    have h2 : PAt (w.setCell ⟨g, 2, none⟩ (.int .i64 c0)).drew g A c T i c0 p := (h.set2 c0).keep fun _ _ => rfl
    have k1 : Kp g w.heap.size w (w.setCell ⟨g, 2, none⟩ (.int .i64 c0)).drew := (kp_at g w.heap.size w 2 _).drew
    clear u2 z2 h
    generalize w.setCell ⟨g, 2, none⟩ (.int .i64 c0) = W at *
    obtain ⟨b, o, rfl, hi, hb, s0, s1, s2⟩ := h2.get
    generalize hd : hdT (T.drop i) = t at *
    obtain ⟨tk, tx, tp⟩ := t
    dsimp only at s0 s1 s2
    have u0 : W.drew.cell? ⟨g, 0, none⟩ = some (.slice (some ⟨b, o, none⟩) T.length c) := h2.cells.cell 0
    have u1 : W.drew.cell? ⟨g, 1, none⟩ = some (.int .i64 i) := h2.cells.cell 1
    have u3 : W.drew.cell? ⟨g, 3, none⟩ = some (.int .i64 p) := h2.cells.cell 3
    have z3 := h2.cells.fz 3
    have hi2 : (i : Int) < (T.length : Nat) := by omega
    refine roL_begin (fun W => W.cell? ⟨g, 0, none⟩ = some (.slice (some ⟨b, o, none⟩) T.length c) ∧ W.cell? ⟨g, 1, none⟩ = some (.int .i64 i) ∧ W.cell? ⟨b, o + i * 3, none⟩ = some (.int .i64 tk) ∧ W.cell? ⟨b, o + i * 3 + 1, none⟩ = some (.string tx) ∧ W.cell? ⟨b, o + i * 3 + 2, none⟩ = some (.int .i64 tp)) 14 (by kernel_rfl) ?_
    change wpAnyL _ _ _ _ _ _ _ _ _ (World.drew _)
    have HS : (World.drew _).cell? ⟨g, 0, none⟩ = some (.slice (some ⟨b, o, none⟩) T.length c) ∧ (World.drew _).cell? ⟨g, 1, none⟩ = some (.int .i64 i) ∧ (World.drew _).cell? ⟨b, o + i * 3, none⟩ = some (.int .i64 tk) ∧ (World.drew _).cell? ⟨b, o + i * 3 + 1, none⟩ = some (.string tx) ∧ (World.drew _).cell? ⟨b, o + i * 3 + 2, none⟩ = some (.int .i64 tp) := ⟨u0, u1, s0, s1, s2⟩
    refine roL_take 0 (some 13) (v := ?v0f) rfl rfl (by kernel_rfl) (by decide) (by kernel_rfl) (by kernel_rfl) (by kernel_rfl) (fun _ _ _ h => h) (by rfl) ?y0f HS ?r0f
    case y0f => (intro w hS; (try dsimp only at hS); obtain ⟨q0, q1, t0, t1, t2⟩ := hS; go_simp; try with_reducible rfl)
    simp only [Act.put, List.setIfInBounds_toArray, List.set_cons_zero, List.set_cons_succ]
    refine roL_take 1 (some 14) (v := ?v1f) rfl rfl (by kernel_rfl) (by decide) (by kernel_rfl) (by kernel_rfl) (by kernel_rfl) (fun _ _ _ h => h) (by rfl) ?y1f HS ?r1f
    case y1f => (intro w hS; (try dsimp only at hS); obtain ⟨q0, q1, t0, t1, t2⟩ := hS; go_simp; try with_reducible rfl)
    simp only [Act.put, List.setIfInBounds_toArray, List.set_cons_zero, List.set_cons_succ]
    refine roL_take 2 (some 15) (v := ?v2f) rfl rfl (by kernel_rfl) (by decide) (by kernel_rfl) (by kernel_rfl) (by kernel_rfl) (fun _ _ _ h => h) (by rfl) ?y2f HS ?r2f
    case y2f => (intro w hS; (try dsimp only at hS); obtain ⟨q0, q1, t0, t1, t2⟩ := hS; go_simp; try with_reducible rfl)
    simp only [Act.put, List.setIfInBounds_toArray, List.set_cons_zero, List.set_cons_succ]
    refine roL_take 3 (some 16) (v := ?v3f) rfl rfl (by kernel_rfl) (by decide) (by kernel_rfl) (by kernel_rfl) (by kernel_rfl) (fun _ _ _ h => h) (by rfl) ?y3f HS ?r3f
    case y3f => (intro w hS; (try dsimp only at hS); obtain ⟨q0, q1, t0, t1, t2⟩ := hS; go_simp; try with_reducible rfl)
    simp only [Act.put, List.setIfInBounds_toArray, List.set_cons_zero, List.set_cons_succ]
    refine roL_take 4 (some 17) (v := ?v4f) rfl rfl (by kernel_rfl) (by decide) (by kernel_rfl) (by kernel_rfl) (by kernel_rfl) (fun _ _ _ h => h) (by rfl) ?y4f HS ?r4f
    case y4f => (intro w hS; (try dsimp only at hS); obtain ⟨q0, q1, t0, t1, t2⟩ := hS; go_simp; try with_reducible rfl)
    simp only [Act.put, List.setIfInBounds_toArray, List.set_cons_zero, List.set_cons_succ]
    refine roL_take 5 (some 18) (v := ?v5f) rfl rfl (by kernel_rfl) (by decide) (by kernel_rfl) (by kernel_rfl) (by kernel_rfl) (fun _ _ _ h => h) (by rfl) ?y5f HS ?r5f
    case y5f => (intro w hS; (try dsimp only at hS); obtain ⟨q0, q1, t0, t1, t2⟩ := hS; go_simp; try with_reducible rfl)
    simp only [Act.put, List.setIfInBounds_toArray, List.set_cons_zero, List.set_cons_succ]
    refine roL_take 6 (some 19) (v := ?v6f) rfl rfl (by kernel_rfl) (by decide) (by kernel_rfl) (by kernel_rfl) (by kernel_rfl) (fun _ _ _ h => h) (by rfl) ?y6f HS ?r6f
    case y6f => (intro w hS; (try dsimp only at hS); obtain ⟨q0, q1, t0, t1, t2⟩ := hS; go_simp; try with_reducible rfl)
    simp only [Act.put, List.setIfInBounds_toArray, List.set_cons_zero, List.set_cons_succ]
    refine roL_take 7 (some 20) (v := ?v7f) rfl rfl (by kernel_rfl) (by decide) (by kernel_rfl) (by kernel_rfl) (by kernel_rfl) (fun _ _ _ h => h) (by rfl) ?y7f HS ?r7f
    case y7f => (intro w hS; (try dsimp only at hS); obtain ⟨q0, q1, t0, t1, t2⟩ := hS; go_simp; try with_reducible rfl)
    simp only [Act.put, List.setIfInBounds_toArray, List.set_cons_zero, List.set_cons_succ]
    refine roL_take 8 (some 21) (v := ?v8f) rfl rfl (by kernel_rfl) (by decide) (by kernel_rfl) (by kernel_rfl) (by kernel_rfl) (fun _ _ _ h => h) (by rfl) ?y8f HS ?r8f
    case y8f => (intro w hS; (try dsimp only at hS); obtain ⟨q0, q1, t0, t1, t2⟩ := hS; go_simp; try with_reducible rfl)
    simp only [Act.put, List.setIfInBounds_toArray, List.set_cons_zero, List.set_cons_succ]
    refine roL_take 9 (some 22) (v := ?v9f) rfl rfl (by kernel_rfl) (by decide) (by kernel_rfl) (by kernel_rfl) (by kernel_rfl) (fun _ _ _ h => h) (by rfl) ?y9f HS ?r9f
    case y9f => (intro w hS; (try dsimp only at hS); obtain ⟨q0, q1, t0, t1, t2⟩ := hS; go_simp; try with_reducible rfl)
    simp only [Act.put, List.setIfInBounds_toArray, List.set_cons_zero, List.set_cons_succ]
    refine roL_take 10 (some 23) (v := ?v10f) rfl rfl (by kernel_rfl) (by decide) (by kernel_rfl) (by kernel_rfl) (by kernel_rfl) (fun _ _ _ h => h) (by rfl) ?y10f HS ?r10f
    case y10f => (intro w hS; (try dsimp only at hS); obtain ⟨q0, q1, t0, t1, t2⟩ := hS; go_simp; try with_reducible rfl)
    simp only [Act.put, List.setIfInBounds_toArray, List.set_cons_zero, List.set_cons_succ]
    refine roL_take 11 (some 24) (v := ?v11f) rfl rfl (by kernel_rfl) (by decide) (by kernel_rfl) (by kernel_rfl) (by kernel_rfl) (fun _ _ _ h => h) (by rfl) ?y11f HS ?r11f
    case y11f => (intro w hS; (try dsimp only at hS); obtain ⟨q0, q1, t0, t1, t2⟩ := hS; go_simp; try with_reducible rfl)
    simp only [Act.put, List.setIfInBounds_toArray, List.set_cons_zero, List.set_cons_succ]
    refine roL_one 12 rfl (by kernel_rfl) fun K hK' => ?_
    go_simp
    refine hK' _ _ (fun _ => HS) ?_
    clear hK' K
    try simp only [Act.put, List.setIfInBounds_toArray, List.set_cons_zero, List.set_cons_succ]
    refine roL_one 13 rfl (by kernel_rfl) fun K hK' => ?_
    go_simp
    refine hK' _ _ (fun _ => HS) ?_
    clear hK' K
    try simp only [Act.put, List.setIfInBounds_toArray, List.set_cons_zero, List.set_cons_succ]
    obtain ⟨q0, q1, t0, t1, t2⟩ := HS
    refine roL_one 14 rfl (by kernel_rfl) fun K hK' => ?_
    go_simp
    refine hK' _ _ (fun h => absurd rfl h) ?_
    clear hK' K
    refine roL_done (by kernel_rfl) ?_ _
    go_wp2
    go_returns
    refine ⟨k1.trans (kp_at g w.heap.size _ 3 _), ⟨_, rfl, rfl⟩, _, _, _, _, _, _, h2.set3 tp, rfl, hc, by rw [hd]⟩
set_option maxRecDepth 100000 in
set_option maxHeartbeats 1000000 in
theorem ris_any (h : PSt w g q) (s : ByteArray) : Calls Try.prog 23 #[.pointer (some ⟨g, 0, none⟩), .string s] w fun e w' => e = .returned (.bool (isU s q)) ∧ Below w.heap.size w w' := by
  obtain ⟨A, c, T, i, e, p, h, hs⟩ := h
  have kk : ∀ W, _ := fun W => rkey_any s W
  go_enter Try.func23, Try.ntmps23
  go_wp2_with fail
  have h2 : PAt w.drew g A c T i e p := h.keep fun _ _ => rfl
  have lt := h2.cells.lt
  clear h
  obtain ⟨b, o, rfl, hi, hb, s0, s1, s2⟩ := h2.get
  generalize hd : hdT (T.drop i) = t at *
  obtain ⟨tk, tx, tp⟩ := t
  dsimp only at s0 s1 s2
  have u0 : w.drew.cell? ⟨g, 0, none⟩ = some (.slice (some ⟨b, o, none⟩) T.length c) := h2.cells.cell 0
  have u1 : w.drew.cell? ⟨g, 1, none⟩ = some (.int .i64 i) := h2.cells.cell 1
  have hi2 : (i : Int) < (T.length : Nat) := by omega
  have hlb := World.block_lt_of_cell? _ _ s0
  dsimp only at hlb
  refine roL_begin (fun W => W.cell? ⟨g, 0, none⟩ = some (.slice (some ⟨b, o, none⟩) T.length c) ∧ W.cell? ⟨g, 1, none⟩ = some (.int .i64 i) ∧ W.cell? ⟨b, o + i * 3, none⟩ = some (.int .i64 tk) ∧ W.cell? ⟨b, o + i * 3 + 1, none⟩ = some (.string tx) ∧ W.cell? ⟨b, o + i * 3 + 2, none⟩ = some (.int .i64 tp)) 11 (by kernel_rfl) ?_
  change wpAnyL _ _ _ _ _ _ _ _ _ (World.drew _)
  have HS : (World.drew _).cell? ⟨g, 0, none⟩ = some (.slice (some ⟨b, o, none⟩) T.length c) ∧ (World.drew _).cell? ⟨g, 1, none⟩ = some (.int .i64 i) ∧ (World.drew _).cell? ⟨b, o + i * 3, none⟩ = some (.int .i64 tk) ∧ (World.drew _).cell? ⟨b, o + i * 3 + 1, none⟩ = some (.string tx) ∧ (World.drew _).cell? ⟨b, o + i * 3 + 2, none⟩ = some (.int .i64 tp) := ⟨u0, u1, s0, s1, s2⟩
  refine roL_take 0 (some 7) (v := ?v0i) rfl rfl (by kernel_rfl) (by decide) (by kernel_rfl) (by kernel_rfl) (by kernel_rfl) (fun _ _ _ h => h) (by rfl) ?y0i HS ?r0i
  case y0i => (intro w hS; (try dsimp only at hS); obtain ⟨q0, q1, t0, t1, t2⟩ := hS; go_simp; try with_reducible rfl)
  simp only [Act.put, List.setIfInBounds_toArray, List.set_cons_zero, List.set_cons_succ]
  refine roL_take 1 (some 8) (v := ?v1i) rfl rfl (by kernel_rfl) (by decide) (by kernel_rfl) (by kernel_rfl) (by kernel_rfl) (fun _ _ _ h => h) (by rfl) ?y1i HS ?r1i
  case y1i => (intro w hS; (try dsimp only at hS); obtain ⟨q0, q1, t0, t1, t2⟩ := hS; go_simp; try with_reducible rfl)
  simp only [Act.put, List.setIfInBounds_toArray, List.set_cons_zero, List.set_cons_succ]
  refine roL_take 2 (some 9) (v := ?v2i) rfl rfl (by kernel_rfl) (by decide) (by kernel_rfl) (by kernel_rfl) (by kernel_rfl) (fun _ _ _ h => h) (by rfl) ?y2i HS ?r2i
  case y2i => (intro w hS; (try dsimp only at hS); obtain ⟨q0, q1, t0, t1, t2⟩ := hS; go_simp; try with_reducible rfl)
  simp only [Act.put, List.setIfInBounds_toArray, List.set_cons_zero, List.set_cons_succ]
  refine roL_take 3 (some 10) (v := ?v3i) rfl rfl (by kernel_rfl) (by decide) (by kernel_rfl) (by kernel_rfl) (by kernel_rfl) (fun _ _ _ h => h) (by rfl) ?y3i HS ?r3i
  case y3i => (intro w hS; (try dsimp only at hS); obtain ⟨q0, q1, t0, t1, t2⟩ := hS; go_simp; try with_reducible rfl)
  simp only [Act.put, List.setIfInBounds_toArray, List.set_cons_zero, List.set_cons_succ]
  refine roL_take 4 (some 11) (v := ?v4i) rfl rfl (by kernel_rfl) (by decide) (by kernel_rfl) (by kernel_rfl) (by kernel_rfl) (fun _ _ _ h => h) (by rfl) ?y4i HS ?r4i
  case y4i => (intro w hS; (try dsimp only at hS); obtain ⟨q0, q1, t0, t1, t2⟩ := hS; go_simp; try with_reducible rfl)
  simp only [Act.put, List.setIfInBounds_toArray, List.set_cons_zero, List.set_cons_succ]
  refine roL_take 5 (some 12) (v := ?v5i) rfl rfl (by kernel_rfl) (by decide) (by kernel_rfl) (by kernel_rfl) (by kernel_rfl) (fun _ _ _ h => h) (by rfl) ?y5i HS ?r5i
  case y5i => (intro w hS; (try dsimp only at hS); obtain ⟨q0, q1, t0, t1, t2⟩ := hS; go_simp; try with_reducible rfl)
  simp only [Act.put, List.setIfInBounds_toArray, List.set_cons_zero, List.set_cons_succ]
  refine roL_take 6 (some 13) (v := ?v6i) rfl rfl (by kernel_rfl) (by decide) (by kernel_rfl) (by kernel_rfl) (by kernel_rfl) (fun _ _ _ h => h) (by rfl) ?y6i HS ?r6i
  case y6i => (intro w hS; (try dsimp only at hS); obtain ⟨q0, q1, t0, t1, t2⟩ := hS; go_simp; try with_reducible rfl)
  simp only [Act.put, List.setIfInBounds_toArray, List.set_cons_zero, List.set_cons_succ]
  refine roL_take 7 (some 14) (v := ?v7i) rfl rfl (by kernel_rfl) (by decide) (by kernel_rfl) (by kernel_rfl) (by kernel_rfl) (fun _ _ _ h => h) (by rfl) ?y7i HS ?r7i
  case y7i => (intro w hS; (try dsimp only at hS); obtain ⟨q0, q1, t0, t1, t2⟩ := hS; go_simp; try with_reducible rfl)
  simp only [Act.put, List.setIfInBounds_toArray, List.set_cons_zero, List.set_cons_succ]
  refine roL_take 8 (some 15) (v := ?v8i) rfl rfl (by kernel_rfl) (by decide) (by kernel_rfl) (by kernel_rfl) (by kernel_rfl) (fun _ _ _ h => h) (by rfl) ?y8i HS ?r8i
  case y8i => (intro w hS; (try dsimp only at hS); obtain ⟨q0, q1, t0, t1, t2⟩ := hS; go_simp; try with_reducible rfl)
  simp only [Act.put, List.setIfInBounds_toArray, List.set_cons_zero, List.set_cons_succ]
  refine roL_take 9 (some 16) (v := ?v9i) rfl rfl (by kernel_rfl) (by decide) (by kernel_rfl) (by kernel_rfl) (by kernel_rfl) (fun _ _ _ h => h) (by rfl) ?y9i HS ?r9i
  case y9i => (intro w hS; (try dsimp only at hS); obtain ⟨q0, q1, t0, t1, t2⟩ := hS; go_simp; try with_reducible rfl)
  simp only [Act.put, List.setIfInBounds_toArray, List.set_cons_zero, List.set_cons_succ]
  refine roL_one 10 rfl (by kernel_rfl) fun K hK' => ?_
  go_simp
  refine hK' _ _ (fun _ => ⟨cell_alloc HS.1 _, cell_alloc HS.2.1 _, cell_alloc HS.2.2.1 _, cell_alloc HS.2.2.2.1 _, cell_alloc HS.2.2.2.2 _⟩) ?_
  clear hK' K
  try simp only [Act.put, List.setIfInBounds_toArray, List.set_cons_zero, List.set_cons_succ]
  refine roL_one 11 rfl (by kernel_rfl) fun K hK' => ?_
  go_simp
  refine hK' _ _ (fun h => absurd rfl h) ?_
  clear hK' K
  refine roL_done (by kernel_rfl) ?_ _
  have hbl : Below w.heap.size w (w.alloc (.cells #[.int .i64 tk, .string tx, .int .i64 tp] 76)).drew := ((Below.refl _ w).alloc (Nat.le_refl _) _).trans ⟨rfl, rfl, rfl, Nat.le_refl _, fun _ _ => rfl⟩
  have tb : Bk (w.alloc (.cells #[.int .i64 tk, .string tx, .int .i64 tp] 76)).drew w.heap.size #[.int .i64 tk, .string tx, .int .i64 tp] 76 := Bk.new w _ _
  have h3 : PAt (w.alloc (.cells #[.int .i64 tk, .string tx, .int .i64 tp] 76)).drew g _ c T i e p := h2.keep fun k hk => hbl.block k (by have : g < w.heap.size := lt; omega)
  clear h2 u0 u1 s0 s1 s2 HS
  generalize (w.alloc (.cells #[.int .i64 tk, .string tx, .int .i64 tp] 76)).drew = W at *
  have u2 : W.cell? ⟨g, 2, none⟩ = some (.int .i64 e) := h3.cells.cell 2
  have c0 : W.cell? ⟨w.heap.size, 0, none⟩ = some (.int .i64 tk) := tb.cell 0
  have c1 : W.cell? ⟨w.heap.size, 1, none⟩ = some (.string tx) := tb.cell 1
  have e1 := list_dec tx s
  have e2 : (((tk : Nat) : Int) == 2) = decide (tk = 2) := by
    by_cases hk : tk = 2
    · subst hk; rfl
    · rw [decide_eq_false hk, beq_eq_false_iff_ne]; omega
  clear tb h3
  cases q with
  | error x =>
    obtain ⟨rfl, hx, rfl⟩ := hs
    have d0 : (((x.1 : Nat) : Int) == 0) = false := by rw [beq_eq_false_iff_ne]; omega
    generalize decide (tx = s) = f1 at *
    generalize decide (tk = 2) = f2 at *
    generalize keyB s = f3 at *
    clear hd
    go_wp2_with ((with_reducible refine (kk _).mono ?_); rintro e w2 ⟨rfl, rfl⟩)
    go_returns
    exact ⟨rfl, hbl⟩
  | ok l =>
    obtain ⟨rfl, rfl⟩ := hs
    have hT : isU s (.ok (T.drop i)) = (decide (tx = s) && (decide (tk = 2) || keyB s)) := by
      show decide (_ ∧ (_ ∨ _)) = _
      rw [hd]
      simp only [Bool.decide_and, Bool.decide_or, Bool.decide_eq_true]
    have HT := Lib.hid hT
    clear hT hd
    generalize decide (tx = s) = f1 at *
    generalize decide (tk = 2) = f2 at *
    generalize keyB s = f3 at *
    cases f1 <;> cases f2 <;> cases f3
    all_goals go_wp2_with ((with_reducible refine (kk _).mono ?_); rintro e w2 ⟨rfl, rfl⟩)
    all_goals go_returns
    all_goals (refine ⟨?_, hbl⟩; rw [HT.out]; rfl)
theorem rfail30 (h : PSt w g q) : Calls Try.prog 27 #[.pointer (some ⟨g, 0, none⟩), .int .i64 30] w (UPost VUnit w g ((), failU 30 q)) := rfail_any h (c0 := 30) (by decide)
theorem rfail13 (h : PSt w g q) : Calls Try.prog 27 #[.pointer (some ⟨g, 0, none⟩), .int .i64 13] w (UPost VUnit w g ((), failU 13 q)) := rfail_any h (c0 := 13) (by decide)
set_option maxRecDepth 100000 in
theorem rneed_any (h : PSt w g q) {s : ByteArray} (hs : 0 < s.size) : Calls Try.prog 25 #[.pointer (some ⟨g, 0, none⟩), .string s] w (UPost VUnit w g ((), needU s q)) := by
  have k := ris_any h s
  have hlt := h.size
  cases hb : isU s q with
  | true =>
    rw [hb] at k
    have hn : needU s q = upU q := if_pos hb
    obtain ⟨l, rfl, he⟩ := isU_ok hb
    obtain ⟨A, c, T, i, e, p, h, rfl, rfl⟩ := h
    have hf := h.fine.next hs he
    obtain ⟨_, _, _, hi, _⟩ := h.get
    have hm := h.few
    go_enter Try.func25, Try.ntmps25
    go_wp2_with ((with_reducible refine k.mono ?_); rintro e1 w1 ⟨rfl, hb1⟩; have h1 := h.below hb1; have u1 : w1.cell? ⟨g, 1, none⟩ = some (.int .i64 i) := h1.cells.cell 1; have z1 := h1.cells.fz 1; have lt1 := h1.cells.lt)
    go_returns
    refine ⟨(Kp.of_below hb1 g).trans (kp_at g w.heap.size _ 1 _), ⟨_, rfl, rfl⟩, ?_⟩
    rw [hn]
    exact h1.up hf
  | false =>
    rw [hb] at k
    have hn : needU s q = failU 30 q := if_neg (by rw [hb]; decide)
    go_enter Try.func25, Try.ntmps25
    go_wp2_with (first
      | ((with_reducible refine k.mono ?_); rintro e1 w1 ⟨rfl, hb1⟩)
      | ((with_reducible refine (rfail30 (h.below hb1)).mono ?_); rintro e2 w2 ⟨hk, ⟨v, rfl, rfl⟩, h2⟩))
    go_returns
    refine ⟨(Kp.of_below hb1 g).trans (hk.more hb1.size), ⟨_, rfl, rfl⟩, ?_⟩
    rw [hn]
    exact h2
set_option maxRecDepth 100000 in
set_option maxHeartbeats 2000000 in
theorem pname_any (h : PSt w g q) : Calls Try.prog 24 #[.pointer (some ⟨g, 0, none⟩)] w (UPost VStr w g (nameU q)) := by
  have hq := h
  obtain ⟨A, c, T, i, e, p, h, hs⟩ := h
  have hm := h.few
  go_enter Try.func24, Try.ntmps24
  go_wp2_with fail
  have h2 : PAt w.drew g A c T i e p := h.keep fun _ _ => rfl
  have lt := h2.cells.lt
  obtain ⟨b, o, rfl, hi, hb, s0, s1, s2⟩ := h2.get
  generalize hd : hdT (T.drop i) = t at *
  obtain ⟨tk, tx, tp⟩ := t
  dsimp only at s0 s1 s2
  have u0 : w.drew.cell? ⟨g, 0, none⟩ = some (.slice (some ⟨b, o, none⟩) T.length c) := h2.cells.cell 0
  have u1 : w.drew.cell? ⟨g, 1, none⟩ = some (.int .i64 i) := h2.cells.cell 1
  have hi2 : (i : Int) < (T.length : Nat) := by omega
  have hlb := World.block_lt_of_cell? _ _ s0
  dsimp only at hlb
  refine roL_begin (fun W => W.cell? ⟨g, 0, none⟩ = some (.slice (some ⟨b, o, none⟩) T.length c) ∧ W.cell? ⟨g, 1, none⟩ = some (.int .i64 i) ∧ W.cell? ⟨b, o + i * 3, none⟩ = some (.int .i64 tk) ∧ W.cell? ⟨b, o + i * 3 + 1, none⟩ = some (.string tx) ∧ W.cell? ⟨b, o + i * 3 + 2, none⟩ = some (.int .i64 tp)) 11 (by kernel_rfl) ?_
  change wpAnyL _ _ _ _ _ _ _ _ _ (World.drew _)
  have HS : (World.drew _).cell? ⟨g, 0, none⟩ = some (.slice (some ⟨b, o, none⟩) T.length c) ∧ (World.drew _).cell? ⟨g, 1, none⟩ = some (.int .i64 i) ∧ (World.drew _).cell? ⟨b, o + i * 3, none⟩ = some (.int .i64 tk) ∧ (World.drew _).cell? ⟨b, o + i * 3 + 1, none⟩ = some (.string tx) ∧ (World.drew _).cell? ⟨b, o + i * 3 + 2, none⟩ = some (.int .i64 tp) := ⟨u0, u1, s0, s1, s2⟩
  refine roL_take 0 (some 5) (v := ?v0n) rfl rfl (by kernel_rfl) (by decide) (by kernel_rfl) (by kernel_rfl) (by kernel_rfl) (fun _ _ _ h => h) (by rfl) ?y0n HS ?r0n
  case y0n => (intro w hS; (try dsimp only at hS); obtain ⟨q0, q1, t0, t1, t2⟩ := hS; go_simp; try with_reducible rfl)
  simp only [Act.put, List.setIfInBounds_toArray, List.set_cons_zero, List.set_cons_succ]
  refine roL_take 1 (some 6) (v := ?v1n) rfl rfl (by kernel_rfl) (by decide) (by kernel_rfl) (by kernel_rfl) (by kernel_rfl) (fun _ _ _ h => h) (by rfl) ?y1n HS ?r1n
  case y1n => (intro w hS; (try dsimp only at hS); obtain ⟨q0, q1, t0, t1, t2⟩ := hS; go_simp; try with_reducible rfl)
  simp only [Act.put, List.setIfInBounds_toArray, List.set_cons_zero, List.set_cons_succ]
  refine roL_take 2 (some 7) (v := ?v2n) rfl rfl (by kernel_rfl) (by decide) (by kernel_rfl) (by kernel_rfl) (by kernel_rfl) (fun _ _ _ h => h) (by rfl) ?y2n HS ?r2n
  case y2n => (intro w hS; (try dsimp only at hS); obtain ⟨q0, q1, t0, t1, t2⟩ := hS; go_simp; try with_reducible rfl)
  simp only [Act.put, List.setIfInBounds_toArray, List.set_cons_zero, List.set_cons_succ]
  refine roL_take 3 (some 8) (v := ?v3n) rfl rfl (by kernel_rfl) (by decide) (by kernel_rfl) (by kernel_rfl) (by kernel_rfl) (fun _ _ _ h => h) (by rfl) ?y3n HS ?r3n
  case y3n => (intro w hS; (try dsimp only at hS); obtain ⟨q0, q1, t0, t1, t2⟩ := hS; go_simp; try with_reducible rfl)
  simp only [Act.put, List.setIfInBounds_toArray, List.set_cons_zero, List.set_cons_succ]
  refine roL_take 4 (some 9) (v := ?v4n) rfl rfl (by kernel_rfl) (by decide) (by kernel_rfl) (by kernel_rfl) (by kernel_rfl) (fun _ _ _ h => h) (by rfl) ?y4n HS ?r4n
  case y4n => (intro w hS; (try dsimp only at hS); obtain ⟨q0, q1, t0, t1, t2⟩ := hS; go_simp; try with_reducible rfl)
  simp only [Act.put, List.setIfInBounds_toArray, List.set_cons_zero, List.set_cons_succ]
  refine roL_take 5 (some 10) (v := ?v5n) rfl rfl (by kernel_rfl) (by decide) (by kernel_rfl) (by kernel_rfl) (by kernel_rfl) (fun _ _ _ h => h) (by rfl) ?y5n HS ?r5n
  case y5n => (intro w hS; (try dsimp only at hS); obtain ⟨q0, q1, t0, t1, t2⟩ := hS; go_simp; try with_reducible rfl)
  simp only [Act.put, List.setIfInBounds_toArray, List.set_cons_zero, List.set_cons_succ]
  refine roL_take 6 (some 11) (v := ?v6n) rfl rfl (by kernel_rfl) (by decide) (by kernel_rfl) (by kernel_rfl) (by kernel_rfl) (fun _ _ _ h => h) (by rfl) ?y6n HS ?r6n
  case y6n => (intro w hS; (try dsimp only at hS); obtain ⟨q0, q1, t0, t1, t2⟩ := hS; go_simp; try with_reducible rfl)
  simp only [Act.put, List.setIfInBounds_toArray, List.set_cons_zero, List.set_cons_succ]
  refine roL_take 7 (some 12) (v := ?v7n) rfl rfl (by kernel_rfl) (by decide) (by kernel_rfl) (by kernel_rfl) (by kernel_rfl) (fun _ _ _ h => h) (by rfl) ?y7n HS ?r7n
  case y7n => (intro w hS; (try dsimp only at hS); obtain ⟨q0, q1, t0, t1, t2⟩ := hS; go_simp; try with_reducible rfl)
  simp only [Act.put, List.setIfInBounds_toArray, List.set_cons_zero, List.set_cons_succ]
  refine roL_take 8 (some 13) (v := ?v8n) rfl rfl (by kernel_rfl) (by decide) (by kernel_rfl) (by kernel_rfl) (by kernel_rfl) (fun _ _ _ h => h) (by rfl) ?y8n HS ?r8n
  case y8n => (intro w hS; (try dsimp only at hS); obtain ⟨q0, q1, t0, t1, t2⟩ := hS; go_simp; try with_reducible rfl)
  simp only [Act.put, List.setIfInBounds_toArray, List.set_cons_zero, List.set_cons_succ]
  refine roL_take 9 (some 14) (v := ?v9n) rfl rfl (by kernel_rfl) (by decide) (by kernel_rfl) (by kernel_rfl) (by kernel_rfl) (fun _ _ _ h => h) (by rfl) ?y9n HS ?r9n
  case y9n => (intro w hS; (try dsimp only at hS); obtain ⟨q0, q1, t0, t1, t2⟩ := hS; go_simp; try with_reducible rfl)
  simp only [Act.put, List.setIfInBounds_toArray, List.set_cons_zero, List.set_cons_succ]
  refine roL_one 10 rfl (by kernel_rfl) fun K hK' => ?_
  go_simp
  refine hK' _ _ (fun _ => ⟨cell_alloc HS.1 _, cell_alloc HS.2.1 _, cell_alloc HS.2.2.1 _, cell_alloc HS.2.2.2.1 _, cell_alloc HS.2.2.2.2 _⟩) ?_
  clear hK' K
  try simp only [Act.put, List.setIfInBounds_toArray, List.set_cons_zero, List.set_cons_succ]
  refine roL_one 11 rfl (by kernel_rfl) fun K hK' => ?_
  go_simp
  refine hK' _ _ (fun h => absurd rfl h) ?_
  clear hK' K
  refine roL_done (by kernel_rfl) ?_ _
  have hbl : Below w.heap.size w (w.alloc (.cells #[.int .i64 tk, .string tx, .int .i64 tp] 76)).drew := ((Below.refl _ w).alloc (Nat.le_refl _) _).trans ⟨rfl, rfl, rfl, Nat.le_refl _, fun _ _ => rfl⟩
  have tb : Bk (w.alloc (.cells #[.int .i64 tk, .string tx, .int .i64 tp] 76)).drew w.heap.size #[.int .i64 tk, .string tx, .int .i64 tp] 76 := Bk.new w _ _
  have h3 : PAt (w.alloc (.cells #[.int .i64 tk, .string tx, .int .i64 tp] 76)).drew g _ c T i e p := h.below hbl
  have hq3 := hq.below hbl
  clear h h2 u0 u1 s0 s1 s2 HS hq
  generalize (w.alloc (.cells #[.int .i64 tk, .string tx, .int .i64 tp] 76)).drew = W at *
  have u1 : W.cell? ⟨g, 1, none⟩ = some (.int .i64 i) := h3.cells.cell 1
  have u2 : W.cell? ⟨g, 2, none⟩ = some (.int .i64 e) := h3.cells.cell 2
  have z1 := h3.cells.fz 1
  have c0 : W.cell? ⟨w.heap.size, 0, none⟩ = some (.int .i64 tk) := tb.cell 0
  have c1 : W.cell? ⟨w.heap.size, 1, none⟩ = some (.string tx) := tb.cell 1
  have lt3 := h3.cells.lt
  have ltb := tb.lt
  have hgb : (w.heap.size = g) = False := by
    have : g < w.heap.size := lt
    exact eq_false (by omega)
  have hgb2 : (g = w.heap.size) = False := by
    have : g < w.heap.size := lt
    exact eq_false (by omega)
  have kk : ∀ W, _ := fun W => rkey_any tx W
  have e2 : (((tk : Nat) : Int) == 1) = decide (tk = 1) := by
    by_cases hk : tk = 1
    · subst hk; rfl
    · rw [decide_eq_false hk, beq_eq_false_iff_ne]; omega
  have hN : ∀ l, q = .ok l → isN q = (decide (tk = 1) && !keyB tx) := by
    rintro l rfl
    obtain ⟨rfl, rfl⟩ := hs
    show (decide _ && !keyB _) = _
    rw [hd]
  have HN := Lib.hid hN
  clear hN
  have kf : ∀ W, PSt W g q → _ := fun W H => rfail30 (w := W) H
  cases hn : isN q with
  | true =>
    have hq2 : ∃ l, q = .ok l := by
      cases q with
      | error x => cases hn
      | ok l => exact ⟨l, rfl⟩
    obtain ⟨l, rfl⟩ := hq2
    have hN := HN.out l rfl
    rw [hn] at hN
    have hN1 : decide (tk = 1) = true := by revert hN; cases decide (tk = 1) <;> simp
    have hN2 : keyB tx = false := by revert hN; cases keyB tx <;> simp
    obtain ⟨rfl, rfl⟩ := hs
    have hf : Fine (T.drop i).tail := name_fine h3.fine hn
    have hU : nameU (.ok (T.drop i)) = (tx, upU (.ok (T.drop i))) := by
      unfold nameU
      rw [if_pos hn]
      show (((hdT (T.drop i)).2.1, _) : ByteArray × St) = _
      rw [hd]
    have e3 : ((tk : Nat) : Int) = 1 := by have := of_decide_eq_true hN1; omega
    clear e2
    rw [hN2] at kk
    have HU := Lib.hid hU
    clear hU hN hn hd HN hN1 hN2
    go_wp2_with ((with_reducible refine (kk _).mono ?_); rintro e w2 ⟨rfl, rfl⟩)
    go_returns
    refine ⟨(Kp.of_below hbl g).trans (kp_at g w.heap.size _ 1 _), ⟨_, rfl, ?_⟩, ?_⟩
    · rw [HU.out]
      rfl
    · rw [HU.out]
      exact h3.up hf
  | false =>
    have hU : nameU q = (⟨#[]⟩, failU 30 q) := by
      unfold nameU
      rw [if_neg (by rw [hn]; decide)]
    have HU := Lib.hid hU
    cases q with
    | error x =>
      obtain ⟨rfl, hx, rfl⟩ := hs
      have d0 : (((x.1 : Nat) : Int) == 0) = false := by rw [beq_eq_false_iff_ne]; omega
      generalize decide (tk = 1) = f1 at *
      generalize keyB tx = f2 at *
      clear hd HN hU hn
      cases f1 <;> cases f2
      all_goals go_wp2_with (first
        | ((with_reducible refine (kk _).mono ?_); rintro e w2 ⟨rfl, rfl⟩)
        | ((with_reducible refine (kf _ hq3).mono ?_); rintro e w4 ⟨hk, ⟨v, rfl, rfl⟩, h5⟩; obtain ⟨A5, c5, T5, i5, e5, p5, h6, rfl, _, rfl⟩ := id h5; have u5 : w4.cell? ⟨g, 2, none⟩ = some (.int .i64 (x.1 : Nat)) := h6.cells.cell 2))
      all_goals go_returns
      all_goals (first
        | exact ⟨(Kp.of_below hbl g).trans (hk.more hbl.size), ⟨_, rfl, by rw [HU.out]; rfl⟩, by rw [HU.out]; exact h5⟩
        | exact ⟨Kp.of_below hbl g, ⟨_, rfl, by rw [HU.out]; rfl⟩, by rw [HU.out]; exact hq3⟩)
    | ok l =>
      have hN := HN.out l rfl
      rw [hn] at hN
      obtain ⟨rfl, rfl⟩ := hs
      by_cases hk1 : tk = 1
      · have e3 : ((tk : Nat) : Int) = 1 := by omega
        have hkt : keyB tx = true := by
          rw [decide_eq_true hk1] at hN
          revert hN
          cases keyB tx <;> simp
        rw [hkt] at kk
        clear hd HN hU hn hN e2 hk1 hkt
        go_wp2_with (first
          | ((with_reducible refine (kk _).mono ?_); rintro e w2 ⟨rfl, rfl⟩)
          | ((with_reducible refine (kf _ hq3).mono ?_); rintro e w4 ⟨hk, ⟨v, rfl, rfl⟩, h5⟩; obtain ⟨A5, c5, T5, i5, e5, p5, h6, rfl, _, rfl⟩ := id h5; have u5 : w4.cell? ⟨g, 2, none⟩ = some (.int .i64 (30 : Nat)) := h6.cells.cell 2))
        go_returns
        exact ⟨(Kp.of_below hbl g).trans (hk.more hbl.size), ⟨_, rfl, by rw [HU.out]; rfl⟩, by rw [HU.out]; exact h5⟩
      · have e3 : ¬ ((tk : Nat) : Int) = 1 := by omega
        generalize keyB tx = f2 at *
        clear hd HN hU hn hN e2 hk1
        cases f2
        all_goals go_wp2_with (first
          | ((with_reducible refine (kk _).mono ?_); rintro e w2 ⟨rfl, rfl⟩)
          | ((with_reducible refine (kf _ hq3).mono ?_); rintro e w4 ⟨hk, ⟨v, rfl, rfl⟩, h5⟩; obtain ⟨A5, c5, T5, i5, e5, p5, h6, rfl, _, rfl⟩ := id h5; have u5 : w4.cell? ⟨g, 2, none⟩ = some (.int .i64 (30 : Nat)) := h6.cells.cell 2))
        all_goals go_returns
        all_goals exact ⟨(Kp.of_below hbl g).trans (hk.more hbl.size), ⟨_, rfl, by rw [HU.out]; rfl⟩, by rw [HU.out]; exact h5⟩
end
end Go.Proofs.Ytkeonempmchpnaa
