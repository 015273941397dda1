/- PrintBack walked: it answers true. -/
import Derived.BigQuiet
import Derived.Deep.QuietTactic
import Derived.Test.YtkeonempmchpnaaSmlF
import Derived.Test.YtkeonempmchpnaaBackS
import Derived.Test.YtkeonempmchpnaaOf8
import Derived.Test.YtkeonempmchpnaaSame7
import Derived.Test.YtkeonempmchpnaaAwake8
import Derived.Test.YtkeonempmchpnaaFrame
namespace Go.Proofs.Ytkeonempmchpnaa
open Go.RowKit

theorem DVTyps.keep8 {w w' : World} {B : Nat} {v : Value} {l : List TypP} (h : DVTyps B w v l) (hb : Below w.heap.size w w') : DVTyps B w' v l := by
  obtain ⟨xs, h1, h2⟩ := h
  exact ⟨xs, own_below h1 hb, h2.keep (dkeeps3_below hb)⟩
theorem parse_named8 (s : ByteArray) (hz : s.size ≤ 90000000000000) {l : List TypP} {e p : Nat} (h : parseS s = (l, e, p)) (W : World) :
    Calls Try.prog 9 #[.string s] W fun r w' => (∃ A c, r = .returned (.tuple #[.agg #[.slice A l.length c], .int .i64 e, .int .i64 p]) ∧ VTyps W.heap.size w' (.slice A l.length c) l) ∧ Below W.heap.size W w' := by
  have k := parse_any s W (by unfold maxLen; omega)
  rw [h] at k
  refine k.mono fun r w' ⟨vt, h1, h2, h3⟩ => ?_
  obtain ⟨A, c, rfl, _⟩ := Rd.own h2.choose_spec.1
  exact ⟨⟨A, c, h1, h2⟩, h3⟩
set_option maxRecDepth 100000 in
set_option maxHeartbeats 8000000 in
theorem printBack_walk (s0 : ByteArray) (w : World) (_f0 : s0.size ≤ maxLen) :
    Calls Try.prog 5 #[.string s0] w fun e w' => e = .returned (.bool true) ∧ Below w.heap.size w w' := by
  by_cases h0 : 1500 < s0.size
  · have hd : (1500 : Int) < (s0.size : Nat) := by omega
    go_enter Try.func5, Try.ntmps5
    go_wp2_with ((with_reducible refine (awake8_any _).mono ?_); rintro e w1 ⟨rfl, hb1⟩)
    go_ret
    exact ⟨rfl, hb1⟩
  · have hd : ¬ (1500 : Int) < (s0.size : Nat) := by omega
    obtain ⟨T, ea, pa, ha⟩ : ∃ T e p, parseS s0 = (T, e, p) := ⟨_, _, _, rfl⟩
    have ka := fun W => parse_named s0 (by omega) ha W
    have hsh := says_shw s0
    have hgd := parse_goodT s0
    rw [ha] at hsh hgd
    dsimp only at hsh hgd
    have hTl := hsh.len
    clear ha
    by_cases he : ea = 0
    · subst he
      go_enter Try.func5, Try.ntmps5
      go_wp2_with (first
        | ((with_reducible refine (awake8_any _).mono ?_); rintro e w1 ⟨rfl, hb1⟩)
        | ((with_reducible refine (ka _).mono ?_); rintro e w2 ⟨⟨Aa, ca, rfl, hva⟩, hb2⟩))
      have h12 := hb1.trans (hb2.mono hb1.size)
      have hal : Below w2.heap.size w2 (w2.alloc (.cells #[.slice Aa T.length ca] 25)) := (Below.refl _ w2).alloc (Nat.le_refl _) _
      have hx := Bk.new w2 #[.slice Aa T.length ca] 25
      have hva2 := hva.below hal
      have h13 := h12.trans (hal.mono h12.size)
      clear hva hb1 hb2 h12 ka
      generalize w2.alloc (.cells #[.slice Aa T.length ca] 25) = w3 at *
      refine (show_any8 hva2 hsh.len hsh.sml hsh.size).mono ?_
      rintro e w4 ⟨rfl, hb4⟩
      have hx4 := hx.below hb4
      have hva4 := hva2.below hb4
      have h14 := h13.trans (hb4.mono h13.size)
      clear hx hva2 hb4 h13 hal
      have hszT := hsh.size
      by_cases hlong : 2048 < (showS T).size
      · have kb := fun W => parse_named8 (showS T) hszT (parse_long hlong) W
        have dl : (2048 : Int) < ((showS T).size : Nat) := by omega
        generalize showS T = ST at *
        go_wp2_with fail
        refine (kb _).mono ?_
        rintro e w5 ⟨⟨Ab, cb, rfl, hvb⟩, hb5⟩
        have h15 := h14.trans (hb5.mono h14.size)
        clear kb
        go_wp2_with fail
        go_ret
        exact ⟨rfl, h15.alloc h15.size _⟩
      · have kb := fun W => parse_named8 (showS T) hszT (parse_back hgd (by omega)) W
        have dl : ¬ (2048 : Int) < ((showS T).size : Nat) := by omega
        go_wp2_with fail
        refine (kb _).mono ?_
        rintro e w5 ⟨⟨Ab, cb, rfl, hvb⟩, hb5⟩
        have h15 := h14.trans (hb5.mono h14.size)
        have hal : Below w5.heap.size w5 (w5.alloc (.cells #[.slice Ab T.length cb] 25)) := (Below.refl _ w5).alloc (Nat.le_refl _) _
        have hx6 := (hx4.below hb5).below hal
        have hy6 := Bk.new w5 #[.slice Ab T.length cb] 25
        have hva6 := (hva4.below hb5).below hal
        have hvb6 := hvb.below hal
        have h16 := h15.trans (hal.mono h15.size)
        clear kb hx4 hva4 hvb hb5 hal h14 h15
        go_wp2_with fail
        generalize w5.alloc (.cells #[.slice Ab T.length cb] 25) = w6 at *
        refine wp_region_held (S := fun W => W.cell? ⟨w2.heap.size, 0, none⟩ = some (.slice Aa T.length ca) ∧ W.cell? ⟨w5.heap.size, 0, none⟩ = some (.slice Ab T.length cb)) (by kernel_rfl) ?_
        change wpAnyH _ _ _ _ _ _ _ _ (World.drew _)
        have hbd : Below w6.heap.size w6 (World.drew w6) := ⟨rfl, rfl, rfl, Nat.le_refl _, fun _ _ => rfl⟩
        generalize World.drew w6 = Wa at *
        have HSWa : Wa.cell? ⟨w2.heap.size, 0, none⟩ = some (.slice Aa T.length ca) ∧ Wa.cell? ⟨w5.heap.size, 0, none⟩ = some (.slice Ab T.length cb) := ⟨(hx6.below hbd).cell 0, (hy6.below hbd).cell 0⟩
        have va := hva6.below hbd
        have vb := hvb6.below hbd
        refine roH_take 0 (some 38) (v := ?v0r13) rfl rfl (by kernel_rfl) (by kernel_rfl) (by kernel_rfl) (fun _ _ _ h => h) (by rfl) ?y0r13 HSWa ?r0r13
        case y0r13 => (intro w hS; (try dsimp only at hS); obtain ⟨q0, q1⟩ := hS; go_simp; try with_reducible rfl)
        simp only [Act.put, List.setIfInBounds_toArray, List.set_cons_zero, List.set_cons_succ]
        refine roH_take 1 (some 39) (v := ?v1r13) rfl rfl (by kernel_rfl) (by kernel_rfl) (by kernel_rfl) (fun _ _ _ h => h) (by rfl) ?y1r13 HSWa ?r1r13
        case y1r13 => (intro w hS; (try dsimp only at hS); obtain ⟨q0, q1⟩ := hS; go_simp; try with_reducible rfl)
        simp only [Act.put, List.setIfInBounds_toArray, List.set_cons_zero, List.set_cons_succ]
        refine roH_take 2 (some 40) (v := ?v2r13) rfl rfl (by kernel_rfl) (by kernel_rfl) (by kernel_rfl) (fun _ _ _ h => h) (by rfl) ?y2r13 HSWa ?r2r13
        case y2r13 => (intro w hS; (try dsimp only at hS); obtain ⟨q0, q1⟩ := hS; go_simp; try with_reducible rfl)
        simp only [Act.put, List.setIfInBounds_toArray, List.set_cons_zero, List.set_cons_succ]
        refine roH_take 3 (some 41) (v := ?v3r13) rfl rfl (by kernel_rfl) (by kernel_rfl) (by kernel_rfl) (fun _ _ _ h => h) (by rfl) ?y3r13 HSWa ?r3r13
        case y3r13 => (intro w hS; (try dsimp only at hS); obtain ⟨q0, q1⟩ := hS; go_simp; try with_reducible rfl)
        simp only [Act.put, List.setIfInBounds_toArray, List.set_cons_zero, List.set_cons_succ]
        refine roH_take 5 (some 43) (v := ?v5r13) rfl rfl (by kernel_rfl) (by kernel_rfl) (by kernel_rfl) (fun _ _ _ h => h) (by rfl) ?y5r13 HSWa ?r5r13
        case y5r13 => (intro w hS; (try dsimp only at hS); obtain ⟨q0, q1⟩ := hS; go_simp; try with_reducible rfl)
        simp only [Act.put, List.setIfInBounds_toArray, List.set_cons_zero, List.set_cons_succ]
        refine roH_one 4 rfl (by kernel_rfl) fun K hK' => ?_
        go_simp
        refine (of8_any va hsh.few).mono ?_
        rintro e Wb ⟨⟨v1, rfl, d1⟩, hbWb⟩
        have HSWb : Wb.cell? ⟨w2.heap.size, 0, none⟩ = some (.slice Aa T.length ca) ∧ Wb.cell? ⟨w5.heap.size, 0, none⟩ = some (.slice Ab T.length cb) := ⟨cell_under HSWa.1 hbWb, cell_under HSWa.2 hbWb⟩
        have vb2 := vb.below hbWb
        refine hK' _ _ HSWb ?_
        clear hK' K
        (try simp only [Act.put, List.setIfInBounds_toArray, List.set_cons_zero, List.set_cons_succ])
        refine roH_one 6 rfl (by kernel_rfl) fun K hK' => ?_
        go_simp
        refine (of8_any vb2 hsh.few).mono ?_
        rintro e Wc ⟨⟨v2, rfl, d2⟩, hbWc⟩
        have HSWc : Wc.cell? ⟨w2.heap.size, 0, none⟩ = some (.slice Aa T.length ca) ∧ Wc.cell? ⟨w5.heap.size, 0, none⟩ = some (.slice Ab T.length cb) := ⟨cell_under HSWb.1 hbWc, cell_under HSWb.2 hbWc⟩
        have vb3 := vb2.below hbWc
        have d1c := d1.keep8 hbWc
        refine hK' _ _ HSWc ?_
        clear hK' K
        (try simp only [Act.put, List.setIfInBounds_toArray, List.set_cons_zero, List.set_cons_succ])
        refine roH_one 7 rfl (by kernel_rfl) fun K hK' => ?_
        go_simp
        refine (same_any d1c d2 hsh.few).mono ?_
        rintro e Wd ⟨rfl, hbWd⟩
        have HSWd : Wd.cell? ⟨w2.heap.size, 0, none⟩ = some (.slice Aa T.length ca) ∧ Wd.cell? ⟨w5.heap.size, 0, none⟩ = some (.slice Ab T.length cb) := ⟨cell_under HSWc.1 hbWd, cell_under HSWc.2 hbWd⟩
        have vb4 := vb3.below hbWd
        refine hK' _ _ HSWd ?_
        clear hK' K
        (try simp only [Act.put, List.setIfInBounds_toArray, List.set_cons_zero, List.set_cons_succ])
        refine roH_take 8 (some 46) (v := ?v8r13) rfl rfl (by kernel_rfl) (by kernel_rfl) (by kernel_rfl) (fun _ _ _ h => h) (by rfl) ?y8r13 HSWd ?r8r13
        case y8r13 => (intro w hS; (try dsimp only at hS); obtain ⟨q0, q1⟩ := hS; go_simp; try with_reducible rfl)
        simp only [Act.put, List.setIfInBounds_toArray, List.set_cons_zero, List.set_cons_succ]
        refine roH_take 9 (some 47) (v := ?v9r13) rfl rfl (by kernel_rfl) (by kernel_rfl) (by kernel_rfl) (fun _ _ _ h => h) (by rfl) ?y9r13 HSWd ?r9r13
        case y9r13 => (intro w hS; (try dsimp only at hS); obtain ⟨q0, q1⟩ := hS; go_simp; try with_reducible rfl)
        simp only [Act.put, List.setIfInBounds_toArray, List.set_cons_zero, List.set_cons_succ]
        refine roH_take 10 (some 48) (v := ?v10r13) rfl rfl (by kernel_rfl) (by kernel_rfl) (by kernel_rfl) (fun _ _ _ h => h) (by rfl) ?y10r13 HSWd ?r10r13
        case y10r13 => (intro w hS; (try dsimp only at hS); obtain ⟨q0, q1⟩ := hS; go_simp; try with_reducible rfl)
        simp only [Act.put, List.setIfInBounds_toArray, List.set_cons_zero, List.set_cons_succ]
        refine roH_take 12 (some 50) (v := ?v12r13) rfl rfl (by kernel_rfl) (by kernel_rfl) (by kernel_rfl) (fun _ _ _ h => h) (by rfl) ?y12r13 HSWd ?r12r13
        case y12r13 => (intro w hS; (try dsimp only at hS); obtain ⟨q0, q1⟩ := hS; go_simp; try with_reducible rfl)
        simp only [Act.put, List.setIfInBounds_toArray, List.set_cons_zero, List.set_cons_succ]
        refine roH_one 11 rfl (by kernel_rfl) fun K hK' => ?_
        go_simp
        refine (show_any8 vb4 hsh.len hsh.sml hsh.size).mono ?_
        rintro e We ⟨rfl, hbWe⟩
        have HSWe : We.cell? ⟨w2.heap.size, 0, none⟩ = some (.slice Aa T.length ca) ∧ We.cell? ⟨w5.heap.size, 0, none⟩ = some (.slice Ab T.length cb) := ⟨cell_under HSWd.1 hbWe, cell_under HSWd.2 hbWe⟩
        generalize showS T = ST at *
        refine hK' _ _ HSWe ?_
        clear hK' K
        (try simp only [Act.put, List.setIfInBounds_toArray, List.set_cons_zero, List.set_cons_succ])
        refine roH_take 13 (some 51) (v := ?v13r13) rfl rfl (by kernel_rfl) (by kernel_rfl) (by kernel_rfl) (fun _ _ _ h => h) (by rfl) ?y13r13 HSWe ?r13r13
        case y13r13 => (intro w hS; (try dsimp only at hS); obtain ⟨q0, q1⟩ := hS; go_simp; try with_reducible rfl)
        simp only [Act.put, List.setIfInBounds_toArray, List.set_cons_zero, List.set_cons_succ]
        refine roH_take 14 (some 52) (v := ?v14r13) rfl rfl (by kernel_rfl) (by kernel_rfl) (by kernel_rfl) (fun _ _ _ h => h) (by rfl) ?y14r13 HSWe ?r14r13
        case y14r13 => (intro w hS; (try dsimp only at hS); obtain ⟨q0, q1⟩ := hS; go_simp; try with_reducible rfl)
        simp only [Act.put, List.setIfInBounds_toArray, List.set_cons_zero, List.set_cons_succ]
        refine roH_one 15 rfl (by kernel_rfl) fun K hK' => ?_
        go_simp
        refine hK' _ _ HSWe ?_
        clear hK' K
        refine wpAnyH_done (by kernel_rfl) ?_ _
        go_wp2_with fail
        have k1 := hbd.trans (hbWb.mono hbd.size)
        have k2 := k1.trans (hbWc.mono k1.size)
        have k3 := k2.trans (hbWd.mono k2.size)
        have k4 := k3.trans (hbWe.mono k3.size)
        go_ret
        exact ⟨rfl, h16.trans (k4.mono h16.size)⟩
    · have dz : (((ea : Nat) : Int) == 0) = false := by rw [beq_eq_false_iff_ne]; omega
      go_enter Try.func5, Try.ntmps5
      go_wp2_with (first
        | ((with_reducible refine (awake8_any _).mono ?_); rintro e w1 ⟨rfl, hb1⟩)
        | ((with_reducible refine (ka _).mono ?_); rintro e w2 ⟨⟨Aa, ca, rfl, hva⟩, hb2⟩))
      have h12 := hb1.trans (hb2.mono hb1.size)
      go_ret
      exact ⟨rfl, h12.alloc h12.size _⟩
end Go.Proofs.Ytkeonempmchpnaa
