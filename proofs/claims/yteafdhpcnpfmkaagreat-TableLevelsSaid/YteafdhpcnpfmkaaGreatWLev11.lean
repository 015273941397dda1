/- TableLevels walked. Conditions: none. -/
import Derived.Test.YteafdhpcnpfmkaaGreatTabL
import Derived.Test.YteafdhpcnpfmkaaGreatAwake11
namespace Go.Proofs.YteafdhpcnpfmkaaGreat
open Go.RowKit

set_option maxRecDepth 100000 in
set_option maxHeartbeats 4000000 in
theorem tableLevels_walk (s0 : ByteArray) (w : World) (_f0 : s0.size ≤ maxLen) :
    Calls Tryz.prog 5 #[.string s0] w fun e w' => e = .returned (.bool true) ∧ Below w.heap.size w w' := by
  have ka := awake11_any w
  by_cases h0 : 1500 < s0.size
  · have hd : (s0.size : Int) > 1500 := by omega
    go_enter Tryz.func5, Tryz.ntmps5
    go_wp2_with (go_at_call 8; refine ka.mono ?_; rintro e w1 ⟨rfl, hb⟩)
    go_ret
    exact ⟨rfl, hb⟩
  · have hd : ¬ (s0.size : Int) > 1500 := by omega
    go_enter Tryz.func5, Tryz.ntmps5
    go_upto_region 6 with (go_at_call 8; refine ka.mono ?_; rintro e w1 ⟨rfl, hb⟩)
    have kc := compile_any s0 (by omega) w1
    go_upto_region 7 with (go_at_call 9; refine kc.mono ?_; rintro e w2 ⟨⟨tx, Ay, cy, ty, mb, ps, Ar, cr, K, err, rfl, hT, hC⟩, hb1⟩)
    replace hb := bthenZ hb hb.size hb1
    have dT := Bk.new w2 #[.string tx, .slice Ay ty.length cy, .map mb, .slice Ar K.length cr] 27
    have hbn := bnewZ w2 (.cells #[.string tx, .slice Ay ty.length cy, .map mb, .slice Ar K.length cr] 27)
    replace hT := hT.up hbn
    replace hb := bthenZ hb hb.size hbn
    clear hbn kc hb1 ka
    generalize w2.alloc (.cells #[.string tx, .slice Ay ty.length cy, .map mb, .slice Ar K.length cr] 27) = w3 at *
    generalize w2.heap.size = g1 at *
    rcases hC.yes with ⟨he, _, _, _, _⟩ | ⟨he, v, hok⟩
    · have he' : ¬ ((err : Int) = 0) := by omega
      clear hC
      go_wp2_with fail
      go_ret
      exact ⟨rfl, hb⟩
    · subst he
      rw [show ((0 : Nat) : Int) = 0 from rfl]
      have hKn := hok.lenK
      have hK96 := hok.few
      have hty := Lib.hid hok.types
      replace hKn := Lib.hid hKn
      replace hok := Lib.hid hok
      clear hC
      have hKi : (K.length : Int) ≤ 9223372036854775807 := by omega
      go_wp2_with fail
      go_loopw [6] (fun vi wx => ∃ i : Nat, vi = .int .i64 i ∧ i ≤ K.length ∧ Below w3.heap.size w3 wx) (fun vi _ => K.length - (intOf vi).toNat)
      case atStart => exact ⟨0, rfl, Nat.zero_le _, Below.refl _ _⟩
      case round =>
        obtain ⟨i, rfl, hi, hbx⟩ := hrel
        replace hT := hT.up hbx
        replace dT := dT.below hbx
        by_cases hil : i < K.length
        · have hdi : (i : Int) < (K.length : Int) := by omega
          have wi := wf11 (n := i) (by omega)
          obtain ⟨_, hl0, hln⟩ := hok.out.lev hil
          have hsame := Lib.hid fun (j : Nat) (k r : Int) (nx : ByteArray) => hok.out.same (j := j) (k := k) (r := r) (nx := nx) hil
          have hfew := (hT.rels.at_ok i).few
          obtain ⟨ops, hops⟩ : ∃ ops, (atK K i).r.ops = ops := ⟨_, rfl⟩
          rw [hops] at hsame hfew
          replace hops := Lib.hid hops
          obtain ⟨c0, c1, c2, c3⟩ := dT.c4
          have cl := dT.lt
          have kk := tlen_any (tx := tx) (Ay := Ay) (ny := ty.length) (cy := cy) (mb := mb) hT.rels
          go_upto_region 12 with (go_at_call 11; refine kk.mono ?_; rintro e wn ⟨rfl, hb3⟩)
          replace hT := hT.up hb3
          replace dT := dT.below hb3
          replace hbx := bthenZ hbx hbx.size hb3
          clear hb3 kk c0 c1 c2 c3 cl
          obtain ⟨c0, c1, c2, c3⟩ := dT.c4
          have cl := dT.lt
          have kk : Calls Tryz.prog 20 #[.agg #[.string tx, .slice Ay ty.length cy, .map mb, .slice Ar K.length cr], .int .i64 (i : Int)] _ _ := tops_any (tx := tx) (Ay := Ay) (ny := ty.length) (cy := cy) (mb := mb) hT.rels (i : Int) wi
          rw [hops.out] at kk
          go_upto_region 13 with (go_at_call 20; refine kk.mono ?_; rintro e wn ⟨⟨Ao, co, rfl, hown⟩, hb3⟩)
          replace hT := hT.up hb3
          replace dT := dT.below hb3
          replace hbx := bthenZ hbx hbx.size hb3
          obtain ⟨A9, c9, e9, hO⟩ := Rd.own hown
          cases e9
          clear hb3 kk c0 c1 c2 c3 cl hown
          have hoi : (ops.length : Int) ≤ 9223372036854775807 := by omega
          go_wp2_with fail
          go_loopw [8] (fun vi wx => ∃ j : Nat, vi = .int .i64 j ∧ j ≤ ops.length ∧ Below wn.heap.size wn wx) (fun vi _ => ops.length - (intOf vi).toNat)
          case atStart => exact ⟨0, rfl, Nat.zero_le _, Below.refl _ _⟩
          case round =>
            obtain ⟨j, rfl, hj, hby⟩ := hrel
            replace hT := hT.up hby
            replace dT := dT.below hby
            replace hO := hO.up hby
            replace hbx := bthenZ hbx hbx.size hby
            by_cases hjl : j < ops.length
            · have hdj : (j : Int) < (ops.length : Int) := by omega
              obtain ⟨⟨k, r, nx⟩, ho⟩ : ∃ o, ops[j]? = some o := ⟨_, List.getElem?_eq_getElem hjl⟩
              have hs := hsame.out j k r nx ho
              obtain ⟨bo, oo, rfl, hbo, z0, z1, z2⟩ := otcells_at hO ho rfl
              simp only at z0 z1 z2
              go_upto_region 16 with (fail)
              by_cases hk : k = 2
              · obtain ⟨a, rfl, hal, hle, _⟩ := hs hk
                subst hk
                have hng : ¬ lvAt v a > lvAt v i := by omega
                clear hs ho
                refine wp_region_any (by kernel_rfl) ?_
                change wpAny _ _ _ _ _ _ _ (World.drew _)
                generalize hdw : World.drew wr = wza at *
                have hbd : Below wr.heap.size wr wza := by subst hdw; exact ⟨rfl, rfl, rfl, Nat.le_refl _, fun _ _ => rfl⟩
                replace hT := hT.up hbd
                replace dT := dT.below hbd
                replace hO := hO.up hbd
                replace hbx := bthenZ hbx hbx.size hbd
                replace hby := bthenZ hby hby.size hbd
                replace z0 := cell_unde z0 hbd
                replace z1 := cell_unde z1 hbd
                have kL := fun (W : World) (q : Nat) (h : Below wza.heap.size wza W) (hq : q < K.length) => (by { have z := tlevel_any (tx := tx) (Ay := Ay) (ny := ty.length) (cy := cy) (mb := mb) (hT.rels.up h) (q : Int) (wf11 (by omega)); rw [(hok.out.lev hq).1] at z; exact z } : Calls Tryz.prog 23 #[.agg #[.string tx, .slice Ay ty.length cy, .map mb, .slice Ar K.length cr], .int .i64 (q : Nat)] W fun e w' => e = .returned (.int .i64 (lvAt v q)) ∧ Below W.heap.size W w')
                have kN := fun (W : World) (h : Below wza.heap.size wza W) => tlen_any (tx := tx) (Ay := Ay) (ny := ty.length) (cy := cy) (mb := mb) (hT.rels.up h)
                clear hdw hbd
                have hSk : ∀ W, Below wza.heap.size wza W → (W.cell? ⟨g1, 0, none⟩ = some (.string tx) ∧ W.cell? ⟨g1, 1, none⟩ = some (.slice Ay ty.length cy) ∧ W.cell? ⟨g1, 2, none⟩ = some (.map mb) ∧ W.cell? ⟨g1, 3, none⟩ = some (.slice Ar K.length cr) ∧ W.cell? ⟨bo, oo + j * 3, none⟩ = some (.int .i64 2) ∧ W.cell? ⟨bo, oo + j * 3 + 1, none⟩ = some (.int .i64 (a : Nat))) := fun W hb => ⟨(dT.below hb).cell 0, (dT.below hb).cell 1, (dT.below hb).cell 2, (dT.below hb).cell 3, cell_unde z0 hb, cell_unde z1 hb⟩
                have hz0 := Below.refl wza.heap.size wza
                have HS := hSk _ hz0
                refine wpAny_of_held (S := fun W => W.cell? ⟨g1, 0, none⟩ = some (.string tx) ∧ W.cell? ⟨g1, 1, none⟩ = some (.slice Ay ty.length cy) ∧ W.cell? ⟨g1, 2, none⟩ = some (.map mb) ∧ W.cell? ⟨g1, 3, none⟩ = some (.slice Ar K.length cr) ∧ W.cell? ⟨bo, oo + j * 3, none⟩ = some (.int .i64 2) ∧ W.cell? ⟨bo, oo + j * 3 + 1, none⟩ = some (.int .i64 (a : Nat))) _ _ _ _ ?_
                refine roH_take 0 (some 37) (v := ?v0a) rfl rfl (by kernel_rfl) (by kernel_rfl) (by kernel_rfl) (fun _ _ _ h => h) (by rfl) ?y0a HS ?r0a
                case y0a => (intro W hS; go_simp; try with_reducible rfl)
                simp only [Act.put, List.setIfInBounds_toArray, List.set_cons_zero, List.set_cons_succ]
                refine roH_take 1 (some 38) (v := ?v1a) rfl rfl (by kernel_rfl) (by kernel_rfl) (by kernel_rfl) (fun _ _ _ h => h) (by rfl) ?y1a HS ?r1a
                case y1a => (intro W hS; go_simp; try with_reducible rfl)
                simp only [Act.put, List.setIfInBounds_toArray, List.set_cons_zero, List.set_cons_succ]
                refine roH_take 2 (some 39) (v := ?v2a) rfl rfl (by kernel_rfl) (by kernel_rfl) (by kernel_rfl) (fun _ _ _ h => h) (by rfl) ?y2a HS ?r2a
                case y2a => (intro W hS; go_simp; try with_reducible rfl)
                simp only [Act.put, List.setIfInBounds_toArray, List.set_cons_zero, List.set_cons_succ]
                refine roH_take 3 (some 40) (v := ?v3a) rfl rfl (by kernel_rfl) (by kernel_rfl) (by kernel_rfl) (fun _ _ _ h => h) (by rfl) ?y3a HS ?r3a
                case y3a => (intro W hS; go_simp; try with_reducible rfl)
                simp only [Act.put, List.setIfInBounds_toArray, List.set_cons_zero, List.set_cons_succ]
                refine roH_take 4 (some 41) (v := ?v4a) rfl rfl (by kernel_rfl) (by kernel_rfl) (by kernel_rfl) (fun _ _ _ h => h) (by rfl) ?y4a HS ?r4a
                case y4a => (intro W hS; obtain ⟨s0, s1, s2, s3, s4, s5⟩ := hS; go_simp; try with_reducible rfl)
                simp only [Act.put, List.setIfInBounds_toArray, List.set_cons_zero, List.set_cons_succ]
                refine roH_take 5 (some 42) (v := ?v5a) rfl rfl (by kernel_rfl) (by kernel_rfl) (by kernel_rfl) (fun _ _ _ h => h) (by rfl) ?y5a HS ?r5a
                case y5a => (intro W hS; go_simp; try with_reducible rfl)
                simp only [Act.put, List.setIfInBounds_toArray, List.set_cons_zero, List.set_cons_succ]
                refine roH_take 6 (some 43) (v := ?v6a) rfl rfl (by kernel_rfl) (by kernel_rfl) (by kernel_rfl) (fun _ _ _ h => h) (by rfl) ?y6a HS ?r6a
                case y6a => (intro W hS; go_simp; try with_reducible rfl)
                simp only [Act.put, List.setIfInBounds_toArray, List.set_cons_zero, List.set_cons_succ]
                refine roH_take 7 (some 44) (v := ?v7a) rfl rfl (by kernel_rfl) (by kernel_rfl) (by kernel_rfl) (fun _ _ _ h => h) (by rfl) ?y7a HS ?r7a
                case y7a => (intro W hS; obtain ⟨s0, s1, s2, s3, s4, s5⟩ := hS; go_simp; try with_reducible rfl)
                simp only [Act.put, List.setIfInBounds_toArray, List.set_cons_zero, List.set_cons_succ]
                refine roH_take 8 (some 45) (v := ?v8a) rfl rfl (by kernel_rfl) (by kernel_rfl) (by kernel_rfl) (fun _ _ _ h => h) (by rfl) ?y8a HS ?r8a
                case y8a => (intro W hS; go_simp; try with_reducible rfl)
                simp only [Act.put, List.setIfInBounds_toArray, List.set_cons_zero, List.set_cons_succ]
                refine roH_take 9 (some 46) (v := ?v9a) rfl rfl (by kernel_rfl) (by kernel_rfl) (by kernel_rfl) (fun _ _ _ h => h) (by rfl) ?y9a HS ?r9a
                case y9a => (intro W hS; go_simp; try with_reducible rfl)
                simp only [Act.put, List.setIfInBounds_toArray, List.set_cons_zero, List.set_cons_succ]
                refine roH_take 10 (some 47) (v := ?v10a) rfl rfl (by kernel_rfl) (by kernel_rfl) (by kernel_rfl) (fun _ _ _ h => h) (by rfl) ?y10a HS ?r10a
                case y10a => (intro W hS; go_simp; try with_reducible rfl)
                simp only [Act.put, List.setIfInBounds_toArray, List.set_cons_zero, List.set_cons_succ]
                refine roH_take 11 (some 48) (v := ?v11a) rfl rfl (by kernel_rfl) (by kernel_rfl) (by kernel_rfl) (fun _ _ _ h => h) (by rfl) ?y11a HS ?r11a
                case y11a => (intro W hS; go_simp; try with_reducible rfl)
                simp only [Act.put, List.setIfInBounds_toArray, List.set_cons_zero, List.set_cons_succ]
                refine roH_take 12 (some 49) (v := ?v12a) rfl rfl (by kernel_rfl) (by kernel_rfl) (by kernel_rfl) (fun _ _ _ h => h) (by rfl) ?y12a HS ?r12a
                case y12a => (intro W hS; obtain ⟨s0, s1, s2, s3, s4, s5⟩ := hS; go_simp; try with_reducible rfl)
                simp only [Act.put, List.setIfInBounds_toArray, List.set_cons_zero, List.set_cons_succ]
                refine roH_take 14 (some 51) (v := ?v14a) rfl rfl (by kernel_rfl) (by kernel_rfl) (by kernel_rfl) (fun _ _ _ h => h) (by rfl) ?y14a HS ?r14a
                case y14a => (intro W hS; obtain ⟨s0, s1, s2, s3, s4, s5⟩ := hS; go_simp; try with_reducible rfl)
                simp only [Act.put, List.setIfInBounds_toArray, List.set_cons_zero, List.set_cons_succ]
                refine roH_take 15 (some 52) (v := ?v15a) rfl rfl (by kernel_rfl) (by kernel_rfl) (by kernel_rfl) (fun _ _ _ h => h) (by rfl) ?y15a HS ?r15a
                case y15a => (intro W hS; go_simp; try with_reducible rfl)
                simp only [Act.put, List.setIfInBounds_toArray, List.set_cons_zero, List.set_cons_succ]
                refine roH_one 13 rfl (by kernel_rfl) ?_
                intro Kf hKf
                go_simp
                refine (kL _ a hz0 hal).mono ?_
                rintro e W1a ⟨rfl, hc1a⟩
                have hz1a : Below wza.heap.size wza W1a := bthenZ hz0 hz0.size hc1a
                replace HS := hSk _ hz1a
                refine hKf _ _ HS ?_
                clear hKf Kf
                refine roH_one 16 rfl (by kernel_rfl) ?_
                intro Kf hKf
                go_simp
                refine (kL _ i hz1a hil).mono ?_
                rintro e W2a ⟨rfl, hc2a⟩
                have hz2a : Below wza.heap.size wza W2a := bthenZ hz1a hz1a.size hc2a
                replace HS := hSk _ hz2a
                refine hKf _ _ HS ?_
                clear hKf Kf
                refine roH_take 17 (some 54) (v := ?v17a) rfl rfl (by kernel_rfl) (by kernel_rfl) (by kernel_rfl) (fun _ _ _ h => h) (by rfl) ?y17a HS ?r17a
                case y17a => (intro W hS; go_simp; try with_reducible rfl)
                simp only [Act.put, List.setIfInBounds_toArray, List.set_cons_zero, List.set_cons_succ]
                refine roH_take 18 (some 55) (v := ?v18a) rfl rfl (by kernel_rfl) (by kernel_rfl) (by kernel_rfl) (fun _ _ _ h => h) (by rfl) ?y18a HS ?r18a
                case y18a => (intro W hS; go_simp; try with_reducible rfl)
                simp only [Act.put, List.setIfInBounds_toArray, List.set_cons_zero, List.set_cons_succ]
                refine wpAnyH_done (by kernel_rfl) ?_ _
                replace hT := hT.up hz2a
                replace dT := dT.below hz2a
                replace hO := hO.up hz2a
                replace hbx := bthenZ hbx hbx.size hz2a
                replace hby := bthenZ hby hby.size hz2a
                clear HS hSk kL kN
                go_wp2_with fail
                exact ⟨⟨j + 1, by go_num, by omega, hby⟩, by simp [intOf]; omega⟩
              · have hk2 : (k == 2) = false := by simpa using hk
                clear hs ho
                refine wp_region_any (by kernel_rfl) ?_
                change wpAny _ _ _ _ _ _ _ (World.drew _)
                generalize hdw : World.drew wr = wzb at *
                have hbd : Below wr.heap.size wr wzb := by subst hdw; exact ⟨rfl, rfl, rfl, Nat.le_refl _, fun _ _ => rfl⟩
                replace hT := hT.up hbd
                replace dT := dT.below hbd
                replace hO := hO.up hbd
                replace hbx := bthenZ hbx hbx.size hbd
                replace hby := bthenZ hby hby.size hbd
                replace z0 := cell_unde z0 hbd
                clear hdw hbd
                have hSk : ∀ W, Below wzb.heap.size wzb W → (W.cell? ⟨g1, 0, none⟩ = some (.string tx) ∧ W.cell? ⟨g1, 1, none⟩ = some (.slice Ay ty.length cy) ∧ W.cell? ⟨g1, 2, none⟩ = some (.map mb) ∧ W.cell? ⟨g1, 3, none⟩ = some (.slice Ar K.length cr) ∧ W.cell? ⟨bo, oo + j * 3, none⟩ = some (.int .i64 k)) := fun W hb => ⟨(dT.below hb).cell 0, (dT.below hb).cell 1, (dT.below hb).cell 2, (dT.below hb).cell 3, cell_unde z0 hb⟩
                have hz0 := Below.refl wzb.heap.size wzb
                have HS := hSk _ hz0
                refine wpAny_of_held (S := fun W => W.cell? ⟨g1, 0, none⟩ = some (.string tx) ∧ W.cell? ⟨g1, 1, none⟩ = some (.slice Ay ty.length cy) ∧ W.cell? ⟨g1, 2, none⟩ = some (.map mb) ∧ W.cell? ⟨g1, 3, none⟩ = some (.slice Ar K.length cr) ∧ W.cell? ⟨bo, oo + j * 3, none⟩ = some (.int .i64 k)) _ _ _ _ ?_
                refine roH_take 0 (some 37) (v := ?v0b) rfl rfl (by kernel_rfl) (by kernel_rfl) (by kernel_rfl) (fun _ _ _ h => h) (by rfl) ?y0b HS ?r0b
                case y0b => (intro W hS; go_simp; try with_reducible rfl)
                simp only [Act.put, List.setIfInBounds_toArray, List.set_cons_zero, List.set_cons_succ]
                refine roH_take 1 (some 38) (v := ?v1b) rfl rfl (by kernel_rfl) (by kernel_rfl) (by kernel_rfl) (fun _ _ _ h => h) (by rfl) ?y1b HS ?r1b
                case y1b => (intro W hS; go_simp; try with_reducible rfl)
                simp only [Act.put, List.setIfInBounds_toArray, List.set_cons_zero, List.set_cons_succ]
                refine roH_take 2 (some 39) (v := ?v2b) rfl rfl (by kernel_rfl) (by kernel_rfl) (by kernel_rfl) (fun _ _ _ h => h) (by rfl) ?y2b HS ?r2b
                case y2b => (intro W hS; go_simp; try with_reducible rfl)
                simp only [Act.put, List.setIfInBounds_toArray, List.set_cons_zero, List.set_cons_succ]
                refine roH_take 3 (some 40) (v := ?v3b) rfl rfl (by kernel_rfl) (by kernel_rfl) (by kernel_rfl) (fun _ _ _ h => h) (by rfl) ?y3b HS ?r3b
                case y3b => (intro W hS; go_simp; try with_reducible rfl)
                simp only [Act.put, List.setIfInBounds_toArray, List.set_cons_zero, List.set_cons_succ]
                refine roH_take 4 (some 41) (v := ?v4b) rfl rfl (by kernel_rfl) (by kernel_rfl) (by kernel_rfl) (fun _ _ _ h => h) (by rfl) ?y4b HS ?r4b
                case y4b => (intro W hS; obtain ⟨s0, s1, s2, s3, s4⟩ := hS; go_simp; try with_reducible rfl)
                simp only [Act.put, List.setIfInBounds_toArray, List.set_cons_zero, List.set_cons_succ]
                refine roH_take 5 (some 42) (v := ?v5b) rfl rfl (by kernel_rfl) (by kernel_rfl) (by kernel_rfl) (fun _ _ _ h => h) (by rfl) ?y5b HS ?r5b
                case y5b => (intro W hS; go_simp; try with_reducible rfl)
                simp only [Act.put, List.setIfInBounds_toArray, List.set_cons_zero, List.set_cons_succ]
                refine roH_take 6 (some 43) (v := ?v6b) rfl rfl (by kernel_rfl) (by kernel_rfl) (by kernel_rfl) (fun _ _ _ h => h) (by rfl) ?y6b HS ?r6b
                case y6b => (intro W hS; go_simp; try with_reducible rfl)
                simp only [Act.put, List.setIfInBounds_toArray, List.set_cons_zero, List.set_cons_succ]
                refine roH_skip 7 (some 44) rfl rfl (by kernel_rfl) (by kernel_rfl) (by kernel_rfl) (fun _ _ _ h => h) (by rfl) HS ?_
                simp only [Act.put, List.setIfInBounds_toArray, List.set_cons_zero, List.set_cons_succ]
                refine roH_skip 8 (some 45) rfl rfl (by kernel_rfl) (by kernel_rfl) (by kernel_rfl) (fun _ _ _ h => h) (by rfl) HS ?_
                simp only [Act.put, List.setIfInBounds_toArray, List.set_cons_zero, List.set_cons_succ]
                refine roH_skip 9 (some 46) rfl rfl (by kernel_rfl) (by kernel_rfl) (by kernel_rfl) (fun _ _ _ h => h) (by rfl) HS ?_
                simp only [Act.put, List.setIfInBounds_toArray, List.set_cons_zero, List.set_cons_succ]
                refine roH_skip 10 (some 47) rfl rfl (by kernel_rfl) (by kernel_rfl) (by kernel_rfl) (fun _ _ _ h => h) (by rfl) HS ?_
                simp only [Act.put, List.setIfInBounds_toArray, List.set_cons_zero, List.set_cons_succ]
                refine roH_skip 11 (some 48) rfl rfl (by kernel_rfl) (by kernel_rfl) (by kernel_rfl) (fun _ _ _ h => h) (by rfl) HS ?_
                simp only [Act.put, List.setIfInBounds_toArray, List.set_cons_zero, List.set_cons_succ]
                refine roH_skip 12 (some 49) rfl rfl (by kernel_rfl) (by kernel_rfl) (by kernel_rfl) (fun _ _ _ h => h) (by rfl) HS ?_
                simp only [Act.put, List.setIfInBounds_toArray, List.set_cons_zero, List.set_cons_succ]
                refine roH_skip 14 (some 51) rfl rfl (by kernel_rfl) (by kernel_rfl) (by kernel_rfl) (fun _ _ _ h => h) (by rfl) HS ?_
                simp only [Act.put, List.setIfInBounds_toArray, List.set_cons_zero, List.set_cons_succ]
                refine roH_skip 15 (some 52) rfl rfl (by kernel_rfl) (by kernel_rfl) (by kernel_rfl) (fun _ _ _ h => h) (by rfl) HS ?_
                simp only [Act.put, List.setIfInBounds_toArray, List.set_cons_zero, List.set_cons_succ]
                refine roH_skip 13 (some 50) rfl rfl (by kernel_rfl) (by kernel_rfl) (by kernel_rfl) (fun _ _ _ h => h) (by rfl) HS ?_
                simp only [Act.put, List.setIfInBounds_toArray, List.set_cons_zero, List.set_cons_succ]
                refine roH_skip 16 (some 53) rfl rfl (by kernel_rfl) (by kernel_rfl) (by kernel_rfl) (fun _ _ _ h => h) (by rfl) HS ?_
                simp only [Act.put, List.setIfInBounds_toArray, List.set_cons_zero, List.set_cons_succ]
                refine roH_skip 17 (some 54) rfl rfl (by kernel_rfl) (by kernel_rfl) (by kernel_rfl) (fun _ _ _ h => h) (by rfl) HS ?_
                simp only [Act.put, List.setIfInBounds_toArray, List.set_cons_zero, List.set_cons_succ]
                refine roH_take 18 (some 55) (v := ?v18b) rfl rfl (by kernel_rfl) (by kernel_rfl) (by kernel_rfl) (fun _ _ _ h => h) (by rfl) ?y18b HS ?r18b
                case y18b => (intro W hS; go_simp; try with_reducible rfl)
                simp only [Act.put, List.setIfInBounds_toArray, List.set_cons_zero, List.set_cons_succ]
                refine wpAnyH_done (by kernel_rfl) ?_ _
                replace hT := hT.up hz0
                replace dT := dT.below hz0
                replace hO := hO.up hz0
                replace hbx := bthenZ hbx hbx.size hz0
                replace hby := bthenZ hby hby.size hz0
                clear HS hSk
                go_wp2_with fail
                exact ⟨⟨j + 1, by go_num, by omega, hby⟩, by simp [intOf]; omega⟩
            · obtain rfl : j = ops.length := by omega
              have hdj : ¬ (((ops.length : Nat) : Int) < (ops.length : Int)) := by omega
              have hng0 : ¬ lvAt v i < 0 := by omega
              have hng1 : ¬ lvAt v i ≥ (K.length : Int) := by omega
              go_upto_region 18 with (fail)
              by_cases h3 : ops.length = 3
              · obtain ⟨⟨k1, r1, n1⟩, o1⟩ : ∃ o, ops[1]? = some o := ⟨_, List.getElem?_eq_getElem (by omega)⟩
                obtain ⟨⟨k2, r2, n2⟩, o2⟩ : ∃ o, ops[2]? = some o := ⟨_, List.getElem?_eq_getElem (by omega)⟩
                obtain ⟨bo, oo, rfl, hbo, z0, z1, _⟩ := otcells_at hO o1 rfl
                obtain ⟨b', o', e', _, z3, _, _⟩ := otcells_at hO o2 rfl
                injection e' with e'
                injection e' with e1 e2 _
                subst e1
                subst e2
                simp only [Nat.one_mul] at z0 z1 z3
                have hs := hsame.out 1 k1 r1 n1 o1
                have h3e : (((ops.length : Nat) : Int) == 3) = true := by rw [h3]; rfl
                have i1 : 1 < ops.length := by omega
                have i2 : 2 < ops.length := by omega
                have i1' : (1 : Int) < (ops.length : Int) := by omega
                have i2' : (2 : Int) < (ops.length : Int) := by omega
                replace h3 := Lib.hid h3
                by_cases hk2 : k2 = 6
                · subst hk2
                  by_cases hk1 : k1 = 2
                  · subst hk1
                    obtain ⟨a, rfl, hal, _, hlt⟩ := hs rfl
                    have hlt2 := hlt rfl h3.out ⟨_, o2⟩
                    have hng : ¬ lvAt v a ≥ lvAt v i := by omega
                    clear hs o1 o2 hlt
                    refine wp_region_any (by kernel_rfl) ?_
                    change wpAny _ _ _ _ _ _ _ (World.drew _)
                    generalize hdw : World.drew wr = wzc at *
                    have hbd : Below wr.heap.size wr wzc := by subst hdw; exact ⟨rfl, rfl, rfl, Nat.le_refl _, fun _ _ => rfl⟩
                    replace hT := hT.up hbd
                    replace dT := dT.below hbd
                    replace hO := hO.up hbd
                    replace hbx := bthenZ hbx hbx.size hbd
                    replace z3 := cell_unde z3 hbd
                    replace z0 := cell_unde z0 hbd
                    replace z1 := cell_unde z1 hbd
                    have kL := fun (W : World) (q : Nat) (h : Below wzc.heap.size wzc W) (hq : q < K.length) => (by { have z := tlevel_any (tx := tx) (Ay := Ay) (ny := ty.length) (cy := cy) (mb := mb) (hT.rels.up h) (q : Int) (wf11 (by omega)); rw [(hok.out.lev hq).1] at z; exact z } : Calls Tryz.prog 23 #[.agg #[.string tx, .slice Ay ty.length cy, .map mb, .slice Ar K.length cr], .int .i64 (q : Nat)] W fun e w' => e = .returned (.int .i64 (lvAt v q)) ∧ Below W.heap.size W w')
                    have kN := fun (W : World) (h : Below wzc.heap.size wzc W) => tlen_any (tx := tx) (Ay := Ay) (ny := ty.length) (cy := cy) (mb := mb) (hT.rels.up h)
                    clear hdw hbd
                    have hSk : ∀ W, Below wzc.heap.size wzc W → (W.cell? ⟨g1, 0, none⟩ = some (.string tx) ∧ W.cell? ⟨g1, 1, none⟩ = some (.slice Ay ty.length cy) ∧ W.cell? ⟨g1, 2, none⟩ = some (.map mb) ∧ W.cell? ⟨g1, 3, none⟩ = some (.slice Ar K.length cr) ∧ W.cell? ⟨bo, oo + 2 * 3, none⟩ = some (.int .i64 6) ∧ W.cell? ⟨bo, oo + 3, none⟩ = some (.int .i64 2) ∧ W.cell? ⟨bo, oo + 3 + 1, none⟩ = some (.int .i64 (a : Nat))) := fun W hb => ⟨(dT.below hb).cell 0, (dT.below hb).cell 1, (dT.below hb).cell 2, (dT.below hb).cell 3, cell_unde z3 hb, cell_unde z0 hb, cell_unde z1 hb⟩
                    have hz0 := Below.refl wzc.heap.size wzc
                    have HS := hSk _ hz0
                    refine wpAny_of_held (S := fun W => W.cell? ⟨g1, 0, none⟩ = some (.string tx) ∧ W.cell? ⟨g1, 1, none⟩ = some (.slice Ay ty.length cy) ∧ W.cell? ⟨g1, 2, none⟩ = some (.map mb) ∧ W.cell? ⟨g1, 3, none⟩ = some (.slice Ar K.length cr) ∧ W.cell? ⟨bo, oo + 2 * 3, none⟩ = some (.int .i64 6) ∧ W.cell? ⟨bo, oo + 3, none⟩ = some (.int .i64 2) ∧ W.cell? ⟨bo, oo + 3 + 1, none⟩ = some (.int .i64 (a : Nat))) _ _ _ _ ?_
                    refine roH_take 0 (some 56) (v := ?v0c) rfl rfl (by kernel_rfl) (by kernel_rfl) (by kernel_rfl) (fun _ _ _ h => h) (by rfl) ?y0c HS ?r0c
                    case y0c => (intro W hS; go_simp; try with_reducible rfl)
                    simp only [Act.put, List.setIfInBounds_toArray, List.set_cons_zero, List.set_cons_succ]
                    refine roH_take 1 (some 57) (v := ?v1c) rfl rfl (by kernel_rfl) (by kernel_rfl) (by kernel_rfl) (fun _ _ _ h => h) (by rfl) ?y1c HS ?r1c
                    case y1c => (intro W hS; go_simp; try with_reducible rfl)
                    simp only [Act.put, List.setIfInBounds_toArray, List.set_cons_zero, List.set_cons_succ]
                    refine roH_take 2 (some 58) (v := ?v2c) rfl rfl (by kernel_rfl) (by kernel_rfl) (by kernel_rfl) (fun _ _ _ h => h) (by rfl) ?y2c HS ?r2c
                    case y2c => (intro W hS; go_simp; try with_reducible rfl)
                    simp only [Act.put, List.setIfInBounds_toArray, List.set_cons_zero, List.set_cons_succ]
                    refine roH_take 3 (some 59) (v := ?v3c) rfl rfl (by kernel_rfl) (by kernel_rfl) (by kernel_rfl) (fun _ _ _ h => h) (by rfl) ?y3c HS ?r3c
                    case y3c => (intro W hS; go_simp; try with_reducible rfl)
                    simp only [Act.put, List.setIfInBounds_toArray, List.set_cons_zero, List.set_cons_succ]
                    refine roH_take 4 (some 60) (v := ?v4c) rfl rfl (by kernel_rfl) (by kernel_rfl) (by kernel_rfl) (fun _ _ _ h => h) (by rfl) ?y4c HS ?r4c
                    case y4c => (intro W hS; go_simp; try with_reducible rfl)
                    simp only [Act.put, List.setIfInBounds_toArray, List.set_cons_zero, List.set_cons_succ]
                    refine roH_take 5 (some 61) (v := ?v5c) rfl rfl (by kernel_rfl) (by kernel_rfl) (by kernel_rfl) (fun _ _ _ h => h) (by rfl) ?y5c HS ?r5c
                    case y5c => (intro W hS; go_simp; try with_reducible rfl)
                    simp only [Act.put, List.setIfInBounds_toArray, List.set_cons_zero, List.set_cons_succ]
                    refine roH_take 6 (some 62) (v := ?v6c) rfl rfl (by kernel_rfl) (by kernel_rfl) (by kernel_rfl) (fun _ _ _ h => h) (by rfl) ?y6c HS ?r6c
                    case y6c => (intro W hS; go_simp; try with_reducible rfl)
                    simp only [Act.put, List.setIfInBounds_toArray, List.set_cons_zero, List.set_cons_succ]
                    refine roH_take 7 (some 63) (v := ?v7c) rfl rfl (by kernel_rfl) (by kernel_rfl) (by kernel_rfl) (fun _ _ _ h => h) (by rfl) ?y7c HS ?r7c
                    case y7c => (intro W hS; obtain ⟨s0, s1, s2, s3, s4, s5, s6⟩ := hS; go_simp; try with_reducible rfl)
                    simp only [Act.put, List.setIfInBounds_toArray, List.set_cons_zero, List.set_cons_succ]
                    refine roH_take 8 (some 64) (v := ?v8c) rfl rfl (by kernel_rfl) (by kernel_rfl) (by kernel_rfl) (fun _ _ _ h => h) (by rfl) ?y8c HS ?r8c
                    case y8c => (intro W hS; go_simp; try with_reducible rfl)
                    simp only [Act.put, List.setIfInBounds_toArray, List.set_cons_zero, List.set_cons_succ]
                    refine roH_take 9 (some 65) (v := ?v9c) rfl rfl (by kernel_rfl) (by kernel_rfl) (by kernel_rfl) (fun _ _ _ h => h) (by rfl) ?y9c HS ?r9c
                    case y9c => (intro W hS; go_simp; try with_reducible rfl)
                    simp only [Act.put, List.setIfInBounds_toArray, List.set_cons_zero, List.set_cons_succ]
                    refine roH_take 10 (some 66) (v := ?v10c) rfl rfl (by kernel_rfl) (by kernel_rfl) (by kernel_rfl) (fun _ _ _ h => h) (by rfl) ?y10c HS ?r10c
                    case y10c => (intro W hS; go_simp; try with_reducible rfl)
                    simp only [Act.put, List.setIfInBounds_toArray, List.set_cons_zero, List.set_cons_succ]
                    refine roH_take 11 (some 67) (v := ?v11c) rfl rfl (by kernel_rfl) (by kernel_rfl) (by kernel_rfl) (fun _ _ _ h => h) (by rfl) ?y11c HS ?r11c
                    case y11c => (intro W hS; go_simp; try with_reducible rfl)
                    simp only [Act.put, List.setIfInBounds_toArray, List.set_cons_zero, List.set_cons_succ]
                    refine roH_take 12 (some 68) (v := ?v12c) rfl rfl (by kernel_rfl) (by kernel_rfl) (by kernel_rfl) (fun _ _ _ h => h) (by rfl) ?y12c HS ?r12c
                    case y12c => (intro W hS; go_simp; try with_reducible rfl)
                    simp only [Act.put, List.setIfInBounds_toArray, List.set_cons_zero, List.set_cons_succ]
                    refine roH_take 13 (some 69) (v := ?v13c) rfl rfl (by kernel_rfl) (by kernel_rfl) (by kernel_rfl) (fun _ _ _ h => h) (by rfl) ?y13c HS ?r13c
                    case y13c => (intro W hS; go_simp; try with_reducible rfl)
                    simp only [Act.put, List.setIfInBounds_toArray, List.set_cons_zero, List.set_cons_succ]
                    refine roH_take 14 (some 70) (v := ?v14c) rfl rfl (by kernel_rfl) (by kernel_rfl) (by kernel_rfl) (fun _ _ _ h => h) (by rfl) ?y14c HS ?r14c
                    case y14c => (intro W hS; obtain ⟨s0, s1, s2, s3, s4, s5, s6⟩ := hS; go_simp; try with_reducible rfl)
                    simp only [Act.put, List.setIfInBounds_toArray, List.set_cons_zero, List.set_cons_succ]
                    refine roH_take 15 (some 71) (v := ?v15c) rfl rfl (by kernel_rfl) (by kernel_rfl) (by kernel_rfl) (fun _ _ _ h => h) (by rfl) ?y15c HS ?r15c
                    case y15c => (intro W hS; go_simp; try with_reducible rfl)
                    simp only [Act.put, List.setIfInBounds_toArray, List.set_cons_zero, List.set_cons_succ]
                    refine roH_take 16 (some 72) (v := ?v16c) rfl rfl (by kernel_rfl) (by kernel_rfl) (by kernel_rfl) (fun _ _ _ h => h) (by rfl) ?y16c HS ?r16c
                    case y16c => (intro W hS; go_simp; try with_reducible rfl)
                    simp only [Act.put, List.setIfInBounds_toArray, List.set_cons_zero, List.set_cons_succ]
                    refine roH_take 17 (some 73) (v := ?v17c) rfl rfl (by kernel_rfl) (by kernel_rfl) (by kernel_rfl) (fun _ _ _ h => h) (by rfl) ?y17c HS ?r17c
                    case y17c => (intro W hS; go_simp; try with_reducible rfl)
                    simp only [Act.put, List.setIfInBounds_toArray, List.set_cons_zero, List.set_cons_succ]
                    refine roH_take 18 (some 74) (v := ?v18c) rfl rfl (by kernel_rfl) (by kernel_rfl) (by kernel_rfl) (fun _ _ _ h => h) (by rfl) ?y18c HS ?r18c
                    case y18c => (intro W hS; obtain ⟨s0, s1, s2, s3, s4, s5, s6⟩ := hS; go_simp; try with_reducible rfl)
                    simp only [Act.put, List.setIfInBounds_toArray, List.set_cons_zero, List.set_cons_succ]
                    refine roH_take 19 (some 75) (v := ?v19c) rfl rfl (by kernel_rfl) (by kernel_rfl) (by kernel_rfl) (fun _ _ _ h => h) (by rfl) ?y19c HS ?r19c
                    case y19c => (intro W hS; go_simp; try with_reducible rfl)
                    simp only [Act.put, List.setIfInBounds_toArray, List.set_cons_zero, List.set_cons_succ]
                    refine roH_take 20 (some 76) (v := ?v20c) rfl rfl (by kernel_rfl) (by kernel_rfl) (by kernel_rfl) (fun _ _ _ h => h) (by rfl) ?y20c HS ?r20c
                    case y20c => (intro W hS; go_simp; try with_reducible rfl)
                    simp only [Act.put, List.setIfInBounds_toArray, List.set_cons_zero, List.set_cons_succ]
                    refine roH_take 21 (some 77) (v := ?v21c) rfl rfl (by kernel_rfl) (by kernel_rfl) (by kernel_rfl) (fun _ _ _ h => h) (by rfl) ?y21c HS ?r21c
                    case y21c => (intro W hS; go_simp; try with_reducible rfl)
                    simp only [Act.put, List.setIfInBounds_toArray, List.set_cons_zero, List.set_cons_succ]
                    refine roH_take 22 (some 78) (v := ?v22c) rfl rfl (by kernel_rfl) (by kernel_rfl) (by kernel_rfl) (fun _ _ _ h => h) (by rfl) ?y22c HS ?r22c
                    case y22c => (intro W hS; obtain ⟨s0, s1, s2, s3, s4, s5, s6⟩ := hS; go_simp; try with_reducible rfl)
                    simp only [Act.put, List.setIfInBounds_toArray, List.set_cons_zero, List.set_cons_succ]
                    refine roH_take 24 (some 80) (v := ?v24c) rfl rfl (by kernel_rfl) (by kernel_rfl) (by kernel_rfl) (fun _ _ _ h => h) (by rfl) ?y24c HS ?r24c
                    case y24c => (intro W hS; obtain ⟨s0, s1, s2, s3, s4, s5, s6⟩ := hS; go_simp; try with_reducible rfl)
                    simp only [Act.put, List.setIfInBounds_toArray, List.set_cons_zero, List.set_cons_succ]
                    refine roH_take 25 (some 81) (v := ?v25c) rfl rfl (by kernel_rfl) (by kernel_rfl) (by kernel_rfl) (fun _ _ _ h => h) (by rfl) ?y25c HS ?r25c
                    case y25c => (intro W hS; go_simp; try with_reducible rfl)
                    simp only [Act.put, List.setIfInBounds_toArray, List.set_cons_zero, List.set_cons_succ]
                    refine roH_one 23 rfl (by kernel_rfl) ?_
                    intro Kf hKf
                    go_simp
                    refine (kL _ a hz0 hal).mono ?_
                    rintro e W1c ⟨rfl, hc1c⟩
                    have hz1c : Below wzc.heap.size wzc W1c := bthenZ hz0 hz0.size hc1c
                    replace HS := hSk _ hz1c
                    refine hKf _ _ HS ?_
                    clear hKf Kf
                    refine roH_one 26 rfl (by kernel_rfl) ?_
                    intro Kf hKf
                    go_simp
                    refine (kL _ i hz1c hil).mono ?_
                    rintro e W2c ⟨rfl, hc2c⟩
                    have hz2c : Below wzc.heap.size wzc W2c := bthenZ hz1c hz1c.size hc2c
                    replace HS := hSk _ hz2c
                    refine hKf _ _ HS ?_
                    clear hKf Kf
                    refine roH_take 27 (some 83) (v := ?v27c) rfl rfl (by kernel_rfl) (by kernel_rfl) (by kernel_rfl) (fun _ _ _ h => h) (by rfl) ?y27c HS ?r27c
                    case y27c => (intro W hS; go_simp; try with_reducible rfl)
                    simp only [Act.put, List.setIfInBounds_toArray, List.set_cons_zero, List.set_cons_succ]
                    refine roH_take 28 (some 84) (v := ?v28c) rfl rfl (by kernel_rfl) (by kernel_rfl) (by kernel_rfl) (fun _ _ _ h => h) (by rfl) ?y28c HS ?r28c
                    case y28c => (intro W hS; go_simp; try with_reducible rfl)
                    simp only [Act.put, List.setIfInBounds_toArray, List.set_cons_zero, List.set_cons_succ]
                    refine wpAnyH_done (by kernel_rfl) ?_ _
                    replace hT := hT.up hz2c
                    replace dT := dT.below hz2c
                    replace hO := hO.up hz2c
                    replace hbx := bthenZ hbx hbx.size hz2c
                    clear HS hSk kL kN
                    go_upto_region 20 with (fail)
                    refine wp_region_any (by kernel_rfl) ?_
                    change wpAny _ _ _ _ _ _ _ (World.drew _)
                    generalize hdw : World.drew W2c = wzd at *
                    have hbd : Below W2c.heap.size W2c wzd := by subst hdw; exact ⟨rfl, rfl, rfl, Nat.le_refl _, fun _ _ => rfl⟩
                    replace hT := hT.up hbd
                    replace dT := dT.below hbd
                    replace hO := hO.up hbd
                    replace hbx := bthenZ hbx hbx.size hbd
                    have kL := fun (W : World) (q : Nat) (h : Below wzd.heap.size wzd W) (hq : q < K.length) => (by { have z := tlevel_any (tx := tx) (Ay := Ay) (ny := ty.length) (cy := cy) (mb := mb) (hT.rels.up h) (q : Int) (wf11 (by omega)); rw [(hok.out.lev hq).1] at z; exact z } : Calls Tryz.prog 23 #[.agg #[.string tx, .slice Ay ty.length cy, .map mb, .slice Ar K.length cr], .int .i64 (q : Nat)] W fun e w' => e = .returned (.int .i64 (lvAt v q)) ∧ Below W.heap.size W w')
                    have kN := fun (W : World) (h : Below wzd.heap.size wzd W) => tlen_any (tx := tx) (Ay := Ay) (ny := ty.length) (cy := cy) (mb := mb) (hT.rels.up h)
                    clear hdw hbd
                    have hSk : ∀ W, Below wzd.heap.size wzd W → (W.cell? ⟨g1, 0, none⟩ = some (.string tx) ∧ W.cell? ⟨g1, 1, none⟩ = some (.slice Ay ty.length cy) ∧ W.cell? ⟨g1, 2, none⟩ = some (.map mb) ∧ W.cell? ⟨g1, 3, none⟩ = some (.slice Ar K.length cr)) := fun W hb => ⟨(dT.below hb).cell 0, (dT.below hb).cell 1, (dT.below hb).cell 2, (dT.below hb).cell 3⟩
                    have hz0 := Below.refl wzd.heap.size wzd
                    have HS := hSk _ hz0
                    refine wpAny_of_held (S := fun W => W.cell? ⟨g1, 0, none⟩ = some (.string tx) ∧ W.cell? ⟨g1, 1, none⟩ = some (.slice Ay ty.length cy) ∧ W.cell? ⟨g1, 2, none⟩ = some (.map mb) ∧ W.cell? ⟨g1, 3, none⟩ = some (.slice Ar K.length cr)) _ _ _ _ ?_
                    refine roH_take 0 (some 85) (v := ?v0d) rfl rfl (by kernel_rfl) (by kernel_rfl) (by kernel_rfl) (fun _ _ _ h => h) (by rfl) ?y0d HS ?r0d
                    case y0d => (intro W hS; obtain ⟨s0, s1, s2, s3⟩ := hS; go_simp; try with_reducible rfl)
                    simp only [Act.put, List.setIfInBounds_toArray, List.set_cons_zero, List.set_cons_succ]
                    refine roH_take 1 (some 86) (v := ?v1d) rfl rfl (by kernel_rfl) (by kernel_rfl) (by kernel_rfl) (fun _ _ _ h => h) (by rfl) ?y1d HS ?r1d
                    case y1d => (intro W hS; go_simp; try with_reducible rfl)
                    simp only [Act.put, List.setIfInBounds_toArray, List.set_cons_zero, List.set_cons_succ]
                    refine roH_one 2 rfl (by kernel_rfl) ?_
                    intro Kf hKf
                    go_simp
                    refine (kL _ i hz0 hil).mono ?_
                    rintro e W1d ⟨rfl, hc1d⟩
                    have hz1d : Below wzd.heap.size wzd W1d := bthenZ hz0 hz0.size hc1d
                    replace HS := hSk _ hz1d
                    refine hKf _ _ HS ?_
                    clear hKf Kf
                    refine roH_take 3 (some 88) (v := ?v3d) rfl rfl (by kernel_rfl) (by kernel_rfl) (by kernel_rfl) (fun _ _ _ h => h) (by rfl) ?y3d HS ?r3d
                    case y3d => (intro W hS; go_simp; try with_reducible rfl)
                    simp only [Act.put, List.setIfInBounds_toArray, List.set_cons_zero, List.set_cons_succ]
                    refine roH_take 4 (some 89) (v := ?v4d) rfl rfl (by kernel_rfl) (by kernel_rfl) (by kernel_rfl) (fun _ _ _ h => h) (by rfl) ?y4d HS ?r4d
                    case y4d => (intro W hS; go_simp; try with_reducible rfl)
                    simp only [Act.put, List.setIfInBounds_toArray, List.set_cons_zero, List.set_cons_succ]
                    refine roH_take 5 (some 90) (v := ?v5d) rfl rfl (by kernel_rfl) (by kernel_rfl) (by kernel_rfl) (fun _ _ _ h => h) (by rfl) ?y5d HS ?r5d
                    case y5d => (intro W hS; obtain ⟨s0, s1, s2, s3⟩ := hS; go_simp; try with_reducible rfl)
                    simp only [Act.put, List.setIfInBounds_toArray, List.set_cons_zero, List.set_cons_succ]
                    refine roH_take 6 (some 91) (v := ?v6d) rfl rfl (by kernel_rfl) (by kernel_rfl) (by kernel_rfl) (fun _ _ _ h => h) (by rfl) ?y6d HS ?r6d
                    case y6d => (intro W hS; go_simp; try with_reducible rfl)
                    simp only [Act.put, List.setIfInBounds_toArray, List.set_cons_zero, List.set_cons_succ]
                    refine roH_take 8 (some 93) (v := ?v8d) rfl rfl (by kernel_rfl) (by kernel_rfl) (by kernel_rfl) (fun _ _ _ h => h) (by rfl) ?y8d HS ?r8d
                    case y8d => (intro W hS; obtain ⟨s0, s1, s2, s3⟩ := hS; go_simp; try with_reducible rfl)
                    simp only [Act.put, List.setIfInBounds_toArray, List.set_cons_zero, List.set_cons_succ]
                    refine roH_one 7 rfl (by kernel_rfl) ?_
                    intro Kf hKf
                    go_simp
                    refine (kL _ i hz1d hil).mono ?_
                    rintro e W2d ⟨rfl, hc2d⟩
                    have hz2d : Below wzd.heap.size wzd W2d := bthenZ hz1d hz1d.size hc2d
                    replace HS := hSk _ hz2d
                    refine hKf _ _ HS ?_
                    clear hKf Kf
                    refine roH_one 9 rfl (by kernel_rfl) ?_
                    intro Kf hKf
                    go_simp
                    refine (kN _ hz2d).mono ?_
                    rintro e W3d ⟨rfl, hc3d⟩
                    have hz3d : Below wzd.heap.size wzd W3d := bthenZ hz2d hz2d.size hc3d
                    replace HS := hSk _ hz3d
                    refine hKf _ _ HS ?_
                    clear hKf Kf
                    refine roH_take 10 (some 95) (v := ?v10d) rfl rfl (by kernel_rfl) (by kernel_rfl) (by kernel_rfl) (fun _ _ _ h => h) (by rfl) ?y10d HS ?r10d
                    case y10d => (intro W hS; go_simp; try with_reducible rfl)
                    simp only [Act.put, List.setIfInBounds_toArray, List.set_cons_zero, List.set_cons_succ]
                    refine roH_take 11 (some 96) (v := ?v11d) rfl rfl (by kernel_rfl) (by kernel_rfl) (by kernel_rfl) (fun _ _ _ h => h) (by rfl) ?y11d HS ?r11d
                    case y11d => (intro W hS; go_simp; try with_reducible rfl)
                    simp only [Act.put, List.setIfInBounds_toArray, List.set_cons_zero, List.set_cons_succ]
                    refine wpAnyH_done (by kernel_rfl) ?_ _
                    replace hT := hT.up hz3d
                    replace dT := dT.below hz3d
                    replace hO := hO.up hz3d
                    replace hbx := bthenZ hbx hbx.size hz3d
                    clear HS hSk kL kN
                    go_wp2_with fail
                    exact ⟨⟨i + 1, by go_num, by omega, hbx⟩, by simp [intOf]; omega⟩
                  · have hk1e : (k1 == 2) = false := by simpa using hk1
                    clear hs o1 o2
                    refine wp_region_any (by kernel_rfl) ?_
                    change wpAny _ _ _ _ _ _ _ (World.drew _)
                    generalize hdw : World.drew wr = wze at *
                    have hbd : Below wr.heap.size wr wze := by subst hdw; exact ⟨rfl, rfl, rfl, Nat.le_refl _, fun _ _ => rfl⟩
                    replace hT := hT.up hbd
                    replace dT := dT.below hbd
                    replace hO := hO.up hbd
                    replace hbx := bthenZ hbx hbx.size hbd
                    replace z3 := cell_unde z3 hbd
                    replace z0 := cell_unde z0 hbd
                    clear hdw hbd
                    have hSk : ∀ W, Below wze.heap.size wze W → (W.cell? ⟨g1, 0, none⟩ = some (.string tx) ∧ W.cell? ⟨g1, 1, none⟩ = some (.slice Ay ty.length cy) ∧ W.cell? ⟨g1, 2, none⟩ = some (.map mb) ∧ W.cell? ⟨g1, 3, none⟩ = some (.slice Ar K.length cr) ∧ W.cell? ⟨bo, oo + 2 * 3, none⟩ = some (.int .i64 6) ∧ W.cell? ⟨bo, oo + 3, none⟩ = some (.int .i64 k1)) := fun W hb => ⟨(dT.below hb).cell 0, (dT.below hb).cell 1, (dT.below hb).cell 2, (dT.below hb).cell 3, cell_unde z3 hb, cell_unde z0 hb⟩
                    have hz0 := Below.refl wze.heap.size wze
                    have HS := hSk _ hz0
                    refine wpAny_of_held (S := fun W => W.cell? ⟨g1, 0, none⟩ = some (.string tx) ∧ W.cell? ⟨g1, 1, none⟩ = some (.slice Ay ty.length cy) ∧ W.cell? ⟨g1, 2, none⟩ = some (.map mb) ∧ W.cell? ⟨g1, 3, none⟩ = some (.slice Ar K.length cr) ∧ W.cell? ⟨bo, oo + 2 * 3, none⟩ = some (.int .i64 6) ∧ W.cell? ⟨bo, oo + 3, none⟩ = some (.int .i64 k1)) _ _ _ _ ?_
                    refine roH_take 0 (some 56) (v := ?v0e) rfl rfl (by kernel_rfl) (by kernel_rfl) (by kernel_rfl) (fun _ _ _ h => h) (by rfl) ?y0e HS ?r0e
                    case y0e => (intro W hS; go_simp; try with_reducible rfl)
                    simp only [Act.put, List.setIfInBounds_toArray, List.set_cons_zero, List.set_cons_succ]
                    refine roH_take 1 (some 57) (v := ?v1e) rfl rfl (by kernel_rfl) (by kernel_rfl) (by kernel_rfl) (fun _ _ _ h => h) (by rfl) ?y1e HS ?r1e
                    case y1e => (intro W hS; go_simp; try with_reducible rfl)
                    simp only [Act.put, List.setIfInBounds_toArray, List.set_cons_zero, List.set_cons_succ]
                    refine roH_take 2 (some 58) (v := ?v2e) rfl rfl (by kernel_rfl) (by kernel_rfl) (by kernel_rfl) (fun _ _ _ h => h) (by rfl) ?y2e HS ?r2e
                    case y2e => (intro W hS; go_simp; try with_reducible rfl)
                    simp only [Act.put, List.setIfInBounds_toArray, List.set_cons_zero, List.set_cons_succ]
                    refine roH_take 3 (some 59) (v := ?v3e) rfl rfl (by kernel_rfl) (by kernel_rfl) (by kernel_rfl) (fun _ _ _ h => h) (by rfl) ?y3e HS ?r3e
                    case y3e => (intro W hS; go_simp; try with_reducible rfl)
                    simp only [Act.put, List.setIfInBounds_toArray, List.set_cons_zero, List.set_cons_succ]
                    refine roH_take 4 (some 60) (v := ?v4e) rfl rfl (by kernel_rfl) (by kernel_rfl) (by kernel_rfl) (fun _ _ _ h => h) (by rfl) ?y4e HS ?r4e
                    case y4e => (intro W hS; go_simp; try with_reducible rfl)
                    simp only [Act.put, List.setIfInBounds_toArray, List.set_cons_zero, List.set_cons_succ]
                    refine roH_take 5 (some 61) (v := ?v5e) rfl rfl (by kernel_rfl) (by kernel_rfl) (by kernel_rfl) (fun _ _ _ h => h) (by rfl) ?y5e HS ?r5e
                    case y5e => (intro W hS; go_simp; try with_reducible rfl)
                    simp only [Act.put, List.setIfInBounds_toArray, List.set_cons_zero, List.set_cons_succ]
                    refine roH_take 6 (some 62) (v := ?v6e) rfl rfl (by kernel_rfl) (by kernel_rfl) (by kernel_rfl) (fun _ _ _ h => h) (by rfl) ?y6e HS ?r6e
                    case y6e => (intro W hS; go_simp; try with_reducible rfl)
                    simp only [Act.put, List.setIfInBounds_toArray, List.set_cons_zero, List.set_cons_succ]
                    refine roH_take 7 (some 63) (v := ?v7e) rfl rfl (by kernel_rfl) (by kernel_rfl) (by kernel_rfl) (fun _ _ _ h => h) (by rfl) ?y7e HS ?r7e
                    case y7e => (intro W hS; obtain ⟨s0, s1, s2, s3, s4, s5⟩ := hS; go_simp; try with_reducible rfl)
                    simp only [Act.put, List.setIfInBounds_toArray, List.set_cons_zero, List.set_cons_succ]
                    refine roH_take 8 (some 64) (v := ?v8e) rfl rfl (by kernel_rfl) (by kernel_rfl) (by kernel_rfl) (fun _ _ _ h => h) (by rfl) ?y8e HS ?r8e
                    case y8e => (intro W hS; go_simp; try with_reducible rfl)
                    simp only [Act.put, List.setIfInBounds_toArray, List.set_cons_zero, List.set_cons_succ]
                    refine roH_take 9 (some 65) (v := ?v9e) rfl rfl (by kernel_rfl) (by kernel_rfl) (by kernel_rfl) (fun _ _ _ h => h) (by rfl) ?y9e HS ?r9e
                    case y9e => (intro W hS; go_simp; try with_reducible rfl)
                    simp only [Act.put, List.setIfInBounds_toArray, List.set_cons_zero, List.set_cons_succ]
                    refine roH_take 10 (some 66) (v := ?v10e) rfl rfl (by kernel_rfl) (by kernel_rfl) (by kernel_rfl) (fun _ _ _ h => h) (by rfl) ?y10e HS ?r10e
                    case y10e => (intro W hS; go_simp; try with_reducible rfl)
                    simp only [Act.put, List.setIfInBounds_toArray, List.set_cons_zero, List.set_cons_succ]
                    refine roH_take 11 (some 67) (v := ?v11e) rfl rfl (by kernel_rfl) (by kernel_rfl) (by kernel_rfl) (fun _ _ _ h => h) (by rfl) ?y11e HS ?r11e
                    case y11e => (intro W hS; go_simp; try with_reducible rfl)
                    simp only [Act.put, List.setIfInBounds_toArray, List.set_cons_zero, List.set_cons_succ]
                    refine roH_take 12 (some 68) (v := ?v12e) rfl rfl (by kernel_rfl) (by kernel_rfl) (by kernel_rfl) (fun _ _ _ h => h) (by rfl) ?y12e HS ?r12e
                    case y12e => (intro W hS; go_simp; try with_reducible rfl)
                    simp only [Act.put, List.setIfInBounds_toArray, List.set_cons_zero, List.set_cons_succ]
                    refine roH_take 13 (some 69) (v := ?v13e) rfl rfl (by kernel_rfl) (by kernel_rfl) (by kernel_rfl) (fun _ _ _ h => h) (by rfl) ?y13e HS ?r13e
                    case y13e => (intro W hS; go_simp; try with_reducible rfl)
                    simp only [Act.put, List.setIfInBounds_toArray, List.set_cons_zero, List.set_cons_succ]
                    refine roH_take 14 (some 70) (v := ?v14e) rfl rfl (by kernel_rfl) (by kernel_rfl) (by kernel_rfl) (fun _ _ _ h => h) (by rfl) ?y14e HS ?r14e
                    case y14e => (intro W hS; obtain ⟨s0, s1, s2, s3, s4, s5⟩ := hS; go_simp; try with_reducible rfl)
                    simp only [Act.put, List.setIfInBounds_toArray, List.set_cons_zero, List.set_cons_succ]
                    refine roH_take 15 (some 71) (v := ?v15e) rfl rfl (by kernel_rfl) (by kernel_rfl) (by kernel_rfl) (fun _ _ _ h => h) (by rfl) ?y15e HS ?r15e
                    case y15e => (intro W hS; go_simp; try with_reducible rfl)
                    simp only [Act.put, List.setIfInBounds_toArray, List.set_cons_zero, List.set_cons_succ]
                    refine roH_take 16 (some 72) (v := ?v16e) rfl rfl (by kernel_rfl) (by kernel_rfl) (by kernel_rfl) (fun _ _ _ h => h) (by rfl) ?y16e HS ?r16e
                    case y16e => (intro W hS; go_simp; try with_reducible rfl)
                    simp only [Act.put, List.setIfInBounds_toArray, List.set_cons_zero, List.set_cons_succ]
                    refine roH_take 17 (some 73) (v := ?v17e) rfl rfl (by kernel_rfl) (by kernel_rfl) (by kernel_rfl) (fun _ _ _ h => h) (by rfl) ?y17e HS ?r17e
                    case y17e => (intro W hS; go_simp; try with_reducible rfl)
                    simp only [Act.put, List.setIfInBounds_toArray, List.set_cons_zero, List.set_cons_succ]
                    refine roH_skip 18 (some 74) rfl rfl (by kernel_rfl) (by kernel_rfl) (by kernel_rfl) (fun _ _ _ h => h) (by rfl) HS ?_
                    simp only [Act.put, List.setIfInBounds_toArray, List.set_cons_zero, List.set_cons_succ]
                    refine roH_skip 19 (some 75) rfl rfl (by kernel_rfl) (by kernel_rfl) (by kernel_rfl) (fun _ _ _ h => h) (by rfl) HS ?_
                    simp only [Act.put, List.setIfInBounds_toArray, List.set_cons_zero, List.set_cons_succ]
                    refine roH_skip 20 (some 76) rfl rfl (by kernel_rfl) (by kernel_rfl) (by kernel_rfl) (fun _ _ _ h => h) (by rfl) HS ?_
                    simp only [Act.put, List.setIfInBounds_toArray, List.set_cons_zero, List.set_cons_succ]
                    refine roH_skip 21 (some 77) rfl rfl (by kernel_rfl) (by kernel_rfl) (by kernel_rfl) (fun _ _ _ h => h) (by rfl) HS ?_
                    simp only [Act.put, List.setIfInBounds_toArray, List.set_cons_zero, List.set_cons_succ]
                    refine roH_skip 22 (some 78) rfl rfl (by kernel_rfl) (by kernel_rfl) (by kernel_rfl) (fun _ _ _ h => h) (by rfl) HS ?_
                    simp only [Act.put, List.setIfInBounds_toArray, List.set_cons_zero, List.set_cons_succ]
                    refine roH_skip 24 (some 80) rfl rfl (by kernel_rfl) (by kernel_rfl) (by kernel_rfl) (fun _ _ _ h => h) (by rfl) HS ?_
                    simp only [Act.put, List.setIfInBounds_toArray, List.set_cons_zero, List.set_cons_succ]
                    refine roH_skip 25 (some 81) rfl rfl (by kernel_rfl) (by kernel_rfl) (by kernel_rfl) (fun _ _ _ h => h) (by rfl) HS ?_
                    simp only [Act.put, List.setIfInBounds_toArray, List.set_cons_zero, List.set_cons_succ]
                    refine roH_skip 23 (some 79) rfl rfl (by kernel_rfl) (by kernel_rfl) (by kernel_rfl) (fun _ _ _ h => h) (by rfl) HS ?_
                    simp only [Act.put, List.setIfInBounds_toArray, List.set_cons_zero, List.set_cons_succ]
                    refine roH_skip 26 (some 82) rfl rfl (by kernel_rfl) (by kernel_rfl) (by kernel_rfl) (fun _ _ _ h => h) (by rfl) HS ?_
                    simp only [Act.put, List.setIfInBounds_toArray, List.set_cons_zero, List.set_cons_succ]
                    refine roH_skip 27 (some 83) rfl rfl (by kernel_rfl) (by kernel_rfl) (by kernel_rfl) (fun _ _ _ h => h) (by rfl) HS ?_
                    simp only [Act.put, List.setIfInBounds_toArray, List.set_cons_zero, List.set_cons_succ]
                    refine roH_take 28 (some 84) (v := ?v28e) rfl rfl (by kernel_rfl) (by kernel_rfl) (by kernel_rfl) (fun _ _ _ h => h) (by rfl) ?y28e HS ?r28e
                    case y28e => (intro W hS; go_simp; try with_reducible rfl)
                    simp only [Act.put, List.setIfInBounds_toArray, List.set_cons_zero, List.set_cons_succ]
                    refine wpAnyH_done (by kernel_rfl) ?_ _
                    replace hT := hT.up hz0
                    replace dT := dT.below hz0
                    replace hO := hO.up hz0
                    replace hbx := bthenZ hbx hbx.size hz0
                    clear HS hSk
                    go_upto_region 20 with (fail)
                    refine wp_region_any (by kernel_rfl) ?_
                    change wpAny _ _ _ _ _ _ _ (World.drew _)
                    generalize hdw : World.drew wze = wzf at *
                    have hbd : Below wze.heap.size wze wzf := by subst hdw; exact ⟨rfl, rfl, rfl, Nat.le_refl _, fun _ _ => rfl⟩
                    replace hT := hT.up hbd
                    replace dT := dT.below hbd
                    replace hO := hO.up hbd
                    replace hbx := bthenZ hbx hbx.size hbd
                    have kL := fun (W : World) (q : Nat) (h : Below wzf.heap.size wzf W) (hq : q < K.length) => (by { have z := tlevel_any (tx := tx) (Ay := Ay) (ny := ty.length) (cy := cy) (mb := mb) (hT.rels.up h) (q : Int) (wf11 (by omega)); rw [(hok.out.lev hq).1] at z; exact z } : Calls Tryz.prog 23 #[.agg #[.string tx, .slice Ay ty.length cy, .map mb, .slice Ar K.length cr], .int .i64 (q : Nat)] W fun e w' => e = .returned (.int .i64 (lvAt v q)) ∧ Below W.heap.size W w')
                    have kN := fun (W : World) (h : Below wzf.heap.size wzf W) => tlen_any (tx := tx) (Ay := Ay) (ny := ty.length) (cy := cy) (mb := mb) (hT.rels.up h)
                    clear hdw hbd
                    have hSk : ∀ W, Below wzf.heap.size wzf W → (W.cell? ⟨g1, 0, none⟩ = some (.string tx) ∧ W.cell? ⟨g1, 1, none⟩ = some (.slice Ay ty.length cy) ∧ W.cell? ⟨g1, 2, none⟩ = some (.map mb) ∧ W.cell? ⟨g1, 3, none⟩ = some (.slice Ar K.length cr)) := fun W hb => ⟨(dT.below hb).cell 0, (dT.below hb).cell 1, (dT.below hb).cell 2, (dT.below hb).cell 3⟩
                    have hz0 := Below.refl wzf.heap.size wzf
                    have HS := hSk _ hz0
                    refine wpAny_of_held (S := fun W => W.cell? ⟨g1, 0, none⟩ = some (.string tx) ∧ W.cell? ⟨g1, 1, none⟩ = some (.slice Ay ty.length cy) ∧ W.cell? ⟨g1, 2, none⟩ = some (.map mb) ∧ W.cell? ⟨g1, 3, none⟩ = some (.slice Ar K.length cr)) _ _ _ _ ?_
                    refine roH_take 0 (some 85) (v := ?v0f) rfl rfl (by kernel_rfl) (by kernel_rfl) (by kernel_rfl) (fun _ _ _ h => h) (by rfl) ?y0f HS ?r0f
                    case y0f => (intro W hS; obtain ⟨s0, s1, s2, s3⟩ := hS; go_simp; try with_reducible rfl)
                    simp only [Act.put, List.setIfInBounds_toArray, List.set_cons_zero, List.set_cons_succ]
                    refine roH_take 1 (some 86) (v := ?v1f) rfl rfl (by kernel_rfl) (by kernel_rfl) (by kernel_rfl) (fun _ _ _ h => h) (by rfl) ?y1f HS ?r1f
                    case y1f => (intro W hS; go_simp; try with_reducible rfl)
                    simp only [Act.put, List.setIfInBounds_toArray, List.set_cons_zero, List.set_cons_succ]
                    refine roH_one 2 rfl (by kernel_rfl) ?_
                    intro Kf hKf
                    go_simp
                    refine (kL _ i hz0 hil).mono ?_
                    rintro e W1f ⟨rfl, hc1f⟩
                    have hz1f : Below wzf.heap.size wzf W1f := bthenZ hz0 hz0.size hc1f
                    replace HS := hSk _ hz1f
                    refine hKf _ _ HS ?_
                    clear hKf Kf
                    refine roH_take 3 (some 88) (v := ?v3f) rfl rfl (by kernel_rfl) (by kernel_rfl) (by kernel_rfl) (fun _ _ _ h => h) (by rfl) ?y3f HS ?r3f
                    case y3f => (intro W hS; go_simp; try with_reducible rfl)
                    simp only [Act.put, List.setIfInBounds_toArray, List.set_cons_zero, List.set_cons_succ]
                    refine roH_take 4 (some 89) (v := ?v4f) rfl rfl (by kernel_rfl) (by kernel_rfl) (by kernel_rfl) (fun _ _ _ h => h) (by rfl) ?y4f HS ?r4f
                    case y4f => (intro W hS; go_simp; try with_reducible rfl)
                    simp only [Act.put, List.setIfInBounds_toArray, List.set_cons_zero, List.set_cons_succ]
                    refine roH_take 5 (some 90) (v := ?v5f) rfl rfl (by kernel_rfl) (by kernel_rfl) (by kernel_rfl) (fun _ _ _ h => h) (by rfl) ?y5f HS ?r5f
                    case y5f => (intro W hS; obtain ⟨s0, s1, s2, s3⟩ := hS; go_simp; try with_reducible rfl)
                    simp only [Act.put, List.setIfInBounds_toArray, List.set_cons_zero, List.set_cons_succ]
                    refine roH_take 6 (some 91) (v := ?v6f) rfl rfl (by kernel_rfl) (by kernel_rfl) (by kernel_rfl) (fun _ _ _ h => h) (by rfl) ?y6f HS ?r6f
                    case y6f => (intro W hS; go_simp; try with_reducible rfl)
                    simp only [Act.put, List.setIfInBounds_toArray, List.set_cons_zero, List.set_cons_succ]
                    refine roH_take 8 (some 93) (v := ?v8f) rfl rfl (by kernel_rfl) (by kernel_rfl) (by kernel_rfl) (fun _ _ _ h => h) (by rfl) ?y8f HS ?r8f
                    case y8f => (intro W hS; obtain ⟨s0, s1, s2, s3⟩ := hS; go_simp; try with_reducible rfl)
                    simp only [Act.put, List.setIfInBounds_toArray, List.set_cons_zero, List.set_cons_succ]
                    refine roH_one 7 rfl (by kernel_rfl) ?_
                    intro Kf hKf
                    go_simp
                    refine (kL _ i hz1f hil).mono ?_
                    rintro e W2f ⟨rfl, hc2f⟩
                    have hz2f : Below wzf.heap.size wzf W2f := bthenZ hz1f hz1f.size hc2f
                    replace HS := hSk _ hz2f
                    refine hKf _ _ HS ?_
                    clear hKf Kf
                    refine roH_one 9 rfl (by kernel_rfl) ?_
                    intro Kf hKf
                    go_simp
                    refine (kN _ hz2f).mono ?_
                    rintro e W3f ⟨rfl, hc3f⟩
                    have hz3f : Below wzf.heap.size wzf W3f := bthenZ hz2f hz2f.size hc3f
                    replace HS := hSk _ hz3f
                    refine hKf _ _ HS ?_
                    clear hKf Kf
                    refine roH_take 10 (some 95) (v := ?v10f) rfl rfl (by kernel_rfl) (by kernel_rfl) (by kernel_rfl) (fun _ _ _ h => h) (by rfl) ?y10f HS ?r10f
                    case y10f => (intro W hS; go_simp; try with_reducible rfl)
                    simp only [Act.put, List.setIfInBounds_toArray, List.set_cons_zero, List.set_cons_succ]
                    refine roH_take 11 (some 96) (v := ?v11f) rfl rfl (by kernel_rfl) (by kernel_rfl) (by kernel_rfl) (fun _ _ _ h => h) (by rfl) ?y11f HS ?r11f
                    case y11f => (intro W hS; go_simp; try with_reducible rfl)
                    simp only [Act.put, List.setIfInBounds_toArray, List.set_cons_zero, List.set_cons_succ]
                    refine wpAnyH_done (by kernel_rfl) ?_ _
                    replace hT := hT.up hz3f
                    replace dT := dT.below hz3f
                    replace hO := hO.up hz3f
                    replace hbx := bthenZ hbx hbx.size hz3f
                    clear HS hSk kL kN
                    go_wp2_with fail
                    exact ⟨⟨i + 1, by go_num, by omega, hbx⟩, by simp [intOf]; omega⟩
                · have hk2e : (k2 == 6) = false := by simpa using hk2
                  clear hs o1 o2
                  refine wp_region_any (by kernel_rfl) ?_
                  change wpAny _ _ _ _ _ _ _ (World.drew _)
                  generalize hdw : World.drew wr = wzg at *
                  have hbd : Below wr.heap.size wr wzg := by subst hdw; exact ⟨rfl, rfl, rfl, Nat.le_refl _, fun _ _ => rfl⟩
                  replace hT := hT.up hbd
                  replace dT := dT.below hbd
                  replace hO := hO.up hbd
                  replace hbx := bthenZ hbx hbx.size hbd
                  replace z3 := cell_unde z3 hbd
                  clear hdw hbd
                  have hSk : ∀ W, Below wzg.heap.size wzg W → (W.cell? ⟨g1, 0, none⟩ = some (.string tx) ∧ W.cell? ⟨g1, 1, none⟩ = some (.slice Ay ty.length cy) ∧ W.cell? ⟨g1, 2, none⟩ = some (.map mb) ∧ W.cell? ⟨g1, 3, none⟩ = some (.slice Ar K.length cr) ∧ W.cell? ⟨bo, oo + 2 * 3, none⟩ = some (.int .i64 k2)) := fun W hb => ⟨(dT.below hb).cell 0, (dT.below hb).cell 1, (dT.below hb).cell 2, (dT.below hb).cell 3, cell_unde z3 hb⟩
                  have hz0 := Below.refl wzg.heap.size wzg
                  have HS := hSk _ hz0
                  refine wpAny_of_held (S := fun W => W.cell? ⟨g1, 0, none⟩ = some (.string tx) ∧ W.cell? ⟨g1, 1, none⟩ = some (.slice Ay ty.length cy) ∧ W.cell? ⟨g1, 2, none⟩ = some (.map mb) ∧ W.cell? ⟨g1, 3, none⟩ = some (.slice Ar K.length cr) ∧ W.cell? ⟨bo, oo + 2 * 3, none⟩ = some (.int .i64 k2)) _ _ _ _ ?_
                  refine roH_take 0 (some 56) (v := ?v0g) rfl rfl (by kernel_rfl) (by kernel_rfl) (by kernel_rfl) (fun _ _ _ h => h) (by rfl) ?y0g HS ?r0g
                  case y0g => (intro W hS; go_simp; try with_reducible rfl)
                  simp only [Act.put, List.setIfInBounds_toArray, List.set_cons_zero, List.set_cons_succ]
                  refine roH_take 1 (some 57) (v := ?v1g) rfl rfl (by kernel_rfl) (by kernel_rfl) (by kernel_rfl) (fun _ _ _ h => h) (by rfl) ?y1g HS ?r1g
                  case y1g => (intro W hS; go_simp; try with_reducible rfl)
                  simp only [Act.put, List.setIfInBounds_toArray, List.set_cons_zero, List.set_cons_succ]
                  refine roH_take 2 (some 58) (v := ?v2g) rfl rfl (by kernel_rfl) (by kernel_rfl) (by kernel_rfl) (fun _ _ _ h => h) (by rfl) ?y2g HS ?r2g
                  case y2g => (intro W hS; go_simp; try with_reducible rfl)
                  simp only [Act.put, List.setIfInBounds_toArray, List.set_cons_zero, List.set_cons_succ]
                  refine roH_take 3 (some 59) (v := ?v3g) rfl rfl (by kernel_rfl) (by kernel_rfl) (by kernel_rfl) (fun _ _ _ h => h) (by rfl) ?y3g HS ?r3g
                  case y3g => (intro W hS; go_simp; try with_reducible rfl)
                  simp only [Act.put, List.setIfInBounds_toArray, List.set_cons_zero, List.set_cons_succ]
                  refine roH_take 4 (some 60) (v := ?v4g) rfl rfl (by kernel_rfl) (by kernel_rfl) (by kernel_rfl) (fun _ _ _ h => h) (by rfl) ?y4g HS ?r4g
                  case y4g => (intro W hS; go_simp; try with_reducible rfl)
                  simp only [Act.put, List.setIfInBounds_toArray, List.set_cons_zero, List.set_cons_succ]
                  refine roH_take 5 (some 61) (v := ?v5g) rfl rfl (by kernel_rfl) (by kernel_rfl) (by kernel_rfl) (fun _ _ _ h => h) (by rfl) ?y5g HS ?r5g
                  case y5g => (intro W hS; go_simp; try with_reducible rfl)
                  simp only [Act.put, List.setIfInBounds_toArray, List.set_cons_zero, List.set_cons_succ]
                  refine roH_take 6 (some 62) (v := ?v6g) rfl rfl (by kernel_rfl) (by kernel_rfl) (by kernel_rfl) (fun _ _ _ h => h) (by rfl) ?y6g HS ?r6g
                  case y6g => (intro W hS; go_simp; try with_reducible rfl)
                  simp only [Act.put, List.setIfInBounds_toArray, List.set_cons_zero, List.set_cons_succ]
                  refine roH_take 7 (some 63) (v := ?v7g) rfl rfl (by kernel_rfl) (by kernel_rfl) (by kernel_rfl) (fun _ _ _ h => h) (by rfl) ?y7g HS ?r7g
                  case y7g => (intro W hS; obtain ⟨s0, s1, s2, s3, s4⟩ := hS; go_simp; try with_reducible rfl)
                  simp only [Act.put, List.setIfInBounds_toArray, List.set_cons_zero, List.set_cons_succ]
                  refine roH_take 8 (some 64) (v := ?v8g) rfl rfl (by kernel_rfl) (by kernel_rfl) (by kernel_rfl) (fun _ _ _ h => h) (by rfl) ?y8g HS ?r8g
                  case y8g => (intro W hS; go_simp; try with_reducible rfl)
                  simp only [Act.put, List.setIfInBounds_toArray, List.set_cons_zero, List.set_cons_succ]
                  refine roH_take 9 (some 65) (v := ?v9g) rfl rfl (by kernel_rfl) (by kernel_rfl) (by kernel_rfl) (fun _ _ _ h => h) (by rfl) ?y9g HS ?r9g
                  case y9g => (intro W hS; go_simp; try with_reducible rfl)
                  simp only [Act.put, List.setIfInBounds_toArray, List.set_cons_zero, List.set_cons_succ]
                  refine roH_take 10 (some 66) (v := ?v10g) rfl rfl (by kernel_rfl) (by kernel_rfl) (by kernel_rfl) (fun _ _ _ h => h) (by rfl) ?y10g HS ?r10g
                  case y10g => (intro W hS; go_simp; try with_reducible rfl)
                  simp only [Act.put, List.setIfInBounds_toArray, List.set_cons_zero, List.set_cons_succ]
                  refine roH_skip 11 (some 67) rfl rfl (by kernel_rfl) (by kernel_rfl) (by kernel_rfl) (fun _ _ _ h => h) (by rfl) HS ?_
                  simp only [Act.put, List.setIfInBounds_toArray, List.set_cons_zero, List.set_cons_succ]
                  refine roH_skip 12 (some 68) rfl rfl (by kernel_rfl) (by kernel_rfl) (by kernel_rfl) (fun _ _ _ h => h) (by rfl) HS ?_
                  simp only [Act.put, List.setIfInBounds_toArray, List.set_cons_zero, List.set_cons_succ]
                  refine roH_skip 13 (some 69) rfl rfl (by kernel_rfl) (by kernel_rfl) (by kernel_rfl) (fun _ _ _ h => h) (by rfl) HS ?_
                  simp only [Act.put, List.setIfInBounds_toArray, List.set_cons_zero, List.set_cons_succ]
                  refine roH_skip 14 (some 70) rfl rfl (by kernel_rfl) (by kernel_rfl) (by kernel_rfl) (fun _ _ _ h => h) (by rfl) HS ?_
                  simp only [Act.put, List.setIfInBounds_toArray, List.set_cons_zero, List.set_cons_succ]
                  refine roH_skip 15 (some 71) rfl rfl (by kernel_rfl) (by kernel_rfl) (by kernel_rfl) (fun _ _ _ h => h) (by rfl) HS ?_
                  simp only [Act.put, List.setIfInBounds_toArray, List.set_cons_zero, List.set_cons_succ]
                  refine roH_take 16 (some 72) (v := ?v16g) rfl rfl (by kernel_rfl) (by kernel_rfl) (by kernel_rfl) (fun _ _ _ h => h) (by rfl) ?y16g HS ?r16g
                  case y16g => (intro W hS; go_simp; try with_reducible rfl)
                  simp only [Act.put, List.setIfInBounds_toArray, List.set_cons_zero, List.set_cons_succ]
                  refine roH_take 17 (some 73) (v := ?v17g) rfl rfl (by kernel_rfl) (by kernel_rfl) (by kernel_rfl) (fun _ _ _ h => h) (by rfl) ?y17g HS ?r17g
                  case y17g => (intro W hS; go_simp; try with_reducible rfl)
                  simp only [Act.put, List.setIfInBounds_toArray, List.set_cons_zero, List.set_cons_succ]
                  refine roH_skip 18 (some 74) rfl rfl (by kernel_rfl) (by kernel_rfl) (by kernel_rfl) (fun _ _ _ h => h) (by rfl) HS ?_
                  simp only [Act.put, List.setIfInBounds_toArray, List.set_cons_zero, List.set_cons_succ]
                  refine roH_skip 19 (some 75) rfl rfl (by kernel_rfl) (by kernel_rfl) (by kernel_rfl) (fun _ _ _ h => h) (by rfl) HS ?_
                  simp only [Act.put, List.setIfInBounds_toArray, List.set_cons_zero, List.set_cons_succ]
                  refine roH_skip 20 (some 76) rfl rfl (by kernel_rfl) (by kernel_rfl) (by kernel_rfl) (fun _ _ _ h => h) (by rfl) HS ?_
                  simp only [Act.put, List.setIfInBounds_toArray, List.set_cons_zero, List.set_cons_succ]
                  refine roH_skip 21 (some 77) rfl rfl (by kernel_rfl) (by kernel_rfl) (by kernel_rfl) (fun _ _ _ h => h) (by rfl) HS ?_
                  simp only [Act.put, List.setIfInBounds_toArray, List.set_cons_zero, List.set_cons_succ]
                  refine roH_skip 22 (some 78) rfl rfl (by kernel_rfl) (by kernel_rfl) (by kernel_rfl) (fun _ _ _ h => h) (by rfl) HS ?_
                  simp only [Act.put, List.setIfInBounds_toArray, List.set_cons_zero, List.set_cons_succ]
                  refine roH_skip 24 (some 80) rfl rfl (by kernel_rfl) (by kernel_rfl) (by kernel_rfl) (fun _ _ _ h => h) (by rfl) HS ?_
                  simp only [Act.put, List.setIfInBounds_toArray, List.set_cons_zero, List.set_cons_succ]
                  refine roH_skip 25 (some 81) rfl rfl (by kernel_rfl) (by kernel_rfl) (by kernel_rfl) (fun _ _ _ h => h) (by rfl) HS ?_
                  simp only [Act.put, List.setIfInBounds_toArray, List.set_cons_zero, List.set_cons_succ]
                  refine roH_skip 23 (some 79) rfl rfl (by kernel_rfl) (by kernel_rfl) (by kernel_rfl) (fun _ _ _ h => h) (by rfl) HS ?_
                  simp only [Act.put, List.setIfInBounds_toArray, List.set_cons_zero, List.set_cons_succ]
                  refine roH_skip 26 (some 82) rfl rfl (by kernel_rfl) (by kernel_rfl) (by kernel_rfl) (fun _ _ _ h => h) (by rfl) HS ?_
                  simp only [Act.put, List.setIfInBounds_toArray, List.set_cons_zero, List.set_cons_succ]
                  refine roH_skip 27 (some 83) rfl rfl (by kernel_rfl) (by kernel_rfl) (by kernel_rfl) (fun _ _ _ h => h) (by rfl) HS ?_
                  simp only [Act.put, List.setIfInBounds_toArray, List.set_cons_zero, List.set_cons_succ]
                  refine roH_take 28 (some 84) (v := ?v28g) rfl rfl (by kernel_rfl) (by kernel_rfl) (by kernel_rfl) (fun _ _ _ h => h) (by rfl) ?y28g HS ?r28g
                  case y28g => (intro W hS; go_simp; try with_reducible rfl)
                  simp only [Act.put, List.setIfInBounds_toArray, List.set_cons_zero, List.set_cons_succ]
                  refine wpAnyH_done (by kernel_rfl) ?_ _
                  replace hT := hT.up hz0
                  replace dT := dT.below hz0
                  replace hO := hO.up hz0
                  replace hbx := bthenZ hbx hbx.size hz0
                  clear HS hSk
                  go_upto_region 20 with (fail)
                  refine wp_region_any (by kernel_rfl) ?_
                  change wpAny _ _ _ _ _ _ _ (World.drew _)
                  generalize hdw : World.drew wzg = wzh at *
                  have hbd : Below wzg.heap.size wzg wzh := by subst hdw; exact ⟨rfl, rfl, rfl, Nat.le_refl _, fun _ _ => rfl⟩
                  replace hT := hT.up hbd
                  replace dT := dT.below hbd
                  replace hO := hO.up hbd
                  replace hbx := bthenZ hbx hbx.size hbd
                  have kL := fun (W : World) (q : Nat) (h : Below wzh.heap.size wzh W) (hq : q < K.length) => (by { have z := tlevel_any (tx := tx) (Ay := Ay) (ny := ty.length) (cy := cy) (mb := mb) (hT.rels.up h) (q : Int) (wf11 (by omega)); rw [(hok.out.lev hq).1] at z; exact z } : Calls Tryz.prog 23 #[.agg #[.string tx, .slice Ay ty.length cy, .map mb, .slice Ar K.length cr], .int .i64 (q : Nat)] W fun e w' => e = .returned (.int .i64 (lvAt v q)) ∧ Below W.heap.size W w')
                  have kN := fun (W : World) (h : Below wzh.heap.size wzh W) => tlen_any (tx := tx) (Ay := Ay) (ny := ty.length) (cy := cy) (mb := mb) (hT.rels.up h)
                  clear hdw hbd
                  have hSk : ∀ W, Below wzh.heap.size wzh W → (W.cell? ⟨g1, 0, none⟩ = some (.string tx) ∧ W.cell? ⟨g1, 1, none⟩ = some (.slice Ay ty.length cy) ∧ W.cell? ⟨g1, 2, none⟩ = some (.map mb) ∧ W.cell? ⟨g1, 3, none⟩ = some (.slice Ar K.length cr)) := fun W hb => ⟨(dT.below hb).cell 0, (dT.below hb).cell 1, (dT.below hb).cell 2, (dT.below hb).cell 3⟩
                  have hz0 := Below.refl wzh.heap.size wzh
                  have HS := hSk _ hz0
                  refine wpAny_of_held (S := fun W => W.cell? ⟨g1, 0, none⟩ = some (.string tx) ∧ W.cell? ⟨g1, 1, none⟩ = some (.slice Ay ty.length cy) ∧ W.cell? ⟨g1, 2, none⟩ = some (.map mb) ∧ W.cell? ⟨g1, 3, none⟩ = some (.slice Ar K.length cr)) _ _ _ _ ?_
                  refine roH_take 0 (some 85) (v := ?v0h) rfl rfl (by kernel_rfl) (by kernel_rfl) (by kernel_rfl) (fun _ _ _ h => h) (by rfl) ?y0h HS ?r0h
                  case y0h => (intro W hS; obtain ⟨s0, s1, s2, s3⟩ := hS; go_simp; try with_reducible rfl)
                  simp only [Act.put, List.setIfInBounds_toArray, List.set_cons_zero, List.set_cons_succ]
                  refine roH_take 1 (some 86) (v := ?v1h) rfl rfl (by kernel_rfl) (by kernel_rfl) (by kernel_rfl) (fun _ _ _ h => h) (by rfl) ?y1h HS ?r1h
                  case y1h => (intro W hS; go_simp; try with_reducible rfl)
                  simp only [Act.put, List.setIfInBounds_toArray, List.set_cons_zero, List.set_cons_succ]
                  refine roH_one 2 rfl (by kernel_rfl) ?_
                  intro Kf hKf
                  go_simp
                  refine (kL _ i hz0 hil).mono ?_
                  rintro e W1h ⟨rfl, hc1h⟩
                  have hz1h : Below wzh.heap.size wzh W1h := bthenZ hz0 hz0.size hc1h
                  replace HS := hSk _ hz1h
                  refine hKf _ _ HS ?_
                  clear hKf Kf
                  refine roH_take 3 (some 88) (v := ?v3h) rfl rfl (by kernel_rfl) (by kernel_rfl) (by kernel_rfl) (fun _ _ _ h => h) (by rfl) ?y3h HS ?r3h
                  case y3h => (intro W hS; go_simp; try with_reducible rfl)
                  simp only [Act.put, List.setIfInBounds_toArray, List.set_cons_zero, List.set_cons_succ]
                  refine roH_take 4 (some 89) (v := ?v4h) rfl rfl (by kernel_rfl) (by kernel_rfl) (by kernel_rfl) (fun _ _ _ h => h) (by rfl) ?y4h HS ?r4h
                  case y4h => (intro W hS; go_simp; try with_reducible rfl)
                  simp only [Act.put, List.setIfInBounds_toArray, List.set_cons_zero, List.set_cons_succ]
                  refine roH_take 5 (some 90) (v := ?v5h) rfl rfl (by kernel_rfl) (by kernel_rfl) (by kernel_rfl) (fun _ _ _ h => h) (by rfl) ?y5h HS ?r5h
                  case y5h => (intro W hS; obtain ⟨s0, s1, s2, s3⟩ := hS; go_simp; try with_reducible rfl)
                  simp only [Act.put, List.setIfInBounds_toArray, List.set_cons_zero, List.set_cons_succ]
                  refine roH_take 6 (some 91) (v := ?v6h) rfl rfl (by kernel_rfl) (by kernel_rfl) (by kernel_rfl) (fun _ _ _ h => h) (by rfl) ?y6h HS ?r6h
                  case y6h => (intro W hS; go_simp; try with_reducible rfl)
                  simp only [Act.put, List.setIfInBounds_toArray, List.set_cons_zero, List.set_cons_succ]
                  refine roH_take 8 (some 93) (v := ?v8h) rfl rfl (by kernel_rfl) (by kernel_rfl) (by kernel_rfl) (fun _ _ _ h => h) (by rfl) ?y8h HS ?r8h
                  case y8h => (intro W hS; obtain ⟨s0, s1, s2, s3⟩ := hS; go_simp; try with_reducible rfl)
                  simp only [Act.put, List.setIfInBounds_toArray, List.set_cons_zero, List.set_cons_succ]
                  refine roH_one 7 rfl (by kernel_rfl) ?_
                  intro Kf hKf
                  go_simp
                  refine (kL _ i hz1h hil).mono ?_
                  rintro e W2h ⟨rfl, hc2h⟩
                  have hz2h : Below wzh.heap.size wzh W2h := bthenZ hz1h hz1h.size hc2h
                  replace HS := hSk _ hz2h
                  refine hKf _ _ HS ?_
                  clear hKf Kf
                  refine roH_one 9 rfl (by kernel_rfl) ?_
                  intro Kf hKf
                  go_simp
                  refine (kN _ hz2h).mono ?_
                  rintro e W3h ⟨rfl, hc3h⟩
                  have hz3h : Below wzh.heap.size wzh W3h := bthenZ hz2h hz2h.size hc3h
                  replace HS := hSk _ hz3h
                  refine hKf _ _ HS ?_
                  clear hKf Kf
                  refine roH_take 10 (some 95) (v := ?v10h) rfl rfl (by kernel_rfl) (by kernel_rfl) (by kernel_rfl) (fun _ _ _ h => h) (by rfl) ?y10h HS ?r10h
                  case y10h => (intro W hS; go_simp; try with_reducible rfl)
                  simp only [Act.put, List.setIfInBounds_toArray, List.set_cons_zero, List.set_cons_succ]
                  refine roH_take 11 (some 96) (v := ?v11h) rfl rfl (by kernel_rfl) (by kernel_rfl) (by kernel_rfl) (fun _ _ _ h => h) (by rfl) ?y11h HS ?r11h
                  case y11h => (intro W hS; go_simp; try with_reducible rfl)
                  simp only [Act.put, List.setIfInBounds_toArray, List.set_cons_zero, List.set_cons_succ]
                  refine wpAnyH_done (by kernel_rfl) ?_ _
                  replace hT := hT.up hz3h
                  replace dT := dT.below hz3h
                  replace hO := hO.up hz3h
                  replace hbx := bthenZ hbx hbx.size hz3h
                  clear HS hSk kL kN
                  go_wp2_with fail
                  exact ⟨⟨i + 1, by go_num, by omega, hbx⟩, by simp [intOf]; omega⟩
              · have h3e : (((ops.length : Nat) : Int) == 3) = false := by rw [beq_eq_false_iff_ne]; omega
                refine wp_region_any (by kernel_rfl) ?_
                change wpAny _ _ _ _ _ _ _ (World.drew _)
                generalize hdw : World.drew wr = wzi at *
                have hbd : Below wr.heap.size wr wzi := by subst hdw; exact ⟨rfl, rfl, rfl, Nat.le_refl _, fun _ _ => rfl⟩
                replace hT := hT.up hbd
                replace dT := dT.below hbd
                replace hO := hO.up hbd
                replace hbx := bthenZ hbx hbx.size hbd
                clear hdw hbd
                have hSk : ∀ W, Below wzi.heap.size wzi W → (W.cell? ⟨g1, 0, none⟩ = some (.string tx) ∧ W.cell? ⟨g1, 1, none⟩ = some (.slice Ay ty.length cy) ∧ W.cell? ⟨g1, 2, none⟩ = some (.map mb) ∧ W.cell? ⟨g1, 3, none⟩ = some (.slice Ar K.length cr)) := fun W hb => ⟨(dT.below hb).cell 0, (dT.below hb).cell 1, (dT.below hb).cell 2, (dT.below hb).cell 3⟩
                have hz0 := Below.refl wzi.heap.size wzi
                have HS := hSk _ hz0
                refine wpAny_of_held (S := fun W => W.cell? ⟨g1, 0, none⟩ = some (.string tx) ∧ W.cell? ⟨g1, 1, none⟩ = some (.slice Ay ty.length cy) ∧ W.cell? ⟨g1, 2, none⟩ = some (.map mb) ∧ W.cell? ⟨g1, 3, none⟩ = some (.slice Ar K.length cr)) _ _ _ _ ?_
                refine roH_take 0 (some 56) (v := ?v0i) rfl rfl (by kernel_rfl) (by kernel_rfl) (by kernel_rfl) (fun _ _ _ h => h) (by rfl) ?y0i HS ?r0i
                case y0i => (intro W hS; go_simp; try with_reducible rfl)
                simp only [Act.put, List.setIfInBounds_toArray, List.set_cons_zero, List.set_cons_succ]
                refine roH_take 1 (some 57) (v := ?v1i) rfl rfl (by kernel_rfl) (by kernel_rfl) (by kernel_rfl) (fun _ _ _ h => h) (by rfl) ?y1i HS ?r1i
                case y1i => (intro W hS; go_simp; try with_reducible rfl)
                simp only [Act.put, List.setIfInBounds_toArray, List.set_cons_zero, List.set_cons_succ]
                refine roH_take 2 (some 58) (v := ?v2i) rfl rfl (by kernel_rfl) (by kernel_rfl) (by kernel_rfl) (fun _ _ _ h => h) (by rfl) ?y2i HS ?r2i
                case y2i => (intro W hS; go_simp; try with_reducible rfl)
                simp only [Act.put, List.setIfInBounds_toArray, List.set_cons_zero, List.set_cons_succ]
                refine roH_take 3 (some 59) (v := ?v3i) rfl rfl (by kernel_rfl) (by kernel_rfl) (by kernel_rfl) (fun _ _ _ h => h) (by rfl) ?y3i HS ?r3i
                case y3i => (intro W hS; go_simp; try with_reducible rfl)
                simp only [Act.put, List.setIfInBounds_toArray, List.set_cons_zero, List.set_cons_succ]
                refine roH_skip 4 (some 60) rfl rfl (by kernel_rfl) (by kernel_rfl) (by kernel_rfl) (fun _ _ _ h => h) (by rfl) HS ?_
                simp only [Act.put, List.setIfInBounds_toArray, List.set_cons_zero, List.set_cons_succ]
                refine roH_skip 5 (some 61) rfl rfl (by kernel_rfl) (by kernel_rfl) (by kernel_rfl) (fun _ _ _ h => h) (by rfl) HS ?_
                simp only [Act.put, List.setIfInBounds_toArray, List.set_cons_zero, List.set_cons_succ]
                refine roH_skip 6 (some 62) rfl rfl (by kernel_rfl) (by kernel_rfl) (by kernel_rfl) (fun _ _ _ h => h) (by rfl) HS ?_
                simp only [Act.put, List.setIfInBounds_toArray, List.set_cons_zero, List.set_cons_succ]
                refine roH_skip 7 (some 63) rfl rfl (by kernel_rfl) (by kernel_rfl) (by kernel_rfl) (fun _ _ _ h => h) (by rfl) HS ?_
                simp only [Act.put, List.setIfInBounds_toArray, List.set_cons_zero, List.set_cons_succ]
                refine roH_skip 8 (some 64) rfl rfl (by kernel_rfl) (by kernel_rfl) (by kernel_rfl) (fun _ _ _ h => h) (by rfl) HS ?_
                simp only [Act.put, List.setIfInBounds_toArray, List.set_cons_zero, List.set_cons_succ]
                refine roH_take 9 (some 65) (v := ?v9i) rfl rfl (by kernel_rfl) (by kernel_rfl) (by kernel_rfl) (fun _ _ _ h => h) (by rfl) ?y9i HS ?r9i
                case y9i => (intro W hS; go_simp; try with_reducible rfl)
                simp only [Act.put, List.setIfInBounds_toArray, List.set_cons_zero, List.set_cons_succ]
                refine roH_take 10 (some 66) (v := ?v10i) rfl rfl (by kernel_rfl) (by kernel_rfl) (by kernel_rfl) (fun _ _ _ h => h) (by rfl) ?y10i HS ?r10i
                case y10i => (intro W hS; go_simp; try with_reducible rfl)
                simp only [Act.put, List.setIfInBounds_toArray, List.set_cons_zero, List.set_cons_succ]
                refine roH_skip 11 (some 67) rfl rfl (by kernel_rfl) (by kernel_rfl) (by kernel_rfl) (fun _ _ _ h => h) (by rfl) HS ?_
                simp only [Act.put, List.setIfInBounds_toArray, List.set_cons_zero, List.set_cons_succ]
                refine roH_skip 12 (some 68) rfl rfl (by kernel_rfl) (by kernel_rfl) (by kernel_rfl) (fun _ _ _ h => h) (by rfl) HS ?_
                simp only [Act.put, List.setIfInBounds_toArray, List.set_cons_zero, List.set_cons_succ]
                refine roH_skip 13 (some 69) rfl rfl (by kernel_rfl) (by kernel_rfl) (by kernel_rfl) (fun _ _ _ h => h) (by rfl) HS ?_
                simp only [Act.put, List.setIfInBounds_toArray, List.set_cons_zero, List.set_cons_succ]
                refine roH_skip 14 (some 70) rfl rfl (by kernel_rfl) (by kernel_rfl) (by kernel_rfl) (fun _ _ _ h => h) (by rfl) HS ?_
                simp only [Act.put, List.setIfInBounds_toArray, List.set_cons_zero, List.set_cons_succ]
                refine roH_skip 15 (some 71) rfl rfl (by kernel_rfl) (by kernel_rfl) (by kernel_rfl) (fun _ _ _ h => h) (by rfl) HS ?_
                simp only [Act.put, List.setIfInBounds_toArray, List.set_cons_zero, List.set_cons_succ]
                refine roH_take 16 (some 72) (v := ?v16i) rfl rfl (by kernel_rfl) (by kernel_rfl) (by kernel_rfl) (fun _ _ _ h => h) (by rfl) ?y16i HS ?r16i
                case y16i => (intro W hS; go_simp; try with_reducible rfl)
                simp only [Act.put, List.setIfInBounds_toArray, List.set_cons_zero, List.set_cons_succ]
                refine roH_take 17 (some 73) (v := ?v17i) rfl rfl (by kernel_rfl) (by kernel_rfl) (by kernel_rfl) (fun _ _ _ h => h) (by rfl) ?y17i HS ?r17i
                case y17i => (intro W hS; go_simp; try with_reducible rfl)
                simp only [Act.put, List.setIfInBounds_toArray, List.set_cons_zero, List.set_cons_succ]
                refine roH_skip 18 (some 74) rfl rfl (by kernel_rfl) (by kernel_rfl) (by kernel_rfl) (fun _ _ _ h => h) (by rfl) HS ?_
                simp only [Act.put, List.setIfInBounds_toArray, List.set_cons_zero, List.set_cons_succ]
                refine roH_skip 19 (some 75) rfl rfl (by kernel_rfl) (by kernel_rfl) (by kernel_rfl) (fun _ _ _ h => h) (by rfl) HS ?_
                simp only [Act.put, List.setIfInBounds_toArray, List.set_cons_zero, List.set_cons_succ]
                refine roH_skip 20 (some 76) rfl rfl (by kernel_rfl) (by kernel_rfl) (by kernel_rfl) (fun _ _ _ h => h) (by rfl) HS ?_
                simp only [Act.put, List.setIfInBounds_toArray, List.set_cons_zero, List.set_cons_succ]
                refine roH_skip 21 (some 77) rfl rfl (by kernel_rfl) (by kernel_rfl) (by kernel_rfl) (fun _ _ _ h => h) (by rfl) HS ?_
                simp only [Act.put, List.setIfInBounds_toArray, List.set_cons_zero, List.set_cons_succ]
                refine roH_skip 22 (some 78) rfl rfl (by kernel_rfl) (by kernel_rfl) (by kernel_rfl) (fun _ _ _ h => h) (by rfl) HS ?_
                simp only [Act.put, List.setIfInBounds_toArray, List.set_cons_zero, List.set_cons_succ]
                refine roH_skip 24 (some 80) rfl rfl (by kernel_rfl) (by kernel_rfl) (by kernel_rfl) (fun _ _ _ h => h) (by rfl) HS ?_
                simp only [Act.put, List.setIfInBounds_toArray, List.set_cons_zero, List.set_cons_succ]
                refine roH_skip 25 (some 81) rfl rfl (by kernel_rfl) (by kernel_rfl) (by kernel_rfl) (fun _ _ _ h => h) (by rfl) HS ?_
                simp only [Act.put, List.setIfInBounds_toArray, List.set_cons_zero, List.set_cons_succ]
                refine roH_skip 23 (some 79) rfl rfl (by kernel_rfl) (by kernel_rfl) (by kernel_rfl) (fun _ _ _ h => h) (by rfl) HS ?_
                simp only [Act.put, List.setIfInBounds_toArray, List.set_cons_zero, List.set_cons_succ]
                refine roH_skip 26 (some 82) rfl rfl (by kernel_rfl) (by kernel_rfl) (by kernel_rfl) (fun _ _ _ h => h) (by rfl) HS ?_
                simp only [Act.put, List.setIfInBounds_toArray, List.set_cons_zero, List.set_cons_succ]
                refine roH_skip 27 (some 83) rfl rfl (by kernel_rfl) (by kernel_rfl) (by kernel_rfl) (fun _ _ _ h => h) (by rfl) HS ?_
                simp only [Act.put, List.setIfInBounds_toArray, List.set_cons_zero, List.set_cons_succ]
                refine roH_take 28 (some 84) (v := ?v28i) rfl rfl (by kernel_rfl) (by kernel_rfl) (by kernel_rfl) (fun _ _ _ h => h) (by rfl) ?y28i HS ?r28i
                case y28i => (intro W hS; go_simp; try with_reducible rfl)
                simp only [Act.put, List.setIfInBounds_toArray, List.set_cons_zero, List.set_cons_succ]
                refine wpAnyH_done (by kernel_rfl) ?_ _
                replace hT := hT.up hz0
                replace dT := dT.below hz0
                replace hO := hO.up hz0
                replace hbx := bthenZ hbx hbx.size hz0
                clear HS hSk
                go_upto_region 20 with (fail)
                refine wp_region_any (by kernel_rfl) ?_
                change wpAny _ _ _ _ _ _ _ (World.drew _)
                generalize hdw : World.drew wzi = wzj at *
                have hbd : Below wzi.heap.size wzi wzj := by subst hdw; exact ⟨rfl, rfl, rfl, Nat.le_refl _, fun _ _ => rfl⟩
                replace hT := hT.up hbd
                replace dT := dT.below hbd
                replace hO := hO.up hbd
                replace hbx := bthenZ hbx hbx.size hbd
                have kL := fun (W : World) (q : Nat) (h : Below wzj.heap.size wzj W) (hq : q < K.length) => (by { have z := tlevel_any (tx := tx) (Ay := Ay) (ny := ty.length) (cy := cy) (mb := mb) (hT.rels.up h) (q : Int) (wf11 (by omega)); rw [(hok.out.lev hq).1] at z; exact z } : Calls Tryz.prog 23 #[.agg #[.string tx, .slice Ay ty.length cy, .map mb, .slice Ar K.length cr], .int .i64 (q : Nat)] W fun e w' => e = .returned (.int .i64 (lvAt v q)) ∧ Below W.heap.size W w')
                have kN := fun (W : World) (h : Below wzj.heap.size wzj W) => tlen_any (tx := tx) (Ay := Ay) (ny := ty.length) (cy := cy) (mb := mb) (hT.rels.up h)
                clear hdw hbd
                have hSk : ∀ W, Below wzj.heap.size wzj W → (W.cell? ⟨g1, 0, none⟩ = some (.string tx) ∧ W.cell? ⟨g1, 1, none⟩ = some (.slice Ay ty.length cy) ∧ W.cell? ⟨g1, 2, none⟩ = some (.map mb) ∧ W.cell? ⟨g1, 3, none⟩ = some (.slice Ar K.length cr)) := fun W hb => ⟨(dT.below hb).cell 0, (dT.below hb).cell 1, (dT.below hb).cell 2, (dT.below hb).cell 3⟩
                have hz0 := Below.refl wzj.heap.size wzj
                have HS := hSk _ hz0
                refine wpAny_of_held (S := fun W => W.cell? ⟨g1, 0, none⟩ = some (.string tx) ∧ W.cell? ⟨g1, 1, none⟩ = some (.slice Ay ty.length cy) ∧ W.cell? ⟨g1, 2, none⟩ = some (.map mb) ∧ W.cell? ⟨g1, 3, none⟩ = some (.slice Ar K.length cr)) _ _ _ _ ?_
                refine roH_take 0 (some 85) (v := ?v0j) rfl rfl (by kernel_rfl) (by kernel_rfl) (by kernel_rfl) (fun _ _ _ h => h) (by rfl) ?y0j HS ?r0j
                case y0j => (intro W hS; obtain ⟨s0, s1, s2, s3⟩ := hS; go_simp; try with_reducible rfl)
                simp only [Act.put, List.setIfInBounds_toArray, List.set_cons_zero, List.set_cons_succ]
                refine roH_take 1 (some 86) (v := ?v1j) rfl rfl (by kernel_rfl) (by kernel_rfl) (by kernel_rfl) (fun _ _ _ h => h) (by rfl) ?y1j HS ?r1j
                case y1j => (intro W hS; go_simp; try with_reducible rfl)
                simp only [Act.put, List.setIfInBounds_toArray, List.set_cons_zero, List.set_cons_succ]
                refine roH_one 2 rfl (by kernel_rfl) ?_
                intro Kf hKf
                go_simp
                refine (kL _ i hz0 hil).mono ?_
                rintro e W1j ⟨rfl, hc1j⟩
                have hz1j : Below wzj.heap.size wzj W1j := bthenZ hz0 hz0.size hc1j
                replace HS := hSk _ hz1j
                refine hKf _ _ HS ?_
                clear hKf Kf
                refine roH_take 3 (some 88) (v := ?v3j) rfl rfl (by kernel_rfl) (by kernel_rfl) (by kernel_rfl) (fun _ _ _ h => h) (by rfl) ?y3j HS ?r3j
                case y3j => (intro W hS; go_simp; try with_reducible rfl)
                simp only [Act.put, List.setIfInBounds_toArray, List.set_cons_zero, List.set_cons_succ]
                refine roH_take 4 (some 89) (v := ?v4j) rfl rfl (by kernel_rfl) (by kernel_rfl) (by kernel_rfl) (fun _ _ _ h => h) (by rfl) ?y4j HS ?r4j
                case y4j => (intro W hS; go_simp; try with_reducible rfl)
                simp only [Act.put, List.setIfInBounds_toArray, List.set_cons_zero, List.set_cons_succ]
                refine roH_take 5 (some 90) (v := ?v5j) rfl rfl (by kernel_rfl) (by kernel_rfl) (by kernel_rfl) (fun _ _ _ h => h) (by rfl) ?y5j HS ?r5j
                case y5j => (intro W hS; obtain ⟨s0, s1, s2, s3⟩ := hS; go_simp; try with_reducible rfl)
                simp only [Act.put, List.setIfInBounds_toArray, List.set_cons_zero, List.set_cons_succ]
                refine roH_take 6 (some 91) (v := ?v6j) rfl rfl (by kernel_rfl) (by kernel_rfl) (by kernel_rfl) (fun _ _ _ h => h) (by rfl) ?y6j HS ?r6j
                case y6j => (intro W hS; go_simp; try with_reducible rfl)
                simp only [Act.put, List.setIfInBounds_toArray, List.set_cons_zero, List.set_cons_succ]
                refine roH_take 8 (some 93) (v := ?v8j) rfl rfl (by kernel_rfl) (by kernel_rfl) (by kernel_rfl) (fun _ _ _ h => h) (by rfl) ?y8j HS ?r8j
                case y8j => (intro W hS; obtain ⟨s0, s1, s2, s3⟩ := hS; go_simp; try with_reducible rfl)
                simp only [Act.put, List.setIfInBounds_toArray, List.set_cons_zero, List.set_cons_succ]
                refine roH_one 7 rfl (by kernel_rfl) ?_
                intro Kf hKf
                go_simp
                refine (kL _ i hz1j hil).mono ?_
                rintro e W2j ⟨rfl, hc2j⟩
                have hz2j : Below wzj.heap.size wzj W2j := bthenZ hz1j hz1j.size hc2j
                replace HS := hSk _ hz2j
                refine hKf _ _ HS ?_
                clear hKf Kf
                refine roH_one 9 rfl (by kernel_rfl) ?_
                intro Kf hKf
                go_simp
                refine (kN _ hz2j).mono ?_
                rintro e W3j ⟨rfl, hc3j⟩
                have hz3j : Below wzj.heap.size wzj W3j := bthenZ hz2j hz2j.size hc3j
                replace HS := hSk _ hz3j
                refine hKf _ _ HS ?_
                clear hKf Kf
                refine roH_take 10 (some 95) (v := ?v10j) rfl rfl (by kernel_rfl) (by kernel_rfl) (by kernel_rfl) (fun _ _ _ h => h) (by rfl) ?y10j HS ?r10j
                case y10j => (intro W hS; go_simp; try with_reducible rfl)
                simp only [Act.put, List.setIfInBounds_toArray, List.set_cons_zero, List.set_cons_succ]
                refine roH_take 11 (some 96) (v := ?v11j) rfl rfl (by kernel_rfl) (by kernel_rfl) (by kernel_rfl) (fun _ _ _ h => h) (by rfl) ?y11j HS ?r11j
                case y11j => (intro W hS; go_simp; try with_reducible rfl)
                simp only [Act.put, List.setIfInBounds_toArray, List.set_cons_zero, List.set_cons_succ]
                refine wpAnyH_done (by kernel_rfl) ?_ _
                replace hT := hT.up hz3j
                replace dT := dT.below hz3j
                replace hO := hO.up hz3j
                replace hbx := bthenZ hbx hbx.size hz3j
                clear HS hSk kL kN
                go_wp2_with fail
                exact ⟨⟨i + 1, by go_num, by omega, hbx⟩, by simp [intOf]; omega⟩
        · obtain rfl : i = K.length := by omega
          have hdi : ¬ (((K.length : Nat) : Int) < (K.length : Int)) := by omega
          obtain ⟨c0, c1, c2, c3⟩ := dT.c4
          have cl := dT.lt
          have kk := tlen_any (tx := tx) (Ay := Ay) (ny := ty.length) (cy := cy) (mb := mb) hT.rels
          go_wp2_with (go_at_call 11; refine kk.mono ?_; rintro e wn ⟨rfl, hb3⟩)
          go_ret
          exact ⟨rfl, bthenZ hb hb.size (bthenZ hbx hbx.size hb3)⟩
end Go.Proofs.YteafdhpcnpfmkaaGreat
