/- PrintShows walked: it answers true. -/
import Derived.BigQuiet
import Derived.Deep.QuietTactic
import Derived.Test.YtkeonempmchpnaaSmlF
import Derived.Test.YtkeonempmchpnaaOf8
import Derived.Test.YtkeonempmchpnaaAwake8
import Derived.Test.YtkeonempmchpnaaFrame
namespace Go.Proofs.Ytkeonempmchpnaa
open Go.RowKit

theorem DVTyps.keep8 {w w' : World} {B : Nat} {v : Value} {l : List TypP} (h : DVTyps B w v l) (hb : Below w.heap.size w w') : DVTyps B w' v l := by
  obtain ⟨xs, h1, h2⟩ := h
  exact ⟨xs, own_below h1 hb, h2.keep (dkeeps3_below hb)⟩
set_option maxRecDepth 100000 in
set_option maxHeartbeats 8000000 in
theorem printShows_walk (s0 : ByteArray) (w : World) (_f0 : s0.size ≤ maxLen) :
    Calls Try.prog 4 #[.string s0] w fun e w' => e = .returned (.bool true) ∧ Below w.heap.size w w' := by
  by_cases h0 : 1500 < s0.size
  · have hd : (1500 : Int) < (s0.size : Nat) := by omega
    go_enter Try.func4, Try.ntmps4
    go_wp2_with ((with_reducible refine (awake8_any _).mono ?_); rintro e w1 ⟨rfl, hb1⟩)
    go_ret
    exact ⟨rfl, hb1⟩
  · have hd : ¬ (1500 : Int) < (s0.size : Nat) := by omega
    obtain ⟨T, ea, pa, ha⟩ : ∃ T e p, parseS s0 = (T, e, p) := ⟨_, _, _, rfl⟩
    have ka := fun W => parse_named s0 (by omega) ha W
    have hsh := says_shw s0
    rw [ha] at hsh
    dsimp only at hsh
    have hTl := hsh.len
    clear ha
    by_cases he : ea = 0
    · subst he
      go_enter Try.func4, Try.ntmps4
      go_wp2_with (first
        | ((with_reducible refine (awake8_any _).mono ?_); rintro e w1 ⟨rfl, hb1⟩)
        | ((with_reducible refine (ka _).mono ?_); rintro e w2 ⟨⟨Aa, ca, rfl, hva⟩, hb2⟩))
      have h12 := hb1.trans (hb2.mono hb1.size)
      have hal : Below w2.heap.size w2 (w2.alloc (.cells #[.slice Aa T.length ca] 25)) := (Below.refl _ w2).alloc (Nat.le_refl _) _
      have hx := Bk.new w2 #[.slice Aa T.length ca] 25
      have hva2 := hva.below hal
      have h13 := h12.trans (hal.mono h12.size)
      clear hva hb1 hb2 h12
      generalize w2.alloc (.cells #[.slice Aa T.length ca] 25) = w3 at *
      refine (of8_any hva2 hsh.few).mono ?_
      rintro e w4 ⟨⟨v4, rfl, hd4⟩, hb4⟩
      have hx4 := hx.below hb4
      have hva4 := hva2.below hb4
      have h14 := h13.trans (hb4.mono h13.size)
      obtain ⟨Ad, cdT, rfl, _⟩ := Rd.own hd4.choose_spec.1
      clear hx hva2 hb4 h13 hal ka
      go_wp2_with fail
      go_loopw [8] (fun vi wx => ∃ i : Nat, vi = .int .i64 i ∧ i ≤ T.length ∧ Below w4.heap.size w4 wx) (fun vi _ => T.length - (intOf vi).toNat)
      case atStart => exact ⟨0, rfl, Nat.zero_le _, Below.refl _ _⟩
      case round =>
        obtain ⟨i, rfl, hi, hb5⟩ := hrel
        have z5 := hb5.size
        by_cases hil : i < T.length
        · have hdi : (i : Int) < (T.length : Nat) := by omega
          obtain ⟨t, ht⟩ : ∃ t, T[i]? = some t := ⟨T[i], List.getElem?_eq_getElem hil⟩
          have hst := hsh.sml t (List.mem_of_getElem? ht)
          have htt := hsh.tree t (List.mem_of_getElem? ht)
          have hrl := hst.rels.1
          go_wp2_with fail
          go_loopw [9] (fun vk wy => ∃ k : Nat, vk = .int .i64 k ∧ k ≤ t.rels.length ∧ Below w4.heap.size w4 wy) (fun vk _ => t.rels.length - (intOf vk).toNat)
          case atStart => exact ⟨0, rfl, Nat.zero_le _, hb5⟩
          case round =>
            clear hb5 z5
            obtain ⟨k, rfl, hk, hb5⟩ := hrel
            have z5 := hb5.size
            have hva5 := hva4.below hb5
            have hd5 := hd4.keep8 hb5
            have q0 : wr.cell? ⟨w2.heap.size, 0, none⟩ = some (.slice Aa T.length ca) := (hx4.below hb5).cell 0
            obtain ⟨gT, c2, vr, e1, hr, g0, q1⟩ := hva5.get ht
            cases e1
            obtain ⟨Ar, cr, rfl, _⟩ := Rd.own hr.choose_spec.1
            obtain ⟨gD, c3, vd, e1, hrd, g1, q3⟩ := hd5.get ht
            cases e1
            obtain ⟨Ard, cd, rfl, _⟩ := Rd.own hrd.choose_spec.1
            by_cases hkl : k < t.rels.length
            · have hdk : (k : Int) < (t.rels.length : Nat) := by omega
              obtain ⟨x, hxk⟩ : ∃ x, t.rels[k]? = some x := ⟨t.rels[k], List.getElem?_eq_getElem hkl⟩
              have hsx := hst.rels.2 x (List.mem_of_getElem? hxk)
              obtain ⟨tx, hto, htg, hts⟩ := (htt x (List.mem_of_getElem? hxk)).tree
              obtain ⟨gr, c4, vs, vo, e1, _, ho, _, _, _, _, _, q2⟩ := hr.get hxk
              cases e1
              obtain ⟨Ao, cO, rfl, ro⟩ := Rd.own ho
              obtain ⟨gd, c5, vs2, vo2, e1, _, hdo, _, _, _, _, _, q4⟩ := hrd.get hxk
              cases e1
              obtain ⟨Do, cDo, rfl, rd⟩ := Rd.own hdo
              have kr : ∀ W, Rd W W.heap.size 3 Do x.ops.length cDo (ocells x.ops) → Calls Try.prog 16 #[.slice Do x.ops.length cDo] W fun e w' => e = .returned (.string (rewS x.ops)) ∧ Below W.heap.size W w' := fun W hW => by
                rw [hto]
                rw [hto] at hW
                rw [rewS_tree tx htg]
                exact rref_rewrite tx htg hts hW (by rw [← hto]; exact hsx.ops.1)
              clear hto hva5 hd5 g0 g1
              go_wp2_with fail
              refine wp_region_held (S := fun W => W.cell? ⟨w2.heap.size, 0, none⟩ = some (.slice (some ⟨gT, 0, none⟩) T.length ca) ∧ W.cell? ⟨gT, i * 2 + 1, none⟩ = some (.slice (some ⟨gr, 0, none⟩) t.rels.length cr) ∧ W.cell? ⟨gr, k * 6 + 5, none⟩ = some (.slice Ao x.ops.length cO) ∧ W.cell? ⟨gD, i * 2 + 1, none⟩ = some (.slice (some ⟨gd, 0, none⟩) t.rels.length cd) ∧ W.cell? ⟨gd, k * 6 + 5, none⟩ = some (.slice Do x.ops.length cDo)) (by kernel_rfl) ?_
              change wpAnyH _ _ _ _ _ _ _ _ (World.drew _)
              have hbd : Below wr.heap.size wr (World.drew wr) := ⟨rfl, rfl, rfl, Nat.le_refl _, fun _ _ => rfl⟩
              generalize World.drew wr = Wd at *
              have HS : Wd.cell? ⟨w2.heap.size, 0, none⟩ = some (.slice (some ⟨gT, 0, none⟩) T.length ca) ∧ Wd.cell? ⟨gT, i * 2 + 1, none⟩ = some (.slice (some ⟨gr, 0, none⟩) t.rels.length cr) ∧ Wd.cell? ⟨gr, k * 6 + 5, none⟩ = some (.slice Ao x.ops.length cO) ∧ Wd.cell? ⟨gD, i * 2 + 1, none⟩ = some (.slice (some ⟨gd, 0, none⟩) t.rels.length cd) ∧ Wd.cell? ⟨gd, k * 6 + 5, none⟩ = some (.slice Do x.ops.length cDo) := ⟨cell_under q0 hbd, cell_under q1 hbd, cell_under q2 hbd, cell_under q3 hbd, cell_under q4 hbd⟩
              have ro1 := (ro.below hbd).more hbd.size
              have rd1 := (rd.below hbd).more hbd.size
              refine roH_take 0 (some 42) (v := ?v0r16) rfl rfl (by kernel_rfl) (by kernel_rfl) (by kernel_rfl) (fun _ _ _ h => h) (by rfl) ?y0r16 HS ?r0r16
              case y0r16 => (intro w hS; (try dsimp only at hS); obtain ⟨q0, q1, q2, q3, q4⟩ := hS; go_simp; try with_reducible rfl)
              simp only [Act.put, List.setIfInBounds_toArray, List.set_cons_zero, List.set_cons_succ]
              refine roH_take 1 (some 43) (v := ?v1r16) rfl rfl (by kernel_rfl) (by kernel_rfl) (by kernel_rfl) (fun _ _ _ h => h) (by rfl) ?y1r16 HS ?r1r16
              case y1r16 => (intro w hS; (try dsimp only at hS); obtain ⟨q0, q1, q2, q3, q4⟩ := hS; go_simp; try with_reducible rfl)
              simp only [Act.put, List.setIfInBounds_toArray, List.set_cons_zero, List.set_cons_succ]
              refine roH_take 2 (some 44) (v := ?v2r16) rfl rfl (by kernel_rfl) (by kernel_rfl) (by kernel_rfl) (fun _ _ _ h => h) (by rfl) ?y2r16 HS ?r2r16
              case y2r16 => (intro w hS; (try dsimp only at hS); obtain ⟨q0, q1, q2, q3, q4⟩ := hS; go_simp; try with_reducible rfl)
              simp only [Act.put, List.setIfInBounds_toArray, List.set_cons_zero, List.set_cons_succ]
              refine roH_take 3 (some 45) (v := ?v3r16) rfl rfl (by kernel_rfl) (by kernel_rfl) (by kernel_rfl) (fun _ _ _ h => h) (by rfl) ?y3r16 HS ?r3r16
              case y3r16 => (intro w hS; (try dsimp only at hS); obtain ⟨q0, q1, q2, q3, q4⟩ := hS; go_simp; try with_reducible rfl)
              simp only [Act.put, List.setIfInBounds_toArray, List.set_cons_zero, List.set_cons_succ]
              refine roH_take 4 (some 46) (v := ?v4r16) rfl rfl (by kernel_rfl) (by kernel_rfl) (by kernel_rfl) (fun _ _ _ h => h) (by rfl) ?y4r16 HS ?r4r16
              case y4r16 => (intro w hS; (try dsimp only at hS); obtain ⟨q0, q1, q2, q3, q4⟩ := hS; go_simp; try with_reducible rfl)
              simp only [Act.put, List.setIfInBounds_toArray, List.set_cons_zero, List.set_cons_succ]
              refine roH_take 5 (some 47) (v := ?v5r16) rfl rfl (by kernel_rfl) (by kernel_rfl) (by kernel_rfl) (fun _ _ _ h => h) (by rfl) ?y5r16 HS ?r5r16
              case y5r16 => (intro w hS; (try dsimp only at hS); obtain ⟨q0, q1, q2, q3, q4⟩ := hS; go_simp; try with_reducible rfl)
              simp only [Act.put, List.setIfInBounds_toArray, List.set_cons_zero, List.set_cons_succ]
              refine roH_take 6 (some 48) (v := ?v6r16) rfl rfl (by kernel_rfl) (by kernel_rfl) (by kernel_rfl) (fun _ _ _ h => h) (by rfl) ?y6r16 HS ?r6r16
              case y6r16 => (intro w hS; (try dsimp only at hS); obtain ⟨q0, q1, q2, q3, q4⟩ := hS; go_simp; try with_reducible rfl)
              simp only [Act.put, List.setIfInBounds_toArray, List.set_cons_zero, List.set_cons_succ]
              refine roH_take 7 (some 49) (v := ?v7r16) rfl rfl (by kernel_rfl) (by kernel_rfl) (by kernel_rfl) (fun _ _ _ h => h) (by rfl) ?y7r16 HS ?r7r16
              case y7r16 => (intro w hS; (try dsimp only at hS); obtain ⟨q0, q1, q2, q3, q4⟩ := hS; go_simp; try with_reducible rfl)
              simp only [Act.put, List.setIfInBounds_toArray, List.set_cons_zero, List.set_cons_succ]
              refine roH_take 8 (some 50) (v := ?v8r16) rfl rfl (by kernel_rfl) (by kernel_rfl) (by kernel_rfl) (fun _ _ _ h => h) (by rfl) ?y8r16 HS ?r8r16
              case y8r16 => (intro w hS; (try dsimp only at hS); obtain ⟨q0, q1, q2, q3, q4⟩ := hS; go_simp; try with_reducible rfl)
              simp only [Act.put, List.setIfInBounds_toArray, List.set_cons_zero, List.set_cons_succ]
              refine roH_take 9 (some 51) (v := ?v9r16) rfl rfl (by kernel_rfl) (by kernel_rfl) (by kernel_rfl) (fun _ _ _ h => h) (by rfl) ?y9r16 HS ?r9r16
              case y9r16 => (intro w hS; (try dsimp only at hS); obtain ⟨q0, q1, q2, q3, q4⟩ := hS; go_simp; try with_reducible rfl)
              simp only [Act.put, List.setIfInBounds_toArray, List.set_cons_zero, List.set_cons_succ]
              refine roH_take 11 (some 53) (v := ?v11r16) rfl rfl (by kernel_rfl) (by kernel_rfl) (by kernel_rfl) (fun _ _ _ h => h) (by rfl) ?y11r16 HS ?r11r16
              case y11r16 => (intro w hS; (try dsimp only at hS); obtain ⟨q0, q1, q2, q3, q4⟩ := hS; go_simp; try with_reducible rfl)
              simp only [Act.put, List.setIfInBounds_toArray, List.set_cons_zero, List.set_cons_succ]
              refine roH_take 12 (some 54) (v := ?v12r16) rfl rfl (by kernel_rfl) (by kernel_rfl) (by kernel_rfl) (fun _ _ _ h => h) (by rfl) ?y12r16 HS ?r12r16
              case y12r16 => (intro w hS; (try dsimp only at hS); obtain ⟨q0, q1, q2, q3, q4⟩ := hS; go_simp; try with_reducible rfl)
              simp only [Act.put, List.setIfInBounds_toArray, List.set_cons_zero, List.set_cons_succ]
              refine roH_take 13 (some 55) (v := ?v13r16) rfl rfl (by kernel_rfl) (by kernel_rfl) (by kernel_rfl) (fun _ _ _ h => h) (by rfl) ?y13r16 HS ?r13r16
              case y13r16 => (intro w hS; (try dsimp only at hS); obtain ⟨q0, q1, q2, q3, q4⟩ := hS; go_simp; try with_reducible rfl)
              simp only [Act.put, List.setIfInBounds_toArray, List.set_cons_zero, List.set_cons_succ]
              refine roH_take 14 (some 56) (v := ?v14r16) rfl rfl (by kernel_rfl) (by kernel_rfl) (by kernel_rfl) (fun _ _ _ h => h) (by rfl) ?y14r16 HS ?r14r16
              case y14r16 => (intro w hS; (try dsimp only at hS); obtain ⟨q0, q1, q2, q3, q4⟩ := hS; go_simp; try with_reducible rfl)
              simp only [Act.put, List.setIfInBounds_toArray, List.set_cons_zero, List.set_cons_succ]
              refine roH_take 15 (some 57) (v := ?v15r16) rfl rfl (by kernel_rfl) (by kernel_rfl) (by kernel_rfl) (fun _ _ _ h => h) (by rfl) ?y15r16 HS ?r15r16
              case y15r16 => (intro w hS; (try dsimp only at hS); obtain ⟨q0, q1, q2, q3, q4⟩ := hS; go_simp; try with_reducible rfl)
              simp only [Act.put, List.setIfInBounds_toArray, List.set_cons_zero, List.set_cons_succ]
              refine roH_take 16 (some 58) (v := ?v16r16) rfl rfl (by kernel_rfl) (by kernel_rfl) (by kernel_rfl) (fun _ _ _ h => h) (by rfl) ?y16r16 HS ?r16r16
              case y16r16 => (intro w hS; (try dsimp only at hS); obtain ⟨q0, q1, q2, q3, q4⟩ := hS; go_simp; try with_reducible rfl)
              simp only [Act.put, List.setIfInBounds_toArray, List.set_cons_zero, List.set_cons_succ]
              refine roH_take 17 (some 59) (v := ?v17r16) rfl rfl (by kernel_rfl) (by kernel_rfl) (by kernel_rfl) (fun _ _ _ h => h) (by rfl) ?y17r16 HS ?r17r16
              case y17r16 => (intro w hS; (try dsimp only at hS); obtain ⟨q0, q1, q2, q3, q4⟩ := hS; go_simp; try with_reducible rfl)
              simp only [Act.put, List.setIfInBounds_toArray, List.set_cons_zero, List.set_cons_succ]
              refine roH_take 18 (some 60) (v := ?v18r16) rfl rfl (by kernel_rfl) (by kernel_rfl) (by kernel_rfl) (fun _ _ _ h => h) (by rfl) ?y18r16 HS ?r18r16
              case y18r16 => (intro w hS; (try dsimp only at hS); obtain ⟨q0, q1, q2, q3, q4⟩ := hS; go_simp; try with_reducible rfl)
              simp only [Act.put, List.setIfInBounds_toArray, List.set_cons_zero, List.set_cons_succ]
              refine roH_take 19 (some 61) (v := ?v19r16) rfl rfl (by kernel_rfl) (by kernel_rfl) (by kernel_rfl) (fun _ _ _ h => h) (by rfl) ?y19r16 HS ?r19r16
              case y19r16 => (intro w hS; (try dsimp only at hS); obtain ⟨q0, q1, q2, q3, q4⟩ := hS; go_simp; try with_reducible rfl)
              simp only [Act.put, List.setIfInBounds_toArray, List.set_cons_zero, List.set_cons_succ]
              refine roH_one 10 rfl (by kernel_rfl) fun K hK' => ?_
              go_simp
              refine (rewrite_any ro1 hsx.ops.1 hsx.ops.2).mono ?_
              rintro e We ⟨rfl, hbe⟩
              have HS2 : We.cell? ⟨w2.heap.size, 0, none⟩ = some (.slice (some ⟨gT, 0, none⟩) T.length ca) ∧ We.cell? ⟨gT, i * 2 + 1, none⟩ = some (.slice (some ⟨gr, 0, none⟩) t.rels.length cr) ∧ We.cell? ⟨gr, k * 6 + 5, none⟩ = some (.slice Ao x.ops.length cO) ∧ We.cell? ⟨gD, i * 2 + 1, none⟩ = some (.slice (some ⟨gd, 0, none⟩) t.rels.length cd) ∧ We.cell? ⟨gd, k * 6 + 5, none⟩ = some (.slice Do x.ops.length cDo) := ⟨cell_under HS.1 hbe, cell_under HS.2.1 hbe, cell_under HS.2.2.1 hbe, cell_under HS.2.2.2.1 hbe, cell_under HS.2.2.2.2 hbe⟩
              refine hK' _ _ HS2 ?_
              clear hK' K
              (try simp only [Act.put, List.setIfInBounds_toArray, List.set_cons_zero, List.set_cons_succ])
              have rd2 := (rd1.below hbe).more hbe.size
              refine roH_one 20 rfl (by kernel_rfl) fun K hK' => ?_
              go_simp
              refine (kr _ rd2).mono ?_
              rintro e Wf ⟨rfl, hbf⟩
              have HS3 : Wf.cell? ⟨w2.heap.size, 0, none⟩ = some (.slice (some ⟨gT, 0, none⟩) T.length ca) ∧ Wf.cell? ⟨gT, i * 2 + 1, none⟩ = some (.slice (some ⟨gr, 0, none⟩) t.rels.length cr) ∧ Wf.cell? ⟨gr, k * 6 + 5, none⟩ = some (.slice Ao x.ops.length cO) ∧ Wf.cell? ⟨gD, i * 2 + 1, none⟩ = some (.slice (some ⟨gd, 0, none⟩) t.rels.length cd) ∧ Wf.cell? ⟨gd, k * 6 + 5, none⟩ = some (.slice Do x.ops.length cDo) := ⟨cell_under HS2.1 hbf, cell_under HS2.2.1 hbf, cell_under HS2.2.2.1 hbf, cell_under HS2.2.2.2.1 hbf, cell_under HS2.2.2.2.2 hbf⟩
              refine hK' _ _ HS3 ?_
              clear hK' K
              (try simp only [Act.put, List.setIfInBounds_toArray, List.set_cons_zero, List.set_cons_succ])
              refine roH_one 21 rfl (by kernel_rfl) fun K hK' => ?_
              generalize rewS x.ops = RW at *
              go_simp
              refine hK' _ _ HS3 ?_
              clear hK' K
              refine wpAnyH_done (by kernel_rfl) ?_ _
              go_wp2_with fail
              have h5e := hb5.trans (((hbd.trans (hbe.mono hbd.size)).trans (hbf.mono (hbd.trans (hbe.mono hbd.size)).size)).mono z5)
              refine ⟨⟨k + 1, by go_num, by omega, h5e⟩, ?_⟩
              simp only [intOf]; omega
            · obtain rfl : k = t.rels.length := by omega
              have hdk : ¬ (t.rels.length : Int) < (t.rels.length : Nat) := by omega
              go_wp2_with fail
              refine ⟨⟨i + 1, by go_num, by omega, hb5⟩, ?_⟩
              simp only [intOf]; omega
        · obtain rfl : i = T.length := by omega
          have hdi : ¬ (T.length : Int) < (T.length : Nat) := by omega
          have hva5 := hva4.below hb5
          have hd5 := hd4.keep8 hb5
          have hx5 := hx4.below hb5
          have x0 : wr.cell? ⟨w2.heap.size, 0, none⟩ = some (.slice Aa T.length ca) := hx5.cell 0
          have lx := hx5.lt
          go_wp2_with fail
          refine (show_any8 hva5 hsh.len hsh.sml hsh.size).mono ?_
          rintro e w6 ⟨rfl, hb6⟩
          have hd6 := hd5.keep8 hb6
          clear x0 lx hx5
          go_wp2_with fail
          refine (rshow_any hd6 hsh.len hsh.sml hsh.tree hsh.size).mono ?_
          rintro e w7 ⟨rfl, hb7⟩
          generalize showS T = ST at *
          go_wp2_with fail
          have h15 := h14.trans (hb5.mono h14.size)
          have h16 := h15.trans (hb6.mono h15.size)
          have h17 := h16.trans (hb7.mono h16.size)
          go_ret
          exact ⟨rfl, h17⟩
    · have dz : (((ea : Nat) : Int) == 0) = false := by rw [beq_eq_false_iff_ne]; omega
      go_enter Try.func4, Try.ntmps4
      go_wp2_with (first
        | ((with_reducible refine (awake8_any _).mono ?_); rintro e w1 ⟨rfl, hb1⟩)
        | ((with_reducible refine (ka _).mono ?_); rintro e w2 ⟨⟨Aa, ca, rfl, hva⟩, hb2⟩))
      have h12 := hb1.trans (hb2.mono hb1.size)
      go_ret
      exact ⟨rfl, h12.alloc h12.size _⟩
end Go.Proofs.Ytkeonempmchpnaa
