/- SpansLead walked, against what the program's functions are asked to do (SpK) and the law's awake. Conditions: none. -/
import Derived.Deep.DeepCutAuto
import Derived.Test.YtmdhollegemlhaaKeyW14
import Derived.Test.YtmdhollegemlhaaRegion
namespace Go.Proofs.Ytmdhollegemlhaa
open Go.RowKit

theorem put40 {L : List Sp} {last r : Int} {k : ByteArray} (h : ∀ x ∈ L, x.1.size ≤ 40) (hk : k.size ≤ 40) : ∀ x ∈ (putP L last k r).getD L, x.1.size ≤ 40 := by
  cases e : putP L last k r with
  | none => exact h
  | some L' =>
    obtain ⟨_, _, _, rfl⟩ := putP_some e
    intro x hx
    rcases List.mem_append.1 hx with hx | hx
    · exact h x hx
    · rw [List.mem_singleton] at hx
      subst hx
      exact hk
theorem drop40 {L : List Sp} {last r : Int} {k : ByteArray} (h : ∀ x ∈ L, x.1.size ≤ 40) (hk : k.size ≤ 40) : ∀ x ∈ (dropP L last k r).getD L, x.1.size ≤ 40 := by
  cases e : dropP L last k r with
  | none => exact h
  | some L' =>
    obtain ⟨i, x, _, _, _, _, _, _, rfl⟩ := dropP_some e
    intro y hy
    rcases List.mem_or_eq_of_mem_set hy with hy | hy
    · exact h y hy
    · rw [hy]
      exact hk

set_option maxRecDepth 100000 in
set_option maxHeartbeats 8000000 in
theorem spansLead_walk {S : World → (Nat → Prop) → Nat → List Sp → Int → Prop} (K : SpK S) (up : ∀ w, Calls Try.prog 8 #[] w fun e w' => e = .returned (.bool true) ∧ Below w.heap.size w w') (A0 : Option Addr) (c0 : Nat) (l0 : List Ac) (x1 : Int) (x2 : Int) (w : World) (r0 : Rd w w.heap.size 3 A0 l0.length c0 (acs l0)) (f0 : ∀ s ∈ l0, s.2.1.size ≤ maxLen ∧ (Lit.int .u8 s.1).wf = true ∧ (Lit.int .i64 s.2.2).wf = true) (_f1 : (Lit.int .i64 x1).wf = true) (_f2 : (Lit.int .i64 x2).wf = true) :
    Calls Try.prog 4 #[.slice A0 l0.length c0, .int .i64 x1, .int .i64 x2] w fun e w' => e = .returned (.bool true) ∧ Below w.heap.size w w' := by
  have hmx : ∀ s ∈ l0, s.2.1.size ≤ maxLen := fun s hs => (f0 s hs).1
  go_enter Try.func4, Try.ntmps4
  go_upto_region 2 with (go_at_call 8; refine (up _).mono ?_; rintro e1 w1 ⟨rfl, hb1⟩)
  have kf := few_any (r0.up hb1) hmx
  obtain ⟨fw, hfw⟩ : ∃ fw, fewA l0 = fw := ⟨_, rfl⟩
  rw [hfw] at kf
  cases fw with
  | false =>
    go_wp2_with (go_at_call 9; refine kf.mono ?_; rintro e2 w2 ⟨rfl, rfl⟩)
    go_ret
    exact ⟨rfl, hb1⟩
  | true =>
    by_cases c1 : x2 < x1
    · go_wp2_with (go_at_call 9; refine kf.mono ?_; rintro e2 w2 ⟨rfl, rfl⟩)
      go_ret
      exact ⟨rfl, hb1⟩
    by_cases c2 : x1 < 0
    · go_wp2_with (go_at_call 9; refine kf.mono ?_; rintro e2 w2 ⟨rfl, rfl⟩)
      go_ret
      exact ⟨rfl, hb1⟩
    by_cases c3 : 1000000 < x2
    · go_wp2_with (go_at_call 9; refine kf.mono ?_; rintro e2 w2 ⟨rfl, rfl⟩)
      go_ret
      exact ⟨rfl, hb1⟩
    go_upto_region 8 with (first
      | (go_at_call 9; refine kf.mono ?_; rintro e2 w2 ⟨rfl, rfl⟩)
      | (go_at_call 10; refine (Sx.new K _ _ hb1).mono ?_; rintro e3 w3 ⟨g, rfl, hS⟩))
    obtain ⟨hl60, hfew⟩ := fewA_at hfw
    clear kf
    go_wp2_with fail
    go_loopw [10] (fun vi wx => ∃ (i : Nat) (L : List Sp) (last : Int), vi = .int .i64 i ∧ i ≤ l0.length ∧ Sx S w wx g L last ∧ L.length ≤ i ∧ Hid (∀ x ∈ L, x.1.size ≤ 40)) (fun vi _ => l0.length - (intOf vi).toNat)
    case atStart => exact ⟨0, [], 0, rfl, Nat.zero_le _, hS, Nat.le_refl _, Lib.hid fun _ h => by cases h⟩
    case round =>
      obtain ⟨i, L, last, rfl, hi, hSx, hLi, h40⟩ := hrel
      by_cases hil : i < l0.length
      · have di : (i : Int) < (l0.length : Int) := by omega
        obtain ⟨x, hx⟩ : ∃ x, l0[i]? = some x := ⟨_, List.getElem?_eq_getElem hil⟩
        obtain ⟨b, o, rfl, hlb, g0, g1, g2⟩ := rd_act (r0.below hSx.below) hx
        obtain ⟨k1, k2⟩ := hfew i x hx
        obtain ⟨kd, s, r⟩ := x
        dsimp only at g0 g1 g2 k1 k2
        clear hx
        have hSd := hSx.drew K
        have hgd : ∀ W, Below w.heap.size w W → W.cell? ⟨b, o + i * 3 + 1, none⟩ = some (.string s) ∧ W.cell? ⟨b, o + i * 3 + 2, none⟩ = some (.int .i64 r) := fun W hW => ⟨(hW.cell (p := ⟨b, o + i * 3 + 1, none⟩) hlb).trans ((hSx.below.cell (p := ⟨b, o + i * 3 + 1, none⟩) hlb).symm.trans g1), (hW.cell (p := ⟨b, o + i * 3 + 2, none⟩) hlb).trans ((hSx.below.cell (p := ⟨b, o + i * 3 + 2, none⟩) hlb).symm.trans g2)⟩
        have kput := hSd.put K s r (by omega) k1 k2
        have kdrop := hSd.drop K s r (by omega) k1 k2
        by_cases c3 : Int.tmod kd 2 = 0
        · go_upto_region 12 with (fail)
          go_region_held3 (fun w' => w'.cell? ⟨b, o + i * 3 + 1, none⟩ = some (.string s) ∧ w'.cell? ⟨b, o + i * 3 + 2, none⟩ = some (.int .i64 r))
            (first
              | exact hk4
              | go_keep
              | fail)
            ((with_reducible refine kput.mono ?_; rintro e4 w4 ⟨rfl, hS4⟩; have hk4 : w4.cell? ⟨b, o + i * 3 + 1, none⟩ = some (.string s) ∧ w4.cell? ⟨b, o + i * 3 + 2, none⟩ = some (.int .i64 r) := hgd w4 hS4.below))
          go_wp2_with fail
          have hlen := putP_lenD L last r s
          exact ⟨⟨i + 1, _, _, by go_num, by omega, hS4, by omega, Lib.hid (put40 h40.out k1)⟩, by simp [intOf]; omega⟩
        · go_upto_region 13 with (fail)
          go_region_held3 (fun w' => w'.cell? ⟨b, o + i * 3 + 1, none⟩ = some (.string s) ∧ w'.cell? ⟨b, o + i * 3 + 2, none⟩ = some (.int .i64 r))
            (first
              | exact hk4
              | go_keep
              | fail)
            ((with_reducible refine kdrop.mono ?_; rintro e4 w4 ⟨rfl, hS4⟩; have hk4 : w4.cell? ⟨b, o + i * 3 + 1, none⟩ = some (.string s) ∧ w4.cell? ⟨b, o + i * 3 + 2, none⟩ = some (.int .i64 r) := hgd w4 hS4.below))
          go_wp2_with fail
          have hlen := dropP_lenD L last r s
          exact ⟨⟨i + 1, _, _, by go_num, by omega, hS4, by omega, Lib.hid (drop40 h40.out k1)⟩, by simp [intOf]; omega⟩
      · obtain rfl : i = l0.length := by omega
        have di : ¬ (((l0.length : Nat) : Int) < (l0.length : Int)) := by omega
        have hL60 : L.length ≤ 60 := by omega
        have h40 := h40.out
        have hf := hSx.fine
        have hXa := keysP_all hf x1
        have hYa := keysP_all hf x2
        have halt := fun q => altP_events hf q (a := x1) (b := x2) (by omega)
        have hEl := eventsP_len L x1 x2
        have hcY : countP L x2 ≤ 100 := Nat.le_trans (List.length_filter_le _ _) (by omega)
        have hYs : ∀ k ∈ keysP L x2, k.size ≤ 40 := fun k hk => keysP_size hf h40 hk
        have kx := keys14_any K x1 hSx (by omega) h40
        have ky := fun W (h : Sx S w W g L last) => keys14_any K x2 h (by omega) h40
        have ke := fun W (h : Sx S w W g L last) => h.events K x1 x2 (by omega)
        have hcnt1 := fun W (h : Sx S w W g L last) => h.count K x1 (by omega)
        have hcnt2 := fun W (h : Sx S w W g L last) => h.count K x2 (by omega)
        have hhas := fun W (h : Sx S w W g L last) (k : ByteArray) (hk : k.size ≤ 40) (he : hasP L k x2 = true) => h.hasB K k x2 (by omega) (by simp only [maxLen]; omega) he
        obtain ⟨hX1, hX2, hX3⟩ := hXa
        obtain ⟨hY1, hY2, hY3⟩ := hYa
        have hcX : countP L x1 ≤ 100 := Nat.le_trans (List.length_filter_le _ _) (by omega)
        rw [← hX2] at hcnt1 hcX
        rw [← hY2] at hcnt2 hcY
        clear r0 f0 hmx hfew hi hLi hX1 hX2 hY2
        generalize l0.length = l0n at *
        generalize keysP L x1 = X at *
        generalize keysP L x2 = Y at *
        generalize eventsP L x1 x2 = E at *
        go_upto_region 15 with (go_at_call 25; refine kx.mono ?_; rintro e4 w4 ⟨A4, c4, rfl, hR4, hS4, hb4⟩)
        clear kx
        go_upto_region 16 with (go_at_call 25; refine (ky _ hS4).mono ?_; rintro e5 w5 ⟨A5, c5, rfl, hR5, hS5, hb5⟩)
        clear ky
        go_upto_region 17 with (go_at_call 23; refine (ke _ hS5).mono ?_; rintro e6 w6 ⟨A6, c6, rfl, hR6, hS6, hb6⟩)
        clear ke
        replace hR4 := (hR4.up hb5).up hb6
        replace hR5 := hR5.up hb6
        clear hS4 hS5 hb4 hb5 hb6 hSx hS h40 hf
        go_wp2_with fail
        go_loopw [14, 15] (fun vh vi wx => ∃ (i : Nat), vh = .int .i64 i ∧ vi = .int .i64 i ∧ i ≤ Y.length ∧ Sx S w wx g L last ∧ Below w6.heap.size w6 wx) (fun _ vi _ => Y.length - (intOf vi).toNat)
        case atStart => exact ⟨0, rfl, rfl, Nat.zero_le _, hS6, Below.refl _ _⟩
        case round =>
          obtain ⟨i, rfl, rfl, hi, hSi, hbi⟩ := hrel
          by_cases hiY : i < Y.length
          · have di2 : (i : Int) < (Y.length : Int) := by omega
            obtain ⟨y, hy⟩ : ∃ y, Y[i]? = some y := ⟨_, List.getElem?_eq_getElem hiY⟩
            have hyi := hy
            obtain ⟨b5, o5, rfl, hlb5, g5⟩ := rd_key (hR5.below hbi) hy
            have hyY := List.mem_of_getElem? hy
            have hy40 := hYs y hyY
            have hyb : hasP L y x2 = true := (hY3 y).1 hyY
            have hya : hasK X y = hasP L y x1 := by
              cases q : hasP L y x1 with
              | true => exact hasK_iff.2 ((hX3 y).2 q)
              | false => exact hasK_not.2 fun z => by rw [(hX3 y).1 z] at q; cases q
            have halty := halt y
            rw [hyb, ← hya] at halty
            have khas := hhas _ (hSi.drew K) y hy40 hyb
            have hgd : wr.drew.cell? ⟨b5, o5 + i, none⟩ = some (.string y) := g5
            have hrest : ∀ w7, Below wr.drew.heap.size wr.drew w7 → Below w6.heap.size w6 w7 := fun w7 hb7 => hbi.trans (Below.mono (show Below wr.heap.size wr w7 from ⟨hb7.os, hb7.tape, hb7.output, hb7.size, hb7.block⟩) hbi.size)
            have hk7 : ∀ w7, Below w6.heap.size w6 w7 → w7.cell? ⟨b5, o5 + i, none⟩ = some (.string y) := fun w7 hb => (hb.cell (p := ⟨b5, o5 + i, none⟩) hlb5).trans ((hbi.cell (p := ⟨b5, o5 + i, none⟩) hlb5).symm.trans g5)
            clear hyb hya hX3 hY3 hy hhas hcnt1 hcnt2 hYs halt
            go_upto_region 21 with (fail)
            go_cut [116] from 93 to 116 (fun v wc => v = .bool false ∧ Sx S w wc g L last ∧ Below w6.heap.size w6 wc)
            case first =>
              by_cases hi0 : 0 < i
              · obtain ⟨j, hj⟩ : ∃ j : Nat, i = j + 1 := ⟨i - 1, by omega⟩
                have hji : (i : Int) - 1 = (j : Int) := by omega
                have hjY : (j : Int) < (Y.length : Int) := by omega
                have hjY2 : j < Y.length := by omega
                have hjb : j ≤ 100 := by omega
                obtain ⟨yp, hyp⟩ : ∃ yp, Y[j]? = some yp := ⟨_, List.getElem?_eq_getElem (by omega)⟩
                obtain ⟨b5', o5', e5, _, g5p⟩ := rd_key (hR5.below hbi) hyp
                injection e5 with e5
                injection e5 with e5 e6
                subst e5 e6
                have hgp : wr.drew.cell? ⟨b5, o5 + j, none⟩ = some (.string yp) := g5p
                have hkp : ∀ w7, Below w6.heap.size w6 w7 → w7.cell? ⟨b5, o5 + j, none⟩ = some (.string yp) := fun w7 hb => (hb.cell (p := ⟨b5, o5 + j, none⟩) hlb5).trans ((hbi.cell (p := ⟨b5, o5 + j, none⟩) hlb5).symm.trans g5p)
                have hlt2 : Op.bytesLess yp.toList y.toList = true := hY1.at_ hyp (List.getElem?_eq_some_iff.2 ⟨hiY, (List.getElem?_eq_some_iff.1 hyi).2⟩) (by omega)
                have hwj : IntKind.i64.wrap ((i : Int) - 1) = (j : Int) := by rw [hji]; exact IntWalk.i64_in _ ⟨by omega, by omega⟩
                have hj0 : (0 : Int) ≤ (j : Int) := by omega
                have hwj2 : IntKind.i64.wrap (j : Int) = (j : Int) := IntWalk.i64_in _ ⟨by omega, by omega⟩
                have hi00 : (0 : Int) < (i : Int) := by omega
                replace hj := Lib.hid hj
                refine wp_region_any (by kernel_rfl) ?_
                change wpAny _ _ _ _ _ _ _ (World.drew _)
                generalize hdw : World.drew wr = wz at *
                have hbd : Below wr.heap.size wr wz := by subst hdw; exact ⟨rfl, rfl, rfl, Nat.le_refl _, fun _ _ => rfl⟩
                clear hdw hbd
                have hSk : ∀ W, Below wz.heap.size wz W → (W.cell? ⟨b5, o5 + i, none⟩ = some (.string y) ∧ W.cell? ⟨b5, o5 + j, none⟩ = some (.string yp)) := fun W hb => ⟨hk7 W (hrest W hb), hkp W (hrest W hb)⟩
                have hz0 := Below.refl wz.heap.size wz
                have HS := hSk _ hz0
                refine wpAny_of_held (S := fun W => W.cell? ⟨b5, o5 + i, none⟩ = some (.string y) ∧ W.cell? ⟨b5, o5 + j, none⟩ = some (.string yp)) _ _ _ _ ?_
                refine roH_take 0 (some 93) (v := ?v0a) rfl rfl (by kernel_rfl) (by kernel_rfl) (by kernel_rfl) (fun _ _ _ h => h) (by rfl) ?y0a HS ?r0a
                case y0a => (intro W hS; go_simp; try with_reducible rfl)
                simp only [Act.put, List.setIfInBounds_toArray, List.set_cons_zero, List.set_cons_succ]
                refine roH_take 1 (some 94) (v := ?v1a) rfl rfl (by kernel_rfl) (by kernel_rfl) (by kernel_rfl) (fun _ _ _ h => h) (by rfl) ?y1a HS ?r1a
                case y1a => (intro W hS; go_simp; try with_reducible rfl)
                simp only [Act.put, List.setIfInBounds_toArray, List.set_cons_zero, List.set_cons_succ]
                refine roH_take 2 (some 95) (v := ?v2a) rfl rfl (by kernel_rfl) (by kernel_rfl) (by kernel_rfl) (fun _ _ _ h => h) (by rfl) ?y2a HS ?r2a
                case y2a => (intro W hS; go_simp; try with_reducible rfl)
                simp only [Act.put, List.setIfInBounds_toArray, List.set_cons_zero, List.set_cons_succ]
                refine roH_take 3 (some 96) (v := ?v3a) rfl rfl (by kernel_rfl) (by kernel_rfl) (by kernel_rfl) (fun _ _ _ h => h) (by rfl) ?y3a HS ?r3a
                case y3a => (intro W hS; go_simp; try with_reducible rfl)
                simp only [Act.put, List.setIfInBounds_toArray, List.set_cons_zero, List.set_cons_succ]
                refine roH_take 4 (some 97) (v := ?v4a) rfl rfl (by kernel_rfl) (by kernel_rfl) (by kernel_rfl) (fun _ _ _ h => h) (by rfl) ?y4a HS ?r4a
                case y4a => (intro W hS; go_simp; try with_reducible rfl)
                simp only [Act.put, List.setIfInBounds_toArray, List.set_cons_zero, List.set_cons_succ]
                refine roH_take 5 (some 98) (v := ?v5a) rfl rfl (by kernel_rfl) (by kernel_rfl) (by kernel_rfl) (fun _ _ _ h => h) (by rfl) ?y5a HS ?r5a
                case y5a => (intro W hS; go_simp; try with_reducible rfl)
                simp only [Act.put, List.setIfInBounds_toArray, List.set_cons_zero, List.set_cons_succ]
                refine roH_take 6 (some 99) (v := ?v6a) rfl rfl (by kernel_rfl) (by kernel_rfl) (by kernel_rfl) (fun _ _ _ h => h) (by rfl) ?y6a HS ?r6a
                case y6a => (intro W hS; go_simp; try with_reducible rfl)
                simp only [Act.put, List.setIfInBounds_toArray, List.set_cons_zero, List.set_cons_succ]
                refine roH_take 7 (some 100) (v := ?v7a) rfl rfl (by kernel_rfl) (by kernel_rfl) (by kernel_rfl) (fun _ _ _ h => h) (by rfl) ?y7a HS ?r7a
                case y7a => (intro W hS; obtain ⟨s0, s1⟩ := hS; go_simp; try with_reducible rfl)
                simp only [Act.put, List.setIfInBounds_toArray, List.set_cons_zero, List.set_cons_succ]
                refine roH_take 8 (some 101) (v := ?v8a) rfl rfl (by kernel_rfl) (by kernel_rfl) (by kernel_rfl) (fun _ _ _ h => h) (by rfl) ?y8a HS ?r8a
                case y8a => (intro W hS; go_simp; try with_reducible rfl)
                simp only [Act.put, List.setIfInBounds_toArray, List.set_cons_zero, List.set_cons_succ]
                refine roH_take 9 (some 102) (v := ?v9a) rfl rfl (by kernel_rfl) (by kernel_rfl) (by kernel_rfl) (fun _ _ _ h => h) (by rfl) ?y9a HS ?r9a
                case y9a => (intro W hS; go_simp; try with_reducible rfl)
                simp only [Act.put, List.setIfInBounds_toArray, List.set_cons_zero, List.set_cons_succ]
                refine roH_take 10 (some 103) (v := ?v10a) rfl rfl (by kernel_rfl) (by kernel_rfl) (by kernel_rfl) (fun _ _ _ h => h) (by rfl) ?y10a HS ?r10a
                case y10a => (intro W hS; go_simp; try with_reducible rfl)
                simp only [Act.put, List.setIfInBounds_toArray, List.set_cons_zero, List.set_cons_succ]
                refine roH_take 11 (some 104) (v := ?v11a) rfl rfl (by kernel_rfl) (by kernel_rfl) (by kernel_rfl) (fun _ _ _ h => h) (by rfl) ?y11a HS ?r11a
                case y11a => (intro W hS; obtain ⟨s0, s1⟩ := hS; go_simp; try with_reducible rfl)
                simp only [Act.put, List.setIfInBounds_toArray, List.set_cons_zero, List.set_cons_succ]
                refine roH_take 12 (some 105) (v := ?v12a) rfl rfl (by kernel_rfl) (by kernel_rfl) (by kernel_rfl) (fun _ _ _ h => h) (by rfl) ?y12a HS ?r12a
                case y12a => (intro W hS; go_simp; try with_reducible rfl)
                simp only [Act.put, List.setIfInBounds_toArray, List.set_cons_zero, List.set_cons_succ]
                refine roH_take 13 (some 106) (v := ?v13a) rfl rfl (by kernel_rfl) (by kernel_rfl) (by kernel_rfl) (fun _ _ _ h => h) (by rfl) ?y13a HS ?r13a
                case y13a => (intro W hS; go_simp; try with_reducible rfl)
                simp only [Act.put, List.setIfInBounds_toArray, List.set_cons_zero, List.set_cons_succ]
                refine roH_take 14 (some 107) (v := ?v14a) rfl rfl (by kernel_rfl) (by kernel_rfl) (by kernel_rfl) (fun _ _ _ h => h) (by rfl) ?y14a HS ?r14a
                case y14a => (intro W hS; go_simp; try with_reducible rfl)
                simp only [Act.put, List.setIfInBounds_toArray, List.set_cons_zero, List.set_cons_succ]
                refine roH_take 15 (some 108) (v := ?v15a) rfl rfl (by kernel_rfl) (by kernel_rfl) (by kernel_rfl) (fun _ _ _ h => h) (by rfl) ?y15a HS ?r15a
                case y15a => (intro W hS; go_simp; try with_reducible rfl)
                simp only [Act.put, List.setIfInBounds_toArray, List.set_cons_zero, List.set_cons_succ]
                refine roH_take 16 (some 109) (v := ?v16a) rfl rfl (by kernel_rfl) (by kernel_rfl) (by kernel_rfl) (fun _ _ _ h => h) (by rfl) ?y16a HS ?r16a
                case y16a => (intro W hS; go_simp; try with_reducible rfl)
                simp only [Act.put, List.setIfInBounds_toArray, List.set_cons_zero, List.set_cons_succ]
                refine roH_take 17 (some 110) (v := ?v17a) rfl rfl (by kernel_rfl) (by kernel_rfl) (by kernel_rfl) (fun _ _ _ h => h) (by rfl) ?y17a HS ?r17a
                case y17a => (intro W hS; go_simp; try with_reducible rfl)
                simp only [Act.put, List.setIfInBounds_toArray, List.set_cons_zero, List.set_cons_succ]
                refine roH_take 18 (some 111) (v := ?v18a) rfl rfl (by kernel_rfl) (by kernel_rfl) (by kernel_rfl) (fun _ _ _ h => h) (by rfl) ?y18a HS ?r18a
                case y18a => (intro W hS; go_simp; try with_reducible rfl)
                simp only [Act.put, List.setIfInBounds_toArray, List.set_cons_zero, List.set_cons_succ]
                refine roH_take 19 (some 112) (v := ?v19a) rfl rfl (by kernel_rfl) (by kernel_rfl) (by kernel_rfl) (fun _ _ _ h => h) (by rfl) ?y19a HS ?r19a
                case y19a => (intro W hS; obtain ⟨s0, s1⟩ := hS; go_simp; try with_reducible rfl)
                simp only [Act.put, List.setIfInBounds_toArray, List.set_cons_zero, List.set_cons_succ]
                refine roH_take 20 (some 113) (v := ?v20a) rfl rfl (by kernel_rfl) (by kernel_rfl) (by kernel_rfl) (fun _ _ _ h => h) (by rfl) ?y20a HS ?r20a
                case y20a => (intro W hS; go_simp; try with_reducible rfl)
                simp only [Act.put, List.setIfInBounds_toArray, List.set_cons_zero, List.set_cons_succ]
                refine roH_one 21 rfl (by kernel_rfl) ?_
                intro Kf hKf
                go_simp
                refine khas.mono ?_
                rintro e w7 ⟨rfl, hS7, hc1a⟩
                have hz1a : Below wz.heap.size wz w7 := hc1a
                replace HS := hSk _ hz1a
                refine hKf _ _ HS ?_
                clear hKf Kf
                refine roH_take 22 (some 115) (v := ?v22a) rfl rfl (by kernel_rfl) (by kernel_rfl) (by kernel_rfl) (fun _ _ _ h => h) (by rfl) ?y22a HS ?r22a
                case y22a => (intro W hS; go_simp; try with_reducible rfl)
                simp only [Act.put, List.setIfInBounds_toArray, List.set_cons_zero, List.set_cons_succ]
                refine roH_take 23 (some 116) (v := ?v23a) rfl rfl (by kernel_rfl) (by kernel_rfl) (by kernel_rfl) (fun _ _ _ h => h) (by rfl) ?y23a HS ?r23a
                case y23a => (intro W hS; go_simp; try with_reducible rfl)
                simp only [Act.put, List.setIfInBounds_toArray, List.set_cons_zero, List.set_cons_succ]
                refine wpAnyH_done (by kernel_rfl) ?_ _
                go_wp2_with fail
                go_meet
                exact ⟨rfl, hS7, hrest w7 hc1a⟩
              · obtain rfl : i = 0 := by omega
                rw [show ((0 : Nat) : Int) = 0 from rfl] at di2 ⊢
                rw [Nat.add_zero] at g5 hgd
                simp only [Nat.add_zero] at hk7
                refine wp_region_any (by kernel_rfl) ?_
                change wpAny _ _ _ _ _ _ _ (World.drew _)
                generalize hdw : World.drew wr = wz at *
                have hbd : Below wr.heap.size wr wz := by subst hdw; exact ⟨rfl, rfl, rfl, Nat.le_refl _, fun _ _ => rfl⟩
                clear hdw hbd
                have hSk : ∀ W, Below wz.heap.size wz W → (W.cell? ⟨b5, o5, none⟩ = some (.string y)) := fun W hb => hk7 W (hrest W hb)
                have hz0 := Below.refl wz.heap.size wz
                have HS := hSk _ hz0
                refine wpAny_of_held (S := fun W => W.cell? ⟨b5, o5, none⟩ = some (.string y)) _ _ _ _ ?_
                refine roH_take 0 (some 93) (v := ?v0b) rfl rfl (by kernel_rfl) (by kernel_rfl) (by kernel_rfl) (fun _ _ _ h => h) (by rfl) ?y0b HS ?r0b
                case y0b => (intro W hS; go_simp; try with_reducible rfl)
                simp only [Act.put, List.setIfInBounds_toArray, List.set_cons_zero, List.set_cons_succ]
                refine roH_take 1 (some 94) (v := ?v1b) rfl rfl (by kernel_rfl) (by kernel_rfl) (by kernel_rfl) (fun _ _ _ h => h) (by rfl) ?y1b HS ?r1b
                case y1b => (intro W hS; go_simp; try with_reducible rfl)
                simp only [Act.put, List.setIfInBounds_toArray, List.set_cons_zero, List.set_cons_succ]
                refine roH_take 2 (some 95) (v := ?v2b) rfl rfl (by kernel_rfl) (by kernel_rfl) (by kernel_rfl) (fun _ _ _ h => h) (by rfl) ?y2b HS ?r2b
                case y2b => (intro W hS; go_simp; try with_reducible rfl)
                simp only [Act.put, List.setIfInBounds_toArray, List.set_cons_zero, List.set_cons_succ]
                refine roH_skip 3 (some 96) rfl rfl (by kernel_rfl) (by kernel_rfl) (by kernel_rfl) (fun _ _ _ h => h) (by rfl) HS ?_
                simp only [Act.put, List.setIfInBounds_toArray, List.set_cons_zero, List.set_cons_succ]
                refine roH_skip 4 (some 97) rfl rfl (by kernel_rfl) (by kernel_rfl) (by kernel_rfl) (fun _ _ _ h => h) (by rfl) HS ?_
                simp only [Act.put, List.setIfInBounds_toArray, List.set_cons_zero, List.set_cons_succ]
                refine roH_skip 5 (some 98) rfl rfl (by kernel_rfl) (by kernel_rfl) (by kernel_rfl) (fun _ _ _ h => h) (by rfl) HS ?_
                simp only [Act.put, List.setIfInBounds_toArray, List.set_cons_zero, List.set_cons_succ]
                refine roH_skip 6 (some 99) rfl rfl (by kernel_rfl) (by kernel_rfl) (by kernel_rfl) (fun _ _ _ h => h) (by rfl) HS ?_
                simp only [Act.put, List.setIfInBounds_toArray, List.set_cons_zero, List.set_cons_succ]
                refine roH_skip 7 (some 100) rfl rfl (by kernel_rfl) (by kernel_rfl) (by kernel_rfl) (fun _ _ _ h => h) (by rfl) HS ?_
                simp only [Act.put, List.setIfInBounds_toArray, List.set_cons_zero, List.set_cons_succ]
                refine roH_skip 8 (some 101) rfl rfl (by kernel_rfl) (by kernel_rfl) (by kernel_rfl) (fun _ _ _ h => h) (by rfl) HS ?_
                simp only [Act.put, List.setIfInBounds_toArray, List.set_cons_zero, List.set_cons_succ]
                refine roH_skip 9 (some 102) rfl rfl (by kernel_rfl) (by kernel_rfl) (by kernel_rfl) (fun _ _ _ h => h) (by rfl) HS ?_
                simp only [Act.put, List.setIfInBounds_toArray, List.set_cons_zero, List.set_cons_succ]
                refine roH_skip 10 (some 103) rfl rfl (by kernel_rfl) (by kernel_rfl) (by kernel_rfl) (fun _ _ _ h => h) (by rfl) HS ?_
                simp only [Act.put, List.setIfInBounds_toArray, List.set_cons_zero, List.set_cons_succ]
                refine roH_skip 11 (some 104) rfl rfl (by kernel_rfl) (by kernel_rfl) (by kernel_rfl) (fun _ _ _ h => h) (by rfl) HS ?_
                simp only [Act.put, List.setIfInBounds_toArray, List.set_cons_zero, List.set_cons_succ]
                refine roH_skip 12 (some 105) rfl rfl (by kernel_rfl) (by kernel_rfl) (by kernel_rfl) (fun _ _ _ h => h) (by rfl) HS ?_
                simp only [Act.put, List.setIfInBounds_toArray, List.set_cons_zero, List.set_cons_succ]
                refine roH_take 13 (some 106) (v := ?v13b) rfl rfl (by kernel_rfl) (by kernel_rfl) (by kernel_rfl) (fun _ _ _ h => h) (by rfl) ?y13b HS ?r13b
                case y13b => (intro W hS; go_simp; try with_reducible rfl)
                simp only [Act.put, List.setIfInBounds_toArray, List.set_cons_zero, List.set_cons_succ]
                refine roH_take 14 (some 107) (v := ?v14b) rfl rfl (by kernel_rfl) (by kernel_rfl) (by kernel_rfl) (fun _ _ _ h => h) (by rfl) ?y14b HS ?r14b
                case y14b => (intro W hS; go_simp; try with_reducible rfl)
                simp only [Act.put, List.setIfInBounds_toArray, List.set_cons_zero, List.set_cons_succ]
                refine roH_take 15 (some 108) (v := ?v15b) rfl rfl (by kernel_rfl) (by kernel_rfl) (by kernel_rfl) (fun _ _ _ h => h) (by rfl) ?y15b HS ?r15b
                case y15b => (intro W hS; go_simp; try with_reducible rfl)
                simp only [Act.put, List.setIfInBounds_toArray, List.set_cons_zero, List.set_cons_succ]
                refine roH_take 16 (some 109) (v := ?v16b) rfl rfl (by kernel_rfl) (by kernel_rfl) (by kernel_rfl) (fun _ _ _ h => h) (by rfl) ?y16b HS ?r16b
                case y16b => (intro W hS; go_simp; try with_reducible rfl)
                simp only [Act.put, List.setIfInBounds_toArray, List.set_cons_zero, List.set_cons_succ]
                refine roH_take 17 (some 110) (v := ?v17b) rfl rfl (by kernel_rfl) (by kernel_rfl) (by kernel_rfl) (fun _ _ _ h => h) (by rfl) ?y17b HS ?r17b
                case y17b => (intro W hS; go_simp; try with_reducible rfl)
                simp only [Act.put, List.setIfInBounds_toArray, List.set_cons_zero, List.set_cons_succ]
                refine roH_take 18 (some 111) (v := ?v18b) rfl rfl (by kernel_rfl) (by kernel_rfl) (by kernel_rfl) (fun _ _ _ h => h) (by rfl) ?y18b HS ?r18b
                case y18b => (intro W hS; go_simp; try with_reducible rfl)
                simp only [Act.put, List.setIfInBounds_toArray, List.set_cons_zero, List.set_cons_succ]
                refine roH_take 19 (some 112) (v := ?v19b) rfl rfl (by kernel_rfl) (by kernel_rfl) (by kernel_rfl) (fun _ _ _ h => h) (by rfl) ?y19b HS ?r19b
                case y19b => (intro W hS; obtain s0 := hS; go_simp; try with_reducible rfl)
                simp only [Act.put, List.setIfInBounds_toArray, List.set_cons_zero, List.set_cons_succ]
                refine roH_take 20 (some 113) (v := ?v20b) rfl rfl (by kernel_rfl) (by kernel_rfl) (by kernel_rfl) (fun _ _ _ h => h) (by rfl) ?y20b HS ?r20b
                case y20b => (intro W hS; go_simp; try with_reducible rfl)
                simp only [Act.put, List.setIfInBounds_toArray, List.set_cons_zero, List.set_cons_succ]
                refine roH_one 21 rfl (by kernel_rfl) ?_
                intro Kf hKf
                go_simp
                refine khas.mono ?_
                rintro e w7 ⟨rfl, hS7, hc1b⟩
                have hz1b : Below wz.heap.size wz w7 := hc1b
                replace HS := hSk _ hz1b
                refine hKf _ _ HS ?_
                clear hKf Kf
                refine roH_take 22 (some 115) (v := ?v22b) rfl rfl (by kernel_rfl) (by kernel_rfl) (by kernel_rfl) (fun _ _ _ h => h) (by rfl) ?y22b HS ?r22b
                case y22b => (intro W hS; go_simp; try with_reducible rfl)
                simp only [Act.put, List.setIfInBounds_toArray, List.set_cons_zero, List.set_cons_succ]
                refine roH_take 23 (some 116) (v := ?v23b) rfl rfl (by kernel_rfl) (by kernel_rfl) (by kernel_rfl) (fun _ _ _ h => h) (by rfl) ?y23b HS ?r23b
                case y23b => (intro W hS; go_simp; try with_reducible rfl)
                simp only [Act.put, List.setIfInBounds_toArray, List.set_cons_zero, List.set_cons_succ]
                refine wpAnyH_done (by kernel_rfl) ?_ _
                go_wp2_with fail
                go_meet
                exact ⟨rfl, hS7, hrest w7 hc1b⟩
            case rest =>
            obtain ⟨rfl, hS7, hb67⟩ := hcut
            clear hyi
            have g7 := hk7 _ hb67
            clear hk7 hrest khas
            go_wp2_with fail
            go_loopw [16, 17] (fun vin vk wx => ∃ (k : Nat) (q : Bool), vin = .bool q ∧ vk = .int .i64 k ∧ k ≤ X.length ∧ Hid (hasK (X.take k) y = q) ∧ Below wc.heap.size wc wx) (fun _ vk _ => X.length - (intOf vk).toNat)
            case atStart => exact ⟨0, false, rfl, rfl, Nat.zero_le _, Lib.hid rfl, Below.refl _ _⟩
            case round =>
              obtain ⟨k, q, rfl, rfl, hk, hq, hbk⟩ := hrel
              have gy : wr.cell? ⟨b5, o5 + i, none⟩ = some (.string y) := (hbk.cell (p := ⟨b5, o5 + i, none⟩) (World.block_lt_of_cell? wc _ g7)).trans g7
              by_cases hkX : k < X.length
              · have dk : (k : Int) < (X.length : Int) := by omega
                obtain ⟨xk, hxk⟩ : ∃ x, X[k]? = some x := ⟨_, List.getElem?_eq_getElem hkX⟩
                obtain ⟨b4, o4, rfl, _, g4⟩ := rd_key ((hR4.below hb67).below (hbk.mono hb67.size)) hxk
                have hsn : hasK (X.take (k + 1)) y = (hasK (X.take k) y || decide (y = xk)) := by
                  unfold hasK
                  rw [List.take_add_one, hxk, Option.toList_some, List.any_append, List.any_cons, List.any_nil, Bool.or_false]
                rw [hq.out] at hsn
                clear hxk hq
                cases q with
                | true =>
                  rw [Bool.true_or] at hsn
                  replace hsn := Lib.hid hsn
                  go_upto_region 27 with (fail)
                  go_quiet (fail)
                  go_wp2_with fail
                  exact ⟨⟨k + 1, true, rfl, by go_num, by omega, hsn, hbk.trans (drewN_below _ _ _)⟩, by simp [intOf]; omega⟩
                | false =>
                  rw [Bool.false_or] at hsn
                  by_cases hxy : xk = y
                  · subst hxy
                    rw [decide_eq_true rfl] at hsn
                    replace hsn := Lib.hid hsn
                    go_upto_region 27 with (fail)
                    go_quiet (fail)
                    go_wp2_with fail
                    exact ⟨⟨k + 1, true, by simp, by go_num, by omega, hsn, hbk.trans (drewN_below _ _ _)⟩, by simp [intOf]; omega⟩
                  · have dxy : (xk.toList == y.toList) = false := beq_false_of_ne fun z => hxy (tl_inj z)
                    rw [decide_eq_false (Ne.symm hxy)] at hsn
                    replace hsn := Lib.hid hsn
                    go_upto_region 27 with (fail)
                    go_quiet (fail)
                    go_wp2_with fail
                    exact ⟨⟨k + 1, false, by simp, by go_num, by omega, hsn, hbk.trans (drewN_below _ _ _)⟩, by simp [intOf]; omega⟩
              · obtain rfl : k = X.length := by omega
                have dk : ¬ (((X.length : Nat) : Int) < (X.length : Int)) := by omega
                have hq' := hq.out
                rw [List.take_length] at hq'
                rw [hq'] at halty
                replace halty := Lib.hid halty
                clear hq hq' hR4
                have hb68 := hb67.trans (hbk.mono hb67.size)
                have hS8 := hS7.up K hbk
                go_wp2_with fail
                go_loopw [16, 18] (fun vin vk wx => ∃ (k : Nat) (z : Bool), vin = .bool z ∧ vk = .int .i64 k ∧ k ≤ E.length ∧ Hid (altP y q (E.take k) = some z) ∧ Below wc.heap.size wc wx) (fun _ vk _ => E.length - (intOf vk).toNat)
                case atStart => exact ⟨0, q, rfl, rfl, Nat.zero_le _, Lib.hid rfl, hbk⟩
                case round =>
                  obtain ⟨k, z, rfl, rfl, hk, hz, hbk⟩ := hrel
                  have gy : wr.cell? ⟨b5, o5 + i, none⟩ = some (.string y) := (hbk.cell (p := ⟨b5, o5 + i, none⟩) (World.block_lt_of_cell? wc _ g7)).trans g7
                  by_cases hkE : k < E.length
                  · have dk : (k : Int) < (E.length : Int) := by omega
                    obtain ⟨ev, hev⟩ : ∃ x, E[k]? = some x := ⟨_, List.getElem?_eq_getElem hkE⟩
                    obtain ⟨b6, o6, rfl, _, g60, g61, g62⟩ := rd_ev ((hR6.below hb67).below (hbk.mono hb67.size)) hev
                    have hE : E = E.take k ++ ev :: E.drop (k + 1) := by rw [← drop_at hev, List.take_append_drop]
                    have hall : altP y z (ev :: E.drop (k + 1)) = some true := by
                      have := halty.out
                      rw [hE, altP_append, hz.out] at this
                      exact this
                    have hsn : altP y q (E.take (k + 1)) = altP y z [ev] := by rw [List.take_add_one, hev, Option.toList_some, altP_append, hz.out]; rfl
                    obtain ⟨er, ek, ea⟩ := ev
                    dsimp only at g60 g61 g62
                    clear hev hz hE
                    by_cases hey : ek = y
                    · subst hey
                      have hne : z ≠ ea := fun e => by
                        rw [altP, if_pos rfl, if_pos e] at hall
                        cases hall
                      rw [altP, if_pos rfl, if_neg hne] at hsn
                      replace hsn : Hid (altP ek q (E.take (k + 1)) = some ea) := Lib.hid hsn
                      have dze : (z == ea) = false := beq_false_of_ne hne
                      clear hall hne
                      go_upto_region 31 with (fail)
                      go_quiet (fail)
                      go_wp2_with fail
                      exact ⟨⟨k + 1, ea, rfl, by go_num, by omega, hsn, hbk.trans (drewN_below _ _ _)⟩, by simp [intOf]; omega⟩
                    · have dey : (ek.toList == y.toList) = false := beq_false_of_ne fun z => hey (tl_inj z)
                      rw [altP, if_neg hey] at hsn
                      replace hsn : Hid (altP y q (E.take (k + 1)) = some z) := Lib.hid hsn
                      clear hall
                      go_upto_region 31 with (fail)
                      go_quiet (fail)
                      go_wp2_with fail
                      exact ⟨⟨k + 1, z, rfl, by go_num, by omega, hsn, hbk.trans (drewN_below _ _ _)⟩, by simp [intOf]; omega⟩
                  · obtain rfl : k = E.length := by omega
                    have dk : ¬ (((E.length : Nat) : Int) < (E.length : Int)) := by omega
                    have hzt : z = true := by
                      have h1 := hz.out
                      have h2 := halty.out
                      rw [List.take_length, h2] at h1
                      injection h1 with h1
                      exact h1.symm
                    subst hzt
                    clear hz hR6 halty
                    have hS9 := hS7.up K hbk
                    have hb69 := hb67.trans (hbk.mono hb67.size)
                    go_wp2_with fail
                    go_roundw
                    case rel => exact ⟨i + 1, by go_num, by go_num, by omega, hS9, hb69⟩
                    case measure => simp [intOf]; omega
          · obtain rfl : i = Y.length := by omega
            have di2 : ¬ (((Y.length : Nat) : Int) < (Y.length : Int)) := by omega
            have h2 := hcnt2 _ hSi
            clear hhas hYs halt hY3 hX3 hR4 hR5 hR6
            go_wp2_with (first
              | (go_at_call 21; with_reducible refine h2.mono ?_; rintro e7 w7 ⟨rfl, hS7, _⟩; clear h2)
              | (go_at_call 21; with_reducible refine (hcnt1 _ hS7).mono ?_; rintro e8 w8 ⟨rfl, hS8, _⟩)
              | fail)
            go_ret
            exact ⟨rfl, hS8.below⟩
end Go.Proofs.Ytmdhollegemlhaa
