/- Layer 10: of walked: a schema in memory, whoever made it, as the document's own value. Conditions: none. -/
import Derived.BigQuiet
import Derived.Deep.QuietTactic
import Derived.Test.YtinfbimfiaegdaaGreatLeadW
namespace Go.Proofs.YtinfbimfiaegdaaGreat
open Go.RowKit

set_option maxRecDepth 100000 in
set_option maxHeartbeats 4000000 in
theorem of_own10 {w : World} {A : Option Addr} {c : Nat} {l : List TypA} (h : SchA w 140737488351232 A c l) :
    Calls Tryz.prog 12 #[.agg #[.slice A l.length c]] w fun e w' => (∃ v, e = .returned v ∧ DVTyps w.heap.size w' v (l.map TypA.says)) ∧ Below w.heap.size w w' := by
  have hlf := h.few
  obtain ⟨T, hT⟩ : ∃ T, l.map TypA.says = T := ⟨_, rfl⟩
  have hTl : T.length = l.length := by rw [← hT, List.length_map]
  have hTg := Lib.hid (fun (i : Nat) (t : TypA) (e : l[i]? = some t) => (show T[i]? = some t.says by rw [← hT, List.getElem?_map, e]; rfl))
  rw [hT]
  clear hT
  go_enter Tryz.func12, Tryz.ntmps12
  go_wp2_with fail
  have hB0 : Below w.heap.size w (w.alloc (.cells #[.slice A l.length c] 25)) := (Below.refl _ w).alloc (Nat.le_refl _) _
  have hb0 := Bk.new w #[.slice A l.length c] 25
  have h0 := h.up ((Below.refl _ w).alloc (Nat.le_refl _) (.cells #[.slice A l.length c] 25))
  clear h
  generalize w.alloc (.cells #[.slice A l.length c] 25) = w0 at *
  have hlt0 := hb0.lt
  go_loopw [3, 4] (fun vo vi wx => ∃ i : Nat, vi = .int .i64 i ∧ i ≤ l.length ∧ DVTyps w0.heap.size wx vo (T.take i) ∧ Below w0.heap.size w0 wx) (fun _ vi _ => l.length - (intOf vi).toNat)
  case atStart => exact ⟨0, rfl, Nat.zero_le _, ⟨[], World.ownsRow_nil _ _ _ _, rfl⟩, Below.refl _ _⟩
  case round =>
    obtain ⟨i, rfl, hi, hO, hbx⟩ := hrel
    have hBx := hB0.trans (hbx.mono hB0.size)
    have hbS := hb0.below hbx
    have hvx := h0.up hbx
    have x0 := hbS.c1
    have lx := hbS.lt
    by_cases hil : i < l.length
    · have hdi : (i : Int) < (l.length : Nat) := by omega
      obtain ⟨t, ht⟩ : ∃ t, l[i]? = some t := ⟨l[i], List.getElem?_eq_getElem hil⟩
      have hTt := hTg.out i t ht
      obtain ⟨g, o, rfl, g0, g1, hkt⟩ := hvx.get ht
      have hR1 := hkt.reln
      obtain ⟨Ar, hAr⟩ : ∃ B, t.A = B := ⟨_, rfl⟩
      obtain ⟨RS, hRS⟩ : ∃ q, t.rels.map RelA.says = q := ⟨_, rfl⟩
      have hRl : RS.length = t.rels.length := by rw [← hRS, List.length_map]
      have hRg := Lib.hid (fun (i : Nat) (x : RelA) (e : t.rels[i]? = some x) => (show RS[i]? = some x.says by rw [← hRS, List.getElem?_map, e]; rfl))
      have hts : t.says = ⟨t.name, RS⟩ := by rw [← hRS]; rfl
      rw [hts] at hTt
      replace hTt := Lib.hid hTt
      rw [hAr] at g1
      clear hRS hts
      clear hvx
      go_wp2_with fail
      generalize wr = wx at *
      have hbt := Bk.new wx #[.string t.name, .slice none 0 0] 77
      have hbl : Below wx.heap.size wx (wx.alloc (.cells #[.string t.name, .slice none 0 0] 77)) := (Below.refl _ wx).alloc (Nat.le_refl _) _
      generalize wx.alloc (.cells #[.string t.name, .slice none 0 0] 77) = wt at *
      go_loopw [6] (fun vk wy => ∃ (k : Nat) (v2 : Value), vk = .int .i64 k ∧ k ≤ t.rels.length ∧ Below wx.heap.size wx wy ∧ Bk wy wx.heap.size #[.string t.name, v2] 77 ∧ DVRels (wx.heap.size + 1) wy v2 (RS.take k)) (fun vk _ => t.rels.length - (intOf vk).toNat)
      case atStart => exact ⟨0, .slice none 0 0, rfl, Nat.zero_le _, hbl, hbt, ⟨[], World.ownsRow_nil _ _ _ _, rfl⟩⟩
      case round =>
        clear hbt hbl
        obtain ⟨k, v2, rfl, hk, hby, hbt, hD⟩ := hrel
        have hbSy := hbS.below hby
        have y0 := hbSy.c1
        have ly := hbSy.lt
        have lt := hbt.lt
        have y1 := cell_under g1 hby
        have lg := World.block_lt_of_cell? _ _ y1
        dsimp only at lg
        have hry := hkt.up hby
        by_cases hkl : k < t.rels.length
        · have hdk : (k : Int) < (t.rels.length : Nat) := by omega
          obtain ⟨x, hx⟩ : ∃ x, t.rels[k]? = some x := ⟨t.rels[k], List.getElem?_eq_getElem hkl⟩
          have hRx := Lib.hid (hRg.out k x hx)
          obtain ⟨gr, og, e1, r0, r1, r2, r3, r4, r5, hkx⟩ := hry.get hx
          rw [hAr] at e1
          subst e1
          have hfs := hkx.subn
          have hfo := hkx.opn
          obtain ⟨As, hAs⟩ : ∃ B, x.As = B := ⟨_, rfl⟩
          obtain ⟨Ao, hAo⟩ : ∃ B, x.Ao = B := ⟨_, rfl⟩
          rw [hAs] at r4
          rw [hAo] at r5
          clear hry
          go_wp2_with fail
          generalize wr = wy at *
          have hX0 := (Bk.new wy #[.string x.name, .string x.view, .string x.edit, .string x.check, .slice As x.subs.length x.cs, .slice Ao x.ops.length x.co] 63).alloc (.cells #[.string x.name, .string x.view, .string x.edit, .string x.check, (.slice none 0 0), (.slice none 0 0)] 81)
          have hR0 := Bk.new2 wy (.cells #[.string x.name, .string x.view, .string x.edit, .string x.check, .slice As x.subs.length x.cs, .slice Ao x.ops.length x.co] 63) #[.string x.name, .string x.view, .string x.edit, .string x.check, (.slice none 0 0), (.slice none 0 0)] 81
          have hbz0 : Below wy.heap.size wy ((wy.alloc (.cells #[.string x.name, .string x.view, .string x.edit, .string x.check, .slice As x.subs.length x.cs, .slice Ao x.ops.length x.co] 63)).alloc (.cells #[.string x.name, .string x.view, .string x.edit, .string x.check, (.slice none 0 0), (.slice none 0 0)] 81)) := ((Below.refl _ wy).alloc (Nat.le_refl _) _).alloc (size_alloc (Nat.le_refl _)) _
          generalize (wy.alloc (.cells #[.string x.name, .string x.view, .string x.edit, .string x.check, .slice As x.subs.length x.cs, .slice Ao x.ops.length x.co] 63)).alloc (.cells #[.string x.name, .string x.view, .string x.edit, .string x.check, (.slice none 0 0), (.slice none 0 0)] 81) = wz0 at *
          clear r0 r1 r2 r3 r4 r5
          go_loopw [9] (fun vj wz => ∃ (j : Nat) (v3 : Value), vj = .int .i64 j ∧ j ≤ x.subs.length ∧ Below wy.heap.size wy wz ∧ Bk wz wy.heap.size #[.string x.name, .string x.view, .string x.edit, .string x.check, .slice As x.subs.length x.cs, .slice Ao x.ops.length x.co] 63 ∧ Bk wz (wy.heap.size + 1) #[.string x.name, .string x.view, .string x.edit, .string x.check, v3, .slice none 0 0] 81 ∧ DVSubs (wy.heap.size + 2) wz v3 (x.subs.take j)) (fun vj _ => x.subs.length - (intOf vj).toNat)
          case atStart => exact ⟨0, .slice none 0 0, rfl, Nat.zero_le _, hbz0, hX0, hR0, World.ownsRow_nil _ _ _ _⟩
          case round =>
            clear hX0 hR0 hbz0
            obtain ⟨j, v3, rfl, hj, hbz, hX, hR, hD3⟩ := hrel
            have z4 : World.cell? _ ⟨wy.heap.size, 4, none⟩ = some (.slice As x.subs.length x.cs) := hX.cell 4
            have lz := hX.lt
            have lR := hR.lt
            by_cases hjl : j < x.subs.length
            · have hdj : (j : Int) < (x.subs.length : Nat) := by omega
              obtain ⟨s, hsj⟩ : ∃ s, x.subs[j]? = some s := ⟨x.subs[j], List.getElem?_eq_getElem hjl⟩
              have hsz := hkx.up hbz
              obtain ⟨gs, os, e1, s0, s1, _, _⟩ := hsz.sub hsj
              rw [hAs] at e1
              subst e1
              have hn3 : (x.subs.take j).length = j := by rw [List.length_take]; omega
              unfold DVSubs at hD3
              rw [hn3] at hD3
              obtain ⟨A3, c3', rfl, _⟩ := Rd.own hD3
              clear hsz
              go_wp2_with fail
              refine roL_begin (fun W => W.cell? ⟨wy.heap.size, 4, none⟩ = some (.slice (some ⟨gs, os, none⟩) x.subs.length x.cs) ∧ W.cell? ⟨wy.heap.size + 1, 4, none⟩ = some (.slice A3 j c3') ∧ W.cell? ⟨gs, os + j * 2, none⟩ = some (.string s.1) ∧ W.cell? ⟨gs, os + j * 2 + 1, none⟩ = some (.string s.2)) 18 (by kernel_rfl) ?_
              change wpAnyL _ _ _ _ _ _ _ _ _ (World.drew _)
              generalize hdw : World.drew wr = wd at *
              have hbd : Below wr.heap.size wr wd := by subst hdw; exact ⟨rfl, rfl, rfl, Nat.le_refl _, fun _ _ => rfl⟩
              have hzd : wr.heap.size = wd.heap.size := by subst hdw; rfl
              replace hX := hX.below hbd
              replace hR := hR.below hbd
              replace hbz := hbz.trans (hbd.mono hbz.size)
              replace hD3 := own_below hD3 hbd
              replace s0 := cell_under s0 hbd
              replace s1 := cell_under s1 hbd
              have HS : wd.cell? ⟨wy.heap.size, 4, none⟩ = some (.slice (some ⟨gs, os, none⟩) x.subs.length x.cs) ∧ wd.cell? ⟨wy.heap.size + 1, 4, none⟩ = some (.slice A3 j c3') ∧ wd.cell? ⟨gs, os + j * 2, none⟩ = some (.string s.1) ∧ wd.cell? ⟨gs, os + j * 2 + 1, none⟩ = some (.string s.2) := ⟨hX.cell 4, hR.cell 4, s0, s1⟩
              clear hdw hbd
              refine roL_take 0 (some 61) (v := ?v0z18) rfl rfl (by kernel_rfl) (by decide) (by kernel_rfl) (by kernel_rfl) (by kernel_rfl) (fun _ _ _ h => h) (by rfl) ?y0z18 HS ?r0z18
              case y0z18 => (intro w hS; (try dsimp only at hS); obtain ⟨q0, q1, q2, q3⟩ := hS; go_simp; try with_reducible rfl)
              simp only [Act.put, List.setIfInBounds_toArray, List.set_cons_zero, List.set_cons_succ]
              refine roL_take 1 (some 62) (v := ?v1z18) rfl rfl (by kernel_rfl) (by decide) (by kernel_rfl) (by kernel_rfl) (by kernel_rfl) (fun _ _ _ h => h) (by rfl) ?y1z18 HS ?r1z18
              case y1z18 => (intro w hS; (try dsimp only at hS); obtain ⟨q0, q1, q2, q3⟩ := hS; go_simp; try with_reducible rfl)
              simp only [Act.put, List.setIfInBounds_toArray, List.set_cons_zero, List.set_cons_succ]
              refine roL_take 2 (some 63) (v := ?v2z18) rfl rfl (by kernel_rfl) (by decide) (by kernel_rfl) (by kernel_rfl) (by kernel_rfl) (fun _ _ _ h => h) (by rfl) ?y2z18 HS ?r2z18
              case y2z18 => (intro w hS; (try dsimp only at hS); obtain ⟨q0, q1, q2, q3⟩ := hS; go_simp; try with_reducible rfl)
              simp only [Act.put, List.setIfInBounds_toArray, List.set_cons_zero, List.set_cons_succ]
              refine roL_take 3 (some 64) (v := ?v3z18) rfl rfl (by kernel_rfl) (by decide) (by kernel_rfl) (by kernel_rfl) (by kernel_rfl) (fun _ _ _ h => h) (by rfl) ?y3z18 HS ?r3z18
              case y3z18 => (intro w hS; (try dsimp only at hS); obtain ⟨q0, q1, q2, q3⟩ := hS; go_simp; try with_reducible rfl)
              simp only [Act.put, List.setIfInBounds_toArray, List.set_cons_zero, List.set_cons_succ]
              refine roL_take 4 (some 65) (v := ?v4z18) rfl rfl (by kernel_rfl) (by decide) (by kernel_rfl) (by kernel_rfl) (by kernel_rfl) (fun _ _ _ h => h) (by rfl) ?y4z18 HS ?r4z18
              case y4z18 => (intro w hS; (try dsimp only at hS); obtain ⟨q0, q1, q2, q3⟩ := hS; go_simp; try with_reducible rfl)
              simp only [Act.put, List.setIfInBounds_toArray, List.set_cons_zero, List.set_cons_succ]
              refine roL_take 5 (some 66) (v := ?v5z18) rfl rfl (by kernel_rfl) (by decide) (by kernel_rfl) (by kernel_rfl) (by kernel_rfl) (fun _ _ _ h => h) (by rfl) ?y5z18 HS ?r5z18
              case y5z18 => (intro w hS; (try dsimp only at hS); obtain ⟨q0, q1, q2, q3⟩ := hS; go_simp; try with_reducible rfl)
              simp only [Act.put, List.setIfInBounds_toArray, List.set_cons_zero, List.set_cons_succ]
              refine roL_take 6 (some 67) (v := ?v6z18) rfl rfl (by kernel_rfl) (by decide) (by kernel_rfl) (by kernel_rfl) (by kernel_rfl) (fun _ _ _ h => h) (by rfl) ?y6z18 HS ?r6z18
              case y6z18 => (intro w hS; (try dsimp only at hS); obtain ⟨q0, q1, q2, q3⟩ := hS; go_simp; try with_reducible rfl)
              simp only [Act.put, List.setIfInBounds_toArray, List.set_cons_zero, List.set_cons_succ]
              refine roL_take 7 (some 68) (v := ?v7z18) rfl rfl (by kernel_rfl) (by decide) (by kernel_rfl) (by kernel_rfl) (by kernel_rfl) (fun _ _ _ h => h) (by rfl) ?y7z18 HS ?r7z18
              case y7z18 => (intro w hS; (try dsimp only at hS); obtain ⟨q0, q1, q2, q3⟩ := hS; go_simp; try with_reducible rfl)
              simp only [Act.put, List.setIfInBounds_toArray, List.set_cons_zero, List.set_cons_succ]
              refine roL_take 8 (some 69) (v := ?v8z18) rfl rfl (by kernel_rfl) (by decide) (by kernel_rfl) (by kernel_rfl) (by kernel_rfl) (fun _ _ _ h => h) (by rfl) ?y8z18 HS ?r8z18
              case y8z18 => (intro w hS; (try dsimp only at hS); obtain ⟨q0, q1, q2, q3⟩ := hS; go_simp; try with_reducible rfl)
              simp only [Act.put, List.setIfInBounds_toArray, List.set_cons_zero, List.set_cons_succ]
              refine roL_take 9 (some 70) (v := ?v9z18) rfl rfl (by kernel_rfl) (by decide) (by kernel_rfl) (by kernel_rfl) (by kernel_rfl) (fun _ _ _ h => h) (by rfl) ?y9z18 HS ?r9z18
              case y9z18 => (intro w hS; (try dsimp only at hS); obtain ⟨q0, q1, q2, q3⟩ := hS; go_simp; try with_reducible rfl)
              simp only [Act.put, List.setIfInBounds_toArray, List.set_cons_zero, List.set_cons_succ]
              refine roL_take 10 (some 71) (v := ?v10z18) rfl rfl (by kernel_rfl) (by decide) (by kernel_rfl) (by kernel_rfl) (by kernel_rfl) (fun _ _ _ h => h) (by rfl) ?y10z18 HS ?r10z18
              case y10z18 => (intro w hS; (try dsimp only at hS); obtain ⟨q0, q1, q2, q3⟩ := hS; go_simp; try with_reducible rfl)
              simp only [Act.put, List.setIfInBounds_toArray, List.set_cons_zero, List.set_cons_succ]
              refine roL_take 11 (some 72) (v := ?v11z18) rfl rfl (by kernel_rfl) (by decide) (by kernel_rfl) (by kernel_rfl) (by kernel_rfl) (fun _ _ _ h => h) (by rfl) ?y11z18 HS ?r11z18
              case y11z18 => (intro w hS; (try dsimp only at hS); obtain ⟨q0, q1, q2, q3⟩ := hS; go_simp; try with_reducible rfl)
              simp only [Act.put, List.setIfInBounds_toArray, List.set_cons_zero, List.set_cons_succ]
              refine roL_take 12 (some 73) (v := ?v12z18) rfl rfl (by kernel_rfl) (by decide) (by kernel_rfl) (by kernel_rfl) (by kernel_rfl) (fun _ _ _ h => h) (by rfl) ?y12z18 HS ?r12z18
              case y12z18 => (intro w hS; (try dsimp only at hS); obtain ⟨q0, q1, q2, q3⟩ := hS; go_simp; try with_reducible rfl)
              simp only [Act.put, List.setIfInBounds_toArray, List.set_cons_zero, List.set_cons_succ]
              refine roL_take 13 (some 74) (v := ?v13z18) rfl rfl (by kernel_rfl) (by decide) (by kernel_rfl) (by kernel_rfl) (by kernel_rfl) (fun _ _ _ h => h) (by rfl) ?y13z18 HS ?r13z18
              case y13z18 => (intro w hS; (try dsimp only at hS); obtain ⟨q0, q1, q2, q3⟩ := hS; go_simp; try with_reducible rfl)
              simp only [Act.put, List.setIfInBounds_toArray, List.set_cons_zero, List.set_cons_succ]
              refine roL_take 14 (some 75) (v := ?v14z18) rfl rfl (by kernel_rfl) (by decide) (by kernel_rfl) (by kernel_rfl) (by kernel_rfl) (fun _ _ _ h => h) (by rfl) ?y14z18 HS ?r14z18
              case y14z18 => (intro w hS; (try dsimp only at hS); obtain ⟨q0, q1, q2, q3⟩ := hS; go_simp; try with_reducible rfl)
              simp only [Act.put, List.setIfInBounds_toArray, List.set_cons_zero, List.set_cons_succ]
              refine roL_one 15 rfl (by kernel_rfl) fun K hK' => ?_
              go_simp
              refine hK' _ _ (fun _ => ⟨cell_alloc HS.1 _, cell_alloc HS.2.1 _, cell_alloc HS.2.2.1 _, cell_alloc HS.2.2.2 _⟩) ?_
              clear hK' K
              obtain ⟨i0, hi0, hz0, hz1, hz2⟩ := info_parts dinfo_sub
              have hz7 : wy.heap.size + 2 ≤ wd.heap.size := by have := hR.lt; omega
              refine roL_one 16 rfl (by kernel_rfl) fun K hK' => ?_
              rw [if_pos (by rfl)]
              refine op_append_src _ (some 77) rfl (.tmp 62) (.tmp 76) 78 78 rfl (wy.heap.size + 2) 88 i0 (.agg #[.string .empty, .string .empty]) 2 32 Tryz.underlying78 hi0 hz0 hz1 hz2 rfl (by decide) (.slice A3 j c3') j (scells (x.subs.take j)) rfl (World.ownsRow.alloc hD3 _) _ 1 [.string s.1, .string s.2] rfl (Src.ofSlice _ Tryz.underlying78 _ 1 1 _ rfl (cells_new2 _ _ _ _) (scell_one s)) (by simp only [maxLen]; omega) (by omega) (size_alloc hz7) ?_
              intro v8 W8 hown8 hg8
              have hX8 := hX.grown (v := (.slice A3 j c3')) hg8 hD3 (by omega)
              have hR8 := hR.grown (v := (.slice A3 j c3')) hg8 hD3 (by omega)
              have hbz8 := below_of_own (v := (.slice A3 j c3')) (hbz.alloc hbz.size (.cells #[.string s.1, .string s.2] 88)) hg8 (World.ownsRow.alloc hD3 _) (size_alloc hbz.size) (Nat.le_add_right _ 2)
              have HSs := hkx.up hbz8
              obtain ⟨gs8, os8, e8, t0, t1, _, _⟩ := HSs.sub hsj
              rw [hAs] at e8
              cases e8
              have HS8 : W8.cell? ⟨wy.heap.size, 4, none⟩ = some (.slice (some ⟨gs, os, none⟩) x.subs.length x.cs) ∧ W8.cell? ⟨wy.heap.size + 1, 4, none⟩ = some (.slice A3 j c3') ∧ W8.cell? ⟨gs, os + j * 2, none⟩ = some (.string s.1) ∧ W8.cell? ⟨gs, os + j * 2 + 1, none⟩ = some (.string s.2) := ⟨hX8.cell 4, hR8.cell 4, t0, t1⟩
              clear HSs t0 t1
              refine hK' _ _ (fun _ => HS8) ?_
              clear hK' K HS hg8 hD3 hbz hX hR
              simp only [Act.put, List.setIfInBounds_toArray, List.set_cons_zero, List.set_cons_succ]
              refine roL_take 17 (some 78) (v := ?v17z18) rfl rfl (by kernel_rfl) (by decide) (by kernel_rfl) (by kernel_rfl) (by kernel_rfl) (fun _ _ _ h => h) (by rfl) ?y17z18 HS8 ?r17z18
              case y17z18 => (intro w hS; (try dsimp only at hS); obtain ⟨q0, q1, q2, q3⟩ := hS; go_simp; try with_reducible rfl)
              simp only [Act.put, List.setIfInBounds_toArray, List.set_cons_zero, List.set_cons_succ]
              refine roL_one 18 rfl (by kernel_rfl) fun K hK' => ?_
              obtain ⟨A8, c8, rfl, _⟩ := Rd.own hown8
              have fz8 := hR8.fz 4
              have q8 := hR8.cell 4
              go_simp
              refine hK' _ _ (fun h => absurd rfl h) ?_
              clear hK' K
              refine roL_done (by kernel_rfl) ?_ _
              have hX9 := hX8.other (a := ⟨wy.heap.size + 1, 4, none⟩) (by dsimp only; omega) (.slice A8 (j + 1) c8)
              have hR9 : Bk _ (wy.heap.size + 1) #[.string x.name, .string x.view, .string x.edit, .string x.check, (.slice A8 (j + 1) c8), (.slice none 0 0)] 81 := hR8.set 4 (.slice A8 (j + 1) c8)
              have hbz9 : Below wy.heap.size wy (W8.setCell ⟨wy.heap.size + 1, 4, none⟩ (.slice A8 (j + 1) c8)) := Below.setCell hbz8 (by dsimp only; omega) _
              have hD9 := own_set (a := ⟨wy.heap.size + 1, 4, none⟩) hown8 (by dsimp only; omega) (.slice A8 (j + 1) c8)
              clear hX8 hR8 hbz8 hown8 fz8 q8 HS8
              generalize W8.setCell ⟨wy.heap.size + 1, 4, none⟩ (.slice A8 (j + 1) c8) = W9 at *
              go_wp2_with fail
              refine ⟨⟨j + 1, _, by go_num, by omega, hbz9, hX9, hR9, ?_⟩, ?_⟩
              · rw [take_snoc hsj]
                unfold DVSubs
                rw [List.length_append, scells_app, hn3]
                exact hD9
              · simp [intOf]; omega
            · have hdj : ¬ ((j : Int) < (x.subs.length : Nat)) := by omega
              obtain rfl : j = x.subs.length := by omega
              rw [List.take_length] at hD3
              go_wp2_with fail
              generalize wr = wq at *
              have hX0 := hX
              have hR0 := hR
              have hbz0 := hbz
              have hD0 := hD3
              clear hX hR hbz hD3 z4
              go_loopw [10] (fun vj wz => ∃ (j : Nat) (v4 : Value), vj = .int .i64 j ∧ j ≤ x.ops.length ∧ Below wy.heap.size wy wz ∧ Bk wz wy.heap.size #[.string x.name, .string x.view, .string x.edit, .string x.check, .slice As x.subs.length x.cs, .slice Ao x.ops.length x.co] 63 ∧ Bk wz (wy.heap.size + 1) #[.string x.name, .string x.view, .string x.edit, .string x.check, v3, v4] 81 ∧ DVSubs (wy.heap.size + 2) wz v3 x.subs ∧ DVOps (wy.heap.size + 2) wz v4 (x.ops.take j)) (fun vj _ => x.ops.length - (intOf vj).toNat)
              case atStart => exact ⟨0, .slice none 0 0, rfl, Nat.zero_le _, hbz0, hX0, hR0, hD0, World.ownsRow_nil _ _ _ _⟩
              case round =>
                clear hX0 hR0 hbz0 hD0
                obtain ⟨j, v4, rfl, hj, hbz, hX, hR, hDS, hD3⟩ := hrel
                have z5 : World.cell? _ ⟨wy.heap.size, 5, none⟩ = some (.slice Ao x.ops.length x.co) := hX.cell 5
                have lz := hX.lt
                have lR := hR.lt
                by_cases hjl : j < x.ops.length
                · have hdj : (j : Int) < (x.ops.length : Nat) := by omega
                  obtain ⟨o, hoj⟩ : ∃ o, x.ops[j]? = some o := ⟨x.ops[j], List.getElem?_eq_getElem hjl⟩
                  have hoz := hkx.up hbz
                  obtain ⟨go, oo, e1, o0, o1, o2, _, _, _⟩ := hoz.op hoj
                  rw [hAo] at e1
                  subst e1
                  have hn3 : (x.ops.take j).length = j := by rw [List.length_take]; omega
                  unfold DVOps at hD3
                  rw [hn3] at hD3
                  obtain ⟨A3, c3', rfl, _⟩ := Rd.own hD3
                  clear hoz
                  go_wp2_with fail
                  refine roL_begin (fun W => W.cell? ⟨wy.heap.size, 5, none⟩ = some (.slice (some ⟨go, oo, none⟩) x.ops.length x.co) ∧ W.cell? ⟨wy.heap.size + 1, 5, none⟩ = some (.slice A3 j c3') ∧ W.cell? ⟨go, oo + j * 3, none⟩ = some (.int .i64 o.1) ∧ W.cell? ⟨go, oo + j * 3 + 1, none⟩ = some (.string o.2.1) ∧ W.cell? ⟨go, oo + j * 3 + 2, none⟩ = some (.string o.2.2)) 24 (by kernel_rfl) ?_
                  change wpAnyL _ _ _ _ _ _ _ _ _ (World.drew _)
                  generalize hdw : World.drew wr = wd at *
                  have hbd : Below wr.heap.size wr wd := by subst hdw; exact ⟨rfl, rfl, rfl, Nat.le_refl _, fun _ _ => rfl⟩
                  have hzd : wr.heap.size = wd.heap.size := by subst hdw; rfl
                  replace hX := hX.below hbd
                  replace hR := hR.below hbd
                  replace hbz := hbz.trans (hbd.mono hbz.size)
                  replace hD3 := own_below hD3 hbd
                  replace hDS : DVSubs (wy.heap.size + 2) wd v3 x.subs := own_below hDS hbd
                  replace o0 := cell_under o0 hbd
                  replace o1 := cell_under o1 hbd
                  replace o2 := cell_under o2 hbd
                  have HS : wd.cell? ⟨wy.heap.size, 5, none⟩ = some (.slice (some ⟨go, oo, none⟩) x.ops.length x.co) ∧ wd.cell? ⟨wy.heap.size + 1, 5, none⟩ = some (.slice A3 j c3') ∧ wd.cell? ⟨go, oo + j * 3, none⟩ = some (.int .i64 o.1) ∧ wd.cell? ⟨go, oo + j * 3 + 1, none⟩ = some (.string o.2.1) ∧ wd.cell? ⟨go, oo + j * 3 + 2, none⟩ = some (.string o.2.2) := ⟨hX.cell 5, hR.cell 5, o0, o1, o2⟩
                  clear hdw hbd
                  refine roL_take 0 (some 86) (v := ?v0z24) rfl rfl (by kernel_rfl) (by decide) (by kernel_rfl) (by kernel_rfl) (by kernel_rfl) (fun _ _ _ h => h) (by rfl) ?y0z24 HS ?r0z24
                  case y0z24 => (intro w hS; (try dsimp only at hS); obtain ⟨q0, q1, q2, q3, q4⟩ := hS; go_simp; try with_reducible rfl)
                  simp only [Act.put, List.setIfInBounds_toArray, List.set_cons_zero, List.set_cons_succ]
                  refine roL_take 1 (some 87) (v := ?v1z24) rfl rfl (by kernel_rfl) (by decide) (by kernel_rfl) (by kernel_rfl) (by kernel_rfl) (fun _ _ _ h => h) (by rfl) ?y1z24 HS ?r1z24
                  case y1z24 => (intro w hS; (try dsimp only at hS); obtain ⟨q0, q1, q2, q3, q4⟩ := hS; go_simp; try with_reducible rfl)
                  simp only [Act.put, List.setIfInBounds_toArray, List.set_cons_zero, List.set_cons_succ]
                  refine roL_take 2 (some 88) (v := ?v2z24) rfl rfl (by kernel_rfl) (by decide) (by kernel_rfl) (by kernel_rfl) (by kernel_rfl) (fun _ _ _ h => h) (by rfl) ?y2z24 HS ?r2z24
                  case y2z24 => (intro w hS; (try dsimp only at hS); obtain ⟨q0, q1, q2, q3, q4⟩ := hS; go_simp; try with_reducible rfl)
                  simp only [Act.put, List.setIfInBounds_toArray, List.set_cons_zero, List.set_cons_succ]
                  refine roL_take 3 (some 89) (v := ?v3z24) rfl rfl (by kernel_rfl) (by decide) (by kernel_rfl) (by kernel_rfl) (by kernel_rfl) (fun _ _ _ h => h) (by rfl) ?y3z24 HS ?r3z24
                  case y3z24 => (intro w hS; (try dsimp only at hS); obtain ⟨q0, q1, q2, q3, q4⟩ := hS; go_simp; try with_reducible rfl)
                  simp only [Act.put, List.setIfInBounds_toArray, List.set_cons_zero, List.set_cons_succ]
                  refine roL_take 4 (some 90) (v := ?v4z24) rfl rfl (by kernel_rfl) (by decide) (by kernel_rfl) (by kernel_rfl) (by kernel_rfl) (fun _ _ _ h => h) (by rfl) ?y4z24 HS ?r4z24
                  case y4z24 => (intro w hS; (try dsimp only at hS); obtain ⟨q0, q1, q2, q3, q4⟩ := hS; go_simp; try with_reducible rfl)
                  simp only [Act.put, List.setIfInBounds_toArray, List.set_cons_zero, List.set_cons_succ]
                  refine roL_take 5 (some 91) (v := ?v5z24) rfl rfl (by kernel_rfl) (by decide) (by kernel_rfl) (by kernel_rfl) (by kernel_rfl) (fun _ _ _ h => h) (by rfl) ?y5z24 HS ?r5z24
                  case y5z24 => (intro w hS; (try dsimp only at hS); obtain ⟨q0, q1, q2, q3, q4⟩ := hS; go_simp; try with_reducible rfl)
                  simp only [Act.put, List.setIfInBounds_toArray, List.set_cons_zero, List.set_cons_succ]
                  refine roL_take 6 (some 92) (v := ?v6z24) rfl rfl (by kernel_rfl) (by decide) (by kernel_rfl) (by kernel_rfl) (by kernel_rfl) (fun _ _ _ h => h) (by rfl) ?y6z24 HS ?r6z24
                  case y6z24 => (intro w hS; (try dsimp only at hS); obtain ⟨q0, q1, q2, q3, q4⟩ := hS; go_simp; try with_reducible rfl)
                  simp only [Act.put, List.setIfInBounds_toArray, List.set_cons_zero, List.set_cons_succ]
                  refine roL_take 7 (some 93) (v := ?v7z24) rfl rfl (by kernel_rfl) (by decide) (by kernel_rfl) (by kernel_rfl) (by kernel_rfl) (fun _ _ _ h => h) (by rfl) ?y7z24 HS ?r7z24
                  case y7z24 => (intro w hS; (try dsimp only at hS); obtain ⟨q0, q1, q2, q3, q4⟩ := hS; go_simp; try with_reducible rfl)
                  simp only [Act.put, List.setIfInBounds_toArray, List.set_cons_zero, List.set_cons_succ]
                  refine roL_take 8 (some 94) (v := ?v8z24) rfl rfl (by kernel_rfl) (by decide) (by kernel_rfl) (by kernel_rfl) (by kernel_rfl) (fun _ _ _ h => h) (by rfl) ?y8z24 HS ?r8z24
                  case y8z24 => (intro w hS; (try dsimp only at hS); obtain ⟨q0, q1, q2, q3, q4⟩ := hS; go_simp; try with_reducible rfl)
                  simp only [Act.put, List.setIfInBounds_toArray, List.set_cons_zero, List.set_cons_succ]
                  refine roL_take 9 (some 95) (v := ?v9z24) rfl rfl (by kernel_rfl) (by decide) (by kernel_rfl) (by kernel_rfl) (by kernel_rfl) (fun _ _ _ h => h) (by rfl) ?y9z24 HS ?r9z24
                  case y9z24 => (intro w hS; (try dsimp only at hS); obtain ⟨q0, q1, q2, q3, q4⟩ := hS; go_simp; try with_reducible rfl)
                  simp only [Act.put, List.setIfInBounds_toArray, List.set_cons_zero, List.set_cons_succ]
                  refine roL_take 10 (some 96) (v := ?v10z24) rfl rfl (by kernel_rfl) (by decide) (by kernel_rfl) (by kernel_rfl) (by kernel_rfl) (fun _ _ _ h => h) (by rfl) ?y10z24 HS ?r10z24
                  case y10z24 => (intro w hS; (try dsimp only at hS); obtain ⟨q0, q1, q2, q3, q4⟩ := hS; go_simp; try with_reducible rfl)
                  simp only [Act.put, List.setIfInBounds_toArray, List.set_cons_zero, List.set_cons_succ]
                  refine roL_take 11 (some 97) (v := ?v11z24) rfl rfl (by kernel_rfl) (by decide) (by kernel_rfl) (by kernel_rfl) (by kernel_rfl) (fun _ _ _ h => h) (by rfl) ?y11z24 HS ?r11z24
                  case y11z24 => (intro w hS; (try dsimp only at hS); obtain ⟨q0, q1, q2, q3, q4⟩ := hS; go_simp; try with_reducible rfl)
                  simp only [Act.put, List.setIfInBounds_toArray, List.set_cons_zero, List.set_cons_succ]
                  refine roL_take 12 (some 98) (v := ?v12z24) rfl rfl (by kernel_rfl) (by decide) (by kernel_rfl) (by kernel_rfl) (by kernel_rfl) (fun _ _ _ h => h) (by rfl) ?y12z24 HS ?r12z24
                  case y12z24 => (intro w hS; (try dsimp only at hS); obtain ⟨q0, q1, q2, q3, q4⟩ := hS; go_simp; try with_reducible rfl)
                  simp only [Act.put, List.setIfInBounds_toArray, List.set_cons_zero, List.set_cons_succ]
                  refine roL_take 13 (some 99) (v := ?v13z24) rfl rfl (by kernel_rfl) (by decide) (by kernel_rfl) (by kernel_rfl) (by kernel_rfl) (fun _ _ _ h => h) (by rfl) ?y13z24 HS ?r13z24
                  case y13z24 => (intro w hS; (try dsimp only at hS); obtain ⟨q0, q1, q2, q3, q4⟩ := hS; go_simp; try with_reducible rfl)
                  simp only [Act.put, List.setIfInBounds_toArray, List.set_cons_zero, List.set_cons_succ]
                  refine roL_take 14 (some 100) (v := ?v14z24) rfl rfl (by kernel_rfl) (by decide) (by kernel_rfl) (by kernel_rfl) (by kernel_rfl) (fun _ _ _ h => h) (by rfl) ?y14z24 HS ?r14z24
                  case y14z24 => (intro w hS; (try dsimp only at hS); obtain ⟨q0, q1, q2, q3, q4⟩ := hS; go_simp; try with_reducible rfl)
                  simp only [Act.put, List.setIfInBounds_toArray, List.set_cons_zero, List.set_cons_succ]
                  refine roL_take 15 (some 101) (v := ?v15z24) rfl rfl (by kernel_rfl) (by decide) (by kernel_rfl) (by kernel_rfl) (by kernel_rfl) (fun _ _ _ h => h) (by rfl) ?y15z24 HS ?r15z24
                  case y15z24 => (intro w hS; (try dsimp only at hS); obtain ⟨q0, q1, q2, q3, q4⟩ := hS; go_simp; try with_reducible rfl)
                  simp only [Act.put, List.setIfInBounds_toArray, List.set_cons_zero, List.set_cons_succ]
                  refine roL_take 16 (some 102) (v := ?v16z24) rfl rfl (by kernel_rfl) (by decide) (by kernel_rfl) (by kernel_rfl) (by kernel_rfl) (fun _ _ _ h => h) (by rfl) ?y16z24 HS ?r16z24
                  case y16z24 => (intro w hS; (try dsimp only at hS); obtain ⟨q0, q1, q2, q3, q4⟩ := hS; go_simp; try with_reducible rfl)
                  simp only [Act.put, List.setIfInBounds_toArray, List.set_cons_zero, List.set_cons_succ]
                  refine roL_take 17 (some 103) (v := ?v17z24) rfl rfl (by kernel_rfl) (by decide) (by kernel_rfl) (by kernel_rfl) (by kernel_rfl) (fun _ _ _ h => h) (by rfl) ?y17z24 HS ?r17z24
                  case y17z24 => (intro w hS; (try dsimp only at hS); obtain ⟨q0, q1, q2, q3, q4⟩ := hS; go_simp; try with_reducible rfl)
                  simp only [Act.put, List.setIfInBounds_toArray, List.set_cons_zero, List.set_cons_succ]
                  refine roL_take 18 (some 104) (v := ?v18z24) rfl rfl (by kernel_rfl) (by decide) (by kernel_rfl) (by kernel_rfl) (by kernel_rfl) (fun _ _ _ h => h) (by rfl) ?y18z24 HS ?r18z24
                  case y18z24 => (intro w hS; (try dsimp only at hS); obtain ⟨q0, q1, q2, q3, q4⟩ := hS; go_simp; try with_reducible rfl)
                  simp only [Act.put, List.setIfInBounds_toArray, List.set_cons_zero, List.set_cons_succ]
                  refine roL_take 19 (some 105) (v := ?v19z24) rfl rfl (by kernel_rfl) (by decide) (by kernel_rfl) (by kernel_rfl) (by kernel_rfl) (fun _ _ _ h => h) (by rfl) ?y19z24 HS ?r19z24
                  case y19z24 => (intro w hS; (try dsimp only at hS); obtain ⟨q0, q1, q2, q3, q4⟩ := hS; go_simp; try with_reducible rfl)
                  simp only [Act.put, List.setIfInBounds_toArray, List.set_cons_zero, List.set_cons_succ]
                  refine roL_take 20 (some 106) (v := ?v20z24) rfl rfl (by kernel_rfl) (by decide) (by kernel_rfl) (by kernel_rfl) (by kernel_rfl) (fun _ _ _ h => h) (by rfl) ?y20z24 HS ?r20z24
                  case y20z24 => (intro w hS; (try dsimp only at hS); obtain ⟨q0, q1, q2, q3, q4⟩ := hS; go_simp; try with_reducible rfl)
                  simp only [Act.put, List.setIfInBounds_toArray, List.set_cons_zero, List.set_cons_succ]
                  refine roL_one 21 rfl (by kernel_rfl) fun K hK' => ?_
                  go_simp
                  refine hK' _ _ (fun _ => ⟨cell_alloc HS.1 _, cell_alloc HS.2.1 _, cell_alloc HS.2.2.1 _, cell_alloc HS.2.2.2.1 _, cell_alloc HS.2.2.2.2 _⟩) ?_
                  clear hK' K
                  obtain ⟨i0, hi0, hz0, hz1, hz2⟩ := info_parts dinfo_op
                  have hz7 : wy.heap.size + 2 ≤ wd.heap.size := by have := hR.lt; omega
                  refine roL_one 22 rfl (by kernel_rfl) fun K hK' => ?_
                  rw [if_pos (by rfl)]
                  refine op_append_src _ (some 108) rfl (.tmp 87) (.tmp 107) 79 79 rfl (wy.heap.size + 2) 83 i0 (.agg #[.int .i64 0, .string .empty, .string .empty]) 3 40 Tryz.underlying79 hi0 hz0 hz1 hz2 rfl (by decide) (.slice A3 j c3') j (aocells (x.ops.take j)) rfl (World.ownsRow.alloc hD3 _) _ 1 [.int .i64 o.1, .string o.2.1, .string o.2.2] rfl (Src.ofSlice _ Tryz.underlying79 _ 1 1 _ rfl (cells_new3 _ _ _ _ _) (aocell_one o)) (by simp only [maxLen]; omega) (by omega) (size_alloc hz7) ?_
                  intro v8 W8 hown8 hg8
                  have hX8 := hX.grown (v := (.slice A3 j c3')) hg8 hD3 (by omega)
                  have hR8 := hR.grown (v := (.slice A3 j c3')) hg8 hD3 (by omega)
                  have hbz8 := below_of_own (v := (.slice A3 j c3')) (hbz.alloc hbz.size (.cells #[.int .i64 o.1, .string o.2.1, .string o.2.2] 83)) hg8 (World.ownsRow.alloc hD3 _) (size_alloc hbz.size) (Nat.le_add_right _ 2)
                  have HSs := hkx.up hbz8
                  obtain ⟨go8, oo8, e8, t0, t1, t2, _, _, _⟩ := HSs.op hoj
                  rw [hAo] at e8
                  cases e8
                  have HS8 : W8.cell? ⟨wy.heap.size, 5, none⟩ = some (.slice (some ⟨go, oo, none⟩) x.ops.length x.co) ∧ W8.cell? ⟨wy.heap.size + 1, 5, none⟩ = some (.slice A3 j c3') ∧ W8.cell? ⟨go, oo + j * 3, none⟩ = some (.int .i64 o.1) ∧ W8.cell? ⟨go, oo + j * 3 + 1, none⟩ = some (.string o.2.1) ∧ W8.cell? ⟨go, oo + j * 3 + 2, none⟩ = some (.string o.2.2) := ⟨hX8.cell 5, hR8.cell 5, t0, t1, t2⟩
                  have hS8 := own_grown (World.ownsRow.alloc hDS (.cells #[.int .i64 o.1, .string o.2.1, .string o.2.2] 83)) (World.ownsRow.alloc hD3 _) (by decide) hg8
                  clear HSs t0 t1 t2
                  refine hK' _ _ (fun _ => HS8) ?_
                  clear hK' K HS hg8 hD3 hbz hX hR
                  simp only [Act.put, List.setIfInBounds_toArray, List.set_cons_zero, List.set_cons_succ]
                  refine roL_take 23 (some 109) (v := ?v23z24) rfl rfl (by kernel_rfl) (by decide) (by kernel_rfl) (by kernel_rfl) (by kernel_rfl) (fun _ _ _ h => h) (by rfl) ?y23z24 HS8 ?r23z24
                  case y23z24 => (intro w hS; (try dsimp only at hS); obtain ⟨q0, q1, q2, q3, q4⟩ := hS; go_simp; try with_reducible rfl)
                  simp only [Act.put, List.setIfInBounds_toArray, List.set_cons_zero, List.set_cons_succ]
                  refine roL_one 24 rfl (by kernel_rfl) fun K hK' => ?_
                  obtain ⟨A8, c8, rfl, _⟩ := Rd.own hown8
                  have fz8 := hR8.fz 5
                  have q8 := hR8.cell 5
                  go_simp
                  refine hK' _ _ (fun h => absurd rfl h) ?_
                  clear hK' K
                  refine roL_done (by kernel_rfl) ?_ _
                  have hX9 := hX8.other (a := ⟨wy.heap.size + 1, 5, none⟩) (by dsimp only; omega) (.slice A8 (j + 1) c8)
                  have hR9 : Bk _ (wy.heap.size + 1) #[.string x.name, .string x.view, .string x.edit, .string x.check, v3, (.slice A8 (j + 1) c8)] 81 := hR8.set 5 (.slice A8 (j + 1) c8)
                  have hbz9 : Below wy.heap.size wy (W8.setCell ⟨wy.heap.size + 1, 5, none⟩ (.slice A8 (j + 1) c8)) := Below.setCell hbz8 (by dsimp only; omega) _
                  have hD9 := own_set (a := ⟨wy.heap.size + 1, 5, none⟩) hown8 (by dsimp only; omega) (.slice A8 (j + 1) c8)
                  have hS9 := own_set (a := ⟨wy.heap.size + 1, 5, none⟩) hS8 (by dsimp only; omega) (.slice A8 (j + 1) c8)
                  clear hS8
                  clear hX8 hR8 hbz8 hown8 fz8 q8 HS8
                  generalize W8.setCell ⟨wy.heap.size + 1, 5, none⟩ (.slice A8 (j + 1) c8) = W9 at *
                  go_wp2_with fail
                  refine ⟨⟨j + 1, _, by go_num, by omega, hbz9, hX9, hR9, hS9, ?_⟩, ?_⟩
                  · rw [take_snoc hoj]
                    unfold DVOps
                    rw [List.length_append, aocells_app, hn3]
                    exact hD9
                  · simp [intOf]; omega
                · have hdj : ¬ ((j : Int) < (x.ops.length : Nat)) := by omega
                  obtain rfl : j = x.ops.length := by omega
                  rw [List.take_length] at hD3
                  obtain ⟨A4, c4', rfl, _⟩ := Rd.own hDS
                  obtain ⟨A5, c5', rfl, _⟩ := Rd.own hD3
                  obtain ⟨xs, hv1, hv2⟩ : DVRels (wx.heap.size + 1) _ v2 (RS.take k) := DVRels.keep (dkeeps3_below hbz) hD
                  have hn : (RS.take k).length = k := by rw [List.length_take]; omega
                  rw [hn] at hv1
                  obtain ⟨A6, c6', rfl, _⟩ := Rd.own hv1
                  have hbtz := hbt.below hbz
                  have t1 := hbtz.c2.2
                  have hyz := hbz.size
                  have hxy := hby.size
                  have hby2 := hby.trans (hbz.mono hxy)
                  have hDS' : DVSubs (wx.heap.size + 1) _ _ _ := own_base hDS (by omega)
                  have hDO' : DVOps (wx.heap.size + 1) _ _ _ := own_base hD3 (by omega)
                  have p0 : World.cell? _ ⟨wy.heap.size + 1, 0, none⟩ = some (.string x.name) := hR.cell 0
                  have p1 : World.cell? _ ⟨wy.heap.size + 1, 1, none⟩ = some (.string x.view) := hR.cell 1
                  have p2 : World.cell? _ ⟨wy.heap.size + 1, 2, none⟩ = some (.string x.edit) := hR.cell 2
                  have p3 : World.cell? _ ⟨wy.heap.size + 1, 3, none⟩ = some (.string x.check) := hR.cell 3
                  have p4 : World.cell? _ ⟨wy.heap.size + 1, 4, none⟩ = some (.slice A4 x.subs.length c4') := hR.cell 4
                  have p5 : World.cell? _ ⟨wy.heap.size + 1, 5, none⟩ = some (.slice A5 x.ops.length c5') := hR.cell 5
                  obtain ⟨i0, hi0, hz0, hz1, hz2⟩ := info_parts dinfo_rel
                  have hsz := hbtz.lt
                  clear hDS hD3 hD hX hkx
                  go_wp2_with (at_builtin; refine wpList_append_src _ rfl (.tmp 111) (.tmp 113) 75 75 rfl (wx.heap.size + 1) 81 i0 (.agg #[.string .empty, .string .empty, .string .empty, .string .empty, .slice none 0 0, .slice none 0 0]) 6 112 Tryz.underlying75 hi0 hz0 hz1 hz2 rfl (by decide) _ k xs rfl (World.ownsRow.alloc hv1 _) _ 1 [.string x.name, .string x.view, .string x.edit, .string x.check, .slice A4 x.subs.length c4', .slice A5 x.ops.length c5'] rfl (Src.ofSlice _ Tryz.underlying75 _ 1 1 _ rfl (cells_new6 _ _ _ _ _ _ _ _) (rcell_one _ _ _ _ _ _ _ _ _ _)) (by simp only [maxLen]; omega) (by omega) (size_alloc hsz) ?_; intro v1 w5 hown1 hg1 hat1; obtain ⟨A1, c1, rfl, _⟩ := Rd.own hown1; have hbt8 := hbtz.grown (v := .slice A6 k c6') hg1 hv1 (by omega); have u1 := hbt8.c2.2; have f1 := hbt8.fz 1)
                  have hby8 : Below wx.heap.size wx w5 := below_of_own (v := .slice A6 k c6') (hby2.alloc hby2.size (.cells #[.string x.name, .string x.view, .string x.edit, .string x.check, .slice A4 x.subs.length c4', .slice A5 x.ops.length c5'] 81)) hg1 (World.ownsRow.alloc hv1 _) (size_alloc hby2.size) (Nat.le_succ _)
                  have hkp := dkeeps_grown (B := wx.heap.size + 1) (u := .slice A6 k c6') hv1 (by decide) (by decide) hg1
                  have hnew : DRelC w5 (wx.heap.size + 1) [.string x.name, .string x.view, .string x.edit, .string x.check, .slice A4 x.subs.length c4', .slice A5 x.ops.length c5'] x.says := ⟨_, _, rfl, hkp.1 _ _ _ hDS', hkp.2 _ _ _ hDO'⟩
                  have hv28 := DRelsC.snoc hnew (hv2.keep hkp)
                  have hv29 := hv28.keep (dkeeps_set (a := ⟨wx.heap.size, 1, none⟩) (by dsimp only; omega) (.slice A1 (k + 1) c1))
                  have hv19 := own_set (a := ⟨wx.heap.size, 1, none⟩) hown1 (by dsimp only; omega) (.slice A1 (k + 1) c1)
                  have hbt9 : Bk (w5.setCell ⟨wx.heap.size, 1, none⟩ (.slice A1 (k + 1) c1)) wx.heap.size #[.string t.name, .slice A1 (k + 1) c1] 77 := hbt8.set 1 (.slice A1 (k + 1) c1)
                  have hby9 : Below wx.heap.size wx (w5.setCell ⟨wx.heap.size, 1, none⟩ (.slice A1 (k + 1) c1)) := Below.setCell hby8 (Nat.le_refl _) _
                  have hrow : DVRels (wx.heap.size + 1) (w5.setCell ⟨wx.heap.size, 1, none⟩ (.slice A1 (k + 1) c1)) (.slice A1 (k + 1) c1) (RS.take (k + 1)) := by
                    rw [take_snoc hRx.out]
                    refine ⟨_, ?_, hv29⟩
                    rw [List.length_append, hn]
                    exact hv19
                  refine ⟨⟨k + 1, _, by go_num, by omega, hby9, hbt9, hrow⟩, ?_⟩
                  simp [intOf]; omega
        · have hdk : ¬ ((k : Int) < (t.rels.length : Nat)) := by omega
          obtain rfl : k = t.rels.length := by omega
          rw [← hRl, List.take_length] at hD
          obtain ⟨xs, hv1, hv2⟩ := hO.below hby
          have hn : (T.take i).length = i := by rw [List.length_take]; omega
          rw [hn] at hv1
          obtain ⟨A6, c6', rfl, _⟩ := Rd.own hv1
          obtain ⟨_, hD1, _⟩ := id hD
          rw [hRl] at hD1
          obtain ⟨A5, c5', rfl, _⟩ := Rd.own hD1
          clear hD1
          have t0 := hbt.c2.1
          have t1 := hbt.c2.2
          have hxy := hby.size
          have hx0 := hbx.size
          have hbx2 := hbx.trans (hby.mono hx0)
          have hD2 : DVRels w0.heap.size _ _ _ := DVRels.base (by omega) hD
          obtain ⟨i0, hi0, hz0, hz1, hz2⟩ := info_parts dinfo_typ
          clear hO
          go_wp2_with (at_builtin; refine wpList_append_src _ rfl (.tmp 116) (.tmp 118) 36 36 rfl w0.heap.size 77 i0 (.agg #[.string .empty, .slice none 0 0]) 2 40 Tryz.underlying36 hi0 hz0 hz1 hz2 rfl (by decide) _ i xs rfl (World.ownsRow.alloc hv1 _) _ 1 [.string t.name, .slice A5 t.rels.length c5'] rfl (Src.ofSlice _ Tryz.underlying36 _ 1 1 _ rfl (cells_new2 _ _ _ _) (dtcell_one _ _ _ _)) (by simp only [maxLen]; omega) (by omega) (size_alloc hbx2.size) ?_; intro v1 w5 hown1 hg1 hat1; obtain ⟨A1, c1, rfl, _⟩ := Rd.own hown1)
          have hbx8 : Below w0.heap.size w0 w5 := below_of_own (v := .slice A6 i c6') (hbx2.alloc hbx2.size (.cells #[.string t.name, .slice A5 t.rels.length c5'] 77)) hg1 (World.ownsRow.alloc hv1 _) (size_alloc hbx2.size) (Nat.le_refl _)
          have hkp := dkeeps3_grown (B := w0.heap.size) (u := .slice A6 i c6') hv1 (by decide) (by decide) (by decide) hg1
          have hnew : DTypC w5 w0.heap.size [.string t.name, .slice A5 t.rels.length c5'] ⟨t.name, RS⟩ := ⟨_, rfl, DVRels.keep hkp hD2⟩
          have hv28 := DTypsC.snoc hnew (hv2.keep hkp)
          have hrow : DVTyps w0.heap.size w5 (.slice A1 (i + 1) c1) (T.take (i + 1)) := by
            rw [take_snoc hTt.out]
            refine ⟨_, ?_, hv28⟩
            rw [List.length_append, hn]
            exact hown1
          refine ⟨⟨i + 1, by go_num, by omega, hrow, hbx8⟩, ?_⟩
          simp [intOf]; omega
    · have hdi : ¬ ((i : Int) < (l.length : Nat)) := by omega
      obtain rfl : i = l.length := by omega
      rw [← hTl, List.take_length] at hO
      obtain ⟨xs, hv1, hv2⟩ := hO
      rw [hTl] at hv1
      obtain ⟨A6, c6', rfl, _⟩ := Rd.own hv1
      go_wp2
      go_ret
      exact ⟨⟨_, rfl, _, by rw [hTl]; exact own_base hv1 (Nat.le_of_lt hlt0), hv2.base (Nat.le_of_lt hlt0)⟩, hBx⟩

/-- What bounds a relation's names and lists. -/
structure SmJ (R : Nat) (x : RelI) : Prop where
  name : x.name.size ≤ R
  view : x.view.size ≤ R
  edit : x.edit.size ≤ R
  check : x.check.size ≤ R
  subn : x.subs.length * 32 ≤ R
  subs : ∀ s ∈ x.subs, s.1.size ≤ R ∧ s.2.size ≤ R
  opn : x.ops.length * 40 ≤ R
  ops : ∀ o ∈ x.ops, (Lit.int .i64 o.1).wf = true ∧ o.2.1.size ≤ R ∧ o.2.2.size ≤ R
theorem RelA.ok.smj {w : World} {R : Nat} {a : RelA} (h : a.ok w R) : SmJ R a.says := ⟨h.name, h.view, h.edit, h.check, h.subn, h.subz, h.opn, h.opz⟩
theorem drels_conv {w : World} {B R : Nat} : ∀ (l : List RelI) (xs : List Value), DRelsC w B l xs → (∀ x ∈ l, SmJ R x) → ∃ k : List RelA, xs = k.flatMap RelA.cells ∧ k.map RelA.says = l ∧ ∀ a ∈ k, a.ok w R
  | [], xs, h, _ => by
    have e : xs = [] := h
    exact ⟨[], e, rfl, fun a ha => by cases ha⟩
  | x :: l, xs, h, hz => by
    obtain ⟨ys, zs, rfl, ⟨vs, vo, rfl, hs, ho⟩, hr⟩ := h
    obtain ⟨k, rfl, hk, hok⟩ := drels_conv l zs hr fun y hy => hz y (List.mem_cons_of_mem _ hy)
    obtain ⟨As, cs, rfl, rs⟩ := Rd.own hs
    obtain ⟨Ao, co, rfl, ro⟩ := Rd.own ho
    have z := hz x List.mem_cons_self
    refine ⟨⟨x.name, x.view, x.edit, x.check, As, cs, x.subs, Ao, co, x.ops⟩ :: k, ?_, ?_, fun a ha => ?_⟩
    · rw [List.flatMap_cons]
      rfl
    · rw [List.map_cons, hk]
      rfl
    · rcases List.mem_cons.1 ha with rfl | ha
      · exact ⟨z.name, z.view, z.edit, z.check, rs, z.subn, z.subs, ro, z.opn, z.ops⟩
      · exact hok a ha
theorem dtypes_conv {w : World} {B R : Nat} : ∀ (l : List TypI) (xs : List Value), DTypsC w B l xs → (∀ t ∈ l, t.name.size ≤ R ∧ t.rels.length * 112 ≤ R ∧ ∀ x ∈ t.rels, SmJ R x) → ∃ k : List TypA, xs = k.flatMap TypA.cells ∧ k.map TypA.says = l ∧ ∀ a ∈ k, a.ok w R
  | [], xs, h, _ => by
    have e : xs = [] := h
    exact ⟨[], e, rfl, fun a ha => by cases ha⟩
  | t :: l, xs, h, hz => by
    obtain ⟨ys, zs, rfl, ⟨vr, rfl, ws, hrow, hrc⟩, hr⟩ := h
    obtain ⟨k, rfl, hk, hok⟩ := dtypes_conv l zs hr fun y hy => hz y (List.mem_cons_of_mem _ hy)
    have z := hz t List.mem_cons_self
    obtain ⟨m, rfl, hm, hmo⟩ := drels_conv t.rels ws hrc z.2.2
    obtain ⟨A, c, rfl, rr⟩ := Rd.own hrow
    have hl : m.length = t.rels.length := by have := congrArg List.length hm; rwa [List.length_map] at this
    refine ⟨⟨t.name, A, c, m⟩ :: k, ?_, ?_, fun a ha => ?_⟩
    · rw [List.flatMap_cons]
      show _ = [Value.string t.name, .slice A m.length c] ++ _
      rw [hl]
    · rw [List.map_cons, hk]
      show TypI.mk t.name (m.map RelA.says) :: _ = _
      rw [hm]
    · rcases List.mem_cons.1 ha with rfl | ha
      · exact ⟨z.1, by show Rd w w.heap.size 6 A m.length c _; rw [hl]; exact rr, by show m.length * 112 ≤ R; rw [hl]; exact z.2.1, hmo⟩
      · exact hok a ha
/-- What was made of a schema, read as one: it says the same. -/
theorem DVTyps.sch {w w0 : World} {B R : Nat} {A0 : Option Addr} {c0 : Nat} {l0 : List TypA} {v : Value} (h : DVTyps B w v (l0.map TypA.says)) (h0 : SchA w0 R A0 c0 l0) : ∃ (A : Option Addr) (c : Nat) (l : List TypA), v = .slice A l.length c ∧ l.map TypA.says = l0.map TypA.says ∧ SchA w R A c l := by
  obtain ⟨xs, h1, h2⟩ := h
  obtain ⟨l, rfl, hs, ho⟩ := dtypes_conv (R := R) _ xs h2 (fun t ht => by
    obtain ⟨a, ha, rfl⟩ := List.mem_map.1 ht
    have z := h0.each a ha
    refine ⟨z.name, ?_, fun x hx => ?_⟩
    · show (a.rels.map RelA.says).length * 112 ≤ R
      rw [List.length_map]
      exact z.reln
    · obtain ⟨b, hb, rfl⟩ := List.mem_map.1 (show x ∈ a.rels.map RelA.says from hx)
      exact (z.relz b hb).smj)
  obtain ⟨A, c, rfl, rd⟩ := Rd.own h1
  have hl : l.length = l0.length := by have := congrArg List.length hs; rwa [List.length_map, List.length_map] at this
  rw [List.length_map, ← hl] at rd
  refine ⟨A, c, l, by rw [List.length_map, hl], hs, rd, ?_, ho⟩
  rw [hl]
  exact h0.few

theorem says_atT {la lb : List TypA} (e : la.map TypA.says = lb.map TypA.says) {i : Nat} {a : TypA} (h : la[i]? = some a) : ∃ b, lb[i]? = some b ∧ b.name = a.name ∧ b.rels.length = a.rels.length ∧ a.rels.map RelA.says = b.rels.map RelA.says := by
  have k : (la.map TypA.says)[i]? = (lb.map TypA.says)[i]? := by rw [e]
  rw [List.getElem?_map, List.getElem?_map, h] at k
  cases hb : lb[i]? with
  | none => rw [hb] at k; cases k
  | some b =>
    rw [hb] at k
    have k2 : TypI.mk a.name (a.rels.map RelA.says) = TypI.mk b.name (b.rels.map RelA.says) := Option.some.inj k
    injection k2 with e1 e2
    refine ⟨b, rfl, e1.symm, ?_, e2⟩
    have := congrArg List.length e2
    rw [List.length_map, List.length_map] at this
    exact this.symm
theorem says_atR {la lb : List RelA} (e : la.map RelA.says = lb.map RelA.says) {i : Nat} {a : RelA} (h : la[i]? = some a) : ∃ b, lb[i]? = some b ∧ b.name = a.name ∧ b.view = a.view ∧ b.edit = a.edit ∧ b.check = a.check ∧ b.subs = a.subs ∧ b.ops = a.ops := by
  have k : (la.map RelA.says)[i]? = (lb.map RelA.says)[i]? := by rw [e]
  rw [List.getElem?_map, List.getElem?_map, h] at k
  cases hb : lb[i]? with
  | none => rw [hb] at k; cases k
  | some b =>
    rw [hb] at k
    have k2 : RelI.mk a.name a.view a.edit a.check a.subs a.ops = RelI.mk b.name b.view b.edit b.check b.subs b.ops := Option.some.inj k
    injection k2 with e1 e2 e3 e4 e5 e6
    exact ⟨b, rfl, e1.symm, e2.symm, e3.symm, e4.symm, e5.symm, e6.symm⟩
/-- A slice of operations. -/
structure OpsA (w : World) (A : Option Addr) (c : Nat) (l : List OpI) : Prop where
  rows : Rd w w.heap.size 3 A l.length c (l.flatMap aOp)
theorem OpsA.up {w w' : World} {A : Option Addr} {c : Nat} {l : List OpI} (h : OpsA w A c l) (hb : Below w.heap.size w w') : OpsA w' A c l := ⟨h.rows.up hb⟩
theorem OpsA.get {w : World} {A : Option Addr} {c : Nat} {l : List OpI} (h : OpsA w A c l) {i : Nat} {o : OpI} (hi : l[i]? = some o) :
    ∃ b k, A = some ⟨b, k, none⟩ ∧ w.cell? ⟨b, k + i * 3, none⟩ = some (.int .i64 o.1) ∧ w.cell? ⟨b, k + i * 3 + 1, none⟩ = some (.string o.2.1) ∧ w.cell? ⟨b, k + i * 3 + 2, none⟩ = some (.string o.2.2) := by
  obtain ⟨b, k, e, _, hc⟩ := h.rows.at_ (lt_get hi)
  have g := fun j (hj : j < 3) => flat_get aOp (sz := 3) (fun _ => rfl) hi (k := j) hj
  exact ⟨b, k, e, hc _ _ (g 0 (by omega)), hc _ _ (g 1 (by omega)), hc _ _ (g 2 (by omega))⟩

end Go.Proofs.YtinfbimfiaegdaaGreat
