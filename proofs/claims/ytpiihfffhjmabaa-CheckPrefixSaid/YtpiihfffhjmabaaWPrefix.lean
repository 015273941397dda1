/- CheckPrefix walked. Conditions: none. -/
import Derived.BigQuiet
import Derived.Deep.QuietTactic
import Derived.Deep.Cut
import Derived.Deep.DeepCutAuto
import Derived.Test.YtpiihfffhjmabaaAwake9
import Derived.Test.YtpiihfffhjmabaaFew9
import Derived.Test.YtpiihfffhjmabaaChkL
namespace Go.Proofs.Ytpiihfffhjmabaa
open Go.RowKit

set_option maxRecDepth 100000 in
set_option maxHeartbeats 2000000 in
theorem checkPrefix_walk (A : Option Addr) (c : Nat) (l : List TypA) (w : World) (h : SchA w 140737488351232 A c l) :
    Calls Try.prog 4 #[.agg #[.slice A l.length c]] w fun e w' => e = .returned (.bool true) ∧ Below w.heap.size w w' := by
  have hll : (l.length : Int) ≤ 9223372036854775807 := by have := h.rows.cap; have := h.rows.capm; simp only [maxLen] at this; omega
  have hb := bnew w (.cells #[.slice A l.length c] 24)
  have d0 := Bk.new w #[.slice A l.length c] 24
  replace h := h.up hb
  go_enter Try.func4, Try.ntmps4
  go_upto_region 1 with (fail)
  generalize w.alloc (.cells #[.slice A l.length c] 24) = w1 at *
  go_wp2_with fail
  refine (awake9_any w1).mono ?_
  rintro e w2 ⟨rfl, hb1⟩
  replace hb := bthen hb hb.size hb1
  replace h := h.up hb1
  replace d0 := d0.below hb1
  clear hb1
  have x0 := d0.c1
  have xl := d0.lt
  go_wp2_with fail
  refine (few9_any h).mono ?_
  rintro e w3 ⟨⟨bf, rfl⟩, hb1⟩
  replace hb := bthen hb hb.size hb1
  replace h := h.up hb1
  replace d0 := d0.below hb1
  clear hb1 x0 xl
  have x0 := d0.c1
  have xl := d0.lt
  go_wp2_with fail
  refine (check_any h (Nat.le_refl _)).mono ?_
  rintro e w4 ⟨rfl, hb1⟩
  replace hb := bthen hb hb.size hb1
  replace h := h.up hb1
  replace d0 := d0.below hb1
  clear hb1 x0 xl
  cases bf with
  | false =>
    go_wp2
    go_ret
    exact ⟨rfl, hb⟩
  | true =>
    by_cases hE : (checkE (l.map TypA.says)).1 = 0
    · have hRt := Lib.hid ((checkE_ok (l.map TypA.says)).1.1 hE)
      have h8 : ¬ (8 : Int) < (l.length : Nat) := by
        have := hRt.out.few
        rw [List.length_map] at this
        omega
      generalize checkE (l.map TypA.says) = E at *
      obtain ⟨E1, E2⟩ := E
      obtain rfl : E1 = 0 := hE
      simp only [show ((0 : Nat) : Int) = 0 from rfl]
      have x0 := d0.c1
      have xl := d0.lt
      go_wp2_with fail
      clear x0 xl
      generalize w4 = w5 at *
      go_loopw [7] (fun vi wx => ∃ i : Nat, vi = .int .i64 i ∧ i ≤ l.length ∧ Below w5.heap.size w5 wx) (fun vi _ => l.length - (intOf vi).toNat)
      case atStart => exact ⟨0, rfl, Nat.zero_le _, Below.refl _ _⟩
      case round =>
        obtain ⟨i, rfl, hi, hbx⟩ := hrel
        have e0 := d0.below hbx
        have x0 := e0.c1
        have xl := e0.lt
        by_cases hil : i < l.length
        · have hdi : (i : Int) < (l.length : Nat) := by omega
          obtain ⟨t, ht⟩ : ∃ t, l[i]? = some t := ⟨l[i], List.getElem?_eq_getElem hil⟩
          obtain ⟨g, o, rfl, g0, g1, hk⟩ := (h.up hbx).get ht
          have lg := World.block_lt_of_cell? _ _ g0
          dsimp only at lg
          have hlr : (t.rels.length : Int) ≤ 9223372036854775807 := by have := hk.rels.cap; have := hk.rels.capm; simp only [maxLen] at this; omega
          obtain ⟨tA, htA⟩ : ∃ tA, t.A = tA := ⟨_, rfl⟩
          rw [htA] at g1
          go_upto_region 14 with (fail)
          have hbs := bnew wr (.cells #[.string t.name, .slice tA t.rels.length t.c] 46)
          have dT := Bk.new wr #[.string t.name, .slice tA t.rels.length t.c] 46
          have hbx2 := bthen hbx hbx.size hbs
          have hk2 := hk.up hbs
          replace e0 := e0.below hbs
          clear hbs hk x0 xl g0 g1 lg hbx
          generalize wr.alloc (.cells #[.string t.name, .slice tA t.rels.length t.c] 46) = w6 at *
          generalize wr.heap.size = B8 at *
          have h6 := h.up hbx2
          go_wp2_with fail
          go_loopw [9] (fun vi wx => ∃ k : Nat, vi = .int .i64 k ∧ k ≤ t.rels.length ∧ Below w6.heap.size w6 wx) (fun vi _ => t.rels.length - (intOf vi).toNat)
          case atStart => exact ⟨0, rfl, Nat.zero_le _, Below.refl _ _⟩
          case round =>
            obtain ⟨k, rfl, hkl, hby⟩ := hrel
            have t1 := (dT.below hby).c2.2
            have tl := (dT.below hby).lt
            by_cases hkk : k < t.rels.length
            · have hdk : (k : Int) < (t.rels.length : Nat) := by omega
              obtain ⟨r, hr⟩ : ∃ r, t.rels[k]? = some r := ⟨t.rels[k], List.getElem?_eq_getElem hkk⟩
              obtain ⟨gr, o', eA, r0, r1, r2, r3, r4, r5, hkr⟩ := (hk2.up hby).get hr
              have lgr := World.block_lt_of_cell? _ _ r0
              dsimp only at lgr
              rw [htA] at eA
              subst eA
              obtain ⟨p0, p1, p2, hP3, p4, p5, p6, p7⟩ := hRt.out.told (List.mem_map_of_mem (List.mem_of_getElem? ht)) (List.mem_map_of_mem (List.mem_of_getElem? hr))
              have hP0 := Lib.hid p0
              have hP1 := Lib.hid p1
              have hP2 := Lib.hid p2
              replace hP3 := Lib.hid hP3
              have hP6 := Lib.hid p6
              have hP7 := Lib.hid p7
              clear p0 p1 p2 p6 p7
              unfold hasI at hP0 hP1 hP2 hP6 hP7
              change Hid ((findI _ t.name r.view).isSome = true) at hP0
              change Hid ((findI _ t.name r.edit).isSome = true) at hP1
              change Hid ((findI _ t.name r.check).isSome = true) at hP2
              change Hid (findI _ t.name r.name = some r.says) at hP3
              change Hid (∀ s ∈ r.subs, s.2 ≠ ⟨#[]⟩ → (findI (l.map TypA.says) s.1 s.2).isSome = true) at hP6
              change Hid (∀ o ∈ r.ops, (o.1 = 2 ∨ o.1 = 3) → (findI (l.map TypA.says) t.name o.2.1).isSome = true) at hP7
              have q16 : ¬ (16 : Int) < (r.ops.length : Nat) := by have : r.ops.length ≤ 16 := p4; omega
              have q12 : ¬ (12 : Int) < (t.rels.length : Nat) := by have : (t.rels.map RelA.says).length ≤ 12 := p5; rw [List.length_map] at this; omega
              clear p4 p5
              obtain ⟨As, hAs⟩ : ∃ As, r.As = As := ⟨_, rfl⟩
              obtain ⟨Ao, hAo⟩ : ∃ Ao, r.Ao = Ao := ⟨_, rfl⟩
              rw [hAs] at r4
              rw [hAo] at r5
              have hls : (r.subs.length : Int) ≤ 9223372036854775807 := by have := hkr.subs.cap; have := hkr.subs.capm; simp only [maxLen] at this; omega
              have hlo : (r.ops.length : Int) ≤ 9223372036854775807 := by have := hkr.ops.cap; have := hkr.ops.capm; simp only [maxLen] at this; omega
              go_upto_region 18 with (fail)
              have hbs := bnew wr (.cells #[.string r.name, .string r.view, .string r.edit, .string r.check, .slice As r.subs.length r.cs, .slice Ao r.ops.length r.co] 36)
              have dR := Bk.new wr #[.string r.name, .string r.view, .string r.edit, .string r.check, .slice As r.subs.length r.cs, .slice Ao r.ops.length r.co] 36
              have hbq := bthen hby hby.size hbs
              have hkq := hkr.up hbs
              clear hbs hkr hby t1 tl r0 r1 r2 r3 r4 r5 lgr
              generalize wr.alloc (.cells #[.string r.name, .string r.view, .string r.edit, .string r.check, .slice As r.subs.length r.cs, .slice Ao r.ops.length r.co] 36) = w7 at *
              generalize wr.heap.size = B10 at *
              have hsq := h6.up hbq
              replace e0 := e0.below hbq
              replace dT := dT.below hbq
              have hb7 := Below.refl w7.heap.size w7
              have x0 := e0.c1
              have xl := e0.lt
              obtain ⟨t0, t1⟩ := dT.c2
              have tl := dT.lt
              obtain ⟨y0, y1, y2, y3, y4, y5⟩ := dR.c6
              have yl := dR.lt
              go_wp2_with fail
              refine (find_any hsq (Nat.le_refl _) t.name r.view).mono ?_
              rintro e v0 ⟨⟨rf0, rfl, hr0, hsy⟩, hb1⟩
              rw [hP0.out]
              clear x0 xl t0 t1 tl y0 y1 y2 y3 y4 y5 yl
              clear hsy hr0
              go_upto_region 19 with (fail)
              have hbn := bthen hb1 hb1.size (bnew v0 (.cells #[.string rf0.name, .string rf0.view, .string rf0.edit, .string rf0.check, .slice rf0.As rf0.subs.length rf0.cs, .slice rf0.Ao rf0.ops.length rf0.co] 36))
              replace hbq := bthen hbq hbq.size hbn
              have hbk := hbn
              replace hsq := hsq.up hbn
              replace e0 := e0.below hbn
              replace dT := dT.below hbn
              replace dR := dR.below hbn
              clear hbn hb1
              generalize v0.alloc (.cells #[.string rf0.name, .string rf0.view, .string rf0.edit, .string rf0.check, .slice rf0.As rf0.subs.length rf0.cs, .slice rf0.Ao rf0.ops.length rf0.co] 36) = u0w at *
              have x0 := e0.c1
              have xl := e0.lt
              obtain ⟨t0, t1⟩ := dT.c2
              have tl := dT.lt
              obtain ⟨y0, y1, y2, y3, y4, y5⟩ := dR.c6
              have yl := dR.lt
              go_wp2_with fail
              refine (find_any hsq (Nat.le_refl _) t.name r.edit).mono ?_
              rintro e v1 ⟨⟨rf1, rfl, hr1, hsy⟩, hb1⟩
              rw [hP1.out]
              clear x0 xl t0 t1 tl y0 y1 y2 y3 y4 y5 yl
              clear hsy hr1
              go_upto_region 20 with (fail)
              have hbn := bthen hb1 hb1.size (bnew v1 (.cells #[.string rf1.name, .string rf1.view, .string rf1.edit, .string rf1.check, .slice rf1.As rf1.subs.length rf1.cs, .slice rf1.Ao rf1.ops.length rf1.co] 36))
              replace hbq := bthen hbq hbq.size hbn
              replace hbk := bthen hbk hbk.size hbn
              replace hsq := hsq.up hbn
              replace e0 := e0.below hbn
              replace dT := dT.below hbn
              replace dR := dR.below hbn
              clear hbn hb1
              generalize v1.alloc (.cells #[.string rf1.name, .string rf1.view, .string rf1.edit, .string rf1.check, .slice rf1.As rf1.subs.length rf1.cs, .slice rf1.Ao rf1.ops.length rf1.co] 36) = u1w at *
              have x0 := e0.c1
              have xl := e0.lt
              obtain ⟨t0, t1⟩ := dT.c2
              have tl := dT.lt
              obtain ⟨y0, y1, y2, y3, y4, y5⟩ := dR.c6
              have yl := dR.lt
              go_wp2_with fail
              refine (find_any hsq (Nat.le_refl _) t.name r.check).mono ?_
              rintro e v2 ⟨⟨rf2, rfl, hr2, hsy⟩, hb1⟩
              rw [hP2.out]
              clear x0 xl t0 t1 tl y0 y1 y2 y3 y4 y5 yl
              clear hsy hr2
              go_upto_region 21 with (fail)
              have hbn := bthen hb1 hb1.size (bnew v2 (.cells #[.string rf2.name, .string rf2.view, .string rf2.edit, .string rf2.check, .slice rf2.As rf2.subs.length rf2.cs, .slice rf2.Ao rf2.ops.length rf2.co] 36))
              replace hbq := bthen hbq hbq.size hbn
              replace hbk := bthen hbk hbk.size hbn
              replace hsq := hsq.up hbn
              replace e0 := e0.below hbn
              replace dT := dT.below hbn
              replace dR := dR.below hbn
              clear hbn hb1
              generalize v2.alloc (.cells #[.string rf2.name, .string rf2.view, .string rf2.edit, .string rf2.check, .slice rf2.As rf2.subs.length rf2.cs, .slice rf2.Ao rf2.ops.length rf2.co] 36) = u2w at *
              have x0 := e0.c1
              have xl := e0.lt
              obtain ⟨t0, t1⟩ := dT.c2
              have tl := dT.lt
              obtain ⟨y0, y1, y2, y3, y4, y5⟩ := dR.c6
              have yl := dR.lt
              go_wp2_with fail
              refine (find_any hsq (Nat.le_refl _) t.name r.name).mono ?_
              rintro e v3 ⟨⟨rf3, rfl, hr3, hsy⟩, hb1⟩
              rw [hP3.out] at hsy ⊢
              clear x0 xl t0 t1 tl y0 y1 y2 y3 y4 y5 yl
              clear hr3
              go_upto_region 22 with (fail)
              have hbn := bthen hb1 hb1.size (bnew v3 (.cells #[.string rf3.name, .string rf3.view, .string rf3.edit, .string rf3.check, .slice rf3.As rf3.subs.length rf3.cs, .slice rf3.Ao rf3.ops.length rf3.co] 36))
              replace hbq := bthen hbq hbq.size hbn
              replace hbk := bthen hbk hbk.size hbn
              replace hsq := hsq.up hbn
              replace e0 := e0.below hbn
              replace dT := dT.below hbn
              replace dR := dR.below hbn
              have dX := Bk.new v3 #[.string rf3.name, .string rf3.view, .string rf3.edit, .string rf3.check, .slice rf3.As rf3.subs.length rf3.cs, .slice rf3.Ao rf3.ops.length rf3.co] 36
              clear hbn hb1
              generalize v3.alloc (.cells #[.string rf3.name, .string rf3.view, .string rf3.edit, .string rf3.check, .slice rf3.As rf3.subs.length rf3.cs, .slice rf3.Ao rf3.ops.length rf3.co] 36) = u3w at *
              generalize v3.heap.size = B17 at *
              have x0 := e0.c1
              have xl := e0.lt
              obtain ⟨t0, t1⟩ := dT.c2
              have tl := dT.lt
              obtain ⟨y0, y1, y2, y3, y4, y5⟩ := dR.c6
              have yl := dR.lt
              have e4 : rf3.ops = r.ops := congrArg RelI.ops hsy
              clear hsy
              rw [e4] at dX
              obtain ⟨z0, z1, z2, z3, z4, z5⟩ := dX.c6
              have zl := dX.lt
              go_wp2_with fail
              clear z0 z1 z2 z3 z4 z5 zl t0 t1 tl y0 y1 y2 y3 y4 y5 yl x0 xl
              clear dX e4 hP0 hP1 hP2 hP3
              generalize u3w = w8 at *
              go_loopw [19] (fun vi wx => ∃ j : Nat, vi = .int .i64 j ∧ j ≤ r.subs.length ∧ Below w8.heap.size w8 wx) (fun vi _ => r.subs.length - (intOf vi).toNat)
              case atStart => exact ⟨0, rfl, Nat.zero_le _, Below.refl _ _⟩
              case round =>
                obtain ⟨j, rfl, hj, hbj⟩ := hrel
                have y4 := (dR.below hbj).c6.2.2.2.2.1
                have yl := (dR.below hbj).lt
                by_cases hjl : j < r.subs.length
                · have hdj : (j : Int) < (r.subs.length : Nat) := by omega
                  obtain ⟨s, hs⟩ : ∃ s, r.subs[j]? = some s := ⟨r.subs[j], List.getElem?_eq_getElem hjl⟩
                  obtain ⟨gs, os, eA, s0, s1, _, _⟩ := (hkq.up (bthen hbk hbk.size hbj)).sub hs
                  have sl := World.block_lt_of_cell? _ _ s0
                  dsimp only at sl
                  rw [hAs] at eA
                  subst eA
                  go_upto_region 27 with (fail)
                  have x0 := (e0.below hbj).c1
                  have xl := (e0.below hbj).lt
                  have hsq2 := hsq.up hbj
                  replace dR := dR.below hbj
                  clear hsq
                  have hsq := hsq2
                  clear hsq2
                  generalize wr = wq at *
                  go_cut [20, 21] from 147 to 163 (fun p b wc => ∃ (pg : Nat) (r : RelA), p = .pointer (some ⟨pg, 0, none⟩) ∧ b = .bool (findI (l.map TypA.says) s.1 s.2).isSome ∧ r.says = (findI (l.map TypA.says) s.1 s.2).getD noRI ∧ Bk wc pg #[.string r.name, .string r.view, .string r.edit, .string r.check, .slice r.As r.subs.length r.cs, .slice r.Ao r.ops.length r.co] 36 ∧ Below wq.heap.size wq wc)
                  case first =>
                    have hSc : ∀ W : World, Below wq.heap.size wq W → W.cell? ⟨w.heap.size, 0, none⟩ = some (.slice (some ⟨g, o, none⟩) l.length c) ∧ W.cell? ⟨B10, 4, none⟩ = some (.slice (some ⟨gs, os, none⟩) r.subs.length r.cs) ∧ W.cell? ⟨gs, os + j * 2, none⟩ = some (.string s.1) ∧ W.cell? ⟨gs, os + j * 2 + 1, none⟩ = some (.string s.2) := fun W h => ⟨cell_under x0 h, cell_under y4 h, cell_under s0 h, cell_under s1 h⟩
                    have hSch : ∀ W : World, Below wq.heap.size wq W → SchA W _ _ _ _ := fun W h => hsq.up h
                    have hS0 : Below wq.heap.size wq wq.drew := (Below.refl _ _).drew
                    have Hal : Hid (∀ o : Obj, Below wq.heap.size wq (wq.alloc o).drew) := Lib.hid fun o => ((Below.refl _ _).alloc (Nat.le_refl _) o).drew
                    refine wp_region_any (by kernel_rfl) ?_
                    change wpAny _ _ _ _ _ _ _ (World.drew _)
                    refine wpAny_of_held (S := fun W => Below wq.heap.size wq W) _ _ _ _ ?_
                    refine roH_take 0 (some 148) (v := ?v0p) rfl rfl (by kernel_rfl) (by kernel_rfl) (by kernel_rfl) (fun _ _ _ h => h) (by rfl) ?y0p (by assumption) ?r0p
                    case y0p => (intro W hS; obtain ⟨s0, s1, s2, s3⟩ := hSc W hS; go_simp; try with_reducible rfl)
                    simp only [Act.put, List.setIfInBounds_toArray, List.set_cons_zero, List.set_cons_succ]
                    refine roH_take 1 (some 149) (v := ?v1p) rfl rfl (by kernel_rfl) (by kernel_rfl) (by kernel_rfl) (fun _ _ _ h => h) (by rfl) ?y1p (by assumption) ?r1p
                    case y1p => (intro W hS; go_simp; try with_reducible rfl)
                    simp only [Act.put, List.setIfInBounds_toArray, List.set_cons_zero, List.set_cons_succ]
                    refine roH_take 2 (some 150) (v := ?v2p) rfl rfl (by kernel_rfl) (by kernel_rfl) (by kernel_rfl) (fun _ _ _ h => h) (by rfl) ?y2p (by assumption) ?r2p
                    case y2p => (intro W hS; obtain ⟨s0, s1, s2, s3⟩ := hSc W hS; go_simp; try with_reducible rfl)
                    simp only [Act.put, List.setIfInBounds_toArray, List.set_cons_zero, List.set_cons_succ]
                    refine roH_take 3 (some 151) (v := ?v3p) rfl rfl (by kernel_rfl) (by kernel_rfl) (by kernel_rfl) (fun _ _ _ h => h) (by rfl) ?y3p (by assumption) ?r3p
                    case y3p => (intro W hS; go_simp; try with_reducible rfl)
                    simp only [Act.put, List.setIfInBounds_toArray, List.set_cons_zero, List.set_cons_succ]
                    refine roH_take 4 (some 152) (v := ?v4p) rfl rfl (by kernel_rfl) (by kernel_rfl) (by kernel_rfl) (fun _ _ _ h => h) (by rfl) ?y4p (by assumption) ?r4p
                    case y4p => (intro W hS; obtain ⟨s0, s1, s2, s3⟩ := hSc W hS; go_simp; try with_reducible rfl)
                    simp only [Act.put, List.setIfInBounds_toArray, List.set_cons_zero, List.set_cons_succ]
                    refine roH_take 5 (some 153) (v := ?v5p) rfl rfl (by kernel_rfl) (by kernel_rfl) (by kernel_rfl) (fun _ _ _ h => h) (by rfl) ?y5p (by assumption) ?r5p
                    case y5p => (intro W hS; go_simp; try with_reducible rfl)
                    simp only [Act.put, List.setIfInBounds_toArray, List.set_cons_zero, List.set_cons_succ]
                    refine roH_take 6 (some 154) (v := ?v6p) rfl rfl (by kernel_rfl) (by kernel_rfl) (by kernel_rfl) (fun _ _ _ h => h) (by rfl) ?y6p (by assumption) ?r6p
                    case y6p => (intro W hS; obtain ⟨s0, s1, s2, s3⟩ := hSc W hS; go_simp; try with_reducible rfl)
                    simp only [Act.put, List.setIfInBounds_toArray, List.set_cons_zero, List.set_cons_succ]
                    refine roH_take 7 (some 155) (v := ?v7p) rfl rfl (by kernel_rfl) (by kernel_rfl) (by kernel_rfl) (fun _ _ _ h => h) (by rfl) ?y7p (by assumption) ?r7p
                    case y7p => (intro W hS; go_simp; try with_reducible rfl)
                    simp only [Act.put, List.setIfInBounds_toArray, List.set_cons_zero, List.set_cons_succ]
                    refine roH_take 8 (some 156) (v := ?v8p) rfl rfl (by kernel_rfl) (by kernel_rfl) (by kernel_rfl) (fun _ _ _ h => h) (by rfl) ?y8p (by assumption) ?r8p
                    case y8p => (intro W hS; obtain ⟨s0, s1, s2, s3⟩ := hSc W hS; go_simp; try with_reducible rfl)
                    simp only [Act.put, List.setIfInBounds_toArray, List.set_cons_zero, List.set_cons_succ]
                    refine roH_take 9 (some 157) (v := ?v9p) rfl rfl (by kernel_rfl) (by kernel_rfl) (by kernel_rfl) (fun _ _ _ h => h) (by rfl) ?y9p (by assumption) ?r9p
                    case y9p => (intro W hS; go_simp; try with_reducible rfl)
                    simp only [Act.put, List.setIfInBounds_toArray, List.set_cons_zero, List.set_cons_succ]
                    refine roH_take 10 (some 158) (v := ?v10p) rfl rfl (by kernel_rfl) (by kernel_rfl) (by kernel_rfl) (fun _ _ _ h => h) (by rfl) ?y10p (by assumption) ?r10p
                    case y10p => (intro W hS; obtain ⟨s0, s1, s2, s3⟩ := hSc W hS; go_simp; try with_reducible rfl)
                    simp only [Act.put, List.setIfInBounds_toArray, List.set_cons_zero, List.set_cons_succ]
                    refine roH_take 11 (some 159) (v := ?v11p) rfl rfl (by kernel_rfl) (by kernel_rfl) (by kernel_rfl) (fun _ _ _ h => h) (by rfl) ?y11p (by assumption) ?r11p
                    case y11p => (intro W hS; go_simp; try with_reducible rfl)
                    simp only [Act.put, List.setIfInBounds_toArray, List.set_cons_zero, List.set_cons_succ]
                    refine roH_take 12 (some 160) (v := ?v12p) rfl rfl (by kernel_rfl) (by kernel_rfl) (by kernel_rfl) (fun _ _ _ h => h) (by rfl) ?y12p (by assumption) ?r12p
                    case y12p => (intro W hS; obtain ⟨s0, s1, s2, s3⟩ := hSc W hS; go_simp; try with_reducible rfl)
                    simp only [Act.put, List.setIfInBounds_toArray, List.set_cons_zero, List.set_cons_succ]
                    refine roH_two 13 17 rfl rfl (by kernel_rfl) ?_ ?_
                    · intro K hK
                      go_simp
                      refine (find_any (hSch _ hS0) (Nat.le_refl _) s.1 s.2).mono ?_
                      rintro e w4 ⟨⟨r, rfl, hr, hsy⟩, hb4⟩
                      have hS4 : Below wq.heap.size wq w4 := bthen hS0 hS0.size hb4
                      refine hK _ _ hS4 ?_
                      clear hK K hr hb4
                      refine roH_take 14 (some 147) (v := ?v14pa) rfl rfl (by kernel_rfl) (by kernel_rfl) (by kernel_rfl) (fun _ _ _ h => h) (by rfl) ?y14pa (by assumption) ?r14pa
                      case y14pa => (intro W hS; go_simp; try with_reducible rfl)
                      simp only [Act.put, List.setIfInBounds_toArray, List.set_cons_zero, List.set_cons_succ]
                      refine roH_take 15 (some 162) (v := ?v15pa) rfl rfl (by kernel_rfl) (by kernel_rfl) (by kernel_rfl) (fun _ _ _ h => h) (by rfl) ?y15pa (by assumption) ?r15pa
                      case y15pa => (intro W hS; go_simp; try with_reducible rfl)
                      simp only [Act.put, List.setIfInBounds_toArray, List.set_cons_zero, List.set_cons_succ]
                      refine roH_take 16 (some 163) (v := ?v16pa) rfl rfl (by kernel_rfl) (by kernel_rfl) (by kernel_rfl) (fun _ _ _ h => h) (by rfl) ?y16pa (by assumption) ?r16pa
                      case y16pa => (intro W hS; go_simp; try with_reducible rfl)
                      simp only [Act.put, List.setIfInBounds_toArray, List.set_cons_zero, List.set_cons_succ]
                      have hSa : Below wq.heap.size wq (w4.alloc (.cells #[.string ⟨#[]⟩, .string ⟨#[]⟩, .string ⟨#[]⟩, .string ⟨#[]⟩, .slice none 0 0, .slice none 0 0] 36)) := hS4.alloc hS4.size _
                      have hSb : Below wq.heap.size wq (w4.alloc (.cells #[.string r.name, .string r.view, .string r.edit, .string r.check, .slice r.As r.subs.length r.cs, .slice r.Ao r.ops.length r.co] 36)) := hS4.alloc hS4.size _
                      refine roH_one 17 rfl (by kernel_rfl) ?_
                      intro K hK
                      go_simp
                      refine hK _ _ hSa ?_
                      clear hK K
                      refine roH_one 18 rfl (by kernel_rfl) ?_
                      intro K hK
                      go_simp
                      refine hK _ _ hSb ?_
                      clear hK K
                      refine roH_take 19 (some 21) (v := ?v19pa) rfl rfl (by kernel_rfl) (by kernel_rfl) (by kernel_rfl) (fun _ _ _ h => h) (by rfl) ?y19pa (by assumption) ?r19pa
                      case y19pa => (intro W hS; go_simp; try with_reducible rfl)
                      simp only [Act.put, List.setIfInBounds_toArray, List.set_cons_zero, List.set_cons_succ]
                      refine wpAnyH_done (by kernel_rfl) ?_ _
                      go_wp2_with fail
                      go_meet
                      exact ⟨w4.heap.size, r, rfl, rfl, hsy, Bk.new _ _ _, hSb⟩
                    · intro K hK
                      go_simp
                      have hSa := Hal.out (.cells #[.string ⟨#[]⟩, .string ⟨#[]⟩, .string ⟨#[]⟩, .string ⟨#[]⟩, .slice none 0 0, .slice none 0 0] 36)
                      refine hK _ _ hSa ?_
                      clear hK K
                      refine roH_one 13 rfl (by kernel_rfl) ?_
                      intro K hK
                      go_simp
                      refine (find_any (hSch _ hSa) (Nat.le_refl _) s.1 s.2).mono ?_
                      rintro e w4 ⟨⟨r, rfl, hr, hsy⟩, hb4⟩
                      have hZ : Bk w4 wq.heap.size #[.string ⟨#[]⟩, .string ⟨#[]⟩, .string ⟨#[]⟩, .string ⟨#[]⟩, .slice none 0 0, .slice none 0 0] 36 := Bk.below (w := (wq.alloc (.cells #[.string ⟨#[]⟩, .string ⟨#[]⟩, .string ⟨#[]⟩, .string ⟨#[]⟩, .slice none 0 0, .slice none 0 0] 36)).drew) (Bk.new wq #[.string ⟨#[]⟩, .string ⟨#[]⟩, .string ⟨#[]⟩, .string ⟨#[]⟩, .slice none 0 0, .slice none 0 0] 36) hb4
                      have hS4 : Below wq.heap.size wq w4 := bthen hSa hSa.size hb4
                      refine hK _ _ hS4 ?_
                      clear hK K hr hb4
                      refine roH_take 14 (some 147) (v := ?v14pb) rfl rfl (by kernel_rfl) (by kernel_rfl) (by kernel_rfl) (fun _ _ _ h => h) (by rfl) ?y14pb (by assumption) ?r14pb
                      case y14pb => (intro W hS; go_simp; try with_reducible rfl)
                      simp only [Act.put, List.setIfInBounds_toArray, List.set_cons_zero, List.set_cons_succ]
                      refine roH_take 15 (some 162) (v := ?v15pb) rfl rfl (by kernel_rfl) (by kernel_rfl) (by kernel_rfl) (fun _ _ _ h => h) (by rfl) ?y15pb (by assumption) ?r15pb
                      case y15pb => (intro W hS; go_simp; try with_reducible rfl)
                      simp only [Act.put, List.setIfInBounds_toArray, List.set_cons_zero, List.set_cons_succ]
                      refine roH_take 16 (some 163) (v := ?v16pb) rfl rfl (by kernel_rfl) (by kernel_rfl) (by kernel_rfl) (fun _ _ _ h => h) (by rfl) ?y16pb (by assumption) ?r16pb
                      case y16pb => (intro W hS; go_simp; try with_reducible rfl)
                      simp only [Act.put, List.setIfInBounds_toArray, List.set_cons_zero, List.set_cons_succ]
                      obtain ⟨z0, z1, z2, z3, z4, z5⟩ := hZ.c6
                      have zf := hZ.fz
                      have zl := hZ.lt
                      have hW := (((((hZ.set 0 (.string r.name)).set 1 (.string r.view)).set 2 (.string r.edit)).set 3 (.string r.check)).set 4 (.slice r.As r.subs.length r.cs)).set 5 (.slice r.Ao r.ops.length r.co)
                      have hSb := (Below.setCell (Below.setCell (Below.setCell (Below.setCell (Below.setCell (Below.setCell hS4 (show wq.heap.size ≤ (⟨wq.heap.size, 0, none⟩ : Addr).block from Nat.le_refl _) (.string r.name)) (show wq.heap.size ≤ (⟨wq.heap.size, 1, none⟩ : Addr).block from Nat.le_refl _) (.string r.view)) (show wq.heap.size ≤ (⟨wq.heap.size, 2, none⟩ : Addr).block from Nat.le_refl _) (.string r.edit)) (show wq.heap.size ≤ (⟨wq.heap.size, 3, none⟩ : Addr).block from Nat.le_refl _) (.string r.check)) (show wq.heap.size ≤ (⟨wq.heap.size, 4, none⟩ : Addr).block from Nat.le_refl _) (.slice r.As r.subs.length r.cs)) (show wq.heap.size ≤ (⟨wq.heap.size, 5, none⟩ : Addr).block from Nat.le_refl _) (.slice r.Ao r.ops.length r.co))
                      refine roH_one 18 rfl (by kernel_rfl) ?_
                      intro K hK
                      go_simp
                      refine hK _ _ hSb ?_
                      clear hK K z0 z1 z2 z3 z4 z5 zf zl
                      refine roH_take 19 (some 21) (v := ?v19pb) rfl rfl (by kernel_rfl) (by kernel_rfl) (by kernel_rfl) (fun _ _ _ h => h) (by rfl) ?y19pb (by assumption) ?r19pb
                      case y19pb => (intro W hS; go_simp; try with_reducible rfl)
                      simp only [Act.put, List.setIfInBounds_toArray, List.set_cons_zero, List.set_cons_succ]
                      refine wpAnyH_done (by kernel_rfl) ?_ _
                      go_wp2_with fail
                      go_meet
                      exact ⟨wq.heap.size, r, rfl, rfl, hsy, hW, hSb⟩
                  case rest =>
                    obtain ⟨pg, rf, rfl, rfl, _, hX, hbz⟩ := hcut
                    clear hX x0 xl
                    have f4 := (dR.below hbz).c6.2.2.2.2.1
                    have fl := (dR.below hbz).lt
                    have s2 := cell_under s1 hbz
                    have sl2 := World.block_lt_of_cell? _ _ s2
                    dsimp only at sl2
                    have he := empty_dec s.2
                    cases hd : decide (s.2 = ⟨#[]⟩) with
                    | true =>
                      rw [hd] at he
                      generalize (findI (l.map TypA.says) s.1 s.2).isSome = bb at *
                      go_wp2_with fail
                      refine ⟨⟨j + 1, by go_num, by omega, bthen hbj hbj.size hbz⟩, ?_⟩
                      simp [intOf]; omega
                    | false =>
                      rw [hd] at he
                      have hS := hP6.out s (List.mem_of_getElem? hs) (of_decide_eq_false hd)
                      rw [hS]
                      clear hS
                      go_wp2_with fail
                      refine ⟨⟨j + 1, by go_num, by omega, bthen hbj hbj.size hbz⟩, ?_⟩
                      simp [intOf]; omega
                · have hdj : ¬ (j : Int) < (r.subs.length : Nat) := by omega
                  go_wp2_with fail
                  clear y4 yl
                  have hbk2 := bthen hbk hbk.size hbj
                  have hbq2 := bthen hbq hbq.size hbj
                  have dR2 := dR.below hbj
                  have dT2 := dT.below hbj
                  have e2 := e0.below hbj
                  have hsq2 := hsq.up hbj
                  clear dR dT e0 hsq hbk hP6
                  generalize wr = w9 at *
                  clear hbj
                  go_loopw [22] (fun vi wx => ∃ j : Nat, vi = .int .i64 j ∧ j ≤ r.ops.length ∧ Below w9.heap.size w9 wx) (fun vi _ => r.ops.length - (intOf vi).toNat)
                  case atStart => exact ⟨0, rfl, Nat.zero_le _, Below.refl _ _⟩
                  case round =>
                    obtain ⟨j, rfl, hj, hbj⟩ := hrel
                    have y5 := (dR2.below hbj).c6.2.2.2.2.2
                    have yl := (dR2.below hbj).lt
                    by_cases hjl : j < r.ops.length
                    · have hdj : (j : Int) < (r.ops.length : Nat) := by omega
                      obtain ⟨q, hq⟩ : ∃ q, r.ops[j]? = some q := ⟨r.ops[j], List.getElem?_eq_getElem hjl⟩
                      obtain ⟨gp, op, eA, o0, o1, _, _, _, _⟩ := (hkq.up (bthen hbk2 hbk2.size hbj)).op hq
                      have ol := World.block_lt_of_cell? _ _ o0
                      dsimp only at ol
                      rw [hAo] at eA
                      subst eA
                      go_upto_region 33 with (fail)
                      have x0 := (e2.below hbj).c1
                      have xl := (e2.below hbj).lt
                      have t0 := (dT2.below hbj).c2.1
                      have tl := (dT2.below hbj).lt
                      have hsq := hsq2.up hbj
                      have dR := dR2.below hbj
                      generalize wr = wq at *
                      go_cut [23, 24] from 182 to 194 (fun p b wc => ∃ (pg : Nat) (r : RelA), p = .pointer (some ⟨pg, 0, none⟩) ∧ b = .bool (findI (l.map TypA.says) t.name q.2.1).isSome ∧ r.says = (findI (l.map TypA.says) t.name q.2.1).getD noRI ∧ Bk wc pg #[.string r.name, .string r.view, .string r.edit, .string r.check, .slice r.As r.subs.length r.cs, .slice r.Ao r.ops.length r.co] 36 ∧ Below wq.heap.size wq wc)
                      case first =>
                        have hSc : ∀ W : World, Below wq.heap.size wq W → W.cell? ⟨w.heap.size, 0, none⟩ = some (.slice (some ⟨g, o, none⟩) l.length c) ∧ W.cell? ⟨B8, 0, none⟩ = some (.string t.name) ∧ W.cell? ⟨B10, 5, none⟩ = some (.slice (some ⟨gp, op, none⟩) r.ops.length r.co) ∧ W.cell? ⟨gp, op + j * 3 + 1, none⟩ = some (.string q.2.1) := fun W h => ⟨cell_under x0 h, cell_under t0 h, cell_under y5 h, cell_under o1 h⟩
                        have hSch : ∀ W : World, Below wq.heap.size wq W → SchA W _ _ _ _ := fun W h => hsq.up h
                        have hS0 : Below wq.heap.size wq wq.drew := (Below.refl _ _).drew
                        have Hal : Hid (∀ o : Obj, Below wq.heap.size wq (wq.alloc o).drew) := Lib.hid fun o => ((Below.refl _ _).alloc (Nat.le_refl _) o).drew
                        refine wp_region_any (by kernel_rfl) ?_
                        change wpAny _ _ _ _ _ _ _ (World.drew _)
                        refine wpAny_of_held (S := fun W => Below wq.heap.size wq W) _ _ _ _ ?_
                        refine roH_take 0 (some 183) (v := ?v0q) rfl rfl (by kernel_rfl) (by kernel_rfl) (by kernel_rfl) (fun _ _ _ h => h) (by rfl) ?y0q (by assumption) ?r0q
                        case y0q => (intro W hS; obtain ⟨s0, s1, s2, s3⟩ := hSc W hS; go_simp; try with_reducible rfl)
                        simp only [Act.put, List.setIfInBounds_toArray, List.set_cons_zero, List.set_cons_succ]
                        refine roH_take 1 (some 184) (v := ?v1q) rfl rfl (by kernel_rfl) (by kernel_rfl) (by kernel_rfl) (fun _ _ _ h => h) (by rfl) ?y1q (by assumption) ?r1q
                        case y1q => (intro W hS; go_simp; try with_reducible rfl)
                        simp only [Act.put, List.setIfInBounds_toArray, List.set_cons_zero, List.set_cons_succ]
                        refine roH_take 2 (some 185) (v := ?v2q) rfl rfl (by kernel_rfl) (by kernel_rfl) (by kernel_rfl) (fun _ _ _ h => h) (by rfl) ?y2q (by assumption) ?r2q
                        case y2q => (intro W hS; obtain ⟨s0, s1, s2, s3⟩ := hSc W hS; go_simp; try with_reducible rfl)
                        simp only [Act.put, List.setIfInBounds_toArray, List.set_cons_zero, List.set_cons_succ]
                        refine roH_take 3 (some 186) (v := ?v3q) rfl rfl (by kernel_rfl) (by kernel_rfl) (by kernel_rfl) (fun _ _ _ h => h) (by rfl) ?y3q (by assumption) ?r3q
                        case y3q => (intro W hS; go_simp; try with_reducible rfl)
                        simp only [Act.put, List.setIfInBounds_toArray, List.set_cons_zero, List.set_cons_succ]
                        refine roH_take 4 (some 187) (v := ?v4q) rfl rfl (by kernel_rfl) (by kernel_rfl) (by kernel_rfl) (fun _ _ _ h => h) (by rfl) ?y4q (by assumption) ?r4q
                        case y4q => (intro W hS; obtain ⟨s0, s1, s2, s3⟩ := hSc W hS; go_simp; try with_reducible rfl)
                        simp only [Act.put, List.setIfInBounds_toArray, List.set_cons_zero, List.set_cons_succ]
                        refine roH_take 5 (some 188) (v := ?v5q) rfl rfl (by kernel_rfl) (by kernel_rfl) (by kernel_rfl) (fun _ _ _ h => h) (by rfl) ?y5q (by assumption) ?r5q
                        case y5q => (intro W hS; go_simp; try with_reducible rfl)
                        simp only [Act.put, List.setIfInBounds_toArray, List.set_cons_zero, List.set_cons_succ]
                        refine roH_take 6 (some 189) (v := ?v6q) rfl rfl (by kernel_rfl) (by kernel_rfl) (by kernel_rfl) (fun _ _ _ h => h) (by rfl) ?y6q (by assumption) ?r6q
                        case y6q => (intro W hS; obtain ⟨s0, s1, s2, s3⟩ := hSc W hS; go_simp; try with_reducible rfl)
                        simp only [Act.put, List.setIfInBounds_toArray, List.set_cons_zero, List.set_cons_succ]
                        refine roH_take 7 (some 190) (v := ?v7q) rfl rfl (by kernel_rfl) (by kernel_rfl) (by kernel_rfl) (fun _ _ _ h => h) (by rfl) ?y7q (by assumption) ?r7q
                        case y7q => (intro W hS; go_simp; try with_reducible rfl)
                        simp only [Act.put, List.setIfInBounds_toArray, List.set_cons_zero, List.set_cons_succ]
                        refine roH_take 8 (some 191) (v := ?v8q) rfl rfl (by kernel_rfl) (by kernel_rfl) (by kernel_rfl) (fun _ _ _ h => h) (by rfl) ?y8q (by assumption) ?r8q
                        case y8q => (intro W hS; obtain ⟨s0, s1, s2, s3⟩ := hSc W hS; go_simp; try with_reducible rfl)
                        simp only [Act.put, List.setIfInBounds_toArray, List.set_cons_zero, List.set_cons_succ]
                        refine roH_two 9 13 rfl rfl (by kernel_rfl) ?_ ?_
                        · intro K hK
                          go_simp
                          refine (find_any (hSch _ hS0) (Nat.le_refl _) t.name q.2.1).mono ?_
                          rintro e w4 ⟨⟨r, rfl, hr, hsy⟩, hb4⟩
                          have hS4 : Below wq.heap.size wq w4 := bthen hS0 hS0.size hb4
                          refine hK _ _ hS4 ?_
                          clear hK K hr hb4
                          refine roH_take 10 (some 182) (v := ?v10qa) rfl rfl (by kernel_rfl) (by kernel_rfl) (by kernel_rfl) (fun _ _ _ h => h) (by rfl) ?y10qa (by assumption) ?r10qa
                          case y10qa => (intro W hS; go_simp; try with_reducible rfl)
                          simp only [Act.put, List.setIfInBounds_toArray, List.set_cons_zero, List.set_cons_succ]
                          refine roH_take 11 (some 193) (v := ?v11qa) rfl rfl (by kernel_rfl) (by kernel_rfl) (by kernel_rfl) (fun _ _ _ h => h) (by rfl) ?y11qa (by assumption) ?r11qa
                          case y11qa => (intro W hS; go_simp; try with_reducible rfl)
                          simp only [Act.put, List.setIfInBounds_toArray, List.set_cons_zero, List.set_cons_succ]
                          refine roH_take 12 (some 194) (v := ?v12qa) rfl rfl (by kernel_rfl) (by kernel_rfl) (by kernel_rfl) (fun _ _ _ h => h) (by rfl) ?y12qa (by assumption) ?r12qa
                          case y12qa => (intro W hS; go_simp; try with_reducible rfl)
                          simp only [Act.put, List.setIfInBounds_toArray, List.set_cons_zero, List.set_cons_succ]
                          have hSa : Below wq.heap.size wq (w4.alloc (.cells #[.string ⟨#[]⟩, .string ⟨#[]⟩, .string ⟨#[]⟩, .string ⟨#[]⟩, .slice none 0 0, .slice none 0 0] 36)) := hS4.alloc hS4.size _
                          have hSb : Below wq.heap.size wq (w4.alloc (.cells #[.string r.name, .string r.view, .string r.edit, .string r.check, .slice r.As r.subs.length r.cs, .slice r.Ao r.ops.length r.co] 36)) := hS4.alloc hS4.size _
                          refine roH_one 13 rfl (by kernel_rfl) ?_
                          intro K hK
                          go_simp
                          refine hK _ _ hSa ?_
                          clear hK K
                          refine roH_one 14 rfl (by kernel_rfl) ?_
                          intro K hK
                          go_simp
                          refine hK _ _ hSb ?_
                          clear hK K
                          refine roH_take 15 (some 24) (v := ?v15qa) rfl rfl (by kernel_rfl) (by kernel_rfl) (by kernel_rfl) (fun _ _ _ h => h) (by rfl) ?y15qa (by assumption) ?r15qa
                          case y15qa => (intro W hS; go_simp; try with_reducible rfl)
                          simp only [Act.put, List.setIfInBounds_toArray, List.set_cons_zero, List.set_cons_succ]
                          refine wpAnyH_done (by kernel_rfl) ?_ _
                          go_wp2_with fail
                          go_meet
                          exact ⟨w4.heap.size, r, rfl, rfl, hsy, Bk.new _ _ _, hSb⟩
                        · intro K hK
                          go_simp
                          have hSa := Hal.out (.cells #[.string ⟨#[]⟩, .string ⟨#[]⟩, .string ⟨#[]⟩, .string ⟨#[]⟩, .slice none 0 0, .slice none 0 0] 36)
                          refine hK _ _ hSa ?_
                          clear hK K
                          refine roH_one 9 rfl (by kernel_rfl) ?_
                          intro K hK
                          go_simp
                          refine (find_any (hSch _ hSa) (Nat.le_refl _) t.name q.2.1).mono ?_
                          rintro e w4 ⟨⟨r, rfl, hr, hsy⟩, hb4⟩
                          have hZ : Bk w4 wq.heap.size #[.string ⟨#[]⟩, .string ⟨#[]⟩, .string ⟨#[]⟩, .string ⟨#[]⟩, .slice none 0 0, .slice none 0 0] 36 := Bk.below (w := (wq.alloc (.cells #[.string ⟨#[]⟩, .string ⟨#[]⟩, .string ⟨#[]⟩, .string ⟨#[]⟩, .slice none 0 0, .slice none 0 0] 36)).drew) (Bk.new wq #[.string ⟨#[]⟩, .string ⟨#[]⟩, .string ⟨#[]⟩, .string ⟨#[]⟩, .slice none 0 0, .slice none 0 0] 36) hb4
                          have hS4 : Below wq.heap.size wq w4 := bthen hSa hSa.size hb4
                          refine hK _ _ hS4 ?_
                          clear hK K hr hb4
                          refine roH_take 10 (some 182) (v := ?v10qb) rfl rfl (by kernel_rfl) (by kernel_rfl) (by kernel_rfl) (fun _ _ _ h => h) (by rfl) ?y10qb (by assumption) ?r10qb
                          case y10qb => (intro W hS; go_simp; try with_reducible rfl)
                          simp only [Act.put, List.setIfInBounds_toArray, List.set_cons_zero, List.set_cons_succ]
                          refine roH_take 11 (some 193) (v := ?v11qb) rfl rfl (by kernel_rfl) (by kernel_rfl) (by kernel_rfl) (fun _ _ _ h => h) (by rfl) ?y11qb (by assumption) ?r11qb
                          case y11qb => (intro W hS; go_simp; try with_reducible rfl)
                          simp only [Act.put, List.setIfInBounds_toArray, List.set_cons_zero, List.set_cons_succ]
                          refine roH_take 12 (some 194) (v := ?v12qb) rfl rfl (by kernel_rfl) (by kernel_rfl) (by kernel_rfl) (fun _ _ _ h => h) (by rfl) ?y12qb (by assumption) ?r12qb
                          case y12qb => (intro W hS; go_simp; try with_reducible rfl)
                          simp only [Act.put, List.setIfInBounds_toArray, List.set_cons_zero, List.set_cons_succ]
                          obtain ⟨z0, z1, z2, z3, z4, z5⟩ := hZ.c6
                          have zf := hZ.fz
                          have zl := hZ.lt
                          have hW := (((((hZ.set 0 (.string r.name)).set 1 (.string r.view)).set 2 (.string r.edit)).set 3 (.string r.check)).set 4 (.slice r.As r.subs.length r.cs)).set 5 (.slice r.Ao r.ops.length r.co)
                          have hSb := (Below.setCell (Below.setCell (Below.setCell (Below.setCell (Below.setCell (Below.setCell hS4 (show wq.heap.size ≤ (⟨wq.heap.size, 0, none⟩ : Addr).block from Nat.le_refl _) (.string r.name)) (show wq.heap.size ≤ (⟨wq.heap.size, 1, none⟩ : Addr).block from Nat.le_refl _) (.string r.view)) (show wq.heap.size ≤ (⟨wq.heap.size, 2, none⟩ : Addr).block from Nat.le_refl _) (.string r.edit)) (show wq.heap.size ≤ (⟨wq.heap.size, 3, none⟩ : Addr).block from Nat.le_refl _) (.string r.check)) (show wq.heap.size ≤ (⟨wq.heap.size, 4, none⟩ : Addr).block from Nat.le_refl _) (.slice r.As r.subs.length r.cs)) (show wq.heap.size ≤ (⟨wq.heap.size, 5, none⟩ : Addr).block from Nat.le_refl _) (.slice r.Ao r.ops.length r.co))
                          refine roH_one 14 rfl (by kernel_rfl) ?_
                          intro K hK
                          go_simp
                          refine hK _ _ hSb ?_
                          clear hK K z0 z1 z2 z3 z4 z5 zf zl
                          refine roH_take 15 (some 24) (v := ?v15qb) rfl rfl (by kernel_rfl) (by kernel_rfl) (by kernel_rfl) (fun _ _ _ h => h) (by rfl) ?y15qb (by assumption) ?r15qb
                          case y15qb => (intro W hS; go_simp; try with_reducible rfl)
                          simp only [Act.put, List.setIfInBounds_toArray, List.set_cons_zero, List.set_cons_succ]
                          refine wpAnyH_done (by kernel_rfl) ?_ _
                          go_wp2_with fail
                          go_meet
                          exact ⟨wq.heap.size, r, rfl, rfl, hsy, hW, hSb⟩
                      case rest =>
                        obtain ⟨pg, rf, rfl, rfl, _, hX, hbz⟩ := hcut
                        clear hX x0 xl t0 tl
                        have f5 := (dR.below hbz).c6.2.2.2.2.2
                        have fl := (dR.below hbz).lt
                        have p0 := cell_under o0 hbz
                        have pl := World.block_lt_of_cell? _ _ p0
                        dsimp only at pl
                        have hQ := Lib.hid (hP7.out q (List.mem_of_getElem? hq))
                        have hbf := bthen hbj hbj.size hbz
                        by_cases k2 : q.1 = 2
                        · have hS := hQ.out (.inl k2)
                          rw [hS]
                          rw [k2] at p0
                          clear hS o0
                          go_wp2_with fail
                          refine ⟨⟨j + 1, by go_num, by omega, hbf⟩, ?_⟩
                          simp [intOf]; omega
                        · by_cases k3 : q.1 = 3
                          · have hS := hQ.out (.inr k3)
                            rw [hS]
                            rw [k3] at p0
                            clear hS o0 k2
                            go_wp2_with fail
                            refine ⟨⟨j + 1, by go_num, by omega, hbf⟩, ?_⟩
                            simp [intOf]; omega
                          · generalize (findI (l.map TypA.says) t.name q.2.1).isSome = bb at *
                            have j2 : (q.1 == 2) = false := by rw [beq_eq_false_iff_ne]; exact k2
                            have j3 : (q.1 == 3) = false := by rw [beq_eq_false_iff_ne]; exact k3
                            go_wp2_with fail
                            refine ⟨⟨j + 1, by go_num, by omega, hbf⟩, ?_⟩
                            simp [intOf]; omega
                    · have hdj : ¬ (j : Int) < (r.ops.length : Nat) := by omega
                      go_wp2_with fail
                      refine ⟨⟨k + 1, by go_num, by omega, bthen hbq2 hbq2.size hbj⟩, ?_⟩
                      simp [intOf]; omega
            · have hdk : ¬ (k : Int) < (t.rels.length : Nat) := by omega
              go_wp2
              refine ⟨⟨i + 1, by go_num, by omega, bthen hbx2 hbx2.size hby⟩, ?_⟩
              simp [intOf]; omega
        · have hdi : ¬ (i : Int) < (l.length : Nat) := by omega
          go_wp2
          go_ret
          exact ⟨rfl, bthen hb hb.size hbx⟩
    · have hki : ¬ (((checkE (l.map TypA.says)).1 : Nat) : Int) = 0 := by omega
      go_wp2
      go_ret
      exact ⟨rfl, hb⟩
end Go.Proofs.Ytpiihfffhjmabaa
