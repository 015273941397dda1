/- Layer 9: which types and relations there are, checked (the walk). Conditions: names aren't longer than memory. -/
import Derived.BigQuiet
import Derived.Deep.QuietTactic
import Derived.Deep.Cut
import Derived.StillTailTactics
import Derived.WalkMore
import Derived.Test.YtpiihfffhjmabaaPartsF
namespace Go.Proofs.Ytpiihfffhjmabaa
open Go.RowKit

set_option maxRecDepth 100000 in
set_option maxHeartbeats 1000000 in
theorem partsFault_any {w : World} {R : Nat} {A : Option Addr} {c : Nat} {l : List TypA} (h : SchA w R A c l) (hR : R ≤ 140737488351232) :
    Calls Try.prog 18 #[.agg #[.slice A l.length c]] w fun e w' =>
      e = .returned (.tuple #[.int .i64 ((typsE [] (l.map TypA.says)).1 : Nat), .string (typsE [] (l.map TypA.says)).2]) ∧ Below w.heap.size w w' := by
  have hll : (l.length : Int) ≤ 9223372036854775807 := by have := h.rows.cap; have := h.rows.capm; simp only [maxLen] at this; omega
  have hcap := h.rows.cap
  have hNE : Hid (typsE [] (l.map TypA.says) = typsE ((l.take 0).map TypA.says) ((l.drop 0).map TypA.says)) := Lib.hid rfl
  generalize typsE [] (l.map TypA.says) = NE at *
  have hb0 := bnew w (.cells #[.slice A l.length c] 24)
  have d0 := Bk.new w #[.slice A l.length c] 24
  have h0 := h.up hb0
  go_enter Try.func18, Try.ntmps18
  go_upto_region 1 with (fail)
  clear h
  generalize w.alloc (.cells #[.slice A l.length c] 24) = w1 at *
  have x0 := d0.c1
  have xl := d0.lt
  go_wp2_with fail
  go_step3
  go_wp2_with fail
  go_step3
  go_wp2_with fail
  go_loopw [2, 3, 11] (fun ve va vi wx => ve = .int .i64 0 ∧ va = .string ⟨#[]⟩ ∧ ∃ i : Nat, vi = .int .i64 i ∧ i ≤ l.length ∧ Hid (NE = typsE ((l.take i).map TypA.says) ((l.drop i).map TypA.says)) ∧ Below w1.heap.size w1 wx) (fun _ _ vi _ => l.length - (intOf vi).toNat)
  case atStart => exact ⟨rfl, rfl, 0, rfl, Nat.zero_le _, hNE, Below.refl _ _⟩
  case round =>
    clear hNE x0 xl
    obtain ⟨rfl, rfl, i, rfl, hi, hNE, hbx⟩ := hrel
    by_cases hil : i < l.length
    · have hdi : (i : Int) < (l.length : Nat) := by omega
      have hic : (i : Int) ≤ (c : Nat) := by omega
      obtain ⟨t, ht⟩ : ∃ t, l[i]? = some t := ⟨l[i], List.getElem?_eq_getElem hil⟩
      obtain ⟨g, o, rfl, g0, g1, hk⟩ := (h0.up hbx).get ht
      have lg := World.block_lt_of_cell? _ _ g0
      dsimp only at lg
      go_upto_region 4 with (fail)
      have hbs := bnew wr (.cells #[.string t.name, .slice t.A t.rels.length t.c] 46)
      have dT := Bk.new wr #[.string t.name, .slice t.A t.rels.length t.c] 46
      have hbx2 := bthen hbx hbx.size hbs
      have hk2 := hk.up hbs
      clear hbs hk
      generalize wr.alloc (.cells #[.string t.name, .slice t.A t.rels.length t.c] 46) = w2 at *
      obtain ⟨t0, t1⟩ := dT.c2
      have tl := dT.lt
      have e0 := d0.below hbx2
      have x0 := e0.c1
      have xl := e0.lt
      have hbd : Below w2.heap.size w2 w2.drew := ⟨rfl, rfl, rfl, Nat.le_refl _, fun _ _ => rfl⟩
      have hbx3 := bthen hbx2 hbx2.size hbd
      have hcn := typeFault_any (t := t) ((h0.up hbx3).pre hi)
      rw [show (l.take i).length = i by rw [List.length_take]; omega] at hcn
      have hS := typsE_at ht
      go_still_tail 5, (by kernel_rfl)
      change wpList _ _ _ _ _ (World.drew _)
      generalize tyE (l.take i) t = k at *
      by_cases hk0 : k = 0
      · subst hk0
        rw [if_neg (by decide)] at hS
        simp only [show ((0 : Nat) : Int) = 0 from rfl] at hcn
        go_wp2_with ((with_reducible refine hcn.mono ?_); rintro e w4 ⟨rfl, hb4⟩; have dT4 := (dT.below hbd).below hb4; have t4 := dT4.c2.2; have tl4 := dT4.lt)
        have hbx4 := bthen hbx3 hbx3.size hb4
        have hk4 := (hk2.up hbd).up hb4
        have hlr : (t.rels.length : Int) ≤ 9223372036854775807 := by have := hk2.rels.cap; have := hk2.rels.capm; simp only [maxLen] at this; omega
        have hrc := hk2.rels.cap
        have hRE : Hid (relsE t.says [] (t.rels.map RelA.says) = relsE t.says ((t.rels.take 0).map RelA.says) ((t.rels.drop 0).map RelA.says)) := Lib.hid rfl
        generalize relsE t.says [] (t.rels.map RelA.says) = RE at *
        obtain ⟨tA, htA⟩ : ∃ tA, t.A = tA := ⟨_, rfl⟩
        rw [htA] at dT4 t4 ⊢
        clear hbx hbx2 hbx3 hb4 hbd hk2 dT t0 t1 tl g0 g1 lg x0 xl e0 hcn
        generalize wr.heap.size = B5 at *
        go_loopw [2, 3, 29] (fun ve va vi wx => ve = .int .i64 0 ∧ va = .string ⟨#[]⟩ ∧ ∃ i : Nat, vi = .int .i64 i ∧ i ≤ t.rels.length ∧ Hid (RE = relsE t.says ((t.rels.take i).map RelA.says) ((t.rels.drop i).map RelA.says)) ∧ Below w4.heap.size w4 wx) (fun _ _ vi _ => t.rels.length - (intOf vi).toNat)
        case atStart => exact ⟨rfl, rfl, 0, rfl, Nat.zero_le _, hRE, Below.refl _ _⟩
        case round =>
          clear hRE
          obtain ⟨rfl, rfl, j, rfl, hj, hRE, hby⟩ := hrel
          by_cases hjl : j < t.rels.length
          · have hdj : (j : Int) < (t.rels.length : Nat) := by omega
            have hjc : (j : Int) ≤ (t.c : Nat) := by omega
            obtain ⟨r, hr⟩ : ∃ r, t.rels[j]? = some r := ⟨t.rels[j], List.getElem?_eq_getElem hjl⟩
            obtain ⟨gr, o', eA, r0, r1, r2, r3, r4, r5, hkr⟩ := (hk4.up hby).get hr
            have lgr := World.block_lt_of_cell? _ _ r0
            dsimp only at lgr
            rw [htA] at eA
            subst eA
            go_upto_region 10 with (fail)
            have hbs := bnew wr (.cells #[.string r.name, .string r.view, .string r.edit, .string r.check, .slice r.As r.subs.length r.cs, .slice r.Ao r.ops.length r.co] 36)
            have dR := Bk.new wr #[.string r.name, .string r.view, .string r.edit, .string r.check, .slice r.As r.subs.length r.cs, .slice r.Ao r.ops.length r.co] 36
            have hby2 := bthen hby hby.size hbs
            clear hbs hkr hby r0 r1 r2 r3 r4 r5 lgr
            generalize wr.alloc (.cells #[.string r.name, .string r.view, .string r.edit, .string r.check, .slice r.As r.subs.length r.cs, .slice r.Ao r.ops.length r.co] 36) = w5 at *
            generalize wr.heap.size = B7 at *
            obtain ⟨r0, r1, r2, r3, r4, r5⟩ := dR.c6
            have rl := dR.lt
            have e4 := dT4.below hby2
            obtain ⟨t0, t1⟩ := e4.c2
            have tl := e4.lt
            have hbd : Below w5.heap.size w5 w5.drew := ⟨rfl, rfl, rfl, Nat.le_refl _, fun _ _ => rfl⟩
            have hby3 := bthen hby2 hby2.size hbd
            have hcn := relFault_any (t := r) ((hk4.up hby3).pre hj)
            rw [htA, show (t.rels.take j).length = j by rw [List.length_take]; omega] at hcn
            have hS2 := relsE_at (A := some ⟨gr, o', none⟩) (c := t.c) (t := t.says) hr
            go_still_tail 5, (by kernel_rfl)
            change wpList _ _ _ _ _ (World.drew _)
            generalize reE ⟨⟨#[]⟩, some ⟨gr, o', none⟩, t.c, t.rels.take j⟩ r = k at *
            by_cases hk0 : k = 0
            · subst hk0
              rw [if_neg (by decide)] at hS2
              simp only [show ((0 : Nat) : Int) = 0 from rfl] at hcn
              go_wp2_with ((with_reducible refine hcn.mono ?_); rintro e w6 ⟨rfl, hb6⟩)
              refine ⟨⟨rfl, rfl, j + 1, by go_num, by omega, Lib.hid (by rw [hRE.out, hS2]), bthen hby3 hby3.size hb6⟩, ?_⟩
              simp [intOf]; omega
            · have hki : ¬ ((k : Nat) : Int) = 0 := by omega
              rw [if_pos hk0] at hS2
              go_wp2_with ((with_reducible refine hcn.mono ?_); rintro e w6 ⟨rfl, hb6⟩; have dR6 := (dR.below hbd).below hb6; have dT6 := (e4.below hbd).below hb6; have p4 := dT6.c2.1; have p5 := dT6.c2.2; have pl := dT6.lt; obtain ⟨s0, s1, s2, s3, s4, s5⟩ := dR6.c6; have sl := dR6.lt)
              have hpc := path_any (w := w6) (q := t) (r := r) (Nat.le_trans hk4.name hR) (Nat.le_trans (hk4.relz r (List.mem_of_getElem? hr)).name hR)
              rw [htA] at hpc
              refine hpc.mono ?_
              rintro e w8 ⟨rfl, hb8⟩
              go_wp2_with fail
              rw [Exit.noGoto_ret]
              refine bodyPost_ret (v := .tuple #[.int .i64 (k : Nat), .string (pathS t.says r.says)]) (by simp [results, Try.results18, go_sem]; try rfl) rfl ?_
              refine ⟨?_, bthen hb0 hb0.size (bthen hbx4 hbx4.size (bthen hby3 hby3.size (bthen hb6 hb6.size hb8)))⟩
              have hne : RE.1 ≠ 0 := by rw [hRE.out, hS2]; exact hk0
              rw [hNE.out, hS, if_pos hne, hRE.out, hS2]
          · obtain rfl : j = t.rels.length := by omega
            have hRE0 : RE = (0, ⟨#[]⟩) := by
              rw [hRE.out, List.take_length, List.drop_length]
              rfl
            subst hRE0
            rw [if_neg (show ¬ ((0, ⟨#[]⟩) : Nat × ByteArray).1 ≠ 0 by decide)] at hS
            replace hS := Lib.hid hS
            go_wp2
            refine ⟨⟨rfl, rfl, i + 1, by go_num, by omega, Lib.hid (by rw [hNE.out, hS.out]), bthen hbx4 hbx4.size hby⟩, ?_⟩
            simp [intOf]; omega
      · have hki : ¬ ((k : Nat) : Int) = 0 := by omega
        rw [if_pos hk0] at hS
        go_wp2_with ((with_reducible refine hcn.mono ?_); rintro e w4 ⟨rfl, hb4⟩; have dT4 := (dT.below hbd).below hb4; have t4 := dT4.c2.1; have tl4 := dT4.lt)
        rw [Exit.noGoto_ret]
        refine bodyPost_ret (v := .tuple #[.int .i64 (k : Nat), .string t.name]) (by simp [results, Try.results18, go_sem]; try rfl) rfl ?_
        refine ⟨?_, bthen hb0 hb0.size (bthen hbx3 hbx3.size hb4)⟩
        rw [hNE.out, hS]
    · have hdi : ¬ (i : Int) < (l.length : Nat) := by omega
      obtain rfl : i = l.length := by omega
      go_wp2
      refine bodyPost_ret (v := .tuple #[.int .i64 0, .string ⟨#[]⟩]) (by simp [results, Try.results18, go_sem]; try rfl) rfl ?_
      refine ⟨?_, bthen hb0 hb0.size hbx⟩
      rw [hNE.out, List.take_length, List.drop_length]
      rfl
end Go.Proofs.Ytpiihfffhjmabaa
