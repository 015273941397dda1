/- Layer 9: Check walked. Conditions: names aren't longer than memory. -/
import Derived.BigQuiet
import Derived.Deep.QuietTactic
import Derived.Deep.Cut
import Derived.StillTailTactics
import Derived.WalkMore
import Derived.Test.YtpiihfffhjmabaaPartsW
namespace Go.Proofs.Ytpiihfffhjmabaa
open Go.RowKit

set_option maxRecDepth 100000 in
set_option maxHeartbeats 1000000 in
theorem namesFault_any {w : World} {R : Nat} {A : Option Addr} {c : Nat} {l : List TypA} (h : SchA w R A c l) (hR : R ≤ 140737488351232) :
    Calls Try.prog 19 #[.agg #[.slice A l.length c]] w fun e w' =>
      e = .returned (.tuple #[.int .i64 ((namesE (l.map TypA.says) (l.map TypA.says)).1 : Nat), .string (namesE (l.map TypA.says) (l.map TypA.says)).2]) ∧ Below w.heap.size w w' := by
  have hll : (l.length : Int) ≤ 9223372036854775807 := by have := h.rows.cap; have := h.rows.capm; simp only [maxLen] at this; omega
  obtain ⟨L, hL⟩ : ∃ L, l.map TypA.says = L := ⟨_, rfl⟩
  have hNE : Hid (namesE L (l.map TypA.says) = namesE L ((l.drop 0).map TypA.says)) := Lib.hid rfl
  rw [show namesE (l.map TypA.says) (l.map TypA.says) = namesE L (l.map TypA.says) by rw [hL]]
  generalize namesE L (l.map TypA.says) = NE at *
  have hL := Lib.hid hL
  have hb0 := bnew w (.cells #[.slice A l.length c] 24)
  have d0 := Bk.new w #[.slice A l.length c] 24
  have h0 := h.up hb0
  go_enter Try.func19, Try.ntmps19
  go_upto_region 1 with (fail)
  clear h
  generalize w.alloc (.cells #[.slice A l.length c] 24) = w1 at *
  have x0 := d0.c1
  have xl := d0.lt
  go_wp2_with fail
  go_step3
  go_wp2_with fail
  go_step3
  go_wp2_with fail
  go_loopw [2, 3, 11] (fun ve va vi wx => ve = .int .i64 0 ∧ va = .string ⟨#[]⟩ ∧ ∃ i : Nat, vi = .int .i64 i ∧ i ≤ l.length ∧ Hid (NE = namesE L ((l.drop i).map TypA.says)) ∧ Below w1.heap.size w1 wx) (fun _ _ vi _ => l.length - (intOf vi).toNat)
  case atStart => exact ⟨rfl, rfl, 0, rfl, Nat.zero_le _, hNE, Below.refl _ _⟩
  case round =>
    clear hNE x0 xl
    obtain ⟨rfl, rfl, i, rfl, hi, hNE, hbx⟩ := hrel
    by_cases hil : i < l.length
    · have hdi : (i : Int) < (l.length : Nat) := by omega
      obtain ⟨t, ht⟩ : ∃ t, l[i]? = some t := ⟨l[i], List.getElem?_eq_getElem hil⟩
      obtain ⟨g, o, rfl, g0, g1, hk⟩ := (h0.up hbx).get ht
      have lg := World.block_lt_of_cell? _ _ g0
      dsimp only at lg
      go_upto_region 4 with (fail)
      have hbs := bnew wr (.cells #[.string t.name, .slice t.A t.rels.length t.c] 46)
      have dT := Bk.new wr #[.string t.name, .slice t.A t.rels.length t.c] 46
      have hbx2 := bthen hbx hbx.size hbs
      have hk2 := hk.up hbs
      clear hbs hk
      generalize wr.alloc (.cells #[.string t.name, .slice t.A t.rels.length t.c] 46) = w4 at *
      have d04 := d0.below hbx2
      obtain ⟨t0, t1⟩ := dT.c2
      have tl := dT.lt
      have hS := namesE_at (L := L) ht
      have hlr : (t.rels.length : Int) ≤ 9223372036854775807 := by have := hk2.rels.cap; have := hk2.rels.capm; simp only [maxLen] at this; omega
      have hRE : Hid (namesRE L t.says (t.rels.map RelA.says) = namesRE L t.says ((t.rels.drop 0).map RelA.says)) := Lib.hid rfl
      generalize namesRE L t.says (t.rels.map RelA.says) = RE at *
      obtain ⟨tA, htA⟩ : ∃ tA, t.A = tA := ⟨_, rfl⟩
      rw [htA] at dT t1 ⊢
      go_wp2_with fail
      clear hbx g0 g1 lg t0 t1 tl
      generalize wr.heap.size = B5 at *
      go_loopw [2, 3, 18] (fun ve va vi wx => ve = .int .i64 0 ∧ va = .string ⟨#[]⟩ ∧ ∃ i : Nat, vi = .int .i64 i ∧ i ≤ t.rels.length ∧ Hid (RE = namesRE L t.says ((t.rels.drop i).map RelA.says)) ∧ Below w4.heap.size w4 wx) (fun _ _ vi _ => t.rels.length - (intOf vi).toNat)
      case atStart => exact ⟨rfl, rfl, 0, rfl, Nat.zero_le _, hRE, Below.refl _ _⟩
      case round =>
        clear hRE
        obtain ⟨rfl, rfl, j, rfl, hj, hRE, hby⟩ := hrel
        by_cases hjl : j < t.rels.length
        · have hdj : (j : Int) < (t.rels.length : Nat) := by omega
          obtain ⟨r, hr⟩ : ∃ r, t.rels[j]? = some r := ⟨t.rels[j], List.getElem?_eq_getElem hjl⟩
          obtain ⟨gr, o', eA, r0, r1, r2, r3, r4, r5, hkr⟩ := (hk2.up hby).get hr
          have lgr := World.block_lt_of_cell? _ _ r0
          dsimp only at lgr
          rw [htA] at eA
          subst eA
          go_upto_region 7 with (fail)
          have hbs := bnew wr (.cells #[.string r.name, .string r.view, .string r.edit, .string r.check, .slice r.As r.subs.length r.cs, .slice r.Ao r.ops.length r.co] 36)
          have dR := Bk.new wr #[.string r.name, .string r.view, .string r.edit, .string r.check, .slice r.As r.subs.length r.cs, .slice r.Ao r.ops.length r.co] 36
          have hby2 := bthen hby hby.size hbs
          have hkr2 := hkr.up hbs
          clear hbs hkr hby r0 r1 r2 r3 r4 r5 lgr
          generalize wr.alloc (.cells #[.string r.name, .string r.view, .string r.edit, .string r.check, .slice r.As r.subs.length r.cs, .slice r.Ao r.ops.length r.co] 36) = w5 at *
          generalize wr.heap.size = B7 at *
          obtain ⟨r0, r1, r2, r3, r4, r5⟩ := dR.c6
          have rl := dR.lt
          have e4 := dT.below hby2
          obtain ⟨t0, t1⟩ := e4.c2
          have tl := e4.lt
          have e0 := d04.below hby2
          have x0 := e0.c1
          have xl := e0.lt
          have hcn := relNames_any ((h0.up hbx2).up hby2) (hk2.up hby2) hkr2
          rw [htA, hL.out] at hcn
          have hS2 := namesRE_at (l := L) (t := t.says) hr
          generalize namedE L t.says r.says = k at *
          by_cases hk0 : k = 0
          · subst hk0
            rw [if_neg (by decide)] at hS2
            replace hS2 := Lib.hid hS2
            simp only [show ((0 : Nat) : Int) = 0 from rfl] at hcn
            go_wp2_with ((with_reducible refine hcn.mono ?_); rintro e w6 ⟨rfl, hb6⟩)
            refine ⟨⟨rfl, rfl, j + 1, by go_num, by omega, Lib.hid (by rw [hRE.out, hS2.out]), bthen hby2 hby2.size hb6⟩, ?_⟩
            simp [intOf]; omega
          · have hki : ¬ ((k : Nat) : Int) = 0 := by omega
            rw [if_pos hk0] at hS2
            replace hS2 := Lib.hid hS2
            go_wp2_with ((with_reducible refine hcn.mono ?_); rintro e w6 ⟨rfl, hb6⟩; have dR6 := dR.below hb6; have dT6 := e4.below hb6; have p4 := dT6.c2.1; have p5 := dT6.c2.2; have pl := dT6.lt; obtain ⟨s0, s1, s2, s3, s4, s5⟩ := dR6.c6; have sl := dR6.lt)
            have hpc := path_any (w := w6) (q := t) (r := r) (Nat.le_trans hk2.name hR) (Nat.le_trans hkr2.name hR)
            rw [htA] at hpc
            refine hpc.mono ?_
            rintro e w8 ⟨rfl, hb8⟩
            go_wp2_with fail
            rw [Exit.noGoto_ret]
            refine bodyPost_ret (v := .tuple #[.int .i64 (k : Nat), .string (pathS t.says r.says)]) (by simp [results, Try.results19, go_sem]; try rfl) rfl ?_
            refine ⟨?_, bthen hb0 hb0.size (bthen hbx2 hbx2.size (bthen hby2 hby2.size (bthen hb6 hb6.size hb8)))⟩
            have hne : RE.1 ≠ 0 := by rw [hRE.out, hS2.out]; exact hk0
            rw [hNE.out, hS, if_pos hne, hRE.out, hS2.out]
        · obtain rfl : j = t.rels.length := by omega
          have hRE0 : RE = (0, ⟨#[]⟩) := by
            rw [hRE.out, List.drop_length]
            rfl
          subst hRE0
          rw [if_neg (show ¬ ((0, ⟨#[]⟩) : Nat × ByteArray).1 ≠ 0 by decide)] at hS
          replace hS := Lib.hid hS
          go_wp2
          refine ⟨⟨rfl, rfl, i + 1, by go_num, by omega, Lib.hid (by rw [hNE.out, hS.out]), bthen hbx2 hbx2.size hby⟩, ?_⟩
          simp [intOf]; omega
    · have hdi : ¬ (i : Int) < (l.length : Nat) := by omega
      obtain rfl : i = l.length := by omega
      go_wp2
      refine bodyPost_ret (v := .tuple #[.int .i64 0, .string ⟨#[]⟩]) (by simp [results, Try.results19, go_sem]; try rfl) rfl ?_
      refine ⟨?_, bthen hb0 hb0.size hbx⟩
      rw [hNE.out, List.drop_length]
      rfl
set_option maxRecDepth 100000 in
set_option maxHeartbeats 1000000 in
theorem check_any {w : World} {R : Nat} {A : Option Addr} {c : Nat} {l : List TypA} (h : SchA w R A c l) (hR : R ≤ 140737488351232) :
    Calls Try.prog 11 #[.agg #[.slice A l.length c]] w fun e w' =>
      e = .returned (.tuple #[.int .i64 ((checkE (l.map TypA.says)).1 : Nat), .string (checkE (l.map TypA.says)).2]) ∧ Below w.heap.size w w' := by
  have hb0 := bnew w (.cells #[.slice A l.length c] 24)
  have d0 := Bk.new w #[.slice A l.length c] 24
  have h0 := h.up hb0
  have hC : checkE (l.map TypA.says) = if 8 < l.length then (13, ⟨#[]⟩) else if (typsE [] (l.map TypA.says)).1 ≠ 0 then typsE [] (l.map TypA.says) else namesE (l.map TypA.says) (l.map TypA.says) := by
    unfold checkE
    rw [List.length_map]
  by_cases h8 : 8 < l.length
  · have hdi : (8 : Int) < (l.length : Nat) := by omega
    rw [if_pos h8] at hC
    rw [hC]
    go_enter Try.func11, Try.ntmps11
    go_wp2
    refine bodyPost_ret (v := .tuple #[.int .i64 13, .string ⟨#[]⟩]) (by simp [results, Try.results11, go_sem]; try rfl) rfl ?_
    exact ⟨rfl, hb0⟩
  · have hdi : ¬ (8 : Int) < (l.length : Nat) := by omega
    rw [if_neg h8] at hC
    have k1 := partsFault_any h0 hR
    generalize typsE [] (l.map TypA.says) = T at *
    by_cases hT : T.1 ≠ 0
    · rw [if_pos hT] at hC
      rw [hC]
      have hki : ¬ ((T.1 : Nat) : Int) = 0 := by omega
      clear hC
      go_enter Try.func11, Try.ntmps11
      go_wp2_with (with_reducible refine k1.mono ?_; rintro e w2 ⟨rfl, hb2⟩)
      refine bodyPost_ret (v := .tuple #[.int .i64 (T.1 : Nat), .string T.2]) (by simp [results, Try.results11, go_sem]; try rfl) rfl ?_
      exact ⟨rfl, bthen hb0 hb0.size hb2⟩
    · rw [if_neg hT] at hC
      rw [hC]
      have hT0 : T.1 = 0 := by omega
      rw [hT0] at k1
      simp only [show ((0 : Nat) : Int) = 0 from rfl] at k1
      clear hC hT
      go_enter Try.func11, Try.ntmps11
      go_wp2_with (with_reducible refine k1.mono ?_; rintro e w2 ⟨rfl, hb2⟩; have d2 := d0.below hb2; have x0 := d2.c1; have xl := d2.lt)
      refine (namesFault_any (h0.up hb2) hR).mono ?_
      rintro e w3 ⟨rfl, hb3⟩
      go_wp2
      refine bodyPost_ret (v := .tuple #[.int .i64 ((namesE (l.map TypA.says) (l.map TypA.says)).1 : Nat), .string (namesE (l.map TypA.says) (l.map TypA.says)).2]) (by simp [results, Try.results11, go_sem]; try rfl) rfl ?_
      exact ⟨rfl, bthen hb0 hb0.size (bthen hb2 hb2.size hb3)⟩
end Go.Proofs.Ytpiihfffhjmabaa
