/- Layer 9: the document's own Check, walked. Conditions: names aren't longer than memory. -/
import Derived.BigQuiet
import Derived.Deep.QuietTactic
import Derived.Deep.Cut
import Derived.Deep.DeepCutAuto
import Derived.IntWalk
import Derived.StillTailTactics
import Derived.WalkMore
import Derived.Test.YtpiihfffhjmabaaRefN9
import Derived.Test.YtpiihfffhjmabaaPartsW
namespace Go.Proofs.Ytpiihfffhjmabaa
open Go.RowKit

theorem tyE_any {l : List TypA} {t : TypA} : tyE l t = if l.any (fun x => decide (x.name = t.name)) = true then 32 else if 12 < t.rels.length then 13 else 0 := by
  unfold tyE firstA
  rw [find_any_some]
theorem reE_any {A : Option Addr} {c : Nat} {q : List RelA} {r : RelA} : reE ⟨⟨#[]⟩, A, c, q⟩ r = if q.any (fun x => decide (x.name = r.name)) = true then 32 else if 16 < r.ops.length then 13 else 0 := by
  unfold reE firstRA
  rw [find_any_some]
theorem path_says (t : TypA) (r : RelA) : pathS t.says r.says = t.name ++ ⟨#[46]⟩ ++ r.name := rfl
set_option maxRecDepth 100000 in
set_option maxHeartbeats 2000000 in
theorem check9_any {w : World} {R : Nat} {A : Option Addr} {c : Nat} {l : List TypA} (h : SchA w R A c l) (hR : R ≤ 140737488351232) :
    Calls Try.prog 12 #[.slice A l.length c] w fun e w' =>
      e = .returned (.tuple #[.int .i64 ((checkE (l.map TypA.says)).1 : Nat), .string (checkE (l.map TypA.says)).2]) ∧ Below w.heap.size w w' := by
  have hll : (l.length : Int) ≤ 9223372036854775807 := by have := h.rows.cap; have := h.rows.capm; simp only [maxLen] at this; omega
  obtain ⟨L, hL⟩ : ∃ L, l.map TypA.says = L := ⟨_, rfl⟩
  have hC : checkE (l.map TypA.says) = if 8 < l.length then (13, ⟨#[]⟩) else if (typsE [] (l.map TypA.says)).1 ≠ 0 then typsE [] (l.map TypA.says) else namesE L (l.map TypA.says) := by
    unfold checkE
    rw [List.length_map, hL]
  generalize checkE (l.map TypA.says) = CE at *
  by_cases h8 : 8 < l.length
  · have hdi : (8 : Int) < (l.length : Nat) := by omega
    rw [if_pos h8] at hC
    subst hC
    go_enter Try.func12, Try.ntmps12
    go_wp2
    refine bodyPost_ret (v := .tuple #[.int .i64 13, .string ⟨#[]⟩]) (by simp [results, Try.results12, go_sem]; try rfl) rfl ?_
    exact ⟨rfl, Below.refl _ _⟩
  · have hdi : ¬ (8 : Int) < (l.length : Nat) := by omega
    rw [if_neg h8] at hC
    have hNE : Hid (typsE [] (l.map TypA.says) = typsE ((l.take 0).map TypA.says) ((l.drop 0).map TypA.says)) := Lib.hid rfl
    generalize typsE [] (l.map TypA.says) = NE at *
    have hNM : Hid (namesE L (l.map TypA.says) = namesE L ((l.drop 0).map TypA.says)) := Lib.hid rfl
    generalize namesE L (l.map TypA.says) = NM at *
    replace hC := Lib.hid hC
    replace hL := Lib.hid hL
    go_enter Try.func12, Try.ntmps12
    go_wp2_with fail
    clear hdi
    go_loopw [4] (fun vi wx => ∃ i : Nat, vi = .int .i64 i ∧ i ≤ l.length ∧ Hid (NE = typsE ((l.take i).map TypA.says) ((l.drop i).map TypA.says)) ∧ Below w.heap.size w wx) (fun vi _ => l.length - (intOf vi).toNat)
    case atStart => exact ⟨0, rfl, Nat.zero_le _, hNE, Below.refl _ _⟩
    case round =>
      clear hNE
      obtain ⟨i, rfl, hi, hNE, hbx⟩ := hrel
      by_cases hil : i < l.length
      · have hdi : (i : Int) < (l.length : Nat) := by omega
        obtain ⟨t, ht⟩ : ∃ t, l[i]? = some t := ⟨l[i], List.getElem?_eq_getElem hil⟩
        have hx := h.up hbx
        obtain ⟨g, o, rfl, g0, g1, hk⟩ := hx.get ht
        have lg := World.block_lt_of_cell? _ _ g0
        dsimp only at lg
        have hS := typsE_at ht
        rw [tyE_any] at hS
        go_wp2_with fail
        refine (type9_any hx t.name).mono ?_
        rintro e w2 ⟨⟨z, rfl, hz⟩, hb2⟩
        have hzb := hz.ahead ht (decide_eq_true rfl)
        clear hz hx
        replace hbx := bthen hbx hbx.size hb2
        replace g0 := cell_under g0 hb2
        replace g1 := cell_under g1 hb2
        replace hk := hk.up hb2
        replace lg : g < w2.heap.size := Nat.lt_of_lt_of_le lg hb2.size
        clear hb2
        generalize (l.take i).any (fun x => decide (x.name = t.name)) = tb at *
        cases tb with
        | true =>
          replace hzb := of_decide_eq_true hzb
          rw [if_pos rfl, if_pos (by decide)] at hS
          replace hS := Lib.hid hS
          go_wp2_with fail
          go_quiet (fail)
          go_wp2
          refine bodyPost_ret (v := .tuple #[.int .i64 32, .string t.name]) (by simp [results, Try.results12, go_sem]; try rfl) rfl ?_
          refine ⟨?_, bthen hbx hbx.size (bdrew w2 nq)⟩
          rw [hC.out, hNE.out, hS.out]
          rfl
        | false =>
          replace hzb := of_decide_eq_false hzb
          rw [if_neg (show ¬ (false = true) by decide)] at hS
          by_cases h12 : 12 < t.rels.length
          · have h12i : (12 : Int) < (t.rels.length : Nat) := by omega
            rw [if_pos h12, if_pos (by decide)] at hS
            replace hS := Lib.hid hS
            go_wp2_with fail
            go_quiet (fail)
            go_wp2
            refine bodyPost_ret (v := .tuple #[.int .i64 13, .string t.name]) (by simp [results, Try.results12, go_sem]; try rfl) rfl ?_
            refine ⟨?_, bthen hbx hbx.size (bdrew w2 nq)⟩
            rw [hC.out, hNE.out, hS.out]
            rfl
          · have h12i : ¬ (12 : Int) < (t.rels.length : Nat) := by omega
            rw [if_neg h12, if_neg (by decide)] at hS
            have hRE : Hid (relsE t.says [] (t.rels.map RelA.says) = relsE t.says ((t.rels.take 0).map RelA.says) ((t.rels.drop 0).map RelA.says)) := Lib.hid rfl
            generalize relsE t.says [] (t.rels.map RelA.says) = RE at *
            replace hS := Lib.hid hS
            go_wp2_with fail
            obtain ⟨tA, htA⟩ : ∃ tA, t.A = tA := ⟨_, rfl⟩
            rw [htA] at g1 ⊢
            clear hzb h12i
            go_loopw [5] (fun vi wx => ∃ i : Nat, vi = .int .i64 i ∧ i ≤ t.rels.length ∧ Hid (RE = relsE t.says ((t.rels.take i).map RelA.says) ((t.rels.drop i).map RelA.says)) ∧ Below w2.heap.size w2 wx) (fun vi _ => t.rels.length - (intOf vi).toNat)
            case atStart => exact ⟨0, rfl, Nat.zero_le _, hRE, Below.refl _ _⟩
            case round =>
              clear hRE
              obtain ⟨j, rfl, hj, hRE, hby⟩ := hrel
              have hby2 := bthen hbx hbx.size hby
              have t0 := cell_under g0 hby
              have t1 := cell_under g1 hby
              have tl : g < wr.heap.size := Nat.lt_of_lt_of_le lg hby.size
              by_cases hjl : j < t.rels.length
              · have hdj : (j : Int) < (t.rels.length : Nat) := by omega
                obtain ⟨r, hr⟩ : ∃ r, t.rels[j]? = some r := ⟨t.rels[j], List.getElem?_eq_getElem hjl⟩
                obtain ⟨gr, o', eA, r0, r1, r2, r3, r4, r5, hkr⟩ := (hk.up hby).get hr
                have lgr := World.block_lt_of_cell? _ _ r0
                dsimp only at lgr
                rw [htA] at eA
                subst eA
                go_upto_region 14 with (fail)
                have hbs := bnew wr (.cells #[.string r.name, .string r.view, .string r.edit, .string r.check, .slice r.As r.subs.length r.cs, .slice r.Ao r.ops.length r.co] 50)
                have dR := Bk.new wr #[.string r.name, .string r.view, .string r.edit, .string r.check, .slice r.As r.subs.length r.cs, .slice r.Ao r.ops.length r.co] 50
                have hby3 := bthen hby hby.size hbs
                have hkr2 := hkr.up hbs
                clear hby hby2 hkr r0 r1 r2 r3 r4 r5 lgr t0 t1 tl hbs
                generalize wr.alloc (.cells #[.string r.name, .string r.view, .string r.edit, .string r.check, .slice r.As r.subs.length r.cs, .slice r.Ao r.ops.length r.co] 50) = wq at *
                generalize wr.heap.size = B7 at *
                have t0 := cell_under g0 hby3
                have t1 := cell_under g1 hby3
                have tl : g < wq.heap.size := Nat.lt_of_lt_of_le lg hby3.size
                obtain ⟨r0, r1, r2, r3, r4, r5⟩ := dR.c6
                have rl := dR.lt
                have hS2 := relsE_at (A := some ⟨gr, o', none⟩) (c := t.c) (t := t.says) hr
                rw [reE_any, path_says] at hS2
                have hkq := Lib.hid (fun (W : World) (hW : Below wq.heap.size wq W) => (hk.up (bthen hby3 hby3.size hW)))
                go_cut [71] from 63 to 71 (fun b wc => ∃ bz : Bool, b = .bool bz ∧ bz = (t.rels.take j).any (fun x => decide (x.name = r.name)) ∧ Below wq.heap.size wq wc)
                case first =>
                  have hSc : ∀ W : World, Below wq.heap.size wq W → W.cell? ⟨g, o + i * 2, none⟩ = some (.string t.name) ∧ W.cell? ⟨g, o + i * 2 + 1, none⟩ = some (.slice (some ⟨gr, o', none⟩) t.rels.length t.c) ∧ W.cell? ⟨B7, 0, none⟩ = some (.string r.name) := fun W h => ⟨cell_under t0 h, cell_under t1 h, cell_under r0 h⟩
                  have hS0 : Below wq.heap.size wq wq.drew := (Below.refl _ _).drew
                  refine wp_region_any (by kernel_rfl) ?_
                  change wpAny _ _ _ _ _ _ _ (World.drew _)
                  refine wpAny_of_held (S := fun W => Below wq.heap.size wq W) _ _ _ _ ?_
                  refine roH_take 0 (some 63) (v := ?v0c) rfl rfl (by kernel_rfl) (by kernel_rfl) (by kernel_rfl) (fun _ _ _ h => h) (by rfl) ?y0c (by assumption) ?r0c
                  case y0c => (intro W hS; go_simp; try with_reducible rfl)
                  simp only [Act.put, List.setIfInBounds_toArray, List.set_cons_zero, List.set_cons_succ]
                  refine roH_take 1 (some 64) (v := ?v1c) rfl rfl (by kernel_rfl) (by kernel_rfl) (by kernel_rfl) (fun _ _ _ h => h) (by rfl) ?y1c (by assumption) ?r1c
                  case y1c => (intro W hS; go_simp; try with_reducible rfl)
                  simp only [Act.put, List.setIfInBounds_toArray, List.set_cons_zero, List.set_cons_succ]
                  refine roH_take 2 (some 65) (v := ?v2c) rfl rfl (by kernel_rfl) (by kernel_rfl) (by kernel_rfl) (fun _ _ _ h => h) (by rfl) ?y2c (by assumption) ?r2c
                  case y2c => (intro W hS; obtain ⟨s0, s1, s2⟩ := hSc W hS; go_simp; try with_reducible rfl)
                  simp only [Act.put, List.setIfInBounds_toArray, List.set_cons_zero, List.set_cons_succ]
                  refine roH_take 3 (some 66) (v := ?v3c) rfl rfl (by kernel_rfl) (by kernel_rfl) (by kernel_rfl) (fun _ _ _ h => h) (by rfl) ?y3c (by assumption) ?r3c
                  case y3c => (intro W hS; obtain ⟨s0, s1, s2⟩ := hSc W hS; go_simp; try with_reducible rfl)
                  simp only [Act.put, List.setIfInBounds_toArray, List.set_cons_zero, List.set_cons_succ]
                  refine roH_take 4 (some 67) (v := ?v4c) rfl rfl (by kernel_rfl) (by kernel_rfl) (by kernel_rfl) (fun _ _ _ h => h) (by rfl) ?y4c (by assumption) ?r4c
                  case y4c => (intro W hS; go_simp; try with_reducible rfl)
                  simp only [Act.put, List.setIfInBounds_toArray, List.set_cons_zero, List.set_cons_succ]
                  refine roH_take 5 (some 68) (v := ?v5c) rfl rfl (by kernel_rfl) (by kernel_rfl) (by kernel_rfl) (fun _ _ _ h => h) (by rfl) ?y5c (by assumption) ?r5c
                  case y5c => (intro W hS; obtain ⟨s0, s1, s2⟩ := hSc W hS; go_simp; try with_reducible rfl)
                  simp only [Act.put, List.setIfInBounds_toArray, List.set_cons_zero, List.set_cons_succ]
                  refine roH_take 7 (some 70) (v := ?v7c) rfl rfl (by kernel_rfl) (by kernel_rfl) (by kernel_rfl) (fun _ _ _ h => h) (by rfl) ?y7c (by assumption) ?r7c
                  case y7c => (intro W hS; go_simp; try with_reducible rfl)
                  simp only [Act.put, List.setIfInBounds_toArray, List.set_cons_zero, List.set_cons_succ]
                  have hcn := rel9_any (hkq.out _ hS0) r.name
                  rw [htA] at hcn
                  refine roH_one 6 rfl (by kernel_rfl) ?_
                  intro K hK
                  go_simp
                  refine hcn.mono ?_
                  rintro e w4 ⟨⟨z, rfl, hz⟩, hb4⟩
                  have hzb := hz.ahead hr (decide_eq_true rfl)
                  have hS4 : Below wq.heap.size wq w4 := bthen hS0 hS0.size hb4
                  refine hK _ _ hS4 ?_
                  clear hK K hz hb4
                  refine roH_take 8 (some 71) (v := ?v8c) rfl rfl (by kernel_rfl) (by kernel_rfl) (by kernel_rfl) (fun _ _ _ h => h) (by rfl) ?y8c (by assumption) ?r8c
                  case y8c => (intro W hS; go_simp; try with_reducible rfl)
                  simp only [Act.put, List.setIfInBounds_toArray, List.set_cons_zero, List.set_cons_succ]
                  refine wpAnyH_done (by kernel_rfl) ?_ _
                  go_wp2_with fail
                  go_meet
                  exact ⟨_, rfl, rfl, hS4⟩
                case rest =>
                  obtain ⟨bz, rfl, hbz, hb5⟩ := hcut
                  generalize wc = w5 at *
                  replace hby3 := bthen hby3 hby3.size hb5
                  have dR5 := dR.below hb5
                  clear t0 t1 tl r0 r1 r2 r3 r4 r5 rl dR hkq hb5
                  have t0 := cell_under g0 hby3
                  have t1 := cell_under g1 hby3
                  have tl : g < w5.heap.size := Nat.lt_of_lt_of_le lg hby3.size
                  obtain ⟨r0, r1, r2, r3, r4, r5⟩ := dR5.c6
                  have rl := dR5.lt
                  have z1 : t.name.size ≤ 140737488351232 := Nat.le_trans hk.name hR
                  have z2 : r.name.size ≤ 140737488351232 := Nat.le_trans hkr2.name hR
                  have n1 : ¬ 9223372036854775807 < t.name.size + 1 := by omega
                  have n2 : ¬ 9223372036854775807 < t.name.size + 1 + r.name.size := by omega
                  rw [← hbz] at hS2
                  clear hbz
                  cases bz with
                  | true =>
                    rw [if_pos rfl, if_pos (by decide)] at hS2
                    replace hS2 := Lib.hid hS2
                    go_wp2_with fail
                    go_quiet (fail)
                    go_wp2
                    refine bodyPost_ret (v := .tuple #[.int .i64 32, .string (t.name ++ ⟨#[46]⟩ ++ r.name)]) (by simp [results, Try.results12, go_sem]; try rfl) rfl ?_
                    refine ⟨?_, bthen hbx hbx.size (bthen hby3 hby3.size (bdrew w5 nq))⟩
                    have e1 : RE = (32, t.name ++ ⟨#[46]⟩ ++ r.name) := by rw [hRE.out, hS2.out]
                    have e2 : NE = (32, t.name ++ ⟨#[46]⟩ ++ r.name) := by rw [hNE.out, hS.out, e1]; rfl
                    rw [hC.out, e2]
                    rfl
                  | false =>
                    rw [if_neg (show ¬ (false = true) by decide)] at hS2
                    by_cases h16 : 16 < r.ops.length
                    · have h16i : (16 : Int) < (r.ops.length : Nat) := by omega
                      rw [if_pos h16, if_pos (by decide)] at hS2
                      replace hS2 := Lib.hid hS2
                      go_wp2_with fail
                      go_quiet (fail)
                      go_wp2
                      refine bodyPost_ret (v := .tuple #[.int .i64 13, .string (t.name ++ ⟨#[46]⟩ ++ r.name)]) (by simp [results, Try.results12, go_sem]; try rfl) rfl ?_
                      refine ⟨?_, bthen hbx hbx.size (bthen hby3 hby3.size (bdrew w5 nq))⟩
                      have e1 : RE = (13, t.name ++ ⟨#[46]⟩ ++ r.name) := by rw [hRE.out, hS2.out]
                      have e2 : NE = (13, t.name ++ ⟨#[46]⟩ ++ r.name) := by rw [hNE.out, hS.out, e1]; rfl
                      rw [hC.out, e2]
                      rfl
                    · have h16i : ¬ (16 : Int) < (r.ops.length : Nat) := by omega
                      rw [if_neg h16, if_neg (by decide)] at hS2
                      replace hS2 := Lib.hid hS2
                      go_wp2_with fail
                      refine ⟨⟨j + 1, by go_num, by omega, Lib.hid (by rw [hRE.out, hS2.out]), hby3⟩, ?_⟩
                      simp [intOf]; omega
              · have hdj : ¬ ((j : Int) < (t.rels.length : Nat)) := by omega
                obtain rfl : j = t.rels.length := by omega
                have hRE0 : RE = (0, ⟨#[]⟩) := by
                  rw [hRE.out, List.take_length, List.drop_length]
                  rfl
                have hS' := hS.out
                rw [hRE0, if_neg (show ¬ ((0, ⟨#[]⟩) : Nat × ByteArray).1 ≠ 0 by decide)] at hS'
                replace hS' := Lib.hid hS'
                clear hRE0
                go_wp2_with fail
                refine ⟨⟨i + 1, by go_num, by omega, Lib.hid (by rw [hNE.out, hS'.out]), hby2⟩, ?_⟩
                simp [intOf]; omega
      · have hdi : ¬ (i : Int) < (l.length : Nat) := by omega
        obtain rfl : i = l.length := by omega
        have hNE0 : NE = (0, ⟨#[]⟩) := by
          rw [hNE.out, List.take_length, List.drop_length]
          rfl
        replace hC : Hid (CE = NM) := Lib.hid (by rw [hC.out, hNE0, if_neg (show ¬ ((0, ⟨#[]⟩) : Nat × ByteArray).1 ≠ 0 by decide)])
        clear hNE0 hNE
        go_wp2_with fail
        clear hdi
        have h1 := h.up hbx
        generalize wr = w1 at *
        go_loopw [7] (fun vi wx => ∃ i : Nat, vi = .int .i64 i ∧ i ≤ l.length ∧ Hid (NM = namesE L ((l.drop i).map TypA.says)) ∧ Below w1.heap.size w1 wx) (fun vi _ => l.length - (intOf vi).toNat)
        case atStart => exact ⟨0, rfl, Nat.zero_le _, hNM, Below.refl _ _⟩
        case round =>
          clear hNM
          obtain ⟨i, rfl, hi, hNM, hby⟩ := hrel
          by_cases hil : i < l.length
          · have hdi : (i : Int) < (l.length : Nat) := by omega
            obtain ⟨t, ht⟩ : ∃ t, l[i]? = some t := ⟨l[i], List.getElem?_eq_getElem hil⟩
            obtain ⟨g, o, rfl, g0, g1, hk⟩ := (h1.up hby).get ht
            have lg := World.block_lt_of_cell? _ _ g0
            dsimp only at lg
            have hS := namesE_at (L := L) ht
            have hRE : Hid (namesRE L t.says (t.rels.map RelA.says) = namesRE L t.says ((t.rels.drop 0).map RelA.says)) := Lib.hid rfl
            generalize namesRE L t.says (t.rels.map RelA.says) = RE at *
            replace hS := Lib.hid hS
            go_wp2_with fail
            obtain ⟨tA, htA⟩ : ∃ tA, t.A = tA := ⟨_, rfl⟩
            rw [htA] at g1
            have h2 := h1.up hby
            have hlr : (t.rels.length : Int) ≤ 9223372036854775807 := by have := hk.rels.cap; have := hk.rels.capm; simp only [maxLen] at this; omega
            generalize wr = w2 at *
            go_loopw [8] (fun vi wx => ∃ i : Nat, vi = .int .i64 i ∧ i ≤ t.rels.length ∧ Hid (RE = namesRE L t.says ((t.rels.drop i).map RelA.says)) ∧ Below w2.heap.size w2 wx) (fun vi _ => t.rels.length - (intOf vi).toNat)
            case atStart => exact ⟨0, rfl, Nat.zero_le _, hRE, Below.refl _ _⟩
            case round =>
              clear hRE
              obtain ⟨j, rfl, hj, hRE, hbz⟩ := hrel
              have t0 := cell_under g0 hbz
              have t1 := cell_under g1 hbz
              have tl : g < wr.heap.size := Nat.lt_of_lt_of_le lg hbz.size
              by_cases hjl : j < t.rels.length
              · have hdj : (j : Int) < (t.rels.length : Nat) := by omega
                obtain ⟨r, hr⟩ : ∃ r, t.rels[j]? = some r := ⟨t.rels[j], List.getElem?_eq_getElem hjl⟩
                obtain ⟨gr, o', eA, r0, r1, r2, r3, r4, r5, hkr⟩ := (hk.up hbz).get hr
                have lgr := World.block_lt_of_cell? _ _ r0
                dsimp only at lgr
                rw [htA] at eA
                subst eA
                have hS2 := namesRE_at (l := L) (t := t.says) hr
                rw [path_says] at hS2
                have hbd : Below wr.heap.size wr wr.drew := ⟨rfl, rfl, rfl, Nat.le_refl _, fun _ _ => rfl⟩
                have hbz2 := bthen hbz hbz.size hbd
                have hcn := named9_any (h2.up hbz2) (hk.up hbz2) (hkr.up hbd)
                rw [htA, hL.out] at hcn
                generalize namedE L t.says r.says = k at *
                obtain ⟨As, hAs⟩ : ∃ As, r.As = As := ⟨_, rfl⟩
                obtain ⟨Ao, hAo⟩ : ∃ Ao, r.Ao = Ao := ⟨_, rfl⟩
                rw [hAs] at r4 hcn
                rw [hAo] at r5 hcn
                go_wp2_with fail
                go_still_tail 13, (by kernel_rfl)
                change wpList _ _ _ _ _ (World.drew _)
                have z1 : t.name.size ≤ 140737488351232 := Nat.le_trans hk.name hR
                have z2 : r.name.size ≤ 140737488351232 := Nat.le_trans hkr.name hR
                have n1 : ¬ 9223372036854775807 < t.name.size + 1 := by omega
                have n2 : ¬ 9223372036854775807 < t.name.size + 1 + r.name.size := by omega
                by_cases hk0 : k = 0
                · subst hk0
                  rw [if_neg (by decide)] at hS2
                  replace hS2 := Lib.hid hS2
                  simp only [show ((0 : Nat) : Int) = 0 from rfl] at hcn
                  go_wp2_with ((with_reducible refine hcn.mono ?_); rintro e w6 ⟨rfl, hb6⟩)
                  refine ⟨⟨j + 1, by go_num, by omega, Lib.hid (by rw [hRE.out, hS2.out]), bthen hbz2 hbz2.size hb6⟩, ?_⟩
                  simp [intOf]; omega
                · have hki : ¬ ((k : Nat) : Int) = 0 := by omega
                  rw [if_pos hk0] at hS2
                  replace hS2 := Lib.hid hS2
                  go_wp2_with ((with_reducible refine hcn.mono ?_); rintro e w6 ⟨rfl, hb6⟩; have hbw := hbd.trans hb6; have p0 := cell_under t0 hbw; have p1 := cell_under t1 hbw; have q0 := cell_under r0 hbw; have pl := World.block_lt_of_cell? _ _ p0; dsimp only at pl; have ql := World.block_lt_of_cell? _ _ q0; dsimp only at ql)
                  clear t0 t1 tl r0 r1 r2 r3 r4 r5 lgr
                  go_quiet (fail)
                  go_wp2
                  refine bodyPost_ret (v := .tuple #[.int .i64 (k : Nat), .string (t.name ++ ⟨#[46]⟩ ++ r.name)]) (by simp [results, Try.results12, go_sem]; try rfl) rfl ?_
                  refine ⟨?_, bthen hbx hbx.size (bthen hby hby.size (bthen hbz2 hbz2.size (bthen hb6 hb6.size (bdrew w6 nq))))⟩
                  have e1 : RE = (k, t.name ++ ⟨#[46]⟩ ++ r.name) := by rw [hRE.out, hS2.out]
                  have e2 : NM = (k, t.name ++ ⟨#[46]⟩ ++ r.name) := by rw [hNM.out, hS.out, e1, if_pos hk0]
                  rw [hC.out, e2]
              · have hdj : ¬ ((j : Int) < (t.rels.length : Nat)) := by omega
                obtain rfl : j = t.rels.length := by omega
                have hRE0 : RE = (0, ⟨#[]⟩) := by
                  rw [hRE.out, List.drop_length]
                  rfl
                have hS' := hS.out
                rw [hRE0, if_neg (show ¬ ((0, ⟨#[]⟩) : Nat × ByteArray).1 ≠ 0 by decide)] at hS'
                replace hS' := Lib.hid hS'
                clear hRE0
                go_wp2_with fail
                refine ⟨⟨i + 1, by go_num, by omega, Lib.hid (by rw [hNM.out, hS'.out]), bthen hby hby.size hbz⟩, ?_⟩
                simp [intOf]; omega
          · have hdi : ¬ (i : Int) < (l.length : Nat) := by omega
            obtain rfl : i = l.length := by omega
            have hNM0 : CE = (0, ⟨#[]⟩) := by
              rw [hC.out, hNM.out, List.drop_length]
              rfl
            subst hNM0
            go_wp2
            refine bodyPost_ret (v := .tuple #[.int .i64 0, .string ⟨#[]⟩]) (by simp [results, Try.results12, go_sem]; try rfl) rfl ?_
            exact ⟨rfl, bthen hbx hbx.size hby⟩
end Go.Proofs.Ytpiihfffhjmabaa
