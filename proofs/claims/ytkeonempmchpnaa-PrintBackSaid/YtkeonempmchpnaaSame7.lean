/- Layer 7: the document's own comparison says true of what reads as the same. Conditions: lists aren't too long. -/
import Derived.BigQuiet
import Derived.Deep.QuietTactic
import Derived.Test.YtkeonempmchpnaaOf
namespace Go.Proofs.Ytkeonempmchpnaa
open Go.RowKit

set_option maxRecDepth 100000 in
set_option maxHeartbeats 4000000 in
theorem sameOps_any {w : World} {B B2 : Nat} {va vb : Value} {l : List OpP} (ha : DVOps B w va l) (hb : DVOps B2 w vb l) (hl : l.length ≤ 1000000) :
    Calls Try.prog 28 #[va, vb] w fun e w' => e = .returned (.bool true) ∧ Below w.heap.size w w' := by
  obtain ⟨A1, c1, rfl, _⟩ := Rd.own ha
  obtain ⟨A2, c2, rfl, _⟩ := Rd.own hb
  go_enter Try.func28, Try.ntmps28
  go_wp2_with fail
  go_loopw [5] (fun vi wx => ∃ i : Nat, vi = .int .i64 i ∧ i ≤ l.length ∧ Below w.heap.size w wx) (fun vi _ => l.length - (intOf vi).toNat)
  case atStart => exact ⟨0, rfl, Nat.zero_le _, Below.refl _ _⟩
  case round =>
    obtain ⟨i, rfl, hi, hbx⟩ := hrel
    by_cases hil : i < l.length
    · have hdi : (i : Int) < (l.length : Nat) := by omega
      obtain ⟨o, ho⟩ : ∃ o, l[i]? = some o := ⟨l[i], List.getElem?_eq_getElem hil⟩
      have hax : DVOps B _ _ _ := own_below ha hbx
      have hbx2 : DVOps B2 _ _ _ := own_below hb hbx
      obtain ⟨g, c, e1, o0, o1, o2⟩ := hax.get ho
      cases e1
      obtain ⟨g2, c', e1, q0, q1, q2⟩ := hbx2.get ho
      cases e1
      clear hax hbx2
      go_wp2
      go_quiet (fail)
      go_wp2
      refine ⟨⟨i + 1, by go_num, by omega, hbx.trans ⟨rfl, rfl, rfl, Nat.le_refl _, fun _ _ => rfl⟩⟩, ?_⟩
      simp [intOf]; omega
    · have hdi : ¬ ((i : Int) < (l.length : Nat)) := by omega
      go_wp2
      go_ret
      exact ⟨rfl, hbx⟩
set_option maxRecDepth 100000 in
set_option maxHeartbeats 4000000 in
theorem same_any {w : World} {B B2 : Nat} {va vb : Value} {T : List TypP} (ha : DVTyps B w va T) (hb : DVTyps B2 w vb T) (hf : Few 1000000 T) :
    Calls Try.prog 11 #[va, vb] w fun e w' => e = .returned (.bool true) ∧ Below w.heap.size w w' := by
  have hT := hf.1
  have HF := Lib.hid hf.2
  clear hf
  have hA : ∃ A1 c1, va = .slice A1 T.length c1 := by
    obtain ⟨A', c', e1, _⟩ := Rd.own ha.choose_spec.1
    exact ⟨A', c', e1⟩
  have hA2 : ∃ A1 c1, vb = .slice A1 T.length c1 := by
    obtain ⟨A', c', e1, _⟩ := Rd.own hb.choose_spec.1
    exact ⟨A', c', e1⟩
  obtain ⟨A1, c1, rfl⟩ := hA
  obtain ⟨A2, c2, rfl⟩ := hA2
  go_enter Try.func11, Try.ntmps11
  go_wp2_with fail
  go_loopw [5] (fun vi wx => ∃ i : Nat, vi = .int .i64 i ∧ i ≤ T.length ∧ Below w.heap.size w wx) (fun vi _ => T.length - (intOf vi).toNat)
  case atStart => exact ⟨0, rfl, Nat.zero_le _, Below.refl _ _⟩
  case round =>
    obtain ⟨i, rfl, hi, hbx⟩ := hrel
    by_cases hil : i < T.length
    · have hdi : (i : Int) < (T.length : Nat) := by omega
      obtain ⟨t, ht⟩ : ∃ t, T[i]? = some t := ⟨T[i], List.getElem?_eq_getElem hil⟩
      have hft := HF.out t (List.mem_of_getElem? ht)
      have hR1 := hft.1
      have hax := ha.below hbx
      have hbx2 := hb.below hbx
      obtain ⟨g, c3, vr, e1, hr, g0, g1⟩ := hax.get ht
      cases e1
      obtain ⟨g2, c4, vr2, e1, hr2, k0, k1⟩ := hbx2.get ht
      cases e1
      have hR : ∃ A1 c1, vr = .slice A1 t.rels.length c1 := by
        obtain ⟨A', c', e1, _⟩ := Rd.own hr.choose_spec.1
        exact ⟨A', c', e1⟩
      have hR2 : ∃ A1 c1, vr2 = .slice A1 t.rels.length c1 := by
        obtain ⟨A', c', e1, _⟩ := Rd.own hr2.choose_spec.1
        exact ⟨A', c', e1⟩
      obtain ⟨Ar, cr, rfl⟩ := hR
      obtain ⟨Ar2, cr2, rfl⟩ := hR2
      clear hax hbx2
      go_wp2
      go_quiet (fail)
      go_wp2
      have hbq : Below wr.heap.size wr (wr.drewN nq) := ⟨rfl, rfl, rfl, Nat.le_refl _, fun _ _ => rfl⟩
      replace hbx := hbx.trans (hbq.mono hbx.size)
      replace hr : DVRels B _ _ _ := DVRels.keep (dkeeps3_below hbq) hr
      replace hr2 : DVRels B2 _ _ _ := DVRels.keep (dkeeps3_below hbq) hr2
      replace g1 := cell_under g1 hbq
      replace k1 := cell_under k1 hbq
      clear hbq g0 k0
      generalize wr.drewN nq = wx at *
      go_loopw [6] (fun vk wy => ∃ k : Nat, vk = .int .i64 k ∧ k ≤ t.rels.length ∧ Below wx.heap.size wx wy) (fun vk _ => t.rels.length - (intOf vk).toNat)
      case atStart => exact ⟨0, rfl, Nat.zero_le _, Below.refl _ _⟩
      case round =>
        obtain ⟨k, rfl, hk, hby⟩ := hrel
        have u1 := cell_under g1 hby
        have u2 := cell_under k1 hby
        have lu1 := World.block_lt_of_cell? _ _ u1
        have lu2 := World.block_lt_of_cell? _ _ u2
        dsimp only at lu1 lu2
        have hry : DVRels B _ _ _ := DVRels.keep (dkeeps3_below hby) hr
        have hry2 : DVRels B2 _ _ _ := DVRels.keep (dkeeps3_below hby) hr2
        by_cases hkl : k < t.rels.length
        · have hdk : (k : Int) < (t.rels.length : Nat) := by omega
          obtain ⟨x, hx⟩ : ∃ x, t.rels[k]? = some x := ⟨t.rels[k], List.getElem?_eq_getElem hkl⟩
          obtain ⟨hfs, hfo⟩ := hft.2 x (List.mem_of_getElem? hx)
          obtain ⟨gr, c5, vs, vo, e1, hs, ho, r0, r1, r2, r3, r4, r5⟩ := hry.get hx
          cases e1
          obtain ⟨gr2, c6, vs2, vo2, e1, hs2, ho2, v0, v1, v2, v3, v4, v5⟩ := hry2.get hx
          cases e1
          obtain ⟨As1, cs1, rfl, _⟩ := Rd.own hs
          obtain ⟨Ao1, co1, rfl, _⟩ := Rd.own ho
          obtain ⟨As2, cs2, rfl, _⟩ := Rd.own hs2
          obtain ⟨Ao2, co2, rfl, _⟩ := Rd.own ho2
          clear hry hry2
          have lr1 := World.block_lt_of_cell? _ _ r0
          have lr2 := World.block_lt_of_cell? _ _ v0
          dsimp only at lr1 lr2
          go_wp2_with fail
          have hX0 := (Bk.new wr #[.string x.name, .string x.view, .string x.edit, .string x.check, .slice As1 x.subs.length cs1, .slice Ao1 x.ops.length co1] 50).alloc (.cells #[.string x.name, .string x.view, .string x.edit, .string x.check, .slice As2 x.subs.length cs2, .slice Ao2 x.ops.length co2] 50)
          have hY0 := Bk.new2 wr (.cells #[.string x.name, .string x.view, .string x.edit, .string x.check, .slice As1 x.subs.length cs1, .slice Ao1 x.ops.length co1] 50) #[.string x.name, .string x.view, .string x.edit, .string x.check, .slice As2 x.subs.length cs2, .slice Ao2 x.ops.length co2] 50
          have hbz0 : Below wr.heap.size wr ((wr.alloc (.cells #[.string x.name, .string x.view, .string x.edit, .string x.check, .slice As1 x.subs.length cs1, .slice Ao1 x.ops.length co1] 50)).alloc (.cells #[.string x.name, .string x.view, .string x.edit, .string x.check, .slice As2 x.subs.length cs2, .slice Ao2 x.ops.length co2] 50)) := ((Below.refl _ wr).alloc (Nat.le_refl _) _).alloc (size_alloc (Nat.le_refl _)) _
          replace ho : DVOps B _ _ _ := own_below ho hbz0
          replace ho2 : DVOps B2 _ _ _ := own_below ho2 hbz0
          replace hs : DVSubs B _ _ _ := own_below hs hbz0
          replace hs2 : DVSubs B2 _ _ _ := own_below hs2 hbz0
          generalize (wr.alloc (.cells #[.string x.name, .string x.view, .string x.edit, .string x.check, .slice As1 x.subs.length cs1, .slice Ao1 x.ops.length co1] 50)).alloc (.cells #[.string x.name, .string x.view, .string x.edit, .string x.check, .slice As2 x.subs.length cs2, .slice Ao2 x.ops.length co2] 50) = wz0 at *
          refine (sameOps_any ho ho2 hfo).mono ?_
          rintro e w5 ⟨rfl, hb5⟩
          have hX := hX0.below hb5
          have hY := hY0.below hb5
          have hbz := hbz0.trans (hb5.mono hbz0.size)
          replace hs : DVSubs B _ _ _ := own_below hs hb5
          replace hs2 : DVSubs B2 _ _ _ := own_below hs2 hb5
          have p0 : World.cell? _ ⟨wr.heap.size, 0, none⟩ = some (.string x.name) := hX.cell 0
          have p1 : World.cell? _ ⟨wr.heap.size, 1, none⟩ = some (.string x.view) := hX.cell 1
          have p2 : World.cell? _ ⟨wr.heap.size, 2, none⟩ = some (.string x.edit) := hX.cell 2
          have p3 : World.cell? _ ⟨wr.heap.size, 3, none⟩ = some (.string x.check) := hX.cell 3
          have p4 : World.cell? _ ⟨wr.heap.size, 4, none⟩ = some (.slice As1 x.subs.length cs1) := hX.cell 4
          have q0 : World.cell? _ ⟨wr.heap.size + 1, 0, none⟩ = some (.string x.name) := hY.cell 0
          have q1 : World.cell? _ ⟨wr.heap.size + 1, 1, none⟩ = some (.string x.view) := hY.cell 1
          have q2 : World.cell? _ ⟨wr.heap.size + 1, 2, none⟩ = some (.string x.edit) := hY.cell 2
          have q3 : World.cell? _ ⟨wr.heap.size + 1, 3, none⟩ = some (.string x.check) := hY.cell 3
          have q4 : World.cell? _ ⟨wr.heap.size + 1, 4, none⟩ = some (.slice As2 x.subs.length cs2) := hY.cell 4
          have lX := hX.lt
          have lY := hY.lt
          clear hX0 hY0 hbz0 hb5 ho ho2 r0 r1 r2 r3 r4 r5 v0 v1 v2 v3 v4 v5 lr1 lr2
          go_wp2_with fail
          clear p0 p1 p2 p3 q0 q1 q2 q3 p4 q4
          go_loopw [10] (fun vj wz => ∃ j : Nat, vj = .int .i64 j ∧ j ≤ x.subs.length ∧ Below w5.heap.size w5 wz) (fun vj _ => x.subs.length - (intOf vj).toNat)
          case atStart => exact ⟨0, rfl, Nat.zero_le _, Below.refl _ _⟩
          case round =>
            obtain ⟨j, rfl, hj, hb6⟩ := hrel
            have hXz := hX.below hb6
            have hYz := hY.below hb6
            have p4 : World.cell? _ ⟨_, 4, none⟩ = some (.slice As1 x.subs.length cs1) := hXz.cell 4
            have q4 : World.cell? _ ⟨_, 4, none⟩ = some (.slice As2 x.subs.length cs2) := hYz.cell 4
            have lXz := hXz.lt
            have lYz := hYz.lt
            by_cases hjl : j < x.subs.length
            · have hdj : (j : Int) < (x.subs.length : Nat) := by omega
              obtain ⟨o, hoj⟩ : ∃ o, x.subs[j]? = some o := ⟨x.subs[j], List.getElem?_eq_getElem hjl⟩
              have hsz : DVSubs B _ _ _ := own_below hs hb6
              have hsz2 : DVSubs B2 _ _ _ := own_below hs2 hb6
              obtain ⟨gs, c7, e1, o0, o1⟩ := hsz.get hoj
              cases e1
              obtain ⟨gs2, c8, e1, m0, m1⟩ := hsz2.get hoj
              cases e1
              clear hsz hsz2
              go_wp2
              go_quiet (fail)
              go_wp2
              refine ⟨⟨j + 1, by go_num, by omega, hb6.trans ⟨rfl, rfl, rfl, Nat.le_refl _, fun _ _ => rfl⟩⟩, ?_⟩
              simp [intOf]; omega
            · have hdj : ¬ ((j : Int) < (x.subs.length : Nat)) := by omega
              go_wp2
              refine ⟨⟨k + 1, by go_num, by omega, (hby.trans (hbz.mono hby.size)).trans (hb6.mono (Nat.le_trans hby.size hbz.size))⟩, ?_⟩
              simp [intOf]; omega
        · have hdk : ¬ ((k : Int) < (t.rels.length : Nat)) := by omega
          go_wp2_with fail
          refine ⟨⟨i + 1, by go_num, by omega, hbx.trans (hby.mono hbx.size)⟩, ?_⟩
          simp [intOf]; omega
    · have hdi : ¬ ((i : Int) < (T.length : Nat)) := by omega
      go_wp2
      go_ret
      exact ⟨rfl, hbx⟩
end Go.Proofs.Ytkeonempmchpnaa
