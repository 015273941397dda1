/- StrataLevels walked. Conditions: none. -/
import Derived.BigQuiet
import Derived.Deep.QuietTactic
import Derived.Deep.Cut
import Derived.Deep.DeepCutAuto
import Derived.IntWalk
import Derived.Test.YtinfbimfiaegdaaGreatLvR
import Derived.Test.YtinfbimfiaegdaaGreatCycW
import Derived.Test.YtinfbimfiaegdaaGreatJacW
namespace Go.Proofs.YtinfbimfiaegdaaGreat
open Go.RowKit

set_option maxRecDepth 100000 in
set_option maxHeartbeats 1000000 in
theorem strataLevels_walk (x : Int) (A : Option Addr) (c : Nat) (l : List Ed) (w : World) (hx : (Lit.int .u8 x).wf = true) (h : Rd w w.heap.size 3 A l.length c (ecells l)) :
    Calls Tryz.prog 4 #[.int .u8 x, .slice A l.length c] w fun e w' => e = .returned (.bool true) ∧ Below w.heap.size w w' := by
  obtain ⟨n, rfl⟩ : ∃ n : Nat, x = (n : Int) := by
    simp [Lit.wf, IntKind.min, IntKind.max, IntKind.bits, IntKind.signed] at hx
    exact ⟨x.toNat, by omega⟩
  have hn : n ≤ 255 := by
    simp [Lit.wf, IntKind.min, IntKind.max, IntKind.bits, IntKind.signed] at hx
    omega
  have hmod : ((n : Int)).tmod 16 = ((n % 16 : Nat) : Int) := rfl
  obtain ⟨k, hk⟩ : ∃ k, n % 16 = k := ⟨_, rfl⟩
  have hk16 : k < 16 := by omega
  rw [hk] at hmod
  have ka := awake10_any w
  by_cases hl : 60 < l.length
  · have hl' : (l.length : Int) > 60 := by omega
    go_enter Tryz.func4, Tryz.ntmps4
    go_wp2_with (go_at_call 6; refine ka.mono ?_; rintro e w1 ⟨rfl, hb⟩)
    go_ret
    exact ⟨rfl, hb⟩
  · have hl' : ¬ ((l.length : Int) > 60) := by omega
    go_enter Tryz.func4, Tryz.ntmps4
    go_upto_region 7 with (go_at_call 6; refine ka.mono ?_; rintro e w1 ⟨rfl, hb⟩)
    have h1 := h.up hb
    have kl := levels_res (n := k) h1 (by omega) (by omega)
    go_upto_region 8 with (go_at_call 13; refine kl.mono ?_; rintro e w2 ⟨⟨A2, c2, v, s, rfl, hv, hans⟩, hb2⟩)
    have h2 := h1.up hb2
    have hbw := bthenZ hb hb.size hb2
    have ke := edgesZ_any h2 (by omega)
    clear h1 hb hb2 kl ka hmod hk hx hn h
    go_upto_region 9 with (go_at_call 9; refine ke.mono ?_; rintro e w3 ⟨⟨A3, c3, rfl, h3⟩, hb3⟩)
    replace hbw := bthenZ hbw hbw.size hb3
    have hv3 := hv.up hb3
    clear ke h2 hb3 hv
    go_wp2_with fail
    go_loopw [10] (fun vi wx => ∃ i : Nat, vi = .int .i64 i ∧ i ≤ l.length ∧ Hid (wx = w3) ∧ InR k (l.take i)) (fun vi _ => l.length - (intOf vi).toNat)
    case atStart => exact ⟨0, rfl, Nat.zero_le _, Lib.hid rfl, fun e he => by simp at he⟩
    case round =>
      obtain ⟨i, rfl, hi, hwx, hin⟩ := hrel
      have hwx2 := hwx.out
      subst hwx2
      by_cases hil : i < l.length
      · have hdi : (i : Int) < (l.length : Int) := by omega
        obtain ⟨⟨e1, e2, e3⟩, he⟩ : ∃ e, l[i]? = some e := ⟨_, List.getElem?_eq_getElem hil⟩
        obtain ⟨b, o, rfl, _, g0, g1, g2⟩ := edge_at h3 he rfl
        simp only at g0 g1 g2
        have hem := List.mem_of_getElem? he
        have htk : l.take (i + 1) = l.take i ++ [(e1, e2, e3)] := by rw [List.take_add_one, he]; rfl
        have hno : ¬ (0 ≤ e1 ∧ e1 < (k : Int) ∧ 0 ≤ e2 ∧ e2 < (k : Int)) → s = 1 ∧ v = [] := fun hn => by
          have hni : ¬ InR k l := fun hI => hn (hI _ hem)
          cases hans with
          | arg => exact ⟨rfl, rfl⟩
          | cyc hi => exact absurd hi hni
          | ok hi => exact absurd hi hni
        by_cases c1 : e1 < 0
        · obtain ⟨rfl, rfl⟩ := hno (by omega)
          clear hno htk he
          go_wp2_with fail
          go_ret
          exact ⟨rfl, hbw⟩
        by_cases c2 : (k : Int) ≤ e1
        · obtain ⟨rfl, rfl⟩ := hno (by omega)
          clear hno htk he
          go_wp2_with fail
          go_ret
          exact ⟨rfl, hbw⟩
        by_cases c3 : e2 < 0
        · obtain ⟨rfl, rfl⟩ := hno (by omega)
          clear hno htk he
          go_wp2_with fail
          go_ret
          exact ⟨rfl, hbw⟩
        by_cases c4 : (k : Int) ≤ e2
        · obtain ⟨rfl, rfl⟩ := hno (by omega)
          clear hno htk he
          go_wp2_with fail
          go_ret
          exact ⟨rfl, hbw⟩
        have hin2 : InR k (l.take (i + 1)) := by
          rw [htk]
          intro e he2
          rcases List.mem_append.1 he2 with he2 | he2
          · exact hin e he2
          · rw [List.mem_singleton.1 he2]
            show 0 ≤ e1 ∧ e1 < (k : Int) ∧ 0 ≤ e2 ∧ e2 < (k : Int)
            omega
        have hin2 := Lib.hid hin2
        clear hno htk he hin
        go_wp2_with fail
        exact ⟨⟨i + 1, by go_num, by omega, Lib.hid trivial, hin2.out⟩, by simp [intOf]; omega⟩
      · obtain rfl : i = l.length := by omega
        have hdi : ¬ (((l.length : Nat) : Int) < (l.length : Int)) := by omega
        rw [List.take_length] at hin
        cases hans with
        | arg hi => exact absurd hin hi
        | cyc hi hc =>
          have kc := cycle_any (r := true) h3 hi (by omega) (by omega) ⟨fun _ => hc, fun _ => rfl⟩
          clear hc
          go_wp2_with (go_at_call 14; refine kc.mono ?_; rintro e w4 ⟨rfl, hb4⟩)
          go_ret
          exact ⟨rfl, bthenZ hbw hbw.size hb4⟩
        | ok hi v hvl hL hbd =>
          have kc := cycle_any (r := false) h3 hi (by omega) (by omega) ⟨fun q => (by cases q), fun hc => (hc.none hL.1).elim⟩
          have hne : ¬ ((v.length : Int) ≠ (k : Int)) := by omega
          rw [hvl] at hv3 ⊢
          go_upto_region 17 with (go_at_call 14; refine kc.mono ?_; rintro e w4 ⟨rfl, hb4⟩)
          replace hbw := bthenZ hbw hbw.size hb4
          have h4 := h3.up hb4
          have hv4 := hv3.up hb4
          have kj := jac_any h4 hi (by omega) (by omega)
          clear kc h3 hv3 hb4
          go_upto_region 18 with (go_at_call 15; refine kj.mono ?_; rintro e w5 ⟨⟨g, rfl, u, hul, hu, hJ⟩, hb5⟩)
          replace hbw := bthenZ hbw hbw.size hb5
          have hv5 := hv4.up hb5
          have hsame : ∀ j, j < k → lvAt u j = lvAt v j := hJ.least hi hL (fun _ _ => rfl) (by omega)
          replace hsame := Lib.hid hsame
          clear kj h4 hv4 hb5 hJ hL hi hin hbd hne
          go_wp2_with fail
          go_loopw [13] (fun vi wx => ∃ j : Nat, vi = .int .i64 j ∧ j ≤ k ∧ Below w5.heap.size w5 wx) (fun vi _ => k - (intOf vi).toNat)
          case atStart => exact ⟨0, rfl, Nat.zero_le _, Below.refl _ _⟩
          case round =>
            obtain ⟨j, rfl, hjk, hbx⟩ := hrel
            by_cases hlt : j < k
            · have hdj : (j : Int) < (k : Int) := by omega
              obtain ⟨b5, o5, rfl, _, hc5⟩ := (hv5.up hbx).at_ (by omega)
              have v1 := hc5 j _ (lv_cell (by omega))
              have v2 := lvs_cell (hu.below hbx) (i := j) (by omega)
              rw [hsame.out j hlt] at v2
              clear hc5
              generalize lvAt v j = z at *
              go_wp2_with fail
              go_quiet (fail)
              go_wp2_with fail
              exact ⟨⟨j + 1, by go_num, by omega, bthenD hbx⟩, by simp [intOf]; omega⟩
            · obtain rfl : j = k := by omega
              have hdj : ¬ ((j : Int) < (j : Int)) := by omega
              go_wp2_with fail
              go_ret
              exact ⟨rfl, bthenZ hbw hbw.size hbx⟩
end Go.Proofs.YtinfbimfiaegdaaGreat
