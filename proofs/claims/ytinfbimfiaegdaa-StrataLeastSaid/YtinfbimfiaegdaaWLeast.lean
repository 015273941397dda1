/- StrataLeast walked. Conditions: none. -/
import Derived.BigQuiet
import Derived.Deep.QuietTactic
import Derived.Deep.Cut
import Derived.Deep.DeepCutAuto
import Derived.IntWalk
import Derived.Test.YtinfbimfiaegdaaLvR
namespace Go.Proofs.Ytinfbimfiaegdaa
open Go.RowKit

set_option maxRecDepth 100000 in
set_option maxHeartbeats 1000000 in
theorem strataLeast_walk (x : Int) (A : Option Addr) (c : Nat) (l : List Ed) (w : World) (hx : (Lit.int .u8 x).wf = true) (h : Rd w w.heap.size 3 A l.length c (ecells l)) :
    Calls Try.prog 3 #[.int .u8 x, .slice A l.length c] w fun e w' => e = .returned (.bool true) ∧ Below w.heap.size w w' := by
  obtain ⟨n, rfl⟩ : ∃ n : Nat, x = (n : Int) := by
    simp [Lit.wf, IntKind.min, IntKind.max, IntKind.bits, IntKind.signed] at hx
    exact ⟨x.toNat, by omega⟩
  have hn : n ≤ 255 := by
    simp [Lit.wf, IntKind.min, IntKind.max, IntKind.bits, IntKind.signed] at hx
    omega
  have hmod : ((n : Int)).tmod 30 = ((n % 30 : Nat) : Int) := rfl
  obtain ⟨k, hk⟩ : ∃ k, n % 30 = k := ⟨_, rfl⟩
  have hk30 : k < 30 := by omega
  rw [hk] at hmod
  have ka := awake10_any w
  by_cases hl : 100 < l.length
  · have hl' : (l.length : Int) > 100 := by omega
    go_enter Try.func3, Try.ntmps3
    go_wp2_with (go_at_call 6; refine ka.mono ?_; rintro e w1 ⟨rfl, hb⟩)
    go_ret
    exact ⟨rfl, hb⟩
  · have hl' : ¬ ((l.length : Int) > 100) := by omega
    go_enter Try.func3, Try.ntmps3
    go_upto_region 7 with (go_at_call 6; refine ka.mono ?_; rintro e w1 ⟨rfl, hb⟩)
    have h1 := h.up hb
    have kl := levels_res (n := k) h1 (by omega) (by omega)
    go_upto_region 8 with (go_at_call 7; refine kl.mono ?_; rintro e w2 ⟨⟨A2, c2, v, s, rfl, hv, hans⟩, hb2⟩)
    have h2 := h1.up hb2
    have hbw := bthenZ hb hb.size hb2
    clear h1 hb hb2 kl ka hmod hk hx hn h
    go_wp2_with fail
    go_loopw [9, 10] (fun vn vi wx => ∃ i : Nat, vi = .int .i64 i ∧ vn = .int .i64 (notsOf (l.take i)) ∧ i ≤ l.length ∧ wx = w2 ∧ InR k (l.take i)) (fun _ vi _ => l.length - (intOf vi).toNat)
    case atStart => exact ⟨0, rfl, rfl, Nat.zero_le _, rfl, fun e he => by simp at he⟩
    case round =>
      obtain ⟨i, rfl, rfl, hi, rfl, hin⟩ := hrel
      by_cases hil : i < l.length
      · have hdi : (i : Int) < (l.length : Int) := by omega
        obtain ⟨⟨e1, e2, e3⟩, he⟩ : ∃ e, l[i]? = some e := ⟨_, List.getElem?_eq_getElem hil⟩
        obtain ⟨b, o, rfl, _, g0, g1, g2⟩ := edge_at h2 he rfl
        simp only at g0 g1 g2
        have hem := List.mem_of_getElem? he
        have hsn := notsOf_snoc (l.take i) (e1, e2, e3)
        have htk : l.take (i + 1) = l.take i ++ [(e1, e2, e3)] := by rw [List.take_add_one, he]; rfl
        rw [← htk] at hsn
        have hno : ¬ (0 ≤ e1 ∧ e1 < (k : Int) ∧ 0 ≤ e2 ∧ e2 < (k : Int)) → s = 1 := fun hn => by
          have hni : ¬ InR k l := fun hI => hn (hI _ hem)
          cases hans with
          | arg => rfl
          | cyc hi => exact absurd hi hni
          | ok hi => exact absurd hi hni
        by_cases c1 : e1 < 0
        · obtain rfl := hno (by omega)
          clear hno htk hsn he
          go_wp2_with fail
          go_ret
          exact ⟨rfl, hbw⟩
        by_cases c2 : (k : Int) ≤ e1
        · obtain rfl := hno (by omega)
          clear hno htk hsn he
          go_wp2_with fail
          go_ret
          exact ⟨rfl, hbw⟩
        by_cases c3 : e2 < 0
        · obtain rfl := hno (by omega)
          clear hno htk hsn he
          go_wp2_with fail
          go_ret
          exact ⟨rfl, hbw⟩
        by_cases c4 : (k : Int) ≤ e2
        · obtain rfl := hno (by omega)
          clear hno htk hsn he
          go_wp2_with fail
          go_ret
          exact ⟨rfl, hbw⟩
        have hin2 : InR k (l.take (i + 1)) := by
          rw [htk]
          intro e he2
          rcases List.mem_append.1 he2 with he2 | he2
          · exact hin e he2
          · rw [List.mem_singleton.1 he2]
            show 0 ≤ e1 ∧ e1 < (k : Int) ∧ 0 ≤ e2 ∧ e2 < (k : Int)
            omega
        have hnl : notsOf (l.take i) ≤ l.length := Nat.le_trans (List.length_filter_le _ _) (by rw [List.length_take]; omega)
        obtain ⟨q, hq⟩ : ∃ q, notsOf (l.take i) = q := ⟨_, rfl⟩
        rw [hq] at hsn hnl ⊢
        have hsn := Lib.hid hsn
        have hin2 := Lib.hid hin2
        clear hno htk he hq hin
        cases e3 with
        | false =>
          go_wp2_with fail
          exact ⟨⟨i + 1, by go_num, by rw [hsn.out]; rfl, by omega, trivial, hin2.out⟩, by simp [intOf]; omega⟩
        | true =>
          go_wp2_with fail
          exact ⟨⟨i + 1, by go_num, by rw [hsn.out]; go_num, by omega, trivial, hin2.out⟩, by simp [intOf]; omega⟩
      · obtain rfl : i = l.length := by omega
        have hdi : ¬ (((l.length : Nat) : Int) < (l.length : Int)) := by omega
        rw [List.take_length] at hin
        have hnl : notsOf l ≤ l.length := List.length_filter_le _ _
        cases hans with
        | arg hi => exact absurd hin hi
        | cyc hi hc =>
          have hnp := hc.nots
          obtain ⟨q, hq⟩ : ∃ q, notsOf l = q := ⟨_, rfl⟩
          rw [List.take_length, hq]
          rw [hq] at hnp hnl
          have hnp' : (q : Int) > 0 := by omega
          clear hq hc
          go_wp2_with fail
          go_ret
          exact ⟨rfl, hbw⟩
        | ok hi v hvl hL hbd =>
          have hfew : ∀ i, i < k → lvAt v i ≤ notsOf l := fun i hi => hL.few hi
          rw [List.take_length]
          obtain ⟨q, hq⟩ : ∃ q, notsOf l = q := ⟨_, rfl⟩
          rw [hq] at hfew hnl ⊢
          clear hq
          have hv0 : ∀ i, i < k → 0 ≤ lvAt v i ∧ lvAt v i ≤ 4096 := fun i hi => by
            have := hbd (lvAt v i) (by
              unfold lvAt
              rw [List.getD_eq_getElem?_getD, List.getElem?_eq_getElem (by omega)]
              exact List.getElem_mem _)
            exact this
          obtain ⟨i1, hi1, hy0, hy1, hy2⟩ := info_parts info_bool
          have hmk : ∀ W : World, (Instr.makeSlice 30 (.int .i64 (k : Int)) (.int .i64 (k : Int))).run Try.prog W = .ok (.slice (some ⟨W.heap.size, 0, none⟩) k k) (W.alloc (.cells (bools (List.replicate k false)) 4)) := fun W => by
            have := run_make (P := Try.prog) W 30 4 i1 _ Try.underlying30 hi1 hy0 .i64 .i64 k k (by omega) (Int.le_refl _) (by rw [hy2]; omega) (by omega)
            rw [Int.toNat_natCast, hy1, Nat.mul_one] at this
            rw [← made_bools]
            exact this
          have hne : ¬ ((v.length : Int) ≠ (k : Int)) := by omega
          rw [hvl] at hv ⊢
          go_upto_region 21 with (fail)
          have hB3 := bnewZ wr (.cells (bools (List.replicate k false)) 4)
          have hk3 := Bk.new wr (bools (List.replicate k false)) 4
          have hv3 := hv.below hB3
          have h3 := h2.below hB3
          have hwga := hbw.size
          have hb3 := bthenZ hbw hbw.size hB3
          clear hmk hB3 hv h2 hbw hne
          generalize hga : wr.heap.size = ga at *
          generalize wr.alloc (.cells (bools (List.replicate k false)) 4) = w3 at *
          have hgl := hk3.lt
          go_wp2_with fail
          go_loopw [12] (fun vj wx => ∃ (j : Nat) (ak : List Bool), vj = .int .i64 j ∧ j ≤ l.length ∧ Bk wx ga (bools ak) 4 ∧ ak.length = k ∧ (∀ i, ak[i]? = some true ↔ i < k ∧ ∃ e ∈ l.take j, fr e = i ∧ lvAt v (tt e) + rise e = lvAt v (fr e)) ∧ Below ga w3 wx) (fun vj _ => l.length - (intOf vj).toNat)
          case atStart => exact ⟨0, _, rfl, Nat.zero_le _, hk3, by simp, fun i => by simp [List.getElem?_replicate], Below.refl _ _⟩
          case round =>
            obtain ⟨j, ak, rfl, hj, hkx, hal, has, hbx⟩ := hrel
            by_cases hjl : j < l.length
            · have hdj : (j : Int) < (l.length : Int) := by omega
              obtain ⟨⟨e1, e2, e3⟩, he⟩ : ∃ e, l[j]? = some e := ⟨_, List.getElem?_eq_getElem hjl⟩
              have hem := List.mem_of_getElem? he
              obtain ⟨b, o, rfl, _, g0, g1, g2⟩ := edge_at (h3.below hbx) he rfl
              have hir : 0 ≤ e1 ∧ e1 < (k : Int) ∧ 0 ≤ e2 ∧ e2 < (k : Int) := hin _ hem
              obtain ⟨f, rfl⟩ : ∃ f : Nat, e1 = (f : Int) := ⟨e1.toNat, by omega⟩
              obtain ⟨t, rfl⟩ : ∃ t : Nat, e2 = (t : Int) := ⟨e2.toNat, by omega⟩
              have hfk : f < k := by omega
              have htk : t < k := by omega
              have hfi : (f : Int) < (k : Int) := by omega
              have hti : (t : Int) < (k : Int) := by omega
              have hsol : lvAt v t + rise ((f : Int), (t : Int), e3) ≤ lvAt v f := hL.1.2 _ hem
              obtain ⟨b5, o5, rfl, _, hc5⟩ := (hv3.below hbx).at_ (by omega)
              have v1 := hc5 t _ (lv_cell (by omega))
              have v2 := hc5 f _ (lv_cell (by omega))
              have hzt := hv0 t htk
              have hzf := hv0 f hfk
              have kf := hkx.fz f
              have kc := hkx.cell f
              rw [bools_get, List.getElem?_eq_getElem (by omega)] at kc
              simp only [Option.map_some] at kc
              have htake : l.take (j + 1) = l.take j ++ [((f : Int), (t : Int), e3)] := by rw [List.take_add_one, he]; rfl
              have hnew : ∀ bs : List Bool, bs.length = k → (∀ i, bs[i]? = some true ↔ ak[i]? = some true ∨ (i = f ∧ lvAt v t + rise ((f : Int), (t : Int), e3) = lvAt v f)) → ∀ i, bs[i]? = some true ↔ i < k ∧ ∃ e ∈ l.take (j + 1), fr e = i ∧ lvAt v (tt e) + rise e = lvAt v (fr e) := fun bs _ hbs i => by
                rw [hbs i, has i, htake]
                constructor
                · rintro (⟨h1, e, h4, h5⟩ | ⟨rfl, h4⟩)
                  · exact ⟨h1, e, List.mem_append_left _ h4, h5⟩
                  · exact ⟨hfk, _, List.mem_append_right _ (List.mem_singleton.2 rfl), rfl, h4⟩
                · rintro ⟨h1, e, h4, h5, h6⟩
                  rcases List.mem_append.1 h4 with h4 | h4
                  · exact .inl ⟨h1, e, h4, h5, h6⟩
                  · rw [List.mem_singleton.1 h4] at h5 h6
                    exact .inr ⟨h5.symm, h6⟩
              obtain ⟨a, ha⟩ : ∃ a, lvAt v t = a := ⟨_, rfl⟩
              obtain ⟨z, hz⟩ : ∃ z, lvAt v f = z := ⟨_, rfl⟩
              rw [ha] at v1 hzt hsol hnew
              rw [hz] at v2 hzf hsol hnew
              have hbs := hkx.set f (.bool true)
              rw [bools_set] at hbs
              have hbx2 : Below ga w3 (wr.setCell ⟨ga, f, none⟩ (.bool true)) := hbx.setCell (Nat.le_refl _) _
              have hset : ∀ (r : Int), a + r = z → ∀ i, (ak.set f true)[i]? = some true ↔ ak[i]? = some true ∨ (i = f ∧ a + r = z) := fun r hr i => by
                by_cases hif : i = f
                · subst hif
                  rw [List.getElem?_set_self (by omega)]
                  simp [hr]
                · rw [List.getElem?_set_ne fun e => hif e.symm]
                  simp [hif]
              simp only at g0 g1 g2
              clear ha hz hc5 htake he has
              have hnew := Lib.hid hnew
              have hset := Lib.hid hset
              have hbs := Lib.hid hbs
              have hbx2 := Lib.hid hbx2
              cases e3 with
              | false =>
                have hr0 : rise ((f : Int), (t : Int), false) = 0 := rfl
                rw [hr0] at hsol hnew
                have hle : ¬ (z < a) := by omega
                by_cases hza : z = a
                · go_wp2_with fail
                  exact ⟨⟨j + 1, ak.set f true, by go_num, by omega, hbs.out, by rw [List.length_set]; exact hal, hnew.out _ (by rw [List.length_set]; exact hal) (hset.out 0 (by omega)), hbx2.out⟩, by simp [intOf]; omega⟩
                · go_wp2_with fail
                  exact ⟨⟨j + 1, ak, by go_num, by omega, hkx, hal, hnew.out _ hal fun i => ⟨.inl, fun h => h.elim id fun h => absurd h.2 (by omega)⟩, hbx⟩, by simp [intOf]; omega⟩
              | true =>
                have hr0 : rise ((f : Int), (t : Int), true) = 1 := rfl
                rw [hr0] at hsol hnew
                have hle : ¬ (z < a + 1) := by omega
                by_cases hza : z = a + 1
                · go_wp2_with fail
                  exact ⟨⟨j + 1, ak.set f true, by go_num, by omega, hbs.out, by rw [List.length_set]; exact hal, hnew.out _ (by rw [List.length_set]; exact hal) (hset.out 1 (by omega)), hbx2.out⟩, by simp [intOf]; omega⟩
                · go_wp2_with fail
                  exact ⟨⟨j + 1, ak, by go_num, by omega, hkx, hal, hnew.out _ hal fun i => ⟨.inl, fun h => h.elim id fun h => absurd h.2 (by omega)⟩, hbx⟩, by simp [intOf]; omega⟩
            · obtain rfl : j = l.length := by omega
              have hdj : ¬ (((l.length : Nat) : Int) < (l.length : Int)) := by omega
              rw [List.take_length] at has
              have hask : ∀ i, i < k → 0 < lvAt v i → ak[i]? = some true := fun i hi hp => (has i).2 ⟨hi, by
                obtain ⟨e, he, h5, h6⟩ := hL.asked hi hp
                exact ⟨e, he, h5, h6⟩⟩
              have hvx := hv3.below hbx
              have hbw := hb3.trans (hbx.mono hwga)
              clear has hv3 hbx hb3 h3
              go_wp2_with fail
              go_loopw [14] (fun vi wx => ∃ i : Nat, vi = .int .i64 i ∧ i ≤ k ∧ Hid (wx = wr)) (fun vi _ => k - (intOf vi).toNat)
              case atStart => exact ⟨0, rfl, Nat.zero_le _, Lib.hid rfl⟩
              case round =>
                obtain ⟨i, rfl, hi2, hwx⟩ := hrel
                have hwx2 := hwx.out
                subst hwx2
                by_cases hik : i < k
                · have hdi : (i : Int) < (k : Int) := by omega
                  obtain ⟨b5, o5, rfl, _, hc5⟩ := hvx.at_ (by omega)
                  have v1 := hc5 i _ (lv_cell (by omega))
                  have hz1 := hv0 i hik
                  have hz2 := hfew i hik
                  have hz3 := hask i hik
                  have kc := hkx.cell i
                  rw [bools_get, List.getElem?_eq_getElem (by omega)] at kc
                  simp only [Option.map_some] at kc
                  obtain ⟨z, hz⟩ : ∃ z, lvAt v i = z := ⟨_, rfl⟩
                  rw [hz] at v1 hz1 hz2 hz3
                  rw [List.getElem?_eq_getElem (by omega)] at hz3
                  obtain ⟨y, hy⟩ : ∃ y, ak[i] = y := ⟨_, rfl⟩
                  rw [hy] at kc hz3
                  clear hz hc5 hy hask hfew hv0
                  have hlo : ¬ (z < 0) := by omega
                  have hhi : ¬ (z > (q : Int)) := by omega
                  by_cases hzp : z > 0
                  · obtain rfl : y = true := Option.some.inj (hz3 hzp)
                    clear hz3
                    go_wp2_with fail
                    exact ⟨⟨i + 1, by go_num, by omega, Lib.hid trivial⟩, by simp [intOf]; omega⟩
                  · clear hz3
                    go_wp2_with fail
                    exact ⟨⟨i + 1, by go_num, by omega, Lib.hid trivial⟩, by simp [intOf]; omega⟩
                · obtain rfl : i = k := by omega
                  have hdi : ¬ (((i : Nat) : Int) < (i : Int)) := by omega
                  have kl := levels_any (w := wr) (n := -1) (l := []) (A := none) (c := 0) (Rd.none_ _ _ _) (by simp)
                  have kl2 : Calls Try.prog 7 #[.int .i64 (-1), .slice none 0 0] wr fun e w' => e = .returned (.tuple #[.slice none 0 0, .int .i64 1]) ∧ Below wr.heap.size wr w' := kl.mono fun e w' ⟨h1, h2⟩ => ⟨by
                    cases h1 with
                    | arg => rfl
                    | cyc h0 => omega
                    | ok h0 => omega, h2⟩
                  clear kl hask hfew hv0
                  go_wp2_with (go_at_call 7; refine kl2.mono ?_; rintro e w9 ⟨rfl, hb9⟩)
                  go_ret
                  exact ⟨rfl, bthenZ hbw hbw.size hb9⟩
end Go.Proofs.Ytinfbimfiaegdaa
