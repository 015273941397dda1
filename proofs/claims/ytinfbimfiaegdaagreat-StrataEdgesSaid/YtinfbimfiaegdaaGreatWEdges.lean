/- StrataEdges walked. Conditions: none. -/
import Derived.BigQuiet
import Derived.Deep.QuietTactic
import Derived.Deep.Cut
import Derived.Deep.DeepCutAuto
import Derived.IntWalk
import Derived.Test.YtinfbimfiaegdaaGreatLvR
import Derived.Test.YtinfbimfiaegdaaGreatSaidP
import Derived.Test.YtinfbimfiaegdaaGreatCheckW
import Derived.Test.YtinfbimfiaegdaaGreatRefG
namespace Go.Proofs.YtinfbimfiaegdaaGreat
open Go.RowKit

theorem edges_at10 {l : List TypA} {e : Ed} (h : e ∈ edgesP (l.map TypA.says)) : 0 ≤ e.2.1 ∧ e ∈ pairsE (relsA l).length := by
  rw [edgesP_is] at h
  obtain ⟨a, b, ha, hb, e1, e2⟩ := mem_relsD h
  have hb : b < (relsA l).length := by simpa [pathsA] using hb
  exact ⟨by omega, mem_pairs ha hb e1 e2⟩
theorem edges_few10 {l : List TypA} {zs : List Ed} (hR : Right (l.map TypA.says)) (h1 : Rising zs) (h2 : ∀ e, e ∈ zs ↔ e ∈ edgesP (l.map TypA.says)) : zs.length ≤ 18432 := by
  have h3 := nodup_sub_len (rising_nodup h1) fun e he => (edges_at10 ((h2 e).1 he)).2
  rw [pairsE_len] at h3
  have h4 : (relsA l).length ≤ 96 := by rw [← relsA_saysLen]; exact hR.rels_le
  have h5 : (relsA l).length * ((relsA l).length * 2) ≤ 96 * (96 * 2) := Nat.mul_le_mul h4 (Nat.mul_le_mul h4 (Nat.le_refl _))
  omega
theorem said_relsA10 {s : ByteArray} {l : List TypA} (hl : l.map TypA.says = (parseS s).1.map typI) (hR : Right (l.map TypA.says)) : (relsA l).length ≤ 600 ∧ ∀ x ∈ relsA l, x.2.subs.length ≤ 100000 ∧ x.2.ops.length ≤ 100000 :=
  few_of (Nat.le_trans hR.rels_le (by decide)) fun x hx => by
    unfold relsOf at hx
    obtain ⟨t, ht, hx⟩ := List.mem_flatMap.1 hx
    obtain ⟨r, hr, rfl⟩ := List.mem_map.1 hx
    obtain ⟨_, _, _, h1, h2⟩ := said_tree (hl ▸ ht) hr
    exact ⟨Nat.le_trans h2 (by decide), Nat.le_trans h1 (by decide)⟩
theorem said_treeA {s : ByteArray} {l : List TypA} (hl : l.map TypA.says = (parseS s).1.map typI) : ∀ t ∈ l, ∀ r ∈ t.rels, ∃ e : Ex, r.ops = e.ops.map opZ ∧ e.good ∧ r.ops.length ≤ 2049 ∧ r.subs.length ≤ 2049 := fun t ht r hr =>
  said_tree (s := s) (t := t.says) (hl ▸ List.mem_map.2 ⟨t, ht, rfl⟩) (r := r.says) (List.mem_map.2 ⟨r, hr, rfl⟩)
theorem outE_same {l l7 : List TypA} {w : World} {v : Value} {zs : List Ed} (h : OutE w v (edgesP (l7.map TypA.says))) (he : l7.map TypA.says = l.map TypA.says) (h1 : Rising zs) (h2 : ∀ e, e ∈ zs ↔ e ∈ edgesP (l.map TypA.says)) : ∃ A c, v = .slice A zs.length c ∧ Rd w w.heap.size 3 A zs.length c (ecells zs) := by
  rw [he] at h
  obtain ⟨A, c, Z, e, hr, hz, _⟩ := h
  obtain rfl : Z = zs := rising_eq hz.up h1 fun e => (hz.mem e).trans ⟨fun q => (h2 e).2 q.1, fun q => ⟨(h2 e).1 q, (edges_at10 ((h2 e).1 q)).1⟩⟩
  exact ⟨A, c, e, hr⟩

set_option maxRecDepth 100000 in
set_option maxHeartbeats 4000000 in
theorem strataEdges_walk (s0 : ByteArray) (w : World) (_f0 : s0.size ≤ maxLen) :
    Calls Tryz.prog 3 #[.string s0] w fun e w' => e = .returned (.bool true) ∧ Below w.heap.size w w' := by
  have ka := awake10_any w
  by_cases h0 : 2048 < s0.size
  · have hd : (s0.size : Int) > 2048 := by omega
    go_enter Tryz.func3, Tryz.ntmps3
    go_wp2_with (go_at_call 6; refine ka.mono ?_; rintro e w1 ⟨rfl, hb⟩)
    go_ret
    exact ⟨rfl, hb⟩
  · have hd : ¬ (s0.size : Int) > 2048 := by omega
    obtain ⟨T, ea, pa, ha⟩ : ∃ T e p, parseS s0 = (T, e, p) := ⟨_, _, _, rfl⟩
    have kp := fun W => parse_named s0 (by omega) ha W
    have hT : (parseS s0).1 = T := by rw [ha]
    have hsm := said_small s0
    have hsf := said_few s0
    rw [hT] at hsm hsf
    replace hT := Lib.hid hT
    clear ha
    go_enter Tryz.func3, Tryz.ntmps3
    go_upto_region 6 with (go_at_call 6; refine ka.mono ?_; rintro e w1 ⟨rfl, hb⟩)
    go_upto_region 7 with (go_at_call 7; refine (kp _).mono ?_; rintro e w2 ⟨⟨A, c, rfl, hv⟩, hb1⟩)
    obtain ⟨l, hl, hs⟩ := hv.sch (R := 140737488351232) hsf hsm
    have hn : l.length = T.length := by have := congrArg List.length hl; rwa [List.length_map, List.length_map] at this
    replace hb := bthenZ hb hb.size hb1
    rw [← hn]
    have hlS : l.map TypA.says = (parseS s0).1.map typI := by rw [hT.out]; exact hl
    replace hlS := Lib.hid hlS
    clear hv kp hn hb1 hsm hsf ka hl
    have hbn := bnewZ w2 (.cells #[.slice A l.length c] 25)
    replace hs := hs.up hbn
    replace hb := bthenZ hb hb.size hbn
    have d0 := Bk.new w2 #[.slice A l.length c] 25
    clear hbn
    generalize w2.alloc (.cells #[.slice A l.length c] 25) = w3 at *
    generalize w2.heap.size = gs at *
    have x0 := d0.c1
    have xl := d0.lt
    have kc := check_any hs (Nat.le_refl _)
    have hll : (l.length : Int) ≤ 9223372036854775807 := by have := hs.rows.cap; have := hs.rows.capm; simp only [maxLen] at this; omega
    obtain ⟨E, hE⟩ : ∃ E, checkE (l.map TypA.says) = E := ⟨_, rfl⟩
    rw [hE] at kc
    replace hE := Lib.hid hE
    go_upto_region 8 with (go_at_call 8; refine kc.mono ?_; rintro e w4 ⟨rfl, hb1⟩)
    replace hs := hs.up hb1
    replace hb := bthenZ hb hb.size hb1
    replace d0 := d0.below hb1
    clear hb1 x0 xl kc
    obtain ⟨E1, E2⟩ := E
    simp only
    by_cases he : ea = 0
    · subst he
      by_cases hf : E1 = 0
      · subst hf
        have hR : Right (l.map TypA.says) := (checkE_ok _).1.1 (by rw [hE.out])
        obtain ⟨hr6, hro⟩ := said_relsA10 hlS.out hR
        have x0 := d0.c1
        have xl := d0.lt
        have ke := edges_any hs (Nat.le_refl _) hr6 hro
        go_upto_region 10 with (fail)
        go_wp2_with fail
        refine ke.mono ?_
        rintro e w5 ⟨A2, c2, zs, rfl, hz1, hz2, hz3, hb1⟩
        have hzl := edges_few10 hR hz1 hz2
        have kz := edgesZ_any hz3 (by omega)
        replace hz1 := Lib.hid hz1
        replace hz2 := Lib.hid hz2
        replace hR := Lib.hid hR
        replace hs := hs.up hb1
        replace hb := bthenZ hb hb.size hb1
        replace d0 := d0.below hb1
        clear ke hro hr6 x0 xl hb1
        go_upto_region 11 with (go_at_call 9; refine kz.mono ?_; rintro e w6 ⟨⟨A3, c3, rfl, hz4⟩, hb1⟩)
        replace hs := hs.up hb1
        replace hb := bthenZ hb hb.size hb1
        replace d0 := d0.below hb1
        clear kz hz3 hb1
        have x0 := d0.c1
        have xl := d0.lt
        have ko := of_own10 hs
        go_wp2_with fail
        refine ko.mono ?_
        rintro e w7 ⟨⟨v7, rfl, hd7⟩, hb1⟩
        obtain ⟨A7, c7, l7, rfl, hl7, hs7⟩ := hd7.sch hs
        have kr := edgesR_any hs7 (by rw [hl7]; exact hR.out) (said_treeA (hl7.trans hlS.out))
        replace hl7 := Lib.hid hl7
        replace hz4 := hz4.up hb1
        replace hb := bthenZ hb hb.size hb1
        clear ko hd7 hs x0 xl d0 hb1
        go_upto_region 12 with (go_at_call 11; refine kr.mono ?_; rintro e w8 ⟨⟨v8, rfl, hO⟩, hb1⟩)
        obtain ⟨A8, c8, rfl, hz5⟩ := outE_same hO hl7.out hz1.out hz2.out
        replace hz4 := hz4.up hb1
        replace hb := bthenZ hb hb.size hb1
        clear kr hO hs7 hl7 hb1 hz1 hz2 hR
        go_wp2_with fail
        go_loopw [11] (fun vi wx => ∃ i : Nat, vi = .int .i64 i ∧ i ≤ zs.length ∧ Below w8.heap.size w8 wx) (fun vi _ => zs.length - (intOf vi).toNat)
        case atStart => exact ⟨0, rfl, Nat.zero_le _, Below.refl _ _⟩
        case round =>
          obtain ⟨i, rfl, hi, hbx⟩ := hrel
          by_cases hil : i < zs.length
          · have hdi : (i : Int) < (zs.length : Int) := by omega
            obtain ⟨⟨e1, e2, e3⟩, he⟩ : ∃ e, zs[i]? = some e := ⟨_, List.getElem?_eq_getElem hil⟩
            obtain ⟨b, o, rfl, _, g0, g1, g2⟩ := edge_at (hz4.up hbx) he rfl
            obtain ⟨b2, o2, rfl, _, k0, k1, k2⟩ := edge_at (hz5.up hbx) he rfl
            simp only at g0 g1 g2 k0 k1 k2
            have lg := World.block_lt_of_cell? _ _ g0
            have lk := World.block_lt_of_cell? _ _ k0
            dsimp only at lg lk
            clear he
            go_wp2_with fail
            go_quiet (fail)
            go_wp2_with fail
            exact ⟨⟨i + 1, by go_num, by omega, bthen hbx hbx.size (bdrew wr nq)⟩, by simp [intOf]; omega⟩
          · obtain rfl : i = zs.length := by omega
            have hdi : ¬ (((zs.length : Nat) : Int) < (zs.length : Int)) := by omega
            go_wp2_with fail
            go_ret
            exact ⟨rfl, bthenZ hb hb.size hbx⟩
      · have hf' : ¬ ((E1 : Int) = 0) := by omega
        go_wp2_with fail
        go_ret
        exact ⟨rfl, hb⟩
    · have he' : ¬ ((ea : Int) = 0) := by omega
      go_wp2_with fail
      go_ret
      exact ⟨rfl, hb⟩
end Go.Proofs.YtinfbimfiaegdaaGreat
