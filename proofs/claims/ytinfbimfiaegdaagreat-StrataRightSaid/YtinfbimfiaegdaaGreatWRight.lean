/- StrataRight walked. Conditions: none. -/
import Derived.BigQuiet
import Derived.Deep.QuietTactic
import Derived.Deep.Cut
import Derived.Deep.DeepCutAuto
import Derived.IntWalk
import Derived.Test.YtinfbimfiaegdaaGreatLvR
import Derived.Test.YtinfbimfiaegdaaGreatSaidP
import Derived.Test.YtinfbimfiaegdaaGreatCheckW
namespace Go.Proofs.YtinfbimfiaegdaaGreat
open Go.RowKit

/-- Is there a minus among the first bytes? -/
def mnB (s : ByteArray) : Nat → Bool
  | 0 => false
  | i + 1 => mnB s i || decide (bt s i = 45)
theorem mnB_none {s : ByteArray} : ∀ {i : Nat}, mnB s i = false → ∀ j, j < i → bt s j ≠ 45
  | 0, _, j, hj => by omega
  | i + 1, h, j, hj => by
    rw [mnB, Bool.or_eq_false_iff] at h
    by_cases e : j = i
    · rw [e]; exact of_decide_eq_false h.2
    · exact mnB_none h.1 j (by omega)
theorem ri_no {a b c d : Int} {f : Bool} : ¬ riI (a, b, f) < riI (c, d, false) := by cases f <;> simp [riI]
theorem ri_no2 {a b c d : Int} : ¬ riI (a, b, true) < riI (c, d, true) := by simp [riI]
theorem i45 (k : Nat) : (((k : Nat) : Int) == 45) = decide (k = 45) := by
  rw [Bool.eq_iff_iff]
  simp
  omega
theorem relsA_few {l : List TypA} (h : Right (l.map TypA.says)) : (relsA l).length ≤ 96 := by
  have := h.rels_le
  rw [← relsA_says, List.length_map] at this
  exact this
theorem edges_in {l : List TypA} {e : Ed} (h : e ∈ edgesP (l.map TypA.says)) : 0 ≤ e.1 ∧ e.1 < (relsA l).length ∧ 0 ≤ e.2.1 ∧ e.2.1 < (relsA l).length ∧ e ∈ pairsE (relsA l).length := by
  rw [edgesP_is] at h
  obtain ⟨a, b, ha, hb, e1, e2⟩ := mem_relsD h
  have hb : b < (relsA l).length := by simpa [pathsA] using hb
  exact ⟨by omega, by omega, by omega, by omega, mem_pairs ha hb e1 e2⟩
/-- How many edges there may be. -/
theorem edges_few {l : List TypA} {zs : List Ed} (hR : Right (l.map TypA.says)) (h1 : Rising zs) (h2 : ∀ e, e ∈ zs ↔ e ∈ edgesP (l.map TypA.says)) : zs.length ≤ 18432 := by
  have h3 := nodup_sub_len (rising_nodup h1) fun e he => (edges_in ((h2 e).1 he)).2.2.2.2
  rw [pairsE_len] at h3
  have h4 := relsA_few hR
  have h5 : (relsA l).length * ((relsA l).length * 2) ≤ 96 * (96 * 2) := Nat.mul_le_mul h4 (Nat.mul_le_mul h4 (Nat.le_refl _))
  omega
theorem said_relsA {s : ByteArray} {l : List TypA} (hl : l.map TypA.says = (parseS s).1.map typI) (hR : Right (l.map TypA.says)) : (relsA l).length ≤ 600 ∧ ∀ x ∈ relsA l, x.2.subs.length ≤ 100000 ∧ x.2.ops.length ≤ 100000 :=
  few_of (Nat.le_trans hR.rels_le (by decide)) fun x hx => by
    unfold relsOf at hx
    obtain ⟨t, ht, hx⟩ := List.mem_flatMap.1 hx
    obtain ⟨r, hr, rfl⟩ := List.mem_map.1 hx
    obtain ⟨_, _, _, h1, h2⟩ := said_tree (hl ▸ ht) hr
    exact ⟨Nat.le_trans h2 (by decide), Nat.le_trans h1 (by decide)⟩

set_option maxRecDepth 100000 in
set_option maxHeartbeats 4000000 in
theorem strataRight_walk (s0 : ByteArray) (w : World) (_f0 : s0.size ≤ maxLen) :
    Calls Tryz.prog 5 #[.string s0] w fun e w' => e = .returned (.bool true) ∧ Below w.heap.size w w' := by
  have ka := awake10_any w
  by_cases h0 : 2048 < s0.size
  · have hd : (s0.size : Int) > 2048 := by omega
    go_enter Tryz.func5, Tryz.ntmps5
    go_wp2_with (go_at_call 6; refine ka.mono ?_; rintro e w1 ⟨rfl, hb⟩)
    go_ret
    exact ⟨rfl, hb⟩
  · have hd : ¬ (s0.size : Int) > 2048 := by omega
    obtain ⟨T, ea, pa, ha⟩ : ∃ T e p, parseS s0 = (T, e, p) := ⟨_, _, _, rfl⟩
    have kp := fun W => parse_named s0 (by omega) ha W
    have hT : (parseS s0).1 = T := by rw [ha]
    have hsm := said_small s0
    have hsf := said_few s0
    rw [hT] at hsm hsf
    replace hT := Lib.hid hT
    clear ha
    go_enter Tryz.func5, Tryz.ntmps5
    go_upto_region 6 with (go_at_call 6; refine ka.mono ?_; rintro e w1 ⟨rfl, hb⟩)
    go_upto_region 7 with (go_at_call 7; refine (kp _).mono ?_; rintro e w2 ⟨⟨A, c, rfl, hv⟩, hb1⟩)
    obtain ⟨l, hl, hs⟩ := hv.sch (R := 140737488351232) hsf hsm
    have hn : l.length = T.length := by have := congrArg List.length hl; rwa [List.length_map, List.length_map] at this
    replace hb := bthenZ hb hb.size hb1
    rw [← hn]
    replace hl := Lib.hid hl
    clear hv kp hn hb1 hsm hsf ka
    have hbn := bnewZ w2 (.cells #[.slice A l.length c] 25)
    replace hs := hs.up hbn
    replace hb := bthenZ hb hb.size hbn
    have d0 := Bk.new w2 #[.slice A l.length c] 25
    clear hbn
    generalize w2.alloc (.cells #[.slice A l.length c] 25) = w3 at *
    generalize w2.heap.size = gs at *
    have x0 := d0.c1
    have xl := d0.lt
    have kc := check_any hs (Nat.le_refl _)
    have hll : (l.length : Int) ≤ 9223372036854775807 := by have := hs.rows.cap; have := hs.rows.capm; simp only [maxLen] at this; omega
    obtain ⟨E, hE⟩ : ∃ E, checkE (l.map TypA.says) = E := ⟨_, rfl⟩
    rw [hE] at kc
    replace hE := Lib.hid hE
    go_upto_region 8 with (go_at_call 8; refine kc.mono ?_; rintro e w4 ⟨rfl, hb1⟩)
    replace hs := hs.up hb1
    replace hb := bthenZ hb hb.size hb1
    replace d0 := d0.below hb1
    clear hb1 x0 xl kc
    obtain ⟨E1, E2⟩ := E
    simp only
    by_cases he : ea = 0
    · subst he
      by_cases hf : E1 = 0
      · subst hf
        have hR : Right (l.map TypA.says) := (checkE_ok _).1.1 (by rw [hE.out])
        have hn96 := relsA_few hR
        obtain ⟨hr6, hro⟩ := said_relsA (s := s0) (by rw [hT.out]; exact hl.out) hR
        replace hR := Lib.hid hR
        have x0 := d0.c1
        have xl := d0.lt
        go_wp2_with fail
        go_loopw [9, 10] (fun vn vi wx => ∃ i : Nat, vi = .int .i64 i ∧ i ≤ l.length ∧ vn = .int .i64 ((relsA (l.take i)).length : Nat) ∧ Hid (wx = w4)) (fun _ vi _ => l.length - (intOf vi).toNat)
        case atStart => exact ⟨0, rfl, Nat.zero_le _, rfl, Lib.hid rfl⟩
        case round =>
          obtain ⟨i, rfl, hi, rfl, hwx⟩ := hrel
          have hwx2 := hwx.out
          subst hwx2
          by_cases hil : i < l.length
          · have hdi : (i : Int) < (l.length : Int) := by omega
            obtain ⟨t, ht⟩ : ∃ t, l[i]? = some t := ⟨_, List.getElem?_eq_getElem hil⟩
            obtain ⟨g, o, rfl, g0, g1, hk⟩ := hs.get ht
            have hsn := congrArg List.length (relsA_snoc ht)
            rw [List.length_append, List.length_map] at hsn
            have hle := relsA_le (l := l) (i + 1)
            rw [hsn] at hle
            have hle := Lib.hid hle
            have hle2 : (relsA (l.take i)).length + t.rels.length ≤ 96 := Nat.le_trans hle.out hn96
            obtain ⟨q, hq⟩ : ∃ q, (relsA (l.take i)).length = q := ⟨_, rfl⟩
            obtain ⟨tA, htA⟩ : ∃ tA, t.A = tA := ⟨_, rfl⟩
            rw [hq] at hsn hle2 ⊢
            rw [htA] at g1
            replace hsn := Lib.hid hsn
            clear hq ht hle hro
            go_wp2_with fail
            exact ⟨⟨i + 1, by go_num, by omega, by rw [hsn.out]; go_num, Lib.hid trivial⟩, by simp [intOf]; omega⟩
          · obtain rfl : i = l.length := by omega
            have hdi : ¬ (((l.length : Nat) : Int) < (l.length : Int)) := by omega
            rw [List.take_length]
            go_wp2_with fail
            obtain ⟨n, hnN⟩ : ∃ n, (relsA l).length = n := ⟨_, rfl⟩
            rw [hnN] at hn96 ⊢
            replace hnN := Lib.hid hnN
            have hsz : (s0.size : Int) ≤ 9223372036854775807 := by omega
            go_loopw [11, 12] (fun vm vi wx => ∃ i : Nat, vi = .int .i64 i ∧ i ≤ s0.size ∧ vm = .bool (mnB s0 i) ∧ Hid (wx = wr)) (fun _ vi _ => s0.size - (intOf vi).toNat)
            case atStart => exact ⟨0, rfl, Nat.zero_le _, rfl, Lib.hid rfl⟩
            case round =>
              obtain ⟨i, rfl, hi, rfl, hwx⟩ := hrel
              have hwx2 := hwx.out
              subst hwx2
              by_cases hil : i < s0.size
              · have hdi : (i : Int) < (s0.size : Int) := by omega
                have hms : Hid (mnB s0 (i + 1) = (mnB s0 i || decide (bt s0 i = 45))) := Lib.hid rfl
                generalize mnB s0 i = m at *
                cases m with
                | true =>
                  go_wp2_with fail
                  exact ⟨⟨i + 1, by go_num, by omega, by rw [hms.out]; rfl, Lib.hid trivial⟩, by simp [intOf]; omega⟩
                | false =>
                  go_wp2_with fail
                  exact ⟨⟨i + 1, by go_num, by omega, by rw [hms.out, Bool.false_or, i45, ← bt_eq s0 i hil], Lib.hid trivial⟩, by simp [intOf]; omega⟩
              · obtain rfl : i = s0.size := by omega
                have hdi : ¬ (((s0.size : Nat) : Int) < (s0.size : Int)) := by omega
                have hnm : mnB s0 s0.size = false → ∀ e ∈ edgesP (l.map TypA.says), e.2.2 = false := fun hm e he => edges_noNot (mnB_none hm) (by rw [hT.out, ← hl.out]; exact he)
                generalize mnB s0 s0.size = m at *
                have ke := edges_any hs (Nat.le_refl _) hr6 hro
                go_upto_region 20 with (fail)
                go_upto_region 21 with (go_at_call 10; refine ke.mono ?_; rintro e w5 ⟨A2, c2, zs, rfl, hz1, hz2, hz3, hb1⟩)
                replace hb := bthenZ hb hb.size hb1
                have hzl := edges_few hR.out hz1 hz2
                have hin : InR n zs := fun e he => by
                  have := edges_in ((hz2 e).1 he)
                  rw [hnN.out] at this
                  exact ⟨this.1, this.2.1, this.2.2.1, this.2.2.2.1⟩
                have hnz : m = false → ∀ e ∈ zs, e.2.2 = false := fun hm e he => hnm hm e ((hz2 e).1 he)
                clear ke hz2 hnm hro hr6 x0 xl hs d0 hb1
                go_wp2_with fail
                go_loopw [14] (fun vi wx => ∃ i : Nat, vi = .int .i64 i ∧ i ≤ zs.length ∧ Below w5.heap.size w5 wx) (fun vi _ => zs.length - (intOf vi).toNat)
                case atStart => exact ⟨0, rfl, Nat.zero_le _, Below.refl _ _⟩
                case round =>
                  obtain ⟨i, rfl, hi, hbx⟩ := hrel
                  by_cases hil : i < zs.length
                  · have hdi : (i : Int) < (zs.length : Int) := by omega
                    obtain ⟨⟨e1, e2, e3⟩, he⟩ : ∃ e, zs[i]? = some e := ⟨_, List.getElem?_eq_getElem hil⟩
                    have hem := List.mem_of_getElem? he
                    obtain ⟨r1, r2, r3, r4⟩ := hin _ hem
                    have hnot := hnz
                    have h3 := fun hm => hnz hm _ hem
                    simp only at r1 r2 r3 r4 h3
                    obtain ⟨b, o, rfl, _, g0, g1, g2⟩ := edge_at (hz3.up hbx) he rfl
                    simp only at g0 g1 g2
                    have hbx1 := hbx.alloc hbx.size (.cells #[.int .i64 e1, .int .i64 e2, .bool e3] 50)
                    have q1 : ¬ e1 < 0 := by omega
                    have q2 : ¬ e1 ≥ (n : Int) := by omega
                    have q3 : ¬ e2 < 0 := by omega
                    have q4 : ¬ e2 ≥ (n : Int) := by omega
                    have q5 : e3 = false ∨ (e3 = true ∧ m = true) := by
                      cases e3 with
                      | false => exact .inl rfl
                      | true =>
                        cases m with
                        | true => exact .inr ⟨rfl, rfl⟩
                        | false => exact absurd (h3 rfl) (by decide)
                    clear h3 hnot r1 r2 r3 r4
                    go_upto_region 25 with (fail)
                    have dX := Bk.new wr #[.int .i64 e1, .int .i64 e2, .bool e3] 50
                    have hz6 := (hz3.up hbx1)
                    generalize wr.alloc (.cells #[.int .i64 e1, .int .i64 e2, .bool e3] 50) = w6 at *
                    generalize wr.heap.size = gx at *
                    have y0 : w6.cell? ⟨gx, 0, none⟩ = some (.int .i64 e1) := dX.cell 0
                    have y1 : w6.cell? ⟨gx, 1, none⟩ = some (.int .i64 e2) := dX.cell 1
                    have y2 : w6.cell? ⟨gx, 2, none⟩ = some (.bool e3) := dX.cell 2
                    have yl := dX.lt
                    rcases i with _ | j
                    · rcases q5 with rfl | ⟨rfl, rfl⟩
                      · go_wp2_with fail
                        exact ⟨⟨1, by go_num, by omega, hbx1⟩, by simp [intOf]; omega⟩
                      · go_wp2_with fail
                        exact ⟨⟨1, by go_num, by omega, hbx1⟩, by simp [intOf]; omega⟩
                    · obtain ⟨⟨f1, f2, f3⟩, hf⟩ : ∃ e, zs[j]? = some e := ⟨_, List.getElem?_eq_getElem (by omega)⟩
                      have hord : cfE (f1, f2, f3) (e1, e2, e3) < 0 := by
                        obtain ⟨a1, a2⟩ := List.getElem?_eq_some_iff.1 hf
                        obtain ⟨b1, b2⟩ := List.getElem?_eq_some_iff.1 he
                        have := List.pairwise_iff_getElem.1 hz1 j (j + 1) a1 b1 (by omega)
                        rw [a2, b2] at this
                        exact this
                      rw [cfE_neg] at hord
                      simp only at hord
                      obtain ⟨b3, o3, e33, _, k0, k1, k2⟩ := edge_at hz6 hf rfl
                      injection e33 with e33
                      injection e33 with e331 e332 _
                      subst e331; subst e332
                      simp only at k0 k1 k2
                      have hbx2 := hbx1.alloc hbx1.size (.cells #[.int .i64 f1, .int .i64 f2, .bool f3] 50)
                      have dX2 := dX.alloc (.cells #[.int .i64 f1, .int .i64 f2, .bool f3] 50)
                      have dY := Bk.new w6 #[.int .i64 f1, .int .i64 f2, .bool f3] 50
                      have hjj : (((j + 1 : Nat) : Int) - 1) = (j : Nat) := by omega
                      have hj0 : ¬ (((j + 1 : Nat) : Int) = 0) := by omega
                      have hji : (j : Int) < (zs.length : Int) := by omega
                      have horder := Lib.hid hord
                      clear hord dX hz6
                      rcases q5 with rfl | ⟨rfl, rfl⟩
                      · go_upto_region 29 with (fail)
                        have v0 : (w6.alloc (.cells #[.int .i64 f1, .int .i64 f2, .bool f3] 50)).cell? ⟨w6.heap.size, 0, none⟩ = some (.int .i64 f1) := dY.cell 0
                        have v1 : (w6.alloc (.cells #[.int .i64 f1, .int .i64 f2, .bool f3] 50)).cell? ⟨w6.heap.size, 1, none⟩ = some (.int .i64 f2) := dY.cell 1
                        have v2 : (w6.alloc (.cells #[.int .i64 f1, .int .i64 f2, .bool f3] 50)).cell? ⟨w6.heap.size, 2, none⟩ = some (.bool f3) := dY.cell 2
                        have vl := dY.lt
                        have z0 : (w6.alloc (.cells #[.int .i64 f1, .int .i64 f2, .bool f3] 50)).cell? ⟨gx, 0, none⟩ = some (.int .i64 e1) := dX2.cell 0
                        have z1 : (w6.alloc (.cells #[.int .i64 f1, .int .i64 f2, .bool f3] 50)).cell? ⟨gx, 1, none⟩ = some (.int .i64 e2) := dX2.cell 1
                        have z2 : (w6.alloc (.cells #[.int .i64 f1, .int .i64 f2, .bool f3] 50)).cell? ⟨gx, 2, none⟩ = some (.bool false) := dX2.cell 2
                        have zl := dX2.lt
                        clear y0 y1 y2 yl dY dX2
                        generalize w6.alloc (.cells #[.int .i64 f1, .int .i64 f2, .bool f3] 50) = w7 at *
                        generalize w6.heap.size = gy at *
                        have hord := horder.out
                        rcases hord with hord | ⟨hord, hord2 | ⟨hord2, hord3⟩⟩
                        · have t1 : ¬ f1 > e1 := by omega
                          have t2 : ¬ f1 = e1 := by omega
                          clear hord horder
                          go_wp2_with fail
                          exact ⟨⟨j + 1 + 1, by go_num, by omega, hbx2⟩, by simp [intOf]; omega⟩
                        · subst hord
                          have t1 : ¬ f1 > f1 := by omega
                          have t2 : ¬ f2 > e2 := by omega
                          have t3 : ¬ f2 = e2 := by omega
                          clear hord2 horder
                          go_wp2_with fail
                          exact ⟨⟨j + 1 + 1, by go_num, by omega, hbx2⟩, by simp [intOf]; omega⟩
                        · exact absurd hord3 ri_no
                      · go_upto_region 29 with (fail)
                        have v0 : (w6.alloc (.cells #[.int .i64 f1, .int .i64 f2, .bool f3] 50)).cell? ⟨w6.heap.size, 0, none⟩ = some (.int .i64 f1) := dY.cell 0
                        have v1 : (w6.alloc (.cells #[.int .i64 f1, .int .i64 f2, .bool f3] 50)).cell? ⟨w6.heap.size, 1, none⟩ = some (.int .i64 f2) := dY.cell 1
                        have v2 : (w6.alloc (.cells #[.int .i64 f1, .int .i64 f2, .bool f3] 50)).cell? ⟨w6.heap.size, 2, none⟩ = some (.bool f3) := dY.cell 2
                        have vl := dY.lt
                        have z0 : (w6.alloc (.cells #[.int .i64 f1, .int .i64 f2, .bool f3] 50)).cell? ⟨gx, 0, none⟩ = some (.int .i64 e1) := dX2.cell 0
                        have z1 : (w6.alloc (.cells #[.int .i64 f1, .int .i64 f2, .bool f3] 50)).cell? ⟨gx, 1, none⟩ = some (.int .i64 e2) := dX2.cell 1
                        have z2 : (w6.alloc (.cells #[.int .i64 f1, .int .i64 f2, .bool f3] 50)).cell? ⟨gx, 2, none⟩ = some (.bool true) := dX2.cell 2
                        have zl := dX2.lt
                        clear y0 y1 y2 yl dY dX2
                        generalize w6.alloc (.cells #[.int .i64 f1, .int .i64 f2, .bool f3] 50) = w7 at *
                        generalize w6.heap.size = gy at *
                        have hord := horder.out
                        rcases hord with hord | ⟨hord, hord2 | ⟨hord2, hord3⟩⟩
                        · have t1 : ¬ f1 > e1 := by omega
                          have t2 : ¬ f1 = e1 := by omega
                          clear hord horder
                          go_wp2_with fail
                          exact ⟨⟨j + 1 + 1, by go_num, by omega, hbx2⟩, by simp [intOf]; omega⟩
                        · subst hord
                          have t1 : ¬ f1 > f1 := by omega
                          have t2 : ¬ f2 > e2 := by omega
                          have t3 : ¬ f2 = e2 := by omega
                          clear hord2 horder
                          go_wp2_with fail
                          exact ⟨⟨j + 1 + 1, by go_num, by omega, hbx2⟩, by simp [intOf]; omega⟩
                        · obtain rfl : f3 = false := by
                            cases f3 with
                            | false => rfl
                            | true => exact absurd hord3 ri_no2
                          subst hord; subst hord2
                          have t1 : ¬ f1 > f1 := by omega
                          have t2 : ¬ f2 > f2 := by omega
                          clear hord3 horder
                          go_wp2_with fail
                          exact ⟨⟨j + 1 + 1, by go_num, by omega, hbx2⟩, by simp [intOf]; omega⟩
                  · obtain rfl : i = zs.length := by omega
                    have hdi : ¬ (((zs.length : Nat) : Int) < (zs.length : Int)) := by omega
                    have hzz := hz3.up hbx
                    have kl := levels_res (n := n) hzz (by omega) (by omega)
                    have hbz := bthenZ hb hb.size hbx
                    go_upto_region 31 with (fail)
                    go_upto_region 32 with (go_at_call 13; refine kl.mono ?_; rintro e w7 ⟨⟨A7, c7, v, s, rfl, hv, hans⟩, hb7⟩)
                    have hb9 := bthenZ hbz hbz.size hb7
                    clear kl hzz hbz
                    cases hans with
                    | arg hi => exact absurd hin hi
                    | cyc hi hc =>
                      obtain ⟨e, he, h1, _⟩ := hc
                      cases m with
                      | false =>
                        have := hnz rfl e he
                        rw [h1] at this
                        cases this
                      | true =>
                        clear he h1 hnz
                        go_wp2_with fail
                        go_ret
                        exact ⟨rfl, hb9⟩
                    | ok hi v hvl hL hbd =>
                      rw [hvl] at hv ⊢
                      cases m with
                      | false =>
                        go_wp2_with fail
                        go_ret
                        exact ⟨rfl, hb9⟩
                      | true =>
                        go_wp2_with fail
                        go_ret
                        exact ⟨rfl, hb9⟩
      · have hf' : ¬ ((E1 : Int) = 0) := by omega
        go_wp2_with fail
        go_ret
        exact ⟨rfl, hb⟩
    · have he' : ¬ ((ea : Int) = 0) := by omega
      go_wp2_with fail
      go_ret
      exact ⟨rfl, hb⟩
end Go.Proofs.YtinfbimfiaegdaaGreat
