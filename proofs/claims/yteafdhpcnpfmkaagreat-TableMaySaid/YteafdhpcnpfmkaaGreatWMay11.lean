/- TableMay walked. Conditions: none. -/
import Derived.Test.YteafdhpcnpfmkaaGreatTabL
import Derived.Test.YteafdhpcnpfmkaaGreatAwake11
namespace Go.Proofs.YteafdhpcnpfmkaaGreat
open Go.RowKit

set_option maxRecDepth 100000 in
set_option maxHeartbeats 4000000 in
theorem tableMay_walk (s0 s1 s2 : ByteArray) (x3 : Int) (w : World) (_f0 : s0.size ≤ maxLen) (f1 : s1.size ≤ maxLen) (f2 : s2.size ≤ maxLen) (f3 : (Lit.int .i64 x3).wf = true) :
    Calls Tryz.prog 6 #[.string s0, .string s1, .string s2, .int .i64 x3] w fun e w' => e = .returned (.bool true) ∧ Below w.heap.size w w' := by
  have ka := awake11_any w
  by_cases h0 : 2100 < s0.size
  · have hd : (s0.size : Int) > 2100 := by omega
    go_enter Tryz.func6, Tryz.ntmps6
    go_wp2_with (go_at_call 8; refine ka.mono ?_; rintro e w1 ⟨rfl, hb⟩)
    go_ret
    exact ⟨rfl, hb⟩
  · have hd : ¬ (s0.size : Int) > 2100 := by omega
    go_enter Tryz.func6, Tryz.ntmps6
    go_upto_region 6 with (go_at_call 8; refine ka.mono ?_; rintro e w1 ⟨rfl, hb⟩)
    have kc := compile_any s0 (by omega) w1
    go_upto_region 7 with (go_at_call 9; refine kc.mono ?_; rintro e w2 ⟨⟨tx, Ay, cy, ty, mb, ps, Ar, cr, K, err, rfl, hT, hC⟩, hb1⟩)
    replace hb := bthenZ hb hb.size hb1
    have dT := Bk.new w2 #[.string tx, .slice Ay ty.length cy, .map mb, .slice Ar K.length cr] 27
    have hbn := bnewZ w2 (.cells #[.string tx, .slice Ay ty.length cy, .map mb, .slice Ar K.length cr] 27)
    replace hT := hT.up hbn
    replace hb := bthenZ hb hb.size hbn
    clear hbn kc hb1 ka
    generalize w2.alloc (.cells #[.string tx, .slice Ay ty.length cy, .map mb, .slice Ar K.length cr] 27) = w3 at *
    generalize w2.heap.size = g1 at *
    rcases hC.yes with ⟨he, _, _, _, _⟩ | ⟨he, v, hok⟩
    · have he' : ¬ ((err : Int) = 0) := by omega
      clear hC
      go_wp2_with fail
      go_ret
      exact ⟨rfl, hb⟩
    · subst he
      rw [show ((0 : Nat) : Int) = 0 from rfl]
      have hKn := hok.lenK
      have hK96 := hok.few
      have hty := Lib.hid hok.types
      replace hKn := Lib.hid hKn
      replace hok := Lib.hid hok
      clear hC
      have hKi : (K.length : Int) ≤ 9223372036854775807 := by omega
      go_wp2_with fail
      go_loopw [12] (fun vi wx => ∃ i : Nat, vi = .int .i64 i ∧ i ≤ K.length ∧ Below w3.heap.size w3 wx) (fun vi _ => K.length - (intOf vi).toNat)
      case atStart => exact ⟨0, rfl, Nat.zero_le _, Below.refl _ _⟩
      case round =>
        obtain ⟨i, rfl, hi, hbx⟩ := hrel
        replace hT := hT.up hbx
        replace dT := dT.below hbx
        by_cases hil : i < K.length
        · have hdi : (i : Int) < (K.length : Int) := by omega
          obtain ⟨tn, a, b, c, m0, m1, m2, m3, la, lb, lc, na, nb, nc⟩ := hok.out.metas hil
          have hmay := hok.out.may hil (s1, s2)
          have wi := wf11 (n := i) (by omega)
          have wa := wf11 (n := a) (by omega)
          have wb := wf11 (n := b) (by omega)
          have wc := wf11 (n := c) (by omega)
          replace m0 := Lib.hid m0
          replace m1 := Lib.hid m1
          replace m2 := Lib.hid m2
          replace m3 := Lib.hid m3
          replace na := Lib.hid na
          replace nb := Lib.hid nb
          replace nc := Lib.hid nc
          clear la lb lc
          obtain ⟨c0, c1, c2, c3⟩ := dT.c4
          have cl := dT.lt
          have kk := tlen_any (tx := tx) (Ay := Ay) (ny := ty.length) (cy := cy) (mb := mb) hT.rels
          go_upto_region 12 with (go_at_call 11; refine kk.mono ?_; rintro e wn ⟨rfl, hb3⟩)
          replace hT := hT.up hb3
          replace dT := dT.below hb3
          replace hbx := bthenZ hbx hbx.size hb3
          clear hb3 kk c0 c1 c2 c3 cl
          obtain ⟨c0, c1, c2, c3⟩ := dT.c4
          have cl := dT.lt
          have kk := by { have q := tpath_any (tx := tx) (Ay := Ay) (ny := ty.length) (cy := cy) (mb := mb) hT.rels (i : Int) wi; rw [m0.out] at q; exact q }
          go_upto_region 13 with (go_at_call 17; refine kk.mono ?_; rintro e wn ⟨rfl, hb3⟩)
          replace hT := hT.up hb3
          replace dT := dT.below hb3
          replace hbx := bthenZ hbx hbx.size hb3
          clear hb3 kk c0 c1 c2 c3 cl
          obtain ⟨c0, c1, c2, c3⟩ := dT.c4
          have cl := dT.lt
          have kk := by { have q := tmetas_any (tx := tx) (Ay := Ay) (ny := ty.length) (cy := cy) (mb := mb) hT.rels (i : Int) wi; rw [m1.out, m2.out, m3.out] at q; exact q }
          go_upto_region 14 with (go_at_call 19; refine kk.mono ?_; rintro e wn ⟨rfl, hb3⟩)
          replace hT := hT.up hb3
          replace dT := dT.below hb3
          replace hbx := bthenZ hbx hbx.size hb3
          clear hb3 kk c0 c1 c2 c3 cl
          obtain ⟨c0, c1, c2, c3⟩ := dT.c4
          have cl := dT.lt
          have kk := by { have q := tpath_any (tx := tx) (Ay := Ay) (ny := ty.length) (cy := cy) (mb := mb) hT.rels (a : Int) wa; rw [na.out] at q; exact q }
          go_upto_region 15 with (go_at_call 17; refine kk.mono ?_; rintro e wn ⟨rfl, hb3⟩)
          replace hT := hT.up hb3
          replace dT := dT.below hb3
          replace hbx := bthenZ hbx hbx.size hb3
          clear hb3 kk c0 c1 c2 c3 cl
          obtain ⟨c0, c1, c2, c3⟩ := dT.c4
          have cl := dT.lt
          have kk := by { have q := tpath_any (tx := tx) (Ay := Ay) (ny := ty.length) (cy := cy) (mb := mb) hT.rels (b : Int) wb; rw [nb.out] at q; exact q }
          go_upto_region 16 with (go_at_call 17; refine kk.mono ?_; rintro e wn ⟨rfl, hb3⟩)
          replace hT := hT.up hb3
          replace dT := dT.below hb3
          replace hbx := bthenZ hbx hbx.size hb3
          clear hb3 kk c0 c1 c2 c3 cl
          obtain ⟨c0, c1, c2, c3⟩ := dT.c4
          have cl := dT.lt
          have kk := by { have q := tpath_any (tx := tx) (Ay := Ay) (ny := ty.length) (cy := cy) (mb := mb) hT.rels (c : Int) wc; rw [nc.out] at q; exact q }
          go_upto_region 17 with (go_at_call 17; refine kk.mono ?_; rintro e wn ⟨rfl, hb3⟩)
          replace hT := hT.up hb3
          replace dT := dT.below hb3
          replace hbx := bthenZ hbx hbx.size hb3
          clear hb3 kk c0 c1 c2 c3 cl
          obtain ⟨ix, hix⟩ : ∃ ix, ixP ps (s1, s2) = ix := ⟨_, rfl⟩
          obtain ⟨isb, hib⟩ : ∃ isb, (lastIx ps (s1, s2)).isSome = isb := ⟨_, rfl⟩
          rw [hib] at hmay
          replace hix := Lib.hid hix
          replace hib := Lib.hid hib
          obtain ⟨c0, c1, c2, c3⟩ := dT.c4
          have cl := dT.lt
          have kk := by { have q := tid_any (tx := tx) (Ay := Ay) (ny := ty.length) (cy := cy) (Ar := Ar) (cr := cr) (nr := K.length) hT.ids s1 s2 f1 f2; rw [hix.out, hib.out] at q; exact q }
          go_upto_region 18 with (go_at_call 25; refine kk.mono ?_; rintro e wn ⟨rfl, hb3⟩)
          replace hT := hT.up hb3
          replace dT := dT.below hb3
          replace hbx := bthenZ hbx hbx.size hb3
          clear hb3 kk c0 c1 c2 c3 cl
          obtain ⟨qm, hqm⟩ : ∃ qm, ((atK K i).r.subs.any fun y => decide (y = (s1, s2))) = qm := ⟨_, rfl⟩
          obtain ⟨qh, hqh⟩ : ∃ qh, (ty.any fun y => decide (y = s1)) = qh := ⟨_, rfl⟩
          rw [hqm, hqh] at hmay
          replace hqm := Lib.hid hqm
          replace hqh := Lib.hid hqh
          have k1 : ∀ W : World, TabA W Ay cy ty mb ps Ar cr K → Calls Tryz.prog 21 #[.agg #[.string tx, .slice Ay ty.length cy, .map mb, .slice Ar K.length cr], .int .i64 (i : Int), .string s1, .string s2] W fun e w' => e = .returned (.bool qm) ∧ Below W.heap.size W w' := fun W h => by { have q := tmay_any (tx := tx) (Ay := Ay) (ny := ty.length) (cy := cy) (mb := mb) h.rels (i : Int) wi s1 s2; rw [hqm.out] at q; exact q }
          have k2 : ∀ W : World, TabA W Ay cy ty mb ps Ar cr K → Calls Tryz.prog 15 #[.agg #[.string tx, .slice Ay ty.length cy, .map mb, .slice Ar K.length cr], .string s1] W fun e w' => e = .returned (.bool qh) ∧ Below W.heap.size W w' := fun W h => by { have q := thas_any (tx := tx) (mb := mb) (Ar := Ar) (cr := cr) (nr := K.length) h.types s1; rw [hqh.out] at q; exact q }
          have hez := empty_dec s2
          cases qm with
          | false =>
            clear hmay
            obtain ⟨c0, c1, c2, c3⟩ := dT.c4
            have cl := dT.lt
            go_wp2_with (first
              | (go_at_call 21; with_reducible refine (k1 _ hT).mono ?_; rintro e wn ⟨rfl, hb3⟩; replace hT := hT.up hb3; replace dT := dT.below hb3; replace hbx := bthenZ hbx hbx.size hb3; obtain ⟨c0, c1, c2, c3⟩ := dT.c4; have cl := dT.lt; clear hb3)
              | (go_at_call 15; with_reducible refine (k2 _ hT).mono ?_; rintro e wn ⟨rfl, hb3⟩; replace hT := hT.up hb3; replace dT := dT.below hb3; replace hbx := bthenZ hbx hbx.size hb3; obtain ⟨c0, c1, c2, c3⟩ := dT.c4; have cl := dT.lt; clear hb3))
            exact ⟨⟨i + 1, by go_num, by omega, hbx⟩, by simp [intOf]; omega⟩
          | true =>
            obtain ⟨hh, hr⟩ := hmay rfl
            subst hh
            clear hmay
            by_cases hz : s2 = ⟨#[]⟩
            · rw [decide_eq_true hz] at hez
              clear hr
              replace hz := Lib.hid hz
              obtain ⟨c0, c1, c2, c3⟩ := dT.c4
              have cl := dT.lt
              go_wp2_with (first
              | (go_at_call 21; with_reducible refine (k1 _ hT).mono ?_; rintro e wn ⟨rfl, hb3⟩; replace hT := hT.up hb3; replace dT := dT.below hb3; replace hbx := bthenZ hbx hbx.size hb3; obtain ⟨c0, c1, c2, c3⟩ := dT.c4; have cl := dT.lt; clear hb3)
              | (go_at_call 15; with_reducible refine (k2 _ hT).mono ?_; rintro e wn ⟨rfl, hb3⟩; replace hT := hT.up hb3; replace dT := dT.below hb3; replace hbx := bthenZ hbx hbx.size hb3; obtain ⟨c0, c1, c2, c3⟩ := dT.c4; have cl := dT.lt; clear hb3))
              exact ⟨⟨i + 1, by go_num, by omega, hbx⟩, by simp [intOf]; omega⟩
            · rw [decide_eq_false hz] at hez
              have hr2 := hr.resolve_left hz
              subst hr2
              clear hr
              replace hz := Lib.hid hz
              obtain ⟨c0, c1, c2, c3⟩ := dT.c4
              have cl := dT.lt
              go_wp2_with (first
              | (go_at_call 21; with_reducible refine (k1 _ hT).mono ?_; rintro e wn ⟨rfl, hb3⟩; replace hT := hT.up hb3; replace dT := dT.below hb3; replace hbx := bthenZ hbx hbx.size hb3; obtain ⟨c0, c1, c2, c3⟩ := dT.c4; have cl := dT.lt; clear hb3)
              | (go_at_call 15; with_reducible refine (k2 _ hT).mono ?_; rintro e wn ⟨rfl, hb3⟩; replace hT := hT.up hb3; replace dT := dT.below hb3; replace hbx := bthenZ hbx hbx.size hb3; obtain ⟨c0, c1, c2, c3⟩ := dT.c4; have cl := dT.lt; clear hb3))
              exact ⟨⟨i + 1, by go_num, by omega, hbx⟩, by simp [intOf]; omega⟩
        · obtain rfl : i = K.length := by omega
          have hdi : ¬ (((K.length : Nat) : Int) < (K.length : Int)) := by omega
          obtain ⟨c0, c1, c2, c3⟩ := dT.c4
          have cl := dT.lt
          have kk := tlen_any (tx := tx) (Ay := Ay) (ny := ty.length) (cy := cy) (mb := mb) hT.rels
          go_upto_region 20 with (go_at_call 11; refine kk.mono ?_; rintro e wn ⟨rfl, hb3⟩)
          replace hT := hT.up hb3
          replace dT := dT.below hb3
          replace hbx := bthenZ hbx hbx.size hb3
          clear hb3 kk c0 c1 c2 c3 cl
          by_cases hin : 0 ≤ x3 ∧ x3 < K.length
          · have g1 : decide (x3 ≥ 0) = true := decide_eq_true hin.1
            have g2 : x3 ≥ 0 := hin.1
            have g3 : x3 < (K.length : Int) := hin.2
            obtain ⟨c0, c1, c2, c3⟩ := dT.c4
            have cl := dT.lt
            have kk := tlen_any (tx := tx) (Ay := Ay) (ny := ty.length) (cy := cy) (mb := mb) hT.rels
            go_wp2_with (go_at_call 11; refine kk.mono ?_; rintro e wn ⟨rfl, hb3⟩)
            go_ret
            exact ⟨rfl, bthenZ hb hb.size (bthenZ hbx hbx.size hb3)⟩
          · have hno : atK K x3 = noTR := by
              by_cases hn : x3 < 0
              · exact atK_neg hn
              · exact atK_out (by omega)
            replace hno := Lib.hid hno
            by_cases hn : x3 < 0
            · have g1 : ¬ (x3 ≥ 0) := by omega
              obtain ⟨c0, c1, c2, c3⟩ := dT.c4
              have cl := dT.lt
              go_upto_region 22 with (fail)
              clear c0 c1 c2 c3 cl
              have kP : ∀ W : World, TabA W Ay cy ty mb ps Ar cr K → Calls Tryz.prog 17 #[.agg #[.string tx, .slice Ay ty.length cy, .map mb, .slice Ar K.length cr], .int .i64 x3] W fun e w' => e = .returned (.tuple #[.string ⟨#[]⟩, .string ⟨#[]⟩]) ∧ Below W.heap.size W w' := fun W h => by { have q := tpath_any (tx := tx) (Ay := Ay) (ny := ty.length) (cy := cy) (mb := mb) h.rels x3 f3; rw [hno.out] at q; exact q }
              have kM : ∀ W : World, TabA W Ay cy ty mb ps Ar cr K → Calls Tryz.prog 19 #[.agg #[.string tx, .slice Ay ty.length cy, .map mb, .slice Ar K.length cr], .int .i64 x3] W fun e w' => e = .returned (.tuple #[.int .i64 0, .int .i64 0, .int .i64 0]) ∧ Below W.heap.size W w' := fun W h => by { have q := tmetas_any (tx := tx) (Ay := Ay) (ny := ty.length) (cy := cy) (mb := mb) h.rels x3 f3; rw [hno.out] at q; exact q }
              obtain ⟨c0, c1, c2, c3⟩ := dT.c4
              have cl := dT.lt
              have kk := kP _ hT
              go_upto_region 23 with (go_at_call 17; refine kk.mono ?_; rintro e wn ⟨rfl, hb3⟩)
              replace hT := hT.up hb3
              replace dT := dT.below hb3
              replace hbx := bthenZ hbx hbx.size hb3
              clear hb3 kk c0 c1 c2 c3 cl
              obtain ⟨c0, c1, c2, c3⟩ := dT.c4
              have cl := dT.lt
              have kk := kM _ hT
              go_upto_region 24 with (go_at_call 19; refine kk.mono ?_; rintro e wn ⟨rfl, hb3⟩)
              replace hT := hT.up hb3
              replace dT := dT.below hb3
              replace hbx := bthenZ hbx hbx.size hb3
              clear hb3 kk c0 c1 c2 c3 cl
              have k1 : ∀ W : World, TabA W Ay cy ty mb ps Ar cr K → Calls Tryz.prog 23 #[.agg #[.string tx, .slice Ay ty.length cy, .map mb, .slice Ar K.length cr], .int .i64 x3] W fun e w' => e = .returned (.int .i64 0) ∧ Below W.heap.size W w' := fun W h => by { have q := tlevel_any (tx := tx) (Ay := Ay) (ny := ty.length) (cy := cy) (mb := mb) h.rels x3 f3; rw [hno.out] at q; exact q }
              have k2 : ∀ W : World, TabA W Ay cy ty mb ps Ar cr K → Calls Tryz.prog 21 #[.agg #[.string tx, .slice Ay ty.length cy, .map mb, .slice Ar K.length cr], .int .i64 x3, .string s1, .string s2] W fun e w' => e = .returned (.bool false) ∧ Below W.heap.size W w' := fun W h => by { have q := tmay_any (tx := tx) (Ay := Ay) (ny := ty.length) (cy := cy) (mb := mb) h.rels x3 f3 s1 s2; rw [hno.out] at q; exact q }
              have k3 : ∀ W : World, TabA W Ay cy ty mb ps Ar cr K → Calls Tryz.prog 20 #[.agg #[.string tx, .slice Ay ty.length cy, .map mb, .slice Ar K.length cr], .int .i64 x3] W fun e w' => (∃ A c, e = .returned (.slice A 0 c)) ∧ Below W.heap.size W w' := fun W h => by { have q := tops_any (tx := tx) (Ay := Ay) (ny := ty.length) (cy := cy) (mb := mb) h.rels x3 f3; rw [hno.out] at q; exact q.mono fun e w' ⟨⟨A, c, he, _⟩, hb⟩ => ⟨⟨A, c, he⟩, hb⟩ }
              obtain ⟨c0, c1, c2, c3⟩ := dT.c4
              have cl := dT.lt
              go_wp2_with (first
                  | (go_at_call 23; with_reducible refine (k1 _ hT).mono ?_; rintro e wn ⟨rfl, hb3⟩; replace hT := hT.up hb3; replace dT := dT.below hb3; replace hbx := bthenZ hbx hbx.size hb3; obtain ⟨c0, c1, c2, c3⟩ := dT.c4; have cl := dT.lt; clear hb3)
                  | (go_at_call 21; with_reducible refine (k2 _ hT).mono ?_; rintro e wn ⟨rfl, hb3⟩; replace hT := hT.up hb3; replace dT := dT.below hb3; replace hbx := bthenZ hbx hbx.size hb3; obtain ⟨c0, c1, c2, c3⟩ := dT.c4; have cl := dT.lt; clear hb3)
                  | (go_at_call 20; with_reducible refine (k3 _ hT).mono ?_; rintro e wn ⟨⟨Ao, co, rfl⟩, hb3⟩; replace hT := hT.up hb3; replace dT := dT.below hb3; replace hbx := bthenZ hbx hbx.size hb3; obtain ⟨c0, c1, c2, c3⟩ := dT.c4; have cl := dT.lt; clear hb3))
              go_ret
              exact ⟨rfl, bthenZ hb hb.size hbx⟩
            · have g1 : x3 ≥ 0 := by omega
              have g3 : ¬ (x3 < (K.length : Int)) := by omega
              obtain ⟨c0, c1, c2, c3⟩ := dT.c4
              have cl := dT.lt
              have kk := tlen_any (tx := tx) (Ay := Ay) (ny := ty.length) (cy := cy) (mb := mb) hT.rels
              go_upto_region 22 with (go_at_call 11; refine kk.mono ?_; rintro e wn ⟨rfl, hb3⟩)
              replace hT := hT.up hb3
              replace dT := dT.below hb3
              replace hbx := bthenZ hbx hbx.size hb3
              clear hb3 kk c0 c1 c2 c3 cl
              have kP : ∀ W : World, TabA W Ay cy ty mb ps Ar cr K → Calls Tryz.prog 17 #[.agg #[.string tx, .slice Ay ty.length cy, .map mb, .slice Ar K.length cr], .int .i64 x3] W fun e w' => e = .returned (.tuple #[.string ⟨#[]⟩, .string ⟨#[]⟩]) ∧ Below W.heap.size W w' := fun W h => by { have q := tpath_any (tx := tx) (Ay := Ay) (ny := ty.length) (cy := cy) (mb := mb) h.rels x3 f3; rw [hno.out] at q; exact q }
              have kM : ∀ W : World, TabA W Ay cy ty mb ps Ar cr K → Calls Tryz.prog 19 #[.agg #[.string tx, .slice Ay ty.length cy, .map mb, .slice Ar K.length cr], .int .i64 x3] W fun e w' => e = .returned (.tuple #[.int .i64 0, .int .i64 0, .int .i64 0]) ∧ Below W.heap.size W w' := fun W h => by { have q := tmetas_any (tx := tx) (Ay := Ay) (ny := ty.length) (cy := cy) (mb := mb) h.rels x3 f3; rw [hno.out] at q; exact q }
              obtain ⟨c0, c1, c2, c3⟩ := dT.c4
              have cl := dT.lt
              have kk := kP _ hT
              go_upto_region 23 with (go_at_call 17; refine kk.mono ?_; rintro e wn ⟨rfl, hb3⟩)
              replace hT := hT.up hb3
              replace dT := dT.below hb3
              replace hbx := bthenZ hbx hbx.size hb3
              clear hb3 kk c0 c1 c2 c3 cl
              obtain ⟨c0, c1, c2, c3⟩ := dT.c4
              have cl := dT.lt
              have kk := kM _ hT
              go_upto_region 24 with (go_at_call 19; refine kk.mono ?_; rintro e wn ⟨rfl, hb3⟩)
              replace hT := hT.up hb3
              replace dT := dT.below hb3
              replace hbx := bthenZ hbx hbx.size hb3
              clear hb3 kk c0 c1 c2 c3 cl
              have k1 : ∀ W : World, TabA W Ay cy ty mb ps Ar cr K → Calls Tryz.prog 23 #[.agg #[.string tx, .slice Ay ty.length cy, .map mb, .slice Ar K.length cr], .int .i64 x3] W fun e w' => e = .returned (.int .i64 0) ∧ Below W.heap.size W w' := fun W h => by { have q := tlevel_any (tx := tx) (Ay := Ay) (ny := ty.length) (cy := cy) (mb := mb) h.rels x3 f3; rw [hno.out] at q; exact q }
              have k2 : ∀ W : World, TabA W Ay cy ty mb ps Ar cr K → Calls Tryz.prog 21 #[.agg #[.string tx, .slice Ay ty.length cy, .map mb, .slice Ar K.length cr], .int .i64 x3, .string s1, .string s2] W fun e w' => e = .returned (.bool false) ∧ Below W.heap.size W w' := fun W h => by { have q := tmay_any (tx := tx) (Ay := Ay) (ny := ty.length) (cy := cy) (mb := mb) h.rels x3 f3 s1 s2; rw [hno.out] at q; exact q }
              have k3 : ∀ W : World, TabA W Ay cy ty mb ps Ar cr K → Calls Tryz.prog 20 #[.agg #[.string tx, .slice Ay ty.length cy, .map mb, .slice Ar K.length cr], .int .i64 x3] W fun e w' => (∃ A c, e = .returned (.slice A 0 c)) ∧ Below W.heap.size W w' := fun W h => by { have q := tops_any (tx := tx) (Ay := Ay) (ny := ty.length) (cy := cy) (mb := mb) h.rels x3 f3; rw [hno.out] at q; exact q.mono fun e w' ⟨⟨A, c, he, _⟩, hb⟩ => ⟨⟨A, c, he⟩, hb⟩ }
              obtain ⟨c0, c1, c2, c3⟩ := dT.c4
              have cl := dT.lt
              go_wp2_with (first
                  | (go_at_call 23; with_reducible refine (k1 _ hT).mono ?_; rintro e wn ⟨rfl, hb3⟩; replace hT := hT.up hb3; replace dT := dT.below hb3; replace hbx := bthenZ hbx hbx.size hb3; obtain ⟨c0, c1, c2, c3⟩ := dT.c4; have cl := dT.lt; clear hb3)
                  | (go_at_call 21; with_reducible refine (k2 _ hT).mono ?_; rintro e wn ⟨rfl, hb3⟩; replace hT := hT.up hb3; replace dT := dT.below hb3; replace hbx := bthenZ hbx hbx.size hb3; obtain ⟨c0, c1, c2, c3⟩ := dT.c4; have cl := dT.lt; clear hb3)
                  | (go_at_call 20; with_reducible refine (k3 _ hT).mono ?_; rintro e wn ⟨⟨Ao, co, rfl⟩, hb3⟩; replace hT := hT.up hb3; replace dT := dT.below hb3; replace hbx := bthenZ hbx hbx.size hb3; obtain ⟨c0, c1, c2, c3⟩ := dT.c4; have cl := dT.lt; clear hb3))
              go_ret
              exact ⟨rfl, bthenZ hb hb.size hbx⟩
end Go.Proofs.YteafdhpcnpfmkaaGreat
