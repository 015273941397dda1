/- TableWords walked. Conditions: none. -/
import Derived.Test.YteafdhpcnpfmkaaGreatAwake11
import Derived.Test.YteafdhpcnpfmkaaGreatCompP
import Derived.Test.YteafdhpcnpfmkaaGreatWordT
import Derived.IntWalk
namespace Go.Proofs.YteafdhpcnpfmkaaGreat
open Go.RowKit

theorem mk_all (s : ByteArray) : mk11 s.data.toList = s := by
  apply ByteArray.ext
  simp [mk11]
theorem one_size (l : List UInt8) : (insL l).size ≤ 12 * l.length := by
  induction l with
  | nil => exact Nat.le_refl _
  | cons b r ih =>
    show (pre11 b.toNat ++ (mk11 [b] ++ (post11 b.toNat ++ insL r))).size ≤ _
    rw [size_app, size_app, size_app, List.length_cons]
    have h1 : (pre11 b.toNat).size ≤ 10 := by
      unfold pre11
      split
      · exact Nat.le_refl _
      · exact Nat.zero_le _
    have h2 : (post11 b.toNat).size ≤ 1 := by
      unfold post11
      split
      · exact Nat.le_refl _
      · exact Nat.zero_le _
    have h3 : (mk11 [b]).size = 1 := rfl
    omega
theorem ins_step {s : ByteArray} {i : Nat} (h : i < s.size) : insL (s.data.toList.take (i + 1)) = insL (s.data.toList.take i) ++ pre11 (bt s i) ++ s.extract i (i + 1) ++ post11 (bt s i) := by
  have hl : i < s.data.toList.length := by rw [Array.length_toList]; exact h
  have hb : s.data.toList[i].toNat = bt s i := by
    rw [bt_eq s i h]
    rfl
  have he : mk11 [s.data.toList[i]] = s.extract i (i + 1) := by
    refine bt_ext (by rw [mk_size, size_ext]; show 1 = _; omega) fun k hk => ?_
    have hk0 : k = 0 := by rw [mk_size] at hk; simp at hk; exact hk
    subst hk0
    rw [bt_ext_get s i (i + 1) 0 (by omega), Nat.add_zero, ← hb, mk_bt (b := s.data.toList[i]) rfl]
  rw [List.take_add_one, List.getElem?_eq_getElem hl, Option.toList_some, insL_snoc, hb, he]
set_option maxRecDepth 100000 in
set_option maxHeartbeats 1000000 in
theorem tableWords_walk (s0 : ByteArray) (w : World) (_f0 : s0.size ≤ maxLen) :
    Calls Tryz.prog 7 #[.string s0] w fun e w' => e = .returned (.bool true) ∧ Below w.heap.size w w' := by
  have ka := awake11_any w
  by_cases h0 : 1000 < s0.size
  · have hd : (s0.size : Int) > 1000 := by omega
    go_enter Tryz.func7, Tryz.ntmps7
    go_wp2_with (go_at_call 8; refine ka.mono ?_; rintro e w1 ⟨rfl, hb⟩)
    go_ret
    exact ⟨rfl, hb⟩
  · have hd : ¬ (s0.size : Int) > 1000 := by omega
    have hsi : (s0.size : Int) ≤ 9223372036854775807 := by omega
    go_enter Tryz.func7, Tryz.ntmps7
    go_upto_region 6 with (go_at_call 8; refine ka.mono ?_; rintro e w1 ⟨rfl, hb⟩)
    have kc := compile_any s0 (by omega) w1
    go_upto_region 7 with (go_at_call 9; refine kc.mono ?_; rintro e w2 ⟨⟨tx, Ay, cy, ty, mb, ps, Ar, cr, K, err, rfl, hT, hC⟩, hb1⟩)
    replace hb := bthenZ hb hb.size hb1
    have dT := Bk.new w2 #[.string tx, .slice Ay ty.length cy, .map mb, .slice Ar K.length cr] 27
    have hbn := bnewZ w2 (.cells #[.string tx, .slice Ay ty.length cy, .map mb, .slice Ar K.length cr] 27)
    replace hT := hT.up hbn
    replace hb := bthenZ hb hb.size hbn
    clear hbn kc hb1 ka
    generalize w2.alloc (.cells #[.string tx, .slice Ay ty.length cy, .map mb, .slice Ar K.length cr] 27) = w3 at *
    generalize w2.heap.size = g1 at *
    replace hC := Lib.hid hC
    have hl : s0.data.toList.length = s0.size := Array.length_toList
    replace hl := Lib.hid hl
    go_wp2_with fail
    go_loopw [6, 7] (fun v vi wx => ∃ i : Nat, vi = .int .i64 i ∧ i ≤ s0.size ∧ v = .string (insL (s0.data.toList.take i)) ∧ Hid (wx = w3)) (fun _ vi _ => s0.size - (intOf vi).toNat)
    case atStart => exact ⟨0, rfl, Nat.zero_le _, rfl, Lib.hid rfl⟩
    case round =>
      obtain ⟨i, rfl, hi, rfl, hwx⟩ := hrel
      have hwx2 := hwx.out
      subst hwx2
      by_cases hil : i < s0.size
      · have hdi : (i : Int) < (s0.size : Int) := by omega
        have hz := one_size (s0.data.toList.take i)
        rw [List.length_take, hl.out] at hz
        have hst := ins_step hil
        obtain ⟨T0, hT0⟩ : ∃ T0, insL (s0.data.toList.take i) = T0 := ⟨_, rfl⟩
        rw [hT0] at hz hst ⊢
        replace hT0 := Lib.hid hT0
        have hzz : T0.size ≤ 12000 := by omega
        have hex : (s0.extract i (i + 1)).size = 1 := by rw [size_ext]; omega
        clear hz
        replace hst := Lib.hid hst
        by_cases c1 : bt s0 i = 123
        · have e1 : (((s0[i].toNat : Nat) : Int) == 123) = true := by rw [← bt_eq s0 i hil, c1]; rfl
          have e2 : (((s0[i].toNat : Nat) : Int) == 59) = false := by rw [← bt_eq s0 i hil, c1]; rfl
          have hst2 : insL (s0.data.toList.take (i + 1)) = T0 ++ note11 ++ s0.extract i (i + 1) := by rw [hst.out]; unfold pre11 post11; rw [if_pos c1, if_neg (by omega), app_nil]
          go_wp2_with fail
          exact ⟨⟨i + 1, by go_num, by omega, by rw [hst2]; rfl, Lib.hid trivial⟩, by simp [intOf]; omega⟩
        · by_cases c2 : bt s0 i = 59
          · have e1 : (((s0[i].toNat : Nat) : Int) == 123) = false := by rw [← bt_eq s0 i hil, c2]; rfl
            have e2 : (((s0[i].toNat : Nat) : Int) == 59) = true := by rw [← bt_eq s0 i hil, c2]; rfl
            have hst2 : insL (s0.data.toList.take (i + 1)) = T0 ++ s0.extract i (i + 1) ++ ⟨#[10]⟩ := by rw [hst.out]; unfold pre11 post11; rw [if_neg c1, if_pos c2, app_nil]
            go_wp2_with fail
            exact ⟨⟨i + 1, by go_num, by omega, by rw [hst2], Lib.hid trivial⟩, by simp [intOf]; omega⟩
          · have e1 : (((s0[i].toNat : Nat) : Int) == 123) = false := by rw [← bt_eq s0 i hil, beq_eq_false_iff_ne]; omega
            have e2 : (((s0[i].toNat : Nat) : Int) == 59) = false := by rw [← bt_eq s0 i hil, beq_eq_false_iff_ne]; omega
            have hst2 : insL (s0.data.toList.take (i + 1)) = T0 ++ s0.extract i (i + 1) := by rw [hst.out]; unfold pre11 post11; rw [if_neg c1, if_neg c2, app_nil, app_nil]
            go_wp2_with fail
            exact ⟨⟨i + 1, by go_num, by omega, by rw [hst2], Lib.hid trivial⟩, by simp [intOf]; omega⟩
      · obtain rfl : i = s0.size := by omega
        have hdi : ¬ (((s0.size : Nat) : Int) < (s0.size : Int)) := by omega
        rw [show s0.data.toList.take s0.size = s0.data.toList from List.take_of_length_le (by rw [hl.out]; exact Nat.le_refl _)]
        have hz := one_size s0.data.toList
        rw [hl.out] at hz
        obtain ⟨U, hU⟩ : ∃ U, insL s0.data.toList = U := ⟨_, rfl⟩
        rw [hU] at hz ⊢
        replace hU := Lib.hid hU
        have hzz : U.size ≤ 12000 := by omega
        clear hz
        go_wp2_with fail
        go_loopw [8] (fun vi wx => ∃ i : Nat, vi = .int .i64 i ∧ i ≤ s0.size ∧ (∀ j, j < i → bt s0 j ≠ 47) ∧ Hid (wx = wr)) (fun vi _ => s0.size - (intOf vi).toNat)
        case atStart => exact ⟨0, rfl, Nat.zero_le _, fun j hj => absurd hj (Nat.not_lt_zero _), Lib.hid rfl⟩
        case round =>
          obtain ⟨i, rfl, hi, hno, hwx⟩ := hrel
          have hwx2 := hwx.out
          subst hwx2
          by_cases hil : i < s0.size
          · have hdi : (i : Int) < (s0.size : Int) := by omega
            by_cases c1 : bt s0 i = 47
            · have e1 : (((s0[i].toNat : Nat) : Int) == 47) = true := by rw [← bt_eq s0 i hil, c1]; rfl
              go_wp2_with fail
              go_ret
              exact ⟨rfl, hb⟩
            · have e1 : (((s0[i].toNat : Nat) : Int) == 47) = false := by rw [← bt_eq s0 i hil, beq_eq_false_iff_ne]; omega
              have hno2 : ∀ j, j < i + 1 → bt s0 j ≠ 47 := fun j hj => by
                by_cases e : j = i
                · rw [e]; exact c1
                · exact hno j (by omega)
              replace hno2 := Lib.hid hno2
              clear hno
              go_wp2_with fail
              exact ⟨⟨i + 1, by go_num, by omega, hno2.out, Lib.hid trivial⟩, by simp [intOf]; omega⟩
          · obtain rfl : i = s0.size := by omega
            have hdi : ¬ (((s0.size : Nat) : Int) < (s0.size : Int)) := by omega
            have h47 : ∀ b ∈ s0.data.toList, b.toNat ≠ 47 := fun b hb => by
              obtain ⟨j, hj⟩ := List.getElem?_of_mem hb
              have hjl := (List.getElem?_eq_some_iff.1 hj).1
              rw [hl.out] at hjl
              have := hno j hjl
              rw [← mk_all s0, mk_bt hj] at this
              exact this
            clear hno
            replace h47 := Lib.hid h47
            by_cases hu : 2048 < U.size
            · have hu' : (U.size : Int) > 2048 := by omega
              go_wp2_with fail
              go_ret
              exact ⟨rfl, hb⟩
            · have hu' : ¬ (U.size : Int) > 2048 := by omega
              have hsame := parse_same (s := s0) (t := U) (by
                have := ins_all (l := s0.data.toList) h47.out (by rw [hl.out]; omega) (by rw [hU.out]; omega)
                rw [hU.out, mk_all] at this
                exact ⟨this.1.symm, fun h => (this.2 (this.1.trans h)).symm⟩)
              have kc := compile_any U (by omega) wr
              go_upto_region 24 with (go_at_call 9; refine kc.mono ?_; rintro e w4 ⟨⟨ux, Uy, vy, uy, nb, qs, Ur, vr, K2, err2, rfl, hT2, hC2⟩, hb1⟩)
              have qq := hC.out.one (hC2.move hsame.1 hsame.2)
              have q1 := qq.1
              have q2 := qq.2.1
              have q5 := qq.2.2.2.2
              clear qq
              have hKK : K.length = K2.length := by have := congrArg List.length q5; rwa [List.length_map, List.length_map] at this
              subst q1
              subst q2
              replace hb := bthenZ hb hb.size hb1
              replace dT := dT.below hb1
              replace hT := hT.up hb1
              have hbn := bnewZ w4 (.cells #[.string tx, .slice Uy uy.length vy, .map nb, .slice Ur K2.length vr] 27)
              have dU := Bk.new w4 #[.string tx, .slice Uy uy.length vy, .map nb, .slice Ur K2.length vr] 27
              replace hT := hT.up hbn
              replace hT2 := hT2.up hbn
              replace dT := dT.below hbn
              replace hb := bthenZ hb hb.size hbn
              clear hbn kc hb1 hsame hC2 q5
              generalize w4.alloc (.cells #[.string tx, .slice Uy uy.length vy, .map nb, .slice Ur K2.length vr] 27) = w5 at *
              generalize w4.heap.size = g4 at *
              replace hKK := Lib.hid hKK
              refine wp_region_any (by kernel_rfl) ?_
              change wpAny _ _ _ _ _ _ _ (World.drew _)
              generalize hdw : World.drew w5 = wz at *
              have hbd : Below w5.heap.size w5 wz := by subst hdw; exact ⟨rfl, rfl, rfl, Nat.le_refl _, fun _ _ => rfl⟩
              replace hT := hT.up hbd
              replace hT2 := hT2.up hbd
              replace dT := dT.below hbd
              replace dU := dU.below hbd
              replace hb := bthenZ hb hb.size hbd
              have k1 := fun (W : World) (_ : Below wz.heap.size wz W) => ttext_any (w := W) (tx := tx) (Ay := Ay) (ny := ty.length) (cy := cy) (mb := mb) (Ar := Ar) (cr := cr) (nr := K.length)
              have k2 := fun (W : World) (_ : Below wz.heap.size wz W) => ttext_any (w := W) (tx := tx) (Ay := Uy) (ny := uy.length) (cy := vy) (mb := nb) (Ar := Ur) (cr := vr) (nr := K2.length)
              have k3 := fun (W : World) (h : Below wz.heap.size wz W) => tlen_any (tx := tx) (Ay := Ay) (ny := ty.length) (cy := cy) (mb := mb) (hT.rels.up h)
              have k4 := fun (W : World) (h : Below wz.heap.size wz W) => (tlen_any (tx := tx) (Ay := Uy) (ny := uy.length) (cy := vy) (mb := nb) (hT2.rels.up h)).mono fun e w' (q : e = .returned (.int .i64 (K2.length : Nat)) ∧ Below W.heap.size W w') => show e = .returned (.int .i64 (K.length : Nat)) ∧ Below W.heap.size W w' from ⟨by rw [q.1, hKK.out], q.2⟩
              clear hdw hbd
              have hSk : ∀ W, Below wz.heap.size wz W → (W.cell? ⟨g1, 0, none⟩ = some (.string tx) ∧ W.cell? ⟨g1, 1, none⟩ = some (.slice Ay ty.length cy) ∧ W.cell? ⟨g1, 2, none⟩ = some (.map mb) ∧ W.cell? ⟨g1, 3, none⟩ = some (.slice Ar K.length cr) ∧ W.cell? ⟨g4, 0, none⟩ = some (.string tx) ∧ W.cell? ⟨g4, 1, none⟩ = some (.slice Uy uy.length vy) ∧ W.cell? ⟨g4, 2, none⟩ = some (.map nb) ∧ W.cell? ⟨g4, 3, none⟩ = some (.slice Ur K2.length vr)) := fun W hb => ⟨(dT.below hb).cell 0, (dT.below hb).cell 1, (dT.below hb).cell 2, (dT.below hb).cell 3, (dU.below hb).cell 0, (dU.below hb).cell 1, (dU.below hb).cell 2, (dU.below hb).cell 3⟩
              have hz0 := Below.refl wz.heap.size wz
              have HS := hSk _ hz0
              refine wpAny_of_held (S := fun W => W.cell? ⟨g1, 0, none⟩ = some (.string tx) ∧ W.cell? ⟨g1, 1, none⟩ = some (.slice Ay ty.length cy) ∧ W.cell? ⟨g1, 2, none⟩ = some (.map mb) ∧ W.cell? ⟨g1, 3, none⟩ = some (.slice Ar K.length cr) ∧ W.cell? ⟨g4, 0, none⟩ = some (.string tx) ∧ W.cell? ⟨g4, 1, none⟩ = some (.slice Uy uy.length vy) ∧ W.cell? ⟨g4, 2, none⟩ = some (.map nb) ∧ W.cell? ⟨g4, 3, none⟩ = some (.slice Ur K2.length vr)) _ _ _ _ ?_
              refine roH_take 0 (some 65) (v := ?v0k) rfl rfl (by kernel_rfl) (by kernel_rfl) (by kernel_rfl) (fun _ _ _ h => h) (by rfl) ?y0k HS ?r0k
              case y0k => (intro W hS; go_simp; try with_reducible rfl)
              simp only [Act.put, List.setIfInBounds_toArray, List.set_cons_zero, List.set_cons_succ]
              refine roH_take 1 (some 66) (v := ?v1k) rfl rfl (by kernel_rfl) (by kernel_rfl) (by kernel_rfl) (fun _ _ _ h => h) (by rfl) ?y1k HS ?r1k
              case y1k => (intro W hS; go_simp; try with_reducible rfl)
              simp only [Act.put, List.setIfInBounds_toArray, List.set_cons_zero, List.set_cons_succ]
              refine roH_take 2 (some 67) (v := ?v2k) rfl rfl (by kernel_rfl) (by kernel_rfl) (by kernel_rfl) (fun _ _ _ h => h) (by rfl) ?y2k HS ?r2k
              case y2k => (intro W hS; go_simp; try with_reducible rfl)
              simp only [Act.put, List.setIfInBounds_toArray, List.set_cons_zero, List.set_cons_succ]
              refine roH_take 3 (some 68) (v := ?v3k) rfl rfl (by kernel_rfl) (by kernel_rfl) (by kernel_rfl) (fun _ _ _ h => h) (by rfl) ?y3k HS ?r3k
              case y3k => (intro W hS; go_simp; try with_reducible rfl)
              simp only [Act.put, List.setIfInBounds_toArray, List.set_cons_zero, List.set_cons_succ]
              refine roH_take 4 (some 69) (v := ?v4k) rfl rfl (by kernel_rfl) (by kernel_rfl) (by kernel_rfl) (fun _ _ _ h => h) (by rfl) ?y4k HS ?r4k
              case y4k => (intro W hS; obtain ⟨s0, s1, s2, s3, s4, s5, s6, s7⟩ := hS; go_simp; try with_reducible rfl)
              simp only [Act.put, List.setIfInBounds_toArray, List.set_cons_zero, List.set_cons_succ]
              refine roH_take 6 (some 71) (v := ?v6k) rfl rfl (by kernel_rfl) (by kernel_rfl) (by kernel_rfl) (fun _ _ _ h => h) (by rfl) ?y6k HS ?r6k
              case y6k => (intro W hS; obtain ⟨s0, s1, s2, s3, s4, s5, s6, s7⟩ := hS; go_simp; try with_reducible rfl)
              simp only [Act.put, List.setIfInBounds_toArray, List.set_cons_zero, List.set_cons_succ]
              refine roH_one 5 rfl (by kernel_rfl) ?_
              intro Kf hKf
              go_simp
              refine (k1 _ hz0).mono ?_
              rintro e W1k ⟨rfl, hc1k⟩
              have hz1k : Below wz.heap.size wz W1k := bthenZ hz0 hz0.size hc1k
              replace HS := hSk _ hz1k
              refine hKf _ _ HS ?_
              clear hKf Kf
              refine roH_one 7 rfl (by kernel_rfl) ?_
              intro Kf hKf
              go_simp
              refine (k2 _ hz1k).mono ?_
              rintro e W2k ⟨rfl, hc2k⟩
              have hz2k : Below wz.heap.size wz W2k := bthenZ hz1k hz1k.size hc2k
              replace HS := hSk _ hz2k
              refine hKf _ _ HS ?_
              clear hKf Kf
              refine roH_take 8 (some 73) (v := ?v8k) rfl rfl (by kernel_rfl) (by kernel_rfl) (by kernel_rfl) (fun _ _ _ h => h) (by rfl) ?y8k HS ?r8k
              case y8k => (intro W hS; go_simp; try with_reducible rfl)
              simp only [Act.put, List.setIfInBounds_toArray, List.set_cons_zero, List.set_cons_succ]
              refine roH_take 9 (some 74) (v := ?v9k) rfl rfl (by kernel_rfl) (by kernel_rfl) (by kernel_rfl) (fun _ _ _ h => h) (by rfl) ?y9k HS ?r9k
              case y9k => (intro W hS; go_simp; try with_reducible rfl)
              simp only [Act.put, List.setIfInBounds_toArray, List.set_cons_zero, List.set_cons_succ]
              refine roH_take 10 (some 75) (v := ?v10k) rfl rfl (by kernel_rfl) (by kernel_rfl) (by kernel_rfl) (fun _ _ _ h => h) (by rfl) ?y10k HS ?r10k
              case y10k => (intro W hS; go_simp; try with_reducible rfl)
              simp only [Act.put, List.setIfInBounds_toArray, List.set_cons_zero, List.set_cons_succ]
              refine roH_take 11 (some 76) (v := ?v11k) rfl rfl (by kernel_rfl) (by kernel_rfl) (by kernel_rfl) (fun _ _ _ h => h) (by rfl) ?y11k HS ?r11k
              case y11k => (intro W hS; obtain ⟨s0, s1, s2, s3, s4, s5, s6, s7⟩ := hS; go_simp; try with_reducible rfl)
              simp only [Act.put, List.setIfInBounds_toArray, List.set_cons_zero, List.set_cons_succ]
              refine roH_take 13 (some 78) (v := ?v13k) rfl rfl (by kernel_rfl) (by kernel_rfl) (by kernel_rfl) (fun _ _ _ h => h) (by rfl) ?y13k HS ?r13k
              case y13k => (intro W hS; obtain ⟨s0, s1, s2, s3, s4, s5, s6, s7⟩ := hS; go_simp; try with_reducible rfl)
              simp only [Act.put, List.setIfInBounds_toArray, List.set_cons_zero, List.set_cons_succ]
              refine roH_one 12 rfl (by kernel_rfl) ?_
              intro Kf hKf
              go_simp
              refine (k3 _ hz2k).mono ?_
              rintro e W3k ⟨rfl, hc3k⟩
              have hz3k : Below wz.heap.size wz W3k := bthenZ hz2k hz2k.size hc3k
              replace HS := hSk _ hz3k
              refine hKf _ _ HS ?_
              clear hKf Kf
              refine roH_one 14 rfl (by kernel_rfl) ?_
              intro Kf hKf
              go_simp
              refine (k4 _ hz3k).mono ?_
              rintro e W4k ⟨rfl, hc4k⟩
              have hz4k : Below wz.heap.size wz W4k := bthenZ hz3k hz3k.size hc4k
              replace HS := hSk _ hz4k
              refine hKf _ _ HS ?_
              clear hKf Kf
              refine roH_take 15 (some 80) (v := ?v15k) rfl rfl (by kernel_rfl) (by kernel_rfl) (by kernel_rfl) (fun _ _ _ h => h) (by rfl) ?y15k HS ?r15k
              case y15k => (intro W hS; go_simp; try with_reducible rfl)
              simp only [Act.put, List.setIfInBounds_toArray, List.set_cons_zero, List.set_cons_succ]
              refine roH_take 16 (some 81) (v := ?v16k) rfl rfl (by kernel_rfl) (by kernel_rfl) (by kernel_rfl) (fun _ _ _ h => h) (by rfl) ?y16k HS ?r16k
              case y16k => (intro W hS; go_simp; try with_reducible rfl)
              simp only [Act.put, List.setIfInBounds_toArray, List.set_cons_zero, List.set_cons_succ]
              refine roH_take 17 (some 2) (v := ?v17k) rfl rfl (by kernel_rfl) (by kernel_rfl) (by kernel_rfl) (fun _ _ _ h => h) (by rfl) ?y17k HS ?r17k
              case y17k => (intro W hS; go_simp; try with_reducible rfl)
              simp only [Act.put, List.setIfInBounds_toArray, List.set_cons_zero, List.set_cons_succ]
              refine wpAnyH_done (by kernel_rfl) ?_ _
              go_wp2_with fail
              go_ret
              exact ⟨rfl, bthenZ hb hb.size hz4k⟩
end Go.Proofs.YteafdhpcnpfmkaaGreat
