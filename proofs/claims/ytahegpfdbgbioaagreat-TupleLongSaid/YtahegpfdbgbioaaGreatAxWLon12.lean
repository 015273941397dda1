/- TupleLong walked: it answers true. Conditions: none. -/
import Derived.Deep.DeepCutAuto
import Derived.Test.YtahegpfdbgbioaaGreatA27
set_option maxRecDepth 100000
set_option maxHeartbeats 4000000
namespace Go.Proofs.YtahegpfdbgbioaaGreat
open Go.RowKit
theorem bk_nmL {W : World} {g j : Nat} {s : ByteArray} (hj : j < 6) (h : Bk W g (#[.string ⟨#[100, 111, 99]⟩, .string ⟨#[49]⟩, .string ⟨#[111, 119, 110]⟩, .string ⟨#[117, 115, 101, 114]⟩, .string ⟨#[97]⟩, .string ⟨#[105, 110]⟩].setIfInBounds j (.string s)) 9) : Bk W g #[.string (nmL j s 0), .string (nmL j s 1), .string (nmL j s 2), .string (nmL j s 3), .string (nmL j s 4), .string (nmL j s 5)] 9 := by
 obtain rfl | rfl | rfl | rfl | rfl | rfl : j = 0 ∨ j = 1 ∨ j = 2 ∨ j = 3 ∨ j = 4 ∨ j = 5 := by omega
 all_goals exact h
theorem base_at {j : Nat} (hj : j < 6) : ∃ v, (#[.string ⟨#[100, 111, 99]⟩, .string ⟨#[49]⟩, .string ⟨#[111, 119, 110]⟩, .string ⟨#[117, 115, 101, 114]⟩, .string ⟨#[97]⟩, .string ⟨#[105, 110]⟩] : Array Value)[j]? = some v := by
 obtain rfl | rfl | rfl | rfl | rfl | rfl : j = 0 ∨ j = 1 ∨ j = 2 ∨ j = 3 ∨ j = 4 ∨ j = 5 := by omega
 all_goals exact ⟨_, rfl⟩
theorem u8_range {z : Int} (h : (Lit.int .u8 z).wf = true) : 0 ≤ z ∧ z ≤ 255 := by
 simp [Lit.wf, IntKind.min, IntKind.max, IntKind.bits, IntKind.signed] at h
 omega
theorem tupleLong_walk (x0 x1 : Int) (w : World) (h0 : (Lit.int .u8 x0).wf = true) (h1 : (Lit.int .u8 x1).wf = true) :
 Calls Tryz.prog 9 #[.int .u8 x0, .int .u8 x1] w fun e w' => e = .returned (.bool true) ∧ Below w.heap.size w w' := by
 obtain ⟨p0, p1⟩ := u8_range h0
 obtain ⟨p2, p3⟩ := u8_range h1
 obtain ⟨k, hk, hk30⟩ : ∃ k : Nat, x1.tmod 30 = (k : Int) ∧ k < 30 := ⟨(x1.tmod 30).toNat, by rw [Int.tmod_eq_emod_of_nonneg p2]; omega, by rw [Int.tmod_eq_emod_of_nonneg p2]; omega⟩
 obtain ⟨j, hj, hj6⟩ : ∃ j : Nat, x0.tmod 6 = (j : Int) ∧ j < 6 := ⟨(x0.tmod 6).toNat, by rw [Int.tmod_eq_emod_of_nonneg p0]; omega, by rw [Int.tmod_eq_emod_of_nonneg p0]; omega⟩
 have hwx : IntKind.i64.wrap x1 = x1 := IntWalk.i64_in _ (by omega)
 have hwy : IntKind.i64.wrap x0 = x0 := IntWalk.i64_in _ (by omega)
 have ka : ∀ W : World, _ := fun W => awake12_any W
 go_enter Tryz.func9, Tryz.ntmps9
 go_upto_region 4 with (go_at_call 28; refine (ka _).mono ?_; rintro e w2 ⟨rfl, hB⟩)
 clear ka
 go_wp2_with fail
 go_loopw [7, 8] (fun vs vi wx => ∃ i : Nat, vi = .int .i64 i ∧ vs = .string (sE i) ∧ i ≤ k ∧ Below w2.heap.size w2 wx) (fun _ vi _ => k - (intOf vi).toNat)
 case atStart => exact ⟨0, rfl, rfl, Nat.zero_le _, Below.refl _ _⟩
 case round =>
  obtain ⟨i, rfl, rfl, hi, hbx⟩ := hrel
  by_cases hil : i < k
  · have hdi : (i : Int) < (k : Int) := by omega
    have hz := sE_size i
    obtain ⟨q, hq⟩ : ∃ q, Hid (sE i = q) := ⟨_, Lib.hid rfl⟩
    rw [hq.out] at hz
    rw [hq.out]
    have n1 : ¬ 9223372036854775807 < q.size + 2 := by omega
    go_wp2_with fail
    refine ⟨⟨i + 1, by go_num, by rw [← hq.out]; rfl, by omega, hbx⟩, ?_⟩
    simp [intOf]; omega
  · obtain rfl : i = k := by omega
    have hdi : ¬ (i : Int) < (i : Int) := by omega
    replace hB := bthen hB hB.size hbx
    have hF := tupJ_fmd (k := i) hj6
    have hP := parse_text2 (tupJ_plain j i)
    have hK := from_key2 (tupJ_plain j i)
    have zs : ∀ m, (nmL j (sE i) m).size ≤ 60 := nmL_size hk30
    rw [hF] at hP hK
    obtain ⟨M, hM⟩ : ∃ M, M = decide (i ≤ 24 ∧ (0 < i ∨ j = 5)) := ⟨_, rfl⟩
    rw [← hM] at hP hK hF
    obtain ⟨s, hs⟩ : ∃ s, sE i = s := ⟨_, rfl⟩
    rw [hs] at hP hK zs hF ⊢
    clear hs
    have hG := Bk.new wr #[.string ⟨#[100, 111, 99]⟩, .string ⟨#[49]⟩, .string ⟨#[111, 119, 110]⟩, .string ⟨#[117, 115, 101, 114]⟩, .string ⟨#[97]⟩, .string ⟨#[105, 110]⟩] 9
    go_upto_region 11 with (fail)
    have hgl := hB.size
    replace hB := hB.alloc hB.size (.cells #[.string ⟨#[100, 111, 99]⟩, .string ⟨#[49]⟩, .string ⟨#[111, 119, 110]⟩, .string ⟨#[117, 115, 101, 114]⟩, .string ⟨#[97]⟩, .string ⟨#[105, 110]⟩] 9)
    generalize wr.alloc (.cells #[.string ⟨#[100, 111, 99]⟩, .string ⟨#[49]⟩, .string ⟨#[111, 119, 110]⟩, .string ⟨#[117, 115, 101, 114]⟩, .string ⟨#[97]⟩, .string ⟨#[105, 110]⟩] 9) = w3 at *
    generalize wr.heap.size = g at *
    obtain ⟨v0, hv0⟩ := base_at hj6
    have q0 : w3.cell? ⟨g, j, none⟩ = some v0 := (hG.cell j).trans hv0
    have q1 := hG.fz j
    have q2 := hG.lt
    have hd0 : (0 : Int) ≤ (j : Int) := by omega
    have hd6 : (j : Int) < 6 := by omega
    clear hv0
    go_upto_region 12 with (fail)
    have hN := bk_nmL hj6 (hG.set j (.string s))
    replace hB := hB.setCell (p := ⟨g, j, none⟩) hgl (.string s)
    clear q0 q1 q2 hG
    generalize w3.setCell ⟨g, j, none⟩ (.string s) = w4 at *
    have z0 := zs 0
    have z1 := zs 1
    have z2 := zs 2
    have z3 := zs 3
    have z4 := zs 4
    have z5 := zs 5
    unfold tupJ at hF hP hK
    clear zs
    generalize nmL j s 0 = a at *
    generalize nmL j s 1 = b at *
    generalize nmL j s 2 = c at *
    generalize nmL j s 3 = x at *
    generalize nmL j s 4 = y at *
    generalize nmL j s 5 = z at *
    have zt : (textT ((a, b, c), (x, y, z))).size ≤ 100000 ∧ (keyT ((a, b, c), (x, y, z))).size ≤ 100000 := by
     have h : ∀ p q r : ByteArray, p.size ≤ 60 → q.size ≤ 60 → r.size ≤ 60 → (showN (p, q, r)).size ≤ 400 := fun p q r h1 h2 h3 => by
      unfold showN objN
      split <;> simp only [size_app, sOne_size] <;> omega
     have h1 := h a b c z0 z1 z2
     have h2 := h x y z z3 z4 z5
     refine ⟨?_, ?_⟩
     · show (showN (a, b, c) ++ sOne 64 ++ showN (x, y, z)).size ≤ _
       rw [size_app, size_app, sOne_size]
       omega
     · rw [key_size]
       omega
    have kt : ∀ W : World, _ := fun W => text_any12 (w := W) a b c x y z (by omega) (by omega) (by omega) (by omega) (by omega) (by omega)
    have kk : ∀ W : World, _ := fun W => key_any12 (w := W) a b c x y z (by omega) (by omega) (by omega) (by omega) (by omega) (by omega)
    have kp : ∀ W : World, _ := fun W => parse_any12 (w := W) (textT ((a, b, c), (x, y, z))) zt.1
    have kf : ∀ W : World, _ := fun W => from_any12 (w := W) (keyT ((a, b, c), (x, y, z))) zt.2
    rw [hP] at kp
    rw [hK] at kf
    generalize textT ((a, b, c), (x, y, z)) = T at *
    generalize keyT ((a, b, c), (x, y, z)) = K at *
    clear hP hK hF zt z0 z1 z2 z3 z4 z5
    have hS : ∀ W, Below w4.heap.size w4 W → (W.cell? ⟨g, 0, none⟩ = some (.string a) ∧ W.cell? ⟨g, 1, none⟩ = some (.string b) ∧ W.cell? ⟨g, 2, none⟩ = some (.string c) ∧ W.cell? ⟨g, 3, none⟩ = some (.string x) ∧ W.cell? ⟨g, 4, none⟩ = some (.string y) ∧ W.cell? ⟨g, 5, none⟩ = some (.string z)) := fun W h => (hN.below h).c6
    obtain ⟨t0, t1, t2, t3, t4, t5⟩ := hN.c6
    go_region_held3 (fun W => W.cell? ⟨g, 0, none⟩ = some (.string a) ∧ W.cell? ⟨g, 1, none⟩ = some (.string b) ∧ W.cell? ⟨g, 2, none⟩ = some (.string c) ∧ W.cell? ⟨g, 3, none⟩ = some (.string x) ∧ W.cell? ⟨g, 4, none⟩ = some (.string y) ∧ W.cell? ⟨g, 5, none⟩ = some (.string z))
     (first | assumption | exact hS _ (Below.refl _ _).drew | (refine hS _ ?_; (repeat (first | exact Below.refl _ _ | with_reducible refine Below.drew ?_ | with_reducible refine Below.alloc ?_ (Nat.le_refl _) _ | with_reducible refine Below.setCell ?_ (Nat.le_refl _) _)); done) | fail)
     (fail)
    have hT : Bk ((w4.alloc (.cells #[.string a, .string b, .string c, .string x, .string y, .string z] 71)).drew) w4.heap.size #[.string a, .string b, .string c, .string x, .string y, .string z] 71 := Bk.new w4 #[.string a, .string b, .string c, .string x, .string y, .string z] 71
    have hbn : Below w4.heap.size w4 ((w4.alloc (.cells #[.string a, .string b, .string c, .string x, .string y, .string z] 71)).drew) := ((Below.refl _ w4).alloc (Nat.le_refl _) _).drew
    replace hB := bthen hB hB.size hbn
    clear hS hbn t0 t1 t2 t3 t4 t5 hN
    generalize (w4.alloc (.cells #[.string a, .string b, .string c, .string x, .string y, .string z] 71)).drew = w5 at *
    generalize w4.heap.size = gt at *
    obtain ⟨k0, k1, k2, k3, k4, k5⟩ := hT.c6
    have kl := hT.lt
    have e1 : Hid (M = (decide (i ≤ 24) && (decide (0 < i) || decide (j = 5)))) := Lib.hid (by
     rw [hM]
     by_cases u1 : i ≤ 24 <;> by_cases u2 : 0 < i <;> by_cases u3 : j = 5 <;> simp [u1, u2, u3])
    clear hM
    have g3 : Hid (((j : Int) == 5) = decide (j = 5)) := Lib.hid (by
     by_cases u : j = 5
     · subst u
       rfl
     · rw [decide_eq_false u, beq_eq_false_iff_ne]
       omega)
    cases M with
    | true =>
     have E := fun W => (tuple_eql a b c x y z a b c x y z W).trans (by rw [decide_eq_true ⟨rfl, rfl, rfl, rfl, rfl, rfl⟩])
     change ∀ W : World, Calls _ _ _ W fun e w' => e = .returned (.tuple #[.agg #[.string a, .string b, .string c, .string x, .string y, .string z], .int .i64 0]) ∧ _ at kp
     change ∀ W : World, Calls _ _ _ W fun e w' => e = .returned (.tuple #[.agg #[.string a, .string b, .string c, .string x, .string y, .string z], .bool true]) ∧ _ at kf
     go_upto_region 14 with (first | (go_at_call 38; refine (kt _).mono ?_; rintro e w6 ⟨rfl, hb2⟩) | (go_at_call 32; refine (kp _).mono ?_; rintro e w7 ⟨rfl, hb3⟩))
     have d1 := Bk.new w7 #[.string a, .string b, .string c, .string x, .string y, .string z] 71
     replace hb2 := (bthen hb2 hb2.size hb3).alloc (bthen hb2 hb2.size hb3).size (.cells #[.string a, .string b, .string c, .string x, .string y, .string z] 71)
     clear hb3 k0 k1 k2 k3 k4 k5 kl
     generalize w7.alloc (.cells #[.string a, .string b, .string c, .string x, .string y, .string z] 71) = w8 at *
     generalize w7.heap.size = r1 at *
     replace hT := hT.below hb2
     replace hB := bthen hB hB.size hb2
     clear hb2
     obtain ⟨k0, k1, k2, k3, k4, k5⟩ := hT.c6
     have kl := hT.lt
     go_upto_region 15 with (first | (go_at_call 40; refine (kk _).mono ?_; rintro e w9 ⟨rfl, hb2⟩) | (go_at_call 34; refine (kf _).mono ?_; rintro e w10 ⟨rfl, hb3⟩))
     have d2 := Bk.new w10 #[.string a, .string b, .string c, .string x, .string y, .string z] 71
     replace hb2 := (bthen hb2 hb2.size hb3).alloc (bthen hb2 hb2.size hb3).size (.cells #[.string a, .string b, .string c, .string x, .string y, .string z] 71)
     clear hb3 k0 k1 k2 k3 k4 k5 kl
     generalize w10.alloc (.cells #[.string a, .string b, .string c, .string x, .string y, .string z] 71) = w11 at *
     generalize w10.heap.size = r2 at *
     replace hT := hT.below hb2
     replace d1 := d1.below hb2
     replace hB := bthen hB hB.size hb2
     clear hb2 kt kk kp kf
     obtain ⟨I, hI⟩ : ∃ I : Int, Hid ((i : Int) = I) := ⟨_, Lib.hid rfl⟩
     rw [hI.out]
     go_cut [15] from 69 to 80 (fun v wc => v = .bool true ∧ wc = w11)
     case first =>
      have u0 := hI.out
      have u1 := e1.out
      have u3 := g3.out
      by_cases v1 : i ≤ 24
      · have v1' : I ≤ 24 := by omega
        by_cases v2 : 0 < i
        · have v2' : (0 : Int) < I := by omega
          clear u0 u1 v1 v2 e1 g3
          go_wp2_with fail
          go_meet
          exact ⟨rfl, rfl⟩
        · have v2' : ¬ (0 : Int) < I := by omega
          by_cases v3 : j = 5
          · rw [decide_eq_true v3] at u3
            clear u0 u1 v1 v2 v3 e1 g3
            go_wp2_with fail
            go_meet
            exact ⟨rfl, rfl⟩
          · rw [decide_eq_false v3] at u3
            exfalso; revert u1; simp [v1, v2, v3]
      · have v1' : ¬ I ≤ 24 := by omega
        exfalso; revert u1; simp [v1]
     case rest =>
     obtain ⟨rfl, rfl⟩ := hcut
     obtain ⟨k0, k1, k2, k3, k4, k5⟩ := hT.c6
     have kl := hT.lt
     obtain ⟨m0, m1, m2, m3, m4, m5⟩ := d1.c6
     have ml := d1.lt
     obtain ⟨n0, n1, n2, n3, n4, n5⟩ := d2.c6
     have nl := d2.lt
     go_wp2_with fail
     go_ret
     exact ⟨rfl, hB⟩
    | false =>
     change ∀ W : World, Calls _ _ _ W fun e w' => e = .returned (.tuple #[.agg #[.string ⟨#[]⟩, .string ⟨#[]⟩, .string ⟨#[]⟩, .string ⟨#[]⟩, .string ⟨#[]⟩, .string ⟨#[]⟩], .int .i64 11]) ∧ _ at kp
     change ∀ W : World, Calls _ _ _ W fun e w' => e = .returned (.tuple #[.agg #[.string ⟨#[]⟩, .string ⟨#[]⟩, .string ⟨#[]⟩, .string ⟨#[]⟩, .string ⟨#[]⟩, .string ⟨#[]⟩], .bool false]) ∧ _ at kf
     go_upto_region 14 with (first | (go_at_call 38; refine (kt _).mono ?_; rintro e w6 ⟨rfl, hb2⟩) | (go_at_call 32; refine (kp _).mono ?_; rintro e w7 ⟨rfl, hb3⟩))
     have d1 := Bk.new w7 #[.string ⟨#[]⟩, .string ⟨#[]⟩, .string ⟨#[]⟩, .string ⟨#[]⟩, .string ⟨#[]⟩, .string ⟨#[]⟩] 71
     replace hb2 := (bthen hb2 hb2.size hb3).alloc (bthen hb2 hb2.size hb3).size (.cells #[.string ⟨#[]⟩, .string ⟨#[]⟩, .string ⟨#[]⟩, .string ⟨#[]⟩, .string ⟨#[]⟩, .string ⟨#[]⟩] 71)
     clear hb3 k0 k1 k2 k3 k4 k5 kl
     generalize w7.alloc (.cells #[.string ⟨#[]⟩, .string ⟨#[]⟩, .string ⟨#[]⟩, .string ⟨#[]⟩, .string ⟨#[]⟩, .string ⟨#[]⟩] 71) = w8 at *
     generalize w7.heap.size = r1 at *
     replace hT := hT.below hb2
     replace hB := bthen hB hB.size hb2
     clear hb2
     obtain ⟨k0, k1, k2, k3, k4, k5⟩ := hT.c6
     have kl := hT.lt
     go_upto_region 15 with (first | (go_at_call 40; refine (kk _).mono ?_; rintro e w9 ⟨rfl, hb2⟩) | (go_at_call 34; refine (kf _).mono ?_; rintro e w10 ⟨rfl, hb3⟩))
     have d2 := Bk.new w10 #[.string ⟨#[]⟩, .string ⟨#[]⟩, .string ⟨#[]⟩, .string ⟨#[]⟩, .string ⟨#[]⟩, .string ⟨#[]⟩] 71
     replace hb2 := (bthen hb2 hb2.size hb3).alloc (bthen hb2 hb2.size hb3).size (.cells #[.string ⟨#[]⟩, .string ⟨#[]⟩, .string ⟨#[]⟩, .string ⟨#[]⟩, .string ⟨#[]⟩, .string ⟨#[]⟩] 71)
     clear hb3 k0 k1 k2 k3 k4 k5 kl
     generalize w10.alloc (.cells #[.string ⟨#[]⟩, .string ⟨#[]⟩, .string ⟨#[]⟩, .string ⟨#[]⟩, .string ⟨#[]⟩, .string ⟨#[]⟩] 71) = w11 at *
     generalize w10.heap.size = r2 at *
     replace hT := hT.below hb2
     replace d1 := d1.below hb2
     replace hB := bthen hB hB.size hb2
     clear hb2 kt kk kp kf
     obtain ⟨I, hI⟩ : ∃ I : Int, Hid ((i : Int) = I) := ⟨_, Lib.hid rfl⟩
     rw [hI.out]
     go_cut [15] from 69 to 80 (fun v wc => v = .bool false ∧ wc = w11)
     case first =>
      have u0 := hI.out
      have u1 := e1.out
      have u3 := g3.out
      by_cases v1 : i ≤ 24
      · have v1' : I ≤ 24 := by omega
        by_cases v2 : 0 < i
        · have v2' : (0 : Int) < I := by omega
          exfalso; revert u1; simp [v1, v2]
        · have v2' : ¬ (0 : Int) < I := by omega
          by_cases v3 : j = 5
          · rw [decide_eq_true v3] at u3
            exfalso; revert u1; simp [v1, v2, v3]
          · rw [decide_eq_false v3] at u3
            clear u0 u1 v1 v2 v3 e1 g3
            go_wp2_with fail
            go_meet
            exact ⟨rfl, rfl⟩
      · have v1' : ¬ I ≤ 24 := by omega
        clear u0 u1 v1  e1 g3
        go_wp2_with fail
        go_meet
        exact ⟨rfl, rfl⟩
     case rest =>
     obtain ⟨rfl, rfl⟩ := hcut
     obtain ⟨k0, k1, k2, k3, k4, k5⟩ := hT.c6
     have kl := hT.lt
     obtain ⟨m0, m1, m2, m3, m4, m5⟩ := d1.c6
     have ml := d1.lt
     obtain ⟨n0, n1, n2, n3, n4, n5⟩ := d2.c6
     have nl := d2.lt
     go_wp2_with fail
     go_ret
     exact ⟨rfl, hB⟩
end Go.Proofs.YtahegpfdbgbioaaGreat
