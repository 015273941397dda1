/- TupleTexts walked: it answers true. Conditions: none. -/
import Derived.Test.YtahegpfdbgbioaaGreatA27
set_option maxRecDepth 100000
set_option maxHeartbeats 4000000
namespace Go.Proofs.YtahegpfdbgbioaaGreat
open Go.RowKit
theorem tupleTexts_walk (a b c x y z s : ByteArray) (w : World) (ha : a.size ≤ maxLen) (hb : b.size ≤ maxLen) (hc : c.size ≤ maxLen) (hx : x.size ≤ maxLen) (hy : y.size ≤ maxLen) (hz : z.size ≤ maxLen) (_hs : s.size ≤ maxLen) :
 Calls Tryz.prog 4 #[.agg #[.string a, .string b, .string c, .string x, .string y, .string z], .string s] w fun e w' => e = .returned (.bool true) ∧ Below w.heap.size w w' := by
 have hms : (s.size : Int) ≤ 9223372036854775807 := by simp only [maxLen] at _hs; omega
 have ka : ∀ W : World, _ := fun W => awake12_any W
 obtain ⟨p, hp⟩ : ∃ p, Hid (fewT ((a, b, c), (x, y, z)) = p) := ⟨_, Lib.hid rfl⟩
 have kp : ∀ W : World, _ := fun W => few_any12 (w := W) a b c x y z ha hb hc hx hy hz
 rw [hp.out] at kp
 have hk := Bk.new w #[.string a, .string b, .string c, .string x, .string y, .string z] 71
 have hB := bnew w (.cells #[.string a, .string b, .string c, .string x, .string y, .string z] 71)
 clear ha hb hc hx hy hz
 go_enter Tryz.func4, Tryz.ntmps4
 go_upto_region 1 with (fail)
 generalize w.alloc (.cells #[.string a, .string b, .string c, .string x, .string y, .string z] 71) = w1 at *
 obtain ⟨k0, k1, k2, k3, k4, k5⟩ := hk.c6
 have kl := hk.lt
 go_upto_region 4 with (go_at_call 28; refine (ka _).mono ?_; rintro e w2 ⟨rfl, hb2⟩)
 replace hk := hk.below hb2
 replace hB := bthen hB hB.size hb2
 clear hb2 k0 k1 k2 k3 k4 k5 kl
 obtain ⟨k0, k1, k2, k3, k4, k5⟩ := hk.c6
 have kl := hk.lt
 go_upto_region 5 with (go_at_call 29; with_reducible refine (kp _).mono ?_; rintro e w3 ⟨rfl, hb2⟩)
 replace hk := hk.below hb2
 replace hB := bthen hB hB.size hb2
 clear hb2 k0 k1 k2 k3 k4 k5 kl
 obtain ⟨k0, k1, k2, k3, k4, k5⟩ := hk.c6
 have kl := hk.lt
 cases p with
 | false =>
  go_wp2_with fail
  go_ret
  exact ⟨rfl, hB⟩
 | true =>
  by_cases hs3 : 300 < s.size
  · have hd : (300 : Int) < (s.size : Int) := by omega
    go_wp2_with fail
    go_ret
    exact ⟨rfl, hB⟩
  · have hd : ¬ (300 : Int) < (s.size : Int) := by omega
    obtain ⟨ha, hb, hc, hx, hy, hz⟩ := few_all hp.out
    clear hp kp ka
    have kr : ∀ W : World, _ := fun W => read_any12 (w := W) s (by omega)
    have krr : ∀ W : World, _ := fun W => rread_any12 (w := W) s (by omega)
    have kq : ∀ W : World, _ := fun W => parse_any12 (w := W) s (by omega)
    have krq : ∀ W : World, _ := fun W => rparse_any12 (w := W) s (by omega)
    have kf : ∀ W : World, _ := fun W => from_any12 (w := W) s (by omega)
    have krf : ∀ W : World, _ := fun W => rfrom_any12 (w := W) s (by omega)
    have cs : ∀ W : World, _ := fun W => show_any12 (w := W) a b c (by omega) (by omega) (by omega)
    have crs : ∀ W : World, _ := fun W => rshow_any12 (w := W) a b c (by omega) (by omega) (by omega)
    have ct : ∀ W : World, _ := fun W => text_any12 (w := W) a b c x y z (by omega) (by omega) (by omega) (by omega) (by omega) (by omega)
    have crt : ∀ W : World, _ := fun W => rtext_any12 (w := W) a b c x y z (by omega) (by omega) (by omega) (by omega) (by omega) (by omega)
    have ck : ∀ W : World, _ := fun W => key_any12 (w := W) a b c x y z (by omega) (by omega) (by omega) (by omega) (by omega) (by omega)
    have crk : ∀ W : World, _ := fun W => rkey_any12 (w := W) a b c x y z (by omega) (by omega) (by omega) (by omega) (by omega) (by omega)
    generalize showN (a, b, c) = U at *
    generalize textT ((a, b, c), (x, y, z)) = T at *
    generalize keyT ((a, b, c), (x, y, z)) = K at *
    generalize nodeO (readN s) = n at *
    generalize (errO (readN s)) = e1 at *
    generalize tupO (parseT s) = t1 at *
    generalize (errO (parseT s)) = e2 at *
    generalize tupO (fromT s) = t2 at *
    generalize (fromT s).isSome = e3 at *
    obtain ⟨a1, b1, c1⟩ := n
    obtain ⟨⟨a2, b2, c2⟩, ⟨x2, y2, z2⟩⟩ := t1
    obtain ⟨⟨a3, b3, c3⟩, ⟨x3, y3, z3⟩⟩ := t2
    dsimp only at kr krr kq krq kf krf
    clear ha hb hc hx hy hz
    go_upto_region 8 with (go_at_call 30; refine (kr _).mono ?_; rintro e v0 ⟨rfl, hb2⟩)
    have dn1 := Bk.new v0 #[.string a1, .string b1, .string c1] 69
    replace hb2 := hb2.alloc hb2.size (.cells #[.string a1, .string b1, .string c1] 69)
    generalize v0.alloc (.cells #[.string a1, .string b1, .string c1] 69) = u0w at *
    generalize v0.heap.size = r0 at *
    replace hk := hk.below hb2
    replace hB := bthen hB hB.size hb2
    clear hb2 kr
    go_upto_region 9 with (go_at_call 31; refine (krr _).mono ?_; rintro e v1 ⟨rfl, hb2⟩)
    have dn2 := Bk.new v1 #[.string a1, .string b1, .string c1] 69
    replace hb2 := hb2.alloc hb2.size (.cells #[.string a1, .string b1, .string c1] 69)
    generalize v1.alloc (.cells #[.string a1, .string b1, .string c1] 69) = u1w at *
    generalize v1.heap.size = r1 at *
    replace hk := hk.below hb2
    replace dn1 := dn1.below hb2
    replace hB := bthen hB hB.size hb2
    clear hb2 krr
    go_upto_region 10 with (go_at_call 32; refine (kq _).mono ?_; rintro e v2 ⟨rfl, hb2⟩)
    have dp1 := Bk.new v2 #[.string a2, .string b2, .string c2, .string x2, .string y2, .string z2] 71
    replace hb2 := hb2.alloc hb2.size (.cells #[.string a2, .string b2, .string c2, .string x2, .string y2, .string z2] 71)
    generalize v2.alloc (.cells #[.string a2, .string b2, .string c2, .string x2, .string y2, .string z2] 71) = u2w at *
    generalize v2.heap.size = r2 at *
    replace hk := hk.below hb2
    replace dn1 := dn1.below hb2
    replace dn2 := dn2.below hb2
    replace hB := bthen hB hB.size hb2
    clear hb2 kq
    go_upto_region 11 with (go_at_call 33; refine (krq _).mono ?_; rintro e v3 ⟨rfl, hb2⟩)
    have dp2 := Bk.new v3 #[.string a2, .string b2, .string c2, .string x2, .string y2, .string z2] 71
    replace hb2 := hb2.alloc hb2.size (.cells #[.string a2, .string b2, .string c2, .string x2, .string y2, .string z2] 71)
    generalize v3.alloc (.cells #[.string a2, .string b2, .string c2, .string x2, .string y2, .string z2] 71) = u3w at *
    generalize v3.heap.size = r3 at *
    replace hk := hk.below hb2
    replace dn1 := dn1.below hb2
    replace dn2 := dn2.below hb2
    replace dp1 := dp1.below hb2
    replace hB := bthen hB hB.size hb2
    clear hb2 krq
    go_upto_region 12 with (go_at_call 34; refine (kf _).mono ?_; rintro e v4 ⟨rfl, hb2⟩)
    have df1 := Bk.new v4 #[.string a3, .string b3, .string c3, .string x3, .string y3, .string z3] 71
    replace hb2 := hb2.alloc hb2.size (.cells #[.string a3, .string b3, .string c3, .string x3, .string y3, .string z3] 71)
    generalize v4.alloc (.cells #[.string a3, .string b3, .string c3, .string x3, .string y3, .string z3] 71) = u4w at *
    generalize v4.heap.size = r4 at *
    replace hk := hk.below hb2
    replace dn1 := dn1.below hb2
    replace dn2 := dn2.below hb2
    replace dp1 := dp1.below hb2
    replace dp2 := dp2.below hb2
    replace hB := bthen hB hB.size hb2
    clear hb2 kf
    go_upto_region 13 with (go_at_call 35; refine (krf _).mono ?_; rintro e v5 ⟨rfl, hb2⟩)
    have df2 := Bk.new v5 #[.string a3, .string b3, .string c3, .string x3, .string y3, .string z3] 71
    replace hb2 := hb2.alloc hb2.size (.cells #[.string a3, .string b3, .string c3, .string x3, .string y3, .string z3] 71)
    generalize v5.alloc (.cells #[.string a3, .string b3, .string c3, .string x3, .string y3, .string z3] 71) = u5w at *
    generalize v5.heap.size = r5 at *
    replace hk := hk.below hb2
    replace dn1 := dn1.below hb2
    replace dn2 := dn2.below hb2
    replace dp1 := dp1.below hb2
    replace dp2 := dp2.below hb2
    replace df1 := df1.below hb2
    replace hB := bthen hB hB.size hb2
    clear hb2 krf
    clear k0 k1 k2 k3 k4 k5 kl
    have E1 := fun W => (node_eql a1 b1 c1 a1 b1 c1 W).trans (by rw [decide_eq_true ⟨rfl, rfl, rfl⟩])
    have E2 := fun W => (tuple_eql a2 b2 c2 x2 y2 z2 a2 b2 c2 x2 y2 z2 W).trans (by rw [decide_eq_true ⟨rfl, rfl, rfl, rfl, rfl, rfl⟩])
    have E3 := fun W => (tuple_eql a3 b3 c3 x3 y3 z3 a3 b3 c3 x3 y3 z3 W).trans (by rw [decide_eq_true ⟨rfl, rfl, rfl, rfl, rfl, rfl⟩])
    refine wp_region_any (by kernel_rfl) ?_
    change wpAny _ _ _ _ _ _ _ (World.drew _)
    have hbd : Below u5w.heap.size u5w (World.drew u5w) := (Below.refl _ _).drew
    replace hk := hk.below hbd
    replace dn1 := dn1.below hbd
    replace dn2 := dn2.below hbd
    replace dp1 := dp1.below hbd
    replace dp2 := dp2.below hbd
    replace df1 := df1.below hbd
    replace df2 := df2.below hbd
    replace hB := bthen hB hB.size hbd
    clear hbd
    generalize World.drew u5w = wz at *
    refine wpAny_of_held (S := fun W => Below wz.heap.size wz W) _ _ _ _ ?_
    have HS := Below.refl wz.heap.size wz
    refine roH_take 0 (some 61) (v := ?v0t) rfl rfl (by kernel_rfl) (by kernel_rfl) (by kernel_rfl) (fun _ _ _ h => h) (by rfl) ?y0t HS ?r0t
    case y0t => (intro W hS; go_simp; try with_reducible rfl)
    simp only [Act.put, List.setIfInBounds_toArray, List.set_cons_zero, List.set_cons_succ]
    refine roH_take 1 (some 62) (v := ?v1t) rfl rfl (by kernel_rfl) (by kernel_rfl) (by kernel_rfl) (fun _ _ _ h => h) (by rfl) ?y1t HS ?r1t
    case y1t => (intro W hS; have q := hk.below hS; obtain ⟨q0, q1, q2, q3, q4, q5⟩ := q.c6; have ql := q.lt; go_simp; try with_reducible rfl)
    simp only [Act.put, List.setIfInBounds_toArray, List.set_cons_zero, List.set_cons_succ]
    refine roH_take 3 (some 64) (v := ?v3t) rfl rfl (by kernel_rfl) (by kernel_rfl) (by kernel_rfl) (fun _ _ _ h => h) (by rfl) ?y3t HS ?r3t
    case y3t => (intro W hS; go_simp; try with_reducible rfl)
    simp only [Act.put, List.setIfInBounds_toArray, List.set_cons_zero, List.set_cons_succ]
    refine roH_take 4 (some 65) (v := ?v4t) rfl rfl (by kernel_rfl) (by kernel_rfl) (by kernel_rfl) (fun _ _ _ h => h) (by rfl) ?y4t HS ?r4t
    case y4t => (intro W hS; have q := hk.below hS; obtain ⟨q0, q1, q2, q3, q4, q5⟩ := q.c6; have ql := q.lt; go_simp; try with_reducible rfl)
    simp only [Act.put, List.setIfInBounds_toArray, List.set_cons_zero, List.set_cons_succ]
    refine roH_one 2 rfl (by kernel_rfl) ?_
    intro Kf hKf
    go_simp
    refine (cs _).mono ?_
    rintro e W1t ⟨rfl, hc⟩
    replace HS := bthen HS HS.size hc
    refine hKf _ _ HS ?_
    clear hKf Kf hc
    refine roH_one 5 rfl (by kernel_rfl) ?_
    intro Kf hKf
    go_simp
    refine (crs _).mono ?_
    rintro e W2t ⟨rfl, hc⟩
    replace HS := bthen HS HS.size hc
    refine hKf _ _ HS ?_
    clear hKf Kf hc
    refine roH_take 6 (some 67) (v := ?v6t) rfl rfl (by kernel_rfl) (by kernel_rfl) (by kernel_rfl) (fun _ _ _ h => h) (by rfl) ?y6t HS ?r6t
    case y6t => (intro W hS; go_simp; try with_reducible rfl)
    simp only [Act.put, List.setIfInBounds_toArray, List.set_cons_zero, List.set_cons_succ]
    refine roH_take 7 (some 68) (v := ?v7t) rfl rfl (by kernel_rfl) (by kernel_rfl) (by kernel_rfl) (fun _ _ _ h => h) (by rfl) ?y7t HS ?r7t
    case y7t => (intro W hS; go_simp; try with_reducible rfl)
    simp only [Act.put, List.setIfInBounds_toArray, List.set_cons_zero, List.set_cons_succ]
    refine roH_take 8 (some 69) (v := ?v8t) rfl rfl (by kernel_rfl) (by kernel_rfl) (by kernel_rfl) (fun _ _ _ h => h) (by rfl) ?y8t HS ?r8t
    case y8t => (intro W hS; have q := hk.below hS; obtain ⟨q0, q1, q2, q3, q4, q5⟩ := q.c6; have ql := q.lt; go_simp; try with_reducible rfl)
    simp only [Act.put, List.setIfInBounds_toArray, List.set_cons_zero, List.set_cons_succ]
    refine roH_take 10 (some 71) (v := ?v10t) rfl rfl (by kernel_rfl) (by kernel_rfl) (by kernel_rfl) (fun _ _ _ h => h) (by rfl) ?y10t HS ?r10t
    case y10t => (intro W hS; have q := hk.below hS; obtain ⟨q0, q1, q2, q3, q4, q5⟩ := q.c6; have ql := q.lt; go_simp; try with_reducible rfl)
    simp only [Act.put, List.setIfInBounds_toArray, List.set_cons_zero, List.set_cons_succ]
    refine roH_one 9 rfl (by kernel_rfl) ?_
    intro Kf hKf
    go_simp
    refine (ct _).mono ?_
    rintro e W3t ⟨rfl, hc⟩
    replace HS := bthen HS HS.size hc
    refine hKf _ _ HS ?_
    clear hKf Kf hc
    refine roH_one 11 rfl (by kernel_rfl) ?_
    intro Kf hKf
    go_simp
    refine (crt _).mono ?_
    rintro e W4t ⟨rfl, hc⟩
    replace HS := bthen HS HS.size hc
    refine hKf _ _ HS ?_
    clear hKf Kf hc
    refine roH_take 12 (some 73) (v := ?v12t) rfl rfl (by kernel_rfl) (by kernel_rfl) (by kernel_rfl) (fun _ _ _ h => h) (by rfl) ?y12t HS ?r12t
    case y12t => (intro W hS; go_simp; try with_reducible rfl)
    simp only [Act.put, List.setIfInBounds_toArray, List.set_cons_zero, List.set_cons_succ]
    refine roH_take 13 (some 74) (v := ?v13t) rfl rfl (by kernel_rfl) (by kernel_rfl) (by kernel_rfl) (fun _ _ _ h => h) (by rfl) ?y13t HS ?r13t
    case y13t => (intro W hS; go_simp; try with_reducible rfl)
    simp only [Act.put, List.setIfInBounds_toArray, List.set_cons_zero, List.set_cons_succ]
    refine roH_take 14 (some 75) (v := ?v14t) rfl rfl (by kernel_rfl) (by kernel_rfl) (by kernel_rfl) (fun _ _ _ h => h) (by rfl) ?y14t HS ?r14t
    case y14t => (intro W hS; go_simp; try with_reducible rfl)
    simp only [Act.put, List.setIfInBounds_toArray, List.set_cons_zero, List.set_cons_succ]
    refine roH_take 15 (some 76) (v := ?v15t) rfl rfl (by kernel_rfl) (by kernel_rfl) (by kernel_rfl) (fun _ _ _ h => h) (by rfl) ?y15t HS ?r15t
    case y15t => (intro W hS; have q := hk.below hS; obtain ⟨q0, q1, q2, q3, q4, q5⟩ := q.c6; have ql := q.lt; go_simp; try with_reducible rfl)
    simp only [Act.put, List.setIfInBounds_toArray, List.set_cons_zero, List.set_cons_succ]
    refine roH_take 17 (some 78) (v := ?v17t) rfl rfl (by kernel_rfl) (by kernel_rfl) (by kernel_rfl) (fun _ _ _ h => h) (by rfl) ?y17t HS ?r17t
    case y17t => (intro W hS; have q := hk.below hS; obtain ⟨q0, q1, q2, q3, q4, q5⟩ := q.c6; have ql := q.lt; go_simp; try with_reducible rfl)
    simp only [Act.put, List.setIfInBounds_toArray, List.set_cons_zero, List.set_cons_succ]
    refine roH_one 16 rfl (by kernel_rfl) ?_
    intro Kf hKf
    go_simp
    refine (ck _).mono ?_
    rintro e W5t ⟨rfl, hc⟩
    replace HS := bthen HS HS.size hc
    refine hKf _ _ HS ?_
    clear hKf Kf hc
    refine roH_one 18 rfl (by kernel_rfl) ?_
    intro Kf hKf
    go_simp
    refine (crk _).mono ?_
    rintro e W6t ⟨rfl, hc⟩
    replace HS := bthen HS HS.size hc
    refine hKf _ _ HS ?_
    clear hKf Kf hc
    refine roH_take 19 (some 80) (v := ?v19t) rfl rfl (by kernel_rfl) (by kernel_rfl) (by kernel_rfl) (fun _ _ _ h => h) (by rfl) ?y19t HS ?r19t
    case y19t => (intro W hS; go_simp; try with_reducible rfl)
    simp only [Act.put, List.setIfInBounds_toArray, List.set_cons_zero, List.set_cons_succ]
    refine roH_take 20 (some 81) (v := ?v20t) rfl rfl (by kernel_rfl) (by kernel_rfl) (by kernel_rfl) (fun _ _ _ h => h) (by rfl) ?y20t HS ?r20t
    case y20t => (intro W hS; go_simp; try with_reducible rfl)
    simp only [Act.put, List.setIfInBounds_toArray, List.set_cons_zero, List.set_cons_succ]
    refine roH_take 21 (some 82) (v := ?v21t) rfl rfl (by kernel_rfl) (by kernel_rfl) (by kernel_rfl) (fun _ _ _ h => h) (by rfl) ?y21t HS ?r21t
    case y21t => (intro W hS; go_simp; try with_reducible rfl)
    simp only [Act.put, List.setIfInBounds_toArray, List.set_cons_zero, List.set_cons_succ]
    refine roH_take 22 (some 83) (v := ?v22t) rfl rfl (by kernel_rfl) (by kernel_rfl) (by kernel_rfl) (fun _ _ _ h => h) (by rfl) ?y22t HS ?r22t
    case y22t => (intro W hS; have q := dn1.below hS; obtain ⟨q0, q1, q2⟩ := q.c3; have ql := q.lt; go_simp; try with_reducible rfl)
    simp only [Act.put, List.setIfInBounds_toArray, List.set_cons_zero, List.set_cons_succ]
    refine roH_take 23 (some 84) (v := ?v23t) rfl rfl (by kernel_rfl) (by kernel_rfl) (by kernel_rfl) (fun _ _ _ h => h) (by rfl) ?y23t HS ?r23t
    case y23t => (intro W hS; have q := dn2.below hS; obtain ⟨q0, q1, q2⟩ := q.c3; have ql := q.lt; go_simp; try with_reducible rfl)
    simp only [Act.put, List.setIfInBounds_toArray, List.set_cons_zero, List.set_cons_succ]
    refine roH_take 24 (some 85) (v := ?v24t) rfl rfl (by kernel_rfl) (by kernel_rfl) (by kernel_rfl) (fun _ _ _ h => h) (by rfl) ?y24t HS ?r24t
    case y24t => (intro W hS; go_simp; try with_reducible rfl)
    simp only [Act.put, List.setIfInBounds_toArray, List.set_cons_zero, List.set_cons_succ]
    refine roH_take 25 (some 86) (v := ?v25t) rfl rfl (by kernel_rfl) (by kernel_rfl) (by kernel_rfl) (fun _ _ _ h => h) (by rfl) ?y25t HS ?r25t
    case y25t => (intro W hS; go_simp; try with_reducible rfl)
    simp only [Act.put, List.setIfInBounds_toArray, List.set_cons_zero, List.set_cons_succ]
    refine roH_take 26 (some 87) (v := ?v26t) rfl rfl (by kernel_rfl) (by kernel_rfl) (by kernel_rfl) (fun _ _ _ h => h) (by rfl) ?y26t HS ?r26t
    case y26t => (intro W hS; go_simp; try with_reducible rfl)
    simp only [Act.put, List.setIfInBounds_toArray, List.set_cons_zero, List.set_cons_succ]
    refine roH_take 27 (some 88) (v := ?v27t) rfl rfl (by kernel_rfl) (by kernel_rfl) (by kernel_rfl) (fun _ _ _ h => h) (by rfl) ?y27t HS ?r27t
    case y27t => (intro W hS; go_simp; try with_reducible rfl)
    simp only [Act.put, List.setIfInBounds_toArray, List.set_cons_zero, List.set_cons_succ]
    refine roH_take 28 (some 89) (v := ?v28t) rfl rfl (by kernel_rfl) (by kernel_rfl) (by kernel_rfl) (fun _ _ _ h => h) (by rfl) ?y28t HS ?r28t
    case y28t => (intro W hS; go_simp; try with_reducible rfl)
    simp only [Act.put, List.setIfInBounds_toArray, List.set_cons_zero, List.set_cons_succ]
    refine roH_take 29 (some 90) (v := ?v29t) rfl rfl (by kernel_rfl) (by kernel_rfl) (by kernel_rfl) (fun _ _ _ h => h) (by rfl) ?y29t HS ?r29t
    case y29t => (intro W hS; go_simp; try with_reducible rfl)
    simp only [Act.put, List.setIfInBounds_toArray, List.set_cons_zero, List.set_cons_succ]
    refine roH_take 30 (some 91) (v := ?v30t) rfl rfl (by kernel_rfl) (by kernel_rfl) (by kernel_rfl) (fun _ _ _ h => h) (by rfl) ?y30t HS ?r30t
    case y30t => (intro W hS; go_simp; try with_reducible rfl)
    simp only [Act.put, List.setIfInBounds_toArray, List.set_cons_zero, List.set_cons_succ]
    refine roH_take 31 (some 92) (v := ?v31t) rfl rfl (by kernel_rfl) (by kernel_rfl) (by kernel_rfl) (fun _ _ _ h => h) (by rfl) ?y31t HS ?r31t
    case y31t => (intro W hS; go_simp; try with_reducible rfl)
    simp only [Act.put, List.setIfInBounds_toArray, List.set_cons_zero, List.set_cons_succ]
    refine roH_take 32 (some 93) (v := ?v32t) rfl rfl (by kernel_rfl) (by kernel_rfl) (by kernel_rfl) (fun _ _ _ h => h) (by rfl) ?y32t HS ?r32t
    case y32t => (intro W hS; have q := dp1.below hS; obtain ⟨q0, q1, q2, q3, q4, q5⟩ := q.c6; have ql := q.lt; go_simp; try with_reducible rfl)
    simp only [Act.put, List.setIfInBounds_toArray, List.set_cons_zero, List.set_cons_succ]
    refine roH_take 33 (some 94) (v := ?v33t) rfl rfl (by kernel_rfl) (by kernel_rfl) (by kernel_rfl) (fun _ _ _ h => h) (by rfl) ?y33t HS ?r33t
    case y33t => (intro W hS; have q := dp2.below hS; obtain ⟨q0, q1, q2, q3, q4, q5⟩ := q.c6; have ql := q.lt; go_simp; try with_reducible rfl)
    simp only [Act.put, List.setIfInBounds_toArray, List.set_cons_zero, List.set_cons_succ]
    refine roH_take 34 (some 95) (v := ?v34t) rfl rfl (by kernel_rfl) (by kernel_rfl) (by kernel_rfl) (fun _ _ _ h => h) (by rfl) ?y34t HS ?r34t
    case y34t => (intro W hS; go_simp; try with_reducible rfl)
    simp only [Act.put, List.setIfInBounds_toArray, List.set_cons_zero, List.set_cons_succ]
    refine roH_take 35 (some 96) (v := ?v35t) rfl rfl (by kernel_rfl) (by kernel_rfl) (by kernel_rfl) (fun _ _ _ h => h) (by rfl) ?y35t HS ?r35t
    case y35t => (intro W hS; go_simp; try with_reducible rfl)
    simp only [Act.put, List.setIfInBounds_toArray, List.set_cons_zero, List.set_cons_succ]
    refine roH_take 36 (some 97) (v := ?v36t) rfl rfl (by kernel_rfl) (by kernel_rfl) (by kernel_rfl) (fun _ _ _ h => h) (by rfl) ?y36t HS ?r36t
    case y36t => (intro W hS; go_simp; try with_reducible rfl)
    simp only [Act.put, List.setIfInBounds_toArray, List.set_cons_zero, List.set_cons_succ]
    refine roH_take 37 (some 98) (v := ?v37t) rfl rfl (by kernel_rfl) (by kernel_rfl) (by kernel_rfl) (fun _ _ _ h => h) (by rfl) ?y37t HS ?r37t
    case y37t => (intro W hS; go_simp; try with_reducible rfl)
    simp only [Act.put, List.setIfInBounds_toArray, List.set_cons_zero, List.set_cons_succ]
    refine roH_take 38 (some 99) (v := ?v38t) rfl rfl (by kernel_rfl) (by kernel_rfl) (by kernel_rfl) (fun _ _ _ h => h) (by rfl) ?y38t HS ?r38t
    case y38t => (intro W hS; go_simp; try with_reducible rfl)
    simp only [Act.put, List.setIfInBounds_toArray, List.set_cons_zero, List.set_cons_succ]
    refine roH_take 39 (some 100) (v := ?v39t) rfl rfl (by kernel_rfl) (by kernel_rfl) (by kernel_rfl) (fun _ _ _ h => h) (by rfl) ?y39t HS ?r39t
    case y39t => (intro W hS; go_simp; try with_reducible rfl)
    simp only [Act.put, List.setIfInBounds_toArray, List.set_cons_zero, List.set_cons_succ]
    refine roH_take 40 (some 101) (v := ?v40t) rfl rfl (by kernel_rfl) (by kernel_rfl) (by kernel_rfl) (fun _ _ _ h => h) (by rfl) ?y40t HS ?r40t
    case y40t => (intro W hS; go_simp; try with_reducible rfl)
    simp only [Act.put, List.setIfInBounds_toArray, List.set_cons_zero, List.set_cons_succ]
    refine roH_take 41 (some 102) (v := ?v41t) rfl rfl (by kernel_rfl) (by kernel_rfl) (by kernel_rfl) (fun _ _ _ h => h) (by rfl) ?y41t HS ?r41t
    case y41t => (intro W hS; go_simp; try with_reducible rfl)
    simp only [Act.put, List.setIfInBounds_toArray, List.set_cons_zero, List.set_cons_succ]
    refine roH_take 42 (some 103) (v := ?v42t) rfl rfl (by kernel_rfl) (by kernel_rfl) (by kernel_rfl) (fun _ _ _ h => h) (by rfl) ?y42t HS ?r42t
    case y42t => (intro W hS; have q := df1.below hS; obtain ⟨q0, q1, q2, q3, q4, q5⟩ := q.c6; have ql := q.lt; go_simp; try with_reducible rfl)
    simp only [Act.put, List.setIfInBounds_toArray, List.set_cons_zero, List.set_cons_succ]
    refine roH_take 43 (some 104) (v := ?v43t) rfl rfl (by kernel_rfl) (by kernel_rfl) (by kernel_rfl) (fun _ _ _ h => h) (by rfl) ?y43t HS ?r43t
    case y43t => (intro W hS; have q := df2.below hS; obtain ⟨q0, q1, q2, q3, q4, q5⟩ := q.c6; have ql := q.lt; go_simp; try with_reducible rfl)
    simp only [Act.put, List.setIfInBounds_toArray, List.set_cons_zero, List.set_cons_succ]
    refine roH_take 44 (some 105) (v := ?v44t) rfl rfl (by kernel_rfl) (by kernel_rfl) (by kernel_rfl) (fun _ _ _ h => h) (by rfl) ?y44t HS ?r44t
    case y44t => (intro W hS; go_simp; try with_reducible rfl)
    simp only [Act.put, List.setIfInBounds_toArray, List.set_cons_zero, List.set_cons_succ]
    refine roH_take 45 (some 106) (v := ?v45t) rfl rfl (by kernel_rfl) (by kernel_rfl) (by kernel_rfl) (fun _ _ _ h => h) (by rfl) ?y45t HS ?r45t
    case y45t => (intro W hS; go_simp; try with_reducible rfl)
    simp only [Act.put, List.setIfInBounds_toArray, List.set_cons_zero, List.set_cons_succ]
    refine roH_take 46 (some 107) (v := ?v46t) rfl rfl (by kernel_rfl) (by kernel_rfl) (by kernel_rfl) (fun _ _ _ h => h) (by rfl) ?y46t HS ?r46t
    case y46t => (intro W hS; go_simp; try with_reducible rfl)
    simp only [Act.put, List.setIfInBounds_toArray, List.set_cons_zero, List.set_cons_succ]
    refine roH_take 47 (some 108) (v := ?v47t) rfl rfl (by kernel_rfl) (by kernel_rfl) (by kernel_rfl) (fun _ _ _ h => h) (by rfl) ?y47t HS ?r47t
    case y47t => (intro W hS; go_simp; try with_reducible rfl)
    simp only [Act.put, List.setIfInBounds_toArray, List.set_cons_zero, List.set_cons_succ]
    refine roH_take 48 (some 109) (v := ?v48t) rfl rfl (by kernel_rfl) (by kernel_rfl) (by kernel_rfl) (fun _ _ _ h => h) (by rfl) ?y48t HS ?r48t
    case y48t => (intro W hS; go_simp; try with_reducible rfl)
    simp only [Act.put, List.setIfInBounds_toArray, List.set_cons_zero, List.set_cons_succ]
    refine roH_take 49 (some 110) (v := ?v49t) rfl rfl (by kernel_rfl) (by kernel_rfl) (by kernel_rfl) (fun _ _ _ h => h) (by rfl) ?y49t HS ?r49t
    case y49t => (intro W hS; go_simp; try with_reducible rfl)
    simp only [Act.put, List.setIfInBounds_toArray, List.set_cons_zero, List.set_cons_succ]
    refine roH_take 50 (some 111) (v := ?v50t) rfl rfl (by kernel_rfl) (by kernel_rfl) (by kernel_rfl) (fun _ _ _ h => h) (by rfl) ?y50t HS ?r50t
    case y50t => (intro W hS; go_simp; try with_reducible rfl)
    simp only [Act.put, List.setIfInBounds_toArray, List.set_cons_zero, List.set_cons_succ]
    refine roH_take 51 (some 4) (v := ?v51t) rfl rfl (by kernel_rfl) (by kernel_rfl) (by kernel_rfl) (fun _ _ _ h => h) (by rfl) ?y51t HS ?r51t
    case y51t => (intro W hS; go_simp; try with_reducible rfl)
    simp only [Act.put, List.setIfInBounds_toArray, List.set_cons_zero, List.set_cons_succ]
    refine wpAnyH_done (by kernel_rfl) ?_ _
    replace hB := bthen hB hB.size HS
    go_wp2_with fail
    go_ret
    exact ⟨rfl, hB⟩
end Go.Proofs.YtahegpfdbgbioaaGreat
