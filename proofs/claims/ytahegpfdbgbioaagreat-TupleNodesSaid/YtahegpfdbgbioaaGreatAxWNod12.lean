/- TupleNodes walked: it answers true. Conditions: none. -/
import Derived.Deep.DeepCutAuto
import Derived.Test.YtahegpfdbgbioaaGreatA27
set_option maxRecDepth 100000
set_option maxHeartbeats 4000000
namespace Go.Proofs.YtahegpfdbgbioaaGreat
open Go.RowKit
theorem tupleNodes_walk (a b c s x y z : ByteArray) (w : World) (ha : a.size ≤ maxLen) (hb : b.size ≤ maxLen) (hc : c.size ≤ maxLen) (_hs : s.size ≤ maxLen) (hx : x.size ≤ maxLen) (hy : y.size ≤ maxLen) (hz : z.size ≤ maxLen) :
 Calls Tryz.prog 8 #[.agg #[.string a, .string b, .string c], .string s, .agg #[.string x, .string y, .string z]] w fun e w' => e = .returned (.bool true) ∧ Below w.heap.size w w' := by
 have hms : (s.size : Int) ≤ 9223372036854775807 := by simp only [maxLen] at _hs; omega
 have ka : ∀ W : World, _ := fun W => awake12_any W
 obtain ⟨p, hp⟩ : ∃ p, Hid (fewT ((a, b, c), (x, y, z)) = p) := ⟨_, Lib.hid rfl⟩
 have kp : ∀ W : World, _ := fun W => few_any12 (w := W) a b c x y z ha hb hc hx hy hz
 rw [hp.out] at kp
 have hk := (Bk.new w #[.string a, .string b, .string c] 69).alloc (.cells #[.string x, .string y, .string z] 69)
 have hl := Bk.new2 w (.cells #[.string a, .string b, .string c] 69) #[.string x, .string y, .string z] 69
 have hB : Below w.heap.size w ((w.alloc (.cells #[.string a, .string b, .string c] 69)).alloc (.cells #[.string x, .string y, .string z] 69)) := ((Below.refl _ w).alloc (Nat.le_refl _) _).alloc (size_alloc (Nat.le_refl _)) _
 clear ha hb hc hx hy hz
 go_enter Tryz.func8, Tryz.ntmps8
 go_upto_region 1 with (fail)
 generalize (w.alloc (.cells #[.string a, .string b, .string c] 69)).alloc (.cells #[.string x, .string y, .string z] 69) = w1 at *
 obtain ⟨k0, k1, k2⟩ := hk.c3
 have kl := hk.lt
 obtain ⟨l0, l1, l2⟩ := hl.c3
 have ll := hl.lt
 go_upto_region 4 with (go_at_call 28; refine (ka _).mono ?_; rintro e w2 ⟨rfl, hb2⟩)
 replace hk := hk.below hb2
 replace hl := hl.below hb2
 replace hB := bthen hB hB.size hb2
 clear hb2 k0 k1 k2 kl l0 l1 l2 ll
 obtain ⟨k0, k1, k2⟩ := hk.c3
 have kl := hk.lt
 obtain ⟨l0, l1, l2⟩ := hl.c3
 have ll := hl.lt
 go_upto_region 5 with (go_at_call 29; with_reducible refine (kp _).mono ?_; rintro e w3 ⟨rfl, hb2⟩)
 replace hk := hk.below hb2
 replace hl := hl.below hb2
 replace hB := bthen hB hB.size hb2
 clear hb2 k0 k1 k2 kl l0 l1 l2 ll
 obtain ⟨k0, k1, k2⟩ := hk.c3
 have kl := hk.lt
 obtain ⟨l0, l1, l2⟩ := hl.c3
 have ll := hl.lt
 cases p with
 | false =>
  go_wp2_with fail
  go_ret
  exact ⟨rfl, hB⟩
 | true =>
  by_cases hs3 : 300 < s.size
  · have hd : (300 : Int) < (s.size : Int) := by omega
    go_wp2_with fail
    go_ret
    exact ⟨rfl, hB⟩
  · have hd : ¬ (300 : Int) < (s.size : Int) := by omega
    obtain ⟨ha, hb, hc, hx, hy, hz⟩ := few_all hp.out
    clear hp kp ka
    have zh : ∀ p q r : ByteArray, p.size ≤ 120 → q.size ≤ 120 → r.size ≤ 120 → (showN (p, q, r)).size ≤ 400 := fun p q r h1 h2 h3 => by
     unfold showN objN
     split <;> simp only [size_app, sOne_size] <;> omega
    have zS := zh a b c ha hb hc
    have zV := zh x y z hx hy hz
    clear zh
    have ks : ∀ W : World, _ := fun W => show_any12 (w := W) a b c (by omega) (by omega) (by omega)
    have kv : ∀ W : World, _ := fun W => show_any12 (w := W) x y z (by omega) (by omega) (by omega)
    have kr : ∀ W : World, _ := fun W => read_any12 (w := W) (showN (a, b, c)) (by omega)
    have kq : ∀ W : World, _ := fun W => read_any12 (w := W) s (by omega)
    have kt : ∀ W : World, _ := fun W => text_any12 (w := W) a b c x y z (by omega) (by omega) (by omega) (by omega) (by omega) (by omega)
    obtain ⟨f, hf⟩ : ∃ f, Hid (fmdN (a, b, c) = f) := ⟨_, Lib.hid rfl⟩
    have kf := fun W => rfmd_is hf.out (by dsimp only; omega) (by dsimp only; omega) (by dsimp only; omega) W
    dsimp only at kf
    obtain ⟨t1, e1, h1, he1⟩ : ∃ t1 e1, Hid (nodeO (readN (showN (a, b, c))) = t1) ∧ Hid (errO (readN (showN (a, b, c))) = e1) := ⟨_, _, Lib.hid rfl, Lib.hid rfl⟩
    obtain ⟨t2, e2, h2, he2⟩ : ∃ t1 e1, Hid (nodeO (readN s) = t1) ∧ Hid (errO (readN s) = e1) := ⟨_, _, Lib.hid rfl, Lib.hid rfl⟩
    rw [h1.out, he1.out] at kr
    rw [h2.out, he2.out] at kq
    obtain ⟨a1, b1, c1⟩ := t1
    obtain ⟨a2, b2, c2⟩ := t2
    dsimp only at kr kq
    have hyes : Hid (f = true → (a1 = a ∧ b1 = b ∧ c1 = c) ∧ e1 = 0) := Lib.hid fun h => by
     have u1 := h1.out
     have u3 := he1.out
     rw [read_show (hf.out.trans h)] at u1 u3
     cases u1
     cases u3
     exact ⟨⟨rfl, rfl, rfl⟩, rfl⟩
    have hrd : Hid (e2 = 11 ∧ a2 = ⟨#[]⟩ ∧ b2 = ⟨#[]⟩ ∧ c2 = ⟨#[]⟩ ∨ e2 = 0 ∧ showN (a2, b2, c2) = s ∧ a2.size ≤ 100000 ∧ b2.size ≤ 100000 ∧ c2.size ≤ 100000) := Lib.hid (by
     have u1 := h2.out
     have u3 := he2.out
     cases q : readN s with
     | none =>
      rw [q] at u1 u3
      cases u1
      exact .inl ⟨u3.symm, rfl, rfl, rfl⟩
     | some t =>
      rw [q] at u1 u3
      obtain ⟨a9, b9, c9⟩ := t
      cases u1
      obtain ⟨z1, z2, z3⟩ := read_sizes q
      exact .inr ⟨u3.symm, (read_some q).2, by omega, by omega, by omega⟩)
    clear h1 he1 h2 he2
    obtain ⟨S, hS⟩ : ∃ S, Hid (showN (a, b, c) = S) := ⟨_, Lib.hid rfl⟩
    obtain ⟨V, hV⟩ : ∃ S, Hid (showN (x, y, z) = S) := ⟨_, Lib.hid rfl⟩
    rw [hS.out] at ks kr zS
    rw [hV.out] at kv zV
    rw [show textT ((a, b, c), (x, y, z)) = S ++ sOne 64 ++ V from by rw [← hS.out, ← hV.out]; rfl] at kt
    clear hS hV
    go_upto_region 8 with (first | (go_at_call 36; refine (ks _).mono ?_; rintro e w6 ⟨rfl, hb2⟩) | (go_at_call 30; refine (kr _).mono ?_; rintro e w7 ⟨rfl, hb3⟩))
    have d1 := Bk.new w7 #[.string a1, .string b1, .string c1] 69
    replace hb2 := (bthen hb2 hb2.size hb3).alloc (bthen hb2 hb2.size hb3).size (.cells #[.string a1, .string b1, .string c1] 69)
    clear hb3 kr
    generalize w7.alloc (.cells #[.string a1, .string b1, .string c1] 69) = w8 at *
    generalize w7.heap.size = r1 at *
    replace hk := hk.below hb2
    replace hl := hl.below hb2
    replace hB := bthen hB hB.size hb2
    clear hb2 k0 k1 k2 kl l0 l1 l2 ll
    obtain ⟨k0, k1, k2⟩ := hk.c3
    have kl := hk.lt
    obtain ⟨l0, l1, l2⟩ := hl.c3
    have ll := hl.lt
    go_upto_region 9 with (go_at_call 30; refine (kq _).mono ?_; rintro e w9 ⟨rfl, hb2⟩)
    have d2 := Bk.new w9 #[.string a2, .string b2, .string c2] 69
    replace hb2 := hb2.alloc hb2.size (.cells #[.string a2, .string b2, .string c2] 69)
    clear kq
    generalize w9.alloc (.cells #[.string a2, .string b2, .string c2] 69) = w10 at *
    generalize w9.heap.size = r2 at *
    replace d1 := d1.below hb2
    replace hk := hk.below hb2
    replace hl := hl.below hb2
    replace hB := bthen hB hB.size hb2
    clear hb2 k0 k1 k2 kl l0 l1 l2 ll
    obtain ⟨k0, k1, k2⟩ := hk.c3
    have kl := hk.lt
    obtain ⟨l0, l1, l2⟩ := hl.c3
    have ll := hl.lt
    go_upto_region 10 with (go_at_call 42; refine (kf _).mono ?_; rintro e w11 ⟨rfl, hb2⟩)
    replace d1 := d1.below hb2
    replace d2 := d2.below hb2
    replace hk := hk.below hb2
    replace hl := hl.below hb2
    replace hB := bthen hB hB.size hb2
    clear hb2 k0 k1 k2 kl l0 l1 l2 ll
    obtain ⟨k0, k1, k2⟩ := hk.c3
    have kl := hk.lt
    obtain ⟨l0, l1, l2⟩ := hl.c3
    have ll := hl.lt
    clear kf
    obtain ⟨m0, m1, m2⟩ := d1.c3
    have ml := d1.lt
    obtain ⟨n0, n1, n2⟩ := d2.c3
    have nl := d2.lt
    have E1 := node_eql a1 b1 c1 a b c
    go_cut [79] from 41 to 79 (fun v wc => v = .bool false ∧ Below w11.heap.size w11 wc)
    case first =>
     clear kt ks kv
     rcases hrd.out with ⟨rfl, rfl, rfl, rfl⟩ | ⟨rfl, hsh, y1, y2, y3⟩
     · cases f with
       | false =>
        clear hyes hrd E1
        go_wp2_with fail
        go_meet
        exact ⟨congrArg Value.bool (by decide +kernel), Below.refl _ _⟩
       | true =>
        obtain ⟨v1, rfl⟩ := hyes.out rfl
        rw [decide_eq_true v1] at E1
        clear hyes hrd v1
        go_wp2_with fail
        go_meet
        exact ⟨congrArg Value.bool (by decide +kernel), Below.refl _ _⟩
     · have ky : ∀ W : World, _ := fun W => show_any12 (w := W) a2 b2 c2 y1 y2 y3
       rw [hsh] at ky
       cases f with
       | false =>
        clear hyes hrd hsh E1
        go_wp2_with (go_at_call 36; refine (ky _).mono ?_; rintro e w12 ⟨rfl, hb2⟩)
        go_meet
        exact ⟨rfl, hb2⟩
       | true =>
        obtain ⟨v1, rfl⟩ := hyes.out rfl
        rw [decide_eq_true v1] at E1
        clear hyes hrd hsh v1
        go_wp2_with (go_at_call 36; refine (ky _).mono ?_; rintro e w12 ⟨rfl, hb2⟩)
        go_meet
        exact ⟨rfl, hb2⟩
    case rest =>
    obtain ⟨rfl, hb2⟩ := hcut
    clear hyes hrd E1 m0 m1 m2 ml n0 n1 n2 nl d1 d2
    generalize wc = w13 at *
    replace hk := hk.below hb2
    replace hl := hl.below hb2
    replace hB := bthen hB hB.size hb2
    clear hb2 k0 k1 k2 kl l0 l1 l2 ll
    have n1 : ¬ 9223372036854775807 < S.size + 1 := by omega
    have n2 : ¬ 9223372036854775807 < S.size + 1 + V.size := by omega
    have q64 : sOne 64 = ⟨#[64]⟩ := rfl
    rw [q64] at kt
    go_wp2_with fail
    refine wp_region_any (by kernel_rfl) ?_
    change wpAny _ _ _ _ _ _ _ (World.drew _)
    have hbd : Below w13.heap.size w13 (World.drew w13) := (Below.refl _ _).drew
    replace hk := hk.below hbd
    replace hl := hl.below hbd
    replace hB := bthen hB hB.size hbd
    clear hbd
    generalize World.drew w13 = wz at *
    refine wpAny_of_held (S := fun W => Below wz.heap.size wz W) _ _ _ _ ?_
    have HS := Below.refl wz.heap.size wz
    refine roH_take 0 (some 80) (v := ?v0t) rfl rfl (by kernel_rfl) (by kernel_rfl) (by kernel_rfl) (fun _ _ _ h => h) (by rfl) ?y0t HS ?r0t
    case y0t => (intro W hS; have q := hk.below hS; obtain ⟨q0, q1, q2⟩ := q.c3; have ql := q.lt; go_simp; try with_reducible rfl)
    simp only [Act.put, List.setIfInBounds_toArray, List.set_cons_zero, List.set_cons_succ]
    refine roH_take 1 (some 81) (v := ?v1t) rfl rfl (by kernel_rfl) (by kernel_rfl) (by kernel_rfl) (fun _ _ _ h => h) (by rfl) ?y1t HS ?r1t
    case y1t => (intro W hS; have q := hl.below hS; obtain ⟨q0, q1, q2⟩ := q.c3; have ql := q.lt; go_simp; try with_reducible rfl)
    simp only [Act.put, List.setIfInBounds_toArray, List.set_cons_zero, List.set_cons_succ]
    refine roH_take 2 (some 82) (v := ?v2t) rfl rfl (by kernel_rfl) (by kernel_rfl) (by kernel_rfl) (fun _ _ _ h => h) (by rfl) ?y2t HS ?r2t
    case y2t => (intro W hS; go_simp; try with_reducible rfl)
    simp only [Act.put, List.setIfInBounds_toArray, List.set_cons_zero, List.set_cons_succ]
    refine roH_take 4 (some 84) (v := ?v4t) rfl rfl (by kernel_rfl) (by kernel_rfl) (by kernel_rfl) (fun _ _ _ h => h) (by rfl) ?y4t HS ?r4t
    case y4t => (intro W hS; have q := hk.below hS; obtain ⟨q0, q1, q2⟩ := q.c3; have ql := q.lt; go_simp; try with_reducible rfl)
    simp only [Act.put, List.setIfInBounds_toArray, List.set_cons_zero, List.set_cons_succ]
    refine roH_take 7 (some 87) (v := ?v7t) rfl rfl (by kernel_rfl) (by kernel_rfl) (by kernel_rfl) (fun _ _ _ h => h) (by rfl) ?y7t HS ?r7t
    case y7t => (intro W hS; have q := hl.below hS; obtain ⟨q0, q1, q2⟩ := q.c3; have ql := q.lt; go_simp; try with_reducible rfl)
    simp only [Act.put, List.setIfInBounds_toArray, List.set_cons_zero, List.set_cons_succ]
    refine roH_one 3 rfl (by kernel_rfl) ?_
    intro Kf hKf
    go_simp
    refine (kt _).mono ?_
    rintro e W1t ⟨rfl, hc⟩
    replace HS := bthen HS HS.size hc
    refine hKf _ _ HS ?_
    clear hKf Kf hc
    refine roH_one 5 rfl (by kernel_rfl) ?_
    intro Kf hKf
    go_simp
    refine (ks _).mono ?_
    rintro e W2t ⟨rfl, hc⟩
    replace HS := bthen HS HS.size hc
    refine hKf _ _ HS ?_
    clear hKf Kf hc
    refine roH_take 6 (some 86) (v := ?v6t) rfl rfl (by kernel_rfl) (by kernel_rfl) (by kernel_rfl) (fun _ _ _ h => h) (by rfl) ?y6t HS ?r6t
    case y6t => (intro W hS; go_simp; try with_reducible rfl)
    simp only [Act.put, List.setIfInBounds_toArray, List.set_cons_zero, List.set_cons_succ]
    refine roH_one 8 rfl (by kernel_rfl) ?_
    intro Kf hKf
    go_simp
    refine (kv _).mono ?_
    rintro e W3t ⟨rfl, hc⟩
    replace HS := bthen HS HS.size hc
    refine hKf _ _ HS ?_
    clear hKf Kf hc
    refine roH_take 9 (some 89) (v := ?v9t) rfl rfl (by kernel_rfl) (by kernel_rfl) (by kernel_rfl) (fun _ _ _ h => h) (by rfl) ?y9t HS ?r9t
    case y9t => (intro W hS; go_simp; try with_reducible rfl)
    simp only [Act.put, List.setIfInBounds_toArray, List.set_cons_zero, List.set_cons_succ]
    refine roH_take 10 (some 90) (v := ?v10t) rfl rfl (by kernel_rfl) (by kernel_rfl) (by kernel_rfl) (fun _ _ _ h => h) (by rfl) ?y10t HS ?r10t
    case y10t => (intro W hS; go_simp; try with_reducible rfl)
    simp only [Act.put, List.setIfInBounds_toArray, List.set_cons_zero, List.set_cons_succ]
    refine roH_take 11 (some 6) (v := ?v11t) rfl rfl (by kernel_rfl) (by kernel_rfl) (by kernel_rfl) (fun _ _ _ h => h) (by rfl) ?y11t HS ?r11t
    case y11t => (intro W hS; go_simp; try with_reducible rfl)
    simp only [Act.put, List.setIfInBounds_toArray, List.set_cons_zero, List.set_cons_succ]
    refine wpAnyH_done (by kernel_rfl) ?_ _
    replace hB := bthen hB hB.size HS
    go_wp2_with fail
    go_ret
    exact ⟨rfl, hB⟩
end Go.Proofs.YtahegpfdbgbioaaGreat
