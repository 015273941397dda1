/- TupleBack walked: it answers true. Conditions: none. -/
import Derived.Deep.DeepCutAuto
import Derived.Test.YtahegpfdbgbioaaGreatA27
set_option maxRecDepth 100000
set_option maxHeartbeats 4000000
namespace Go.Proofs.YtahegpfdbgbioaaGreat
open Go.RowKit
theorem text_size12 {a b c x y z : ByteArray} (ha : a.size ≤ 120) (hb : b.size ≤ 120) (hc : c.size ≤ 120) (hx : x.size ≤ 120) (hy : y.size ≤ 120) (hz : z.size ≤ 120) : (textT ((a, b, c), (x, y, z))).size ≤ 100000 ∧ (keyT ((a, b, c), (x, y, z))).size ≤ 100000 ∧ (showN (a, b, c)).size ≤ 100000 := by
 have h : ∀ p q r : ByteArray, p.size ≤ 120 → q.size ≤ 120 → r.size ≤ 120 → (showN (p, q, r)).size ≤ 400 := fun p q r h1 h2 h3 => by
  unfold showN objN
  split <;> simp only [size_app, sOne_size] <;> omega
 have h1 := h a b c ha hb hc
 have h2 := h x y z hx hy hz
 refine ⟨?_, ?_, by omega⟩
 · show (showN (a, b, c) ++ sOne 64 ++ showN (x, y, z)).size ≤ _
   rw [size_app, size_app, sOne_size]
   omega
 · rw [key_size]
   omega
theorem tupleBack_walk (a b c x y z : ByteArray) (w : World) (ha : a.size ≤ maxLen) (hb : b.size ≤ maxLen) (hc : c.size ≤ maxLen) (hx : x.size ≤ maxLen) (hy : y.size ≤ maxLen) (hz : z.size ≤ maxLen) :
 Calls Tryz.prog 5 #[.agg #[.string a, .string b, .string c, .string x, .string y, .string z]] w fun e w' => e = .returned (.bool true) ∧ Below w.heap.size w w' := by
 have ka : ∀ W : World, _ := fun W => awake12_any W
 obtain ⟨p, hp⟩ : ∃ p, Hid (fewT ((a, b, c), (x, y, z)) = p) := ⟨_, Lib.hid rfl⟩
 have kp : ∀ W : World, _ := fun W => few_any12 (w := W) a b c x y z ha hb hc hx hy hz
 rw [hp.out] at kp
 have hk := Bk.new w #[.string a, .string b, .string c, .string x, .string y, .string z] 71
 have hB := bnew w (.cells #[.string a, .string b, .string c, .string x, .string y, .string z] 71)
 clear ha hb hc hx hy hz
 go_enter Tryz.func5, Tryz.ntmps5
 go_upto_region 1 with (fail)
 generalize w.alloc (.cells #[.string a, .string b, .string c, .string x, .string y, .string z] 71) = w1 at *
 obtain ⟨k0, k1, k2, k3, k4, k5⟩ := hk.c6
 have kl := hk.lt
 go_upto_region 4 with (go_at_call 28; refine (ka _).mono ?_; rintro e w2 ⟨rfl, hb2⟩)
 replace hk := hk.below hb2
 replace hB := bthen hB hB.size hb2
 clear hb2 k0 k1 k2 k3 k4 k5 kl
 obtain ⟨k0, k1, k2, k3, k4, k5⟩ := hk.c6
 have kl := hk.lt
 go_upto_region 5 with (go_at_call 29; with_reducible refine (kp _).mono ?_; rintro e w3 ⟨rfl, hb2⟩)
 replace hk := hk.below hb2
 replace hB := bthen hB hB.size hb2
 clear hb2 k0 k1 k2 k3 k4 k5 kl
 obtain ⟨k0, k1, k2, k3, k4, k5⟩ := hk.c6
 have kl := hk.lt
 cases p with
 | false =>
  go_wp2_with fail
  go_ret
  exact ⟨rfl, hB⟩
 | true =>
  obtain ⟨ha, hb, hc, hx, hy, hz⟩ := few_all hp.out
  obtain ⟨zt, zk, zs⟩ := text_size12 ha hb hc hx hy hz
  obtain ⟨f1, hf1⟩ : ∃ f, Hid (fmdN (a, b, c) = f) := ⟨_, Lib.hid rfl⟩
  obtain ⟨f2, hf2⟩ : ∃ f, Hid (fmdN (x, y, z) = f) := ⟨_, Lib.hid rfl⟩
  have g1 := fun W => rfmd_is hf1.out (by dsimp only; omega) (by dsimp only; omega) (by dsimp only; omega) W
  have g2 := fun W => rfmd_is hf2.out (by dsimp only; omega) (by dsimp only; omega) (by dsimp only; omega) W
  dsimp only at g1 g2
  have kt : ∀ W : World, _ := fun W => text_any12 (w := W) a b c x y z (by omega) (by omega) (by omega) (by omega) (by omega) (by omega)
  have kk : ∀ W : World, _ := fun W => key_any12 (w := W) a b c x y z (by omega) (by omega) (by omega) (by omega) (by omega) (by omega)
  have ks : ∀ W : World, _ := fun W => show_any12 (w := W) a b c (by omega) (by omega) (by omega)
  have qp : ∀ W : World, _ := fun W => parse_any12 (w := W) (textT ((a, b, c), (x, y, z))) zt
  have qf : ∀ W : World, _ := fun W => from_any12 (w := W) (keyT ((a, b, c), (x, y, z))) zk
  have qr : ∀ W : World, _ := fun W => read_any12 (w := W) (showN (a, b, c)) zs
  obtain ⟨t1, e1, h1, he1⟩ : ∃ t1 e1, Hid (tupO (parseT (textT ((a, b, c), (x, y, z)))) = t1) ∧ Hid (errO (parseT (textT ((a, b, c), (x, y, z)))) = e1) := ⟨_, _, Lib.hid rfl, Lib.hid rfl⟩
  obtain ⟨t2, e2, h2, he2⟩ : ∃ t2 e2, Hid (tupO (fromT (keyT ((a, b, c), (x, y, z)))) = t2) ∧ Hid ((fromT (keyT ((a, b, c), (x, y, z)))).isSome = e2) := ⟨_, _, Lib.hid rfl, Lib.hid rfl⟩
  obtain ⟨t3, e3, h3, he3⟩ : ∃ t3 e3, Hid (nodeO (readN (showN (a, b, c))) = t3) ∧ Hid (errO (readN (showN (a, b, c))) = e3) := ⟨_, _, Lib.hid rfl, Lib.hid rfl⟩
  rw [h1.out, he1.out] at qp
  rw [h2.out, he2.out] at qf
  rw [h3.out, he3.out] at qr
  obtain ⟨⟨a1, b1, c1⟩, ⟨x1, y1, z1⟩⟩ := t1
  obtain ⟨⟨a2, b2, c2⟩, ⟨x2, y2, z2⟩⟩ := t2
  obtain ⟨a3, b3, c3⟩ := t3
  dsimp only at qp qf qr
  have hyes : Hid (fmdT ((a, b, c), (x, y, z)) = true → (a1 = a ∧ b1 = b ∧ c1 = c ∧ x1 = x ∧ y1 = y ∧ z1 = z) ∧ e1 = 0 ∧ (a2 = a ∧ b2 = b ∧ c2 = c ∧ x2 = x ∧ y2 = y ∧ z2 = z) ∧ e2 = true) := Lib.hid fun h => by
   have u1 := h1.out
   have u2 := h2.out
   have u3 := he1.out
   have u4 := he2.out
   rw [parse_text h] at u1 u3
   rw [from_key h] at u2 u4
   cases u1
   cases u2
   cases u3
   cases u4
   exact ⟨⟨rfl, rfl, rfl, rfl, rfl, rfl⟩, rfl, ⟨rfl, rfl, rfl, rfl, rfl, rfl⟩, rfl⟩
  have hyes3 : Hid (f1 = true → (a3 = a ∧ b3 = b ∧ c3 = c) ∧ e3 = 0) := Lib.hid fun h => by
   have u1 := h3.out
   have u3 := he3.out
   rw [read_show (hf1.out.trans h)] at u1 u3
   cases u1
   cases u3
   exact ⟨⟨rfl, rfl, rfl⟩, rfl⟩
  have hno1 : Hid (¬ fmdT ((a, b, c), (x, y, z)) = true → e1 = 11 ∨ e1 = 0 ∧ ¬ (a1 = a ∧ b1 = b ∧ c1 = c ∧ x1 = x ∧ y1 = y ∧ z1 = z)) := Lib.hid fun h => by
   have u1 := h1.out
   have u3 := he1.out
   cases q : parseT (textT ((a, b, c), (x, y, z))) with
   | none => rw [q] at u3; exact .inl u3.symm
   | some t =>
    rw [q] at u1 u3
    refine .inr ⟨u3.symm, fun v => h ?_⟩
    have u4 := (parse_some q).1
    obtain ⟨rfl, rfl, rfl, rfl, rfl, rfl⟩ := v
    have u5 : t = _ := u1
    rw [← u5]
    exact u4
  have hno2 : Hid (¬ fmdT ((a, b, c), (x, y, z)) = true → e2 = false ∨ e2 = true ∧ ¬ (a2 = a ∧ b2 = b ∧ c2 = c ∧ x2 = x ∧ y2 = y ∧ z2 = z)) := Lib.hid fun h => by
   have u1 := h2.out
   have u3 := he2.out
   cases q : fromT (keyT ((a, b, c), (x, y, z))) with
   | none => rw [q] at u3; exact .inl u3.symm
   | some t =>
    rw [q] at u1 u3
    refine .inr ⟨u3.symm, fun v => h ?_⟩
    have u4 := (from_some q).1
    obtain ⟨rfl, rfl, rfl, rfl, rfl, rfl⟩ := v
    have u5 : t = _ := u1
    rw [← u5]
    exact u4
  have hno3 : Hid (f1 = false → e3 = 11 ∨ e3 = 0 ∧ ¬ (a3 = a ∧ b3 = b ∧ c3 = c)) := Lib.hid fun h => by
   have u1 := h3.out
   have u3 := he3.out
   cases q : readN (showN (a, b, c)) with
   | none => rw [q] at u3; exact .inl u3.symm
   | some t =>
    rw [q] at u1 u3
    refine .inr ⟨u3.symm, fun v => ?_⟩
    have u4 := (read_some q).1
    obtain ⟨rfl, rfl, rfl⟩ := v
    have u5 : t = _ := u1
    rw [u5, hf1.out, h] at u4
    cases u4
  clear h1 he1 h2 he2 h3 he3
  generalize hU : textT ((a, b, c), (x, y, z)) = U at *
  generalize hK : keyT ((a, b, c), (x, y, z)) = K at *
  generalize hS : showN (a, b, c) = S at *
  clear hU hK hS zt zk zs
  go_upto_region 8 with (go_at_call 42; with_reducible refine (g1 _).mono ?_; rintro e w4 ⟨rfl, hb2⟩)
  replace hk := hk.below hb2
  replace hB := bthen hB hB.size hb2
  clear hb2 k0 k1 k2 k3 k4 k5 kl
  obtain ⟨k0, k1, k2, k3, k4, k5⟩ := hk.c6
  have kl := hk.lt
  go_upto_region 9 with (go_at_call 42; with_reducible refine (g2 _).mono ?_; rintro e w5 ⟨rfl, hb2⟩)
  replace hk := hk.below hb2
  replace hB := bthen hB hB.size hb2
  clear hb2 k0 k1 k2 k3 k4 k5 kl
  obtain ⟨k0, k1, k2, k3, k4, k5⟩ := hk.c6
  have kl := hk.lt
  go_upto_region 10 with (first | (go_at_call 38; refine (kt _).mono ?_; rintro e w6 ⟨rfl, hb2⟩) | (go_at_call 32; refine (qp _).mono ?_; rintro e w7 ⟨rfl, hb3⟩))
  have d1 := Bk.new w7 #[.string a1, .string b1, .string c1, .string x1, .string y1, .string z1] 71
  replace hb2 := (bthen hb2 hb2.size hb3).alloc (bthen hb2 hb2.size hb3).size (.cells #[.string a1, .string b1, .string c1, .string x1, .string y1, .string z1] 71)
  clear hb3
  generalize w7.alloc (.cells #[.string a1, .string b1, .string c1, .string x1, .string y1, .string z1] 71) = w8 at *
  generalize w7.heap.size = r1 at *
  replace hk := hk.below hb2
  replace hB := bthen hB hB.size hb2
  clear hb2 k0 k1 k2 k3 k4 k5 kl
  obtain ⟨k0, k1, k2, k3, k4, k5⟩ := hk.c6
  have kl := hk.lt
  go_upto_region 11 with (first | (go_at_call 40; refine (kk _).mono ?_; rintro e w9 ⟨rfl, hb2⟩) | (go_at_call 34; refine (qf _).mono ?_; rintro e w10 ⟨rfl, hb3⟩))
  have d2 := Bk.new w10 #[.string a2, .string b2, .string c2, .string x2, .string y2, .string z2] 71
  replace hb2 := (bthen hb2 hb2.size hb3).alloc (bthen hb2 hb2.size hb3).size (.cells #[.string a2, .string b2, .string c2, .string x2, .string y2, .string z2] 71)
  clear hb3
  generalize w10.alloc (.cells #[.string a2, .string b2, .string c2, .string x2, .string y2, .string z2] 71) = w11 at *
  generalize w10.heap.size = r2 at *
  replace d1 := d1.below hb2
  replace hk := hk.below hb2
  replace hB := bthen hB hB.size hb2
  clear hb2 k0 k1 k2 k3 k4 k5 kl
  obtain ⟨k0, k1, k2, k3, k4, k5⟩ := hk.c6
  have kl := hk.lt
  go_upto_region 12 with (first | (go_at_call 36; refine (ks _).mono ?_; rintro e w12 ⟨rfl, hb2⟩) | (go_at_call 30; refine (qr _).mono ?_; rintro e w13 ⟨rfl, hb3⟩))
  have d3 := Bk.new w13 #[.string a3, .string b3, .string c3] 69
  replace hb2 := (bthen hb2 hb2.size hb3).alloc (bthen hb2 hb2.size hb3).size (.cells #[.string a3, .string b3, .string c3] 69)
  clear hb3
  generalize w13.alloc (.cells #[.string a3, .string b3, .string c3] 69) = w14 at *
  generalize w13.heap.size = r3 at *
  replace d1 := d1.below hb2
  replace d2 := d2.below hb2
  replace hk := hk.below hb2
  replace hB := bthen hB hB.size hb2
  clear hb2 k0 k1 k2 k3 k4 k5 kl
  obtain ⟨k0, k1, k2, k3, k4, k5⟩ := hk.c6
  have kl := hk.lt
  clear kt kk ks qp qf qr g1 g2 ka kp
  obtain ⟨m0, m1, m2, m3, m4, m5⟩ := d1.c6
  have ml := d1.lt
  obtain ⟨n0, n1, n2, n3, n4, n5⟩ := d2.c6
  have nl := d2.lt
  obtain ⟨o0, o1, o2⟩ := d3.c3
  have ol := d3.lt
  have E1 := tuple_eql a1 b1 c1 x1 y1 z1 a b c x y z
  have E2 := tuple_eql a2 b2 c2 x2 y2 z2 a b c x y z
  have E3 := node_eql a3 b3 c3 a b c
  have hd : c.toList.isEmpty = decide (c = ⟨#[]⟩) := by
   by_cases h : c = ⟨#[]⟩
   · rw [emp_yes h, decide_eq_true h]
   · rw [emp_no h, decide_eq_false h]
  by_cases hF : fmdT ((a, b, c), (x, y, z)) = true
  · obtain ⟨v1, v2, v3⟩ := fmdT_iff.1 hF
    obtain ⟨w1', w2', w3', w4'⟩ := hyes.out hF
    obtain rfl : f1 = true := by rw [← hf1.out]; exact v2
    obtain rfl : f2 = true := by rw [← hf2.out]; exact v3
    obtain ⟨w5', w6'⟩ := hyes3.out rfl
    rw [decide_eq_true w1'] at E1
    rw [decide_eq_true w3'] at E2
    rw [decide_eq_true w5'] at E3
    rw [decide_eq_false v1] at hd
    subst w2' w4' w6'
    clear hyes hyes3 hno1 hno2 hno3 v1 v2 v3 w1' w3' w5' hF hf1 hf2
    go_wp2_with fail
    go_ret
    exact ⟨rfl, hB⟩
  · have hbad : f1 = false ∨ f2 = false ∨ decide (c = ⟨#[]⟩) = true := by
     cases f1 with
     | false => exact .inl rfl
     | true =>
      cases f2 with
      | false => exact .inr (.inl rfl)
      | true => exact .inr (.inr (decide_eq_true (Decidable.of_not_not fun h => hF (fmdT_iff.2 ⟨h, hf1.out, hf2.out⟩))))
    have g1 := hno1.out hF
    have g2 := hno2.out hF
    have g3 : f1 = true ∨ f1 = false ∧ (e3 = 11 ∨ e3 = 0 ∧ ¬ (a3 = a ∧ b3 = b ∧ c3 = c)) := by
     cases f1 with
     | true => exact .inl rfl
     | false => exact .inr ⟨rfl, hno3.out rfl⟩
    clear hyes hyes3 hno1 hno2 hno3 hF hf1 hf2
    generalize decide (c = ⟨#[]⟩) = dc at *
    obtain ⟨D1, hD1⟩ : ∃ D, D = decide (a1 = a ∧ b1 = b ∧ c1 = c ∧ x1 = x ∧ y1 = y ∧ z1 = z) := ⟨_, rfl⟩
    obtain ⟨D2, hD2⟩ : ∃ D, D = decide (a2 = a ∧ b2 = b ∧ c2 = c ∧ x2 = x ∧ y2 = y ∧ z2 = z) := ⟨_, rfl⟩
    obtain ⟨D3, hD3⟩ : ∃ D, D = decide (a3 = a ∧ b3 = b ∧ c3 = c) := ⟨_, rfl⟩
    rw [← hD1] at E1
    rw [← hD2] at E2
    rw [← hD3] at E3
    replace g1 : e1 = 11 ∨ e1 = 0 ∧ D1 = false := g1.imp id fun h => ⟨h.1, by rw [hD1, decide_eq_false h.2]⟩
    replace g2 : e2 = false ∨ e2 = true ∧ D2 = false := g2.imp id fun h => ⟨h.1, by rw [hD2, decide_eq_false h.2]⟩
    replace g3 : f1 = true ∨ f1 = false ∧ (e3 = 11 ∨ e3 = 0 ∧ D3 = false) := g3.imp id fun h => ⟨h.1, h.2.imp id fun h => ⟨h.1, by rw [hD3, decide_eq_false h.2]⟩⟩
    clear hD1 hD2 hD3
    go_cut [56] from 45 to 56 (fun v wc => v = .bool true ∧ wc = w14)
    case first =>
     clear g1 g2 g3 E1 E2 E3
     cases f1 <;> cases f2 <;> cases dc <;> first | (exfalso; simp at hbad; done) | skip
     all_goals clear hbad
     all_goals go_wp2_with fail
     all_goals go_meet
     all_goals exact ⟨rfl, rfl⟩
    case rest =>
    obtain ⟨rfl, rfl⟩ := hcut
    clear hbad hd
    rcases g1 with rfl | ⟨rfl, rfl⟩ <;> rcases g2 with rfl | ⟨rfl, rfl⟩ <;> rcases g3 with rfl | ⟨rfl, rfl | ⟨rfl, rfl⟩⟩
    all_goals go_wp2_with fail
    all_goals go_ret
    all_goals exact ⟨rfl, hB⟩
end Go.Proofs.YtahegpfdbgbioaaGreat
