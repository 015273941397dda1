/- TupleOrder walked: it answers true. Conditions: none. -/
import Derived.Deep.DeepCutAuto
import Derived.Test.YtahegpfdbgbioaaGreatA27
set_option maxRecDepth 100000
set_option maxHeartbeats 4000000
namespace Go.Proofs.YtahegpfdbgbioaaGreat
open Go.RowKit
theorem tupleOrder_walk (a b c x y z a' b' c' x' y' z' : ByteArray) (w : World) (ha : a.size ≤ maxLen) (hb : b.size ≤ maxLen) (hc : c.size ≤ maxLen) (hx : x.size ≤ maxLen) (hy : y.size ≤ maxLen) (hz : z.size ≤ maxLen) (ha' : a'.size ≤ maxLen) (hb' : b'.size ≤ maxLen) (hc' : c'.size ≤ maxLen) (hx' : x'.size ≤ maxLen) (hy' : y'.size ≤ maxLen) (hz' : z'.size ≤ maxLen) :
 Calls Tryz.prog 6 #[.agg #[.string a, .string b, .string c, .string x, .string y, .string z], .agg #[.string a', .string b', .string c', .string x', .string y', .string z']] w fun e w' => e = .returned (.bool true) ∧ Below w.heap.size w w' := by
 have ka : ∀ W : World, _ := fun W => awake12_any W
 obtain ⟨p, hp⟩ : ∃ p, Hid (fewT ((a, b, c), (x, y, z)) = p) := ⟨_, Lib.hid rfl⟩
 obtain ⟨q, hq⟩ : ∃ q, Hid (fewT ((a', b', c'), (x', y', z')) = q) := ⟨_, Lib.hid rfl⟩
 have kp : ∀ W : World, _ := fun W => few_any12 (w := W) a b c x y z ha hb hc hx hy hz
 have kq : ∀ W : World, _ := fun W => few_any12 (w := W) a' b' c' x' y' z' ha' hb' hc' hx' hy' hz'
 rw [hp.out] at kp
 rw [hq.out] at kq
 have hk := (Bk.new w #[.string a, .string b, .string c, .string x, .string y, .string z] 71).alloc (.cells #[.string a', .string b', .string c', .string x', .string y', .string z'] 71)
 have hl := Bk.new2 w (.cells #[.string a, .string b, .string c, .string x, .string y, .string z] 71) #[.string a', .string b', .string c', .string x', .string y', .string z'] 71
 have hB : Below w.heap.size w ((w.alloc (.cells #[.string a, .string b, .string c, .string x, .string y, .string z] 71)).alloc (.cells #[.string a', .string b', .string c', .string x', .string y', .string z'] 71)) := ((Below.refl _ w).alloc (Nat.le_refl _) _).alloc (size_alloc (Nat.le_refl _)) _
 clear ha hb hc hx hy hz ha' hb' hc' hx' hy' hz'
 go_enter Tryz.func6, Tryz.ntmps6
 go_upto_region 1 with (fail)
 generalize (w.alloc (.cells #[.string a, .string b, .string c, .string x, .string y, .string z] 71)).alloc (.cells #[.string a', .string b', .string c', .string x', .string y', .string z'] 71) = w1 at *
 go_upto_region 4 with (go_at_call 28; refine (ka _).mono ?_; rintro e w2 ⟨rfl, hb2⟩)
 replace hk := hk.below hb2
 replace hl := hl.below hb2
 replace hB := bthen hB hB.size hb2
 clear hb2
 obtain ⟨k0, k1, k2, k3, k4, k5⟩ := hk.c6
 have kl := hk.lt
 obtain ⟨l0, l1, l2, l3, l4, l5⟩ := hl.c6
 have ll := hl.lt
 go_upto_region 5 with (go_at_call 29; with_reducible refine (kp _).mono ?_; rintro e w3 ⟨rfl, hb2⟩)
 clear k0 k1 k2 k3 k4 k5 kl l0 l1 l2 l3 l4 l5 ll
 replace hk := hk.below hb2
 replace hl := hl.below hb2
 replace hB := bthen hB hB.size hb2
 clear hb2
 obtain ⟨k0, k1, k2, k3, k4, k5⟩ := hk.c6
 have kl := hk.lt
 obtain ⟨l0, l1, l2, l3, l4, l5⟩ := hl.c6
 have ll := hl.lt
 go_upto_region 6 with (go_at_call 29; with_reducible refine (kq _).mono ?_; rintro e w4 ⟨rfl, hb2⟩)
 clear k0 k1 k2 k3 k4 k5 kl l0 l1 l2 l3 l4 l5 ll
 replace hk := hk.below hb2
 replace hl := hl.below hb2
 replace hB := bthen hB hB.size hb2
 clear hb2
 obtain ⟨k0, k1, k2, k3, k4, k5⟩ := hk.c6
 have kl := hk.lt
 obtain ⟨l0, l1, l2, l3, l4, l5⟩ := hl.c6
 have ll := hl.lt
 cases p with
 | false =>
  go_wp2_with fail
  go_ret
  exact ⟨rfl, hB⟩
 | true =>
  cases q with
  | false =>
   go_wp2_with fail
   go_ret
   exact ⟨rfl, hB⟩
  | true =>
   obtain ⟨ha, hb, hc, hx, hy, hz⟩ := few_all hp.out
   obtain ⟨ha', hb', hc', hx', hy', hz'⟩ := few_all hq.out
   have kc : ∀ W : World, _ := fun W => cmp_any12 (w := W) a b c x y z a' b' c' x' y' z'
   have kd : ∀ W : World, _ := fun W => cmp_any12 (w := W) a' b' c' x' y' z' a b c x y z
   have kr : ∀ W : World, _ := fun W => rcmp_any12 (w := W) a b c x y z a' b' c' x' y' z'
   rw [cmpT_neg ((a, b, c), (x, y, z)) ((a', b', c'), (x', y', z'))] at kd
   obtain ⟨r, hr⟩ : ∃ r, Hid (cmpT ((a, b, c), (x, y, z)) ((a', b', c'), (x', y', z')) = r) := ⟨_, Lib.hid rfl⟩
   rw [hr.out] at kc kd kr
   have hrr : r = -1 ∨ r = 0 ∨ r = 1 := by rw [← hr.out]; exact cmpL_range _ _
   have hwr : IntKind.i64.wrap (-r) = -r := IntWalk.i64_in _ (by omega)
   go_upto_region 9 with (go_at_call 43; with_reducible refine (kc _).mono ?_; rintro e w5 ⟨rfl, hb2⟩)
   clear k0 k1 k2 k3 k4 k5 kl l0 l1 l2 l3 l4 l5 ll
   replace hk := hk.below hb2
   replace hl := hl.below hb2
   replace hB := bthen hB hB.size hb2
   clear hb2
   obtain ⟨k0, k1, k2, k3, k4, k5⟩ := hk.c6
   have kl := hk.lt
   obtain ⟨l0, l1, l2, l3, l4, l5⟩ := hl.c6
   have ll := hl.lt
   go_upto_region 11 with (first
    | (go_at_call 44; with_reducible refine (kr _).mono ?_; rintro e w6 ⟨rfl, hb2⟩; replace hk := hk.below hb2; replace hl := hl.below hb2; replace hB := bthen hB hB.size hb2; clear hb2 k0 k1 k2 k3 k4 k5 kl l0 l1 l2 l3 l4 l5 ll; obtain ⟨k0, k1, k2, k3, k4, k5⟩ := hk.c6; have kl := hk.lt; obtain ⟨l0, l1, l2, l3, l4, l5⟩ := hl.c6; have ll := hl.lt)
    | (go_at_call 43; with_reducible refine (kd _).mono ?_; rintro e w7 ⟨rfl, hb3⟩))
   replace hk := hk.below hb3
   replace hl := hl.below hb3
   replace hB := bthen hB hB.size hb3
   clear hb3 k0 k1 k2 k3 k4 k5 kl l0 l1 l2 l3 l4 l5 ll kc kd kr hwr
   obtain ⟨k0, k1, k2, k3, k4, k5⟩ := hk.c6
   have kl := hk.lt
   obtain ⟨l0, l1, l2, l3, l4, l5⟩ := hl.c6
   have ll := hl.lt
   obtain ⟨f1, hf1⟩ : ∃ f, Hid (fmdN (a, b, c) = f) := ⟨_, Lib.hid rfl⟩
   obtain ⟨f2, hf2⟩ : ∃ f, Hid (fmdN (x, y, z) = f) := ⟨_, Lib.hid rfl⟩
   obtain ⟨f3, hf3⟩ : ∃ f, Hid (fmdN (a', b', c') = f) := ⟨_, Lib.hid rfl⟩
   obtain ⟨f4, hf4⟩ : ∃ f, Hid (fmdN (x', y', z') = f) := ⟨_, Lib.hid rfl⟩
   have g1 := fun W => rfmd_is hf1.out (by dsimp only; omega) (by dsimp only; omega) (by dsimp only; omega) W
   have g2 := fun W => rfmd_is hf2.out (by dsimp only; omega) (by dsimp only; omega) (by dsimp only; omega) W
   have g3 := fun W => rfmd_is hf3.out (by dsimp only; omega) (by dsimp only; omega) (by dsimp only; omega) W
   have g4 := fun W => rfmd_is hf4.out (by dsimp only; omega) (by dsimp only; omega) (by dsimp only; omega) W
   dsimp only at g1 g2 g3 g4
   go_cut [9] from 42 to 49 (fun v wc => v = .bool (f1 && f2) ∧ Below w7.heap.size w7 wc)
   case first =>
    cases f1 with
    | false =>
     go_wp2_with (go_at_call 42; with_reducible refine (g1 _).mono ?_; rintro e w8 ⟨rfl, hb2⟩)
     go_meet
     exact ⟨rfl, hb2⟩
    | true =>
     go_wp2_with (first
      | (go_at_call 42; with_reducible refine (g1 _).mono ?_; rintro e w8 ⟨rfl, hb2⟩; have hk8 := hk.below hb2; obtain ⟨m0, m1, m2, m3, m4, m5⟩ := hk8.c6; have ml := hk8.lt)
      | (go_at_call 42; with_reducible refine (g2 _).mono ?_; rintro e w9 ⟨rfl, hb3⟩))
     go_meet
     exact ⟨by rw [Bool.true_and], bthen hb2 hb2.size hb3⟩
   case rest =>
   obtain ⟨rfl, hb2⟩ := hcut
   generalize wc = w10 at *
   clear k0 k1 k2 k3 k4 k5 kl l0 l1 l2 l3 l4 l5 ll
   replace hk := hk.below hb2
   replace hl := hl.below hb2
   replace hB := bthen hB hB.size hb2
   clear hb2
   obtain ⟨k0, k1, k2, k3, k4, k5⟩ := hk.c6
   have kl := hk.lt
   obtain ⟨l0, l1, l2, l3, l4, l5⟩ := hl.c6
   have ll := hl.lt
   go_upto_region 12 with (fail)
   go_cut [10] from 50 to 57 (fun v wc => v = .bool (f3 && f4) ∧ Below w10.heap.size w10 wc)
   case first =>
    cases f3 with
    | false =>
     go_wp2_with (go_at_call 42; with_reducible refine (g3 _).mono ?_; rintro e w8 ⟨rfl, hb2⟩)
     go_meet
     exact ⟨rfl, hb2⟩
    | true =>
     go_wp2_with (first
      | (go_at_call 42; with_reducible refine (g3 _).mono ?_; rintro e w8 ⟨rfl, hb2⟩; have hl8 := hl.below hb2; obtain ⟨m0, m1, m2, m3, m4, m5⟩ := hl8.c6; have ml := hl8.lt)
      | (go_at_call 42; with_reducible refine (g4 _).mono ?_; rintro e w9 ⟨rfl, hb3⟩))
     go_meet
     exact ⟨by rw [Bool.true_and], bthen hb2 hb2.size hb3⟩
   case rest =>
   obtain ⟨rfl, hb2⟩ := hcut
   generalize wc = w11 at *
   clear k0 k1 k2 k3 k4 k5 kl l0 l1 l2 l3 l4 l5 ll
   replace hk := hk.below hb2
   replace hl := hl.below hb2
   replace hB := bthen hB hB.size hb2
   clear hb2
   obtain ⟨k0, k1, k2, k3, k4, k5⟩ := hk.c6
   have kl := hk.lt
   obtain ⟨l0, l1, l2, l3, l4, l5⟩ := hl.c6
   have ll := hl.lt
   by_cases hall : (f1 && f2) = true ∧ (f3 && f4) = true
   · obtain ⟨u1, u2⟩ := hall
     have o1 : fmdN (a, b, c) = true ∧ fmdN (x, y, z) = true := by
      rw [hf1.out, hf2.out]
      simpa using u1
     have o2 : fmdN (a', b', c') = true ∧ fmdN (x', y', z') = true := by
      rw [hf3.out, hf4.out]
      simpa using u2
     obtain ⟨o3, o4⟩ := keyT_order (a := ((a, b, c), (x, y, z))) (b := ((a', b', c'), (x', y', z'))) (.inr o1) (.inr o2)
     have kk : ∀ W : World, _ := fun W => key_any12 (w := W) a b c x y z (by omega) (by omega) (by omega) (by omega) (by omega) (by omega)
     have kl' : ∀ W : World, _ := fun W => key_any12 (w := W) a' b' c' x' y' z' (by omega) (by omega) (by omega) (by omega) (by omega) (by omega)
     have o5 : keyT ((a, b, c), (x, y, z)) = keyT ((a', b', c'), (x', y', z')) ↔ r = 0 := by rw [o4, ← hr.out, cmpT_zero]
     rw [hr.out] at o3
     generalize keyT ((a, b, c), (x, y, z)) = K1 at *
     generalize keyT ((a', b', c'), (x', y', z')) = K2 at *
     rw [u1, u2]
     have d1 : Op.bytesLess K1.toList K2.toList = decide (r < 0) := o3
     have d2 : (K1.toList == K2.toList) = decide (r = 0) := by
      by_cases h : K1 = K2
      · rw [toList_eq_true h, decide_eq_true (o5.1 h)]
      · rw [toList_ne h, decide_eq_false fun g => h (o5.2 g)]
     clear o3 o4 o5 o1 o2 hf1 hf2 hf3 hf4 g1 g2 g3 g4 u1 u2
     go_upto_region 16 with (go_at_call 40; with_reducible refine (kk _).mono ?_; rintro e w12 ⟨rfl, hb2⟩)
     clear k0 k1 k2 k3 k4 k5 kl l0 l1 l2 l3 l4 l5 ll
     replace hk := hk.below hb2
     replace hl := hl.below hb2
     replace hB := bthen hB hB.size hb2
     clear hb2
     obtain ⟨k0, k1, k2, k3, k4, k5⟩ := hk.c6
     have kl := hk.lt
     obtain ⟨l0, l1, l2, l3, l4, l5⟩ := hl.c6
     have ll := hl.lt
     go_upto_region 17 with (go_at_call 40; with_reducible refine (kl' _).mono ?_; rintro e w13 ⟨rfl, hb2⟩)
     replace hB := bthen hB hB.size hb2
     clear hr
     rcases hrr with rfl | rfl | rfl
     all_goals rw [show decide (_ : Prop) = _ from rfl] at d1 d2
     all_goals go_wp2_with fail
     all_goals go_ret
     all_goals exact ⟨rfl, hB⟩
   · have hall' : (f1 && f2) = true → (f3 && f4) = false := fun h => by
      cases h2 : (f3 && f4) with
      | false => rfl
      | true => exact absurd ⟨h, h2⟩ hall
     generalize (f1 && f2) = u1 at *
     generalize (f3 && f4) = u2 at *
     cases u1 with
     | false =>
      go_wp2_with fail
      go_ret
      exact ⟨rfl, hB⟩
     | true =>
      rw [hall' rfl]
      go_wp2_with fail
      go_ret
      exact ⟨rfl, hB⟩
end Go.Proofs.YtahegpfdbgbioaaGreat
