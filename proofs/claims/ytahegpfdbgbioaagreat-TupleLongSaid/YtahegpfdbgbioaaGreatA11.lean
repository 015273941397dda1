import Derived.Deep.RegionHeld3
import Derived.Test.YtahegpfdbgbioaaGreatA10
set_option maxRecDepth 100000
set_option maxHeartbeats 4000000
namespace Go.Proofs.YtahegpfdbgbioaaGreat
open Go.RowKit
theorem Bk.c3 {w : World} {b : Nat} {t : TypeId} {x0 x1 x2 : Value} (h : Bk w b #[x0, x1, x2] t) : w.cell? ⟨b, 0, none⟩ = some x0 ∧ w.cell? ⟨b, 1, none⟩ = some x1 ∧ w.cell? ⟨b, 2, none⟩ = some x2 := ⟨h.cell 0, h.cell 1, h.cell 2⟩
theorem emp_yes {s : ByteArray} (h : s = ⟨#[]⟩) : s.toList.isEmpty = true := by rw [h]; decide +kernel
theorem emp_no {s : ByteArray} (h : ¬ s = ⟨#[]⟩) : s.toList.isEmpty = false := list_ne2 (by
 rcases Nat.eq_zero_or_pos s.size with g | g
 · exact absurd (nil_size g) h
 · exact g)
section
variable {w : World}
theorem show_any12 (a b c : ByteArray) (ha : a.size ≤ 100000) (hb : b.size ≤ 100000) (hc : c.size ≤ 100000) :
 Calls Tryz.prog 36 #[.agg #[.string a, .string b, .string c]] w fun e w' => e = .returned (.string (showN (a, b, c))) ∧ Below w.heap.size w w' := by
 have hk := Bk.new w #[.string a, .string b, .string c] 69
 obtain ⟨c0, c1, c2⟩ := hk.c3
 have lb := hk.lt
 have hB := bnew w (.cells #[.string a, .string b, .string c] 69)
 clear hk
 unfold showN objN
 by_cases he : c = ⟨#[]⟩
 · rw [if_pos he]
   have d := emp_yes he
   clear he
   go_enter Tryz.func36, Tryz.ntmps36
   go_wp2_with fail
   go_returns
   exact ⟨rfl, hB⟩
 · rw [if_neg he]
   have d := emp_no he
   clear he
   go_enter Tryz.func36, Tryz.ntmps36
   go_wp2_with fail
   go_returns
   exact ⟨rfl, hB⟩
theorem name_is {s : ByteArray} {b : Bool} (h : nameS s = b) (hs : s.size ≤ 100000) (W : World) : Calls Tryz.prog 113 #[.string s] W fun e w' => e = .returned (.bool b) ∧ Below W.heap.size W w' := by
 have k := name_any s W (by omega)
 rwa [h] at k
theorem nfmd_any (a b c : ByteArray) (ha : a.size ≤ 100000) (hb : b.size ≤ 100000) (hc : c.size ≤ 100000) :
 Calls Tryz.prog 68 #[.agg #[.string a, .string b, .string c]] w fun e w' => e = .returned (.bool (fmdN (a, b, c))) ∧ Below w.heap.size w w' := by
 have hk := Bk.new w #[.string a, .string b, .string c] 69
 obtain ⟨c0, c1, c2⟩ := hk.c3
 have lb := hk.lt
 have hB := bnew w (.cells #[.string a, .string b, .string c] 69)
 unfold fmdN
 dsimp only
 cases h1 : nameS a with
 | false =>
  have k := name_is h1 ha
  go_enter Tryz.func68, Tryz.ntmps68
  go_wp2_with (go_at_call 113; refine (k _).mono ?_; rintro e w1 ⟨rfl, hb1⟩)
  go_returns
  exact ⟨rfl, bthen hB hB.size hb1⟩
 | true =>
  have k := name_is h1 ha
  cases h2 : nameS b with
  | false =>
   have k2 := name_is h2 hb
   go_enter Tryz.func68, Tryz.ntmps68
   go_wp2_with (first
    | (go_at_call 113; with_reducible refine (k _).mono ?_; rintro e w1 ⟨rfl, hb1⟩; have hk1 := hk.below hb1; obtain ⟨d0, d1, d2⟩ := hk1.c3; have hB1 := bthen hB hB.size hb1)
    | (go_at_call 113; with_reducible refine (k2 _).mono ?_; rintro e w2 ⟨rfl, hb2⟩))
   go_returns
   exact ⟨rfl, bthen hB1 hB1.size hb2⟩
  | true =>
   have k2 := name_is h2 hb
   by_cases he : c = ⟨#[]⟩
   · have d := emp_yes he
     rw [decide_eq_true he]
     clear he
     go_enter Tryz.func68, Tryz.ntmps68
     go_wp2_with (first
      | (go_at_call 113; with_reducible refine (k _).mono ?_; rintro e w1 ⟨rfl, hb1⟩; have hk1 := hk.below hb1; obtain ⟨d0, d1, d2⟩ := hk1.c3; have hB1 := bthen hB hB.size hb1)
      | (go_at_call 113; with_reducible refine (k2 _).mono ?_; rintro e w2 ⟨rfl, hb2⟩; have hk2 := hk1.below hb2; obtain ⟨e0, e1, e2⟩ := hk2.c3; have hB2 := bthen hB1 hB1.size hb2))
     go_returns
     exact ⟨rfl, hB2⟩
   · have d := emp_no he
     rw [decide_eq_false he]
     clear he
     obtain ⟨x, hx⟩ : ∃ x, nameS c = x := ⟨_, rfl⟩
     have k3 := name_is hx hc
     rw [hx]
     go_enter Tryz.func68, Tryz.ntmps68
     go_wp2_with (first
      | (go_at_call 113; with_reducible refine (k _).mono ?_; rintro e w1 ⟨rfl, hb1⟩; have hk1 := hk.below hb1; obtain ⟨d0, d1, d2⟩ := hk1.c3; have hB1 := bthen hB hB.size hb1)
      | (go_at_call 113; with_reducible refine (k2 _).mono ?_; rintro e w2 ⟨rfl, hb2⟩; have hk2 := hk1.below hb2; obtain ⟨e0, e1, e2⟩ := hk2.c3; have hB2 := bthen hB1 hB1.size hb2)
      | (go_at_call 113; with_reducible refine (k3 _).mono ?_; rintro e w3 ⟨rfl, hb3⟩))
     go_returns
     exact ⟨by simp, bthen hB2 hB2.size hb3⟩
theorem nfmd_is {n : NdP} {b : Bool} (h : fmdN n = b) (h0 : n.1.size ≤ 100000) (h1 : n.2.1.size ≤ 100000) (h2 : n.2.2.size ≤ 100000) (W : World) : Calls Tryz.prog 68 #[.agg #[.string n.1, .string n.2.1, .string n.2.2]] W fun e w' => e = .returned (.bool b) ∧ Below W.heap.size W w' := by
 rw [← h]
 exact nfmd_any _ _ _ h0 h1 h2
theorem fmd_any (a b c x y z : ByteArray) (ha : a.size ≤ 100000) (hb : b.size ≤ 100000) (hc : c.size ≤ 100000) (hx : x.size ≤ 100000) (hy : y.size ≤ 100000) (hz : z.size ≤ 100000) :
 Calls Tryz.prog 70 #[.agg #[.string a, .string b, .string c, .string x, .string y, .string z]] w fun e w' => e = .returned (.bool (fmdT ((a, b, c), (x, y, z)))) ∧ Below w.heap.size w w' := by
 have hk := Bk.new w #[.string a, .string b, .string c, .string x, .string y, .string z] 71
 obtain ⟨c0, c1, c2, c3, c4, c5⟩ := hk.c6
 have lb := hk.lt
 have hB := bnew w (.cells #[.string a, .string b, .string c, .string x, .string y, .string z] 71)
 unfold fmdT
 dsimp only
 by_cases he : c = ⟨#[]⟩
 · have d := emp_yes he
   rw [decide_eq_true he]
   clear he
   go_enter Tryz.func70, Tryz.ntmps70
   go_wp2_with fail
   go_returns
   exact ⟨by simp, hB⟩
 · have d := emp_no he
   rw [decide_eq_false he]
   clear he
   obtain ⟨p, hp⟩ : ∃ p, fmdN (a, b, c) = p := ⟨_, rfl⟩
   obtain ⟨q, hq⟩ : ∃ q, fmdN (x, y, z) = q := ⟨_, rfl⟩
   have k := fun W => nfmd_is hp ha hb hc W
   have k2 := fun W => nfmd_is hq hx hy hz W
   dsimp only at k k2
   rw [hp, hq]
   cases p with
   | false =>
    go_enter Tryz.func70, Tryz.ntmps70
    go_wp2_with (go_at_call 68; with_reducible refine (k _).mono ?_; rintro e w1 ⟨rfl, hb1⟩)
    go_returns
    exact ⟨by simp, bthen hB hB.size hb1⟩
   | true =>
    go_enter Tryz.func70, Tryz.ntmps70
    go_wp2_with (first
     | (go_at_call 68; with_reducible refine (k _).mono ?_; rintro e w1 ⟨rfl, hb1⟩; have hk1 := hk.below hb1; obtain ⟨d0, d1, d2, d3, d4, d5⟩ := hk1.c6; have hB1 := bthen hB hB.size hb1)
     | (go_at_call 68; with_reducible refine (k2 _).mono ?_; rintro e w2 ⟨rfl, hb2⟩))
    go_returns
    exact ⟨by simp, bthen hB1 hB1.size hb2⟩
end
end Go.Proofs.YtahegpfdbgbioaaGreat
namespace Go.Proofs.YtahegpfdbgbioaaGreat
open Go.RowKit
def nodeO (o : Option NdP) : NdP := o.getD (⟨#[]⟩, ⟨#[]⟩, ⟨#[]⟩)
def errO {α : Type} (o : Option α) : Int := if o.isSome = true then 0 else 11
def tupO (o : Option TuP) : TuP := o.getD ((⟨#[]⟩, ⟨#[]⟩, ⟨#[]⟩), (⟨#[]⟩, ⟨#[]⟩, ⟨#[]⟩))
theorem set3 {w w0 : World} {B b : Nat} {t : TypeId} {x0 x1 x2 : Value} (h : Bk w0 b #[x0, x1, x2] t) (hb : Below B w w0) (hB : B ≤ b) (v0 v1 v2 : Value) :
 Bk (((w0.setCell ⟨b, 0, none⟩ v0).setCell ⟨b, 1, none⟩ v1).setCell ⟨b, 2, none⟩ v2) b #[v0, v1, v2] t ∧ Below B w (((w0.setCell ⟨b, 0, none⟩ v0).setCell ⟨b, 1, none⟩ v1).setCell ⟨b, 2, none⟩ v2) :=
 ⟨by
  have hw := ((h.set 0 v0).set 1 v1).set 2 v2
  simp only [List.setIfInBounds_toArray, List.set_cons_zero, List.set_cons_succ] at hw
  exact hw, ((hb.setCell hB _).setCell hB _).setCell hB _⟩
theorem set6 {w w0 : World} {B b : Nat} {t : TypeId} {x0 x1 x2 x3 x4 x5 : Value} (h : Bk w0 b #[x0, x1, x2, x3, x4, x5] t) (hb : Below B w w0) (hB : B ≤ b) (v0 v1 v2 v3 v4 v5 : Value) :
 Bk ((((((w0.setCell ⟨b, 0, none⟩ v0).setCell ⟨b, 1, none⟩ v1).setCell ⟨b, 2, none⟩ v2).setCell ⟨b, 3, none⟩ v3).setCell ⟨b, 4, none⟩ v4).setCell ⟨b, 5, none⟩ v5) b #[v0, v1, v2, v3, v4, v5] t ∧ Below B w ((((((w0.setCell ⟨b, 0, none⟩ v0).setCell ⟨b, 1, none⟩ v1).setCell ⟨b, 2, none⟩ v2).setCell ⟨b, 3, none⟩ v3).setCell ⟨b, 4, none⟩ v4).setCell ⟨b, 5, none⟩ v5) :=
 ⟨by
  have hw := (((((h.set 0 v0).set 1 v1).set 2 v2).set 3 v3).set 4 v4).set 5 v5
  simp only [List.setIfInBounds_toArray, List.set_cons_zero, List.set_cons_succ] at hw
  exact hw, (((((hb.setCell hB _).setCell hB _).setCell hB _).setCell hB _).setCell hB _).setCell hB _⟩
section
variable {w : World}
theorem read_any12 (s : ByteArray) (hs : s.size ≤ 100000) :
 Calls Tryz.prog 30 #[.string s] w fun e w' => e = .returned (.tuple #[.agg #[.string (nodeO (readN s)).1, .string (nodeO (readN s)).2.1, .string (nodeO (readN s)).2.2], .int .i64 (errO (readN s))]) ∧ Below w.heap.size w w' := by
 have hml : s.size ≤ maxLen := by simp only [maxLen]; omega
 obtain ⟨R, hRd⟩ : ∃ R, Hid (readN s = R) := ⟨_, Lib.hid rfl⟩
 rw [hRd.out]
 obtain ⟨o, r, ho⟩ : ∃ o r, cutC s 35 = (o, r) := ⟨_, _, rfl⟩
 obtain ⟨t, i, ht⟩ : ∃ t i, cutC o 58 = (t, i) := ⟨_, _, rfl⟩
 have hn : Hid (cutN s = (t, i, r)) := Lib.hid (by unfold cutN; rw [ho, ht])
 have zo : o.size ≤ 100000 := by have h1 := cutC_size s 35; have h2 := (fstC_spec s 35).1; rw [ho] at h1; dsimp only at h1; omega
 have zr : r.size ≤ 100000 := by have h1 := cutC_size2 s 35; rw [ho] at h1; dsimp only at h1; omega
 have zt : t.size ≤ 100000 := by have h1 := cutC_size o 58; have h2 := (fstC_spec o 58).1; rw [ht] at h1; dsimp only at h1; omega
 have zi : i.size ≤ 100000 := by have h1 := cutC_size2 o 58; rw [ht] at h1; dsimp only at h1; omega
 have k1 := fun W => cut35 s W hml
 have k2 := fun W => cut58 o W (by simp only [maxLen]; omega)
 rw [ho] at k1
 rw [ht] at k2
 clear ho ht
 generalize decide (fstC s 35 < s.size) = g1 at k1
 generalize decide (fstC o 58 < o.size) = g2 at k2
 have hR := Bk.new w #[.string ⟨#[]⟩, .string ⟨#[]⟩, .string ⟨#[]⟩] 69
 have hB := bnew w (.cells #[.string ⟨#[]⟩, .string ⟨#[]⟩, .string ⟨#[]⟩] 69)
 go_enter Tryz.func30, Tryz.ntmps30
 go_upto_region 1 with (fail)
 generalize w.alloc (.cells #[.string ⟨#[]⟩, .string ⟨#[]⟩, .string ⟨#[]⟩] 69) = w1 at *
 go_upto_region 2 with (go_at_call 67; refine (k1 _).mono ?_; rintro e w2 ⟨rfl, hb⟩)
 replace hR := hR.below hb
 replace hB := bthen hB hB.size hb
 clear hb k1
 go_upto_region 3 with (go_at_call 67; refine (k2 _).mono ?_; rintro e w3 ⟨rfl, hb⟩)
 replace hR := hR.below hb
 replace hB := bthen hB hB.size hb
 clear hb k2
 have hN := Bk.new w3 #[.string t, .string i, .string r] 69
 go_upto_region 4 with (fail)
 replace hR := hR.alloc (.cells #[.string t, .string i, .string r] 69)
 replace hB := hB.alloc hB.size (.cells #[.string t, .string i, .string r] 69)
 generalize w3.alloc (.cells #[.string t, .string i, .string r] 69) = w4 at *
 obtain ⟨n0, n1, n2⟩ := hN.c3
 have nl := hN.lt
 obtain ⟨p, hp⟩ : ∃ p, fmdN (t, i, r) = p := ⟨_, rfl⟩
 have kf := fun W => nfmd_is hp zt zi zr W
 dsimp only at kf
 have ks : ∀ W : World, _ := fun W => show_any12 (w := W) t i r zt zi zr
 cases p with
 | false =>
  have hread : readN s = none := by
   unfold readN
   rw [hn.out, if_neg fun h => by rw [hp] at h; cases h.1]
  obtain rfl : R = none := hRd.out.symm.trans hread
  clear hread hn hRd
  go_wp2_with (go_at_call 68; with_reducible refine (kf _).mono ?_; rintro e w5 ⟨rfl, hb⟩; have hR5 := hR.below hb; have hB5 := bthen hB hB.size hb; obtain ⟨r0, r1, r2⟩ := hR5.c3; have rl := hR5.lt; have rf := hR5.fz)
  obtain ⟨hw, hb6⟩ := set3 hR5 hB5 (Nat.le_refl _) (.string ⟨#[]⟩) (.string ⟨#[]⟩) (.string ⟨#[]⟩)
  obtain ⟨y0, y1, y2⟩ := hw.c3
  refine bodyPost_ret (v := .tuple #[.agg #[.string ⟨#[]⟩, .string ⟨#[]⟩, .string ⟨#[]⟩], .int .i64 11]) (by simp [results, Tryz.results30, go_sem, y0, y1, y2]; try rfl) rfl ?_
  exact ⟨rfl, hb6⟩
 | true =>
  generalize hu : showN (t, i, r) = u at ks
  by_cases he : u = s
  · have hread : readN s = some (t, i, r) := by
     unfold readN
     rw [hn.out, if_pos ⟨hp, by rw [hu, he]⟩]
    obtain rfl : R = some (t, i, r) := hRd.out.symm.trans hread
    clear hRd
    have d : (u.toList == s.toList) = true := toList_eq_true he
    clear hread hn he hu
    go_wp2_with (first
     | (go_at_call 68; with_reducible refine (kf _).mono ?_; rintro e w5 ⟨rfl, hb⟩; have hN5 := hN.below hb; have hR5 := hR.below hb; have hB5 := bthen hB hB.size hb; obtain ⟨m0, m1, m2⟩ := hN5.c3)
     | (go_at_call 36; with_reducible refine (ks _).mono ?_; rintro e w6 ⟨rfl, hb⟩; have hN6 := hN5.below hb; have hR6 := hR5.below hb; have hB6 := bthen hB5 hB5.size hb; obtain ⟨q0, q1, q2⟩ := hN6.c3; obtain ⟨r0, r1, r2⟩ := hR6.c3; have rl := hR6.lt; have rf := hR6.fz))
    obtain ⟨hw, hb6⟩ := set3 hR6 hB6 (Nat.le_refl _) (.string t) (.string i) (.string r)
    obtain ⟨y0, y1, y2⟩ := hw.c3
    refine bodyPost_ret (v := .tuple #[.agg #[.string t, .string i, .string r], .int .i64 0]) (by simp [results, Tryz.results30, go_sem, y0, y1, y2]; try rfl) rfl ?_
    exact ⟨rfl, hb6⟩
  · have hread : readN s = none := by
     unfold readN
     rw [hn.out, if_neg fun h => he (by rw [← hu]; exact h.2)]
    obtain rfl : R = none := hRd.out.symm.trans hread
    clear hRd
    have d : (u.toList == s.toList) = false := toList_ne he
    clear hread hn he hu
    go_wp2_with (first
     | (go_at_call 68; with_reducible refine (kf _).mono ?_; rintro e w5 ⟨rfl, hb⟩; have hN5 := hN.below hb; have hR5 := hR.below hb; have hB5 := bthen hB hB.size hb; obtain ⟨m0, m1, m2⟩ := hN5.c3)
     | (go_at_call 36; with_reducible refine (ks _).mono ?_; rintro e w6 ⟨rfl, hb⟩; have hR6 := hR5.below hb; have hB6 := bthen hB5 hB5.size hb; obtain ⟨r0, r1, r2⟩ := hR6.c3; have rl := hR6.lt; have rf := hR6.fz))
    obtain ⟨hw, hb6⟩ := set3 hR6 hB6 (Nat.le_refl _) (.string ⟨#[]⟩) (.string ⟨#[]⟩) (.string ⟨#[]⟩)
    obtain ⟨y0, y1, y2⟩ := hw.c3
    refine bodyPost_ret (v := .tuple #[.agg #[.string ⟨#[]⟩, .string ⟨#[]⟩, .string ⟨#[]⟩], .int .i64 11]) (by simp [results, Tryz.results30, go_sem, y0, y1, y2]; try rfl) rfl ?_
    exact ⟨rfl, hb6⟩
theorem text_any12 (a b c x y z : ByteArray) (ha : a.size ≤ 100000) (hb : b.size ≤ 100000) (hc : c.size ≤ 100000) (hx : x.size ≤ 100000) (hy : y.size ≤ 100000) (hz : z.size ≤ 100000) :
 Calls Tryz.prog 38 #[.agg #[.string a, .string b, .string c, .string x, .string y, .string z]] w fun e w' => e = .returned (.string (textT ((a, b, c), (x, y, z)))) ∧ Below w.heap.size w w' := by
 have hk := Bk.new w #[.string a, .string b, .string c, .string x, .string y, .string z] 71
 have hB := bnew w (.cells #[.string a, .string b, .string c, .string x, .string y, .string z] 71)
 have k1 : ∀ W : World, _ := fun W => show_any12 (w := W) a b c ha hb hc
 have k2 : ∀ W : World, _ := fun W => show_any12 (w := W) x y z hx hy hz
 unfold textT
 dsimp only
 have z1 : (showN (a, b, c)).size ≤ 400000 := by unfold showN objN; split <;> simp only [size_app, sOne_size] <;> omega
 have z2 : (showN (x, y, z)).size ≤ 400000 := by unfold showN objN; split <;> simp only [size_app, sOne_size] <;> omega
 generalize showN (a, b, c) = u at *
 generalize showN (x, y, z) = v at *
 have n1 : ¬ 9223372036854775807 < u.size + 1 := by omega
 have n2 : ¬ 9223372036854775807 < u.size + 1 + v.size := by omega
 go_enter Tryz.func38, Tryz.ntmps38
 go_upto_region 1 with (fail)
 generalize w.alloc (.cells #[.string a, .string b, .string c, .string x, .string y, .string z] 71) = w1 at *
 have hS : ∀ W, Below w1.heap.size w1 W → (W.cell? ⟨w.heap.size, 0, none⟩ = some (.string a) ∧ W.cell? ⟨w.heap.size, 1, none⟩ = some (.string b) ∧ W.cell? ⟨w.heap.size, 2, none⟩ = some (.string c) ∧ W.cell? ⟨w.heap.size, 3, none⟩ = some (.string x) ∧ W.cell? ⟨w.heap.size, 4, none⟩ = some (.string y) ∧ W.cell? ⟨w.heap.size, 5, none⟩ = some (.string z) ∧ w.heap.size < W.heap.size ∧ Below w1.heap.size w1 W) := fun W h => by
  have q := hk.below h
  obtain ⟨q0, q1, q2, q3, q4, q5⟩ := q.c6
  exact ⟨q0, q1, q2, q3, q4, q5, q.lt, h⟩
 obtain ⟨c0, c1, c2, c3, c4, c5⟩ := hk.c6
 have lk := hk.lt
 go_region_held3 (fun W => W.cell? ⟨w.heap.size, 0, none⟩ = some (.string a) ∧ W.cell? ⟨w.heap.size, 1, none⟩ = some (.string b) ∧ W.cell? ⟨w.heap.size, 2, none⟩ = some (.string c) ∧ W.cell? ⟨w.heap.size, 3, none⟩ = some (.string x) ∧ W.cell? ⟨w.heap.size, 4, none⟩ = some (.string y) ∧ W.cell? ⟨w.heap.size, 5, none⟩ = some (.string z) ∧ w.heap.size < W.heap.size ∧ Below w1.heap.size w1 W)
  (first | assumption | exact hS _ (Below.refl _ _).drew | exact hS _ ((Below.refl _ _).drew.trans hb1) | exact hS _ (((Below.refl _ _).drew.trans hb1).trans (hb2.mono hb1.size)) | fail)
  (first | (go_at_call 36; with_reducible refine (k1 _).mono ?_; rintro e w2 ⟨rfl, hb1⟩) | (go_at_call 36; with_reducible refine (k2 _).mono ?_; rintro e w3 ⟨rfl, hb2⟩) | fail)
 go_wp2_with fail
 go_ret
 exact ⟨rfl, bthen hB hB.size (((Below.refl _ _).drew.trans hb1).trans (hb2.mono hb1.size))⟩
end
end Go.Proofs.YtahegpfdbgbioaaGreat
namespace Go.Proofs.YtahegpfdbgbioaaGreat
inductive Ex where
 | this : Ex
 | same (n : ByteArray) : Ex
 | via (n m : ByteArray) : Ex
 | bin (k : Nat) (a b : Ex) : Ex
def opK (k : Nat) : OpP := (k, ⟨#[]⟩, ⟨#[]⟩)
def Ex.ops : Ex → List OpP
 | .this => [(1, ⟨#[]⟩, ⟨#[]⟩)]
 | .same n => [(2, n, ⟨#[]⟩)]
 | .via n m => [(3, n, m)]
 | .bin k a b => a.ops ++ b.ops ++ [opK k]
def Ex.sg : Ex → Bool
 | .bin _ _ _ => true
 | _ => false
def sgnS (k : Nat) : ByteArray := if k = 4 then ⟨#[32, 124, 32]⟩ else if k = 5 then ⟨#[32, 38, 32]⟩ else ⟨#[32, 45, 32]⟩
def parS (s : Bool) (x : ByteArray) : ByteArray := if s = true then ⟨#[40]⟩ ++ x ++ ⟨#[41]⟩ else x
def Ex.text : Ex → ByteArray
 | .this => sThis
 | .same n => n
 | .via n m => n ++ ⟨#[46]⟩ ++ m
 | .bin k a b => a.text ++ sgnS k ++ parS b.sg b.text
def Ex.good : Ex → Prop
 | .bin k a b => (k = 4 ∨ k = 5 ∨ k = 6) ∧ a.good ∧ b.good
 | _ => True
abbrev Gp := List ByteArray × Bool
def catL : List ByteArray → ByteArray
 | [] => ⟨#[]⟩
 | x :: r => x ++ catL r
theorem catL_app : ∀ a b : List ByteArray, catL (a ++ b) = catL a ++ catL b
 | [], b => (nil_app' _).symm
 | x :: r, b => by
  show x ++ catL (r ++ b) = x ++ catL r ++ catL b
  rw [catL_app r b, app_assoc]
def flatG (gs : List Gp) : List ByteArray := gs.flatMap fun x => ⟨#[]⟩ :: x.1
def putG (x : ByteArray) (gs : List Gp) : List Gp := gs ++ [([x], false)]
def mergeG (c : ByteArray) (a b : Gp) : Gp := (a.1 ++ (if b.2 = true then c ++ ⟨#[40]⟩ else c) :: b.1 ++ (if b.2 = true then [⟨#[41]⟩] else []), true)
def joinG (c : ByteArray) : List Gp → List Gp
 | [] => []
 | [a] => [a]
 | [a, b] => [mergeG c a b]
 | a :: b :: d :: r => a :: joinG c (b :: d :: r)
theorem joinG_two (c : ByteArray) (a b : Gp) : ∀ l : List Gp, joinG c (l ++ [a, b]) = l ++ [mergeG c a b]
 | [] => rfl
 | [x] => rfl
 | x :: y :: l => by
  have h := joinG_two c a b (y :: l)
  cases l with
  | nil => rfl
  | cons z l => show x :: joinG c (y :: z :: (l ++ [a, b])) = _; rw [show y :: z :: (l ++ [a, b]) = y :: z :: l ++ [a, b] from rfl, h]; rfl
def textG (o : OpP) : ByteArray := if o.1 = 1 then sThis else if o.1 = 2 then o.2.1 else o.2.1 ++ ⟨#[46]⟩ ++ o.2.2
def stepG (gs : List Gp) (o : OpP) : List Gp :=
 if o.1 = 1 ∨ o.1 = 2 ∨ o.1 = 3 then putG (textG o) gs else if o.1 = 4 ∨ o.1 = 5 ∨ o.1 = 6 then joinG (sgnS o.1) gs else gs
def foldG (gs : List Gp) (l : List OpP) : List Gp := l.foldl stepG gs
def rewS (l : List OpP) : ByteArray := catL (flatG (foldG [] l))
def NmW (n : ByteArray) : Prop := nameS n = true ∧ keyB n = false
def Ex.nm : Ex → Prop
 | .this => True
 | .same n => NmW n
 | .via n m => NmW n ∧ NmW m
 | .bin _ a b => a.nm ∧ b.nm
def Ex.deep : Ex → Nat
 | .bin _ a b => max a.deep (if b.sg = true then b.deep + 1 else 0)
 | _ => 0
def Ex.pd (t : Ex) : Nat := if t.sg = true then t.deep + 1 else 0
theorem Ex.deep_le_pd (t : Ex) : t.deep ≤ t.pd := by
 cases t with
 | bin k a b => exact Nat.le_succ _
 | _ => exact Nat.zero_le _
def WdN (l : List Tk) : Prop := ∀ t ∈ l, t.1 = 1 → nameS t.2.1 = true
theorem WdN.tail {l : List Tk} (h : WdN l) : WdN l.tail := fun t ht => h t (List.mem_of_mem_tail ht)
theorem WdN.name {l r : List Tk} {n : ByteArray} (h : WdN l) (e : nameT l = .ok (n, r)) : NmW n ∧ WdN r := by
 unfold nameT at e
 split at e
 · rename_i hc
   cases e
   refine ⟨⟨?_, hc.2⟩, h.tail⟩
   cases l with
   | nil => exact absurd hc.1 (by show ¬ (3 = 1); decide)
   | cons a t => exact h a List.mem_cons_self hc.1
 · cases e
theorem WdN.need {l r : List Tk} {s : ByteArray} {u : Unit} (h : WdN l) (e : needT s l = .ok (u, r)) : WdN r := by
 unfold needT at e
 split at e
 · cases e; exact h.tail
 · cases e
def TreeO (d : Nat) (o : List OpP) : Prop := ∃ t : Ex, o = t.ops ∧ t.good ∧ t.nm ∧ t.deep + d ≤ 8
def PartO (d : Nat) (o : List OpP) : Prop := ∃ t : Ex, o = t.ops ∧ t.good ∧ t.nm ∧ t.pd + d ≤ 8
theorem PartO.tree {d : Nat} {o : List OpP} (h : PartO d o) : TreeO d o := by
 obtain ⟨t, h1, h2, h3, h4⟩ := h
 exact ⟨t, h1, h2, h3, by have := t.deep_le_pd; omega⟩
theorem opT_kind {l : List Tk} (h : ¬ opT l = 0) : opT l = 4 ∨ opT l = 5 ∨ opT l = 6 := by
 unfold opT at h ⊢
 split
 · exact .inl rfl
 · split
   · exact .inr (.inl rfl)
   · split
     · exact .inr (.inr rfl)
     · rename_i h1 h2 h3
       rw [if_neg h1, if_neg h2, if_neg h3] at h
       exact absurd rfl h
theorem tree_parts : ∀ f : Nat, (∀ d l o r, d ≤ 8 → WdN l → partF f d l = .ok (o, r) → PartO d o ∧ WdN r) ∧ (∀ d acc l o r, d ≤ 8 → WdN l → TreeO d acc → moreF f d acc l = .ok (o, r) → TreeO d o ∧ WdN r)
 | 0 => ⟨fun d l o r _ _ h => (by unfold partF at h; cases h), fun d acc l o r _ _ _ h => (by unfold moreF at h; cases h)⟩
 | f + 1 => by
  obtain ⟨ih1, ih2⟩ := tree_parts f
  constructor
  · intro d l o r hd hw h
    unfold partF at h
    split at h
    · cases h
      exact ⟨⟨.this, rfl, trivial, trivial, by show 0 + d ≤ 8; omega⟩, hw.tail⟩
    · split at h
      · split at h
        · cases h
        · obtain ⟨a, m, e1, h⟩ := andT_inv h
          obtain ⟨g1, w1⟩ := ih1 _ _ _ _ (by omega) hw.tail e1
          obtain ⟨a2, m2, e2, h⟩ := andT_inv h
          obtain ⟨g2, w2⟩ := ih2 _ _ _ _ _ (by omega) w1 g1.tree e2
          obtain ⟨a3, m3, e3, h⟩ := andT_inv h
          have w3 := w2.need e3
          cases h
          obtain ⟨t, h1, h2, h3, h4⟩ := g2
          refine ⟨⟨t, h1, h2, h3, ?_⟩, w3⟩
          unfold Ex.pd
          split <;> omega
      · obtain ⟨a, m, e1, h⟩ := andT_inv h
        obtain ⟨n1, w1⟩ := hw.name e1
        split at h
        · obtain ⟨a2, m2, e2, h⟩ := andT_inv h
          obtain ⟨n2, w2⟩ := w1.tail.name e2
          cases h
          exact ⟨⟨.via a a2, rfl, trivial, ⟨n1, n2⟩, by show 0 + d ≤ 8; omega⟩, w2⟩
        · cases h
          exact ⟨⟨.same a, rfl, trivial, n1, by show 0 + d ≤ 8; omega⟩, w1⟩
  · intro d acc l o r hd hw ha h
    unfold moreF at h
    split at h
    · cases h
      exact ⟨ha, hw⟩
    · rename_i hc
      obtain ⟨a, m, e1, h⟩ := andT_inv h
      obtain ⟨g1, w1⟩ := ih1 _ _ _ _ hd hw.tail e1
      refine ih2 _ _ _ _ _ hd w1 ?_ h
      obtain ⟨t1, h1, h2, h3, h4⟩ := ha
      obtain ⟨t2, k1, k2, k3, k4⟩ := g1
      refine ⟨.bin (opT l) t1 t2, ?_, ⟨opT_kind hc, h2, k2⟩, ⟨h3, k3⟩, ?_⟩
      · rw [h1, k1]; rfl
      · show max t1.deep t2.pd + d ≤ 8
        omega
def SubG (s : SubP) : Prop := NmW s.1 ∧ (s.2 = ⟨#[]⟩ ∨ NmW s.2)
theorem good_who : ∀ (f : Nat) (acc : List SubP) (l : List Tk) (o : List SubP) (r : List Tk), WdN l → (∀ s ∈ acc, SubG s) → whoF f acc l = .ok (o, r) → (∀ s ∈ o, SubG s) ∧ WdN r
 | 0, acc, l, o, r, _, _, h => by unfold whoF at h; cases h
 | f + 1, acc, l, o, r, hw, ha, h => by
  unfold whoF at h
  obtain ⟨a, m, e1, h⟩ := andT_inv h
  obtain ⟨n1, w1⟩ := hw.name e1
  obtain ⟨a2, m2, e2, h⟩ := andT_inv h
  have h2 : (a2 = ⟨#[]⟩ ∨ NmW a2) ∧ WdN m2 := by
   split at e2
   · obtain ⟨n2, w2⟩ := w1.tail.name e2
     exact ⟨.inr n2, w2⟩
   · cases e2
     exact ⟨.inl rfl, w1⟩
  have hacc : ∀ s ∈ acc ++ [(a, a2)], SubG s := fun s hs => by
   rcases List.mem_append.1 hs with hs | hs
   · exact ha s hs
   · rw [List.mem_singleton.1 hs]; exact ⟨n1, h2.1⟩
  by_cases hc : isT (sg 44) m2 = true
  · rw [if_pos hc] at h
    exact good_who f _ _ _ _ h2.2.tail hacc h
  · rw [if_neg hc] at h
    cases h
    exact ⟨hacc, h2.2⟩
structure RelG (x : RelP) : Prop where
 name : NmW x.name
 view : NmW x.view
 edit : NmW x.edit
 check : NmW x.check
 subs : ∀ s ∈ x.subs, SubG s
 ops : TreeO 0 x.ops
theorem good_rel {l r : List Tk} {x : RelP} (hw : WdN l) (h : relT l = .ok (x, r)) : RelG x ∧ WdN r := by
 unfold relT at h
 obtain ⟨_, _, e, h⟩ := andT_inv h
 obtain ⟨n1, hw⟩ := hw.name e
 obtain ⟨_, _, e, h⟩ := andT_inv h
 replace hw := hw.need e
 obtain ⟨_, _, e, h⟩ := andT_inv h
 obtain ⟨n2, hw⟩ := hw.name e
 obtain ⟨_, _, e, h⟩ := andT_inv h
 replace hw := hw.need e
 obtain ⟨_, _, e, h⟩ := andT_inv h
 obtain ⟨n3, hw⟩ := hw.name e
 obtain ⟨_, _, e, h⟩ := andT_inv h
 replace hw := hw.need e
 obtain ⟨_, _, e, h⟩ := andT_inv h
 obtain ⟨n4, hw⟩ := hw.name e
 obtain ⟨_, _, e, h⟩ := andT_inv h
 replace hw := hw.need e
 obtain ⟨_, _, e, h⟩ := andT_inv h
 replace hw := hw.need e
 obtain ⟨subs, m, e, h⟩ := andT_inv h
 have hs : (∀ s ∈ subs, SubG s) ∧ WdN m := by
  split at e
  · cases e
    exact ⟨fun s hs => (by cases hs), hw⟩
  · exact good_who _ _ _ _ _ hw (fun s hs => by cases hs) e
 obtain ⟨ops, m2, e, h⟩ := andT_inv h
 have ho : TreeO 0 ops ∧ WdN m2 := by
  split at e
  · unfold rewT at e
    obtain ⟨a, _, e1, e⟩ := andT_inv e
    obtain ⟨g1, w1⟩ := (tree_parts _).1 _ _ _ _ (Nat.zero_le _) hs.2.tail e1
    exact (tree_parts _).2 _ _ _ _ _ (Nat.zero_le _) w1 g1.tree e
  · cases e
    exact ⟨⟨.this, rfl, trivial, trivial, by decide⟩, hs.2⟩
 obtain ⟨_, _, e, h⟩ := andT_inv h
 replace hw := ho.2.need e
 cases h
 exact ⟨⟨n1, n2, n3, n4, hs.1, ho.1⟩, hw⟩
theorem good_rels : ∀ (n : Nat) (acc : List RelP) (l : List Tk) (o : List RelP) (r : List Tk), l.length ≤ n → WdN l → (∀ x ∈ acc, RelG x) → relsT acc l = .ok (o, r) → (∀ x ∈ o, RelG x) ∧ WdN r := by
 intro n
 induction n with
 | zero =>
  intro acc l o r hn hw ha h
  rw [relsT_eq] at h
  by_cases hc : isT sRel l = true
  · have := isT_len sRel_size hc; omega
  · rw [if_neg hc] at h
    cases h
    exact ⟨ha, hw⟩
 | succ n ih =>
  intro acc l o r hn hw ha h
  rw [relsT_eq] at h
  by_cases hc : isT sRel l = true
  · rw [if_pos hc] at h
    have h1 := isT_len sRel_size hc
    obtain ⟨x, m, e, h⟩ := andT_inv h
    obtain ⟨g, w⟩ := good_rel hw.tail e
    have hl := (few_rel e).2
    exact ih _ _ _ _ (by omega) w (fun y hy => by
     rcases List.mem_append.1 hy with hy | hy
     · exact ha y hy
     · rw [List.mem_singleton.1 hy]; exact g) h
  · rw [if_neg hc] at h
    cases h
    exact ⟨ha, hw⟩
structure TypG (t : TypP) : Prop where
 name : NmW t.name
 rels : ∀ x ∈ t.rels, RelG x
theorem good_types : ∀ (n : Nat) (acc : List TypP) (l : List Tk) (o : List TypP) (r : List Tk), l.length ≤ n → WdN l → (∀ t ∈ acc, TypG t) → typesT acc l = .ok (o, r) → (∀ t ∈ o, TypG t) := by
 intro n
 induction n with
 | zero =>
  intro acc l o r hn hw ha h
  rw [typesT_eq] at h
  by_cases hc : isT sType l = true
  · have := isT_len sType_size hc; omega
  · rw [if_neg hc] at h
    cases h
    exact ha
 | succ n ih =>
  intro acc l o r hn hw ha h
  rw [typesT_eq] at h
  by_cases hc : isT sType l = true
  · rw [if_pos hc] at h
    have h1 := isT_len sType_size hc
    obtain ⟨_, _, e, h⟩ := andT_inv h
    have l1 := nameT_len e
    obtain ⟨n1, hw⟩ := hw.tail.name e
    obtain ⟨_, _, e, h⟩ := andT_inv h
    have l2 := needT_len (sg_size _) e
    replace hw := hw.need e
    obtain ⟨rs, m, e, h⟩ := andT_inv h
    obtain ⟨g, hw⟩ := good_rels _ _ _ _ _ (Nat.le_refl _) hw (fun x hx => by cases hx) e
    have l3 := (few_rels _ _ _ _ _ _ (Nat.le_refl _) (Nat.le_refl _) (fun x hx => by cases hx) e).2
    simp only [List.length_nil] at l3
    obtain ⟨_, _, e, h⟩ := andT_inv h
    have l4 := needT_len (sg_size _) e
    replace hw := hw.need e
    exact ih _ _ _ _ (by omega) hw (fun t ht => by
     rcases List.mem_append.1 ht with ht | ht
     · exact ha t ht
     · rw [List.mem_singleton.1 ht]; exact ⟨n1, g⟩) h
  · rw [if_neg hc] at h
    cases h
    exact ha
theorem parse_goodT (s : ByteArray) : ∀ t ∈ (parseS s).1, TypG t := by
 unfold parseS
 split
 · rename_i h0
   have hw : WdN (allS s).1 := by
    obtain ⟨v, e0, eA⟩ := all_zero (by
     rcases Nat.lt_or_ge 2048 s.size with h | h
     · unfold allS at h0
       rw [if_pos h] at h0
       exact absurd h0 (by decide)
     · exact h) h0
    obtain ⟨init, e, hi⟩ := scan_init _ s 0 (Nat.le_refl _) e0
    rw [eA, e]
    intro t ht h1
    rcases List.mem_append.1 ht with ht | ht
    · rcases hi t ht with ⟨_, h2⟩ | ⟨h2, _⟩
      · exact h2
      · rw [h2] at h1; cases h1
    · rw [List.mem_singleton.1 ht] at h1; cases h1
   rw [schemaF_eq]
   cases hT : typesT [] (allS s).1 with
   | error e => exact fun t ht => by cases ht
   | ok q =>
    have g := good_types _ _ _ _ _ (Nat.le_refl _) hw (fun t ht => by cases ht) (show typesT [] (allS s).1 = .ok (q.1, q.2) from hT)
    rw [andT_ok]
    split
    · exact g
    · exact fun t ht => by cases ht
 · exact fun t ht => by cases ht
end Go.Proofs.YtahegpfdbgbioaaGreat
