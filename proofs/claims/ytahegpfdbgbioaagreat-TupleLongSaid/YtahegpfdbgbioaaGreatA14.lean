import Derived.Test.YtahegpfdbgbioaaGreatA13
set_option maxRecDepth 100000
set_option maxHeartbeats 4000000
namespace Go.Proofs.YtahegpfdbgbioaaGreat
open Go.RowKit
section
variable {w : World}
theorem names_any12 (a b c x y z : ByteArray) :
 Calls Tryz.prog 72 #[.agg #[.string a, .string b, .string c, .string x, .string y, .string z]] w fun e w' => e = .returned (.agg #[.string a, .string b, .string c, .string x, .string y, .string z]) ∧ Below w.heap.size w w' := by
 have hb0 := Bk.new w #[.string a, .string b, .string c, .string x, .string y, .string z] 71
 have hz0 := Bk.new2 w (.cells #[.string a, .string b, .string c, .string x, .string y, .string z] 71) #[.string ⟨#[]⟩, .string ⟨#[]⟩, .string ⟨#[]⟩, .string ⟨#[]⟩, .string ⟨#[]⟩, .string ⟨#[]⟩] 133
 have hB0 : Below w.heap.size w ((w.alloc (.cells #[.string a, .string b, .string c, .string x, .string y, .string z] 71)).alloc (.cells #[.string ⟨#[]⟩, .string ⟨#[]⟩, .string ⟨#[]⟩, .string ⟨#[]⟩, .string ⟨#[]⟩, .string ⟨#[]⟩] 133)) := ((Below.refl _ w).alloc (Nat.le_refl _) _).alloc (size_alloc (Nat.le_refl _)) _
 have hT := hb0.alloc (.cells #[.string ⟨#[]⟩, .string ⟨#[]⟩, .string ⟨#[]⟩, .string ⟨#[]⟩, .string ⟨#[]⟩, .string ⟨#[]⟩] 133)
 go_enter Tryz.func72, Tryz.ntmps72
 go_upto_region 1 with (fail)
 generalize (w.alloc (.cells #[.string a, .string b, .string c, .string x, .string y, .string z] 71)).alloc (.cells #[.string ⟨#[]⟩, .string ⟨#[]⟩, .string ⟨#[]⟩, .string ⟨#[]⟩, .string ⟨#[]⟩, .string ⟨#[]⟩] 133) = w0 at *
 obtain ⟨t0, t1, t2, t3, t4, t5⟩ := hT.c6
 have tl := hT.lt
 obtain ⟨z0, z1, z2, z3, z4, z5⟩ := hz0.c6
 have zl := hz0.lt
 have zf := hz0.fz
 go_wp2_with fail
 obtain ⟨hw, hb⟩ := set6 hz0 hB0 (Nat.le_succ _) (.string a) (.string b) (.string c) (.string x) (.string y) (.string z)
 obtain ⟨y0, y1, y2, y3, y4, y5⟩ := hw.c6
 refine bodyPost_ret (v := .agg #[.string a, .string b, .string c, .string x, .string y, .string z]) (by simp [results, Tryz.results72, go_sem, y0, y1, y2, y3, y4, y5]; try rfl) rfl ?_
 exact ⟨rfl, hb⟩
theorem tupleOf_any12 (a b c x y z : ByteArray) :
 Calls Tryz.prog 71 #[.agg #[.string a, .string b, .string c, .string x, .string y, .string z]] w fun e w' => e = .returned (.agg #[.string a, .string b, .string c, .string x, .string y, .string z]) ∧ Below w.heap.size w w' := by
 have hb0 := Bk.new w #[.string a, .string b, .string c, .string x, .string y, .string z] 133
 have hz0 := Bk.new2 w (.cells #[.string a, .string b, .string c, .string x, .string y, .string z] 133) #[.string ⟨#[]⟩, .string ⟨#[]⟩, .string ⟨#[]⟩, .string ⟨#[]⟩, .string ⟨#[]⟩, .string ⟨#[]⟩] 71
 have hB0 : Below w.heap.size w ((w.alloc (.cells #[.string a, .string b, .string c, .string x, .string y, .string z] 133)).alloc (.cells #[.string ⟨#[]⟩, .string ⟨#[]⟩, .string ⟨#[]⟩, .string ⟨#[]⟩, .string ⟨#[]⟩, .string ⟨#[]⟩] 71)) := ((Below.refl _ w).alloc (Nat.le_refl _) _).alloc (size_alloc (Nat.le_refl _)) _
 have hT := hb0.alloc (.cells #[.string ⟨#[]⟩, .string ⟨#[]⟩, .string ⟨#[]⟩, .string ⟨#[]⟩, .string ⟨#[]⟩, .string ⟨#[]⟩] 71)
 go_enter Tryz.func71, Tryz.ntmps71
 go_upto_region 1 with (fail)
 generalize (w.alloc (.cells #[.string a, .string b, .string c, .string x, .string y, .string z] 133)).alloc (.cells #[.string ⟨#[]⟩, .string ⟨#[]⟩, .string ⟨#[]⟩, .string ⟨#[]⟩, .string ⟨#[]⟩, .string ⟨#[]⟩] 71) = w0 at *
 obtain ⟨t0, t1, t2, t3, t4, t5⟩ := hT.c6
 have tl := hT.lt
 obtain ⟨z0, z1, z2, z3, z4, z5⟩ := hz0.c6
 have zl := hz0.lt
 have zf := hz0.fz
 go_wp2_with fail
 obtain ⟨hw, hb⟩ := set6 hz0 hB0 (Nat.le_succ _) (.string a) (.string b) (.string c) (.string x) (.string y) (.string z)
 obtain ⟨y0, y1, y2, y3, y4, y5⟩ := hw.c6
 refine bodyPost_ret (v := .agg #[.string a, .string b, .string c, .string x, .string y, .string z]) (by simp [results, Tryz.results71, go_sem, y0, y1, y2, y3, y4, y5]; try rfl) rfl ?_
 exact ⟨rfl, hb⟩
end
theorem join_key : ∀ (r : List ByteArray) (x : ByteArray), x ++ tailJ ⟨#[0]⟩ r = keyL (x :: r)
 | [], x => by
  show x ++ ⟨#[]⟩ = x
  exact ByteArray.append_empty
 | y :: r, x => by
  show x ++ ((⟨#[0]⟩ : ByteArray) ++ y ++ tailJ ⟨#[0]⟩ r) = x ++ sOne 0 ++ keyL (y :: r)
  rw [← join_key r y, show sOne 0 = ⟨#[0]⟩ from rfl]
  simp only [ByteArray.append_assoc]
theorem key_size (a b c x y z : ByteArray) : (keyT ((a, b, c), (x, y, z))).size = a.size + 1 + (b.size + 1 + (c.size + 1 + (x.size + 1 + (y.size + 1 + z.size)))) := by
 show (a ++ sOne 0 ++ (b ++ sOne 0 ++ (c ++ sOne 0 ++ (x ++ sOne 0 ++ (y ++ sOne 0 ++ z))))).size = _
 simp only [size_app, sOne_size]
section
variable {w : World}
theorem join6 {g : Nat} {t : TypeId} {a b c x y z : ByteArray} (h : Bk w g #[.string a, .string b, .string c, .string x, .string y, .string z] t) (ha : a.size ≤ 100000) (hb : b.size ≤ 100000) (hc : c.size ≤ 100000) (hx : x.size ≤ 100000) (hy : y.size ≤ 100000) (hz : z.size ≤ 100000) :
 Calls Tryz.prog 73 #[.slice (some ⟨g, 0, none⟩) 6 6, .string ⟨#[0]⟩] w fun e w' => e = .returned (.string (keyT ((a, b, c), (x, y, z)))) ∧ Below w.heap.size w w' := by
 have hj : joinJ ⟨#[0]⟩ [a, b, c, x, y, z] = keyT ((a, b, c), (x, y, z)) := join_key _ _
 have hk := key_size a b c x y z
 refine (join_some g 0 6 [a, b, c, x, y, z] ⟨#[0]⟩ w (fun j u hj => ?_) h.lt (by simp) (by simp) ?_).mono fun e w' ⟨h1, h2⟩ => ⟨?_, h2⟩
 · rw [Nat.zero_add, h.cell j]
   rcases j with _ | _ | _ | _ | _ | _ | j
   all_goals simp at hj ⊢
   all_goals exact hj
 · rw [joinJ_eq, Array.length_toList, hj]
   show (keyT ((a, b, c), (x, y, z))).size ≤ _
   omega
 · rw [h1, joinJ_eq, hj]
theorem key_any12 (a b c x y z : ByteArray) (ha : a.size ≤ 100000) (hb : b.size ≤ 100000) (hc : c.size ≤ 100000) (hx : x.size ≤ 100000) (hy : y.size ≤ 100000) (hz : z.size ≤ 100000) :
 Calls Tryz.prog 40 #[.agg #[.string a, .string b, .string c, .string x, .string y, .string z]] w fun e w' => e = .returned (.string (keyT ((a, b, c), (x, y, z)))) ∧ Below w.heap.size w w' := by
 obtain ⟨K, hK⟩ : ∃ K, Hid (keyT ((a, b, c), (x, y, z)) = K) := ⟨_, Lib.hid rfl⟩
 rw [hK.out]
 have hk := Bk.new w #[.string a, .string b, .string c, .string x, .string y, .string z] 71
 have hB := bnew w (.cells #[.string a, .string b, .string c, .string x, .string y, .string z] 71)
 obtain ⟨c0, c1, c2, c3, c4, c5⟩ := hk.c6
 have lk := hk.lt
 go_enter Tryz.func40, Tryz.ntmps40
 go_upto_region 1 with (fail)
 generalize w.alloc (.cells #[.string a, .string b, .string c, .string x, .string y, .string z] 71) = w1 at *
 have k1 := names_any12 (w := w1) a b c x y z
 go_upto_region 2 with (go_at_call 72; refine k1.mono ?_; rintro e w2 ⟨rfl, hb1⟩)
 have hN := Bk.new w2 #[.string a, .string b, .string c, .string x, .string y, .string z] 133
 replace hB := (bthen hB hB.size hb1).alloc (bthen hB hB.size hb1).size (.cells #[.string a, .string b, .string c, .string x, .string y, .string z] 133)
 clear hb1 k1 c0 c1 c2 c3 c4 c5
 generalize w2.alloc (.cells #[.string a, .string b, .string c, .string x, .string y, .string z] 133) = w3 at *
 generalize w2.heap.size = g at *
 have kj := join6 hN ha hb hc hx hy hz
 rw [hK.out] at kj
 go_wp2_with (go_at_call 73; refine kj.mono ?_; rintro e w4 ⟨rfl, hb2⟩)
 go_ret
 exact ⟨rfl, bthen hB hB.size hb2⟩
end
theorem rest_succ : ∀ (i : Nat) (s : ByteArray), restB (i + 1) s = (cutC (restB i s) 0).2
 | 0, _ => rfl
 | i + 1, s => rest_succ i (cutC s 0).2
theorem cutL_at : ∀ (n i : Nat) (s : ByteArray), i < n → (cutL n s)[i]? = some (cutC (restB i s) 0).1
 | 0, _, _, h => absurd h (Nat.not_lt_zero _)
 | _ + 1, 0, _, _ => rfl
 | n + 1, i + 1, s, h => cutL_at n i (cutC s 0).2 (by omega)
theorem rest_size12 : ∀ (i : Nat) (s : ByteArray), (restB i s).size ≤ s.size
 | 0, _ => Nat.le_refl _
 | i + 1, s => Nat.le_trans (rest_size12 i _) (cutC_size2 s 0)
theorem name_size12 (i : Nat) (s : ByteArray) : (cutC (restB i s) 0).1.size ≤ s.size := by
 have h1 := cutC_size (restB i s) 0
 have h2 := (fstC_spec (restB i s) 0).1
 have h3 := rest_size12 i s
 omega
def nmB (s : ByteArray) (i : Nat) : ByteArray := (cutC (restB i s) 0).1
def cellsF (s : ByteArray) (i : Nat) : Array Value := #[.string (if 0 < i then nmB s 0 else ⟨#[]⟩), .string (if 1 < i then nmB s 1 else ⟨#[]⟩), .string (if 2 < i then nmB s 2 else ⟨#[]⟩), .string (if 3 < i then nmB s 3 else ⟨#[]⟩), .string (if 4 < i then nmB s 4 else ⟨#[]⟩), .string (if 5 < i then nmB s 5 else ⟨#[]⟩)]
theorem cellsF_set (s : ByteArray) {i : Nat} (h : i < 6) : (cellsF s i).setIfInBounds i (.string (nmB s i)) = cellsF s (i + 1) := by
 obtain rfl | rfl | rfl | rfl | rfl | rfl : i = 0 ∨ i = 1 ∨ i = 2 ∨ i = 3 ∨ i = 4 ∨ i = 5 := by omega
 all_goals rfl
theorem cellsF_at (s : ByteArray) {i : Nat} (h : i < 6) : ∃ v, (cellsF s i)[i]? = some v := by
 obtain rfl | rfl | rfl | rfl | rfl | rfl : i = 0 ∨ i = 1 ∨ i = 2 ∨ i = 3 ∨ i = 4 ∨ i = 5 := by omega
 all_goals exact ⟨_, rfl⟩
section
variable {w : World}
theorem from_any12 (s : ByteArray) (hs : s.size ≤ 100000) :
 Calls Tryz.prog 34 #[.string s] w fun e w' => e = .returned (.tuple #[.agg #[.string (tupO (fromT s)).1.1, .string (tupO (fromT s)).1.2.1, .string (tupO (fromT s)).1.2.2, .string (tupO (fromT s)).2.1, .string (tupO (fromT s)).2.2.1, .string (tupO (fromT s)).2.2.2], .bool (fromT s).isSome]) ∧ Below w.heap.size w w' := by
 obtain ⟨R, hRd⟩ : ∃ R, Hid (fromT s = R) := ⟨_, Lib.hid rfl⟩
 rw [hRd.out]
 have hR := Bk.new w #[.string ⟨#[]⟩, .string ⟨#[]⟩, .string ⟨#[]⟩, .string ⟨#[]⟩, .string ⟨#[]⟩, .string ⟨#[]⟩] 71
 have hB := bnew w (.cells #[.string ⟨#[]⟩, .string ⟨#[]⟩, .string ⟨#[]⟩, .string ⟨#[]⟩, .string ⟨#[]⟩, .string ⟨#[]⟩] 71)
 go_enter Tryz.func34, Tryz.ntmps34
 go_upto_region 1 with (fail)
 generalize w.alloc (.cells #[.string ⟨#[]⟩, .string ⟨#[]⟩, .string ⟨#[]⟩, .string ⟨#[]⟩, .string ⟨#[]⟩, .string ⟨#[]⟩] 71) = w1 at *
 have hN : Bk _ w1.heap.size (cellsF s 0) 133 := Bk.new w1 #[.string ⟨#[]⟩, .string ⟨#[]⟩, .string ⟨#[]⟩, .string ⟨#[]⟩, .string ⟨#[]⟩, .string ⟨#[]⟩] 133
 go_upto_region 2 with (fail)
 have hgl := hR.lt
 replace hR := hR.alloc (.cells #[.string ⟨#[]⟩, .string ⟨#[]⟩, .string ⟨#[]⟩, .string ⟨#[]⟩, .string ⟨#[]⟩, .string ⟨#[]⟩] 133)
 replace hB := hB.alloc hB.size (.cells #[.string ⟨#[]⟩, .string ⟨#[]⟩, .string ⟨#[]⟩, .string ⟨#[]⟩, .string ⟨#[]⟩, .string ⟨#[]⟩] 133)
 generalize w1.alloc (.cells #[.string ⟨#[]⟩, .string ⟨#[]⟩, .string ⟨#[]⟩, .string ⟨#[]⟩, .string ⟨#[]⟩, .string ⟨#[]⟩] 133) = w2 at *
 generalize w1.heap.size = g at *
 go_wp2_with fail
 go_loopw [5, 9] (fun vr vi wx => ∃ i : Nat, vi = .int .i64 i ∧ i ≤ 6 ∧ vr = .string (restB i s) ∧ Bk wx g (cellsF s i) 133 ∧ Bk wx w.heap.size #[.string ⟨#[]⟩, .string ⟨#[]⟩, .string ⟨#[]⟩, .string ⟨#[]⟩, .string ⟨#[]⟩, .string ⟨#[]⟩] 71 ∧ Below w.heap.size w wx) (fun _ vi _ => 6 - (intOf vi).toNat)
 case atStart => exact ⟨0, rfl, by omega, rfl, hN, hR, hB⟩
 case round =>
  obtain ⟨i, rfl, hi, rfl, hN, hR, hB⟩ := hrel
  by_cases hil : i < 6
  · have hdi : (i : Int) < 6 := by omega
    have zr := rest_size12 i s
    have k1 := fun W => cut00 (restB i s) W (by simp only [maxLen]; omega)
    rw [← rest_succ i s] at k1
    change ∀ W, Calls _ _ _ W fun e w' => e = .returned (.tuple #[.string (nmB s i), _, _]) ∧ _ at k1
    have hst := cellsF_set s hil
    obtain ⟨v0, hv0⟩ := cellsF_at s hil
    generalize nmB s i = nm at *
    obtain ⟨rs, hrs⟩ : ∃ rs, Hid (restB (i + 1) s = rs) := ⟨_, Lib.hid rfl⟩
    rw [hrs.out] at k1
    generalize decide (fstC (restB i s) 0 < (restB i s).size) = g1 at k1
    go_upto_region 6 with (fail)
    go_upto_region 7 with (go_at_call 67; refine (k1 _).mono ?_; rintro e w5 ⟨rfl, hb⟩; have hN5 := hN.below hb; have hR5 := hR.below hb; have hB5 := bthen hB hB.size hb; have q0 : w5.cell? ⟨g, i, none⟩ = some v0 := (hN5.cell i).trans hv0; have q1 := hN5.fz i; have q2 := hN5.lt)
    have hN6 := hN5.set i (.string nm)
    rw [hst] at hN6
    have hR6 := hR5.other (a := ⟨g, i, none⟩) (by dsimp only; omega) (.string nm)
    have hB6 := hB5.setCell (p := ⟨g, i, none⟩) (Nat.le_of_lt hgl) (.string nm)
    go_wp2_with fail
    refine ⟨⟨i + 1, by go_num, by omega, by rw [hrs.out], hN6, hR6, hB6⟩, ?_⟩
    simp [intOf]; omega
  · obtain rfl : i = 6 := by omega
    have z0 : (nmB s 0).size ≤ s.size := name_size12 0 s
    have z1 : (nmB s 1).size ≤ s.size := name_size12 1 s
    have z2 : (nmB s 2).size ≤ s.size := name_size12 2 s
    have z3 : (nmB s 3).size ≤ s.size := name_size12 3 s
    have z4 : (nmB s 4).size ≤ s.size := name_size12 4 s
    have z5 : (nmB s 5).size ≤ s.size := name_size12 5 s
    have hN : Bk wr g #[.string (nmB s 0), .string (nmB s 1), .string (nmB s 2), .string (nmB s 3), .string (nmB s 4), .string (nmB s 5)] 133 := hN
    have hf : Hid (fromT s = if fmdT ((nmB s 0, nmB s 1, nmB s 2), (nmB s 3, nmB s 4, nmB s 5)) = true ∧ keyT ((nmB s 0, nmB s 1, nmB s 2), (nmB s 3, nmB s 4, nmB s 5)) = s then some ((nmB s 0, nmB s 1, nmB s 2), (nmB s 3, nmB s 4, nmB s 5)) else none) := Lib.hid rfl
    generalize nmB s 0 = a at *
    generalize nmB s 1 = b at *
    generalize nmB s 2 = c at *
    generalize nmB s 3 = x at *
    generalize nmB s 4 = y at *
    generalize nmB s 5 = z at *
    have k1 := tupleOf_any12 a b c x y z (w := wr)
    obtain ⟨t0, t1, t2, t3, t4, t5⟩ := hN.c6
    have tl := hN.lt
    go_upto_region 9 with (go_at_call 71; refine k1.mono ?_; rintro e w5 ⟨rfl, hb⟩)
    have hT := Bk.new w5 #[.string a, .string b, .string c, .string x, .string y, .string z] 71
    replace hR := (hR.below hb).alloc (.cells #[.string a, .string b, .string c, .string x, .string y, .string z] 71)
    replace hB := (bthen hB hB.size hb).alloc (bthen hB hB.size hb).size (.cells #[.string a, .string b, .string c, .string x, .string y, .string z] 71)
    clear hb k1 hN t0 t1 t2 t3 t4 t5 tl
    generalize w5.alloc (.cells #[.string a, .string b, .string c, .string x, .string y, .string z] 71) = w6 at *
    generalize w5.heap.size = gt at *
    obtain ⟨t0, t1, t2, t3, t4, t5⟩ := hT.c6
    have tl := hT.lt
    obtain ⟨p, hp⟩ : ∃ p, Hid (fmdT ((a, b, c), (x, y, z)) = p) := ⟨_, Lib.hid rfl⟩
    have kf := fun W => fmd_is hp.out (by omega) (by omega) (by omega) (by omega) (by omega) (by omega) W
    cases p with
    | false =>
     obtain rfl : R = none := by rw [← hRd.out, hf.out, if_neg fun h => by rw [hp.out] at h; cases h.1]
     clear hRd hf
     go_wp2_with (go_at_call 70; refine (kf _).mono ?_; rintro e w8 ⟨rfl, hb⟩; have hR3 := hR.below hb; have hB3 := bthen hB hB.size hb; obtain ⟨r0, r1, r2, r3, r4, r5⟩ := hR3.c6; have rl := hR3.lt; have rf := hR3.fz)
     obtain ⟨hw, hb6⟩ := set6 hR3 hB3 (Nat.le_refl _) (.string ⟨#[]⟩) (.string ⟨#[]⟩) (.string ⟨#[]⟩) (.string ⟨#[]⟩) (.string ⟨#[]⟩) (.string ⟨#[]⟩)
     obtain ⟨y0, y1, y2, y3, y4, y5⟩ := hw.c6
     refine bodyPost_ret (v := .tuple #[.agg #[.string ⟨#[]⟩, .string ⟨#[]⟩, .string ⟨#[]⟩, .string ⟨#[]⟩, .string ⟨#[]⟩, .string ⟨#[]⟩], .bool false]) (by simp [results, Tryz.results34, go_sem, y0, y1, y2, y3, y4, y5]; try rfl) rfl ?_
     exact ⟨rfl, hb6⟩
    | true =>
     have kk := fun W => key_any12 (w := W) a b c x y z (by omega) (by omega) (by omega) (by omega) (by omega) (by omega)
     obtain ⟨K, hK⟩ : ∃ K, Hid (keyT ((a, b, c), (x, y, z)) = K) := ⟨_, Lib.hid rfl⟩
     rw [hK.out] at kk
     by_cases he : K = s
     · obtain rfl : R = some ((a, b, c), (x, y, z)) := by rw [← hRd.out, hf.out, if_pos ⟨hp.out, by rw [hK.out, he]⟩]
       have d : (K.toList == s.toList) = true := toList_eq_true he
       clear hRd hf he
       go_wp2_with (first
        | (go_at_call 70; refine (kf _).mono ?_; rintro e w8 ⟨rfl, hb⟩; have hT8 := hT.below hb; have hR8 := hR.below hb; have hB8 := bthen hB hB.size hb; obtain ⟨s0, s1, s2, s3, s4, s5⟩ := hT8.c6)
        | (go_at_call 40; refine (kk _).mono ?_; rintro e w9 ⟨rfl, hb⟩; have hT9 := hT8.below hb; obtain ⟨u0, u1, u2, u3, u4, u5⟩ := hT9.c6; have hR3 := hR8.below hb; have hB3 := bthen hB8 hB8.size hb; obtain ⟨r0, r1, r2, r3, r4, r5⟩ := hR3.c6; have rl := hR3.lt; have rf := hR3.fz))
       obtain ⟨hw, hb6⟩ := set6 hR3 hB3 (Nat.le_refl _) (.string a) (.string b) (.string c) (.string x) (.string y) (.string z)
       obtain ⟨y0, y1, y2, y3, y4, y5⟩ := hw.c6
       refine bodyPost_ret (v := .tuple #[.agg #[.string a, .string b, .string c, .string x, .string y, .string z], .bool true]) (by simp [results, Tryz.results34, go_sem, y0, y1, y2, y3, y4, y5]; try rfl) rfl ?_
       exact ⟨rfl, hb6⟩
     · obtain rfl : R = none := by rw [← hRd.out, hf.out, if_neg fun h => he (by rw [← hK.out]; exact h.2)]
       have d : (K.toList == s.toList) = false := toList_ne he
       clear hRd hf he
       go_wp2_with (first
        | (go_at_call 70; refine (kf _).mono ?_; rintro e w8 ⟨rfl, hb⟩; have hT8 := hT.below hb; have hR8 := hR.below hb; have hB8 := bthen hB hB.size hb; obtain ⟨s0, s1, s2, s3, s4, s5⟩ := hT8.c6)
        | (go_at_call 40; refine (kk _).mono ?_; rintro e w9 ⟨rfl, hb⟩; have hR3 := hR8.below hb; have hB3 := bthen hB8 hB8.size hb; obtain ⟨r0, r1, r2, r3, r4, r5⟩ := hR3.c6; have rl := hR3.lt; have rf := hR3.fz))
       obtain ⟨hw, hb6⟩ := set6 hR3 hB3 (Nat.le_refl _) (.string ⟨#[]⟩) (.string ⟨#[]⟩) (.string ⟨#[]⟩) (.string ⟨#[]⟩) (.string ⟨#[]⟩) (.string ⟨#[]⟩)
       obtain ⟨y0, y1, y2, y3, y4, y5⟩ := hw.c6
       refine bodyPost_ret (v := .tuple #[.agg #[.string ⟨#[]⟩, .string ⟨#[]⟩, .string ⟨#[]⟩, .string ⟨#[]⟩, .string ⟨#[]⟩, .string ⟨#[]⟩], .bool false]) (by simp [results, Tryz.results34, go_sem, y0, y1, y2, y3, y4, y5]; try rfl) rfl ?_
       exact ⟨rfl, hb6⟩
end
end Go.Proofs.YtahegpfdbgbioaaGreat
namespace Go.Proofs.YtahegpfdbgbioaaGreat
open Go.RowKit
theorem roL_two12 {P : Program} {md : Region.Mode} {ops : Array Oper} {Q : Exit → Act → World → Prop} {S : World → Prop} {z : Nat} (i j : Nat) {oi oj : Oper} {n : Nat} {l : Array Bool} {a : Act} {w : World} (hi : ops[i]? = some oi) (hj : ops[j]? = some oj) (hr : Region.ready md ops l = [i, j])
 (h1 : ∀ K' : Act → World → Prop, (∀ a w, (i ≠ z → S w) → wpAnyL P md ops Q S z n (l.setIfInBounds i true) a w → K' a w) → if Region.wanted oi (yielded ops a.tmps) = true then Oper.wp P oi a w K' Q else K' (a.put oi.dst undef) w)
 (h2 : ∀ K' : Act → World → Prop, (∀ a w, (j ≠ z → S w) → wpAnyL P md ops Q S z n (l.setIfInBounds j true) a w → K' a w) → if Region.wanted oj (yielded ops a.tmps) = true then Oper.wp P oj a w K' Q else K' (a.put oj.dst undef) w) :
 wpAnyL P md ops Q S z (n + 1) l a w :=
 ⟨fun e => (by rw [hr] at e; cases e), fun k hk => by
  rw [hr] at hk
  simp at hk
  rcases hk with rfl | rfl
  · exact wpOp_step hi fun K' hK' => h1 K' fun a w s x => hK' a w ⟨s, x⟩
  · exact wpOp_step hj fun K' hK' => h2 K' fun a w s x => hK' a w ⟨s, x⟩⟩
theorem roL_three {P : Program} {md : Region.Mode} {ops : Array Oper} {Q : Exit → Act → World → Prop} {S : World → Prop} {z : Nat} (i j m : Nat) {oi oj om : Oper} {n : Nat} {l : Array Bool} {a : Act} {w : World} (hi : ops[i]? = some oi) (hj : ops[j]? = some oj) (hm : ops[m]? = some om) (hr : Region.ready md ops l = [i, j, m])
 (h1 : ∀ K' : Act → World → Prop, (∀ a w, (i ≠ z → S w) → wpAnyL P md ops Q S z n (l.setIfInBounds i true) a w → K' a w) → if Region.wanted oi (yielded ops a.tmps) = true then Oper.wp P oi a w K' Q else K' (a.put oi.dst undef) w)
 (h2 : ∀ K' : Act → World → Prop, (∀ a w, (j ≠ z → S w) → wpAnyL P md ops Q S z n (l.setIfInBounds j true) a w → K' a w) → if Region.wanted oj (yielded ops a.tmps) = true then Oper.wp P oj a w K' Q else K' (a.put oj.dst undef) w)
 (h3 : ∀ K' : Act → World → Prop, (∀ a w, (m ≠ z → S w) → wpAnyL P md ops Q S z n (l.setIfInBounds m true) a w → K' a w) → if Region.wanted om (yielded ops a.tmps) = true then Oper.wp P om a w K' Q else K' (a.put om.dst undef) w) :
 wpAnyL P md ops Q S z (n + 1) l a w :=
 ⟨fun e => (by rw [hr] at e; cases e), fun k hk => by
  rw [hr] at hk
  simp at hk
  rcases hk with rfl | rfl | rfl
  · exact wpOp_step hi fun K' hK' => h1 K' fun a w s x => hK' a w ⟨s, x⟩
  · exact wpOp_step hj fun K' hK' => h2 K' fun a w s x => hK' a w ⟨s, x⟩
  · exact wpOp_step hm fun K' hK' => h3 K' fun a w s x => hK' a w ⟨s, x⟩⟩
theorem viaT {T : Array Bool → Nat → Act → World → Prop} {F : World → Nat → Nat → Prop} {l : Array Bool} {n : Nat} {a : Act} {w : World} (l' : Array Bool) (n' : Nat) (a' : Nat → Nat → Act) (hT : ∀ W g5 g6, F W g5 g6 → T l' n' (a' g5 g6) W) (hgo : (∀ W g5 g6, F W g5 g6 → T l' n' (a' g5 g6) W) → T l n a w) : T l n a w := hgo hT
theorem other6 {w0 : World} {g b : Nat} {cs : Array Value} {t : TypeId} (h : Bk w0 g cs t) (hne : g ≠ b) (v0 v1 v2 v3 v4 v5 : Value) :
 Bk ((((((w0.setCell ⟨b, 0, none⟩ v0).setCell ⟨b, 1, none⟩ v1).setCell ⟨b, 2, none⟩ v2).setCell ⟨b, 3, none⟩ v3).setCell ⟨b, 4, none⟩ v4).setCell ⟨b, 5, none⟩ v5) g cs t :=
 (((((h.other (a := ⟨b, 0, none⟩) hne v0).other (a := ⟨b, 1, none⟩) hne v1).other (a := ⟨b, 2, none⟩) hne v2).other (a := ⟨b, 3, none⟩) hne v3).other (a := ⟨b, 4, none⟩) hne v4).other (a := ⟨b, 5, none⟩) hne v5
theorem names_eql (a b c x y z a' b' c' x' y' z' : ByteArray) (w : World) : (Op.equalIn 10000 133 (.agg #[.string a, .string b, .string c, .string x, .string y, .string z]) (.agg #[.string a', .string b', .string c', .string x', .string y', .string z'])).run Tryz.prog w = .ok (decide (a = a' ∧ b = b' ∧ c = c' ∧ x = x' ∧ y = y' ∧ z = z')) w := by
 have u9 := Tryz.underlying9
 have a9 := Tryz.isAgg9
 have z9 := Tryz.sizeOf9
 rw [show (10000 : Nat) = 9999 + 1 from rfl, Op.equalIn]
 simp only [Sem.run_bind, run_underlying Tryz.underlying133, Result.andThen_ok]
 simp only [Std.Legacy.Range.forIn_eq_forIn_range', Std.Legacy.Range.size, Nat.sub_zero, Nat.add_sub_cancel, Nat.div_one, List.range'_succ, List.range'_zero, List.forIn_cons, List.forIn_nil]
 by_cases h1 : a = a'
 · by_cases h2 : b = b'
   · by_cases h3 : c = c'
     · by_cases h4 : x = x'
       · by_cases h5 : y = y'
         · by_cases h6 : z = z'
           · subst h1 h2 h3 h4 h5 h6
             go_simp
           · subst h1 h2 h3 h4 h5
             have d := toList_ne h6
             go_simp
         · subst h1 h2 h3 h4
           have d := toList_ne h5
           go_simp
       · subst h1 h2 h3
         have d := toList_ne h4
         go_simp
     · subst h1 h2
       have d := toList_ne h3
       go_simp
   · subst h1
     have d := toList_ne h2
     go_simp
 · have d := toList_ne h1
   go_simp
theorem cmp_first : ∀ (l m : List ByteArray) (i : Nat) (u v : ByteArray), l[i]? = some u → m[i]? = some v → u ≠ v → (∀ j, j < i → l[j]? = m[j]?) → cmpL l m = cmpB u v
 | [], _, _, _, _, h, _, _, _ => by simp at h
 | _ :: _, [], _, _, _, _, h, _, _ => by simp at h
 | x :: l, y :: m, 0, u, v, h, k, hn, _ => by
  simp at h k
  subst h k
  show (if x = y then _ else _) = _
  rw [if_neg hn]
 | x :: l, y :: m, i + 1, u, v, h, k, hn, he => by
  have e0 := he 0 (by omega)
  simp at e0
  subst e0
  show (if x = x then cmpL l m else _) = _
  rw [if_pos rfl]
  refine cmp_first l m i u v (by simpa using h) (by simpa using k) hn fun j hj => ?_
  have := he (j + 1) (by omega)
  simpa using this
def nth6 (a b c x y z : ByteArray) (i : Nat) : ByteArray := [a, b, c, x, y, z].getD i ⟨#[]⟩
theorem at6 (a b c x y z : ByteArray) {i : Nat} (h : i < 6) : (#[.string a, .string b, .string c, .string x, .string y, .string z] : Array Value)[i]? = some (.string (nth6 a b c x y z i)) ∧ [a, b, c, x, y, z][i]? = some (nth6 a b c x y z i) := by
 obtain rfl | rfl | rfl | rfl | rfl | rfl : i = 0 ∨ i = 1 ∨ i = 2 ∨ i = 3 ∨ i = 4 ∨ i = 5 := by omega
 all_goals exact ⟨rfl, rfl⟩
section
variable {w : World}
theorem cmp_any12 (a b c x y z a' b' c' x' y' z' : ByteArray) :
 Calls Tryz.prog 43 #[.agg #[.string a, .string b, .string c, .string x, .string y, .string z], .agg #[.string a', .string b', .string c', .string x', .string y', .string z']] w fun e w' => e = .returned (.int .i64 (cmpT ((a, b, c), (x, y, z)) ((a', b', c'), (x', y', z')))) ∧ Below w.heap.size w w' := by
 obtain ⟨R, hRd⟩ : ∃ R, Hid (cmpT ((a, b, c), (x, y, z)) ((a', b', c'), (x', y', z')) = R) := ⟨_, Lib.hid rfl⟩
 rw [hRd.out]
 have hk := (Bk.new w #[.string a, .string b, .string c, .string x, .string y, .string z] 71).alloc (.cells #[.string a', .string b', .string c', .string x', .string y', .string z'] 71)
 have hl := Bk.new2 w (.cells #[.string a, .string b, .string c, .string x, .string y, .string z] 71) #[.string a', .string b', .string c', .string x', .string y', .string z'] 71
 have hB : Below w.heap.size w ((w.alloc (.cells #[.string a, .string b, .string c, .string x, .string y, .string z] 71)).alloc (.cells #[.string a', .string b', .string c', .string x', .string y', .string z'] 71)) := ((Below.refl _ w).alloc (Nat.le_refl _) _).alloc (size_alloc (Nat.le_refl _)) _
 have k1 : ∀ W : World, _ := fun W => names_any12 (w := W) a b c x y z
 have k2 : ∀ W : World, _ := fun W => names_any12 (w := W) a' b' c' x' y' z'
 go_enter Tryz.func43, Tryz.ntmps43
 go_upto_region 1 with (fail)
 generalize (w.alloc (.cells #[.string a, .string b, .string c, .string x, .string y, .string z] 71)).alloc (.cells #[.string a', .string b', .string c', .string x', .string y', .string z'] 71) = w1 at *
 go_wp2_with fail
 refine roL_begin (fun W => Below w1.heap.size w1 W) 7 (by kernel_rfl) ?_
 change wpAnyL _ _ _ _ _ _ _ _ _ (World.drew _)
 have hW0 : Below w1.heap.size w1 (World.drew w1) := (Below.refl _ _).drew
 generalize World.drew w1 = W0 at *
 refine roL_take 0 (some 8) (v := ?v0) rfl rfl (by kernel_rfl) (by decide) (by kernel_rfl) (by kernel_rfl) (by kernel_rfl) (fun _ _ _ h => h) (by rfl) ?y0 hW0 ?r0
 case y0 => (intro W hS; have q := hk.below hS; obtain ⟨q0, q1, q2, q3, q4, q5⟩ := q.c6; have ql := q.lt; go_simp; try with_reducible rfl)
 simp only [Act.put, List.setIfInBounds_toArray, List.set_cons_zero, List.set_cons_succ]
 refine roL_take 2 (some 10) (v := ?v1) rfl rfl (by kernel_rfl) (by decide) (by kernel_rfl) (by kernel_rfl) (by kernel_rfl) (fun _ _ _ h => h) (by rfl) ?y1 hW0 ?r1
 case y1 => (intro W hS; have q := hl.below hS; obtain ⟨q0, q1, q2, q3, q4, q5⟩ := q.c6; have ql := q.lt; go_simp; try with_reducible rfl)
 simp only [Act.put, List.setIfInBounds_toArray, List.set_cons_zero, List.set_cons_succ]
 clear hk hl
 refine viaT (T := fun l n a w => wpAnyL _ _ _ _ _ _ n l a w) (F := fun W g5 g6 => Bk W g5 #[.string ⟨#[]⟩, .string ⟨#[]⟩, .string ⟨#[]⟩, .string ⟨#[]⟩, .string ⟨#[]⟩, .string ⟨#[]⟩] 133 ∧ Bk W g6 #[.string ⟨#[]⟩, .string ⟨#[]⟩, .string ⟨#[]⟩, .string ⟨#[]⟩, .string ⟨#[]⟩, .string ⟨#[]⟩] 133 ∧ g5 ≠ g6 ∧ w1.heap.size ≤ g5 ∧ w1.heap.size ≤ g6 ∧ Below w1.heap.size w1 W) #[true, true, true, true, true, true, false, false] 2 (fun g5 g6 => { tmps := #[.agg #[.string a, .string b, .string c, .string x, .string y, .string z], .agg #[.string a', .string b', .string c', .string x', .string y', .string z'], .pointer (some ⟨w.heap.size, 0, none⟩), .pointer (some ⟨w.heap.size + 1, 0, none⟩), .int .i64 0, .pointer (some ⟨g5, 0, none⟩), .pointer (some ⟨g6, 0, none⟩), undef, .agg #[.string a, .string b, .string c, .string x, .string y, .string z], .agg #[.string a, .string b, .string c, .string x, .string y, .string z], .agg #[.string a', .string b', .string c', .string x', .string y', .string z'], .agg #[.string a', .string b', .string c', .string x', .string y', .string z'], undef, undef, undef, undef, undef, undef, undef, undef, undef, undef, undef, undef, undef, undef, undef, undef, undef, undef, undef], defers := [] }) ?fin (fun fin => ?tree)
 case tree =>
  refine roL_three 1 4 5 rfl rfl rfl (by kernel_rfl) (fun K hK' => ?_) (fun K hK' => ?_) (fun K hK' => ?_)
  · go_simp
    refine (k1 W0).mono ?_
    rintro e W1 ⟨rfl, hbx⟩
    have hW1 := bthen hW0 hW0.size hbx
    refine hK' _ _ (fun _ => hW1) ?_
    clear hK' K hbx
    (try simp only [Act.put, List.setIfInBounds_toArray, List.set_cons_zero, List.set_cons_succ])
    refine roL_three 3 4 5 rfl rfl rfl (by kernel_rfl) (fun K hK' => ?_) (fun K hK' => ?_) (fun K hK' => ?_)
    · go_simp
      refine (k2 W1).mono ?_
      rintro e W2 ⟨rfl, hbx⟩
      have hW2 := bthen hW1 hW1.size hbx
      refine hK' _ _ (fun _ => hW2) ?_
      clear hK' K hbx
      (try simp only [Act.put, List.setIfInBounds_toArray, List.set_cons_zero, List.set_cons_succ])
      refine roL_two12 4 5 rfl rfl (by kernel_rfl) (fun K hK' => ?_) (fun K hK' => ?_)
      · go_simp
        have hg5 := Bk.new W2 #[.string ⟨#[]⟩, .string ⟨#[]⟩, .string ⟨#[]⟩, .string ⟨#[]⟩, .string ⟨#[]⟩, .string ⟨#[]⟩] 133
        have hg5l := hW2.size
        have hW3 := hW2.alloc hW2.size (.cells #[.string ⟨#[]⟩, .string ⟨#[]⟩, .string ⟨#[]⟩, .string ⟨#[]⟩, .string ⟨#[]⟩, .string ⟨#[]⟩] 133)
        refine hK' _ _ (fun _ => hW3) ?_
        clear hK' K
        generalize W2.alloc (.cells #[.string ⟨#[]⟩, .string ⟨#[]⟩, .string ⟨#[]⟩, .string ⟨#[]⟩, .string ⟨#[]⟩, .string ⟨#[]⟩] 133) = W3 at *
        generalize W2.heap.size = g5 at *
        (try simp only [Act.put, List.setIfInBounds_toArray, List.set_cons_zero, List.set_cons_succ])
        refine roL_one 5 rfl (by kernel_rfl) (fun K hK' => ?_)
        go_simp
        have hg6 := Bk.new W3 #[.string ⟨#[]⟩, .string ⟨#[]⟩, .string ⟨#[]⟩, .string ⟨#[]⟩, .string ⟨#[]⟩, .string ⟨#[]⟩] 133
        have hg6l := hW3.size
        have hne := Nat.ne_of_lt hg5.lt
        replace hg5 := hg5.alloc (.cells #[.string ⟨#[]⟩, .string ⟨#[]⟩, .string ⟨#[]⟩, .string ⟨#[]⟩, .string ⟨#[]⟩, .string ⟨#[]⟩] 133)
        have hW4 := hW3.alloc hW3.size (.cells #[.string ⟨#[]⟩, .string ⟨#[]⟩, .string ⟨#[]⟩, .string ⟨#[]⟩, .string ⟨#[]⟩, .string ⟨#[]⟩] 133)
        refine hK' _ _ (fun _ => hW4) ?_
        clear hK' K
        generalize W3.alloc (.cells #[.string ⟨#[]⟩, .string ⟨#[]⟩, .string ⟨#[]⟩, .string ⟨#[]⟩, .string ⟨#[]⟩, .string ⟨#[]⟩] 133) = W4 at *
        generalize W3.heap.size = g6 at *
        (try simp only [Act.put, List.setIfInBounds_toArray, List.set_cons_zero, List.set_cons_succ])
        exact fin W4 g5 g6 ⟨hg5, hg6, hne, hg5l, hg6l, hW4⟩
      · go_simp
        have hg6 := Bk.new W2 #[.string ⟨#[]⟩, .string ⟨#[]⟩, .string ⟨#[]⟩, .string ⟨#[]⟩, .string ⟨#[]⟩, .string ⟨#[]⟩] 133
        have hg6l := hW2.size
        have hW3 := hW2.alloc hW2.size (.cells #[.string ⟨#[]⟩, .string ⟨#[]⟩, .string ⟨#[]⟩, .string ⟨#[]⟩, .string ⟨#[]⟩, .string ⟨#[]⟩] 133)
        refine hK' _ _ (fun _ => hW3) ?_
        clear hK' K
        generalize W2.alloc (.cells #[.string ⟨#[]⟩, .string ⟨#[]⟩, .string ⟨#[]⟩, .string ⟨#[]⟩, .string ⟨#[]⟩, .string ⟨#[]⟩] 133) = W3 at *
        generalize W2.heap.size = g6 at *
        (try simp only [Act.put, List.setIfInBounds_toArray, List.set_cons_zero, List.set_cons_succ])
        refine roL_one 4 rfl (by kernel_rfl) (fun K hK' => ?_)
        go_simp
        have hg5 := Bk.new W3 #[.string ⟨#[]⟩, .string ⟨#[]⟩, .string ⟨#[]⟩, .string ⟨#[]⟩, .string ⟨#[]⟩, .string ⟨#[]⟩] 133
        have hg5l := hW3.size
        have hne := (Nat.ne_of_lt hg6.lt).symm
        replace hg6 := hg6.alloc (.cells #[.string ⟨#[]⟩, .string ⟨#[]⟩, .string ⟨#[]⟩, .string ⟨#[]⟩, .string ⟨#[]⟩, .string ⟨#[]⟩] 133)
        have hW4 := hW3.alloc hW3.size (.cells #[.string ⟨#[]⟩, .string ⟨#[]⟩, .string ⟨#[]⟩, .string ⟨#[]⟩, .string ⟨#[]⟩, .string ⟨#[]⟩] 133)
        refine hK' _ _ (fun _ => hW4) ?_
        clear hK' K
        generalize W3.alloc (.cells #[.string ⟨#[]⟩, .string ⟨#[]⟩, .string ⟨#[]⟩, .string ⟨#[]⟩, .string ⟨#[]⟩, .string ⟨#[]⟩] 133) = W4 at *
        generalize W3.heap.size = g5 at *
        (try simp only [Act.put, List.setIfInBounds_toArray, List.set_cons_zero, List.set_cons_succ])
        exact fin W4 g5 g6 ⟨hg5, hg6, hne, hg5l, hg6l, hW4⟩
    · go_simp
      have hg5 := Bk.new W1 #[.string ⟨#[]⟩, .string ⟨#[]⟩, .string ⟨#[]⟩, .string ⟨#[]⟩, .string ⟨#[]⟩, .string ⟨#[]⟩] 133
      have hg5l := hW1.size
      have hW2 := hW1.alloc hW1.size (.cells #[.string ⟨#[]⟩, .string ⟨#[]⟩, .string ⟨#[]⟩, .string ⟨#[]⟩, .string ⟨#[]⟩, .string ⟨#[]⟩] 133)
      refine hK' _ _ (fun _ => hW2) ?_
      clear hK' K
      generalize W1.alloc (.cells #[.string ⟨#[]⟩, .string ⟨#[]⟩, .string ⟨#[]⟩, .string ⟨#[]⟩, .string ⟨#[]⟩, .string ⟨#[]⟩] 133) = W2 at *
      generalize W1.heap.size = g5 at *
      (try simp only [Act.put, List.setIfInBounds_toArray, List.set_cons_zero, List.set_cons_succ])
      refine roL_two12 3 5 rfl rfl (by kernel_rfl) (fun K hK' => ?_) (fun K hK' => ?_)
      · go_simp
        refine (k2 W2).mono ?_
        rintro e W3 ⟨rfl, hbx⟩
        have hW3 := bthen hW2 hW2.size hbx
        replace hg5 := hg5.below hbx
        refine hK' _ _ (fun _ => hW3) ?_
        clear hK' K hbx
        (try simp only [Act.put, List.setIfInBounds_toArray, List.set_cons_zero, List.set_cons_succ])
        refine roL_one 5 rfl (by kernel_rfl) (fun K hK' => ?_)
        go_simp
        have hg6 := Bk.new W3 #[.string ⟨#[]⟩, .string ⟨#[]⟩, .string ⟨#[]⟩, .string ⟨#[]⟩, .string ⟨#[]⟩, .string ⟨#[]⟩] 133
        have hg6l := hW3.size
        have hne := Nat.ne_of_lt hg5.lt
        replace hg5 := hg5.alloc (.cells #[.string ⟨#[]⟩, .string ⟨#[]⟩, .string ⟨#[]⟩, .string ⟨#[]⟩, .string ⟨#[]⟩, .string ⟨#[]⟩] 133)
        have hW4 := hW3.alloc hW3.size (.cells #[.string ⟨#[]⟩, .string ⟨#[]⟩, .string ⟨#[]⟩, .string ⟨#[]⟩, .string ⟨#[]⟩, .string ⟨#[]⟩] 133)
        refine hK' _ _ (fun _ => hW4) ?_
        clear hK' K
        generalize W3.alloc (.cells #[.string ⟨#[]⟩, .string ⟨#[]⟩, .string ⟨#[]⟩, .string ⟨#[]⟩, .string ⟨#[]⟩, .string ⟨#[]⟩] 133) = W4 at *
        generalize W3.heap.size = g6 at *
        (try simp only [Act.put, List.setIfInBounds_toArray, List.set_cons_zero, List.set_cons_succ])
        exact fin W4 g5 g6 ⟨hg5, hg6, hne, hg5l, hg6l, hW4⟩
      · go_simp
        have hg6 := Bk.new W2 #[.string ⟨#[]⟩, .string ⟨#[]⟩, .string ⟨#[]⟩, .string ⟨#[]⟩, .string ⟨#[]⟩, .string ⟨#[]⟩] 133
        have hg6l := hW2.size
        have hne := Nat.ne_of_lt hg5.lt
        replace hg5 := hg5.alloc (.cells #[.string ⟨#[]⟩, .string ⟨#[]⟩, .string ⟨#[]⟩, .string ⟨#[]⟩, .string ⟨#[]⟩, .string ⟨#[]⟩] 133)
        have hW3 := hW2.alloc hW2.size (.cells #[.string ⟨#[]⟩, .string ⟨#[]⟩, .string ⟨#[]⟩, .string ⟨#[]⟩, .string ⟨#[]⟩, .string ⟨#[]⟩] 133)
        refine hK' _ _ (fun _ => hW3) ?_
        clear hK' K
        generalize W2.alloc (.cells #[.string ⟨#[]⟩, .string ⟨#[]⟩, .string ⟨#[]⟩, .string ⟨#[]⟩, .string ⟨#[]⟩, .string ⟨#[]⟩] 133) = W3 at *
        generalize W2.heap.size = g6 at *
        (try simp only [Act.put, List.setIfInBounds_toArray, List.set_cons_zero, List.set_cons_succ])
        refine roL_one 3 rfl (by kernel_rfl) (fun K hK' => ?_)
        go_simp
        refine (k2 W3).mono ?_
        rintro e W4 ⟨rfl, hbx⟩
        have hW4 := bthen hW3 hW3.size hbx
        replace hg5 := hg5.below hbx
        replace hg6 := hg6.below hbx
        refine hK' _ _ (fun _ => hW4) ?_
        clear hK' K hbx
        (try simp only [Act.put, List.setIfInBounds_toArray, List.set_cons_zero, List.set_cons_succ])
        exact fin W4 g5 g6 ⟨hg5, hg6, hne, hg5l, hg6l, hW4⟩
    · go_simp
      have hg6 := Bk.new W1 #[.string ⟨#[]⟩, .string ⟨#[]⟩, .string ⟨#[]⟩, .string ⟨#[]⟩, .string ⟨#[]⟩, .string ⟨#[]⟩] 133
      have hg6l := hW1.size
      have hW2 := hW1.alloc hW1.size (.cells #[.string ⟨#[]⟩, .string ⟨#[]⟩, .string ⟨#[]⟩, .string ⟨#[]⟩, .string ⟨#[]⟩, .string ⟨#[]⟩] 133)
      refine hK' _ _ (fun _ => hW2) ?_
      clear hK' K
      generalize W1.alloc (.cells #[.string ⟨#[]⟩, .string ⟨#[]⟩, .string ⟨#[]⟩, .string ⟨#[]⟩, .string ⟨#[]⟩, .string ⟨#[]⟩] 133) = W2 at *
      generalize W1.heap.size = g6 at *
      (try simp only [Act.put, List.setIfInBounds_toArray, List.set_cons_zero, List.set_cons_succ])
      refine roL_two12 3 4 rfl rfl (by kernel_rfl) (fun K hK' => ?_) (fun K hK' => ?_)
      · go_simp
        refine (k2 W2).mono ?_
        rintro e W3 ⟨rfl, hbx⟩
        have hW3 := bthen hW2 hW2.size hbx
        replace hg6 := hg6.below hbx
        refine hK' _ _ (fun _ => hW3) ?_
        clear hK' K hbx
        (try simp only [Act.put, List.setIfInBounds_toArray, List.set_cons_zero, List.set_cons_succ])
        refine roL_one 4 rfl (by kernel_rfl) (fun K hK' => ?_)
        go_simp
        have hg5 := Bk.new W3 #[.string ⟨#[]⟩, .string ⟨#[]⟩, .string ⟨#[]⟩, .string ⟨#[]⟩, .string ⟨#[]⟩, .string ⟨#[]⟩] 133
        have hg5l := hW3.size
        have hne := (Nat.ne_of_lt hg6.lt).symm
        replace hg6 := hg6.alloc (.cells #[.string ⟨#[]⟩, .string ⟨#[]⟩, .string ⟨#[]⟩, .string ⟨#[]⟩, .string ⟨#[]⟩, .string ⟨#[]⟩] 133)
        have hW4 := hW3.alloc hW3.size (.cells #[.string ⟨#[]⟩, .string ⟨#[]⟩, .string ⟨#[]⟩, .string ⟨#[]⟩, .string ⟨#[]⟩, .string ⟨#[]⟩] 133)
        refine hK' _ _ (fun _ => hW4) ?_
        clear hK' K
        generalize W3.alloc (.cells #[.string ⟨#[]⟩, .string ⟨#[]⟩, .string ⟨#[]⟩, .string ⟨#[]⟩, .string ⟨#[]⟩, .string ⟨#[]⟩] 133) = W4 at *
        generalize W3.heap.size = g5 at *
        (try simp only [Act.put, List.setIfInBounds_toArray, List.set_cons_zero, List.set_cons_succ])
        exact fin W4 g5 g6 ⟨hg5, hg6, hne, hg5l, hg6l, hW4⟩
      · go_simp
        have hg5 := Bk.new W2 #[.string ⟨#[]⟩, .string ⟨#[]⟩, .string ⟨#[]⟩, .string ⟨#[]⟩, .string ⟨#[]⟩, .string ⟨#[]⟩] 133
        have hg5l := hW2.size
        have hne := (Nat.ne_of_lt hg6.lt).symm
        replace hg6 := hg6.alloc (.cells #[.string ⟨#[]⟩, .string ⟨#[]⟩, .string ⟨#[]⟩, .string ⟨#[]⟩, .string ⟨#[]⟩, .string ⟨#[]⟩] 133)
        have hW3 := hW2.alloc hW2.size (.cells #[.string ⟨#[]⟩, .string ⟨#[]⟩, .string ⟨#[]⟩, .string ⟨#[]⟩, .string ⟨#[]⟩, .string ⟨#[]⟩] 133)
        refine hK' _ _ (fun _ => hW3) ?_
        clear hK' K
        generalize W2.alloc (.cells #[.string ⟨#[]⟩, .string ⟨#[]⟩, .string ⟨#[]⟩, .string ⟨#[]⟩, .string ⟨#[]⟩, .string ⟨#[]⟩] 133) = W3 at *
        generalize W2.heap.size = g5 at *
        (try simp only [Act.put, List.setIfInBounds_toArray, List.set_cons_zero, List.set_cons_succ])
        refine roL_one 3 rfl (by kernel_rfl) (fun K hK' => ?_)
        go_simp
        refine (k2 W3).mono ?_
        rintro e W4 ⟨rfl, hbx⟩
        have hW4 := bthen hW3 hW3.size hbx
        replace hg5 := hg5.below hbx
        replace hg6 := hg6.below hbx
        refine hK' _ _ (fun _ => hW4) ?_
        clear hK' K hbx
        (try simp only [Act.put, List.setIfInBounds_toArray, List.set_cons_zero, List.set_cons_succ])
        exact fin W4 g5 g6 ⟨hg5, hg6, hne, hg5l, hg6l, hW4⟩
  · go_simp
    have hg5 := Bk.new W0 #[.string ⟨#[]⟩, .string ⟨#[]⟩, .string ⟨#[]⟩, .string ⟨#[]⟩, .string ⟨#[]⟩, .string ⟨#[]⟩] 133
    have hg5l := hW0.size
    have hW1 := hW0.alloc hW0.size (.cells #[.string ⟨#[]⟩, .string ⟨#[]⟩, .string ⟨#[]⟩, .string ⟨#[]⟩, .string ⟨#[]⟩, .string ⟨#[]⟩] 133)
    refine hK' _ _ (fun _ => hW1) ?_
    clear hK' K
    generalize W0.alloc (.cells #[.string ⟨#[]⟩, .string ⟨#[]⟩, .string ⟨#[]⟩, .string ⟨#[]⟩, .string ⟨#[]⟩, .string ⟨#[]⟩] 133) = W1 at *
    generalize W0.heap.size = g5 at *
    (try simp only [Act.put, List.setIfInBounds_toArray, List.set_cons_zero, List.set_cons_succ])
    refine roL_two12 1 5 rfl rfl (by kernel_rfl) (fun K hK' => ?_) (fun K hK' => ?_)
    · go_simp
      refine (k1 W1).mono ?_
      rintro e W2 ⟨rfl, hbx⟩
      have hW2 := bthen hW1 hW1.size hbx
      replace hg5 := hg5.below hbx
      refine hK' _ _ (fun _ => hW2) ?_
      clear hK' K hbx
      (try simp only [Act.put, List.setIfInBounds_toArray, List.set_cons_zero, List.set_cons_succ])
      refine roL_two12 3 5 rfl rfl (by kernel_rfl) (fun K hK' => ?_) (fun K hK' => ?_)
      · go_simp
        refine (k2 W2).mono ?_
        rintro e W3 ⟨rfl, hbx⟩
        have hW3 := bthen hW2 hW2.size hbx
        replace hg5 := hg5.below hbx
        refine hK' _ _ (fun _ => hW3) ?_
        clear hK' K hbx
        (try simp only [Act.put, List.setIfInBounds_toArray, List.set_cons_zero, List.set_cons_succ])
        refine roL_one 5 rfl (by kernel_rfl) (fun K hK' => ?_)
        go_simp
        have hg6 := Bk.new W3 #[.string ⟨#[]⟩, .string ⟨#[]⟩, .string ⟨#[]⟩, .string ⟨#[]⟩, .string ⟨#[]⟩, .string ⟨#[]⟩] 133
        have hg6l := hW3.size
        have hne := Nat.ne_of_lt hg5.lt
        replace hg5 := hg5.alloc (.cells #[.string ⟨#[]⟩, .string ⟨#[]⟩, .string ⟨#[]⟩, .string ⟨#[]⟩, .string ⟨#[]⟩, .string ⟨#[]⟩] 133)
        have hW4 := hW3.alloc hW3.size (.cells #[.string ⟨#[]⟩, .string ⟨#[]⟩, .string ⟨#[]⟩, .string ⟨#[]⟩, .string ⟨#[]⟩, .string ⟨#[]⟩] 133)
        refine hK' _ _ (fun _ => hW4) ?_
        clear hK' K
        generalize W3.alloc (.cells #[.string ⟨#[]⟩, .string ⟨#[]⟩, .string ⟨#[]⟩, .string ⟨#[]⟩, .string ⟨#[]⟩, .string ⟨#[]⟩] 133) = W4 at *
        generalize W3.heap.size = g6 at *
        (try simp only [Act.put, List.setIfInBounds_toArray, List.set_cons_zero, List.set_cons_succ])
        exact fin W4 g5 g6 ⟨hg5, hg6, hne, hg5l, hg6l, hW4⟩
      · go_simp
        have hg6 := Bk.new W2 #[.string ⟨#[]⟩, .string ⟨#[]⟩, .string ⟨#[]⟩, .string ⟨#[]⟩, .string ⟨#[]⟩, .string ⟨#[]⟩] 133
        have hg6l := hW2.size
        have hne := Nat.ne_of_lt hg5.lt
        replace hg5 := hg5.alloc (.cells #[.string ⟨#[]⟩, .string ⟨#[]⟩, .string ⟨#[]⟩, .string ⟨#[]⟩, .string ⟨#[]⟩, .string ⟨#[]⟩] 133)
        have hW3 := hW2.alloc hW2.size (.cells #[.string ⟨#[]⟩, .string ⟨#[]⟩, .string ⟨#[]⟩, .string ⟨#[]⟩, .string ⟨#[]⟩, .string ⟨#[]⟩] 133)
        refine hK' _ _ (fun _ => hW3) ?_
        clear hK' K
        generalize W2.alloc (.cells #[.string ⟨#[]⟩, .string ⟨#[]⟩, .string ⟨#[]⟩, .string ⟨#[]⟩, .string ⟨#[]⟩, .string ⟨#[]⟩] 133) = W3 at *
        generalize W2.heap.size = g6 at *
        (try simp only [Act.put, List.setIfInBounds_toArray, List.set_cons_zero, List.set_cons_succ])
        refine roL_one 3 rfl (by kernel_rfl) (fun K hK' => ?_)
        go_simp
        refine (k2 W3).mono ?_
        rintro e W4 ⟨rfl, hbx⟩
        have hW4 := bthen hW3 hW3.size hbx
        replace hg5 := hg5.below hbx
        replace hg6 := hg6.below hbx
        refine hK' _ _ (fun _ => hW4) ?_
        clear hK' K hbx
        (try simp only [Act.put, List.setIfInBounds_toArray, List.set_cons_zero, List.set_cons_succ])
        exact fin W4 g5 g6 ⟨hg5, hg6, hne, hg5l, hg6l, hW4⟩
    · go_simp
      have hg6 := Bk.new W1 #[.string ⟨#[]⟩, .string ⟨#[]⟩, .string ⟨#[]⟩, .string ⟨#[]⟩, .string ⟨#[]⟩, .string ⟨#[]⟩] 133
      have hg6l := hW1.size
      have hne := Nat.ne_of_lt hg5.lt
      replace hg5 := hg5.alloc (.cells #[.string ⟨#[]⟩, .string ⟨#[]⟩, .string ⟨#[]⟩, .string ⟨#[]⟩, .string ⟨#[]⟩, .string ⟨#[]⟩] 133)
      have hW2 := hW1.alloc hW1.size (.cells #[.string ⟨#[]⟩, .string ⟨#[]⟩, .string ⟨#[]⟩, .string ⟨#[]⟩, .string ⟨#[]⟩, .string ⟨#[]⟩] 133)
      refine hK' _ _ (fun _ => hW2) ?_
      clear hK' K
      generalize W1.alloc (.cells #[.string ⟨#[]⟩, .string ⟨#[]⟩, .string ⟨#[]⟩, .string ⟨#[]⟩, .string ⟨#[]⟩, .string ⟨#[]⟩] 133) = W2 at *
      generalize W1.heap.size = g6 at *
      (try simp only [Act.put, List.setIfInBounds_toArray, List.set_cons_zero, List.set_cons_succ])
      refine roL_one 1 rfl (by kernel_rfl) (fun K hK' => ?_)
      go_simp
      refine (k1 W2).mono ?_
      rintro e W3 ⟨rfl, hbx⟩
      have hW3 := bthen hW2 hW2.size hbx
      replace hg5 := hg5.below hbx
      replace hg6 := hg6.below hbx
      refine hK' _ _ (fun _ => hW3) ?_
      clear hK' K hbx
      (try simp only [Act.put, List.setIfInBounds_toArray, List.set_cons_zero, List.set_cons_succ])
      refine roL_one 3 rfl (by kernel_rfl) (fun K hK' => ?_)
      go_simp
      refine (k2 W3).mono ?_
      rintro e W4 ⟨rfl, hbx⟩
      have hW4 := bthen hW3 hW3.size hbx
      replace hg5 := hg5.below hbx
      replace hg6 := hg6.below hbx
      refine hK' _ _ (fun _ => hW4) ?_
      clear hK' K hbx
      (try simp only [Act.put, List.setIfInBounds_toArray, List.set_cons_zero, List.set_cons_succ])
      exact fin W4 g5 g6 ⟨hg5, hg6, hne, hg5l, hg6l, hW4⟩
  · go_simp
    have hg6 := Bk.new W0 #[.string ⟨#[]⟩, .string ⟨#[]⟩, .string ⟨#[]⟩, .string ⟨#[]⟩, .string ⟨#[]⟩, .string ⟨#[]⟩] 133
    have hg6l := hW0.size
    have hW1 := hW0.alloc hW0.size (.cells #[.string ⟨#[]⟩, .string ⟨#[]⟩, .string ⟨#[]⟩, .string ⟨#[]⟩, .string ⟨#[]⟩, .string ⟨#[]⟩] 133)
    refine hK' _ _ (fun _ => hW1) ?_
    clear hK' K
    generalize W0.alloc (.cells #[.string ⟨#[]⟩, .string ⟨#[]⟩, .string ⟨#[]⟩, .string ⟨#[]⟩, .string ⟨#[]⟩, .string ⟨#[]⟩] 133) = W1 at *
    generalize W0.heap.size = g6 at *
    (try simp only [Act.put, List.setIfInBounds_toArray, List.set_cons_zero, List.set_cons_succ])
    refine roL_two12 1 4 rfl rfl (by kernel_rfl) (fun K hK' => ?_) (fun K hK' => ?_)
    · go_simp
      refine (k1 W1).mono ?_
      rintro e W2 ⟨rfl, hbx⟩
      have hW2 := bthen hW1 hW1.size hbx
      replace hg6 := hg6.below hbx
      refine hK' _ _ (fun _ => hW2) ?_
      clear hK' K hbx
      (try simp only [Act.put, List.setIfInBounds_toArray, List.set_cons_zero, List.set_cons_succ])
      refine roL_two12 3 4 rfl rfl (by kernel_rfl) (fun K hK' => ?_) (fun K hK' => ?_)
      · go_simp
        refine (k2 W2).mono ?_
        rintro e W3 ⟨rfl, hbx⟩
        have hW3 := bthen hW2 hW2.size hbx
        replace hg6 := hg6.below hbx
        refine hK' _ _ (fun _ => hW3) ?_
        clear hK' K hbx
        (try simp only [Act.put, List.setIfInBounds_toArray, List.set_cons_zero, List.set_cons_succ])
        refine roL_one 4 rfl (by kernel_rfl) (fun K hK' => ?_)
        go_simp
        have hg5 := Bk.new W3 #[.string ⟨#[]⟩, .string ⟨#[]⟩, .string ⟨#[]⟩, .string ⟨#[]⟩, .string ⟨#[]⟩, .string ⟨#[]⟩] 133
        have hg5l := hW3.size
        have hne := (Nat.ne_of_lt hg6.lt).symm
        replace hg6 := hg6.alloc (.cells #[.string ⟨#[]⟩, .string ⟨#[]⟩, .string ⟨#[]⟩, .string ⟨#[]⟩, .string ⟨#[]⟩, .string ⟨#[]⟩] 133)
        have hW4 := hW3.alloc hW3.size (.cells #[.string ⟨#[]⟩, .string ⟨#[]⟩, .string ⟨#[]⟩, .string ⟨#[]⟩, .string ⟨#[]⟩, .string ⟨#[]⟩] 133)
        refine hK' _ _ (fun _ => hW4) ?_
        clear hK' K
        generalize W3.alloc (.cells #[.string ⟨#[]⟩, .string ⟨#[]⟩, .string ⟨#[]⟩, .string ⟨#[]⟩, .string ⟨#[]⟩, .string ⟨#[]⟩] 133) = W4 at *
        generalize W3.heap.size = g5 at *
        (try simp only [Act.put, List.setIfInBounds_toArray, List.set_cons_zero, List.set_cons_succ])
        exact fin W4 g5 g6 ⟨hg5, hg6, hne, hg5l, hg6l, hW4⟩
      · go_simp
        have hg5 := Bk.new W2 #[.string ⟨#[]⟩, .string ⟨#[]⟩, .string ⟨#[]⟩, .string ⟨#[]⟩, .string ⟨#[]⟩, .string ⟨#[]⟩] 133
        have hg5l := hW2.size
        have hne := (Nat.ne_of_lt hg6.lt).symm
        replace hg6 := hg6.alloc (.cells #[.string ⟨#[]⟩, .string ⟨#[]⟩, .string ⟨#[]⟩, .string ⟨#[]⟩, .string ⟨#[]⟩, .string ⟨#[]⟩] 133)
        have hW3 := hW2.alloc hW2.size (.cells #[.string ⟨#[]⟩, .string ⟨#[]⟩, .string ⟨#[]⟩, .string ⟨#[]⟩, .string ⟨#[]⟩, .string ⟨#[]⟩] 133)
        refine hK' _ _ (fun _ => hW3) ?_
        clear hK' K
        generalize W2.alloc (.cells #[.string ⟨#[]⟩, .string ⟨#[]⟩, .string ⟨#[]⟩, .string ⟨#[]⟩, .string ⟨#[]⟩, .string ⟨#[]⟩] 133) = W3 at *
        generalize W2.heap.size = g5 at *
        (try simp only [Act.put, List.setIfInBounds_toArray, List.set_cons_zero, List.set_cons_succ])
        refine roL_one 3 rfl (by kernel_rfl) (fun K hK' => ?_)
        go_simp
        refine (k2 W3).mono ?_
        rintro e W4 ⟨rfl, hbx⟩
        have hW4 := bthen hW3 hW3.size hbx
        replace hg5 := hg5.below hbx
        replace hg6 := hg6.below hbx
        refine hK' _ _ (fun _ => hW4) ?_
        clear hK' K hbx
        (try simp only [Act.put, List.setIfInBounds_toArray, List.set_cons_zero, List.set_cons_succ])
        exact fin W4 g5 g6 ⟨hg5, hg6, hne, hg5l, hg6l, hW4⟩
    · go_simp
      have hg5 := Bk.new W1 #[.string ⟨#[]⟩, .string ⟨#[]⟩, .string ⟨#[]⟩, .string ⟨#[]⟩, .string ⟨#[]⟩, .string ⟨#[]⟩] 133
      have hg5l := hW1.size
      have hne := (Nat.ne_of_lt hg6.lt).symm
      replace hg6 := hg6.alloc (.cells #[.string ⟨#[]⟩, .string ⟨#[]⟩, .string ⟨#[]⟩, .string ⟨#[]⟩, .string ⟨#[]⟩, .string ⟨#[]⟩] 133)
      have hW2 := hW1.alloc hW1.size (.cells #[.string ⟨#[]⟩, .string ⟨#[]⟩, .string ⟨#[]⟩, .string ⟨#[]⟩, .string ⟨#[]⟩, .string ⟨#[]⟩] 133)
      refine hK' _ _ (fun _ => hW2) ?_
      clear hK' K
      generalize W1.alloc (.cells #[.string ⟨#[]⟩, .string ⟨#[]⟩, .string ⟨#[]⟩, .string ⟨#[]⟩, .string ⟨#[]⟩, .string ⟨#[]⟩] 133) = W2 at *
      generalize W1.heap.size = g5 at *
      (try simp only [Act.put, List.setIfInBounds_toArray, List.set_cons_zero, List.set_cons_succ])
      refine roL_one 1 rfl (by kernel_rfl) (fun K hK' => ?_)
      go_simp
      refine (k1 W2).mono ?_
      rintro e W3 ⟨rfl, hbx⟩
      have hW3 := bthen hW2 hW2.size hbx
      replace hg5 := hg5.below hbx
      replace hg6 := hg6.below hbx
      refine hK' _ _ (fun _ => hW3) ?_
      clear hK' K hbx
      (try simp only [Act.put, List.setIfInBounds_toArray, List.set_cons_zero, List.set_cons_succ])
      refine roL_one 3 rfl (by kernel_rfl) (fun K hK' => ?_)
      go_simp
      refine (k2 W3).mono ?_
      rintro e W4 ⟨rfl, hbx⟩
      have hW4 := bthen hW3 hW3.size hbx
      replace hg5 := hg5.below hbx
      replace hg6 := hg6.below hbx
      refine hK' _ _ (fun _ => hW4) ?_
      clear hK' K hbx
      (try simp only [Act.put, List.setIfInBounds_toArray, List.set_cons_zero, List.set_cons_succ])
      exact fin W4 g5 g6 ⟨hg5, hg6, hne, hg5l, hg6l, hW4⟩
 case fin =>
  rintro W g5 g6 ⟨hg5, hg6, hne, hg5l, hg6l, hW⟩
  clear k1 k2 hW0
  obtain ⟨a0, a1, a2, a3, a4, a5⟩ := hg5.c6
  have al := hg5.lt
  have af := hg5.fz
  refine roL_one 6 rfl (by kernel_rfl) (fun K hK' => ?_)
  go_simp
  obtain ⟨hs5, hW5⟩ := set6 hg5 hW hg5l (.string a) (.string b) (.string c) (.string x) (.string y) (.string z)
  have hs6 := other6 hg6 hne.symm (.string a) (.string b) (.string c) (.string x) (.string y) (.string z)
  refine hK' _ _ (fun _ => hW5) ?_
  clear hK' K a0 a1 a2 a3 a4 a5 al af hg5 hg6 hW
  generalize (((((W.setCell ⟨g5, 0, none⟩ (.string a)).setCell ⟨g5, 1, none⟩ (.string b)).setCell ⟨g5, 2, none⟩ (.string c)).setCell ⟨g5, 3, none⟩ (.string x)).setCell ⟨g5, 4, none⟩ (.string y)).setCell ⟨g5, 5, none⟩ (.string z) = X at *
  obtain ⟨a0, a1, a2, a3, a4, a5⟩ := hs6.c6
  have al := hs6.lt
  have af := hs6.fz
  refine roL_one 7 rfl (by kernel_rfl) (fun K hK' => ?_)
  go_simp
  obtain ⟨ht6, hW6⟩ := set6 hs6 hW5 hg6l (.string a') (.string b') (.string c') (.string x') (.string y') (.string z')
  have ht5 := other6 hs5 hne (.string a') (.string b') (.string c') (.string x') (.string y') (.string z')
  refine hK' _ _ (fun h => absurd rfl h) ?_
  clear hK' K a0 a1 a2 a3 a4 a5 al af hs5 hs6 hW5
  generalize (((((X.setCell ⟨g6, 0, none⟩ (.string a')).setCell ⟨g6, 1, none⟩ (.string b')).setCell ⟨g6, 2, none⟩ (.string c')).setCell ⟨g6, 3, none⟩ (.string x')).setCell ⟨g6, 4, none⟩ (.string y')).setCell ⟨g6, 5, none⟩ (.string z') = Y at *
  refine roL_done (by kernel_rfl) ?_ _
  have hY := bthen hB hB.size hW6
  obtain ⟨a0, a1, a2, a3, a4, a5⟩ := ht5.c6
  have al := ht5.lt
  obtain ⟨b0, b1, b2, b3, b4, b5⟩ := ht6.c6
  have bl := ht6.lt
  by_cases heq : a = a' ∧ b = b' ∧ c = c' ∧ x = x' ∧ y = y' ∧ z = z'
  · have hq : ∀ W, (Op.equalIn 10000 133 (.agg #[.string a, .string b, .string c, .string x, .string y, .string z]) (.agg #[.string a', .string b', .string c', .string x', .string y', .string z'])).run Tryz.prog W = .ok true W := fun W => by rw [names_eql, decide_eq_true heq]
    obtain rfl : R = 0 := by
     rw [← hRd.out, cmpT_zero]
     obtain ⟨rfl, rfl, rfl, rfl, rfl, rfl⟩ := heq
     rfl
    clear heq
    go_wp2_with fail
    go_ret
    exact ⟨rfl, hY⟩
  · have hq : ∀ W, (Op.equalIn 10000 133 (.agg #[.string a, .string b, .string c, .string x, .string y, .string z]) (.agg #[.string a', .string b', .string c', .string x', .string y', .string z'])).run Tryz.prog W = .ok false W := fun W => by rw [names_eql, decide_eq_false heq]
    have Heq := Lib.hid heq
    clear heq
    go_wp2_with fail
    clear a0 a1 a2 a3 a4 a5 b0 b1 b2 b3 b4 b5 al bl hq
    go_loopw [7] (fun vi wx => ∃ i : Nat, vi = .int .i64 i ∧ (∀ j, j < i → [a, b, c, x, y, z][j]? = [a', b', c', x', y', z'][j]?) ∧ i ≤ 5 ∧ Below Y.heap.size Y wx) (fun vi _ => 6 - (intOf vi).toNat)
    case atStart => exact ⟨0, rfl, fun j hj => absurd hj (Nat.not_lt_zero _), by omega, Below.refl _ _⟩
    case round =>
     obtain ⟨i, rfl, hj, hi, hbx⟩ := hrel
     have Hj := Lib.hid hj
     clear hj
     have hi0 : (0 : Int) ≤ (i : Int) := by omega
     have hi6 : (i : Int) < 6 := by omega
     obtain ⟨e1, f1⟩ := at6 a b c x y z (i := i) (by omega)
     obtain ⟨e2, f2⟩ := at6 a' b' c' x' y' z' (i := i) (by omega)
     have g1 := ht5.below hbx
     have g2 := ht6.below hbx
     have c1 : wr.cell? ⟨g5, i, none⟩ = _ := (g1.cell i).trans e1
     have c2 : wr.cell? ⟨g6, i, none⟩ = _ := (g2.cell i).trans e2
     have l1 := g1.lt
     have l2 := g2.lt
     clear e1 e2
     have F1 := Lib.hid f1
     have F2 := Lib.hid f2
     clear f1 f2 g1 g2
     generalize nth6 a b c x y z i = u at *
     generalize nth6 a' b' c' x' y' z' i = v at *
     by_cases huv : u = v
     · have d : (u.toList == v.toList) = true := toList_eq_true huv
       have hi5 : i < 5 := by
        rcases Nat.lt_or_ge i 5 with h | h
        · exact h
        · obtain rfl : i = 5 := by omega
          have q0 := Hj.out 0 (by omega)
          have q1 := Hj.out 1 (by omega)
          have q2 := Hj.out 2 (by omega)
          have q3 := Hj.out 3 (by omega)
          have q4 := Hj.out 4 (by omega)
          have r1 := F1.out
          have r2 := F2.out
          simp at q0 q1 q2 q3 q4 r1 r2
          exact absurd ⟨q0, q1, q2, q3, q4, by rw [r1, r2, huv]⟩ Heq.out
       have hn : Hid (∀ j, j < i + 1 → [a, b, c, x, y, z][j]? = [a', b', c', x', y', z'][j]?) := Lib.hid fun j hj => by
        rcases Nat.lt_or_ge j i with h | h
        · exact Hj.out j h
        · obtain rfl : j = i := by omega
          rw [F1.out, F2.out, huv]
       clear huv
       go_wp2_with fail
       go_quiet (fail)
       go_wp2_with fail
       refine ⟨⟨i + 1, by go_num, hn.out, by omega, hbx.trans ⟨rfl, rfl, rfl, Nat.le_refl _, fun _ _ => rfl⟩⟩, ?_⟩
       simp [intOf]; omega
     · have d : (u.toList == v.toList) = false := toList_ne huv
       have hR : R = cmpB u v := by
        rw [← hRd.out]
        exact cmp_first _ _ i u v F1.out F2.out huv Hj.out
       clear huv
       go_wp2_with fail
       go_quiet (fail)
       go_wp2_with fail
       replace c1 : (wr.drewN nq).cell? ⟨g5, i, none⟩ = some (.string u) := c1
       replace c2 : (wr.drewN nq).cell? ⟨g6, i, none⟩ = some (.string v) := c2
       replace l1 : g5 < (wr.drewN nq).heap.size := l1
       replace l2 : g6 < (wr.drewN nq).heap.size := l2
       replace hbx : Below Y.heap.size Y (wr.drewN nq) := hbx.trans ⟨rfl, rfl, rfl, Nat.le_refl _, fun _ _ => rfl⟩
       generalize wr.drewN nq = wd at *
       go_quiet (first | (go_at_call 75; exact Calls.quiet_of_same (scmp_any u v _)) | fail)
       go_wp2_with fail
       go_ret
       exact ⟨by rw [hR]; rfl, (bthen hY hY.size hbx).trans ⟨rfl, rfl, rfl, Nat.le_refl _, fun _ _ => rfl⟩⟩
end
end Go.Proofs.YtahegpfdbgbioaaGreat
