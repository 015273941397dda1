import Derived.Test.YtahegpfdbgbioaaGreatA15
set_option maxRecDepth 100000
set_option maxHeartbeats 4000000
namespace Go.Proofs.YtahegpfdbgbioaaGreat
open Go.RowKit
theorem own_at12 {w : World} {B : Nat} {A : Option Addr} {n c : Nat} {l : List ByteArray} (h : w.ownsRow B 9 1 (.slice A n c) n (l.map .string)) (hn : 0 < n) : ∃ g o, A = some ⟨g, o, none⟩ ∧ g < w.heap.size ∧ ∀ j x, l[j]? = some x → w.cell? ⟨g, o + j, none⟩ = some (.string x) := by
 obtain ⟨A', c', e, hr⟩ := Rd.own h
 injection e with e1 _ _
 subst e1
 obtain ⟨g, o, rfl, hg, hc⟩ := hr.at_ hn
 exact ⟨g, o, rfl, hg, fun j x hj => hc j _ (by rw [List.getElem?_map, hj]; rfl)⟩
theorem cutL_take : ∀ (n i : Nat) (s : ByteArray), i ≤ n → (cutL n s).take i = cutL i s
 | _, 0, _, _ => by simp [cutL]
 | 0, i + 1, _, h => absurd h (by omega)
 | n + 1, i + 1, s, h => by
  show (cutC s 0).1 :: (cutL n (cutC s 0).2).take i = _
  rw [cutL_take n i _ (by omega)]
  rfl
theorem cutL_snoc (i : Nat) (s : ByteArray) : cutL (i + 1) s = cutL i s ++ [nmB s i] := by
 have h1 := cutL_take (i + 1) i s (by omega)
 have h2 := cutL_at (i + 1) i s (by omega)
 have h3 := cutL_len (i + 1) s
 have h4 := take_snoc8 h2
 rw [List.take_of_length_le (by omega), h1] at h4
 exact h4
section
variable {w : World}
theorem rfrom_any12 (s : ByteArray) (hs : s.size ≤ 100000) :
 Calls Tryz.prog 35 #[.string s] w fun e w' => e = .returned (.tuple #[.agg #[.string (tupO (fromT s)).1.1, .string (tupO (fromT s)).1.2.1, .string (tupO (fromT s)).1.2.2, .string (tupO (fromT s)).2.1, .string (tupO (fromT s)).2.2.1, .string (tupO (fromT s)).2.2.2], .bool (fromT s).isSome]) ∧ Below w.heap.size w w' := by
 obtain ⟨R, hRd⟩ : ∃ R, Hid (fromT s = R) := ⟨_, Lib.hid rfl⟩
 rw [hRd.out]
 rw [from_zeros] at hRd
 have hR := Bk.new w #[.string ⟨#[]⟩, .string ⟨#[]⟩, .string ⟨#[]⟩, .string ⟨#[]⟩, .string ⟨#[]⟩, .string ⟨#[]⟩] 71
 have hB := bnew w (.cells #[.string ⟨#[]⟩, .string ⟨#[]⟩, .string ⟨#[]⟩, .string ⟨#[]⟩, .string ⟨#[]⟩, .string ⟨#[]⟩] 71)
 obtain ⟨i0, hi0, hz0, hz1, hz2⟩ := info_parts info_str
 go_enter Tryz.func35, Tryz.ntmps35
 go_upto_region 1 with (fail)
 generalize w.alloc (.cells #[.string ⟨#[]⟩, .string ⟨#[]⟩, .string ⟨#[]⟩, .string ⟨#[]⟩, .string ⟨#[]⟩, .string ⟨#[]⟩] 71) = w1 at *
 have hgl := hR.lt
 go_wp2_with fail
 go_loopw [4, 5, 6] (fun vl vr vi wx => ∃ i : Nat, vi = .int .i64 i ∧ i ≤ 5 ∧ vr = .string (restB i s) ∧ (∀ j, j < i → fstC (restB j s) 0 < (restB j s).size) ∧ wx.ownsRow w1.heap.size 9 1 vl i ((cutL i s).map .string) ∧ Below w1.heap.size w1 wx) (fun _ _ vi _ => 5 - (intOf vi).toNat)
 case atStart => exact ⟨0, rfl, by omega, rfl, fun j hj => absurd hj (Nat.not_lt_zero _), World.ownsRow_nil _ _ _ _, Below.refl _ _⟩
 case round =>
  obtain ⟨i, rfl, hi, rfl, hj, ho, hbx⟩ := hrel
  have Hj := Lib.hid hj
  clear hj
  replace hR := hR.below hbx
  replace hB := bthen hB hB.size hbx
  by_cases hil : i < 5
  · have hdi : (i : Int) < 5 := by omega
    have zr := rest_size12 i s
    have k1 : ∀ W : World, _ := fun W => rcutC_any (w := W) (restB i s) 0 (by omega)
    have hsz := cutC_size (restB i s) 0
    have hle := (fstC_spec (restB i s) 0).1
    obtain ⟨nm, hnm⟩ : ∃ nm, Hid (nmB s i = nm) := ⟨_, Lib.hid rfl⟩
    obtain ⟨rs, hrs⟩ : ∃ rs, Hid (restB (i + 1) s = rs) := ⟨_, Lib.hid rfl⟩
    rw [← rest_succ i s, show (cutC (restB i s) 0).1 = nm from hnm.out, hrs.out] at k1
    rw [show (cutC (restB i s) 0).1 = nm from hnm.out] at hsz
    have hrow := cutL_snoc i s
    rw [hnm.out] at hrow
    by_cases hf : fstC (restB i s) 0 < (restB i s).size
    · have hd : ((nm.size : Int) == ((restB i s).size : Int)) = false := by rw [beq_eq_false_iff_ne]; omega
      have Hn : Hid (∀ j, j < i + 1 → fstC (restB j s) 0 < (restB j s).size) := Lib.hid fun j hj => by
       rcases Nat.lt_or_ge j i with q | q
       · exact Hj.out j q
       · obtain rfl : j = i := by omega
         exact hf
      have hms : ((restB i s).size : Int) ≤ 9223372036854775807 := by omega
      have hmn : (nm.size : Int) ≤ 9223372036854775807 := by omega
      clear hf hle hsz
      have Hrow := Lib.hid hrow
      clear hrow
      obtain ⟨A, c, rfl, _⟩ := Rd.own ho
      go_upto_region 7 with (go_at_call 69; refine (k1 _).mono ?_; rintro e w3 ⟨rfl, hb⟩)
      have ho3 := own_below ho hb
      have hbx3 := bthen hbx hbx.size hb
      clear ho hb k1
      go_wp2_with (at_builtin; go_loud (refine wpList_append_src _ rfl (.tmp 28) (.tmp 30) 23 23 rfl w1.heap.size 9 i0 (.string .empty) 1 16 Tryz.underlying23 hi0 hz0 hz1 hz2 rfl (by decide) (.slice A i c) i ((cutL i s).map .string) rfl (World.ownsRow.alloc ho3 _) _ 1 [.string nm] rfl (Src.ofSlice _ Tryz.underlying23 _ 1 1 _ rfl (cells_new1P _ _ _) (str_one [nm])) (by simp only [maxLen]; omega) (by omega) (size_alloc hbx3.size) ?_; intro v1 W5 hown1 hg1 hat1))
      refine ⟨⟨i + 1, by go_num, by omega, by rw [hrs.out], Hn.out, ?_, ?_⟩, ?_⟩
      · rw [Hrow.out, List.map_append]
        exact hown1
      · exact below_of_own (v := .slice A i c) (hbx3.alloc hbx3.size _) hg1 (World.ownsRow.alloc ho3 _) (size_alloc hbx3.size) (Nat.le_refl _)
      · simp [intOf]; omega
    · have hd : ((nm.size : Int) == ((restB i s).size : Int)) = true := by rw [beq_iff_eq]; omega
      obtain rfl : R = none := by rw [← hRd.out, if_neg fun q => hf ((zeros_iff 5 s).1 q.1 i hil)]
      clear hRd hf hrow
      have hms : ((restB i s).size : Int) ≤ 9223372036854775807 := by omega
      have hmn : (nm.size : Int) ≤ 9223372036854775807 := by omega
      clear hle hsz
      go_upto_region 7 with (go_at_call 69; refine (k1 _).mono ?_; rintro e w3 ⟨rfl, hb⟩)
      replace hR := hR.below hb
      replace hB := bthen hB hB.size hb
      obtain ⟨r0, r1, r2, r3, r4, r5⟩ := hR.c6
      have rl := hR.lt
      have rf := hR.fz
      go_wp2_with fail
      obtain ⟨hw, hb6⟩ := set6 hR hB (Nat.le_refl _) (.string ⟨#[]⟩) (.string ⟨#[]⟩) (.string ⟨#[]⟩) (.string ⟨#[]⟩) (.string ⟨#[]⟩) (.string ⟨#[]⟩)
      obtain ⟨y0, y1, y2, y3, y4, y5⟩ := hw.c6
      refine bodyPost_ret (v := .tuple #[.agg #[.string ⟨#[]⟩, .string ⟨#[]⟩, .string ⟨#[]⟩, .string ⟨#[]⟩, .string ⟨#[]⟩, .string ⟨#[]⟩], .bool false]) (by simp [results, Tryz.results35, go_sem, y0, y1, y2, y3, y4, y5]; try rfl) rfl ?_
      exact ⟨rfl, hb6⟩
  · obtain rfl : i = 5 := by omega
    obtain ⟨A, c, rfl, _⟩ := Rd.own ho
    obtain ⟨g, o, rfl, hg, hc⟩ := own_at12 ho (by omega)
    obtain ⟨_, cap, _⟩ : ∃ q : Nat, ∃ _ : 5 ≤ c, q = 0 := ⟨0, by obtain ⟨_, c', e, hr⟩ := Rd.own ho; injection e with _ _ e3; rw [e3]; exact hr.cap, rfl⟩
    have z0 : (nmB s 0).size ≤ s.size := name_size12 0 s
    have z1 : (nmB s 1).size ≤ s.size := name_size12 1 s
    have z2 : (nmB s 2).size ≤ s.size := name_size12 2 s
    have z3 : (nmB s 3).size ≤ s.size := name_size12 3 s
    have z4 : (nmB s 4).size ≤ s.size := name_size12 4 s
    have z5 := rest_size12 5 s
    have t0 : wr.cell? ⟨g, o, none⟩ = _ := hc 0 (nmB s 0) rfl
    have t1 := hc 1 (nmB s 1) rfl
    have t2 := hc 2 (nmB s 2) rfl
    have t3 := hc 3 (nmB s 3) rfl
    have t4 := hc 4 (nmB s 4) rfl
    have hf : Hid (R = if fmdT ((nmB s 0, nmB s 1, nmB s 2), (nmB s 3, nmB s 4, restB 5 s)) = true then some ((nmB s 0, nmB s 1, nmB s 2), (nmB s 3, nmB s 4, restB 5 s)) else none) := Lib.hid (by
     rw [← hRd.out]
     by_cases q : fmdT ((nmB s 0, nmB s 1, nmB s 2), (nmB s 3, nmB s 4, restB 5 s)) = true
     · rw [if_pos q]
       exact if_pos ⟨(zeros_iff 5 s).2 Hj.out, q⟩
     · rw [if_neg q]
       exact if_neg fun p => q p.2)
    clear hRd Hj hc ho
    generalize nmB s 0 = a at *
    generalize nmB s 1 = b at *
    generalize nmB s 2 = d at *
    generalize nmB s 3 = x at *
    generalize nmB s 4 = y at *
    obtain ⟨z, hz⟩ : ∃ z, restB 5 s = z := ⟨_, rfl⟩
    rw [hz] at hf z5
    rw [hz]
    clear hz
    go_upto_region 11 with (fail)
    have hw0 : Below wr.heap.size wr wr := Below.refl _ _
    have hS : ∀ W, Below wr.heap.size wr W → (W.cell? ⟨g, o, none⟩ = some (.string a) ∧ W.cell? ⟨g, o + 1, none⟩ = some (.string b) ∧ W.cell? ⟨g, o + 2, none⟩ = some (.string d) ∧ W.cell? ⟨g, o + 3, none⟩ = some (.string x) ∧ W.cell? ⟨g, o + 4, none⟩ = some (.string y)) := fun W h =>
     ⟨(h.cell (p := ⟨g, o, none⟩) hg).trans t0, (h.cell (p := ⟨g, o + 1, none⟩) hg).trans t1, (h.cell (p := ⟨g, o + 2, none⟩) hg).trans t2, (h.cell (p := ⟨g, o + 3, none⟩) hg).trans t3, (h.cell (p := ⟨g, o + 4, none⟩) hg).trans t4⟩
    go_region_held3 (fun W => W.cell? ⟨g, o, none⟩ = some (.string a) ∧ W.cell? ⟨g, o + 1, none⟩ = some (.string b) ∧ W.cell? ⟨g, o + 2, none⟩ = some (.string d) ∧ W.cell? ⟨g, o + 3, none⟩ = some (.string x) ∧ W.cell? ⟨g, o + 4, none⟩ = some (.string y))
     (first | assumption | exact hS _ (Below.refl _ _).drew | (refine hS _ ?_; (repeat (first | exact Below.refl _ _ | with_reducible refine Below.drew ?_ | with_reducible refine Below.alloc ?_ (Nat.le_refl _) _ | with_reducible refine Below.setCell ?_ (Nat.le_refl _) _)); done) | fail)
     (fail)
    have hT : Bk ((wr.alloc (.cells #[.string a, .string b, .string d, .string x, .string y, .string z] 71)).drew) wr.heap.size #[.string a, .string b, .string d, .string x, .string y, .string z] 71 := Bk.new wr #[.string a, .string b, .string d, .string x, .string y, .string z] 71
    have hbn : Below wr.heap.size wr ((wr.alloc (.cells #[.string a, .string b, .string d, .string x, .string y, .string z] 71)).drew) := ((Below.refl _ wr).alloc (Nat.le_refl _) _).drew
    clear hS hw0
    replace hR := hR.below hbn
    replace hB := bthen hB hB.size hbn
    have t2' := (hbn.cell (p := ⟨g, o + 2, none⟩) hg).trans t2
    have hg' := Nat.lt_of_lt_of_le hg hbn.size
    clear hbn t0 t1 t2 t3 t4 hg hbx
    generalize (wr.alloc (.cells #[.string a, .string b, .string d, .string x, .string y, .string z] 71)).drew = wx at *
    generalize wr.heap.size = gt at *
    obtain ⟨p, hp⟩ : ∃ p, Hid (fmdN (a, b, d) = p) := ⟨_, Lib.hid rfl⟩
    obtain ⟨q, hq⟩ : ∃ q, Hid (fmdN (x, y, z) = q) := ⟨_, Lib.hid rfl⟩
    have kp := fun W => rfmd_is hp.out (by dsimp only; omega) (by dsimp only; omega) (by dsimp only; omega) W
    have kq := fun W => rfmd_is hq.out (by dsimp only; omega) (by dsimp only; omega) (by dsimp only; omega) W
    dsimp only at kp kq
    obtain ⟨a0, a1, a2, a3, a4, a5⟩ := hT.c6
    have al := hT.lt
    go_upto_region 13 with (go_at_call 42; refine (kp _).mono ?_; rintro e w3 ⟨rfl, hb⟩)
    replace hR := hR.below hb
    replace hB := bthen hB hB.size hb
    replace hT := hT.below hb
    replace t2' := (hb.cell (p := ⟨g, o + 2, none⟩) hg').trans t2'
    replace hg' := Nat.lt_of_lt_of_le hg' hb.size
    clear hb kp a0 a1 a2 a3 a4 a5 al
    obtain ⟨a0, a1, a2, a3, a4, a5⟩ := hT.c6
    have al := hT.lt
    go_upto_region 14 with (go_at_call 42; refine (kq _).mono ?_; rintro e w4 ⟨rfl, hb⟩)
    replace hR := hR.below hb
    replace hB := bthen hB hB.size hb
    replace hT := hT.below hb
    replace t2' := (hb.cell (p := ⟨g, o + 2, none⟩) hg').trans t2'
    replace hg' := Nat.lt_of_lt_of_le hg' hb.size
    clear hb kq a0 a1 a2 a3 a4 a5 al
    obtain ⟨a0, a1, a2, a3, a4, a5⟩ := hT.c6
    have al := hT.lt
    obtain ⟨r0, r1, r2, r3, r4, r5⟩ := hR.c6
    have rl := hR.lt
    have rf := hR.fz
    by_cases hall : ¬ d = ⟨#[]⟩ ∧ p = true ∧ q = true
    · obtain ⟨hd, rfl, rfl⟩ := hall
      obtain rfl : R = some ((a, b, d), (x, y, z)) := by rw [hf.out, if_pos (fmdT_iff.2 ⟨hd, hp.out, hq.out⟩)]
      have dd := emp_no hd
      clear hf hd
      go_wp2_with fail
      obtain ⟨hw, hb6⟩ := set6 hR hB (Nat.le_refl _) (.string a) (.string b) (.string d) (.string x) (.string y) (.string z)
      obtain ⟨y0, y1, y2, y3, y4, y5⟩ := hw.c6
      refine bodyPost_ret (v := .tuple #[.agg #[.string a, .string b, .string d, .string x, .string y, .string z], .bool true]) (by simp [results, Tryz.results35, go_sem, y0, y1, y2, y3, y4, y5]; try rfl) rfl ?_
      exact ⟨rfl, hb6⟩
    · obtain rfl : R = none := by
       rw [hf.out, if_neg fun h => hall ?_]
       obtain ⟨h1, h2, h3⟩ := fmdT_iff.1 h
       exact ⟨h1, by rw [← hp.out]; exact h2, by rw [← hq.out]; exact h3⟩
      have dd : d.toList.isEmpty = decide (d = ⟨#[]⟩) := by
       by_cases h : d = ⟨#[]⟩
       · rw [emp_yes h, decide_eq_true h]
       · rw [emp_no h, decide_eq_false h]
      have hall' : p = true → q = true → decide (d = ⟨#[]⟩) = true := fun h1 h2 => by
       rw [decide_eq_true_iff]
       exact Decidable.of_not_not fun h => hall ⟨h, h1, h2⟩
      clear hf hall hp hq
      generalize decide (d = ⟨#[]⟩) = f at *
      cases p <;> cases q <;> try (obtain rfl : f = true := hall' rfl rfl)
      all_goals clear hall'
      all_goals go_wp2_with fail
      all_goals obtain ⟨hw, hb6⟩ := set6 hR hB (Nat.le_refl _) (.string ⟨#[]⟩) (.string ⟨#[]⟩) (.string ⟨#[]⟩) (.string ⟨#[]⟩) (.string ⟨#[]⟩) (.string ⟨#[]⟩)
      all_goals obtain ⟨y0, y1, y2, y3, y4, y5⟩ := hw.c6
      all_goals refine bodyPost_ret (v := .tuple #[.agg #[.string ⟨#[]⟩, .string ⟨#[]⟩, .string ⟨#[]⟩, .string ⟨#[]⟩, .string ⟨#[]⟩, .string ⟨#[]⟩], .bool false]) (by simp [results, Tryz.results35, go_sem, y0, y1, y2, y3, y4, y5]; try rfl) rfl ?_
      all_goals exact ⟨rfl, hb6⟩
end
end Go.Proofs.YtahegpfdbgbioaaGreat
namespace Go.Proofs.YtahegpfdbgbioaaGreat
open Go.RowKit
theorem few_all {a b c x y z : ByteArray} (h : fewT ((a, b, c), (x, y, z)) = true) : a.size ≤ 120 ∧ b.size ≤ 120 ∧ c.size ≤ 120 ∧ x.size ≤ 120 ∧ y.size ≤ 120 ∧ z.size ≤ 120 := by
 have q := of_decide_eq_true h
 simp only [namesT] at q
 exact ⟨q _ (by simp), q _ (by simp), q _ (by simp), q _ (by simp), q _ (by simp), q _ (by simp)⟩
theorem cmpL_range : ∀ l m : List ByteArray, cmpL l m = -1 ∨ cmpL l m = 0 ∨ cmpL l m = 1
 | [], [] => .inr (.inl rfl)
 | [], _ :: _ => .inr (.inl rfl)
 | _ :: _, [] => .inr (.inl rfl)
 | x :: r, y :: q => by
  show (if x = y then cmpL r q else cmpB x y) = _ ∨ (if x = y then cmpL r q else cmpB x y) = _ ∨ (if x = y then cmpL r q else cmpB x y) = _
  split
  · exact cmpL_range r q
  · unfold cmpB
    split
    · exact .inl rfl
    · split
      · exact .inr (.inr rfl)
      · exact .inr (.inl rfl)
theorem node_eqlN (d : Nat) (a b c a' b' c' : ByteArray) (w : World) : (Op.equalIn (d + 2) 69 (.agg #[.string a, .string b, .string c]) (.agg #[.string a', .string b', .string c'])).run Tryz.prog w = .ok (decide (a = a' ∧ b = b' ∧ c = c')) w := by
 have u9 := Tryz.underlying9
 have a9 := Tryz.isAgg9
 have z9 := Tryz.sizeOf9
 have hS : Tryz.prog.underlying 69 = some (.struct (Tryz.prog.fieldsOf 69)) := by kernel_rfl
 have hp : Tryz.prog.stoodInHeld 69 = false := by kernel_rfl
 rw [show d + 2 = (d + 1) + 1 from rfl, run_equalIn_agg w (d + 1) 69 _ _ hS hp]
 simp only [Program.fieldsOf, Tryz.underlying69]
 by_cases h1 : a = a'
 · by_cases h2 : b = b'
   · by_cases h3 : c = c'
     · subst h1 h2 h3
       go_simp
     · subst h1 h2
       have d := toList_ne h3
       go_simp
   · subst h1
     have d := toList_ne h2
     go_simp
 · have d := toList_ne h1
   go_simp
theorem tuple_eql (a b c x y z a' b' c' x' y' z' : ByteArray) (w : World) : (Op.equalIn 10000 71 (.agg #[.string a, .string b, .string c, .string x, .string y, .string z]) (.agg #[.string a', .string b', .string c', .string x', .string y', .string z'])).run Tryz.prog w = .ok (decide (a = a' ∧ b = b' ∧ c = c' ∧ x = x' ∧ y = y' ∧ z = z')) w := by
 have a9 := Tryz.isAgg69
 have z9 := Tryz.sizeOf69
 have hS : Tryz.prog.underlying 71 = some (.struct (Tryz.prog.fieldsOf 71)) := by kernel_rfl
 have hp : Tryz.prog.stoodInHeld 71 = false := by kernel_rfl
 have k1 := fun W => node_eqlN 9997 a b c a' b' c' W
 have k2 := fun W => node_eqlN 9997 x y z x' y' z' W
 have e : decide (a = a' ∧ b = b' ∧ c = c' ∧ x = x' ∧ y = y' ∧ z = z') = (decide (a = a' ∧ b = b' ∧ c = c') && decide (x = x' ∧ y = y' ∧ z = z')) := by
  rw [← Bool.decide_and]
  congr 1
  simp only [and_assoc]
 rw [e]
 generalize decide (a = a' ∧ b = b' ∧ c = c') = p at *
 generalize decide (x = x' ∧ y = y' ∧ z = z') = q at *
 rw [show (10000 : Nat) = 9999 + 1 from rfl, run_equalIn_agg w 9999 71 _ _ hS hp]
 simp only [Program.fieldsOf, Tryz.underlying71]
 clear e
 cases p <;> cases q <;> go_simp
theorem node_eql (a b c a' b' c' : ByteArray) (w : World) : (Op.equalIn 10000 69 (.agg #[.string a, .string b, .string c]) (.agg #[.string a', .string b', .string c'])).run Tryz.prog w = .ok (decide (a = a' ∧ b = b' ∧ c = c')) w := node_eqlN 9998 a b c a' b' c' w
end Go.Proofs.YtahegpfdbgbioaaGreat
namespace Go.Proofs.YtahegpfdbgbioaaGreat
inductive Walks (g : Nat → List Nat) : List Bool → List Nat → List Bool → List Nat → Prop
 | nil (s : List Bool) : Walks g s [] s []
 | old {s : List Bool} {a : Nat} {as' : List Nat} {s' : List Bool} {L : List Nat} (h : s[a]? = some true) (k : Walks g s as' s' L) : Walks g s (a :: as') s' L
 | new {s : List Bool} {a : Nat} {as' : List Nat} {s1 s2 : List Bool} {L1 L2 : List Nat} (h : s[a]? = some false) (k1 : Walks g (s.set a true) (g a) s1 L1) (k2 : Walks g s1 as' s2 L2) : Walks g s (a :: as') s2 (L1 ++ a :: L2)
inductive Way (g : Nat → List Nat) (s : List Bool) : Nat → Nat → Prop
 | at {x : Nat} (h : s[x]? = some false) : Way g s x x
 | on {x y z : Nat} (h : s[x]? = some false) (m : y ∈ g x) (k : Way g s y z) : Way g s x z
theorem Way.fst {g s x y} (h : Way g s x y) : s[x]? = some false := by cases h <;> assumption
theorem Way.lst {g s x y} (h : Way g s x y) : s[y]? = some false := by induction h <;> assumption
theorem Way.trans {g s x y z} (h : Way g s x y) (k : Way g s y z) : Way g s x z := by
 induction h with
 | «at» _ => exact k
 | on h m _ ih => exact .on h m (ih k)
theorem Way.more {g : Nat → List Nat} {s s' : List Bool} {x y : Nat} (hs : ∀ k : Nat, s'[k]? = some false → s[k]? = some false) (h : Way g s' x y) : Way g s x y := by
 induction h with
 | «at» h => exact .at (hs _ h)
 | on h m _ ih => exact .on (hs _ h) m ih
theorem Way.part {g : Nat → List Nat} {s s' : List Bool} {x y : Nat} (h : Way g s x y) (dec : ∀ k : Nat, s[k]? = some false → s'[k]? = some false ∨ s'[k]? = some true) : Way g s' x y ∨ ∃ z, s'[z]? = some true ∧ Way g s x z ∧ Way g s z y := by
 induction h with
 | @«at» x h => rcases dec _ h with d | d
                · exact .inl (.at d)
                · exact .inr ⟨x, d, .at h, .at h⟩
 | @on x y z h m k ih =>
  rcases dec _ h with d | d
  · rcases ih with i | ⟨q, hq, i1, i2⟩
    · exact .inl (.on d m i)
    · exact .inr ⟨q, hq, .on h m i1, i2⟩
  · exact .inr ⟨x, d, .at h, .on h m k⟩
theorem Walks.size {g s as' s' L} (h : Walks g s as' s' L) : s'.length = s.length := by
 induction h with
 | nil => rfl
 | old _ _ ih => exact ih
 | new _ _ _ i1 i2 => rw [i2, i1, List.length_set]
theorem set_get {s : List Bool} {a k : Nat} {b : Bool} : (s.set a true)[k]? = some b ↔ (k = a ∧ a < s.length ∧ b = true) ∨ (k ≠ a ∧ s[k]? = some b) := by
 rw [List.getElem?_set]
 by_cases h : a = k
 · subst h
   by_cases hl : a < s.length <;> simp [hl, eq_comm]
 · have h' : k ≠ a := fun e => h e.symm
   simp [h, h']
theorem count_set {s : List Bool} {a : Nat} (h : s[a]? = some false) : (s.set a true).count false + 1 = s.count false := by
 induction s generalizing a with
 | nil => simp at h
 | cons b t ih =>
  cases a with
  | zero =>
   simp only [List.getElem?_cons_zero, Option.some.injEq] at h
   subst h
   simp
  | succ a =>
   have := ih (a := a) (by simpa using h)
   rw [List.set_cons_succ, List.count_cons, List.count_cons]
   omega
theorem Walks.cf {g s as' s' L} (h : Walks g s as' s' L) : L.length + s'.count false = s.count false := by
 induction h with
 | nil => simp
 | old _ _ ih => exact ih
 | new h _ _ i1 i2 =>
  have := count_set h
  rw [List.length_append, List.length_cons]
  omega
theorem Walks.app {g s as' bs s1 s2 L1 L2} (h : Walks g s as' s1 L1) (k : Walks g s1 bs s2 L2) : Walks g s (as' ++ bs) s2 (L1 ++ L2) := by
 induction h with
 | nil => exact k
 | old h _ ih => exact .old h (ih k)
 | new h k1 _ _ i2 => rw [List.append_assoc, List.cons_append]; exact .new h k1 (i2 k)
theorem Walks.seen {g s as' s' L} (h : Walks g s as' s' L) : (∀ k, s'[k]? = some true ↔ s[k]? = some true ∨ k ∈ L) ∧ (∀ k, s'[k]? = some false ↔ s[k]? = some false ∧ k ∉ L) ∧ (∀ k ∈ L, s[k]? = some false) ∧ L.Nodup := by
 induction h with
 | nil s => simp
 | old _ _ ih => exact ih
 | @new s a as' s1 s2 L1 L2 h k1 k2 i1 i2 =>
  obtain ⟨t1, f1, u1, n1⟩ := i1
  obtain ⟨t2, f2, u2, n2⟩ := i2
  have hl : a < s.length := (List.getElem?_eq_some_iff.1 h).1
  have ha1 : a ∉ L1 := fun m => by
   have := u1 a m; rw [set_get] at this; rcases this with ⟨_, _, e⟩ | ⟨e, _⟩
   · cases e
   · exact e rfl
  refine ⟨fun k => ?_, fun k => ?_, fun k hk => ?_, ?_⟩
  · rw [t2, t1, set_get, List.mem_append, List.mem_cons]
    constructor
    · rintro (((⟨e, _⟩ | ⟨_, e⟩) | e) | e)
      · exact .inr (.inr (.inl e))
      · exact .inl e
      · exact .inr (.inl e)
      · exact .inr (.inr (.inr e))
    · rintro (e | e | e | e)
      · by_cases hk : k = a
        · exact .inl (.inl (.inl ⟨hk, hl, rfl⟩))
        · exact .inl (.inl (.inr ⟨hk, e⟩))
      · exact .inl (.inr e)
      · exact .inl (.inl (.inl ⟨e, hl, rfl⟩))
      · exact .inr e
  · rw [f2, f1, set_get, List.mem_append, List.mem_cons]
    constructor
    · rintro ⟨⟨e1, e2⟩, e3⟩
      rcases e1 with ⟨_, _, e⟩ | ⟨e4, e5⟩
      · cases e
      · exact ⟨e5, by rintro (e | e | e) <;> contradiction⟩
    · rintro ⟨e1, e2⟩
      refine ⟨⟨.inr ⟨fun e => e2 (.inr (.inl e)), e1⟩, fun e => e2 (.inl e)⟩, fun e => e2 (.inr (.inr e))⟩
  · rw [List.mem_append, List.mem_cons] at hk
    rcases hk with hk | rfl | hk
    · have := u1 k hk; rw [set_get] at this; rcases this with ⟨_, _, e⟩ | ⟨_, e⟩
      · cases e
      · exact e
    · exact h
    · have := u2 k hk; rw [f1, set_get] at this; rcases this with ⟨⟨_, _, e⟩ | ⟨_, e⟩, _⟩
      · cases e
      · exact e
  · rw [List.nodup_append]
    refine ⟨n1, List.nodup_cons.2 ⟨fun m => ?_, n2⟩, ?_⟩
    · have := u2 a m; rw [f1, set_get] at this
      rcases this with ⟨⟨_, _, e⟩ | ⟨e, _⟩, _⟩
      · cases e
      · exact e rfl
    · rintro x hx y hy rfl
      rw [List.mem_cons] at hy
      rcases hy with rfl | hy
      · exact ha1 hx
      · have := u2 x hy; rw [f1] at this; exact this.2 hx
theorem Walks.dec {g s as' s' L} (h : Walks g s as' s' L) (k : Nat) (hk : s[k]? = some false) : s'[k]? = some false ∨ s'[k]? = some true := by
 by_cases m : k ∈ L
 · exact .inr ((h.seen.1 k).2 (.inr m))
 · exact .inl ((h.seen.2.1 k).2 ⟨hk, m⟩)
theorem way_step {g : Nat → List Nat} {s : List Bool} {a y : Nat} (w : Way g (s.set a true) a y) : False := by
 have := w.fst; rw [set_get] at this; rcases this with ⟨_, _, e⟩ | ⟨e, _⟩
 · cases e
 · exact e rfl
theorem set_sub {s : List Bool} {a : Nat} (k : Nat) (h : (s.set a true)[k]? = some false) : s[k]? = some false := by
 rw [set_get] at h; rcases h with ⟨_, _, e⟩ | ⟨_, e⟩
 · cases e
 · exact e
theorem way_last {g : Nat → List Nat} {s : List Bool} {a x y : Nat} (w : Way g s x y) : Way g (s.set a true) x y ∨ (Way g s x a ∧ (y = a ∨ ∃ b ∈ g a, Way g (s.set a true) b y)) := by
 induction w with
 | @«at» x h =>
  by_cases e : x = a
  · subst e; exact .inr ⟨.at h, .inl rfl⟩
  · exact .inl (.at (by rw [set_get]; exact .inr ⟨e, h⟩))
 | @on x y z h m k ih =>
  rcases ih with i | ⟨j, i⟩
  · by_cases e : x = a
    · subst e; exact .inr ⟨.at h, .inr ⟨y, m, i⟩⟩
    · exact .inl (.on (by rw [set_get]; exact .inr ⟨e, h⟩) m i)
  · exact .inr ⟨.on h m j, i⟩
theorem Walks.come {g s as' s' L} (h : Walks g s as' s' L) : ∀ y, y ∈ L ↔ ∃ a ∈ as', Way g s a y := by
 induction h with
 | nil => simp
 | @old s a as' s' L h k ih =>
  intro y; rw [ih y]
  constructor
  · rintro ⟨b, m, w⟩; exact ⟨b, List.mem_cons_of_mem _ m, w⟩
  · rintro ⟨b, m, w⟩
    rcases List.mem_cons.1 m with rfl | m
    · have := w.fst; rw [h] at this; cases this
    · exact ⟨b, m, w⟩
 | @new s a as' s1 s2 L1 L2 h k1 k2 i1 i2 =>
  intro y
  have hl : a < s.length := (List.getElem?_eq_some_iff.1 h).1
  have first : ∀ y, Way g s a y ↔ y = a ∨ y ∈ L1 := by
   intro y
   constructor
   · intro w
     rcases way_last w with i | ⟨_, i | ⟨b, m, i⟩⟩
     · exact (way_step i).elim
     · exact .inl i
     · exact .inr ((i1 y).2 ⟨b, m, i⟩)
   · rintro (rfl | m)
     · exact .at h
     · obtain ⟨b, mb, w⟩ := (i1 y).1 m
       exact .on h mb (w.more set_sub)
  have s1f : ∀ k, s1[k]? = some false → s[k]? = some false := fun k hk => by
   rw [k1.seen.2.1] at hk; exact set_sub k hk.1
  rw [List.mem_append, List.mem_cons]
  constructor
  · rintro (m | m | m)
    · exact ⟨a, List.mem_cons_self, (first y).2 (.inr m)⟩
    · exact ⟨a, List.mem_cons_self, (first y).2 (.inl m)⟩
    · obtain ⟨b, mb, w⟩ := (i2 y).1 m
      exact ⟨b, List.mem_cons_of_mem _ mb, w.more s1f⟩
  · rintro ⟨b, mb, w⟩
    rcases List.mem_cons.1 mb with rfl | mb
    · rcases (first y).1 w with e | e
      · exact .inr (.inl e)
      · exact .inl e
    · have hd : ∀ k, s[k]? = some false → s1[k]? = some false ∨ s1[k]? = some true := fun k hk => by
       by_cases e : k = a
       · subst e; exact .inr ((k1.seen.1 k).2 (.inl (by rw [set_get]; exact .inl ⟨rfl, hl, rfl⟩)))
       · exact k1.dec k (by rw [set_get]; exact .inr ⟨e, hk⟩)
      rcases w.part hd with i | ⟨z, hz, i, j⟩
      · exact .inr (.inr ((i2 y).2 ⟨b, mb, i⟩))
      ·
       have hz' : z = a ∨ z ∈ L1 := by
        rw [k1.seen.1, set_get] at hz
        rcases hz with (⟨e, _⟩ | ⟨_, e⟩) | e
        · exact .inl e
        · have := j.fst; rw [e] at this; cases this
        · exact .inr e
       have wz : Way g s a y := ((first z).2 hz').trans j
       rcases (first y).1 wz with e | e
       · exact .inr (.inl e)
       · exact .inl e
def Bef (L : List Nat) (y c : Nat) : Prop := ∃ P Q, L = P ++ c :: Q ∧ (y ∈ P ∨ y = c)
theorem Bef.left {L M : List Nat} {y c} (h : Bef L y c) : Bef (L ++ M) y c := by
 obtain ⟨P, Q, rfl, k⟩ := h; exact ⟨P, Q ++ M, by simp, k⟩
theorem Bef.right {L M : List Nat} {y c} (h : Bef M y c) : Bef (L ++ M) y c := by
 obtain ⟨P, Q, rfl, k⟩ := h; exact ⟨L ++ P, Q, by simp, k.elim (fun m => .inl (by simp [m])) .inr⟩
theorem Bef.mid {L M : List Nat} {y c} (hy : y ∈ L) (hc : c ∈ M) : Bef (L ++ M) y c := by
 obtain ⟨P, Q, rfl⟩ := List.append_of_mem hc
 exact ⟨L ++ P, Q, by simp, .inl (by simp [hy])⟩
theorem Walks.order {g s as' s' L} (h : Walks g s as' s' L) : ∀ x ∈ L, ∀ y, Way g s x y → y ∈ L ∧ ∃ c, c ∈ L ∧ Way g s x c ∧ Way g s c x ∧ Bef L y c := by
 induction h with
 | nil => simp
 | old _ _ ih => exact ih
 | @new s a as' s1 s2 L1 L2 h k1 k2 i1 i2 =>
  have hl : a < s.length := (List.getElem?_eq_some_iff.1 h).1
  have first : ∀ y, Way g s a y ↔ y = a ∨ y ∈ L1 := by
   intro y
   have := (Walks.new h k1 (Walks.nil s1) : Walks g s [a] s1 (L1 ++ [a])).come y
   simp at this
   rw [← this]; exact Or.comm
  have s1f : ∀ k, s1[k]? = some false → s[k]? = some false := fun k hk => by
   rw [k1.seen.2.1] at hk; exact set_sub k hk.1
  have hd : ∀ k, s[k]? = some false → s1[k]? = some false ∨ s1[k]? = some true := fun k hk => by
   by_cases e : k = a
   · subst e; exact .inr ((k1.seen.1 k).2 (.inl (by rw [set_get]; exact .inl ⟨rfl, hl, rfl⟩)))
   · exact k1.dec k (by rw [set_get]; exact .inr ⟨e, hk⟩)
  have hsp : L1 ++ a :: L2 = (L1 ++ [a]) ++ L2 := by simp
  have inA : ∀ y, Way g s a y → Bef (L1 ++ a :: L2) y a := fun y w => by
   refine ⟨L1, L2, rfl, ?_⟩
   rcases (first y).1 w with e | e
   · exact .inr e
   · exact .inl e
  have memA : ∀ y, Way g s a y → y ∈ L1 ++ a :: L2 := fun y w => by
   rcases (first y).1 w with e | e
   · simp [e]
   · simp [e]
  intro x hx y w
  rw [List.mem_append, List.mem_cons] at hx
  rcases hx with hx | rfl | hx
  · rcases way_last w with i | ⟨u, i⟩
    · obtain ⟨q, c, c0, c1, c2, c3⟩ := i1 x hx y i
      exact ⟨by simp [q], c, by simp [c0], c1.more set_sub, c2.more set_sub, c3.left⟩
    · have wa : Way g s a y := by
       rcases i with rfl | ⟨b, m, i⟩
       · exact .at h
       · exact .on h m (i.more set_sub)
      exact ⟨memA _ wa, a, memA _ (.at h), u, (first x).2 (.inr hx), inA _ wa⟩
  · exact ⟨memA _ w, x, memA _ (.at h), .at h, .at h, inA _ w⟩
  · rcases w.part hd with i | ⟨z, hz, i, j⟩
    · obtain ⟨q, c, c0, c1, c2, c3⟩ := i2 x hx y i
      exact ⟨by simp [q], c, by simp [c0], c1.more s1f, c2.more s1f, by rw [hsp]; exact c3.right⟩
    · have hz' : z = a ∨ z ∈ L1 := by
       rw [k1.seen.1, set_get] at hz
       rcases hz with (⟨e, _⟩ | ⟨_, e⟩) | e
       · exact .inl e
       · have := j.fst; rw [e] at this; cases this
       · exact .inr e
      have wz : Way g s a y := ((first z).2 hz').trans j
      have hy : y ∈ L1 ++ [a] := by rcases (first y).1 wz with e | e <;> simp [e]
      have wx : s[x]? = some false := w.fst
      exact ⟨memA _ wz, x, by simp [hx], .at wx, .at wx, by rw [hsp]; exact Bef.mid hy hx⟩
abbrev Ed := Int × Int × Bool
def fr (e : Ed) : Nat := e.1.toNat
def tt (e : Ed) : Nat := e.2.1.toNat
def rise (e : Ed) : Int := if e.2.2 then 1 else 0
theorem rise_ge (e : Ed) : 0 ≤ rise e ∧ rise e ≤ 1 := by unfold rise; cases e.2.2 <;> simp
def turn (e : Ed) : Ed := (e.2.1, e.1, e.2.2)
def outE (l : List Ed) (a : Nat) : List Ed := l.filter fun e => decide (fr e = a)
def goE (l : List Ed) (a : Nat) : List Nat := (outE l a).map tt
def InR (n : Nat) (l : List Ed) : Prop := ∀ e ∈ l, 0 ≤ e.1 ∧ e.1 < n ∧ 0 ≤ e.2.1 ∧ e.2.1 < n
theorem InR.fr {n l e} (h : InR n l) (m : e ∈ l) : fr e < n := by have := h e m; unfold YtahegpfdbgbioaaGreat.fr; omega
theorem InR.tt {n l e} (h : InR n l) (m : e ∈ l) : tt e < n := by have := h e m; unfold YtahegpfdbgbioaaGreat.tt; omega
theorem mem_outE {l : List Ed} {a e} : e ∈ outE l a ↔ e ∈ l ∧ fr e = a := by simp [outE]
theorem mem_goE {l : List Ed} {a b} : b ∈ goE l a ↔ ∃ e ∈ l, fr e = a ∧ tt e = b := by simp [goE, mem_outE, and_assoc]
def Sol (n : Nat) (l : List Ed) (v : Nat → Int) : Prop := (∀ i, i < n → 0 ≤ v i) ∧ ∀ e ∈ l, v (tt e) + rise e ≤ v (fr e)
def Least (n : Nat) (l : List Ed) (v : Nat → Int) : Prop := Sol n l v ∧ ∀ u, Sol n l u → ∀ i, i < n → v i ≤ u i
inductive Reach (l : List Ed) : Nat → Nat → Prop
 | refl (x : Nat) : Reach l x x
 | on {x y z : Nat} (m : y ∈ goE l x) (k : Reach l y z) : Reach l x z
def Cyc (l : List Ed) : Prop := ∃ e ∈ l, e.2.2 = true ∧ Reach l (tt e) (fr e)
theorem Reach.trans {l x y z} (h : Reach l x y) (k : Reach l y z) : Reach l x z := by
 induction h with
 | refl => exact k
 | on m _ ih => exact .on m (ih k)
theorem Reach.one {l : List Ed} {e : Ed} (m : e ∈ l) : Reach l (fr e) (tt e) := .on (mem_goE.2 ⟨e, m, rfl, rfl⟩) (.refl _)
theorem Reach.sub {l m : List Ed} (hs : ∀ e ∈ l, e ∈ m) {x y} (h : Reach l x y) : Reach m x y := by
 induction h with
 | refl => exact .refl _
 | on k _ ih => obtain ⟨e, he, h1, h2⟩ := mem_goE.1 k; exact .on (mem_goE.2 ⟨e, hs e he, h1, h2⟩) ih
theorem Cyc.sub {l m : List Ed} (hs : ∀ e ∈ l, e ∈ m) (h : Cyc l) : Cyc m := by
 obtain ⟨e, he, n, r⟩ := h; exact ⟨e, hs e he, n, r.sub hs⟩
theorem turn_turn (l : List Ed) : (l.map turn).map turn = l := by rw [List.map_map]; exact (List.map_congr_left fun e _ => rfl).trans (List.map_id l)
theorem Reach.turn {l x y} (h : Reach l x y) : Reach (l.map turn) y x := by
 induction h with
 | refl => exact .refl _
 | on m _ ih =>
  obtain ⟨e, he, rfl, rfl⟩ := mem_goE.1 m
  exact ih.trans (Reach.one (List.mem_map.2 ⟨e, he, rfl⟩ : YtahegpfdbgbioaaGreat.turn e ∈ l.map YtahegpfdbgbioaaGreat.turn))
theorem Reach.unturn {l x y} (h : Reach (l.map YtahegpfdbgbioaaGreat.turn) x y) : Reach l y x := by
 have := h.turn; rwa [turn_turn] at this
theorem Way.reach {l s x y} (h : Way (goE l) s x y) : Reach l x y := by
 induction h with
 | «at» _ => exact .refl _
 | on _ m _ ih => exact .on m ih
theorem Reach.way {n : Nat} {l : List Ed} {s : List Bool} (hl : InR n l) (hs : ∀ k : Nat, k < n → s[k]? = some false) {x y} (h : Reach l x y) (hx : x < n) : Way (goE l) s x y := by
 induction h with
 | refl => exact .at (hs _ hx)
 | on m _ ih =>
  obtain ⟨e, he, rfl, rfl⟩ := mem_goE.1 m
  exact .on (hs _ hx) (mem_goE.2 ⟨e, he, rfl, rfl⟩) (ih (hl.tt he))
theorem InR.turn {n l} (h : InR n l) : InR n (l.map turn) := by
 intro e m; obtain ⟨d, hd, rfl⟩ := List.mem_map.1 m
 have := h d hd; simp only [YtahegpfdbgbioaaGreat.turn]; omega
theorem Sol.reach {n l v} (h : Sol n l v) {x y} (r : Reach l x y) : v y ≤ v x := by
 induction r with
 | refl => exact Int.le_refl _
 | on m _ ih =>
  obtain ⟨e, he, rfl, rfl⟩ := mem_goE.1 m
  have := h.2 e he; have := rise_ge e; omega
theorem Cyc.none {n l v} (h : Cyc l) (k : Sol n l v) : False := by
 obtain ⟨e, he, hn, r⟩ := h
 have h1 := k.reach r
 have h2 := k.2 e he
 simp [rise, hn] at h2
 omega
theorem Sol.sub {n l m v} (hs : ∀ e ∈ l, e ∈ m) (h : Sol n m v) : Sol n l v := ⟨h.1, fun e he => h.2 e (hs e he)⟩
theorem Least.same {n l u v} (h : Least n l u) (k : Least n l v) {i : Nat} (hi : i < n) : u i = v i := Int.le_antisymm (h.2 _ k.1 i hi) (k.2 _ h.1 i hi)
theorem Least.congr {n l m v} (hs : ∀ e, e ∈ l ↔ e ∈ m) (h : Least n l v) : Least n m v :=
 ⟨h.1.sub fun e he => (hs e).2 he, fun u hu => h.2 u (hu.sub fun e he => (hs e).1 he)⟩
structure OrdOk (l : List Ed) (n : Nat) (ord : List Nat) : Prop where
 nd : ord.Nodup
 mem : ∀ k, k ∈ ord ↔ k < n
 back : ∀ x y, x < n → Reach l y x → ∃ c, Reach l c x ∧ Reach l x c ∧ Bef ord y c
theorem ord_of {l : List Ed} {n : Nat} (hl : InR n l) {s' : List Bool} {L : List Nat} (h : Walks (goE (l.map turn)) (List.replicate n false) (List.range n) s' L) : OrdOk l n L := by
 have hs : ∀ k : Nat, k < n → (List.replicate n false)[k]? = some false := fun k hk => by rw [List.getElem?_replicate]; simp [hk]
 have hm : ∀ k, k ∈ L ↔ k < n := fun k => by
  rw [h.come k]
  constructor
  · rintro ⟨a, _, w⟩
    have := (List.getElem?_eq_some_iff.1 w.lst).1; simpa using this
  · intro hk; exact ⟨k, List.mem_range.2 hk, .at (hs k hk)⟩
 refine ⟨h.seen.2.2.2, hm, fun x y hx r => ?_⟩
 obtain ⟨_, c, _, c1, c2, c3⟩ := h.order x ((hm x).2 hx) y (r.turn.way hl.turn hs hx)
 exact ⟨c, c1.reach.unturn, c2.reach.unturn, c3⟩
structure Rings (l : List Ed) (all : List (List Nat)) : Prop where
 nd : all.flatten.Nodup
 one : ∀ A r B, all = A ++ r :: B → r ≠ [] ∧ (∀ e ∈ l, fr e ∈ r → tt e ∈ (A ++ [r]).flatten) ∧ ∀ x ∈ r, ∀ y ∈ r, Reach l x y
structure Told (l : List Ed) (n : Nat) (Q : List Nat) (s : List Bool) (all : List (List Nat)) : Prop where
 len : s.length = n
 told : ∀ k : Nat, s[k]? = some true ↔ k ∈ all.flatten
 past : ∀ k ∈ Q, s[k]? = some true
 rings : Rings l all
theorem Rings.closed {l all} (h : Rings l all) {e : Ed} (he : e ∈ l) (hk : fr e ∈ all.flatten) : tt e ∈ all.flatten := by
 obtain ⟨r, hr, hm⟩ := List.mem_flatten.1 hk
 obtain ⟨A, B, rfl⟩ := List.append_of_mem hr
 have := (h.one A r B rfl).2.1 e he hm
 simp only [List.flatten_append, List.flatten_cons, List.flatten_nil, List.append_nil, List.mem_append] at this ⊢
 rcases this with h | h
 · exact .inl h
 · exact .inr (.inl h)
theorem Rings.closed' {l all} (h : Rings l all) {x y} (r : Reach l x y) (hk : x ∈ all.flatten) : y ∈ all.flatten := by
 induction r with
 | refl => exact hk
 | on m _ ih => obtain ⟨e, he, rfl, rfl⟩ := mem_goE.1 m; exact ih (h.closed he hk)
theorem Told.start {l : List Ed} {n : Nat} : Told l n [] (List.replicate n false) [] where
 len := by simp
 told k := by rw [List.getElem?_replicate]; by_cases h : k < n <;> simp [h]
 past k hk := by cases hk
 rings := ⟨by simp, fun A r B e => by simp at e⟩
theorem snoc_split {α} {all A B : List α} {r x : α} (h : all ++ [x] = A ++ r :: B) : (∃ B', B = B' ++ [x] ∧ all = A ++ r :: B') ∨ (B = [] ∧ A = all ∧ r = x) := by
 rcases List.eq_nil_or_concat B with rfl | ⟨B', b, rfl⟩
 · right
   have := List.append_inj' h rfl
   simp at this
   exact ⟨rfl, this.1.symm, this.2.symm⟩
 · left
   have h' : all ++ [x] = (A ++ r :: B') ++ [b] := by simpa using h
   have := List.append_inj' h' rfl
   simp at this
   exact ⟨B', by simp [this.2], this.1⟩
theorem Told.step {l : List Ed} {n : Nat} {P Q : List Nat} {a : Nat} {s s' : List Bool} {all : List (List Nat)} {ring : List Nat} (hl : InR n l) (ho : OrdOk l n (P ++ a :: Q)) (h : Told l n Q s all)
 (w : Walks (goE l) s [a] s' ring) : Told l n (a :: Q) s' (if ring = [] then all else all ++ [ring]) := by
 have han : a < n := (ho.mem a).1 (by simp)
 have hsa : s[a]? = some true ∨ s[a]? = some false := by
  have : a < s.length := by rw [h.len]; exact han
  rw [List.getElem?_eq_getElem this]; cases s[a] <;> simp
 have hring : ∀ y, y ∈ ring ↔ Way (goE l) s a y := by simpa using w.come
 rcases hsa with hsa | hsa
 · have e : ring = [] := by
    cases ring with
    | nil => rfl
    | cons x t =>
     have := ((hring x).1 (by simp)).fst
     rw [hsa] at this; cases this
   subst e
   have hs' : s' = s := by
    have hx : s'.length = s.length := w.size
    apply List.ext_getElem? ; intro k
    have q1 := w.seen.1 k; have q2 := w.seen.2.1 k
    simp only [List.not_mem_nil, or_false, not_false_eq_true, and_true] at q1 q2
    cases h1 : s[k]? with
    | none => rw [List.getElem?_eq_none_iff] at h1 ⊢; omega
    | some b => cases b <;> simp_all
   rw [hs', if_pos rfl]
   exact ⟨h.len, h.told, fun k hk => (List.mem_cons.1 hk).elim (fun e => e ▸ hsa) (h.past k), h.rings⟩
 · have hne : ring ≠ [] := fun e => by
    have := (hring a).2 (.at hsa); rw [e] at this; cases this
   have unt : ∀ k : Nat, s[k]? = some false → k ∉ all.flatten := fun k hk m => by
    have := (h.told k).2 m; rw [hk] at this; cases this
   have home : ∀ x ∈ ring, Reach l x a := by
    intro x hx
    have wx := (hring x).1 hx
    have hxn : x < n := by have := (List.getElem?_eq_some_iff.1 wx.lst).1; rw [h.len] at this; exact this
    obtain ⟨c, c1, c2, P', Q', e, hb⟩ := ho.back x a hxn wx.reach
    have hcn : c ∉ all.flatten := fun m => unt x wx.lst (h.rings.closed' c1 m)
    have hcQ : c ∉ Q := fun m => hcn ((h.told c).1 (h.past c m))
    have hca : c = a := by
     rcases hb with hb | hb
     ·
      exfalso
      have hnd := ho.nd
      have hc : c ∈ P ++ a :: Q := by rw [e]; simp
      rw [List.mem_append, List.mem_cons] at hc
      rcases hc with hc | rfl | hc
      ·
       obtain ⟨P1, P2, rfl⟩ := List.append_of_mem hc
       obtain ⟨R1, R2, rfl⟩ := List.append_of_mem hb
       have e' : P1 ++ c :: (P2 ++ a :: Q) = (R1 ++ a :: R2) ++ c :: Q' := by simpa using e
       have n1 : (P1 ++ c :: (P2 ++ a :: Q)).Nodup := by simpa using hnd
       have hPc : c ∉ P1 := fun m => (List.nodup_append.1 n1).2.2 c m c (by simp) rfl
       have n2 := n1; rw [e'] at n2
       have hRc : c ∉ R1 ++ a :: R2 := fun m => (List.nodup_append.1 n2).2.2 c m c (by simp) rfl
       have hP : P1 = R1 ++ a :: R2 := by
        have t1 : (P1 ++ c :: (P2 ++ a :: Q)).takeWhile (fun z => decide (z ≠ c)) = P1 := by
         rw [List.takeWhile_append_of_pos (fun z hz => by simp; rintro rfl; exact hPc hz)]; simp
        have t2 : ((R1 ++ a :: R2) ++ c :: Q').takeWhile (fun z => decide (z ≠ c)) = R1 ++ a :: R2 := by
         rw [List.takeWhile_append_of_pos (fun z hz => by simp; rintro rfl; exact hRc hz)]; simp
        rw [← t1, e', t2]
       rw [hP] at n1
       exact (List.nodup_append.1 n1).2.2 a (by simp) a (by simp) rfl
      · have n2 := hnd; rw [e] at n2
        exact (List.nodup_append.1 n2).2.2 c hb c (by simp) rfl
      · exact hcQ hc
     · exact hb.symm
    exact hca ▸ c2
   rw [if_neg hne]
   have told' : ∀ k : Nat, s'[k]? = some true ↔ k ∈ (all ++ [ring]).flatten := fun k => by
    rw [w.seen.1, h.told]; simp
   refine ⟨by rw [w.size, h.len], told', fun k hk => ?_, ⟨?_, fun A r B e => ?_⟩⟩
   · rw [w.seen.1]
     rcases List.mem_cons.1 hk with rfl | hk
     · exact .inr ((hring k).2 (.at hsa))
     · exact .inl (h.past k hk)
   · rw [List.flatten_append, List.nodup_append]
     refine ⟨h.rings.nd, by simpa using w.seen.2.2.2, ?_⟩
     rintro x hx y hy rfl
     exact unt x (w.seen.2.2.1 x (by simpa using hy)) hx
   · rcases snoc_split e with ⟨B', _, e'⟩ | ⟨_, rfl, rfl⟩
     · exact h.rings.one A r B' e'
     · refine ⟨hne, fun e he hf => ?_, fun x hx y hy => (home x hx).trans ((hring y).1 hy).reach⟩
       rw [← told', w.seen.1]
       have wf := (hring _).1 hf
       have htn := hl.tt he
       have : s[tt e]? = some true ∨ s[tt e]? = some false := by
        have : tt e < s.length := by rw [h.len]; exact htn
        rw [List.getElem?_eq_getElem this]; cases s[tt e] <;> simp
       rcases this with t | t
       · exact .inl t
       · exact .inr ((hring _).2 (wf.trans (.on wf.lst (mem_goE.2 ⟨e, he, rfl, rfl⟩) (.at t))))
theorem Told.whole {l : List Ed} {n : Nat} {ord : List Nat} {s all} (ho : OrdOk l n ord) (h : Told l n ord s all) : ∀ k, k < n ↔ k ∈ all.flatten := fun k => by
 rw [← h.told k]
 constructor
 · intro hk; exact h.past k ((ho.mem k).2 hk)
 · intro hk; have := (List.getElem?_eq_some_iff.1 hk).1; rw [h.len] at this; exact this
def lvAt (v : List Int) (k : Nat) : Int := v.getD k 0
def up1 (v : List Int) (lev : Int) (e : Ed) : Option Int :=
 if lvAt v (tt e) = -1 then (if e.2.2 = true then none else some lev) else some (max lev (lvAt v (tt e) + rise e))
def upE (v : List Int) : Int → List Ed → Option Int
 | lev, [] => some lev
 | lev, e :: es => match up1 v lev e with
  | none => none
  | some z => upE v z es
def upR (v : List Int) (l : List Ed) : Int → List Nat → Option Int
 | lev, [] => some lev
 | lev, a :: as' => match upE v lev (outE l a) with
  | none => none
  | some z => upR v l z as'
def setR (v : List Int) (z : Int) : List Nat → List Int
 | [] => v
 | a :: as' => setR (v.set a z) z as'
theorem up1_some {v lev e z} (h : up1 v lev e = some z) : lev ≤ z ∧ (lvAt v (tt e) = -1 → e.2.2 = false) ∧ (lvAt v (tt e) ≠ -1 → lvAt v (tt e) + rise e ≤ z) ∧ (z = lev ∨ (lvAt v (tt e) ≠ -1 ∧ z = lvAt v (tt e) + rise e)) := by
 unfold up1 at h
 by_cases h1 : lvAt v (tt e) = -1
 · rw [if_pos h1] at h
   by_cases h2 : e.2.2 = true
   · rw [if_pos h2] at h; cases h
   · rw [if_neg h2] at h
     cases h
     exact ⟨Int.le_refl _, fun _ => by simpa using h2, fun k => absurd h1 k, .inl rfl⟩
 · rw [if_neg h1] at h
   cases h
   refine ⟨by omega, fun k => absurd k h1, fun _ => by omega, ?_⟩
   rcases Int.le_total lev (lvAt v (tt e) + rise e) with k | k
   · exact .inr ⟨h1, by omega⟩
   · exact .inl (by omega)
theorem upE_some {v lev} {es : List Ed} {z} (h : upE v lev es = some z) : lev ≤ z ∧ (∀ e ∈ es, lvAt v (tt e) = -1 → e.2.2 = false) ∧ (∀ e ∈ es, lvAt v (tt e) ≠ -1 → lvAt v (tt e) + rise e ≤ z) ∧ (z = lev ∨ ∃ e ∈ es, lvAt v (tt e) ≠ -1 ∧ z = lvAt v (tt e) + rise e) := by
 induction es generalizing lev with
 | nil => cases h; simp
 | cons e es ih =>
  unfold upE at h
  cases h1 : up1 v lev e with
  | none => rw [h1] at h; cases h
  | some y =>
   rw [h1] at h
   obtain ⟨a1, a2, a3, a4⟩ := up1_some h1
   obtain ⟨b1, b2, b3, b4⟩ := ih h
   refine ⟨by omega, ?_, ?_, ?_⟩
   · intro d hd; rcases List.mem_cons.1 hd with rfl | hd
     · exact a2
     · exact b2 d hd
   · intro d hd; rcases List.mem_cons.1 hd with rfl | hd
     · intro k; have := a3 k; omega
     · exact b3 d hd
   · rcases b4 with rfl | ⟨d, hd, k⟩
     · rcases a4 with rfl | k
       · exact .inl rfl
       · exact .inr ⟨e, by simp, k⟩
     · exact .inr ⟨d, by simp [hd], k⟩
theorem upE_none {v lev} {es : List Ed} (h : upE v lev es = none) : ∃ e ∈ es, lvAt v (tt e) = -1 ∧ e.2.2 = true := by
 induction es generalizing lev with
 | nil => cases h
 | cons e es ih =>
  unfold upE at h
  cases h1 : up1 v lev e with
  | none =>
   unfold up1 at h1
   by_cases k1 : lvAt v (tt e) = -1
   · by_cases k2 : e.2.2 = true
     · exact ⟨e, by simp, k1, k2⟩
     · rw [if_pos k1, if_neg k2] at h1; cases h1
   · rw [if_neg k1] at h1; cases h1
  | some y =>
   rw [h1] at h
   obtain ⟨d, hd, k⟩ := ih h
   exact ⟨d, by simp [hd], k⟩
theorem upE_append {v lev} {es fs : List Ed} : upE v lev (es ++ fs) = match upE v lev es with | none => none | some z => upE v z fs := by
 induction es generalizing lev with
 | nil => rfl
 | cons e es ih =>
  rw [List.cons_append]
  simp only [upE]
  cases up1 v lev e with
  | none => rfl
  | some y => exact ih
theorem upR_flat {v l lev} {r : List Nat} : upR v l lev r = upE v lev ((r.map (outE l)).flatten) := by
 induction r generalizing lev with
 | nil => rfl
 | cons a as' ih =>
  rw [List.map_cons, List.flatten_cons, upE_append]; unfold upR
  cases upE v lev (outE l a) with
  | none => rfl
  | some z => exact ih
theorem mem_ringE {l : List Ed} {r : List Nat} {e : Ed} : e ∈ (r.map (outE l)).flatten ↔ e ∈ l ∧ fr e ∈ r := by
 simp only [List.mem_flatten, List.mem_map]
 constructor
 · rintro ⟨_, ⟨a, ha, rfl⟩, he⟩
   obtain ⟨h1, rfl⟩ := mem_outE.1 he
   exact ⟨h1, ha⟩
 · rintro ⟨h1, h2⟩
   exact ⟨_, ⟨_, h2, rfl⟩, mem_outE.2 ⟨h1, rfl⟩⟩
theorem setR_len {v z} {r : List Nat} : (setR v z r).length = v.length := by
 induction r generalizing v with
 | nil => rfl
 | cons a as' ih => rw [setR, ih, List.length_set]
theorem setR_get {v : List Int} {z : Int} {r : List Nat} (k : Nat) : (setR v z r)[k]? = if k ∈ r ∧ k < v.length then some z else v[k]? := by
 induction r generalizing v with
 | nil => simp [setR]
 | cons a as' ih =>
  rw [setR, ih, List.length_set, List.getElem?_set]
  by_cases h1 : k ∈ as' ∧ k < v.length
  · rw [if_pos h1, if_pos ⟨by simp [h1.1], h1.2⟩]
  · rw [if_neg h1]
    by_cases h2 : a = k
    · subst h2
      by_cases h3 : a < v.length
      · simp [h3]
      · simp [h3]
    · rw [if_neg h2, if_neg (by
       rintro ⟨m, h3⟩
       rcases List.mem_cons.1 m with e | m
       · exact h2 e.symm
       · exact h1 ⟨m, h3⟩)]
structure Lv (l : List Ed) (n : Nat) (A : List (List Nat)) (v : List Int) : Prop where
 len : v.length = n
 un : ∀ k, k < n → k ∉ A.flatten → v[k]? = some (-1)
 told : ∀ k ∈ A.flatten, ∃ z, v[k]? = some z ∧ 0 ≤ z ∧ z ≤ A.length ∧ (∀ u, Sol n l u → z ≤ u k) ∧ ∀ e ∈ l, fr e = k → ∃ y, v[tt e]? = some y ∧ 0 ≤ y ∧ y + rise e ≤ z
theorem Lv.start {l n} : Lv l n [] (List.replicate n (-1)) where
 len := by simp
 un k hk _ := by rw [List.getElem?_replicate]; simp [hk]
 told k hk := by simp at hk
theorem Lv.bound {l n A v} (h : Lv l n A v) {k : Nat} {z : Int} (hz : v[k]? = some z) : -1 ≤ z ∧ z ≤ A.length := by
 by_cases m : k ∈ A.flatten
 · obtain ⟨y, hy, h0, h1, _⟩ := h.told k m
   rw [hz] at hy; cases hy; omega
 · have hk : k < n := by have := (List.getElem?_eq_some_iff.1 hz).1; rw [h.len] at this; exact this
   have := h.un k hk m; rw [hz] at this; cases this; omega
theorem lv_get {v : List Int} {k : Nat} {z : Int} (h : v[k]? = some z) : lvAt v k = z := by
 unfold lvAt; rw [List.getD_eq_getElem?_getD, h]; rfl
theorem Lv.edge {l n all A r B v} (hR : Rings l all) (e : all = A ++ r :: B) (hw : ∀ k, k ∈ all.flatten → k < n) (h : Lv l n A v) {d : Ed} (hd : d ∈ l) (hf : fr d ∈ r) :
 (tt d ∈ r ∧ lvAt v (tt d) = -1) ∨ (tt d ∉ r ∧ tt d ∈ A.flatten ∧ v[tt d]? = some (lvAt v (tt d)) ∧ 0 ≤ lvAt v (tt d)) := by
 have h1 := (hR.one A r B e).2.1 d hd hf
 simp only [List.flatten_append, List.flatten_cons, List.flatten_nil, List.append_nil, List.mem_append] at h1
 have hnd := hR.nd
 rw [e, List.flatten_append, List.flatten_cons, List.nodup_append] at hnd
 rcases h1 with m | m
 · right
   obtain ⟨z, hz, h0, _⟩ := h.told _ m
   refine ⟨fun m' => hnd.2.2 _ m _ (by simp [m']) rfl, m, ?_, ?_⟩
   · rw [lv_get hz]; exact hz
   · rw [lv_get hz]; exact h0
 · left
   refine ⟨m, lv_get (h.un _ (hw _ (by rw [e]; simp [m])) fun m' => hnd.2.2 _ m' _ (by simp [m]) rfl)⟩
theorem Lv.bad {l n all A r B v} (hR : Rings l all) (e : all = A ++ r :: B) (hw : ∀ k, k ∈ all.flatten → k < n) (h : Lv l n A v) (hu : upR v l 0 r = none) : Cyc l := by
 rw [upR_flat] at hu
 obtain ⟨d, hd, h1, h2⟩ := upE_none hu
 obtain ⟨hd, hf⟩ := mem_ringE.1 hd
 rcases h.edge hR e hw hd hf with ⟨m, _⟩ | ⟨_, _, _, h0⟩
 · exact ⟨d, hd, h2, (hR.one A r B e).2.2 _ m _ hf⟩
 · omega
theorem Lv.step {l n all A r B v z} (hR : Rings l all) (e : all = A ++ r :: B) (hw : ∀ k, k ∈ all.flatten → k < n) (h : Lv l n A v) (hu : upR v l 0 r = some z) : Lv l n (A ++ [r]) (setR v z r) := by
 rw [upR_flat] at hu
 obtain ⟨z0, hN, hU, hT⟩ := upE_some hu
 obtain ⟨hne, hcl, hsc⟩ := hR.one A r B e
 have hfl : (A ++ [r]).flatten = A.flatten ++ r := by simp
 have hrn : ∀ k ∈ r, k < n := fun k hk => hw k (by rw [e]; simp [hk])
 have hdis : ∀ k ∈ A.flatten, k ∉ r := fun k hk m => by
  have hnd := hR.nd
  rw [e, List.flatten_append, List.flatten_cons, List.nodup_append] at hnd
  exact hnd.2.2 _ hk _ (by simp [m]) rfl
 have hge : ∀ u, Sol n l u → ∀ k ∈ r, z ≤ u k := by
  intro u hs k hk
  rcases hT with rfl | ⟨d, hd, h1, rfl⟩
  · exact hs.1 k (hrn k hk)
  · obtain ⟨hd, hf⟩ := mem_ringE.1 hd
    have r1 := hs.reach (hsc k hk _ hf)
    have r2 := hs.2 d hd
    rcases h.edge hR e hw hd hf with ⟨_, m⟩ | ⟨_, m, hv, _⟩
    · exact absurd m h1
    · obtain ⟨y, hy, _, _, hl, _⟩ := h.told _ m
      have := hl u hs
      rw [lv_get hy]; omega
 refine ⟨by rw [setR_len, h.len], fun k hk m => ?_, fun k hk => ?_⟩
 · rw [hfl, List.mem_append, not_or] at m
   rw [setR_get, if_neg (fun q => m.2 q.1)]
   exact h.un k hk m.1
 · rw [hfl, List.mem_append] at hk
   rcases hk with hk | hk
   · obtain ⟨y, hy, h0, h1, h2, h3⟩ := h.told k hk
     refine ⟨y, by rw [setR_get, if_neg (fun q => hdis k hk q.1)]; exact hy, h0, by simp; omega, h2, fun d hd hf => ?_⟩
     obtain ⟨x, hx, q⟩ := h3 d hd hf
     have hm : tt d ∈ A.flatten := by
      by_cases m : tt d ∈ A.flatten
      · exact m
      · have hxn : tt d < n := by have := (List.getElem?_eq_some_iff.1 hx).1; rw [h.len] at this; exact this
        have := h.un _ hxn m; rw [hx] at this; cases this; omega
     exact ⟨x, by rw [setR_get, if_neg (fun q => hdis _ hm q.1)]; exact hx, q⟩
   · have hkn := hrn k hk
     refine ⟨z, by rw [setR_get, if_pos ⟨hk, by rw [h.len]; exact hkn⟩], z0, ?_, fun u hs => hge u hs k hk, fun d hd hf => ?_⟩
     · simp
       rcases hT with rfl | ⟨d, hd, h1, rfl⟩
       · omega
       · obtain ⟨hd, hf⟩ := mem_ringE.1 hd
         rcases h.edge hR e hw hd hf with ⟨_, m⟩ | ⟨_, m, hv, _⟩
         · exact absurd m h1
         · have := (h.bound hv).2; have := rise_ge d; omega
     · subst hf
       have hmem := mem_ringE.2 ⟨hd, hk⟩
       rcases h.edge hR e hw hd hk with ⟨m, hv⟩ | ⟨m, m2, hv, h0⟩
       · refine ⟨z, by rw [setR_get, if_pos ⟨m, by rw [h.len]; exact hrn _ m⟩], z0, ?_⟩
         have := hN d hmem hv
         simp [rise, this]
       · refine ⟨lvAt v (tt d), by rw [setR_get, if_neg (fun q => m q.1)]; exact hv, h0, hU d hmem (by omega)⟩
theorem Lv.least {l n all v} (hl : InR n l) (hw : ∀ k, k < n ↔ k ∈ all.flatten) (h : Lv l n all v) : Least n l (lvAt v) := by
 refine ⟨⟨fun i hi => ?_, fun e he => ?_⟩, fun u hs i hi => ?_⟩
 · obtain ⟨z, hz, h0, _⟩ := h.told i ((hw i).1 hi)
   rw [lv_get hz]; exact h0
 · obtain ⟨z, hz, _, _, _, h3⟩ := h.told _ ((hw _).1 (hl.fr he))
   obtain ⟨y, hy, _, h5⟩ := h3 e he rfl
   rw [lv_get hz, lv_get hy]; exact h5
 · obtain ⟨z, hz, _, _, h2, _⟩ := h.told i ((hw i).1 hi)
   rw [lv_get hz]; exact h2 u hs
theorem Lv.small {l n all v} (h : Lv l n all v) : ∀ x ∈ v, -1 ≤ x ∧ x ≤ all.length := by
 intro x hx
 obtain ⟨k, hk, rfl⟩ := List.getElem_of_mem hx
 exact h.bound (List.getElem?_eq_getElem hk)
theorem nodup_le {L : List Nat} {n : Nat} (h : L.Nodup) (hw : ∀ k ∈ L, k < n) : L.length ≤ n := by
 induction n generalizing L with
 | zero =>
  cases L with
  | nil => simp
  | cons a t => have := hw a (by simp); omega
 | succ n ih =>
  have h1 := ih (h.erase n) fun k hk => by
   have := (h.mem_erase_iff).1 hk
   have := hw k this.2; omega
  rw [List.length_erase] at h1
  split at h1 <;> omega
theorem rings_few {l : List Ed} {all : List (List Nat)} {n : Nat} (h : Rings l all) (hw : ∀ k ∈ all.flatten, k < n) : all.length ≤ n := by
 have h1 : all.length ≤ all.flatten.length := by
  have : ∀ (all : List (List Nat)), (∀ r ∈ all, r ≠ []) → all.length ≤ all.flatten.length := by
   intro all
   induction all with
   | nil => intro; simp
   | cons r t ih =>
    intro hr
    have h1 := ih fun x hx => hr x (by simp [hx])
    have h2 : 0 < r.length := List.length_pos_iff.2 (hr r (by simp))
    rw [List.length_cons, List.flatten_cons, List.length_append]; omega
  refine this all fun r hr => ?_
  obtain ⟨A, B, e⟩ := List.append_of_mem hr
  exact (h.one A r B e).1
 have h2 := nodup_le h.nd hw
 omega
theorem Least.nots {n : Nat} {l : List Ed} {v : Nat → Int} (h : Least n l v) {i : Nat} (hi : i < n) {c : Int} (h1 : 1 ≤ c) (hc : c ≤ v i) : ∃ e ∈ l, e.2.2 = true ∧ v (fr e) = c := Classical.byContradiction fun hn => by
 have hs : Sol n l (fun j => if c ≤ v j then v j - 1 else v j) := by
  refine ⟨fun j hj => ?_, fun e he => ?_⟩
  · have := h.1.1 j hj
    dsimp only
    split <;> omega
  · have h2 := h.1.2 e he
    have h3 := rise_ge e
    have h4 : rise e = 1 → v (fr e) ≠ c := fun hr e2 => hn ⟨e, he, by
     unfold rise at hr
     cases hb : e.2.2
     · rw [hb] at hr; simp at hr
     · rfl, e2⟩
    dsimp only
    by_cases hr : rise e = 1
    · have := h4 hr
      split <;> split <;> omega
    · split <;> split <;> omega
 have := h.2 _ hs i hi
 rw [if_pos hc] at this
 omega
theorem sub_len {α : Type} [DecidableEq α] {L E : List α} (hn : L.Nodup) (h : ∀ x ∈ L, x ∈ E) : L.length ≤ E.length := by
 induction L generalizing E with
 | nil => simp
 | cons a t ih =>
  obtain ⟨h1, h2⟩ := List.nodup_cons.1 hn
  have := ih (E := E.erase a) h2 fun x hx => (List.mem_erase_of_ne fun (e : x = a) => h1 (e ▸ hx)).2 (h x (List.mem_cons_of_mem _ hx))
  rw [List.length_erase_of_mem (h a List.mem_cons_self)] at this
  have h3 := List.length_pos_of_mem (h a List.mem_cons_self)
  rw [List.length_cons]
  omega
def notsOf (l : List Ed) : Nat := (l.filter fun e => e.2.2).length
theorem Least.few {n : Nat} {l : List Ed} {v : Nat → Int} (h : Least n l v) {i : Nat} (hi : i < n) : v i ≤ notsOf l := by
 have h0 := h.1.1 i hi
 have := sub_len (L := (List.range (v i).toNat).map fun k : Nat => ((k : Int) + 1)) (E := (l.filter fun e => e.2.2).map fun e => v (fr e))
  (List.pairwise_map.2 (List.nodup_range.imp fun {a b} hab e => hab (by omega))) fun x hx => by
   obtain ⟨k, hk, rfl⟩ := List.mem_map.1 hx
   have hk := List.mem_range.1 hk
   obtain ⟨e, he, hb, hv⟩ := h.nots hi (c := (k : Int) + 1) (by omega) (by omega)
   exact List.mem_map.2 ⟨e, List.mem_filter.2 ⟨he, hb⟩, hv⟩
 rw [List.length_map, List.length_map, List.length_range] at this
 unfold notsOf
 omega
theorem Cyc.nots {l : List Ed} (h : Cyc l) : 0 < notsOf l := by
 obtain ⟨e, he, hb, _⟩ := h
 exact List.length_pos_of_mem (List.mem_filter.2 ⟨he, hb⟩)
theorem Least.up {n : Nat} {l m : List Ed} {u v : Nat → Int} (hs : ∀ e ∈ l, e ∈ m) (h : Least n l u) (k : Least n m v) {i : Nat} (hi : i < n) : u i ≤ v i := h.2 _ (Sol.sub hs k.1) i hi
end Go.Proofs.YtahegpfdbgbioaaGreat
