import Derived.Test.YtahegpfdbgbioaaGreatA14
set_option maxRecDepth 100000
set_option maxHeartbeats 4000000
namespace Go.Proofs.YtahegpfdbgbioaaGreat
open Go.RowKit
theorem ret_bool {a b : Bool} (h : a = b) : Ending.returned (.bool a) = .returned (.bool b) := by rw [h]
theorem ret_int {k : IntKind} {a b : Int} (h : a = b) : Ending.returned (.int k a) = .returned (.int k b) := by rw [h]
theorem in_any (s : ByteArray) (z l u : Int) (i lo hi : Nat) (w : World) (hz : z = i) (hl : l = lo) (hu : u = hi) :
 Calls Tryz.prog 185 #[.string s, .int .i64 z, .int .u8 l, .int .u8 u] w fun e w' => e = .returned (.bool (inB s i lo hi)) ∧ w = w' := by
 subst hz hl hu
 by_cases h : i < s.size
 · have hb := bt_eq s i h
   go_enter Tryz.func185, Tryz.ntmps185
   go_wp2
   all_goals go_ret
   all_goals (refine ⟨ret_bool ?_, rfl⟩; unfold inB; simp [*])
 · go_enter Tryz.func185, Tryz.ntmps185
   go_wp2
   go_ret
   refine ⟨ret_bool ?_, rfl⟩
   unfold inB
   simp [h]
theorem lng_wd (s : ByteArray) (i : Nat) : lng s i = 0 ∧ wd s i = 1 ∨ lng s i = wd s i := by
 unfold lng
 by_cases hb : brk s i = true
 · refine .inl ⟨by rw [if_pos hb], ?_⟩
   unfold brk at hb
   exact (of_decide_eq_true hb).2
 · exact .inr (if_neg hb)
theorem long_any (s : ByteArray) (i : Nat) (w : World) (hs : s.size ≤ 1000000) (h : i < s.size) :
 Calls Tryz.prog 147 #[.string s, .int .i64 i] w fun e w' => e = .returned (.int .i64 (lng s i)) ∧ w = w' := by
 have HE := Lib.hid (lng_eq h)
 have hb := bt_eq s i h
 have HB := Lib.hid hb
 clear hb
 go_enter Tryz.func147, Tryz.ntmps147
 go_wp2_with (first
  | ((with_reducible refine (in_any _ _ 128 191 (i + 1) _ _ _ (by omega) rfl rfl).mono ?_); rintro e w' ⟨rfl, rfl⟩)
  | ((with_reducible refine (in_any _ _ 160 191 (i + 1) _ _ _ (by omega) rfl rfl).mono ?_); rintro e w' ⟨rfl, rfl⟩)
  | ((with_reducible refine (in_any _ _ 128 159 (i + 1) _ _ _ (by omega) rfl rfl).mono ?_); rintro e w' ⟨rfl, rfl⟩)
  | ((with_reducible refine (in_any _ _ 144 191 (i + 1) _ _ _ (by omega) rfl rfl).mono ?_); rintro e w' ⟨rfl, rfl⟩)
  | ((with_reducible refine (in_any _ _ 128 143 (i + 1) _ _ _ (by omega) rfl rfl).mono ?_); rintro e w' ⟨rfl, rfl⟩)
  | ((with_reducible refine (in_any _ _ 128 191 (i + 2) _ _ _ (by omega) rfl rfl).mono ?_); rintro e w' ⟨rfl, rfl⟩)
  | ((with_reducible refine (in_any _ _ 128 191 (i + 3) _ _ _ (by omega) rfl rfl).mono ?_); rintro e w' ⟨rfl, rfl⟩))
 all_goals go_ret
 all_goals (refine ⟨ret_int ?_, rfl⟩; rw [HE.out, HB.out]; clear HE HB; generalize s[i].toNat = b at *; try simp only [beq_iff_eq, beq_eq_false_iff_ne, ne_eq, Bool.not_eq_true] at *)
 all_goals (repeat' split)
 all_goals (first | rfl | (exfalso; omega) | (exfalso; simp_all; done) | (exfalso; simp_all; omega))
theorem step_any (s : ByteArray) (z : Int) (i : Nat) (w : World) (hz : z = i) (hs : s.size ≤ 1000000) (h : i < s.size) :
 Calls Tryz.prog 115 #[.string s, .int .i64 z] w fun e w' => e = .returned (.int .i64 ((i + wd s i : Nat) : Int)) ∧ w = w' := by
 subst hz
 have h1 := wd_pos h
 have h2 := wd_le h
 have hl : (0 : Int) ≤ lng s i := by omega
 rcases lng_wd s i with ⟨e, e'⟩ | e
 · have hd : (((lng s i : Nat) : Int) == 0) = true := by simp [e]
   have E' := Lib.hid e'
   clear e e'
   go_enter Tryz.func115, Tryz.ntmps115
   go_wp2_with ((with_reducible refine (long_any _ _ _ hs h).mono ?_); rintro e w' ⟨rfl, rfl⟩)
   go_ret
   exact ⟨ret_int (by have := E'.out; omega), rfl⟩
 · have hd : (((lng s i : Nat) : Int) == 0) = false := by simp; omega
   have hq : (lng s i : Int) ≤ 1000000 := by omega
   have E' := Lib.hid e
   clear e
   go_enter Tryz.func115, Tryz.ntmps115
   go_wp2_with ((with_reducible refine (long_any _ _ _ hs h).mono ?_); rintro e w' ⟨rfl, rfl⟩)
   go_ret
   exact ⟨ret_int (by have := E'.out; omega), rfl⟩
theorem rmay_any (s : ByteArray) (i : Nat) (w : World) (hs : s.size ≤ 1000000) (h : i < s.size) :
 Calls Tryz.prog 116 #[.string s, .int .i64 i] w fun e w' => e = .returned (.bool (mayB s i)) ∧ w = w' := by
 have E := Lib.hid (mayB_eq h)
 have hb := bt_eq s i h
 have hl := lng_le h
 by_cases h1 : lng s i = 1
 · have hd : (((lng s i : Nat) : Int) == 1) = true := by simp [h1]
   have HB := Lib.hid hb
   have H1 := Lib.hid h1
   clear hb h1
   go_enter Tryz.func116, Tryz.ntmps116
   go_wp2_with ((with_reducible refine (long_any s i _ hs h).mono ?_); rintro e w' ⟨rfl, rfl⟩)
   all_goals go_ret
   all_goals (refine ⟨ret_bool ?_, rfl⟩; rw [E.out, if_pos H1.out, HB.out]; unfold byteB; try simp only [beq_iff_eq] at *)
   all_goals first
    | (symm; exact decide_eq_true (by omega))
    | (rw [Bool.eq_iff_iff]; simp only [decide_eq_true_eq, beq_iff_eq, Bool.or_eq_true]; omega)
 · have hd : (((lng s i : Nat) : Int) == 1) = false := by simp; omega
   have HB := Lib.hid hb
   have H1 := Lib.hid h1
   clear hb h1
   by_cases h2 : 1 < lng s i
   · have hn := lng_next h h2
     have HB1 := Lib.hid (bt_eq s (i + 1) hn)
     have hd2 : (1 : Int) < lng s i := by omega
     go_enter Tryz.func116, Tryz.ntmps116
     go_wp2_with ((with_reducible refine (long_any s i _ hs h).mono ?_); rintro e w' ⟨rfl, rfl⟩)
     all_goals go_ret
     all_goals (refine ⟨ret_bool ?_, rfl⟩; rw [E.out, if_neg H1.out, HB.out, HB1.out, decide_eq_true h2, Bool.eq_iff_iff]; simp only [Bool.true_and, Bool.or_eq_true, Bool.not_eq_true', decide_eq_true_eq, decide_eq_false_iff_not]; first | omega | (simp only [true_iff]; omega))
   · have hd2 : ¬ (1 : Int) < lng s i := by omega
     go_enter Tryz.func116, Tryz.ntmps116
     go_wp2_with ((with_reducible refine (long_any s i _ hs h).mono ?_); rintro e w' ⟨rfl, rfl⟩)
     go_ret
     exact ⟨ret_bool (by rw [E.out, if_neg H1.out, decide_eq_false h2]; rfl), rfl⟩
theorem rcount12 (s : ByteArray) (w : World) (hs : s.size ≤ 1000000) :
 Calls Tryz.prog 117 #[.string s] w fun e w' => e = .returned (.int .i64 (cnt s)) ∧ w = w' := by
 go_enter Tryz.func117, Tryz.ntmps117
 go_wp2
 go_loop [3, 4] (fun n i => ∃ k : Nat, k ≤ cnt s ∧ n = .int .i64 k ∧ i = .int .i64 (plc s k)) (fun _ i => s.size - (intOf i).toNat)
 case atStart => exact ⟨0, Nat.zero_le _, rfl, rfl⟩
 case round =>
  obtain ⟨k, hk, rfl, rfl⟩ := hrel
  have hc := cnt_le s
  have hl := plc_le s k
  by_cases h : plc s k < s.size
  · have hk2 := lt_cnt.2 h
    have hw := wd_pos h
    have HS := Lib.hid (plc_succ h)
    go_wp2_with ((with_reducible refine (step_any s _ (plc s k) _ rfl hs h).mono ?_); rintro e w' ⟨rfl, rfl⟩)
    go_round
    case rel => exact ⟨k + 1, by omega, by go_num, by rw [HS.out]; go_num⟩
    case measure => simp [intOf]; omega
  · have e := cnt_eq h fun j hj => lt_cnt.1 (by omega)
    have E := Lib.hid e
    clear e
    go_wp2
    go_ret
    exact ⟨ret_int (by rw [E.out]), rfl⟩
theorem rname12 (s : ByteArray) (w : World) (hs : s.size ≤ 1000000) :
 Calls Tryz.prog 74 #[.string s] w fun e w' => e = .returned (.bool (nameS s)) ∧ w = w' := by
 go_enter Tryz.func74, Tryz.ntmps74
 go_wp2
 go_loop [3] (fun i => ∃ k : Nat, k ≤ cnt s ∧ i = .int .i64 (plc s k) ∧ ∀ j, j < k → mayB s (plc s j) = true) (fun i => s.size - (intOf i).toNat)
 case atStart => exact ⟨0, Nat.zero_le _, rfl, fun j hj => by omega⟩
 case round =>
  obtain ⟨k, hk, rfl, hall⟩ := hrel
  have Hall := Lib.hid hall
  clear hall
  have hc := cnt_le s
  have hl := plc_le s k
  by_cases h : plc s k < s.size
  · have hk2 := lt_cnt.2 h
    have hw := wd_pos h
    have HS := Lib.hid (plc_succ h)
    by_cases hm : mayB s (plc s k) = true
    · go_wp2_with (first
       | ((with_reducible refine (rmay_any s (plc s k) _ hs h).mono ?_); rintro e w' ⟨rfl, rfl⟩)
       | ((with_reducible refine (step_any s _ (plc s k) _ rfl hs h).mono ?_); rintro e w' ⟨rfl, rfl⟩))
      go_round
      case rel =>
       refine ⟨k + 1, by omega, by rw [HS.out]; go_num, fun j hj => ?_⟩
       by_cases e : j = k
       · subst e; exact hm
       · exact Hall.out j (by omega)
      case measure => simp [intOf]; omega
    · rw [Bool.not_eq_true] at hm
      go_wp2_with (first
       | ((with_reducible refine (rmay_any s (plc s k) _ hs h).mono ?_); rintro e w' ⟨rfl, rfl⟩)
       | ((with_reducible refine (step_any s _ (plc s k) _ rfl hs h).mono ?_); rintro e w' ⟨rfl, rfl⟩))
      go_ret
      refine ⟨ret_bool ?_, rfl⟩
      symm
      rw [Bool.eq_false_iff]
      intro hv
      have := (nameS_iff.1 hv).2.2 k hk2
      rw [hm] at this
      cases this
  · have e := cnt_eq h fun j hj => lt_cnt.1 (by omega)
    have E := Lib.hid e
    clear e
    by_cases h0 : 0 < cnt s
    · have hd : (0 : Int) < (cnt s : Int) := by omega
      go_wp2_with ((with_reducible refine (rcount12 s _ hs).mono ?_); rintro e w' ⟨rfl, rfl⟩)
      go_ret
      refine ⟨ret_bool ?_, rfl⟩
      rw [Bool.eq_iff_iff, nameS_iff, E.out]
      simp only [decide_eq_true_eq]
      refine ⟨fun h24 => ⟨by have := E.out; omega, by omega, Hall.out⟩, fun h24 => by omega⟩
    · have hd : ¬ (0 : Int) < (cnt s : Int) := by omega
      go_wp2_with ((with_reducible refine (rcount12 s _ hs).mono ?_); rintro e w' ⟨rfl, rfl⟩)
      go_ret
      refine ⟨ret_bool ?_, rfl⟩
      symm
      rw [Bool.eq_false_iff]
      intro hv
      exact h0 (nameS_iff.1 hv).1
end Go.Proofs.YtahegpfdbgbioaaGreat
namespace Go.Proofs.YtahegpfdbgbioaaGreat
open Go.RowKit
section
variable {w : World}
theorem rname_is {s : ByteArray} {b : Bool} (h : nameS s = b) (hs : s.size ≤ 100000) (W : World) : Calls Tryz.prog 74 #[.string s] W fun e w' => e = .returned (.bool b) ∧ Below W.heap.size W w' := by
 have k := rname12 s W (by omega)
 rw [h] at k
 exact k.mono fun e w' ⟨h1, h2⟩ => ⟨h1, h2 ▸ Below.refl _ _⟩
theorem rfmd_any (a b c : ByteArray) (ha : a.size ≤ 100000) (hb : b.size ≤ 100000) (hc : c.size ≤ 100000) :
 Calls Tryz.prog 42 #[.agg #[.string a, .string b, .string c]] w fun e w' => e = .returned (.bool (fmdN (a, b, c))) ∧ Below w.heap.size w w' := by
 have hk := Bk.new w #[.string a, .string b, .string c] 69
 have hB := bnew w (.cells #[.string a, .string b, .string c] 69)
 obtain ⟨R, hRd⟩ : ∃ R, Hid (fmdN (a, b, c) = R) := ⟨_, Lib.hid rfl⟩
 rw [hRd.out]
 unfold fmdN at hRd
 dsimp only at hRd
 obtain ⟨p, hp⟩ : ∃ p, Hid (nameS a = p) := ⟨_, Lib.hid rfl⟩
 obtain ⟨q, hq⟩ : ∃ q, Hid (nameS b = q) := ⟨_, Lib.hid rfl⟩
 obtain ⟨r, hr⟩ : ∃ r, Hid (nameS c = r) := ⟨_, Lib.hid rfl⟩
 have k1 := fun W => rname_is hp.out ha W
 have k2 := fun W => rname_is hq.out hb W
 have k3 := fun W => rname_is hr.out hc W
 rw [hp.out, hq.out, hr.out] at hRd
 have d : c.toList.isEmpty = decide (c = ⟨#[]⟩) := by
  by_cases h : c = ⟨#[]⟩
  · rw [emp_yes h, decide_eq_true h]
  · rw [emp_no h, decide_eq_false h]
 generalize decide (c = ⟨#[]⟩) = z at *
 go_enter Tryz.func42, Tryz.ntmps42
 go_upto_region 1 with (fail)
 generalize w.alloc (.cells #[.string a, .string b, .string c] 69) = w1 at *
 obtain ⟨c0, c1, c2⟩ := hk.c3
 have cl := hk.lt
 go_upto_region 2 with (go_at_call 74; with_reducible refine (k1 _).mono ?_; rintro e w2 ⟨rfl, hb2⟩)
 replace hk := hk.below hb2
 replace hB := bthen hB hB.size hb2
 clear hb2 c0 c1 c2 cl
 obtain ⟨c0, c1, c2⟩ := hk.c3
 have cl := hk.lt
 go_upto_region 3 with (go_at_call 74; with_reducible refine (k2 _).mono ?_; rintro e w3 ⟨rfl, hb2⟩)
 replace hk := hk.below hb2
 replace hB := bthen hB hB.size hb2
 clear hb2 c0 c1 c2 cl
 obtain ⟨c0, c1, c2⟩ := hk.c3
 have cl := hk.lt
 go_upto_region 4 with (go_at_call 74; with_reducible refine (k3 _).mono ?_; rintro e w4 ⟨rfl, hb2⟩)
 replace hk := hk.below hb2
 replace hB := bthen hB hB.size hb2
 clear hb2 c0 c1 c2 cl k1 k2 k3
 obtain ⟨c0, c1, c2⟩ := hk.c3
 have cl := hk.lt
 clear hp hq hr
 cases p <;> cases q <;> cases r <;> cases z <;> obtain rfl := hRd.out <;> clear hRd
 all_goals go_wp2_with fail
 all_goals go_ret
 all_goals exact ⟨rfl, hB⟩
theorem rfmd_is {n : NdP} {b : Bool} (h : fmdN n = b) (h0 : n.1.size ≤ 100000) (h1 : n.2.1.size ≤ 100000) (h2 : n.2.2.size ≤ 100000) (W : World) : Calls Tryz.prog 42 #[.agg #[.string n.1, .string n.2.1, .string n.2.2]] W fun e w' => e = .returned (.bool b) ∧ Below W.heap.size W w' := by
 rw [← h]
 exact rfmd_any _ _ _ h0 h1 h2
theorem rshow_any12 (a b c : ByteArray) (ha : a.size ≤ 100000) (hb : b.size ≤ 100000) (hc : c.size ≤ 100000) :
 Calls Tryz.prog 37 #[.agg #[.string a, .string b, .string c]] w fun e w' => e = .returned (.string (showN (a, b, c))) ∧ Below w.heap.size w w' := by
 have hk := Bk.new w #[.string a, .string b, .string c] 69
 obtain ⟨c0, c1, c2⟩ := hk.c3
 have lb := hk.lt
 have hB := bnew w (.cells #[.string a, .string b, .string c] 69)
 clear hk
 unfold showN objN
 by_cases he : c = ⟨#[]⟩
 · rw [if_pos he]
   have d := emp_yes he
   clear he
   go_enter Tryz.func37, Tryz.ntmps37
   go_wp2_with fail
   go_returns
   exact ⟨rfl, hB⟩
 · rw [if_neg he]
   have d := emp_no he
   clear he
   rw [← ByteArray.append_assoc]
   go_enter Tryz.func37, Tryz.ntmps37
   go_wp2_with fail
   go_returns
   exact ⟨rfl, hB⟩
theorem rcutC_any (s : ByteArray) (c : Nat) (hs : s.size ≤ 100000) :
 Calls Tryz.prog 69 #[.string s, .int .u8 (c : Int)] w fun e w' => e = .returned (.tuple #[.string (cutC s c).1, .string (cutC s c).2]) ∧ Below w.heap.size w w' := by
 obtain ⟨a, b, hab⟩ : ∃ a b, Hid (cutC s c = (a, b)) := ⟨_, _, Lib.hid rfl⟩
 rw [hab.out]
 dsimp only
 have hf := fstC_spec s c
 have hms : (s.size : Int) ≤ 9223372036854775807 := by omega
 go_enter Tryz.func69, Tryz.ntmps69
 go_wp2_with fail
 go_loopw [6] (fun vi wx => ∃ i : Nat, vi = .int .i64 i ∧ i ≤ fstC s c ∧ Below w.heap.size w wx) (fun vi _ => s.size + 1 - (intOf vi).toNat)
 case atStart => exact ⟨0, rfl, Nat.zero_le _, Below.refl _ _⟩
 case round =>
  obtain ⟨i, rfl, hi, hbx⟩ := hrel
  by_cases hil : i < s.size
  · have hdi : (i : Int) < (s.size : Int) := by omega
    have hbt : (s[i]'hil).toNat = bt s i := (bt_eq s i hil).symm
    have hbl := bt_lt s i
    have c0 : (0 : Int) ≤ (i : Int) := by omega
    have c1 : (i : Int) ≤ (s.size : Int) := by omega
    have c2 : (0 : Int) ≤ (i : Int) + 1 := by omega
    have c3 : (i : Int) + 1 ≤ (s.size : Int) := by omega
    have c4 : IntKind.i64.wrap ((i : Int) + 1) = (i : Int) + 1 := IntWalk.i64_in _ (by omega)
    by_cases he : bt s i = c
    · have hfi : fstC s c = i := fstC_eq (.inl he) (Nat.le_of_lt hil) fun j hj => hf.2.2 j (by omega)
      have hA : a = s.extract 0 i ∧ b = s.extract (i + 1) s.size := by
       have q := hab.out
       unfold cutC at q
       rw [hfi] at q
       injection q with q1 q2
       exact ⟨q1.symm, q2.symm⟩
      have Hf := Lib.hid hf
      clear hf hab hfi hi
      obtain ⟨rfl, rfl⟩ := hA
      have d : ((bt s i : Int) == (c : Int)) = true := by rw [he]; simp
      clear he
      go_wp2_with fail
      go_quiet (fail)
      go_wp2_with fail
      go_returns
      exact ⟨rfl, hbx.trans ⟨rfl, rfl, rfl, Nat.le_refl _, fun _ _ => rfl⟩⟩
    · have hne : i ≠ fstC s c := fun e => he (by rw [e]; exact hf.2.1 (by omega))
      have d : ((bt s i : Int) == (c : Int)) = false := by rw [beq_eq_false_iff_ne]; omega
      have Hi : Hid (i + 1 ≤ fstC s c) := Lib.hid (by omega)
      clear he hf hi hne
      go_wp2_with fail
      refine ⟨⟨i + 1, by go_num, Hi.out, hbx⟩, ?_⟩
      simp [intOf]; omega
  · have hdi : ¬ (i : Int) < (s.size : Int) := by omega
    have hA : a = s ∧ b = ⟨#[]⟩ := by
     have q := hab.out
     rw [cutC_end (by omega)] at q
     injection q with q1 q2
     exact ⟨q1.symm, q2.symm⟩
    obtain ⟨rfl, rfl⟩ := hA
    clear hf hi hab
    go_wp2_with fail
    go_returns
    exact ⟨rfl, hbx⟩
theorem rread_any12 (s : ByteArray) (hs : s.size ≤ 100000) :
 Calls Tryz.prog 31 #[.string s] w fun e w' => e = .returned (.tuple #[.agg #[.string (nodeO (readN s)).1, .string (nodeO (readN s)).2.1, .string (nodeO (readN s)).2.2], .int .i64 (errO (readN s))]) ∧ Below w.heap.size w w' := by
 obtain ⟨R, hRd⟩ : ∃ R, Hid (readN s = R) := ⟨_, Lib.hid rfl⟩
 rw [hRd.out]
 obtain ⟨o, r, ho⟩ : ∃ o r, cutC s 35 = (o, r) := ⟨_, _, rfl⟩
 obtain ⟨t, i, ht⟩ : ∃ t i, cutC o 58 = (t, i) := ⟨_, _, rfl⟩
 have hn : Hid (cutN s = (t, i, r)) := Lib.hid (by unfold cutN; rw [ho, ht])
 have zo : o.size ≤ 100000 := by have h1 := cutC_size s 35; have h2 := (fstC_spec s 35).1; rw [ho] at h1; dsimp only at h1; omega
 have zr : r.size ≤ 100000 := by have h1 := cutC_size2 s 35; rw [ho] at h1; dsimp only at h1; omega
 have zt : t.size ≤ 100000 := by have h1 := cutC_size o 58; have h2 := (fstC_spec o 58).1; rw [ht] at h1; dsimp only at h1; omega
 have zi : i.size ≤ 100000 := by have h1 := cutC_size2 o 58; rw [ht] at h1; dsimp only at h1; omega
 have k1 : ∀ W : World, _ := fun W => rcutC_any (w := W) s 35 hs
 have k2 : ∀ W : World, _ := fun W => rcutC_any (w := W) o 58 zo
 rw [ho] at k1
 rw [ht] at k2
 clear ho ht
 dsimp only at k1 k2
 have hR := Bk.new w #[.string ⟨#[]⟩, .string ⟨#[]⟩, .string ⟨#[]⟩] 69
 have hB := bnew w (.cells #[.string ⟨#[]⟩, .string ⟨#[]⟩, .string ⟨#[]⟩] 69)
 go_enter Tryz.func31, Tryz.ntmps31
 go_upto_region 1 with (fail)
 generalize w.alloc (.cells #[.string ⟨#[]⟩, .string ⟨#[]⟩, .string ⟨#[]⟩] 69) = w1 at *
 go_upto_region 2 with (go_at_call 69; refine (k1 _).mono ?_; rintro e w2 ⟨rfl, hb⟩)
 replace hR := hR.below hb
 replace hB := bthen hB hB.size hb
 clear hb k1
 go_upto_region 3 with (go_at_call 69; refine (k2 _).mono ?_; rintro e w3 ⟨rfl, hb⟩)
 replace hR := hR.below hb
 replace hB := bthen hB hB.size hb
 clear hb k2
 have hN := Bk.new w3 #[.string t, .string i, .string r] 69
 go_upto_region 4 with (fail)
 replace hR := hR.alloc (.cells #[.string t, .string i, .string r] 69)
 replace hB := hB.alloc hB.size (.cells #[.string t, .string i, .string r] 69)
 generalize w3.alloc (.cells #[.string t, .string i, .string r] 69) = w4 at *
 obtain ⟨n0, n1, n2⟩ := hN.c3
 have nl := hN.lt
 obtain ⟨p, hp⟩ : ∃ p, fmdN (t, i, r) = p := ⟨_, rfl⟩
 have kf := fun W => rfmd_is hp zt zi zr W
 dsimp only at kf
 have ks : ∀ W : World, _ := fun W => rshow_any12 (w := W) t i r zt zi zr
 cases p with
 | false =>
  have hread : readN s = none := by
   unfold readN
   rw [hn.out, if_neg fun h => by rw [hp] at h; cases h.1]
  obtain rfl : R = none := hRd.out.symm.trans hread
  clear hread hn hRd
  go_wp2_with (go_at_call 42; with_reducible refine (kf _).mono ?_; rintro e w5 ⟨rfl, hb⟩; have hR5 := hR.below hb; have hB5 := bthen hB hB.size hb; obtain ⟨r0, r1, r2⟩ := hR5.c3; have rl := hR5.lt; have rf := hR5.fz)
  obtain ⟨hw, hb6⟩ := set3 hR5 hB5 (Nat.le_refl _) (.string ⟨#[]⟩) (.string ⟨#[]⟩) (.string ⟨#[]⟩)
  obtain ⟨y0, y1, y2⟩ := hw.c3
  refine bodyPost_ret (v := .tuple #[.agg #[.string ⟨#[]⟩, .string ⟨#[]⟩, .string ⟨#[]⟩], .int .i64 11]) (by simp [results, Tryz.results31, go_sem, y0, y1, y2]; try rfl) rfl ?_
  exact ⟨rfl, hb6⟩
 | true =>
  generalize hu : showN (t, i, r) = u at ks
  by_cases he : u = s
  · have hread : readN s = some (t, i, r) := by
     unfold readN
     rw [hn.out, if_pos ⟨hp, by rw [hu, he]⟩]
    obtain rfl : R = some (t, i, r) := hRd.out.symm.trans hread
    clear hRd
    have d : (u.toList == s.toList) = true := toList_eq_true he
    clear hread hn he hu
    go_wp2_with (first
     | (go_at_call 42; with_reducible refine (kf _).mono ?_; rintro e w5 ⟨rfl, hb⟩; have hN5 := hN.below hb; have hR5 := hR.below hb; have hB5 := bthen hB hB.size hb; obtain ⟨m0, m1, m2⟩ := hN5.c3)
     | (go_at_call 37; with_reducible refine (ks _).mono ?_; rintro e w6 ⟨rfl, hb⟩; have hN6 := hN5.below hb; have hR6 := hR5.below hb; have hB6 := bthen hB5 hB5.size hb; obtain ⟨q0, q1, q2⟩ := hN6.c3; obtain ⟨r0, r1, r2⟩ := hR6.c3; have rl := hR6.lt; have rf := hR6.fz))
    obtain ⟨hw, hb6⟩ := set3 hR6 hB6 (Nat.le_refl _) (.string t) (.string i) (.string r)
    obtain ⟨y0, y1, y2⟩ := hw.c3
    refine bodyPost_ret (v := .tuple #[.agg #[.string t, .string i, .string r], .int .i64 0]) (by simp [results, Tryz.results31, go_sem, y0, y1, y2]; try rfl) rfl ?_
    exact ⟨rfl, hb6⟩
  · have hread : readN s = none := by
     unfold readN
     rw [hn.out, if_neg fun h => he (by rw [← hu]; exact h.2)]
    obtain rfl : R = none := hRd.out.symm.trans hread
    clear hRd
    have d : (u.toList == s.toList) = false := toList_ne he
    clear hread hn he hu
    go_wp2_with (first
     | (go_at_call 42; with_reducible refine (kf _).mono ?_; rintro e w5 ⟨rfl, hb⟩; have hN5 := hN.below hb; have hR5 := hR.below hb; have hB5 := bthen hB hB.size hb; obtain ⟨m0, m1, m2⟩ := hN5.c3)
     | (go_at_call 37; with_reducible refine (ks _).mono ?_; rintro e w6 ⟨rfl, hb⟩; have hR6 := hR5.below hb; have hB6 := bthen hB5 hB5.size hb; obtain ⟨r0, r1, r2⟩ := hR6.c3; have rl := hR6.lt; have rf := hR6.fz))
    obtain ⟨hw, hb6⟩ := set3 hR6 hB6 (Nat.le_refl _) (.string ⟨#[]⟩) (.string ⟨#[]⟩) (.string ⟨#[]⟩)
    obtain ⟨y0, y1, y2⟩ := hw.c3
    refine bodyPost_ret (v := .tuple #[.agg #[.string ⟨#[]⟩, .string ⟨#[]⟩, .string ⟨#[]⟩], .int .i64 11]) (by simp [results, Tryz.results31, go_sem, y0, y1, y2]; try rfl) rfl ?_
    exact ⟨rfl, hb6⟩
theorem rtext_any12 (a b c x y z : ByteArray) (ha : a.size ≤ 100000) (hb : b.size ≤ 100000) (hc : c.size ≤ 100000) (hx : x.size ≤ 100000) (hy : y.size ≤ 100000) (hz : z.size ≤ 100000) :
 Calls Tryz.prog 39 #[.agg #[.string a, .string b, .string c, .string x, .string y, .string z]] w fun e w' => e = .returned (.string (textT ((a, b, c), (x, y, z)))) ∧ Below w.heap.size w w' := by
 have hk := Bk.new w #[.string a, .string b, .string c, .string x, .string y, .string z] 71
 have hB := bnew w (.cells #[.string a, .string b, .string c, .string x, .string y, .string z] 71)
 have k1 : ∀ W : World, _ := fun W => rshow_any12 (w := W) a b c ha hb hc
 have k2 : ∀ W : World, _ := fun W => rshow_any12 (w := W) x y z hx hy hz
 unfold textT
 dsimp only
 have z1 : (showN (a, b, c)).size ≤ 400000 := by unfold showN objN; split <;> simp only [size_app, sOne_size] <;> omega
 have z2 : (showN (x, y, z)).size ≤ 400000 := by unfold showN objN; split <;> simp only [size_app, sOne_size] <;> omega
 generalize showN (a, b, c) = u at *
 generalize showN (x, y, z) = v at *
 have n1 : ¬ 9223372036854775807 < u.size + 1 := by omega
 have n2 : ¬ 9223372036854775807 < u.size + 1 + v.size := by omega
 go_enter Tryz.func39, Tryz.ntmps39
 go_upto_region 1 with (fail)
 generalize w.alloc (.cells #[.string a, .string b, .string c, .string x, .string y, .string z] 71) = w1 at *
 have hS : ∀ W, Below w1.heap.size w1 W → (W.cell? ⟨w.heap.size, 0, none⟩ = some (.string a) ∧ W.cell? ⟨w.heap.size, 1, none⟩ = some (.string b) ∧ W.cell? ⟨w.heap.size, 2, none⟩ = some (.string c) ∧ W.cell? ⟨w.heap.size, 3, none⟩ = some (.string x) ∧ W.cell? ⟨w.heap.size, 4, none⟩ = some (.string y) ∧ W.cell? ⟨w.heap.size, 5, none⟩ = some (.string z) ∧ w.heap.size < W.heap.size ∧ Below w1.heap.size w1 W) := fun W h => by
  have q := hk.below h
  obtain ⟨q0, q1, q2, q3, q4, q5⟩ := q.c6
  exact ⟨q0, q1, q2, q3, q4, q5, q.lt, h⟩
 obtain ⟨c0, c1, c2, c3, c4, c5⟩ := hk.c6
 have lk := hk.lt
 go_region_held3 (fun W => W.cell? ⟨w.heap.size, 0, none⟩ = some (.string a) ∧ W.cell? ⟨w.heap.size, 1, none⟩ = some (.string b) ∧ W.cell? ⟨w.heap.size, 2, none⟩ = some (.string c) ∧ W.cell? ⟨w.heap.size, 3, none⟩ = some (.string x) ∧ W.cell? ⟨w.heap.size, 4, none⟩ = some (.string y) ∧ W.cell? ⟨w.heap.size, 5, none⟩ = some (.string z) ∧ w.heap.size < W.heap.size ∧ Below w1.heap.size w1 W)
  (first | assumption | exact hS _ (Below.refl _ _).drew | exact hS _ ((Below.refl _ _).drew.trans hb1) | exact hS _ (((Below.refl _ _).drew.trans hb1).trans (hb2.mono hb1.size)) | fail)
  (first | (go_at_call 37; with_reducible refine (k1 _).mono ?_; rintro e w2 ⟨rfl, hb1⟩) | (go_at_call 37; with_reducible refine (k2 _).mono ?_; rintro e w3 ⟨rfl, hb2⟩) | fail)
 go_wp2_with fail
 go_ret
 exact ⟨rfl, bthen hB hB.size (((Below.refl _ _).drew.trans hb1).trans (hb2.mono hb1.size))⟩
end
end Go.Proofs.YtahegpfdbgbioaaGreat
namespace Go.Proofs.YtahegpfdbgbioaaGreat
open Go.RowKit
theorem rread_none12 {s : ByteArray} (h : readN s = none) (hs : s.size ≤ 100000) (w : World) : Calls Tryz.prog 31 #[.string s] w fun e w' => e = .returned (.tuple #[.agg #[.string ⟨#[]⟩, .string ⟨#[]⟩, .string ⟨#[]⟩], .int .i64 11]) ∧ Below w.heap.size w w' := by
 have k := rread_any12 (w := w) s hs
 rw [h] at k
 exact k
theorem rread_some12 {s : ByteArray} {a b c : ByteArray} (h : readN s = some (a, b, c)) (hs : s.size ≤ 100000) (w : World) : Calls Tryz.prog 31 #[.string s] w fun e w' => e = .returned (.tuple #[.agg #[.string a, .string b, .string c], .int .i64 0]) ∧ Below w.heap.size w w' := by
 have k := rread_any12 (w := w) s hs
 rw [h] at k
 exact k
section
variable {w : World}
theorem rparse_any12 (s : ByteArray) (hs : s.size ≤ 100000) :
 Calls Tryz.prog 33 #[.string s] w fun e w' => e = .returned (.tuple #[.agg #[.string (tupO (parseT s)).1.1, .string (tupO (parseT s)).1.2.1, .string (tupO (parseT s)).1.2.2, .string (tupO (parseT s)).2.1, .string (tupO (parseT s)).2.2.1, .string (tupO (parseT s)).2.2.2], .int .i64 (errO (parseT s))]) ∧ Below w.heap.size w w' := by
 obtain ⟨R, hRd⟩ : ∃ R, Hid (parseT s = R) := ⟨_, Lib.hid rfl⟩
 rw [hRd.out]
 unfold parseT at hRd
 have zo : (cutC s 64).1.size ≤ 100000 := by have h1 := cutC_size s 64; have h2 := (fstC_spec s 64).1; omega
 have zr : (cutC s 64).2.size ≤ 100000 := by have h1 := cutC_size2 s 64; omega
 have k1 : ∀ W : World, _ := fun W => rcutC_any (w := W) s 64 hs
 generalize (cutC s 64).1 = o at *
 generalize (cutC s 64).2 = r at *
 have hR := Bk.new w #[.string ⟨#[]⟩, .string ⟨#[]⟩, .string ⟨#[]⟩, .string ⟨#[]⟩, .string ⟨#[]⟩, .string ⟨#[]⟩] 71
 have hB := bnew w (.cells #[.string ⟨#[]⟩, .string ⟨#[]⟩, .string ⟨#[]⟩, .string ⟨#[]⟩, .string ⟨#[]⟩, .string ⟨#[]⟩] 71)
 go_enter Tryz.func33, Tryz.ntmps33
 go_upto_region 1 with (fail)
 generalize w.alloc (.cells #[.string ⟨#[]⟩, .string ⟨#[]⟩, .string ⟨#[]⟩, .string ⟨#[]⟩, .string ⟨#[]⟩, .string ⟨#[]⟩] 71) = w1 at *
 go_upto_region 2 with (go_at_call 69; refine (k1 _).mono ?_; rintro e w2 ⟨rfl, hb⟩)
 replace hR := hR.below hb
 replace hB := bthen hB hB.size hb
 clear hb k1
 obtain ⟨a, b, c, ea, hka, hA⟩ : ∃ a b c, ∃ ea : Int, (∀ W : World, Calls Tryz.prog 31 #[.string o] W fun e w' => e = .returned (.tuple #[.agg #[.string a, .string b, .string c], .int .i64 ea]) ∧ Below W.heap.size W w') ∧ Hid (readN o = none ∧ ea = 11 ∨ readN o = some (a, b, c) ∧ ea = 0) := by
  cases h : readN o with
  | none => exact ⟨_, _, _, _, fun W => rread_none12 h zo W, Lib.hid (.inl ⟨rfl, rfl⟩)⟩
  | some n => exact ⟨_, _, _, _, fun W => rread_some12 h zo W, Lib.hid (.inr ⟨rfl, rfl⟩)⟩
 obtain ⟨x, y, z, eb, hkb, hC⟩ : ∃ a b c, ∃ ea : Int, (∀ W : World, Calls Tryz.prog 31 #[.string r] W fun e w' => e = .returned (.tuple #[.agg #[.string a, .string b, .string c], .int .i64 ea]) ∧ Below W.heap.size W w') ∧ Hid (readN r = none ∧ ea = 11 ∨ readN r = some (a, b, c) ∧ ea = 0) := by
  cases h : readN r with
  | none => exact ⟨_, _, _, _, fun W => rread_none12 h zr W, Lib.hid (.inl ⟨rfl, rfl⟩)⟩
  | some n => exact ⟨_, _, _, _, fun W => rread_some12 h zr W, Lib.hid (.inr ⟨rfl, rfl⟩)⟩
 go_upto_region 3 with (go_at_call 31; refine (hka _).mono ?_; rintro e w3 ⟨rfl, hb⟩)
 have hN := Bk.new w3 #[.string a, .string b, .string c] 69
 replace hR := (hR.below hb).alloc (.cells #[.string a, .string b, .string c] 69)
 replace hB := (bthen hB hB.size hb).alloc (bthen hB hB.size hb).size (.cells #[.string a, .string b, .string c] 69)
 clear hb hka
 generalize w3.alloc (.cells #[.string a, .string b, .string c] 69) = w4 at *
 generalize w3.heap.size = gn at *
 go_upto_region 4 with (go_at_call 31; refine (hkb _).mono ?_; rintro e w5 ⟨rfl, hb⟩)
 have hM := Bk.new w5 #[.string x, .string y, .string z] 69
 replace hN := (hN.below hb).alloc (.cells #[.string x, .string y, .string z] 69)
 replace hR := (hR.below hb).alloc (.cells #[.string x, .string y, .string z] 69)
 replace hB := (bthen hB hB.size hb).alloc (bthen hB hB.size hb).size (.cells #[.string x, .string y, .string z] 69)
 clear hb hkb
 generalize w5.alloc (.cells #[.string x, .string y, .string z] 69) = w6 at *
 generalize w5.heap.size = gm at *
 obtain ⟨n0, n1, n2⟩ := hN.c3
 obtain ⟨m0, m1, m2⟩ := hM.c3
 have nl := hN.lt
 have ml := hM.lt
 obtain ⟨r0, r1, r2, r3, r4, r5⟩ := hR.c6
 have rl := hR.lt
 have rf := hR.fz
 rcases hA.out with ⟨h1, rfl⟩ | ⟨h1, rfl⟩
 · obtain rfl : R = none := by have q := hRd.out; rw [h1] at q; exact q.symm
   clear hRd hA hC h1
   go_wp2_with fail
   obtain ⟨hw, hb6⟩ := set6 hR hB (Nat.le_refl _) (.string ⟨#[]⟩) (.string ⟨#[]⟩) (.string ⟨#[]⟩) (.string ⟨#[]⟩) (.string ⟨#[]⟩) (.string ⟨#[]⟩)
   obtain ⟨y0, y1, y2, y3, y4, y5⟩ := hw.c6
   refine bodyPost_ret (v := .tuple #[.agg #[.string ⟨#[]⟩, .string ⟨#[]⟩, .string ⟨#[]⟩, .string ⟨#[]⟩, .string ⟨#[]⟩, .string ⟨#[]⟩], .int .i64 11]) (by simp [results, Tryz.results33, go_sem, y0, y1, y2, y3, y4, y5]; try rfl) rfl ?_
   exact ⟨rfl, hb6⟩
 · rcases hC.out with ⟨h2, rfl⟩ | ⟨h2, rfl⟩
   · obtain rfl : R = none := by have q := hRd.out; rw [h1, h2] at q; exact q.symm
     clear hRd hA hC h1 h2
     go_wp2_with fail
     obtain ⟨hw, hb6⟩ := set6 hR hB (Nat.le_refl _) (.string ⟨#[]⟩) (.string ⟨#[]⟩) (.string ⟨#[]⟩) (.string ⟨#[]⟩) (.string ⟨#[]⟩) (.string ⟨#[]⟩)
     obtain ⟨y0, y1, y2, y3, y4, y5⟩ := hw.c6
     refine bodyPost_ret (v := .tuple #[.agg #[.string ⟨#[]⟩, .string ⟨#[]⟩, .string ⟨#[]⟩, .string ⟨#[]⟩, .string ⟨#[]⟩, .string ⟨#[]⟩], .int .i64 11]) (by simp [results, Tryz.results33, go_sem, y0, y1, y2, y3, y4, y5]; try rfl) rfl ?_
     exact ⟨rfl, hb6⟩
   · by_cases he : c = ⟨#[]⟩
     · obtain rfl : R = none := by have q := hRd.out; rw [h1, h2] at q; dsimp only at q; rw [if_pos he] at q; exact q.symm
       have d := emp_yes he
       clear hRd hA hC h1 h2 he
       go_wp2_with fail
       obtain ⟨hw, hb6⟩ := set6 hR hB (Nat.le_refl _) (.string ⟨#[]⟩) (.string ⟨#[]⟩) (.string ⟨#[]⟩) (.string ⟨#[]⟩) (.string ⟨#[]⟩) (.string ⟨#[]⟩)
       obtain ⟨y0, y1, y2, y3, y4, y5⟩ := hw.c6
       refine bodyPost_ret (v := .tuple #[.agg #[.string ⟨#[]⟩, .string ⟨#[]⟩, .string ⟨#[]⟩, .string ⟨#[]⟩, .string ⟨#[]⟩, .string ⟨#[]⟩], .int .i64 11]) (by simp [results, Tryz.results33, go_sem, y0, y1, y2, y3, y4, y5]; try rfl) rfl ?_
       exact ⟨rfl, hb6⟩
     · obtain rfl : R = some ((a, b, c), (x, y, z)) := by have q := hRd.out; rw [h1, h2] at q; dsimp only at q; rw [if_neg he] at q; exact q.symm
       have d := emp_no he
       clear hRd hA hC h1 h2 he
       go_wp2_with fail
       obtain ⟨hw, hb6⟩ := set6 hR hB (Nat.le_refl _) (.string a) (.string b) (.string c) (.string x) (.string y) (.string z)
       obtain ⟨y0, y1, y2, y3, y4, y5⟩ := hw.c6
       refine bodyPost_ret (v := .tuple #[.agg #[.string a, .string b, .string c, .string x, .string y, .string z], .int .i64 0]) (by simp [results, Tryz.results33, go_sem, y0, y1, y2, y3, y4, y5]; try rfl) rfl ?_
       exact ⟨rfl, hb6⟩
theorem rnames_any12 (a b c x y z : ByteArray) :
 Calls Tryz.prog 66 #[.agg #[.string a, .string b, .string c, .string x, .string y, .string z]] w fun e w' => (∃ g, e = .returned (.slice (some ⟨g, 0, none⟩) 6 6) ∧ Bk w' g #[.string a, .string b, .string c, .string x, .string y, .string z] 9 ∧ w.heap.size ≤ g) ∧ Below w.heap.size w w' := by
 have hk := Bk.new w #[.string a, .string b, .string c, .string x, .string y, .string z] 71
 have hB := bnew w (.cells #[.string a, .string b, .string c, .string x, .string y, .string z] 71)
 obtain ⟨c0, c1, c2, c3, c4, c5⟩ := hk.c6
 have lk := hk.lt
 go_enter Tryz.func66, Tryz.ntmps66
 go_upto_region 1 with (fail)
 generalize w.alloc (.cells #[.string a, .string b, .string c, .string x, .string y, .string z] 71) = w1 at *
 have hN := Bk.new w1 #[.string a, .string b, .string c, .string x, .string y, .string z] 9
 go_wp2_with fail
 go_ret
 exact ⟨⟨_, rfl, hN, hB.size⟩, hB.alloc hB.size _⟩
def fewT (t : TuP) : Bool := decide (∀ x ∈ namesT t, x.size ≤ 120)
theorem few_any12 (a b c x y z : ByteArray) (ha : a.size ≤ maxLen) (hb : b.size ≤ maxLen) (hc : c.size ≤ maxLen) (hx : x.size ≤ maxLen) (hy : y.size ≤ maxLen) (hz : z.size ≤ maxLen) :
 Calls Tryz.prog 29 #[.agg #[.string a, .string b, .string c, .string x, .string y, .string z]] w fun e w' => e = .returned (.bool (fewT ((a, b, c), (x, y, z)))) ∧ Below w.heap.size w w' := by
 obtain ⟨R, hRd⟩ : ∃ R, Hid (fewT ((a, b, c), (x, y, z)) = R) := ⟨_, Lib.hid rfl⟩
 rw [hRd.out]
 have hk := Bk.new w #[.string a, .string b, .string c, .string x, .string y, .string z] 71
 have hB := bnew w (.cells #[.string a, .string b, .string c, .string x, .string y, .string z] 71)
 have hsz : ∀ i, i < 6 → (nth6 a b c x y z i).size ≤ maxLen := fun i hi => by
  obtain rfl | rfl | rfl | rfl | rfl | rfl : i = 0 ∨ i = 1 ∨ i = 2 ∨ i = 3 ∨ i = 4 ∨ i = 5 := by omega
  all_goals assumption
 clear ha hb hc hx hy hz
 obtain ⟨c0, c1, c2, c3, c4, c5⟩ := hk.c6
 have lk := hk.lt
 go_enter Tryz.func29, Tryz.ntmps29
 go_upto_region 1 with (fail)
 generalize w.alloc (.cells #[.string a, .string b, .string c, .string x, .string y, .string z] 71) = w1 at *
 have kn := rnames_any12 (w := w1) a b c x y z
 go_upto_region 2 with (go_at_call 66; refine kn.mono ?_; rintro e w2 ⟨⟨g, rfl, hN, _⟩, hb2⟩)
 replace hB := bthen hB hB.size hb2
 clear kn hb2 c0 c1 c2 c3 c4 c5 lk hk
 go_wp2_with fail
 go_loopw [4] (fun vi wx => ∃ i : Nat, vi = .int .i64 i ∧ i ≤ 6 ∧ (∀ j, j < i → (nth6 a b c x y z j).size ≤ 120) ∧ Below w2.heap.size w2 wx) (fun vi _ => 6 - (intOf vi).toNat)
 case atStart => exact ⟨0, rfl, by omega, fun j hj => absurd hj (Nat.not_lt_zero _), Below.refl _ _⟩
 case round =>
  obtain ⟨i, rfl, hi, hj, hbx⟩ := hrel
  have Hj := Lib.hid hj
  clear hj
  by_cases hil : i < 6
  · have hdi : (i : Int) < 6 := by omega
    have hd0 : (0 : Int) ≤ (i : Int) := by omega
    obtain ⟨e1, f1⟩ := at6 a b c x y z hil
    have g1 := hN.below hbx
    have c1 : wr.cell? ⟨g, i, none⟩ = _ := (g1.cell i).trans e1
    have l1 := g1.lt
    have hs := hsz i hil
    have hms : ((nth6 a b c x y z i).size : Int) ≤ 9223372036854775807 := by simp only [maxLen] at hs; omega
    have Hf := Lib.hid f1
    obtain ⟨u, hu⟩ : ∃ u, Hid (nth6 a b c x y z i = u) := ⟨_, Lib.hid rfl⟩
    rw [hu.out] at c1 hms hs
    clear e1 f1
    by_cases h : 120 < u.size
    · have hdu : (120 : Int) < (u.size : Int) := by omega
      obtain rfl : R = false := by
       rw [← hRd.out]
       unfold fewT
       refine decide_eq_false fun q => ?_
       have := q u (by rw [← hu.out]; exact List.mem_of_getElem? Hf.out)
       omega
      clear hRd
      go_wp2_with fail
      go_ret
      exact ⟨rfl, bthen hB hB.size hbx⟩
    · have hdu : ¬ (120 : Int) < (u.size : Int) := by omega
      have Hn : Hid (∀ j, j < i + 1 → (nth6 a b c x y z j).size ≤ 120) := Lib.hid fun j hj => by
       rcases Nat.lt_or_ge j i with q | q
       · exact Hj.out j q
       · obtain rfl : j = i := by omega
         rw [hu.out]
         omega
      clear h
      go_wp2_with fail
      refine ⟨⟨i + 1, by go_num, by omega, Hn.out, hbx⟩, ?_⟩
      simp [intOf]; omega
  · have hdi : ¬ (i : Int) < 6 := by omega
    obtain rfl : R = true := by
     rw [← hRd.out]
     unfold fewT
     refine decide_eq_true fun q hq => ?_
     obtain ⟨j, hj⟩ := List.getElem?_of_mem hq
     have hj6 : j < 6 := (List.getElem?_eq_some_iff.1 hj).1
     have h2 := (at6 a b c x y z hj6).2
     have h3 : some q = some (nth6 a b c x y z j) := hj.symm.trans h2
     rw [Option.some.inj h3]
     exact Hj.out j (by omega)
    clear hRd
    go_wp2_with fail
    go_ret
    exact ⟨rfl, bthen hB hB.size hbx⟩
end
end Go.Proofs.YtahegpfdbgbioaaGreat
namespace Go.Proofs.YtahegpfdbgbioaaGreat
open Go.RowKit
def keyPre (f : Nat → ByteArray) : Nat → ByteArray
 | 0 => f 0
 | i + 1 => keyPre f i ++ (sOne 0 ++ f (i + 1))
theorem keyPre_size (f : Nat → ByteArray) {m n : Nat} (h : ∀ i, i < n → (f i).size ≤ m) : ∀ i, i < n → (keyPre f i).size ≤ (i + 1) * (m + 1)
 | 0, hi => by have := h 0 hi; show (f 0).size ≤ _; omega
 | i + 1, hi => by
  have h1 := keyPre_size f h i (by omega)
  have h2 := h (i + 1) hi
  show (keyPre f i ++ (sOne 0 ++ f (i + 1))).size ≤ _
  rw [size_app, size_app, sOne_size, Nat.add_mul (i + 1) 1]
  omega
theorem keyPre_six (a b c x y z : ByteArray) : keyPre (nth6 a b c x y z) 5 = keyT ((a, b, c), (x, y, z)) := by
 show a ++ (sOne 0 ++ b) ++ (sOne 0 ++ c) ++ (sOne 0 ++ x) ++ (sOne 0 ++ y) ++ (sOne 0 ++ z) = a ++ sOne 0 ++ (b ++ sOne 0 ++ (c ++ sOne 0 ++ (x ++ sOne 0 ++ (y ++ sOne 0 ++ z))))
 simp only [ByteArray.append_assoc]
theorem zeros_iff : ∀ (n : Nat) (s : ByteArray), zerosB n s = true ↔ ∀ j, j < n → fstC (restB j s) 0 < (restB j s).size
 | 0, _ => ⟨fun _ j hj => absurd hj (Nat.not_lt_zero _), fun _ => rfl⟩
 | n + 1, s => by
  show (decide (fstC s 0 < s.size) && zerosB n (cutC s 0).2) = true ↔ _
  rw [Bool.and_eq_true, decide_eq_true_iff, zeros_iff n]
  constructor
  · rintro ⟨h1, h2⟩ j hj
    cases j with
    | zero => exact h1
    | succ j => exact h2 j (by omega)
  · intro h
    exact ⟨h 0 (by omega), fun j hj => h (j + 1) (by omega)⟩
section
variable {w : World}
theorem rkey_any12 (a b c x y z : ByteArray) (ha : a.size ≤ 100000) (hb : b.size ≤ 100000) (hc : c.size ≤ 100000) (hx : x.size ≤ 100000) (hy : y.size ≤ 100000) (hz : z.size ≤ 100000) :
 Calls Tryz.prog 41 #[.agg #[.string a, .string b, .string c, .string x, .string y, .string z]] w fun e w' => e = .returned (.string (keyT ((a, b, c), (x, y, z)))) ∧ Below w.heap.size w w' := by
 rw [← keyPre_six]
 have hk := Bk.new w #[.string a, .string b, .string c, .string x, .string y, .string z] 71
 have hB := bnew w (.cells #[.string a, .string b, .string c, .string x, .string y, .string z] 71)
 have hsz : ∀ i, i < 6 → (nth6 a b c x y z i).size ≤ 100000 := fun i hi => by
  obtain rfl | rfl | rfl | rfl | rfl | rfl : i = 0 ∨ i = 1 ∨ i = 2 ∨ i = 3 ∨ i = 4 ∨ i = 5 := by omega
  all_goals assumption
 clear ha hb hc hx hy hz
 have hpz := keyPre_size _ hsz
 obtain ⟨c0, c1, c2, c3, c4, c5⟩ := hk.c6
 have lk := hk.lt
 go_enter Tryz.func41, Tryz.ntmps41
 go_upto_region 1 with (fail)
 generalize w.alloc (.cells #[.string a, .string b, .string c, .string x, .string y, .string z] 71) = w1 at *
 have kn := rnames_any12 (w := w1) a b c x y z
 go_upto_region 2 with (go_at_call 66; refine kn.mono ?_; rintro e w2 ⟨⟨g, rfl, hN, _⟩, hb2⟩)
 replace hB := bthen hB hB.size hb2
 clear kn hb2 c0 c1 c2 c3 c4 c5 lk hk
 obtain ⟨c0, c1, c2, c3, c4, c5⟩ := hN.c6
 have lk := hN.lt
 go_wp2_with fail
 clear c0 c1 c2 c3 c4 c5
 go_loopw [4, 5] (fun vs vi wx => ∃ i : Nat, vi = .int .i64 (i + 1 : Nat) ∧ vs = .string (keyPre (nth6 a b c x y z) i) ∧ i ≤ 5 ∧ Below w2.heap.size w2 wx) (fun _ vi _ => 6 - (intOf vi).toNat)
 case atStart => exact ⟨0, rfl, rfl, by omega, Below.refl _ _⟩
 case round =>
  obtain ⟨i, rfl, rfl, hi, hbx⟩ := hrel
  by_cases hil : i < 5
  · have hdi : ((i + 1 : Nat) : Int) < 6 := by omega
    have hd0 : (0 : Int) ≤ ((i + 1 : Nat) : Int) := by omega
    have e1 := (at6 a b c x y z (i := i + 1) (by omega)).1
    have g1 := hN.below hbx
    have c1 : wr.cell? ⟨g, i + 1, none⟩ = _ := (g1.cell (i + 1)).trans e1
    have l1 := g1.lt
    have hs := hsz (i + 1) (by omega)
    have hp := hpz i (by omega)
    obtain ⟨u, hu⟩ : ∃ u, Hid (nth6 a b c x y z (i + 1) = u) := ⟨_, Lib.hid rfl⟩
    have hnx : Hid (keyPre (nth6 a b c x y z) i ++ (sOne 0 ++ u) = keyPre (nth6 a b c x y z) (i + 1)) := Lib.hid (by rw [← hu.out]; rfl)
    rw [hu.out] at c1 hs
    generalize keyPre (nth6 a b c x y z) i = q at *
    clear e1 hsz hpz
    have hq : q.size ≤ 600006 := by omega
    have n1 : ¬ 9223372036854775807 < 1 + u.size := by omega
    have n2 : ¬ 9223372036854775807 < q.size + (1 + u.size) := by omega
    clear hp
    generalize hm : (i + 1 : Nat) = m at *
    have hsm : IntKind.i64.wrap ((m : Int) + 1) = (m : Int) + 1 := IntWalk.i64_in _ (by omega)
    go_wp2_with fail
    refine ⟨⟨m, by go_num, by rw [← hnx.out]; rfl, by omega, hbx⟩, ?_⟩
    simp [intOf]; omega
  · obtain rfl : i = 5 := by omega
    go_wp2_with fail
    go_ret
    exact ⟨rfl, bthen hB hB.size hbx⟩
theorem rcmp_any12 (a b c x y z a' b' c' x' y' z' : ByteArray) :
 Calls Tryz.prog 44 #[.agg #[.string a, .string b, .string c, .string x, .string y, .string z], .agg #[.string a', .string b', .string c', .string x', .string y', .string z']] w fun e w' => e = .returned (.int .i64 (cmpT ((a, b, c), (x, y, z)) ((a', b', c'), (x', y', z')))) ∧ Below w.heap.size w w' := by
 obtain ⟨R, hRd⟩ : ∃ R, Hid (cmpT ((a, b, c), (x, y, z)) ((a', b', c'), (x', y', z')) = R) := ⟨_, Lib.hid rfl⟩
 rw [hRd.out]
 have hk := (Bk.new w #[.string a, .string b, .string c, .string x, .string y, .string z] 71).alloc (.cells #[.string a', .string b', .string c', .string x', .string y', .string z'] 71)
 have hl := Bk.new2 w (.cells #[.string a, .string b, .string c, .string x, .string y, .string z] 71) #[.string a', .string b', .string c', .string x', .string y', .string z'] 71
 have hB : Below w.heap.size w ((w.alloc (.cells #[.string a, .string b, .string c, .string x, .string y, .string z] 71)).alloc (.cells #[.string a', .string b', .string c', .string x', .string y', .string z'] 71)) := ((Below.refl _ w).alloc (Nat.le_refl _) _).alloc (size_alloc (Nat.le_refl _)) _
 go_enter Tryz.func44, Tryz.ntmps44
 go_upto_region 1 with (fail)
 generalize (w.alloc (.cells #[.string a, .string b, .string c, .string x, .string y, .string z] 71)).alloc (.cells #[.string a', .string b', .string c', .string x', .string y', .string z'] 71) = w1 at *
 have kn := rnames_any12 (w := w1) a b c x y z
 obtain ⟨c0, c1, c2, c3, c4, c5⟩ := hk.c6
 have lk := hk.lt
 go_upto_region 2 with (go_at_call 66; refine kn.mono ?_; rintro e w2 ⟨⟨g, rfl, hN, _⟩, hb2⟩)
 replace hl := hl.below hb2
 replace hB := bthen hB hB.size hb2
 clear kn hb2 c0 c1 c2 c3 c4 c5 lk hk
 have kn := rnames_any12 (w := w2) a' b' c' x' y' z'
 obtain ⟨c0, c1, c2, c3, c4, c5⟩ := hl.c6
 have lk := hl.lt
 go_upto_region 3 with (go_at_call 66; refine kn.mono ?_; rintro e w3 ⟨⟨g', rfl, hM, _⟩, hb2⟩)
 replace hN := hN.below hb2
 replace hB := bthen hB hB.size hb2
 clear kn hb2 c0 c1 c2 c3 c4 c5 lk hl
 go_wp2_with fail
 go_loopw [7] (fun vi wx => ∃ i : Nat, vi = .int .i64 i ∧ i ≤ 6 ∧ (∀ j, j < i → [a, b, c, x, y, z][j]? = [a', b', c', x', y', z'][j]?) ∧ Below w3.heap.size w3 wx) (fun vi _ => 6 - (intOf vi).toNat)
 case atStart => exact ⟨0, rfl, by omega, fun j hj => absurd hj (Nat.not_lt_zero _), Below.refl _ _⟩
 case round =>
  obtain ⟨i, rfl, hi, hj, hbx⟩ := hrel
  have Hj := Lib.hid hj
  clear hj
  by_cases hil : i < 6
  · have hi0 : (0 : Int) ≤ (i : Int) := by omega
    have hi6 : (i : Int) < 6 := by omega
    obtain ⟨e1, f1⟩ := at6 a b c x y z hil
    obtain ⟨e2, f2⟩ := at6 a' b' c' x' y' z' hil
    have g1 := hN.below hbx
    have g2 := hM.below hbx
    have c1 : wr.cell? ⟨g, i, none⟩ = _ := (g1.cell i).trans e1
    have c2 : wr.cell? ⟨g', i, none⟩ = _ := (g2.cell i).trans e2
    have l1 := g1.lt
    have l2 := g2.lt
    clear e1 e2
    have F1 := Lib.hid f1
    have F2 := Lib.hid f2
    clear f1 f2 g1 g2
    generalize nth6 a b c x y z i = u at *
    generalize nth6 a' b' c' x' y' z' i = v at *
    cases h1 : less u v with
    | true =>
     have d : Op.bytesLess u.toList v.toList = true := h1
     have huv : u ≠ v := fun e => by rw [e, less_self] at h1; cases h1
     obtain rfl : R = -1 := by
      rw [← hRd.out]
      refine (cmp_first _ _ i u v F1.out F2.out huv Hj.out).trans ?_
      unfold cmpB
      rw [h1]
      rfl
     clear hRd h1 huv
     go_wp2_with fail
     go_quiet (fail)
     go_wp2_with fail
     go_ret
     exact ⟨rfl, (bthen hB hB.size hbx).trans ⟨rfl, rfl, rfl, Nat.le_refl _, fun _ _ => rfl⟩⟩
    | false =>
     have d : Op.bytesLess u.toList v.toList = false := h1
     cases h2 : less v u with
     | true =>
      have d2 : Op.bytesLess v.toList u.toList = true := h2
      have huv : u ≠ v := fun e => by rw [e, less_self] at h2; cases h2
      obtain rfl : R = 1 := by
       rw [← hRd.out]
       refine (cmp_first _ _ i u v F1.out F2.out huv Hj.out).trans ?_
       unfold cmpB
       rw [h1, h2]
       rfl
      have d3 : (u.toList == v.toList) = false := toList_ne huv
      clear hRd h1 h2 huv
      go_wp2_with fail
      go_quiet (fail)
      go_wp2_with fail
      replace c1 : (wr.drewN nq).cell? ⟨g, i, none⟩ = some (.string u) := c1
      replace c2 : (wr.drewN nq).cell? ⟨g', i, none⟩ = some (.string v) := c2
      replace l1 : g < (wr.drewN nq).heap.size := l1
      replace l2 : g' < (wr.drewN nq).heap.size := l2
      replace hbx : Below w3.heap.size w3 (wr.drewN nq) := hbx.trans ⟨rfl, rfl, rfl, Nat.le_refl _, fun _ _ => rfl⟩
      generalize wr.drewN nq = wd at *
      go_quiet (fail)
      go_wp2_with fail
      go_ret
      exact ⟨rfl, (bthen hB hB.size hbx).trans ⟨rfl, rfl, rfl, Nat.le_refl _, fun _ _ => rfl⟩⟩
     | false =>
      have d2 : Op.bytesLess v.toList u.toList = false := h2
      have huv : u = v := by
       rcases Decidable.em (u = v) with e | e
       · exact e
       · rw [less_total e h1] at h2
         cases h2
      have hn : Hid (∀ j, j < i + 1 → [a, b, c, x, y, z][j]? = [a', b', c', x', y', z'][j]?) := Lib.hid fun j hj => by
       rcases Nat.lt_or_ge j i with h | h
       · exact Hj.out j h
       · obtain rfl : j = i := by omega
         rw [F1.out, F2.out, huv]
      have d3 : (u.toList == v.toList) = true := toList_eq_true huv
      clear huv h1 h2
      go_wp2_with fail
      go_quiet (fail)
      go_wp2_with fail
      replace c1 : (wr.drewN nq).cell? ⟨g, i, none⟩ = some (.string u) := c1
      replace c2 : (wr.drewN nq).cell? ⟨g', i, none⟩ = some (.string v) := c2
      replace l1 : g < (wr.drewN nq).heap.size := l1
      replace l2 : g' < (wr.drewN nq).heap.size := l2
      replace hbx : Below w3.heap.size w3 (wr.drewN nq) := hbx.trans ⟨rfl, rfl, rfl, Nat.le_refl _, fun _ _ => rfl⟩
      generalize wr.drewN nq = wd at *
      go_quiet (fail)
      go_wp2_with fail
      refine ⟨⟨i + 1, by go_num, by omega, hn.out, hbx.trans ⟨rfl, rfl, rfl, Nat.le_refl _, fun _ _ => rfl⟩⟩, ?_⟩
      simp [intOf]; omega
  · have hdi : ¬ (i : Int) < 6 := by omega
    obtain rfl : R = 0 := by
     rw [← hRd.out, cmpT_zero]
     have h : namesT ((a, b, c), (x, y, z)) = namesT ((a', b', c'), (x', y', z')) := by
      refine List.ext_getElem? fun j => ?_
      rcases Nat.lt_or_ge j 6 with q | q
      · exact Hj.out j (by omega)
      · rw [List.getElem?_eq_none (by exact q), List.getElem?_eq_none (by exact q)]
     exact names_inj h
    clear hRd
    go_wp2_with fail
    go_ret
    exact ⟨rfl, bthen hB hB.size hbx⟩
end
end Go.Proofs.YtahegpfdbgbioaaGreat
