/- The reference's functions on a whole text: whether it is valid, how many runes, a name, its first runes, a place's line and column. Conditions: the text has at most a million bytes. -/
import Derived.BigQuiet
import Derived.Deep.QuietTactic
import Derived.Test.YtfikloeeljgelaaRef
namespace Go.Proofs.Ytfikloeeljgelaa
open Go.RowKit

set_option maxHeartbeats 400000 in
theorem step_any (s : ByteArray) (z : Int) (i : Nat) (w : World) (hz : z = i) (hs : s.size ≤ 1000000) (h : i < s.size) :
    Calls Try.prog 21 #[.string s, .int .i64 z] w fun e w' => e = .returned (.int .i64 ((i + wd s i : Nat) : Int)) ∧ w = w' := by
  subst hz
  have h1 := wd_pos h
  have h2 := wd_le h
  have hl : (0 : Int) ≤ lng s i := by omega
  rcases lng_wd s i with ⟨e, e'⟩ | e
  · have hd : (((lng s i : Nat) : Int) == 0) = true := by simp [e]
    have E' := Lib.hid e'
    clear e e'
    go_enter Try.func21, Try.ntmps21
    go_wp2_with ((with_reducible refine (long_any _ _ _ hs h).mono ?_); rintro e w' ⟨rfl, rfl⟩)
    go_ret
    exact ⟨ret_int (by have := E'.out; omega), rfl⟩
  · have hd : (((lng s i : Nat) : Int) == 0) = false := by simp; omega
    have hq : (lng s i : Int) ≤ 1000000 := by omega
    have E' := Lib.hid e
    clear e
    go_enter Try.func21, Try.ntmps21
    go_wp2_with ((with_reducible refine (long_any _ _ _ hs h).mono ?_); rintro e w' ⟨rfl, rfl⟩)
    go_ret
    exact ⟨ret_int (by have := E'.out; omega), rfl⟩

theorem val_int {k : IntKind} {a b : Int} (h : a = b) : Value.int k a = .int k b := by rw [h]

set_option maxHeartbeats 1000000 in
theorem rcount_any (s : ByteArray) (w : World) (hs : s.size ≤ 1000000) :
    Calls Try.prog 17 #[.string s] w fun e w' => e = .returned (.int .i64 (cnt s)) ∧ w = w' := by
  go_enter Try.func17, Try.ntmps17
  go_wp2
  go_loop [3, 4] (fun n i => ∃ k : Nat, k ≤ cnt s ∧ n = .int .i64 k ∧ i = .int .i64 (plc s k)) (fun _ i => s.size - (intOf i).toNat)
  case atStart => exact ⟨0, Nat.zero_le _, rfl, rfl⟩
  case round =>
    obtain ⟨k, hk, rfl, rfl⟩ := hrel
    have hc := cnt_le s
    have hl := plc_le s k
    by_cases h : plc s k < s.size
    · have hk2 := lt_cnt.2 h
      have hw := wd_pos h
      have HS := Lib.hid (plc_succ h)
      go_wp2_with ((with_reducible refine (step_any s _ (plc s k) _ rfl hs h).mono ?_); rintro e w' ⟨rfl, rfl⟩)
      go_round
      case rel => exact ⟨k + 1, by omega, by go_num, by rw [HS.out]; go_num⟩
      case measure => simp [intOf]; omega
    · have e := cnt_eq h fun j hj => lt_cnt.1 (by omega)
      have E := Lib.hid e
      clear e
      go_wp2
      go_ret
      exact ⟨ret_int (by rw [E.out]), rfl⟩

set_option maxHeartbeats 1000000 in
theorem rvalid_any (s : ByteArray) (w : World) (hs : s.size ≤ 1000000) :
    Calls Try.prog 15 #[.string s] w fun e w' => e = .returned (.bool (validS s)) ∧ w = w' := by
  go_enter Try.func15, Try.ntmps15
  go_wp2
  go_loop [3] (fun i => ∃ k : Nat, k ≤ cnt s ∧ i = .int .i64 (plc s k) ∧ ∀ j, j < k → brk s (plc s j) = false) (fun i => s.size - (intOf i).toNat)
  case atStart => exact ⟨0, Nat.zero_le _, rfl, fun j hj => by omega⟩
  case round =>
    obtain ⟨k, hk, rfl, hall⟩ := hrel
    have Hall := Lib.hid hall
    clear hall
    have hc := cnt_le s
    have hl := plc_le s k
    by_cases h : plc s k < s.size
    · have hk2 := lt_cnt.2 h
      have hw := wd_pos h
      have HS := Lib.hid (plc_succ h)
      have hb := brk_lng h
      by_cases h0 : lng s (plc s k) = 0
      · rw [decide_eq_true h0] at hb
        have hd : (((lng s (plc s k) : Nat) : Int) == 0) = true := by simp [h0]
        have HB := Lib.hid hb
        clear hb h0
        go_wp2_with ((with_reducible refine (long_any s (plc s k) _ hs h).mono ?_); rintro e w' ⟨rfl, rfl⟩)
        go_ret
        refine ⟨ret_bool ?_, rfl⟩
        symm
        rw [Bool.eq_false_iff]
        intro hv
        have := validS_iff.1 hv k hk2
        rw [HB.out] at this
        cases this
      · rw [decide_eq_false h0] at hb
        have hd : (((lng s (plc s k) : Nat) : Int) == 0) = false := by simp; omega
        have HB := Lib.hid hb
        clear hb h0
        go_wp2_with (first
          | ((with_reducible refine (long_any s (plc s k) _ hs h).mono ?_); rintro e w' ⟨rfl, rfl⟩)
          | ((with_reducible refine (step_any s _ (plc s k) _ rfl hs h).mono ?_); rintro e w' ⟨rfl, rfl⟩))
        go_round
        case rel =>
          refine ⟨k + 1, by omega, by rw [HS.out]; go_num, fun j hj => ?_⟩
          by_cases e : j = k
          · subst e; exact HB.out
          · exact Hall.out j (by omega)
        case measure => simp [intOf]; omega
    · have e := cnt_eq h fun j hj => lt_cnt.1 (by omega)
      have E := Lib.hid e
      clear e
      go_wp2
      go_ret
      exact ⟨ret_bool (by symm; rw [validS_iff, E.out]; exact Hall.out), rfl⟩

set_option maxHeartbeats 1000000 in
theorem rcut_any (s : ByteArray) (n : Int) (w : World) (hs : s.size ≤ 1000000) :
    Calls Try.prog 11 #[.string s, .int .i64 n] w fun e w' => e = .returned (.tuple #[.string (cutA s n.toNat), .string (cutB s n.toNat)]) ∧ ∃ q, w' = w.drewN q := by
  go_enter Try.func11, Try.ntmps11
  go_wp2
  go_loop [6, 7] (fun i c => ∃ k : Nat, k ≤ cnt s ∧ k ≤ n.toNat ∧ c = .int .i64 k ∧ i = .int .i64 (plc s k)) (fun i _ => s.size - (intOf i).toNat)
  case atStart => exact ⟨0, Nat.zero_le _, Nat.zero_le _, rfl, rfl⟩
  case round =>
    obtain ⟨k, hk, hn, rfl, rfl⟩ := hrel
    have hc := cnt_le s
    have hl := plc_le s k
    by_cases hlt : k < n.toNat
    · by_cases h : plc s k < s.size
      · have hk2 := lt_cnt.2 h
        have hw := wd_pos h
        have HS := Lib.hid (plc_succ h)
        have hd : (k : Int) < n := by omega
        go_wp2_with ((with_reducible refine (step_any s _ (plc s k) _ rfl hs h).mono ?_); rintro e w' ⟨rfl, rfl⟩)
        go_round
        case rel => exact ⟨k + 1, by omega, by omega, by go_num, by rw [HS.out]; go_num⟩
        case measure => simp [intOf]; omega
      · have hd : (k : Int) < n := by omega
        have e := cnt_eq h fun j hj => lt_cnt.1 (by omega)
        have e2 : plc s k = plc s n.toNat := by rw [plc_end (k := n.toNat) (by omega), plc_end (k := k) (by omega)]
        have E := Lib.hid e2
        clear e e2
        go_wp2
        go_quiet (fail)
        go_wp2
        go_ret2
        exact ⟨by rw [E.out]; rfl, _, rfl⟩
    · have hd : ¬ (k : Int) < n := by omega
      have e2 : plc s k = plc s n.toNat := by rw [show k = n.toNat from by omega]
      have E := Lib.hid e2
      clear e2
      go_wp2
      go_quiet (fail)
      go_wp2
      go_ret2
      exact ⟨by rw [E.out]; rfl, _, rfl⟩

set_option maxHeartbeats 1000000 in
theorem rwhere_any (s : ByteArray) (a : Int) (w : World) (hs : s.size ≤ 1000000) :
    Calls Try.prog 13 #[.string s, .int .i64 a] w fun e w' => e = .returned (.tuple #[.int .i64 (whrS s (bef s a)).1, .int .i64 (whrS s (bef s a)).2]) ∧ w = w' := by
  go_enter Try.func13, Try.ntmps13
  go_wp2
  go_loop [6, 7, 8] (fun l c i => ∃ k : Nat, k ≤ cnt s ∧ l = .int .i64 (whrS s k).1 ∧ c = .int .i64 (whrS s k).2 ∧ i = .int .i64 (plc s k) ∧ ∀ j, j < k → (plc s j : Int) < a) (fun _ _ i => s.size - (intOf i).toNat)
  case atStart => exact ⟨0, Nat.zero_le _, rfl, rfl, rfl, fun j hj => by omega⟩
  case round =>
    obtain ⟨k, hk, rfl, rfl, rfl, hall⟩ := hrel
    have Hall := Lib.hid hall
    clear hall
    have hc := cnt_le s
    have hl := plc_le s k
    have hq := whrS_le s k
    by_cases hlt : plc s k < s.size ∧ (plc s k : Int) < a
    · obtain ⟨h, ha⟩ := hlt
      have hk2 := lt_cnt.2 h
      have hw := wd_pos h
      have HS := Lib.hid (plc_succ h)
      have hb := bt_eq s _ h
      have hall2 : ∀ j, j < k + 1 → (plc s j : Int) < a := fun j hj => by
        by_cases e : j = k
        · subst e; exact ha
        · exact Hall.out j (by omega)
      have Hall2 := Lib.hid hall2
      clear hall2
      by_cases h10 : bt s (plc s k) = 10
      · have hd : (((s[plc s k]).toNat : Int) == 10) = true := by rw [← hb, h10]; rfl
        have HW : Hid (whrS s (k + 1) = ((whrS s k).1 + 1, 1)) := Lib.hid (by show (if _ then _ else _) = _; rw [if_pos h10])
        clear h10 hb
        go_wp2_with ((with_reducible refine (step_any s _ (plc s k) _ rfl hs h).mono ?_); rintro e w' ⟨rfl, rfl⟩)
        go_round
        case rel => exact ⟨k + 1, by omega, by rw [HW.out]; go_num, by rw [HW.out]; rfl, by rw [HS.out]; go_num, Hall2.out⟩
        case measure => simp [intOf]; omega
      · have hd : (((s[plc s k]).toNat : Int) == 10) = false := by rw [← hb]; simp; omega
        have HW : Hid (whrS s (k + 1) = ((whrS s k).1, (whrS s k).2 + 1)) := Lib.hid (by show (if _ then _ else _) = _; rw [if_neg h10])
        clear h10 hb
        go_wp2_with ((with_reducible refine (step_any s _ (plc s k) _ rfl hs h).mono ?_); rintro e w' ⟨rfl, rfl⟩)
        go_round
        case rel => exact ⟨k + 1, by omega, by rw [HW.out], by rw [HW.out]; go_num, by rw [HS.out]; go_num, Hall2.out⟩
        case measure => simp [intOf]; omega
    · have e : bef s a = k := bef_eq hlt fun j hj => ⟨lt_cnt.1 (by omega), Hall.out j hj⟩
      have E := Lib.hid e
      clear e
      by_cases h : plc s k < s.size
      · have ha : ¬ (plc s k : Int) < a := fun h2 => hlt ⟨h, h2⟩
        clear hlt
        go_wp2
        go_ret2
        exact ⟨by rw [E.out]; rfl, rfl⟩
      · clear hlt
        go_wp2
        go_ret2
        exact ⟨by rw [E.out]; rfl, rfl⟩

set_option maxRecDepth 100000 in
set_option maxHeartbeats 1000000 in
theorem may_any (s : ByteArray) (i : Nat) (w : World) (hs : s.size ≤ 1000000) (h : i < s.size) :
    Calls Try.prog 25 #[.string s, .int .i64 i] w fun e w' => e = .returned (.bool (mayB s i)) ∧ w = w' := by
  have E := Lib.hid (mayB_eq h)
  have hb := bt_eq s i h
  have hl := lng_le h
  by_cases h1 : lng s i = 1
  · have hd : (((lng s i : Nat) : Int) == 1) = true := by simp [h1]
    have HB := Lib.hid hb
    have H1 := Lib.hid h1
    clear hb h1
    go_enter Try.func25, Try.ntmps25
    go_wp2_with ((with_reducible refine (long_any s i _ hs h).mono ?_); rintro e w' ⟨rfl, rfl⟩)
    all_goals go_ret
    all_goals (refine ⟨ret_bool ?_, rfl⟩; rw [E.out, if_pos H1.out, HB.out]; unfold byteB; try simp only [beq_iff_eq] at *)
    all_goals first
      | (symm; exact decide_eq_true (by omega))
      | (rw [Bool.eq_iff_iff]; simp only [decide_eq_true_eq, beq_iff_eq, Bool.or_eq_true]; omega)
  · have hd : (((lng s i : Nat) : Int) == 1) = false := by simp; omega
    have HB := Lib.hid hb
    have H1 := Lib.hid h1
    clear hb h1
    by_cases h2 : 1 < lng s i
    · have hn := lng_next h h2
      have HB1 := Lib.hid (bt_eq s (i + 1) hn)
      have hd2 : (1 : Int) < lng s i := by omega
      go_enter Try.func25, Try.ntmps25
      go_wp2_with ((with_reducible refine (long_any s i _ hs h).mono ?_); rintro e w' ⟨rfl, rfl⟩)
      all_goals go_ret
      all_goals (refine ⟨ret_bool ?_, rfl⟩; rw [E.out, if_neg H1.out, HB.out, HB1.out, decide_eq_true h2, Bool.eq_iff_iff]; simp only [Bool.true_and, Bool.or_eq_true, Bool.not_eq_true', decide_eq_true_eq, decide_eq_false_iff_not]; first | omega | (simp only [true_iff]; omega))
    · have hd2 : ¬ (1 : Int) < lng s i := by omega
      go_enter Try.func25, Try.ntmps25
      go_wp2_with ((with_reducible refine (long_any s i _ hs h).mono ?_); rintro e w' ⟨rfl, rfl⟩)
      go_ret
      exact ⟨ret_bool (by rw [E.out, if_neg H1.out, decide_eq_false h2]; rfl), rfl⟩

set_option maxHeartbeats 1000000 in
theorem rname_any (s : ByteArray) (w : World) (hs : s.size ≤ 1000000) :
    Calls Try.prog 19 #[.string s] w fun e w' => e = .returned (.bool (nameS s)) ∧ w = w' := by
  go_enter Try.func19, Try.ntmps19
  go_wp2
  go_loop [3] (fun i => ∃ k : Nat, k ≤ cnt s ∧ i = .int .i64 (plc s k) ∧ ∀ j, j < k → mayB s (plc s j) = true) (fun i => s.size - (intOf i).toNat)
  case atStart => exact ⟨0, Nat.zero_le _, rfl, fun j hj => by omega⟩
  case round =>
    obtain ⟨k, hk, rfl, hall⟩ := hrel
    have Hall := Lib.hid hall
    clear hall
    have hc := cnt_le s
    have hl := plc_le s k
    by_cases h : plc s k < s.size
    · have hk2 := lt_cnt.2 h
      have hw := wd_pos h
      have HS := Lib.hid (plc_succ h)
      by_cases hm : mayB s (plc s k) = true
      · go_wp2_with (first
          | ((with_reducible refine (may_any s (plc s k) _ hs h).mono ?_); rintro e w' ⟨rfl, rfl⟩)
          | ((with_reducible refine (step_any s _ (plc s k) _ rfl hs h).mono ?_); rintro e w' ⟨rfl, rfl⟩))
        go_round
        case rel =>
          refine ⟨k + 1, by omega, by rw [HS.out]; go_num, fun j hj => ?_⟩
          by_cases e : j = k
          · subst e; exact hm
          · exact Hall.out j (by omega)
        case measure => simp [intOf]; omega
      · rw [Bool.not_eq_true] at hm
        go_wp2_with (first
          | ((with_reducible refine (may_any s (plc s k) _ hs h).mono ?_); rintro e w' ⟨rfl, rfl⟩)
          | ((with_reducible refine (step_any s _ (plc s k) _ rfl hs h).mono ?_); rintro e w' ⟨rfl, rfl⟩))
        go_ret
        refine ⟨ret_bool ?_, rfl⟩
        symm
        rw [Bool.eq_false_iff]
        intro hv
        have := (nameS_iff.1 hv).2.2 k hk2
        rw [hm] at this
        cases this
    · have e := cnt_eq h fun j hj => lt_cnt.1 (by omega)
      have E := Lib.hid e
      clear e
      by_cases h0 : 0 < cnt s
      · have hd : (0 : Int) < (cnt s : Int) := by omega
        go_wp2_with ((with_reducible refine (rcount_any s _ hs).mono ?_); rintro e w' ⟨rfl, rfl⟩)
        go_ret
        refine ⟨ret_bool ?_, rfl⟩
        rw [Bool.eq_iff_iff, nameS_iff, E.out]
        simp only [decide_eq_true_eq]
        refine ⟨fun h24 => ⟨by have := E.out; omega, by omega, Hall.out⟩, fun h24 => by omega⟩
      · have hd : ¬ (0 : Int) < (cnt s : Int) := by omega
        go_wp2_with ((with_reducible refine (rcount_any s _ hs).mono ?_); rintro e w' ⟨rfl, rfl⟩)
        go_ret
        refine ⟨ret_bool ?_, rfl⟩
        symm
        rw [Bool.eq_false_iff]
        intro hv
        exact h0 (nameS_iff.1 hv).1
end Go.Proofs.Ytfikloeeljgelaa
