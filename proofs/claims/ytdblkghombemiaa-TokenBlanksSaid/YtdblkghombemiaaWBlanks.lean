/- TokenBlanks walked: it answers true. -/
import Derived.BigQuiet
import Derived.Deep.QuietTactic
import Derived.Test.YtdblkghombemiaaBlanksF
import Derived.Test.YtdblkghombemiaaWNotes
namespace Go.Proofs.Ytdblkghombemiaa
open Go.RowKit

set_option maxRecDepth 100000 in
set_option maxHeartbeats 8000000 in
theorem tokenBlanks_walk (s0 : ByteArray) (s1 : ByteArray) (w : World) (f0 : s0.size ≤ maxLen) (f1 : s1.size ≤ maxLen) :
    Calls Try.prog 4 #[.string s0, .string s1] w fun e w' => e = .returned (.bool true) ∧ Below w.heap.size w w' := by
  have Hb := Lib.hid (Below.refl w.heap.size w)
  have hB : w.heap.size ≤ w.heap.size := Nat.le_refl _
  unfold maxLen at f0 f1
  by_cases h300 : 300 < s0.size
  · go_enter Try.func4, Try.ntmps4
    go_wp2_with ((with_reducible refine (awake_any _).mono ?_); rintro e w1 ⟨rfl, hb⟩; obtain ⟨Hb, hB⟩ := chain Hb hB hb; clear hb)
    go_ret
    exact ⟨rfl, Hb.out⟩
  by_cases h20 : 20 < s1.size
  · go_enter Try.func4, Try.ntmps4
    go_wp2_with ((with_reducible refine (awake_any _).mono ?_); rintro e w1 ⟨rfl, hb⟩; obtain ⟨Hb, hB⟩ := chain Hb hB hb; clear hb)
    go_ret
    exact ⟨rfl, Hb.out⟩
  have kv : ∀ W, _ := fun W => valid_any s1 W (by omega)
  clear f0 f1
  cases hv : validS s1 with
  | false =>
    rw [hv] at kv
    go_enter Try.func4, Try.ntmps4
    go_wp2_with (first
      | ((with_reducible refine (awake_any _).mono ?_); rintro e w1 ⟨rfl, hb⟩; obtain ⟨Hb, hB⟩ := chain Hb hB hb; clear hb)
      | ((with_reducible refine (kv _).mono ?_); rintro e w2 ⟨rfl, hb⟩; obtain ⟨Hb, hB⟩ := chain Hb hB hb; clear hb))
    go_ret
    exact ⟨rfl, Hb.out⟩
  | true =>
  rw [hv] at kv
  go_enter Try.func4, Try.ntmps4
  go_wp2_with (first
    | ((with_reducible refine (awake_any _).mono ?_); rintro e w1 ⟨rfl, hb⟩; obtain ⟨Hb, hB⟩ := chain Hb hB hb; clear hb)
    | ((with_reducible refine (kv _).mono ?_); rintro e w2 ⟨rfl, hb⟩; obtain ⟨Hb, hB⟩ := chain Hb hB hb; clear hb))
  go_loopw [6] (fun vi wr => ∃ k : Nat, vi = .int .i64 k ∧ k ≤ s1.size ∧ w2 = wr ∧ ∀ j, j < k → bt s1 j ≠ 10) (fun vi _ => s1.size - (intOf vi).toNat)
  case atStart => exact ⟨0, rfl, Nat.zero_le _, by first | rfl | trivial, fun j hj => by omega⟩
  case round =>
    obtain ⟨k, rfl, hk, rfl, hall⟩ := hrel
    have Hall := Lib.hid hall
    clear hall
    by_cases h : k < s1.size
    · have hd : (k : Int) < (s1.size : Nat) := by omega
      have hx : (s1[k]'h).toNat = bt s1 k := (bt_eq s1 k h).symm
      by_cases h10 : bt s1 k = 10
      · have d10 : (((bt s1 k : Nat) : Int) == 10) = true := by rw [beq_iff_eq]; omega
        clear h10
        go_wp2
        go_ret
        exact ⟨rfl, Hb.out⟩
      · have d10 : (((bt s1 k : Nat) : Int) == 10) = false := by rw [beq_eq_false_iff_ne]; omega
        have H10 := Lib.hid h10
        clear h10
        go_wp2
        go_roundw
        case rel => exact ⟨k + 1, by go_num, by omega, by first | rfl | trivial, fun j hj => by
          by_cases e : j = k
          · subst e; exact H10.out
          · exact Hall.out j (by omega)⟩
        case measure => simp [intOf]; omega
    · have hd : ¬ ((k : Int) < (s1.size : Nat)) := by omega
      have hall : ∀ i, i < s1.size → bt s1 i ≠ 10 := fun i hi => Hall.out i (by omega)
      have k1 := fun l e p h => all_named s0 (by omega) (l := l) (e := e) (p := p) h
      have bl := blanks hv hall (s := s0) (by omega)
      have hln := all_len s0
      have hsm := all_small (s := s0) (by omega)
      clear hv hall
      obtain ⟨l1, e1, p1, h1⟩ : ∃ l e p, allS s0 = (l, e, p) := ⟨_, _, _, rfl⟩
      rw [h1] at bl hln hsm
      dsimp only at bl hln hsm
      replace k1 := k1 _ _ _ h1
      clear h1
      have HSM := Lib.hid hsm
      have HBL := Lib.hid bl
      clear hsm bl
      by_cases h0 : e1 = 0
      · subst h0
        go_wp2_with ((with_reducible refine (k1 _).mono ?_); rintro e v1 ⟨⟨A1, c1, rfl, ht1⟩, hb⟩; obtain ⟨Hb, hB⟩ := chain Hb hB hb; clear hb)
        clear k1 hd Hall
        have hlm := Rd.capm ht1
        have hlc := Rd.cap ht1
        unfold maxLen at hlm
        go_loopw [10, 11] (fun vs vi wr => ∃ q : Nat, vi = .int .i64 q ∧ q ≤ l1.length ∧ vs = .string (catB s1 0 (l1.take q) ⟨#[]⟩) ∧ v1 = wr) (fun _ vi _ => l1.length - (intOf vi).toNat)
        case atStart => exact ⟨0, rfl, Nat.zero_le _, rfl, by first | rfl | trivial⟩
        case round =>
          obtain ⟨q, rfl, hq, rfl, rfl⟩ := hrel
          by_cases hql : q < l1.length
          · have hdq : (q : Int) < (l1.length : Nat) := by omega
            obtain ⟨t, ht⟩ : ∃ t, l1[q]? = some t := ⟨l1[q], List.getElem?_eq_getElem hql⟩
            obtain ⟨b1, o1, rfl, hb1, x0, x1, x2⟩ := ht1.get ht
            have hts := HSM.out t (List.mem_of_getElem? ht)
            have hTs : (catB s1 0 (l1.take q) ⟨#[]⟩).size ≤ 40000 := by
              have h1 := catB_size (n := s1) (by omega) (l1.take q) 0 ⟨#[]⟩ fun t ht => HSM.out t (List.mem_of_mem_take ht)
              rw [List.length_take, show (⟨#[]⟩ : ByteArray).size = 0 from rfl] at h1
              omega
            have HT : Hid (catB s1 0 (l1.take (q + 1)) ⟨#[]⟩ = catB s1 0 (l1.take q) ⟨#[]⟩ ++ (⟨#[9]⟩ ++ t.2.1) ++ sepB s1 q) := Lib.hid (by
              rw [List.take_add_one, ht]
              have := catB_snoc s1 (l1.take q) 0 t ⟨#[]⟩
              rw [List.length_take, Nat.min_eq_left (by omega), Nat.zero_add] at this
              exact this)
            clear ht
            generalize t.2.1 = x at *
            generalize catB s1 0 (l1.take q) ⟨#[]⟩ = T at *
            by_cases h5 : q % 5 = 4
            · have d5 : ((q : Int) % 5 == 4) = true := by rw [beq_iff_eq]; omega
              have HS : Hid (sepB s1 q = ⟨#[32, 47, 47]⟩ ++ s1 ++ ⟨#[10]⟩) := Lib.hid (if_pos h5)
              clear h5
              go_wp2
              go_roundw
              case rel => exact ⟨q + 1, by go_num, by omega, by rw [HT.out, HS.out], by first | rfl | trivial⟩
              case measure => simp [intOf]; omega
            · have d5 : ((q : Int) % 5 == 4) = false := by rw [beq_eq_false_iff_ne]; omega
              have HS : Hid (sepB s1 q = ⟨#[32]⟩) := Lib.hid (if_neg h5)
              clear h5
              go_wp2
              go_roundw
              case rel => exact ⟨q + 1, by go_num, by omega, by rw [HT.out, HS.out], by first | rfl | trivial⟩
              case measure => simp [intOf]; omega
          · have hdq : ¬ ((q : Int) < (l1.length : Nat)) := by omega
            obtain rfl : q = l1.length := by omega
            rw [List.take_length]
            have hTs : (catB s1 0 l1 ⟨#[]⟩).size ≤ 40000 := by
              have h1 := catB_size (n := s1) (by omega) l1 0 ⟨#[]⟩ HSM.out
              rw [show (⟨#[]⟩ : ByteArray).size = 0 from rfl] at h1
              omega
            have k2 := fun l e p h => all_named (catB s1 0 l1 ⟨#[]⟩) (by omega) (l := l) (e := e) (p := p) h
            have hbl := HBL.out (by first | rfl | trivial)
            generalize catB s1 0 l1 ⟨#[]⟩ = T at *
            by_cases hT : 2048 < T.size
            · have hdT : (2048 : Int) < (T.size : Nat) := by omega
              clear k2 hbl
              go_wp2
              go_ret
              exact ⟨rfl, Hb.out⟩
            · have hdT : ¬ ((2048 : Int) < (T.size : Nat)) := by omega
              obtain ⟨m, hm, hk⟩ := hbl (by omega)
              have k2 := k2 _ _ _ hm
              have hl2 : m.length = l1.length := by simpa using congrArg List.length hk
              rw [hl2] at k2
              have HK := Lib.hid hk
              clear hbl hk hm
              go_wp2_with ((with_reducible refine (k2 _).mono ?_); rintro e v2 ⟨⟨A2, c2, rfl, ht2⟩, hb⟩; replace ht1 := ht1.below hb; obtain ⟨Hb, hB⟩ := chain Hb hB hb; clear hb)
              clear k2
              go_loopw [15] (fun vi wr => ∃ q : Nat, vi = .int .i64 q ∧ q ≤ l1.length ∧ Below v2.heap.size v2 wr) (fun vi _ => l1.length - (intOf vi).toNat)
              case atStart => exact ⟨0, rfl, Nat.zero_le _, Below.refl _ _⟩
              case round =>
                obtain ⟨q, rfl, hq, hbw⟩ := hrel
                by_cases hql : q < l1.length
                · have hdq : (q : Int) < (l1.length : Nat) := by omega
                  obtain ⟨t, ht⟩ : ∃ t, l1[q]? = some t := ⟨l1[q], List.getElem?_eq_getElem hql⟩
                  obtain ⟨t2, hg2, hk2⟩ := map_get HK.out ht
                  obtain ⟨b1, o1, rfl, hb1, x0, x1, x2⟩ := (ht1.below hbw).get ht
                  obtain ⟨b2, o2, e', hb2, y0, y1, y2⟩ := (ht2.below hbw).get hg2
                  subst e'
                  have hkk : t2.1 = t.1 ∧ t2.2.1 = t.2.1 := by simpa [ktT] using hk2
                  rw [hkk.1] at y0
                  rw [hkk.2] at y1
                  have Hbw := Lib.hid hbw
                  clear ht hg2 hk2 hbw hkk
                  generalize t.1 = q0 at *
                  generalize t.2.1 = q1 at *
                  go_wp2
                  go_quiet (fail)
                  go_wp2
                  go_roundw
                  case rel => exact ⟨q + 1, by go_num, by omega, Hbw.out.trans ⟨rfl, rfl, rfl, Nat.le_refl _, fun _ _ => rfl⟩⟩
                  case measure => simp [intOf]; omega
                · have hdq : ¬ ((q : Int) < (l1.length : Nat)) := by omega
                  go_wp2
                  go_ret
                  exact ⟨rfl, Hb.out.trans (hbw.mono hB)⟩
      · have d0 : (((e1 : Nat) : Int) == 0) = false := by rw [beq_eq_false_iff_ne]; omega
        clear HBL
        go_wp2_with ((with_reducible refine (k1 _).mono ?_); rintro e v1 ⟨⟨A1, c1, rfl, _⟩, hb⟩; obtain ⟨Hb, hB⟩ := chain Hb hB hb; clear hb)
        go_ret
        exact ⟨rfl, Hb.out⟩
end Go.Proofs.Ytdblkghombemiaa
