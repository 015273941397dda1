/- DeviceDies, walked. Conditions: none. -/
import Derived.Test.YtiehnimkjneonaaFew
namespace Go.Proofs.Ytiehnimkjneonaa
open Go.RowKit

/-- A disk of four, armed with n, behind so many calls that count. -/
structure Dies (n : Nat) (done : Nat) (s : St) : Prop where
  len : s.kept.length = 4
  dead : s.dead = decide (n ≤ done)
  left : done < n → s.left = (n : Int) - done
theorem Dies.count {n done : Nat} {s : St} (h : Dies n done s) (hok : s.Ok) : Dies n (done + 1) s.count := by
  by_cases hl : 0 < s.left
  · have hd : done < n := by
      rcases Nat.lt_or_ge done n with h1 | h1
      · exact h1
      · have := hok.dead (by rw [h.dead]; exact decide_eq_true h1); omega
    have hle := h.left hd
    have e : s.count = { s with left := s.left - 1, dead := decide (s.left - 1 = 0) } := by unfold St.count; rw [if_pos hl]
    rw [e]
    refine ⟨h.len, ?_, fun h2 => by show s.left - 1 = _; omega⟩
    show decide (s.left - 1 = 0) = decide (n ≤ done + 1)
    congr 1
    exact propext ⟨fun _ => by omega, fun _ => by omega⟩
  · have hd : n ≤ done := by
      rcases Nat.lt_or_ge done n with h1 | h1
      · have := h.left h1; omega
      · exact h1
    have e : s.count = s := by unfold St.count; rw [if_neg hl]
    rw [e]
    refine ⟨h.len, ?_, fun h2 => by omega⟩
    rw [h.dead]
    simp [hd]; omega
theorem Dies.start {n : Nat} (h : 0 < n) : Dies n 0 ((St.fresh 4).arm n) := ⟨rfl, by show false = _; simp; omega, fun _ => by show (n : Int) = _; simp⟩
theorem Dies.wrote {n done : Nat} {s : St} (h : Dies n done s) (i : Int) (l : List UInt8) : Dies n done (s.wrote i l) := ⟨h.len, h.dead, h.left⟩
theorem Dies.flushed {n done : Nat} {s : St} (h : Dies n done s) : Dies n done s.flushed := ⟨by show s.now.length = 4; rw [St.nowLen, h.len], h.dead, h.left⟩
theorem n_four (w : World) : Calls Try.prog 10 #[.int .i64 4] w fun e w' => ∃ b, e = .returned (.tuple #[.pointer (some ⟨b, 0, none⟩), .int .i64 0]) ∧ Dk w.heap.size w'.heap.size w' b (St.fresh 4) ∧ Below w.heap.size w w' := new_any w 4 (by omega) (by omega)
theorem write_nil0 (w : World) : Calls Try.prog 12 #[.pointer none, .int .i64 0, .slice none 0 0] w fun e w' => e = .returned (.int .i64 1) ∧ w' = w := write_nil w 0 none 0 0

set_option maxRecDepth 100000 in
set_option maxHeartbeats 16000000 in
theorem dies_walk (w : World) (x : Int) (hx : 0 ≤ x ∧ x ≤ 255) {A : Option Addr} {c : Nat} {l : List Ac} (hr : Rd w w.heap.size 4 A l.length c (l.flatMap acCells)) (hl : ∀ a ∈ l, AcOk w a) :
    Calls Try.prog 5 #[.int .u8 x, .slice A l.length c] w fun e w' => e = .returned (.bool true) ∧ Below w.heap.size w w' := by
  have Hb := Lib.hid (Below.refl w.heap.size w)
  have hB : w.heap.size ≤ w.heap.size := Nat.le_refl _
  obtain ⟨n, rfl⟩ : ∃ n : Nat, x = (n : Int) := ⟨x.toNat, by omega⟩
  obtain ⟨_, hn1⟩ := hx
  have kF := fun W (hb : Below w.heap.size w W) => few_any W (hr.below hb)
  have hcm := hr.capm
  have hcc := hr.cap
  have hlm : l.length ≤ 9223372036854775807 := by simp only [maxLen] at hcm; omega
  go_enter Try.func5, Try.ntmps5
  cases hfew : fewB l with
  | false =>
    rw [hfew] at kF
    go_wp2_with (first
      | ((with_reducible refine (awake_any _).mono ?_); rintro e w1 ⟨rfl, hb⟩; obtain ⟨Hb, hB⟩ := chain Hb hB hb; clear hb)
      | ((with_reducible refine (kF _ Hb.out).mono ?_); rintro e w2 ⟨rfl, rfl⟩))
    go_ret
    exact ⟨rfl, Hb.out⟩
  | true =>
  rw [hfew] at kF
  rcases Nat.eq_zero_or_pos n with hn0 | hn0
  · subst hn0
    go_wp2_with (first
      | ((with_reducible refine (awake_any _).mono ?_); rintro e w1 ⟨rfl, hb⟩; obtain ⟨Hb, hB⟩ := chain Hb hB hb; clear hb)
      | ((with_reducible refine (kF _ Hb.out).mono ?_); rintro e w2 ⟨rfl, rfl⟩))
    go_ret
    exact ⟨rfl, Hb.out⟩
  have kA := fun {lo hi : Nat} {W : World} {b : Nat} {s : St} (h : Dk lo hi W b s) => arm_any h (n : Int) (by omega) (by omega)
  obtain ⟨hsm, hl60⟩ := fewB_iff.1 hfew
  have hn0z : (0 : Int) < (n : Int) := by omega
  go_wp2_with (first
    | ((with_reducible refine (awake_any _).mono ?_); rintro e w1 ⟨rfl, hb⟩; obtain ⟨Hb, hB⟩ := chain Hb hB hb; clear hb)
    | ((with_reducible refine (kF _ Hb.out).mono ?_); rintro e w2 ⟨rfl, rfl⟩)
    | ((with_reducible refine (n_four _).mono ?_); rintro e w3 ⟨b, rfl, d0, hb⟩; have hlo := hB; obtain ⟨Hb, hB⟩ := chain Hb hB hb; clear hb)
    | ((with_reducible refine (kA d0).mono ?_); rintro e w4 ⟨⟨_, rfl⟩, d1, hk4⟩; obtain ⟨Hb, hB⟩ := chainL Hb hlo hB hk4.low; clear hk4 d0))
  go_loopw [9, 10] (fun vd vi wr => ∃ (k done hi : Nat) (s : St), vi = .int .i64 k ∧ vd = .int .i64 done ∧ k ≤ l.length ∧ done ≤ k ∧ Dk w2.heap.size hi wr b s ∧ Dies n done s ∧ s.waits.length ≤ k ∧ Below w.heap.size w wr) (fun _ vi _ => l.length - (intOf vi).toNat)
  case atStart => exact ⟨0, 0, _, _, rfl, rfl, by omega, by omega, d1, Dies.start hn0, by show List.length [] ≤ 0; simp, Hb.out⟩
  case round =>
    obtain ⟨k, done, hi, s, rfl, rfl, hk, hdk, hD, hI, hwk, hbw⟩ := hrel
    have hcount := hI.count hD.ok
    by_cases hlt : k < l.length
    · obtain ⟨a, hka⟩ : ∃ a, l[k]? = some a := ⟨l[k], List.getElem?_eq_getElem hlt⟩
      have hmem : a ∈ l := List.mem_of_getElem? hka
      have hlz : (k : Int) < (l.length : Int) := by omega
      obtain ⟨bb, o, rfl, hbb, c0w, c1w, c2w, _⟩ := act_cells hr hka
      have cw := fun (W : World) (hb : Below w.heap.size w W) (r : Nat) => hb.cell (p := ⟨bb, r, none⟩) hbb
      have c0 := (cw _ hbw _).trans c0w
      have c1 := (cw _ hbw _).trans c1w
      have c2 := (cw _ hbw _).trans c2w
      obtain ⟨hk0, hk255⟩ := (hl a hmem).kind
      have hra := ((hl a hmem).b.below hbw).more hbw.size
      have hbe := (hl a hmem).b.beside (hi := hi) hlo
      replace hbw := Lib.hid hbw
      by_cases hkd : a.kind % 2 = 0
      · by_cases hat0 : 0 ≤ a.at_
        · by_cases hat3 : a.at_ ≤ 3
          · by_cases hn64 : a.b.length ≤ 64
            · have hh : s.has a.at_ = true := St.has_iff.2 ⟨hat0, by rw [hI.len]; omega⟩
              by_cases hge0 : n ≤ done + 1
              · have hcd : s.count.dead = true := by rw [hcount.dead]; exact decide_eq_true hge0
                have hge : (n : Int) ≤ (done : Int) + 1 := by omega
                go_wp2_with (first
                  | ((with_reducible refine (waiting_any hD).mono ?_); rintro e v1 ⟨rfl, rfl⟩)
                  | ((with_reducible refine (write_dead hD a.at_ a.A a.b.length a.c hh hn64 hcd).mono ?_); rintro e v2 ⟨rfl, hD2, hk2⟩; have hb2 := hbw.out.trans (hk2.low.mono hlo); have c2' := (cw _ hb2 _).trans c2w; have hwl := congrArg List.length (St.count_waits s); have hdd := hcd; clear hk2 hbw)
                  | ((with_reducible refine (dead_any hD2).mono ?_); rintro e v3 ⟨rfl, rfl⟩)
                  | ((with_reducible refine (waiting_any hD2).mono ?_); rintro e v4 ⟨rfl, rfl⟩))
                go_roundw
                case rel => exact ⟨k + 1, done + 1, _, _, by simp, by simp, by omega, by omega, hD2, hcount, by rw [St.count_waits]; omega, hb2⟩
                case measure => simp [intOf]; omega
              · have hcd : s.count.dead = false := by rw [hcount.dead]; exact decide_eq_false hge0
                have hge : (done : Int) + 1 < (n : Int) := by omega
                go_wp2_with (first
                  | ((with_reducible refine (waiting_any hD).mono ?_); rintro e v1 ⟨rfl, rfl⟩)
                  | ((with_reducible refine (write_ok hD a.at_ hra hbe hh hn64 hcd (by omega)).mono ?_); rintro e v2 ⟨rfl, hD2, hk2⟩; have hb2 := hbw.out.trans (hk2.low.mono hlo); have c2' := (cw _ hb2 _).trans c2w; have hdd : (s.count.wrote a.at_ a.b).dead = false := hcd; clear hk2 hbw)
                  | ((with_reducible refine (dead_any hD2).mono ?_); rintro e v3 ⟨rfl, rfl⟩)
                  | ((with_reducible refine (waiting_any hD2).mono ?_); rintro e v4 ⟨rfl, rfl⟩))
                go_roundw
                case rel => exact ⟨k + 1, done + 1, _, _, by simp, by simp, by omega, by omega, hD2, hcount.wrote _ _, by simp only [St.wrote, List.length_append, List.length_singleton, St.count_waits]; omega, hb2⟩
                case measure => simp [intOf]; omega
            · have hnz : (64 : Int) < (a.b.length : Int) := by omega
              go_wp2_with (first
                | ((with_reducible refine (waiting_any hD).mono ?_); rintro e v1 ⟨rfl, rfl⟩)
                | ((with_reducible refine (write_bad hD a.at_ a.A a.b.length a.c (.inr (by omega))).mono ?_); rintro e v2 ⟨rfl, rfl⟩))
              go_roundw
              case rel => exact ⟨k + 1, done, hi, s, by simp, rfl, by omega, by omega, hD, hI, by omega, hbw.out⟩
              case measure => simp [intOf]; omega
          · have hn3 : (3 : Int) < a.at_ := by omega
            go_wp2_with (first
              | ((with_reducible refine (waiting_any hD).mono ?_); rintro e v1 ⟨rfl, rfl⟩)
              | ((with_reducible refine (write_bad hD a.at_ a.A a.b.length a.c (.inl (by cases hh : s.has a.at_ with | false => rfl | true => have := St.has_iff.1 hh; rw [hI.len] at this; omega))).mono ?_); rintro e v2 ⟨rfl, rfl⟩))
            go_roundw
            case rel => exact ⟨k + 1, done, hi, s, by simp, rfl, by omega, by omega, hD, hI, by omega, hbw.out⟩
            case measure => simp [intOf]; omega
        · have hneg : a.at_ < 0 := by omega
          go_wp2_with (first
            | ((with_reducible refine (waiting_any hD).mono ?_); rintro e v1 ⟨rfl, rfl⟩)
            | ((with_reducible refine (write_bad hD a.at_ a.A a.b.length a.c (.inl (by cases hh : s.has a.at_ with | false => rfl | true => have := St.has_iff.1 hh; omega))).mono ?_); rintro e v2 ⟨rfl, rfl⟩))
          go_roundw
          case rel => exact ⟨k + 1, done, hi, s, by simp, rfl, by omega, by omega, hD, hI, by omega, hbw.out⟩
          case measure => simp [intOf]; omega
      · by_cases hge0 : n ≤ done + 1
        · have hcd : s.count.dead = true := by rw [hcount.dead]; exact decide_eq_true hge0
          have hge : (n : Int) ≤ (done : Int) + 1 := by omega
          go_wp2_with (first
            | ((with_reducible refine (waiting_any hD).mono ?_); rintro e v1 ⟨rfl, rfl⟩)
            | ((with_reducible refine (flush_dead hD hcd).mono ?_); rintro e v2 ⟨rfl, hD2, hk2⟩; have hb2 := hbw.out.trans (hk2.low.mono hlo); have hwl := congrArg List.length (St.count_waits s); have hdd := hcd; clear hk2 hbw)
            | ((with_reducible refine (dead_any hD2).mono ?_); rintro e v3 ⟨rfl, rfl⟩)
            | ((with_reducible refine (waiting_any hD2).mono ?_); rintro e v4 ⟨rfl, rfl⟩))
          go_roundw
          case rel => exact ⟨k + 1, done + 1, _, _, by simp, by simp, by omega, by omega, hD2, hcount, by rw [St.count_waits]; omega, hb2⟩
          case measure => simp [intOf]; omega
        · have hcd : s.count.dead = false := by rw [hcount.dead]; exact decide_eq_false hge0
          have hge : (done : Int) + 1 < (n : Int) := by omega
          go_wp2_with (first
            | ((with_reducible refine (waiting_any hD).mono ?_); rintro e v1 ⟨rfl, rfl⟩)
            | ((with_reducible refine (flush_ok hD hcd (by omega)).mono ?_); rintro e v2 ⟨rfl, hD2, hk2⟩; have hb2 := hbw.out.trans (hk2.low.mono hlo); have hdd : s.count.flushed.dead = false := hcd; clear hk2 hbw)
            | ((with_reducible refine (dead_any hD2).mono ?_); rintro e v3 ⟨rfl, rfl⟩)
            | ((with_reducible refine (waiting_any hD2).mono ?_); rintro e v4 ⟨rfl, rfl⟩))
          go_roundw
          case rel => exact ⟨k + 1, done + 1, _, _, by simp, by simp, by omega, by omega, hD2, hcount.flushed, by simp [St.flushed], hb2⟩
          case measure => simp [intOf]; omega
    · obtain rfl : k = l.length := by omega
      have Hw := Lib.hid hbw
      have hBw := hbw.size
      have hfin : s.dead = decide (n ≤ done) := hI.dead
      have hh : s.has 0 = true := St.has_iff.2 ⟨by omega, by rw [hI.len]; omega⟩
      clear hbw
      by_cases hge0 : n ≤ done
      · have hsd : s.dead = true := by rw [hfin]; exact decide_eq_true hge0
        have hge : (n : Int) ≤ (done : Int) := by omega
        go_wp2_with (first
          | ((with_reducible refine (read_dead hD 0 hh hsd).mono ?_); rintro e v1 ⟨rfl, rfl⟩)
          | ((with_reducible refine (read_nil _ _).mono ?_); rintro e v2 ⟨rfl, rfl⟩)
          | ((with_reducible refine (write_nil0 _).mono ?_); rintro e v3 ⟨rfl, rfl⟩)
          | ((with_reducible refine (flush_nil _).mono ?_); rintro e v4 ⟨rfl, hb⟩; obtain ⟨Hw, hBw⟩ := chain Hw hBw hb; clear hb)
          | ((with_reducible refine (restart_nil _ _ _ _).mono ?_); rintro e v5 ⟨rfl, hb⟩; obtain ⟨Hw, hBw⟩ := chain Hw hBw hb; clear hb)
          | ((with_reducible refine (dead_nil _).mono ?_); rintro e v6 ⟨rfl, rfl⟩)
          | ((with_reducible refine (len_nil _).mono ?_); rintro e v7 ⟨rfl, rfl⟩)
          | ((with_reducible refine (waiting_nil _).mono ?_); rintro e v8 ⟨rfl, rfl⟩))
        go_ret
        exact ⟨rfl, Hw.out⟩
      · have hsd : s.dead = false := by rw [hfin]; exact decide_eq_false hge0
        have hge : (done : Int) < (n : Int) := by omega
        go_wp2_with (first
          | ((with_reducible refine (read_any hD 0 hh hsd).mono ?_); rintro e v1 ⟨v, rfl, _, hb⟩; obtain ⟨Hw, hBw⟩ := chain Hw hBw hb; clear hb)
          | ((with_reducible refine (read_nil _ _).mono ?_); rintro e v2 ⟨rfl, rfl⟩)
          | ((with_reducible refine (write_nil0 _).mono ?_); rintro e v3 ⟨rfl, rfl⟩)
          | ((with_reducible refine (flush_nil _).mono ?_); rintro e v4 ⟨rfl, hb⟩; obtain ⟨Hw, hBw⟩ := chain Hw hBw hb; clear hb)
          | ((with_reducible refine (restart_nil _ _ _ _).mono ?_); rintro e v5 ⟨rfl, hb⟩; obtain ⟨Hw, hBw⟩ := chain Hw hBw hb; clear hb)
          | ((with_reducible refine (dead_nil _).mono ?_); rintro e v6 ⟨rfl, rfl⟩)
          | ((with_reducible refine (len_nil _).mono ?_); rintro e v7 ⟨rfl, rfl⟩)
          | ((with_reducible refine (waiting_nil _).mono ?_); rintro e v8 ⟨rfl, rfl⟩))
        go_ret
        exact ⟨rfl, Hw.out⟩
theorem deviceDies_walk (x0 : Int) (A1 : Option Addr) (c1 : Nat) (l1 : List Ac) (w : World) (f0 : (Lit.int .u8 x0).wf = true) (r1 : Rd w w.heap.size 4 A1 l1.length c1 (l1.flatMap acCells)) (f1 : ∀ a ∈ l1, AcOk w a) :
    Calls Try.prog 5 #[.int .u8 x0, .slice A1 l1.length c1] w fun e w' => e = .returned (.bool true) ∧ Below w.heap.size w w' := dies_walk w x0 (wf_u8 f0) r1 f1
end Go.Proofs.Ytiehnimkjneonaa
