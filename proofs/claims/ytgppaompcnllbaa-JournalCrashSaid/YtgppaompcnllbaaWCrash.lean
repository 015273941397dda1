/- JournalCrash, walked. Conditions: none. -/
import Derived.Test.YtgppaompcnllbaaCrash
namespace Go.Proofs.Ytgppaompcnllbaa
open Go.RowKit

set_option maxRecDepth 100000 in
set_option maxHeartbeats 16000000 in
theorem crash_early (w : World) (A0 : Option Addr) (c0 : Nat) (l0 : List Rw) (z : Int) (A2 : Option Addr) (c2 : Nat) (l2 : List Bool) (A3 : Option Addr) (c3 : Nat) (l3 : List UInt8) (r0 : Rd w w.heap.size 1 A0 l0.length c0 (l0.map rwCell)) (hbad : fewR l0 = false ∨ (fewR l0 = true ∧ 60 < l2.length) ∨ (fewR l0 = true ∧ l2.length ≤ 60 ∧ 300 < l3.length)) :
    Calls Try.prog 5 #[.slice A0 l0.length c0, .int .u8 z, .slice A2 l2.length c2, .slice A3 l3.length c3] w fun en w' => en = .returned (.bool true) ∧ Below w.heap.size w w' := by
  have Hb := Lib.hid (Below.refl w.heap.size w)
  have hB : w.heap.size ≤ w.heap.size := Nat.le_refl _
  have kF := fun W (hb : Below w.heap.size w W) => few_any W (r0.below hb)
  rcases hbad with h | ⟨h, h2⟩ | ⟨h, h2, h3⟩ <;> rw [h] at kF
  all_goals (
    go_enter Try.func5, Try.ntmps5
    go_wp2_with (first
      | ((with_reducible refine (awake_any _).mono ?_); rintro en w1 ⟨rfl, hb⟩; obtain ⟨Hb, hB⟩ := chain Hb hB hb; clear hb)
      | ((with_reducible refine (kF _ Hb.out).mono ?_); rintro en w2 ⟨rfl, rfl⟩))
    go_ret
    exact ⟨rfl, Hb.out⟩)
set_option maxRecDepth 100000 in
set_option maxHeartbeats 16000000 in
theorem crash_main (w : World) (A0 : Option Addr) (c0 : Nat) (l0 : List Rw) (z : Int) (hz : 0 ≤ z ∧ z ≤ 255) (A2 : Option Addr) (c2 : Nat) (l2 : List Bool) (A3 : Option Addr) (c3 : Nat) (l3 : List UInt8) (r0 : Rd w w.heap.size 1 A0 l0.length c0 (l0.map rwCell)) (f0 : ∀ a ∈ l0, RwOk w a) (r2 : Rd w w.heap.size 1 A2 l2.length c2 (l2.map Value.bool)) (r3 : RwOk w ⟨A3, c3, l3⟩) (hfew : fewR l0 = true) (h60 : l2.length ≤ 60) (h300 : l3.length ≤ 300) :
    Calls Try.prog 5 #[.slice A0 l0.length c0, .int .u8 z, .slice A2 l2.length c2, .slice A3 l3.length c3] w fun en w' => en = .returned (.bool true) ∧ Below w.heap.size w w' := by
  have Hb := Lib.hid (Below.refl w.heap.size w)
  have hB : w.heap.size ≤ w.heap.size := Nat.le_refl _
  have kF := fun W (hb : Below w.heap.size w W) => few_any W (r0.below hb)
  rw [hfew] at kF
  obtain ⟨hs0, hl0⟩ := fewR_iff.1 hfew
  have Hs0 := Lib.hid hs0
  clear hs0 hfew
  have kO := fun (T : Nat → Prop) (W : World) (b : Nat) (h : Rest T W b (St.fresh 200).kept) (hB : Beside w.heap.size T W (.slice none 0 0) []) => open200 h hB (Good.new (clean_fresh 200 9 3 200) (by omega)) (fresh_len 200)
  go_enter Try.func5, Try.ntmps5
  go_wp2_with (first
    | ((with_reducible refine (awake_any _).mono ?_); rintro en w1 ⟨rfl, hb⟩; obtain ⟨Hb, hB⟩ := chain Hb hB hb; clear hb)
    | ((with_reducible refine (kF _ Hb.out).mono ?_); rintro en w2 ⟨rfl, rfl⟩)
    | ((with_reducible refine (new200 _).mono ?_); rintro en w4 ⟨b, rfl, d4, hb⟩; have s4 := Beside.nil (T := In w1.heap.size w4.heap.size) (Nat.le_trans hB hb.size) (fun k e => Nat.le_trans hB e.1) (fun k e => e.2); obtain ⟨Hb, hB⟩ := chain Hb hB hb; clear hb)
    | ((with_reducible refine (kO _ _ _ d4 s4).mono ?_); rintro en w5 ⟨g, T5, rfl, l5, s5, hb⟩; obtain ⟨Hb, hB⟩ := chain Hb hB hb; clear hb; obtain ⟨q5, j5, c5⟩ := Cr.first l5; clear l5)
    | ((with_reducible refine (jr_arm j5 z (by omega) (by omega)).mono ?_); rintro en w6 ⟨⟨v6, rfl⟩, j6, hk⟩; have s6 := s5.ks hk; obtain ⟨Hb, hB⟩ := chainL Hb (Nat.le_refl _) hB (hk.below s5.above s5.lo)))
  have j7 := j6.wide (U := Grow T5 w5 w6) (fun k e => .inl e) s6.size
  have c7 := c5 z
  clear j5 s5 s4 j6 kF kO c5 d4 hk
  obtain ⟨i0, hi, hz0, hz1, hz2⟩ := info_parts info_str
  go_loopw [15, 16, 17, 18, 19] (fun vg vin vd vi ve wr => ∃ (k : Nat) (dd : Bool) (R : List (List UInt8)) (inn : List UInt8) (s : St) (t : LSt) (T : Nat → Prop), vi = .int .i64 k ∧ k ≤ l0.length ∧ vd = .bool dd ∧ vin = .string (strOf inn) ∧ Jr T wr g b s t ∧ Beside w.heap.size T wr vg R ∧ Cr dd k R inn s t ∧ R.length ≤ k ∧ Below w.heap.size w wr) (fun _ _ _ vi _ _ => l0.length - (intOf vi).toNat)
  case atStart => exact ⟨0, false, [], [], _, _, _, rfl, Nat.zero_le _, rfl, rfl, j7, s6, c7, Nat.le_refl _, Hb.out⟩
  case round =>
    clear j7 s6 c7 Hb hB
    obtain ⟨k, dd, R, inn, s, t, T, rfl, hk, rfl, rfl, hJ, hS, hC, hR, hb⟩ := hrel
    obtain ⟨n, hn⟩ : ∃ n, R.length = n := ⟨_, rfl⟩
    have hnk : n ≤ k := by rw [← hn]; exact hR
    have Hn := Lib.hid hn
    clear hn hR
    by_cases hgo : dd = false ∧ k < l0.length
    · obtain ⟨rfl, hlt⟩ := hgo
      have hlz : (k : Int) < (l0.length : Int) := by omega
      obtain ⟨a, ha⟩ : ∃ a, l0[k]? = some a := ⟨l0[k], List.getElem?_eq_getElem hlt⟩
      obtain ⟨q, o, rfl, hq, cq⟩ := rows_at r0 ha
      have hal := Hs0.out a (List.mem_of_getElem? ha)
      have fa := f0 a (List.mem_of_getElem? ha)
      have kc := fun W (h : Below w.heap.size w W) => (h.cell (p := ⟨q, o + k, none⟩) hq).trans cq
      have kv := fun W (h : Below w.heap.size w W) => (RwOk.below fa h).conv (P := Try.prog) 36 9 5 Try.underlying36 Try.underlying5 Try.underlying9
      have c0' := kc _ hb
      have ka := hC.append hJ hS fa rfl hb hal (by omega)
      have Hb2 := Lib.hid hb
      clear hC hb ha cq
      obtain ⟨A4, c4, rfl, _⟩ := hS.rdN Hn.out
      rcases ka with ⟨s', ka⟩ | ⟨s', ka⟩
      · go_wp2_with (first
          | ((with_reducible refine ka.mono ?_); rintro en w9 ⟨rfl, hJ2, hC2, hS2, hb2⟩; have hb3 := Hb2.out.trans hb2; have c9 := kc _ hb3; have v9 := kv _ hb3; replace hb3 := Lib.hid hb3; replace hb2 := Lib.hid hb2; replace hC2 := Lib.hid hC2; have ho := hS2.rowN Hn.out; clear c0' ka)
          | (at_builtin; refine wpList_append_src _ rfl (.tmp 93) (.tmp 99) 33 33 rfl w.heap.size 9 i0 (.string .empty) 1 16 Try.underlying33 hi hz0 hz1 hz2 rfl (by decide) _ _ _ rfl (ho.alloc _) _ 1 [_] rfl (Src.ofSlice _ Try.underlying33 _ 1 1 _ rfl (cell_one_new _ _ _) (fun u hu => by simp at hu; subst hu; rfl)) (by simp only [maxLen]; omega) (by omega) (by simp; have := hS2.lo; omega) ?_; intro v4 w10 hown hg hat))
        obtain ⟨hS3, hk3, hb4⟩ := hS2.put Hn.out hown hg hat
        have hJ3 := hJ2.put hS2 hk3
        go_roundw
        case rel => exact ⟨k + 1, false, R ++ [a.b], inn, _, _, _, by simp, by omega, rfl, rfl, hJ3, hS3, hC2.out.any inn, by rw [List.length_append, List.length_singleton, Hn.out]; omega, hb3.out.trans hb4⟩
        case measure => simp [intOf]; omega
      · go_wp2_with (first
          | ((with_reducible refine ka.mono ?_); rintro en w9 ⟨rfl, hJ2, hC2, hS2, hb2⟩; have hb3 := Hb2.out.trans hb2; have c9 := kc _ hb3; have v9 := kv _ hb3; replace hb3 := Lib.hid hb3; replace hb2 := Lib.hid hb2; replace hC2 := Lib.hid hC2; clear c0' ka))
        go_roundw
        case rel => exact ⟨k + 1, true, R, a.b, _, _, _, by simp, by omega, rfl, rfl, hJ2, hS2, hC2.out, by rw [Hn.out]; omega, hb3.out⟩
        case measure => simp [intOf]; omega
    · have hk12 : k ≤ 12 := by omega
      obtain ⟨qk, hqk⟩ : ∃ qk, decide (k < l0.length) = qk := ⟨_, rfl⟩
      have hqd : (qk && !dd) = false := by
        rw [← hqk]
        cases dd with
        | true => simp
        | false => simp; by_cases h : k < l0.length; exact absurd ⟨rfl, h⟩ hgo; omega
      obtain ⟨hK2, hcs⟩ := hC.restart hk12 l2
      have Hcs := Lib.hid hcs
      have HK2 := Lib.hid hK2
      have hn12 : n ≤ 12 := by omega
      have Hb := Lib.hid hb
      have hB := hb.size
      clear hb
      obtain ⟨A4, c4, rfl, hrd⟩ := hS.rdN Hn.out
      have hn1 : (R ++ [l3]).length = n + 1 := by rw [List.length_append, List.length_singleton, Hn.out]
      rcases hcs with ⟨nx, hnx, hG⟩ | ⟨rfl, nx, hnx, hG⟩
      · have Hn1 := Lib.hid hn1
        clear hn1
        cases dd <;> cases qk
        case false.true => simp at hqd
        case false.false =>
          go_wp2_with (first
            | ((with_reducible refine (rec_N hJ.lg hC.recs Hn.out).mono ?_); rintro en w20 ⟨A5, c5, rfl, rr20, hb⟩; have j20 := hJ.below hb; have s20 := hS.below hb; have d20 := (hrd.below hb).more hb.size; obtain ⟨Hb, hB⟩ := chain Hb hB hb; clear hb hJ hS hrd)
            | ((with_reducible refine (same_N Hn.out Hn.out (sameB_self R) rr20 d20).mono ?_); rintro en w21 ⟨rfl, hb⟩; have j21 := j20.below hb; have s21 := s20.below hb; obtain ⟨Hb, hB⟩ := chain Hb hB hb; clear hb j20 s20 d20 rr20)
            | ((with_reducible refine (dead_at j21 hC).mono ?_); rintro en w22 ⟨rfl, rfl⟩)
            | ((with_reducible refine (hC.restarted j21 s21 (keep := l2) rfl ((r2.below Hb.out).more hB)).mono ?_); rintro en w23 ⟨b2, rfl, R23, s23, hb⟩; obtain ⟨Hb, hB⟩ := chain Hb hB hb; clear hb j21 s21 hC)
            | ((with_reducible refine (open200 R23 s23 hG HK2.out).mono ?_); rintro en w24 ⟨g2, U, rfl, L24, s24, hb⟩; obtain ⟨Hb, hB⟩ := chain Hb hB hb; clear hb R23 s23)
            | ((with_reducible refine (rec_N L24.lg rfl Hn.out).mono ?_); rintro en w25 ⟨A6, c6, rfl, rr25, hb⟩; have L25 := L24.below hb; have s25 := s24.below hb; have d25 := Rd.own (s25.rowN Hn.out); obtain ⟨Hb, hB⟩ := chain Hb hB hb; clear hb L24 s24)
            | ((obtain ⟨_, _, e25, d25'⟩ := d25; cases e25; with_reducible refine (same_N Hn.out Hn.out (sameB_self R) rr25 d25').mono ?_); rintro en w29 ⟨rfl, hb⟩; have L29 := L25.below hb; have s29 := s25.below hb; obtain ⟨Hb, hB⟩ := chain Hb hB hb; clear hb L25 s25 d25' rr25)
            | ((with_reducible refine (more_any (a := ⟨A3, c3, l3⟩) L29 HK2.out s29 r3 rfl Hb.out h300 hnx).mono ?_); rintro en w30 ⟨U30, K30, rfl, R30, hK30, hG30, s30, hb⟩; replace hK30 := Lib.hid hK30; obtain ⟨Hb, hB⟩ := chainL Hb (Nat.le_refl _) hB hb; clear hb L29 s29)
            | ((with_reducible refine (open200 R30 s30 hG30 hK30.out).mono ?_); rintro en w31 ⟨g3, U31, rfl, L31, s31, hb⟩; obtain ⟨Hb, hB⟩ := chain Hb hB hb; clear hb R30 s30; have ho31 := s31.rowN Hn.out; have v31 := (RwOk.below r3 Hb.out).conv (P := Try.prog) 36 9 5 Try.underlying36 Try.underlying5 Try.underlying9)
            | (at_builtin; refine wpList_append_src _ rfl (.tmp 149) (.tmp 152) 33 33 rfl w.heap.size 9 i0 (.string .empty) 1 16 Try.underlying33 hi hz0 hz1 hz2 rfl (by decide) _ _ _ rfl (ho31.alloc _) _ 1 [_] rfl (Src.ofSlice _ Try.underlying33 _ 1 1 _ rfl (cell_one_new _ _ _) (fun u hu => by simp at hu; subst hu; rfl)) (by simp only [maxLen]; omega) (by omega) (by simp; have := s31.lo; omega) ?_; intro v32 w32 hown hg hat; obtain ⟨s32, k32, hb⟩ := s31.put Hn.out hown hg hat; have L32 := L31.put s31 k32; obtain ⟨Hb, hB⟩ := chainL Hb (Nat.le_refl _) hB hb; clear hb hown hg hat ho31 s31 L31 k32; obtain ⟨A9, c9, rfl, d32⟩ := s32.rdN Hn1.out)
            | ((with_reducible refine (rec_N L32.lg rfl Hn1.out).mono ?_); rintro en w33 ⟨A10, c10, rfl, rr33, hb⟩; have d33 := (d32.below hb).more hb.size; obtain ⟨Hb, hB⟩ := chain Hb hB hb; clear hb L32 s32 d32)
            | ((with_reducible refine (same_N Hn1.out Hn1.out (sameB_self (R ++ [l3])) rr33 d33).mono ?_); rintro en w34 ⟨rfl, hb⟩; obtain ⟨Hb, hB⟩ := chain Hb hB hb; clear hb d33 rr33))
          go_ret
          exact ⟨rfl, Hb.out⟩
        case true.false =>
          go_wp2_with (first
            | ((with_reducible refine (rec_N hJ.lg hC.recs Hn.out).mono ?_); rintro en w20 ⟨A5, c5, rfl, rr20, hb⟩; have j20 := hJ.below hb; have s20 := hS.below hb; have d20 := (hrd.below hb).more hb.size; obtain ⟨Hb, hB⟩ := chain Hb hB hb; clear hb hJ hS hrd)
            | ((with_reducible refine (same_N Hn.out Hn.out (sameB_self R) rr20 d20).mono ?_); rintro en w21 ⟨rfl, hb⟩; have j21 := j20.below hb; have s21 := s20.below hb; obtain ⟨Hb, hB⟩ := chain Hb hB hb; clear hb j20 s20 d20 rr20)
            | ((with_reducible refine (dead_at j21 hC).mono ?_); rintro en w22 ⟨rfl, rfl⟩)
            | ((with_reducible refine (hC.restarted j21 s21 (keep := l2) rfl ((r2.below Hb.out).more hB)).mono ?_); rintro en w23 ⟨b2, rfl, R23, s23, hb⟩; obtain ⟨Hb, hB⟩ := chain Hb hB hb; clear hb j21 s21 hC)
            | ((with_reducible refine (open200 R23 s23 hG HK2.out).mono ?_); rintro en w24 ⟨g2, U, rfl, L24, s24, hb⟩; obtain ⟨Hb, hB⟩ := chain Hb hB hb; clear hb R23 s23)
            | ((with_reducible refine (rec_N L24.lg rfl Hn.out).mono ?_); rintro en w25 ⟨A6, c6, rfl, rr25, hb⟩; have L25 := L24.below hb; have s25 := s24.below hb; have d25 := Rd.own (s25.rowN Hn.out); obtain ⟨Hb, hB⟩ := chain Hb hB hb; clear hb L24 s24)
            | ((obtain ⟨_, _, e25, d25'⟩ := d25; cases e25; with_reducible refine (same_N Hn.out Hn.out (sameB_self R) rr25 d25').mono ?_); rintro en w29 ⟨rfl, hb⟩; have L29 := L25.below hb; have s29 := s25.below hb; obtain ⟨Hb, hB⟩ := chain Hb hB hb; clear hb L25 s25 d25' rr25)
            | ((with_reducible refine (more_any (a := ⟨A3, c3, l3⟩) L29 HK2.out s29 r3 rfl Hb.out h300 hnx).mono ?_); rintro en w30 ⟨U30, K30, rfl, R30, hK30, hG30, s30, hb⟩; replace hK30 := Lib.hid hK30; obtain ⟨Hb, hB⟩ := chainL Hb (Nat.le_refl _) hB hb; clear hb L29 s29)
            | ((with_reducible refine (open200 R30 s30 hG30 hK30.out).mono ?_); rintro en w31 ⟨g3, U31, rfl, L31, s31, hb⟩; obtain ⟨Hb, hB⟩ := chain Hb hB hb; clear hb R30 s30; have ho31 := s31.rowN Hn.out; have v31 := (RwOk.below r3 Hb.out).conv (P := Try.prog) 36 9 5 Try.underlying36 Try.underlying5 Try.underlying9)
            | (at_builtin; refine wpList_append_src _ rfl (.tmp 149) (.tmp 152) 33 33 rfl w.heap.size 9 i0 (.string .empty) 1 16 Try.underlying33 hi hz0 hz1 hz2 rfl (by decide) _ _ _ rfl (ho31.alloc _) _ 1 [_] rfl (Src.ofSlice _ Try.underlying33 _ 1 1 _ rfl (cell_one_new _ _ _) (fun u hu => by simp at hu; subst hu; rfl)) (by simp only [maxLen]; omega) (by omega) (by simp; have := s31.lo; omega) ?_; intro v32 w32 hown hg hat; obtain ⟨s32, k32, hb⟩ := s31.put Hn.out hown hg hat; have L32 := L31.put s31 k32; obtain ⟨Hb, hB⟩ := chainL Hb (Nat.le_refl _) hB hb; clear hb hown hg hat ho31 s31 L31 k32; obtain ⟨A9, c9, rfl, d32⟩ := s32.rdN Hn1.out)
            | ((with_reducible refine (rec_N L32.lg rfl Hn1.out).mono ?_); rintro en w33 ⟨A10, c10, rfl, rr33, hb⟩; have d33 := (d32.below hb).more hb.size; obtain ⟨Hb, hB⟩ := chain Hb hB hb; clear hb L32 s32 d32)
            | ((with_reducible refine (same_N Hn1.out Hn1.out (sameB_self (R ++ [l3])) rr33 d33).mono ?_); rintro en w34 ⟨rfl, hb⟩; obtain ⟨Hb, hB⟩ := chain Hb hB hb; clear hb d33 rr33))
          go_ret
          exact ⟨rfl, Hb.out⟩
        case true.true =>
          have hlz : (k : Int) < (l0.length : Int) := by have := of_decide_eq_true hqk; omega
          go_wp2_with (first
            | ((with_reducible refine (rec_N hJ.lg hC.recs Hn.out).mono ?_); rintro en w20 ⟨A5, c5, rfl, rr20, hb⟩; have j20 := hJ.below hb; have s20 := hS.below hb; have d20 := (hrd.below hb).more hb.size; obtain ⟨Hb, hB⟩ := chain Hb hB hb; clear hb hJ hS hrd)
            | ((with_reducible refine (same_N Hn.out Hn.out (sameB_self R) rr20 d20).mono ?_); rintro en w21 ⟨rfl, hb⟩; have j21 := j20.below hb; have s21 := s20.below hb; obtain ⟨Hb, hB⟩ := chain Hb hB hb; clear hb j20 s20 d20 rr20)
            | ((with_reducible refine (dead_at j21 hC).mono ?_); rintro en w22 ⟨rfl, rfl⟩)
            | ((with_reducible refine (hC.restarted j21 s21 (keep := l2) rfl ((r2.below Hb.out).more hB)).mono ?_); rintro en w23 ⟨b2, rfl, R23, s23, hb⟩; obtain ⟨Hb, hB⟩ := chain Hb hB hb; clear hb j21 s21 hC)
            | ((with_reducible refine (open200 R23 s23 hG HK2.out).mono ?_); rintro en w24 ⟨g2, U, rfl, L24, s24, hb⟩; obtain ⟨Hb, hB⟩ := chain Hb hB hb; clear hb R23 s23)
            | ((with_reducible refine (rec_N L24.lg rfl Hn.out).mono ?_); rintro en w25 ⟨A6, c6, rfl, rr25, hb⟩; have L25 := L24.below hb; have s25 := s24.below hb; have d25 := Rd.own (s25.rowN Hn.out); obtain ⟨Hb, hB⟩ := chain Hb hB hb; clear hb L24 s24)
            | ((obtain ⟨_, _, e25, d25'⟩ := d25; cases e25; with_reducible refine (same_N Hn.out Hn.out (sameB_self R) rr25 d25').mono ?_); rintro en w29 ⟨rfl, hb⟩; have L29 := L25.below hb; have s29 := s25.below hb; obtain ⟨Hb, hB⟩ := chain Hb hB hb; clear hb L25 s25 d25' rr25)
            | ((with_reducible refine (more_any (a := ⟨A3, c3, l3⟩) L29 HK2.out s29 r3 rfl Hb.out h300 hnx).mono ?_); rintro en w30 ⟨U30, K30, rfl, R30, hK30, hG30, s30, hb⟩; replace hK30 := Lib.hid hK30; obtain ⟨Hb, hB⟩ := chainL Hb (Nat.le_refl _) hB hb; clear hb L29 s29)
            | ((with_reducible refine (open200 R30 s30 hG30 hK30.out).mono ?_); rintro en w31 ⟨g3, U31, rfl, L31, s31, hb⟩; obtain ⟨Hb, hB⟩ := chain Hb hB hb; clear hb R30 s30; have ho31 := s31.rowN Hn.out; have v31 := (RwOk.below r3 Hb.out).conv (P := Try.prog) 36 9 5 Try.underlying36 Try.underlying5 Try.underlying9)
            | (at_builtin; refine wpList_append_src _ rfl (.tmp 149) (.tmp 152) 33 33 rfl w.heap.size 9 i0 (.string .empty) 1 16 Try.underlying33 hi hz0 hz1 hz2 rfl (by decide) _ _ _ rfl (ho31.alloc _) _ 1 [_] rfl (Src.ofSlice _ Try.underlying33 _ 1 1 _ rfl (cell_one_new _ _ _) (fun u hu => by simp at hu; subst hu; rfl)) (by simp only [maxLen]; omega) (by omega) (by simp; have := s31.lo; omega) ?_; intro v32 w32 hown hg hat; obtain ⟨s32, k32, hb⟩ := s31.put Hn.out hown hg hat; have L32 := L31.put s31 k32; obtain ⟨Hb, hB⟩ := chainL Hb (Nat.le_refl _) hB hb; clear hb hown hg hat ho31 s31 L31 k32; obtain ⟨A9, c9, rfl, d32⟩ := s32.rdN Hn1.out)
            | ((with_reducible refine (rec_N L32.lg rfl Hn1.out).mono ?_); rintro en w33 ⟨A10, c10, rfl, rr33, hb⟩; have d33 := (d32.below hb).more hb.size; obtain ⟨Hb, hB⟩ := chain Hb hB hb; clear hb L32 s32 d32)
            | ((with_reducible refine (same_N Hn1.out Hn1.out (sameB_self (R ++ [l3])) rr33 d33).mono ?_); rintro en w34 ⟨rfl, hb⟩; obtain ⟨Hb, hB⟩ := chain Hb hB hb; clear hb d33 rr33))
          go_ret
          exact ⟨rfl, Hb.out⟩
      · have hn2 : (R ++ [inn]).length = n + 1 := by rw [List.length_append, List.length_singleton, Hn.out]
        have hn3 : (R ++ [inn] ++ [l3]).length = n + 1 + 1 := by rw [List.length_append, List.length_singleton, hn2]
        have Hn1 := Lib.hid hn2
        have Hn2 := Lib.hid hn3
        have hne : sameB (R ++ [inn]) R = false := sameB_ne fun e => by have := congrArg List.length e; simp at this
        have Hne := Lib.hid hne
        clear hn1 hn2 hn3 hne
        cases qk
        case false =>
          go_wp2_with (first
            | ((with_reducible refine (rec_N hJ.lg hC.recs Hn.out).mono ?_); rintro en w20 ⟨A5, c5, rfl, rr20, hb⟩; have j20 := hJ.below hb; have s20 := hS.below hb; have d20 := (hrd.below hb).more hb.size; obtain ⟨Hb, hB⟩ := chain Hb hB hb; clear hb hJ hS hrd)
            | ((with_reducible refine (same_N Hn.out Hn.out (sameB_self R) rr20 d20).mono ?_); rintro en w21 ⟨rfl, hb⟩; have j21 := j20.below hb; have s21 := s20.below hb; obtain ⟨Hb, hB⟩ := chain Hb hB hb; clear hb j20 s20 d20 rr20)
            | ((with_reducible refine (dead_at j21 hC).mono ?_); rintro en w22 ⟨rfl, rfl⟩)
            | ((with_reducible refine (hC.restarted j21 s21 (keep := l2) rfl ((r2.below Hb.out).more hB)).mono ?_); rintro en w23 ⟨b2, rfl, R23, s23, hb⟩; obtain ⟨Hb, hB⟩ := chain Hb hB hb; clear hb j21 s21 hC)
            | ((with_reducible refine (open200 R23 s23 hG HK2.out).mono ?_); rintro en w24 ⟨g2, U, rfl, L24, s24, hb⟩; obtain ⟨Hb, hB⟩ := chain Hb hB hb; clear hb R23 s23)
            | ((with_reducible refine (rec_N L24.lg rfl Hn1.out).mono ?_); rintro en w25 ⟨A6, c6, rfl, rr25, hb⟩; have L25 := L24.below hb; have s25 := s24.below hb; have d25 := Rd.own (s25.rowN Hn.out); obtain ⟨Hb, hB⟩ := chain Hb hB hb; clear hb L24 s24)
            | ((obtain ⟨_, _, e25, d25'⟩ := d25; cases e25; with_reducible refine (same_N Hn1.out Hn.out Hne.out rr25 d25').mono ?_); rintro en w26 ⟨rfl, hb⟩; have L26 := L25.below hb; have s26 := s25.below hb; have ho26 := s26.rowN Hn.out; obtain ⟨Hb, hB⟩ := chain Hb hB hb; clear hb L25 s25 d25' rr25)
            | (at_builtin; refine wpList_append_src _ rfl (.tmp 131) (.tmp 133) 33 33 rfl w.heap.size 9 i0 (.string .empty) 1 16 Try.underlying33 hi hz0 hz1 hz2 rfl (by decide) _ _ _ rfl (ho26.alloc _) _ 1 [_] rfl (Src.ofSlice _ Try.underlying33 _ 1 1 _ rfl (cell_one_new _ _ _) (fun u hu => by simp at hu; subst hu; rfl)) (by simp only [maxLen]; omega) (by omega) (by simp; have := s26.lo; omega) ?_; intro v27 w27 hown hg hat; obtain ⟨s27, k27, hb⟩ := s26.put Hn.out hown hg hat; have L27 := L26.put s26 k27; obtain ⟨Hb, hB⟩ := chainL Hb (Nat.le_refl _) hB hb; clear hb hown hg hat ho26 s26 L26 k27; obtain ⟨A7, c7, rfl, d27⟩ := s27.rdN Hn1.out)
            | ((with_reducible refine (rec_N L27.lg rfl Hn1.out).mono ?_); rintro en w28 ⟨A8, c8, rfl, rr28, hb⟩; have L28 := L27.below hb; have s28 := s27.below hb; have d28 := (d27.below hb).more hb.size; obtain ⟨Hb, hB⟩ := chain Hb hB hb; clear hb L27 s27 d27)
            | ((with_reducible refine (same_N Hn1.out Hn1.out (sameB_self (R ++ [inn])) rr28 d28).mono ?_); rintro en w29 ⟨rfl, hb⟩; have L29 := L28.below hb; have s29 := s28.below hb; obtain ⟨Hb, hB⟩ := chain Hb hB hb; clear hb L28 s28 d28 rr28)
            | ((with_reducible refine (more_any (a := ⟨A3, c3, l3⟩) L29 HK2.out s29 r3 rfl Hb.out h300 hnx).mono ?_); rintro en w30 ⟨U30, K30, rfl, R30, hK30, hG30, s30, hb⟩; replace hK30 := Lib.hid hK30; obtain ⟨Hb, hB⟩ := chainL Hb (Nat.le_refl _) hB hb; clear hb L29 s29)
            | ((with_reducible refine (open200 R30 s30 hG30 hK30.out).mono ?_); rintro en w31 ⟨g3, U31, rfl, L31, s31, hb⟩; obtain ⟨Hb, hB⟩ := chain Hb hB hb; clear hb R30 s30; have ho31 := s31.rowN Hn1.out; have v31 := (RwOk.below r3 Hb.out).conv (P := Try.prog) 36 9 5 Try.underlying36 Try.underlying5 Try.underlying9)
            | (at_builtin; refine wpList_append_src _ rfl (.tmp 149) (.tmp 152) 33 33 rfl w.heap.size 9 i0 (.string .empty) 1 16 Try.underlying33 hi hz0 hz1 hz2 rfl (by decide) _ _ _ rfl (ho31.alloc _) _ 1 [_] rfl (Src.ofSlice _ Try.underlying33 _ 1 1 _ rfl (cell_one_new _ _ _) (fun u hu => by simp at hu; subst hu; rfl)) (by simp only [maxLen]; omega) (by omega) (by simp; have := s31.lo; omega) ?_; intro v32 w32 hown hg hat; obtain ⟨s32, k32, hb⟩ := s31.put Hn1.out hown hg hat; have L32 := L31.put s31 k32; obtain ⟨Hb, hB⟩ := chainL Hb (Nat.le_refl _) hB hb; clear hb hown hg hat ho31 s31 L31 k32; obtain ⟨A9, c9, rfl, d32⟩ := s32.rdN Hn2.out)
            | ((with_reducible refine (rec_N L32.lg rfl Hn2.out).mono ?_); rintro en w33 ⟨A10, c10, rfl, rr33, hb⟩; have d33 := (d32.below hb).more hb.size; obtain ⟨Hb, hB⟩ := chain Hb hB hb; clear hb L32 s32 d32)
            | ((with_reducible refine (same_N Hn2.out Hn2.out (sameB_self ((R ++ [inn]) ++ [l3])) rr33 d33).mono ?_); rintro en w34 ⟨rfl, hb⟩; obtain ⟨Hb, hB⟩ := chain Hb hB hb; clear hb d33 rr33))
          go_ret
          exact ⟨rfl, Hb.out⟩
        case true =>
          have hlz : (k : Int) < (l0.length : Int) := by have := of_decide_eq_true hqk; omega
          go_wp2_with (first
            | ((with_reducible refine (rec_N hJ.lg hC.recs Hn.out).mono ?_); rintro en w20 ⟨A5, c5, rfl, rr20, hb⟩; have j20 := hJ.below hb; have s20 := hS.below hb; have d20 := (hrd.below hb).more hb.size; obtain ⟨Hb, hB⟩ := chain Hb hB hb; clear hb hJ hS hrd)
            | ((with_reducible refine (same_N Hn.out Hn.out (sameB_self R) rr20 d20).mono ?_); rintro en w21 ⟨rfl, hb⟩; have j21 := j20.below hb; have s21 := s20.below hb; obtain ⟨Hb, hB⟩ := chain Hb hB hb; clear hb j20 s20 d20 rr20)
            | ((with_reducible refine (dead_at j21 hC).mono ?_); rintro en w22 ⟨rfl, rfl⟩)
            | ((with_reducible refine (hC.restarted j21 s21 (keep := l2) rfl ((r2.below Hb.out).more hB)).mono ?_); rintro en w23 ⟨b2, rfl, R23, s23, hb⟩; obtain ⟨Hb, hB⟩ := chain Hb hB hb; clear hb j21 s21 hC)
            | ((with_reducible refine (open200 R23 s23 hG HK2.out).mono ?_); rintro en w24 ⟨g2, U, rfl, L24, s24, hb⟩; obtain ⟨Hb, hB⟩ := chain Hb hB hb; clear hb R23 s23)
            | ((with_reducible refine (rec_N L24.lg rfl Hn1.out).mono ?_); rintro en w25 ⟨A6, c6, rfl, rr25, hb⟩; have L25 := L24.below hb; have s25 := s24.below hb; have d25 := Rd.own (s25.rowN Hn.out); obtain ⟨Hb, hB⟩ := chain Hb hB hb; clear hb L24 s24)
            | ((obtain ⟨_, _, e25, d25'⟩ := d25; cases e25; with_reducible refine (same_N Hn1.out Hn.out Hne.out rr25 d25').mono ?_); rintro en w26 ⟨rfl, hb⟩; have L26 := L25.below hb; have s26 := s25.below hb; have ho26 := s26.rowN Hn.out; obtain ⟨Hb, hB⟩ := chain Hb hB hb; clear hb L25 s25 d25' rr25)
            | (at_builtin; refine wpList_append_src _ rfl (.tmp 131) (.tmp 133) 33 33 rfl w.heap.size 9 i0 (.string .empty) 1 16 Try.underlying33 hi hz0 hz1 hz2 rfl (by decide) _ _ _ rfl (ho26.alloc _) _ 1 [_] rfl (Src.ofSlice _ Try.underlying33 _ 1 1 _ rfl (cell_one_new _ _ _) (fun u hu => by simp at hu; subst hu; rfl)) (by simp only [maxLen]; omega) (by omega) (by simp; have := s26.lo; omega) ?_; intro v27 w27 hown hg hat; obtain ⟨s27, k27, hb⟩ := s26.put Hn.out hown hg hat; have L27 := L26.put s26 k27; obtain ⟨Hb, hB⟩ := chainL Hb (Nat.le_refl _) hB hb; clear hb hown hg hat ho26 s26 L26 k27; obtain ⟨A7, c7, rfl, d27⟩ := s27.rdN Hn1.out)
            | ((with_reducible refine (rec_N L27.lg rfl Hn1.out).mono ?_); rintro en w28 ⟨A8, c8, rfl, rr28, hb⟩; have L28 := L27.below hb; have s28 := s27.below hb; have d28 := (d27.below hb).more hb.size; obtain ⟨Hb, hB⟩ := chain Hb hB hb; clear hb L27 s27 d27)
            | ((with_reducible refine (same_N Hn1.out Hn1.out (sameB_self (R ++ [inn])) rr28 d28).mono ?_); rintro en w29 ⟨rfl, hb⟩; have L29 := L28.below hb; have s29 := s28.below hb; obtain ⟨Hb, hB⟩ := chain Hb hB hb; clear hb L28 s28 d28 rr28)
            | ((with_reducible refine (more_any (a := ⟨A3, c3, l3⟩) L29 HK2.out s29 r3 rfl Hb.out h300 hnx).mono ?_); rintro en w30 ⟨U30, K30, rfl, R30, hK30, hG30, s30, hb⟩; replace hK30 := Lib.hid hK30; obtain ⟨Hb, hB⟩ := chainL Hb (Nat.le_refl _) hB hb; clear hb L29 s29)
            | ((with_reducible refine (open200 R30 s30 hG30 hK30.out).mono ?_); rintro en w31 ⟨g3, U31, rfl, L31, s31, hb⟩; obtain ⟨Hb, hB⟩ := chain Hb hB hb; clear hb R30 s30; have ho31 := s31.rowN Hn1.out; have v31 := (RwOk.below r3 Hb.out).conv (P := Try.prog) 36 9 5 Try.underlying36 Try.underlying5 Try.underlying9)
            | (at_builtin; refine wpList_append_src _ rfl (.tmp 149) (.tmp 152) 33 33 rfl w.heap.size 9 i0 (.string .empty) 1 16 Try.underlying33 hi hz0 hz1 hz2 rfl (by decide) _ _ _ rfl (ho31.alloc _) _ 1 [_] rfl (Src.ofSlice _ Try.underlying33 _ 1 1 _ rfl (cell_one_new _ _ _) (fun u hu => by simp at hu; subst hu; rfl)) (by simp only [maxLen]; omega) (by omega) (by simp; have := s31.lo; omega) ?_; intro v32 w32 hown hg hat; obtain ⟨s32, k32, hb⟩ := s31.put Hn1.out hown hg hat; have L32 := L31.put s31 k32; obtain ⟨Hb, hB⟩ := chainL Hb (Nat.le_refl _) hB hb; clear hb hown hg hat ho31 s31 L31 k32; obtain ⟨A9, c9, rfl, d32⟩ := s32.rdN Hn2.out)
            | ((with_reducible refine (rec_N L32.lg rfl Hn2.out).mono ?_); rintro en w33 ⟨A10, c10, rfl, rr33, hb⟩; have d33 := (d32.below hb).more hb.size; obtain ⟨Hb, hB⟩ := chain Hb hB hb; clear hb L32 s32 d32)
            | ((with_reducible refine (same_N Hn2.out Hn2.out (sameB_self ((R ++ [inn]) ++ [l3])) rr33 d33).mono ?_); rintro en w34 ⟨rfl, hb⟩; obtain ⟨Hb, hB⟩ := chain Hb hB hb; clear hb d33 rr33))
          go_ret
          exact ⟨rfl, Hb.out⟩
theorem journalCrash_walk (A0 : Option Addr) (c0 : Nat) (l0 : List Rw) (x1 : Int) (A2 : Option Addr) (c2 : Nat) (l2 : List Bool) (A3 : Option Addr) (n3 c3 : Nat) (l3 : List UInt8) (w : World) (r0 : Rd w w.heap.size 1 A0 l0.length c0 (l0.map rwCell)) (f0 : ∀ a ∈ l0, RwOk w a) (f1 : (Lit.int .u8 x1).wf = true) (r2 : Rd w w.heap.size 1 A2 l2.length c2 (l2.map Value.bool)) (r3 : Rd w w.heap.size 1 A3 n3 c3 (bv l3)) :
    Calls Try.prog 5 #[.slice A0 l0.length c0, .int .u8 x1, .slice A2 l2.length c2, .slice A3 n3 c3] w fun e w' => e = .returned (.bool true) ∧ Below w.heap.size w w' := by
  have h3 := r3.len
  simp [bv] at h3
  subst h3
  by_cases h1 : fewR l0 = true
  · by_cases h2 : l2.length ≤ 60
    · by_cases h4 : l3.length ≤ 300
      · exact crash_main w A0 c0 l0 x1 (wf_u8 f1) A2 c2 l2 A3 c3 l3 r0 f0 r2 r3 h1 h2 h4
      · exact crash_early w A0 c0 l0 x1 A2 c2 l2 A3 c3 l3 r0 (.inr (.inr ⟨h1, h2, by omega⟩))
    · exact crash_early w A0 c0 l0 x1 A2 c2 l2 A3 c3 l3 r0 (.inr (.inl ⟨h1, by omega⟩))
  · exact crash_early w A0 c0 l0 x1 A2 c2 l2 A3 c3 l3 r0 (.inl (by simpa using h1))
end Go.Proofs.Ytgppaompcnllbaa
