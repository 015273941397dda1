/- MatchDiffs walked. Conditions: none. -/
import Derived.Laws.Cover1
import Derived.Test.YtampggkjlpbbmaaOfS13
namespace Go.Proofs.Ytampggkjlpbbmaa
open Go.RowKit

set_option maxRecDepth 100000 in
set_option maxHeartbeats 2000000 in
theorem matchDiffs_walk (A0 : Option Addr) (c0 : Nat) (l0 : List ByteArray) (A1 : Option Addr) (c1 : Nat) (l1 : List ByteArray) (w : World) (r0 : Rd w w.heap.size 1 A0 l0.length c0 (ks l0)) (f0 : ∀ x ∈ l0, x.size ≤ maxLen) (r1 : Rd w w.heap.size 1 A1 l1.length c1 (ks l1)) (f1 : ∀ x ∈ l1, x.size ≤ maxLen) :
    Calls Try.prog 4 #[.slice A0 l0.length c0, .slice A1 l1.length c1] w fun e w' => e = .returned (.bool true) ∧ Below w.heap.size w w' := by
  have kaw := awake13_any w
  by_cases hl : 60 < l0.length ∨ 60 < l1.length
  · by_cases hl0 : 60 < l0.length
    · have hl' : (l0.length : Int) > 60 := by omega
      go_enter Try.func4, Try.ntmps4
      go_wp2_with (go_at_call 8; refine kaw.mono ?_; rintro e w1 ⟨rfl, hb⟩)
      go_ret
      exact ⟨rfl, hb⟩
    · have hl' : ¬ (l0.length : Int) > 60 := by omega
      have hl2 : (l1.length : Int) > 60 := by omega
      go_enter Try.func4, Try.ntmps4
      go_wp2_with (go_at_call 8; refine kaw.mono ?_; rintro e w1 ⟨rfl, hb⟩)
      go_ret
      exact ⟨rfl, hb⟩
  · have hl' : ¬ (l0.length : Int) > 60 := by omega
    have hl2 : ¬ (l1.length : Int) > 60 := by omega
    go_enter Try.func4, Try.ntmps4
    go_upto_region 6 with (go_at_call 8; refine kaw.mono ?_; rintro e w1 ⟨rfl, hb⟩)
    have h1 := r0.up hb
    have h2 := r1.up hb
    have hSr := setS_rises l0
    have hTr := setS_rises l1
    have hSk := setS_small f0
    have hTk := setS_small f1
    have hSl := setS_len l0
    have hTl := setS_len l1
    have k1 := of_set h1 (by omega)
    obtain ⟨S, hS⟩ : ∃ S, setS l0 = S := ⟨_, rfl⟩
    obtain ⟨T, hT⟩ : ∃ T, setS l1 = T := ⟨_, rfl⟩
    rw [hS] at k1 hSr hSk hSl
    rw [hT] at hTr hTk hTl
    clear kaw r0 r1 hS
    go_upto_region 7 with (go_at_call 9; refine k1.mono ?_; rintro e w2 ⟨A2, c2, rfl, hRS, hb2⟩)
    have k2 := of_set (h2.up hb2) (by omega)
    rw [hT] at k2
    have hb3 := bthen hb hb.size hb2
    clear hT h1 h2 hb hb2 k1
    go_upto_region 8 with (go_at_call 9; refine k2.mono ?_; rintro e w3 ⟨A3, c3, rfl, hRT, hb4⟩)
    have hRS3 := hRS.up hb4
    have hb5 := bthen hb3 hb3.size hb4
    have hd1 := dif_fst hSr hTr
    have hdl := difS_len S T
    have hdk := difS_small hSk hTk
    have hdc := difS_count hSr hTr
    have hda := app_dif hSr hTr
    have hdr := difS_rises hSr hTr
    have k3 := diff_any hRS3 hRT (by omega) (by omega)
    obtain ⟨d, hd⟩ : ∃ d, difS S T = d := ⟨_, rfl⟩
    rw [hd] at hd1 hdl hdk hdc hda hdr k3
    replace hdc := Lib.hid hdc
    clear hd k2 hRS hb3 hb4
    go_upto_region 9 with (go_at_call 17; refine k3.mono ?_; rintro e w4 ⟨A4, c4, rfl, hRd, hb6⟩)
    have hRS4 := hRS3.up hb6
    have hRT4 := hRT.up hb6
    have hb7 := bthen hb5 hb5.size hb6
    have k4 := app_nil hRS4 hSr hSk (by omega) hRd (by omega) hdk hda
    clear k3 hRS3 hRT hb5 hb6
    go_upto_region 10 with (go_at_call 12; refine k4.mono ?_; rintro e w5 ⟨A5, c5, rfl, hRu, hb8⟩)
    have hRS5 := hRS4.up hb8
    have hRT5 := hRT4.up hb8
    have hRd5 := hRd.up hb8
    have hb9 := bthen hb7 hb7.size hb8
    have khS := fun (W : World) (hW : Below w5.heap.size w5 W) (x : ByteArray) => has_any (hRS5.below hW) rfl hSr (by omega) x
    have khT := fun (W : World) (hW : Below w5.heap.size w5 W) (x : ByteArray) => has_any (hRT5.below hW) rfl hTr (by omega) x
    clear k4 hRS4 hRT4 hRd hb7 hb8 hda
    go_wp2_with fail
    go_loopw [12, 13] (fun vn vi wx => ∃ i : Nat, vi = .int .i64 i ∧ i ≤ S.length ∧ vn = .int .i64 (((S.take i).filter fun k => !hasK T k).length : Nat) ∧ Below w5.heap.size w5 wx) (fun _ vi _ => S.length - (intOf vi).toNat)
    case atStart => exact ⟨0, rfl, Nat.zero_le _, rfl, Below.refl _ _⟩
    case round =>
      obtain ⟨i, rfl, hi, rfl, hbx⟩ := hrel
      by_cases hil : i < S.length
      · have di : (i : Int) < (S.length : Int) := by omega
        obtain ⟨a, hx⟩ : ∃ a, S[i]? = some a := ⟨_, List.getElem?_eq_getElem hil⟩
        obtain ⟨b, o, rfl, _, g0⟩ := rd_key (hRS5.below hbx) hx
        have hsn := filter_snoc (p := fun k => !hasK T k) hx
        have kha := khT wr hbx a
        obtain ⟨N, hN⟩ : ∃ N, ((S.take i).filter fun k => !hasK T k).length = N := ⟨_, rfl⟩
        obtain ⟨B, hB⟩ : ∃ B, hasK T a = B := ⟨_, rfl⟩
        have hNl : N ≤ 60 := by rw [← hN]; exact Nat.le_trans (List.length_filter_le _ _) (by rw [List.length_take]; omega)
        rw [hN] at hsn ⊢
        simp only [hB] at hsn kha
        replace hsn := Lib.hid hsn
        clear hN hB hx khS khT
        cases B
        · go_wp2_with (go_at_call 15; refine kha.mono ?_; rintro e w6 ⟨rfl, q, hw⟩)
          exact ⟨⟨i + 1, by go_num, by omega, by rw [hsn.out]; rfl, hbx.trans (drewN_below _ _ _)⟩, by simp [intOf]; omega⟩
        · go_wp2_with (go_at_call 15; refine kha.mono ?_; rintro e w6 ⟨rfl, q, hw⟩)
          exact ⟨⟨i + 1, by go_num, by omega, by rw [hsn.out]; rfl, hbx.trans (drewN_below _ _ _)⟩, by simp [intOf]; omega⟩
      · obtain rfl : i = S.length := by omega
        have di : ¬ (((S.length : Nat) : Int) < (S.length : Int)) := by omega
        rw [List.take_length]
        obtain ⟨N1, hN1⟩ : ∃ N1, (S.filter fun k => !hasK T k).length = N1 := ⟨_, rfl⟩
        have hdc2 := hdc.out
        rw [hN1] at hdc2 ⊢
        replace hdc2 := Lib.hid hdc2
        have hN1l : N1 ≤ 60 := by rw [← hN1]; exact Nat.le_trans (List.length_filter_le _ _) (by omega)
        clear hN1
        go_wp2_with fail
        go_loopw [12, 14] (fun vn vi wx => ∃ i : Nat, vi = .int .i64 i ∧ i ≤ T.length ∧ vn = .int .i64 ((N1 + ((T.take i).filter fun k => !hasK S k).length : Nat) : Int) ∧ Below w5.heap.size w5 wx) (fun _ vi _ => T.length - (intOf vi).toNat)
        case atStart => exact ⟨0, rfl, Nat.zero_le _, rfl, hbx⟩
        case round =>
          obtain ⟨i, rfl, hi, rfl, hby⟩ := hrel
          clear hbx
          by_cases hil : i < T.length
          · have di : (i : Int) < (T.length : Int) := by omega
            obtain ⟨a, hx⟩ : ∃ a, T[i]? = some a := ⟨_, List.getElem?_eq_getElem hil⟩
            obtain ⟨b, o, rfl, _, g0⟩ := rd_key (hRT5.below hby) hx
            have hsn := filter_snoc (p := fun k => !hasK S k) hx
            have kha := khS wr hby a
            have hNl : ((T.take i).filter fun k => !hasK S k).length ≤ 60 := Nat.le_trans (List.length_filter_le _ _) (by rw [List.length_take]; omega)
            obtain ⟨N, hN⟩ : ∃ N, ((T.take i).filter fun k => !hasK S k).length = N := ⟨_, rfl⟩
            obtain ⟨B, hB⟩ : ∃ B, hasK S a = B := ⟨_, rfl⟩
            rw [hN] at hsn hNl ⊢
            obtain ⟨M, hM⟩ : ∃ M, N1 + N = M := ⟨_, rfl⟩
            rw [hM]
            have hMl : M ≤ 120 := by omega
            simp only [hB] at hsn kha
            replace hsn := Lib.hid hsn
            replace hM := Lib.hid hM
            clear hN hB hx khS khT
            cases B
            · go_wp2_with (go_at_call 15; refine kha.mono ?_; rintro e w6 ⟨rfl, q, hw⟩)
              exact ⟨⟨i + 1, by go_num, by omega, by rw [hsn.out, ← hM.out]; rfl, hby.trans (drewN_below _ _ _)⟩, by simp [intOf]; omega⟩
            · go_wp2_with (go_at_call 15; refine kha.mono ?_; rintro e w6 ⟨rfl, q, hw⟩)
              exact ⟨⟨i + 1, by go_num, by omega, by rw [hsn.out, ← hM.out]; rfl, hby.trans (drewN_below _ _ _)⟩, by simp [intOf]; omega⟩
          · obtain rfl : i = T.length := by omega
            have di : ¬ (((T.length : Nat) : Int) < (T.length : Int)) := by omega
            rw [List.take_length, ← hdc2.out]
            clear hdc hdc2 khS khT
            go_wp2_with fail
            go_loopw [15] (fun vi wx => ∃ i : Nat, vi = .int .i64 i ∧ 1 ≤ i ∧ Below w5.heap.size w5 wx) (fun vi _ => d.length - (intOf vi).toNat)
            case atStart => exact ⟨1, rfl, Nat.le_refl _, hby⟩
            case round =>
              obtain ⟨i, rfl, hi1, hbz⟩ := hrel
              clear hby
              by_cases hil : i < d.length
              · have di : (i : Int) < (d.length : Int) := by omega
                obtain ⟨p, rfl⟩ : ∃ p, i = p + 1 := ⟨i - 1, by omega⟩
                have hsub : ((p + 1 : Nat) : Int) - 1 = (p : Int) := by omega
                have dp : (p : Int) < (d.length : Int) := by omega
                obtain ⟨x, hx⟩ : ∃ x, d[p]? = some x := ⟨_, List.getElem?_eq_getElem (by omega)⟩
                obtain ⟨y, hy⟩ : ∃ y, d[p + 1]? = some y := ⟨_, List.getElem?_eq_getElem hil⟩
                obtain ⟨b, o, rfl, _, g0, _⟩ := rd_pair (hRd5.below hbz) hx
                obtain ⟨b2, o2, e2, _, g1, _⟩ := rd_pair (hRd5.below hbz) hy
                cases e2
                have hlt : Op.bytesLess x.1.toList y.1.toList = true := by
                  obtain ⟨q1, e1⟩ := List.getElem?_eq_some_iff.1 hx
                  obtain ⟨q2, e2⟩ := List.getElem?_eq_some_iff.1 hy
                  have := List.pairwise_iff_getElem.1 hdr p (p + 1) q1 q2 (by omega)
                  rwa [e1, e2] at this
                obtain ⟨xk, xb⟩ := x
                obtain ⟨yk, yb⟩ := y
                dsimp only at g0 g1 hlt
                clear hx hy hdr hd1
                go_wp2_with fail
                go_quiet (fail)
                go_wp2_with fail
                exact ⟨⟨p + 1 + 1, by go_num, by omega, hbz.trans (drewN_below _ _ _)⟩, by simp [intOf]; omega⟩
              · have di : ¬ ((i : Int) < (d.length : Int)) := by omega
                have ksm := same_any (hRu.up (w' := wr) (by exact hbz)) (hRT5.up hbz) (by omega)
                rw [eqL_self] at ksm
                go_wp2_with (go_at_call 14; refine ksm.mono ?_; rintro e w6 ⟨rfl, q, hw6⟩)
                go_ret
                exact ⟨rfl, bthen hb9 hb9.size (hbz.trans (drewN_below _ _ _))⟩
end Go.Proofs.Ytampggkjlpbbmaa
