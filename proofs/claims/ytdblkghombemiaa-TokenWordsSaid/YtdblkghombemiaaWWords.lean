/- TokenWords walked: it answers true. -/
import Derived.BigQuiet
import Derived.Deep.QuietTactic
import Derived.Test.YtdblkghombemiaaWordsF
import Derived.Test.YtdblkghombemiaaNameAll
import Derived.Test.YtdblkghombemiaaWNotes
import Derived.Test.YtdblkghombemiaaRefSign
namespace Go.Proofs.Ytdblkghombemiaa
open Go.RowKit

theorem sg_cut : ∀ q, q < 12 → sgS.extract q (q + 1) = sOne (sgs.getD q 0) := by
  intro q hq
  refine bt_ext (by rw [size_ext, sOne_size, show sgS.size = 12 from rfl]; omega) fun k hk => ?_
  rw [size_ext, show sgS.size = 12 from rfl] at hk
  obtain rfl : k = 0 := by omega
  have h1 := sgs_sign q hq
  have h2 := signB_iff.1 h1
  rw [bt_ext_get _ _ _ _ (by rw [show sgS.size = 12 from rfl]; omega), Nat.add_zero, sgS_bt q hq, sOne_bt (by omega)]
set_option maxRecDepth 100000 in
set_option maxHeartbeats 8000000 in
theorem tokenWords_walk (A0 : Option Addr) (n0 c0 : Nat) (s0 : List ByteArray) (x1 : Int) (w : World) (r0 : Rd w w.heap.size 1 A0 n0 c0 (s0.map Value.string)) (f0 : ∀ s ∈ s0, s.size ≤ maxLen) (f1 : (Lit.int .u8 x1).wf = true) :
    Calls Try.prog 7 #[.slice A0 n0 c0, .int .u8 x1] w fun e w' => e = .returned (.bool true) ∧ Below w.heap.size w w' := by
  obtain ⟨h10, h11⟩ := wf_u8 f1
  clear f1
  unfold maxLen at f0
  have Hb := Lib.hid (Below.refl w.heap.size w)
  have hB : w.heap.size ≤ w.heap.size := Nat.le_refl _
  have hn : n0 = s0.length := by have := r0.len; simpa using this.symm
  subst hn
  have hcm := r0.capm
  have hcc := r0.cap
  unfold maxLen at hcm
  have F0 := Lib.hid f0
  clear f0
  by_cases h20 : 20 < s0.length
  · have hd : (20 : Int) < (s0.length : Nat) := by omega
    go_enter Try.func7, Try.ntmps7
    go_wp2_with ((with_reducible refine (awake_any _).mono ?_); rintro e w1 ⟨rfl, hb⟩; obtain ⟨Hb, hB⟩ := chain Hb hB hb; clear hb)
    go_ret
    exact ⟨rfl, Hb.out⟩
  have hd : ¬ ((20 : Int) < (s0.length : Nat)) := by omega
  obtain ⟨q, hq⟩ : ∃ q : Nat, x1 % 12 = (q : Int) := ⟨(x1 % 12).toNat, by omega⟩
  have hq12 : q < 12 := by omega
  have hqz : (q : Int) + 1 ≤ 12 := by omega
  have hcut : (⟨#[123, 125, 40, 41, 58, 44, 59, 124, 38, 45, 46, 35]⟩ : ByteArray).extract q (q + 1) = sOne (sgs.getD q 0) := sg_cut q hq12
  have hsg := sgs_sign q hq12
  generalize sgs.getD q 0 = g at *
  generalize hC : sOne g = C at *
  have HC := Lib.hid hC
  clear hC
  go_enter Try.func7, Try.ntmps7
  go_wp2_with ((with_reducible refine (awake_any _).mono ?_); rintro e w1 ⟨rfl, hb⟩; replace r0 := r0.below hb; obtain ⟨Hb, hB⟩ := chain Hb hB hb; clear hb)
  rw [hq]
  go_loopw [8, 9] (fun vs vi wr => ∃ k : Nat, vi = .int .i64 k ∧ k ≤ s0.length ∧ vs = .string (catW C (s0.take k)) ∧ (∀ x ∈ s0.take k, nameS x = true) ∧ Below w1.heap.size w1 wr) (fun _ vi _ => s0.length - (intOf vi).toNat)
  case atStart => exact ⟨0, rfl, Nat.zero_le _, rfl, fun x hx => by simp at hx, Below.refl _ _⟩
  case round =>
    obtain ⟨k, rfl, hk, rfl, hall, hbw⟩ := hrel
    have Hall := Lib.hid hall
    clear hall
    have Hbw := Lib.hid hbw
    have hwb : w1.heap.size ≤ wr.heap.size := hbw.size
    by_cases h : k < s0.length
    · have hd2 : (k : Int) < (s0.length : Nat) := by omega
      have hg : s0[k]? = some s0[k] := List.getElem?_eq_getElem h
      obtain ⟨b, o, u, rfl, hbl, hu, cx⟩ := (r0.belowLe hbw hB).get h
      have hu2 : u = .string s0[k] := by simpa [hg] using hu.symm
      subst hu2
      have hxm : s0[k].size ≤ 9223372036854775807 := by have := F0.out s0[k] (List.getElem_mem h); omega
      have HT : Hid (catW C (s0.take (k + 1)) = catW C (s0.take k) ++ (s0[k] ++ C)) := Lib.hid (by rw [List.take_add_one, hg]; exact catW_snoc C _ _)
      have HM : Hid (∀ x ∈ s0.take (k + 1), x ∈ s0.take k ∨ x = s0[k]) := Lib.hid (fun x hx => by
        rw [List.take_add_one, hg] at hx
        rcases List.mem_append.1 hx with hx | hx
        · exact .inl hx
        · exact .inr (by simpa using hx))
      have hbl2 : b < wr.heap.size := by omega
      have hTs : (catW C (s0.take k)).size ≤ 1940 := by
        have h1 := catR_size g (s0.take k) Hall.out
        have h2 := List.length_take_le k s0
        rw [HC.out, ← catW_catR] at h1
        rw [List.length_take] at h1
        omega
      have hC1 : C.size ≤ 1 := by rw [← HC.out, sOne_size]; omega
      clear hu hbw hg
      generalize s0[k] = x at *
      generalize catW C (s0.take k) = T at *
      have kn : ∀ W, _ := fun W => name_all x W hxm
      cases hnm : nameS x with
      | false =>
        rw [hnm] at kn
        go_wp2_with ((with_reducible refine (kn _).mono ?_); rintro e w2 ⟨rfl, hb⟩)
        go_ret
        exact ⟨rfl, Hb.out.trans ((Hbw.out.trans (hb.mono hwb)).mono hB)⟩
      | true =>
        rw [hnm] at kn
        have HN := Lib.hid hnm
        have hx96 := name_size hnm
        clear hnm
        go_wp2_with ((with_reducible refine (kn _).mono ?_); rintro e w2 ⟨rfl, hb⟩; have cx2 := (hb.cell hbl2).trans cx)
        go_roundw
        case rel => exact ⟨k + 1, by go_num, by omega, by rw [HT.out], fun y hy => by
          rcases HM.out y hy with hy | rfl
          · exact Hall.out y hy
          · exact HN.out, Hbw.out.trans (hb.mono hwb)⟩
        case measure => simp [intOf]; omega
    · have hd2 : ¬ ((k : Int) < (s0.length : Nat)) := by omega
      obtain rfl : k = s0.length := by omega
      rw [List.take_length]
      have hall := Hall.out
      rw [List.take_length] at hall
      obtain ⟨hsz, ts, hts, htl, hti⟩ := all_words (q := g) hsg (l := s0) (by omega) hall
      rw [HC.out] at hsz hts hti
      have k1 := all_named (catW C s0) (by omega) hts
      rw [htl] at k1
      have HTI := Lib.hid hti
      generalize catW C s0 = T at *
      clear hts hti hall Hall
      have hd3 : ¬ ((2048 : Int) < (T.size : Nat)) := by omega
      go_wp2_with ((with_reducible refine (k1 _).mono ?_); rintro e v1 ⟨⟨A1, c1, rfl, ht1⟩, hb⟩; have hbv := hbw.trans (hb.mono hwb))
      clear k1 hd hd2 hd3
      have hlm := Rd.capm ht1
      have hlc := Rd.cap ht1
      have hvb := (hb.size : wr.heap.size ≤ v1.heap.size)
      have r1 := r0.belowLe hbv hB
      go_loopw [13] (fun vi wz => ∃ q : Nat, vi = .int .i64 q ∧ q ≤ s0.length ∧ Below v1.heap.size v1 wz) (fun vi _ => s0.length - (intOf vi).toNat)
      case atStart => exact ⟨0, rfl, Nat.zero_le _, Below.refl _ _⟩
      case round =>
        obtain ⟨k, rfl, hk, hbw⟩ := hrel
        have Hbw := Lib.hid hbw
        by_cases h : k < s0.length
        · have hd2 : (k : Int) < (s0.length : Nat) := by omega
          have hg : s0[k]? = some s0[k] := List.getElem?_eq_getElem h
          obtain ⟨b, o, u, rfl, hbl, hu, cx⟩ := (r1.belowLe hbw (by omega)).get h
          have hu2 : u = .string s0[k] := by simpa [hg] using hu.symm
          subst hu2
          obtain ⟨⟨p, hi1⟩, ⟨p', hi2⟩⟩ := HTI.out k _ hg
          obtain ⟨b1, o1, rfl, hb1, y0, y1, y2⟩ := (ht1.below hbw).get hi1
          obtain ⟨_, _, e', hb2, z0, z1, z2⟩ := (ht1.below hbw).get hi2
          cases e'
          dsimp only at y0 y1 y2 z0 z1 z2
          clear hu hbw hg hi1 hi2
          generalize s0[k] = x at *
          go_wp2
          go_quiet (fail)
          go_wp2
          go_roundw
          case rel => exact ⟨k + 1, by go_num, by omega, Hbw.out.trans ⟨rfl, rfl, rfl, Nat.le_refl _, fun _ _ => rfl⟩⟩
          case measure => simp [intOf]; omega
        · have hd2 : ¬ ((k : Int) < (s0.length : Nat)) := by omega
          go_wp2
          go_ret
          exact ⟨rfl, Hb.out.trans ((hbv.trans (hbw.mono (by omega))).mono hB)⟩
end Go.Proofs.Ytdblkghombemiaa
