/- Layer 6: the reference's Sign and Key, called; what is left of a text's tokens behind a place. Conditions: none. -/
import Derived.Test.YtkeonempmchpnaaRefs
import Derived.Test.YtkeonempmchpnaaAwake
namespace Go.Proofs.Ytkeonempmchpnaa
open Go.RowKit

theorem rkey_any (s : ByteArray) (w : World) : Calls Try.prog 45 #[.string s] w fun e w' => e = .returned (.bool (keyB s)) ∧ w' = w := by
  have e1 := list_dec s ⟨#[116, 121, 112, 101]⟩
  have e2 := list_dec s ⟨#[114, 101, 108]⟩
  have e3 := list_dec s ⟨#[105, 115]⟩
  have e4 := list_dec s ⟨#[116, 104, 105, 115]⟩
  rw [show (⟨#[116, 121, 112, 101]⟩ : ByteArray).toList = [116, 121, 112, 101] by decide +kernel] at e1
  rw [show (⟨#[114, 101, 108]⟩ : ByteArray).toList = [114, 101, 108] by decide +kernel] at e2
  rw [show (⟨#[105, 115]⟩ : ByteArray).toList = [105, 115] by decide +kernel] at e3
  rw [show (⟨#[116, 104, 105, 115]⟩ : ByteArray).toList = [116, 104, 105, 115] by decide +kernel] at e4
  have HK : Hid (keyB s = (decide (s = ⟨#[116, 121, 112, 101]⟩) || decide (s = ⟨#[114, 101, 108]⟩) || decide (s = ⟨#[105, 115]⟩) || decide (s = ⟨#[116, 104, 105, 115]⟩))) := Lib.hid (by unfold keyB; rw [Bool.eq_iff_iff]; simp [or_assoc])
  generalize decide (s = ⟨#[116, 121, 112, 101]⟩) = d1 at *
  generalize decide (s = ⟨#[114, 101, 108]⟩) = d2 at *
  generalize decide (s = ⟨#[105, 115]⟩) = d3 at *
  generalize decide (s = ⟨#[116, 104, 105, 115]⟩) = d4 at *
  go_enter Try.func45, Try.ntmps45
  cases d1 <;> cases d2 <;> cases d3 <;> cases d4
  all_goals go_wp2
  all_goals go_ret
  all_goals (refine ⟨?_, rfl⟩; rw [HK.out]; rfl)

theorem sgS_bt : ∀ k, k < 12 → bt sgS k = sgs.getD k 0 := by decide +kernel
theorem sgs_sign : ∀ k, k < 12 → signB (sgs.getD k 0) = true := by decide +kernel
theorem sgs_all (c : Nat) (h : ∀ k, k < 12 → sgs.getD k 0 ≠ c) : signB c = false := by
  rw [Bool.eq_false_iff]
  intro hs
  have := sgs_mem hs
  simp only [sgs, List.mem_cons, List.not_mem_nil, or_false] at this
  have h0 := h 0 (by omega); have h1 := h 1 (by omega); have h2 := h 2 (by omega); have h3 := h 3 (by omega)
  have h4 := h 4 (by omega); have h5 := h 5 (by omega); have h6 := h 6 (by omega); have h7 := h 7 (by omega)
  have h8 := h 8 (by omega); have h9 := h 9 (by omega); have h10 := h 10 (by omega); have h11 := h 11 (by omega)
  simp [sgs] at h0 h1 h2 h3 h4 h5 h6 h7 h8 h9 h10 h11
  omega
set_option maxHeartbeats 1000000 in
theorem rsign_any (z : Int) (c : Nat) (w : World) (hz : z = c) : Calls Try.prog 43 #[.int .u8 z] w fun e w' => e = .returned (.bool (signB c)) ∧ w' = w := by
  subst hz
  go_enter Try.func43, Try.ntmps43
  go_wp2
  go_loopw [4] (fun vi wr => ∃ k : Nat, k ≤ 12 ∧ vi = .int .i64 k ∧ wr = w ∧ ∀ j, j < k → sgs.getD j 0 ≠ c) (fun vi _ => 12 - (intOf vi).toNat)
  case atStart => exact ⟨0, by omega, rfl, rfl, fun j hj => by omega⟩
  case round =>
    obtain ⟨k, hk, rfl, rfl, hall⟩ := hrel
    have Hall := Lib.hid hall
    clear hall
    by_cases h : k < 12
    · have hd : (k : Int) < 12 := by omega
      have hb := bt_eq sgS k h
      rw [sgS_bt k h] at hb
      have hx : ∀ h', ((⟨#[123, 125, 40, 41, 58, 44, 59, 124, 38, 45, 46, 35]⟩ : ByteArray)[k]'h').toNat = sgs.getD k 0 := fun h' => hb.symm
      have HS := Lib.hid (sgs_sign k h)
      clear hb
      generalize hq : sgs.getD k 0 = q at *
      by_cases hc : q = c
      · have hd2 : ((q : Int) == (c : Int)) = true := by simp [hc]
        have HC := Lib.hid hc
        clear hc hq
        go_wp2
        go_ret
        exact ⟨by rw [← HC.out, HS.out]; rfl, by first | rfl | trivial⟩
      · have hd2 : ((q : Int) == (c : Int)) = false := by simp; omega
        have HC := Lib.hid hc
        have HQ := Lib.hid hq
        clear hc hq
        go_wp2
        go_roundw
        case rel => exact ⟨k + 1, by omega, by go_num, by first | rfl | trivial, fun j hj => by
          by_cases e : j = k
          · subst e; rw [HQ.out]; exact HC.out
          · exact Hall.out j (by omega)⟩
        case measure => simp [intOf]; omega
    · obtain rfl : k = 12 := by omega
      go_wp2
      go_ret
      exact ⟨by rw [sgs_all c Hall.out]; rfl, by first | rfl | trivial⟩
end Go.Proofs.Ytkeonempmchpnaa
