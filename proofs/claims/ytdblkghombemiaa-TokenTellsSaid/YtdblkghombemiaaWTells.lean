/- TokenTells walked: it answers true. -/
import Derived.BigQuiet
import Derived.Deep.QuietTactic
import Derived.Test.YtdblkghombemiaaRAllW
import Derived.Test.YtdblkghombemiaaFrame
namespace Go.Proofs.Ytdblkghombemiaa
open Go.RowKit

set_option maxRecDepth 100000 in
set_option maxHeartbeats 4000000 in
theorem tokenTells_walk (s0 : ByteArray) (w : World) (f0 : s0.size ≤ maxLen) :
    Calls Try.prog 3 #[.string s0] w fun e w' => e = .returned (.bool true) ∧ Below w.heap.size w w' := by
  have Hb := Lib.hid (Below.refl w.heap.size w)
  have hB : w.heap.size ≤ w.heap.size := Nat.le_refl _
  have kA : ∀ W, _ := fun W => all_any s0 W f0
  have kR : ∀ W, _ := fun W => rall_any s0 W f0
  unfold AllPost at kA kR
  unfold maxLen at f0
  generalize (allS s0).1 = l at *
  generalize (allS s0).2.1 = e0 at *
  generalize (allS s0).2.2 = p0 at *
  by_cases h21 : 2100 < s0.size
  · go_enter Try.func3, Try.ntmps3
    go_wp2_with ((with_reducible refine (awake_any _).mono ?_); rintro e w1 ⟨rfl, hb⟩; obtain ⟨Hb, hB⟩ := chain Hb hB hb; clear hb)
    go_ret
    exact ⟨rfl, Hb.out⟩
  go_enter Try.func3, Try.ntmps3
  go_wp2_with (first
    | ((with_reducible refine (awake_any _).mono ?_); rintro e w1 ⟨rfl, hb⟩; obtain ⟨Hb, hB⟩ := chain Hb hB hb; clear hb)
    | ((with_reducible refine (kA _).mono ?_); rintro e w2 ⟨⟨A1, c1, rfl, ht1⟩, hb⟩; obtain ⟨Hb, hB⟩ := chain Hb hB hb; clear hb)
    | ((with_reducible refine (kR _).mono ?_); rintro e w3 ⟨⟨A2, c2, rfl, ht2⟩, hb⟩; replace ht1 := ht1.below hb; obtain ⟨Hb, hB⟩ := chain Hb hB hb; clear hb)
    | ((with_reducible refine (key_any s0 _).mono ?_); rintro e w4 ⟨rfl, rfl⟩)
    | ((with_reducible refine (rkey_any s0 _).mono ?_); rintro e w5 ⟨rfl, rfl⟩))
  clear kA kR f0 h21
  have hB5 := Hb.out.size
  go_loopw [10] (fun vi wr => ∃ k : Nat, vi = .int .i64 k ∧ k ≤ l.length ∧ Below w5.heap.size w5 wr) (fun vi _ => l.length - (intOf vi).toNat)
  case atStart => exact ⟨0, rfl, Nat.zero_le _, Below.refl _ _⟩
  case round =>
    obtain ⟨k, rfl, hk, hbw⟩ := hrel
    have hlm : l.length ≤ maxLen := by have h1 := Rd.cap ht1; have h2 := Rd.capm ht1; omega
    unfold maxLen at hlm
    by_cases h : k < l.length
    · have hd : (k : Int) < (l.length : Nat) := by omega
      obtain ⟨t, ht⟩ : ∃ t, l[k]? = some t := ⟨l[k], List.getElem?_eq_getElem h⟩
      obtain ⟨b1, o1, rfl, hl1, x0, x1, x2⟩ := (ht1.below hbw).get ht
      obtain ⟨b2, o2, rfl, hl2, y0, y1, y2⟩ := (ht2.below hbw).get ht
      have Hbw := Lib.hid hbw
      clear ht hbw
      generalize t.1 = q0 at *
      generalize t.2.1 = q1 at *
      generalize t.2.2 = q2 at *
      go_wp2
      go_quiet (fail)
      go_wp2
      go_roundw
      case rel => exact ⟨k + 1, by go_num, by omega, Hbw.out.trans ⟨rfl, rfl, rfl, Nat.le_refl _, fun _ _ => rfl⟩⟩
      case measure => simp [intOf]; omega
    · have hd : ¬ ((k : Int) < (l.length : Nat)) := by omega
      go_wp2
      go_ret
      exact ⟨rfl, Hb.out.trans (hbw.mono hB5)⟩
end Go.Proofs.Ytdblkghombemiaa
