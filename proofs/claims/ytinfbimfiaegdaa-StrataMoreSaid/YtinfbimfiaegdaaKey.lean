/- Key, called. Conditions: none. -/
import Derived.Test.YtinfbimfiaegdaaScan
namespace Go.Proofs.Ytinfbimfiaegdaa
open Go.RowKit

theorem list_dec (x y : ByteArray) : (x.toList == y.toList) = decide (x = y) := toList_inj
set_option maxHeartbeats 1000000 in
theorem key_any (s : ByteArray) (w : World) : Calls Try.prog 92 #[.string s] w fun e w' => e = .returned (.bool (keyB s)) ∧ w' = w := by
  have e1 := list_dec s ⟨#[116, 121, 112, 101]⟩
  have e2 := list_dec s ⟨#[114, 101, 108]⟩
  have e3 := list_dec s ⟨#[105, 115]⟩
  have e4 := list_dec s ⟨#[116, 104, 105, 115]⟩
  rw [show (⟨#[116, 121, 112, 101]⟩ : ByteArray).toList = [116, 121, 112, 101] by decide +kernel] at e1
  rw [show (⟨#[114, 101, 108]⟩ : ByteArray).toList = [114, 101, 108] by decide +kernel] at e2
  rw [show (⟨#[105, 115]⟩ : ByteArray).toList = [105, 115] by decide +kernel] at e3
  rw [show (⟨#[116, 104, 105, 115]⟩ : ByteArray).toList = [116, 104, 105, 115] by decide +kernel] at e4
  have HK : Hid (keyB s = (decide (s = ⟨#[116, 121, 112, 101]⟩) || decide (s = ⟨#[114, 101, 108]⟩) || decide (s = ⟨#[105, 115]⟩) || decide (s = ⟨#[116, 104, 105, 115]⟩))) := Lib.hid (by unfold keyB; rw [Bool.eq_iff_iff]; simp [or_assoc])
  generalize decide (s = ⟨#[116, 121, 112, 101]⟩) = d1 at *
  generalize decide (s = ⟨#[114, 101, 108]⟩) = d2 at *
  generalize decide (s = ⟨#[105, 115]⟩) = d3 at *
  generalize decide (s = ⟨#[116, 104, 105, 115]⟩) = d4 at *
  go_enter Try.func92, Try.ntmps92
  cases d1 <;> cases d2 <;> cases d3 <;> cases d4
  all_goals go_wp2
  all_goals go_ret
  all_goals (refine ⟨?_, rfl⟩; rw [HK.out]; rfl)

theorem chain {B : Nat} {w w1 w2 : World} (h : Hid (Below B w w1)) (hB : B ≤ w1.heap.size) (k : Below w1.heap.size w1 w2) : Hid (Below B w w2) ∧ B ≤ w2.heap.size :=
  ⟨Lib.hid (h.out.trans (k.mono hB)), Nat.le_trans hB k.size⟩
end Go.Proofs.Ytinfbimfiaegdaa
