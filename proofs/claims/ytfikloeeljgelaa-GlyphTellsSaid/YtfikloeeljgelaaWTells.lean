/- GlyphTells walked: it answers true. -/
import Derived.Test.YtfikloeeljgelaaAwake
import Derived.Test.YtfikloeeljgelaaRefs
import Derived.Test.YtfikloeeljgelaaFrame
namespace Go.Proofs.Ytfikloeeljgelaa
open Go.RowKit

theorem drewN_below (w : World) (q : Nat) : Below w.heap.size w (w.drewN q) := ⟨rfl, rfl, rfl, Nat.le_refl _, fun _ _ => rfl⟩
theorem rcut_below (s : ByteArray) (n : Int) (w : World) (hs : s.size ≤ 1000000) :
    Calls Try.prog 11 #[.string s, .int .i64 n] w fun e w' => e = .returned (.tuple #[.string (cutA s n.toNat), .string (cutB s n.toNat)]) ∧ Below w.heap.size w w' :=
  (rcut_any s n w hs).mono fun _ _ ⟨he, q, hw⟩ => ⟨he, by rw [hw]; exact drewN_below w q⟩

set_option maxRecDepth 100000 in
set_option maxHeartbeats 4000000 in
theorem glyphTells_walk (s : ByteArray) (x1 : Int) (x2 : Int) (w : World) (f0 : s.size ≤ maxLen) (f1 : (Lit.int .i64 x1).wf = true) (_ : (Lit.int .i64 x2).wf = true) :
    Calls Try.prog 3 #[.string s, .int .i64 x1, .int .i64 x2] w fun e w' => e = .returned (.bool true) ∧ Below w.heap.size w w' := by
  unfold maxLen at f0
  obtain ⟨h11, h12⟩ := wf_i64 f1
  clear f1
  have Hb := Lib.hid (Below.refl w.heap.size w)
  have hB : w.heap.size ≤ w.heap.size := Nat.le_refl _
  by_cases h400 : 400 < s.size
  · go_enter Try.func3, Try.ntmps3
    go_wp2_with ((with_reducible refine (awake_any _).mono ?_); rintro e w1 ⟨rfl, hb⟩; obtain ⟨Hb, hB⟩ := chain Hb hB hb; clear hb)
    go_ret
    exact ⟨rfl, Hb.out⟩
  · have hs : s.size ≤ 1000000 := by omega
    go_enter Try.func3, Try.ntmps3
    go_wp2_with (first
      | ((with_reducible refine (awake_any _).mono ?_); rintro e w1 ⟨rfl, hb⟩; obtain ⟨Hb, hB⟩ := chain Hb hB hb; clear hb)
      | ((with_reducible refine (cut_any s x1 _ hs h11 h12).mono ?_); rintro e w2 ⟨rfl, hb⟩; obtain ⟨Hb, hB⟩ := chain Hb hB hb; clear hb)
      | ((with_reducible refine (rcut_below s x1 _ hs).mono ?_); rintro e w3 ⟨rfl, hb⟩; obtain ⟨Hb, hB⟩ := chain Hb hB hb; clear hb)
      | ((with_reducible refine (where_any s x2 _ hs).mono ?_); rintro e w4 ⟨rfl, hb⟩; obtain ⟨Hb, hB⟩ := chain Hb hB hb; clear hb)
      | ((with_reducible refine (rwhere_any s x2 _ hs).mono ?_); rintro e w5 ⟨rfl, rfl⟩)
      | ((with_reducible refine (valid_any s _ hs).mono ?_); rintro e w6 ⟨rfl, hb⟩; obtain ⟨Hb, hB⟩ := chain Hb hB hb; clear hb)
      | ((with_reducible refine (rvalid_any s _ hs).mono ?_); rintro e w7 ⟨rfl, rfl⟩)
      | ((with_reducible refine (count_any s _ hs).mono ?_); rintro e w8 ⟨rfl, hb⟩; obtain ⟨Hb, hB⟩ := chain Hb hB hb; clear hb)
      | ((with_reducible refine (rcount_any s _ hs).mono ?_); rintro e w9 ⟨rfl, rfl⟩)
      | ((with_reducible refine (name_any s _ hs).mono ?_); rintro e w10 ⟨rfl, hb⟩; obtain ⟨Hb, hB⟩ := chain Hb hB hb; clear hb)
      | ((with_reducible refine (rname_any s _ hs).mono ?_); rintro e w11 ⟨rfl, rfl⟩))
    all_goals go_ret
    all_goals exact ⟨rfl, Hb.out⟩
end Go.Proofs.Ytfikloeeljgelaa
