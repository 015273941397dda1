/- ParseTells walked: it answers true. -/
import Derived.BigQuiet
import Derived.Deep.QuietTactic
import Derived.Test.YtkeonempmchpnaaSame7
import Derived.Test.YtkeonempmchpnaaAwake7
import Derived.Test.YtkeonempmchpnaaRefW
import Derived.Test.YtkeonempmchpnaaFrame
namespace Go.Proofs.Ytkeonempmchpnaa
open Go.RowKit

theorem few_text (s : ByteArray) : Few 1000000 (parseS s).1 := by
  by_cases h0 : (allS s).2.1 = 0
  · exact parse_few (all_fine (all_long h0) h0).1
  · unfold parseS
    rw [if_neg h0]
    exact ⟨Nat.zero_le _, fun t ht => by cases ht⟩
theorem rparse_named (s : ByteArray) (hz : s.size ≤ 1000000) {l : List TypP} {e p : Nat} (h : parseS s = (l, e, p)) (W : World) :
    Calls Try.prog 10 #[.string s] W fun r w' => (∃ v, r = .returned (.tuple #[v, .int .i64 e, .int .i64 p]) ∧ DVTyps W.heap.size w' v l) ∧ Below W.heap.size W w' := by
  have k := rparse_any s W (by unfold maxLen; omega)
  rw [h] at k
  exact k.mono fun r w' ⟨v, h1, h2, h3⟩ => ⟨⟨v, h1, h2⟩, h3⟩
set_option maxRecDepth 100000 in
set_option maxHeartbeats 4000000 in
theorem parseTells_walk (s0 : ByteArray) (w : World) (_f0 : s0.size ≤ maxLen) :
    Calls Try.prog 3 #[.string s0] w fun e w' => e = .returned (.bool true) ∧ Below w.heap.size w w' := by
  by_cases h0 : 2100 < s0.size
  · have hd : (2100 : Int) < (s0.size : Nat) := by omega
    go_enter Try.func3, Try.ntmps3
    go_wp2_with ((with_reducible refine (awake7_any _).mono ?_); rintro e w1 ⟨rfl, hb1⟩)
    go_ret
    exact ⟨rfl, hb1⟩
  · have hd : ¬ (2100 : Int) < (s0.size : Nat) := by omega
    obtain ⟨T, ea, pa, ha⟩ : ∃ T e p, parseS s0 = (T, e, p) := ⟨_, _, _, rfl⟩
    have ka := fun W => parse_named s0 (by omega) ha W
    have kr := fun W => rparse_named s0 (by omega) ha W
    have fa := few_text s0
    rw [ha] at fa
    dsimp only at fa
    clear ha
    go_enter Try.func3, Try.ntmps3
    go_wp2_with (first
      | ((with_reducible refine (awake7_any _).mono ?_); rintro e w1 ⟨rfl, hb1⟩)
      | ((with_reducible refine (ka _).mono ?_); rintro e w2 ⟨⟨Aa, ca, rfl, hva⟩, hb2⟩)
      | ((with_reducible refine (kr _).mono ?_); rintro e w3 ⟨⟨v3, rfl, hv3⟩, hb3⟩; have hx3 := (Bk.new w2 #[.slice Aa T.length ca] 25).below hb3; have x3 := hx3.c1; have lx3 := hx3.lt))
    have h12 := hb1.trans (hb2.mono hb1.size)
    have h23 : Below w2.heap.size w2 w3 := ((Below.refl _ w2).alloc (Nat.le_refl _) (.cells #[.slice Aa T.length ca] 25)).trans (hb3.mono (size_alloc (Nat.le_refl _)))
    have h13 := h12.trans (h23.mono h12.size)
    replace hva := hva.below h23
    clear hb1 hb2 hb3 h12 h23
    refine (of_any hva fa).mono ?_
    rintro e w5 ⟨⟨v5, rfl, hd5⟩, hb5⟩
    replace hv3 := hv3.below hb5
    clear hva
    go_wp2_with fail
    refine (same_any hd5 hv3 fa).mono ?_
    rintro e w6 ⟨rfl, hb6⟩
    go_wp2_with fail
    have h15 := h13.trans (hb5.mono h13.size)
    have h16 := h15.trans (hb6.mono h15.size)
    go_ret
    exact ⟨rfl, h16⟩
end Go.Proofs.Ytkeonempmchpnaa
