/- Layer 9: few answers something. Conditions: none. -/
import Derived.BigQuiet
import Derived.Deep.QuietTactic
import Derived.Deep.Cut
import Derived.Test.YtpiihfffhjmabaaSmallW
namespace Go.Proofs.Ytpiihfffhjmabaa
open Go.RowKit

/-- It answers, one way or the other. -/
def SomeB (e : Ending) : Prop := ∃ b, e = .returned (.bool b)
set_option maxRecDepth 100000 in
set_option maxHeartbeats 400000 in
theorem few9_any {w : World} {R : Nat} {A : Option Addr} {c : Nat} {l : List TypA} (h : SchA w R A c l) :
    Calls Try.prog 9 #[.agg #[.slice A l.length c]] w fun e w' => SomeB e ∧ Below w.heap.size w w' := by
  have hll : (l.length : Int) ≤ 9223372036854775807 := by have := h.rows.cap; have := h.rows.capm; simp only [maxLen] at this; omega
  have hb0 := bnew w (.cells #[.slice A l.length c] 24)
  have d0 := Bk.new w #[.slice A l.length c] 24
  have h0 := h.up hb0
  go_enter Try.func9, Try.ntmps9
  go_upto_region 1 with (fail)
  clear h
  generalize w.alloc (.cells #[.slice A l.length c] 24) = w1 at *
  go_wp2_with fail
  go_loopw [3, 4] (fun vn vi wx => (∃ z : Int, vn = .int .i64 z) ∧ ∃ i : Nat, vi = .int .i64 i ∧ i ≤ l.length ∧ Below w1.heap.size w1 wx) (fun _ vi _ => l.length - (intOf vi).toNat)
  case atStart => exact ⟨⟨_, rfl⟩, 0, rfl, Nat.zero_le _, Below.refl _ _⟩
  case round =>
    obtain ⟨⟨z, rfl⟩, i, rfl, hi, hbx⟩ := hrel
    have e0 := d0.below hbx
    have x0 := e0.c1
    have xl := e0.lt
    by_cases hil : i < l.length
    · have hdi : (i : Int) < (l.length : Nat) := by omega
      obtain ⟨t, ht⟩ : ∃ t, l[i]? = some t := ⟨l[i], List.getElem?_eq_getElem hil⟩
      obtain ⟨g, o, rfl, g0, g1, hk⟩ := (h0.up hbx).get ht
      have lg := World.block_lt_of_cell? _ _ g0
      dsimp only at lg
      have hlr : (t.rels.length : Int) ≤ 9223372036854775807 := by have := hk.rels.cap; have := hk.rels.capm; simp only [maxLen] at this; omega
      go_wp2_with fail
      generalize wr = W0 at *
      go_loopw [3, 5] (fun vn vi wx => (∃ z : Int, vn = .int .i64 z) ∧ ∃ i : Nat, vi = .int .i64 i ∧ i ≤ t.rels.length ∧ Below W0.heap.size W0 wx) (fun _ vi _ => t.rels.length - (intOf vi).toNat)
      case atStart => exact ⟨⟨_, rfl⟩, 0, rfl, Nat.zero_le _, Below.refl _ _⟩
      case round =>
        obtain ⟨⟨z2, rfl⟩, j, rfl, hj, hby⟩ := hrel
        have f0 := (e0.below hby).c1
        have fl := (e0.below hby).lt
        have p0 := cell_under g0 hby
        have p1 := cell_under g1 hby
        have pl := World.block_lt_of_cell? _ _ p0
        dsimp only at pl
        by_cases hjl : j < t.rels.length
        · have hdj : (j : Int) < (t.rels.length : Nat) := by omega
          obtain ⟨r, hr⟩ : ∃ r, t.rels[j]? = some r := ⟨t.rels[j], List.getElem?_eq_getElem hjl⟩
          obtain ⟨gr, o', eA, r0, r1, r2, r3, r4, r5, hkr⟩ := (hk.up hby).get hr
          have lgr := World.block_lt_of_cell? _ _ r0
          dsimp only at lgr
          rw [eA] at p1
          have hs1 : (r.subs.length : Int) ≤ 9223372036854775807 := by have := hkr.subs.cap; have := hkr.subs.capm; simp only [maxLen] at this; omega
          have ho1 : (r.ops.length : Int) ≤ 9223372036854775807 := by have := hkr.ops.cap; have := hkr.ops.capm; simp only [maxLen] at this; omega
          go_wp2_with fail
          refine ⟨⟨⟨_, rfl⟩, j + 1, by go_num, by omega, hby.alloc hby.size _⟩, ?_⟩
          simp [intOf]; omega
        · have hdj : ¬ (j : Int) < (t.rels.length : Nat) := by omega
          go_wp2
          refine ⟨⟨⟨_, rfl⟩, i + 1, by go_num, by omega, bthen hbx hbx.size hby⟩, ?_⟩
          simp [intOf]; omega
    · have hdi : ¬ (i : Int) < (l.length : Nat) := by omega
      go_wp2
      go_ret
      exact ⟨⟨_, rfl⟩, bthen hb0 hb0.size hbx⟩
end Go.Proofs.Ytpiihfffhjmabaa
