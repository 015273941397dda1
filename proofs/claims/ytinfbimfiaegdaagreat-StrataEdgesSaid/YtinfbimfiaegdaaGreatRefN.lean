/- Layer 10: the document's own Number and add, walked. Conditions: a schema that is right; no more than 20000 edges. -/
import Derived.BigQuiet
import Derived.Deep.QuietTactic
import Derived.Deep.Cut
import Derived.Deep.DeepCutAuto
import Derived.IntWalk
import Derived.Deep.RegionHeld3
import Derived.Test.YtinfbimfiaegdaaGreatRefE
import Derived.Test.YtinfbimfiaegdaaGreatOf10
namespace Go.Proofs.YtinfbimfiaegdaaGreat
open Go.RowKit

theorem relsA_saysLen (l : List TypA) : (relsOf (l.map TypA.says)).length = (relsA l).length := by rw [← relsA_says, List.length_map]
theorem says_name {t : TypA} : t.says.name = t.name := rfl
/-- The number of a relation of a type. -/
theorem num_rel_at {l : List TypA} (hR : Right (l.map TypA.says)) {i : Nat} {t : TypA} (ht : l[i]? = some t) {re : ByteArray} {z : Int} (hz : AtZ (fun t : RelA => decide (t.name = re)) t.rels z) :
    (z < 0 → numP (pathsOf (l.map TypA.says)) (t.name, re) = -1) ∧ (0 ≤ z → numP (pathsOf (l.map TypA.says)) (t.name, re) = ((relsA (l.take i)).length : Nat) + z ∧ z < t.rels.length) := by
  have hT : (l.map TypA.says)[i]? = some t.says := by rw [List.getElem?_map, ht]; rfl
  rcases hz with ⟨rfl, hf⟩ | ⟨k, r, rfl, hr, hf, _⟩
  · refine ⟨fun _ => ?_, fun h => absurd h (by decide)⟩
    refine num_rel hR (t := t.says) (List.mem_of_getElem? hT) fun r hr => ?_
    obtain ⟨q, hq, rfl⟩ := List.mem_map.1 hr
    have := List.find?_eq_none.1 hf q hq
    have h2 : ¬ q.name = re := by simpa using this
    exact h2
  · refine ⟨fun h => by omega, fun _ => ?_⟩
    have hn : r.name = re := by have := List.find?_some hf; simpa using this
    subst hn
    have h1 := num_hit hR (k := k) hT (r := r.says) (by show (t.rels.map RelA.says)[k]? = _; rw [List.getElem?_map, hr]; rfl)
    have h2 := numP_some h1
    rw [← List.map_take, relsA_saysLen] at h2
    refine ⟨?_, by have := (List.getElem?_eq_some_iff.1 hr).1; omega⟩
    exact h2.trans (by omega)
theorem num_typ_none {l : List TypA} {ty re : ByteArray} (hn : ∀ t ∈ l, t.name ≠ ty) : numP (pathsOf (l.map TypA.says)) (ty, re) = -1 := num_typ fun t ht => by
  obtain ⟨q, hq, rfl⟩ := List.mem_map.1 ht
  exact hn q hq

set_option maxRecDepth 100000 in
set_option maxHeartbeats 1000000 in
theorem number_any {w : World} {R c : Nat} {A : Option Addr} {l : List TypA} (h : SchA w R A c l) (hR : Right (l.map TypA.says)) (ty re : ByteArray) :
    Calls Tryz.prog 28 #[.slice A l.length c, .string ty, .string re] w fun e w' => e = .returned (.int .i64 (numP (pathsOf (l.map TypA.says)) (ty, re))) ∧ Below w.heap.size w w' := by
  have hn96 : (relsA l).length ≤ 96 := by rw [← relsA_saysLen]; exact hR.rels_le
  have hll : (l.length : Int) ≤ 9223372036854775807 := by have := h.rows.cap; have := h.rows.capm; simp only [maxLen] at this; omega
  obtain ⟨r, hr⟩ : ∃ r, numP (pathsOf (l.map TypA.says)) (ty, re) = r := ⟨_, rfl⟩
  rw [hr]
  replace hr := Lib.hid hr
  go_enter Tryz.func28, Tryz.ntmps28
  go_wp2_with fail
  go_loopw [7, 8] (fun vn vi wx => ∃ i : Nat, vi = .int .i64 i ∧ vn = .int .i64 ((relsA (l.take i)).length : Nat) ∧ i ≤ l.length ∧ (∀ t ∈ l.take i, t.name ≠ ty) ∧ Below w.heap.size w wx) (fun _ vi _ => l.length - (intOf vi).toNat)
  case atStart => exact ⟨0, rfl, rfl, Nat.zero_le _, fun t ht => (by simp at ht), Below.refl _ _⟩
  case round =>
    obtain ⟨i, rfl, rfl, hi, hno, hbx⟩ := hrel
    by_cases hil : i < l.length
    · have hdi : (i : Int) < (l.length : Int) := by omega
      obtain ⟨t, ht⟩ : ∃ t, l[i]? = some t := ⟨_, List.getElem?_eq_getElem hil⟩
      obtain ⟨g, o, rfl, g0, g1, hk⟩ := (h.up hbx).get ht
      have lg := World.block_lt_of_cell? _ _ g0
      dsimp only at lg
      have kr := rel9_any hk re
      have hsn := congrArg List.length (relsA_snoc ht)
      rw [List.length_append, List.length_map] at hsn
      have hle := relsA_le (l := l) (i + 1)
      rw [hsn] at hle
      have hle2 : (relsA (l.take i)).length + t.rels.length ≤ 96 := Nat.le_trans hle hn96
      have hnum := fun (z : Int) (hz : AtZ (fun t : RelA => decide (t.name = re)) t.rels z) => num_rel_at hR ht hz
      have hnext : Hid (t.name ≠ ty → ∀ q ∈ l.take (i + 1), q.name ≠ ty) := Lib.hid fun hne q hq => by
        rw [List.take_add_one, ht] at hq
        rcases List.mem_append.1 hq with hq | hq
        · exact hno q hq
        · simp at hq
          subst hq
          exact hne
      obtain ⟨n, hn⟩ : ∃ n, (relsA (l.take i)).length = n := ⟨_, rfl⟩
      obtain ⟨tA, htA⟩ : ∃ tA, t.A = tA := ⟨_, rfl⟩
      rw [hn] at hsn hle2 hnum ⊢
      rw [htA] at g1 kr
      replace hsn := Lib.hid hsn
      replace hnum := Lib.hid hnum
      have hq := list_dec t.name ty
      clear hle hno hn ht
      go_upto_region 6 with (go_at_call 29; refine kr.mono ?_; rintro e w1 ⟨⟨z, rfl, hz⟩, hb1⟩)
      obtain ⟨hz1, hz2⟩ := hnum.out z hz
      have g0' := cell_under g0 hb1
      have g1' := cell_under g1 hb1
      have lg' := World.block_lt_of_cell? _ _ g0'
      dsimp only at lg'
      have hbw := bthenZ hbx hbx.size hb1
      clear kr hz g0 g1 hnum hb1
      by_cases hty : t.name = ty
      · have hd : decide (t.name = ty) = true := decide_eq_true hty
        rw [hd] at hq
        rw [← hty] at hr
        by_cases hz0 : z < 0
        · obtain rfl : r = -1 := hr.out.symm.trans (hz1 hz0)
          clear hz1 hz2 hr hty
          go_wp2_with fail
          go_ret
          exact ⟨rfl, hbw⟩
        · obtain ⟨hz3, hz4⟩ := hz2 (by omega)
          obtain rfl : r = (n : Int) + z := hr.out.symm.trans hz3
          clear hz1 hz2 hr hty hz3
          go_wp2_with fail
          go_ret
          exact ⟨rfl, hbw⟩
      · have hd : decide (t.name = ty) = false := decide_eq_false hty
        rw [hd] at hq
        replace hnext := Lib.hid (hnext.out hty)
        clear hz1 hz2 hty
        go_wp2_with fail
        exact ⟨⟨i + 1, by go_num, by rw [hsn.out]; go_num, by omega, hnext.out, hbw⟩, by simp [intOf]; omega⟩
    · obtain rfl : i = l.length := by omega
      have hdi : ¬ (((l.length : Nat) : Int) < (l.length : Int)) := by omega
      rw [List.take_length] at hno
      obtain rfl : r = -1 := hr.out.symm.trans (num_typ_none hno)
      go_wp2_with fail
      go_ret
      exact ⟨rfl, hbx⟩
end Go.Proofs.YtinfbimfiaegdaaGreat
