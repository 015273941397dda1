/- Layer 10: edges turned; the level that all of a ring have. Conditions: none. -/
import Derived.BigQuiet
import Derived.Deep.QuietTactic
import Derived.Deep.Cut
import Derived.Deep.DeepCutAuto
import Derived.Test.YtinfbimfiaegdaaLeavW
namespace Go.Proofs.Ytinfbimfiaegdaa
open Go.RowKit

theorem cell_unde {w w' : World} {a : Addr} {v : Value} (h : w.cell? a = some v) (hb : Below w.heap.size w w') : w'.cell? a = some v := (hb.cell (World.block_lt_of_cell? _ _ h)).trans h
theorem rise_any (x y : Int) (b : Bool) (w : World) : Calls Try.prog 28 #[.agg #[.int .i64 x, .int .i64 y, .bool b]] w fun e w' => e = .returned (.int .i64 (if b then 1 else 0)) ∧ Below w.heap.size w w' := by
  go_enter Try.func28, Try.ntmps28
  cases b
  · go_wp2
    go_ret
    exact ⟨rfl, (Below.refl _ w).alloc (Nat.le_refl _) _⟩
  · go_wp2
    go_ret
    exact ⟨rfl, (Below.refl _ w).alloc (Nat.le_refl _) _⟩
theorem turn_cells (e : Ed) : ecell (turn e) = [.int .i64 e.2.1, .int .i64 e.1, .bool e.2.2] := rfl

set_option maxRecDepth 100000 in
set_option maxHeartbeats 1000000 in
theorem turned_any {w : World} {c : Nat} {A : Option Addr} {l : List Ed} (h : Rd w w.heap.size 3 A l.length c (ecells l)) (hl : l.length ≤ 1000000) :
    Calls Try.prog 13 #[.slice A l.length c] w fun e w' => (∃ A' c', e = .returned (.slice A' l.length c') ∧ Rd w' w'.heap.size 3 A' l.length c' (ecells (l.map turn))) ∧ Below w.heap.size w w' := by
  obtain ⟨i0, hi0, hz0, hz1, hz2⟩ := info_parts info_edge
  go_enter Try.func13, Try.ntmps13
  go_wp2_with fail
  go_loopw [3, 8] (fun v vi wx => ∃ j : Nat, vi = .int .i64 j ∧ j ≤ l.length ∧ wx.ownsRow w.heap.size 29 3 v j (ecells ((l.take j).map turn)) ∧ Below w.heap.size w wx) (fun _ vi _ => l.length - (intOf vi).toNat)
  case atStart => exact ⟨0, rfl, Nat.zero_le _, World.ownsRow_nil _ _ _ _, Below.refl _ _⟩
  case round =>
    obtain ⟨j, rfl, hj, hO, hbx⟩ := hrel
    by_cases hjl : j < l.length
    · have hdj : (j : Int) < (l.length : Int) := by omega
      obtain ⟨e, he⟩ : ∃ e, l[j]? = some e := ⟨_, List.getElem?_eq_getElem hjl⟩
      obtain ⟨b, o, rfl, hb, c0, c1, c2⟩ := rd_edge ((h.below hbx).more hbx.size) he
      obtain ⟨A3, c3, rfl, _⟩ := Rd.own hO
      have hws := hbx.size
      have hO1 := hO.alloc (.cells #[.int .i64 e.1, .int .i64 e.2.1, .bool e.2.2] 29)
      have hb1 := hbx.alloc hws (.cells #[.int .i64 e.1, .int .i64 e.2.1, .bool e.2.2] 29)
      have x1 := Bk.new wr #[.int .i64 e.1, .int .i64 e.2.1, .bool e.2.2] 29
      go_upto_region 5 with (fail)
      have y0 := x1.cell 0
      have y1 := x1.cell 1
      have y2 := x1.cell 2
      clear c0 c1 c2 x1
      generalize wr.alloc (.cells #[.int .i64 e.1, .int .i64 e.2.1, .bool e.2.2] 29) = w1 at *
      go_wp2_with (at_builtin; go_loud (refine wpList_append_src _ rfl (.tmp 12) (.tmp 20) 22 22 rfl w.heap.size 29 i0 (.agg #[.int .i64 0, .int .i64 0, .bool false]) 3 24 Try.underlying22 hi0 hz0 hz1 hz2 rfl (by decide) (.slice A3 j c3) j (ecells ((l.take j).map turn)) rfl (hO1.alloc _) _ 1 [.int .i64 e.2.1, .int .i64 e.1, .bool e.2.2] rfl (Src.ofSlice _ Try.underlying22 _ 1 1 _ rfl (cells_new _ _ _ _ _) (ecell_one (turn e))) (by simp only [maxLen]; omega) (by omega) (size_alloc hb1.size) ?_; intro v9 w8 hown8 hg8 hat8))
      have hO9 : w8.ownsRow w.heap.size 29 3 v9 (j + 1) (ecells ((l.take (j + 1)).map turn)) := by
        rw [List.take_add_one, he, Option.toList_some, List.map_append, ecells_app]
        have : ecells ([e].map turn) = ecell (turn e) := by simp [ecells]
        rw [this]
        exact hown8
      have hb9 := below_of_own (hb1.alloc hb1.size _) hg8 (hO1.alloc _) (size_alloc hb1.size) (Nat.le_refl _)
      exact ⟨⟨j + 1, by go_num, by omega, hO9, hb9⟩, by simp [intOf]; omega⟩
    · obtain rfl : j = l.length := by omega
      have hdj : ¬ (((l.length : Nat) : Int) < (l.length : Int)) := by omega
      rw [List.take_length] at hO
      obtain ⟨A3, c3, rfl, hR⟩ := Rd.own hO
      go_wp2_with fail
      go_ret
      exact ⟨⟨A3, c3, rfl, hR⟩, hbx⟩

/-! the level that all of a ring have -/
theorem upR_append {v l lev} {r s : List Nat} : upR v l lev (r ++ s) = match upR v l lev r with | none => none | some z => upR v l z s := by
  induction r generalizing lev with
  | nil => rfl
  | cons a t ih =>
    rw [List.cons_append]
    simp only [upR]
    cases upE v lev (outE l a) with
    | none => rfl
    | some y => exact ih
theorem upE_snoc {v lev} {es : List Ed} {j : Nat} {e : Ed} {z : Int} (h : es[j]? = some e) (hz : upE v lev (es.take j) = some z) : upE v lev (es.take (j + 1)) = up1 v z e := by
  rw [List.take_add_one, h, Option.toList_some, upE_append, hz]
  simp only [upE]
  cases up1 v z e <;> rfl
theorem upE_stop {v lev} {es : List Ed} {j : Nat} (h : upE v lev (es.take j) = none) : upE v lev es = none := by
  rw [← List.take_append_drop j es, upE_append, h]
theorem upR_snoc {v l lev} {r : List Nat} {j a : Nat} {z : Int} (h : r[j]? = some a) (hz : upR v l lev (r.take j) = some z) : upR v l lev (r.take (j + 1)) = upE v z (outE l a) := by
  rw [List.take_add_one, h, Option.toList_some, upR_append, hz]
  simp only [upR]
  cases upE v z (outE l a) <;> rfl
theorem upR_stop {v l lev} {r : List Nat} {j : Nat} (h : upR v l lev (r.take j) = none) : upR v l lev r = none := by
  rw [← List.take_append_drop j r, upR_append, h]

/-- What ringLevel answers. -/
def rlV (o : Option Int) : Value := match o with
  | none => .tuple #[.int .i64 0, .bool false]
  | some z => .tuple #[.int .i64 z, .bool true]
def lvs (v : List Int) : List Value := v.map fun z => Value.int .i64 z

set_option maxRecDepth 100000 in
set_option maxHeartbeats 2000000 in
theorem ringLevel_any {w : World} {n c cr cv : Nat} {A Ar Av : Option Addr} {l : List Ed} {r : List Nat} {v : List Int} (hR : Rd w w.heap.size 1 Ar r.length cr (ints r)) (hG : Gr w w.heap.size A c n l) (hV : Rd w w.heap.size 1 Av n cv (lvs v)) (hvn : v.length = n) (hr : ∀ k ∈ r, k < n) (hb : ∀ x ∈ v, -1 ≤ x ∧ x ≤ 5000) :
    Calls Try.prog 14 #[.slice Ar r.length cr, .slice A n c, .slice Av n cv] w fun e w' => e = .returned (rlV (upR v l 0 r)) ∧ Below w.heap.size w w' := by
  have hrl : (r.length : Int) ≤ 9223372036854775807 := by have := hR.cap; have := hR.capm; simp only [maxLen] at this; omega
  go_enter Try.func14, Try.ntmps14
  go_wp2_with fail
  go_loopw [8, 16] (fun lev vi wx => ∃ (j : Nat) (z : Int), lev = .int .i64 z ∧ vi = .int .i64 j ∧ j ≤ r.length ∧ upR v l 0 (r.take j) = some z ∧ 0 ≤ z ∧ z ≤ 6000 ∧ Below w.heap.size w wx) (fun _ vi _ => r.length - (intOf vi).toNat)
  case atStart => exact ⟨0, 0, rfl, rfl, Nat.zero_le _, rfl, by omega, by omega, Below.refl _ _⟩
  case round =>
    obtain ⟨j, z, rfl, rfl, hj, hU, hz0, hz1, hbx⟩ := hrel
    by_cases hjl : j < r.length
    · have hdj : (j : Int) < (r.length : Int) := by omega
      obtain ⟨b, o, u, rfl, hbw, hu, hc⟩ := (hR.below hbx).get hjl
      obtain ⟨a, ha⟩ : ∃ a, r[j]? = some a := ⟨_, List.getElem?_eq_getElem hjl⟩
      have hau : u = .int .i64 (a : Int) := by
        simp only [ints, List.getElem?_map, ha, Option.map_some, Option.some.injEq] at hu
        exact hu.symm
      subst hau
      have han := hr a (List.mem_of_getElem? ha)
      have hai : (a : Int) < (n : Int) := by omega
      obtain ⟨bg, og, Ai, ci, rfl, hbg, hcg0, hRg⟩ := hG.row han
      have hcg := cell_unde hcg0 hbx
      have hgl : ((outE l a).length : Int) ≤ 9223372036854775807 := by have := hRg.cap; have := hRg.capm; simp only [maxLen] at this; omega
      go_wp2_with fail
      obtain ⟨wo, rfl⟩ : ∃ wo : World, wo = wr := ⟨_, rfl⟩
      go_loopw [8, 25] (fun lev vi wx => ∃ (k : Nat) (y : Int), lev = .int .i64 y ∧ vi = .int .i64 k ∧ k ≤ (outE l a).length ∧ upE v z ((outE l a).take k) = some y ∧ 0 ≤ y ∧ y ≤ 6000 ∧ Below w.heap.size w wx) (fun _ vi _ => (outE l a).length - (intOf vi).toNat)
      case atStart => exact ⟨0, z, rfl, rfl, Nat.zero_le _, rfl, hz0, hz1, hbx⟩
      case round =>
        obtain ⟨k, y, rfl, rfl, hk, hE, hy0, hy1, hbk⟩ := hrel
        by_cases hkl : k < (outE l a).length
        · have hdk : (k : Int) < ((outE l a).length : Int) := by omega
          obtain ⟨e, he⟩ : ∃ e, (outE l a)[k]? = some e := ⟨_, List.getElem?_eq_getElem hkl⟩
          have hel := (mem_outE.1 (List.mem_of_getElem? he)).1
          have hte : e.2.1 = ((tt e : Nat) : Int) := by have := hG.inr e hel; unfold tt; omega
          have htn := hG.inr.tt hel
          have hti : ((tt e : Nat) : Int) < (n : Int) := by omega
          obtain ⟨b2, o2, rfl, hb2, c0, c1, c2⟩ := rd_edge (hRg.below hbk) he
          rw [hte] at c1
          obtain ⟨bv, ov, u, rfl, hbv, hu2, hcv⟩ := hV.get htn
          have hu3 : u = .int .i64 (lvAt v (tt e)) := by
            have h1 : tt e < v.length := by rw [hvn]; exact htn
            simp only [lvs, List.getElem?_map, List.getElem?_eq_getElem h1, Option.map_some, Option.some.injEq] at hu2
            rw [← hu2, lv_get (List.getElem?_eq_getElem h1)]
          subst hu3
          have hvb : -1 ≤ lvAt v (tt e) ∧ lvAt v (tt e) ≤ 5000 := by
            have h1 : tt e < v.length := by rw [hvn]; exact htn
            have := hb _ (List.getElem_mem h1)
            rwa [← lv_get (List.getElem?_eq_getElem h1)] at this
          have hup : Hid (upE v z ((outE l a).take (k + 1)) = up1 v y e) := Lib.hid (upE_snoc he hE)
          have hstop : Hid (upE v z ((outE l a).take (k + 1)) = none → upR v l 0 r = none) := Lib.hid fun h => upR_stop (j := j + 1) ((upR_snoc ha hU).trans (upE_stop h))
          have hu1 : Hid (up1 v y e = if lvAt v (tt e) = -1 then (if e.2.2 = true then none else some y) else some (max y (lvAt v (tt e) + rise e))) := Lib.hid rfl
          have hri : Hid (rise e = if e.2.2 = true then 1 else 0) := Lib.hid rfl
          generalize hq : lvAt v (tt e) = q at *
          have cv := cell_unde hcv hbk
          clear hcv hu2
          have hbk2 := hbk.alloc hbk.size (.cells #[.int .i64 e.1, .int .i64 ((tt e : Nat) : Int), .bool e.2.2] 29)
          have x1 := Bk.new wr #[.int .i64 e.1, .int .i64 ((tt e : Nat) : Int), .bool e.2.2] 29
          replace cv := cell_alloc cv (.cells #[.int .i64 e.1, .int .i64 ((tt e : Nat) : Int), .bool e.2.2] 29)
          go_upto_region 8 with (fail)
          clear c0 c1 c2 hbk hE hU
          generalize hW2 : wr.alloc (.cells #[.int .i64 e.1, .int .i64 ((tt e : Nat) : Int), .bool e.2.2] 29) = w2 at *
          clear hW2
          have x1h := Lib.hid x1
          have d0 := x1.cell 0
          have d1 := x1.cell 1
          have d2 := x1.cell 2
          clear x1
          by_cases hm : q = -1
          · subst hm
            cases hN : e.2.2 with
            | true =>
              rw [hN] at d2
              go_wp2_with fail
              go_ret2
              have h3 := hstop.out (by rw [hup.out, hu1.out]; simp [hN])
              exact ⟨by rw [h3]; rfl, hbk2⟩
            | false =>
              rw [hN] at d2
              go_wp2_with fail
              refine ⟨⟨k + 1, y, rfl, by go_num, by omega, ?_, hy0, hy1, hbk2⟩, by simp [intOf]; omega⟩
              rw [hup.out, hu1.out]; simp [hN]
          · have hm2 : (q != -1) = true := by simpa using hm
            go_upto_region 12 with (fail)
            have hSc : ∀ W : World, Below w2.heap.size w2 W → W.cell? ⟨wr.heap.size, 0, none⟩ = some (.int .i64 e.1) ∧ W.cell? ⟨wr.heap.size, 1, none⟩ = some (.int .i64 ((tt e : Nat) : Int)) ∧ W.cell? ⟨wr.heap.size, 2, none⟩ = some (.bool e.2.2) ∧ W.cell? ⟨bv, ov + tt e, none⟩ = some (.int .i64 q) := fun W h => ⟨cell_unde d0 h, cell_unde d1 h, cell_unde d2 h, cell_unde cv h⟩
            have hS0 : Below w2.heap.size w2 w2.drew := (Below.refl _ _).drew
            refine wp_region_any (by kernel_rfl) ?_
            change wpAny _ _ _ _ _ _ _ (World.drew _)
            refine wpAny_of_held (S := fun W => Below w2.heap.size w2 W) _ _ _ _ ?_
            refine roH_take 0 (some 42) (v := ?v0c) rfl rfl (by kernel_rfl) (by kernel_rfl) (by kernel_rfl) (fun _ _ _ h => h) (by rfl) ?y0c (by assumption) ?r0c
            case y0c => (intro W hS; obtain ⟨s0, s1, s2, s3⟩ := hSc W hS; go_simp; try with_reducible rfl)
            simp only [Act.put, List.setIfInBounds_toArray, List.set_cons_zero, List.set_cons_succ]
            refine roH_take 1 (some 43) (v := ?v1c) rfl rfl (by kernel_rfl) (by kernel_rfl) (by kernel_rfl) (fun _ _ _ h => h) (by rfl) ?y1c (by assumption) ?r1c
            case y1c => (intro W hS; obtain ⟨s0, s1, s2, s3⟩ := hSc W hS; go_simp; try with_reducible rfl)
            simp only [Act.put, List.setIfInBounds_toArray, List.set_cons_zero, List.set_cons_succ]
            refine roH_take 2 (some 44) (v := ?v2c) rfl rfl (by kernel_rfl) (by kernel_rfl) (by kernel_rfl) (fun _ _ _ h => h) (by rfl) ?y2c (by assumption) ?r2c
            case y2c => (intro W hS; obtain ⟨s0, s1, s2, s3⟩ := hSc W hS; go_simp; try with_reducible rfl)
            simp only [Act.put, List.setIfInBounds_toArray, List.set_cons_zero, List.set_cons_succ]
            refine roH_take 3 (some 45) (v := ?v3c) rfl rfl (by kernel_rfl) (by kernel_rfl) (by kernel_rfl) (fun _ _ _ h => h) (by rfl) ?y3c (by assumption) ?r3c
            case y3c => (intro W hS; obtain ⟨s0, s1, s2, s3⟩ := hSc W hS; go_simp; try with_reducible rfl)
            simp only [Act.put, List.setIfInBounds_toArray, List.set_cons_zero, List.set_cons_succ]
            refine roH_take 4 (some 46) (v := ?v4c) rfl rfl (by kernel_rfl) (by kernel_rfl) (by kernel_rfl) (fun _ _ _ h => h) (by rfl) ?y4c (by assumption) ?r4c
            case y4c => (intro W hS; obtain ⟨s0, s1, s2, s3⟩ := hSc W hS; go_simp; try with_reducible rfl)
            simp only [Act.put, List.setIfInBounds_toArray, List.set_cons_zero, List.set_cons_succ]
            refine roH_take 5 (some 47) (v := ?v5c) rfl rfl (by kernel_rfl) (by kernel_rfl) (by kernel_rfl) (fun _ _ _ h => h) (by rfl) ?y5c (by assumption) ?r5c
            case y5c => (intro W hS; obtain ⟨s0, s1, s2, s3⟩ := hSc W hS; go_simp; try with_reducible rfl)
            simp only [Act.put, List.setIfInBounds_toArray, List.set_cons_zero, List.set_cons_succ]
            refine roH_take 6 (some 48) (v := ?v6c) rfl rfl (by kernel_rfl) (by kernel_rfl) (by kernel_rfl) (fun _ _ _ h => h) (by rfl) ?y6c (by assumption) ?r6c
            case y6c => (intro W hS; obtain ⟨s0, s1, s2, s3⟩ := hSc W hS; go_simp; try with_reducible rfl)
            simp only [Act.put, List.setIfInBounds_toArray, List.set_cons_zero, List.set_cons_succ]
            refine roH_one 7 rfl (by kernel_rfl) ?_
            intro K hK
            go_simp
            refine (rise_any _ _ _ _).mono ?_
            rintro e4 w4 ⟨rfl, hb4⟩
            have hS4 : Below w2.heap.size w2 w4 := hS0.trans (hb4.mono hS0.size)
            refine hK _ _ hS4 ?_
            clear hK K hb4
            refine roH_take 8 (some 50) (v := ?v8c) rfl rfl (by kernel_rfl) (by kernel_rfl) (by kernel_rfl) (fun _ _ _ h => h) (by rfl) ?y8c (by assumption) ?r8c
            case y8c => (intro W hS; go_simp; try with_reducible rfl)
            simp only [Act.put, List.setIfInBounds_toArray, List.set_cons_zero, List.set_cons_succ]
            refine roH_take 9 (some 51) (v := ?v9c) rfl rfl (by kernel_rfl) (by kernel_rfl) (by kernel_rfl) (fun _ _ _ h => h) (by rfl) ?y9c (by assumption) ?r9c
            case y9c => (intro W hS; go_simp; try with_reducible rfl)
            simp only [Act.put, List.setIfInBounds_toArray, List.set_cons_zero, List.set_cons_succ]
            refine roH_take 10 (some 8) (v := ?v10c) rfl rfl (by kernel_rfl) (by kernel_rfl) (by kernel_rfl) (fun _ _ _ h => h) (by rfl) ?y10c (by assumption) ?r10c
            case y10c => (intro W hS; go_simp; try with_reducible rfl)
            simp only [Act.put, List.setIfInBounds_toArray, List.set_cons_zero, List.set_cons_succ]
            refine wpAnyH_done (by kernel_rfl) ?_ _
            go_wp2_with fail
            have hr2 := rise_ge e
            have hwr : IntKind.i64.wrap (q + rise e) = q + rise e := IntWalk.i64_in _ ⟨by omega, by omega⟩
            rw [← hri.out, hwr]
            refine ⟨⟨k + 1, max y (q + rise e), by congr 1; split <;> omega, by go_num, by omega, ?_, by omega, by omega, hbk2.trans (hS4.mono hbk2.size)⟩, by simp [intOf]; omega⟩
            rw [hup.out, hu1.out, if_neg hm]
        · obtain rfl : k = (outE l a).length := by omega
          have hdk : ¬ ((((outE l a).length : Nat) : Int) < ((outE l a).length : Int)) := by omega
          rw [List.take_length] at hE
          go_wp2_with fail
          exact ⟨⟨j + 1, y, rfl, by go_num, by omega, by rw [upR_snoc ha hU]; exact hE, hy0, hy1, hbk⟩, by simp [intOf]; omega⟩
    · obtain rfl : j = r.length := by omega
      have hdj : ¬ (((r.length : Nat) : Int) < (r.length : Int)) := by omega
      rw [List.take_length] at hU
      go_wp2_with fail
      go_ret2
      exact ⟨rfl, hbx⟩
end Go.Proofs.Ytinfbimfiaegdaa
