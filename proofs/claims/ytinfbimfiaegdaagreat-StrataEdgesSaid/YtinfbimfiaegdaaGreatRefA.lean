/- Layer 10: the document's own add, walked: an edge put where it belongs. Conditions: no more than 20000 edges. -/
import Derived.BigQuiet
import Derived.Deep.QuietTactic
import Derived.Deep.Cut
import Derived.Deep.DeepCutAuto
import Derived.IntWalk
import Derived.Deep.RegionHeld3
import Derived.Test.YtinfbimfiaegdaaGreatRefE
namespace Go.Proofs.YtinfbimfiaegdaaGreat
open Go.RowKit

theorem flat_cut10 {α : Type} (g : α → List Value) {sz : Nat} (hg : ∀ a, (g a).length = sz) : ∀ (l : List α) (i : Nat), (l.flatMap g).take (i * sz) = (l.take i).flatMap g ∧ (l.flatMap g).drop (i * sz) = (l.drop i).flatMap g
  | [], i => by simp
  | a :: t, 0 => by simp
  | a :: t, i + 1 => by
    obtain ⟨h1, h2⟩ := flat_cut10 g hg t i
    have ha := hg a
    rw [List.flatMap_cons, List.take_succ_cons, List.drop_succ_cons, List.flatMap_cons, show (i + 1) * sz = sz + i * sz by rw [Nat.add_mul, Nat.one_mul, Nat.add_comm]]
    refine ⟨?_, ?_⟩
    · rw [List.take_append, ha, Nat.add_sub_cancel_left, h1, List.take_of_length_le (by omega)]
    · rw [List.drop_append, ha, Nat.add_sub_cancel_left, h2, List.drop_of_length_le (by omega), List.nil_append]
theorem ecells_take (Z : List Ed) (i : Nat) : (ecells Z).take (i * 3) = ecells (Z.take i) := (flat_cut10 ecell (fun _ => rfl) Z i).1
theorem ecells_drop (Z : List Ed) (i : Nat) : (ecells Z).drop (i * 3) = ecells (Z.drop i) := (flat_cut10 ecell (fun _ => rfl) Z i).2
set_option maxRecDepth 100000 in
set_option maxHeartbeats 4000000 in
theorem addE_any {w : World} {c : Nat} {A : Option Addr} {Z : List Ed} (x : Ed) (h : Rd w w.heap.size 3 A Z.length c (ecells Z)) (hl : Z.length ≤ 20000) :
    Calls Tryz.prog 27 #[.slice A Z.length c, .agg (ecell x).toArray] w fun e w' => (∃ A' c' Z', e = .returned (.slice A' (Z'.length) c') ∧ Rd w' w'.heap.size 3 A' Z'.length c' (ecells Z') ∧ Z'.length ≤ Z.length + 1 ∧ ∀ S, IsE Z S → IsE Z' (S ++ [x])) ∧ Below w.heap.size w w' := by
  obtain ⟨i0, hi0, hz0, hz1, hz2⟩ := info_parts info_E
  have kb := fun (a : Ed) W => below_any a x W
  obtain ⟨x1, x2, x3⟩ := x
  simp only [ecell] at *
  have hb0 := bnewZ w (.cells #[.int .i64 x1, .int .i64 x2, .bool x3] 39)
  have d0 := Bk.new w #[.int .i64 x1, .int .i64 x2, .bool x3] 39
  replace h := h.up hb0
  go_enter Tryz.func27, Tryz.ntmps27
  go_upto_region 1 with (fail)
  generalize w.alloc (.cells #[.int .i64 x1, .int .i64 x2, .bool x3] 39) = w1 at *
  generalize hgx : w.heap.size = gx at *
  go_wp2_with fail
  go_loopw [5] (fun vi wx => ∃ i : Nat, vi = .int .i64 i ∧ i ≤ Z.length ∧ (∀ y ∈ Z.take i, cfE y (x1, x2, x3) < 0) ∧ Below w1.heap.size w1 wx) (fun vi _ => Z.length - (intOf vi).toNat)
  case atStart => exact ⟨0, rfl, Nat.zero_le _, fun y hy => (by simp at hy), Below.refl _ _⟩
  case round =>
    obtain ⟨i, rfl, hi, hlt, hbx⟩ := hrel
    have dx := d0.below hbx
    have q0 : wr.cell? ⟨gx, 0, none⟩ = some (.int .i64 x1) := dx.cell 0
    have q1 : wr.cell? ⟨gx, 1, none⟩ = some (.int .i64 x2) := dx.cell 1
    have q2 : wr.cell? ⟨gx, 2, none⟩ = some (.bool x3) := dx.cell 2
    have ql := dx.lt
    by_cases hil : i < Z.length
    · have hdi : (i : Int) < (Z.length : Int) := by omega
      obtain ⟨e, he⟩ : ∃ e, Z[i]? = some e := ⟨_, List.getElem?_eq_getElem hil⟩
      obtain ⟨b, o, rfl, _, g0, g1, g2⟩ := edge_at (h.up hbx) he rfl
      have kb := kb e
      have hlg := World.block_lt_of_cell? _ _ g0
      dsimp only at hlg
      obtain ⟨r, hr⟩ : ∃ r, decide (cfE e (x1, x2, x3) < 0) = r := ⟨_, rfl⟩
      rw [hr] at kb
      obtain ⟨e1, e2, e3⟩ := e
      simp only at g0 g1 g2
      simp only at kb
      go_upto_region 2 with (fail)
      go_region_held3 (fun W => W.cell? ⟨b, o + i * 3, none⟩ = some (.int .i64 e1) ∧ W.cell? ⟨b, o + i * 3 + 1, none⟩ = some (.int .i64 e2) ∧ W.cell? ⟨b, o + i * 3 + 2, none⟩ = some (.bool e3) ∧ W.cell? ⟨gx, 0, none⟩ = some (.int .i64 x1) ∧ W.cell? ⟨gx, 1, none⟩ = some (.int .i64 x2) ∧ W.cell? ⟨gx, 2, none⟩ = some (.bool x3))
        (first | go_keep | exact ⟨cell_unde g0 (bthenZ (Below.refl _ _).drew (Nat.le_refl _) hb8), cell_unde g1 (bthenZ (Below.refl _ _).drew (Nat.le_refl _) hb8), cell_unde g2 (bthenZ (Below.refl _ _).drew (Nat.le_refl _) hb8), cell_unde q0 (bthenZ (Below.refl _ _).drew (Nat.le_refl _) hb8), cell_unde q1 (bthenZ (Below.refl _ _).drew (Nat.le_refl _) hb8), cell_unde q2 (bthenZ (Below.refl _ _).drew (Nat.le_refl _) hb8)⟩ | fail)
        ((go_at_call 56; refine (kb _).mono ?_; rintro e w8 ⟨rfl, hb8⟩))
      replace hr := Lib.hid hr
      replace he := Lib.hid he
      have hb2 : Below w1.heap.size w1 w8 := (hbx.drew).trans (hb8.mono hbx.drew.size)
      clear hbx hb8 g0 g1 g2 q0 q1 q2 ql dx hlg kb
      cases r with
      | true =>
        go_wp2_with fail
        exact ⟨⟨i + 1, by go_num, by omega, fun y hy => (by rw [List.take_add_one, he.out] at hy; rcases List.mem_append.1 hy with hy | hy; exact hlt y hy; simp at hy; subst hy; exact of_decide_eq_true hr.out), hb2⟩, by simp [intOf]; omega⟩
      | false =>
        generalize w8 = wa at *
        have g0 : wa.cell? ⟨b, o + i * 3, none⟩ = some (.int .i64 e1) := by obtain ⟨b9, o9, e9, _, p0, _, _⟩ := edge_at (h.up hb2) he.out rfl; injection e9 with e9; injection e9 with e91 e92 _; subst e91; subst e92; exact p0
        have g1 : wa.cell? ⟨b, o + i * 3 + 1, none⟩ = some (.int .i64 e2) := by obtain ⟨b9, o9, e9, _, _, p1, _⟩ := edge_at (h.up hb2) he.out rfl; injection e9 with e9; injection e9 with e91 e92 _; subst e91; subst e92; exact p1
        have g2 : wa.cell? ⟨b, o + i * 3 + 2, none⟩ = some (.bool e3) := by obtain ⟨b9, o9, e9, _, _, _, p2⟩ := edge_at (h.up hb2) he.out rfl; injection e9 with e9; injection e9 with e91 e92 _; subst e91; subst e92; exact p2
        have dx := d0.below hb2
        have q0 : wa.cell? ⟨gx, 0, none⟩ = some (.int .i64 x1) := dx.cell 0
        have q1 : wa.cell? ⟨gx, 1, none⟩ = some (.int .i64 x2) := dx.cell 1
        have q2 : wa.cell? ⟨gx, 2, none⟩ = some (.bool x3) := dx.cell 2
        have ql := dx.lt
        have hlg := World.block_lt_of_cell? _ _ g0
        dsimp only at hlg
        by_cases hx2 : x2 < 0
        · go_wp2_with fail
          go_quiet (fail)
          have hb3 := bthen hb2 hb2.size (bdrew wa nq)
          clear q0 q1 q2 ql dx hb2 g0 g1 g2
          generalize wa.drewN nq = wb at *
          have dx := d0.below hb3
          have q0 : wb.cell? ⟨gx, 0, none⟩ = some (.int .i64 x1) := dx.cell 0
          have q1 : wb.cell? ⟨gx, 1, none⟩ = some (.int .i64 x2) := dx.cell 1
          have q2 : wb.cell? ⟨gx, 2, none⟩ = some (.bool x3) := dx.cell 2
          have ql := dx.lt
          have hz := h.up hb3
          go_wp2_with fail
          go_ret
          exact ⟨⟨_, c, Z, rfl, hz, by omega, fun S hS => hS.same (.inl hx2)⟩, by have q := bthen (B := gx) hb0 (by have := hb0.size; omega) hb3; first | exact q | (rw [hgx]; exact q)⟩
        · by_cases heq : (e1, e2, e3) = (x1, x2, x3)
          · cases heq
            go_wp2_with fail
            go_quiet (fail)
            have hb3 := bthen hb2 hb2.size (bdrew wa nq)
            clear q0 q1 q2 ql dx hb2 g0 g1 g2
            generalize wa.drewN nq = wb at *
            have dx := d0.below hb3
            have q0 : wb.cell? ⟨gx, 0, none⟩ = some (.int .i64 x1) := dx.cell 0
            have q1 : wb.cell? ⟨gx, 1, none⟩ = some (.int .i64 x2) := dx.cell 1
            have q2 : wb.cell? ⟨gx, 2, none⟩ = some (.bool x3) := dx.cell 2
            have ql := dx.lt
            have hz := h.up hb3
            go_wp2_with fail
            go_ret
            exact ⟨⟨_, c, Z, rfl, hz, by omega, fun S hS => hS.same (.inr (List.mem_of_getElem? he.out))⟩, by have q := bthen (B := gx) hb0 (by have := hb0.size; omega) hb3; first | exact q | (rw [hgx]; exact q)⟩
          · have hnx : Hid (∀ y, Z[i]? = some y → ¬ cfE y (x1, x2, x3) < 0 ∧ y ≠ (x1, x2, x3)) := Lib.hid fun y hy => by rw [he.out] at hy; cases hy; exact ⟨of_decide_eq_false hr.out, heq⟩
            by_cases c1 : e1 = x1
            · obtain rfl : x1 = e1 := c1.symm
              by_cases c2 : e2 = x2
              · obtain rfl : x2 = e2 := c2.symm
                have c3 : ¬ e3 = x3 := fun q => heq (by rw [q])
                clear heq
                go_wp2_with fail
                go_quiet (fail)
                have hb3 := bthen hb2 hb2.size (bdrew wa nq)
                clear q0 q1 q2 ql dx hb2 g0 g1 g2
                generalize wa.drewN nq = wb at *
                have dx := d0.below hb3
                have q0 : wb.cell? ⟨gx, 0, none⟩ = some (.int .i64 x1) := dx.cell 0
                have q1 : wb.cell? ⟨gx, 1, none⟩ = some (.int .i64 x2) := dx.cell 1
                have q2 : wb.cell? ⟨gx, 2, none⟩ = some (.bool x3) := dx.cell 2
                have ql := dx.lt
                clear hil hdi hlg he hr
                generalize hA : (some (⟨b, o, none⟩ : Addr)) = A at *
                have hz := h.up hb3
                have hic : i ≤ c := Nat.le_trans hi hz.cap
                go_upto_region 7 with (fail)
                have hsrc := (hz.pre (k := i) hi).src (P := Tryz.prog) Tryz.underlying31 (fun u hu => ecells_one Z u (List.mem_of_mem_take hu))
                rw [ecells_take] at hsrc
                go_upto_region 8 with (at_builtin; go_loud (refine wpList_append_src _ rfl (.tmp 39) (.tmp 42) 31 31 rfl wb.heap.size 39 i0 (.agg #[.int .i64 0, .int .i64 0, .bool false]) 3 24 Tryz.underlying31 hi0 hz0 hz1 hz2 rfl (by decide) (.slice none 0 0) 0 [] rfl (World.ownsRow_nil _ _ _ _) _ i (ecells (Z.take i)) rfl hsrc (by simp only [maxLen]; omega) (by omega) (Nat.le_refl _) ?_; intro v9 w8 hown8 hg8 hat8))
                rw [Nat.zero_add, List.nil_append] at hown8
                have hb8 := below_of_own (Below.refl _ wb) hg8 (World.ownsRow_nil wb wb.heap.size 39 3) (Nat.le_refl _) (Nat.le_refl _)
                have hw8 := hb8.size
                have dy := dx.below hb8
                have z0 : w8.cell? ⟨gx, 0, none⟩ = some (.int .i64 x1) := dy.cell 0
                have z1 : w8.cell? ⟨gx, 1, none⟩ = some (.int .i64 x2) := dy.cell 1
                have z2 : w8.cell? ⟨gx, 2, none⟩ = some (.bool x3) := dy.cell 2
                have zl := dy.lt
                have hz8 := hz.below hb8
                clear q0 q1 q2 ql dx hsrc hz hg8 hat8
                obtain ⟨A8, c8, rfl, _⟩ := Rd.own hown8
                go_upto_region 9 with (at_builtin; go_loud (refine wpList_append_src _ rfl (.tmp 44) (.tmp 46) 31 31 rfl wb.heap.size 39 i0 (.agg #[.int .i64 0, .int .i64 0, .bool false]) 3 24 Tryz.underlying31 hi0 hz0 hz1 hz2 rfl (by decide) (.slice A8 i c8) i (ecells (Z.take i)) rfl (hown8.alloc _) _ 1 [.int .i64 x1, .int .i64 x2, .bool x3] rfl (Src.ofSlice _ Tryz.underlying31 _ 1 1 _ rfl (cells_new _ _ _ _ _) (ecell_one (x1, x2, x3))) (by simp only [maxLen]; omega) (by omega) (size_alloc hw8) ?_; intro v7 w7 hown7 hg7 hat7))
                have hb7 := below_of_own (hb8.alloc hw8 _) hg7 (hown8.alloc _) (size_alloc hw8) (Nat.le_refl _)
                have hw7 := hb7.size
                have hz7 := (h.up hb3).below hb7
                clear z0 z1 z2 zl dy hz8 hg7 hat7 hown8 hw8 hb8
                obtain ⟨A7, c7, rfl, _⟩ := Rd.own hown7
                have hcut := (hz7.cut hi).src (P := Tryz.prog) Tryz.underlying31 (fun u hu => ecells_one Z u (List.mem_of_mem_drop hu))
                rw [ecells_drop] at hcut
                have hcap := hz7.cap
                go_wp2_with (at_builtin; go_loud (refine wpList_append_src _ rfl (.tmp 48) (.tmp 51) 31 31 rfl wb.heap.size 39 i0 (.agg #[.int .i64 0, .int .i64 0, .bool false]) 3 24 Tryz.underlying31 hi0 hz0 hz1 hz2 rfl (by decide) (.slice A7 (i + 1) c7) (i + 1) (ecells (Z.take i) ++ [.int .i64 x1, .int .i64 x2, .bool x3]) rfl hown7 _ (Z.length - i) (ecells (Z.drop i)) rfl hcut (by simp only [maxLen]; omega) (by omega) hw7 ?_; intro v6 w6 hown6 hg6 hat6))
                all_goals
                  have hb6 := below_of_own hb7 hg6 hown7 hw7 (Nat.le_refl _)
                  obtain ⟨A6, c6, rfl, hR6⟩ := Rd.own hown6
                  have hlen : i + 1 + (Z.length - i) = (Z.take i ++ (x1, x2, x3) :: Z.drop i).length := by simp; omega
                  have hcel : ecells (Z.take i) ++ [.int .i64 x1, .int .i64 x2, .bool x3] ++ ecells (Z.drop i) = ecells (Z.take i ++ (x1, x2, x3) :: Z.drop i) := by simp [ecells, ecell]
                  rw [hcel, hlen] at hR6
                  rw [hlen]
                  go_ret
                  exact ⟨⟨A6, c6, _, rfl, hR6, by rw [← hlen]; omega, fun S hS => hS.put (x := (x1, x2, x3)) (by show 0 ≤ x2; omega) hlt fun y hy => ⟨by have := (hnx.out y hy).1; omega, (hnx.out y hy).2⟩⟩, by have q := bthen (B := gx) hb0 (by have := hb0.size; omega) (hb3.trans (hb6.mono hb3.size)); first | exact q | (rw [hgx]; exact q)⟩
              · clear heq
                go_wp2_with fail
                go_quiet (fail)
                have hb3 := bthen hb2 hb2.size (bdrew wa nq)
                clear q0 q1 q2 ql dx hb2 g0 g1 g2
                generalize wa.drewN nq = wb at *
                have dx := d0.below hb3
                have q0 : wb.cell? ⟨gx, 0, none⟩ = some (.int .i64 x1) := dx.cell 0
                have q1 : wb.cell? ⟨gx, 1, none⟩ = some (.int .i64 x2) := dx.cell 1
                have q2 : wb.cell? ⟨gx, 2, none⟩ = some (.bool x3) := dx.cell 2
                have ql := dx.lt
                clear hil hdi hlg he hr
                generalize hA : (some (⟨b, o, none⟩ : Addr)) = A at *
                have hz := h.up hb3
                have hic : i ≤ c := Nat.le_trans hi hz.cap
                go_upto_region 7 with (fail)
                have hsrc := (hz.pre (k := i) hi).src (P := Tryz.prog) Tryz.underlying31 (fun u hu => ecells_one Z u (List.mem_of_mem_take hu))
                rw [ecells_take] at hsrc
                go_upto_region 8 with (at_builtin; go_loud (refine wpList_append_src _ rfl (.tmp 39) (.tmp 42) 31 31 rfl wb.heap.size 39 i0 (.agg #[.int .i64 0, .int .i64 0, .bool false]) 3 24 Tryz.underlying31 hi0 hz0 hz1 hz2 rfl (by decide) (.slice none 0 0) 0 [] rfl (World.ownsRow_nil _ _ _ _) _ i (ecells (Z.take i)) rfl hsrc (by simp only [maxLen]; omega) (by omega) (Nat.le_refl _) ?_; intro v9 w8 hown8 hg8 hat8))
                rw [Nat.zero_add, List.nil_append] at hown8
                have hb8 := below_of_own (Below.refl _ wb) hg8 (World.ownsRow_nil wb wb.heap.size 39 3) (Nat.le_refl _) (Nat.le_refl _)
                have hw8 := hb8.size
                have dy := dx.below hb8
                have z0 : w8.cell? ⟨gx, 0, none⟩ = some (.int .i64 x1) := dy.cell 0
                have z1 : w8.cell? ⟨gx, 1, none⟩ = some (.int .i64 x2) := dy.cell 1
                have z2 : w8.cell? ⟨gx, 2, none⟩ = some (.bool x3) := dy.cell 2
                have zl := dy.lt
                have hz8 := hz.below hb8
                clear q0 q1 q2 ql dx hsrc hz hg8 hat8
                obtain ⟨A8, c8, rfl, _⟩ := Rd.own hown8
                go_upto_region 9 with (at_builtin; go_loud (refine wpList_append_src _ rfl (.tmp 44) (.tmp 46) 31 31 rfl wb.heap.size 39 i0 (.agg #[.int .i64 0, .int .i64 0, .bool false]) 3 24 Tryz.underlying31 hi0 hz0 hz1 hz2 rfl (by decide) (.slice A8 i c8) i (ecells (Z.take i)) rfl (hown8.alloc _) _ 1 [.int .i64 x1, .int .i64 x2, .bool x3] rfl (Src.ofSlice _ Tryz.underlying31 _ 1 1 _ rfl (cells_new _ _ _ _ _) (ecell_one (x1, x2, x3))) (by simp only [maxLen]; omega) (by omega) (size_alloc hw8) ?_; intro v7 w7 hown7 hg7 hat7))
                have hb7 := below_of_own (hb8.alloc hw8 _) hg7 (hown8.alloc _) (size_alloc hw8) (Nat.le_refl _)
                have hw7 := hb7.size
                have hz7 := (h.up hb3).below hb7
                clear z0 z1 z2 zl dy hz8 hg7 hat7 hown8 hw8 hb8
                obtain ⟨A7, c7, rfl, _⟩ := Rd.own hown7
                have hcut := (hz7.cut hi).src (P := Tryz.prog) Tryz.underlying31 (fun u hu => ecells_one Z u (List.mem_of_mem_drop hu))
                rw [ecells_drop] at hcut
                have hcap := hz7.cap
                go_wp2_with (at_builtin; go_loud (refine wpList_append_src _ rfl (.tmp 48) (.tmp 51) 31 31 rfl wb.heap.size 39 i0 (.agg #[.int .i64 0, .int .i64 0, .bool false]) 3 24 Tryz.underlying31 hi0 hz0 hz1 hz2 rfl (by decide) (.slice A7 (i + 1) c7) (i + 1) (ecells (Z.take i) ++ [.int .i64 x1, .int .i64 x2, .bool x3]) rfl hown7 _ (Z.length - i) (ecells (Z.drop i)) rfl hcut (by simp only [maxLen]; omega) (by omega) hw7 ?_; intro v6 w6 hown6 hg6 hat6))
                all_goals
                  have hb6 := below_of_own hb7 hg6 hown7 hw7 (Nat.le_refl _)
                  obtain ⟨A6, c6, rfl, hR6⟩ := Rd.own hown6
                  have hlen : i + 1 + (Z.length - i) = (Z.take i ++ (x1, x2, x3) :: Z.drop i).length := by simp; omega
                  have hcel : ecells (Z.take i) ++ [.int .i64 x1, .int .i64 x2, .bool x3] ++ ecells (Z.drop i) = ecells (Z.take i ++ (x1, x2, x3) :: Z.drop i) := by simp [ecells, ecell]
                  rw [hcel, hlen] at hR6
                  rw [hlen]
                  go_ret
                  exact ⟨⟨A6, c6, _, rfl, hR6, by rw [← hlen]; omega, fun S hS => hS.put (x := (x1, x2, x3)) (by show 0 ≤ x2; omega) hlt fun y hy => ⟨by have := (hnx.out y hy).1; omega, (hnx.out y hy).2⟩⟩, by have q := bthen (B := gx) hb0 (by have := hb0.size; omega) (hb3.trans (hb6.mono hb3.size)); first | exact q | (rw [hgx]; exact q)⟩
            · clear heq
              go_wp2_with fail
              go_quiet (fail)
              have hb3 := bthen hb2 hb2.size (bdrew wa nq)
              clear q0 q1 q2 ql dx hb2 g0 g1 g2
              generalize wa.drewN nq = wb at *
              have dx := d0.below hb3
              have q0 : wb.cell? ⟨gx, 0, none⟩ = some (.int .i64 x1) := dx.cell 0
              have q1 : wb.cell? ⟨gx, 1, none⟩ = some (.int .i64 x2) := dx.cell 1
              have q2 : wb.cell? ⟨gx, 2, none⟩ = some (.bool x3) := dx.cell 2
              have ql := dx.lt
              clear hil hdi hlg he hr
              generalize hA : (some (⟨b, o, none⟩ : Addr)) = A at *
              have hz := h.up hb3
              have hic : i ≤ c := Nat.le_trans hi hz.cap
              go_upto_region 7 with (fail)
              have hsrc := (hz.pre (k := i) hi).src (P := Tryz.prog) Tryz.underlying31 (fun u hu => ecells_one Z u (List.mem_of_mem_take hu))
              rw [ecells_take] at hsrc
              go_upto_region 8 with (at_builtin; go_loud (refine wpList_append_src _ rfl (.tmp 39) (.tmp 42) 31 31 rfl wb.heap.size 39 i0 (.agg #[.int .i64 0, .int .i64 0, .bool false]) 3 24 Tryz.underlying31 hi0 hz0 hz1 hz2 rfl (by decide) (.slice none 0 0) 0 [] rfl (World.ownsRow_nil _ _ _ _) _ i (ecells (Z.take i)) rfl hsrc (by simp only [maxLen]; omega) (by omega) (Nat.le_refl _) ?_; intro v9 w8 hown8 hg8 hat8))
              rw [Nat.zero_add, List.nil_append] at hown8
              have hb8 := below_of_own (Below.refl _ wb) hg8 (World.ownsRow_nil wb wb.heap.size 39 3) (Nat.le_refl _) (Nat.le_refl _)
              have hw8 := hb8.size
              have dy := dx.below hb8
              have z0 : w8.cell? ⟨gx, 0, none⟩ = some (.int .i64 x1) := dy.cell 0
              have z1 : w8.cell? ⟨gx, 1, none⟩ = some (.int .i64 x2) := dy.cell 1
              have z2 : w8.cell? ⟨gx, 2, none⟩ = some (.bool x3) := dy.cell 2
              have zl := dy.lt
              have hz8 := hz.below hb8
              clear q0 q1 q2 ql dx hsrc hz hg8 hat8
              obtain ⟨A8, c8, rfl, _⟩ := Rd.own hown8
              go_upto_region 9 with (at_builtin; go_loud (refine wpList_append_src _ rfl (.tmp 44) (.tmp 46) 31 31 rfl wb.heap.size 39 i0 (.agg #[.int .i64 0, .int .i64 0, .bool false]) 3 24 Tryz.underlying31 hi0 hz0 hz1 hz2 rfl (by decide) (.slice A8 i c8) i (ecells (Z.take i)) rfl (hown8.alloc _) _ 1 [.int .i64 x1, .int .i64 x2, .bool x3] rfl (Src.ofSlice _ Tryz.underlying31 _ 1 1 _ rfl (cells_new _ _ _ _ _) (ecell_one (x1, x2, x3))) (by simp only [maxLen]; omega) (by omega) (size_alloc hw8) ?_; intro v7 w7 hown7 hg7 hat7))
              have hb7 := below_of_own (hb8.alloc hw8 _) hg7 (hown8.alloc _) (size_alloc hw8) (Nat.le_refl _)
              have hw7 := hb7.size
              have hz7 := (h.up hb3).below hb7
              clear z0 z1 z2 zl dy hz8 hg7 hat7 hown8 hw8 hb8
              obtain ⟨A7, c7, rfl, _⟩ := Rd.own hown7
              have hcut := (hz7.cut hi).src (P := Tryz.prog) Tryz.underlying31 (fun u hu => ecells_one Z u (List.mem_of_mem_drop hu))
              rw [ecells_drop] at hcut
              have hcap := hz7.cap
              go_wp2_with (at_builtin; go_loud (refine wpList_append_src _ rfl (.tmp 48) (.tmp 51) 31 31 rfl wb.heap.size 39 i0 (.agg #[.int .i64 0, .int .i64 0, .bool false]) 3 24 Tryz.underlying31 hi0 hz0 hz1 hz2 rfl (by decide) (.slice A7 (i + 1) c7) (i + 1) (ecells (Z.take i) ++ [.int .i64 x1, .int .i64 x2, .bool x3]) rfl hown7 _ (Z.length - i) (ecells (Z.drop i)) rfl hcut (by simp only [maxLen]; omega) (by omega) hw7 ?_; intro v6 w6 hown6 hg6 hat6))
              all_goals
                have hb6 := below_of_own hb7 hg6 hown7 hw7 (Nat.le_refl _)
                obtain ⟨A6, c6, rfl, hR6⟩ := Rd.own hown6
                have hlen : i + 1 + (Z.length - i) = (Z.take i ++ (x1, x2, x3) :: Z.drop i).length := by simp; omega
                have hcel : ecells (Z.take i) ++ [.int .i64 x1, .int .i64 x2, .bool x3] ++ ecells (Z.drop i) = ecells (Z.take i ++ (x1, x2, x3) :: Z.drop i) := by simp [ecells, ecell]
                rw [hcel, hlen] at hR6
                rw [hlen]
                go_ret
                exact ⟨⟨A6, c6, _, rfl, hR6, by rw [← hlen]; omega, fun S hS => hS.put (x := (x1, x2, x3)) (by show 0 ≤ x2; omega) hlt fun y hy => ⟨by have := (hnx.out y hy).1; omega, (hnx.out y hy).2⟩⟩, by have q := bthen (B := gx) hb0 (by have := hb0.size; omega) (hb3.trans (hb6.mono hb3.size)); first | exact q | (rw [hgx]; exact q)⟩
    · have hdi : ¬ ((i : Int) < (Z.length : Int)) := by omega
      have hnx : Hid (∀ y, Z[i]? = some y → ¬ cfE y (x1, x2, x3) < 0 ∧ y ≠ (x1, x2, x3)) := Lib.hid fun y hy => by have := (List.getElem?_eq_some_iff.1 hy).1; omega
      by_cases hx2 : x2 < 0
      · go_wp2_with fail
        go_quiet (fail)
        have hb2 := bthen hbx hbx.size (bdrew wr nq)
        clear q0 q1 q2 ql dx hbx
        generalize wr.drewN nq = wa at *
        have dx := d0.below hb2
        have q0 : wa.cell? ⟨gx, 0, none⟩ = some (.int .i64 x1) := dx.cell 0
        have q1 : wa.cell? ⟨gx, 1, none⟩ = some (.int .i64 x2) := dx.cell 1
        have q2 : wa.cell? ⟨gx, 2, none⟩ = some (.bool x3) := dx.cell 2
        have ql := dx.lt
        go_wp2_with fail
        go_quiet (fail)
        have hb3 := bthen hb2 hb2.size (bdrew wa nq)
        clear q0 q1 q2 ql dx hb2
        generalize wa.drewN nq = wb at *
        have dx := d0.below hb3
        have q0 : wb.cell? ⟨gx, 0, none⟩ = some (.int .i64 x1) := dx.cell 0
        have q1 : wb.cell? ⟨gx, 1, none⟩ = some (.int .i64 x2) := dx.cell 1
        have q2 : wb.cell? ⟨gx, 2, none⟩ = some (.bool x3) := dx.cell 2
        have ql := dx.lt
        have hz := h.up hb3
        go_wp2_with fail
        go_ret
        exact ⟨⟨A, c, Z, rfl, hz, by omega, fun S hS => hS.same (.inl hx2)⟩, by have q := bthen (B := gx) hb0 (by have := hb0.size; omega) hb3; first | exact q | (rw [hgx]; exact q)⟩
      · go_wp2_with fail
        go_quiet (fail)
        have hb2 := bthen hbx hbx.size (bdrew wr nq)
        clear q0 q1 q2 ql dx hbx
        generalize wr.drewN nq = wa at *
        have dx := d0.below hb2
        have q0 : wa.cell? ⟨gx, 0, none⟩ = some (.int .i64 x1) := dx.cell 0
        have q1 : wa.cell? ⟨gx, 1, none⟩ = some (.int .i64 x2) := dx.cell 1
        have q2 : wa.cell? ⟨gx, 2, none⟩ = some (.bool x3) := dx.cell 2
        have ql := dx.lt
        go_wp2_with fail
        go_quiet (fail)
        have hb3 := bthen hb2 hb2.size (bdrew wa nq)
        clear q0 q1 q2 ql dx hb2
        generalize wa.drewN nq = wb at *
        have dx := d0.below hb3
        have q0 : wb.cell? ⟨gx, 0, none⟩ = some (.int .i64 x1) := dx.cell 0
        have q1 : wb.cell? ⟨gx, 1, none⟩ = some (.int .i64 x2) := dx.cell 1
        have q2 : wb.cell? ⟨gx, 2, none⟩ = some (.bool x3) := dx.cell 2
        have ql := dx.lt
        have hz := h.up hb3
        have hic : i ≤ c := Nat.le_trans hi hz.cap
        go_upto_region 7 with (fail)
        have hsrc := (hz.pre (k := i) hi).src (P := Tryz.prog) Tryz.underlying31 (fun u hu => ecells_one Z u (List.mem_of_mem_take hu))
        rw [ecells_take] at hsrc
        go_upto_region 8 with (at_builtin; go_loud (refine wpList_append_src _ rfl (.tmp 39) (.tmp 42) 31 31 rfl wb.heap.size 39 i0 (.agg #[.int .i64 0, .int .i64 0, .bool false]) 3 24 Tryz.underlying31 hi0 hz0 hz1 hz2 rfl (by decide) (.slice none 0 0) 0 [] rfl (World.ownsRow_nil _ _ _ _) _ i (ecells (Z.take i)) rfl hsrc (by simp only [maxLen]; omega) (by omega) (Nat.le_refl _) ?_; intro v9 w8 hown8 hg8 hat8))
        rw [Nat.zero_add, List.nil_append] at hown8
        have hb8 := below_of_own (Below.refl _ wb) hg8 (World.ownsRow_nil wb wb.heap.size 39 3) (Nat.le_refl _) (Nat.le_refl _)
        have hw8 := hb8.size
        have dy := dx.below hb8
        have z0 : w8.cell? ⟨gx, 0, none⟩ = some (.int .i64 x1) := dy.cell 0
        have z1 : w8.cell? ⟨gx, 1, none⟩ = some (.int .i64 x2) := dy.cell 1
        have z2 : w8.cell? ⟨gx, 2, none⟩ = some (.bool x3) := dy.cell 2
        have zl := dy.lt
        have hz8 := hz.below hb8
        clear q0 q1 q2 ql dx hsrc hz hg8 hat8
        obtain ⟨A8, c8, rfl, _⟩ := Rd.own hown8
        go_upto_region 9 with (at_builtin; go_loud (refine wpList_append_src _ rfl (.tmp 44) (.tmp 46) 31 31 rfl wb.heap.size 39 i0 (.agg #[.int .i64 0, .int .i64 0, .bool false]) 3 24 Tryz.underlying31 hi0 hz0 hz1 hz2 rfl (by decide) (.slice A8 i c8) i (ecells (Z.take i)) rfl (hown8.alloc _) _ 1 [.int .i64 x1, .int .i64 x2, .bool x3] rfl (Src.ofSlice _ Tryz.underlying31 _ 1 1 _ rfl (cells_new _ _ _ _ _) (ecell_one (x1, x2, x3))) (by simp only [maxLen]; omega) (by omega) (size_alloc hw8) ?_; intro v7 w7 hown7 hg7 hat7))
        have hb7 := below_of_own (hb8.alloc hw8 _) hg7 (hown8.alloc _) (size_alloc hw8) (Nat.le_refl _)
        have hw7 := hb7.size
        have hz7 := (h.up hb3).below hb7
        clear z0 z1 z2 zl dy hz8 hg7 hat7 hown8 hw8 hb8
        obtain ⟨A7, c7, rfl, _⟩ := Rd.own hown7
        have hcut := (hz7.cut hi).src (P := Tryz.prog) Tryz.underlying31 (fun u hu => ecells_one Z u (List.mem_of_mem_drop hu))
        rw [ecells_drop] at hcut
        have hcap := hz7.cap
        go_wp2_with (at_builtin; go_loud (refine wpList_append_src _ rfl (.tmp 48) (.tmp 51) 31 31 rfl wb.heap.size 39 i0 (.agg #[.int .i64 0, .int .i64 0, .bool false]) 3 24 Tryz.underlying31 hi0 hz0 hz1 hz2 rfl (by decide) (.slice A7 (i + 1) c7) (i + 1) (ecells (Z.take i) ++ [.int .i64 x1, .int .i64 x2, .bool x3]) rfl hown7 _ (Z.length - i) (ecells (Z.drop i)) rfl hcut (by simp only [maxLen]; omega) (by omega) hw7 ?_; intro v6 w6 hown6 hg6 hat6))
        all_goals
          have hb6 := below_of_own hb7 hg6 hown7 hw7 (Nat.le_refl _)
          obtain ⟨A6, c6, rfl, hR6⟩ := Rd.own hown6
          have hlen : i + 1 + (Z.length - i) = (Z.take i ++ (x1, x2, x3) :: Z.drop i).length := by simp; omega
          have hcel : ecells (Z.take i) ++ [.int .i64 x1, .int .i64 x2, .bool x3] ++ ecells (Z.drop i) = ecells (Z.take i ++ (x1, x2, x3) :: Z.drop i) := by simp [ecells, ecell]
          rw [hcel, hlen] at hR6
          rw [hlen]
          go_ret
          exact ⟨⟨A6, c6, _, rfl, hR6, by rw [← hlen]; omega, fun S hS => hS.put (x := (x1, x2, x3)) (by show 0 ≤ x2; omega) hlt fun y hy => ⟨by have := (hnx.out y hy).1; omega, (hnx.out y hy).2⟩⟩, by have q := bthen (B := gx) hb0 (by have := hb0.size; omega) (hb3.trans (hb6.mono hb3.size)); first | exact q | (rw [hgx]; exact q)⟩
end Go.Proofs.YtinfbimfiaegdaaGreat
