/- StrataOrder walked. Conditions: none. -/
import Derived.BigQuiet
import Derived.Deep.QuietTactic
import Derived.Deep.Cut
import Derived.Deep.DeepCutAuto
import Derived.IntWalk
import Derived.RegionTactic
import Derived.Test.YtinfbimfiaegdaaLvR
namespace Go.Proofs.Ytinfbimfiaegdaa
open Go.RowKit

set_option maxRecDepth 100000 in
set_option maxHeartbeats 1000000 in
theorem strataOrder_walk (x y : Int) (A : Option Addr) (c : Nat) (l : List Ed) (w : World) (hx : (Lit.int .u8 x).wf = true) (hy : (Lit.int .u8 y).wf = true) (h : Rd w w.heap.size 3 A l.length c (ecells l)) :
    Calls Try.prog 4 #[.int .u8 x, .slice A l.length c, .int .u8 y] w fun e w' => e = .returned (.bool true) ∧ Below w.heap.size w w' := by
  obtain ⟨n, rfl⟩ : ∃ n : Nat, x = (n : Int) := by
    simp [Lit.wf, IntKind.min, IntKind.max, IntKind.bits, IntKind.signed] at hx
    exact ⟨x.toNat, by omega⟩
  obtain ⟨by_, rfl⟩ : ∃ n : Nat, y = (n : Int) := by
    simp [Lit.wf, IntKind.min, IntKind.max, IntKind.bits, IntKind.signed] at hy
    exact ⟨y.toNat, by omega⟩
  have hn : n ≤ 255 := by
    simp [Lit.wf, IntKind.min, IntKind.max, IntKind.bits, IntKind.signed] at hx
    omega
  have hby : by_ ≤ 255 := by
    simp [Lit.wf, IntKind.min, IntKind.max, IntKind.bits, IntKind.signed] at hy
    omega
  have hmod : ((n : Int)).tmod 30 = ((n % 30 : Nat) : Int) := rfl
  obtain ⟨k, hk⟩ : ∃ k, n % 30 = k := ⟨_, rfl⟩
  have hk30 : k < 30 := by omega
  rw [hk] at hmod
  have ka := awake10_any w
  by_cases hl : 60 < l.length
  · have hl' : (l.length : Int) > 60 := by omega
    go_enter Try.func4, Try.ntmps4
    go_wp2_with (go_at_call 6; refine ka.mono ?_; rintro e w1 ⟨rfl, hb⟩)
    go_ret
    exact ⟨rfl, hb⟩
  by_cases hl0 : l.length = 0
  · have hl' : ¬ ((l.length : Int) > 60) := by omega
    have hl0' : (l.length : Int) = 0 := by omega
    rw [hl0]
    go_enter Try.func4, Try.ntmps4
    go_wp2_with (go_at_call 6; refine ka.mono ?_; rintro e w1 ⟨rfl, hb⟩)
    go_ret
    exact ⟨rfl, hb⟩
  · have hl' : ¬ ((l.length : Int) > 60) := by omega
    have hl0' : ((l.length : Int) == 0) = false := beq_eq_false_iff_ne.2 (by omega)
    obtain ⟨i0, hi0, hz0, hz1, hz2⟩ := info_parts info_edge
    go_enter Try.func4, Try.ntmps4
    go_upto_region 7 with (go_at_call 6; refine ka.mono ?_; rintro e w1 ⟨rfl, hb⟩)
    have h1 := h.up hb
    clear ka hmod hk hx hn h hy
    go_wp2_with fail
    go_loopw [9, 10] (fun vm vi wx => ∃ (i : Nat) (m : List Ed), vi = .int .i64 i ∧ i ≤ l.length ∧ m.length = i ∧ (∀ e ∈ m, e ∈ l) ∧ wx.ownsRow w1.heap.size 29 3 vm i (ecells m) ∧ Below w1.heap.size w1 wx) (fun _ vi _ => l.length - (intOf vi).toNat)
    case atStart => exact ⟨0, [], rfl, Nat.zero_le _, rfl, fun _ h => (by cases h), World.ownsRow_nil _ _ _ _, Below.refl _ _⟩
    case round =>
      obtain ⟨i, m, rfl, hi, hml, hsub, hO, hbx⟩ := hrel
      by_cases hil : i < l.length
      · have hdi : (i : Int) < (l.length : Int) := by omega
        have hqt : Int.tmod ((i : Int) + (by_ : Int)) (l.length : Int) = (((i + by_) % l.length : Nat) : Int) := rfl
        obtain ⟨q, hq⟩ : ∃ q, (i + by_) % l.length = q := ⟨_, rfl⟩
        have hql : q < l.length := by rw [← hq]; exact Nat.mod_lt _ (by omega)
        rw [hq] at hqt
        have hqi : (q : Int) < (l.length : Int) := by omega
        obtain ⟨e, he⟩ : ∃ e, l[q]? = some e := ⟨_, List.getElem?_eq_getElem hql⟩
        obtain ⟨b, o, rfl, hb, c0, c1, c2⟩ := rd_edge ((h1.below hbx).more hbx.size) he
        obtain ⟨A3, c3, rfl, _⟩ := Rd.own hO
        have hws := hbx.size
        have hsub2 : ∀ d ∈ m ++ [e], d ∈ l := fun d hd => by
          rcases List.mem_append.1 hd with hd | hd
          · exact hsub d hd
          · rw [List.mem_singleton.1 hd]; exact List.mem_of_getElem? he
        clear hq
        go_wp2_with (at_builtin; go_loud (refine wpList_append_src _ rfl (.tmp 37) (.tmp 48) 22 22 rfl w1.heap.size 29 i0 (.agg #[.int .i64 0, .int .i64 0, .bool false]) 3 24 Try.underlying22 hi0 hz0 hz1 hz2 rfl (by decide) (.slice A3 i c3) i (ecells m) rfl (hO.alloc _) _ 1 [.int .i64 e.1, .int .i64 e.2.1, .bool e.2.2] rfl (Src.ofSlice _ Try.underlying22 _ 1 1 _ rfl (cells_new _ _ _ _ _) (ecell_one e)) (by simp only [maxLen]; omega) (by omega) (size_alloc hws) ?_; intro v9 w8 hown8 hg8 hat8))
        have hO9 : w8.ownsRow w1.heap.size 29 3 v9 (i + 1) (ecells (m ++ [e])) := by
          rw [ecells_app]
          have : ecells [e] = ecell e := by simp [ecells]
          rw [this]
          exact hown8
        have hb9 := below_of_own (hbx.alloc hws _) hg8 (hO.alloc _) (size_alloc hws) (Nat.le_refl _)
        exact ⟨⟨i + 1, m ++ [e], by go_num, by omega, by simp [hml], hsub2, hO9, hb9⟩, by simp [intOf]; omega⟩
      · obtain rfl : i = l.length := by omega
        have hdi : ¬ (((l.length : Nat) : Int) < (l.length : Int)) := by omega
        go_wp2_with fail
        go_loopw [9, 11] (fun vm vi wx => ∃ (j : Nat) (m2 : List Ed), vi = .int .i64 ((l.length : Int) - 1 - j) ∧ j ≤ l.length ∧ m2.length = l.length + j ∧ (∀ e ∈ m2, e ∈ l) ∧ (∀ (i : Nat) e, l.length - j ≤ i → l[i]? = some e → e ∈ m2) ∧ wx.ownsRow w1.heap.size 29 3 vm (l.length + j) (ecells m2) ∧ Below w1.heap.size w1 wx) (fun _ vi _ => (intOf vi + 1).toNat)
        case atStart => exact ⟨0, m, by simp, Nat.zero_le _, hml, hsub, fun i e h1 h2 => by have := (List.getElem?_eq_some_iff.1 h2).1; omega, hO, hbx⟩
        case round =>
          obtain ⟨j, m2, rfl, hj, hml2, hsub3, hall, hO2, hbx2⟩ := hrel
          have hws := hbx2.size
          by_cases hjl : j < l.length
          · obtain ⟨p, hp⟩ : ∃ p : Nat, (l.length : Int) - 1 - j = (p : Int) := ⟨l.length - 1 - j, by omega⟩
            have hpl : p < l.length := by omega
            have hpi : (p : Int) < (l.length : Int) := by omega
            have hp0 : (p : Int) ≥ 0 := by omega
            obtain ⟨e, he⟩ : ∃ e, l[p]? = some e := ⟨_, List.getElem?_eq_getElem hpl⟩
            obtain ⟨b, o, rfl, hb, c0, c1, c2⟩ := rd_edge ((h1.below hbx2).more hbx2.size) he
            obtain ⟨A3, c3, rfl, _⟩ := Rd.own hO2
            have hsub4 : ∀ d ∈ m2 ++ [e], d ∈ l := fun d hd => by
              rcases List.mem_append.1 hd with hd | hd
              · exact hsub3 d hd
              · rw [List.mem_singleton.1 hd]; exact List.mem_of_getElem? he
            have hall2 : ∀ (i : Nat) d, l.length - (j + 1) ≤ i → l[i]? = some d → d ∈ m2 ++ [e] := fun i d h3 h4 => by
              by_cases hip : i = p
              · subst hip
                rw [he] at h4
                cases h4
                simp
              · exact List.mem_append_left _ (hall i d (by omega) h4)
            rw [hp]
            have hp := Lib.hid hp
            go_wp2_with (at_builtin; go_loud (refine wpList_append_src _ rfl (.tmp 57) (.tmp 62) 22 22 rfl w1.heap.size 29 i0 (.agg #[.int .i64 0, .int .i64 0, .bool false]) 3 24 Try.underlying22 hi0 hz0 hz1 hz2 rfl (by decide) (.slice A3 (l.length + j) c3) (l.length + j) (ecells m2) rfl (hO2.alloc _) _ 1 [.int .i64 e.1, .int .i64 e.2.1, .bool e.2.2] rfl (Src.ofSlice _ Try.underlying22 _ 1 1 _ rfl (cells_new _ _ _ _ _) (ecell_one e)) (by simp only [maxLen]; omega) (by omega) (size_alloc hws) ?_; intro v9 w8 hown8 hg8 hat8))
            have hO9 : w8.ownsRow w1.heap.size 29 3 v9 (l.length + (j + 1)) (ecells (m2 ++ [e])) := by
              rw [ecells_app]
              have : ecells [e] = ecell e := by simp [ecells]
              rw [this]
              exact hown8
            have hb9 := below_of_own (hbx2.alloc hws _) hg8 (hO2.alloc _) (size_alloc hws) (Nat.le_refl _)
            exact ⟨⟨j + 1, m2 ++ [e], by have := hp.out; (congr 1 <;> omega), by omega, by simp [hml2]; omega, hsub4, hall2, hO9, hb9⟩, by simp [intOf]⟩
          · obtain rfl : j = l.length := by omega
            have hng : ¬ ((l.length : Int) - 1 - (l.length : Nat)) ≥ 0 := by omega
            have hmem : ∀ e, e ∈ l ↔ e ∈ m2 := fun e => ⟨fun he => by
              obtain ⟨i, hi, rfl⟩ := List.getElem_of_mem he
              exact hall i _ (by omega) (List.getElem?_eq_getElem hi), hsub3 e⟩
            obtain ⟨A3, c3, rfl, hR3⟩ := Rd.own hO2
            rw [← hml2] at hR3 ⊢
            have hm120 : m2.length ≤ 120 := by omega
            clear hml2
            have h2 := h1.up hbx2
            have hb2 := bthenZ hb hb.size hbx2
            have kl := levels_res (n := k) h2 (by omega) (by omega)
            clear hall hsub3 hO2 hbx2 hO hbx hsub h1 hb
            go_upto_region 17 with (go_at_call 7; refine kl.mono ?_; rintro e w4 ⟨⟨A4, c4, v, s, rfl, hv, hans⟩, hb4⟩)
            have hb5 := bthenZ hb2 hb2.size hb4
            have kl2 := levels_res (n := k) (hR3.up hb4) (by omega) (by omega)
            clear kl hb2 h2 hR3
            go_upto_region 18 with (go_at_call 7; refine kl2.mono ?_; rintro e w5 ⟨⟨A5, c5, u, r, rfl, hu, hans2⟩, hb6⟩)
            obtain ⟨rfl, rfl⟩ := hans.same hans2 hmem
            have hv2 := hv.up hb6
            have hb7 := bthenZ hb5 hb5.size hb6
            have hvl : (v.length : Int) ≤ 9223372036854775807 := by have := hv.cap; have := hv.capm; simp only [maxLen] at this; omega
            clear kl2 hans hans2 hv hb4 hb5 hb6 hmem
            go_wp2_with fail
            go_loopw [16] (fun vi wx => ∃ i : Nat, vi = .int .i64 i ∧ i ≤ v.length ∧ Rd wx wx.heap.size 1 A4 v.length c4 (lvs v) ∧ Rd wx wx.heap.size 1 A5 v.length c5 (lvs v) ∧ Below w.heap.size w wx) (fun vi _ => v.length - (intOf vi).toNat)
            case atStart => exact ⟨0, rfl, Nat.zero_le _, hv2, hu, hb7⟩
            case round =>
              obtain ⟨i, rfl, hi2, hv3, hu3, hb8⟩ := hrel
              by_cases hiv : i < v.length
              · have hdi : (i : Int) < (v.length : Int) := by omega
                obtain ⟨b6, o6, rfl, _, hc6⟩ := hv3.at_ (by omega)
                obtain ⟨b7, o7, rfl, _, hc7⟩ := hu3.at_ (by omega)
                have d1 := hc6 i _ (lv_cell hiv)
                have d2 := hc7 i _ (lv_cell hiv)
                have hv4 := Lib.hid hv3.drew
                have hu4 := Lib.hid hu3.drew
                have hb9 := Lib.hid hb8.drew
                clear hc6 hc7 hv3 hu3 hv2 hu
                go_upto_region 23 with (fail)
                go_region
                go_wp2_with fail
                exact ⟨⟨i + 1, by go_num, by omega, hv4.out, hu4.out, hb9.out⟩, by simp [intOf]; omega⟩
              · obtain rfl : i = v.length := by omega
                have hdi : ¬ (((v.length : Nat) : Int) < (v.length : Int)) := by omega
                go_wp2_with fail
                go_ret
                exact ⟨rfl, hb8⟩
end Go.Proofs.Ytinfbimfiaegdaa
