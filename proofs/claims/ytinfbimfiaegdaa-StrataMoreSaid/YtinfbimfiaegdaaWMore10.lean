/- StrataMore walked. Conditions: none. -/
import Derived.BigQuiet
import Derived.Deep.QuietTactic
import Derived.Deep.Cut
import Derived.Deep.DeepCutAuto
import Derived.IntWalk
import Derived.RegionTactic
import Derived.Test.YtinfbimfiaegdaaLvR
namespace Go.Proofs.Ytinfbimfiaegdaa
open Go.RowKit

/-- What an edge more makes of the answer. -/
theorem LvIs.more {n : Nat} {l : List Ed} {x : Ed} {v u : List Int} {s r : Int} (hx : 0 ≤ x.1 ∧ x.1 < n ∧ 0 ≤ x.2.1 ∧ x.2.1 < n) (h : LvIs n l v s) (k : LvIs n (x :: l) u r) :
    (s ≠ 0 ∧ r = s) ∨ (s = 0 ∧ r = 33) ∨ (s = 0 ∧ r = 0 ∧ v.length = n ∧ u.length = n ∧ (∀ i, i < n → lvAt v i ≤ lvAt u i) ∧ (lvAt v (tt x) + rise x ≤ lvAt v (fr x) → ∀ i, i < n → lvAt v i = lvAt u i)) := by
  have hi : InR n (x :: l) ↔ InR n l := ⟨fun h e he => h e (List.mem_cons_of_mem _ he), fun h e he => by
    rcases List.mem_cons.1 he with rfl | he
    · exact hx
    · exact h e he⟩
  have hs : ∀ e ∈ l, e ∈ x :: l := fun e he => List.mem_cons_of_mem _ he
  cases h with
  | arg hl =>
    cases k with
    | arg => exact .inl ⟨by decide, rfl⟩
    | cyc hm => exact absurd (hi.1 hm) hl
    | ok hm => exact absurd (hi.1 hm) hl
  | cyc hl hc =>
    cases k with
    | arg hm => exact absurd (hi.2 hl) hm
    | cyc => exact .inl ⟨by decide, rfl⟩
    | ok _ _ _ hL => exact (Cyc.none (hc.sub hs) hL.1).elim
  | ok hl v hv hL =>
    cases k with
    | arg hm => exact absurd (hi.2 hl) hm
    | cyc => exact .inr (.inl ⟨rfl, rfl⟩)
    | ok _ u hu hM => exact .inr (.inr ⟨rfl, rfl, hv, hu, fun i hi => hL.up hs hM hi, fun hc i hi => hL.calm hM hc hi⟩)

set_option maxRecDepth 100000 in
set_option maxHeartbeats 1000000 in
theorem strataMore_walk (x : Int) (d : Ed) (A : Option Addr) (c : Nat) (l : List Ed) (w : World) (hx : (Lit.int .u8 x).wf = true) (h : Rd w w.heap.size 3 A l.length c (ecells l)) :
    Calls Try.prog 5 #[.int .u8 x, .slice A l.length c, .agg (ecell d).toArray] w fun e w' => e = .returned (.bool true) ∧ Below w.heap.size w w' := by
  obtain ⟨n, rfl⟩ : ∃ n : Nat, x = (n : Int) := by
    simp [Lit.wf, IntKind.min, IntKind.max, IntKind.bits, IntKind.signed] at hx
    exact ⟨x.toNat, by omega⟩
  have hn : n ≤ 255 := by
    simp [Lit.wf, IntKind.min, IntKind.max, IntKind.bits, IntKind.signed] at hx
    omega
  have hmod : ((n : Int)).tmod 30 = ((n % 30 : Nat) : Int) := rfl
  obtain ⟨k, hk⟩ : ∃ k, n % 30 = k := ⟨_, rfl⟩
  have hk30 : k < 30 := by omega
  rw [hk] at hmod
  obtain ⟨d1, d2, d3⟩ := d
  have hB0 := bnewZ w (.cells #[.int .i64 d1, .int .i64 d2, .bool d3] 29)
  have x0 := Bk.new w #[.int .i64 d1, .int .i64 d2, .bool d3] 29
  have h0 := h.up hB0
  simp only [ecell]
  obtain ⟨i0, hi0, hz0, hz1, hz2⟩ := info_parts info_edge
  go_enter Try.func5, Try.ntmps5
  go_upto_region 1 with (fail)
  generalize hw0 : w.heap.size = q0 at *
  generalize w.alloc (.cells #[.int .i64 d1, .int .i64 d2, .bool d3] 29) = w0 at *
  have ka := awake10_any w0
  go_upto_region 5 with (go_at_call 6; refine ka.mono ?_; rintro e w1 ⟨rfl, hb⟩)
  have x1 : Bk w1 q0 _ _ := (hb.block _ x0.lt).trans x0
  have hb1 : Below q0 w w1 := hB0.trans (hb.mono (by have := hB0.size; have := x0.lt; omega))
  have h1 := h0.up hb
  have y0 := x1.cell 0
  have y1 := x1.cell 1
  have y2 := x1.cell 2
  simp only [List.getElem?_toArray, List.getElem?_cons_zero, List.getElem?_cons_succ] at y0 y1 y2
  clear ka hmod hk hx hn h h0 hB0 x0 hb
  by_cases hl : (l.length : Int) > 60
  · go_wp2_with fail
    go_ret
    exact ⟨rfl, by first | exact hb1 | (rw [hw0]; exact hb1)⟩
  by_cases c1 : d1 < 0
  · go_wp2_with fail
    go_ret
    exact ⟨rfl, by first | exact hb1 | (rw [hw0]; exact hb1)⟩
  by_cases c2 : (k : Int) ≤ d1
  · go_wp2_with fail
    go_ret
    exact ⟨rfl, by first | exact hb1 | (rw [hw0]; exact hb1)⟩
  by_cases c3 : d2 < 0
  · go_wp2_with fail
    go_ret
    exact ⟨rfl, by first | exact hb1 | (rw [hw0]; exact hb1)⟩
  by_cases c4 : (k : Int) ≤ d2
  · go_wp2_with fail
    go_ret
    exact ⟨rfl, by first | exact hb1 | (rw [hw0]; exact hb1)⟩
  have kl := levels_res (n := k) h1 (by omega) (by omega)
  go_upto_region 8 with (go_at_call 7; refine kl.mono ?_; rintro e w4 ⟨⟨A4, c4', v, s, rfl, hv, hans⟩, hb4⟩)
  have x4 : Bk w4 q0 _ _ := (hb4.block _ x1.lt).trans x1
  have h4 := h1.up hb4
  have hwq : q0 ≤ w1.heap.size := by have := x1.lt; omega
  have hb5 : Below q0 w w4 := hb1.trans (hb4.mono hwq)
  clear kl hb1 h1 x1 y0 y1 y2 hb4
  have y0 := x4.cell 0
  have y1 := x4.cell 1
  have y2 := x4.cell 2
  simp only [List.getElem?_toArray, List.getElem?_cons_zero, List.getElem?_cons_succ] at y0 y1 y2
  -- the edge more, and the edges
  go_upto_region 10 with (at_builtin; go_loud (refine wpList_append_src _ rfl (.tmp 53) (.tmp 55) 22 22 rfl w4.heap.size 29 i0 (.agg #[.int .i64 0, .int .i64 0, .bool false]) 3 24 Try.underlying22 hi0 hz0 hz1 hz2 rfl (by decide) (.slice none 0 0) 0 [] rfl (World.ownsRow_nil _ _ _ _) _ 1 [.int .i64 d1, .int .i64 d2, .bool d3] rfl (Src.ofSlice _ Try.underlying22 _ 1 1 _ rfl (cells_new _ _ _ _ _) (ecell_one (d1, d2, d3))) (by simp only [maxLen]; omega) (by omega) (by simp) ?_; intro v5 w5 hown5 hg5 hat5))
  have hb45 : Below w4.heap.size w4 w5 := below_of_own (v := .slice none 0 0) (bnewZ w4 _) hg5 (World.ownsRow_nil _ w4.heap.size 29 3) (by simp) (Nat.le_refl _)
  obtain ⟨A5, c5, rfl, _⟩ := Rd.own hown5
  have h5 := h4.up hb45
  have hsrc := Rd.src (P := Try.prog) Try.underlying22 h5 (ecells_one l)
  clear hg5 hat5
  go_upto_region 11 with (at_builtin; go_loud (refine wpList_append_src _ rfl (.tmp 57) (.tmp 58) 22 22 rfl w4.heap.size 29 i0 (.agg #[.int .i64 0, .int .i64 0, .bool false]) 3 24 Try.underlying22 hi0 hz0 hz1 hz2 rfl (by decide) _ (0 + 1) _ rfl hown5 _ l.length (ecells l) rfl hsrc (by simp only [maxLen]; omega) (by omega) hb45.size ?_; intro v6 w6 hown6 hg6 hat6))
  have hb46 := below_of_own hb45 hg6 hown5 hb45.size (Nat.le_refl _)
  obtain ⟨A6, c6, rfl, hR6⟩ := Rd.own hown6
  have e6 : 0 + 1 + l.length = ((d1, d2, d3) :: l).length := by rw [List.length_cons]; omega
  have hR7 : Rd w6 w6.heap.size 3 A6 ((d1, d2, d3) :: l).length c6 (ecells ((d1, d2, d3) :: l)) := by
    rw [← e6]
    exact hR6
  rw [e6]
  have kl2 := levels_res (n := k) hR7 (by simp; omega) (by omega)
  obtain ⟨m, hm⟩ : ∃ m, (d1, d2, d3) :: l = m := ⟨_, rfl⟩
  rw [hm] at kl2 ⊢
  have hm := Lib.hid hm
  have hv6 := hv.up hb46
  have x6 : Bk w6 q0 _ _ := (hb46.block _ (by have := x4.lt; exact this)).trans x4
  have hb56 : Below q0 w w6 := hb5.trans (hb46.mono (by have := x4.lt; omega))
  clear hR6 hR7 hown6 hown5 hsrc h5 h4 hg6 hat6 hb45 hv x4 hb5 y0 y1 y2 e6
  go_upto_region 12 with (go_at_call 7; refine kl2.mono ?_; rintro e w7 ⟨⟨A7, c7, u, r, rfl, hu, hans2⟩, hb7⟩)
  have hm2 := hm.out
  subst hm2
  have hres := hans.more (x := (d1, d2, d3)) (by show 0 ≤ d1 ∧ d1 < (k : Int) ∧ 0 ≤ d2 ∧ d2 < (k : Int); omega) hans2
  have hv7 := hv6.up hb7
  have x7 : Bk w7 q0 _ _ := (hb7.block _ x6.lt).trans x6
  have hb8 : Below q0 w w7 := hb56.trans (hb7.mono (by have := x6.lt; omega))
  clear hans hans2 kl2 hm hv6 x6 hb56 hb7 hb46
  rcases hres with ⟨h0, rfl⟩ | ⟨rfl, rfl⟩ | ⟨rfl, rfl, hvl, hul, hle, hcalm⟩
  · have h0' : (r != 0) = true := by simpa using h0
    go_wp2_with fail
    go_ret
    exact ⟨rfl, by first | exact hb8 | (rw [hw0]; exact hb8)⟩
  · go_wp2_with fail
    go_ret
    exact ⟨rfl, by first | exact hb8 | (rw [hw0]; exact hb8)⟩
  · obtain ⟨f, rfl⟩ : ∃ f : Nat, d1 = (f : Int) := ⟨d1.toNat, by omega⟩
    obtain ⟨t, rfl⟩ : ∃ t : Nat, d2 = (t : Int) := ⟨d2.toNat, by omega⟩
    have hfk : f < k := by omega
    have htk : t < k := by omega
    have hfi : (f : Int) < (k : Int) := by omega
    have hti : (t : Int) < (k : Int) := by omega
    rw [hvl] at hv7
    rw [hul] at hu
    rw [hvl, hul]
    obtain ⟨b5, o5, e5, _, hc5⟩ := hv7.at_ (by omega)
    have v1 := hc5 t _ (lv_cell (by omega))
    have v2 := hc5 f _ (lv_cell (by omega))
    have y0 := x7.cell 0
    have y1 := x7.cell 1
    have y2 := x7.cell 2
    simp only [List.getElem?_toArray, List.getElem?_cons_zero, List.getElem?_cons_succ] at y0 y1 y2
    subst e5
    have hcalm : lvAt v t + rise ((f : Int), (t : Int), d3) ≤ lvAt v f → ∀ i, i < k → lvAt v i = lvAt u i := hcalm
    obtain ⟨a, ha⟩ : ∃ a, lvAt v t = a := ⟨_, rfl⟩
    obtain ⟨z, hz⟩ : ∃ z, lvAt v f = z := ⟨_, rfl⟩
    rw [ha] at v1 hcalm
    rw [hz] at v2 hcalm
    have hfin : ∀ cb : Bool, (cb = true → ∀ i, i < k → lvAt v i = lvAt u i) → Hid (∀ i, i < k → lvAt v i ≤ lvAt u i ∧ (cb = true → lvAt v i = lvAt u i)) := fun cb h => Lib.hid fun i hi => ⟨hle i hi, fun hc => h hc i hi⟩
    clear hc5 ha hz x7
    have hv8 : Rd w7.drew w7.drew.heap.size 1 _ _ _ _ := hv7.drew
    have hu8 : Rd w7.drew w7.drew.heap.size 1 _ _ _ _ := hu.drew
    have hb9 := hb8.drew
    have hres : (d3 = false ∧ z ≥ a ∧ Hid (∀ i, i < k → lvAt v i ≤ lvAt u i ∧ (true = true → lvAt v i = lvAt u i))) ∨ (d3 = false ∧ ¬ z ≥ a ∧ Hid (∀ i, i < k → lvAt v i ≤ lvAt u i ∧ (false = true → lvAt v i = lvAt u i))) ∨
        (d3 = true ∧ z > a ∧ Hid (∀ i, i < k → lvAt v i ≤ lvAt u i ∧ (true = true → lvAt v i = lvAt u i))) ∨ (d3 = true ∧ ¬ z > a ∧ Hid (∀ i, i < k → lvAt v i ≤ lvAt u i ∧ (false = true → lvAt v i = lvAt u i))) := by
      cases d3 with
      | false =>
        by_cases hza : z ≥ a
        · exact .inl ⟨rfl, hza, hfin true fun _ => hcalm (by show a + 0 ≤ z; omega)⟩
        · exact .inr (.inl ⟨rfl, hza, hfin false fun h => (by cases h)⟩)
      | true =>
        by_cases hza : z > a
        · exact .inr (.inr (.inl ⟨rfl, hza, hfin true fun _ => hcalm (by show a + 1 ≤ z; omega)⟩))
        · exact .inr (.inr (.inr ⟨rfl, hza, hfin false fun h => (by cases h)⟩))
    clear hcalm hle hfin hv7 hu hb8
    rcases hres with ⟨rfl, hza, hh⟩ | ⟨rfl, hza, hh⟩ | ⟨rfl, hza, hh⟩ | ⟨rfl, hza, hh⟩
    · go_upto_region 16 with (fail)
      go_region
      generalize w7.drew = w8 at *
      clear v1 v2 y0 y1 y2 hza
      go_wp2_with fail
      go_loopw [15] (fun vi wx => ∃ i : Nat, vi = .int .i64 i ∧ i ≤ k ∧ Rd wx wx.heap.size 1 (some ⟨b5, o5, none⟩) k c4' (lvs v) ∧ Rd wx wx.heap.size 1 A7 k c7 (lvs u) ∧ Below q0 w wx) (fun vi _ => k - (intOf vi).toNat)
      case atStart => exact ⟨0, rfl, Nat.zero_le _, hv8, hu8, hb9⟩
      case round =>
        obtain ⟨i, rfl, hi2, hv3, hu3, hb8⟩ := hrel
        by_cases hik : i < k
        · have hdi : (i : Int) < (k : Int) := by omega
          obtain ⟨b6, o6, e6, _, hc6⟩ := hv3.at_ (by omega)
          injection e6 with e6
          injection e6 with e6 e7 _
          subst e6 e7
          obtain ⟨b7, o7, rfl, _, hc7⟩ := hu3.at_ (by omega)
          have d1' := hc6 i _ (lv_cell (by omega))
          have d2' := hc7 i _ (lv_cell (by omega))
          obtain ⟨g1, g2⟩ := hh.out i hik
          have hv4 := Lib.hid hv3.drew
          have hu4 := Lib.hid hu3.drew
          have hb9 := Lib.hid hb8.drew
          obtain ⟨pa, hpa⟩ : ∃ pa, lvAt v i = pa := ⟨_, rfl⟩
          obtain ⟨pb, hpb⟩ : ∃ pb, lvAt u i = pb := ⟨_, rfl⟩
          rw [hpa] at g1 g2 d1'
          rw [hpb] at g1 g2 d2'
          have g3 : ¬ (pa > pb) := by omega
          clear hpa hpb hc6 hc7 hv3 hu3
          have g4 := g2 trivial
          subst g4
          clear g2 g1
          go_upto_region 20 with (fail)
          go_region
          go_wp2_with fail
          exact ⟨⟨i + 1, by go_num, by omega, hv4.out, hu4.out, hb9.out⟩, by simp [intOf]; omega⟩
        · obtain rfl : i = k := by omega
          have hdi : ¬ (((i : Nat) : Int) < (i : Int)) := by omega
          go_wp2_with fail
          go_ret
          exact ⟨rfl, by first | exact hb8 | (rw [hw0]; exact hb8)⟩
    · go_upto_region 16 with (fail)
      go_region
      generalize w7.drew = w8 at *
      clear v1 v2 y0 y1 y2 hza
      go_wp2_with fail
      go_loopw [15] (fun vi wx => ∃ i : Nat, vi = .int .i64 i ∧ i ≤ k ∧ Rd wx wx.heap.size 1 (some ⟨b5, o5, none⟩) k c4' (lvs v) ∧ Rd wx wx.heap.size 1 A7 k c7 (lvs u) ∧ Below q0 w wx) (fun vi _ => k - (intOf vi).toNat)
      case atStart => exact ⟨0, rfl, Nat.zero_le _, hv8, hu8, hb9⟩
      case round =>
        obtain ⟨i, rfl, hi2, hv3, hu3, hb8⟩ := hrel
        by_cases hik : i < k
        · have hdi : (i : Int) < (k : Int) := by omega
          obtain ⟨b6, o6, e6, _, hc6⟩ := hv3.at_ (by omega)
          injection e6 with e6
          injection e6 with e6 e7 _
          subst e6 e7
          obtain ⟨b7, o7, rfl, _, hc7⟩ := hu3.at_ (by omega)
          have d1' := hc6 i _ (lv_cell (by omega))
          have d2' := hc7 i _ (lv_cell (by omega))
          obtain ⟨g1, g2⟩ := hh.out i hik
          have hv4 := Lib.hid hv3.drew
          have hu4 := Lib.hid hu3.drew
          have hb9 := Lib.hid hb8.drew
          obtain ⟨pa, hpa⟩ : ∃ pa, lvAt v i = pa := ⟨_, rfl⟩
          obtain ⟨pb, hpb⟩ : ∃ pb, lvAt u i = pb := ⟨_, rfl⟩
          rw [hpa] at g1 g2 d1'
          rw [hpb] at g1 g2 d2'
          have g3 : ¬ (pa > pb) := by omega
          clear hpa hpb hc6 hc7 hv3 hu3
          clear g2 g1
          go_upto_region 20 with (fail)
          go_region
          go_wp2_with fail
          exact ⟨⟨i + 1, by go_num, by omega, hv4.out, hu4.out, hb9.out⟩, by simp [intOf]; omega⟩
        · obtain rfl : i = k := by omega
          have hdi : ¬ (((i : Nat) : Int) < (i : Int)) := by omega
          go_wp2_with fail
          go_ret
          exact ⟨rfl, by first | exact hb8 | (rw [hw0]; exact hb8)⟩
    · go_upto_region 16 with (fail)
      go_region
      generalize w7.drew = w8 at *
      clear v1 v2 y0 y1 y2 hza
      go_wp2_with fail
      go_loopw [15] (fun vi wx => ∃ i : Nat, vi = .int .i64 i ∧ i ≤ k ∧ Rd wx wx.heap.size 1 (some ⟨b5, o5, none⟩) k c4' (lvs v) ∧ Rd wx wx.heap.size 1 A7 k c7 (lvs u) ∧ Below q0 w wx) (fun vi _ => k - (intOf vi).toNat)
      case atStart => exact ⟨0, rfl, Nat.zero_le _, hv8, hu8, hb9⟩
      case round =>
        obtain ⟨i, rfl, hi2, hv3, hu3, hb8⟩ := hrel
        by_cases hik : i < k
        · have hdi : (i : Int) < (k : Int) := by omega
          obtain ⟨b6, o6, e6, _, hc6⟩ := hv3.at_ (by omega)
          injection e6 with e6
          injection e6 with e6 e7 _
          subst e6 e7
          obtain ⟨b7, o7, rfl, _, hc7⟩ := hu3.at_ (by omega)
          have d1' := hc6 i _ (lv_cell (by omega))
          have d2' := hc7 i _ (lv_cell (by omega))
          obtain ⟨g1, g2⟩ := hh.out i hik
          have hv4 := Lib.hid hv3.drew
          have hu4 := Lib.hid hu3.drew
          have hb9 := Lib.hid hb8.drew
          obtain ⟨pa, hpa⟩ : ∃ pa, lvAt v i = pa := ⟨_, rfl⟩
          obtain ⟨pb, hpb⟩ : ∃ pb, lvAt u i = pb := ⟨_, rfl⟩
          rw [hpa] at g1 g2 d1'
          rw [hpb] at g1 g2 d2'
          have g3 : ¬ (pa > pb) := by omega
          clear hpa hpb hc6 hc7 hv3 hu3
          have g4 := g2 trivial
          subst g4
          clear g2 g1
          go_upto_region 20 with (fail)
          go_region
          go_wp2_with fail
          exact ⟨⟨i + 1, by go_num, by omega, hv4.out, hu4.out, hb9.out⟩, by simp [intOf]; omega⟩
        · obtain rfl : i = k := by omega
          have hdi : ¬ (((i : Nat) : Int) < (i : Int)) := by omega
          go_wp2_with fail
          go_ret
          exact ⟨rfl, by first | exact hb8 | (rw [hw0]; exact hb8)⟩
    · go_upto_region 16 with (fail)
      go_region
      generalize w7.drew = w8 at *
      clear v1 v2 y0 y1 y2 hza
      go_wp2_with fail
      go_loopw [15] (fun vi wx => ∃ i : Nat, vi = .int .i64 i ∧ i ≤ k ∧ Rd wx wx.heap.size 1 (some ⟨b5, o5, none⟩) k c4' (lvs v) ∧ Rd wx wx.heap.size 1 A7 k c7 (lvs u) ∧ Below q0 w wx) (fun vi _ => k - (intOf vi).toNat)
      case atStart => exact ⟨0, rfl, Nat.zero_le _, hv8, hu8, hb9⟩
      case round =>
        obtain ⟨i, rfl, hi2, hv3, hu3, hb8⟩ := hrel
        by_cases hik : i < k
        · have hdi : (i : Int) < (k : Int) := by omega
          obtain ⟨b6, o6, e6, _, hc6⟩ := hv3.at_ (by omega)
          injection e6 with e6
          injection e6 with e6 e7 _
          subst e6 e7
          obtain ⟨b7, o7, rfl, _, hc7⟩ := hu3.at_ (by omega)
          have d1' := hc6 i _ (lv_cell (by omega))
          have d2' := hc7 i _ (lv_cell (by omega))
          obtain ⟨g1, g2⟩ := hh.out i hik
          have hv4 := Lib.hid hv3.drew
          have hu4 := Lib.hid hu3.drew
          have hb9 := Lib.hid hb8.drew
          obtain ⟨pa, hpa⟩ : ∃ pa, lvAt v i = pa := ⟨_, rfl⟩
          obtain ⟨pb, hpb⟩ : ∃ pb, lvAt u i = pb := ⟨_, rfl⟩
          rw [hpa] at g1 g2 d1'
          rw [hpb] at g1 g2 d2'
          have g3 : ¬ (pa > pb) := by omega
          clear hpa hpb hc6 hc7 hv3 hu3
          clear g2 g1
          go_upto_region 20 with (fail)
          go_region
          go_wp2_with fail
          exact ⟨⟨i + 1, by go_num, by omega, hv4.out, hu4.out, hb9.out⟩, by simp [intOf]; omega⟩
        · obtain rfl : i = k := by omega
          have hdi : ¬ (((i : Nat) : Int) < (i : Int)) := by omega
          go_wp2_with fail
          go_ret
          exact ⟨rfl, by first | exact hb8 | (rw [hw0]; exact hb8)⟩
end Go.Proofs.Ytinfbimfiaegdaa
