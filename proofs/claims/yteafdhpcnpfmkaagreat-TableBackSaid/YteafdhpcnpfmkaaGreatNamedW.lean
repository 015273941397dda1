/- Layer 10: the relations by which an operation is told. Conditions: lists shorter than a hundred thousand. -/
import Derived.BigQuiet
import Derived.Deep.QuietTactic
import Derived.Deep.Cut
import Derived.Deep.DeepCutAuto
import Derived.Outline
import Derived.Test.YteafdhpcnpfmkaaGreatKnownW
namespace Go.Proofs.YteafdhpcnpfmkaaGreat
open Go.RowKit Go.Maps

theorem zeroI (w : World) : (zeroValue 3).run Tryz.prog w = .ok (.int .i64 0) w := by kernel_rfl
set_option maxRecDepth 100000 in
set_option maxHeartbeats 2000000 in
theorem named_any {w : World} {R c b : Nat} {A : Option Addr} {K : List (TypA × RelA)} {t : TypA} {r : RelA} {o : OpI} (hK : Rd w w.heap.size 6 A K.length c (rcells K)) (hM : MapS w b (pathsA K)) (hok : ∀ x ∈ K, x.2.ok w R) (hr : r.ok w R) (ht : t.name.size ≤ R) (ho : o.2.1.size ≤ R ∧ o.2.2.size ≤ R)
    (hR : R ≤ 140737488351232) (hf : ∀ x ∈ K, x.2.subs.length ≤ 100000) (hf2 : r.subs.length ≤ 100000) :
    Calls Tryz.prog 56 #[.agg #[.slice A K.length c, .map (some b)], .agg #[.string t.name, .slice t.A t.rels.length t.c], .agg #[.string r.name, .string r.view, .string r.edit, .string r.check, .slice r.As r.subs.length r.cs, .slice r.Ao r.ops.length r.co], .agg #[.int .i64 o.1, .string o.2.1, .string o.2.2]] w fun e w' =>
      (∃ A2 c2, e = .returned (.slice A2 (namedP (pathsA K) (K.map fun x => x.2.says) t.name r.subs o).length c2) ∧ Rd w' w'.heap.size 1 A2 (namedP (pathsA K) (K.map fun x => x.2.says) t.name r.subs o).length c2 (ints (namedP (pathsA K) (K.map fun x => x.2.says) t.name r.subs o))) ∧ Below w.heap.size w w' := by
  obtain ⟨nm, hnm⟩ : ∃ nm, namedP (pathsA K) (K.map fun x => x.2.says) t.name r.subs o = nm := ⟨_, rfl⟩
  rw [hnm]
  replace hnm := Lib.hid hnm
  obtain ⟨i0, hi0, hz0, hz1, hz2⟩ := info_parts info_int
  have hkl : (pathsA K).length = K.length := by simp [pathsA]
  replace hkl := Lib.hid hkl
  have hkc := hK.cap
  have hkcm := hK.capm
  go_enter Tryz.func56, Tryz.ntmps56
  go_upto_region 2 with (fail)
  have hb0 : Below w.heap.size w ((((w.alloc (.cells #[.slice A K.length c, .map (some b)] 127)).alloc (.cells #[.string t.name, .slice t.A t.rels.length t.c] 112)).alloc (.cells #[.string r.name, .string r.view, .string r.edit, .string r.check, .slice r.As r.subs.length r.cs, .slice r.Ao r.ops.length r.co] 115)).alloc (.cells #[.int .i64 o.1, .string o.2.1, .string o.2.2] 132)) := ((((Below.refl _ w).alloc (Nat.le_refl _) _).alloc (by simp) _).alloc (by simp; omega) _).alloc (by simp; omega) _
  have d0 := ((Bk.new w #[.slice A K.length c, .map (some b)] 127).alloc (.cells #[.string t.name, .slice t.A t.rels.length t.c] 112)).alloc (.cells #[.string r.name, .string r.view, .string r.edit, .string r.check, .slice r.As r.subs.length r.cs, .slice r.Ao r.ops.length r.co] 115) |>.alloc (.cells #[.int .i64 o.1, .string o.2.1, .string o.2.2] 132)
  have d1 := ((Bk.new (w.alloc (.cells #[.slice A K.length c, .map (some b)] 127)) #[.string t.name, .slice t.A t.rels.length t.c] 112).alloc (.cells #[.string r.name, .string r.view, .string r.edit, .string r.check, .slice r.As r.subs.length r.cs, .slice r.Ao r.ops.length r.co] 115)).alloc (.cells #[.int .i64 o.1, .string o.2.1, .string o.2.2] 132)
  have d2 := (Bk.new ((w.alloc (.cells #[.slice A K.length c, .map (some b)] 127)).alloc (.cells #[.string t.name, .slice t.A t.rels.length t.c] 112)) #[.string r.name, .string r.view, .string r.edit, .string r.check, .slice r.As r.subs.length r.cs, .slice r.Ao r.ops.length r.co] 115).alloc (.cells #[.int .i64 o.1, .string o.2.1, .string o.2.2] 132)
  have d3 := Bk.new (((w.alloc (.cells #[.slice A K.length c, .map (some b)] 127)).alloc (.cells #[.string t.name, .slice t.A t.rels.length t.c] 112)).alloc (.cells #[.string r.name, .string r.view, .string r.edit, .string r.check, .slice r.As r.subs.length r.cs, .slice r.Ao r.ops.length r.co] 115)) #[.int .i64 o.1, .string o.2.1, .string o.2.2] 132
  simp only [World.size_alloc] at d1 d2 d3
  generalize (((w.alloc (.cells #[.slice A K.length c, .map (some b)] 127)).alloc (.cells #[.string t.name, .slice t.A t.rels.length t.c] 112)).alloc (.cells #[.string r.name, .string r.view, .string r.edit, .string r.check, .slice r.As r.subs.length r.cs, .slice r.Ao r.ops.length r.co] 115)).alloc (.cells #[.int .i64 o.1, .string o.2.1, .string o.2.2] 132) = w0 at *
  have a0 := d0.cell 0
  have a1 := d0.cell 1
  have b0 := d1.cell 0
  have b1 := d1.cell 1
  obtain ⟨r0, r1, r2, r3, r4, r5⟩ : w0.cell? ⟨w.heap.size + 1 + 1, 0, none⟩ = some (.string r.name) ∧ w0.cell? ⟨w.heap.size + 1 + 1, 1, none⟩ = some (.string r.view) ∧ w0.cell? ⟨w.heap.size + 1 + 1, 2, none⟩ = some (.string r.edit) ∧ w0.cell? ⟨w.heap.size + 1 + 1, 3, none⟩ = some (.string r.check) ∧ w0.cell? ⟨w.heap.size + 1 + 1, 4, none⟩ = some (.slice r.As r.subs.length r.cs) ∧ w0.cell? ⟨w.heap.size + 1 + 1, 5, none⟩ = some (.slice r.Ao r.ops.length r.co) := ⟨d2.cell 0, d2.cell 1, d2.cell 2, d2.cell 3, d2.cell 4, d2.cell 5⟩
  have o0 := d3.cell 0
  have o1 := d3.cell 1
  have o2 := d3.cell 2
  have hbq2 := hb0
  by_cases h1 : o.1 = 1
  · have e1 : (o.1 == 1) = true := by simpa using h1
    obtain ⟨ps, hps⟩ : ∃ ps, pathsP (pathsA K) (K.map fun x => x.2.says) t.name r.subs o = ps := ⟨_, rfl⟩
    have hps0 : setsP r.subs = ps := by rw [← hps]; unfold pathsP; rw [if_pos h1]
    have hsm : ∀ p ∈ ps, SmP p := fun p hp => by
      rw [← hps0] at hp
      have := hr.subz p (List.mem_filter.1 hp).1
      exact ⟨by simp only [maxLen]; omega, by simp only [maxLen]; omega⟩
    have hpl0 : ps.length ≤ 100000 := by rw [← hps0]; exact Nat.le_trans (List.length_filter_le _ _) hf2
    have kS := sets_any (w := w0) (nm := r.name) (vi := r.view) (ed := r.edit) (ch := r.check) (vo := .slice r.Ao r.ops.length r.co) ⟨_, _, _, rfl⟩ ((hr.subs.below hb0).more hb0.size) hf2
    rw [hps0] at kS
    clear hps0
    replace hps := Lib.hid hps
    go_upto_region 12 with (go_at_call 96; refine kS.mono ?_; rintro e wq ⟨⟨Ap, cp, rfl, hP0⟩, hbq⟩)
    have hP : Rd wq wq.heap.size 2 Ap ps.length cp (acells ps) := by obtain ⟨A9, c9, e9, hR9⟩ := Rd.own hP0; cases e9; exact hR9
    have hbq2 := hb0.trans (hbq.mono hb0.size)
    have d0q := d0.below hbq
    clear a0 a1 b0 b1 r0 r1 r2 r3 r4 r5 o0 o1 o2 d0 d1 d2 d3 hb0 kS hbq hP0
    clear h1 e1
    have hq0 := hbq2.size
    have a1 := d0q.cell 1
    have hpl : (ps.length : Int) ≤ 9223372036854775807 := by omega
    have hmq := hM.below hbq2
    go_wp2_with fail
    go_loopw [12, 55] (fun v vi wx => ∃ j : Nat, vi = .int .i64 j ∧ j ≤ ps.length ∧ wx.ownsRow wq.heap.size 3 1 v ((ps.take j).filterMap (lastIx (pathsA K))).length (ints ((ps.take j).filterMap (lastIx (pathsA K)))) ∧ Below wq.heap.size wq wx) (fun _ vi _ => ps.length - (intOf vi).toNat)
    case atStart => exact ⟨0, rfl, Nat.zero_le _, World.ownsRow_nil _ _ _ _, Below.refl _ _⟩
    case round =>
      obtain ⟨j, rfl, hj, hO, hbx⟩ := hrel
      obtain ⟨A3, c3, rfl, hR3⟩ := Rd.own hO
      by_cases hjl : j < ps.length
      · have hdj : (j : Int) < (ps.length : Int) := by omega
        obtain ⟨p, hp⟩ : ∃ p, ps[j]? = some p := ⟨_, List.getElem?_eq_getElem hjl⟩
        have hpsm := hsm p (List.mem_of_getElem? hp)
        obtain ⟨bp, op, rfl, hbp, q0, q1⟩ := acells_at (hP.below hbx) hp rfl
        have hle : ((ps.take j).filterMap (lastIx (pathsA K))).length ≤ j := Nat.le_trans (List.length_filterMap_le _ _) (by rw [List.length_take]; omega)
        have hws := hbx.size
        have hO1 := hO.alloc (.cells #[.string p.1, .string p.2] 104)
        have hbx1 := hbx.alloc hws (.cells #[.string p.1, .string p.2] 104)
        have x1 := Bk.new wr #[.string p.1, .string p.2] 104
        go_upto_region 15 with (fail)
        clear q0 q1 hO hbx
        generalize wr.alloc (.cells #[.string p.1, .string p.2] 104) = w1 at *
        have q0 := x1.cell 0
        have q1 := x1.cell 1
        have a1' := cell_unde a1 hbx1
        have hm1 := (hmq.below hbx1).1
        have hkey := key_sub hpsm.1 hpsm.2
        obtain ⟨hh, hat⟩ := numsD_look hM.2 hpsm
        have hsn : Hid ((ps.take (j + 1)).filterMap (lastIx (pathsA K)) = (ps.take j).filterMap (lastIx (pathsA K)) ++ (lastIx (pathsA K) p).toList) := Lib.hid (by
          rw [List.take_add_one, hp, Option.toList_some, List.filterMap_append]
          cases hl : lastIx (pathsA K) p <;> simp [hl])
        have hat := Lib.hid hat
        cases hl : lastIx (pathsA K) p with
        | none =>
          rw [hl] at hh hsn
          have hl := Lib.hid hl
          go_wp2_with (at_lookup; refine wpList_lookup_own_ok_int _ rfl _ _ 125 rfl 104 3 .i64 keyedS Tryz.underlying125 Tryz.underlying3 (zeroI _) b (pathsA K).length _ rfl hm1 _ _ rfl hkey ?_; intro cc hat2 hwc)
          refine ⟨⟨j + 1, by go_num, by omega, ?_, hbx1⟩, by simp [intOf]; omega⟩
          rw [hsn.out, Option.toList_none, List.append_nil]
          exact hO1
        | some i =>
          rw [hl] at hh hsn
          have hik := (List.getElem?_eq_some_iff.1 (lastIx_lt hl)).1
          have hl := Lib.hid hl
          go_wp2_with (first
            | (at_lookup; refine wpList_lookup_own_ok_int _ rfl _ _ 125 rfl 104 3 .i64 keyedS Tryz.underlying125 Tryz.underlying3 (zeroI _) b (pathsA K).length _ rfl hm1 _ _ rfl hkey ?_; intro cc hat2 hwc; have hcc : cc = (i : Int) := by { have h9 := (hat.out _).symm.trans hat2; rw [hl.out] at h9; cases h9; rfl }; subst hcc)
            | (at_builtin; go_loud (refine wpList_append_src _ rfl (.tmp 67) (.tmp 69) 32 32 rfl wq.heap.size 3 i0 (.int .i64 0) 1 8 Tryz.underlying32 hi0 hz0 hz1 hz2 rfl (by decide) (.slice A3 ((ps.take j).filterMap (lastIx (pathsA K))).length c3) _ _ rfl (hO1.alloc _) _ 1 [.int .i64 (i : Int)] rfl (Src.ofSlice _ Tryz.underlying32 _ 1 1 _ rfl (cells_new1 _ _ _) (ints_one [i])) (by simp only [maxLen]; omega) (by omega) (size_alloc hbx1.size) ?_; intro v9 w8 hown8 hg8 hat8)))
          refine ⟨⟨j + 1, by go_num, by omega, ?_, below_of_own (hbx1.alloc hbx1.size _) hg8 (hO1.alloc _) (size_alloc hbx1.size) (Nat.le_refl _)⟩, by simp [intOf]; omega⟩
          rw [hsn.out, Option.toList_some, List.length_append, ints_app]
          exact hown8
      · obtain rfl : j = ps.length := by omega
        have hdj : ¬ (((ps.length : Nat) : Int) < (ps.length : Int)) := by omega
        rw [List.take_length] at hO hR3
        have hnm2 : Hid (nm = ps.filterMap (lastIx (pathsA K))) := Lib.hid (by rw [← hnm.out, namedP, hps.out])
        go_wp2_with fail
        go_ret
        rw [hnm2.out]
        exact ⟨⟨A3, c3, rfl, hR3⟩, hbq2.trans (hbx.mono hq0)⟩
  · by_cases h2 : o.1 = 2
    · have e1 : (o.1 == 1) = false := by simpa using h1
      have e2 : (o.1 == 2) = true := by simpa using h2
      obtain ⟨ps, hps⟩ : ∃ ps, pathsP (pathsA K) (K.map fun x => x.2.says) t.name r.subs o = ps := ⟨_, rfl⟩
      have hps0 : ps = [(t.name, o.2.1)] := by rw [← hps]; unfold pathsP; rw [if_neg h1, if_pos h2]
      have hsm : ∀ p ∈ ps, SmP p := fun p hp => by
        rw [hps0, List.mem_singleton] at hp
        subst hp
        exact ⟨by simp only [maxLen]; omega, by simp only [maxLen]; omega⟩
      have hP1 : ∀ W : World, Rd (W.alloc (.cells #[.string t.name, .string o.2.1] 104)) (W.alloc (.cells #[.string t.name, .string o.2.1] 104)).heap.size 2 (some ⟨W.heap.size, 0, none⟩) ps.length 1 (acells ps) := fun W => by
        rw [hps0]
        exact Rd.litX W _ _ 1 2 _ rfl rfl (by simp [maxLen])
      have hpl1 : Hid (ps.length = 1) := Lib.hid (by rw [hps0]; rfl)
      have hpl0 : ps.length ≤ 100000 := by have := hpl1.out; omega
      clear hps0
      replace hps := Lib.hid hps
      have hP := hP1 w0
      have hbq2 := hb0.alloc hb0.size (.cells #[.string t.name, .string o.2.1] 104)
      have d0q := d0.alloc (.cells #[.string t.name, .string o.2.1] 104)
      go_upto_region 11 with (fail)
      clear a0 a1 b0 b1 r0 r1 r2 r3 r4 r5 o0 o1 o2 d0 d1 d2 d3 hb0 hP1
      generalize w0.alloc (.cells #[.string t.name, .string o.2.1] 104) = wq at *
      obtain ⟨Ap, cp, hv, hP⟩ : ∃ Ap cp, (Value.slice (some ⟨w0.heap.size, 0, none⟩) 1 1) = .slice Ap ps.length cp ∧ Rd wq wq.heap.size 2 Ap ps.length cp (acells ps) := ⟨_, 1, by rw [hpl1.out], hP⟩
      rw [hv]
      clear hv h1 h2 e1 e2
      go_upto_region 12 with (fail)
      have hq0 := hbq2.size
      have a1 := d0q.cell 1
      have hpl : (ps.length : Int) ≤ 9223372036854775807 := by omega
      have hmq := hM.below hbq2
      go_wp2_with fail
      go_loopw [12, 55] (fun v vi wx => ∃ j : Nat, vi = .int .i64 j ∧ j ≤ ps.length ∧ wx.ownsRow wq.heap.size 3 1 v ((ps.take j).filterMap (lastIx (pathsA K))).length (ints ((ps.take j).filterMap (lastIx (pathsA K)))) ∧ Below wq.heap.size wq wx) (fun _ vi _ => ps.length - (intOf vi).toNat)
      case atStart => exact ⟨0, rfl, Nat.zero_le _, World.ownsRow_nil _ _ _ _, Below.refl _ _⟩
      case round =>
        obtain ⟨j, rfl, hj, hO, hbx⟩ := hrel
        obtain ⟨A3, c3, rfl, hR3⟩ := Rd.own hO
        by_cases hjl : j < ps.length
        · have hdj : (j : Int) < (ps.length : Int) := by omega
          obtain ⟨p, hp⟩ : ∃ p, ps[j]? = some p := ⟨_, List.getElem?_eq_getElem hjl⟩
          have hpsm := hsm p (List.mem_of_getElem? hp)
          obtain ⟨bp, op, rfl, hbp, q0, q1⟩ := acells_at (hP.below hbx) hp rfl
          have hle : ((ps.take j).filterMap (lastIx (pathsA K))).length ≤ j := Nat.le_trans (List.length_filterMap_le _ _) (by rw [List.length_take]; omega)
          have hws := hbx.size
          have hO1 := hO.alloc (.cells #[.string p.1, .string p.2] 104)
          have hbx1 := hbx.alloc hws (.cells #[.string p.1, .string p.2] 104)
          have x1 := Bk.new wr #[.string p.1, .string p.2] 104
          go_upto_region 15 with (fail)
          clear q0 q1 hO hbx
          generalize wr.alloc (.cells #[.string p.1, .string p.2] 104) = w1 at *
          have q0 := x1.cell 0
          have q1 := x1.cell 1
          have a1' := cell_unde a1 hbx1
          have hm1 := (hmq.below hbx1).1
          have hkey := key_sub hpsm.1 hpsm.2
          obtain ⟨hh, hat⟩ := numsD_look hM.2 hpsm
          have hsn : Hid ((ps.take (j + 1)).filterMap (lastIx (pathsA K)) = (ps.take j).filterMap (lastIx (pathsA K)) ++ (lastIx (pathsA K) p).toList) := Lib.hid (by
            rw [List.take_add_one, hp, Option.toList_some, List.filterMap_append]
            cases hl : lastIx (pathsA K) p <;> simp [hl])
          have hat := Lib.hid hat
          cases hl : lastIx (pathsA K) p with
          | none =>
            rw [hl] at hh hsn
            have hl := Lib.hid hl
            go_wp2_with (at_lookup; refine wpList_lookup_own_ok_int _ rfl _ _ 125 rfl 104 3 .i64 keyedS Tryz.underlying125 Tryz.underlying3 (zeroI _) b (pathsA K).length _ rfl hm1 _ _ rfl hkey ?_; intro cc hat2 hwc)
            refine ⟨⟨j + 1, by go_num, by omega, ?_, hbx1⟩, by simp [intOf]; omega⟩
            rw [hsn.out, Option.toList_none, List.append_nil]
            exact hO1
          | some i =>
            rw [hl] at hh hsn
            have hik := (List.getElem?_eq_some_iff.1 (lastIx_lt hl)).1
            have hl := Lib.hid hl
            go_wp2_with (first
              | (at_lookup; refine wpList_lookup_own_ok_int _ rfl _ _ 125 rfl 104 3 .i64 keyedS Tryz.underlying125 Tryz.underlying3 (zeroI _) b (pathsA K).length _ rfl hm1 _ _ rfl hkey ?_; intro cc hat2 hwc; have hcc : cc = (i : Int) := by { have h9 := (hat.out _).symm.trans hat2; rw [hl.out] at h9; cases h9; rfl }; subst hcc)
              | (at_builtin; go_loud (refine wpList_append_src _ rfl (.tmp 67) (.tmp 69) 32 32 rfl wq.heap.size 3 i0 (.int .i64 0) 1 8 Tryz.underlying32 hi0 hz0 hz1 hz2 rfl (by decide) (.slice A3 ((ps.take j).filterMap (lastIx (pathsA K))).length c3) _ _ rfl (hO1.alloc _) _ 1 [.int .i64 (i : Int)] rfl (Src.ofSlice _ Tryz.underlying32 _ 1 1 _ rfl (cells_new1 _ _ _) (ints_one [i])) (by simp only [maxLen]; omega) (by omega) (size_alloc hbx1.size) ?_; intro v9 w8 hown8 hg8 hat8)))
            refine ⟨⟨j + 1, by go_num, by omega, ?_, below_of_own (hbx1.alloc hbx1.size _) hg8 (hO1.alloc _) (size_alloc hbx1.size) (Nat.le_refl _)⟩, by simp [intOf]; omega⟩
            rw [hsn.out, Option.toList_some, List.length_append, ints_app]
            exact hown8
        · obtain rfl : j = ps.length := by omega
          have hdj : ¬ (((ps.length : Nat) : Int) < (ps.length : Int)) := by omega
          rw [List.take_length] at hO hR3
          have hnm2 : Hid (nm = ps.filterMap (lastIx (pathsA K))) := Lib.hid (by rw [← hnm.out, namedP, hps.out])
          go_wp2_with fail
          go_ret
          rw [hnm2.out]
          exact ⟨⟨A3, c3, rfl, hR3⟩, hbq2.trans (hbx.mono hq0)⟩
    · by_cases h3 : o.1 = 3
      · have e1 : (o.1 == 1) = false := by simpa using h1
        have e2 : (o.1 == 2) = false := by simpa using h2
        have e3 : (o.1 == 3) = true := by simpa using h3
        have hq9 : SmP (t.name, o.2.1) := ⟨by simp only [maxLen]; omega, by simp only [maxLen]; omega⟩
        have hm0 := (hM.below hb0).1
        have hkey0 := key_sub hq9.1 hq9.2
        obtain ⟨hh0, hat0⟩ := numsD_look hM.2 hq9
        have hat0 := Lib.hid hat0
        cases hl0 : lastIx (pathsA K) (t.name, o.2.1) with
        | none =>
          have hps0 : Hid (nm = []) := Lib.hid (by rw [← hnm.out, namedP, pathsP, if_neg h1, if_neg h2, if_pos h3, hl0]; rfl)
          rw [hl0] at hh0
          replace hl0 := Lib.hid hl0
          go_upto_region 12 with (at_lookup; refine wpList_lookup_own_ok_int _ rfl _ _ 125 rfl 104 3 .i64 keyedS Tryz.underlying125 Tryz.underlying3 (zeroI _) b (pathsA K).length _ rfl hm0 _ _ rfl hkey0 ?_; intro cc hat2 hwc)
          clear h1 h2 h3 e1 e2 e3 hh0 hat2
          go_wp2_with fail
          go_loopw [12, 55] (fun v vi wx => v = .slice none 0 0 ∧ vi = .int .i64 0 ∧ wx = w0) (fun _ _ _ => 0)
          case atStart => exact ⟨rfl, rfl, rfl⟩
          case round =>
            obtain ⟨rfl, rfl, hwx⟩ := hrel
            have hwx := hwx.symm
            subst hwx
            go_wp2_with fail
            go_ret
            rw [hps0.out]
            exact ⟨⟨none, 0, rfl, Rd.none_ _ _ _⟩, hb0⟩
        | some i =>
          have hiK := (List.getElem?_eq_some_iff.1 (lastIx_lt hl0)).1
          rw [hkl.out] at hiK
          obtain ⟨x, hx⟩ : ∃ x, K[i]? = some x := ⟨_, List.getElem?_eq_getElem hiK⟩
          have hxm := List.mem_of_getElem? hx
          obtain ⟨ps, hps⟩ : ∃ ps, pathsP (pathsA K) (K.map fun x => x.2.says) t.name r.subs o = ps := ⟨_, rfl⟩
          have hps0 : nextsP x.2.subs o.2.2 = ps := by
            rw [← hps]; unfold pathsP; rw [if_neg h1, if_neg h2, if_pos h3, hl0]
            simp only [List.getElem?_map, hx, Option.map_some]
            rfl
          have hxok := hok x hxm
          have hsm : ∀ p ∈ ps, SmP p := fun p hp => by
            rw [← hps0] at hp
            unfold nextsP at hp
            obtain ⟨s, hs, rfl⟩ := List.mem_map.1 hp
            have := hxok.subz s (List.mem_filter.1 hs).1
            exact ⟨by simp only [maxLen]; omega, by simp only [maxLen]; omega⟩
          have hpl0 : ps.length ≤ 100000 := by
            rw [← hps0]
            unfold nextsP
            rw [List.length_map]
            exact Nat.le_trans (List.length_filter_le _ _) (hf x hxm)
          obtain ⟨gb, go, gA, gb0, gc⟩ := hK.at_ (by omega)
          have gg := fun k (hk : k < 6) => flat_get (fun x : TypA × RelA => x.2.cells) (sz := 6) (fun _ => rfl) hx (k := k) hk
          have hcs : ∀ W, Below w.heap.size w W → W.cell? ⟨gb, go + i * 6, none⟩ = some (.string x.2.name) ∧ W.cell? ⟨gb, go + i * 6 + 1, none⟩ = some (.string x.2.view) ∧ W.cell? ⟨gb, go + i * 6 + 2, none⟩ = some (.string x.2.edit) ∧ W.cell? ⟨gb, go + i * 6 + 3, none⟩ = some (.string x.2.check) ∧ W.cell? ⟨gb, go + i * 6 + 4, none⟩ = some (.slice x.2.As x.2.subs.length x.2.cs) ∧ W.cell? ⟨gb, go + i * 6 + 5, none⟩ = some (.slice x.2.Ao x.2.ops.length x.2.co) := fun W hW =>
            ⟨cell_unde (gc _ _ (gg 0 (by omega))) hW, by rw [Nat.add_assoc]; exact cell_unde (gc _ _ (gg 1 (by omega))) hW, by rw [Nat.add_assoc]; exact cell_unde (gc _ _ (gg 2 (by omega))) hW, by rw [Nat.add_assoc]; exact cell_unde (gc _ _ (gg 3 (by omega))) hW, by rw [Nat.add_assoc]; exact cell_unde (gc _ _ (gg 4 (by omega))) hW, by rw [Nat.add_assoc]; exact cell_unde (gc _ _ (gg 5 (by omega))) hW⟩
          have kN : ∀ W, Below w0.heap.size w0 W → Calls Tryz.prog 97 #[.agg #[.string x.2.name, .string x.2.view, .string x.2.edit, .string x.2.check, .slice x.2.As x.2.subs.length x.2.cs, .slice x.2.Ao x.2.ops.length x.2.co], .string o.2.2] W fun e w' => (∃ A' c', e = .returned (.slice A' ps.length c') ∧ w'.ownsRow W.heap.size 104 2 (.slice A' ps.length c') ps.length (acells ps)) ∧ Below W.heap.size W w' := fun W hW => by
            have hwW := hb0.trans (hW.mono hb0.size)
            have := nexts_any (w := W) (nm := x.2.name) (vi := x.2.view) (ed := x.2.edit) (ch := x.2.check) (vo := .slice x.2.Ao x.2.ops.length x.2.co) o.2.2 ⟨_, _, _, rfl⟩ ((hxok.subs.below hwW).more hwW.size) (hf x hxm)
            rw [hps0] at this
            exact this
          have hii : (i : Int) < (K.length : Int) := by omega
          rw [hl0] at hh0
          replace hl0 := Lib.hid hl0
          replace hx := Lib.hid hx
          clear hps0 gg
          replace hps := Lib.hid hps
          replace kN := Lib.hid kN
          replace hcs := Lib.hid hcs
          subst gA
          go_upto_region 10 with (at_lookup; refine wpList_lookup_own_ok_int _ rfl _ _ 125 rfl 104 3 .i64 keyedS Tryz.underlying125 Tryz.underlying3 (zeroI _) b (pathsA K).length _ rfl hm0 _ _ rfl hkey0 ?_; intro cc hat2 hwc; have hcc : cc = (i : Int) := by { have h9 := (hat0.out _).symm.trans hat2; rw [hl0.out] at h9; cases h9; rfl }; subst hcc)
          have hSc : ∀ W : World, Below w0.heap.size w0 W → W.cell? ⟨w.heap.size, 0, none⟩ = some (.slice (some ⟨gb, go, none⟩) K.length c) ∧ W.cell? ⟨w.heap.size + 1 + 1 + 1, 2, none⟩ = some (.string o.2.2) ∧ W.cell? ⟨gb, go + i * 6, none⟩ = some (.string x.2.name) ∧ W.cell? ⟨gb, go + i * 6 + 1, none⟩ = some (.string x.2.view) ∧ W.cell? ⟨gb, go + i * 6 + 2, none⟩ = some (.string x.2.edit) ∧ W.cell? ⟨gb, go + i * 6 + 3, none⟩ = some (.string x.2.check) ∧ W.cell? ⟨gb, go + i * 6 + 4, none⟩ = some (.slice x.2.As x.2.subs.length x.2.cs) ∧ W.cell? ⟨gb, go + i * 6 + 5, none⟩ = some (.slice x.2.Ao x.2.ops.length x.2.co) := fun W h => ⟨cell_unde a0 h, cell_unde o2 h, hcs.out W (hb0.trans (h.mono hb0.size))⟩
          clear h1 h2 h3 e1 e2 e3 hh0 hat2
          have hS0 : Below w0.heap.size w0 w0.drew := (Below.refl _ _).drew
          refine wp_region_any (by kernel_rfl) ?_
          change wpAny _ _ _ _ _ _ _ (World.drew _)
          refine wpAny_of_held (S := fun W => Below w0.heap.size w0 W) _ _ _ _ ?_
          refine roH_take 0 (some 45) (v := ?v0n) rfl rfl (by kernel_rfl) (by kernel_rfl) (by kernel_rfl) (fun _ _ _ h => h) (by rfl) ?y0n (by assumption) ?r0n
          case y0n => (intro W hS; obtain ⟨s0, s1, s2, s3, s4, s5, s6, s7⟩ := hSc W hS; go_simp; try with_reducible rfl)
          simp only [Act.put, List.setIfInBounds_toArray, List.set_cons_zero, List.set_cons_succ]
          refine roH_take 1 (some 46) (v := ?v1n) rfl rfl (by kernel_rfl) (by kernel_rfl) (by kernel_rfl) (fun _ _ _ h => h) (by rfl) ?y1n (by assumption) ?r1n
          case y1n => (intro W hS; obtain ⟨s0, s1, s2, s3, s4, s5, s6, s7⟩ := hSc W hS; go_simp; try with_reducible rfl)
          simp only [Act.put, List.setIfInBounds_toArray, List.set_cons_zero, List.set_cons_succ]
          refine roH_take 2 (some 47) (v := ?v2n) rfl rfl (by kernel_rfl) (by kernel_rfl) (by kernel_rfl) (fun _ _ _ h => h) (by rfl) ?y2n (by assumption) ?r2n
          case y2n => (intro W hS; obtain ⟨s0, s1, s2, s3, s4, s5, s6, s7⟩ := hSc W hS; go_simp; try with_reducible rfl)
          simp only [Act.put, List.setIfInBounds_toArray, List.set_cons_zero, List.set_cons_succ]
          refine roH_take 3 (some 48) (v := ?v3n) rfl rfl (by kernel_rfl) (by kernel_rfl) (by kernel_rfl) (fun _ _ _ h => h) (by rfl) ?y3n (by assumption) ?r3n
          case y3n => (intro W hS; obtain ⟨s0, s1, s2, s3, s4, s5, s6, s7⟩ := hSc W hS; go_simp; try with_reducible rfl)
          simp only [Act.put, List.setIfInBounds_toArray, List.set_cons_zero, List.set_cons_succ]
          refine roH_take 4 (some 49) (v := ?v4n) rfl rfl (by kernel_rfl) (by kernel_rfl) (by kernel_rfl) (fun _ _ _ h => h) (by rfl) ?y4n (by assumption) ?r4n
          case y4n => (intro W hS; obtain ⟨s0, s1, s2, s3, s4, s5, s6, s7⟩ := hSc W hS; go_simp; try with_reducible rfl)
          simp only [Act.put, List.setIfInBounds_toArray, List.set_cons_zero, List.set_cons_succ]
          refine roH_take 5 (some 50) (v := ?v5n) rfl rfl (by kernel_rfl) (by kernel_rfl) (by kernel_rfl) (fun _ _ _ h => h) (by rfl) ?y5n (by assumption) ?r5n
          case y5n => (intro W hS; obtain ⟨s0, s1, s2, s3, s4, s5, s6, s7⟩ := hSc W hS; go_simp; try with_reducible rfl)
          simp only [Act.put, List.setIfInBounds_toArray, List.set_cons_zero, List.set_cons_succ]
          refine roH_take 6 (some 51) (v := ?v6n) rfl rfl (by kernel_rfl) (by kernel_rfl) (by kernel_rfl) (fun _ _ _ h => h) (by rfl) ?y6n (by assumption) ?r6n
          case y6n => (intro W hS; obtain ⟨s0, s1, s2, s3, s4, s5, s6, s7⟩ := hSc W hS; go_simp; try with_reducible rfl)
          simp only [Act.put, List.setIfInBounds_toArray, List.set_cons_zero, List.set_cons_succ]
          refine roH_one 7 rfl (by kernel_rfl) ?_
          intro K9 hK9
          go_simp
          refine (kN.out _ hS0).mono ?_
          rintro e4 wq ⟨⟨Ap, cp, rfl, hP0⟩, hb4⟩
          have hS4 : Below w0.heap.size w0 wq := hS0.trans (hb4.mono hS0.size)
          refine hK9 _ _ hS4 ?_
          clear hK9 K9 hb4
          refine roH_take 8 (some 9) (v := ?v8n) rfl rfl (by kernel_rfl) (by kernel_rfl) (by kernel_rfl) (fun _ _ _ h => h) (by rfl) ?y8n (by assumption) ?r8n
          case y8n => (intro W hS; go_simp; try with_reducible rfl)
          simp only [Act.put, List.setIfInBounds_toArray, List.set_cons_zero, List.set_cons_succ]
          refine wpAnyH_done (by kernel_rfl) ?_ _
          go_upto_region 12 with (fail)
          have hP : Rd wq wq.heap.size 2 Ap ps.length cp (acells ps) := by obtain ⟨A9, c9, e9, hR9⟩ := Rd.own hP0; cases e9; exact hR9
          have hbq2 := hb0.trans (hS4.mono hb0.size)
          have d0q := d0.below hS4
          clear a0 a1 b0 b1 r0 r1 r2 r3 r4 r5 o0 o1 o2 d0 d1 d2 d3 hb0 hP0 hSc hS0 hS4 hcs
          have hq0 := hbq2.size
          have a1 := d0q.cell 1
          have hpl : (ps.length : Int) ≤ 9223372036854775807 := by omega
          have hmq := hM.below hbq2
          go_wp2_with fail
          go_loopw [12, 55] (fun v vi wx => ∃ j : Nat, vi = .int .i64 j ∧ j ≤ ps.length ∧ wx.ownsRow wq.heap.size 3 1 v ((ps.take j).filterMap (lastIx (pathsA K))).length (ints ((ps.take j).filterMap (lastIx (pathsA K)))) ∧ Below wq.heap.size wq wx) (fun _ vi _ => ps.length - (intOf vi).toNat)
          case atStart => exact ⟨0, rfl, Nat.zero_le _, World.ownsRow_nil _ _ _ _, Below.refl _ _⟩
          case round =>
            obtain ⟨j, rfl, hj, hO, hbx⟩ := hrel
            obtain ⟨A3, c3, rfl, hR3⟩ := Rd.own hO
            by_cases hjl : j < ps.length
            · have hdj : (j : Int) < (ps.length : Int) := by omega
              obtain ⟨p, hp⟩ : ∃ p, ps[j]? = some p := ⟨_, List.getElem?_eq_getElem hjl⟩
              have hpsm := hsm p (List.mem_of_getElem? hp)
              obtain ⟨bp, op, rfl, hbp, q0, q1⟩ := acells_at (hP.below hbx) hp rfl
              have hle : ((ps.take j).filterMap (lastIx (pathsA K))).length ≤ j := Nat.le_trans (List.length_filterMap_le _ _) (by rw [List.length_take]; omega)
              have hws := hbx.size
              have hO1 := hO.alloc (.cells #[.string p.1, .string p.2] 104)
              have hbx1 := hbx.alloc hws (.cells #[.string p.1, .string p.2] 104)
              have x1 := Bk.new wr #[.string p.1, .string p.2] 104
              go_upto_region 15 with (fail)
              clear q0 q1 hO hbx
              generalize wr.alloc (.cells #[.string p.1, .string p.2] 104) = w1 at *
              have q0 := x1.cell 0
              have q1 := x1.cell 1
              have a1' := cell_unde a1 hbx1
              have hm1 := (hmq.below hbx1).1
              have hkey := key_sub hpsm.1 hpsm.2
              obtain ⟨hh, hat⟩ := numsD_look hM.2 hpsm
              have hsn : Hid ((ps.take (j + 1)).filterMap (lastIx (pathsA K)) = (ps.take j).filterMap (lastIx (pathsA K)) ++ (lastIx (pathsA K) p).toList) := Lib.hid (by
                rw [List.take_add_one, hp, Option.toList_some, List.filterMap_append]
                cases hl : lastIx (pathsA K) p <;> simp [hl])
              have hat := Lib.hid hat
              cases hl : lastIx (pathsA K) p with
              | none =>
                rw [hl] at hh hsn
                have hl := Lib.hid hl
                go_wp2_with (at_lookup; refine wpList_lookup_own_ok_int _ rfl _ _ 125 rfl 104 3 .i64 keyedS Tryz.underlying125 Tryz.underlying3 (zeroI _) b (pathsA K).length _ rfl hm1 _ _ rfl hkey ?_; intro cc hat2 hwc)
                refine ⟨⟨j + 1, by go_num, by omega, ?_, hbx1⟩, by simp [intOf]; omega⟩
                rw [hsn.out, Option.toList_none, List.append_nil]
                exact hO1
              | some i =>
                rw [hl] at hh hsn
                have hik := (List.getElem?_eq_some_iff.1 (lastIx_lt hl)).1
                have hl := Lib.hid hl
                go_wp2_with (first
                  | (at_lookup; refine wpList_lookup_own_ok_int _ rfl _ _ 125 rfl 104 3 .i64 keyedS Tryz.underlying125 Tryz.underlying3 (zeroI _) b (pathsA K).length _ rfl hm1 _ _ rfl hkey ?_; intro cc hat2 hwc; have hcc : cc = (i : Int) := by { have h9 := (hat.out _).symm.trans hat2; rw [hl.out] at h9; cases h9; rfl }; subst hcc)
                  | (at_builtin; go_loud (refine wpList_append_src _ rfl (.tmp 67) (.tmp 69) 32 32 rfl wq.heap.size 3 i0 (.int .i64 0) 1 8 Tryz.underlying32 hi0 hz0 hz1 hz2 rfl (by decide) (.slice A3 ((ps.take j).filterMap (lastIx (pathsA K))).length c3) _ _ rfl (hO1.alloc _) _ 1 [.int .i64 (i : Int)] rfl (Src.ofSlice _ Tryz.underlying32 _ 1 1 _ rfl (cells_new1 _ _ _) (ints_one [i])) (by simp only [maxLen]; omega) (by omega) (size_alloc hbx1.size) ?_; intro v9 w8 hown8 hg8 hat8)))
                refine ⟨⟨j + 1, by go_num, by omega, ?_, below_of_own (hbx1.alloc hbx1.size _) hg8 (hO1.alloc _) (size_alloc hbx1.size) (Nat.le_refl _)⟩, by simp [intOf]; omega⟩
                rw [hsn.out, Option.toList_some, List.length_append, ints_app]
                exact hown8
            · obtain rfl : j = ps.length := by omega
              have hdj : ¬ (((ps.length : Nat) : Int) < (ps.length : Int)) := by omega
              rw [List.take_length] at hO hR3
              have hnm2 : Hid (nm = ps.filterMap (lastIx (pathsA K))) := Lib.hid (by rw [← hnm.out, namedP, hps.out])
              go_wp2_with fail
              go_ret
              rw [hnm2.out]
              exact ⟨⟨A3, c3, rfl, hR3⟩, hbq2.trans (hbx.mono hq0)⟩
      · have e1 : (o.1 == 1) = false := by simpa using h1
        have e2 : (o.1 == 2) = false := by simpa using h2
        have e3 : (o.1 == 3) = false := by simpa using h3
        have hps0 : Hid (nm = []) := Lib.hid (by rw [← hnm.out, namedP, pathsP, if_neg h1, if_neg h2, if_neg h3]; rfl)
        go_wp2_with fail
        go_loopw [12, 55] (fun v vi wx => v = .slice none 0 0 ∧ vi = .int .i64 0 ∧ wx = w0) (fun _ _ _ => 0)
        case atStart => exact ⟨rfl, rfl, rfl⟩
        case round =>
          obtain ⟨rfl, rfl, hwx⟩ := hrel
          have hwx := hwx.symm
          subst hwx
          go_wp2_with fail
          go_ret
          rw [hps0.out]
          exact ⟨⟨none, 0, rfl, Rd.none_ _ _ _⟩, hb0⟩
end Go.Proofs.YteafdhpcnpfmkaaGreat
