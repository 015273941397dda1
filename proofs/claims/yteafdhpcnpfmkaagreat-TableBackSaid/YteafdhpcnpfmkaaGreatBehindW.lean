/- Layer 10: what stands behind a Not. Conditions: no more than a hundred thousand operations. -/
import Derived.BigQuiet
import Derived.Deep.QuietTactic
import Derived.Deep.Cut
import Derived.RegionTactic
import Derived.Outline
import Derived.Test.YteafdhpcnpfmkaaGreatKnownW
namespace Go.Proofs.YteafdhpcnpfmkaaGreat
open Go.RowKit

/-- A slice of the call's own, cut. -/
theorem own_pre {w : World} {B : Nat} {e : TypeId} {n c m : Nat} {A : Option Addr} {xs : List Value} (h : w.ownsRow B e 1 (.slice A n c) n xs) (hm : m ≤ n) (hn : 0 < n) : w.ownsRow B e 1 (.slice A m c) m (xs.take m) := by
  rcases h.2 with ⟨h', h0⟩ | ⟨g, cap, cur, h', hb, hg, hnc, hcm, hcs, ht⟩
  · omega
  · injection h' with h1 _ h3
    subst h1 h3
    refine ⟨by rw [List.length_take, h.1]; omega, .inr ⟨g, c, cur, rfl, hb, hg, by omega, hcm, hcs, ?_⟩⟩
    rw [← ht, List.take_take]
    congr 1
    omega
theorem ops_at {w : World} {B n c : Nat} {A : Option Addr} {l : List OpI} (h : Rd w B 3 A n c (l.flatMap aOp)) {i : Nat} {o : OpI} (hi : l[i]? = some o) (hn : n = l.length) :
    ∃ b k, A = some ⟨b, k, none⟩ ∧ b < B ∧ w.cell? ⟨b, k + i * 3, none⟩ = some (.int .i64 o.1) ∧ w.cell? ⟨b, k + i * 3 + 1, none⟩ = some (.string o.2.1) ∧ w.cell? ⟨b, k + i * 3 + 2, none⟩ = some (.string o.2.2) := by
  subst hn
  obtain ⟨b, k, e, hb, hc⟩ := h.at_ (lt_get hi)
  have g := fun j (hj : j < 3) => flat_get aOp (sz := 3) (fun _ => rfl) hi (k := j) hj
  exact ⟨b, k, e, hb, hc _ _ (g 0 (by omega)), by rw [Nat.add_assoc]; exact hc _ _ (g 1 (by omega)), by rw [Nat.add_assoc]; exact hc _ _ (g 2 (by omega))⟩
theorem lvs_at {w : World} {g : Nat} {m : List Int} (h : Bk w g (lvs m).toArray 3) {i : Nat} (hi : i < m.length) : w.cell? ⟨g, i, none⟩ = some (.int .i64 (m.getD i 0)) := by
  rw [h.cell i, List.getD_eq_getElem?_getD, List.getElem?_eq_getElem hi]
  simp [lvs, hi]
theorem small_at {m : List Int} {k : Int} (h : Small m k) (hk : 0 ≤ k) (i : Nat) : -k ≤ m.getD i 0 ∧ m.getD i 0 ≤ k := by
  rw [List.getD_eq_getElem?_getD]
  cases hi : m[i]? with
  | none => simp; omega
  | some y => have := h y (List.mem_of_getElem? hi); simpa using this

/-- What the first loop keeps. -/
structure BI (w wx : World) (n : Nat) (s : List Int × List Nat) (v : Value) : Prop where
  more : Bk wx w.heap.size (lvs s.1).toArray 3
  var : Bk wx (w.heap.size + 1) #[.slice (some ⟨w.heap.size, 0, none⟩) (n + 1) (n + 1)] 32
  beg : wx.ownsRow (w.heap.size + 2) 3 1 v s.2.length (ints s.2)
  below : Below w.heap.size w wx
  len : s.1.length = n + 1
theorem BI.alloc {w wx : World} {n : Nat} {s : List Int × List Nat} {v : Value} (h : BI w wx n s v) (o : Obj) : BI w (wx.alloc o) n s v := ⟨h.more.alloc o, h.var.alloc o, h.beg.alloc o, h.below.alloc h.below.size o, h.len⟩
theorem BI.drew {w wx : World} {n : Nat} {s : List Int × List Nat} {v : Value} (h : BI w wx n s v) : BI w wx.drew n s v := ⟨h.more, h.var, own_drew h.beg, h.below.drew, h.len⟩
theorem BI.add {w wx : World} {n i : Nat} {d : Int} {s : List Int × List Nat} {v : Value} (h : BI w wx n s v) : BI w (wx.setCell ⟨w.heap.size, i, none⟩ (.int .i64 (s.1.getD i 0 + d))) n (addAt s.1 i d, s.2) v := by
  refine ⟨?_, h.var.other (a := ⟨w.heap.size, i, none⟩) (by show w.heap.size + 1 ≠ w.heap.size; omega) _, own_set h.beg (by show w.heap.size < _; omega) _, h.below.setCell (Nat.le_refl _) _, by rw [addAt_len]; exact h.len⟩
  have := h.more.set i (.int .i64 (s.1.getD i 0 + d))
  rw [lvs_set] at this
  exact this

theorem BI.app {w w1 w8 : World} {n j : Nat} {m : List Int} {bg : List Nat} {v v9 : Value} {o : Obj} (h : BI w w1 n (m, bg) v) (hg : (w1.alloc o).grownBy w8 v.ownBlock) (hown : w8.ownsRow (w.heap.size + 2) 3 1 v9 (bg.length + 1) (ints bg ++ [.int .i64 (j : Int)])) : BI w w8 n (m, bg ++ [j]) v9 := by
  have hb := h.beg.alloc o
  have hs := hg.size
  simp only [World.size_alloc] at hs
  have k : ∀ g, g < w.heap.size + 2 → g < w1.heap.size → w8.heap[g]? = w1.heap[g]? := fun g h1 h2 => (hg.block g (by simp; omega) fun e => by have := (hb.lt g e.symm).1; omega).trans (Below.heap_alloc _ _ _ h2)
  refine ⟨(k _ (by omega) h.more.lt).trans h.more, (k _ (by omega) h.var.lt).trans h.var, ?_, below_of_own (h.below.alloc h.below.size o) hg hb (size_alloc h.below.size) (by omega), h.len⟩
  show w8.ownsRow _ _ _ v9 (bg ++ [j]).length (ints (bg ++ [j]))
  rw [List.length_append, ints_app]
  exact hown
theorem BI.cut {w wx : World} {n k c : Nat} {A : Option Addr} {s : List Int} {bg : List Nat} (h : BI w wx n (s, bg) (.slice A bg.length c)) (hk : k ≤ bg.length) (h0 : 0 < bg.length) : BI w wx n (s, bg.take k) (.slice A k c) := by
  refine ⟨h.more, h.var, ?_, h.below, h.len⟩
  have := own_pre h.beg hk h0
  show wx.ownsRow _ _ _ _ (bg.take k).length (ints (bg.take k))
  rw [List.length_take, Nat.min_eq_left hk]
  unfold ints at *
  rw [List.map_take]
  exact this

set_option maxRecDepth 100000 in
set_option maxHeartbeats 4000000 in
theorem behindNotOf_any {w : World} {A : Option Addr} {c : Nat} {l : List OpI} (h : Rd w w.heap.size 3 A l.length c (l.flatMap aOp)) (hl : l.length ≤ 100000) :
    Calls Tryz.prog 55 #[.slice A l.length c] w fun e w' => e = .returned (.func (.func 95) #[] #[.pointer (some ⟨w.heap.size + 1, 0, none⟩)]) ∧
      Bk w' w.heap.size (lvs (psum (moreP l) l.length)).toArray 3 ∧ Bk w' (w.heap.size + 1) #[.slice (some ⟨w.heap.size, 0, none⟩) (l.length + 1) (l.length + 1)] 32 ∧ Below w.heap.size w w' := by
  obtain ⟨i0, hi0, hz0, hz1, hz2⟩ := info_parts info_int
  have hmk : ∀ W : World, (Instr.makeSlice 32 (.int .i64 ((l.length : Int) + 1)) (.int .i64 ((l.length : Int) + 1))).run Tryz.prog W = .ok (.slice (some ⟨W.heap.size, 0, none⟩) (l.length + 1) (l.length + 1)) (W.alloc (.cells (lvs (List.replicate (l.length + 1) 0)).toArray 3)) := fun W => by
    have := run_make (P := Tryz.prog) W 32 3 i0 _ Tryz.underlying32 hi0 hz0 .i64 .i64 (l.length + 1) ((l.length : Int) + 1) (by omega) (by omega) (by rw [hz2]; omega) (by omega)
    have e1 : ((l.length : Int) + 1).toNat = l.length + 1 := by omega
    rw [e1, hz1, Nat.mul_one] at this
    rw [this]
    congr 3
    apply Array.ext'
    show (madeCells #[.int .i64 0] (l.length + 1)).toList = _
    rw [toList_madeCells_one]
    simp [lvs]
  go_enter Tryz.func55, Tryz.ntmps55
  go_wp2_with fail
  have hb0 : Below w.heap.size w ((w.alloc (.cells (lvs (List.replicate (l.length + 1) 0)).toArray 3)).alloc (.cells #[.slice (some ⟨w.heap.size, 0, none⟩) (l.length + 1) (l.length + 1)] 32)) := ((Below.refl _ w).alloc (Nat.le_refl _) _).alloc (by simp) _
  have d0 := (Bk.new w (lvs (List.replicate (l.length + 1) 0)).toArray 3).alloc (.cells #[.slice (some ⟨w.heap.size, 0, none⟩) (l.length + 1) (l.length + 1)] 32)
  have d1 := Bk.new (w.alloc (.cells (lvs (List.replicate (l.length + 1) 0)).toArray 3)) #[.slice (some ⟨w.heap.size, 0, none⟩) (l.length + 1) (l.length + 1)] 32
  simp only [World.size_alloc] at d1
  generalize (w.alloc (.cells (lvs (List.replicate (l.length + 1) 0)).toArray 3)).alloc (.cells #[.slice (some ⟨w.heap.size, 0, none⟩) (l.length + 1) (l.length + 1)] 32) = w0 at *
  have hB0 : BI w w0 l.length (List.replicate (l.length + 1) 0, []) (.slice none 0 0) := ⟨d0, d1, World.ownsRow_nil _ _ _ _, hb0, by simp⟩
  have hll : (l.length : Int) ≤ 9223372036854775807 := by omega
  clear hmk d0 d1 hb0
  go_loopw [4, 15] (fun v vi wx => ∃ j : Nat, vi = .int .i64 j ∧ j ≤ l.length ∧ BI w wx l.length (mrun (List.replicate (l.length + 1) 0, []) 0 (l.take j)) v) (fun _ vi _ => l.length - (intOf vi).toNat)
  case atStart => exact ⟨0, rfl, Nat.zero_le _, hB0⟩
  case round =>
    obtain ⟨j, rfl, hj, hB⟩ := hrel
    by_cases hjl : j < l.length
    · have hdj : (j : Int) < (l.length : Int) := by omega
      obtain ⟨⟨k, on, ox⟩, ho⟩ : ∃ o, l[j]? = some o := ⟨_, List.getElem?_eq_getElem hjl⟩
      obtain ⟨b, o, rfl, hbw, c0, c1, c2⟩ := ops_at (h.below hB.below) ho rfl
      have hsn : Hid (mrun (List.replicate (l.length + 1) 0, []) 0 (l.take (j + 1)) = mstep (mrun (List.replicate (l.length + 1) 0, []) 0 (l.take j)) j k) := Lib.hid (by
        rw [List.take_add_one, ho, Option.toList_some, mrun_snoc, List.length_take, Nat.zero_add, Nat.min_eq_left (by omega)])
      have hsm : Small (mrun (List.replicate (l.length + 1) 0, []) 0 (l.take j)).1 200000 := fun x hx => by
        have := mrun_small (l.take j) (List.replicate (l.length + 1) 0, []) 0 0 (by omega) (fun y hy => by rw [List.mem_replicate] at hy; omega) x hx
        rw [List.length_take] at this
        omega
      have hlt := mrun_lt (l.take j) (List.replicate (l.length + 1) 0, []) 0 (fun b hb => by cases hb)
      rw [List.length_take, Nat.min_eq_left (by omega), Nat.zero_add] at hlt
      have hbl := mrun_beg (l.take j) (List.replicate (l.length + 1) 0, []) 0
      rw [List.length_take, Nat.min_eq_left (by omega), List.length_nil, Nat.zero_add] at hbl
      obtain ⟨⟨m, bg⟩, hst⟩ : ∃ st, mrun (List.replicate (l.length + 1) 0, []) 0 (l.take j) = st := ⟨_, rfl⟩
      rw [hst] at hB hsn hsm hlt hbl
      clear hst
      simp only at hsm hlt hbl
      have hB1 := hB.alloc (.cells #[.int .i64 k, .string on, .string ox] 132)
      have x1 := Bk.new wr #[.int .i64 k, .string on, .string ox] 132
      obtain ⟨A3, c3, rfl, hRb⟩ := Rd.own hB.beg
      have hcap := hRb.cap
      have hcapm := hRb.capm
      simp only at hcap
      clear hRb
      go_upto_region 6 with (fail)
      clear c0 c1 c2
      generalize hq1 : wr.heap.size = q1 at *
      generalize wr.alloc (.cells #[.int .i64 k, .string on, .string ox] 132) = w1 at *
      have y0 := x1.cell 0
      have hws := hB1.below.size
      have hw2 : w.heap.size + 2 ≤ w1.heap.size := by have := hB1.var.lt; omega
      by_cases hk : k = 1 ∨ k = 2 ∨ k = 3
      · have hms : Hid (mstep (m, bg) j k = (m, bg ++ [j])) := Lib.hid (by unfold mstep; rw [if_pos hk])
        rcases hk with rfl | rfl | rfl
        all_goals
          go_wp2_with (at_builtin; go_loud (refine wpList_append_src _ rfl (.tmp 29) (.tmp 31) 32 32 rfl (w.heap.size + 2) 3 i0 (.int .i64 0) 1 8 Tryz.underlying32 hi0 hz0 hz1 hz2 rfl (by decide) (.slice A3 bg.length c3) bg.length (ints bg) rfl (hB1.beg.alloc _) _ 1 [.int .i64 (j : Int)] rfl (Src.ofSlice _ Tryz.underlying32 _ 1 1 _ rfl (cells_new1 _ _ _) (ints_one [j])) (by simp only [maxLen]; omega) (by omega) (size_alloc hw2) ?_; intro v9 w8 hown8 hg8 hat8))
          exact ⟨⟨j + 1, by go_num, by omega, by rw [hsn.out, hms.out]; exact hB1.app hg8 hown8⟩, by simp [intOf]; omega⟩
      · have hk1 : (k == 1) = false := by simp; omega
        have hk2 : (k == 2) = false := by simp; omega
        have hk3 : (k == 3) = false := by simp; omega
        by_cases hk4 : k = 4 ∨ k = 5 ∨ k = 6
        · by_cases h2 : bg.length < 2
          · have hms : Hid (mstep (m, bg) j k = (m, bg)) := Lib.hid (by unfold mstep; rw [if_neg hk, if_pos hk4, if_pos h2])
            have hla : (bg.length : Int) - 1 < 1 := by omega
            rcases hk4 with rfl | rfl | rfl
            all_goals
              go_wp2_with fail
              exact ⟨⟨j + 1, by go_num, by omega, by rw [hsn.out, hms.out]; exact hB1⟩, by simp [intOf]; omega⟩
          · obtain ⟨nn, hnn⟩ : ∃ nn : Nat, (bg.length : Int) - 1 = (nn : Int) := ⟨bg.length - 1, by omega⟩
            have hne : bg.length - 1 = nn := by omega
            have hla : ¬ ((nn : Int) < 1) := by omega
            have hnc : (nn : Int) ≤ (c3 : Int) := by omega
            have hnl : nn ≤ bg.length := by omega
            have hn0 : 0 < bg.length := by omega
            have hxb := Lib.hid (hB1.cut hnl hn0)
            by_cases hk6 : k = 6
            · subst hk6
              obtain ⟨p, hp⟩ : ∃ p, bg[nn]? = some p := ⟨_, List.getElem?_eq_getElem (by omega)⟩
              have hpj := hlt p (List.mem_of_getElem? hp)
              have hlm := hB1.len
              simp only at hlm
              have hms : Hid (mstep (m, bg) j 6 = (addAt (addAt m p 1) j (-1), bg.take nn)) := Lib.hid (by
                unfold mstep
                rw [if_neg hk, if_pos hk4, if_neg h2, if_pos rfl]
                simp only [hne]
                rw [List.getD_eq_getElem?_getD, hp]
                rfl)
              replace hne := Lib.hid hne
              obtain ⟨A4, c4, e4, hR4⟩ := Rd.own hB1.beg
              injection e4 with e4 _ e4'
              subst e4 e4'
              obtain ⟨ob, oo, u, rfl, _, hu, hcb⟩ := hR4.get (k := nn) (by simp only; omega)
              have hup : u = .int .i64 (p : Int) := by
                simp only [ints, List.getElem?_map, hp, Option.map_some, Option.some.injEq] at hu
                exact hu.symm
              subst hup
              have hmp := lvs_at hB1.more (i := p) (by simp only; omega)
              simp only at hmp
              have hfz := hB1.more.fz p
              have hv0 := hB1.var.cell'
              have hpi : (p : Int) < (l.length : Int) + 1 := by omega
              have hni : (nn : Int) < (bg.length : Int) := by omega
              have hsb := small_at hsm (by omega) p
              obtain ⟨z, hz⟩ : ∃ z, m.getD p 0 = z := ⟨_, rfl⟩
              rw [hz] at hmp hsb
              obtain ⟨hz0, hz1⟩ := hsb
              have hA1 := hB1.add (i := p) (d := 1)
              simp only [hz] at hA1
              replace hA1 := Lib.hid hA1
              clear hz
              go_upto_region 17 with (fail)
              go_region
              have hA2 := Lib.hid hA1.out.drew
              clear hmp hfz hv0 hA1
              generalize (World.setCell w1 ⟨w.heap.size, p, none⟩ (.int .i64 (z + 1))).drew = w2 at *
              have hlm2 : (addAt m p 1).length = l.length + 1 := hA2.out.len
              have hmj := lvs_at hA2.out.more (i := j) (by show j < (addAt m p 1).length; omega)
              simp only at hmj
              have hsb2 : Small (addAt m p 1) 200001 := addAt_small hsm p 1 (by omega) (by omega)
              obtain ⟨hz2, hz3⟩ := small_at hsb2 (by omega) j
              obtain ⟨z2, hz4⟩ : ∃ z, (addAt m p 1).getD j 0 = z := ⟨_, rfl⟩
              have hA3 := hA2.out.add (i := j) (d := -1)
              have hfz := hA2.out.more.fz j
              have hv0 := hA2.out.var.cell'
              simp only [hz4] at hA3
              rw [hz4] at hmj hz2 hz3
              replace hA3 := Lib.hid hA3
              clear hz4 hsb2
              have hjp : (j : Int) < (l.length : Int) + 1 := by omega
              go_wp2_with fail
              refine ⟨⟨j + 1, by go_num, by omega, ?_⟩, by simp [intOf]; omega⟩
              rw [hsn.out, hms.out]
              have hA4 := hA3.out
              rw [← Int.sub_eq_add_neg] at hA4
              clear hxb
              have hc : nn = (bg.take nn).length := by rw [List.length_take]; omega
              exact hA4.cut hnl hn0
            · have hms : Hid (mstep (m, bg) j k = (m, bg.take nn)) := Lib.hid (by unfold mstep; rw [if_neg hk, if_pos hk4, if_neg h2, if_neg hk6]; simp only [hne])
              replace hne := Lib.hid hne
              have hk6' : (k == 6) = false := by simpa using hk6
              rcases hk4 with rfl | rfl | rfl
              · go_wp2_with fail
                exact ⟨⟨j + 1, by go_num, by omega, by rw [hsn.out, hms.out]; exact hxb.out⟩, by simp [intOf]; omega⟩
              · go_wp2_with fail
                exact ⟨⟨j + 1, by go_num, by omega, by rw [hsn.out, hms.out]; exact hxb.out⟩, by simp [intOf]; omega⟩
              · exact absurd rfl hk6
        · have hms : Hid (mstep (m, bg) j k = (m, bg)) := Lib.hid (by unfold mstep; rw [if_neg hk, if_neg hk4])
          have hk4' : (k == 4) = false := by simp; omega
          have hk5' : (k == 5) = false := by simp; omega
          have hk6' : (k == 6) = false := by simp; omega
          go_wp2_with fail
          exact ⟨⟨j + 1, by go_num, by omega, by rw [hsn.out, hms.out]; exact hB1⟩, by simp [intOf]; omega⟩
    · obtain rfl : j = l.length := by omega
      have hdj : ¬ (((l.length : Nat) : Int) < (l.length : Int)) := by omega
      rw [List.take_length] at hB
      clear hll
      obtain ⟨m0, hm0⟩ : ∃ m0, mrun (List.replicate (l.length + 1) 0, []) 0 l = m0 := ⟨_, rfl⟩
      have hsm : Small (mrun (List.replicate (l.length + 1) 0, []) 0 l).1 200000 := fun x hx => by
        have := mrun_small l (List.replicate (l.length + 1) 0, []) 0 0 (by omega) (fun y hy => by rw [List.mem_replicate] at hy; omega) x hx
        omega
      have hmo : Hid (moreP l = m0.1) := Lib.hid (by rw [moreP, hm0])
      rw [hm0] at hB hsm
      clear hm0
      go_wp2_with fail
      go_loopw [63] (fun vi wx => ∃ j : Nat, vi = .int .i64 j ∧ j ≤ l.length ∧ Bk wx w.heap.size (lvs (psum m0.1 j)).toArray 3 ∧ Bk wx (w.heap.size + 1) #[.slice (some ⟨w.heap.size, 0, none⟩) (l.length + 1) (l.length + 1)] 32 ∧ Below w.heap.size w wx) (fun vi _ => l.length - (intOf vi).toNat)
      case atStart => exact ⟨0, rfl, Nat.zero_le _, hB.more, hB.var, hB.below⟩
      case round =>
        obtain ⟨j, rfl, hj, hM, hV, hbx⟩ := hrel
        by_cases hjl : j < l.length
        · have hdj : (j : Int) < (l.length : Int) := by omega
          have hlp : (psum m0.1 j).length = l.length + 1 := by rw [psum_len]; exact hB.len
          have p0 := lvs_at hM (i := j) (by omega)
          have p1 := lvs_at hM (i := j + 1) (by omega)
          have pf := hM.fz (j + 1)
          have v0 := hV.cell'
          obtain ⟨hs1, hs2⟩ := psum_small hsm (by omega) j
          obtain ⟨hb1, hb1'⟩ := small_at hs1 (by omega) j
          obtain ⟨hb2, hb2'⟩ := small_at hs1 (by omega) (j + 1)
          have hps : Hid (psum m0.1 (j + 1) = (psum m0.1 j).set (j + 1) ((psum m0.1 j).getD (j + 1) 0 + (psum m0.1 j).getD j 0)) := Lib.hid rfl
          have hls := Lib.hid (hM.set (j + 1) (.int .i64 ((psum m0.1 j).getD (j + 1) 0 + (psum m0.1 j).getD j 0)))
          obtain ⟨z1, hz1⟩ : ∃ z, (psum m0.1 j).getD j 0 = z := ⟨_, rfl⟩
          obtain ⟨z2, hz2⟩ : ∃ z, (psum m0.1 j).getD (j + 1) 0 = z := ⟨_, rfl⟩
          rw [hz1] at p0 hb1 hb1' hps hls
          rw [hz2] at p1 hb2 hb2' hps hls
          clear hz1 hz2 hs1 hs2
          have hji : (j : Int) < (l.length : Int) + 1 := by omega
          have hji2 : (j : Int) + 1 < (l.length : Int) + 1 := by omega
          go_upto_region 24 with (fail)
          go_region
          go_wp2_with fail
          refine ⟨⟨j + 1, by go_num, by omega, ?_, hV.other (a := ⟨w.heap.size, j + 1, none⟩) (by show w.heap.size + 1 ≠ w.heap.size; omega) _, (hbx.setCell (Nat.le_refl _) _).drew⟩, by simp [intOf]; omega⟩
          rw [hps.out, ← lvs_set]
          exact hls.out
        · obtain rfl : j = l.length := by omega
          have hdj : ¬ (((l.length : Nat) : Int) < (l.length : Int)) := by omega
          go_wp2_with fail
          go_ret
          exact ⟨rfl, by rw [hmo.out]; exact hM, hV, hbx⟩
theorem behind1_any {w : World} {g b : Nat} {l : List OpI} (hm : Bk w g (lvs (psum (moreP l) l.length)).toArray 3) (hv : Bk w b #[.slice (some ⟨g, 0, none⟩) (l.length + 1) (l.length + 1)] 32) {i : Nat} (hi : i < l.length) :
    Calls Tryz.prog 95 #[.int .i64 (i : Int), .pointer (some ⟨b, 0, none⟩)] w fun e w' => e = .returned (.bool (behindP l i)) ∧ w' = w := by
  have c0 := hv.cell'
  have hlen : (psum (moreP l) l.length).length = l.length + 1 := by rw [psum_len, moreP, mrun_len, List.length_replicate]
  have c1 := lvs_at hm (i := i) (by omega)
  have hii : (i : Int) < ((l.length + 1 : Nat) : Int) := by omega
  have hii2 : (i : Int) < (l.length : Int) + 1 := by omega
  obtain ⟨z, hz⟩ : ∃ z, (psum (moreP l) l.length).getD i 0 = z := ⟨_, rfl⟩
  have hbe : Hid (behindP l i = decide (0 < z)) := Lib.hid (by rw [behindP, hz])
  rw [hz] at c1
  clear hz hlen
  go_enter Tryz.func95, Tryz.ntmps95
  go_wp2_with fail
  go_ret
  rw [hbe.out]
  exact ⟨rfl, rfl⟩
end Go.Proofs.YteafdhpcnpfmkaaGreat
