/- Layer 10: levels by rounds, as the document has them, walked. Conditions: edges between the places that there are; at most 255 places, 100000 edges. -/
import Derived.BigQuiet
import Derived.Deep.QuietTactic
import Derived.Deep.Cut
import Derived.Deep.DeepCutAuto
import Derived.IntWalk
import Derived.Test.YtinfbimfiaegdaaGreatWarP
import Derived.Test.YtinfbimfiaegdaaGreatLevels
namespace Go.Proofs.YtinfbimfiaegdaaGreat
open Go.RowKit

theorem lvAt_get {v : List Int} {i : Nat} (h : i < v.length) : v[i]? = some (lvAt v i) := by
  unfold lvAt
  rw [List.getD_eq_getElem?_getD, List.getElem?_eq_getElem h]
  rfl
theorem lvAt_out {v : List Int} {i : Nat} (h : v.length ≤ i) : lvAt v i = 0 := by
  unfold lvAt
  rw [List.getD_eq_getElem?_getD, List.getElem?_eq_none h]
  rfl
theorem lvAt_set {v : List Int} {i j : Nat} {z : Int} (h : i < v.length) : lvAt (v.set i z) j = if j = i then z else lvAt v j := by
  unfold lvAt
  rw [List.getD_eq_getElem?_getD, List.getElem?_set]
  by_cases e : i = j
  · subst e; simp [h]
  · have e' : ¬ j = i := fun q => e q.symm
    simp [e, e', List.getD_eq_getElem?_getD]
theorem lvs_putZ (v : List Int) (i : Nat) (z : Int) : (lvs v).toArray.setIfInBounds i (.int .i64 z) = (lvs (v.set i z)).toArray := by
  simp [lvs, List.map_set]
theorem lvs_cell {w : World} {g i : Nat} {v : List Int} (h : Bk w g (lvs v).toArray 3) (hi : i < v.length) : w.cell? ⟨g, i, none⟩ = some (.int .i64 (lvAt v i)) := by
  rw [h.cell i]
  simp [lvs, lvAt_get hi]
/-- So many copied. -/
def cpy (v : List Int) (i : Nat) : List Int := v.take i ++ List.replicate (v.length - i) 0
theorem cpy_len {v : List Int} {i : Nat} (h : i ≤ v.length) : (cpy v i).length = v.length := by simp [cpy]; omega
theorem cpy_zero (v : List Int) : cpy v 0 = List.replicate v.length 0 := by simp [cpy]
theorem cpy_all (v : List Int) : cpy v v.length = v := by simp [cpy]
theorem cpy_succ {v : List Int} {i : Nat} (h : i < v.length) : (cpy v i).set i (lvAt v i) = cpy v (i + 1) := by
  unfold cpy
  rw [List.set_append_right _ _ (by simp; omega)]
  rw [List.take_add_one, lvAt_get h, Option.toList_some, List.append_assoc]
  congr 1
  rw [List.length_take, Nat.min_eq_left (by omega), Nat.sub_self, show v.length - i = (v.length - (i + 1)) + 1 by omega, List.replicate_succ, List.set_cons_zero]
  rfl
/-- A round, up to some edge. -/
structure JPart (l : List Ed) (v u : Nat → Int) : Prop where
  up : ∀ i, v i ≤ u i
  asks : ∀ e ∈ l, v (tt e) + rise e ≤ u (fr e)
  only : ∀ i, u i = v i ∨ ∃ e ∈ l, fr e = i ∧ u i = v (tt e) + rise e
theorem JPart.start (v : Nat → Int) : JPart [] v v := ⟨fun _ => Int.le_refl _, fun e he => (by cases he), fun _ => .inl rfl⟩
theorem JPart.keep {l : List Ed} {v u : Nat → Int} {e : Ed} (h : JPart l v u) (hx : ¬ v (tt e) + rise e > u (fr e)) : JPart (l ++ [e]) v u := by
  refine ⟨h.up, fun d hd => ?_, fun i => ?_⟩
  · rcases List.mem_append.1 hd with hd | hd
    · exact h.asks d hd
    · rw [List.mem_singleton.1 hd]; omega
  · rcases h.only i with q | ⟨d, hd, q⟩
    · exact .inl q
    · exact .inr ⟨d, List.mem_append_left _ hd, q⟩
theorem JPart.put {l : List Ed} {v u s : Nat → Int} {e : Ed} (h : JPart l v u) (hx : v (tt e) + rise e > u (fr e)) (hs : ∀ j, s j = if j = fr e then v (tt e) + rise e else u j) : JPart (l ++ [e]) v s := by
  refine ⟨fun i => ?_, fun d hd => ?_, fun i => ?_⟩
  · rw [hs]
    have := h.up i
    split
    · rename_i q; rw [q] at this ⊢; omega
    · exact this
  · rw [hs]
    rcases List.mem_append.1 hd with hd | hd
    · have := h.asks d hd
      split
      · rename_i q; rw [q] at this; omega
      · exact this
    · rw [List.mem_singleton.1 hd, if_pos rfl]; omega
  · rw [hs]
    by_cases q : i = fr e
    · rw [if_pos q]; exact .inr ⟨e, by simp, q.symm, rfl⟩
    · rw [if_neg q]
      rcases h.only i with q | ⟨d, hd, q⟩
      · exact .inl q
      · exact .inr ⟨d, List.mem_append_left _ hd, q⟩
theorem JPart.bound {l : List Ed} {v u : Nat → Int} {k : Int} (h : JPart l v u) (hv : ∀ i, 0 ≤ v i ∧ v i ≤ k) : ∀ i, 0 ≤ u i ∧ u i ≤ k + 1 := fun i => by
  have h1 := h.up i
  have h2 := hv i
  rcases h.only i with q | ⟨d, _, _, q⟩
  · omega
  · have := hv (tt d)
    have := rise_ge d
    omega

set_option maxRecDepth 100000 in
set_option maxHeartbeats 4000000 in
theorem jac_any {w : World} {n c : Nat} {A : Option Addr} {l : List Ed} (h : Rd w w.heap.size 3 A l.length c (ecells l)) (hi : InR n l) (hn : n ≤ 255) (hl : l.length ≤ 100000) :
    Calls Tryz.prog 15 #[.int .i64 (n : Int), .slice A l.length c] w fun e w' => (∃ g, e = .returned (.slice (some ⟨g, 0, none⟩) n n) ∧ ∃ v : List Int, v.length = n ∧ Bk w' g (lvs v).toArray 3 ∧ JRun l (fun _ => 0) (n + 1) (lvAt v)) ∧ Below w.heap.size w w' := by
  obtain ⟨i1, hi1, hy0, hy1, hy2⟩ := info_parts info_int
  have hmk : ∀ W : World, (Instr.makeSlice 41 (.int .i64 (n : Int)) (.int .i64 (n : Int))).run Tryz.prog W = .ok (.slice (some ⟨W.heap.size, 0, none⟩) n n) (W.alloc (.cells (lvs (List.replicate n 0)).toArray 3)) := fun W => by
    have := run_make (P := Tryz.prog) W 41 3 i1 _ Tryz.underlying41 hi1 hy0 .i64 .i64 n n (by omega) (Int.le_refl _) (by rw [hy2]; omega) (by omega)
    rw [Int.toNat_natCast, hy1, Nat.mul_one] at this
    rw [this]
    congr 3
    apply Array.ext'
    show (madeCells #[.int .i64 0] n).toList = _
    rw [toList_madeCells_one]
    simp [lvs]
  go_enter Tryz.func15, Tryz.ntmps15
  go_wp2_with fail
  have hb0 : Below w.heap.size w (w.alloc (.cells (lvs (List.replicate n 0)).toArray 3)) := (Below.refl _ w).alloc (Nat.le_refl _) _
  have hk0 := Bk.new w (lvs (List.replicate n 0)).toArray 3
  generalize w.alloc (.cells (lvs (List.replicate n 0)).toArray 3) = w0 at *
  have hz : ∀ i, lvAt (List.replicate n 0) i = 0 := fun i => by
    by_cases q : i < n
    · unfold lvAt; simp [q]
    · exact lvAt_out (by simp; omega)
  go_loopw [5, 6] (fun vo vk wx => ∃ (k : Nat) (v : List Int) (g : Nat), vo = .slice (some ⟨g, 0, none⟩) n n ∧ vk = .int .i64 k ∧ k ≤ n + 1 ∧ v.length = n ∧ Bk wx g (lvs v).toArray 3 ∧ w.heap.size ≤ g ∧ JRun l (fun _ => 0) k (lvAt v) ∧ (∀ i, 0 ≤ lvAt v i ∧ lvAt v i ≤ k) ∧ Below w.heap.size w wx) (fun _ vk _ => n + 1 - (intOf vk).toNat)
  case atStart => exact ⟨0, _, _, rfl, rfl, Nat.zero_le _, by simp, hk0, Nat.le_refl _, by rw [show lvAt (List.replicate n 0) = fun _ => 0 from funext hz]; exact .nil, fun i => by rw [hz]; omega, hb0⟩
  case round =>
    clear hk0 hb0
    obtain ⟨k, v, g, rfl, rfl, hk, hvn, hkv, hg, hJ, hbd, hbx⟩ := hrel
    by_cases hkn : k ≤ n
    · have hdk : (k : Int) ≤ (n : Int) := by omega
      have hgw := hkv.lt
      go_upto_region 6 with (fail)
      have hb1 := hbx.alloc hbx.size (.cells (lvs (List.replicate n 0)).toArray 3)
      have hk1 := hkv.alloc (.cells (lvs (List.replicate n 0)).toArray 3)
      have hn1 := Bk.new wr (lvs (List.replicate n 0)).toArray 3
      have hle := hbx.size
      generalize hwn : wr.alloc (.cells (lvs (List.replicate n 0)).toArray 3) = w1 at *
      clear hwn hkv hbx
      rw [show List.replicate n 0 = cpy v 0 by rw [cpy_zero, hvn]] at hn1
      generalize wr.heap.size = g2 at *
      have hgg : g ≠ g2 := by omega
      go_wp2_with fail
      go_loopw [8] (fun vi wx => ∃ i : Nat, vi = .int .i64 i ∧ i ≤ n ∧ Bk wx g2 (lvs (cpy v i)).toArray 3 ∧ Bk wx g (lvs v).toArray 3 ∧ Below w.heap.size w wx) (fun vi _ => n - (intOf vi).toNat)
      case atStart => exact ⟨0, rfl, Nat.zero_le _, hn1, hk1, hb1⟩
      case round =>
        clear hn1 hk1 hb1
        obtain ⟨i, rfl, hin, hn1, hk1, hb1⟩ := hrel
        by_cases hlt : i < n
        · have hdi : (i : Int) < (n : Int) := by omega
          have c1 := lvs_cell hk1 (i := i) (by omega)
          have c2 := lvs_cell hn1 (i := i) (by rw [cpy_len (by omega)]; omega)
          have f2 := hn1.fz i
          have hn9 := hn1.set i (.int .i64 (lvAt v i))
          rw [lvs_putZ, cpy_succ (by omega)] at hn9
          have hk9 := hk1.other (a := ⟨g2, i, none⟩) hgg (.int .i64 (lvAt v i))
          have hb9 : Below w.heap.size w (wr.setCell ⟨g2, i, none⟩ (.int .i64 (lvAt v i))) := hb1.setCell hle _
          replace hn9 := Lib.hid hn9
          replace hk9 := Lib.hid hk9
          replace hb9 := Lib.hid hb9
          clear hn1 hk1 hb1
          go_wp2_with fail
          exact ⟨⟨i + 1, by go_num, by omega, hn9.out, hk9.out, hb9.out⟩, by simp [intOf]; omega⟩
        · obtain rfl : i = n := by omega
          have hdi : ¬ ((i : Int) < (i : Int)) := by omega
          have hcp : cpy v i = v := by rw [← hvn]; exact cpy_all v
          rw [hcp] at hn1
          clear hcp
          go_wp2_with fail
          go_loopw [9] (fun vj wx => ∃ (j : Nat) (u : List Int), vj = .int .i64 j ∧ j ≤ l.length ∧ u.length = i ∧ Bk wx g2 (lvs u).toArray 3 ∧ Bk wx g (lvs v).toArray 3 ∧ JPart (l.take j) (lvAt v) (lvAt u) ∧ Below w.heap.size w wx) (fun vj _ => l.length - (intOf vj).toNat)
          case atStart => exact ⟨0, v, rfl, Nat.zero_le _, hvn, hn1, hk1, JPart.start _, hb1⟩
          case round =>
            clear hn1 hk1 hb1
            obtain ⟨j, u, rfl, hjl, hun, hn1, hk1, hP, hb1⟩ := hrel
            by_cases hlt : j < l.length
            · have hdj : (j : Int) < (l.length : Int) := by omega
              obtain ⟨e, he⟩ : ∃ e, l[j]? = some e := ⟨_, List.getElem?_eq_getElem hlt⟩
              have hem := List.mem_of_getElem? he
              have hfe : e.1 = ((fr e : Nat) : Int) := by have := hi e hem; unfold fr; omega
              have hte : e.2.1 = ((tt e : Nat) : Int) := by have := hi e hem; unfold tt; omega
              have hfn := hi.fr hem
              have htn := hi.tt hem
              have hfi : ((fr e : Nat) : Int) < (i : Int) := by omega
              have hti : ((tt e : Nat) : Int) < (i : Int) := by omega
              obtain ⟨b, o, rfl, hb, c0, c1, c2⟩ := rd_edge (h.below hb1) he
              rw [hfe] at c0
              rw [hte] at c1
              have m0 := lvs_cell hk1 (i := tt e) (by omega)
              have m1 := lvs_cell hn1 (i := fr e) (by omega)
              have m2 := hn1.fz (fr e)
              have hbt := hbd (tt e)
              have hru := rise_ge e
              have htk : l.take (j + 1) = l.take j ++ [e] := by rw [List.take_add_one, he]; rfl
              have hkeep : Hid (¬ lvAt v (tt e) + rise e > lvAt u (fr e) → JPart (l.take (j + 1)) (lvAt v) (lvAt u)) := Lib.hid fun q => by rw [htk]; exact hP.keep q
              have hput : Hid (lvAt v (tt e) + rise e > lvAt u (fr e) → JPart (l.take (j + 1)) (lvAt v) (lvAt (u.set (fr e) (lvAt v (tt e) + rise e)))) := Lib.hid fun q => by
                rw [htk]
                exact hP.put q fun i2 => lvAt_set (by omega)
              have hn9 := hn1.set (fr e) (.int .i64 (lvAt v (tt e) + rise e))
              rw [lvs_putZ] at hn9
              have hk9 := hk1.other (a := ⟨g2, fr e, none⟩) hgg (.int .i64 (lvAt v (tt e) + rise e))
              have hb9 : Below w.heap.size w (wr.setCell ⟨g2, fr e, none⟩ (.int .i64 (lvAt v (tt e) + rise e))) := hb1.setCell hle _
              have hsl : (u.set (fr e) (lvAt v (tt e) + rise e)).length = i := by rw [List.length_set]; exact hun
              replace hn9 := Lib.hid hn9
              replace hk9 := Lib.hid hk9
              replace hb9 := Lib.hid hb9
              replace hsl := Lib.hid hsl
              have hr2 : rise e = if e.2.2 then 1 else 0 := rfl
              clear htk he hfe hte hP hem
              generalize fr e = f at *
              generalize tt e = t at *
              generalize rise e = q at *
              generalize e.2.2 = y at *
              have hbu := Lib.hid hbd
              clear hbd
              generalize lvAt v t = x at *
              cases y with
              | false =>
                obtain rfl : q = 0 := hr2
                rw [Int.add_zero] at hkeep hput hn9 hk9 hb9 hsl
                by_cases hgt : x > lvAt u f
                · replace hput := Lib.hid (hput.out hgt)
                  generalize lvAt u f = z at *
                  go_wp2_with fail
                  exact ⟨⟨j + 1, _, by go_num, by omega, hsl.out, hn9.out, hk9.out, hput.out, hb9.out⟩, by simp [intOf]; omega⟩
                · replace hkeep := Lib.hid (hkeep.out hgt)
                  generalize lvAt u f = z at *
                  go_wp2_with fail
                  exact ⟨⟨j + 1, u, by go_num, by omega, hun, hn1, hk1, hkeep.out, hb1⟩, by simp [intOf]; omega⟩
              | true =>
                obtain rfl : q = 1 := hr2
                by_cases hgt : x + 1 > lvAt u f
                · replace hput := Lib.hid (hput.out hgt)
                  generalize lvAt u f = z at *
                  go_wp2_with fail
                  exact ⟨⟨j + 1, _, by go_num, by omega, hsl.out, hn9.out, hk9.out, hput.out, hb9.out⟩, by simp [intOf]; omega⟩
                · replace hkeep := Lib.hid (hkeep.out hgt)
                  generalize lvAt u f = z at *
                  go_wp2_with fail
                  exact ⟨⟨j + 1, u, by go_num, by omega, hun, hn1, hk1, hkeep.out, hb1⟩, by simp [intOf]; omega⟩
            · obtain rfl : j = l.length := by omega
              have hdj : ¬ (((l.length : Nat) : Int) < (l.length : Int)) := by omega
              rw [List.take_length] at hP
              have hbu := hP.bound hbd
              have hJ2 := JRun.on hJ ⟨hP.up, hP.asks, hP.only⟩
              go_wp2_with fail
              exact ⟨⟨k + 1, u, g2, rfl, by go_num, by omega, hun, hn1, hle, hJ2, fun i2 => by have := hbu i2; omega, hb1⟩, by simp [intOf]; omega⟩
    · obtain rfl : k = n + 1 := by omega
      have hdk : ¬ (((n + 1 : Nat) : Int) ≤ (n : Int)) := by omega
      go_wp2_with fail
      go_ret
      exact ⟨⟨g, rfl, v, hvn, hkv, hJ⟩, hbx⟩
end Go.Proofs.YtinfbimfiaegdaaGreat
