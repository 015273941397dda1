/- Layer 10: the document's ways of edges, walked: a square of places that is filled in place. Conditions: edges between the places that there are; at most 255 places, 100000 edges. -/
import Derived.BigQuiet
import Derived.Deep.QuietTactic
import Derived.Deep.Cut
import Derived.Deep.DeepCutAuto
import Derived.IntWalk
import Derived.Deep.RegionLaw
import Derived.Test.YtinfbimfiaegdaaGreatWarP
import Derived.Test.YtinfbimfiaegdaaGreatEdgeZ
namespace Go.Proofs.YtinfbimfiaegdaaGreat
open Go.RowKit

def rowB (n : Nat) (f : Nat → Bool) : List Bool := (List.range n).map f
theorem rowB_len (n : Nat) (f : Nat → Bool) : (rowB n f).length = n := by simp [rowB]
theorem rowB_get {n j : Nat} {f : Nat → Bool} (hj : j < n) : (rowB n f)[j]? = some (f j) := by simp [rowB, hj]
theorem rowB_false (n : Nat) : List.replicate n false = rowB n fun _ => false := by
  refine List.ext_getElem (by simp [rowB]) fun i h1 h2 => by simp [rowB]
def rowsC (n : Nat) (gl : List Nat) : List Value := gl.map fun g => Value.slice (some ⟨g, 0, none⟩) n n
def upM (M : Nat → Nat → Bool) (i j : Nat) (x : Bool) : Nat → Nat → Bool := fun a b => if a = i ∧ b = j then x else M a b
theorem rowB_set {n i j : Nat} {M : Nat → Nat → Bool} (x : Bool) (hj : j < n) : (bools (rowB n (M i))).setIfInBounds j (.bool x) = bools (rowB n (upM M i j x i)) := by
  apply Array.ext'
  simp only [bools, List.setIfInBounds_toArray]
  refine List.ext_getElem? fun k => ?_
  rw [List.getElem?_set]
  simp only [List.length_map, List.getElem?_map, rowB]
  by_cases hk : k < n
  · by_cases e : j = k
    · subst e; simp [hj, upM]
    · have e' : ¬ k = j := fun q => e q.symm
      simp [e, e', hk, upM]
  · have e : ¬ j = k := by omega
    simp [e, hk]
/-- A square of truth values, each row in a block of its own. -/
structure MxW (w : World) (B n c : Nat) (A : Option Addr) (gl : List Nat) (M : Nat → Nat → Bool) : Prop where
  len : gl.length = n
  outer : Rd w w.heap.size 1 A n c (rowsC n gl)
  row : ∀ (i g : Nat), gl[i]? = some g → B ≤ g ∧ Bk w g (bools (rowB n (M i))) 4
  nd : gl.Nodup
  ap : ∀ g ∈ gl, ∀ b o, A = some ⟨b, o, none⟩ → b ≠ g
section
variable {w w' : World} {B n c : Nat} {A : Option Addr} {gl : List Nat} {M : Nat → Nat → Bool}
theorem MxW.below (h : MxW w B n c A gl M) (hb : Below w.heap.size w w') : MxW w' B n c A gl M :=
  ⟨h.len, (h.outer.below hb).more hb.size, fun i g hi => ⟨(h.row i g hi).1, (h.row i g hi).2.below hb⟩, h.nd, h.ap⟩
theorem MxW.drew (h : MxW w B n c A gl M) : MxW w.drew B n c A gl M := h.below (Below.refl _ w).drew
theorem MxW.at_ (h : MxW w B n c A gl M) {i : Nat} (hi : i < n) : ∃ b o g, A = some ⟨b, o, none⟩ ∧ gl[i]? = some g ∧ w.cell? ⟨b, o + i, none⟩ = some (.slice (some ⟨g, 0, none⟩) n n) ∧ (∀ j, w.frozen? ⟨g, j, none⟩ = false) ∧ B ≤ g ∧ g < w.heap.size ∧ b < w.heap.size ∧ ∀ j, j < n → w.cell? ⟨g, j, none⟩ = some (.bool (M i j)) := by
  obtain ⟨b, o, e, hb, hc⟩ := h.outer.at_ (by omega)
  obtain ⟨g, hg⟩ : ∃ g, gl[i]? = some g := ⟨_, List.getElem?_eq_getElem (by rw [h.len]; exact hi)⟩
  obtain ⟨r1, r2⟩ := h.row i g hg
  refine ⟨b, o, g, e, hg, hc i _ (by simp [rowsC, hg]), r2.fz, r1, r2.lt, hb, fun j hj => ?_⟩
  rw [r2.cell, bools_get, rowB_get hj]
  rfl
theorem MxW.set (h : MxW w B n c A gl M) {i j g : Nat} (hi : gl[i]? = some g) (hj : j < n) (x : Bool) : MxW (w.setCell ⟨g, j, none⟩ (.bool x)) B n c A gl (upM M i j x) := by
  refine ⟨h.len, ⟨h.outer.len, h.outer.cap, h.outer.capm, h.outer.nil, fun hn => ?_⟩, fun a g' ha => ?_, h.nd, h.ap⟩
  · obtain ⟨b, o, e, hb, hc⟩ := h.outer.at_ hn
    have hne := h.ap g (List.mem_of_getElem? hi) b o e
    refine ⟨b, o, e, by simp [World.setCell]; exact hb, fun k u hk => ?_⟩
    rw [World.cell?_of_block (Below.heap_setCell _ _ _ _ hne)]
    exact hc k u hk
  · obtain ⟨r1, r2⟩ := h.row a g' ha
    refine ⟨r1, ?_⟩
    by_cases e : a = i
    · subst e
      rw [hi] at ha
      cases ha
      have := r2.set j (.bool x)
      rw [rowB_set x hj] at this
      exact this
    · have hgg : g' ≠ g := fun e2 => by
        subst e2
        obtain ⟨a1, a2⟩ := List.getElem?_eq_some_iff.1 ha
        obtain ⟨b1, b2⟩ := List.getElem?_eq_some_iff.1 hi
        have H := List.pairwise_iff_getElem.1 h.nd
        rcases Nat.lt_trichotomy a i with q | q | q
        · exact H a i a1 b1 q (a2.trans b2.symm)
        · exact e q
        · exact H i a b1 a1 q (b2.trans a2.symm)
      have hrow : rowB n (upM M i j x a) = rowB n (M a) := by
        unfold rowB
        refine List.map_congr_left fun k _ => ?_
        simp [upM, e]
      rw [hrow]
      exact r2.other hgg _
end

theorem info_boolS : (Tryz.prog.info? 100).map (fun i => (i.zero, i.size, i.bytes)) = some (some (.slice none 0 0), 1, 24) := by kernel_rfl
/-- What is filled in behind so many places of a round. -/
def InvM (l : List Ed) (n k i j : Nat) (M : Nat → Nat → Bool) : Prop :=
  ∀ a b, a < n → b < n → (M a b = true → PathLt l (k + 1) a b) ∧ (PathLt l k a b → M a b = true) ∧ ((a < i ∨ (a = i ∧ b < j)) → PathLt l (k + 1) a b → M a b = true)
theorem InvM.start {l : List Ed} {n k : Nat} {M : Nat → Nat → Bool} (h : ∀ a b, a < n → b < n → (M a b = true ↔ PathLt l k a b)) : InvM l n k 0 0 M := fun a b ha hb =>
  ⟨fun q => ((h a b ha hb).1 q).more (by omega), (h a b ha hb).2, fun _ => by omega⟩
theorem InvM.step {l : List Ed} {n k i j : Nat} {M : Nat → Nat → Bool} (h : InvM l n k i j M) (hk : k < n) (hi : i < n) (hj : j < n) : InvM l n k i (j + 1) (upM M i j (M i j || M i k && M k j)) := fun a b ha hb => by
  obtain ⟨h1, h2, h3⟩ := h a b ha hb
  unfold upM
  by_cases e : a = i ∧ b = j
  · obtain ⟨rfl, rfl⟩ := e
    simp only [and_self, if_true, Bool.or_eq_true, Bool.and_eq_true]
    refine ⟨?_, fun q => .inl (h2 q), fun _ q => ?_⟩
    · rintro (q | ⟨q1, q2⟩)
      · exact h1 q
      · exact .join (by omega) ((h a k ha hk).1 q1) ((h k b hk hb).1 q2)
    · rcases q.part with q | ⟨q1, q2⟩
      · exact .inl (h2 q)
      · exact .inr ⟨(h a k ha hk).2.1 q1, (h k b hk hb).2.1 q2⟩
  · rw [if_neg e]
    exact ⟨h1, h2, fun q => h3 (by omega)⟩
theorem InvM.row {l : List Ed} {n k i : Nat} {M : Nat → Nat → Bool} (h : InvM l n k i n M) : InvM l n k (i + 1) 0 M := fun a b ha hb => by
  obtain ⟨h1, h2, h3⟩ := h a b ha hb
  exact ⟨h1, h2, fun q => h3 (by omega)⟩
theorem InvM.done {l : List Ed} {n k : Nat} {M : Nat → Nat → Bool} (h : InvM l n k n 0 M) : ∀ a b, a < n → b < n → (M a b = true ↔ PathLt l (k + 1) a b) := fun a b ha hb =>
  ⟨(h a b ha hb).1, (h a b ha hb).2.2 (.inl ha)⟩
theorem pathLt_zero {l : List Ed} {a b : Nat} : PathLt l 0 a b ↔ ∃ e ∈ l, fr e = a ∧ tt e = b := ⟨PathLt.zero, fun ⟨_, he, h1, h2⟩ => h1 ▸ h2 ▸ .one he⟩

set_option maxRecDepth 100000 in
set_option maxHeartbeats 4000000 in
theorem ways_any {w : World} {n c : Nat} {A : Option Addr} {l : List Ed} (h : Rd w w.heap.size 3 A l.length c (ecells l)) (hi : InR n l) (hn : n ≤ 255) (hl : l.length ≤ 100000) :
    Calls Tryz.prog 35 #[.int .i64 (n : Int), .slice A l.length c] w fun e w' => (∃ A' c', e = .returned (.slice A' n c') ∧ ∃ gl M, MxW w' w.heap.size n c' A' gl M ∧ ∀ a b, a < n → b < n → (M a b = true ↔ PathLt l n a b)) ∧ Below w.heap.size w w' := by
  obtain ⟨i1, hi1, hy0, hy1, hy2⟩ := info_parts info_bool
  obtain ⟨i0, hi0, hz0, hz1, hz2⟩ := info_parts info_boolS
  have hmk : ∀ W : World, (Instr.makeSlice 100 (.int .i64 (n : Int)) (.int .i64 (n : Int))).run Tryz.prog W = .ok (.slice (some ⟨W.heap.size, 0, none⟩) n n) (W.alloc (.cells (bools (rowB n fun _ => false)) 4)) := fun W => by
    have := run_make (P := Tryz.prog) W 100 4 i1 _ Tryz.underlying100 hi1 hy0 .i64 .i64 n n (by omega) (Int.le_refl _) (by rw [hy2]; omega) (by omega)
    rw [Int.toNat_natCast, hy1, Nat.mul_one] at this
    rw [← rowB_false, ← made_bools]
    exact this
  go_enter Tryz.func35, Tryz.ntmps35
  go_wp2_with fail
  go_loopw [5, 6] (fun v vi wx => ∃ (j : Nat) (gl : List Nat), vi = .int .i64 j ∧ j ≤ n ∧ gl.length = j ∧ wx.ownsRow w.heap.size 100 1 v j (rowsC n gl) ∧ (∀ g ∈ gl, w.heap.size ≤ g ∧ Bk wx g (bools (rowB n fun _ => false)) 4) ∧ gl.Nodup ∧ Below w.heap.size w wx) (fun _ vi _ => n - (intOf vi).toNat)
  case atStart => exact ⟨0, [], rfl, Nat.zero_le _, rfl, World.ownsRow_nil _ _ _ _, fun g hg => (by cases hg), List.nodup_nil, Below.refl _ _⟩
  case round =>
    obtain ⟨j, gl, rfl, hj, hgl, hO, hgs, hnd, hbx⟩ := hrel
    by_cases hjl : j < n
    · have hdj : (j : Int) < (n : Int) := by omega
      obtain ⟨A3, c3, rfl, _⟩ := Rd.own hO
      have hws := hbx.size
      go_upto_region 5 with (fail)
      have hB1 : Below w.heap.size w (wr.alloc (.cells (bools (rowB n fun _ => false)) 4)) := hbx.alloc hws _
      have hk1 := Bk.new wr (bools (rowB n fun _ => false)) 4
      have hO1 := hO.alloc (.cells (bools (rowB n fun _ => false)) 4)
      have hgs1 : ∀ g ∈ gl, w.heap.size ≤ g ∧ g < wr.heap.size ∧ Bk (wr.alloc (.cells (bools (rowB n fun _ => false)) 4)) g (bools (rowB n fun _ => false)) 4 := fun g hg => ⟨(hgs g hg).1, (hgs g hg).2.lt, (hgs g hg).2.alloc _⟩
      have hcn := cells_new1 (wr.alloc (.cells (bools (rowB n fun _ => false)) 4)) (.slice (some ⟨wr.heap.size, 0, none⟩) n n) 100
      rw [World.size_alloc] at hcn
      go_wp2_with (at_builtin; go_loud (refine wpList_append_src _ rfl (.tmp 16) (.tmp 19) 98 98 rfl w.heap.size 100 i0 (.slice none 0 0) 1 24 Tryz.underlying98 hi0 hz0 hz1 hz2 rfl (by decide) (.slice A3 j c3) j (rowsC n gl) rfl (hO1.alloc _) _ 1 [.slice (some ⟨wr.heap.size, 0, none⟩) n n] rfl (Src.ofSlice _ Tryz.underlying98 _ 1 1 _ rfl hcn (by intro u hu; rw [List.mem_singleton.1 hu]; rfl)) (by simp only [maxLen]; omega) (by omega) (by simp; omega) ?_; intro v9 w8 hown8 hg8 hat8))
      have hO9 : w8.ownsRow w.heap.size 100 1 v9 (j + 1) (rowsC n (gl ++ [wr.heap.size])) := by
        unfold rowsC at *
        rw [List.map_append]
        exact hown8
      have hgs9 : ∀ g ∈ gl ++ [wr.heap.size], w.heap.size ≤ g ∧ Bk w8 g (bools (rowB n fun _ => false)) 4 := fun g hg => by
        rcases List.mem_append.1 hg with hg | hg
        · obtain ⟨q1, q2, q3⟩ := hgs1 g hg
          exact ⟨q1, bk_grown (q3.alloc _) (hO1.alloc _) (by decide) hg8⟩
        · rw [List.mem_singleton.1 hg]
          exact ⟨hws, bk_grown (hk1.alloc _) (hO1.alloc _) (by decide) hg8⟩
      have hnd9 : (gl ++ [wr.heap.size]).Nodup := by
        rw [List.nodup_append]
        refine ⟨hnd, by simp, fun a ha b hb => ?_⟩
        rw [List.mem_singleton.1 hb]
        have := (hgs1 a ha).2.1
        omega
      have hb9 := below_of_own (hB1.alloc hB1.size _) hg8 (hO1.alloc _) (by simp; omega) (Nat.le_refl _)
      exact ⟨⟨j + 1, gl ++ [wr.heap.size], by go_num, by omega, by simp [hgl], hO9, hgs9, hnd9, hb9⟩, by simp [intOf]; omega⟩
    · obtain rfl : j = n := by omega
      have hdj : ¬ ((j : Int) < (j : Int)) := by omega
      obtain ⟨A3, c3, rfl, hR⟩ := Rd.own hO
      have hM0 : MxW wr w.heap.size j c3 A3 gl (fun _ _ => false) := ⟨hgl, hR, fun i g hg => hgs g (List.mem_of_getElem? hg), hnd, fun g hg b o e e2 => by
        have := own_ne (hgs g hg).2 hO (by decide)
        rw [e, e2] at this
        exact this rfl⟩
      clear hO hgs hR hmk hgl hnd
      go_wp2_with fail
      go_loopw [7] (fun vi wx => ∃ (i : Nat) (M : Nat → Nat → Bool), vi = .int .i64 i ∧ i ≤ l.length ∧ MxW wx w.heap.size j c3 A3 gl M ∧ (∀ a b, M a b = true ↔ ∃ e ∈ l.take i, fr e = a ∧ tt e = b) ∧ Below w.heap.size w wx) (fun vi _ => l.length - (intOf vi).toNat)
      case atStart => exact ⟨0, _, rfl, Nat.zero_le _, hM0, fun a b => by simp, hbx⟩
      case round =>
        clear hM0 hbx
        obtain ⟨i, M, rfl, hil, hM, hMi, hbx⟩ := hrel
        by_cases hlt : i < l.length
        · have hdi : (i : Int) < (l.length : Int) := by omega
          obtain ⟨e, he⟩ : ∃ e, l[i]? = some e := ⟨_, List.getElem?_eq_getElem hlt⟩
          have hem := List.mem_of_getElem? he
          have hfe : e.1 = ((fr e : Nat) : Int) := by have := hi e hem; unfold fr; omega
          have hte : e.2.1 = ((tt e : Nat) : Int) := by have := hi e hem; unfold tt; omega
          have hfn := hi.fr hem
          have htn := hi.tt hem
          have hfi : ((fr e : Nat) : Int) < (j : Int) := by omega
          have hti : ((tt e : Nat) : Int) < (j : Int) := by omega
          obtain ⟨b, o, rfl, hb, c0, c1, c2⟩ := rd_edge (h.below hbx) he
          rw [hfe] at c0
          rw [hte] at c1
          obtain ⟨b5, o5, g, rfl, hg, m0, m1, m2, m3, m4, m5⟩ := hM.at_ hfn
          have m6 := m5 _ htn
          have m7 := m1 (tt e)
          have hM9 := (hM.set hg htn true).drew
          have hb9 : Below w.heap.size w (wr.setCell ⟨g, tt e, none⟩ (.bool true)).drew := (hbx.setCell m2 _).drew
          have hMi9 : Hid (∀ a b, upM M (fr e) (tt e) true a b = true ↔ ∃ d ∈ l.take (i + 1), fr d = a ∧ tt d = b) := Lib.hid fun a b => by
            rw [List.take_add_one, he]
            unfold upM
            by_cases q : a = fr e ∧ b = tt e
            · rw [if_pos q]
              simp only [true_iff]
              exact ⟨e, by simp, q.1.symm, q.2.symm⟩
            · rw [if_neg q, hMi]
              constructor
              · rintro ⟨d, hd, q1, q2⟩; exact ⟨d, List.mem_append_left _ hd, q1, q2⟩
              · rintro ⟨d, hd, q1, q2⟩
                rcases List.mem_append.1 hd with hd | hd
                · exact ⟨d, hd, q1, q2⟩
                · simp at hd
                  subst hd
                  exact absurd ⟨q1.symm, q2.symm⟩ q
          replace hM9 := Lib.hid hM9
          replace hb9 := Lib.hid hb9
          clear hM hMi hbx he m5 m1 hfe hte
          go_wp2_with fail
          go_region
          go_wp2_with fail
          exact ⟨⟨i + 1, _, by go_num, by omega, hM9.out, hMi9.out, hb9.out⟩, by simp [intOf]; omega⟩
        · obtain rfl : i = l.length := by omega
          have hdi : ¬ (((l.length : Nat) : Int) < (l.length : Int)) := by omega
          rw [List.take_length] at hMi
          go_wp2_with fail
          go_loopw [8] (fun vk wx => ∃ (k : Nat) (M : Nat → Nat → Bool), vk = .int .i64 k ∧ k ≤ j ∧ MxW wx w.heap.size j c3 A3 gl M ∧ (∀ a b, a < j → b < j → (M a b = true ↔ PathLt l k a b)) ∧ Below w.heap.size w wx) (fun vk _ => j - (intOf vk).toNat)
          case atStart => exact ⟨0, M, rfl, Nat.zero_le _, hM, fun a b _ _ => (hMi a b).trans pathLt_zero.symm, hbx⟩
          case round =>
            clear hM hbx hMi
            obtain ⟨k, M, rfl, hkj, hM, hMk, hbx⟩ := hrel
            by_cases hk : k < j
            · have hdk : (k : Int) < (j : Int) := by omega
              have hI := InvM.start hMk
              clear hMk
              go_wp2_with fail
              go_loopw [9] (fun vi wx => ∃ (i : Nat) (M : Nat → Nat → Bool), vi = .int .i64 i ∧ i ≤ j ∧ MxW wx w.heap.size j c3 A3 gl M ∧ InvM l j k i 0 M ∧ Below w.heap.size w wx) (fun vi _ => j - (intOf vi).toNat)
              case atStart => exact ⟨0, M, rfl, Nat.zero_le _, hM, hI, hbx⟩
              case round =>
                clear hM hI hbx
                obtain ⟨i, M, rfl, hij, hM, hI, hbx⟩ := hrel
                by_cases hi2 : i < j
                · have hdi2 : (i : Int) < (j : Int) := by omega
                  go_wp2_with fail
                  go_loopw [10] (fun vb wx => ∃ (b : Nat) (M : Nat → Nat → Bool), vb = .int .i64 b ∧ b ≤ j ∧ MxW wx w.heap.size j c3 A3 gl M ∧ InvM l j k i b M ∧ Below w.heap.size w wx) (fun vb _ => j - (intOf vb).toNat)
                  case atStart => exact ⟨0, M, rfl, Nat.zero_le _, hM, hI, hbx⟩
                  case round =>
                    clear hM hI hbx
                    obtain ⟨b, M, rfl, hbj, hM, hI, hbx⟩ := hrel
                    by_cases hb2 : b < j
                    · have hdb : (b : Int) < (j : Int) := by omega
                      obtain ⟨b5, o5, g, rfl, hg, m0, m1, m2, m3, m4, m5⟩ := hM.at_ hi2
                      obtain ⟨b6, o6, g2, e6, hg2, n0, n1, n2, n3, n4, n5⟩ := hM.at_ hk
                      injection e6 with e6
                      injection e6 with e61 e62 _
                      subst e61; subst e62
                      have p1 := m5 b hb2
                      have p2 := m5 k hk
                      have p3 := n5 b hb2
                      have p4 := m1 b
                      have hM9 := (hM.set hg hb2 (M i b || M i k && M k b)).drew
                      have hb9 : Below w.heap.size w (wr.setCell ⟨g, b, none⟩ (.bool (M i b || M i k && M k b))).drew := (hbx.setCell m2 _).drew
                      have hI9 := hI.step hk hi2 hb2
                      replace hM9 := Lib.hid hM9
                      replace hb9 := Lib.hid hb9
                      replace hI9 := Lib.hid hI9
                      clear hM hI hbx m5 n5 m1 n1
                      generalize M i b = x1 at *
                      generalize M i k = x2 at *
                      generalize M k b = x3 at *
                      cases x1 with
                      | true =>
                        go_wp2_with fail
                        go_region
                        go_wp2_with fail
                        exact ⟨⟨b + 1, _, by go_num, by omega, hM9.out, hI9.out, hb9.out⟩, by simp [intOf]; omega⟩
                      | false =>
                        cases x2 with
                        | true =>
                          go_wp2_with fail
                          go_region
                          go_wp2_with fail
                          exact ⟨⟨b + 1, _, by go_num, by omega, hM9.out, hI9.out, hb9.out⟩, by simp [intOf]; omega⟩
                        | false =>
                          go_wp2_with fail
                          go_region
                          go_wp2_with fail
                          exact ⟨⟨b + 1, _, by go_num, by omega, hM9.out, hI9.out, hb9.out⟩, by simp [intOf]; omega⟩
                    · obtain rfl : b = j := by omega
                      have hdb : ¬ ((b : Int) < (b : Int)) := by omega
                      go_wp2_with fail
                      exact ⟨⟨i + 1, M, by go_num, by omega, hM, hI.row, hbx⟩, by simp [intOf]; omega⟩
                · obtain rfl : i = j := by omega
                  have hdi2 : ¬ ((i : Int) < (i : Int)) := by omega
                  go_wp2_with fail
                  exact ⟨⟨k + 1, M, by go_num, by omega, hM, hI.done, hbx⟩, by simp [intOf]; omega⟩
            · obtain rfl : k = j := by omega
              have hdk : ¬ ((k : Int) < (k : Int)) := by omega
              go_wp2_with fail
              go_ret
              exact ⟨⟨A3, c3, rfl, gl, M, hM, hMk⟩, hbx⟩
end Go.Proofs.YtinfbimfiaegdaaGreat
