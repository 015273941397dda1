/- Layer 10: what memory holds of edges; how a graph is gone through. Conditions: none. -/
import Derived.BigQuiet
import Derived.Deep.QuietTactic
import Derived.Deep.Cut
import Derived.Test.YteafdhpcnpfmkaaGreatLevP
import Derived.Test.YteafdhpcnpfmkaaGreatTyp
namespace Go.Proofs.YteafdhpcnpfmkaaGreat
open Go.RowKit

def ecell (e : Ed) : List Value := [.int .i64 e.1, .int .i64 e.2.1, .bool e.2.2]
def ecells (l : List Ed) : List Value := l.flatMap ecell
def ints (L : List Nat) : List Value := L.map fun (k : Nat) => Value.int .i64 (k : Int)
def bools (s : List Bool) : Array Value := (s.map Value.bool).toArray
theorem ints_app (a b : List Nat) : ints (a ++ b) = ints a ++ ints b := List.map_append
theorem ints_len (L : List Nat) : (ints L).length = L.length := List.length_map _
theorem ints_one (L : List Nat) : ∀ u ∈ ints L, u.oneCell' = true := by
  intro u hu
  obtain ⟨k, _, rfl⟩ := List.mem_map.1 hu
  rfl
theorem ecell_one (e : Ed) : ∀ u ∈ ecell e, u.oneCell' = true := by
  intro u hu
  simp only [ecell, List.mem_cons, List.not_mem_nil, or_false] at hu
  rcases hu with rfl | rfl | rfl <;> rfl
theorem ecells_one (l : List Ed) : ∀ u ∈ ecells l, u.oneCell' = true := by
  intro u hu
  obtain ⟨e, _, he⟩ := List.mem_flatMap.1 hu
  exact ecell_one e u he
theorem ecells_len (l : List Ed) : (ecells l).length = l.length * 3 := by
  induction l with
  | nil => rfl
  | cons a t ih => rw [ecells, List.flatMap_cons, List.length_append, ← ecells, ih]; simp [ecell]; omega
theorem ecells_app (a b : List Ed) : ecells (a ++ b) = ecells a ++ ecells b := List.flatMap_append
theorem ecells_get {l : List Ed} {i : Nat} {e : Ed} (h : l[i]? = some e) : (ecells l)[i * 3]? = some (.int .i64 e.1) ∧ (ecells l)[i * 3 + 1]? = some (.int .i64 e.2.1) ∧ (ecells l)[i * 3 + 2]? = some (.bool e.2.2) := by
  induction l generalizing i with
  | nil => simp at h
  | cons a t ih =>
    rw [ecells, List.flatMap_cons, ← ecells]
    cases i with
    | zero =>
      simp only [List.getElem?_cons_zero, Option.some.injEq] at h
      subst h
      exact ⟨rfl, rfl, rfl⟩
    | succ i =>
      obtain ⟨h1, h2, h3⟩ := ih (by simpa using h)
      have e1 : (i + 1) * 3 = i * 3 + 3 := by omega
      have e0 : (ecell a).length = 3 := rfl
      rw [e1]
      refine ⟨?_, ?_, ?_⟩
      · rw [List.getElem?_append_right (by omega), e0, ← h1]; rfl
      · rw [List.getElem?_append_right (by omega), e0, ← h2]; congr 1
      · rw [List.getElem?_append_right (by omega), e0, ← h3]; congr 1

/-- Edges by where they begin: so many slices, all below the block B. -/
structure Gr (w : World) (B : Nat) (A : Option Addr) (c n : Nat) (l : List Ed) : Prop where
  one : ∃ vs, Rd w B 1 A n c vs ∧ ∀ i, i < n → ∃ Ai ci, vs[i]? = some (.slice Ai (outE l i).length ci) ∧ Rd w B 3 Ai (outE l i).length ci (ecells (outE l i))
  inr : InR n l
  few : n ≤ 4096
theorem Gr.below {w w' : World} {B n c : Nat} {A : Option Addr} {l : List Ed} (h : Gr w B A c n l) (hb : Below B w w') : Gr w' B A c n l := by
  obtain ⟨⟨vs, h1, h2⟩, h3, h4⟩ := h
  exact ⟨⟨vs, h1.below hb, fun i hi => by obtain ⟨Ai, ci, e, r⟩ := h2 i hi; exact ⟨Ai, ci, e, r.below hb⟩⟩, h3, h4⟩
theorem Gr.more {w : World} {B B' n c : Nat} {A : Option Addr} {l : List Ed} (h : Gr w B A c n l) (hb : B ≤ B') : Gr w B' A c n l := by
  obtain ⟨⟨vs, h1, h2⟩, h3, h4⟩ := h
  exact ⟨⟨vs, h1.more hb, fun i hi => by obtain ⟨Ai, ci, e, r⟩ := h2 i hi; exact ⟨Ai, ci, e, r.more hb⟩⟩, h3, h4⟩

/-- The order in which relations are left: a variable's block, that holds a slice of the call's own. -/
structure Od (w : World) (M go : Nat) (L : List Nat) : Prop where
  one : ∃ v, Bk w go #[v] 32 ∧ w.ownsRow M 3 1 v L.length (ints L)
  ge : M ≤ go
theorem info_int : (Tryz.prog.info? 3).map (fun i => (i.zero, i.size, i.bytes)) = some (some (.int .i64 0), 1, 8) := by kernel_rfl
theorem cells_new1 (w : World) (a : Value) (t : TypeId) : ∀ j u, [a][j]? = some u → (w.alloc (.cells #[a] t)).cell? ((⟨w.heap.size, 0, none⟩ : Addr).add j) = some u := by
  intro j u hj
  rw [Addr.add_lit, cell_of_row _ _ _ _ _ _ (heap_alloc_new w _), Nat.zero_add]
  simpa using hj
/-- Blocks but those of numbers, and of lists of numbers, stay. -/
def Bt (w w' : World) : Prop := ∀ t b cs, t ≠ 3 → t ≠ 32 → Bk w b cs t → Bk w' b cs t
/-- Blocks but those, and those of bools, stay. -/
def Bw (w w' : World) : Prop := ∀ t b cs, t ≠ 3 → t ≠ 32 → t ≠ 4 → Bk w b cs t → Bk w' b cs t
theorem Bt.bw {w w' : World} (h : Bt w w') : Bw w w' := fun t b cs h1 h2 _ hb => h t b cs h1 h2 hb
theorem Bw.refl (w : World) : Bw w w := fun _ _ _ _ _ _ h => h
theorem Bw.trans {w w' w'' : World} (h : Bw w w') (k : Bw w' w'') : Bw w w'' := fun t b cs h1 h2 h3 hb => k t b cs h1 h2 h3 (h t b cs h1 h2 h3 hb)
theorem Bw.alloc {w w' : World} (h : Bw w w') (o : Obj) : Bw w (w'.alloc o) := fun t b cs h1 h2 h3 hb => (h t b cs h1 h2 h3 hb).alloc o
/-- A block of other cells is no row's. -/
theorem own_ne {w : World} {B2 b : Nat} {cs : Array Value} {t e2 : TypeId} {s2 n2 : Nat} {u : Value} {ys : List Value} (h : Bk w b cs t) (hu : w.ownsRow B2 e2 s2 u n2 ys) (hne : t ≠ e2) : u.ownBlock ≠ some b := fun hk2 => by
  rcases hu.2 with ⟨rfl, _⟩ | ⟨g2, cap2, cur2, rfl, _, hh2, _⟩
  · simp [Value.ownBlock] at hk2
  simp only [Value.ownBlock, Option.some.injEq] at hk2
  subst hk2
  rw [show w.heap[g2]? = _ from h] at hh2
  injection hh2 with hh2
  injection hh2 with _ h3 _
  exact hne h3
/-- A row of another type grows: a block of other cells stays. -/
theorem bk_grown {w w' : World} {B2 b : Nat} {cs : Array Value} {t e2 : TypeId} {s2 n2 : Nat} {u : Value} {ys : List Value} (h : Bk w b cs t) (hu : w.ownsRow B2 e2 s2 u n2 ys) (hne : t ≠ e2) (hg : w.grownBy w' u.ownBlock) : Bk w' b cs t :=
  (hg.block b h.lt fun hk2 => own_ne h hu hne hk2.symm).trans h

section
variable {w : World} {M go : Nat} {L : List Nat}
theorem leave_done {w1 : World} {v v1 : Value} {k : Nat} {o : Obj} (hv : Bk w go #[v] 32) (hr : w.ownsRow M 3 1 v L.length (ints L)) (hM : M ≤ go) (hg1 : (w.alloc o).grownBy w1 v.ownBlock) (hown1 : w1.ownsRow M 3 1 v1 (L.length + 1) (ints L ++ [.int .i64 (k : Int)])) :
    Bk w1 go #[v] 32 ∧ Od (w1.setCell ⟨go, 0, none⟩ v1) M go (L ++ [k]) ∧ Below M w (w1.setCell ⟨go, 0, none⟩ v1) ∧ Bt w (w1.setCell ⟨go, 0, none⟩ v1) := by
  have hr' := World.ownsRow.alloc hr o
  have hb1 : Bk w1 go #[v] 32 := bk_grown (hv.alloc o) hr' (by decide) hg1
  have hlt := hv.lt
  have hbw : Below M w w1 := below_of_own (((Below.refl _ w)).alloc (by omega) o) hg1 hr' (by simp; omega) (Nat.le_refl _)
  refine ⟨hb1, ⟨⟨v1, ?_, ?_⟩, hM⟩, hbw.setCell hM _, fun t b cs ht1 ht2 hb => ?_⟩
  · have := hb1.set 0 v1; simpa using this
  · rw [List.length_append, ints_app]
    refine own_same (n := L.length + 1) (xs := ints L ++ [.int .i64 (k : Int)]) hown1 fun g hg => ?_
    have hne : g ≠ go := fun e => own_ne hb1 hown1 (by decide) (e ▸ hg)
    exact Below.heap_setCell _ _ _ _ hne
  · have h2 := bk_grown (hb.alloc o) hr' ht1 hg1
    refine h2.other (a := ⟨go, 0, none⟩) (fun e => ?_) _
    have e' : b = go := e
    subst e'
    have := hb.symm.trans hv
    injection this with this
    injection this with _ h3 _
    exact ht2 h3

set_option maxHeartbeats 1000000 in
theorem leave1_any (h : Od w M go L) (k : Nat) (hl : L.length < 1000000) :
    Calls Tryz.prog 91 #[.int .i64 (k : Int), .pointer (some ⟨go, 0, none⟩)] w fun e w' => e = .returned (.tuple #[]) ∧ Od w' M go (L ++ [k]) ∧ Below M w w' ∧ Bt w w' := by
  obtain ⟨⟨v, hv, hr⟩, hM⟩ := h
  have c0 := hv.cell 0
  have fz := hv.fz 0
  have hg := hv.lt
  obtain ⟨i0, hi, hz0, hz1, hz2⟩ := info_parts info_int
  obtain ⟨A, c, rfl, _⟩ := Rd.own hr
  have H := Lib.hid hr
  have V := Lib.hid hv
  clear hr hv
  go_enter Tryz.func91, Tryz.ntmps91
  go_wp2_with (first
    | (at_builtin; go_loud (refine wpList_append_src _ rfl (.tmp 3) (.tmp 5) 32 32 rfl M 3 i0 (.int .i64 0) 1 8 Tryz.underlying32 hi hz0 hz1 hz2 rfl (by decide) _ L.length (ints L) rfl (H.out.alloc _) _ 1 [.int .i64 (k : Int)] rfl (Src.ofSlice _ Tryz.underlying32 _ 1 1 _ rfl (cells_new1 _ _ _) (ints_one [k])) (by simp only [maxLen]; omega) (by omega) (size_alloc (by omega)) ?_; intro v1 w1 hown1 hg1 hat1; obtain ⟨A1, c1, rfl, _⟩ := Rd.own hown1; have hcg := (leave_done V.out H.out hM hg1 hown1).1; have cg := hcg.cell 0; have fg := hcg.fz 0)))
  go_end0
  exact ⟨rfl, (leave_done V.out H.out hM hg1 hown1).2⟩
set_option maxHeartbeats 1000000 in
theorem leave2_any (h : Od w M go L) (k : Nat) (hl : L.length < 1000000) :
    Calls Tryz.prog 93 #[.int .i64 (k : Int), .pointer (some ⟨go, 0, none⟩)] w fun e w' => e = .returned (.tuple #[]) ∧ Od w' M go (L ++ [k]) ∧ Below M w w' ∧ Bt w w' := by
  obtain ⟨⟨v, hv, hr⟩, hM⟩ := h
  have c0 := hv.cell 0
  have fz := hv.fz 0
  have hg := hv.lt
  obtain ⟨i0, hi, hz0, hz1, hz2⟩ := info_parts info_int
  obtain ⟨A, c, rfl, _⟩ := Rd.own hr
  have H := Lib.hid hr
  have V := Lib.hid hv
  clear hr hv
  go_enter Tryz.func93, Tryz.ntmps93
  go_wp2_with (first
    | (at_builtin; go_loud (refine wpList_append_src _ rfl (.tmp 3) (.tmp 5) 32 32 rfl M 3 i0 (.int .i64 0) 1 8 Tryz.underlying32 hi hz0 hz1 hz2 rfl (by decide) _ L.length (ints L) rfl (H.out.alloc _) _ 1 [.int .i64 (k : Int)] rfl (Src.ofSlice _ Tryz.underlying32 _ 1 1 _ rfl (cells_new1 _ _ _) (ints_one [k])) (by simp only [maxLen]; omega) (by omega) (size_alloc (by omega)) ?_; intro v1 w1 hown1 hg1 hat1; obtain ⟨A1, c1, rfl, _⟩ := Rd.own hown1; have hcg := (leave_done V.out H.out hM hg1 hown1).1; have cg := hcg.cell 0; have fg := hcg.fz 0)))
  go_end0
  exact ⟨rfl, (leave_done V.out H.out hM hg1 hown1).2⟩
end
end Go.Proofs.YteafdhpcnpfmkaaGreat
/- Layer 10: a graph is gone through, whatever is done where one is left. Conditions: none. -/
namespace Go.Proofs.YteafdhpcnpfmkaaGreat
open Go.RowKit

/-- What was seen, and what was left. -/
structure Sw (w : World) (M gs go n : Nat) (s : List Bool) (L : List Nat) : Prop where
  seen : Bk w gs (bools s) 4
  od : Od w M go L
  len : s.length = n
theorem Gr.row {w : World} {B n c : Nat} {A : Option Addr} {l : List Ed} (h : Gr w B A c n l) {i : Nat} (hi : i < n) :
    ∃ b o Ai ci, A = some ⟨b, o, none⟩ ∧ b < B ∧ w.cell? ⟨b, o + i, none⟩ = some (.slice Ai (outE l i).length ci) ∧ Rd w B 3 Ai (outE l i).length ci (ecells (outE l i)) := by
  obtain ⟨⟨vs, h1, h2⟩, _, _⟩ := h
  obtain ⟨Ai, ci, e, r⟩ := h2 i hi
  obtain ⟨b, o, u, rfl, hb, hu, hc⟩ := h1.get hi
  rw [e] at hu
  cases hu
  exact ⟨b, o, Ai, ci, rfl, hb, hc, r⟩
theorem rd_edge {w : World} {B n c : Nat} {A : Option Addr} {l : List Ed} (h : Rd w B 3 A n c (ecells l)) {i : Nat} {e : Ed} (hi : l[i]? = some e) :
    ∃ b o, A = some ⟨b, o, none⟩ ∧ b < B ∧ w.cell? ⟨b, o + i * 3, none⟩ = some (.int .i64 e.1) ∧ w.cell? ⟨b, o + i * 3 + 1, none⟩ = some (.int .i64 e.2.1) ∧ w.cell? ⟨b, o + i * 3 + 2, none⟩ = some (.bool e.2.2) := by
  have hn : 0 < n := by
    have h1 := h.len
    have h2 := ecells_len l
    have h3 := (List.getElem?_eq_some_iff.1 hi).1
    omega
  obtain ⟨b, o, e', hb, hc⟩ := h.at_ hn
  obtain ⟨g0, g1, g2⟩ := ecells_get hi
  exact ⟨b, o, e', hb, hc _ _ g0, by rw [Nat.add_assoc]; exact hc _ _ g1, by rw [Nat.add_assoc]; exact hc _ _ g2⟩
theorem bools_set (s : List Bool) (a : Nat) : (bools s).setIfInBounds a (.bool true) = bools (s.set a true) := by
  unfold bools
  apply Array.ext'
  simp [List.map_set]
theorem bools_get (s : List Bool) (a : Nat) : (bools s)[a]? = s[a]?.map Value.bool := by simp [bools]
theorem bools_size (s : List Bool) : (bools s).size = s.length := by simp [bools]

set_option maxRecDepth 100000 in
set_option maxHeartbeats 1000000 in
theorem walk_any {n M0 M gs go c cs : Nat} {A : Option Addr} {l : List Ed} (fl : Nat) (hM : M0 ≤ M) (hgs : M0 ≤ gs) (hgg : gs ≠ go)
    (eg : ∀ args w, (callFunc fl args).run Tryz.prog w = .ok (.enter fl args) w)
    (hL : ∀ (w : World) (L : List Nat) (k : Nat), Od w M go L → L.length < 1000000 → Calls Tryz.prog fl #[.int .i64 (k : Int), .pointer (some ⟨go, 0, none⟩)] w fun e w' => e = .returned (.tuple #[]) ∧ Od w' M go (L ++ [k]) ∧ Below M w w' ∧ Bt w w') (k : Nat) :
    ∀ {w : World} {s : List Bool} {L : List Nat} {a : Nat}, s.count false ≤ k → a < n → Gr w M0 A c n l → Sw w M gs go n s L → L.length + s.count false ≤ 4096 →
      Calls Tryz.prog 90 #[.slice A n c, .slice (some ⟨gs, 0, none⟩) n cs, .int .i64 (a : Int), .func (.func fl) #[] #[.pointer (some ⟨go, 0, none⟩)]] w fun e w' =>
        e = .returned (.tuple #[]) ∧ ∃ s' L', Walks (goE l) s [a] s' L' ∧ Sw w' M gs go n s' (L ++ L') ∧ Kp gs M w w' ∧ Bw w w' := by
  induction k with
  | zero =>
    intro w s L a hk ha hG hS _
    have hsa : s[a]? = some true := by
      have hlt : a < s.length := by rw [hS.len]; exact ha
      rw [List.getElem?_eq_getElem hlt]
      cases hb : s[a] with
      | true => rfl
      | false =>
        have := List.count_pos_iff.2 (hb ▸ List.getElem_mem hlt)
        omega
    have c0 := hS.seen.cell a
    rw [bools_get, hsa] at c0
    have ha' : (a : Int) < (n : Int) := by omega
    go_enter Tryz.func90, Tryz.ntmps90
    go_wp2_with fail
    refine bodyPost_ret (results_none rfl _ _ _) rfl ?_
    exact ⟨rfl, s, [], .old hsa (.nil s), by rw [List.append_nil]; exact hS, Kp.refl _ _ _, Bw.refl _⟩
  | succ k ih =>
    intro w s L a hk ha hG hS hf
    have hlt : a < s.length := by rw [hS.len]; exact ha
    have ha' : (a : Int) < (n : Int) := by omega
    have c0 := hS.seen.cell a
    have fz := hS.seen.fz a
    have hgl := hS.seen.lt
    rw [bools_get] at c0
    cases hsa : s[a]? with
    | none => rw [List.getElem?_eq_none_iff] at hsa; omega
    | some b =>
    cases b with
    | true =>
      rw [hsa] at c0
      go_enter Tryz.func90, Tryz.ntmps90
      go_wp2_with fail
      refine bodyPost_ret (results_none rfl _ _ _) rfl ?_
      exact ⟨rfl, s, [], .old hsa (.nil s), by rw [List.append_nil]; exact hS, Kp.refl _ _ _, Bw.refl _⟩
    | false =>
      rw [hsa] at c0
      go_enter Tryz.func90, Tryz.ntmps90
      go_upto_region 2 with (fail)
      have hcs := count_set hsa
      have hB0 : Below M0 w (w.setCell ⟨gs, a, none⟩ (.bool true)) := (Below.refl M0 w).setCell hgs _
      have hS1 : Sw (w.setCell ⟨gs, a, none⟩ (.bool true)) M gs go n (s.set a true) L := by
        refine ⟨?_, ⟨?_, hS.od.ge⟩, by rw [List.length_set]; exact hS.len⟩
        · have := hS.seen.set a (.bool true)
          rwa [bools_set] at this
        · obtain ⟨v, hv, hr⟩ := hS.od.one
          refine ⟨v, hv.other (a := ⟨gs, a, none⟩) (fun e => hgg e.symm) _, own_same hr fun g hg => Below.heap_setCell _ _ _ _ ?_⟩
          exact fun e => own_ne hS.seen hr (by decide) ((show g = gs from e) ▸ hg)
      have hK1 : Kp gs M w (w.setCell ⟨gs, a, none⟩ (.bool true)) := ⟨rfl, rfl, rfl, by simp [World.setCell], fun g _ hg => Below.heap_setCell _ _ _ _ hg⟩
      have hW1 : Bw w (w.setCell ⟨gs, a, none⟩ (.bool true)) := fun t b cs _ _ ht hb => hb.other (a := ⟨gs, a, none⟩) (fun e => by
        have e' : b = gs := e
        subst e'
        have := hb.symm.trans hS.seen
        injection this with this
        injection this with _ h3 _
        exact ht h3) _
      have hG1 := hG.below hB0
      clear hG hS c0 fz hgl
      generalize w.setCell ⟨gs, a, none⟩ (.bool true) = w1 at *
      obtain ⟨b, o, Ai, ci, rfl, hb, hc, hR⟩ := hG1.row ha
      have hlE : ((outE l a).length : Int) ≤ 9223372036854775807 := by have := hR.cap; have := hR.capm; simp only [maxLen] at this; omega
      go_wp2_with fail
      go_loopw [22] (fun vi wx => ∃ (j : Nat) (s' : List Bool) (L' : List Nat), vi = .int .i64 j ∧ j ≤ (outE l a).length ∧ Walks (goE l) (s.set a true) ((goE l a).take j) s' L' ∧ Sw wx M gs go n s' (L ++ L') ∧ Kp gs M w1 wx ∧ Bw w1 wx) (fun vi _ => (outE l a).length - (intOf vi).toNat)
      case atStart => exact ⟨0, _, [], rfl, Nat.zero_le _, .nil _, by rw [List.append_nil]; exact hS1, Kp.refl _ _ _, Bw.refl _⟩
      case round =>
        obtain ⟨j, s', L', rfl, hj, hW, hS, hK, hV⟩ := hrel
        have hcf := hW.cf
        have hGr := hG1.below (hK.below hM hgs)
        by_cases hlt2 : j < (outE l a).length
        · have hj' : (j : Int) < ((outE l a).length : Int) := by omega
          obtain ⟨e, he⟩ : ∃ e, (outE l a)[j]? = some e := ⟨_, List.getElem?_eq_getElem hlt2⟩
          have hel := (mem_outE.1 (List.mem_of_getElem? he)).1
          have hte : e.2.1 = ((tt e : Nat) : Int) := by have := hG1.inr e hel; unfold tt; omega
          have htn := hG1.inr.tt hel
          have hgo : (goE l a)[j]? = some (tt e) := by unfold goE; rw [List.getElem?_map, he]; rfl
          obtain ⟨b2, o2, rfl, hb2, c0, c1, c2⟩ := rd_edge (hR.below (hK.below hM hgs)) he
          rw [hte] at c1
          have hwl : M0 ≤ wr.heap.size := by have := hK.size; have := hS.od.ge; obtain ⟨v, hv, _⟩ := hS.od.one; have := hv.lt; omega
          go_upto_region 5 with (fail)
          have hS2 : Sw (wr.alloc (.cells #[.int .i64 e.1, .int .i64 ((tt e : Nat) : Int), .bool e.2.2] 117)) M gs go n s' (L ++ L') := by
            obtain ⟨v, hv, hr⟩ := hS.od.one
            exact ⟨hS.seen.alloc _, ⟨⟨v, hv.alloc _, hr.alloc _⟩, hS.od.ge⟩, hS.len⟩
          have hMw : M ≤ wr.heap.size := by obtain ⟨v, hv, _⟩ := hS.od.one; have := hv.lt; have := hS.od.ge; omega
          have hK2 := hK.alloc hMw (.cells #[.int .i64 e.1, .int .i64 ((tt e : Nat) : Int), .bool e.2.2] 117)
          have hV2 := hV.alloc (.cells #[.int .i64 e.1, .int .i64 ((tt e : Nat) : Int), .bool e.2.2] 117)
          have hGr2 := hG1.below (hK2.below hM hgs)
          have d1 := (Bk.new wr #[.int .i64 e.1, .int .i64 ((tt e : Nat) : Int), .bool e.2.2] 117).cell 1
          clear hS hK hV hGr c0 c1 c2
          generalize wr.alloc (.cells #[.int .i64 e.1, .int .i64 ((tt e : Nat) : Int), .bool e.2.2] 117) = w2 at *
          have kI := ih (w := w2) (s := s') (L := L ++ L') (a := tt e) (by omega) htn hGr2 hS2 (by rw [List.length_append]; omega)
          go_wp2_with fail
          refine kI.mono ?_
          rintro e' w3 ⟨rfl, s3, L3, hW3, hS3, hK3, hV3⟩
          go_wp2
          go_roundw
          case rel =>
            refine ⟨j + 1, s3, L' ++ L3, by simp, by omega, ?_, by rw [← List.append_assoc]; exact hS3, hK2.trans hK3, hV2.trans hV3⟩
            rw [List.take_add_one, hgo]
            exact hW.app hW3
          case measure => simp [intOf]; omega
        · obtain rfl : j = (outE l a).length := by omega
          have hj' : ¬ ((((outE l a).length : Nat) : Int) < ((outE l a).length : Int)) := by omega
          have hall : (goE l a).take (outE l a).length = goE l a := List.take_of_length_le (by unfold goE; simp)
          rw [hall] at hW
          have kL := hL wr (L ++ L') a hS.od (by rw [List.length_append]; omega)
          have kE := eg #[.int .i64 (a : Int), .pointer (some ⟨go, 0, none⟩)] wr
          go_wp2_with fail
          refine kL.mono ?_
          rintro e' w3 ⟨rfl, hO, hBw, hBt⟩
          go_wp2
          go_end0
          refine ⟨rfl, s', L' ++ [a], ?_, ⟨hBt _ _ _ (by decide) (by decide) hS.seen, by rw [← List.append_assoc]; exact hO, hS.len⟩, hK1.trans (hK.trans (Kp.of_below hBw _)), hW1.trans (hV.trans hBt.bw)⟩
          exact .new hsa hW (.nil _)
end Go.Proofs.YteafdhpcnpfmkaaGreat
