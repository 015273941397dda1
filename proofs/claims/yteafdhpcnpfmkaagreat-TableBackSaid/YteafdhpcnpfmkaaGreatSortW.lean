/- Layer 10: how edges are compared. Conditions: none. -/
import Derived.Deep.RegionHeld3
import Derived.Outline
import Derived.Test.YteafdhpcnpfmkaaGreatShelf10
import Derived.Test.YteafdhpcnpfmkaaGreatLevels
import Derived.Shelf.AbstractIn
import Derived.Test.YteafdhpcnpfmkaaGreatKeysW
import Derived.Test.YteafdhpcnpfmkaaGreatKnownW
namespace Go.Proofs.YteafdhpcnpfmkaaGreat
open Go.Shelf Go.RowKit Go.Lib Go.Sort

/-- Some draws on, and with some blocks more. -/
structure Far (w w' : World) : Prop where
  out : ∃ q os, w' = grow (w.drewN q) os
theorem Far.refl (w : World) : Far w w := ⟨0, #[], by rw [grow_empty]; rfl⟩
theorem Far.drew {w w' : World} (h : Far w w') : Far w w'.drew := by
  obtain ⟨q, os, rfl⟩ := h
  exact ⟨q + 1, os, rfl⟩
theorem Far.alloc {w w' : World} (h : Far w w') (o : Obj) : Far w (w'.alloc o) := by
  obtain ⟨q, os, rfl⟩ := h
  exact ⟨q, os ++ #[o], by rw [alloc_eq_grow, grow_grow]⟩
theorem Far.trans {a b c : World} (h : Far a b) (k : Far b c) : Far a c := by
  obtain ⟨q, os, rfl⟩ := h
  obtain ⟨r, os2, rfl⟩ := k
  exact ⟨q + r, os ++ os2, by rw [← grow_grow, ← World.drewN_drewN]; rfl⟩
theorem Far.cell {w w' : World} (h : Far w w') {a : Addr} {v : Value} (hc : w.cell? a = some v) : w'.cell? a = some v := by
  obtain ⟨q, os, rfl⟩ := h
  rw [cell?_grow _ _ _ (by exact World.block_lt_of_cell? w a hc)]
  exact hc

theorem rise_is (e : Ed) (w : World) : Calls Tryz.prog 94 #[.agg (ecell e).toArray] w fun r w' => r = .returned (.int .i64 (if e.2.2 then 1 else 0)) ∧ w' = w.alloc (.cells (ecell e).toArray 117) := by
  obtain ⟨x, y, b⟩ := e
  simp only [ecell]
  go_enter Tryz.func94, Tryz.ntmps94
  cases b
  · go_wp2
    go_ret
    exact ⟨rfl, rfl⟩
  · go_wp2
    go_ret
    exact ⟨rfl, rfl⟩

theorem lt_some {α : Type} {l : List α} {i : Nat} {x : α} (h : l[i]? = some x) : i < l.length := (List.getElem?_eq_some_iff.1 h).1
/-- The first that is not 0. -/
def orI : List Int → Int
  | [] => 0
  | x :: l => if x = 0 then orI l else x
theorem or_zeros {l : List Int} {j : Nat} (h : ∀ i, i < j → l[i]? = some 0) : orI l = orI (l.drop j) := by
  induction j with
  | zero => rfl
  | succ j ih =>
    rw [ih fun i hi => h i (by omega)]
    have hj := h j (by omega)
    rw [List.drop_eq_getElem_cons (lt_some hj), orI, if_pos]
    exact Option.some.inj ((List.getElem?_eq_getElem _).symm.trans hj)

set_option maxHeartbeats 1000000 in
theorem or_is {w : World} {b n c : Nat} {l : List Int} (hn : l.length = n) (hb : n ≤ 1000000) (h : ∀ i x, l[i]? = some x → w.cell? ⟨b, i, none⟩ = some (.int .i64 x)) :
    Calls Tryz.prog 101 #[.slice (some ⟨b, 0, none⟩) n c] w fun e w' => e = .returned (.int .i64 (orI l)) ∧ w' = w := by
  go_enter Tryz.func101, Tryz.ntmps101
  go_wp2_with fail
  go_loopw [8] (fun vi wx => ∃ j : Nat, vi = .int .i64 j ∧ j ≤ n ∧ wx = w ∧ ∀ i, i < j → l[i]? = some 0) (fun vi _ => n - (intOf vi).toNat)
  case atStart => exact ⟨0, rfl, Nat.zero_le _, rfl, fun i hi => by omega⟩
  case round =>
    obtain ⟨j, rfl, hj, rfl, hz⟩ := hrel
    by_cases hjn : j < n
    · have hjn' : (j : Int) < (n : Int) := by omega
      obtain ⟨x, hx⟩ : ∃ x, l[j]? = some x := ⟨_, List.getElem?_eq_getElem (by omega)⟩
      have c0 := h j x hx
      by_cases h0 : x = 0
      · subst h0
        have hz' : ∀ i, i < j + 1 → l[i]? = some 0 := fun i hi => by
          by_cases e : i = j
          · rw [e, hx]
          · exact hz i (by omega)
        clear hz hx h
        go_wp2_with fail
        exact ⟨⟨j + 1, by go_num, by omega, trivial, hz'⟩, by simp [intOf]; omega⟩
      · have h0' : (x != 0) = true := by simpa using h0
        have ho : Hid (orI l = x) := Lib.hid (by
          rw [or_zeros hz, List.drop_eq_getElem_cons (lt_some hx), orI]
          have e : l[j]'(lt_some hx) = x := Option.some.inj ((List.getElem?_eq_getElem _).symm.trans hx)
          rw [if_neg (by rw [e]; exact h0), e])
        clear hz hx h
        go_wp2_with fail
        go_ret
        rw [ho.out]
        exact ⟨rfl, rfl⟩
    · obtain rfl : j = n := by omega
      have hjn' : ¬ (((j : Nat) : Int) < (j : Int)) := by omega
      have ho : Hid (orI l = 0) := Lib.hid (by rw [or_zeros hz, List.drop_eq_nil_of_le (by omega)]; rfl)
      clear hz h
      go_wp2_with fail
      go_ret
      rw [ho.out]
      exact ⟨rfl, rfl⟩

def riI (e : Ed) : Int := if e.2.2 then 1 else 0
/-- How edges stand to each other. -/
def cfE (a b : Ed) : Int := orI [compareInt a.1 b.1, compareInt a.2.1 b.2.1, compareInt (riI a) (riI b)]
theorem cfE_neg (a b : Ed) : cfE a b < 0 ↔ a.1 < b.1 ∨ (a.1 = b.1 ∧ (a.2.1 < b.2.1 ∨ (a.2.1 = b.2.1 ∧ riI a < riI b))) := by
  have h1 : ∀ x y : Int, compareInt x y = 0 ↔ x = y := fun x y => by unfold compareInt; split <;> first | omega | (split <;> omega)
  have h2 : ∀ x y : Int, compareInt x y < 0 ↔ x < y := fun x y => by unfold compareInt; split <;> first | omega | (split <;> omega)
  simp only [cfE, orI]
  by_cases e1 : a.1 = b.1
  · rw [if_pos ((h1 _ _).2 e1)]
    by_cases e2 : a.2.1 = b.2.1
    · rw [if_pos ((h1 _ _).2 e2)]
      by_cases e3 : riI a = riI b
      · rw [if_pos ((h1 _ _).2 e3)]
        omega
      · rw [if_neg fun e => e3 ((h1 _ _).1 e), h2]
        omega
    · rw [if_neg fun e => e2 ((h1 _ _).1 e), h2]
      omega
  · rw [if_neg fun e => e1 ((h1 _ _).1 e), h2]
    omega
theorem swoE : SWO (ltOf cfE) := by
  refine ⟨fun x => ?_, fun x y z h1 h2 => ?_, fun x y z h1 h2 => ?_⟩
  · simp only [ltOf, decide_eq_false_iff_not, cfE_neg]
    omega
  · simp only [ltOf, decide_eq_true_eq, cfE_neg] at *
    omega
  · simp only [ltOf, decide_eq_false_iff_not, cfE_neg] at *
    omega

set_option maxRecDepth 100000 in
set_option maxHeartbeats 4000000 in
theorem compare_any (a b : Ed) (w : World) : Calls Tryz.prog 59 #[.agg (ecell a).toArray, .agg (ecell b).toArray] w fun e w' => e = .returned (.int .i64 (cfE a b)) ∧ Far w w' := by
  have hri := rise_is a
  have hrb := rise_is b
  obtain ⟨a1, a2, a3⟩ := a
  obtain ⟨b1, b2, b3⟩ := b
  simp only [ecell] at *
  obtain ⟨r1, hr1⟩ : ∃ r : Int, (if a3 then 1 else 0) = r := ⟨_, rfl⟩
  obtain ⟨r2, hr2⟩ : ∃ r : Int, (if b3 then 1 else 0) = r := ⟨_, rfl⟩
  have hcf : Hid (cfE (a1, a2, a3) (b1, b2, b3) = orI [compareInt a1 b1, compareInt a2 b2, compareInt r1 r2]) := Lib.hid (by subst hr1 hr2; rfl)
  simp only [hr1] at hri
  simp only [hr2] at hrb
  clear hr1 hr2
  have x1 := Bk.new w #[.int .i64 a1, .int .i64 a2, .bool a3] 117
  replace x1 := x1.alloc (.cells #[.int .i64 b1, .int .i64 b2, .bool b3] 117)
  have x2 := Bk.new (w.alloc (.cells #[.int .i64 a1, .int .i64 a2, .bool a3] 117)) #[.int .i64 b1, .int .i64 b2, .bool b3] 117
  have hF : Far w ((w.alloc (.cells #[.int .i64 a1, .int .i64 a2, .bool a3] 117)).alloc (.cells #[.int .i64 b1, .int .i64 b2, .bool b3] 117)) := ((Far.refl w).alloc _).alloc _
  simp only [World.size_alloc] at x2
  have cm := fun x y => AnyG.cmp_Compare_int laysCmp x y
  go_enter Tryz.func59, Tryz.ntmps59
  go_upto_region 1 with (fail)
  obtain ⟨w1, hw1⟩ : ∃ w1, (w.alloc (.cells #[.int .i64 a1, .int .i64 a2, .bool a3] 117)).alloc (.cells #[.int .i64 b1, .int .i64 b2, .bool b3] 117) = w1 := ⟨_, rfl⟩
  rw [hw1] at x1 x2 hF ⊢
  clear hw1
  have p0 := x1.cell 0
  have p1 := x1.cell 1
  have p2 := x1.cell 2
  have q0 := x2.cell 0
  have q1 := x2.cell 1
  have q2 := x2.cell 2
  simp only [List.getElem?_toArray, List.getElem?_cons_zero, List.getElem?_cons_succ] at p0 p1 p2 q0 q1 q2
  have hS : ∀ W, Far w1 W → (W.cell? ⟨w.heap.size, 0, none⟩ = some (.int .i64 a1) ∧ W.cell? ⟨w.heap.size, 1, none⟩ = some (.int .i64 a2) ∧ W.cell? ⟨w.heap.size, 2, none⟩ = some (.bool a3) ∧ W.cell? ⟨w.heap.size + 1, 0, none⟩ = some (.int .i64 b1) ∧ W.cell? ⟨w.heap.size + 1, 1, none⟩ = some (.int .i64 b2) ∧ W.cell? ⟨w.heap.size + 1, 2, none⟩ = some (.bool b3) ∧ Far w1 W) :=
    fun W h => ⟨h.cell p0, h.cell p1, h.cell p2, h.cell q0, h.cell q1, h.cell q2, h⟩
  have hor : ∀ (W : World) (bb : Nat) (x y z : Int), bb = W.heap.size → Calls Tryz.prog 101 #[.slice (some ⟨bb, 0, none⟩) 3 3] (W.alloc (.cells #[.int .i64 x, .int .i64 y, .int .i64 z] 3)).drew fun e w' => e = .returned (.int .i64 (orI [x, y, z])) ∧ w' = (W.alloc (.cells #[.int .i64 x, .int .i64 y, .int .i64 z] 3)).drew := fun W bb x y z hbb => hbb ▸
    or_is rfl (by omega) fun i u hi => by
      show (W.alloc (.cells #[.int .i64 x, .int .i64 y, .int .i64 z] 3)).cell? _ = _
      rw [(Bk.new W #[.int .i64 x, .int .i64 y, .int .i64 z] 3).cell i]
      rcases i with _ | _ | _ | i <;> simp at hi ⊢ <;> exact hi
  clear x1 x2 p0 p1 p2 q0 q1 q2
  go_region_held3 (fun w' => w'.cell? ⟨w.heap.size, 0, none⟩ = some (.int .i64 a1) ∧ w'.cell? ⟨w.heap.size, 1, none⟩ = some (.int .i64 a2) ∧ w'.cell? ⟨w.heap.size, 2, none⟩ = some (.bool a3) ∧ w'.cell? ⟨w.heap.size + 1, 0, none⟩ = some (.int .i64 b1) ∧ w'.cell? ⟨w.heap.size + 1, 1, none⟩ = some (.int .i64 b2) ∧ w'.cell? ⟨w.heap.size + 1, 2, none⟩ = some (.bool b3) ∧ Far w1 w')
    (first | assumption | exact hS _ (Far.refl _).drew | exact hS _ ((Far.refl _).drew.alloc _) | exact hS _ (((Far.refl _).drew.alloc _).alloc _) | exact hS _ ((((Far.refl _).drew.alloc _).alloc _).alloc _) | fail)
    (first | (go_at_call 102; refine (cm _ _ _).mono ?_; rintro e w' ⟨rfl, rfl⟩) | (go_at_call 94; refine (hri _).mono ?_; rintro e w' ⟨rfl, rfl⟩) | (go_at_call 94; refine (hrb _).mono ?_; rintro e w' ⟨rfl, rfl⟩) | (go_at_call 101; refine (hor _ _ _ _ _ (by simp)).mono ?_; rintro e w' ⟨rfl, rfl⟩) | fail)
  go_wp2_with fail
  go_ret
  rw [hcf.out]
  exact ⟨rfl, (((hF.alloc _).alloc _).alloc _).drew⟩
end Go.Proofs.YteafdhpcnpfmkaaGreat
/- Layer 10: the keys of a map of edges gathered and sorted (slices.Collect, slices.SortedFunc). Conditions: no more than a million. -/
namespace Go.Proofs.YteafdhpcnpfmkaaGreat
open Go.RowKit Go.Shelf Go.Maps Go.Sort

theorem collect_in (m : Nat) (hm : 6 ≤ m) {H : Type} {R : Value → Option (DataW H × List MemPlace)} {D0 : DataW H} {L : List Ed} (hK : KeysAre D0 L) (hL : L.length ≤ 1000000) (Bm b nn : Nat) (w : World)
    (hmm : w.cell? ⟨Bm, 0, none⟩ = some (.map (some b))) (hown : w.ownsMap Tryz.prog 117 R b nn D0) :
    CallsIn Fence.wide m Tryz.prog 98 #[.func (.func 100) #[] #[.pointer (some ⟨Bm, 0, none⟩)]] w fun e w' =>
      ∃ v ys, e = .returned v ∧ ys.Perm L ∧ w'.ownsRow w.heap.size 117 3 v ys.length (ecells ys) ∧ Below w.heap.size w w' := by
  refine callsIn_of_wp Tryz.func98 rfl trivial ?_ rfl
  simp only [Tryz.ntmps98, List.size_toArray, List.length_cons, List.length_nil, Nat.reduceAdd, Nat.reduceSub, Array.replicate_succ, Array.replicate_zero, List.push_toArray, List.append_toArray, List.nil_append, List.cons_append]
  have h1 : 1 ≤ m := by omega
  gi_wp2
  refine ⟨trivial, (appendSeq_in (m - 1) (by omega) hK hL Bm b nn _ hmm hown).mono ?_⟩
  rintro e w' ⟨v, ys, rfl, hp, hrow, hb⟩
  gi_wp2
  go_ret
  exact ⟨v, ys, rfl, hp, hrow, hb⟩

theorem flat_div {ys : List Ed} {t : Nat} (h : t < ys.length * 3) : (ecells ys)[t]? = some (flatK ecell 3 ys.toArray)[t]! := by
  have hi : t / 3 < ys.length := by omega
  have e := flat_get ecell (sz := 3) (fun _ => rfl) (l := ys) (i := t / 3) (k := t % 3) (a := ys[t / 3]) (List.getElem?_eq_getElem hi) (by omega)
  rw [show t / 3 * 3 + t % 3 = t by omega] at e
  rw [get_flatK _ _ _ _ (by simpa using h)]
  show (ys.flatMap ecell)[t]? = _
  rw [e]
  have e2 : ys.toArray[t / 3]! = ys[t / 3] := by simp [hi]
  rw [e2, List.getElem?_eq_getElem (by show t % 3 < 3; omega), getElem!_pos _ _ (by show t % 3 < 3; omega)]
theorem holds_own {w : World} {B g cap : Nat} {ys : List Ed} (h : w.ownsRow B 117 3 (.slice (some ⟨g, 0, none⟩) ys.length cap) ys.length (ecells ys)) : HoldsK ecell 3 w g 0 ys.toArray := fun j hj => by
  rw [size_flatK, List.size_toArray] at hj
  rcases h.2 with ⟨e, _⟩ | ⟨g2, cap2, cur, e, _, hh, _, _, _, ht⟩
  · cases e
  injection e with e _ _
  injection e with e
  injection e with e _ _
  subst e
  refine ⟨?_, Bk.fz hh _⟩
  rw [Nat.zero_add, Bk.cell hh j, ← Array.getElem?_toList, id_eq, ← flat_div hj, ← ht, List.getElem?_take_of_lt hj]
theorem rd_holds {w : World} {g cap : Nat} {d : Array Ed} (h : HoldsK ecell 3 w g 0 d) (hg : g < w.heap.size) (hc : d.size ≤ cap) (hm : cap ≤ maxLen) : Rd w w.heap.size 3 (some ⟨g, 0, none⟩) d.size cap (ecells d.toList) := by
  refine ⟨by rw [ecells_len]; simp, hc, hm, fun e => (by cases e), fun _ => ⟨g, 0, rfl, hg, fun j u hj => ?_⟩⟩
  have hj2 : j < d.size * 3 := by
    have := (List.getElem?_eq_some_iff.1 hj).1
    rwa [ecells_len] at this
  rw [flat_div (by simpa using hj2)] at hj
  have := (h j (by rw [size_flatK]; exact hj2)).1
  rw [this]
  simpa using hj
theorem grown_sort {w : World} {g n : Nat} {os : Array Obj} {d : Array Ed} : w.grownBy (sortWorldK ecell 3 w g 0 n d os) (some g) := by
  refine ⟨rfl, rfl, rfl, size_sortWorldK_c ecell 3 w g 0 n d os, fun k hk hne => ?_⟩
  have : g ≠ k := fun e => hne (by rw [e])
  rw [sortWorldK, heap_grow_old _ _ (by simpa [putRowK, putRow, mapBlock, Sort.ahead] using hk)]
  simp [putRowK, putRow, mapBlock, Sort.ahead, Array.getElem?_modify, this]
/-- Edges that rise. -/
def Rising (l : List Ed) : Prop := l.Pairwise fun a b => cfE a b < 0
theorem cfE_ne {a b : Ed} (h : a ≠ b) (h2 : ¬ cfE b a < 0) : cfE a b < 0 := by
  rw [cfE_neg] at *
  have h3 : ¬ (a.1 = b.1 ∧ a.2.1 = b.2.1 ∧ riI a = riI b) := fun ⟨e1, e2, e3⟩ => h (by
    refine Prod.ext e1 (Prod.ext e2 ?_)
    unfold riI at e3
    cases ha : a.2.2 <;> cases hb : b.2.2 <;> simp [ha, hb] at e3 ⊢)
  omega
theorem rising_of {d : Array Ed} (hs : SortedIn (ltOf cfE) 0 d.size d) (hn : d.toList.Nodup) : Rising d.toList := by
  refine List.pairwise_iff_getElem.2 fun i j hi hj hij => ?_
  simp only [Array.length_toList] at hi hj
  have := hs i j (Nat.zero_le _) hij hj
  simp only [ltOf, decide_eq_false_iff_not] at this
  rw [getElem!_pos d i hi, getElem!_pos d j hj] at this
  simp only [Array.getElem_toList]
  refine cfE_ne (fun e => ?_) this
  exact absurd (List.pairwise_iff_getElem.1 hn i j (by simpa using hi) (by simpa using hj) hij) (by simpa using e)
theorem aggE (w : World) : (isAgg 117).run Tryz.prog w = .ok true w := Tryz.isAgg117 w
theorem sizeE (w : World) : (Go.sizeOf 117).run Tryz.prog w = .ok 3 w := Tryz.sizeOf117 w

set_option maxRecDepth 100000 in
set_option maxHeartbeats 1000000 in
theorem sort_any {w : World} {B g cap : Nat} {ys : List Ed} (h : w.ownsRow B 117 3 (.slice (some ⟨g, 0, none⟩) ys.length cap) ys.length (ecells ys)) (hn : ys.Nodup) (h0 : 0 < ys.length) (hl : ys.length ≤ 1000000) :
    Calls Tryz.prog 99 #[.slice (some ⟨g, 0, none⟩) ys.length cap, .func (.func 59) #[] #[]] w fun e w' => e = .returned (.tuple #[]) ∧ ∃ zs : List Ed, zs.Perm ys ∧ Rising zs ∧
      Rd w' w'.heap.size 3 (some ⟨g, 0, none⟩) ys.length cap (ecells zs) ∧ w.grownBy w' (some g) := by
  have hg := (h.lt g rfl).2
  have hH := holds_own h
  have hcap : ys.length ≤ cap ∧ cap ≤ maxLen := by
    obtain ⟨A, c, e, hr⟩ := Rd.own h
    injection e with _ _ e
    subst e
    exact ⟨hr.cap, hr.capm⟩
  have hc : CmpLays Tryz.prog 59 #[] ecell 3 cfE g 0 ys.toArray.size w := fun m os dk _ x y => (compare_any x y _).mono fun _ _ ⟨h1, h2⟩ => ⟨h1, h2.out⟩
  have := AnyQ.slices_SortFunc laysSort 3 aggE sizeE ecell (fun _ => rfl) ecell_one cfE swoE 59 #[] g 0 cap ys.toArray w (enters_of Tryz.func59 (by kernel_rfl) rfl) hc hH hg (by simp; omega)
  rw [List.size_toArray] at this
  refine this.mono ?_
  rintro e w' ⟨rfl, d', n, os, hp, hs, rfl⟩
  have hsz : d'.size = ys.length := by simpa using hp.1
  have hpp : d'.toList.Perm ys := by
    have := hp.2.2
    have e : d'.toList.take ys.length = d'.toList := List.take_of_length_le (by simp [hsz])
    simpa [e, hsz] using this
  refine ⟨rfl, d'.toList, hpp, rising_of (by rw [hsz]; exact hs) (hpp.nodup_iff.2 hn), ?_, grown_sort⟩
  have hh := holdsK_sortWorldK_c ecell 3 w g 0 ys.toArray d' n os hH hg (by simpa using hsz)
  have := rd_holds (cap := cap) hh (lt_sortWorldK ecell 3 w g 0 n d' os hg) (by omega) hcap.2
  rwa [hsz] at this

theorem insertion_none (p : Option Addr) (cap : Nat) (fv : Value) (w : World) : Calls Tryz.prog 155 #[.slice p 0 cap, .int .i64 0, .int .i64 0, fv] w fun e w' => e = .returned (.tuple #[]) ∧ w' = w := by
  go_enter Tryz.func155, Tryz.ntmps155
  go_wp2_with fail
  refine wp_loop_rounds 1 ?_
  rw [rounds_succ]
  go_wp2_with fail
  go_end0
  exact ⟨rfl, rfl⟩
set_option maxHeartbeats 2000000 in
theorem pdq_none (p : Option Addr) (cap : Nat) (lim : Int) (fv : Value) (w : World) : Calls Tryz.prog 136 #[.slice p 0 cap, .int .i64 0, .int .i64 0, .int .i64 lim, fv] w fun e w' => e = .returned (.tuple #[]) ∧ w' = w := by
  have hi := fun W => insertion_none p cap fv W
  go_enter Tryz.func136, Tryz.ntmps136
  go_wp2_with fail
  refine wp_loop_rounds 1 ?_
  rw [rounds_succ]
  go_wp2_with (go_at_call 155; refine (hi _).mono ?_; rintro e w' ⟨rfl, rfl⟩)
  (try simp only [Exit.inBlock, Exit.then])
  refine bodyPost_ret (results_none rfl _ _ _) rfl ?_
  exact ⟨rfl, rfl⟩
theorem sort_none (p : Option Addr) (cap : Nat) (fv : Value) (w : World) : Calls Tryz.prog 99 #[.slice p 0 cap, fv] w fun e w' => e = .returned (.tuple #[]) ∧ w' = w := by
  have hp := fun lim W => pdq_none p cap lim fv W
  have hl : ∀ W, Calls Tryz.prog 137 #[.int .u64 0] W fun e w' => e = .returned (.int .i64 (Lib.bitLen 0 : Nat)) ∧ w' = W := fun W => by
    have h := Any.bits_Len (SlLaysF0.n15.bits (P := Tryz.prog) (ρ := laysSort_ren) { laysSort with }) 0 W (by omega) (by omega)
    exact h
  go_enter Tryz.func99, Tryz.ntmps99
  go_wp2_with (first | (go_at_call 137; refine (hl _).mono ?_; rintro e w' ⟨rfl, rfl⟩) | (go_at_call 136; refine (hp _ _).mono ?_; rintro e w' ⟨rfl, rfl⟩))
  go_end0
  exact ⟨rfl, rfl⟩

set_option maxHeartbeats 1000000 in
theorem sortedFunc_any {H : Type} {R : Value → Option (DataW H × List MemPlace)} {D0 : DataW H} {L : List Ed} (hK : KeysAre D0 L) (hL : L.length ≤ 1000000) (Bm b nn : Nat) (w : World)
    (hmm : w.cell? ⟨Bm, 0, none⟩ = some (.map (some b))) (hown : w.ownsMap Tryz.prog 117 R b nn D0) :
    Calls Tryz.prog 57 #[.func (.func 100) #[] #[.pointer (some ⟨Bm, 0, none⟩)], .func (.func 59) #[] #[]] w fun e w' =>
      ∃ A c zs, e = .returned (.slice A L.length c) ∧ zs.Perm L ∧ Rising zs ∧ Rd w' w'.heap.size 3 A L.length c (ecells zs) ∧ Below w.heap.size w w' := by
  have kc := callsIn_wide.1 (collect_in 6 (Nat.le_refl _) hK hL Bm b nn w hmm hown)
  go_enter Tryz.func57, Tryz.ntmps57
  go_wp2_with (go_at_call 98; refine kc.mono ?_; rintro e w1 ⟨v, ys, rfl, hp, hrow, hb⟩)
  have hl := hp.length_eq
  rcases Nat.eq_zero_or_pos ys.length with h0 | h0
  · obtain ⟨A, c, rfl, hr⟩ := Rd.own hrow
    obtain rfl : ys = [] := List.eq_nil_of_length_eq_zero h0
    obtain rfl : L = [] := hp.nil_eq.symm
    have hr := Lib.hid hr
    clear hrow hp hl h0
    go_wp2_with (go_at_call 99; refine (sort_none _ _ _ _).mono ?_; rintro e w' ⟨rfl, hw2⟩)
    subst hw2
    go_ret
    exact ⟨A, c, [], rfl, List.Perm.refl _, List.Pairwise.nil, hr.out, hb⟩
  · have hc : ∃ g c, v = .slice (some ⟨g, 0, none⟩) ys.length c := by
      rcases hrow.2 with ⟨_, h1⟩ | ⟨g, cap, _, h1, _⟩
      · omega
      · exact ⟨g, cap, h1⟩
    obtain ⟨g, c, rfl⟩ := hc
    have ks := sort_any hrow (hp.nodup_iff.2 hK.nodup) h0 (by omega)
    have hg := (hrow.lt g rfl).1
    go_wp2_with (go_at_call 99; refine ks.mono ?_; rintro e w2 ⟨rfl, zs, hz, hs, hR, hgr⟩)
    go_ret
    rw [← hl]
    exact ⟨_, _, zs, rfl, hz.trans hp, hs, hR, hb.grown hgr hb.size fun k e => by cases e; exact hg⟩
end Go.Proofs.YteafdhpcnpfmkaaGreat
