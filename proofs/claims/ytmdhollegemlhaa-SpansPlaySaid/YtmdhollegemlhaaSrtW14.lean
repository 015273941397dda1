/- Layer 14: how events are compared; slices.SortFunc over them. Conditions: no more than a million. -/
import Derived.Deep.RegionHeld3
import Derived.Outline
import Derived.Shelf.AbstractIn
import Derived.Test.YtmdhollegemlhaaShelf14
import Derived.Test.YtmdhollegemlhaaMapW14
namespace Go.Proofs.Ytmdhollegemlhaa
open Go.Shelf Go.RowKit Go.Lib Go.Sort

theorem flat14_get {α : Type} (g : α → List Value) {sz : Nat} (hg : ∀ a, (g a).length = sz) {l : List α} {i k : Nat} {a : α} (hi : l[i]? = some a) (hk : k < sz) : (l.flatMap g)[i * sz + k]? = (g a)[k]? := by
  induction l generalizing i with
  | nil => simp at hi
  | cons b t ih =>
    rw [List.flatMap_cons]
    cases i with
    | zero =>
      simp at hi
      subst hi
      rw [Nat.zero_mul, Nat.zero_add, List.getElem?_append_left (by rw [hg]; exact hk)]
    | succ i =>
      rw [List.getElem?_append_right (by rw [hg, Nat.add_mul]; omega), hg, show (i + 1) * sz + k - sz = i * sz + k by rw [Nat.add_mul]; omega]
      exact ih (by simpa using hi)
/-- Some draws on, and with some blocks more. -/
structure Far4 (w w' : World) : Prop where
  out : ∃ q os, w' = grow (w.drewN q) os
theorem Far4.refl (w : World) : Far4 w w := ⟨0, #[], by rw [grow_empty]; rfl⟩
theorem Far4.drew {w w' : World} (h : Far4 w w') : Far4 w w'.drew := by
  obtain ⟨q, os, rfl⟩ := h
  exact ⟨q + 1, os, rfl⟩
theorem Far4.alloc {w w' : World} (h : Far4 w w') (o : Obj) : Far4 w (w'.alloc o) := by
  obtain ⟨q, os, rfl⟩ := h
  exact ⟨q, os ++ #[o], by rw [alloc_eq_grow, grow_grow]⟩
theorem Far4.cell {w w' : World} (h : Far4 w w') {a : Addr} {v : Value} (hc : w.cell? a = some v) : w'.cell? a = some v := by
  obtain ⟨q, os, rfl⟩ := h
  rw [cell?_grow _ _ _ (by exact World.block_lt_of_cell? w a hc)]
  exact hc

def ti (e : Ev) : Int := if e.2.2 then 1 else 0
theorem turn_is (e : Ev) (w : World) : Calls Try.prog 44 #[.agg (ecl e).toArray] w fun r w' => r = .returned (.int .i64 (ti e)) ∧ w' = w.alloc (.cells (ecl e).toArray 49) := by
  obtain ⟨x, y, b⟩ := e
  simp only [ecl]
  cases b
  · go_enter Try.func44, Try.ntmps44
    go_wp2
    go_ret
    exact ⟨rfl, rfl⟩
  · go_enter Try.func44, Try.ntmps44
    go_wp2
    go_ret
    exact ⟨rfl, rfl⟩
theorem nan_is (x : ByteArray) (w : World) : Calls Try.prog 57 #[.string x] w fun r w' => r = .returned (.bool false) ∧ w' = w := by
  go_enter Try.func57, Try.ntmps57
  go_wp2
  go_ret
  exact ⟨rfl, rfl⟩
/-- Two texts compared. -/
def cmpS (x y : ByteArray) : Int := if kl x y then -1 else if kl y x then 1 else 0
theorem cmpS_is (x y : ByteArray) (w : World) : Calls Try.prog 43 #[.string x, .string y] w fun r w' => r = .returned (.int .i64 (cmpS x y)) ∧ w' = w := by
  have kx := nan_is x w
  have ky := nan_is y w
  unfold cmpS
  cases e1 : kl x y with
  | true =>
    have d1 : Op.bytesLess x.toList y.toList = true := e1
    rw [if_pos rfl]
    clear e1
    go_enter Try.func43, Try.ntmps43
    go_wp2_with (go_at_call 57; first
      | (with_reducible refine kx.mono ?_; rintro e w1 ⟨rfl, rfl⟩)
      | (with_reducible refine ky.mono ?_; rintro e w1 ⟨rfl, rfl⟩))
    go_ret
    exact ⟨rfl, rfl⟩
  | false =>
    have d1 : Op.bytesLess x.toList y.toList = false := e1
    rw [if_neg (by decide)]
    clear e1
    cases e2 : kl y x with
    | true =>
      have d2 : Op.bytesLess y.toList x.toList = true := e2
      have d3 : (x.toList == y.toList) = false := beq_false_of_ne fun z => kl_ne e2 (tl_inj z).symm
      rw [if_pos rfl]
      clear e2
      go_enter Try.func43, Try.ntmps43
      go_wp2_with (go_at_call 57; first
        | (with_reducible refine kx.mono ?_; rintro e w1 ⟨rfl, rfl⟩)
        | (with_reducible refine ky.mono ?_; rintro e w1 ⟨rfl, rfl⟩))
      go_ret
      exact ⟨rfl, rfl⟩
    | false =>
      rw [if_neg (by decide)]
      obtain rfl := kl_tri d1 e2
      clear e2 ky
      go_enter Try.func43, Try.ntmps43
      go_wp2_with (go_at_call 57; refine kx.mono ?_; rintro e w1 ⟨rfl, rfl⟩)
      go_ret
      exact ⟨rfl, rfl⟩

/-- The first that is not 0. -/
def orV : List Int → Int
  | [] => 0
  | x :: l => if x = 0 then orV l else x
theorem or14_zeros {l : List Int} {j : Nat} (h : ∀ i, i < j → l[i]? = some 0) : orV l = orV (l.drop j) := by
  induction j with
  | zero => rfl
  | succ j ih =>
    rw [ih fun i hi => h i (by omega)]
    have hj := h j (by omega)
    rw [List.drop_eq_getElem_cons (lt_at hj), orV, if_pos]
    exact Option.some.inj ((List.getElem?_eq_getElem _).symm.trans hj)

set_option maxHeartbeats 1000000 in
theorem or14_is {w : World} {b n c : Nat} {l : List Int} (hn : l.length = n) (hb : n ≤ 1000000) (h : ∀ i x, l[i]? = some x → w.cell? ⟨b, i, none⟩ = some (.int .i64 x)) :
    Calls Try.prog 41 #[.slice (some ⟨b, 0, none⟩) n c] w fun e w' => e = .returned (.int .i64 (orV l)) ∧ w' = w := by
  go_enter Try.func41, Try.ntmps41
  go_wp2_with fail
  go_loopw [8] (fun vi wx => ∃ j : Nat, vi = .int .i64 j ∧ j ≤ n ∧ wx = w ∧ ∀ i, i < j → l[i]? = some 0) (fun vi _ => n - (intOf vi).toNat)
  case atStart => exact ⟨0, rfl, Nat.zero_le _, rfl, fun i hi => by omega⟩
  case round =>
    obtain ⟨j, rfl, hj, rfl, hz⟩ := hrel
    by_cases hjn : j < n
    · have hjn' : (j : Int) < (n : Int) := by omega
      obtain ⟨x, hx⟩ : ∃ x, l[j]? = some x := ⟨_, List.getElem?_eq_getElem (by omega)⟩
      have c0 := h j x hx
      by_cases h0 : x = 0
      · subst h0
        have hz' : ∀ i, i < j + 1 → l[i]? = some 0 := fun i hi => by
          by_cases e : i = j
          · rw [e, hx]
          · exact hz i (by omega)
        clear hz hx h
        go_wp2_with fail
        exact ⟨⟨j + 1, by go_num, by omega, trivial, hz'⟩, by simp [intOf]; omega⟩
      · have h0' : (x != 0) = true := by simpa using h0
        have ho : Hid (orV l = x) := Lib.hid (by
          rw [or14_zeros hz, List.drop_eq_getElem_cons (lt_at hx), orV]
          have e : l[j]'(lt_at hx) = x := Option.some.inj ((List.getElem?_eq_getElem _).symm.trans hx)
          rw [if_neg (by rw [e]; exact h0), e])
        clear hz hx h
        go_wp2_with fail
        go_ret
        rw [ho.out]
        exact ⟨rfl, rfl⟩
    · obtain rfl : j = n := by omega
      have hjn' : ¬ (((j : Nat) : Int) < (j : Int)) := by omega
      have ho : Hid (orV l = 0) := Lib.hid (by rw [or14_zeros hz, List.drop_eq_nil_of_le (by omega)]; rfl)
      clear hz h
      go_wp2_with fail
      go_ret
      rw [ho.out]
      exact ⟨rfl, rfl⟩

/-- How events stand to each other. -/
def cfV (a b : Ev) : Int := orV [compareInt a.1 b.1, cmpS a.2.1 b.2.1, compareInt (ti a) (ti b)]
theorem cfV_neg (a b : Ev) : cfV a b < 0 ↔ belowE a b = true := by
  have h1 : ∀ x y : Int, compareInt x y = 0 ↔ x = y := fun x y => by unfold compareInt; split <;> first | omega | (split <;> omega)
  have h2 : ∀ x y : Int, compareInt x y < 0 ↔ x < y := fun x y => by unfold compareInt; split <;> first | omega | (split <;> omega)
  have h3 : ∀ x y : ByteArray, cmpS x y = 0 ↔ x = y := fun x y => by
    unfold cmpS
    cases p : kl x y with
    | true => simp; exact kl_ne p
    | false =>
      cases q : kl y x with
      | true => simp; exact Ne.symm (kl_ne q)
      | false => simp; exact kl_tri p q
  have h4 : ∀ x y : ByteArray, cmpS x y < 0 ↔ kl x y = true := fun x y => by
    unfold cmpS
    cases p : kl x y with
    | true => simp
    | false => cases q : kl y x <;> simp
  have h5 : ti a < ti b ↔ (a.2.2 = false ∧ b.2.2 = true) := by
    unfold ti
    cases a.2.2 <;> cases b.2.2 <;> simp
  rw [belowE_iff]
  simp only [cfV, orV]
  by_cases e1 : a.1 = b.1
  · rw [if_pos ((h1 _ _).2 e1)]
    by_cases e2 : a.2.1 = b.2.1
    · rw [if_pos ((h3 _ _).2 e2), e1, e2, kl_irr]
      by_cases e3 : ti a = ti b
      · rw [if_pos ((h1 _ _).2 e3)]
        have : ¬ ti a < ti b := by omega
        rw [h5] at this
        simp only [Int.lt_irrefl, false_or, true_and, false_iff]
        rintro (z | z)
        · cases z
        · exact this z
      · rw [if_neg fun e => e3 ((h1 _ _).1 e), h2, h5]
        simp
    · rw [if_neg fun e => e2 ((h3 _ _).1 e), h4, e1]
      simp [e2]
  · rw [if_neg fun e => e1 ((h1 _ _).1 e), h2]
    simp [e1]
theorem swoV : SWO (ltOf cfV) := by
  have hb : ∀ x y, ltOf cfV x y = belowE x y := fun x y => by
    simp only [ltOf]
    cases h : belowE x y with
    | true => exact decide_eq_true ((cfV_neg _ _).2 h)
    | false => exact decide_eq_false fun q => by rw [(cfV_neg _ _).1 q] at h; cases h
  refine ⟨fun x => ?_, fun x y z h1 h2 => ?_, fun x y z h1 h2 => ?_⟩
  · rw [hb]; exact belowE_irr x
  · rw [hb] at *; exact belowE_trans h1 h2
  · rw [hb] at *; exact LeE.trans (a := z) (b := y) (c := x) h2 h1

set_option maxRecDepth 100000 in
set_option maxHeartbeats 4000000 in
theorem inOrder_any (a b : Ev) (w : World) : Calls Try.prog 35 #[.agg (ecl a).toArray, .agg (ecl b).toArray] w fun e w' => e = .returned (.int .i64 (cfV a b)) ∧ Far4 w w' := by
  have hri := turn_is a
  have hrb := turn_is b
  obtain ⟨a1, a2, a3⟩ := a
  obtain ⟨b1, b2, b3⟩ := b
  simp only [ecl] at *
  obtain ⟨r1, hr1⟩ : ∃ r : Int, ti (a1, a2, a3) = r := ⟨_, rfl⟩
  obtain ⟨r2, hr2⟩ : ∃ r : Int, ti (b1, b2, b3) = r := ⟨_, rfl⟩
  have hcf : Hid (cfV (a1, a2, a3) (b1, b2, b3) = orV [compareInt a1 b1, cmpS a2 b2, compareInt r1 r2]) := Lib.hid (by subst hr1 hr2; rfl)
  simp only [hr1] at hri
  simp only [hr2] at hrb
  clear hr1 hr2
  have x1 := Rk.new w #[.int .i64 a1, .string a2, .bool a3] 49
  replace x1 := x1.alloc (.cells #[.int .i64 b1, .string b2, .bool b3] 49)
  have x2 := Rk.new (w.alloc (.cells #[.int .i64 a1, .string a2, .bool a3] 49)) #[.int .i64 b1, .string b2, .bool b3] 49
  have hF : Far4 w ((w.alloc (.cells #[.int .i64 a1, .string a2, .bool a3] 49)).alloc (.cells #[.int .i64 b1, .string b2, .bool b3] 49)) := ((Far4.refl w).alloc _).alloc _
  simp only [World.size_alloc] at x2
  have cs := fun x y W => cmpS_is x y W
  have cm := fun x y => AnyG.cmp_Compare_int laysCmp x y
  go_enter Try.func35, Try.ntmps35
  go_upto_region 1 with (fail)
  obtain ⟨w1, hw1⟩ : ∃ w1, (w.alloc (.cells #[.int .i64 a1, .string a2, .bool a3] 49)).alloc (.cells #[.int .i64 b1, .string b2, .bool b3] 49) = w1 := ⟨_, rfl⟩
  rw [hw1] at x1 x2 hF ⊢
  clear hw1
  have p0 := x1.cell 0
  have p1 := x1.cell 1
  have p2 := x1.cell 2
  have q0 := x2.cell 0
  have q1 := x2.cell 1
  have q2 := x2.cell 2
  simp only [List.getElem?_toArray, List.getElem?_cons_zero, List.getElem?_cons_succ] at p0 p1 p2 q0 q1 q2
  have hS : ∀ W, Far4 w1 W → (W.cell? ⟨w.heap.size, 0, none⟩ = some (.int .i64 a1) ∧ W.cell? ⟨w.heap.size, 1, none⟩ = some (.string a2) ∧ W.cell? ⟨w.heap.size, 2, none⟩ = some (.bool a3) ∧ W.cell? ⟨w.heap.size + 1, 0, none⟩ = some (.int .i64 b1) ∧ W.cell? ⟨w.heap.size + 1, 1, none⟩ = some (.string b2) ∧ W.cell? ⟨w.heap.size + 1, 2, none⟩ = some (.bool b3) ∧ Far4 w1 W) :=
    fun W h => ⟨h.cell p0, h.cell p1, h.cell p2, h.cell q0, h.cell q1, h.cell q2, h⟩
  have hor : ∀ (W : World) (bb : Nat) (x y z : Int), bb = W.heap.size → Calls Try.prog 41 #[.slice (some ⟨bb, 0, none⟩) 3 3] (W.alloc (.cells #[.int .i64 x, .int .i64 y, .int .i64 z] 3)).drew fun e w' => e = .returned (.int .i64 (orV [x, y, z])) ∧ w' = (W.alloc (.cells #[.int .i64 x, .int .i64 y, .int .i64 z] 3)).drew := fun W bb x y z hbb => hbb ▸
    or14_is rfl (by omega) fun i u hi => by
      show (W.alloc (.cells #[.int .i64 x, .int .i64 y, .int .i64 z] 3)).cell? _ = _
      rw [(Rk.new W #[.int .i64 x, .int .i64 y, .int .i64 z] 3).cell i]
      rcases i with _ | _ | _ | i <;> simp at hi ⊢ <;> exact hi
  clear x1 x2 p0 p1 p2 q0 q1 q2
  go_region_held3 (fun w' => w'.cell? ⟨w.heap.size, 0, none⟩ = some (.int .i64 a1) ∧ w'.cell? ⟨w.heap.size, 1, none⟩ = some (.string a2) ∧ w'.cell? ⟨w.heap.size, 2, none⟩ = some (.bool a3) ∧ w'.cell? ⟨w.heap.size + 1, 0, none⟩ = some (.int .i64 b1) ∧ w'.cell? ⟨w.heap.size + 1, 1, none⟩ = some (.string b2) ∧ w'.cell? ⟨w.heap.size + 1, 2, none⟩ = some (.bool b3) ∧ Far4 w1 w')
    (first | assumption | exact hS _ (Far4.refl _).drew | exact hS _ ((Far4.refl _).drew.alloc _) | exact hS _ (((Far4.refl _).drew.alloc _).alloc _) | exact hS _ ((((Far4.refl _).drew.alloc _).alloc _).alloc _) | fail)
    (first | (go_at_call 43; refine (cs _ _ _).mono ?_; rintro e w' ⟨rfl, rfl⟩) | (go_at_call 42; refine (cm _ _ _).mono ?_; rintro e w' ⟨rfl, rfl⟩) | (go_at_call 44; refine (hri _).mono ?_; rintro e w' ⟨rfl, rfl⟩) | (go_at_call 44; refine (hrb _).mono ?_; rintro e w' ⟨rfl, rfl⟩) | (go_at_call 41; refine (hor _ _ _ _ _ (by simp)).mono ?_; rintro e w' ⟨rfl, rfl⟩) | fail)
  go_wp2_with fail
  go_ret
  rw [hcf.out]
  exact ⟨rfl, (((hF.alloc _).alloc _).alloc _).drew⟩
theorem flat_div14 {ys : List Ev} {t : Nat} (h : t < ys.length * 3) : (ecs ys)[t]? = some (flatK ecl 3 ys.toArray)[t]! := by
  have hi : t / 3 < ys.length := by omega
  have e := flat14_get ecl (sz := 3) (fun _ => rfl) (l := ys) (i := t / 3) (k := t % 3) (a := ys[t / 3]) (List.getElem?_eq_getElem hi) (by omega)
  rw [show t / 3 * 3 + t % 3 = t by omega] at e
  rw [get_flatK _ _ _ _ (by simpa using h)]
  show (ys.flatMap ecl)[t]? = _
  rw [e]
  have e2 : ys.toArray[t / 3]! = ys[t / 3] := by simp [hi]
  rw [e2, List.getElem?_eq_getElem (by show t % 3 < 3; omega), getElem!_pos _ _ (by show t % 3 < 3; omega)]
theorem holds_own14 {w : World} {B g cap : Nat} {ys : List Ev} (h : w.ownsRow B 49 3 (.slice (some ⟨g, 0, none⟩) ys.length cap) ys.length (ecs ys)) : HoldsK ecl 3 w g 0 ys.toArray := fun j hj => by
  rw [size_flatK, List.size_toArray] at hj
  rcases h.2 with ⟨e, _⟩ | ⟨g2, cap2, cur, e, _, hh, _, _, _, ht⟩
  · cases e
  injection e with e _ _
  injection e with e
  injection e with e _ _
  subst e
  refine ⟨?_, Rk.fz hh _⟩
  rw [Nat.zero_add, Rk.cell hh j, ← Array.getElem?_toList, id_eq, ← flat_div14 hj, ← ht, List.getElem?_take_of_lt hj]
theorem rd_holds14 {w : World} {g cap : Nat} {d : Array Ev} (h : HoldsK ecl 3 w g 0 d) (hg : g < w.heap.size) (hc : d.size ≤ cap) (hm : cap ≤ maxLen) : Rd w w.heap.size 3 (some ⟨g, 0, none⟩) d.size cap (ecs d.toList) := by
  refine ⟨by rw [ecs_len]; simp, hc, hm, fun e => (by cases e), fun _ => ⟨g, 0, rfl, hg, fun j u hj => ?_⟩⟩
  have hj2 : j < d.size * 3 := by
    have := (List.getElem?_eq_some_iff.1 hj).1
    rwa [ecs_len] at this
  rw [flat_div14 (by simpa using hj2)] at hj
  have := (h j (by rw [size_flatK]; exact hj2)).1
  rw [this]
  simpa using hj
theorem grown_sort14 {w : World} {g n : Nat} {os : Array Obj} {d : Array Ev} : w.grownBy (sortWorldK ecl 3 w g 0 n d os) (some g) := by
  refine ⟨rfl, rfl, rfl, size_sortWorldK_c ecl 3 w g 0 n d os, fun k hk hne => ?_⟩
  have : g ≠ k := fun e => hne (by rw [e])
  rw [sortWorldK, heap_grow_old _ _ (by simpa [putRowK, putRow, mapBlock, Sort.ahead] using hk)]
  simp [putRowK, putRow, mapBlock, Sort.ahead, Array.getElem?_modify, this]
theorem rising_of14 {d : Array Ev} (hs : SortedIn (ltOf cfV) 0 d.size d) : RiseE d.toList := by
  refine List.pairwise_iff_getElem.2 fun i j hi hj hij => ?_
  simp only [Array.length_toList] at hi hj
  have := hs i j (Nat.zero_le _) hij hj
  simp only [ltOf, decide_eq_false_iff_not] at this
  rw [getElem!_pos d i hi, getElem!_pos d j hj, cfV_neg] at this
  simp only [Array.getElem_toList]
  unfold LeE
  exact Bool.eq_false_iff.2 this
theorem aggE14 (w : World) : (isAgg 49).run Try.prog w = .ok true w := Try.isAgg49 w
theorem sizeE14 (w : World) : (Go.sizeOf 49).run Try.prog w = .ok 3 w := Try.sizeOf49 w

set_option maxRecDepth 100000 in
set_option maxHeartbeats 1000000 in
theorem sort_any14 {w : World} {B g cap : Nat} {ys : List Ev} (h : w.ownsRow B 49 3 (.slice (some ⟨g, 0, none⟩) ys.length cap) ys.length (ecs ys)) (h0 : 0 < ys.length) (hl : ys.length ≤ 1000000) :
    Calls Try.prog 34 #[.slice (some ⟨g, 0, none⟩) ys.length cap, .func (.func 35) #[] #[]] w fun e w' => e = .returned (.tuple #[]) ∧ ∃ zs : List Ev, zs.Perm ys ∧ RiseE zs ∧
      Rd w' w'.heap.size 3 (some ⟨g, 0, none⟩) ys.length cap (ecs zs) ∧ w.grownBy w' (some g) := by
  have hg := (h.lt g rfl).2
  have hH := holds_own14 h
  have hcap : ys.length ≤ cap ∧ cap ≤ maxLen := by
    obtain ⟨A, c, e, hr⟩ := Rd.own h
    injection e with _ _ e
    subst e
    exact ⟨hr.cap, hr.capm⟩
  have hc : CmpLays Try.prog 35 #[] ecl 3 cfV g 0 ys.toArray.size w := fun m os dk _ x y => (inOrder_any x y _).mono fun _ _ ⟨h1, h2⟩ => ⟨h1, h2.out⟩
  have := AnyQ.slices_SortFunc laysSort 3 aggE14 sizeE14 ecl (fun _ => rfl) ecl_one cfV swoV 35 #[] g 0 cap ys.toArray w (enters_of Try.func35 (by kernel_rfl) rfl) hc hH hg (by simp; omega)
  rw [List.size_toArray] at this
  refine this.mono ?_
  rintro e w' ⟨rfl, d', n, os, hp, hs, rfl⟩
  have hsz : d'.size = ys.length := by simpa using hp.1
  have hpp : d'.toList.Perm ys := by
    have := hp.2.2
    have e : d'.toList.take ys.length = d'.toList := List.take_of_length_le (by simp [hsz])
    simpa [e, hsz] using this
  refine ⟨rfl, d'.toList, hpp, rising_of14 (by rw [hsz]; exact hs), ?_, grown_sort14⟩
  have hh := holdsK_sortWorldK_c ecl 3 w g 0 ys.toArray d' n os hH hg (by simpa using hsz)
  have := rd_holds14 (cap := cap) hh (lt_sortWorldK ecl 3 w g 0 n d' os hg) (by omega) hcap.2
  rwa [hsz] at this

theorem insertion_none14 (p : Option Addr) (cap : Nat) (fv : Value) (w : World) : Calls Try.prog 46 #[.slice p 0 cap, .int .i64 0, .int .i64 0, fv] w fun e w' => e = .returned (.tuple #[]) ∧ w' = w := by
  go_enter Try.func46, Try.ntmps46
  go_wp2_with fail
  refine wp_loop_rounds 1 ?_
  rw [rounds_succ]
  go_wp2_with fail
  go_end0
  exact ⟨rfl, rfl⟩
set_option maxHeartbeats 2000000 in
theorem pdq_none14 (p : Option Addr) (cap : Nat) (lim : Int) (fv : Value) (w : World) : Calls Try.prog 39 #[.slice p 0 cap, .int .i64 0, .int .i64 0, .int .i64 lim, fv] w fun e w' => e = .returned (.tuple #[]) ∧ w' = w := by
  have hi := fun W => insertion_none14 p cap fv W
  go_enter Try.func39, Try.ntmps39
  go_wp2_with fail
  refine wp_loop_rounds 1 ?_
  rw [rounds_succ]
  go_wp2_with (go_at_call 46; refine (hi _).mono ?_; rintro e w' ⟨rfl, rfl⟩)
  (try simp only [Exit.inBlock, Exit.then])
  refine bodyPost_ret (results_none rfl _ _ _) rfl ?_
  exact ⟨rfl, rfl⟩
theorem sort_none14 (p : Option Addr) (cap : Nat) (fv : Value) (w : World) : Calls Try.prog 34 #[.slice p 0 cap, fv] w fun e w' => e = .returned (.tuple #[]) ∧ w' = w := by
  have hp := fun lim W => pdq_none14 p cap lim fv W
  have hl : ∀ W, Calls Try.prog 40 #[.int .u64 0] W fun e w' => e = .returned (.int .i64 (Lib.bitLen 0 : Nat)) ∧ w' = W := fun W => by
    have h := Any.bits_Len (SlLaysF0.n15.bits (P := Try.prog) (ρ := laysSort_ren) { laysSort with }) 0 W (by omega) (by omega)
    exact h
  go_enter Try.func34, Try.ntmps34
  go_wp2_with (first | (go_at_call 40; refine (hl _).mono ?_; rintro e w' ⟨rfl, rfl⟩) | (go_at_call 39; refine (hp _ _).mono ?_; rintro e w' ⟨rfl, rfl⟩))
  go_end0
  exact ⟨rfl, rfl⟩

end Go.Proofs.Ytmdhollegemlhaa
