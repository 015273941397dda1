/- Layer 14, the document's side: below, put. Conditions: no more than a million events. -/
import Derived.Shelf.SlSortCmp.QuietGrown
import Derived.Test.YtmdhollegemlhaaRefS14
namespace Go.Proofs.Ytmdhollegemlhaa
open Go.RowKit

/-- Events as cells. -/
def ecl (x : Ev) : List Value := [.int .i64 x.1, .string x.2.1, .bool x.2.2]
def ecs (l : List Ev) : List Value := l.flatMap ecl
theorem ecl_one (x : Ev) : ∀ u ∈ ecl x, u.oneCell' = true := by
  intro u hu
  simp only [ecl, List.mem_cons, List.not_mem_nil, or_false] at hu
  rcases hu with rfl | rfl | rfl <;> rfl
theorem ecs_one (l : List Ev) : ∀ u ∈ ecs l, u.oneCell' = true := by
  intro u hu
  obtain ⟨p, _, hp⟩ := List.mem_flatMap.1 hu
  exact ecl_one p u hp
theorem ecs_len (l : List Ev) : (ecs l).length = l.length * 3 := by
  induction l with
  | nil => rfl
  | cons a t ih => rw [ecs, List.flatMap_cons, List.length_append, ← ecs, ih]; simp [ecl]; omega
theorem ecs_get {l : List Ev} {i : Nat} {x : Ev} (h : l[i]? = some x) : (ecs l)[i * 3]? = some (.int .i64 x.1) ∧ (ecs l)[i * 3 + 1]? = some (.string x.2.1) ∧ (ecs l)[i * 3 + 2]? = some (.bool x.2.2) := by
  induction l generalizing i with
  | nil => simp at h
  | cons a t ih =>
    rw [ecs, List.flatMap_cons, ← ecs]
    cases i with
    | zero =>
      simp at h
      subst h
      exact ⟨rfl, rfl, rfl⟩
    | succ i =>
      obtain ⟨h1, h2, h3⟩ := ih (by simpa using h)
      rw [List.getElem?_append_right (by simp [ecl]; omega), List.getElem?_append_right (by simp [ecl]; omega), List.getElem?_append_right (by simp [ecl]; omega)]
      simp only [ecl, List.length_cons, List.length_nil]
      rw [show (i + 1) * 3 - (0 + 1 + 1 + 1) = i * 3 by omega, show (i + 1) * 3 + 1 - (0 + 1 + 1 + 1) = i * 3 + 1 by omega, show (i + 1) * 3 + 2 - (0 + 1 + 1 + 1) = i * 3 + 2 by omega]
      exact ⟨h1, h2, h3⟩
theorem ecs_take (l : List Ev) (j : Nat) : ecs (l.take j) = (ecs l).take (j * 3) := by
  induction l generalizing j with
  | nil => simp [ecs]
  | cons a t ih =>
    cases j with
    | zero => simp [ecs]
    | succ j =>
      rw [List.take_succ_cons]
      show ecl a ++ ecs (t.take j) = (ecl a ++ ecs t).take ((j + 1) * 3)
      have hl : (ecl a).length = 3 := rfl
      have hj : (j + 1) * 3 - 3 = j * 3 := by omega
      rw [ih, List.take_append, hl, hj, List.take_of_length_le (l := ecl a) (by rw [hl]; omega)]
theorem ecs_drop (l : List Ev) (j : Nat) : ecs (l.drop j) = (ecs l).drop (j * 3) := by
  induction l generalizing j with
  | nil => simp [ecs]
  | cons a t ih =>
    cases j with
    | zero => simp [ecs]
    | succ j =>
      rw [List.drop_succ_cons]
      show ecs (t.drop j) = (ecl a ++ ecs t).drop ((j + 1) * 3)
      have hl : (ecl a).length = 3 := rfl
      have hj : (j + 1) * 3 - 3 = j * 3 := by omega
      rw [ih, List.drop_append, hl, hj, List.drop_of_length_le (l := ecl a) (by rw [hl]; omega), List.nil_append]
theorem rd_ev {w : World} {B n c : Nat} {A : Option Addr} {l : List Ev} (h : Rd w B 3 A n c (ecs l)) {i : Nat} {x : Ev} (hi : l[i]? = some x) :
    ∃ b o, A = some ⟨b, o, none⟩ ∧ b < B ∧ w.cell? ⟨b, o + i * 3, none⟩ = some (.int .i64 x.1) ∧ w.cell? ⟨b, o + i * 3 + 1, none⟩ = some (.string x.2.1) ∧ w.cell? ⟨b, o + i * 3 + 2, none⟩ = some (.bool x.2.2) := by
  have hn : 0 < n := by
    have h1 := h.len
    have h2 := ecs_len l
    have h3 := lt_at hi
    omega
  obtain ⟨b, o, e, hb, hc⟩ := h.at_ hn
  obtain ⟨h1, h2, h3⟩ := ecs_get hi
  exact ⟨b, o, e, hb, hc _ _ h1, by rw [Nat.add_assoc]; exact hc _ _ h2, by rw [Nat.add_assoc]; exact hc _ _ h3⟩

set_option maxHeartbeats 1000000 in
theorem rbelow_any (a b : Ev) (w : World) : Calls Try.prog 45 #[.agg (ecl a).toArray, .agg (ecl b).toArray] w fun e w' => e = .returned (.bool (belowE a b)) ∧ ∃ os, w' = Sort.grow w os := by
  have hg : ∃ os, (w.alloc (.cells (ecl a).toArray 50)).alloc (.cells (ecl b).toArray 50) = Sort.grow w os := ⟨_, by rw [Sort.alloc_eq_grow w, Sort.alloc_eq_grow, Sort.grow_grow]⟩
  obtain ⟨r1, k1, a1⟩ := a
  obtain ⟨r2, k2, a2⟩ := b
  simp only [ecl] at hg ⊢
  unfold belowE
  dsimp only
  by_cases h1 : r1 = r2
  · subst h1
    have d1 : (r1 != r1) = false := by simp
    rw [if_neg (by simp)]
    by_cases h2 : k1 = k2
    · subst h2
      have d2 : (k1.toList == k1.toList) = true := by simp
      rw [if_neg (by simp)]
      cases a1 <;> cases a2
      all_goals
        go_enter Try.func45, Try.ntmps45
        go_wp2_with fail
        go_ret
        exact ⟨rfl, hg⟩
    · have d2 : (k1.toList == k2.toList) = false := by rw [tl_eq, decide_eq_false h2]
      rw [if_pos h2]
      go_enter Try.func45, Try.ntmps45
      go_wp2_with fail
      go_ret
      exact ⟨rfl, hg⟩
  · have d1 : (r1 != r2) = true := by rw [bne, beq_eq_false_iff_ne.2 h1]; rfl
    rw [if_pos h1]
    go_enter Try.func45, Try.ntmps45
    go_wp2_with fail
    go_ret
    exact ⟨rfl, hg⟩

theorem grow_below (w : World) (B n : Nat) (os : Array Obj) (hB : B ≤ w.heap.size) : Below B w (Sort.grow (w.drewN n) os) := ⟨rfl, rfl, rfl, by rw [show (Sort.grow (w.drewN n) os).heap.size = w.heap.size + os.size by simp [Sort.grow]]; omega, fun k hk => by rw [Sort.heap_grow_old _ _ (show k < (w.drewN n).heap.size from Nat.lt_of_lt_of_le hk hB)]; rfl⟩

set_option maxRecDepth 100000 in
set_option maxHeartbeats 4000000 in
theorem rput_any {w : World} {A : Option Addr} {c : Nat} {l : List Ev} (h : Rd w w.heap.size 3 A l.length c (ecs l)) (hl : l.length ≤ 1000000) (x : Ev) :
    Calls Try.prog 36 #[.slice A l.length c, .agg (ecl x).toArray] w fun e w' => ∃ A' c', e = .returned (.slice A' (putE l x).length c') ∧ Rd w' w'.heap.size 3 A' (putE l x).length c' (ecs (putE l x)) ∧ Below w.heap.size w w' := by
  have mixed : Try.prog.follows .mixedOrders = true := by kernel_rfl
  obtain ⟨i0, hi0, hz0, hz1, hz2⟩ := info_parts (show (Try.prog.info? 50).map (fun i => (i.zero, i.size, i.bytes)) = some (some (.agg #[.int .i64 0, .string ⟨#[]⟩, .bool false]), 3, 32) by kernel_rfl)
  have kb := fun (y : Ev) (W : World) => rbelow_any y x W
  have hxc : (ecl x).toArray = #[.int .i64 x.1, .string x.2.1, .bool x.2.2] := rfl
  obtain ⟨w1, hw1⟩ : ∃ w1, w.alloc (.cells (ecl x).toArray 50) = w1 := ⟨_, rfl⟩
  have hb1 : Below w.heap.size w w1 := hw1 ▸ bnew w _
  have hlt1 : w.heap.size < w1.heap.size := by rw [← hw1]; simp
  have e0 : w1.cell? ⟨w.heap.size, 0, none⟩ = some (.int .i64 x.1) := by rw [← hw1, cell_of_row _ _ _ _ _ _ (heap_alloc_new w _)]; rfl
  have e1 : w1.cell? ⟨w.heap.size, 1, none⟩ = some (.string x.2.1) := by rw [← hw1, cell_of_row _ _ _ _ _ _ (heap_alloc_new w _)]; rfl
  have e2 : w1.cell? ⟨w.heap.size, 2, none⟩ = some (.bool x.2.2) := by rw [← hw1, cell_of_row _ _ _ _ _ _ (heap_alloc_new w _)]; rfl
  have h1 := h.up hb1
  have hputs := fun (i : Nat) (hi : i ≤ l.length) => putE_at (l := l) (x := x) hi
  have hplen := putE_len l x
  obtain ⟨P, hP⟩ : ∃ P, putE l x = P := ⟨_, rfl⟩
  rw [hP] at hplen hputs ⊢
  replace hplen := Lib.hid hplen
  replace hputs := Lib.hid hputs
  obtain ⟨xr, xk, xa⟩ := x
  simp only [ecl] at kb hw1 ⊢
  dsimp only at e0 e1 e2
  replace hw1 := Lib.hid hw1
  clear hP hxc h
  go_enter Try.func36, Try.ntmps36
  go_upto_region 1 with (fail)
  rw [hw1.out]
  clear hw1
  go_wp2_with fail
  go_loopw [5] (fun vi wx => ∃ i : Nat, vi = .int .i64 i ∧ i ≤ l.length ∧ Below w1.heap.size w1 wx ∧ Hid (∀ (j : Nat) a, j < i → l[j]? = some a → belowE a (xr, xk, xa) = true)) (fun vi _ => l.length - (intOf vi).toNat)
  case atStart => exact ⟨0, rfl, Nat.zero_le _, Below.refl _ _, Lib.hid fun j a hj => by omega⟩
  case round =>
    obtain ⟨i, rfl, hi, hbx, hall⟩ := hrel
    have hltr : w.heap.size < wr.heap.size := by have := hbx.size; omega
    have q0 := (hbx.cell hlt1).trans e0
    have q1 := (hbx.cell hlt1).trans e1
    have q2 := (hbx.cell hlt1).trans e2
    have Q0 := cell_grown (a := ⟨w.heap.size, 0, none⟩) hltr q0
    have Q1 := cell_grown (a := ⟨w.heap.size, 1, none⟩) hltr q1
    have Q2 := cell_grown (a := ⟨w.heap.size, 2, none⟩) hltr q2
    by_cases hil : i < l.length
    · have di : (i : Int) < (l.length : Int) := by omega
      obtain ⟨y, hy⟩ : ∃ y, l[i]? = some y := ⟨_, List.getElem?_eq_getElem hil⟩
      obtain ⟨b, o, rfl, hlb, g0, g1, g2⟩ := rd_ev (h1.below hbx) hy
      have hlbr : b < wr.heap.size := by have := hbx.size; omega
      have G0 := cell_grown (a := ⟨b, o + i * 3, none⟩) hlbr g0
      have G1 := cell_grown (a := ⟨b, o + i * 3 + 1, none⟩) hlbr g1
      have G2 := cell_grown (a := ⟨b, o + i * 3 + 2, none⟩) hlbr g2
      have ky := kb y
      obtain ⟨H, hH⟩ : ∃ H, belowE y (xr, xk, xa) = H := ⟨_, rfl⟩
      rw [hH] at ky
      cases H
      · have hstop : ∀ a, l[i]? = some a → belowE a (xr, xk, xa) = false := fun a ha => by rw [hy] at ha; cases ha; exact hH
        have hres := Lib.hid (hputs.out i hi hall.out hstop)
        clear hall hputs hstop
        obtain ⟨yr, yk, ya⟩ := y
        dsimp only at G0 G1 G2
        clear hH hy g0 g1 g2 q0 q1 q2 kb
        go_upto_region 2 with (fail)
        go_quiet_grown ((go_at_call 45; exact Calls.grown_of ((ky _).mono fun _ _ ⟨he, os, hw⟩ => ⟨he, 0, os, hw⟩)))
        have hb3g := bthen hbx hbx.size (grow_below wr _ nq osq (Nat.le_refl _))
        obtain ⟨wb, hwbE⟩ : ∃ wb, Sort.grow (wr.drewN nq) osq = wb := ⟨_, rfl⟩
        rw [hwbE] at hb3g ⊢
        clear hwbE G0 G1 G2 Q0 Q1 Q2 ky hbx
        have hb3 := hb3g
        have hwb := hb3.size
        have hltb : w.heap.size < wb.heap.size := by omega
        have p0 : wb.cell? ⟨w.heap.size, 0, none⟩ = some (.int .i64 xr) := (hb3.cell hlt1).trans e0
        have p1 : wb.cell? ⟨w.heap.size, 1, none⟩ = some (.string xk) := (hb3.cell hlt1).trans e1
        have p2 : wb.cell? ⟨w.heap.size, 2, none⟩ = some (.bool xa) := (hb3.cell hlt1).trans e2
        have hz := h1.up hb3
        have hsrc := (hz.pre (k := i) hi).src (P := Try.prog) Try.underlying46 (fun u hu => ecs_one l u (List.mem_of_mem_take hu))
        rw [← ecs_take] at hsrc
        have hcap := hz.cap
        clear hb3g
        go_upto_region 6 with (at_builtin; go_loud (refine wpList_append_src _ rfl (.tmp 21) (.tmp 24) 46 46 rfl w1.heap.size 50 i0 (.agg #[.int .i64 0, .string ⟨#[]⟩, .bool false]) 3 32 Try.underlying46 hi0 hz0 hz1 hz2 rfl (by decide) (.slice none 0 0) 0 [] rfl (World.ownsRow_nil _ _ _ _) _ i (ecs (l.take i)) rfl hsrc (by simp only [maxLen]; omega) (by omega) hwb ?_; intro v9 w8 hown8 hg8 hat8))
        rw [Nat.zero_add, List.nil_append] at hown8
        have hb8 := below_of_own hb3 hg8 (World.ownsRow_nil wb w1.heap.size 50 3) hwb (Nat.le_refl _)
        have hw8 := hb8.size
        have r0 : w8.cell? ⟨w.heap.size, 0, none⟩ = some (.int .i64 xr) := (hb8.cell hlt1).trans e0
        have r1 : w8.cell? ⟨w.heap.size, 1, none⟩ = some (.string xk) := (hb8.cell hlt1).trans e1
        have r2 : w8.cell? ⟨w.heap.size, 2, none⟩ = some (.bool xa) := (hb8.cell hlt1).trans e2
        have hlt8 : w.heap.size < w8.heap.size := by omega
        clear hsrc hg8 hat8 p0 p1 p2
        obtain ⟨A8, c8, rfl, _⟩ := Rd.own hown8
        go_upto_region 7 with (at_builtin; go_loud (refine wpList_append_src _ rfl (.tmp 26) (.tmp 28) 46 46 rfl w1.heap.size 50 i0 (.agg #[.int .i64 0, .string ⟨#[]⟩, .bool false]) 3 32 Try.underlying46 hi0 hz0 hz1 hz2 rfl (by decide) (.slice A8 i c8) i (ecs (l.take i)) rfl (hown8.alloc _) _ 1 [.int .i64 xr, .string xk, .bool xa] rfl (Src.ofSlice _ Try.underlying46 _ 1 1 _ rfl (cells_at _ #[.int .i64 xr, .string xk, .bool xa] _ _ (by simp)) (ecl_one (xr, xk, xa))) (by simp only [maxLen]; omega) (by omega) (size_alloc hw8) ?_; intro v7 w7 hown7 hg7 hat7))
        have hb7 := below_of_own (hb8.alloc hw8 _) hg7 (hown8.alloc _) (size_alloc hw8) (Nat.le_refl _)
        have hw7 := hb7.size
        have hz7 := h1.below hb7
        clear hg7 hat7 hown8 hw8 hb8 r0 r1 r2
        obtain ⟨A7, c7, rfl, _⟩ := Rd.own hown7
        have hcut := (hz7.cut hi).src (P := Try.prog) Try.underlying46 (fun u hu => ecs_one l u (List.mem_of_mem_drop hu))
        rw [← ecs_drop] at hcut
        simp only [if_neg (show ¬ c = i by omega), Option.map_some, Addr.add_lit] at hcut
        go_wp2_with (at_builtin; go_loud (refine wpList_append_src _ rfl (.tmp 30) (.tmp 33) 46 46 rfl w1.heap.size 50 i0 (.agg #[.int .i64 0, .string ⟨#[]⟩, .bool false]) 3 32 Try.underlying46 hi0 hz0 hz1 hz2 rfl (by decide) (.slice A7 (i + 1) c7) (i + 1) (ecs (l.take i) ++ [.int .i64 xr, .string xk, .bool xa]) rfl hown7 _ (l.length - i) (ecs (l.drop i)) rfl hcut (by simp only [maxLen]; omega) (by omega) hw7 ?_; intro v6 w6 hown6 hg6 hat6))
        all_goals
          have hb6 := below_of_own hb7 hg6 hown7 hw7 (Nat.le_refl _)
          obtain ⟨A6, c6, rfl, hR6⟩ := Rd.own hown6
          have hlen : i + 1 + (l.length - i) = P.length := by have := hplen.out; omega
          have hcel : ecs (l.take i) ++ [.int .i64 xr, .string xk, .bool xa] ++ ecs (l.drop i) = ecs P := by rw [hres.out]; simp [ecs, ecl]
          rw [hcel, hlen] at hR6
          rw [hlen]
          go_ret
          exact ⟨A6, c6, rfl, hR6, bthen hb1 hb1.size hb6⟩
      · have hall2 : Hid (∀ (j : Nat) a, j < i + 1 → l[j]? = some a → belowE a (xr, xk, xa) = true) := Lib.hid fun j z hj hz => by
          by_cases q : j = i
          · subst q; rw [hy] at hz; cases hz; exact hH
          · exact hall.out j z (by omega) hz
        obtain ⟨yr, yk, ya⟩ := y
        dsimp only at G0 G1 G2
        clear hall hH hy g0 g1 g2 q0 q1 q2 kb
        go_upto_region 2 with (fail)
        go_quiet_grown ((go_at_call 45; exact Calls.grown_of ((ky _).mono fun _ _ ⟨he, os, hw⟩ => ⟨he, 0, os, hw⟩)))
        go_wp2_with fail
        have hb3 := bthen hbx hbx.size (grow_below wr _ nq osq (Nat.le_refl _))
        exact ⟨⟨i + 1, by go_num, by omega, hb3, hall2⟩, by simp [intOf]; omega⟩
    · have di : ¬ (i : Int) < (l.length : Int) := by omega
      have hstop : ∀ a, l[i]? = some a → belowE a (xr, xk, xa) = false := fun a ha => by have := lt_at ha; omega
      have hil2 := Lib.hid (show i = l.length by omega)
      have hres := Lib.hid (hputs.out i hi hall.out hstop)
      clear hall hputs hstop
      clear q0 q1 q2 kb hil
      go_upto_region 2 with (fail)
      go_quiet_grown (fail)
      have hb3g := bthen hbx hbx.size (grow_below wr _ nq osq (Nat.le_refl _))
      obtain ⟨wb, hwbE⟩ : ∃ wb, Sort.grow (wr.drewN nq) osq = wb := ⟨_, rfl⟩
      rw [hwbE] at hb3g ⊢
      clear hwbE Q0 Q1 Q2 hbx
      have hb3 := hb3g
      have hwb := hb3.size
      have hltb : w.heap.size < wb.heap.size := by omega
      have p0 : wb.cell? ⟨w.heap.size, 0, none⟩ = some (.int .i64 xr) := (hb3.cell hlt1).trans e0
      have p1 : wb.cell? ⟨w.heap.size, 1, none⟩ = some (.string xk) := (hb3.cell hlt1).trans e1
      have p2 : wb.cell? ⟨w.heap.size, 2, none⟩ = some (.bool xa) := (hb3.cell hlt1).trans e2
      have hz := h1.up hb3
      have hsrc := (hz.pre (k := i) hi).src (P := Try.prog) Try.underlying46 (fun u hu => ecs_one l u (List.mem_of_mem_take hu))
      rw [← ecs_take] at hsrc
      have hcap := hz.cap
      clear hb3g
      go_upto_region 6 with (at_builtin; go_loud (refine wpList_append_src _ rfl (.tmp 21) (.tmp 24) 46 46 rfl w1.heap.size 50 i0 (.agg #[.int .i64 0, .string ⟨#[]⟩, .bool false]) 3 32 Try.underlying46 hi0 hz0 hz1 hz2 rfl (by decide) (.slice none 0 0) 0 [] rfl (World.ownsRow_nil _ _ _ _) _ i (ecs (l.take i)) rfl hsrc (by simp only [maxLen]; omega) (by omega) hwb ?_; intro v9 w8 hown8 hg8 hat8))
      rw [Nat.zero_add, List.nil_append] at hown8
      have hb8 := below_of_own hb3 hg8 (World.ownsRow_nil wb w1.heap.size 50 3) hwb (Nat.le_refl _)
      have hw8 := hb8.size
      have r0 : w8.cell? ⟨w.heap.size, 0, none⟩ = some (.int .i64 xr) := (hb8.cell hlt1).trans e0
      have r1 : w8.cell? ⟨w.heap.size, 1, none⟩ = some (.string xk) := (hb8.cell hlt1).trans e1
      have r2 : w8.cell? ⟨w.heap.size, 2, none⟩ = some (.bool xa) := (hb8.cell hlt1).trans e2
      have hlt8 : w.heap.size < w8.heap.size := by omega
      clear hsrc hg8 hat8 p0 p1 p2
      obtain ⟨A8, c8, rfl, _⟩ := Rd.own hown8
      go_upto_region 7 with (at_builtin; go_loud (refine wpList_append_src _ rfl (.tmp 26) (.tmp 28) 46 46 rfl w1.heap.size 50 i0 (.agg #[.int .i64 0, .string ⟨#[]⟩, .bool false]) 3 32 Try.underlying46 hi0 hz0 hz1 hz2 rfl (by decide) (.slice A8 i c8) i (ecs (l.take i)) rfl (hown8.alloc _) _ 1 [.int .i64 xr, .string xk, .bool xa] rfl (Src.ofSlice _ Try.underlying46 _ 1 1 _ rfl (cells_at _ #[.int .i64 xr, .string xk, .bool xa] _ _ (by simp)) (ecl_one (xr, xk, xa))) (by simp only [maxLen]; omega) (by omega) (size_alloc hw8) ?_; intro v7 w7 hown7 hg7 hat7))
      have hb7 := below_of_own (hb8.alloc hw8 _) hg7 (hown8.alloc _) (size_alloc hw8) (Nat.le_refl _)
      have hw7 := hb7.size
      have hz7 := h1.below hb7
      clear hg7 hat7 hown8 hw8 hb8 r0 r1 r2
      obtain ⟨A7, c7, rfl, _⟩ := Rd.own hown7
      have hcut := (hz7.cut hi).src (P := Try.prog) Try.underlying46 (fun u hu => ecs_one l u (List.mem_of_mem_drop hu))
      rw [← ecs_drop] at hcut
      go_wp2_with (at_builtin; go_loud (refine wpList_append_src _ rfl (.tmp 30) (.tmp 33) 46 46 rfl w1.heap.size 50 i0 (.agg #[.int .i64 0, .string ⟨#[]⟩, .bool false]) 3 32 Try.underlying46 hi0 hz0 hz1 hz2 rfl (by decide) (.slice A7 (i + 1) c7) (i + 1) (ecs (l.take i) ++ [.int .i64 xr, .string xk, .bool xa]) rfl hown7 _ (l.length - i) (ecs (l.drop i)) rfl hcut (by simp only [maxLen]; omega) (by omega) hw7 ?_; intro v6 w6 hown6 hg6 hat6))
      all_goals
        have hb6 := below_of_own hb7 hg6 hown7 hw7 (Nat.le_refl _)
        obtain ⟨A6, c6, rfl, hR6⟩ := Rd.own hown6
        have hlen : i + 1 + (l.length - i) = P.length := by have := hplen.out; have := hil2.out; omega
        have hcel : ecs (l.take i) ++ [.int .i64 xr, .string xk, .bool xa] ++ ecs (l.drop i) = ecs P := by rw [hres.out]; simp [ecs, ecl]
        rw [hcel, hlen] at hR6
        rw [hlen]
        go_ret
        exact ⟨A6, c6, rfl, hR6, bthen hb1 hb1.size hb6⟩
end Go.Proofs.Ytmdhollegemlhaa
