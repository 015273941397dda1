/- Layer 14, the document's side: holds, open, Has, Next, Count. Conditions: no more than a million spans. -/
import Derived.BigQuiet
import Derived.Deep.QuietTactic
import Derived.Deep.Cut
import Derived.IntWalk
import Derived.Laws.Cover1
import Derived.Lib.Hide
import Derived.LoopTactic
import Derived.Lib.Walk
import Derived.RegionTactic
import Derived.Shelf.RegionOpenPlain
import Derived.Great.BuildSlice
import Derived.Deep.DeepCutAuto
import Derived.Test.YtmdhollegemlhaaProg
import Derived.Test.YtmdhollegemlhaaMemG
import Derived.Test.YtmdhollegemlhaaSpanP
namespace Go.Proofs.Ytmdhollegemlhaa
open Go.RowKit

/-- Spans as cells. -/
def scell (x : Sp) : List Value := [.string x.1, .int .i64 x.2.1, .int .i64 x.2.2]
def scs (l : List Sp) : List Value := l.flatMap scell
theorem scell_one (x : Sp) : ∀ u ∈ scell x, u.oneCell' = true := by
  intro u hu
  simp only [scell, List.mem_cons, List.not_mem_nil, or_false] at hu
  rcases hu with rfl | rfl | rfl <;> rfl
theorem scs_one (l : List Sp) : ∀ u ∈ scs l, u.oneCell' = true := by
  intro u hu
  obtain ⟨p, _, hp⟩ := List.mem_flatMap.1 hu
  exact scell_one p u hp
theorem scs_len (l : List Sp) : (scs l).length = l.length * 3 := by
  induction l with
  | nil => rfl
  | cons a t ih => rw [scs, List.flatMap_cons, List.length_append, ← scs, ih]; simp [scell]; omega
theorem scs_app (a b : List Sp) : scs (a ++ b) = scs a ++ scs b := List.flatMap_append
theorem scs_one_ (x : Sp) : scs [x] = scell x := by simp [scs]
theorem scs_get {l : List Sp} {i : Nat} {x : Sp} (h : l[i]? = some x) : (scs l)[i * 3]? = some (.string x.1) ∧ (scs l)[i * 3 + 1]? = some (.int .i64 x.2.1) ∧ (scs l)[i * 3 + 2]? = some (.int .i64 x.2.2) := by
  induction l generalizing i with
  | nil => simp at h
  | cons a t ih =>
    rw [scs, List.flatMap_cons, ← scs]
    cases i with
    | zero =>
      simp at h
      subst h
      exact ⟨rfl, rfl, rfl⟩
    | succ i =>
      obtain ⟨h1, h2, h3⟩ := ih (by simpa using h)
      rw [List.getElem?_append_right (by simp [scell]; omega), List.getElem?_append_right (by simp [scell]; omega), List.getElem?_append_right (by simp [scell]; omega)]
      simp only [scell, List.length_cons, List.length_nil]
      rw [show (i + 1) * 3 - (0 + 1 + 1 + 1) = i * 3 by omega, show (i + 1) * 3 + 1 - (0 + 1 + 1 + 1) = i * 3 + 1 by omega, show (i + 1) * 3 + 2 - (0 + 1 + 1 + 1) = i * 3 + 2 by omega]
      exact ⟨h1, h2, h3⟩
theorem rd_span {w : World} {B n c : Nat} {A : Option Addr} {l : List Sp} (h : Rd w B 3 A n c (scs l)) {i : Nat} {x : Sp} (hi : l[i]? = some x) :
    ∃ b o, A = some ⟨b, o, none⟩ ∧ b < B ∧ w.cell? ⟨b, o + i * 3, none⟩ = some (.string x.1) ∧ w.cell? ⟨b, o + i * 3 + 1, none⟩ = some (.int .i64 x.2.1) ∧ w.cell? ⟨b, o + i * 3 + 2, none⟩ = some (.int .i64 x.2.2) := by
  have hn : 0 < n := by
    have h1 := h.len
    have h2 := scs_len l
    have h3 := lt_at hi
    omega
  obtain ⟨b, o, e, hb, hc⟩ := h.at_ hn
  obtain ⟨h1, h2, h3⟩ := scs_get hi
  exact ⟨b, o, e, hb, hc _ _ h1, by rw [Nat.add_assoc]; exact hc _ _ h2, by rw [Nat.add_assoc]; exact hc _ _ h3⟩

set_option maxHeartbeats 1000000 in
theorem rholds_any (x : Sp) (r : Int) (w : World) : Calls Try.prog 31 #[.agg (scell x).toArray, .int .i64 r] w fun e w' => e = .returned (.bool (holdsP x r)) ∧ w' = w.alloc (.cells (scell x).toArray 67) := by
  obtain ⟨k, a, b⟩ := x
  simp only [scell]
  unfold holdsP
  dsimp only
  by_cases h1 : a ≤ r
  · rw [decide_eq_true h1, Bool.true_and]
    by_cases h2 : b = 0
    · rw [decide_eq_true h2, Bool.true_or]
      have d : (b == 0) = true := by simpa using h2
      subst h2
      go_enter Try.func31, Try.ntmps31
      go_wp2_with fail
      go_ret
      exact ⟨rfl, rfl⟩
    · rw [decide_eq_false h2, Bool.false_or]
      have d : (b == 0) = false := beq_eq_false_iff_ne.2 h2
      by_cases h3 : r < b
      · rw [decide_eq_true h3]
        go_enter Try.func31, Try.ntmps31
        go_wp2_with fail
        go_ret
        exact ⟨rfl, rfl⟩
      · rw [decide_eq_false h3]
        go_enter Try.func31, Try.ntmps31
        go_wp2_with fail
        go_ret
        exact ⟨rfl, rfl⟩
  · rw [decide_eq_false h1, Bool.false_and]
    go_enter Try.func31, Try.ntmps31
    go_wp2_with fail
    go_ret
    exact ⟨rfl, rfl⟩

set_option maxRecDepth 100000 in
set_option maxHeartbeats 1000000 in
theorem ropen_any {w : World} {A : Option Addr} {c : Nat} {last : Int} {L : List Sp} (h : Rd w w.heap.size 3 A L.length c (scs L)) (hl : L.length ≤ 1000000) (k : ByteArray) :
    Calls Try.prog 27 #[.agg #[.slice A L.length c, .int .i64 last], .string k] w fun e w' => e = .returned (.int .i64 (openP L k)) ∧ Below w.heap.size w w' := by
  obtain ⟨R, hR⟩ : ∃ R, openP L k = R := ⟨_, rfl⟩
  rw [hR]
  replace hR := Lib.hid hR
  obtain ⟨w1, hw1⟩ : ∃ w1, w.alloc (.cells #[.slice A L.length c, .int .i64 last] 30) = w1 := ⟨_, rfl⟩
  have hb1 : Below w.heap.size w w1 := hw1 ▸ bnew w _
  obtain ⟨z0, z1⟩ := box2 w (.slice A L.length c) (.int .i64 last) 30
  rw [hw1] at z0 z1
  have hlt1 : w.heap.size < w1.heap.size := by rw [← hw1]; simp
  have h1 := h.up hb1
  replace hw1 := Lib.hid hw1
  go_enter Try.func27, Try.ntmps27
  go_upto_region 1 with (fail)
  rw [hw1.out]
  clear hw1 h
  go_wp2_with fail
  go_loopw [5] (fun vi wx => ∃ i : Nat, vi = .int .i64 i ∧ i ≤ L.length ∧ Hid (wx = w1) ∧ Hid (∀ (j : Nat) y, j < i → L[j]? = some y → openB k y = false)) (fun vi _ => L.length - (intOf vi).toNat)
  case atStart => exact ⟨0, rfl, Nat.zero_le _, Lib.hid rfl, Lib.hid fun j y hj => by omega⟩
  case round =>
    obtain ⟨i, rfl, hi, hw, ha⟩ := hrel
    have q0 : wr.cell? ⟨w.heap.size, 0, none⟩ = some (.slice A L.length c) := by rw [hw.out]; exact z0
    by_cases hil : i < L.length
    · have di : (i : Int) < (L.length : Int) := by omega
      obtain ⟨x, hx⟩ : ∃ x, L[i]? = some x := ⟨_, List.getElem?_eq_getElem hil⟩
      obtain ⟨b, o, rfl, _, g0, g1, g2⟩ := rd_span (hw.out ▸ h1 : Rd wr w1.heap.size 3 A L.length c (scs L)) hx
      have hdec : openB k x = true → R = i := fun e => by rw [← hR.out]; exact openP_some ha.out hx e
      have hno : openB k x = false → Hid (∀ (j : Nat) y, j < i + 1 → L[j]? = some y → openB k y = false) := fun e => Lib.hid fun j y hj hy => by
        by_cases q : j = i
        · subst q; rw [hx] at hy; cases hy; exact e
        · exact ha.out j y (by omega) hy
      obtain ⟨s, a, t⟩ := x
      dsimp only at g0 g1 g2
      unfold openB at hdec hno
      dsimp only at hdec hno
      by_cases h2 : s = k
      · have d2 : (s.toList == k.toList) = true := by rw [tl_eq, decide_eq_true h2]
        rw [decide_eq_true h2, Bool.true_and] at hdec hno
        by_cases h3 : t = 0
        · have d3 : (t == 0) = true := by simpa using h3
          obtain rfl := hdec (decide_eq_true h3)
          clear hno hdec ha hx h2 h3
          go_wp2_with fail
          go_ret
          exact ⟨rfl, by rw [hw.out]; exact hb1⟩
        · have d3 : (t == 0) = false := beq_eq_false_iff_ne.2 h3
          have ha2 := hno (decide_eq_false h3)
          clear hno hdec ha hx h2 h3
          go_wp2_with fail
          exact ⟨⟨i + 1, by go_num, by omega, hw, ha2⟩, by simp [intOf]; omega⟩
      · have d2 : (s.toList == k.toList) = false := by rw [tl_eq, decide_eq_false h2]
        rw [decide_eq_false h2, Bool.false_and] at hno
        have ha2 := hno rfl
        clear hno hdec ha hx h2
        go_wp2_with fail
        exact ⟨⟨i + 1, by go_num, by omega, hw, ha2⟩, by simp [intOf]; omega⟩
    · obtain rfl : i = L.length := by omega
      have di : ¬ (((L.length : Nat) : Int) < (L.length : Int)) := by omega
      have hR2 : R = -1 := by
        rw [← hR.out]
        exact openP_none fun x hx => by
          obtain ⟨j, hj, rfl⟩ := List.getElem_of_mem hx
          exact ha.out j _ hj (List.getElem?_eq_getElem hj)
      subst hR2
      clear ha
      go_wp2_with fail
      go_ret
      exact ⟨rfl, by rw [hw.out]; exact hb1⟩

set_option maxRecDepth 100000 in
set_option maxHeartbeats 1000000 in
theorem rhas14_any {w : World} {A : Option Addr} {c : Nat} {last : Int} {L : List Sp} (h : Rd w w.heap.size 3 A L.length c (scs L)) (hl : L.length ≤ 1000000) (k : ByteArray) (r : Int) :
    Calls Try.prog 20 #[.agg #[.slice A L.length c, .int .i64 last], .string k, .int .i64 r] w fun e w' => e = .returned (.bool (hasP L k r)) ∧ Below w.heap.size w w' := by
  obtain ⟨R, hR⟩ : ∃ R, hasP L k r = R := ⟨_, rfl⟩
  rw [hR]
  replace hR := Lib.hid hR
  obtain ⟨w1, hw1⟩ : ∃ w1, w.alloc (.cells #[.slice A L.length c, .int .i64 last] 30) = w1 := ⟨_, rfl⟩
  have hb1 : Below w.heap.size w w1 := hw1 ▸ bnew w _
  obtain ⟨z0, z1⟩ := box2 w (.slice A L.length c) (.int .i64 last) 30
  rw [hw1] at z0 z1
  have hlt1 : w.heap.size < w1.heap.size := by rw [← hw1]; simp
  have h1 := h.up hb1
  replace hw1 := Lib.hid hw1
  go_enter Try.func20, Try.ntmps20
  go_upto_region 1 with (fail)
  rw [hw1.out]
  clear hw1 h
  go_wp2_with fail
  go_loopw [7] (fun vi wx => ∃ i : Nat, vi = .int .i64 i ∧ i ≤ L.length ∧ Below w1.heap.size w1 wx ∧ Hid (hasP (L.take i) k r = false)) (fun vi _ => L.length - (intOf vi).toNat)
  case atStart => exact ⟨0, rfl, Nat.zero_le _, Below.refl _ _, Lib.hid rfl⟩
  case round =>
    obtain ⟨i, rfl, hi, hbx, ha⟩ := hrel
    have q0 : wr.cell? ⟨w.heap.size, 0, none⟩ = some (.slice A L.length c) := (hbx.cell hlt1).trans z0
    by_cases hil : i < L.length
    · have di : (i : Int) < (L.length : Int) := by omega
      obtain ⟨x, hx⟩ : ∃ x, L[i]? = some x := ⟨_, List.getElem?_eq_getElem hil⟩
      obtain ⟨b, o, rfl, hlb, g0, g1, g2⟩ := rd_span (h1.below hbx) hx
      have hsn := hasP_snoc k r hx
      rw [ha.out, Bool.false_or] at hsn
      have kh := rholds_any x r wr
      obtain ⟨s, a, t⟩ := x
      simp only [scell] at kh
      dsimp only at g0 g1 g2 hsn
      have hb9 := hbx.alloc hbx.size (.cells #[.string s, .int .i64 a, .int .i64 t] 67)
      have y0 := Lib.cell?_alloc_some (.cells #[.string s, .int .i64 a, .int .i64 t] 67) q0
      have x0 := Lib.cell?_alloc_some (.cells #[.string s, .int .i64 a, .int .i64 t] 67) g0
      obtain ⟨W2, hW2⟩ : ∃ W2, wr.alloc (.cells #[.string s, .int .i64 a, .int .i64 t] 67) = W2 := ⟨_, rfl⟩
      rw [hW2] at kh hb9 y0 x0
      clear hW2
      obtain ⟨H, hH⟩ : ∃ H, holdsP (s, a, t) r = H := ⟨_, rfl⟩
      rw [hH] at hsn kh
      cases H
      · rw [Bool.false_and] at hsn
        replace hsn := Lib.hid hsn
        clear ha hx hH
        go_wp2_with (go_at_call 31; refine kh.mono ?_; rintro e9 w3 ⟨rfl, rfl⟩)
        exact ⟨⟨i + 1, by go_num, by omega, hb9, hsn⟩, by simp [intOf]; omega⟩
      · rw [Bool.true_and] at hsn
        by_cases h2 : s = k
        · have d2 : (s.toList == k.toList) = true := by rw [tl_eq, decide_eq_true h2]
          rw [decide_eq_true h2] at hsn
          have hR2 : R = true := by
            rw [← hR.out]
            obtain ⟨y, hy, e⟩ := List.any_eq_true.1 (show (L.take (i + 1)).any (fun x => holdsP x r && decide (x.1 = k)) = true from hsn)
            exact List.any_eq_true.2 ⟨y, List.mem_of_mem_take hy, e⟩
          subst hR2
          clear ha hx hH hsn h2
          go_wp2_with (go_at_call 31; refine kh.mono ?_; rintro e9 w3 ⟨rfl, rfl⟩)
          go_ret
          exact ⟨rfl, bthen hb1 hb1.size hb9⟩
        · have d2 : (s.toList == k.toList) = false := by rw [tl_eq, decide_eq_false h2]
          rw [decide_eq_false h2] at hsn
          replace hsn := Lib.hid hsn
          clear ha hx hH h2
          go_wp2_with (go_at_call 31; refine kh.mono ?_; rintro e9 w3 ⟨rfl, rfl⟩)
          exact ⟨⟨i + 1, by go_num, by omega, hb9, hsn⟩, by simp [intOf]; omega⟩
    · obtain rfl : i = L.length := by omega
      have di : ¬ (((L.length : Nat) : Int) < (L.length : Int)) := by omega
      have hR2 : R = false := by
        rw [← hR.out]
        have := ha.out
        rwa [List.take_length] at this
      subst hR2
      clear ha
      go_wp2_with fail
      go_ret
      exact ⟨rfl, bthen hb1 hb1.size hbx⟩

set_option maxRecDepth 100000 in
set_option maxHeartbeats 1000000 in
theorem rcount_any {w : World} {A : Option Addr} {c : Nat} {last : Int} {L : List Sp} (h : Rd w w.heap.size 3 A L.length c (scs L)) (hl : L.length ≤ 1000000) (r : Int) :
    Calls Try.prog 22 #[.agg #[.slice A L.length c, .int .i64 last], .int .i64 r] w fun e w' => e = .returned (.int .i64 (countP L r : Nat)) ∧ Below w.heap.size w w' := by
  obtain ⟨w1, hw1⟩ : ∃ w1, w.alloc (.cells #[.slice A L.length c, .int .i64 last] 30) = w1 := ⟨_, rfl⟩
  have hb1 : Below w.heap.size w w1 := hw1 ▸ bnew w _
  obtain ⟨z0, z1⟩ := box2 w (.slice A L.length c) (.int .i64 last) 30
  rw [hw1] at z0 z1
  have hlt1 : w.heap.size < w1.heap.size := by rw [← hw1]; simp
  have h1 := h.up hb1
  replace hw1 := Lib.hid hw1
  go_enter Try.func22, Try.ntmps22
  go_upto_region 1 with (fail)
  rw [hw1.out]
  clear hw1 h
  go_wp2_with fail
  go_loopw [5, 6] (fun vn vi wx => ∃ i N : Nat, vi = .int .i64 i ∧ i ≤ L.length ∧ vn = .int .i64 N ∧ N ≤ i ∧ Below w1.heap.size w1 wx ∧ Hid (N = countP (L.take i) r)) (fun _ vi _ => L.length - (intOf vi).toNat)
  case atStart => exact ⟨0, 0, rfl, Nat.zero_le _, rfl, Nat.le_refl _, Below.refl _ _, Lib.hid rfl⟩
  case round =>
    obtain ⟨i, N, rfl, hi, rfl, hNi, hbx, ha⟩ := hrel
    have q0 : wr.cell? ⟨w.heap.size, 0, none⟩ = some (.slice A L.length c) := (hbx.cell hlt1).trans z0
    by_cases hil : i < L.length
    · have di : (i : Int) < (L.length : Int) := by omega
      obtain ⟨x, hx⟩ : ∃ x, L[i]? = some x := ⟨_, List.getElem?_eq_getElem hil⟩
      obtain ⟨b, o, rfl, hlb, g0, g1, g2⟩ := rd_span (h1.below hbx) hx
      have hsn := countP_snoc r hx
      rw [← ha.out] at hsn
      have kh := rholds_any x r wr
      obtain ⟨s, a, t⟩ := x
      simp only [scell] at kh
      dsimp only at g0 g1 g2 hsn
      have hb9 := hbx.alloc hbx.size (.cells #[.string s, .int .i64 a, .int .i64 t] 67)
      have y0 := Lib.cell?_alloc_some (.cells #[.string s, .int .i64 a, .int .i64 t] 67) q0
      have x0 := Lib.cell?_alloc_some (.cells #[.string s, .int .i64 a, .int .i64 t] 67) g0
      obtain ⟨W2, hW2⟩ : ∃ W2, wr.alloc (.cells #[.string s, .int .i64 a, .int .i64 t] 67) = W2 := ⟨_, rfl⟩
      rw [hW2] at kh hb9 y0 x0
      clear hW2
      obtain ⟨H, hH⟩ : ∃ H, holdsP (s, a, t) r = H := ⟨_, rfl⟩
      rw [hH] at hsn kh
      replace hsn := Lib.hid hsn
      clear ha hx hH
      cases H
      · go_wp2_with (go_at_call 31; refine kh.mono ?_; rintro e9 w3 ⟨rfl, rfl⟩)
        exact ⟨⟨i + 1, N, by go_num, by omega, rfl, by omega, hb9, Lib.hid (by rw [hsn.out]; rfl)⟩, by simp [intOf]; omega⟩
      · go_wp2_with (go_at_call 31; refine kh.mono ?_; rintro e9 w3 ⟨rfl, rfl⟩)
        exact ⟨⟨i + 1, N + 1, by go_num, by omega, by go_num, by omega, hb9, Lib.hid (by rw [hsn.out]; rfl)⟩, by simp [intOf]; omega⟩
    · obtain rfl : i = L.length := by omega
      have di : ¬ (((L.length : Nat) : Int) < (L.length : Int)) := by omega
      have hN2 := ha.out
      rw [List.take_length] at hN2
      replace hN2 := Lib.hid hN2
      clear ha
      go_wp2_with fail
      go_ret
      exact ⟨by rw [← hN2.out]; rfl, bthen hb1 hb1.size hbx⟩
end Go.Proofs.Ytmdhollegemlhaa
