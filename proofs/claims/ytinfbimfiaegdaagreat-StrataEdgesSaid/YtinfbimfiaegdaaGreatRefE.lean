/- Layer 10: the document's own from, Not, below, add, Number, walked. Conditions: rewrites that are trees, a schema that is right; no more than 20000 edges. -/
import Derived.BigQuiet
import Derived.Deep.QuietTactic
import Derived.Deep.Cut
import Derived.Deep.DeepCutAuto
import Derived.IntWalk
import Derived.Deep.RegionHeld3
import Derived.Test.YtinfbimfiaegdaaGreatLvR
import Derived.Test.YtinfbimfiaegdaaGreatEdgeR
import Derived.Test.YtinfbimfiaegdaaGreatEdgeZ
import Derived.Test.YtinfbimfiaegdaaGreatRelK
namespace Go.Proofs.YtinfbimfiaegdaaGreat
open Go.RowKit

theorem opsZ_app (a b : List OpP) : (a ++ b).map opZ = a.map opZ ++ b.map opZ := List.map_append
set_option maxRecDepth 100000 in
set_option maxHeartbeats 1000000 in
theorem from_any : ∀ (t : Ex), t.good → ∀ (pre post : List OpP) (w : World) (A : Option Addr) (c : Nat) (L : List OpI), L = (pre ++ t.ops ++ post).map opZ → L.length ≤ 100000 → Rd w w.heap.size 3 A L.length c (L.flatMap aOp) →
    Calls Tryz.prog 55 #[.slice A L.length c, .int .i64 ((pre.length + t.len - 1 : Nat) : Int)] w fun e w' => e = .returned (.int .i64 (pre.length : Nat)) ∧ Below w.heap.size w w' := by
  have leaf : ∀ (q : OpP), q.1 < 4 → ∀ (pre post : List OpP) (w : World) (A : Option Addr) (c : Nat) (L : List OpI), L = (pre ++ [q] ++ post).map opZ → Rd w w.heap.size 3 A L.length c (L.flatMap aOp) →
      Calls Tryz.prog 55 #[.slice A L.length c, .int .i64 ((pre.length : Nat) : Int)] w fun e w' => e = .returned (.int .i64 (pre.length : Nat)) ∧ Below w.heap.size w w' := by
    intro q hq pre post w A c L hL h
    have hi : L[pre.length]? = some (opZ q) := by
      rw [hL, List.getElem?_map, List.append_assoc, List.getElem?_append_right (Nat.le_refl _), Nat.sub_self]
      rfl
    have hll : L.length = pre.length + 1 + post.length := by rw [hL]; simp; omega
    obtain ⟨b, o, rfl, _, g0, _, _⟩ := ops_at h hi rfl
    obtain ⟨p, hp⟩ : ∃ p, pre.length = p := ⟨_, rfl⟩
    rw [hp] at g0 hll ⊢
    have hdi : (p : Int) < (L.length : Int) := by omega
    have hk : ((opZ q).1) < 4 := by show ((q.1 : Nat) : Int) < 4; omega
    obtain ⟨z, hz⟩ : ∃ z, (opZ q).1 = z := ⟨_, rfl⟩
    rw [hz] at g0 hk
    clear hi hL hp hz hll
    go_enter Tryz.func55, Tryz.ntmps55
    go_wp2_with fail
    go_ret
    exact ⟨rfl, Below.refl _ _⟩
  intro t
  induction t with
  | this => intro _ pre post w A c L hL _ h; exact leaf (1, ⟨#[]⟩, ⟨#[]⟩) (by decide) pre post w A c L hL h
  | same n => intro _ pre post w A c L hL _ h; exact leaf (2, n, ⟨#[]⟩) (by show 2 < 4; decide) pre post w A c L hL h
  | via n m => intro _ pre post w A c L hL _ h; exact leaf (3, n, m) (by show 3 < 4; decide) pre post w A c L hL h
  | bin k a b iha ihb =>
    intro hg pre post w A c L hL hll h
    obtain ⟨hk, ga, gb⟩ := hg
    have hla := a.len_pos
    have hlb := b.len_pos
    have hi : L[pre.length + a.len + b.len]? = some (opZ (opK k)) := by
      have e : pre ++ (Ex.bin k a b).ops ++ post = (pre ++ a.ops ++ b.ops) ++ opK k :: post := by rw [Ex.ops]; simp
      rw [hL, List.getElem?_map, e, List.getElem?_append_right (by simp [Ex.len]; omega)]
      simp [Ex.len, Nat.add_assoc]
    have k1 : Calls Tryz.prog 55 #[.slice A L.length c, .int .i64 (((pre.length + a.len + b.len : Nat) : Int) - 1)] w fun e w' => e = .returned (.int .i64 ((pre.length + a.len : Nat) : Int)) ∧ Below w.heap.size w w' := by
      have := ihb gb (pre ++ a.ops) (opK k :: post) w A c L (by rw [hL, Ex.ops]; simp) hll h
      rw [List.length_append, show a.ops.length = a.len from rfl, show ((pre.length + a.len + b.len - 1 : Nat) : Int) = ((pre.length + a.len + b.len : Nat) : Int) - 1 by omega] at this
      exact this
    have k2 : ∀ W, Below w.heap.size w W → Calls Tryz.prog 55 #[.slice A L.length c, .int .i64 (((pre.length + a.len : Nat) : Int) - 1)] W fun e w' => e = .returned (.int .i64 (pre.length : Nat)) ∧ Below W.heap.size W w' := fun W hW => by
      have := iha ga pre (b.ops ++ opK k :: post) W A c L (by rw [hL, Ex.ops]; simp) hll (h.up hW)
      rw [show ((pre.length + a.len - 1 : Nat) : Int) = ((pre.length + a.len : Nat) : Int) - 1 by omega] at this
      exact this
    have hL2 : L.length = pre.length + (a.len + b.len + 1) + post.length := by
      rw [hL, List.length_map, List.length_append, List.length_append, show (Ex.bin k a b).ops.length = (Ex.bin k a b).len from rfl, Ex.len_bin]
    obtain ⟨b0, o, rfl, _, g0, _, _⟩ := ops_at h hi rfl
    rw [Ex.len_bin, show pre.length + (a.len + b.len + 1) - 1 = pre.length + a.len + b.len by omega]
    have hz : ¬ ((opZ (opK k)).1) < 4 := by show ¬ ((k : Nat) : Int) < 4; omega
    obtain ⟨z, hz2⟩ : ∃ z, (opZ (opK k)).1 = z := ⟨_, rfl⟩
    rw [hz2] at g0 hz
    obtain ⟨q, hq⟩ : ∃ q, pre.length + a.len = q := ⟨_, rfl⟩
    rw [hq] at k1 k2 g0 ⊢
    obtain ⟨p, hp⟩ : ∃ p, q + b.len = p := ⟨_, rfl⟩
    rw [hp] at k1 g0 ⊢
    have hdi : (p : Int) < (L.length : Int) := by omega
    have hp0 : 0 < p := by omega
    have hq0 : 0 < q := by omega
    clear iha ihb hi hL hz2 leaf hL2
    go_enter Tryz.func55, Tryz.ntmps55
    go_upto_region 4 with (go_at_call 55; refine k1.mono ?_; rintro e w1 ⟨rfl, hb1⟩)
    replace k2 := k2 _ hb1
    go_wp2_with (go_at_call 55; refine k2.mono ?_; rintro e w2 ⟨rfl, hb2⟩)
    go_ret
    exact ⟨rfl, bthenZ hb1 hb1.size hb2⟩

set_option maxRecDepth 100000 in
set_option maxHeartbeats 1000000 in
theorem not_any {w : World} {A : Option Addr} {c p : Nat} {L : List OpI} {t : Ex} (ht : L = t.ops.map opZ) (hg : t.good) (hl : L.length ≤ 100000) (hp : p < L.length) (h : Rd w w.heap.size 3 A L.length c (L.flatMap aOp)) :
    Calls Tryz.prog 26 #[.slice A L.length c, .int .i64 (p : Int)] w fun e w' => e = .returned (.bool (behindP L p)) ∧ Below w.heap.size w w' := by
  have hlen : L.length = t.len := by rw [ht]; exact opsZ_len t
  have hlen2 := Lib.hid hlen
  have hr : Hid (behindP L p = decide (0 < t.cnt p)) := Lib.hid (by rw [ht]; exact behind_tree hg (by omega))
  generalize behindP L p = r at *
  clear hlen
  have ht2 := Lib.hid ht
  clear ht
  go_enter Tryz.func26, Tryz.ntmps26
  go_wp2_with fail
  go_loopw [5] (fun vi wx => ∃ i : Nat, vi = .int .i64 i ∧ p < i ∧ i ≤ L.length ∧ (∀ j, p < j → j < i → ¬ (t.kd j = 6 ∧ t.bgn j ≤ p)) ∧ Below w.heap.size w wx) (fun vi _ => L.length - (intOf vi).toNat)
  case atStart => exact ⟨p + 1, by go_num, by omega, by omega, fun j h1 h2 => by omega, Below.refl _ _⟩
  case round =>
    obtain ⟨i, rfl, hpi, hi, hno, hbx⟩ := hrel
    by_cases hil : i < L.length
    · have hdi : (i : Int) < (L.length : Int) := by omega
      have hx : L[i]? = some (opZ (t.ops.getD i (0, ⟨#[]⟩, ⟨#[]⟩))) := by
        rw [ht2.out, List.getElem?_map, List.getD_eq_getElem?_getD, List.getElem?_eq_getElem (by have hlen := hlen2.out; unfold Ex.len at hlen; omega)]
        rfl
      have hxb := h.up hbx
      obtain ⟨b, o, rfl, _, g0, _, _⟩ := ops_at hxb hx rfl
      have hkd : (opZ (t.ops.getD i (0, ⟨#[]⟩, ⟨#[]⟩))).1 = ((t.kd i : Nat) : Int) := rfl
      rw [hkd] at g0
      by_cases h6 : t.kd i = 6
      · obtain ⟨pre, bt, post, e1, e2, e3, e4⟩ := t.sub_at hg i (by have := hlen2.out; omega) (by omega)
        have kf := from_any bt e2 pre post wr _ c L (by rw [ht2.out, e1]) hl hxb
        rw [e4, show ((i - 1 : Nat) : Int) = (i : Int) - 1 by omega, e3] at kf
        have hnext : Hid (¬ t.bgn i ≤ p → ∀ j, p < j → j < i + 1 → ¬ (t.kd j = 6 ∧ t.bgn j ≤ p)) := Lib.hid fun q j h1 h2 => by
          by_cases e : j = i
          · subst e; exact fun x => q x.2
          · exact hno j h1 (by omega)
        have hyes : Hid (t.bgn i ≤ p → r = true) := Lib.hid fun q => by
          rw [hr.out]
          exact decide_eq_true ((t.cnt_has p).2 ⟨i, hpi, by have := hlen2.out; omega, h6, q⟩)
        rw [h6] at g0
        generalize t.bgn i = bg at *
        clear hno hx hkd e1 e2 e3 e4 hxb h6
        by_cases hbp : bg ≤ p
        · have hbp2 : (bg : Int) ≤ (p : Int) := by omega
          obtain rfl := hyes.out hbp
          clear hyes hnext
          go_wp2_with (go_at_call 55; refine kf.mono ?_; rintro e w1 ⟨rfl, hb1⟩)
          go_ret
          exact ⟨rfl, bthenZ hbx hbx.size hb1⟩
        · have hbp2 : ¬ (bg : Int) ≤ (p : Int) := by omega
          replace hnext := Lib.hid (hnext.out hbp)
          clear hyes
          go_wp2_with (go_at_call 55; refine kf.mono ?_; rintro e w1 ⟨rfl, hb1⟩)
          exact ⟨⟨i + 1, by go_num, by omega, by omega, hnext.out, bthenZ hbx hbx.size hb1⟩, by simp [intOf]; omega⟩
      · have h62 : ¬ ((t.kd i : Nat) : Int) = 6 := by omega
        have hnext : Hid (∀ j, p < j → j < i + 1 → ¬ (t.kd j = 6 ∧ t.bgn j ≤ p)) := Lib.hid fun j h1 h2 => by
          by_cases e : j = i
          · subst e; exact fun x => h6 x.1
          · exact hno j h1 (by omega)
        have h63 : (((t.kd i : Nat) : Int) == 6) = false := by simpa using h62
        clear hno hx hkd hxb h6
        generalize ((t.kd i : Nat) : Int) = z at *
        go_wp2_with fail
        exact ⟨⟨i + 1, by go_num, by omega, by omega, hnext.out, hbx⟩, by simp [intOf]; omega⟩
    · obtain rfl : i = L.length := by omega
      have hdi : ¬ (((L.length : Nat) : Int) < (L.length : Int)) := by omega
      obtain rfl : r = false := by
        rw [hr.out]
        refine decide_eq_false fun q => ?_
        obtain ⟨i, h1, h2, h3, h4⟩ := (t.cnt_has p).1 q
        exact hno i h1 (by have := hlen2.out; omega) ⟨h3, h4⟩
      go_wp2_with fail
      go_ret
      exact ⟨rfl, hbx⟩

set_option maxRecDepth 100000 in
set_option maxHeartbeats 1000000 in
theorem below_any (a b : Ed) (w : World) : Calls Tryz.prog 56 #[.agg (ecell a).toArray, .agg (ecell b).toArray] w fun e w' => e = .returned (.bool (decide (cfE a b < 0))) ∧ Below w.heap.size w w' := by
  obtain ⟨r, hr⟩ : ∃ r, decide (cfE a b < 0) = r := ⟨_, rfl⟩
  rw [hr]
  have hc := cfE_neg a b
  obtain ⟨a1, a2, a3⟩ := a
  obtain ⟨b1, b2, b3⟩ := b
  simp only [ecell] at *
  have hr2 : r = decide (a1 < b1 ∨ (a1 = b1 ∧ (a2 < b2 ∨ (a2 = b2 ∧ riI (a1, a2, a3) < riI (b1, b2, b3))))) := by
    rw [← hr]; exact decide_eq_decide.2 hc
  clear hr hc
  have x1 := Bk.new w #[.int .i64 a1, .int .i64 a2, .bool a3] 39
  replace x1 := x1.alloc (.cells #[.int .i64 b1, .int .i64 b2, .bool b3] 39)
  have x2 := Bk.new (w.alloc (.cells #[.int .i64 a1, .int .i64 a2, .bool a3] 39)) #[.int .i64 b1, .int .i64 b2, .bool b3] 39
  have hF : Below w.heap.size w ((w.alloc (.cells #[.int .i64 a1, .int .i64 a2, .bool a3] 39)).alloc (.cells #[.int .i64 b1, .int .i64 b2, .bool b3] 39)) := ((Below.refl _ w).alloc (Nat.le_refl _) _).alloc (by simp) _
  simp only [World.size_alloc] at x2
  go_enter Tryz.func56, Tryz.ntmps56
  go_upto_region 1 with (fail)
  obtain ⟨w1, hw1⟩ : ∃ w1, (w.alloc (.cells #[.int .i64 a1, .int .i64 a2, .bool a3] 39)).alloc (.cells #[.int .i64 b1, .int .i64 b2, .bool b3] 39) = w1 := ⟨_, rfl⟩
  rw [hw1] at x1 x2 hF ⊢
  clear hw1
  have p0 := x1.cell 0
  have p1 := x1.cell 1
  have p2 := x1.cell 2
  have q0 := x2.cell 0
  have q1 := x2.cell 1
  have q2 := x2.cell 2
  have pl := x1.lt
  have ql := x2.lt
  simp only [List.getElem?_toArray, List.getElem?_cons_zero, List.getElem?_cons_succ] at p0 p1 p2 q0 q1 q2
  clear x1 x2
  replace hr2 := Lib.hid hr2
  by_cases h1 : a1 = b1
  · subst h1
    have n1 : (a1 != a1) = false := by simp
    by_cases h2 : a2 = b2
    · subst h2
      have n2 : (a2 != a2) = false := by simp
      obtain rfl : r = (!a3 && b3) := by rw [hr2.out]; cases a3 <;> cases b3 <;> simp [riI]
      clear hr2
      cases a3 with
      | true =>
        go_wp2_with fail
        go_ret
        exact ⟨rfl, hF⟩
      | false =>
        go_wp2_with fail
        go_ret
        exact ⟨by simp, hF⟩
    · have n2 : (a2 != b2) = true := by simpa using h2
      obtain rfl : r = decide (a2 < b2) := by rw [hr2.out]; exact decide_eq_decide.2 (by omega)
      clear hr2
      go_wp2_with fail
      go_ret
      exact ⟨rfl, hF⟩
  · have n1 : (a1 != b1) = true := by simpa using h1
    obtain rfl : r = decide (a1 < b1) := by rw [hr2.out]; exact decide_eq_decide.2 (by omega)
    clear hr2
    go_wp2_with fail
    go_ret
    exact ⟨rfl, hF⟩
end Go.Proofs.YtinfbimfiaegdaaGreat
