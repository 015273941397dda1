/- Layer 14, the document's side: Next. Conditions: no more than a million spans. -/
import Derived.Test.YtmdhollegemlhaaRefS14
namespace Go.Proofs.Ytmdhollegemlhaa
open Go.RowKit

set_option maxRecDepth 100000 in
set_option maxHeartbeats 4000000 in
theorem rnext_any {w : World} {A : Option Addr} {c : Nat} {last : Int} {L : List Sp} (h : Rd w w.heap.size 3 A L.length c (scs L)) (hl : L.length ≤ 1000000) (r : Int) (lo hi_ : ByteArray) :
    Calls Try.prog 18 #[.agg #[.slice A L.length c, .int .i64 last], .int .i64 r, .string lo, .string hi_] w fun e w' => e = .returned (.tuple #[.string ((nextP L r lo hi_).getD ⟨#[]⟩), .bool (nextP L r lo hi_).isSome]) ∧ Below w.heap.size w w' := by
  obtain ⟨w1, hw1⟩ : ∃ w1, w.alloc (.cells #[.slice A L.length c, .int .i64 last] 30) = w1 := ⟨_, rfl⟩
  have hb1 : Below w.heap.size w w1 := hw1 ▸ bnew w _
  obtain ⟨z0, z1⟩ := box2 w (.slice A L.length c) (.int .i64 last) 30
  rw [hw1] at z0 z1
  have hlt1 : w.heap.size < w1.heap.size := by rw [← hw1]; simp
  have h1 := h.up hb1
  replace hw1 := Lib.hid hw1
  go_enter Try.func18, Try.ntmps18
  go_upto_region 1 with (fail)
  rw [hw1.out]
  clear hw1 h
  go_wp2_with fail
  go_loopw [10, 11, 12] (fun vb vs vi wx => ∃ (i : Nat) (bo : Option ByteArray), vi = .int .i64 i ∧ i ≤ L.length ∧ vb = .string (bo.getD ⟨#[]⟩) ∧ vs = .bool bo.isSome ∧ Below w1.heap.size w1 wx ∧ Hid (bo = nextP (L.take i) r lo hi_)) (fun _ _ vi _ => L.length - (intOf vi).toNat)
  case atStart => exact ⟨0, none, rfl, Nat.zero_le _, rfl, rfl, Below.refl _ _, Lib.hid rfl⟩
  case round =>
    obtain ⟨i, bo, rfl, hi, rfl, rfl, hbx, ha⟩ := hrel
    have q0 : wr.cell? ⟨w.heap.size, 0, none⟩ = some (.slice A L.length c) := (hbx.cell hlt1).trans z0
    by_cases hil : i < L.length
    · have di : (i : Int) < (L.length : Int) := by omega
      obtain ⟨x, hx⟩ : ∃ x, L[i]? = some x := ⟨_, List.getElem?_eq_getElem hil⟩
      obtain ⟨b, o, rfl, hlb, g0, g1, g2⟩ := rd_span (h1.below hbx) hx
      have hsn := nextP_snoc r lo hi_ hx
      rw [← ha.out] at hsn
      have kh := rholds_any x r wr
      obtain ⟨s, a, t⟩ := x
      simp only [scell] at kh
      dsimp only at g0 g1 g2 hsn
      have hb9 := hbx.alloc hbx.size (.cells #[.string s, .int .i64 a, .int .i64 t] 67)
      have y0 := Lib.cell?_alloc_some (.cells #[.string s, .int .i64 a, .int .i64 t] 67) q0
      have x0 := Lib.cell?_alloc_some (.cells #[.string s, .int .i64 a, .int .i64 t] 67) g0
      obtain ⟨W2, hW2⟩ : ∃ W2, wr.alloc (.cells #[.string s, .int .i64 a, .int .i64 t] 67) = W2 := ⟨_, rfl⟩
      rw [hW2] at kh hb9 y0 x0
      clear hW2
      obtain ⟨H, hH⟩ : ∃ H, holdsP (s, a, t) r = H := ⟨_, rfl⟩
      rw [hH] at hsn kh
      clear ha hx hH
      cases H
      · rw [Bool.false_and, if_neg (by decide)] at hsn
        replace hsn := Lib.hid hsn
        go_wp2_with (go_at_call 31; refine kh.mono ?_; rintro e9 w3 ⟨rfl, rfl⟩)
        exact ⟨⟨i + 1, bo, by go_num, by omega, rfl, rfl, hb9, Lib.hid hsn.out.symm⟩, by simp [intOf]; omega⟩
      · rw [Bool.true_and] at hsn
        unfold within at hsn
        cases e1 : kl s lo
        · have d1 : Op.bytesLess s.toList lo.toList = false := e1
          rw [e1, Bool.not_false, Bool.true_and] at hsn
          by_cases e2 : hi_ = ⟨#[]⟩
          · have d2 : hi_.toList.isEmpty = true := by rw [e2, ByteArray.toList_eq]; rfl
            rw [decide_eq_true e2, Bool.true_or, if_pos rfl] at hsn
            clear e1 e2
            cases bo with
            | none =>
              replace hsn : Hid (nextP (L.take (i + 1)) r lo hi_ = some s) := Lib.hid hsn
              go_wp2_with (go_at_call 31; refine kh.mono ?_; rintro e9 w3 ⟨rfl, rfl⟩)
              exact ⟨⟨i + 1, some s, by go_num, by omega, rfl, rfl, hb9, Lib.hid hsn.out.symm⟩, by simp [intOf]; omega⟩
            | some cc =>
              cases e4 : kl s cc
              · have d4 : Op.bytesLess s.toList cc.toList = false := e4
                replace hsn : Hid (nextP (L.take (i + 1)) r lo hi_ = some cc) := Lib.hid (by rw [hsn]; show (if kl s cc then some s else some cc) = some cc; rw [e4]; rfl)
                clear e4
                go_wp2_with (go_at_call 31; refine kh.mono ?_; rintro e9 w3 ⟨rfl, rfl⟩)
                exact ⟨⟨i + 1, some cc, by go_num, by omega, rfl, rfl, hb9, Lib.hid hsn.out.symm⟩, by simp [intOf]; omega⟩
              · have d4 : Op.bytesLess s.toList cc.toList = true := e4
                replace hsn : Hid (nextP (L.take (i + 1)) r lo hi_ = some s) := Lib.hid (by rw [hsn]; show (if kl s cc then some s else some cc) = some s; rw [e4]; rfl)
                clear e4
                go_wp2_with (go_at_call 31; refine kh.mono ?_; rintro e9 w3 ⟨rfl, rfl⟩)
                exact ⟨⟨i + 1, some s, by go_num, by omega, rfl, rfl, hb9, Lib.hid hsn.out.symm⟩, by simp [intOf]; omega⟩
          · have d2 : hi_.toList.isEmpty = false := by
              cases q : hi_.toList.isEmpty
              · rfl
              · rw [List.isEmpty_iff] at q
                exact absurd (tl_inj (q.trans (ByteArray.toList_eq ⟨#[]⟩).symm)) e2
            rw [decide_eq_false e2, Bool.false_or] at hsn
            cases e3 : kl s hi_
            · have d3 : Op.bytesLess s.toList hi_.toList = false := e3
              rw [e3, if_neg (by decide)] at hsn
              replace hsn := Lib.hid hsn
              clear e1 e2 e3
              go_wp2_with (go_at_call 31; refine kh.mono ?_; rintro e9 w3 ⟨rfl, rfl⟩)
              exact ⟨⟨i + 1, bo, by go_num, by omega, rfl, rfl, hb9, Lib.hid hsn.out.symm⟩, by simp [intOf]; omega⟩
            · have d3 : Op.bytesLess s.toList hi_.toList = true := e3
              rw [e3, if_pos rfl] at hsn
              clear e1 e2 e3
              cases bo with
              | none =>
                replace hsn : Hid (nextP (L.take (i + 1)) r lo hi_ = some s) := Lib.hid hsn
                go_wp2_with (go_at_call 31; refine kh.mono ?_; rintro e9 w3 ⟨rfl, rfl⟩)
                exact ⟨⟨i + 1, some s, by go_num, by omega, rfl, rfl, hb9, Lib.hid hsn.out.symm⟩, by simp [intOf]; omega⟩
              | some cc =>
                cases e4 : kl s cc
                · have d4 : Op.bytesLess s.toList cc.toList = false := e4
                  replace hsn : Hid (nextP (L.take (i + 1)) r lo hi_ = some cc) := Lib.hid (by rw [hsn]; show (if kl s cc then some s else some cc) = some cc; rw [e4]; rfl)
                  clear e4
                  go_wp2_with (go_at_call 31; refine kh.mono ?_; rintro e9 w3 ⟨rfl, rfl⟩)
                  exact ⟨⟨i + 1, some cc, by go_num, by omega, rfl, rfl, hb9, Lib.hid hsn.out.symm⟩, by simp [intOf]; omega⟩
                · have d4 : Op.bytesLess s.toList cc.toList = true := e4
                  replace hsn : Hid (nextP (L.take (i + 1)) r lo hi_ = some s) := Lib.hid (by rw [hsn]; show (if kl s cc then some s else some cc) = some s; rw [e4]; rfl)
                  clear e4
                  go_wp2_with (go_at_call 31; refine kh.mono ?_; rintro e9 w3 ⟨rfl, rfl⟩)
                  exact ⟨⟨i + 1, some s, by go_num, by omega, rfl, rfl, hb9, Lib.hid hsn.out.symm⟩, by simp [intOf]; omega⟩
        · have d1 : Op.bytesLess s.toList lo.toList = true := e1
          rw [e1, Bool.not_true, Bool.false_and, if_neg (by decide)] at hsn
          replace hsn := Lib.hid hsn
          clear e1
          go_wp2_with (go_at_call 31; refine kh.mono ?_; rintro e9 w3 ⟨rfl, rfl⟩)
          exact ⟨⟨i + 1, bo, by go_num, by omega, rfl, rfl, hb9, Lib.hid hsn.out.symm⟩, by simp [intOf]; omega⟩
    · obtain rfl : i = L.length := by omega
      have di : ¬ (((L.length : Nat) : Int) < (L.length : Int)) := by omega
      have hN2 := ha.out
      rw [List.take_length] at hN2
      subst hN2
      clear ha
      go_wp2_with fail
      go_ret2
      exact ⟨rfl, bthen hb1 hb1.size hbx⟩
end Go.Proofs.Ytmdhollegemlhaa
