/- SpansOnce walked, against what the program's functions are asked to do (SpK) and the law's awake. Conditions: none. -/
import Derived.Deep.RegionHeld3
import Derived.Test.YtmdhollegemlhaaSpL14
import Derived.Test.YtmdhollegemlhaaOnceP14
namespace Go.Proofs.Ytmdhollegemlhaa
open Go.RowKit

set_option maxRecDepth 100000 in
set_option maxHeartbeats 8000000 in
theorem spansOnce_walk {S : World → (Nat → Prop) → Nat → List Sp → Int → Prop} (K : SpK S) (up : ∀ w, Calls Try.prog 8 #[] w fun e w' => e = .returned (.bool true) ∧ Below w.heap.size w w') (A0 : Option Addr) (c0 : Nat) (l0 : List Ac) (s1 : ByteArray) (x2 : Int) (x3 : Int) (w : World) (r0 : Rd w w.heap.size 3 A0 l0.length c0 (acs l0)) (f0 : ∀ s ∈ l0, s.2.1.size ≤ maxLen ∧ (Lit.int .u8 s.1).wf = true ∧ (Lit.int .i64 s.2.2).wf = true) (_f1 : s1.size ≤ maxLen) (_f2 : (Lit.int .i64 x2).wf = true) (_f3 : (Lit.int .i64 x3).wf = true) :
    Calls Try.prog 6 #[.slice A0 l0.length c0, .string s1, .int .i64 x2, .int .i64 x3] w fun e w' => e = .returned (.bool true) ∧ Below w.heap.size w w' := by
  have hmx : ∀ s ∈ l0, s.2.1.size ≤ maxLen := fun s hs => (f0 s hs).1
  go_enter Try.func6, Try.ntmps6
  go_upto_region 2 with (go_at_call 8; refine (up _).mono ?_; rintro e1 w1 ⟨rfl, hb1⟩)
  have kf := few_any (r0.up hb1) hmx
  obtain ⟨fw, hfw⟩ : ∃ fw, fewA l0 = fw := ⟨_, rfl⟩
  rw [hfw] at kf
  cases fw with
  | false =>
    go_wp2_with (go_at_call 9; refine kf.mono ?_; rintro e2 w2 ⟨rfl, rfl⟩)
    go_ret
    exact ⟨rfl, hb1⟩
  | true =>
    by_cases c1 : x2 < 1
    · go_wp2_with (go_at_call 9; refine kf.mono ?_; rintro e2 w2 ⟨rfl, rfl⟩)
      go_ret
      exact ⟨rfl, hb1⟩
    by_cases c2 : x3 ≤ x2
    · go_wp2_with (go_at_call 9; refine kf.mono ?_; rintro e2 w2 ⟨rfl, rfl⟩)
      go_ret
      exact ⟨rfl, hb1⟩
    by_cases c3 : 1000000 < x3
    · go_wp2_with (go_at_call 9; refine kf.mono ?_; rintro e2 w2 ⟨rfl, rfl⟩)
      go_ret
      exact ⟨rfl, hb1⟩
    by_cases c4 : 40 < s1.size
    · go_wp2_with (go_at_call 9; refine kf.mono ?_; rintro e2 w2 ⟨rfl, rfl⟩)
      go_ret
      exact ⟨rfl, hb1⟩
    have kn := fun w => Sx.new K w w (Below.refl _ _)
    go_upto_region 8 with (first
      | (go_at_call 9; refine kf.mono ?_; rintro e2 w2 ⟨rfl, rfl⟩)
      | (go_at_call 10; refine (Sx.new K _ _ hb1).mono ?_; rintro e3 w3 ⟨g, rfl, hS⟩))
    obtain ⟨hl60, hfew⟩ := fewA_at hfw
    clear kn kf
    go_wp2_with fail
    go_loopw [12, 13] (fun vl vi wx => ∃ (i : Nat) (L : List Sp) (last : Int), vi = .int .i64 i ∧ vl = .int .i64 last ∧ i ≤ l0.length ∧ Sx S w wx g L last ∧ L.length ≤ i ∧ OnceS L s1 x2 ∧ last < x2) (fun _ vi _ => l0.length - (intOf vi).toNat)
    case atStart => exact ⟨0, [], 0, rfl, rfl, Nat.zero_le _, hS, Nat.le_refl _, OnceS.nil _ _, by omega⟩
    case round =>
      obtain ⟨i, L, last, rfl, rfl, hi, hSx, hLi, hon, hla⟩ := hrel
      by_cases hil : i < l0.length
      · have di : (i : Int) < (l0.length : Int) := by omega
        obtain ⟨x, hx⟩ : ∃ x, l0[i]? = some x := ⟨_, List.getElem?_eq_getElem hil⟩
        obtain ⟨b, o, rfl, hlb, g0, g1, g2⟩ := rd_act (r0.below hSx.below) hx
        obtain ⟨k1, k2⟩ := hfew i x hx
        obtain ⟨kd, s, r⟩ := x
        dsimp only at g0 g1 g2 k1 k2
        clear hx g0
        by_cases hk : s = s1
        · subst hk
          clear k1
          go_wp2_with fail
          exact ⟨⟨i + 1, L, last, by go_num, rfl, by omega, hSx, by omega, hon, hla⟩, by simp [intOf]; omega⟩
        · have dk : (s.toList == s1.toList) = false := beq_false_of_ne fun z => hk (tl_inj z)
          by_cases ha : r < x2
          · have hSd := hSx.drew K
            have hgd : ∀ W, Sx S w W g L last → True := fun _ _ => trivial
            have hcd : wr.drew.cell? ⟨b, o + i * 3 + 1, none⟩ = some (.string s) ∧ wr.drew.cell? ⟨b, o + i * 3 + 2, none⟩ = some (.int .i64 r) := ⟨g1, g2⟩
            cases hp : putP L last s r with
            | none =>
              have kp := hSd.putNo K s r (by omega) k1 k2 hp
              clear hp hgd
              go_upto_region 13 with (fail)
              go_region_held3 (fun w' => w'.cell? ⟨b, o + i * 3 + 1, none⟩ = some (.string s) ∧ w'.cell? ⟨b, o + i * 3 + 2, none⟩ = some (.int .i64 r))
                (first
                  | exact hk4
                  | go_keep
                  | fail)
                ((with_reducible refine kp.mono ?_; rintro e4 w4 ⟨rfl, hS4⟩; have hk4 : w4.cell? ⟨b, o + i * 3 + 1, none⟩ = some (.string s) ∧ w4.cell? ⟨b, o + i * 3 + 2, none⟩ = some (.int .i64 r) := ⟨(hS4.below.cell (p := ⟨b, o + i * 3 + 1, none⟩) hlb).trans ((hSx.below.cell (p := ⟨b, o + i * 3 + 1, none⟩) hlb).symm.trans g1), (hS4.below.cell (p := ⟨b, o + i * 3 + 2, none⟩) hlb).trans ((hSx.below.cell (p := ⟨b, o + i * 3 + 2, none⟩) hlb).symm.trans g2)⟩))
              go_wp2_with fail
              exact ⟨⟨i + 1, L, last, by go_num, rfl, by omega, hS4, by omega, hon, hla⟩, by simp [intOf]; omega⟩
            | some L' =>
              have kp := hSd.putYes K s r (by omega) k1 k2 hp
              have hon' := hon.put hk ha hp
              have hll : L'.length ≤ i + 1 := by
                obtain ⟨_, _, _, rfl⟩ := putP_some hp
                simp
                omega
              clear hp hgd
              go_upto_region 13 with (fail)
              go_region_held3 (fun w' => w'.cell? ⟨b, o + i * 3 + 1, none⟩ = some (.string s) ∧ w'.cell? ⟨b, o + i * 3 + 2, none⟩ = some (.int .i64 r))
                (first
                  | exact hk4
                  | go_keep
                  | fail)
                ((with_reducible refine kp.mono ?_; rintro e4 w4 ⟨rfl, hS4⟩; have hk4 : w4.cell? ⟨b, o + i * 3 + 1, none⟩ = some (.string s) ∧ w4.cell? ⟨b, o + i * 3 + 2, none⟩ = some (.int .i64 r) := ⟨(hS4.below.cell (p := ⟨b, o + i * 3 + 1, none⟩) hlb).trans ((hSx.below.cell (p := ⟨b, o + i * 3 + 1, none⟩) hlb).symm.trans g1), (hS4.below.cell (p := ⟨b, o + i * 3 + 2, none⟩) hlb).trans ((hSx.below.cell (p := ⟨b, o + i * 3 + 2, none⟩) hlb).symm.trans g2)⟩))
              obtain ⟨hk5, hk6⟩ := hk4
              go_wp2_with fail
              exact ⟨⟨i + 1, L', r, by go_num, rfl, by omega, hS4, by omega, hon', ha⟩, by simp [intOf]; omega⟩
          · go_wp2_with fail
            exact ⟨⟨i + 1, L, last, by go_num, rfl, by omega, hSx, by omega, hon, hla⟩, by simp [intOf]; omega⟩
      · obtain rfl : i = l0.length := by omega
        have di : ¬ (((l0.length : Nat) : Int) < (l0.length : Int)) := by omega
        have hL60 : L.length ≤ 60 := by omega
        have hs1 : s1.size ≤ 40 := by omega
        have hsm : s1.size ≤ maxLen := by simp only [maxLen]; omega
        have hb0 : x3 ≠ 0 := by omega
        clear r0 f0 hmx hfew hi hLi di
        generalize l0.length = l0n at *
        have kc := hSx.count K x2 (by omega)
        rw [hon.count (Int.le_refl _)] at kc
        go_upto_region 16 with (go_at_call 21; refine kc.mono ?_; rintro e4 w4 ⟨rfl, hS4, _⟩)
        have q1 : 1 ≤ x2 := by omega
        have q3 : 1 ≤ x3 := by omega
        have p1 := once_put hon q1 (show last ≤ x2 by omega)
        have p2 := once_twice (last := x2) (r := x2) hon
        have p3 := once_twice (last := x2) (r := x3) hon
        have h4 : hasP (L ++ [(s1, x2, 0)]) s1 x2 = true := by rw [once_has hon, holds_open, decide_eq_true (Int.le_refl _)]
        have h5 : hasP (L ++ [(s1, x2, 0)]) s1 (x2 - 1) = false := by rw [once_has hon, holds_open, decide_eq_false (by omega)]
        have h6 : hasP (L ++ [(s1, x2, 0)]) s1 x3 = true := by rw [once_has hon, holds_open, decide_eq_true (by omega)]
        have c7 : (countP (L ++ [(s1, x2, 0)]) x2 : Int) = (L.length : Int) + 1 := by rw [count_snoc, hon.count (Int.le_refl _), holds_open, decide_eq_true (Int.le_refl _)]; simp
        have d8 : dropP (L ++ [(s1, x2, 0)]) x2 s1 x2 = none := by rw [once_drop hon, if_pos (Or.inr (Int.le_refl _))]
        have d9 : dropP (L ++ [(s1, x2, 0)]) x2 s1 x3 = some (L ++ [(s1, x2, x3)]) := by rw [once_drop hon, if_neg (by omega)]
        have d10 : dropP (L ++ [(s1, x2, x3)]) x3 s1 x3 = none := once_gone hon hb0
        have h11 : hasP (L ++ [(s1, x2, x3)]) s1 x3 = false := by rw [once_has hon, holds_shut hb0, decide_eq_false (by omega)]
        have h12 : hasP (L ++ [(s1, x2, x3)]) s1 (x3 - 1) = true := by rw [once_has hon, holds_shut hb0, decide_eq_true (by omega)]
        have c13 : (countP (L ++ [(s1, x2, x3)]) x3 : Int) = (L.length : Int) := by rw [count_snoc, hon.count (by omega), holds_shut hb0, decide_eq_false (by omega)]; simp
        have p14 := once_again (a := x2) (last := x3) hon q3 (Int.le_refl _)
        have h15 : hasP (L ++ [(s1, x2, x3)] ++ [(s1, x3, 0)]) s1 x3 = true := by rw [has_snoc, holds_open, decide_eq_true (Int.le_refl _), decide_eq_true rfl, Bool.and_true, Bool.or_true]
        have t16 := once_trim (a := x2) hon q3
        have t17 : (((L ++ [(s1, x2, x3)] ++ [(s1, x3, 0)] : List Sp)).length : Int) - ((L ++ [((s1, x3, 0) : Sp)]).length : Int) = 1 := by simp; omega
        have hon3 : OnceS L s1 x3 := fun x hx => by have := hon x hx; exact ⟨this.1, this.2.1, this.2.2.1, by omega⟩
        have c18 : (countP (L ++ [(s1, x3, 0)]) x3 : Int) = (L.length : Int) + 1 := by rw [count_snoc, hon.count (by omega), holds_open, decide_eq_true (Int.le_refl _)]; simp
        have h19 : hasP (L ++ [(s1, x3, 0)]) s1 x3 = true := by rw [once_has hon3, holds_open, decide_eq_true (Int.le_refl _)]
        have b0 : L.length ≤ 100 := by omega
        have b1 : ∀ {t : Sp}, (L ++ [t]).length ≤ 100 := by intro t; rw [List.length_append]; simp; omega
        have b3 : ∀ {t u : Sp}, (L ++ [t] ++ [u]).length ≤ 100 := by intro t u; rw [List.length_append, List.length_append]; simp; omega
        have b9 : x2 ≤ 1000000 := by omega
        have b8 : x3 ≤ 1000000 := by omega
        clear hon hon3 kc
        generalize hn : (L.length : Int) = n at *
        go_upto_region 18 with (first
          | (go_at_call 11; with_reducible refine (hS4.putYes K s1 x2 b0 hs1 b9 p1).mono ?_; rintro e5 w5 ⟨rfl, hS5⟩; clear hS4)
          | (go_at_call 11; with_reducible refine (hS5.putNo K s1 x2 b1 hs1 b9 p2).mono ?_; rintro e6 w6 ⟨rfl, hS6⟩; clear hS5)
          | (go_at_call 11; with_reducible refine (hS6.putNo K s1 x3 b1 hs1 b8 p3).mono ?_; rintro e7 w7 ⟨rfl, hS7⟩; clear hS6)
          | (go_at_call 19; with_reducible refine (hS7.hasIs K s1 x2 b1 hsm h4).mono ?_; rintro e8 w8 ⟨rfl, hS8⟩; clear hS7)
          | (go_at_call 19; with_reducible refine (hS8.hasIs K s1 (x2 - 1) b1 hsm h5).mono ?_; rintro e9 w9 ⟨rfl, hS9⟩; clear hS8)
          | (go_at_call 19; with_reducible refine (hS9.hasIs K s1 x3 b1 hsm h6).mono ?_; rintro e10 w10 ⟨rfl, hS10⟩; clear hS9)
          | (go_at_call 21; with_reducible refine (hS10.countIs K x2 b1 c7).mono ?_; rintro e11 w11 ⟨rfl, hS11⟩; clear hS10)
          | fail)
        go_upto_region 20 with (first
          | (go_at_call 13; with_reducible refine (hS11.dropNo K s1 x2 b1 hs1 b9 d8).mono ?_; rintro e12 w12 ⟨rfl, hS12⟩; clear hS11)
          | (go_at_call 13; with_reducible refine (hS12.dropYes K s1 x3 b1 hs1 b8 d9).mono ?_; rintro e13 w13 ⟨rfl, hS13⟩; clear hS12)
          | (go_at_call 13; with_reducible refine (hS13.dropNo K s1 x3 b1 hs1 b8 d10).mono ?_; rintro e14 w14 ⟨rfl, hS14⟩; clear hS13)
          | (go_at_call 19; with_reducible refine (hS14.hasIs K s1 x3 b1 hsm h11).mono ?_; rintro e15 w15 ⟨rfl, hS15⟩; clear hS14)
          | (go_at_call 19; with_reducible refine (hS15.hasIs K s1 (x3 - 1) b1 hsm h12).mono ?_; rintro e16 w16 ⟨rfl, hS16⟩; clear hS15)
          | (go_at_call 21; with_reducible refine (hS16.countIs K x3 b1 c13).mono ?_; rintro e17 w17 ⟨rfl, hS17⟩; clear hS16)
          | fail)
        go_wp2_with (first
          | (go_at_call 11; with_reducible refine (hS17.putYes K s1 x3 b1 hs1 b8 p14).mono ?_; rintro e18 w18 ⟨rfl, hS18⟩; clear hS17)
          | (go_at_call 19; with_reducible refine (hS18.hasIs K s1 x3 b3 hsm h15).mono ?_; rintro e19 w19 ⟨rfl, hS19⟩; clear hS18)
          | (go_at_call 15; with_reducible refine (hS19.trimIs K x3 b3 t16 t17).mono ?_; rintro e20 w20 ⟨rfl, hS20⟩; clear hS19)
          | (go_at_call 21; with_reducible refine (hS20.countIs K x3 b1 c18).mono ?_; rintro e21 w21 ⟨rfl, hS21⟩; clear hS20)
          | (go_at_call 19; with_reducible refine (hS21.hasIs K s1 x3 b1 hsm h19).mono ?_; rintro e22 w22 ⟨rfl, hS22⟩; clear hS21)
          | fail)
        go_ret
        exact ⟨rfl, hS22.below⟩
end Go.Proofs.Ytmdhollegemlhaa
