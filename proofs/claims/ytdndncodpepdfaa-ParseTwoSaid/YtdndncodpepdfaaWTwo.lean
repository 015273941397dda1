/- ParseTwo walked: it answers true. -/
import Derived.BigQuiet
import Derived.Deep.QuietTactic
import Derived.Test.YtdndncodpepdfaaSame7
import Derived.Test.YtdndncodpepdfaaAwake7
import Derived.Test.YtdndncodpepdfaaTwoG
import Derived.Test.YtdndncodpepdfaaFrame
namespace Go.Proofs.Ytdndncodpepdfaa
open Go.RowKit

theorem few_said (s : ByteArray) : Few 1000000 (parseS s).1 := by
  by_cases h0 : (allS s).2.1 = 0
  · exact parse_few (all_fine (all_long h0) h0).1
  · unfold parseS
    rw [if_neg h0]
    exact ⟨Nat.zero_le _, fun t ht => by cases ht⟩
theorem DTypsC.app {w : World} {B : Nat} {b : List TypP} {ys : List Value} (hy : DTypsC w B b ys) : ∀ {a : List TypP} {xs : List Value}, DTypsC w B a xs → DTypsC w B (a ++ b) (xs ++ ys)
  | [], xs, h => by
    have : xs = [] := h
    subst this
    exact hy
  | x :: r, xs, h => by
    obtain ⟨us, zs, e, h1, h2⟩ := h
    exact ⟨us, zs ++ ys, by rw [e, List.append_assoc], h1, DTypsC.app hy h2⟩
theorem DTypsC.one {w : World} {B : Nat} : ∀ {a : List TypP} {xs : List Value}, DTypsC w B a xs → ∀ u ∈ xs, u.oneCell' = true
  | [], xs, h, u, hu => by
    have : xs = [] := h
    subst this
    cases hu
  | x :: r, xs, h, u, hu => by
    obtain ⟨us, zs, rfl, ⟨vr, rfl, h1⟩, h2⟩ := h
    obtain ⟨A, c, rfl, _⟩ := Rd.own h1.choose_spec.1
    rcases List.mem_append.1 hu with hu | hu
    · exact dtcell_one _ _ _ _ u hu
    · exact DTypsC.one h2 u hu
set_option maxRecDepth 100000 in
set_option maxHeartbeats 4000000 in
theorem parseTwo_long (s0 s1 : ByteArray) (w : World) (h : 900 < s0.size ∨ 900 < s1.size) :
    Calls Try.prog 6 #[.string s0, .string s1] w fun e w' => e = .returned (.bool true) ∧ Below w.heap.size w w' := by
  by_cases h0 : 900 < s0.size
  · have hd : (900 : Int) < (s0.size : Nat) := by omega
    go_enter Try.func6, Try.ntmps6
    go_wp2_with ((with_reducible refine (awake7_any _).mono ?_); rintro e w1 ⟨rfl, hb1⟩)
    go_ret
    exact ⟨rfl, hb1⟩
  · have hd0 : ¬ (900 : Int) < (s0.size : Nat) := by omega
    have hd : (900 : Int) < (s1.size : Nat) := by omega
    go_enter Try.func6, Try.ntmps6
    go_wp2_with ((with_reducible refine (awake7_any _).mono ?_); rintro e w1 ⟨rfl, hb1⟩)
    go_ret
    exact ⟨rfl, hb1⟩
set_option maxRecDepth 100000 in
set_option maxHeartbeats 4000000 in
theorem parseTwo_bad (s0 s1 : ByteArray) (w : World) (h0 : ¬ 900 < s0.size) (h1 : ¬ 900 < s1.size) {Ta Tb Tz : List TypP} {ea eb ez pa pb pz : Nat} (ha : parseS s0 = (Ta, ea, pa)) (hb : parseS s1 = (Tb, eb, pb)) (hz : parseS (s0 ++ ⟨#[10]⟩ ++ s1) = (Tz, ez, pz)) (hbad : ¬ (ea = 0 ∧ eb = 0)) :
    Calls Try.prog 6 #[.string s0, .string s1] w fun e w' => e = .returned (.bool true) ∧ Below w.heap.size w w' := by
  have hd0 : ¬ (900 : Int) < (s0.size : Nat) := by omega
  have hd1 : ¬ (900 : Int) < (s1.size : Nat) := by omega
  have b1 : ¬ 9223372036854775807 < s0.size + 1 := by omega
  have b2 : ¬ 9223372036854775807 < s0.size + 1 + s1.size := by omega
  have ka := fun W => parse_named s0 (by omega) ha W
  have kb := fun W => parse_named s1 (by omega) hb W
  have kz := fun W => parse_named (s0 ++ ⟨#[10]⟩ ++ s1) (by simp only [size_app]; show s0.size + 1 + s1.size ≤ 1000000; omega) hz W
  clear ha hb hz
  by_cases hea : ea = 0
  · have heb : ¬ eb = 0 := fun e => hbad ⟨hea, e⟩
    subst hea
    have dz : (((eb : Nat) : Int) == 0) = false := by rw [beq_eq_false_iff_ne]; omega
    go_enter Try.func6, Try.ntmps6
    go_wp2_with (first
      | ((with_reducible refine (awake7_any _).mono ?_); rintro e w1 ⟨rfl, hb1⟩)
      | ((with_reducible refine (ka _).mono ?_); rintro e w2 ⟨⟨Aa, ca, rfl, hva⟩, hb2⟩)
      | ((with_reducible refine (kb _).mono ?_); rintro e w3 ⟨⟨Ab, cb, rfl, hvb⟩, hb3⟩)
      | ((with_reducible refine (kz _).mono ?_); rintro e w4 ⟨⟨Az, cz, rfl, hvz⟩, hb4⟩))
    go_ret
    have z2 := hb1.trans (hb2.mono hb1.size)
    have z3 := (z2.alloc z2.size (.cells #[.slice Aa Ta.length ca] 25))
    have z4 := z3.trans (hb3.mono z3.size)
    have z5 := (z4.alloc z4.size (.cells #[.slice Ab Tb.length cb] 25))
    have z6 := z5.trans (hb4.mono z5.size)
    exact ⟨rfl, z6.alloc z6.size _⟩
  · have dz : (((ea : Nat) : Int) == 0) = false := by rw [beq_eq_false_iff_ne]; omega
    go_enter Try.func6, Try.ntmps6
    go_wp2_with (first
      | ((with_reducible refine (awake7_any _).mono ?_); rintro e w1 ⟨rfl, hb1⟩)
      | ((with_reducible refine (ka _).mono ?_); rintro e w2 ⟨⟨Aa, ca, rfl, hva⟩, hb2⟩)
      | ((with_reducible refine (kb _).mono ?_); rintro e w3 ⟨⟨Ab, cb, rfl, hvb⟩, hb3⟩)
      | ((with_reducible refine (kz _).mono ?_); rintro e w4 ⟨⟨Az, cz, rfl, hvz⟩, hb4⟩))
    go_ret
    have z2 := hb1.trans (hb2.mono hb1.size)
    have z3 := (z2.alloc z2.size (.cells #[.slice Aa Ta.length ca] 25))
    have z4 := z3.trans (hb3.mono z3.size)
    have z5 := (z4.alloc z4.size (.cells #[.slice Ab Tb.length cb] 25))
    have z6 := z5.trans (hb4.mono z5.size)
    exact ⟨rfl, z6.alloc z6.size _⟩
set_option maxRecDepth 100000 in
set_option maxHeartbeats 4000000 in
theorem parseTwo_good (s0 s1 : ByteArray) (w : World) (h0 : ¬ 900 < s0.size) (h1 : ¬ 900 < s1.size) {Ta Tb Tz : List TypP} {pa pb pz : Nat} (ha : parseS s0 = (Ta, 0, pa)) (hb : parseS s1 = (Tb, 0, pb)) (hz : parseS (s0 ++ ⟨#[10]⟩ ++ s1) = (Tz, 0, pz)) (hT : Ta ++ Tb = Tz) :
    Calls Try.prog 6 #[.string s0, .string s1] w fun e w' => e = .returned (.bool true) ∧ Below w.heap.size w w' := by
  have hd0 : ¬ (900 : Int) < (s0.size : Nat) := by omega
  have hd1 : ¬ (900 : Int) < (s1.size : Nat) := by omega
  have b1 : ¬ 9223372036854775807 < s0.size + 1 := by omega
  have b2 : ¬ 9223372036854775807 < s0.size + 1 + s1.size := by omega
  have ka := fun W => parse_named s0 (by omega) ha W
  have kb := fun W => parse_named s1 (by omega) hb W
  have kz := fun W => parse_named (s0 ++ ⟨#[10]⟩ ++ s1) (by simp only [size_app]; show s0.size + 1 + s1.size ≤ 1000000; omega) hz W
  have fa := few_said s0
  have fb := few_said s1
  have fz := few_said (s0 ++ ⟨#[10]⟩ ++ s1)
  rw [ha] at fa
  rw [hb] at fb
  rw [hz] at fz
  dsimp only at fa fb fz
  have HT := Lib.hid hT
  clear hT
  have ha1 := fa.1
  have hb1' := fb.1
  clear ha hb hz
  go_enter Try.func6, Try.ntmps6
  go_wp2_with (first
    | ((with_reducible refine (awake7_any _).mono ?_); rintro e w1 ⟨rfl, hb1⟩)
    | ((with_reducible refine (ka _).mono ?_); rintro e w2 ⟨⟨Aa, ca, rfl, hva⟩, hb2⟩)
    | ((with_reducible refine (kb _).mono ?_); rintro e w3 ⟨⟨Ab, cb, rfl, hvb⟩, hb3⟩; have hx3 := (Bk.new w2 #[.slice Aa Ta.length ca] 25).below hb3)
    | ((with_reducible refine (kz _).mono ?_); rintro e w4 ⟨⟨Az, cz, rfl, hvz⟩, hb4⟩; have hx4 := (hx3.alloc (.cells #[.slice Ab Tb.length cb] 25)).below hb4; have hy4 := (Bk.new w3 #[.slice Ab Tb.length cb] 25).below hb4; have x4 := hx4.c1; have lx4 := hx4.lt; have y4 := hy4.c1; have ly4 := hy4.lt))
  have h12 := hb1.trans (hb2.mono hb1.size)
  have h23 : Below w2.heap.size w2 w3 := ((Below.refl _ w2).alloc (Nat.le_refl _) (.cells #[.slice Aa Ta.length ca] 25)).trans (hb3.mono (size_alloc (Nat.le_refl _)))
  have h34 : Below w3.heap.size w3 w4 := ((Below.refl _ w3).alloc (Nat.le_refl _) (.cells #[.slice Ab Tb.length cb] 25)).trans (hb4.mono (size_alloc (Nat.le_refl _)))
  have h44 : Below w4.heap.size w4 (w4.alloc (.cells #[.slice Az Tz.length cz] 25)) := (Below.refl _ w4).alloc (Nat.le_refl _) _
  have h24 := h23.trans ((h34.trans (h44.mono h34.size)).mono h23.size)
  have h34' := h34.trans (h44.mono h34.size)
  have h14 := h12.trans (h24.mono h12.size)
  replace hva := hva.below h24
  replace hvb := hvb.below h34'
  replace hvz := hvz.below h44
  replace hx4 := hx4.below h44
  replace hy4 := hy4.below h44
  have hz4 := Bk.new w4 #[.slice Az Tz.length cz] 25
  clear h12 h23 h34 h44 h24 h34' hb1 hb2 hb3 hb4 x4 y4 lx4 ly4 hx3
  generalize w4.alloc (.cells #[.slice Az Tz.length cz] 25) = wZ at *
  refine (of_any hva fa).mono ?_
  rintro e w5 ⟨⟨v5, rfl, hd5⟩, hb5⟩
  have hy5 := hy4.below hb5
  have y5 := hy5.c1
  have ly5 := hy5.lt
  have hvb5 := hvb.below hb5
  clear hva fa hx4
  go_wp2_with fail
  refine (of_any hvb5 fb).mono ?_
  rintro e w6 ⟨⟨v6, rfl, hd6⟩, hb6⟩
  clear y5 ly5 hvb hvb5 hy4 hy5
  obtain ⟨xs, o1, o2⟩ := hd5.below hb6
  obtain ⟨ys, o3, o4⟩ := hd6
  obtain ⟨A5, c5, rfl, _⟩ := Rd.own o1
  obtain ⟨A6, c6, rfl, r6⟩ := Rd.own o3
  have hs6 := r6.src Try.underlying29 o4.one
  obtain ⟨i0, hi0, hz0, hz1, hz2⟩ := info_parts dinfo_typ
  have hB6 : Below wZ.heap.size wZ w6 := hb5.trans (hb6.mono hb5.size)
  have HS := Lib.hid hs6
  clear hs6 r6
  go_wp2_with (at_builtin; refine wpList_append_src _ rfl (.tmp 56) (.tmp 58) 29 29 rfl wZ.heap.size 65 i0 (.agg #[.string .empty, .slice none 0 0]) 2 40 Try.underlying29 hi0 hz0 hz1 hz2 rfl (by decide) _ Ta.length xs rfl o1 _ Tb.length ys rfl HS.out (by simp only [maxLen]; omega) (by omega) hB6.size ?_; intro v7 w7 hown7 hg7 hat7; obtain ⟨A7, c7, rfl, _⟩ := Rd.own hown7; have hB7 : Below wZ.heap.size wZ w7 := below_of_own hB6 hg7 o1 hB6.size (Nat.le_refl _); have hz7 := hz4.below hB7; have z7 := hz7.c1; have lz7 := hz7.lt)
  have hdl : DVTyps wZ.heap.size w7 (.slice A7 (Ta.length + Tb.length) c7) Tz := by
    have hkp : DKeeps3 w6 w7 wZ.heap.size := ⟨⟨fun _ _ _ h => own_grown h o1 (by decide) hg7, fun _ _ _ h => own_grown h o1 (by decide) hg7⟩, fun _ _ _ h => own_grown h o1 (by decide) hg7⟩
    have hc := DTypsC.app ((DTypsC.base hb5.size o4).keep hkp) (o2.keep hkp)
    rw [← HT.out]
    refine ⟨_, ?_, hc⟩
    rw [List.length_append]
    exact hown7
  have hvz7 := hvz.below hB7
  clear hown7 hg7 hat7 o1 o2 o3 o4 hd5 hb5 hb6 hB6 hvz z7 lz7
  refine (of_any hvz7 fz).mono ?_
  rintro e w8 ⟨⟨v8, rfl, hd8⟩, hb8⟩
  have hdl8 := hdl.below hb8
  obtain ⟨A8, c8, rfl, _⟩ := Rd.own hd8.choose_spec.1
  go_wp2_with fail
  refine (same_any hd8 hdl8 fz).mono ?_
  rintro e w9 ⟨rfl, hb9⟩
  go_wp2_with fail
  have h17 := h14.trans (hB7.mono h14.size)
  have h18 := h17.trans (hb8.mono h17.size)
  have h19 := h18.trans (hb9.mono h18.size)
  go_ret
  exact ⟨rfl, h19⟩
theorem parseTwo_walk (s0 : ByteArray) (s1 : ByteArray) (w : World) (_f0 : s0.size ≤ maxLen) (_f1 : s1.size ≤ maxLen) :
    Calls Try.prog 6 #[.string s0, .string s1] w fun e w' => e = .returned (.bool true) ∧ Below w.heap.size w w' := by
  by_cases h : 900 < s0.size ∨ 900 < s1.size
  · exact parseTwo_long s0 s1 w h
  · have h0 : ¬ 900 < s0.size := fun x => h (.inl x)
    have h1 : ¬ 900 < s1.size := fun x => h (.inr x)
    obtain ⟨Ta, ea, pa, ha⟩ : ∃ T e p, parseS s0 = (T, e, p) := ⟨_, _, _, rfl⟩
    obtain ⟨Tb, eb, pb, hb⟩ : ∃ T e p, parseS s1 = (T, e, p) := ⟨_, _, _, rfl⟩
    by_cases hg : ea = 0 ∧ eb = 0
    · obtain ⟨rfl, rfl⟩ := hg
      have hz := parse_two (a := s0) (b := s1) (by omega) (by omega) (by rw [ha]) (by rw [hb])
      rw [ha, hb] at hz
      exact parseTwo_good s0 s1 w h0 h1 ha hb hz rfl
    · obtain ⟨Tz, ez, pz, hz⟩ : ∃ T e p, parseS (s0 ++ ⟨#[10]⟩ ++ s1) = (T, e, p) := ⟨_, _, _, rfl⟩
      exact parseTwo_bad s0 s1 w h0 h1 ha hb hz hg
end Go.Proofs.Ytdndncodpepdfaa
