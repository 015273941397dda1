/- The document's own Write. Conditions: none. -/
import Derived.Test.YtiehnimkjneonaaRefD
import Derived.Deep.DeepCutAuto
namespace Go.Proofs.Ytiehnimkjneonaa
open Go.RowKit
/-- The box and the result's place, laid. -/
theorem two_laid (w : World) (K W : Value) (a : Int) (d : Bool) (K' W' : Value) (a' : Int) (d' : Bool) : ∃ V, ((w.alloc (.cells #[K, W, .int .i64 a, .bool d] 32)).alloc (.cells #[K', W', .int .i64 a', .bool d'] 32)) = V ∧ D4 V w.heap.size K W a d ∧ D4 V (w.heap.size + 1) K' W' a' d' ∧ Below w.heap.size w V ∧ V.heap.size = w.heap.size + 2 := by
  refine ⟨_, rfl, (D4.new w K W a d).alloc _, ?_, ((Below.refl _ _).alloc (Nat.le_refl _) _).alloc (by simp) _, by simp⟩
  have := D4.new (w.alloc (.cells #[K, W, .int .i64 a, .bool d] 32)) K' W' a' d'
  simpa using this
theorem info_W : (Try.prog.info? 69).map (fun i => (i.zero, i.size, i.bytes)) = some (some (.agg #[.int .i64 0, .string .empty]), 2, 24) := by kernel_rfl
theorem cells_new (w : World) (cs : Array Value) (t : TypeId) (j : Nat) (u : Value) (h : cs.toList[j]? = some u) : (w.alloc (.cells cs t)).cell? ((⟨w.heap.size, 0, none⟩ : Addr).add j) = some u := by
  rw [Addr.add_lit, cell_of_row _ _ _ _ _ _ (heap_alloc_new w _)]
  simpa using h
/-- One of them is written anew, the other stays. -/
theorem four_set {B : Nat} {w w2 : World} {g h : Nat} {K W K2 W2 : Value} {a a2 : Int} {d d2 : Bool} (x : D4 w2 g K W a d) (r : D4 w2 h K2 W2 a2 d2) (hne : h ≠ g) (b : Below B w w2) (hB : B ≤ g) (K' W' : Value) (a' : Int) (d' : Bool) :
    ∃ V, ((((w2.setCell ⟨g, 0, none⟩ K').setCell ⟨g, 1, none⟩ W').setCell ⟨g, 2, none⟩ (.int .i64 a')).setCell ⟨g, 3, none⟩ (.bool d')) = V ∧ D4 V g K' W' a' d' ∧ D4 V h K2 W2 a2 d2 ∧ Below B w V ∧ V.heap.size = w2.heap.size :=
  ⟨_, rfl, x.s4 _ _ _ _, (((r.far hne _).far hne _).far hne _).far hne _, (((b.setCell hB _).setCell hB _).setCell hB _).setCell hB _, by simp [World.setCell]⟩
set_option maxRecDepth 100000 in
theorem refWrite_dead (w : World) {KA WA : Option Addr} {n kc m wc : Nat} (a i : Int) (d : Bool) (l : List UInt8) (hi0 : 0 ≤ i) (hi1 : i < n) (hl : l.length ≤ 64) (ha : -9223372036854775808 ≤ a ∧ a ≤ 9223372036854775807) (hd : cntD a d = true) :
    Calls Try.prog 13 #[.agg #[.slice KA n kc, .slice WA m wc, .int .i64 a, .bool d], .int .i64 i, .string (strOf l)] w fun e w' => e = .returned (.tuple #[.agg #[.slice KA n kc, .slice WA m wc, .int .i64 (cntA a), .bool true], .int .i64 20]) ∧ Below w.heap.size w w' := by
  have hls := strOf_size l
  have hlz : (l.length : Int) ≤ 64 := by omega
  go_enter Try.func13, Try.ntmps13
  go_upto_region 3 with (fail)
  obtain ⟨V, hV, x0, r0, b0, hs⟩ := two_laid w (.slice KA n kc) (.slice WA m wc) a d (.slice none 0 0) (.slice none 0 0) 0 false
  rw [hV]
  have e0 := x0.c0
  have e1 := x0.c1
  have e2 := x0.c2
  have e3 := x0.c3
  clear hV
  go_upto_region 4 with ((with_reducible refine (counted_any _ a d ha).mono ?_); rintro e w2 ⟨rfl, hb⟩; have x1 := x0.on hb; have r1 := r0.on hb; have b1 := b0.trans (hb.mono (by omega)); have f0 := x1.c0; have f1 := x1.c1; have f2 := x1.c2; have f3 := x1.c3; have ff := x1.fz; clear hb)
  obtain ⟨V2, hV2, x2, r2, b2, hs2⟩ := four_set x1 r1 (by omega) b1 (Nat.le_refl _) (.slice KA n kc) (.slice WA m wc) (cntA a) true
  rw [hV2]
  clear hV2 f0 f1 f2 f3 ff e0 e1 e2 e3 x1 r1 b1 x0 r0 b0
  have f0 := x2.c0
  have f1 := x2.c1
  have f2 := x2.c2
  have f3 := x2.c3
  have g0 := r2.c0
  have g1 := r2.c1
  have g2 := r2.c2
  have g3 := r2.c3
  have gf := r2.fz
  go_wp2_with fail
  obtain ⟨V3, hV3, r3, x3, b3, hs3⟩ := four_set r2 x2 (by omega) b2 (Nat.le_succ _) (.slice KA n kc) (.slice WA m wc) (cntA a) true
  rw [hV3]
  have k0 := r3.c0
  have k1 := r3.c1
  have k2 := r3.c2
  have k3 := r3.c3
  refine bodyPost_ret (v := _) (by simp [results, Try.results13, go_sem, k0, k1, k2, k3]; try rfl) rfl ?_
  exact ⟨rfl, b3⟩
set_option maxRecDepth 100000 in
set_option maxHeartbeats 1000000 in
theorem refWrite_ok (w : World) {KA WA : Option Addr} {n kc m wc : Nat} (a i : Int) (d : Bool) (l : List UInt8) (xs : List Value) (hi0 : 0 ≤ i) (hi1 : i < n) (hl : l.length ≤ 64) (ha : -9223372036854775808 ≤ a ∧ a ≤ 9223372036854775807) (hd : cntD a d = false)
    (hr : Rd w w.heap.size 2 WA m wc xs) (hx : ∀ u ∈ xs, u.oneCell' = true) (hm : m ≤ 1000000) :
    Calls Try.prog 13 #[.agg #[.slice KA n kc, .slice WA m wc, .int .i64 a, .bool d], .int .i64 i, .string (strOf l)] w fun e w' => ∃ A c, e = .returned (.tuple #[.agg #[.slice KA n kc, .slice A (m + 1) c, .int .i64 (cntA a), .bool false], .int .i64 0]) ∧
      w'.ownsRow w.heap.size 69 2 (.slice A (m + 1) c) (m + 1) (xs ++ [.int .i64 i, .string (strOf (pad l))]) ∧ Below w.heap.size w w' := by
  have hls := strOf_size l
  have hlz : (l.length : Int) ≤ 64 := by omega
  have h4 : ¬ i < 0 := by omega
  obtain ⟨i0, hi, hz0, hz1, hz2⟩ := info_parts info_W
  go_enter Try.func13, Try.ntmps13
  go_upto_region 3 with (fail)
  obtain ⟨V, hV, x0, r0, b0, hs⟩ := two_laid w (.slice KA n kc) (.slice WA m wc) a d (.slice none 0 0) (.slice none 0 0) 0 false
  rw [hV]
  have e0 := x0.c0
  have e1 := x0.c1
  have e2 := x0.c2
  have e3 := x0.c3
  clear hV
  go_upto_region 4 with ((with_reducible refine (counted_any _ a d ha).mono ?_); rintro e w2 ⟨rfl, hb⟩; have x1 := x0.on hb; have r1 := r0.on hb; have b1 := b0.trans (hb.mono (by omega)); have f0 := x1.c0; have f1 := x1.c1; have f2 := x1.c2; have f3 := x1.c3; have ff := x1.fz; have hs1 := hb.size; clear hb)
  obtain ⟨V2, hV2, x2, r2, b2, hs2⟩ := four_set x1 r1 (by omega) b1 (Nat.le_refl _) (.slice KA n kc) (.slice WA m wc) (cntA a) false
  rw [hV2]
  clear hV2 f0 f1 f2 f3 ff e0 e1 e2 e3 x1 r1 b1 x0 r0 b0
  have f0 := x2.c0
  have f1 := x2.c1
  have f2 := x2.c2
  have f3 := x2.c3
  go_upto_region 10 with (first
    | (at_builtin; refine wpList_append_src _ rfl (.tmp 29) (.tmp 31) 30 30 rfl (w.heap.size + 2) 69 i0 (.agg #[.int .i64 0, .string .empty]) 2 24 Try.underlying30 hi hz0 hz1 hz2 rfl (by decide) (.slice none 0 0) 0 [] rfl (World.ownsRow_nil _ _ _ _) _ m xs rfl (Rd.src Try.underlying30 (hr.below b2) hx) (by simp only [maxLen]; omega) (by omega) (by omega) ?_; intro v1 w3 hown1 hg1 hat1; rw [Nat.zero_add, List.nil_append] at hown1; have x3 := x2.same (hg1.block _ x2.lt (fun e => (by cases e))); have r3 := r2.same (hg1.block _ r2.lt (fun e => (by cases e))); have b3 := b2.grown hg1 (by omega) (fun k e => (by cases e)); have hs3 := hg1.size; have hs4 : (w3.alloc (.cells #[.int .i64 i, .string (strOf (pad l))] 69)).heap.size = w3.heap.size + 1 := by simp)
    | ((with_reducible refine (pad_any _ l (by omega)).mono ?_); rintro e w4 ⟨rfl, rfl⟩)
    | (at_builtin; refine wpList_append_src _ rfl (.tmp 33) (.tmp 38) 30 30 rfl (w.heap.size + 2) 69 i0 (.agg #[.int .i64 0, .string .empty]) 2 24 Try.underlying30 hi hz0 hz1 hz2 rfl (by decide) v1 m xs rfl (hown1.alloc _) _ 1 [.int .i64 i, .string (strOf (pad l))] rfl (Src.ofSlice _ Try.underlying30 _ 1 1 _ rfl (fun j u h => cells_new _ _ _ _ _ h) (fun u hu => by simp at hu; rcases hu with rfl | rfl <;> rfl)) (by simp only [maxLen]; omega) (by omega) (by omega) ?_; intro v2 w4 hown2 hg2 hat2; have x4 := (x3.alloc (.cells #[.int .i64 i, .string (strOf (pad l))] 69)).same (hg2.block _ (x3.alloc _).lt (fun e => (by have := (hown1.lt _ e.symm).1; omega))); have r4 := (r3.alloc (.cells #[.int .i64 i, .string (strOf (pad l))] 69)).same (hg2.block _ (r3.alloc _).lt (fun e => (by have := (hown1.lt _ e.symm).1; omega))); have b4 := (b3.alloc (by omega) (.cells #[.int .i64 i, .string (strOf (pad l))] 69)).grown hg2 (by omega) (fun k e => (by have := (hown1.lt _ e).1; omega)); obtain ⟨A, c, rfl, hrd⟩ := Rd.own hown2; have hs5 := hg2.size; clear f0 f1 f2 f3; have f0 := x4.c0; have f1 := x4.c1; have f2 := x4.c2; have f3 := x4.c3; have ff := x4.fz))
  have x5 := x4.s1 (.slice A (m + 1) c)
  have r5 := r4.far (p := ⟨w.heap.size, 1, none⟩) (by show w.heap.size + 1 ≠ w.heap.size; omega) (.slice A (m + 1) c)
  have b5 := b4.setCell (p := ⟨w.heap.size, 1, none⟩) (Nat.le_refl _) (.slice A (m + 1) c)
  have o5 : (w4.setCell ⟨w.heap.size, 1, none⟩ (.slice A (m + 1) c)).ownsRow (w.heap.size + 2) 69 2 (.slice A (m + 1) c) (m + 1) (xs ++ [.int .i64 i, .string (strOf (pad l))]) := own_same hown2 fun g e => Below.heap_setCell _ _ _ _ (by have := (hown2.lt g e).1; show g ≠ w.heap.size; omega)
  generalize w4.setCell ⟨w.heap.size, 1, none⟩ (.slice A (m + 1) c) = V4 at *
  clear f0 f1 f2 f3 ff x4 r4 b4 hown2 hrd hg1 hg2 hown1
  have f0 := x5.c0
  have f1 := x5.c1
  have f2 := x5.c2
  have f3 := x5.c3
  have g0 := r5.c0
  have g1 := r5.c1
  have g2 := r5.c2
  have g3 := r5.c3
  have gf := r5.fz
  go_wp2_with fail
  have o6 : ((((V4.setCell ⟨w.heap.size + 1, 0, none⟩ (.slice KA n kc)).setCell ⟨w.heap.size + 1, 1, none⟩ (.slice A (m + 1) c)).setCell ⟨w.heap.size + 1, 2, none⟩ (.int .i64 (cntA a))).setCell ⟨w.heap.size + 1, 3, none⟩ (.bool false)).ownsRow (w.heap.size + 2) 69 2 (.slice A (m + 1) c) (m + 1) (xs ++ [.int .i64 i, .string (strOf (pad l))]) := own_same o5 fun g e => by
    have hne : g ≠ w.heap.size + 1 := by have := (o5.lt g e).1; omega
    rw [Below.heap_setCell _ _ _ _ hne, Below.heap_setCell _ _ _ _ hne, Below.heap_setCell _ _ _ _ hne, Below.heap_setCell _ _ _ _ hne]
  obtain ⟨V3, hV3, r6, x6, b6, hs6⟩ := four_set r5 x5 (by omega) b5 (Nat.le_succ _) (.slice KA n kc) (.slice A (m + 1) c) (cntA a) false
  rw [hV3] at o6 ⊢
  have k0 := r6.c0
  have k1 := r6.c1
  have k2 := r6.c2
  have k3 := r6.c3
  refine bodyPost_ret (v := .tuple #[.agg #[.slice KA n kc, .slice A (m + 1) c, .int .i64 (cntA a), .bool false], .int .i64 0]) (by simp [results, Try.results13, go_sem, k0, k1, k2, k3]; try rfl) rfl ?_
  exact ⟨A, c, rfl, own_base o6 (by omega), b6⟩
end Go.Proofs.Ytiehnimkjneonaa
