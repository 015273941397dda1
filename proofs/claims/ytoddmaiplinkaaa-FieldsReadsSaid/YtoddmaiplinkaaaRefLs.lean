/- The contract of the document's own ReadList. -/
import Derived.Test.YtoddmaiplinkaaaRefRd
namespace Go.Proofs.Ytoddmaiplinkaaa
open Go.RowKit

theorem grown_keep {w w' : World} {base : Nat} {e : TypeId} {size n : Nat} {v : Value} {xs : List Value} (hown : w.ownsRow base e size v n xs) (hg : w.grownBy w' v.ownBlock) {p : Addr} (hp : p.block < base) (hlt : p.block < w.heap.size) :
    w'.cell? p = w.cell? p ∧ w'.frozen? p = w.frozen? p := by
  have h : w'.heap[p.block]? = w.heap[p.block]? := hg.block _ hlt fun e => by have := (hown.lt _ e.symm).1; omega
  exact ⟨World.cell?_of_block (w := w) h, World.frozen?_of_block (w := w) h⟩
/-- A struct of a string and an error that may be written. -/
structure Two (w : World) (g : Nat) (u v : Value) : Prop where
  c0 : w.cell? ⟨g, 0, none⟩ = some u
  c1 : w.cell? ⟨g, 1, none⟩ = some v
  f0 : w.frozen? ⟨g, 0, none⟩ = false
  f1 : w.frozen? ⟨g, 1, none⟩ = false
theorem Two.lt {w : World} {g : Nat} {u v : Value} (h : Two w g u v) : g < w.heap.size := World.block_lt_of_cell? w _ h.c0
theorem Two.below {w w' : World} {g B : Nat} {u v : Value} (h : Two w g u v) (hb : Below B w w') (hg : g < B) : Two w' g u v :=
  ⟨(hb.cell (p := ⟨g, 0, none⟩) hg).trans h.c0, (hb.cell (p := ⟨g, 1, none⟩) hg).trans h.c1, (hb.frozen (p := ⟨g, 0, none⟩) hg).trans h.f0, (hb.frozen (p := ⟨g, 1, none⟩) hg).trans h.f1⟩
theorem Two.alloc {w : World} {g : Nat} {u v : Value} (h : Two w g u v) (o : Obj) : Two (w.alloc o) g u v := h.below ((Below.refl _ _).alloc (Nat.le_refl _) o) h.lt
theorem Two.far {w : World} {g k : Nat} {u v : Value} (h : Two w g u v) (hk : g ≠ k) (i : Nat) (x : Value) : Two (w.setCell ⟨k, i, none⟩ x) g u v := by
  have hh := Below.heap_setCell w ⟨k, i, none⟩ x g hk
  exact ⟨(World.cell?_of_block (w := w) hh).trans h.c0, (World.cell?_of_block (w := w) hh).trans h.c1, (World.frozen?_of_block (w := w) hh).trans h.f0, (World.frozen?_of_block (w := w) hh).trans h.f1⟩
theorem Two.set {w : World} {g : Nat} {u v : Value} (h : Two w g u v) (x y : Value) : Two ((w.setCell ⟨g, 0, none⟩ x).setCell ⟨g, 1, none⟩ y) g x y :=
  ⟨by rw [World.cell?_setCell_other _ _ _ _ (by simp)]; exact World.cell?_setCell_same _ _ _ (by rw [h.c0]),
   World.cell?_setCell_same _ _ _ (by rw [World.cell?_setCell_other _ _ _ _ (by simp), h.c1]),
   by simpa using h.f0, by simpa using h.f1⟩
theorem frozen_of {w : World} {g : Nat} {cs : Array Value} {t : TypeId} (h : w.heap[g]? = some (.cells cs t (0, 0))) (j : Nat) : w.frozen? ⟨g, j, none⟩ = false := by simp [World.frozen?, h]
theorem Two.new (w : World) (u v : Value) (t : TypeId) : Two (w.alloc (.cells #[u, v] t)) w.heap.size u v := by
  have hh := heap_alloc_new w (.cells #[u, v] t)
  exact ⟨by rw [cell_of_row _ _ _ _ _ _ hh]; rfl, by rw [cell_of_row _ _ _ _ _ _ hh]; rfl, frozen_of hh 0, frozen_of hh 1⟩
theorem Two.grown {w w' : World} {base : Nat} {e : TypeId} {size n g : Nat} {u v' v : Value} {xs : List Value} (h : Two w g u v') (hown : w.ownsRow base e size v n xs) (hg : w.grownBy w' v.ownBlock) (hp : g < base) : Two w' g u v' :=
  ⟨(grown_keep hown hg (p := ⟨g, 0, none⟩) hp h.lt).1.trans h.c0, (grown_keep hown hg (p := ⟨g, 1, none⟩) hp h.lt).1.trans h.c1,
   (grown_keep hown hg (p := ⟨g, 0, none⟩) hp h.lt).2.trans h.f0, (grown_keep hown hg (p := ⟨g, 1, none⟩) hp h.lt).2.trans h.f1⟩
theorem own_below' {w w' : World} {base : Nat} {e : TypeId} {size n : Nat} {v : Value} {xs : List Value} (h : w.ownsRow base e size v n xs) (hb : Below w.heap.size w w') : w'.ownsRow base e size v n xs :=
  h.kept (row := none) ⟨hb.os, hb.tape, hb.output, hb.size, fun k hk _ => hb.block k hk⟩ (by cases hv : v.ownBlock with
    | none => exact .inl rfl
    | some k => exact .inr (by simp))
theorem steps_lenB (k : Nat) (st : RSt) : (steps k st).2.1.length ≤ st.1.length := by
  induction k with
  | zero => exact Nat.le_refl _
  | succ k ih => exact Nat.le_trans (rtext_len _) ih

set_option maxRecDepth 100000 in
set_option maxHeartbeats 2000000 in
theorem refList_rd (st : RSt) (hl : st.1.length ≤ 1000000) (most : Int) (hm0 : -1000 ≤ most) (hm1 : most ≤ 1000) (w : World) :
    Calls Try.prog 23 #[.agg #[.string (strOf st.1), .int .i64 st.2], .int .i64 most] w fun e w' => ∃ v, e = .returned (.tuple #[v, .agg #[.string (strOf (rlist st most.toNat).2.1), .int .i64 (rlist st most.toNat).2.2]]) ∧
      w'.ownsRow w.heap.size 9 1 v (rlist st most.toNat).1.length (tv (rlist st most.toNat).1) ∧ Below w.heap.size w w' := by
  obtain ⟨i0, hi, hz0, hz1, hz2⟩ := info_parts info_str
  obtain ⟨q, ⟨l, x⟩, hN⟩ : ∃ q st1, rnum st = (q, st1) := ⟨_, _, rfl⟩
  have HN := Lib.hid hN
  have hll : l.length ≤ 1000000 := by have := rnum_len st; rw [hN] at this; simp only at this; omega
  obtain ⟨L, X⟩ := st
  simp only at hl ⊢
  by_cases hx : x = 0
  · subst hx
    by_cases hq : most.toNat < q
    · have E : Hid (rlist (L, X) most.toNat = ([], (l, 13))) := Lib.hid (by simp [rlist, hN, hq])
      have hq0 : 0 < q := by omega
      clear hN
      by_cases hneg : most < 0
      all_goals
        go_enter Try.func23, Try.ntmps23
        go_wp2_with fail
        refine (refRead_any (L, X) hl _).mono ?_
        rintro e w3 ⟨rfl, hb3⟩
        rw [HN.out]
        obtain ⟨g0, g1, g2, g3, g4, hbw⟩ := after2 hb3
        have Hb := Lib.hid hbw
        clear hb3 hbw
        go_wp2_with fail
        go_region
        all_goals go_wp2
        have hset := set2 (.string (strOf l)) (.int .i64 13) (.cells #[.string (strOf l), .int .i64 0] 41) g0 g1
        refine bodyPost_ret (v := .tuple #[.slice none 0 0, .agg #[.string (strOf l), .int .i64 13]]) (by simp [results, Try.results23, go_sem, hset.1, hset.2]; try rfl) rfl ?_
        rw [E.out]
        exact ⟨_, rfl, World.ownsRow_nil _ _ _ _, ((((Hb.out.setCell (Nat.le_succ _) _).setCell (Nat.le_succ _) _).alloc (by simp [World.setCell]; omega) _).drew)⟩
    · have E : Hid (rlist (L, X) most.toNat = if (steps q (l, 0)).2.2 ≠ 0 then ([], (steps q (l, 0)).2) else steps q (l, 0)) := Lib.hid (by simp [rlist, hN, hq])
      have hq9 : q ≤ 1000 := by omega
      clear hN
      by_cases hneg : most < 0
      · obtain rfl : q = 0 := by omega
        go_enter Try.func23, Try.ntmps23
        go_wp2_with fail
        refine (refRead_any (L, X) hl _).mono ?_
        rintro e w3 ⟨rfl, hb3⟩
        rw [HN.out]
        obtain ⟨g0, g1, g2, g3, g4, hbw⟩ := after2 hb3
        have Hb := Lib.hid hbw
        clear hb3 hbw
        go_wp2_with fail
        refine wp_loop_rounds 1 ?_
        rw [rounds_succ]
        go_wp2
        go_region
        all_goals go_wp2
        have hset := set2 (.string (strOf l)) (.int .i64 0) (.cells #[.string (strOf l), .int .i64 0] 41) g0 g1
        refine bodyPost_ret (v := .tuple #[.slice none 0 0, .agg #[.string (strOf l), .int .i64 0]]) (by simp [results, Try.results23, go_sem, hset.1, hset.2]; try rfl) rfl ?_
        rw [E.out]
        exact ⟨_, rfl, World.ownsRow_nil _ _ _ _, ((((Hb.out.setCell (Nat.le_succ _) _).setCell (Nat.le_succ _) _).alloc (by simp [World.setCell]; omega) _).drew)⟩
      · go_enter Try.func23, Try.ntmps23
        go_wp2_with fail
        refine (refRead_any (L, X) hl _).mono ?_
        rintro e w3 ⟨rfl, hb3⟩
        rw [HN.out]
        obtain ⟨g0, g1, g2, g3, g4, hbw⟩ := after2 hb3
        have Hb := Lib.hid hbw
        have hR3 : Two w3 (w.heap.size + 1) _ _ := ⟨g0, g1, g2, g3⟩
        have HR3 := Lib.hid hR3
        have HG3 := Lib.hid (Two.new w3 (.string (strOf l)) (.int .i64 0) 41)
        have hs3 : w.heap.size ≤ w3.heap.size := by omega
        clear hb3 hbw g0 g1 g2 g3 hR3
        go_wp2_with fail
        go_loopw [8, 9, 10, 11] (fun v i t p wr => ∃ (k : Nat), k ≤ q ∧ i = .int .u64 k ∧ wr.ownsRow (w3.heap.size + 1) 9 1 v k (tv (steps k (l, 0)).1) ∧ (∃ a b, Two wr (w.heap.size + 1) a b) ∧ Two wr w3.heap.size (.string (strOf (steps k (l, 0)).2.1)) (.int .i64 0) ∧ (steps k (l, 0)).2.2 = 0 ∧ Below w.heap.size w wr ∧ w3.heap.size < wr.heap.size) (fun _ i _ _ _ => q - (intOf i).toNat)
        case atStart => exact ⟨0, Nat.zero_le _, rfl, World.ownsRow_nil _ _ _ _, ⟨_, _, HR3.out.alloc _⟩, HG3.out, rfl, Hb.out.alloc hs3 _, by simp⟩
        case round =>
          obtain ⟨k, hk, rfl, hown, ⟨ra, rb, hR⟩, hG, hek, hbr, hwr⟩ := hrel
          have Ho := Lib.hid hown
          have HR := Lib.hid hR
          have HG := Lib.hid hG
          have Hk := Lib.hid hek
          have Hbr := Lib.hid hbr
          obtain ⟨c0, c1, d0, d1⟩ := hG
          have hw0 := hbr.size
          clear hown hR hek hbr
          by_cases hlt : k < q
          · obtain ⟨a, ⟨s', y⟩, hT⟩ : ∃ a r, rtext (steps k (l, 0)).2 = (a, r) := ⟨_, _, rfl⟩
            have Hn1 : Hid ((steps (k + 1) (l, 0)).1 = (steps k (l, 0)).1 ++ [a]) := Lib.hid (by simp [steps, hT])
            have Hn2 : Hid ((steps (k + 1) (l, 0)).2 = (s', y)) := Lib.hid (by simp [steps, hT])
            have HT : Hid (rtext ((steps k (l, 0)).2.1, 0) = (a, (s', y))) := Lib.hid (by have he : (steps k (l, 0)).2 = ((steps k (l, 0)).2.1, 0) := Prod.ext rfl Hk.out; rw [← he]; exact hT)
            have Hln : Hid ((steps k (l, 0)).2.1.length ≤ 1000000) := Lib.hid (Nat.le_trans (steps_lenB k (l, 0)) hll)
            clear hT
            by_cases hy : y = 0
            · subst hy
              go_wp2_with fail
              refine (refText_rd ((steps k (l, 0)).2.1, 0) Hln.out _).mono ?_
              rintro e w4 ⟨rfl, hb4⟩
              rw [HT.out]
              have hR4 := HR.out.below hb4 (by omega)
              have hG4 := HG.out.below hb4 hwr
              have Ho4 := Lib.hid (own_below' Ho.out hb4)
              have Hb4 : Hid (Below w.heap.size w w4) := Lib.hid (Hbr.out.trans (hb4.mono hw0))
              have hw4 := hb4.size
              have HR4 := Lib.hid hR4
              have HG4 := Lib.hid hG4
              obtain ⟨u0, u1, u2, u3⟩ := hG4
              clear hb4 hR4 c0 c1 d0 d1
              have hw34 : w3.heap.size < w4.heap.size := by omega
              have HoV : Hid ((((w4.setCell ⟨w3.heap.size, 0, none⟩ (.string (strOf s'))).setCell ⟨w3.heap.size, 1, none⟩ (.int .i64 0)).alloc (.cells #[.string (strOf s'), .int .i64 0] 41)).ownsRow (w3.heap.size + 1) 9 1 u8 k (tv (steps k (l, 0)).1)) := Lib.hid ((ownsRow_setCell_below (ownsRow_setCell_below Ho4.out (Nat.lt_succ_self _) _) (Nat.lt_succ_self _) _).alloc _)
              have HV : Hid ((((w4.setCell ⟨w3.heap.size, 0, none⟩ (.string (strOf s'))).setCell ⟨w3.heap.size, 1, none⟩ (.int .i64 0)).alloc (.cells #[.string (strOf s'), .int .i64 0] 41)).heap.size = w4.heap.size + 1) := Lib.hid (by simp [World.setCell])
              have Hnews : Hid (∀ j u, [Value.string (strOf a)][j]? = some u → ((((w4.setCell ⟨w3.heap.size, 0, none⟩ (.string (strOf s'))).setCell ⟨w3.heap.size, 1, none⟩ (.int .i64 0)).alloc (.cells #[.string (strOf s'), .int .i64 0] 41)).alloc (.cells #[.string (strOf a)] 9)).cell? ((⟨w4.heap.size + 1, 0, none⟩ : Addr).add j) = some u) := Lib.hid (by
                have h := cell_one_new (((w4.setCell ⟨w3.heap.size, 0, none⟩ (.string (strOf s'))).setCell ⟨w3.heap.size, 1, none⟩ (.int .i64 0)).alloc (.cells #[.string (strOf s'), .int .i64 0] 41)) (.string (strOf a)) 9
                rwa [HV.out] at h)
              have HRV : Hid (Two ((((w4.setCell ⟨w3.heap.size, 0, none⟩ (.string (strOf s'))).setCell ⟨w3.heap.size, 1, none⟩ (.int .i64 0)).alloc (.cells #[.string (strOf s'), .int .i64 0] 41)).alloc (.cells #[.string (strOf a)] 9)) (w.heap.size + 1) ra rb) := Lib.hid ((((HR4.out.far (by omega) _ _).far (by omega) _ _).alloc _).alloc _)
              have HGV : Hid (Two ((((w4.setCell ⟨w3.heap.size, 0, none⟩ (.string (strOf s'))).setCell ⟨w3.heap.size, 1, none⟩ (.int .i64 0)).alloc (.cells #[.string (strOf s'), .int .i64 0] 41)).alloc (.cells #[.string (strOf a)] 9)) w3.heap.size (.string (strOf s')) (.int .i64 0)) := Lib.hid (((HG4.out.set _ _).alloc _).alloc _)
              have HbV : Hid (Below w.heap.size w ((((w4.setCell ⟨w3.heap.size, 0, none⟩ (.string (strOf s'))).setCell ⟨w3.heap.size, 1, none⟩ (.int .i64 0)).alloc (.cells #[.string (strOf s'), .int .i64 0] 41)).alloc (.cells #[.string (strOf a)] 9))) := Lib.hid ((((Hb4.out.setCell hs3 _).setCell hs3 _).alloc (by simp [World.setCell]; omega) _).alloc (by simp [World.setCell]; omega) _)
              go_wp2_with (at_builtin; go_must (refine wpList_append_src _ rfl (.tmp 49) (.tmp 51) 23 23 rfl (w3.heap.size + 1) 9 i0 (.string .empty) 1 16 Try.underlying23 hi hz0 hz1 hz2 rfl (by decide) u8 k _ rfl (HoV.out.alloc _) _ 1 [.string (strOf a)] rfl (Src.ofSlice _ Try.underlying23 _ 1 1 _ rfl Hnews.out (fun u hu => by simp at hu; subst hu; rfl)) (by simp only [maxLen]; omega) (by omega) (by simp [World.setCell]; omega) ?_); intro v5 w5 hown5 hg5 hat5)
              refine ⟨⟨k + 1, by omega, by go_num, ?_, ⟨ra, rb, HRV.out.grown (HoV.out.alloc _) hg5 (by omega)⟩, ?_, ?_, ?_, ?_⟩, by simp [intOf]; omega⟩
              · rw [Hn1.out, tv_snoc]
                exact hown5
              · rw [Hn2.out]
                exact HGV.out.grown (HoV.out.alloc _) hg5 (by omega)
              · rw [Hn2.out]
              · exact HbV.out.grown hg5 HbV.out.size fun j hj => by have := (HoV.out.lt j hj).1; omega
              · have := hg5.size
                simp [World.setCell] at this
                omega
            · have hy1 : ((y : Int) != 0) = true := by simp [hy]
              go_wp2_with fail
              refine (refText_rd ((steps k (l, 0)).2.1, 0) Hln.out _).mono ?_
              rintro e w4 ⟨rfl, hb4⟩
              rw [HT.out]
              have hR4 := HR.out.below hb4 (by omega)
              have Hb4 : Hid (Below w.heap.size w w4) := Lib.hid (Hbr.out.trans (hb4.mono hw0))
              have hw4 := hb4.size
              have hw34 : w.heap.size + 1 < w4.heap.size := by omega
              obtain ⟨u0, u1, u2, u3⟩ := hR4
              clear hb4 c0 c1 d0 d1
              go_wp2_with fail
              go_region
              all_goals go_wp2
              have hn : (steps (k + 1) (l, 0)).2.2 ≠ 0 := by rw [Hn2.out]; exact hy
              have hall := steps_err (show k + 1 ≤ q by omega) hn
              have hset := set2 (.string (strOf s')) (.int .i64 y) (.cells #[.string (strOf s'), .int .i64 y] 41) u0 u1
              refine bodyPost_ret (v := .tuple #[.slice none 0 0, .agg #[.string (strOf s'), .int .i64 y]]) (by simp [results, Try.results23, go_sem, hset.1, hset.2]; try rfl) rfl ?_
              rw [E.out, if_pos (by rw [hall]; exact hn), hall, Hn2.out]
              exact ⟨_, rfl, World.ownsRow_nil _ _ _ _, ((((Hb4.out.setCell (Nat.le_succ _) _).setCell (Nat.le_succ _) _).alloc (by simp [World.setCell]; omega) _).drew)⟩
          · have e3 : k = q := by omega
            subst e3
            have hwr1 : w.heap.size + 1 < wr.heap.size := by omega
            have hR := HR.out
            obtain ⟨u0, u1, u2, u3⟩ := hR
            go_wp2_with fail
            go_region
            all_goals go_wp2
            have hset := HR.out.set (.string (strOf (steps k (l, 0)).2.1)) (.int .i64 0)
            have hc0 := hset.c0
            have hc1 := hset.c1
            refine bodyPost_ret (v := .tuple #[u8, .agg #[.string (strOf (steps k (l, 0)).2.1), .int .i64 0]]) (by simp [results, Try.results23, go_sem, hc0, hc1]; try rfl) rfl ?_
            have hk := Hk.out
            rw [E.out, if_neg (by rw [hk]; simp), steps_len, hk]
            exact ⟨_, rfl, own_base ((ownsRow_setCell_below (ownsRow_setCell_below Ho.out (by simp; omega) _) (by simp; omega) _).drew) (by omega), (((Hbr.out.setCell (Nat.le_succ _) _).setCell (Nat.le_succ _) _).drew)⟩
  · have hx1 : ((x : Int) != 0) = true := by simp [hx]
    have E : Hid (rlist (L, X) most.toNat = ([], (l, x))) := Lib.hid (by simp [rlist, hN, hx])
    clear hN
    go_enter Try.func23, Try.ntmps23
    go_wp2_with fail
    refine (refRead_any (L, X) hl _).mono ?_
    rintro e w3 ⟨rfl, hb3⟩
    rw [HN.out]
    obtain ⟨g0, g1, g2, g3, g4, hbw⟩ := after2 hb3
    have Hb := Lib.hid hbw
    clear hb3 hbw
    go_wp2_with fail
    go_region
    all_goals go_wp2
    have hset := set2 (.string (strOf l)) (.int .i64 x) (.cells #[.string (strOf l), .int .i64 x] 41) g0 g1
    refine bodyPost_ret (v := .tuple #[.slice none 0 0, .agg #[.string (strOf l), .int .i64 x]]) (by simp [results, Try.results23, go_sem, hset.1, hset.2]; try rfl) rfl ?_
    rw [E.out]
    exact ⟨_, rfl, World.ownsRow_nil _ _ _ _, ((((Hb.out.setCell (Nat.le_succ _) _).setCell (Nat.le_succ _) _).alloc (by simp [World.setCell]; omega) _).drew)⟩
end Go.Proofs.Ytoddmaiplinkaaa
