/- CheckTwice walked. Conditions: none. -/
import Derived.BigQuiet
import Derived.Deep.QuietTactic
import Derived.Deep.Cut
import Derived.Deep.DeepCutAuto
import Derived.IntWalk
import Derived.Test.YtpiihfffhjmabaaAwake9
import Derived.Test.YtpiihfffhjmabaaFew9
import Derived.Test.YtpiihfffhjmabaaChkL
namespace Go.Proofs.Ytpiihfffhjmabaa
open Go.RowKit

theorem tAcells_one (l : List TypA) : ∀ u ∈ l.flatMap TypA.cells, u.oneCell' = true := by
  intro u hu
  obtain ⟨t, _, ht⟩ := List.mem_flatMap.1 hu
  simp only [TypA.cells, List.mem_cons, List.not_mem_nil, or_false] at ht
  rcases ht with rfl | rfl <;> rfl
/-- A schema with a type more behind. -/
theorem built9 {w : World} {R : Nat} {A A' : Option Addr} {c c' : Nat} {l : List TypA} {t : TypA} (h : SchA w R A c l) (ht : t.ok w R) (hr : Rd w w.heap.size 2 A' (l.length + 1) c' (l.flatMap TypA.cells ++ t.cells)) (hl : (l.length + 1) * 40 ≤ R) : SchA w R A' c' (l ++ [t]) := by
  refine ⟨?_, ?_, fun a ha => ?_⟩
  · rw [List.length_append, List.length_singleton, List.flatMap_append, List.flatMap_singleton]
    exact hr
  · rw [List.length_append, List.length_singleton]
    exact hl
  · rcases List.mem_append.1 ha with ha | ha
    · exact h.each a ha
    · rw [List.mem_singleton.1 ha]
      exact ht
set_option maxRecDepth 100000 in
set_option maxHeartbeats 2000000 in
theorem checkTwice_walk (A : Option Addr) (c : Nat) (l : List TypA) (x1 : Int) (s2 : ByteArray) (w : World) (h : SchA w 140737488351232 A c l) (f1 : (Lit.int .u8 x1).wf = true) (f2 : s2.size ≤ 140737488351232) :
    Calls Try.prog 5 #[.agg #[.slice A l.length c], .int .u8 x1, .string s2] w fun e w' => e = .returned (.bool true) ∧ Below w.heap.size w w' := by
  have hll : (l.length : Int) ≤ 9223372036854775807 := by have := h.rows.cap; have := h.rows.capm; simp only [maxLen] at this; omega
  have hb := bnew w (.cells #[.slice A l.length c] 24)
  have d0 := Bk.new w #[.slice A l.length c] 24
  replace h := h.up hb
  go_enter Try.func5, Try.ntmps5
  go_upto_region 1 with (fail)
  generalize w.alloc (.cells #[.slice A l.length c] 24) = w1 at *
  go_wp2_with fail
  refine (awake9_any w1).mono ?_
  rintro e w2 ⟨rfl, hb1⟩
  replace hb := bthen hb hb.size hb1
  replace h := h.up hb1
  replace d0 := d0.below hb1
  clear hb1
  have x0 := d0.c1
  have xl := d0.lt
  go_wp2_with fail
  refine (few9_any h).mono ?_
  rintro e w3 ⟨⟨bf, rfl⟩, hb1⟩
  replace hb := bthen hb hb.size hb1
  replace h := h.up hb1
  replace d0 := d0.below hb1
  clear hb1 x0 xl
  have x0 := d0.c1
  have xl := d0.lt
  go_wp2_with fail
  refine (check_any h (Nat.le_refl _)).mono ?_
  rintro e w4 ⟨rfl, hb1⟩
  replace hb := bthen hb hb.size hb1
  replace h := h.up hb1
  replace d0 := d0.below hb1
  clear hb1 x0 xl
  cases bf with
  | false =>
    go_wp2
    go_ret
    exact ⟨rfl, hb⟩
  | true =>
    by_cases hE : (checkE (l.map TypA.says)).1 = 0
    · have hRt := Lib.hid ((checkE_ok (l.map TypA.says)).1.1 hE)
      have h8 : ¬ (8 : Int) < (l.length : Nat) := by
        have := hRt.out.few
        rw [List.length_map] at this
        omega
      generalize checkE (l.map TypA.says) = E at *
      obtain ⟨E1, E2⟩ := E
      obtain rfl : E1 = 0 := hE
      simp only [show ((0 : Nat) : Int) = 0 from rfl]
      have x0 := d0.c1
      have xl := d0.lt
      by_cases hl0 : l.length = 0
      · obtain rfl : l = [] := List.eq_nil_of_length_eq_zero hl0
        go_wp2
        go_ret
        exact ⟨rfl, hb⟩
      · have hl1 : 0 < l.length := Nat.pos_of_ne_zero hl0
        have hli : ¬ ((l.length : Nat) : Int) = 0 := by omega
        have f1' := wf_u8 f1
        obtain ⟨m, rfl⟩ : ∃ m : Nat, x1 = m := ⟨x1.toNat, by omega⟩
        have hm : m ≤ 255 := by omega
        have hwm : IntKind.i64.wrap (m : Int) = (m : Int) := IntWalk.i64_in _ (by omega)
        obtain ⟨k, hk⟩ : ∃ k, m % l.length = k := ⟨_, rfl⟩
        have hkl : k < l.length := by rw [← hk]; exact Nat.mod_lt _ hl1
        have hkt : Int.tmod (m : Int) (l.length : Int) = (k : Int) := by rw [← hk]; rfl
        have hkI : (k : Int) < (l.length : Nat) := by omega
        obtain ⟨t, ht⟩ : ∃ t, l[k]? = some t := ⟨l[k], List.getElem?_eq_getElem hkl⟩
        obtain ⟨g, o, rfl, t0, t1, hkt2⟩ := h.get ht
        have tl := World.block_lt_of_cell? _ _ t0
        dsimp only at tl
        go_upto_region 8 with (fail)
        have hlb : (((l.length : Nat) : Int) == 0) = false := by simpa using hli
        simp only [hlb]
        generalize w4 = wq at *
        go_cut [11] from 41 to 50 (fun p wc => ∃ (pg : Nat), p = .pointer (some ⟨pg, 0, none⟩) ∧ Bk wc pg #[.string t.name, .slice t.A t.rels.length t.c] 46 ∧ Below wq.heap.size wq wc)
        case first =>
          have hSc : ∀ W : World, Below wq.heap.size wq W → W.cell? ⟨w.heap.size, 0, none⟩ = some (.slice (some ⟨g, o, none⟩) l.length c) ∧ W.cell? ⟨g, o + k * 2, none⟩ = some (.string t.name) ∧ W.cell? ⟨g, o + k * 2 + 1, none⟩ = some (.slice t.A t.rels.length t.c) := fun W h => ⟨cell_under x0 h, cell_under t0 h, cell_under t1 h⟩
          have hS0 : Below wq.heap.size wq wq.drew := (Below.refl _ _).drew
          have Hal : Hid (∀ o : Obj, Below wq.heap.size wq (wq.alloc o).drew) := Lib.hid fun o => ((Below.refl _ _).alloc (Nat.le_refl _) o).drew
          refine wp_region_any (by kernel_rfl) ?_
          change wpAny _ _ _ _ _ _ _ (World.drew _)
          refine wpAny_of_held (S := fun W => Below wq.heap.size wq W) _ _ _ _ ?_
          refine roH_take 0 (some 41) (v := ?v0p) rfl rfl (by kernel_rfl) (by kernel_rfl) (by kernel_rfl) (fun _ _ _ h => h) (by rfl) ?y0p (by assumption) ?r0p
          case y0p => (intro W hS; go_simp; try with_reducible rfl)
          simp only [Act.put, List.setIfInBounds_toArray, List.set_cons_zero, List.set_cons_succ]
          refine roH_take 1 (some 42) (v := ?v1p) rfl rfl (by kernel_rfl) (by kernel_rfl) (by kernel_rfl) (fun _ _ _ h => h) (by rfl) ?y1p (by assumption) ?r1p
          case y1p => (intro W hS; obtain ⟨s0, s1, s2⟩ := hSc W hS; go_simp; try with_reducible rfl)
          simp only [Act.put, List.setIfInBounds_toArray, List.set_cons_zero, List.set_cons_succ]
          refine roH_take 2 (some 43) (v := ?v2p) rfl rfl (by kernel_rfl) (by kernel_rfl) (by kernel_rfl) (fun _ _ _ h => h) (by rfl) ?y2p (by assumption) ?r2p
          case y2p => (intro W hS; go_simp; try with_reducible rfl)
          simp only [Act.put, List.setIfInBounds_toArray, List.set_cons_zero, List.set_cons_succ]
          refine roH_take 3 (some 44) (v := ?v3p) rfl rfl (by kernel_rfl) (by kernel_rfl) (by kernel_rfl) (fun _ _ _ h => h) (by rfl) ?y3p (by assumption) ?r3p
          case y3p => (intro W hS; go_simp; try with_reducible rfl)
          simp only [Act.put, List.setIfInBounds_toArray, List.set_cons_zero, List.set_cons_succ]
          refine roH_take 4 (some 45) (v := ?v4p) rfl rfl (by kernel_rfl) (by kernel_rfl) (by kernel_rfl) (fun _ _ _ h => h) (by rfl) ?y4p (by assumption) ?r4p
          case y4p => (intro W hS; go_simp; try with_reducible rfl)
          simp only [Act.put, List.setIfInBounds_toArray, List.set_cons_zero, List.set_cons_succ]
          refine roH_take 5 (some 46) (v := ?v5p) rfl rfl (by kernel_rfl) (by kernel_rfl) (by kernel_rfl) (fun _ _ _ h => h) (by rfl) ?y5p (by assumption) ?r5p
          case y5p => (intro W hS; obtain ⟨s0, s1, s2⟩ := hSc W hS; go_simp; try with_reducible rfl)
          simp only [Act.put, List.setIfInBounds_toArray, List.set_cons_zero, List.set_cons_succ]
          refine roH_take 6 (some 47) (v := ?v6p) rfl rfl (by kernel_rfl) (by kernel_rfl) (by kernel_rfl) (fun _ _ _ h => h) (by rfl) ?y6p (by assumption) ?r6p
          case y6p => (intro W hS; go_simp; try with_reducible rfl)
          simp only [Act.put, List.setIfInBounds_toArray, List.set_cons_zero, List.set_cons_succ]
          refine roH_take 7 (some 48) (v := ?v7p) rfl rfl (by kernel_rfl) (by kernel_rfl) (by kernel_rfl) (fun _ _ _ h => h) (by rfl) ?y7p (by assumption) ?r7p
          case y7p => (intro W hS; go_simp; try with_reducible rfl)
          simp only [Act.put, List.setIfInBounds_toArray, List.set_cons_zero, List.set_cons_succ]
          refine roH_take 8 (some 49) (v := ?v8p) rfl rfl (by kernel_rfl) (by kernel_rfl) (by kernel_rfl) (fun _ _ _ h => h) (by rfl) ?y8p (by assumption) ?r8p
          case y8p => (intro W hS; obtain ⟨s0, s1, s2⟩ := hSc W hS; go_simp; try with_reducible rfl)
          simp only [Act.put, List.setIfInBounds_toArray, List.set_cons_zero, List.set_cons_succ]
          refine roH_take 9 (some 50) (v := ?v9p) rfl rfl (by kernel_rfl) (by kernel_rfl) (by kernel_rfl) (fun _ _ _ h => h) (by rfl) ?y9p (by assumption) ?r9p
          case y9p => (intro W hS; obtain ⟨s0, s1, s2⟩ := hSc W hS; go_simp; try with_reducible rfl)
          simp only [Act.put, List.setIfInBounds_toArray, List.set_cons_zero, List.set_cons_succ]
          have hSa := Hal.out (.cells #[.string ⟨#[]⟩, .slice none 0 0] 46)
          have hSb := Hal.out (.cells #[.string t.name, .slice t.A t.rels.length t.c] 46)
          refine roH_one 10 rfl (by kernel_rfl) ?_
          intro K hK
          go_simp
          refine hK _ _ hSa ?_
          clear hK K
          refine roH_one 11 rfl (by kernel_rfl) ?_
          intro K hK
          go_simp
          refine hK _ _ hSb ?_
          clear hK K
          refine wpAnyH_done (by kernel_rfl) ?_ _
          go_wp2_with fail
          go_meet
          exact ⟨wq.heap.size, rfl, Bk.below (Bk.new wq _ _) ⟨rfl, rfl, rfl, Nat.le_refl _, fun _ _ => rfl⟩, hSb⟩
        case rest =>
          obtain ⟨pg, rfl, hX, hbz⟩ := hcut
          replace hb := bthen hb hb.size hbz
          replace h := h.up hbz
          replace d0 := d0.below hbz
          replace hkt2 := hkt2.up hbz
          clear hbz x0 xl t0 t1 tl hkt hwm hkI hm hk
          generalize wc = w5 at *
          have x0 := d0.c1
          have xl := d0.lt
          obtain ⟨t0, t1⟩ := hX.c2
          have tl := hX.lt
          have hl8 : l.length ≤ 8 := by have := hRt.out.few; rwa [List.length_map] at this
          obtain ⟨i0, hi0, hz0, hz1, hz2⟩ := info_parts info_typ
          have hsrc := fun W (hW : Below w5.heap.size w5 W) => Rd.src (P := Try.prog) Try.underlying22 (h.up hW).rows (tAcells_one l)
          go_upto_region 10 with (fail)
          go_upto_region 11 with (at_builtin; refine wpList_append_src _ rfl (.tmp 51) (.tmp 53) 22 22 rfl w5.heap.size 46 i0 (.agg #[.string .empty, .slice none 0 0]) 2 40 Try.underlying22 hi0 hz0 hz1 hz2 rfl (by decide) (.slice none 0 0) 0 [] rfl (World.ownsRow_nil _ _ _ _) _ l.length (l.flatMap TypA.cells) rfl (hsrc _ (Below.refl _ _)) (by simp only [maxLen]; omega) (by omega) (Nat.le_refl _) ?_; intro v1 w6 hown1 hg1 hat1; rw [Nat.zero_add, List.nil_append] at hown1; obtain ⟨A6, c6, rfl, _⟩ := Rd.own hown1; have hb6 : Below w5.heap.size w5 w6 := below_of_own (v := .slice none 0 0) (Below.refl _ _) hg1 (World.ownsRow_nil _ _ _ _ : w5.ownsRow w5.heap.size 46 2 (.slice none 0 0) 0 []) (Nat.le_refl _) (Nat.le_refl _))
          have hX6 := hX.below hb6
          clear hg1 hat1 hsrc x0 xl t0 t1 tl
          obtain ⟨t0, t1⟩ := hX6.c2
          have tl := hX6.lt
          have h56 := hb6.size
          go_wp2_with (at_builtin; refine wpList_append_src _ rfl (.tmp 55) (.tmp 57) 22 22 rfl w5.heap.size 46 i0 (.agg #[.string .empty, .slice none 0 0]) 2 40 Try.underlying22 hi0 hz0 hz1 hz2 rfl (by decide) _ l.length (l.flatMap TypA.cells) rfl (World.ownsRow.alloc hown1 _) _ 1 [.string t.name, .slice t.A t.rels.length t.c] rfl (Src.ofSlice _ Try.underlying22 _ 1 1 _ rfl (cells_new2 _ _ _ _) (dtcell_one _ _ _ _)) (by simp only [maxLen]; omega) (by omega) (by have := h56; simp; omega) ?_; intro v1 w7 hown2 hg2 hat2; obtain ⟨A7, c7, rfl, _⟩ := Rd.own hown2)
          have hb7 : Below w5.heap.size w5 w7 := below_of_own (v := .slice A6 l.length c6) (hb6.alloc h56 (.cells #[.string t.name, .slice t.A t.rels.length t.c] 46)) hg2 (World.ownsRow.alloc hown1 _) (size_alloc h56) (Nat.le_refl _)
          replace hb := bthen hb hb.size hb7
          replace h := h.up hb7
          replace d0 := d0.below hb7
          replace hkt2 := hkt2.up hb7
          replace hX := hX.below hb7
          clear hb7 hb6 hX6 hg2 hat2 hown1 t0 t1 tl h56
          have hN : SchA w7 140737488351232 A7 c7 (l ++ [t]) := built9 h hkt2 (own_rd9 hown2) (by omega)
          have kC := check_any hN (Nat.le_refl _)
          rw [List.length_append, List.length_singleton, List.map_append, List.map_singleton, hRt.out.twice (List.mem_map_of_mem (List.mem_of_getElem? ht)), List.length_map] at kC
          clear hown2 hN
          by_cases h9 : 8 < l.length + 1
          · have h9i : (8 : Int) < (l.length : Int) + 1 := by omega
            rw [if_pos h9] at kC
            refine kC.mono ?_
            rintro e w8 ⟨rfl, hb8⟩
            go_wp2
            go_ret
            exact ⟨rfl, bthen hb hb.size hb8⟩
          · have h9i : ¬ (8 : Int) < (l.length : Int) + 1 := by omega
            rw [if_neg h9] at kC
            change Calls _ _ _ _ (fun e w' => e = .returned (.tuple #[.int .i64 32, .string t.name]) ∧ Below w7.heap.size w7 w') at kC
            refine kC.mono ?_
            rintro e w8 ⟨rfl, hb8⟩
            replace hb := bthen hb hb.size hb8
            replace h := h.up hb8
            replace d0 := d0.below hb8
            replace hX := hX.below hb8
            clear hb8 kC hkt2
            have x0 := d0.c1
            have xl := d0.lt
            obtain ⟨t0, t1⟩ := hX.c2
            have tl := hX.lt
            have hsm : l.length < 8 := by omega
            go_wp2_with fail
            go_loopw [15] (fun vi wx => ∃ i : Nat, vi = .int .i64 i ∧ i ≤ l.length ∧ (∀ t ∈ l.take i, decide (t.name = s2) = false) ∧ Below w8.heap.size w8 wx) (fun vi _ => l.length - (intOf vi).toNat)
            case atStart => exact ⟨0, rfl, Nat.zero_le _, fun t ht => (by simp at ht), Below.refl _ _⟩
            case round =>
              clear x0 xl t0 t1 tl
              obtain ⟨i, rfl, hi, hn, hbx⟩ := hrel
              have hbw := bthen hb hb.size hbx
              replace d0 := d0.below hbx
              replace h := h.up hbx
              have x0 := d0.c1
              have xl := d0.lt
              by_cases hil : i < l.length
              · have hdi : (i : Int) < (l.length : Nat) := by omega
                obtain ⟨u, hu⟩ : ∃ u, l[i]? = some u := ⟨l[i], List.getElem?_eq_getElem hil⟩
                obtain ⟨g2, o2, eA, u0, u1, hku⟩ := h.get hu
                cases eA
                have lg := World.block_lt_of_cell? _ _ u0
                dsimp only at lg
                have hq := list_dec u.name s2
                cases hd : decide (u.name = s2) with
                | false =>
                  rw [hd] at hq
                  go_wp2
                  refine ⟨⟨i + 1, by go_num, by omega, take_all hu hn hd, hbx⟩, ?_⟩
                  simp [intOf]; omega
                | true =>
                  rw [hd] at hq
                  go_wp2
                  go_ret
                  exact ⟨rfl, hbw⟩
              · have hdi : ¬ ((i : Int) < (l.length : Nat)) := by omega
                obtain rfl : i = l.length := by omega
                rw [List.take_length] at hn
                clear hX
                obtain ⟨i0, hi0, hz0, hz1, hz2⟩ := info_parts info_typ
                have hsrc := fun W (hW : Below wr.heap.size wr W) => Rd.src (P := Try.prog) Try.underlying22 (h.up hW).rows (tAcells_one l)
                go_upto_region 22 with (fail)
                generalize wr = w9 at *
                go_upto_region 24 with (at_builtin; refine wpList_append_src _ rfl (.tmp 97) (.tmp 99) 22 22 rfl w9.heap.size 46 i0 (.agg #[.string .empty, .slice none 0 0]) 2 40 Try.underlying22 hi0 hz0 hz1 hz2 rfl (by decide) (.slice none 0 0) 0 [] rfl (World.ownsRow_nil _ _ _ _) _ l.length (l.flatMap TypA.cells) rfl (hsrc _ (Below.refl _ _)) (by simp only [maxLen]; omega) (by omega) (Nat.le_refl _) ?_; intro v1 w6 hown1 hg1 hat1; rw [Nat.zero_add, List.nil_append] at hown1; obtain ⟨A6, c6, rfl, _⟩ := Rd.own hown1; have hb6 : Below w9.heap.size w9 w6 := below_of_own (v := .slice none 0 0) (Below.refl _ _) hg1 (World.ownsRow_nil _ _ _ _ : w9.ownsRow w9.heap.size 46 2 (.slice none 0 0) 0 []) (Nat.le_refl _) (Nat.le_refl _))
                clear hg1 hat1 hsrc x0 xl
                have h56 := hb6.size
                go_wp2_with (at_builtin; refine wpList_append_src _ rfl (.tmp 101) (.tmp 104) 22 22 rfl w9.heap.size 46 i0 (.agg #[.string .empty, .slice none 0 0]) 2 40 Try.underlying22 hi0 hz0 hz1 hz2 rfl (by decide) _ l.length (l.flatMap TypA.cells) rfl (World.ownsRow.alloc hown1 _) _ 1 [.string s2, .slice none 0 0] rfl (Src.ofSlice _ Try.underlying22 _ 1 1 _ rfl (cells_new2 _ _ _ _) (dtcell_one _ _ _ _)) (by simp only [maxLen]; omega) (by omega) (by have := h56; simp; omega) ?_; intro v1 w7 hown2 hg2 hat2; obtain ⟨A7, c7, rfl, _⟩ := Rd.own hown2)
                have hb7 : Below w9.heap.size w9 w7 := below_of_own (v := .slice A6 l.length c6) (hb6.alloc h56 (.cells #[.string s2, .slice none 0 0] 46)) hg2 (World.ownsRow.alloc hown1 _) (size_alloc h56) (Nat.le_refl _)
                replace hbw := bthen hbw hbw.size hb7
                replace h := h.up hb7
                clear hb7 hb6 hg2 hat2 hown1 h56
                have hkn : (TypA.mk s2 none 0 []).ok w7 140737488351232 := ⟨f2, Rd.none_ _ _ _, Nat.zero_le _, fun _ h => by cases h⟩
                have hN : SchA w7 140737488351232 A7 c7 (l ++ [TypA.mk s2 none 0 []]) := built9 h hkn (own_rd9 hown2) (by omega)
                have kC := check_any hN (Nat.le_refl _)
                have hok := (checkE_ok _).2 ((checkE_ok _).1.2 (hRt.out.more (n := s2) (fun t ht => by obtain ⟨a, ha, rfl⟩ := List.mem_map.1 ht; exact of_decide_eq_false (hn a ha)) (by rw [List.length_map]; exact hsm)))
                rw [List.length_append, List.length_singleton, List.map_append, List.map_singleton, show (TypA.mk s2 none 0 []).says = ⟨s2, []⟩ from rfl, hok] at kC
                clear hown2 hN hok
                change Calls _ _ _ _ (fun e w' => e = .returned (.tuple #[.int .i64 0, .string ⟨#[]⟩]) ∧ Below w7.heap.size w7 w') at kC
                go_wp2_with fail
                refine kC.mono ?_
                rintro e w8 ⟨rfl, hb8⟩
                go_wp2
                go_ret
                exact ⟨rfl, bthen hbw hbw.size hb8⟩
    · have hki : ¬ (((checkE (l.map TypA.says)).1 : Nat) : Int) = 0 := by omega
      go_wp2
      go_ret
      exact ⟨rfl, hb⟩
end Go.Proofs.Ytpiihfffhjmabaa
