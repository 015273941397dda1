/- CheckTells walked. Conditions: none. -/
import Derived.BigQuiet
import Derived.Deep.QuietTactic
import Derived.Deep.Cut
import Derived.IntWalk
import Derived.Test.YtpiihfffhjmabaaAwake9
import Derived.Test.YtpiihfffhjmabaaFew9
import Derived.Test.YtpiihfffhjmabaaRefC9
import Derived.Test.YtpiihfffhjmabaaSame9
namespace Go.Proofs.Ytpiihfffhjmabaa
open Go.RowKit

theorem find_n1 {l : List TypA} {ty : ByteArray} (h : l.find? (fun t : TypA => decide (t.name = ty)) = none) (re : ByteArray) : findI (l.map TypA.says) ty re = none := by
  rw [findI_says, show firstA l ty = none from h]
  rfl
theorem find_n2 {l : List TypA} {ty : ByteArray} {t : TypA} (h : l.find? (fun t : TypA => decide (t.name = ty)) = some t) {re : ByteArray} (h2 : t.rels.find? (fun r : RelA => decide (r.name = re)) = none) : findI (l.map TypA.says) ty re = none := by
  rw [findI_says, show firstA l ty = some t from h]
  show (firstRA t re).map _ = none
  rw [show firstRA t re = none from h2]
  rfl
theorem find_s {l : List TypA} {ty : ByteArray} {t : TypA} (h : l.find? (fun t : TypA => decide (t.name = ty)) = some t) {re : ByteArray} {x : RelA} (h2 : t.rels.find? (fun r : RelA => decide (r.name = re)) = some x) : findI (l.map TypA.says) ty re = some x.says := by
  rw [findI_says, show firstA l ty = some t from h]
  show (firstRA t re).map _ = _
  rw [show firstRA t re = some x from h2]
  rfl
theorem says_none {r : RelA} (h : r.says = noRI) : r.name = ⟨#[]⟩ ∧ r.subs = [] ∧ r.ops = [] := by
  have h2 : RelI.mk r.name r.view r.edit r.check r.subs r.ops = RelI.mk ⟨#[]⟩ ⟨#[]⟩ ⟨#[]⟩ ⟨#[]⟩ [] [] := h
  injection h2 with e1 e2 e3 e4 e5 e6
  exact ⟨e1, e5, e6⟩
theorem cells_new2b (w : World) (o : Obj) (a b : Value) (t : TypeId) : ∀ j u, [a, b][j]? = some u → ((w.alloc o).alloc (.cells #[a, b] t)).cell? ((⟨w.heap.size + 1, 0, none⟩ : Addr).add j) = some u := by
  have k := cells_new2 (w.alloc o) a b t
  rw [show (w.alloc o).heap.size = w.heap.size + 1 by simp] at k
  exact k
/-- A type with one relation and no name. -/
def oneA (r : RelA) (b : Nat) : TypA := ⟨⟨#[]⟩, some ⟨b, 0, none⟩, 1, [r]⟩
theorem oneA_rd {w : World} {b : Nat} {r : RelA} {t : TypeId} (h : Bk w b #[.string r.name, .string r.view, .string r.edit, .string r.check, .slice r.As r.subs.length r.cs, .slice r.Ao r.ops.length r.co] t) : Rd w w.heap.size 6 (some ⟨b, 0, none⟩) 1 1 (([r] : List RelA).flatMap RelA.cells) := by
  refine ⟨rfl, Nat.le_refl _, by simp [maxLen], fun e => (by cases e), fun _ => ⟨b, 0, rfl, h.lt, fun j u hj => ?_⟩⟩
  rw [Nat.zero_add, h.cell, ← hj, ← Array.getElem?_toList]
  rfl
theorem oneA_sch {w : World} {R c b : Nat} {A : Option Addr} {r : RelA} {t : TypeId} (h : Bk w b #[.string r.name, .string r.view, .string r.edit, .string r.check, .slice r.As r.subs.length r.cs, .slice r.Ao r.ops.length r.co] t) (hr : r.ok w R) (hR : 112 ≤ R)
    (hw : Rd w w.heap.size 2 A 1 c [.string ⟨#[]⟩, .slice (some ⟨b, 0, none⟩) 1 1]) : SchA w R A c [oneA r b] := by
  refine ⟨hw, by show 1 * 40 ≤ R; omega, fun a ha => ?_⟩
  obtain rfl := List.mem_singleton.1 ha
  refine ⟨Nat.zero_le _, oneA_rd h, by show 1 * 112 ≤ R; omega, fun x hx => ?_⟩
  obtain rfl := List.mem_singleton.1 (show x ∈ [r] from hx)
  exact hr
set_option maxRecDepth 100000 in
set_option maxHeartbeats 2000000 in
theorem checkTells_walk (A : Option Addr) (c : Nat) (l : List TypA) (ty re : ByteArray) (w : World) (h : SchA w 140737488351232 A c l) :
    Calls Try.prog 3 #[.agg #[.slice A l.length c], .string ty, .string re] w fun e w' => e = .returned (.bool true) ∧ Below w.heap.size w w' := by
  have hb := bnew w (.cells #[.slice A l.length c] 24)
  have d0 := Bk.new w #[.slice A l.length c] 24
  replace h := h.up hb
  go_enter Try.func3, Try.ntmps3
  go_upto_region 1 with (fail)
  generalize w.alloc (.cells #[.slice A l.length c] 24) = w1 at *
  go_wp2_with fail
  refine (awake9_any w1).mono ?_
  rintro e w2 ⟨rfl, hb1⟩
  replace hb := bthen hb hb.size hb1
  replace h := h.up hb1
  replace d0 := d0.below hb1
  clear hb1
  have x0 := d0.c1
  have xl := d0.lt
  go_wp2_with fail
  refine (few9_any h).mono ?_
  rintro e w3 ⟨⟨bf, rfl⟩, hb1⟩
  replace hb := bthen hb hb.size hb1
  replace h := h.up hb1
  replace d0 := d0.below hb1
  clear hb1 x0 xl
  have x0 := d0.c1
  have xl := d0.lt
  cases bf with
  | false =>
    go_wp2
    go_ret
    exact ⟨rfl, hb⟩
  | true =>
    go_wp2_with fail
    refine (of_own9 h).mono ?_
    rintro e w4 ⟨⟨v9, rfl, hv9⟩, hb1⟩
    replace hb := bthen hb hb.size hb1
    obtain ⟨A9, c9, l9, rfl, e9, h9⟩ := hv9.sch h
    replace h := h.up hb1
    replace d0 := d0.below hb1
    clear hb1 x0 xl hv9
    have x0 := d0.c1
    have xl := d0.lt
    replace e9 := Lib.hid e9
    go_wp2_with fail
    refine (check_any h (Nat.le_refl _)).mono ?_
    rintro e w5 ⟨rfl, hb1⟩
    replace hb := bthen hb hb.size hb1
    replace h := h.up hb1
    replace h9 := h9.up hb1
    replace d0 := d0.below hb1
    clear hb1 x0 xl
    have kC := check9_any h9 (Nat.le_refl _)
    rw [e9.out] at kC
    generalize checkE (l.map TypA.says) = E at *
    obtain ⟨E1, E2⟩ := E
    dsimp only at kC ⊢
    go_wp2_with fail
    refine kC.mono ?_
    rintro e w6 ⟨rfl, hb1⟩
    replace hb := bthen hb hb.size hb1
    replace h := h.up hb1
    replace h9 := h9.up hb1
    replace d0 := d0.below hb1
    clear hb1 kC
    have x0 := d0.c1
    have xl := d0.lt
    go_wp2_with fail
    refine (find_any h (Nat.le_refl _) ty re).mono ?_
    rintro e w7 ⟨⟨r, rfl, hr, hsy⟩, hb1⟩
    replace hb := bthen hb hb.size hb1
    replace h9 := h9.up hb1
    clear hb1 x0 xl d0 h
    rw [← e9.out] at hsy ⊢
    obtain ⟨F, hF⟩ : ∃ F, findI (l9.map TypA.says) ty re = F := ⟨_, rfl⟩
    rw [hF] at hsy ⊢
    replace hF := Lib.hid hF
    replace hsy := Lib.hid hsy
    clear e9
    obtain ⟨rAs, hrAs⟩ : ∃ B, r.As = B := ⟨_, rfl⟩
    obtain ⟨rAo, hrAo⟩ : ∃ B, r.Ao = B := ⟨_, rfl⟩
    rw [hrAs, hrAo]
    go_upto_region 11 with (fail)
    have hbs := bnew w7 (.cells #[.string r.name, .string r.view, .string r.edit, .string r.check, .slice rAs r.subs.length r.cs, .slice rAo r.ops.length r.co] 36)
    have dR := Bk.new w7 #[.string r.name, .string r.view, .string r.edit, .string r.check, .slice rAs r.subs.length r.cs, .slice rAo r.ops.length r.co] 36
    replace hb := bthen hb hb.size hbs
    replace h9 := h9.up hbs
    replace hr := hr.up hbs
    clear hbs
    generalize w7.alloc (.cells #[.string r.name, .string r.view, .string r.edit, .string r.check, .slice rAs r.subs.length r.cs, .slice rAo r.ops.length r.co] 36) = w8 at *
    generalize w7.heap.size = rg at *
    go_wp2_with fail
    refine (type9_any h9 ty).mono ?_
    rintro e w9 ⟨⟨z, rfl, hz⟩, hb1⟩
    replace hb := bthen hb hb.size hb1
    replace h9 := h9.up hb1
    replace hr := hr.up hb1
    replace dR := dR.below hb1
    clear hb1
    rcases hz with ⟨rfl, hf⟩ | ⟨i, t, rfl, ht, hf, _⟩
    · obtain rfl : F = none := by rw [← hF.out]; exact find_n1 hf re
      clear hF hf h9
      obtain ⟨en, es, eo⟩ := says_none hsy.out
      clear hsy
      obtain ⟨r0, r1, r2, r3, r4, r5⟩ := dR.c6
      have rl := dR.lt
      rw [en] at r0
      rw [es] at r4
      rw [eo] at r5
      have hq : (⟨#[]⟩ : ByteArray).toList.isEmpty = true := by decide +kernel
      go_upto_region 18 with (fail)
      generalize w9 = wq at *
      obtain ⟨i0, hi0, hz0, hz1, hz2⟩ := info_parts info_typ
      go_upto_region 19 with (at_builtin; go_loud (refine wpList_append_src _ rfl (.tmp 71) (.tmp 75) 22 22 rfl wq.heap.size 46 i0 (.agg #[.string .empty, .slice none 0 0]) 2 40 Try.underlying22 hi0 hz0 hz1 hz2 rfl (by decide) (.slice none 0 0) 0 [] rfl (World.ownsRow_nil _ _ _ _) _ 1 [.string ⟨#[]⟩, .slice (some ⟨wq.heap.size, 0, none⟩) 1 1] rfl (Src.ofSlice _ Try.underlying22 _ 1 1 _ rfl (cells_new2b _ _ _ _ _) (dtcell_one _ _ _ _)) (by simp only [maxLen]; omega) (by omega) (size_alloc (size_alloc (Nat.le_refl _))) ?_; intro v1 w6 hown1 hg1 hat1; rw [Nat.zero_add, List.nil_append] at hown1; obtain ⟨A6, c6, rfl, _⟩ := Rd.own hown1))
      have hb6 : Below wq.heap.size wq w6 := below_of_own (e := 0) (size := 2) (v := .slice none 0 0) ((bnew wq _).alloc (size_alloc (Nat.le_refl _)) _) hg1 (World.ownsRow_nil _ _ _ _) (size_alloc (size_alloc (Nat.le_refl _))) (Nat.le_refl _)
      rw [en, es, eo] at dR
      have dR6 := dR.below hb6
      clear r0 r1 r2 r3 r4 r5 rl hown1 hg1 hat1 dR hr
      obtain ⟨r0, r1, r2, r3, r4, r5⟩ := dR6.c6
      have rl := dR6.lt
      go_wp2
      go_ret
      exact ⟨rfl, bthen hb hb.size hb6⟩
    · have hi : (0 : Int) ≤ (i : Nat) := by omega
      have hil : i < l9.length := (List.getElem?_eq_some_iff.1 ht).1
      have hdi : (i : Int) < (l9.length : Nat) := by omega
      obtain ⟨g, o, rfl, g0, g1, hk⟩ := h9.get ht
      have lg := World.block_lt_of_cell? _ _ g0
      dsimp only at lg
      have k2 := rel9_any hk re
      obtain ⟨tA, htA⟩ : ∃ B, t.A = B := ⟨_, rfl⟩
      rw [htA] at g1 k2
      go_wp2_with fail
      refine k2.mono ?_
      rintro e wa ⟨⟨z, rfl, hz⟩, hb1⟩
      replace hb := bthen hb hb.size hb1
      replace h9 := h9.up hb1
      replace hr := hr.up hb1
      replace dR := dR.below hb1
      replace hk := hk.up hb1
      replace g0 := cell_under g0 hb1
      replace g1 := cell_under g1 hb1
      clear hb1 k2 lg
      rcases hz with ⟨rfl, hf2⟩ | ⟨j, x, rfl, hx, hf2, _⟩
      · obtain rfl : F = none := by rw [← hF.out]; exact find_n2 hf hf2
        clear hF hf hf2 h9 hk g0 g1
        obtain ⟨en, es, eo⟩ := says_none hsy.out
        clear hsy
        obtain ⟨r0, r1, r2, r3, r4, r5⟩ := dR.c6
        have rl := dR.lt
        rw [en] at r0
        rw [es] at r4
        rw [eo] at r5
        have hq : (⟨#[]⟩ : ByteArray).toList.isEmpty = true := by decide +kernel
        go_upto_region 18 with (fail)
        generalize wa = wq at *
        obtain ⟨i0, hi0, hz0, hz1, hz2⟩ := info_parts info_typ
        go_upto_region 19 with (at_builtin; go_loud (refine wpList_append_src _ rfl (.tmp 71) (.tmp 75) 22 22 rfl wq.heap.size 46 i0 (.agg #[.string .empty, .slice none 0 0]) 2 40 Try.underlying22 hi0 hz0 hz1 hz2 rfl (by decide) (.slice none 0 0) 0 [] rfl (World.ownsRow_nil _ _ _ _) _ 1 [.string ⟨#[]⟩, .slice (some ⟨wq.heap.size, 0, none⟩) 1 1] rfl (Src.ofSlice _ Try.underlying22 _ 1 1 _ rfl (cells_new2b _ _ _ _ _) (dtcell_one _ _ _ _)) (by simp only [maxLen]; omega) (by omega) (size_alloc (size_alloc (Nat.le_refl _))) ?_; intro v1 w6 hown1 hg1 hat1; rw [Nat.zero_add, List.nil_append] at hown1; obtain ⟨A6, c6, rfl, _⟩ := Rd.own hown1))
        have hb6 : Below wq.heap.size wq w6 := below_of_own (e := 0) (size := 2) (v := .slice none 0 0) ((bnew wq _).alloc (size_alloc (Nat.le_refl _)) _) hg1 (World.ownsRow_nil _ _ _ _) (size_alloc (size_alloc (Nat.le_refl _))) (Nat.le_refl _)
        rw [en, es, eo] at dR
        have dR6 := dR.below hb6
        clear r0 r1 r2 r3 r4 r5 rl hown1 hg1 hat1 dR hr
        obtain ⟨r0, r1, r2, r3, r4, r5⟩ := dR6.c6
        have rl := dR6.lt
        go_wp2
        go_ret
        exact ⟨rfl, bthen hb hb.size hb6⟩
      · obtain rfl : F = some x.says := by rw [← hF.out]; exact find_s hf hf2
        replace hsy : Hid (r.says = x.says) := hsy
        clear hF hf hf2 h9
        have hj : (0 : Int) ≤ (j : Nat) := by omega
        have hjl : j < t.rels.length := (List.getElem?_eq_some_iff.1 hx).1
        have hdj : (j : Int) < (t.rels.length : Nat) := by omega
        obtain ⟨r0, r1, r2, r3, r4, r5⟩ := dR.c6
        have rl := dR.lt
        go_upto_region 18 with (fail)
        generalize wa = wq at *
        obtain ⟨i0, hi0, hz0, hz1, hz2⟩ := info_parts info_typ
        go_upto_region 19 with (at_builtin; go_loud (refine wpList_append_src _ rfl (.tmp 71) (.tmp 75) 22 22 rfl wq.heap.size 46 i0 (.agg #[.string .empty, .slice none 0 0]) 2 40 Try.underlying22 hi0 hz0 hz1 hz2 rfl (by decide) (.slice none 0 0) 0 [] rfl (World.ownsRow_nil _ _ _ _) _ 1 [.string ⟨#[]⟩, .slice (some ⟨wq.heap.size, 0, none⟩) 1 1] rfl (Src.ofSlice _ Try.underlying22 _ 1 1 _ rfl (cells_new2b _ _ _ _ _) (dtcell_one _ _ _ _)) (by simp only [maxLen]; omega) (by omega) (size_alloc (size_alloc (Nat.le_refl _))) ?_; intro v1 w6 hown1 hg1 hat1; rw [Nat.zero_add, List.nil_append] at hown1; obtain ⟨A6, c6, rfl, _⟩ := Rd.own hown1))
        have hb6 : Below wq.heap.size wq w6 := below_of_own (e := 0) (size := 2) (v := .slice none 0 0) ((bnew wq _).alloc (size_alloc (Nat.le_refl _)) _) hg1 (World.ownsRow_nil _ _ _ _) (size_alloc (size_alloc (Nat.le_refl _))) (Nat.le_refl _)
        have hO := (Bk.new wq #[.string r.name, .string r.view, .string r.edit, .string r.check, .slice rAs r.subs.length r.cs, .slice rAo r.ops.length r.co] 36).alloc (.cells #[.string ⟨#[]⟩, .slice (some ⟨wq.heap.size, 0, none⟩) 1 1] 46)
        have dG : Bk w6 wq.heap.size #[.string r.name, .string r.view, .string r.edit, .string r.check, .slice rAs r.subs.length r.cs, .slice rAo r.ops.length r.co] 36 := (hg1.block wq.heap.size (by simp; omega) (fun e => by simp [Value.ownBlock] at e)).trans hO
        have hGot : SchA w6 140737488351232 A6 c6 [oneA r wq.heap.size] := oneA_sch (by rw [hrAs, hrAo]; exact dG) (hr.up hb6) (by decide) (own_rd9 hown1)
        replace hb := bthen hb hb.size hb6
        replace hk := hk.up hb6
        replace g0 := cell_under g0 hb6
        replace g1 := cell_under g1 hb6
        clear hO dG hown1 hg1 hat1 hb6 hr dR r0 r1 r2 r3 r4 r5 rl hi0 hz0 hz1 hz2 hrAs hrAo
        obtain ⟨gx, ox, eA, p0, p1, p2, p3, p4, p5, hkx⟩ := hk.get hx
        rw [htA] at eA
        subst eA
        obtain ⟨xAs, hxAs⟩ : ∃ B, x.As = B := ⟨_, rfl⟩
        obtain ⟨xAo, hxAo⟩ : ∃ B, x.Ao = B := ⟨_, rfl⟩
        rw [hxAs] at p4
        rw [hxAo] at p5
        have lg := World.block_lt_of_cell? _ _ g0
        have lp := World.block_lt_of_cell? _ _ p0
        dsimp only at lg lp
        obtain ⟨i1, hi1, hy0, hy1, hy2⟩ := info_parts dinfo_typ
        go_upto_region 23 with (at_builtin; go_loud (refine wpList_append_src _ rfl (.tmp 92) (.tmp 103) 27 27 rfl w6.heap.size 43 i1 (.agg #[.string .empty, .slice none 0 0]) 2 40 Try.underlying27 hi1 hy0 hy1 hy2 rfl (by decide) (.slice none 0 0) 0 [] rfl (World.ownsRow_nil _ _ _ _) _ 1 [.string ⟨#[]⟩, .slice (some ⟨w6.heap.size, 0, none⟩) 1 1] rfl (Src.ofSlice _ Try.underlying27 _ 1 1 _ rfl (cells_new2b _ _ _ _ _) (dtcell_one _ _ _ _)) (by simp only [maxLen]; omega) (by omega) (size_alloc (size_alloc (Nat.le_refl _))) ?_; intro v1 wb hown2 hg2 hat2; rw [Nat.zero_add, List.nil_append] at hown2; obtain ⟨A7, c7, rfl, _⟩ := Rd.own hown2))
        have hb7 : Below w6.heap.size w6 wb := below_of_own (e := 0) (size := 2) (v := .slice none 0 0) ((bnew w6 _).alloc (size_alloc (Nat.le_refl _)) _) hg2 (World.ownsRow_nil _ _ _ _) (size_alloc (size_alloc (Nat.le_refl _))) (Nat.le_refl _)
        have hO := (Bk.new w6 #[.string x.name, .string x.view, .string x.edit, .string x.check, .slice xAs x.subs.length x.cs, .slice xAo x.ops.length x.co] 50).alloc (.cells #[.string ⟨#[]⟩, .slice (some ⟨w6.heap.size, 0, none⟩) 1 1] 43)
        have dG : Bk wb w6.heap.size #[.string x.name, .string x.view, .string x.edit, .string x.check, .slice xAs x.subs.length x.cs, .slice xAo x.ops.length x.co] 50 := (hg2.block w6.heap.size (by simp; omega) (fun e => by simp [Value.ownBlock] at e)).trans hO
        have hWant : SchA wb 140737488351232 A7 c7 [oneA x w6.heap.size] := oneA_sch (by rw [hxAs, hxAo]; exact dG) (hkx.up hb7) (by decide) (own_rd9 hown2)
        replace hb := bthen hb hb.size hb7
        replace hGot := hGot.up hb7
        clear hO dG hown2 hg2 hat2 hb7 hkx p0 p1 p2 p3 p4 p5 g0 g1 hi1 hy0 hy1 hy2 hxAs hxAo hk lg lp
        have kO := of_own9 hGot
        rw [List.length_singleton] at kO
        go_wp2_with fail
        refine kO.mono ?_
        rintro e wd ⟨⟨v8, rfl, hv8⟩, hb8⟩
        obtain ⟨A8, c8, l8, rfl, e8, h8⟩ := hv8.sch hGot
        replace hb := bthen hb hb.size hb8
        replace hWant := hWant.up hb8
        have e8' : l8.map TypA.says = [oneA x w6.heap.size].map TypA.says := by
          rw [e8]
          show [TypI.mk ⟨#[]⟩ [r.says]] = [TypI.mk ⟨#[]⟩ [x.says]]
          rw [hsy.out]
        clear e8 hsy hv8 hb8 kO hGot
        have kS := same9_any h8 hWant e8'
        rw [List.length_singleton] at kS
        clear e8'
        go_wp2_with fail
        refine kS.mono ?_
        rintro e we ⟨rfl, hb9⟩
        go_wp2
        go_ret
        exact ⟨rfl, bthen hb hb.size hb9⟩
end Go.Proofs.Ytpiihfffhjmabaa
