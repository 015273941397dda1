/- CheckFinds walked. Conditions: none. -/
import Derived.BigQuiet
import Derived.Deep.QuietTactic
import Derived.Deep.Cut
import Derived.Deep.DeepCutAuto
import Derived.Test.YtpiihfffhjmabaaAwake9
import Derived.Test.YtpiihfffhjmabaaFew9
import Derived.Test.YtpiihfffhjmabaaChkL
namespace Go.Proofs.Ytpiihfffhjmabaa
open Go.RowKit

/-- Whether this relation is the one that is asked for; whether one of a type's is; whether one of all is. -/
def isIt (ty re : ByteArray) (t : TypA) (r : RelA) : Bool := decide (t.name = ty) && decide (r.name = re)
def hasIt (ty re : ByteArray) (t : TypA) : Bool := t.rels.any (isIt ty re t)
theorem any_snoc {α : Type} (p : α → Bool) {l : List α} {i : Nat} {x : α} (h : l[i]? = some x) : (l.take (i + 1)).any p = ((l.take i).any p || p x) := by
  rw [take_snoc h, List.any_append, List.any_cons, List.any_nil, Bool.or_false]
theorem there_says {l : List TypA} (h : Right (l.map TypA.says)) (ty re : ByteArray) : (findI (l.map TypA.says) ty re).isSome = l.any (hasIt ty re) := by
  have k := h.there ty re
  unfold hasI at k
  rw [Bool.eq_iff_iff, k]
  constructor
  · rintro ⟨t, ht, r, hr, e1, e2⟩
    obtain ⟨t', ht', rfl⟩ := List.mem_map.1 ht
    obtain ⟨r', hr', rfl⟩ := List.mem_map.1 hr
    refine List.any_eq_true.2 ⟨t', ht', List.any_eq_true.2 ⟨r', hr', ?_⟩⟩
    unfold isIt
    rw [decide_eq_true (show t'.name = ty from e1), decide_eq_true (show r'.name = re from e2)]
    rfl
  · intro e
    obtain ⟨t, ht, e⟩ := List.any_eq_true.1 e
    obtain ⟨r, hr, e⟩ := List.any_eq_true.1 e
    unfold isIt at e
    rw [Bool.and_eq_true, decide_eq_true_eq, decide_eq_true_eq] at e
    exact ⟨t.says, List.mem_map_of_mem ht, r.says, List.mem_map_of_mem hr, e.1, e.2⟩
theorem found_says {l : List TypA} (h : Right (l.map TypA.says)) {t : TypA} (ht : t ∈ l) {r : RelA} (hr : r ∈ t.rels) : findI (l.map TypA.says) t.name r.name = some r.says := by
  have h1 := h.find (List.mem_map_of_mem ht) r.name
  have h2 := (h.rels _ (List.mem_map_of_mem ht)).rel (r := r.says) (List.mem_map_of_mem hr)
  exact h1.trans h2
set_option maxRecDepth 100000 in
set_option maxHeartbeats 2000000 in
theorem finds_any {w : World} {A : Option Addr} {c : Nat} {l : List TypA} (h : SchA w 140737488351232 A c l) (ty re : ByteArray) :
    Calls Try.prog 7 #[.agg #[.slice A l.length c], .string ty, .string re] w fun e w' => e = .returned (.bool true) ∧ Below w.heap.size w w' := by
  have hll : (l.length : Int) ≤ 9223372036854775807 := by have := h.rows.cap; have := h.rows.capm; simp only [maxLen] at this; omega
  have hb := bnew w (.cells #[.slice A l.length c] 24)
  have d0 := Bk.new w #[.slice A l.length c] 24
  replace h := h.up hb
  go_enter Try.func7, Try.ntmps7
  go_upto_region 1 with (fail)
  generalize w.alloc (.cells #[.slice A l.length c] 24) = w1 at *
  go_wp2_with fail
  refine (awake9_any w1).mono ?_
  rintro e w2 ⟨rfl, hb1⟩
  replace hb := bthen hb hb.size hb1
  replace h := h.up hb1
  replace d0 := d0.below hb1
  clear hb1
  have x0 := d0.c1
  have xl := d0.lt
  go_wp2_with fail
  refine (few9_any h).mono ?_
  rintro e w3 ⟨⟨bf, rfl⟩, hb1⟩
  replace hb := bthen hb hb.size hb1
  replace h := h.up hb1
  replace d0 := d0.below hb1
  clear hb1 x0 xl
  have x0 := d0.c1
  have xl := d0.lt
  go_wp2_with fail
  refine (check_any h (Nat.le_refl _)).mono ?_
  rintro e w4 ⟨rfl, hb1⟩
  replace hb := bthen hb hb.size hb1
  replace h := h.up hb1
  replace d0 := d0.below hb1
  clear hb1 x0 xl
  cases bf with
  | false =>
    go_wp2
    go_ret
    exact ⟨rfl, hb⟩
  | true =>
    by_cases hE : (checkE (l.map TypA.says)).1 = 0
    · have hRt := Lib.hid ((checkE_ok (l.map TypA.says)).1.1 hE)
      generalize checkE (l.map TypA.says) = E at *
      obtain ⟨E1, E2⟩ := E
      obtain rfl : E1 = 0 := hE
      simp only [show ((0 : Nat) : Int) = 0 from rfl]
      have x0 := d0.c1
      have xl := d0.lt
      go_wp2_with fail
      clear x0 xl
      generalize w4 = w5 at *
      go_loopw [11, 12] (fun vt vi wx => ∃ i : Nat, vi = .int .i64 i ∧ i ≤ l.length ∧ vt = .bool ((l.take i).any (hasIt ty re)) ∧ Below w5.heap.size w5 wx) (fun _ vi _ => l.length - (intOf vi).toNat)
      case atStart => exact ⟨0, rfl, Nat.zero_le _, rfl, Below.refl _ _⟩
      case round =>
        obtain ⟨i, rfl, hi, rfl, hbx⟩ := hrel
        have e0 := d0.below hbx
        have x0 := e0.c1
        have xl := e0.lt
        by_cases hil : i < l.length
        · have hdi : (i : Int) < (l.length : Nat) := by omega
          obtain ⟨t, ht⟩ : ∃ t, l[i]? = some t := ⟨l[i], List.getElem?_eq_getElem hil⟩
          obtain ⟨g, o, rfl, g0, g1, hk⟩ := (h.up hbx).get ht
          have lg := World.block_lt_of_cell? _ _ g0
          dsimp only at lg
          have hlr : (t.rels.length : Int) ≤ 9223372036854775807 := by have := hk.rels.cap; have := hk.rels.capm; simp only [maxLen] at this; omega
          obtain ⟨tA, htA⟩ : ∃ tA, t.A = tA := ⟨_, rfl⟩
          rw [htA] at g1
          have hT := Lib.hid (any_snoc (hasIt ty re) ht)
          generalize (l.take i).any (hasIt ty re) = T0 at *
          go_wp2_with fail
          have hw6 := h.up hbx
          have hb6 := bthen hb hb.size hbx
          clear x0 xl lg
          generalize wr = w6 at *
          go_loopw [11, 13] (fun vt vi wx => ∃ k : Nat, vi = .int .i64 k ∧ k ≤ t.rels.length ∧ vt = .bool (T0 || (t.rels.take k).any (isIt ty re t)) ∧ Below w6.heap.size w6 wx) (fun _ vi _ => t.rels.length - (intOf vi).toNat)
          case atStart => exact ⟨0, rfl, Nat.zero_le _, by simp, Below.refl _ _⟩
          case round =>
            obtain ⟨k, rfl, hkl, rfl, hby⟩ := hrel
            have f0 := e0.below hby
            have x0 := f0.c1
            have xl := f0.lt
            have p0 := cell_under g0 hby
            have p1 := cell_under g1 hby
            have pl := World.block_lt_of_cell? _ _ p0
            dsimp only at pl
            by_cases hkk : k < t.rels.length
            · have hdk : (k : Int) < (t.rels.length : Nat) := by omega
              obtain ⟨q, hq⟩ : ∃ q, t.rels[k]? = some q := ⟨t.rels[k], List.getElem?_eq_getElem hkk⟩
              obtain ⟨gr, o', eA, r0, r1, r2, r3, r4, r5, hkr⟩ := (hk.up hby).get hq
              have lgr := World.block_lt_of_cell? _ _ r0
              dsimp only at lgr
              rw [htA] at eA
              subst eA
              have hf := Lib.hid (found_says hRt.out (List.mem_of_getElem? ht) (List.mem_of_getElem? hq))
              have hU := Lib.hid (any_snoc (isIt ty re t) hq)
              generalize (t.rels.take k).any (isIt ty re t) = U0 at *
              go_upto_region 16 with (fail)
              have hbs := bnew wr (.cells #[.string q.name, .string q.view, .string q.edit, .string q.check, .slice q.As q.subs.length q.cs, .slice q.Ao q.ops.length q.co] 36)
              have dR := Bk.new wr #[.string q.name, .string q.view, .string q.edit, .string q.check, .slice q.As q.subs.length q.cs, .slice q.Ao q.ops.length q.co] 36
              have hbq := bthen hby hby.size hbs
              have hsq := hw6.up hbq
              clear hbs x0 xl p0 p1 pl r0 r1 r2 r3 r4 r5 lgr
              generalize wr.alloc (.cells #[.string q.name, .string q.view, .string q.edit, .string q.check, .slice q.As q.subs.length q.cs, .slice q.Ao q.ops.length q.co] 36) = wq at *
              generalize wr.heap.size = B14 at *
              have x0 := (e0.below hbq).c1
              have xl := (e0.below hbq).lt
              have p00 := g0
              have g0 := cell_under g0 hbq
              have gl := World.block_lt_of_cell? _ _ g0
              dsimp only at gl
              have y0 := dR.c6.1
              have yl := dR.lt
              go_cut [15, 16] from 62 to 74 (fun p b wc => ∃ (pg : Nat) (r : RelA), p = .pointer (some ⟨pg, 0, none⟩) ∧ b = .bool (findI (l.map TypA.says) t.name q.name).isSome ∧ r.says = (findI (l.map TypA.says) t.name q.name).getD noRI ∧ Bk wc pg #[.string r.name, .string r.view, .string r.edit, .string r.check, .slice r.As r.subs.length r.cs, .slice r.Ao r.ops.length r.co] 36 ∧ Below wq.heap.size wq wc)
              case first =>
                have hSc : ∀ W : World, Below wq.heap.size wq W → W.cell? ⟨w.heap.size, 0, none⟩ = some (.slice (some ⟨g, o, none⟩) l.length c) ∧ W.cell? ⟨g, o + i * 2, none⟩ = some (.string t.name) ∧ W.cell? ⟨B14, 0, none⟩ = some (.string q.name) := fun W h => ⟨cell_under x0 h, cell_under g0 h, cell_under y0 h⟩
                have hSch : ∀ W : World, Below wq.heap.size wq W → SchA W _ _ _ _ := fun W h => hsq.up h
                have hS0 : Below wq.heap.size wq wq.drew := (Below.refl _ _).drew
                have Hal : Hid (∀ o : Obj, Below wq.heap.size wq (wq.alloc o).drew) := Lib.hid fun o => ((Below.refl _ _).alloc (Nat.le_refl _) o).drew
                refine wp_region_any (by kernel_rfl) ?_
                change wpAny _ _ _ _ _ _ _ (World.drew _)
                refine wpAny_of_held (S := fun W => Below wq.heap.size wq W) _ _ _ _ ?_
                refine roH_take 0 (some 63) (v := ?v0f) rfl rfl (by kernel_rfl) (by kernel_rfl) (by kernel_rfl) (fun _ _ _ h => h) (by rfl) ?y0f (by assumption) ?r0f
                case y0f => (intro W hS; obtain ⟨s0, s1, s2⟩ := hSc W hS; go_simp; try with_reducible rfl)
                simp only [Act.put, List.setIfInBounds_toArray, List.set_cons_zero, List.set_cons_succ]
                refine roH_take 1 (some 64) (v := ?v1f) rfl rfl (by kernel_rfl) (by kernel_rfl) (by kernel_rfl) (fun _ _ _ h => h) (by rfl) ?y1f (by assumption) ?r1f
                case y1f => (intro W hS; go_simp; try with_reducible rfl)
                simp only [Act.put, List.setIfInBounds_toArray, List.set_cons_zero, List.set_cons_succ]
                refine roH_take 2 (some 65) (v := ?v2f) rfl rfl (by kernel_rfl) (by kernel_rfl) (by kernel_rfl) (fun _ _ _ h => h) (by rfl) ?y2f (by assumption) ?r2f
                case y2f => (intro W hS; obtain ⟨s0, s1, s2⟩ := hSc W hS; go_simp; try with_reducible rfl)
                simp only [Act.put, List.setIfInBounds_toArray, List.set_cons_zero, List.set_cons_succ]
                refine roH_take 3 (some 66) (v := ?v3f) rfl rfl (by kernel_rfl) (by kernel_rfl) (by kernel_rfl) (fun _ _ _ h => h) (by rfl) ?y3f (by assumption) ?r3f
                case y3f => (intro W hS; go_simp; try with_reducible rfl)
                simp only [Act.put, List.setIfInBounds_toArray, List.set_cons_zero, List.set_cons_succ]
                refine roH_take 4 (some 67) (v := ?v4f) rfl rfl (by kernel_rfl) (by kernel_rfl) (by kernel_rfl) (fun _ _ _ h => h) (by rfl) ?y4f (by assumption) ?r4f
                case y4f => (intro W hS; obtain ⟨s0, s1, s2⟩ := hSc W hS; go_simp; try with_reducible rfl)
                simp only [Act.put, List.setIfInBounds_toArray, List.set_cons_zero, List.set_cons_succ]
                refine roH_take 5 (some 68) (v := ?v5f) rfl rfl (by kernel_rfl) (by kernel_rfl) (by kernel_rfl) (fun _ _ _ h => h) (by rfl) ?y5f (by assumption) ?r5f
                case y5f => (intro W hS; go_simp; try with_reducible rfl)
                simp only [Act.put, List.setIfInBounds_toArray, List.set_cons_zero, List.set_cons_succ]
                refine roH_take 6 (some 69) (v := ?v6f) rfl rfl (by kernel_rfl) (by kernel_rfl) (by kernel_rfl) (fun _ _ _ h => h) (by rfl) ?y6f (by assumption) ?r6f
                case y6f => (intro W hS; obtain ⟨s0, s1, s2⟩ := hSc W hS; go_simp; try with_reducible rfl)
                simp only [Act.put, List.setIfInBounds_toArray, List.set_cons_zero, List.set_cons_succ]
                refine roH_take 7 (some 70) (v := ?v7f) rfl rfl (by kernel_rfl) (by kernel_rfl) (by kernel_rfl) (fun _ _ _ h => h) (by rfl) ?y7f (by assumption) ?r7f
                case y7f => (intro W hS; go_simp; try with_reducible rfl)
                simp only [Act.put, List.setIfInBounds_toArray, List.set_cons_zero, List.set_cons_succ]
                refine roH_take 8 (some 71) (v := ?v8f) rfl rfl (by kernel_rfl) (by kernel_rfl) (by kernel_rfl) (fun _ _ _ h => h) (by rfl) ?y8f (by assumption) ?r8f
                case y8f => (intro W hS; obtain ⟨s0, s1, s2⟩ := hSc W hS; go_simp; try with_reducible rfl)
                simp only [Act.put, List.setIfInBounds_toArray, List.set_cons_zero, List.set_cons_succ]
                refine roH_two 9 13 rfl rfl (by kernel_rfl) ?_ ?_
                · intro K hK
                  go_simp
                  refine (find_any (hSch _ hS0) (Nat.le_refl _) t.name q.name).mono ?_
                  rintro e w4 ⟨⟨r, rfl, hr, hsy⟩, hb4⟩
                  have hS4 : Below wq.heap.size wq w4 := bthen hS0 hS0.size hb4
                  refine hK _ _ hS4 ?_
                  clear hK K hr hb4
                  refine roH_take 10 (some 62) (v := ?v10fa) rfl rfl (by kernel_rfl) (by kernel_rfl) (by kernel_rfl) (fun _ _ _ h => h) (by rfl) ?y10fa (by assumption) ?r10fa
                  case y10fa => (intro W hS; go_simp; try with_reducible rfl)
                  simp only [Act.put, List.setIfInBounds_toArray, List.set_cons_zero, List.set_cons_succ]
                  refine roH_take 11 (some 73) (v := ?v11fa) rfl rfl (by kernel_rfl) (by kernel_rfl) (by kernel_rfl) (fun _ _ _ h => h) (by rfl) ?y11fa (by assumption) ?r11fa
                  case y11fa => (intro W hS; go_simp; try with_reducible rfl)
                  simp only [Act.put, List.setIfInBounds_toArray, List.set_cons_zero, List.set_cons_succ]
                  refine roH_take 12 (some 74) (v := ?v12fa) rfl rfl (by kernel_rfl) (by kernel_rfl) (by kernel_rfl) (fun _ _ _ h => h) (by rfl) ?y12fa (by assumption) ?r12fa
                  case y12fa => (intro W hS; go_simp; try with_reducible rfl)
                  simp only [Act.put, List.setIfInBounds_toArray, List.set_cons_zero, List.set_cons_succ]
                  have hSa : Below wq.heap.size wq (w4.alloc (.cells #[.string ⟨#[]⟩, .string ⟨#[]⟩, .string ⟨#[]⟩, .string ⟨#[]⟩, .slice none 0 0, .slice none 0 0] 36)) := hS4.alloc hS4.size _
                  have hSb : Below wq.heap.size wq (w4.alloc (.cells #[.string r.name, .string r.view, .string r.edit, .string r.check, .slice r.As r.subs.length r.cs, .slice r.Ao r.ops.length r.co] 36)) := hS4.alloc hS4.size _
                  refine roH_one 13 rfl (by kernel_rfl) ?_
                  intro K hK
                  go_simp
                  refine hK _ _ hSa ?_
                  clear hK K
                  refine roH_one 14 rfl (by kernel_rfl) ?_
                  intro K hK
                  go_simp
                  refine hK _ _ hSb ?_
                  clear hK K
                  refine roH_take 15 (some 16) (v := ?v15fa) rfl rfl (by kernel_rfl) (by kernel_rfl) (by kernel_rfl) (fun _ _ _ h => h) (by rfl) ?y15fa (by assumption) ?r15fa
                  case y15fa => (intro W hS; go_simp; try with_reducible rfl)
                  simp only [Act.put, List.setIfInBounds_toArray, List.set_cons_zero, List.set_cons_succ]
                  refine wpAnyH_done (by kernel_rfl) ?_ _
                  go_wp2_with fail
                  go_meet
                  exact ⟨w4.heap.size, r, rfl, rfl, hsy, Bk.new _ _ _, hSb⟩
                · intro K hK
                  go_simp
                  have hSa := Hal.out (.cells #[.string ⟨#[]⟩, .string ⟨#[]⟩, .string ⟨#[]⟩, .string ⟨#[]⟩, .slice none 0 0, .slice none 0 0] 36)
                  refine hK _ _ hSa ?_
                  clear hK K
                  refine roH_one 9 rfl (by kernel_rfl) ?_
                  intro K hK
                  go_simp
                  refine (find_any (hSch _ hSa) (Nat.le_refl _) t.name q.name).mono ?_
                  rintro e w4 ⟨⟨r, rfl, hr, hsy⟩, hb4⟩
                  have hZ : Bk w4 wq.heap.size #[.string ⟨#[]⟩, .string ⟨#[]⟩, .string ⟨#[]⟩, .string ⟨#[]⟩, .slice none 0 0, .slice none 0 0] 36 := Bk.below (w := (wq.alloc (.cells #[.string ⟨#[]⟩, .string ⟨#[]⟩, .string ⟨#[]⟩, .string ⟨#[]⟩, .slice none 0 0, .slice none 0 0] 36)).drew) (Bk.new wq #[.string ⟨#[]⟩, .string ⟨#[]⟩, .string ⟨#[]⟩, .string ⟨#[]⟩, .slice none 0 0, .slice none 0 0] 36) hb4
                  have hS4 : Below wq.heap.size wq w4 := bthen hSa hSa.size hb4
                  refine hK _ _ hS4 ?_
                  clear hK K hr hb4
                  refine roH_take 10 (some 62) (v := ?v10fb) rfl rfl (by kernel_rfl) (by kernel_rfl) (by kernel_rfl) (fun _ _ _ h => h) (by rfl) ?y10fb (by assumption) ?r10fb
                  case y10fb => (intro W hS; go_simp; try with_reducible rfl)
                  simp only [Act.put, List.setIfInBounds_toArray, List.set_cons_zero, List.set_cons_succ]
                  refine roH_take 11 (some 73) (v := ?v11fb) rfl rfl (by kernel_rfl) (by kernel_rfl) (by kernel_rfl) (fun _ _ _ h => h) (by rfl) ?y11fb (by assumption) ?r11fb
                  case y11fb => (intro W hS; go_simp; try with_reducible rfl)
                  simp only [Act.put, List.setIfInBounds_toArray, List.set_cons_zero, List.set_cons_succ]
                  refine roH_take 12 (some 74) (v := ?v12fb) rfl rfl (by kernel_rfl) (by kernel_rfl) (by kernel_rfl) (fun _ _ _ h => h) (by rfl) ?y12fb (by assumption) ?r12fb
                  case y12fb => (intro W hS; go_simp; try with_reducible rfl)
                  simp only [Act.put, List.setIfInBounds_toArray, List.set_cons_zero, List.set_cons_succ]
                  obtain ⟨z0, z1, z2, z3, z4, z5⟩ := hZ.c6
                  have zf := hZ.fz
                  have zl := hZ.lt
                  have hW := (((((hZ.set 0 (.string r.name)).set 1 (.string r.view)).set 2 (.string r.edit)).set 3 (.string r.check)).set 4 (.slice r.As r.subs.length r.cs)).set 5 (.slice r.Ao r.ops.length r.co)
                  have hSb := (Below.setCell (Below.setCell (Below.setCell (Below.setCell (Below.setCell (Below.setCell hS4 (show wq.heap.size ≤ (⟨wq.heap.size, 0, none⟩ : Addr).block from Nat.le_refl _) (.string r.name)) (show wq.heap.size ≤ (⟨wq.heap.size, 1, none⟩ : Addr).block from Nat.le_refl _) (.string r.view)) (show wq.heap.size ≤ (⟨wq.heap.size, 2, none⟩ : Addr).block from Nat.le_refl _) (.string r.edit)) (show wq.heap.size ≤ (⟨wq.heap.size, 3, none⟩ : Addr).block from Nat.le_refl _) (.string r.check)) (show wq.heap.size ≤ (⟨wq.heap.size, 4, none⟩ : Addr).block from Nat.le_refl _) (.slice r.As r.subs.length r.cs)) (show wq.heap.size ≤ (⟨wq.heap.size, 5, none⟩ : Addr).block from Nat.le_refl _) (.slice r.Ao r.ops.length r.co))
                  refine roH_one 14 rfl (by kernel_rfl) ?_
                  intro K hK
                  go_simp
                  refine hK _ _ hSb ?_
                  clear hK K z0 z1 z2 z3 z4 z5 zf zl
                  refine roH_take 15 (some 16) (v := ?v15fb) rfl rfl (by kernel_rfl) (by kernel_rfl) (by kernel_rfl) (fun _ _ _ h => h) (by rfl) ?y15fb (by assumption) ?r15fb
                  case y15fb => (intro W hS; go_simp; try with_reducible rfl)
                  simp only [Act.put, List.setIfInBounds_toArray, List.set_cons_zero, List.set_cons_succ]
                  refine wpAnyH_done (by kernel_rfl) ?_ _
                  go_wp2_with fail
                  go_meet
                  exact ⟨wq.heap.size, r, rfl, rfl, hsy, hW, hSb⟩
              case rest =>
                obtain ⟨pg, r, rfl, rfl, hsy, hX, hbz⟩ := hcut
                rw [hf.out] at hsy
                have e1 : r.name = q.name := congrArg RelI.name hsy
                have e2 : r.view = q.view := congrArg RelI.view hsy
                have e3 : r.edit = q.edit := congrArg RelI.edit hsy
                have e4 : r.check = q.check := congrArg RelI.check hsy
                have e5 : r.subs = q.subs := congrArg RelI.subs hsy
                have e6 : r.ops = q.ops := congrArg RelI.ops hsy
                rw [e1, e2, e3, e4, e5, e6] at hX
                rw [hf.out]
                clear e1 e2 e3 e4 e5 e6 hsy x0 xl g0 gl y0 yl
                obtain ⟨z0, z1, z2, z3, z4, z5⟩ := hX.c6
                have zl := hX.lt
                have dR2 := dR.below hbz
                obtain ⟨y0, y1, y2, y3, y4, y5⟩ := dR2.c6
                have yl := dR2.lt
                have f1 := (e0.below hbq).below hbz
                have x0 := f1.c1
                have xl := f1.lt
                have g2 := cell_under (cell_under p00 hbq) hbz
                have gl := World.block_lt_of_cell? _ _ g2
                dsimp only at gl
                have hn1 := list_dec t.name ty
                have hn2 := list_dec q.name re
                have hIt : isIt ty re t q = (decide (t.name = ty) && decide (q.name = re)) := rfl
                rw [hIt] at hU
                have hbf := bthen hbq hbq.size hbz
                have hV : (T0 || (t.rels.take (k + 1)).any (isIt ty re t)) = ((T0 || U0) || (decide (t.name = ty) && decide (q.name = re))) := by rw [hU.out, Bool.or_assoc]
                replace hV := Lib.hid hV
                clear hU hIt
                cases U : (T0 || U0) with
                | true =>
                  go_wp2_with fail
                  refine ⟨⟨k + 1, by go_num, by omega, congrArg Value.bool (by rw [hV.out, U]; rfl), hbf⟩, ?_⟩
                  simp [intOf]; omega
                | false =>
                  cases hq1 : decide (t.name = ty) with
                  | false =>
                    rw [hq1] at hn1
                    go_wp2_with fail
                    refine ⟨⟨k + 1, by go_num, by omega, congrArg Value.bool (by rw [hV.out, U, hq1]; rfl), hbf⟩, ?_⟩
                    simp [intOf]; omega
                  | true =>
                    rw [hq1] at hn1
                    cases hq2 : decide (q.name = re) with
                    | false =>
                      rw [hq2] at hn2
                      go_wp2_with fail
                      refine ⟨⟨k + 1, by go_num, by omega, congrArg Value.bool (by rw [hV.out, U, hq1, hq2]; rfl), hbf⟩, ?_⟩
                      simp [intOf]; omega
                    | true =>
                      rw [hq2] at hn2
                      go_wp2_with fail
                      refine ⟨⟨k + 1, by go_num, by omega, congrArg Value.bool (by rw [hV.out, U, hq1, hq2]; rfl), hbf⟩, ?_⟩
                      simp [intOf]; omega
            · have hdk : ¬ (k : Int) < (t.rels.length : Nat) := by omega
              obtain rfl : k = t.rels.length := by omega
              rw [List.take_length]
              go_wp2
              refine ⟨⟨i + 1, by go_num, by omega, congrArg Value.bool hT.out.symm, bthen hbx hbx.size hby⟩, ?_⟩
              simp [intOf]; omega
        · have hdi : ¬ (i : Int) < (l.length : Nat) := by omega
          obtain rfl : i = l.length := by omega
          rw [List.take_length]
          have hTh := Lib.hid (there_says hRt.out ty re)
          generalize l.any (hasIt ty re) = T1 at *
          go_wp2_with fail
          refine (find_any (h.up hbx) (Nat.le_refl _) ty re).mono ?_
          rintro e w7 ⟨⟨r, rfl, hr, hsy⟩, hb7⟩
          rw [hTh.out]
          clear hr hsy hTh
          cases T1 with
          | true =>
            go_wp2
            go_ret
            exact ⟨rfl, (bthen (bthen hb hb.size hbx) (bthen hb hb.size hbx).size hb7).alloc (bthen (bthen hb hb.size hbx) (bthen hb hb.size hbx).size hb7).size _⟩
          | false =>
            go_wp2
            go_ret
            exact ⟨rfl, (bthen (bthen hb hb.size hbx) (bthen hb hb.size hbx).size hb7).alloc (bthen (bthen hb hb.size hbx) (bthen hb hb.size hbx).size hb7).size _⟩
    · have hki : ¬ (((checkE (l.map TypA.says)).1 : Nat) : Int) = 0 := by omega
      go_wp2
      go_ret
      exact ⟨rfl, hb⟩
theorem checkFinds_walk (A0 : Option Addr) (c0 : Nat) (l0 : List TypA) (s1 : ByteArray) (s2 : ByteArray) (w : World) (r0 : SchA w 140737488351232 A0 c0 l0) (_f1 : s1.size ≤ 140737488351232) (_f2 : s2.size ≤ 140737488351232) :
    Calls Try.prog 7 #[.agg #[.slice A0 l0.length c0], .string s1, .string s2] w fun e w' => e = .returned (.bool true) ∧ Below w.heap.size w w' := finds_any r0 s1 s2
end Go.Proofs.Ytpiihfffhjmabaa
