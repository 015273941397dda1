/- Layer 9: Find. Conditions: none. -/
import Derived.BigQuiet
import Derived.Deep.QuietTactic
import Derived.Deep.Cut
import Derived.Test.YtpiihfffhjmabaaCloneW
namespace Go.Proofs.Ytpiihfffhjmabaa
open Go.RowKit

def noRI : RelI := ⟨⟨#[]⟩, ⟨#[]⟩, ⟨#[]⟩, ⟨#[]⟩, [], []⟩
theorem findI_says (l : List TypA) (ty re : ByteArray) : findI (l.map TypA.says) ty re = (firstRA ((firstA l ty).getD noT) re).map RelA.says := by
  unfold findI
  rw [firstA_says]
  cases firstA l ty with
  | none => rfl
  | some t => exact firstRA_says t re
theorem getD_ok {w : World} {R : Nat} {A : Option Addr} {c : Nat} {l : List TypA} (h : SchA w R A c l) (n : ByteArray) : ((firstA l n).getD noT).ok w R := by
  cases hf : firstA l n with
  | none => exact noT_ok w R
  | some t => exact h.each t (firstA_mem hf)
theorem getD_okR {w : World} {R : Nat} {q : TypA} (h : q.ok w R) (n : ByteArray) : ((firstRA q n).getD noR).ok w R := by
  cases hf : firstRA q n with
  | none => exact noR_ok w R
  | some t => exact h.relz t (firstRA_mem hf)
theorem own_rd9 {w : World} {base : Nat} {e : TypeId} {size n c m : Nat} {A : Option Addr} {xs : List Value} (h : w.ownsRow base e size (.slice A n c) m xs) : Rd w w.heap.size size A n c xs := by
  obtain ⟨A2, c2, e1, hr⟩ := Rd.own h
  injection e1 with e1 e2 e3
  subst e1; subst e2; subst e3
  exact hr
theorem own_set6 {w : World} {base b : Nat} {e : TypeId} {size n : Nat} {v : Value} {xs : List Value} (h : w.ownsRow base e size v n xs) (hb : b < base) (v0 v1 v2 v3 v4 v5 : Value) :
    ((((((w.setCell ⟨b, 0, none⟩ v0).setCell ⟨b, 1, none⟩ v1).setCell ⟨b, 2, none⟩ v2).setCell ⟨b, 3, none⟩ v3).setCell ⟨b, 4, none⟩ v4).setCell ⟨b, 5, none⟩ v5).ownsRow base e size v n xs :=
  own_set (own_set (own_set (own_set (own_set (own_set h hb v0) hb v1) hb v2) hb v3) hb v4) hb v5
set_option maxRecDepth 100000 in
set_option maxHeartbeats 400000 in
theorem find_any {w : World} {R : Nat} {A : Option Addr} {c : Nat} {l : List TypA} (h : SchA w R A c l) (hR : R ≤ 140737488351232) (ty re : ByteArray) :
    Calls Try.prog 13 #[.agg #[.slice A l.length c], .string ty, .string re] w fun e w' =>
      (∃ r : RelA, e = .returned (.tuple #[.agg #[.string r.name, .string r.view, .string r.edit, .string r.check, .slice r.As r.subs.length r.cs, .slice r.Ao r.ops.length r.co], .bool (findI (l.map TypA.says) ty re).isSome]) ∧ r.ok w' R ∧ r.says = (findI (l.map TypA.says) ty re).getD noRI) ∧ Below w.heap.size w w' := by
  rw [findI_says]
  have k1 := fun W (hb : Below w.heap.size w W) => typeOf_any (h.up hb) ty
  have ht := getD_ok h ty
  generalize (firstA l ty).getD noT = t at *
  generalize (firstA l ty).isSome = bt at *
  simp only [TypA.val] at k1
  have k2 := fun W (hb : Below w.heap.size w W) => relOf_any (ht.up hb) re
  have hr := getD_okR ht re
  rw [Option.isSome_map, show ((firstRA t re).map RelA.says).getD noRI = ((firstRA t re).getD noR).says by cases firstRA t re <;> rfl]
  generalize (firstRA t re).getD noR = r at *
  generalize (firstRA t re).isSome = br at *
  simp only [RelA.val] at k2
  have hb0 := (bnew w (.cells #[.slice A l.length c] 24)).alloc (size_alloc (Nat.le_refl _)) (.cells #[.string ⟨#[]⟩, .string ⟨#[]⟩, .string ⟨#[]⟩, .string ⟨#[]⟩, .slice none 0 0, .slice none 0 0] 36)
  have hs0 := Bk.new2 w (.cells #[.slice A l.length c] 24) #[.string ⟨#[]⟩, .string ⟨#[]⟩, .string ⟨#[]⟩, .string ⟨#[]⟩, .slice none 0 0, .slice none 0 0] 36
  go_enter Try.func13, Try.ntmps13
  go_wp2_with fail
  refine (k1 _ hb0).mono ?_
  rintro e w1 ⟨rfl, hb1⟩
  have hb := bthen hb0 hb0.size hb1
  have hs1 := hs0.below hb1
  clear hb0 hb1 hs0
  go_upto_region 2 with (fail)
  have hs2 := hs1.alloc (.cells #[.string t.name, .slice t.A t.rels.length t.c] 46)
  have hT := Bk.new w1 #[.string t.name, .slice t.A t.rels.length t.c] 46
  replace hb := hb.alloc hb.size (.cells #[.string t.name, .slice t.A t.rels.length t.c] 46)
  clear hs1
  generalize w1.alloc (.cells #[.string t.name, .slice t.A t.rels.length t.c] 46) = w2 at *
  obtain ⟨x0, x1⟩ := hT.c2
  have xl := hT.lt
  go_wp2_with fail
  refine (k2 _ hb).mono ?_
  rintro e w3 ⟨rfl, hb1⟩
  replace hb := bthen hb hb.size hb1
  have hs3 := hs2.below hb1
  clear hb1 hs2 x0 x1 xl hT
  go_upto_region 3 with (fail)
  have hs4 := hs3.alloc (.cells #[.string r.name, .string r.view, .string r.edit, .string r.check, .slice r.As r.subs.length r.cs, .slice r.Ao r.ops.length r.co] 36)
  have hX := Bk.new w3 #[.string r.name, .string r.view, .string r.edit, .string r.check, .slice r.As r.subs.length r.cs, .slice r.Ao r.ops.length r.co] 36
  replace hb := hb.alloc hb.size (.cells #[.string r.name, .string r.view, .string r.edit, .string r.check, .slice r.As r.subs.length r.cs, .slice r.Ao r.ops.length r.co] 36)
  have hz : w.heap.size + 1 < w3.heap.size := hs3.lt
  clear hs3
  generalize w3.alloc (.cells #[.string r.name, .string r.view, .string r.edit, .string r.check, .slice r.As r.subs.length r.cs, .slice r.Ao r.ops.length r.co] 36) = w4 at *
  obtain ⟨x0, x1, x2, x3, x4, x5⟩ := hX.c6
  have xl := hX.lt
  go_wp2_with fail
  have hr4 := hr.up hb
  refine (cloneSub_any hr4.subs (Nat.le_trans hr4.subn hR)).mono ?_
  rintro e w5 ⟨⟨A5, c5, rfl, ho5⟩, hb1⟩
  have hX5 := hX.below hb1
  have hs5 := hs4.below hb1
  replace hb := bthen hb hb.size hb1
  have h45 := hb1.size
  clear hb1 hX hs4 hr4 x0 x1 x2 x3 x4 x5
  obtain ⟨x0, x1, x2, x3, x4, x5⟩ := hX5.c6
  have xf := hX5.fz
  have yl := hX5.lt
  go_upto_region 4 with (fail)
  have hX6 := hX5.set 4 (.slice A5 r.subs.length c5)
  have hs6 := hs5.other (a := ⟨w3.heap.size, 4, none⟩) (by dsimp only; omega) (.slice A5 r.subs.length c5)
  have ho6 := own_set (a := ⟨w3.heap.size, 4, none⟩) ho5 xl (.slice A5 r.subs.length c5)
  have hb6 : Below w.heap.size w (w5.setCell ⟨w3.heap.size, 4, none⟩ (.slice A5 r.subs.length c5)) := Below.setCell hb (by dsimp only; omega) _
  have hz6 : w4.heap.size ≤ (w5.setCell ⟨w3.heap.size, 4, none⟩ (.slice A5 r.subs.length c5)).heap.size := by simpa using h45
  clear hX5 hs5 ho5 x0 x1 x2 x3 x4 x5 xf yl hb
  simp only [List.setIfInBounds_toArray, List.set_cons_zero, List.set_cons_succ] at hX6
  generalize w5.setCell ⟨w3.heap.size, 4, none⟩ (.slice A5 r.subs.length c5) = w6 at *
  obtain ⟨x0, x1, x2, x3, x4, x5⟩ := hX6.c6
  have yl := hX6.lt
  go_wp2_with fail
  have hr6 := hr.up hb6
  refine (cloneOp_any hr6.ops (Nat.le_trans hr6.opn hR)).mono ?_
  rintro e w7 ⟨⟨A7, c7, rfl, ho7⟩, hb1⟩
  have hX7 := hX6.below hb1
  have hs7 := hs6.below hb1
  have ho7' := own_below ho6 hb1
  have h67 := hb1.size
  replace hb6 := bthen hb6 hb6.size hb1
  clear hb1 hX6 hs6 ho6 hr6 x0 x1 x2 x3 x4 x5
  obtain ⟨x0, x1, x2, x3, x4, x5⟩ := hX7.c6
  have xf := hX7.fz
  have yl' := hX7.lt
  go_upto_region 5 with (fail)
  have hX8 := hX7.set 5 (.slice A7 r.ops.length c7)
  have hs8 := hs7.other (a := ⟨w3.heap.size, 5, none⟩) (by dsimp only; omega) (.slice A7 r.ops.length c7)
  have ho8 := own_set (a := ⟨w3.heap.size, 5, none⟩) ho7 yl (.slice A7 r.ops.length c7)
  have ho8' := own_set (a := ⟨w3.heap.size, 5, none⟩) ho7' xl (.slice A7 r.ops.length c7)
  have hb8 : Below w.heap.size w (w7.setCell ⟨w3.heap.size, 5, none⟩ (.slice A7 r.ops.length c7)) := Below.setCell hb6 (by dsimp only; omega) _
  clear hX7 hs7 ho7 ho7' x0 x1 x2 x3 x4 x5 xf yl yl' hb6
  simp only [List.setIfInBounds_toArray, List.set_cons_zero, List.set_cons_succ] at hX8
  generalize w7.setCell ⟨w3.heap.size, 5, none⟩ (.slice A7 r.ops.length c7) = w8 at *
  obtain ⟨x0, x1, x2, x3, x4, x5⟩ := hX8.c6
  have yl := hX8.lt
  obtain ⟨z0, z1, z2, z3, z4, z5⟩ := hs8.c6
  have zf := hs8.fz
  have zl := hs8.lt
  have ne1 : ¬ w.heap.size + 1 = w3.heap.size := by omega
  have ne2 : ¬ w3.heap.size = w.heap.size + 1 := by omega
  go_wp2_with fail
  have hw := (((((hs8.set 0 (.string r.name)).set 1 (.string r.view)).set 2 (.string r.edit)).set 3 (.string r.check)).set 4 (.slice A5 r.subs.length c5)).set 5 (.slice A7 r.ops.length c7)
  obtain ⟨y0, y1, y2, y3, y4, y5⟩ := Bk.c6 hw
  have hj : w.heap.size + 1 < w4.heap.size := by omega
  have hq5 := own_set6 ho8' hj (.string r.name) (.string r.view) (.string r.edit) (.string r.check) (.slice A5 r.subs.length c5) (.slice A7 r.ops.length c7)
  have hq7 := own_set6 ho8 (Nat.lt_of_lt_of_le hj hz6) (.string r.name) (.string r.view) (.string r.edit) (.string r.check) (.slice A5 r.subs.length c5) (.slice A7 r.ops.length c7)
  refine bodyPost_ret (v := .tuple #[.agg #[.string r.name, .string r.view, .string r.edit, .string r.check, .slice A5 r.subs.length c5, .slice A7 r.ops.length c7], .bool br]) (by simp [results, Try.results13, go_sem, y0, y1, y2, y3, y4, y5]; try rfl) rfl ?_
  exact ⟨⟨⟨r.name, r.view, r.edit, r.check, A5, c5, r.subs, A7, c7, r.ops⟩, rfl, ⟨hr.name, hr.view, hr.edit, hr.check, own_rd9 hq5, hr.subn, hr.subz, own_rd9 hq7, hr.opn, hr.opz⟩, rfl⟩, (((((hb8.setCell (Nat.le_succ _) _).setCell (Nat.le_succ _) _).setCell (Nat.le_succ _) _).setCell (Nat.le_succ _) _).setCell (Nat.le_succ _) _).setCell (Nat.le_succ _) _⟩
end Go.Proofs.Ytpiihfffhjmabaa
