/- Layer 11: a table in memory, and what is told of a number's relation. Conditions: none. -/
import Derived.BigQuiet
import Derived.Deep.QuietTactic
import Derived.Deep.Cut
import Derived.Test.YteafdhpcnpfmkaaGreatLeadW
import Derived.Test.YteafdhpcnpfmkaaGreatEdgeP
namespace Go.Proofs.YteafdhpcnpfmkaaGreat
open Go.RowKit

/-- A path's number, or 0. -/
def ixP (ps : List Path) (q : Path) : Nat := (lastIx ps q).getD 0
/-- An operation, its relation by its number. -/
abbrev OpT := Int × Int × ByteArray
def opT11 (ps : List Path) (tn : ByteArray) (o : OpI) : OpT := (o.1, if o.1 = 2 ∨ o.1 = 3 then (ixP ps (tn, o.2.1) : Nat) else 0, o.2.2)
/-- What is told of a relation. -/
structure RelT where
  tn : ByteArray
  rn : ByteArray
  view : Int
  edit : Int
  check : Int
  level : Int
  subs : List Path
  ops : List OpT
def relT11 (ps : List Path) (lv : Int) (x : TypI × RelI) : RelT := ⟨x.1.name, x.2.name, (ixP ps (x.1.name, x.2.view) : Nat), (ixP ps (x.1.name, x.2.edit) : Nat), (ixP ps (x.1.name, x.2.check) : Nat), lv, x.2.subs, x.2.ops.map (opT11 ps x.1.name)⟩
def otcell (o : OpT) : List Value := [.int .i64 o.1, .int .i64 o.2.1, .string o.2.2]
def otcells (l : List OpT) : List Value := l.flatMap otcell
/-- A relation, and where its lists lie. -/
structure TabR where
  r : RelT
  As : Option Addr
  cs : Nat
  Ao : Option Addr
  co : Nat
def TabR.cells (x : TabR) : List Value := [.string x.r.tn, .string x.r.rn, .int .i64 x.r.view, .int .i64 x.r.edit, .int .i64 x.r.check, .int .i64 x.r.level, .slice x.As x.r.subs.length x.cs, .slice x.Ao x.r.ops.length x.co]
structure TabR.ok (w : World) (x : TabR) : Prop where
  subs : Rd w w.heap.size 2 x.As x.r.subs.length x.cs (x.r.subs.flatMap aSub)
  ops : Rd w w.heap.size 3 x.Ao x.r.ops.length x.co (otcells x.r.ops)
  few : x.r.ops.length ≤ 100000
theorem TabR.ok.up {w w' : World} {x : TabR} (h : x.ok w) (hb : Below w.heap.size w w') : x.ok w' := ⟨h.subs.up hb, h.ops.up hb, h.few⟩
def noRT : RelT := ⟨⟨#[]⟩, ⟨#[]⟩, 0, 0, 0, 0, [], []⟩
def noTR : TabR := ⟨noRT, none, 0, none, 0⟩
theorem noTR_ok (w : World) : noTR.ok w := ⟨Rd.none_ _ _ _, Rd.none_ _ _ _, Nat.zero_le _⟩
/-- What is told of a number: of one that is no relation's nothing. -/
def atK (K : List TabR) (id : Int) : TabR := if 0 ≤ id then K.getD id.toNat noTR else noTR
theorem atK_in {K : List TabR} {i : Nat} {x : TabR} (h : K[i]? = some x) : atK K i = x := by
  unfold atK
  rw [if_pos (by omega), Int.toNat_natCast, List.getD_eq_getElem?_getD, h]
  rfl
theorem atK_neg {K : List TabR} {id : Int} (h : id < 0) : atK K id = noTR := if_neg (by omega)
theorem atK_out {K : List TabR} {id : Int} (h : (K.length : Int) ≤ id) : atK K id = noTR := by
  unfold atK
  rw [if_pos (by omega), List.getD_eq_getElem?_getD, List.getElem?_eq_none (by omega)]
  rfl
structure TabK (w : World) (Ar : Option Addr) (cr : Nat) (K : List TabR) : Prop where
  rows : Rd w w.heap.size 8 Ar K.length cr (K.flatMap TabR.cells)
  each : ∀ x ∈ K, x.ok w
theorem TabK.up {w w' : World} {Ar : Option Addr} {cr : Nat} {K : List TabR} (h : TabK w Ar cr K) (hb : Below w.heap.size w w') : TabK w' Ar cr K := ⟨h.rows.up hb, fun x hx => (h.each x hx).up hb⟩
theorem TabK.at_ok {w : World} {Ar : Option Addr} {cr : Nat} {K : List TabR} (h : TabK w Ar cr K) (id : Int) : (atK K id).ok w := by
  unfold atK
  split
  · rw [List.getD_eq_getElem?_getD]
    cases e : K[id.toNat]? with
    | none => exact noTR_ok w
    | some x => exact h.each x (List.mem_of_getElem? e)
  · exact noTR_ok w
theorem TabK.get {w : World} {Ar : Option Addr} {cr : Nat} {K : List TabR} (h : TabK w Ar cr K) {i : Nat} {x : TabR} (hi : K[i]? = some x) :
    ∃ b o, Ar = some ⟨b, o, none⟩ ∧ b < w.heap.size ∧ w.cell? ⟨b, o + i * 8, none⟩ = some (.string x.r.tn) ∧ w.cell? ⟨b, o + i * 8 + 1, none⟩ = some (.string x.r.rn) ∧ w.cell? ⟨b, o + i * 8 + 2, none⟩ = some (.int .i64 x.r.view) ∧ w.cell? ⟨b, o + i * 8 + 3, none⟩ = some (.int .i64 x.r.edit) ∧
      w.cell? ⟨b, o + i * 8 + 4, none⟩ = some (.int .i64 x.r.check) ∧ w.cell? ⟨b, o + i * 8 + 5, none⟩ = some (.int .i64 x.r.level) ∧ w.cell? ⟨b, o + i * 8 + 6, none⟩ = some (.slice x.As x.r.subs.length x.cs) ∧ w.cell? ⟨b, o + i * 8 + 7, none⟩ = some (.slice x.Ao x.r.ops.length x.co) := by
  obtain ⟨b, o, e, hb, hc⟩ := h.rows.at_ (lt_get hi)
  have g := fun k (hk : k < 8) => flat_get TabR.cells (sz := 8) (fun _ => rfl) hi (k := k) hk
  have g' := fun k (hk : k < 8) => show w.cell? ⟨b, o + i * 8 + k, none⟩ = x.cells[k]? by
    have := g k hk
    cases hq : x.cells[k]? with
    | none => exact absurd (List.getElem?_eq_none_iff.1 hq) (by show ¬ 8 ≤ k; omega)
    | some u => rw [hq] at this; rw [Nat.add_assoc]; exact hc _ _ this
  exact ⟨b, o, e, hb, g' 0 (by omega), g' 1 (by omega), g' 2 (by omega), g' 3 (by omega), g' 4 (by omega), g' 5 (by omega), g' 6 (by omega), g' 7 (by omega)⟩

theorem Bk.c8 {w : World} {b : Nat} {t : TypeId} {x0 x1 x2 x3 x4 x5 x6 x7 : Value} (h : Bk w b #[x0, x1, x2, x3, x4, x5, x6, x7] t) : w.cell? ⟨b, 0, none⟩ = some x0 ∧ w.cell? ⟨b, 1, none⟩ = some x1 ∧ w.cell? ⟨b, 2, none⟩ = some x2 ∧ w.cell? ⟨b, 3, none⟩ = some x3 ∧ w.cell? ⟨b, 4, none⟩ = some x4 ∧ w.cell? ⟨b, 5, none⟩ = some x5 ∧ w.cell? ⟨b, 6, none⟩ = some x6 ∧ w.cell? ⟨b, 7, none⟩ = some x7 := ⟨h.cell 0, h.cell 1, h.cell 2, h.cell 3, h.cell 4, h.cell 5, h.cell 6, h.cell 7⟩
theorem set8 {w w0 : World} {B b : Nat} {t : TypeId} {x0 x1 x2 x3 x4 x5 x6 x7 : Value} (h : Bk w0 b #[x0, x1, x2, x3, x4, x5, x6, x7] t) (hb : Below B w w0) (hB : B ≤ b) (v0 v1 v2 v3 v4 v5 v6 v7 : Value) :
    Bk ((((((((w0.setCell ⟨b, 0, none⟩ v0).setCell ⟨b, 1, none⟩ v1).setCell ⟨b, 2, none⟩ v2).setCell ⟨b, 3, none⟩ v3).setCell ⟨b, 4, none⟩ v4).setCell ⟨b, 5, none⟩ v5).setCell ⟨b, 6, none⟩ v6).setCell ⟨b, 7, none⟩ v7) b #[v0, v1, v2, v3, v4, v5, v6, v7] t ∧
    Below B w ((((((((w0.setCell ⟨b, 0, none⟩ v0).setCell ⟨b, 1, none⟩ v1).setCell ⟨b, 2, none⟩ v2).setCell ⟨b, 3, none⟩ v3).setCell ⟨b, 4, none⟩ v4).setCell ⟨b, 5, none⟩ v5).setCell ⟨b, 6, none⟩ v6).setCell ⟨b, 7, none⟩ v7) :=
  ⟨by
    have hw := (((((((h.set 0 v0).set 1 v1).set 2 v2).set 3 v3).set 4 v4).set 5 v5).set 6 v6).set 7 v7
    simp only [List.setIfInBounds_toArray, List.set_cons_zero, List.set_cons_succ] at hw
    exact hw, (((((((hb.setCell hB _).setCell hB _).setCell hB _).setCell hB _).setCell hB _).setCell hB _).setCell hB _).setCell hB _⟩
section
variable {w : World} {tx : ByteArray} {Ay : Option Addr} {ny cy : Nat} {mb : Option Nat} {Ar : Option Addr} {cr : Nat} {K : List TabR}
set_option maxRecDepth 100000 in
set_option maxHeartbeats 400000 in
theorem tlen_any (h : TabK w Ar cr K) : Calls Tryz.prog 11 #[.agg #[.string tx, .slice Ay ny cy, .map mb, .slice Ar K.length cr]] w fun e w' => e = .returned (.int .i64 K.length) ∧ Below w.heap.size w w' := by
  have hl : (K.length : Int) ≤ 9223372036854775807 := by have := h.rows.cap; have := h.rows.capm; simp only [maxLen] at this; omega
  go_enter Tryz.func11, Tryz.ntmps11
  go_wp2_with fail
  go_ret
  exact ⟨rfl, bnew w _⟩
set_option maxRecDepth 100000 in
set_option maxHeartbeats 400000 in
theorem ttext_any {nr : Nat} : Calls Tryz.prog 13 #[.agg #[.string tx, .slice Ay ny cy, .map mb, .slice Ar nr cr]] w fun e w' => e = .returned (.string tx) ∧ Below w.heap.size w w' := by
  go_enter Tryz.func13, Tryz.ntmps13
  go_wp2_with fail
  go_ret
  exact ⟨rfl, bnew w _⟩
def TabR.val (x : TabR) : Value := .agg #[.string x.r.tn, .string x.r.rn, .int .i64 x.r.view, .int .i64 x.r.edit, .int .i64 x.r.check, .int .i64 x.r.level, .slice x.As x.r.subs.length x.cs, .slice x.Ao x.r.ops.length x.co]
set_option maxRecDepth 100000 in
set_option maxHeartbeats 1000000 in
theorem at_any (h : TabK w Ar cr K) (id : Int) (hid : (Lit.int .i64 id).wf = true) : Calls Tryz.prog 41 #[.agg #[.string tx, .slice Ay ny cy, .map mb, .slice Ar K.length cr], .int .i64 id] w fun e w' => e = .returned (atK K id).val ∧ Below w.heap.size w w' := by
  have hl : (K.length : Int) ≤ 9223372036854775807 := by have := h.rows.cap; have := h.rows.capm; simp only [maxLen] at this; omega
  have hb0 := Bk.new w #[.string tx, .slice Ay ny cy, .map mb, .slice Ar K.length cr] 27
  have hz0 := Bk.new2 w (.cells #[.string tx, .slice Ay ny cy, .map mb, .slice Ar K.length cr] 27) #[.string ⟨#[]⟩, .string ⟨#[]⟩, .int .i64 0, .int .i64 0, .int .i64 0, .int .i64 0, .slice none 0 0, .slice none 0 0] 100
  have hB0 : Below w.heap.size w ((w.alloc (.cells #[.string tx, .slice Ay ny cy, .map mb, .slice Ar K.length cr] 27)).alloc (.cells #[.string ⟨#[]⟩, .string ⟨#[]⟩, .int .i64 0, .int .i64 0, .int .i64 0, .int .i64 0, .slice none 0 0, .slice none 0 0] 100)) := ((Below.refl _ w).alloc (Nat.le_refl _) _).alloc (size_alloc (Nat.le_refl _)) _
  have hT := hb0.alloc (.cells #[.string ⟨#[]⟩, .string ⟨#[]⟩, .int .i64 0, .int .i64 0, .int .i64 0, .int .i64 0, .slice none 0 0, .slice none 0 0] 100)
  have h0 := h.up hB0
  go_enter Tryz.func41, Tryz.ntmps41
  go_upto_region 1 with (fail)
  generalize (w.alloc (.cells #[.string tx, .slice Ay ny cy, .map mb, .slice Ar K.length cr] 27)).alloc (.cells #[.string ⟨#[]⟩, .string ⟨#[]⟩, .int .i64 0, .int .i64 0, .int .i64 0, .int .i64 0, .slice none 0 0, .slice none 0 0] 100) = w0 at *
  have t3 : w0.cell? ⟨w.heap.size, 3, none⟩ = some (.slice Ar K.length cr) := hT.cell 3
  have tl := hT.lt
  have zl := hz0.lt
  have zf := hz0.fz
  obtain ⟨z0, z1, z2, z3, z4, z5, z6, z7⟩ := hz0.c8
  by_cases h1 : id < 0
  · have e1 := atK_neg (K := K) h1
    have g1 : decide (id < 0) = true := decide_eq_true h1
    go_wp2_with fail
    obtain ⟨hw, hb⟩ := set8 hz0 hB0 (Nat.le_succ _) (.string ⟨#[]⟩) (.string ⟨#[]⟩) (.int .i64 0) (.int .i64 0) (.int .i64 0) (.int .i64 0) (.slice none 0 0) (.slice none 0 0)
    obtain ⟨y0, y1, y2, y3, y4, y5, y6, y7⟩ := hw.c8
    refine bodyPost_ret (v := noTR.val) (by simp [results, Tryz.results41, go_sem, y0, y1, y2, y3, y4, y5, y6, y7, TabR.val, noTR, noRT]; try rfl) rfl ?_
    rw [e1]
    exact ⟨rfl, hb⟩
  · obtain ⟨i, rfl⟩ : ∃ i : Nat, id = i := ⟨id.toNat, by omega⟩
    by_cases h2 : i < K.length
    · obtain ⟨x, hx⟩ : ∃ x, K[i]? = some x := ⟨_, List.getElem?_eq_getElem h2⟩
      have e1 := atK_in hx
      obtain ⟨b, o, rfl, hbl, k0, k1, k2, k3, k4, k5, k6, k7⟩ := h0.get hx
      have g1 : ¬ (i : Int) < 0 := h1
      have g2 : ¬ (i : Int) ≥ (K.length : Int) := by omega
      have g3 : (i : Int) < (K.length : Int) := by omega
      replace e1 := Lib.hid e1
      clear h1
      obtain ⟨b', o', e', hlt, _⟩ := h.rows.at_ (by omega)
      injection e' with e'
      injection e' with e1' e2' _
      subst e1'; subst e2'
      have hne : ¬ w.heap.size + 1 = b := by omega
      have hne2 : ¬ b = w.heap.size + 1 := by omega
      have hne3 : ¬ b = w.heap.size := by omega
      go_wp2_with fail
      obtain ⟨hw, hb⟩ := set8 hz0 hB0 (Nat.le_succ _) (.string x.r.tn) (.string x.r.rn) (.int .i64 x.r.view) (.int .i64 x.r.edit) (.int .i64 x.r.check) (.int .i64 x.r.level) (.slice x.As x.r.subs.length x.cs) (.slice x.Ao x.r.ops.length x.co)
      obtain ⟨y0, y1, y2, y3, y4, y5, y6, y7⟩ := hw.c8
      refine bodyPost_ret (v := x.val) (by simp [results, Tryz.results41, go_sem, y0, y1, y2, y3, y4, y5, y6, y7, TabR.val]; try rfl) rfl ?_
      rw [e1.out]
      exact ⟨rfl, hb⟩
    · have e1 := atK_out (K := K) (id := (i : Int)) (by omega)
      have g1 : ¬ (i : Int) < 0 := h1
      have g2 : (i : Int) ≥ (K.length : Int) := by omega
      replace e1 := Lib.hid e1
      clear h1 h2
      go_wp2_with fail
      obtain ⟨hw, hb⟩ := set8 hz0 hB0 (Nat.le_succ _) (.string ⟨#[]⟩) (.string ⟨#[]⟩) (.int .i64 0) (.int .i64 0) (.int .i64 0) (.int .i64 0) (.slice none 0 0) (.slice none 0 0)
      obtain ⟨y0, y1, y2, y3, y4, y5, y6, y7⟩ := hw.c8
      refine bodyPost_ret (v := noTR.val) (by simp [results, Tryz.results41, go_sem, y0, y1, y2, y3, y4, y5, y6, y7, TabR.val, noTR, noRT]; try rfl) rfl ?_
      rw [e1.out]
      exact ⟨rfl, hb⟩
end
end Go.Proofs.YteafdhpcnpfmkaaGreat
/- Layer 11: what is told of a number: its path, metas, level, who may stand there, operations; which types there are. Conditions: none. -/
namespace Go.Proofs.YteafdhpcnpfmkaaGreat
open Go.RowKit

section
variable {w : World} {tx : ByteArray} {Ay : Option Addr} {ny cy : Nat} {mb : Option Nat} {Ar : Option Addr} {cr : Nat} {K : List TabR}
theorem rel_f0 (x0 x1 x2 x3 x4 x5 x6 x7 : Value) (W : World) : (Instr.field 100 (.agg #[x0, x1, x2, x3, x4, x5, x6, x7]) 0).run Tryz.prog W = .ok (.agg #[x0, x1]) W := by kernel_rfl
theorem rel_f1 (x0 x1 x2 x3 x4 x5 x6 x7 : Value) (W : World) : (Instr.field 100 (.agg #[x0, x1, x2, x3, x4, x5, x6, x7]) 1).run Tryz.prog W = .ok (.agg #[x2, x3, x4]) W := by kernel_rfl
theorem rel_f2 (x0 x1 x2 x3 x4 x5 x6 x7 : Value) (W : World) : (Instr.field 100 (.agg #[x0, x1, x2, x3, x4, x5, x6, x7]) 2).run Tryz.prog W = .ok (x5) W := by kernel_rfl
theorem rel_f3 (x0 x1 x2 x3 x4 x5 x6 x7 : Value) (W : World) : (Instr.field 100 (.agg #[x0, x1, x2, x3, x4, x5, x6, x7]) 3).run Tryz.prog W = .ok (x6) W := by kernel_rfl
theorem rel_f4 (x0 x1 x2 x3 x4 x5 x6 x7 : Value) (W : World) : (Instr.field 100 (.agg #[x0, x1, x2, x3, x4, x5, x6, x7]) 4).run Tryz.prog W = .ok (x7) W := by kernel_rfl
theorem TabR.val_eq (x : TabR) : x.val = .agg #[.string x.r.tn, .string x.r.rn, .int .i64 x.r.view, .int .i64 x.r.edit, .int .i64 x.r.check, .int .i64 x.r.level, .slice x.As x.r.subs.length x.cs, .slice x.Ao x.r.ops.length x.co] := rfl
set_option maxRecDepth 100000 in
set_option maxHeartbeats 1000000 in
theorem tlevel_any (h : TabK w Ar cr K) (id : Int) (hid : (Lit.int .i64 id).wf = true) : Calls Tryz.prog 23 #[.agg #[.string tx, .slice Ay ny cy, .map mb, .slice Ar K.length cr], .int .i64 id] w fun e w' => e = .returned (.int .i64 (atK K id).r.level) ∧ Below w.heap.size w w' := by
  have hb0 := bnew w (.cells #[.string tx, .slice Ay ny cy, .map mb, .slice Ar K.length cr] 27)
  have ka := at_any (tx := tx) (Ay := Ay) (ny := ny) (cy := cy) (mb := mb) (h.up hb0) id hid
  rw [TabR.val_eq] at ka
  generalize atK K id = x at *
  have hfld := @rel_f2
  go_enter Tryz.func23, Tryz.ntmps23
  go_wp2_with (go_at_call 41; refine ka.mono ?_; rintro e w1 ⟨rfl, hb1⟩)
  go_ret
  exact ⟨rfl, bthen hb0 hb0.size hb1⟩
set_option maxRecDepth 100000 in
set_option maxHeartbeats 1000000 in
theorem tmay_any (h : TabK w Ar cr K) (id : Int) (hid : (Lit.int .i64 id).wf = true) (ty re : ByteArray) : Calls Tryz.prog 21 #[.agg #[.string tx, .slice Ay ny cy, .map mb, .slice Ar K.length cr], .int .i64 id, .string ty, .string re] w fun e w' => e = .returned (.bool ((atK K id).r.subs.any fun y => decide (y = (ty, re)))) ∧ Below w.heap.size w w' := by
  have hb0 := bnew w (.cells #[.string tx, .slice Ay ny cy, .map mb, .slice Ar K.length cr] 27)
  have ka := at_any (tx := tx) (Ay := Ay) (ny := ny) (cy := cy) (mb := mb) (h.up hb0) id hid
  have hok := (h.up hb0).at_ok id
  rw [TabR.val_eq] at ka
  generalize atK K id = x at *
  have hfld := @rel_f3
  generalize hq : (x.r.subs.any fun y => decide (y = (ty, re))) = q
  go_enter Tryz.func21, Tryz.ntmps21
  go_wp2_with (first
    | (go_at_call 41; refine ka.mono ?_; rintro e w1 ⟨rfl, hb1⟩; have hs1 : SubsA w1 x.As x.cs x.r.subs := ⟨hok.subs.up hb1⟩; have kc := contains_any hs1 (ty, re); rw [hq] at kc)
    | (go_at_call 43; refine kc.mono ?_; rintro e w2 ⟨rfl, hb2⟩))
  go_ret
  exact ⟨rfl, bthen (bthen hb0 hb0.size hb1) (bthen hb0 hb0.size hb1).size hb2⟩
set_option maxRecDepth 100000 in
set_option maxHeartbeats 1000000 in
theorem tpath_any (h : TabK w Ar cr K) (id : Int) (hid : (Lit.int .i64 id).wf = true) : Calls Tryz.prog 17 #[.agg #[.string tx, .slice Ay ny cy, .map mb, .slice Ar K.length cr], .int .i64 id] w fun e w' => e = .returned (.tuple #[.string (atK K id).r.tn, .string (atK K id).r.rn]) ∧ Below w.heap.size w w' := by
  have hb0 := bnew w (.cells #[.string tx, .slice Ay ny cy, .map mb, .slice Ar K.length cr] 27)
  have ka := at_any (tx := tx) (Ay := Ay) (ny := ny) (cy := cy) (mb := mb) (h.up hb0) id hid
  rw [TabR.val_eq] at ka
  generalize atK K id = x at *
  have hfld := @rel_f0
  go_enter Tryz.func17, Tryz.ntmps17
  go_upto_region 2 with (go_at_call 41; refine ka.mono ?_; rintro e w1 ⟨rfl, hb1⟩)
  have hb := bthen hb0 hb0.size hb1
  have hx := Bk.new w1 #[.string x.r.tn, .string x.r.rn] 96
  have hb2 := hb.alloc hb.size (.cells #[.string x.r.tn, .string x.r.rn] 96)
  generalize w1.alloc (.cells #[.string x.r.tn, .string x.r.rn] 96) = w2 at *
  obtain ⟨x0, x1⟩ := hx.c2
  go_quiet (fail)
  go_wp2
  refine bodyPost_ret (v := .tuple #[.string x.r.tn, .string x.r.rn]) (by simp [results, Tryz.results17, go_sem]; try rfl) rfl ?_
  exact ⟨rfl, bthen hb2 hb2.size (bdrew w2 nq)⟩
set_option maxRecDepth 100000 in
set_option maxHeartbeats 1000000 in
theorem tmetas_any (h : TabK w Ar cr K) (id : Int) (hid : (Lit.int .i64 id).wf = true) : Calls Tryz.prog 19 #[.agg #[.string tx, .slice Ay ny cy, .map mb, .slice Ar K.length cr], .int .i64 id] w fun e w' => e = .returned (.tuple #[.int .i64 (atK K id).r.view, .int .i64 (atK K id).r.edit, .int .i64 (atK K id).r.check]) ∧ Below w.heap.size w w' := by
  have hb0 := bnew w (.cells #[.string tx, .slice Ay ny cy, .map mb, .slice Ar K.length cr] 27)
  have ka := at_any (tx := tx) (Ay := Ay) (ny := ny) (cy := cy) (mb := mb) (h.up hb0) id hid
  rw [TabR.val_eq] at ka
  generalize atK K id = x at *
  have hfld := @rel_f1
  go_enter Tryz.func19, Tryz.ntmps19
  go_upto_region 2 with (go_at_call 41; refine ka.mono ?_; rintro e w1 ⟨rfl, hb1⟩)
  have hb := bthen hb0 hb0.size hb1
  have hx := Bk.new w1 #[.int .i64 x.r.view, .int .i64 x.r.edit, .int .i64 x.r.check] 97
  have hb2 := hb.alloc hb.size (.cells #[.int .i64 x.r.view, .int .i64 x.r.edit, .int .i64 x.r.check] 97)
  generalize w1.alloc (.cells #[.int .i64 x.r.view, .int .i64 x.r.edit, .int .i64 x.r.check] 97) = w2 at *
  obtain ⟨x0, x1, x2⟩ : w2.cell? ⟨w1.heap.size, 0, none⟩ = some (.int .i64 x.r.view) ∧ w2.cell? ⟨w1.heap.size, 1, none⟩ = some (.int .i64 x.r.edit) ∧ w2.cell? ⟨w1.heap.size, 2, none⟩ = some (.int .i64 x.r.check) := ⟨hx.cell 0, hx.cell 1, hx.cell 2⟩
  go_quiet (fail)
  go_wp2
  refine bodyPost_ret (v := .tuple #[.int .i64 x.r.view, .int .i64 x.r.edit, .int .i64 x.r.check]) (by simp [results, Tryz.results19, go_sem]; try rfl) rfl ?_
  exact ⟨rfl, bthen hb2 hb2.size (bdrew w2 nq)⟩

theorem otcells_one (l : List OpT) : ∀ u ∈ otcells l, u.oneCell' = true := by
  intro u hu
  obtain ⟨s, _, hs⟩ := List.mem_flatMap.1 hu
  simp only [otcell, List.mem_cons, List.not_mem_nil, or_false] at hs
  rcases hs with rfl | rfl | rfl <;> rfl
theorem run_nil11 (w : World) (t e : TypeId) (a : Option Addr) (l c : Nat) (h : Tryz.prog.underlying t = some (.slice e)) : (binOp .eql t (.slice a l c) (.slice none 0 0)).run Tryz.prog w = .ok (.bool a.isNone) w := by
  simp [binOp, run_equal_slice_nil w t e a l c h]
theorem rdsrc11 {B size n c : Nat} {a : Addr} {xs : List Value} (h : Rd w B size (some a) n c xs) : ∀ j u, xs[j]? = some u → w.cell? (a.add j) = some u := by
  intro j u hj
  have hn : 0 < n := by
    have := (List.getElem?_eq_some_iff.1 hj).1
    rw [h.len] at this
    exact Nat.pos_of_ne_zero fun e => by subst e; simp at this
  obtain ⟨b, o, e, _, hc⟩ := h.at_ hn
  cases e
  rw [Addr.add_lit]
  exact hc j u hj
theorem info_top : (Tryz.prog.info? 62).map (fun i => (i.zero, i.size, i.bytes)) = some (some (.agg #[.int .i64 0, .int .i64 0, .string .empty]), 3, 32) := by kernel_rfl
set_option maxRecDepth 100000 in
set_option maxHeartbeats 400000 in
theorem cloneT_any {A : Option Addr} {c : Nat} {l : List OpT} (h : Rd w w.heap.size 3 A l.length c (otcells l)) (hn : l.length ≤ 100000) :
    Calls Tryz.prog 42 #[.slice A l.length c] w fun e w' => (∃ A' c', e = .returned (.slice A' l.length c') ∧ w'.ownsRow w.heap.size 62 3 (.slice A' l.length c') l.length (otcells l)) ∧ Below w.heap.size w w' := by
  have hb0 := bnew w (.cells #[] 62)
  have ho0 := own_lit w #[] 62 0 3 w.heap.size rfl (by simp [maxLen]) (Nat.le_refl _)
  go_enter Tryz.func42, Tryz.ntmps42
  cases A with
  | none =>
    obtain ⟨h0, rfl⟩ := h.nil rfl
    obtain rfl : l = [] := List.eq_nil_of_length_eq_zero h0
    have hq : (binOp .eql 53 (.slice none 0 0) (.slice none 0 0)).run Tryz.prog w = .ok (.bool true) w := run_nil11 w 53 62 none 0 0 Tryz.underlying53
    go_wp2
    go_ret
    exact ⟨⟨none, 0, rfl, World.ownsRow_nil _ _ _ _⟩, Below.refl _ _⟩
  | some a =>
    have hq : (binOp .eql 53 (.slice (some a) l.length c) (.slice none 0 0)).run Tryz.prog w = .ok (.bool false) w := run_nil11 w 53 62 (some a) l.length c Tryz.underlying53
    have hsrc := rdsrc11 (h.up hb0)
    obtain ⟨i0, hi0, hz0, hz1, hz2⟩ := info_parts info_top
    go_wp2_with (at_builtin; refine wpList_append_src _ rfl (.tmp 5) (.tmp 6) 53 53 rfl w.heap.size 62 i0 (.agg #[.int .i64 0, .int .i64 0, .string .empty]) 3 32 Tryz.underlying53 hi0 hz0 hz1 hz2 rfl (by decide) (.slice (some ⟨w.heap.size, 0, none⟩) 0 0) 0 [] rfl ho0 _ l.length (otcells l) rfl (Src.ofSlice _ Tryz.underlying53 _ _ _ _ h.len hsrc (otcells_one l)) (by simp only [maxLen]; omega) (by omega) (by simp) ?_; intro v1 w5 hown1 hg1 hat1; rw [Nat.zero_add, List.nil_append] at hown1; obtain ⟨A1, c1, rfl, _⟩ := Rd.own hown1)
    go_ret
    exact ⟨⟨_, _, rfl, hown1⟩, below_of_own (v := .slice (some ⟨w.heap.size, 0, none⟩) 0 0) hb0 hg1 ho0 hb0.size (Nat.le_refl _)⟩
set_option maxRecDepth 100000 in
set_option maxHeartbeats 1000000 in
theorem tops_any (h : TabK w Ar cr K) (id : Int) (hid : (Lit.int .i64 id).wf = true) : Calls Tryz.prog 20 #[.agg #[.string tx, .slice Ay ny cy, .map mb, .slice Ar K.length cr], .int .i64 id] w fun e w' => (∃ A c, e = .returned (.slice A (atK K id).r.ops.length c) ∧ w'.ownsRow w.heap.size 62 3 (.slice A (atK K id).r.ops.length c) (atK K id).r.ops.length (otcells (atK K id).r.ops)) ∧ Below w.heap.size w w' := by
  have hb0 := bnew w (.cells #[.string tx, .slice Ay ny cy, .map mb, .slice Ar K.length cr] 27)
  have ka := at_any (tx := tx) (Ay := Ay) (ny := ny) (cy := cy) (mb := mb) (h.up hb0) id hid
  have hok := (h.up hb0).at_ok id
  rw [TabR.val_eq] at ka
  generalize atK K id = x at *
  have hfld := @rel_f4
  go_enter Tryz.func20, Tryz.ntmps20
  go_wp2_with (first
    | (go_at_call 41; refine ka.mono ?_; rintro e w1 ⟨rfl, hb1⟩; have kc := cloneT_any (hok.ops.up hb1) hok.few; have hb := bthen hb0 hb0.size hb1)
    | (go_at_call 42; refine kc.mono ?_; rintro e w2 ⟨⟨A, c, rfl, hown⟩, hb2⟩))
  go_ret
  exact ⟨⟨A, c, rfl, own_base hown hb.size⟩, bthen hb hb.size hb2⟩

/-! which types there are -/
theorem list_dec11 (a b : ByteArray) : (a.toList == b.toList) = decide (a = b) := toList_inj
set_option maxRecDepth 100000 in
set_option maxHeartbeats 1000000 in
theorem indexS_any {A : Option Addr} {c : Nat} {l : List ByteArray} (h : Rd w w.heap.size 1 A l.length c (l.map Value.string)) (s : ByteArray) :
    Calls Tryz.prog 77 #[.slice A l.length c, .string s] w fun e w' => (∃ z : Int, e = .returned (.int .i64 z) ∧ decide (0 ≤ z) = l.any fun y => decide (y = s)) ∧ Below w.heap.size w w' := by
  have hl : (l.length : Int) ≤ 9223372036854775807 := by have := h.cap; have := h.capm; simp only [maxLen] at this; omega
  go_enter Tryz.func77, Tryz.ntmps77
  go_wp2_with fail
  go_loopw [8] (fun vi wx => ∃ i : Nat, vi = .int .i64 i ∧ i ≤ l.length ∧ (∀ y ∈ l.take i, decide (y = s) = false) ∧ Hid (wx = w)) (fun vi _ => l.length - (intOf vi).toNat)
  case atStart => exact ⟨0, rfl, Nat.zero_le _, fun t ht => (by simp at ht), Lib.hid rfl⟩
  case round =>
    obtain ⟨i, rfl, hi, hn, hwx⟩ := hrel
    have hwx2 := hwx.out
    subst hwx2
    by_cases hil : i < l.length
    · have hdi : (i : Int) < (l.length : Nat) := by omega
      obtain ⟨t, ht⟩ : ∃ t, l[i]? = some t := ⟨l[i], List.getElem?_eq_getElem hil⟩
      obtain ⟨b, o, u, rfl, hbl, hu, hc⟩ := h.get hil
      rw [List.getElem?_map, ht] at hu
      obtain rfl := Option.some.inj hu
      have hq := list_dec11 s t
      have hst : decide (s = t) = decide (t = s) := by rw [Bool.eq_iff_iff]; simp [eq_comm]
      rw [hst] at hq
      cases hd : decide (t = s) with
      | true =>
        rw [hd] at hq
        clear hst
        go_wp2_with fail
        go_ret
        exact ⟨⟨_, rfl, by rw [any_at ht hd]; exact decide_eq_true (by omega)⟩, Below.refl _ _⟩
      | false =>
        rw [hd] at hq
        clear hst
        go_wp2_with fail
        exact ⟨⟨i + 1, by go_num, by omega, take_all ht hn hd, Lib.hid trivial⟩, by simp [intOf]; omega⟩
    · have hdi : ¬ (i : Int) < (l.length : Nat) := by omega
      obtain rfl : i = l.length := by omega
      rw [List.take_length] at hn
      go_wp2_with fail
      go_ret
      exact ⟨⟨_, rfl, by rw [any_not hn]; decide⟩, Below.refl _ _⟩
set_option maxRecDepth 100000 in
set_option maxHeartbeats 400000 in
theorem thas_any {nr : Nat} {l : List ByteArray} (h : Rd w w.heap.size 1 Ay l.length cy (l.map Value.string)) (s : ByteArray) :
    Calls Tryz.prog 15 #[.agg #[.string tx, .slice Ay l.length cy, .map mb, .slice Ar nr cr], .string s] w fun e w' => e = .returned (.bool (l.any fun y => decide (y = s))) ∧ Below w.heap.size w w' := by
  have hb0 := bnew w (.cells #[.string tx, .slice Ay l.length cy, .map mb, .slice Ar nr cr] 27)
  have kC : ∀ W : World, Rd W W.heap.size 1 Ay l.length cy (l.map Value.string) → Calls Tryz.prog 40 #[.slice Ay l.length cy, .string s] W fun e w' => e = .returned (.bool (l.any fun y => decide (y = s))) ∧ Below W.heap.size W w' := by
    intro W hW
    have ki := indexS_any hW s
    go_enter Tryz.func40, Tryz.ntmps40
    go_wp2_with (go_at_call 77; refine ki.mono ?_; rintro e w1 ⟨⟨z, rfl, hz⟩, hb1⟩)
    by_cases h0 : 0 ≤ z
    · go_wp2
      go_ret
      exact ⟨by rw [← hz, decide_eq_true h0]; rfl, hb1⟩
    · go_wp2
      go_ret
      exact ⟨by rw [← hz]; rfl, hb1⟩
  have kc := kC _ (h.up hb0)
  go_enter Tryz.func15, Tryz.ntmps15
  go_wp2_with (go_at_call 40; refine kc.mono ?_; rintro e w1 ⟨rfl, hb1⟩)
  go_ret
  exact ⟨rfl, bthen hb0 hb0.size hb1⟩
end
end Go.Proofs.YteafdhpcnpfmkaaGreat
