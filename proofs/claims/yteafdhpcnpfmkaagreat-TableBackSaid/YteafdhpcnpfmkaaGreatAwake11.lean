/- Layer 11: the document's examples. Conditions: none. -/
import Derived.BigQuiet
import Derived.Deep.QuietTactic
import Derived.Deep.Cut
import Derived.Test.YteafdhpcnpfmkaaGreatCompW
import Derived.Test.YteafdhpcnpfmkaaGreatCompP
namespace Go.Proofs.YteafdhpcnpfmkaaGreat
open Go.RowKit

def exA : ByteArray := ⟨#[116, 121, 112, 101, 32, 116, 32, 123, 32, 114, 101, 108, 32, 97, 32, 40, 98, 44, 32, 97, 44, 32, 98, 41, 58, 32, 116, 59, 32, 114, 101, 108, 32, 98, 32, 40, 97, 44, 32, 97, 44, 32, 97, 41, 58, 32, 116, 44, 32, 116, 35, 97, 32, 105, 115, 32, 116, 104, 105, 115, 32, 45, 32, 97, 32, 124, 32, 97, 46, 98, 59, 32, 125]⟩
def exB : ByteArray := ⟨#[116, 121, 112, 101, 32, 116, 32, 123, 32, 114, 101, 108, 32, 97, 32, 40, 97, 44, 32, 97, 44, 32, 97, 41, 58, 32, 116, 32, 105, 115, 32, 116, 104, 105, 115, 32, 45, 32, 97, 59, 32, 125]⟩
def exC : ByteArray := ⟨#[116, 121, 112, 101]⟩
def TA11 : List TypP := [⟨⟨#[116]⟩, [⟨⟨#[97]⟩, ⟨#[98]⟩, ⟨#[97]⟩, ⟨#[98]⟩, [(⟨#[116]⟩, ⟨#[]⟩)], [(1, ⟨#[]⟩, ⟨#[]⟩)]⟩, ⟨⟨#[98]⟩, ⟨#[97]⟩, ⟨#[97]⟩, ⟨#[97]⟩, [(⟨#[116]⟩, ⟨#[]⟩), (⟨#[116]⟩, ⟨#[97]⟩)], [(1, ⟨#[]⟩, ⟨#[]⟩), (2, ⟨#[97]⟩, ⟨#[]⟩), (6, ⟨#[]⟩, ⟨#[]⟩), (3, ⟨#[97]⟩, ⟨#[98]⟩), (4, ⟨#[]⟩, ⟨#[]⟩)]⟩]⟩]
def TB11 : List TypP := [⟨⟨#[116]⟩, [⟨⟨#[97]⟩, ⟨#[97]⟩, ⟨#[97]⟩, ⟨#[97]⟩, [(⟨#[116]⟩, ⟨#[]⟩)], [(1, ⟨#[]⟩, ⟨#[]⟩), (2, ⟨#[97]⟩, ⟨#[]⟩), (6, ⟨#[]⟩, ⟨#[]⟩)]⟩]⟩]
def RA0 : RelT := ⟨⟨#[116]⟩, ⟨#[97]⟩, 1, 0, 1, 0, [(⟨#[116]⟩, ⟨#[]⟩)], [(1, 0, ⟨#[]⟩)]⟩
def RA1 : RelT := ⟨⟨#[116]⟩, ⟨#[98]⟩, 0, 0, 0, 1, [(⟨#[116]⟩, ⟨#[]⟩), (⟨#[116]⟩, ⟨#[97]⟩)], [(1, 0, ⟨#[]⟩), (2, 0, ⟨#[]⟩), (6, 0, ⟨#[]⟩), (3, 0, ⟨#[98]⟩), (4, 0, ⟨#[]⟩)]⟩
theorem exA_says : parseS exA = (TA11, 0, 0) := by decide +kernel
theorem exB_says : parseS exB = (TB11, 0, 0) := by decide +kernel
theorem exC_says : (parseS exC).2.1 = 30 := by decide +kernel
theorem exA_edges : edgesP (TA11.map typI) = [(1, 0, false), (1, 0, true), (1, 1, false)] := by decide +kernel
theorem exB_edges : edgesP (TB11.map typI) = [(0, 0, true)] := by decide +kernel
theorem exA_right : (checkE (TA11.map typI)).1 = 0 := by decide +kernel
theorem exB_right : (checkE (TB11.map typI)).1 = 0 := by decide +kernel
theorem exA_sol : Sol 2 (edgesP (TA11.map typI)) (fun i => if i = 0 then 0 else 1) := by
  rw [exA_edges]
  refine ⟨fun i _ => by dsimp only; split <;> omega, fun e he => ?_⟩
  simp only [List.mem_cons, List.not_mem_nil, or_false] at he
  rcases he with rfl | rfl | rfl <;> decide
theorem exA_size : ¬ 2048 < (showS TA11).size := by decide +kernel
theorem exA_rels (v : List Int) : relsTT (TA11.map typI) v = [relT11 (pathsOf (TA11.map typI)) (lvAt v 0) ((relsOf (TA11.map typI)).getD 0 (⟨⟨#[]⟩, []⟩, ⟨⟨#[]⟩, ⟨#[]⟩, ⟨#[]⟩, ⟨#[]⟩, [], []⟩)), relT11 (pathsOf (TA11.map typI)) (lvAt v 1) ((relsOf (TA11.map typI)).getD 1 (⟨⟨#[]⟩, []⟩, ⟨⟨#[]⟩, ⟨#[]⟩, ⟨#[]⟩, ⟨#[]⟩, [], []⟩))] := rfl
theorem exA_rel0 : relT11 (pathsOf (TA11.map typI)) 0 ((relsOf (TA11.map typI)).getD 0 (⟨⟨#[]⟩, []⟩, ⟨⟨#[]⟩, ⟨#[]⟩, ⟨#[]⟩, ⟨#[]⟩, [], []⟩)) = RA0 := by kernel_rfl
theorem exA_rel1 : relT11 (pathsOf (TA11.map typI)) 1 ((relsOf (TA11.map typI)).getD 1 (⟨⟨#[]⟩, []⟩, ⟨⟨#[]⟩, ⟨#[]⟩, ⟨#[]⟩, ⟨#[]⟩, [], []⟩)) = RA1 := by kernel_rfl
theorem compA {err : Nat} {tx : ByteArray} {ty : List ByteArray} {ps : List Path} {R : List RelT} (h : CompIs exA err tx ty ps R) : err = 0 ∧ ty = [⟨#[116]⟩] ∧ ps = [(⟨#[116]⟩, ⟨#[97]⟩), (⟨#[116]⟩, ⟨#[98]⟩)] ∧ R = [RA0, RA1] := by
  have e1 : (parseS exA).1 = TA11 := by rw [exA_says]
  have e2 : (parseS exA).2.1 = 0 := by rw [exA_says]
  have nc : ¬ Cyc (edgesP (TA11.map typI)) := fun hc => Cyc.none hc exA_sol
  cases h with
  | parse e h h0 => exact absurd (h.symm.trans e2) h0
  | check e h1 h h0 => rw [e1] at h; exact absurd (h.symm.trans exA_right) h0
  | cyc h1 hR hc => rw [e1] at hc; exact absurd hc nc
  | long h1 hR hc hz => rw [e1] at hz; exact absurd hz exA_size
  | ok h1 hR v hv hi hL hz =>
    rw [e1] at hv hi hL ⊢
    have hv2 : v.length = 2 := hv
    rw [hv2] at hL
    have k0 := hL.2 _ exA_sol 0 (by decide)
    have k1 := hL.2 _ exA_sol 1 (by decide)
    have k2 := hL.1.1 0 (by decide)
    have k3 := hL.1.2 (1, 0, true) (by rw [exA_edges]; decide)
    simp [fr, tt, rise] at k0 k1 k2 k3
    have v0 : lvAt v 0 = 0 := by omega
    have v1 : lvAt v 1 = 1 := by omega
    refine ⟨rfl, rfl, by decide +kernel, ?_⟩
    rw [exA_rels, v0, v1, exA_rel0, exA_rel1]
theorem compB {err : Nat} {tx : ByteArray} {ty : List ByteArray} {ps : List Path} {R : List RelT} (h : CompIs exB err tx ty ps R) : err = 33 := by
  have e1 : (parseS exB).1 = TB11 := by rw [exB_says]
  have e2 : (parseS exB).2.1 = 0 := by rw [exB_says]
  have hcy : Cyc (edgesP (TB11.map typI)) := ⟨(0, 0, true), by rw [exB_edges]; decide, rfl, .refl _⟩
  cases h with
  | parse e h h0 => exact absurd (h.symm.trans e2) h0
  | check e h1 h h0 => rw [e1] at h; exact absurd (h.symm.trans exB_right) h0
  | cyc h1 hR hc => rfl
  | long h1 hR hc hz => rw [e1] at hc; exact absurd hcy hc
  | ok h1 hR v hv hi hL hz => rw [e1] at hL; exact (Cyc.none hcy hL.1).elim
theorem compC {err : Nat} {tx : ByteArray} {ty : List ByteArray} {ps : List Path} {R : List RelT} (h : CompIs exC err tx ty ps R) : err = 30 := by
  have e2 := exC_says
  cases h with
  | parse e h h0 => exact h.symm.trans e2
  | check e h1 h h0 => rw [e2] at h1; cases h1
  | cyc h1 hR hc => rw [e2] at h1; cases h1
  | long h1 hR hc hz => rw [e2] at h1; cases h1
  | ok h1 hR v hv hi hL hz => rw [e2] at h1; cases h1
end Go.Proofs.YteafdhpcnpfmkaaGreat
/- Layer 11: the document's examples, walked. Conditions: none. -/
namespace Go.Proofs.YteafdhpcnpfmkaaGreat
open Go.RowKit

/-- The example's table. -/
structure TabX (w : World) (Ay : Option Addr) (cy : Nat) (ty : List ByteArray) (mb : Option Nat) (Ar : Option Addr) (cr : Nat) (K : List TabR) : Prop where
  tab : TabA w Ay cy ty mb [(⟨#[116]⟩, ⟨#[97]⟩), (⟨#[116]⟩, ⟨#[98]⟩)] Ar cr K
  tys : ty = [⟨#[116]⟩]
  rs : K.map (·.r) = [RA0, RA1]
theorem TabX.up {w w' : World} {Ay : Option Addr} {cy : Nat} {ty : List ByteArray} {mb : Option Nat} {Ar : Option Addr} {cr : Nat} {K : List TabR} (h : TabX w Ay cy ty mb Ar cr K) (hb : Below w.heap.size w w') : TabX w' Ay cy ty mb Ar cr K := ⟨h.tab.up hb, h.tys, h.rs⟩
theorem TabX.at0 {w : World} {Ay : Option Addr} {cy : Nat} {ty : List ByteArray} {mb : Option Nat} {Ar : Option Addr} {cr : Nat} {K : List TabR} (h : TabX w Ay cy ty mb Ar cr K) : (atK K 0).r = RA0 ∧ (atK K 1).r = RA1 ∧ K.length = 2 := by
  have hl : K.length = 2 := by have := congrArg List.length h.rs; rwa [List.length_map] at this
  match K, hl, h.rs with
  | [x, y], _, hr =>
    simp only [List.map_cons, List.map_nil, List.cons.injEq, and_true] at hr
    exact ⟨hr.1, hr.2, rfl⟩
def cellsA : List Value := [.int .i64 1, .int .i64 0, .string ⟨#[]⟩, .int .i64 2, .int .i64 0, .string ⟨#[]⟩, .int .i64 6, .int .i64 0, .string ⟨#[]⟩, .int .i64 3, .int .i64 0, .string ⟨#[98]⟩, .int .i64 4, .int .i64 0, .string ⟨#[]⟩]
section
variable {w : World} {tx : ByteArray} {Ay : Option Addr} {cy : Nat} {ty : List ByteArray} {mb : Option Nat} {Ar : Option Addr} {cr : Nat} {K : List TabR}
theorem xlen (h : TabX w Ay cy ty mb Ar cr K) : Calls Tryz.prog 11 #[.agg #[.string tx, .slice Ay ty.length cy, .map mb, .slice Ar K.length cr]] w fun e w' => e = .returned (.int .i64 2) ∧ Below w.heap.size w w' := by
  have k := tlen_any (tx := tx) (Ay := Ay) (ny := ty.length) (cy := cy) (mb := mb) h.tab.rels
  refine k.mono fun e w' ⟨he, hb⟩ => ⟨?_, hb⟩
  rw [he, h.at0.2.2]
  rfl
theorem xhas (h : TabX w Ay cy ty mb Ar cr K) : Calls Tryz.prog 15 #[.agg #[.string tx, .slice Ay ty.length cy, .map mb, .slice Ar K.length cr], .string ⟨#[116]⟩] w fun e w' => e = .returned (.bool true) ∧ Below w.heap.size w w' := by
  have k := thas_any (tx := tx) (mb := mb) (Ar := Ar) (cr := cr) (nr := K.length) h.tab.types ⟨#[116]⟩
  have e1 : (ty.any fun y => decide (y = (⟨#[116]⟩ : ByteArray))) = true := by rw [h.tys]; rfl
  rw [e1] at k
  exact k
theorem xidb (h : TabX w Ay cy ty mb Ar cr K) : Calls Tryz.prog 25 #[.agg #[.string tx, .slice Ay ty.length cy, .map mb, .slice Ar K.length cr], .string ⟨#[116]⟩, .string ⟨#[98]⟩] w fun e w' => e = .returned (.tuple #[.int .i64 1, .bool true]) ∧ Below w.heap.size w w' :=
  tid_any (tx := tx) (Ay := Ay) (ny := ty.length) (cy := cy) (Ar := Ar) (cr := cr) (nr := K.length) h.tab.ids ⟨#[116]⟩ ⟨#[98]⟩ (by decide) (by decide)
theorem xidx (h : TabX w Ay cy ty mb Ar cr K) : Calls Tryz.prog 25 #[.agg #[.string tx, .slice Ay ty.length cy, .map mb, .slice Ar K.length cr], .string ⟨#[116]⟩, .string ⟨#[120]⟩] w fun e w' => e = .returned (.tuple #[.int .i64 0, .bool false]) ∧ Below w.heap.size w w' :=
  tid_any (tx := tx) (Ay := Ay) (ny := ty.length) (cy := cy) (Ar := Ar) (cr := cr) (nr := K.length) h.tab.ids ⟨#[116]⟩ ⟨#[120]⟩ (by decide) (by decide)
theorem xmetas (h : TabX w Ay cy ty mb Ar cr K) : Calls Tryz.prog 19 #[.agg #[.string tx, .slice Ay ty.length cy, .map mb, .slice Ar K.length cr], .int .i64 0] w fun e w' => e = .returned (.tuple #[.int .i64 1, .int .i64 0, .int .i64 1]) ∧ Below w.heap.size w w' := by
  have k := tmetas_any (tx := tx) (Ay := Ay) (ny := ty.length) (cy := cy) (mb := mb) h.tab.rels 0 (by decide)
  rw [h.at0.1] at k
  exact k
theorem xlevel0 (h : TabX w Ay cy ty mb Ar cr K) : Calls Tryz.prog 23 #[.agg #[.string tx, .slice Ay ty.length cy, .map mb, .slice Ar K.length cr], .int .i64 0] w fun e w' => e = .returned (.int .i64 0) ∧ Below w.heap.size w w' := by
  have k := tlevel_any (tx := tx) (Ay := Ay) (ny := ty.length) (cy := cy) (mb := mb) h.tab.rels 0 (by decide)
  rw [h.at0.1] at k
  exact k
theorem xlevel1 (h : TabX w Ay cy ty mb Ar cr K) : Calls Tryz.prog 23 #[.agg #[.string tx, .slice Ay ty.length cy, .map mb, .slice Ar K.length cr], .int .i64 1] w fun e w' => e = .returned (.int .i64 1) ∧ Below w.heap.size w w' := by
  have k := tlevel_any (tx := tx) (Ay := Ay) (ny := ty.length) (cy := cy) (mb := mb) h.tab.rels 1 (by decide)
  rw [h.at0.2.1] at k
  exact k
theorem xpath (h : TabX w Ay cy ty mb Ar cr K) : Calls Tryz.prog 17 #[.agg #[.string tx, .slice Ay ty.length cy, .map mb, .slice Ar K.length cr], .int .i64 1] w fun e w' => e = .returned (.tuple #[.string ⟨#[116]⟩, .string ⟨#[98]⟩]) ∧ Below w.heap.size w w' := by
  have k := tpath_any (tx := tx) (Ay := Ay) (ny := ty.length) (cy := cy) (mb := mb) h.tab.rels 1 (by decide)
  rw [h.at0.2.1] at k
  exact k
theorem xmay0 (h : TabX w Ay cy ty mb Ar cr K) : Calls Tryz.prog 21 #[.agg #[.string tx, .slice Ay ty.length cy, .map mb, .slice Ar K.length cr], .int .i64 0, .string ⟨#[116]⟩, .string ⟨#[97]⟩] w fun e w' => e = .returned (.bool false) ∧ Below w.heap.size w w' := by
  have k := tmay_any (tx := tx) (Ay := Ay) (ny := ty.length) (cy := cy) (mb := mb) h.tab.rels 0 (by decide) ⟨#[116]⟩ ⟨#[97]⟩
  rw [h.at0.1] at k
  exact k
theorem xmay1 (h : TabX w Ay cy ty mb Ar cr K) : Calls Tryz.prog 21 #[.agg #[.string tx, .slice Ay ty.length cy, .map mb, .slice Ar K.length cr], .int .i64 1, .string ⟨#[116]⟩, .string ⟨#[97]⟩] w fun e w' => e = .returned (.bool true) ∧ Below w.heap.size w w' := by
  have k := tmay_any (tx := tx) (Ay := Ay) (ny := ty.length) (cy := cy) (mb := mb) h.tab.rels 1 (by decide) ⟨#[116]⟩ ⟨#[97]⟩
  rw [h.at0.2.1] at k
  exact k
theorem xops (h : TabX w Ay cy ty mb Ar cr K) : Calls Tryz.prog 20 #[.agg #[.string tx, .slice Ay ty.length cy, .map mb, .slice Ar K.length cr], .int .i64 1] w fun e w' => (∃ A c, e = .returned (.slice A 5 c) ∧ Rd w' w'.heap.size 3 A 5 c cellsA) ∧ Below w.heap.size w w' := by
  have k := tops_any (tx := tx) (Ay := Ay) (ny := ty.length) (cy := cy) (mb := mb) h.tab.rels 1 (by decide)
  rw [h.at0.2.1] at k
  refine k.mono fun e w' ⟨⟨A, c, he, ho⟩, hb⟩ => ⟨⟨A, c, he, ?_⟩, hb⟩
  obtain ⟨A2, c2, e2, r2⟩ := Rd.own ho
  cases e2
  exact r2
theorem compA_any (w : World) : Calls Tryz.prog 9 #[.string exA] w fun e w' => (∃ tx Ay cy ty mb Ar cr K, e = .returned (.tuple #[.agg #[.string tx, .slice Ay ty.length cy, .map mb, .slice Ar K.length cr], .int .i64 0]) ∧ TabX w' Ay cy ty mb Ar cr K) ∧ Below w.heap.size w w' := by
  refine (compile_any exA (by decide) w).mono fun e w' ⟨⟨tx, Ay, cy, ty, mb, ps, Ar, cr, K, err, he, hT, hC⟩, hb⟩ => ⟨⟨tx, Ay, cy, ty, mb, Ar, cr, K, ?_⟩, hb⟩
  obtain ⟨rfl, h2, rfl, h4⟩ := compA hC
  exact ⟨he, hT, h2, h4⟩
theorem compB_any (w : World) : Calls Tryz.prog 9 #[.string exB] w fun e w' => (∃ tx Ay ny cy mb Ar nr cr, e = .returned (.tuple #[.agg #[.string tx, .slice Ay ny cy, .map mb, .slice Ar nr cr], .int .i64 33])) ∧ Below w.heap.size w w' := by
  refine (compile_any exB (by decide) w).mono fun e w' ⟨⟨tx, Ay, cy, ty, mb, ps, Ar, cr, K, err, he, hT, hC⟩, hb⟩ => ⟨⟨tx, Ay, ty.length, cy, mb, Ar, K.length, cr, ?_⟩, hb⟩
  rw [compB hC] at he
  exact he
theorem compC_any (w : World) : Calls Tryz.prog 9 #[.string exC] w fun e w' => (∃ tx Ay ny cy mb Ar nr cr, e = .returned (.tuple #[.agg #[.string tx, .slice Ay ny cy, .map mb, .slice Ar nr cr], .int .i64 30])) ∧ Below w.heap.size w w' := by
  refine (compile_any exC (by decide) w).mono fun e w' ⟨⟨tx, Ay, cy, ty, mb, ps, Ar, cr, K, err, he, hT, hC⟩, hb⟩ => ⟨⟨tx, Ay, ty.length, cy, mb, Ar, K.length, cr, ?_⟩, hb⟩
  rw [compC hC] at he
  exact he
end
theorem cellO {w : World} {b o c : Nat} (h : Rd w w.heap.size 3 (some ⟨b, o, none⟩) 5 c cellsA) (j : Nat) (u : Value) (hj : cellsA[j]? = some u) : w.cell? ⟨b, o + j, none⟩ = some u := by
  obtain ⟨b', o', e, _, hc⟩ := h.at_ (by omega)
  injection e with e
  injection e with e1 e2 _
  subst e1
  subst e2
  exact hc j u hj
set_option maxRecDepth 100000 in
set_option maxHeartbeats 1000000 in
theorem awake11_any (w : World) : Calls Tryz.prog 8 #[] w fun e w' => e = .returned (.bool true) ∧ Below w.heap.size w w' := by
  have kA := compA_any w
  have kB := fun W => compB_any W
  have kC := fun W => compC_any W
  unfold exA at kA
  unfold exB at kB
  unfold exC at kC
  go_enter Tryz.func8, Tryz.ntmps8
  go_upto_region 2 with (go_at_call 9; refine kA.mono ?_; rintro e w1 ⟨⟨tx, Ay, cy, ty, mb, Ar, cr, K, rfl, hT⟩, hb⟩)
  have dT := Bk.new w1 #[.string tx, .slice Ay ty.length cy, .map mb, .slice Ar K.length cr] 27
  have hbn := bnewZ w1 (.cells #[.string tx, .slice Ay ty.length cy, .map mb, .slice Ar K.length cr] 27)
  replace hT := hT.up hbn
  replace hb := bthenZ hb hb.size hbn
  clear hbn kA
  generalize w1.alloc (.cells #[.string tx, .slice Ay ty.length cy, .map mb, .slice Ar K.length cr] 27) = w2 at *
  generalize w1.heap.size = g1 at *
  go_upto_region 3 with (go_at_call 9; refine (kB _).mono ?_; rintro e w3 ⟨⟨tx3, Ay3, ny3, cy3, mb3, Ar3, nr3, cr3, rfl⟩, hb3⟩)
  replace hb3 := hb3.alloc hb3.size (.cells #[.string tx3, .slice Ay3 ny3 cy3, .map mb3, .slice Ar3 nr3 cr3] 27)
  replace hT := hT.up hb3
  replace dT := dT.below hb3
  replace hb := bthenZ hb hb.size hb3
  clear hb3 kB
  generalize w3.alloc (.cells #[.string tx3, .slice Ay3 ny3 cy3, .map mb3, .slice Ar3 nr3 cr3] 27) = w4 at *
  generalize w3.heap.size = g3 at *
  go_upto_region 4 with (go_at_call 9; refine (kC _).mono ?_; rintro e w5 ⟨⟨tx5, Ay5, ny5, cy5, mb5, Ar5, nr5, cr5, rfl⟩, hb3⟩)
  replace hb3 := hb3.alloc hb3.size (.cells #[.string tx5, .slice Ay5 ny5 cy5, .map mb5, .slice Ar5 nr5 cr5] 27)
  replace hT := hT.up hb3
  replace dT := dT.below hb3
  replace hb := bthenZ hb hb.size hb3
  clear hb3 kC
  generalize w5.alloc (.cells #[.string tx5, .slice Ay5 ny5 cy5, .map mb5, .slice Ar5 nr5 cr5] 27) = w6 at *
  generalize w5.heap.size = g5 at *
  obtain ⟨c0, c1, c2, c3⟩ := dT.c4
  have cl := dT.lt
  have kk := xidb (tx := tx) hT
  go_upto_region 5 with (go_at_call 25; refine kk.mono ?_; rintro e wn ⟨rfl, hb3⟩)
  replace hT := hT.up hb3
  replace dT := dT.below hb3
  replace hb := bthenZ hb hb.size hb3
  clear hb3 kk c0 c1 c2 c3 cl
  obtain ⟨c0, c1, c2, c3⟩ := dT.c4
  have cl := dT.lt
  have kk := xidx (tx := tx) hT
  go_upto_region 6 with (go_at_call 25; refine kk.mono ?_; rintro e wn ⟨rfl, hb3⟩)
  replace hT := hT.up hb3
  replace dT := dT.below hb3
  replace hb := bthenZ hb hb.size hb3
  clear hb3 kk c0 c1 c2 c3 cl
  obtain ⟨c0, c1, c2, c3⟩ := dT.c4
  have cl := dT.lt
  have kk := xmetas (tx := tx) hT
  go_upto_region 7 with (go_at_call 19; refine kk.mono ?_; rintro e wn ⟨rfl, hb3⟩)
  replace hT := hT.up hb3
  replace dT := dT.below hb3
  replace hb := bthenZ hb hb.size hb3
  clear hb3 kk c0 c1 c2 c3 cl
  obtain ⟨c0, c1, c2, c3⟩ := dT.c4
  have cl := dT.lt
  have kk := xops (tx := tx) hT
  go_upto_region 8 with (go_at_call 20; refine kk.mono ?_; rintro e wn ⟨⟨Ao, co, rfl, hO⟩, hb3⟩)
  replace hT := hT.up hb3
  replace dT := dT.below hb3
  replace hb := bthenZ hb hb.size hb3
  clear hb3 kk c0 c1 c2 c3 cl
  obtain ⟨c0, c1, c2, c3⟩ := dT.c4
  have cl := dT.lt
  obtain ⟨bo, oo, rfl, _, _⟩ := hO.at_ (by omega)
  have o0 := cellO hO 6 _ rfl
  have o1 := cellO hO 9 _ rfl
  have o2 := cellO hO 10 _ rfl
  have o3 := cellO hO 11 _ rfl
  go_upto_region 9 with (first
    | (go_at_call 17; with_reducible refine (xpath (tx := tx) hT).mono ?_; rintro e wn ⟨rfl, hb3⟩; replace hT := hT.up hb3; replace dT := dT.below hb3; replace hO := hO.up hb3; replace hb := bthenZ hb hb.size hb3; obtain ⟨c0, c1, c2, c3⟩ := dT.c4; have cl := dT.lt; have o0 := cellO hO 6 _ rfl; have o1 := cellO hO 9 _ rfl; have o2 := cellO hO 10 _ rfl; have o3 := cellO hO 11 _ rfl; clear hb3))
  clear o0 o1 o2 o3
  have o0 := cellO hO 6 _ rfl
  have o1 := cellO hO 9 _ rfl
  have o2 := cellO hO 10 _ rfl
  have o3 := cellO hO 11 _ rfl
  simp only [List.append]
  go_wp2_with (first
    | (go_at_call 23; with_reducible refine (xlevel1 (tx := tx) hT).mono ?_; rintro e wn ⟨rfl, hb3⟩; replace hT := hT.up hb3; replace dT := dT.below hb3; replace hO := hO.up hb3; replace hb := bthenZ hb hb.size hb3; obtain ⟨c0, c1, c2, c3⟩ := dT.c4; have cl := dT.lt; have o0 := cellO hO 6 _ rfl; have o1 := cellO hO 9 _ rfl; have o2 := cellO hO 10 _ rfl; have o3 := cellO hO 11 _ rfl; clear hb3)
    | (go_at_call 23; with_reducible refine (xlevel0 (tx := tx) hT).mono ?_; rintro e wn ⟨rfl, hb3⟩; replace hT := hT.up hb3; replace dT := dT.below hb3; replace hO := hO.up hb3; replace hb := bthenZ hb hb.size hb3; obtain ⟨c0, c1, c2, c3⟩ := dT.c4; have cl := dT.lt; have o0 := cellO hO 6 _ rfl; have o1 := cellO hO 9 _ rfl; have o2 := cellO hO 10 _ rfl; have o3 := cellO hO 11 _ rfl; clear hb3)
    | (go_at_call 21; with_reducible refine (xmay1 (tx := tx) hT).mono ?_; rintro e wn ⟨rfl, hb3⟩; replace hT := hT.up hb3; replace dT := dT.below hb3; replace hO := hO.up hb3; replace hb := bthenZ hb hb.size hb3; obtain ⟨c0, c1, c2, c3⟩ := dT.c4; have cl := dT.lt; have o0 := cellO hO 6 _ rfl; have o1 := cellO hO 9 _ rfl; have o2 := cellO hO 10 _ rfl; have o3 := cellO hO 11 _ rfl; clear hb3)
    | (go_at_call 21; with_reducible refine (xmay0 (tx := tx) hT).mono ?_; rintro e wn ⟨rfl, hb3⟩; replace hT := hT.up hb3; replace dT := dT.below hb3; replace hO := hO.up hb3; replace hb := bthenZ hb hb.size hb3; obtain ⟨c0, c1, c2, c3⟩ := dT.c4; have cl := dT.lt; have o0 := cellO hO 6 _ rfl; have o1 := cellO hO 9 _ rfl; have o2 := cellO hO 10 _ rfl; have o3 := cellO hO 11 _ rfl; clear hb3)
    | (go_at_call 11; with_reducible refine (xlen (tx := tx) hT).mono ?_; rintro e wn ⟨rfl, hb3⟩; replace hT := hT.up hb3; replace dT := dT.below hb3; replace hO := hO.up hb3; replace hb := bthenZ hb hb.size hb3; obtain ⟨c0, c1, c2, c3⟩ := dT.c4; have cl := dT.lt; have o0 := cellO hO 6 _ rfl; have o1 := cellO hO 9 _ rfl; have o2 := cellO hO 10 _ rfl; have o3 := cellO hO 11 _ rfl; clear hb3)
    | (go_at_call 15; with_reducible refine (xhas (tx := tx) hT).mono ?_; rintro e wn ⟨rfl, hb3⟩; replace hT := hT.up hb3; replace dT := dT.below hb3; replace hO := hO.up hb3; replace hb := bthenZ hb hb.size hb3; obtain ⟨c0, c1, c2, c3⟩ := dT.c4; have cl := dT.lt; have o0 := cellO hO 6 _ rfl; have o1 := cellO hO 9 _ rfl; have o2 := cellO hO 10 _ rfl; have o3 := cellO hO 11 _ rfl; clear hb3))
  go_ret
  exact ⟨rfl, hb⟩
end Go.Proofs.YteafdhpcnpfmkaaGreat
