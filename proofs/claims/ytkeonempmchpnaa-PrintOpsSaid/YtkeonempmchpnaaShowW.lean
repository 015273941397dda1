/- Layer 8: Show: a schema as a text. Conditions: names and lists aren't too long, and neither is the text. -/
import Derived.Test.YtkeonempmchpnaaShown
namespace Go.Proofs.Ytkeonempmchpnaa
open Go.RowKit

def lineS (x : RelP) : ByteArray := (⟨#[9]⟩ : ByteArray) ++ relS x ++ ⟨#[10]⟩
def topS (t : TypP) : ByteArray := (⟨#[116, 121, 112, 101, 32]⟩ : ByteArray) ++ t.name ++ ⟨#[32, 123, 10]⟩
def typS (t : TypP) : ByteArray := topS t ++ catL (t.rels.map lineS) ++ ⟨#[125, 10]⟩
def showS (T : List TypP) : ByteArray := catL (T.map typS)
theorem cat_at {α : Type} (f : α → ByteArray) {l : List α} {i : Nat} {x : α} (h : l[i]? = some x) : catL ((l.take (i + 1)).map f) = catL ((l.take i).map f) ++ f x ∧ (catL ((l.take i).map f)).size + (f x).size ≤ (catL (l.map f)).size := by
  have e : catL ((l.take (i + 1)).map f) = catL ((l.take i).map f) ++ f x := by
    rw [take_snoc8 h, List.map_append, catL_app]
    show _ ++ (f x ++ ⟨#[]⟩) = _
    rw [app_nil]
  refine ⟨e, ?_⟩
  have h2 : catL (l.map f) = catL ((l.take (i + 1)).map f) ++ catL ((l.drop (i + 1)).map f) := by rw [← catL_app, ← List.map_append, List.take_append_drop]
  rw [h2, e, size_app, size_app]
  omega
/-- A builder that holds a text. -/
def Bld (b : Nat) (txt : ByteArray) (w : World) : Prop := Lib.IsBuilderF 93 5 b b (Lib.byteCells txt.data.toList) w
theorem Bld.below {b : Nat} {txt : ByteArray} {w w' : World} (h : Bld b txt w) (hb : Below w.heap.size w w') : Bld b txt w' := by
  have key : ∀ p, Lib.BuilderAtF 93 5 b b p (Lib.byteCells txt.data.toList) w → Lib.BuilderAtF 93 5 b b p (Lib.byteCells txt.data.toList) w' := by
    rintro p ⟨h1, v, h2, h3, h4⟩
    have hlt : b < w.heap.size := (Array.getElem?_eq_some_iff.1 h2).1
    refine ⟨h1, v, (hb.block b hlt).trans h2, ?_, h4⟩
    obtain ⟨a1, a2⟩ := h3
    refine ⟨a1, ?_⟩
    rcases a2 with a2 | ⟨g, cap, cur, fz, a3, a4, a5, a6⟩
    · exact .inl a2
    · exact .inr ⟨g, cap, cur, fz, a3, a4, (hb.block g (Array.getElem?_eq_some_iff.1 a5).1).trans a5, a6⟩
  exact h.imp (key _) (key _)
theorem bwrite8 {b : Nat} {txt : ByteArray} {w : World} (s : ByteArray) (h : Bld b txt w) (hz : txt.size + s.size ≤ 100000000000000) (hb : b ≤ w.heap.size) :
    Calls Try.prog 32 #[.pointer (some ⟨b, 0, none⟩), .string s] w fun e w' => e = .returned (.tuple #[.int .i64 s.size, .nilIface]) ∧ Bld b (txt ++ s) w' ∧ Below b w w' ∧ Lib.OthersKept 5 (some b) w w' := by
  refine (bwrite_any b b _ s w h (by rw [Lib.byteCells_length, Array.length_toList]; show txt.size + s.size ≤ _; omega) hb).mono ?_
  rintro e w' ⟨rfl, h2, h3, h4⟩
  refine ⟨rfl, .inr ?_, h3, h4⟩
  have : Lib.byteCells (txt ++ s).data.toList = Lib.byteCells txt.data.toList ++ Lib.strCells s := by
    unfold Lib.byteCells Lib.strCells
    rw [ByteArray.data_append, Array.toList_append, List.map_append]
  rw [this]
  exact h2
theorem bstring8 {b : Nat} {txt : ByteArray} {w : World} (h : Bld b txt w) (hb : b ≤ w.heap.size) :
    Calls Try.prog 34 #[.pointer (some ⟨b, 0, none⟩)] w fun e w' => e = .returned (.string txt) ∧ Below b w w' := by
  refine (bstring_any b b _ w h hb).mono ?_
  rintro e w' ⟨rfl, h2, h3, h4⟩
  exact ⟨rfl, h3⟩
theorem kept_bk {b k : Nat} {w w' : World} {cs : Array Value} {t : TypeId} (h : Lib.OthersKept 5 (some b) w w') (hk : Bk w k cs t) (hne : k ≠ b) (ht : t ≠ 5) : Bk w' k cs t :=
  h k _ hk (fun e => hne (by injection e)) fun c fz e => ht (by injection e)
structure SmlT (t : TypP) : Prop where
  name : t.name.size ≤ 1000
  rels : t.rels.length ≤ 1000000 ∧ ∀ x ∈ t.rels, Sml x
set_option maxRecDepth 100000 in
set_option maxHeartbeats 4000000 in
theorem show_any8 {w : World} {B : Nat} {A : Option Addr} {c : Nat} {T : List TypP} (hv : VTyps B w (.slice A T.length c) T) (hT : T.length ≤ 1000000) (hs : ∀ t ∈ T, SmlT t) (hz : (showS T).size ≤ 90000000000000) :
    Calls Try.prog 17 #[.agg #[.slice A T.length c]] w fun e w' => e = .returned (.string (showS T)) ∧ Below w.heap.size w w' := by
  have HS := Lib.hid hs
  clear hs
  have hbx := (Bk.new w #[.slice A T.length c] 25).alloc (.cells #[.pointer none, .slice none 0 0] 93)
  have hbb : Bld (w.heap.size + 1) ⟨#[]⟩ ((w.alloc (.cells #[.slice A T.length c] 25)).alloc (.cells #[.pointer none, .slice none 0 0] 93)) := by
    have h := Lib.fresh_isBuilder 93 5 (w.alloc (.cells #[.slice A T.length c] 25))
    rw [show (w.alloc (.cells #[.slice A T.length c] 25)).heap.size = w.heap.size + 1 by simp] at h
    exact Lib.IsBuilderF.of h
  have hB0 : Below w.heap.size w ((w.alloc (.cells #[.slice A T.length c] 25)).alloc (.cells #[.pointer none, .slice none 0 0] 93)) := ((Below.refl _ w).alloc (Nat.le_refl _) _).alloc (by simp) _
  have hs0 : ((w.alloc (.cells #[.slice A T.length c] 25)).alloc (.cells #[.pointer none, .slice none 0 0] 93)).heap.size = w.heap.size + 2 := by simp
  have hv0 := hv.below hB0
  have hvz : ∀ t i, T[i]? = some t → ∃ g vr, A = some ⟨g, 0, none⟩ ∧ g < w.heap.size ∧ VRels B w vr t.rels ∧ w.cell? ⟨g, i * 2, none⟩ = some (.string t.name) ∧ w.cell? ⟨g, i * 2 + 1, none⟩ = some vr := by
    intro t i hi
    obtain ⟨g, c2, vr, e1, hr, g0, g1⟩ := hv.get hi
    cases e1
    exact ⟨g, vr, rfl, World.block_lt_of_cell? _ _ g0, hr, g0, g1⟩
  have HV := Lib.hid hvz
  clear hv hv0 hvz
  go_enter Try.func17, Try.ntmps17
  go_wp2_with fail
  generalize (w.alloc (.cells #[.slice A T.length c] 25)).alloc (.cells #[.pointer none, .slice none 0 0] 93) = W0 at *
  go_loopw [11] (fun vi wr => ∃ i : Nat, vi = .int .i64 i ∧ i ≤ T.length ∧ Bld (w.heap.size + 1) (catL ((T.take i).map typS)) wr ∧ Below (w.heap.size + 1) W0 wr) (fun vi _ => T.length - (intOf vi).toNat)
  case atStart => exact ⟨0, rfl, Nat.zero_le _, hbb, Below.refl _ _⟩
  case round =>
    clear hbb
    obtain ⟨i, rfl, hi, hL, hb⟩ := hrel
    have hz1 := hb.size
    by_cases hil : i < T.length
    · obtain ⟨t, ht⟩ : ∃ t, T[i]? = some t := ⟨T[i], List.getElem?_eq_getElem hil⟩
      obtain ⟨hn, hr1, hr2⟩ := HS.out t (List.mem_of_getElem? ht)
      obtain ⟨hc1, hc2⟩ := cat_at typS ht
      obtain ⟨g, vr, rfl, hg, hr, g0, g1⟩ := HV.out t i ht
      obtain ⟨Ar, cr, rfl, _⟩ := Rd.own hr.choose_spec.1
      have hbw : Below w.heap.size w wr := hB0.trans (hb.mono (by omega))
      have q0 := (hbw.cell (p := ⟨g, i * 2, none⟩) hg).trans g0
      have q1 := (hbw.cell (p := ⟨g, i * 2 + 1, none⟩) hg).trans g1
      have hdi : (i : Int) < (T.length : Nat) := by omega
      have htz : (topS t).size ≤ 1010 ∧ (topS t).size ≤ (typS t).size := by
        constructor
        · unfold topS; rw [size_app, size_app]; show 5 + _ + 3 ≤ _; omega
        · unfold typS; rw [size_app, size_app]; omega
      have hzt : (showS T).size = (catL (T.map typS)).size := rfl
      have HT : Hid (topS t = (⟨#[116, 121, 112, 101, 32]⟩ : ByteArray) ++ t.name ++ ⟨#[32, 123, 10]⟩) := Lib.hid rfl
      have hal : Below wr.heap.size wr (wr.alloc (.cells #[.string t.name, .slice Ar t.rels.length cr] 45)) := (Below.refl _ wr).alloc (Nat.le_refl _) _
      have hL2 := hL.below hal
      have hb2 := hb.trans (hal.mono (by omega))
      have hbt := Bk.new wr #[.string t.name, .slice Ar t.rels.length cr] 45
      have x0 : World.cell? _ ⟨wr.heap.size, 0, none⟩ = some (.string t.name) := hbt.cell 0
      have lx := hbt.lt
      have kw := bwrite8 (topS t) hL2 (by omega) (by omega)
      rw [HT.out] at kw
      clear hL hal hbw g0 g1
      go_wp2_with fail
      generalize wr.alloc (.cells #[.string t.name, .slice Ar t.rels.length cr] 45) = W1 at *
      refine kw.mono ?_
      rintro e W2 ⟨rfl, hL3, hb3, hk3⟩
      rw [← HT.out] at hL3
      have hb4 := hb2.trans hb3
      have hbt2 := kept_bk hk3 hbt (by omega) (by decide)
      have y1 : W2.cell? ⟨wr.heap.size, 1, none⟩ = some (.slice Ar t.rels.length cr) := hbt2.cell 1
      have ly := hbt2.lt
      clear kw hL2 hb2 hb3 hk3 hbt x0 lx hbt2 q0 q1
      obtain ⟨P, hP⟩ : ∃ p, catL ((T.take i).map typS) ++ topS t = p := ⟨_, rfl⟩
      rw [hP] at hL3
      have hPz : P.size + (catL (t.rels.map lineS)).size + 2 ≤ (showS T).size := by
        rw [← hP, size_app, hzt]
        have : (typS t).size = (topS t).size + (catL (t.rels.map lineS)).size + 2 := by unfold typS; rw [size_app, size_app]; rfl
        omega
      have hty : P ++ catL (t.rels.map lineS) ++ ⟨#[125, 10]⟩ = catL ((T.take (i + 1)).map typS) := by
        rw [hc1, ← hP]
        unfold typS
        simp only [app_assoc]
      have HTY := Lib.hid hty
      clear hty
      go_wp2_with fail
      go_loopw [23] (fun vk wy => ∃ k : Nat, vk = .int .i64 k ∧ k ≤ t.rels.length ∧ Bld (w.heap.size + 1) (P ++ catL ((t.rels.take k).map lineS)) wy ∧ Below (w.heap.size + 1) W0 wy) (fun vk _ => t.rels.length - (intOf vk).toNat)
      case atStart => exact ⟨0, rfl, Nat.zero_le _, (by rw [show catL ((t.rels.take 0).map lineS) = ⟨#[]⟩ from rfl, app_nil]; exact hL3), hb4⟩
      case round =>
        clear hL3 hb4 y1 ly
        obtain ⟨k, rfl, hk, hL, hb⟩ := hrel
        have hz2 := hb.size
        by_cases hkl : k < t.rels.length
        · obtain ⟨x, hx⟩ : ∃ x, t.rels[k]? = some x := ⟨t.rels[k], List.getElem?_eq_getElem hkl⟩
          have hsx := hr2 x (List.mem_of_getElem? hx)
          obtain ⟨hd1, hd2⟩ := cat_at lineS hx
          obtain ⟨gr, c3, vs, vo, e1, hs, ho, r0, r1, r2, r3, r4, r5⟩ := hr.get hx
          cases e1
          obtain ⟨As, cS, rfl, rs⟩ := Rd.own hs
          obtain ⟨Ao, cO, rfl, ro⟩ := Rd.own ho
          have hgr := World.block_lt_of_cell? _ _ r0
          dsimp only at hgr
          have hbw : Below w.heap.size w wr := hB0.trans (hb.mono (by omega))
          have s0 := (hbw.cell (p := ⟨gr, k * 6, none⟩) hgr).trans r0
          have s1 := (hbw.cell (p := ⟨gr, k * 6 + 1, none⟩) hgr).trans r1
          have s2 := (hbw.cell (p := ⟨gr, k * 6 + 2, none⟩) hgr).trans r2
          have s3 := (hbw.cell (p := ⟨gr, k * 6 + 3, none⟩) hgr).trans r3
          have s4 := (hbw.cell (p := ⟨gr, k * 6 + 4, none⟩) hgr).trans r4
          have s5 := (hbw.cell (p := ⟨gr, k * 6 + 5, none⟩) hgr).trans r5
          have hdk : (k : Int) < (t.rels.length : Nat) := by omega
          have hal : Below wr.heap.size wr (wr.alloc (.cells #[.string x.name, .string x.view, .string x.edit, .string x.check, .slice As x.subs.length cS, .slice Ao x.ops.length cO] 42)) := (Below.refl _ wr).alloc (Nat.le_refl _) _
          have hL2 := hL.below hal
          have hb2 := hb.trans (hal.mono (by omega))
          have hbx := Bk.new wr #[.string x.name, .string x.view, .string x.edit, .string x.check, .slice As x.subs.length cS, .slice Ao x.ops.length cO] 42
          have z0 := hbx.cell 0
          have z1 := hbx.cell 1
          have z2 := hbx.cell 2
          have z3 := hbx.cell 3
          have z4 := hbx.cell 4
          have z5 := hbx.cell 5
          have lz := hbx.lt
          have hzw : w.heap.size ≤ wr.heap.size := by omega
          have hbw2 := hbw.trans (hal.mono hzw)
          have hrs := (rs.below hbw2).more hbw2.size
          have hro := (ro.below hbw2).more hbw2.size
          have hlz : (lineS x).size = 1 + (relS x).size + 1 := by unfold lineS; rw [size_app, size_app]; rfl
          have HLN : Hid (lineS x = (⟨#[9]⟩ : ByteArray) ++ relS x ++ ⟨#[10]⟩) := Lib.hid rfl
          clear hs ho rs ro r0 r1 r2 r3 r4 r5 hL hal hbw hbx
          go_wp2_with fail
          generalize wr.alloc (.cells #[.string x.name, .string x.view, .string x.edit, .string x.check, .slice As x.subs.length cS, .slice Ao x.ops.length cO] 42) = W3 at *
          refine (relation_any8 hrs hro hsx).mono ?_
          rintro e W4 ⟨rfl, hb5⟩
          have hL4 := hL2.below hb5
          have hb6 := hb2.trans (hb5.mono (by omega))
          have hz6 := hb6.size
          have kw := bwrite8 (lineS x) hL4 (by rw [size_app]; omega) (by omega)
          rw [app_assoc, ← hd1, HLN.out] at kw
          have hrz : (relS x).size ≤ 90000000000000 := by omega
          clear hL2 hb2 hL4 hb5 s0 s1 s2 s3 s4 s5 z0 z1 z2 z3 z4 z5 hrs hro
          go_wp2_with fail
          refine kw.mono ?_
          rintro e W5 ⟨rfl, hL5, hb7, _⟩
          go_wp2_with fail
          refine ⟨⟨k + 1, by go_num, by omega, hL5, hb6.trans (hb7.mono (by omega))⟩, ?_⟩
          simp only [intOf]; omega
        · obtain rfl : k = t.rels.length := by omega
          have hdk : ¬ (t.rels.length : Int) < (t.rels.length : Nat) := by omega
          rw [List.take_length] at hL
          have kw := bwrite8 ⟨#[125, 10]⟩ hL (by rw [size_app]; show _ + 2 ≤ _; omega) (by omega)
          rw [HTY.out] at kw
          clear hL
          go_wp2_with fail
          refine kw.mono ?_
          rintro e W5 ⟨rfl, hL5, hb7, _⟩
          go_wp2_with fail
          refine ⟨⟨i + 1, by go_num, by omega, hL5, hb.trans (hb7.mono (by omega))⟩, ?_⟩
          simp only [intOf]; omega
    · obtain rfl : i = T.length := by omega
      have hdi : ¬ (T.length : Int) < (T.length : Nat) := by omega
      rw [List.take_length] at hL
      have ks := bstring8 hL (by omega)
      rw [show catL (T.map typS) = showS T from rfl] at ks
      clear hL
      go_wp2_with fail
      refine ks.mono ?_
      rintro e W5 ⟨rfl, hb5⟩
      go_wp2_with fail
      go_returns
      exact ⟨rfl, hB0.trans ((hb.trans (hb5.mono (Nat.le_refl _))).mono (by omega))⟩
end Go.Proofs.Ytkeonempmchpnaa
