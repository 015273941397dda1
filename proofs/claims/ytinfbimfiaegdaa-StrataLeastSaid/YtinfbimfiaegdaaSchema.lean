/- Layer 7: a schema, read up to the end. Conditions: none. -/
import Derived.Test.YtinfbimfiaegdaaTyp
namespace Go.Proofs.Ytinfbimfiaegdaa
open Go.RowKit

/-- A type's cells. -/
def TypC (w : World) (B : Nat) (ys : List Value) (t : TypP) : Prop := ∃ vr, ys = [.string t.name, vr] ∧ VRels B w vr t.rels
def TypsC (w : World) (B : Nat) : List TypP → List Value → Prop
  | [], xs => xs = []
  | x :: r, xs => ∃ ys zs, xs = ys ++ zs ∧ TypC w B ys x ∧ TypsC w B r zs
/-- What keeps rows of relations too. -/
def Keeps3 (w w' : World) (B : Nat) : Prop := Keeps w w' B ∧ ∀ v n xs, w.ownsRow B 63 6 v n xs → w'.ownsRow B 63 6 v n xs
theorem VRels.keep {w w' : World} {B : Nat} (hk : Keeps3 w w' B) {v : Value} {l : List RelP} (h : VRels B w v l) : VRels B w' v l := by
  obtain ⟨xs, h1, h2⟩ := h
  exact ⟨xs, hk.2 _ _ _ h1, h2.keep hk.1⟩
theorem TypsC.keep {w w' : World} {B : Nat} (hk : Keeps3 w w' B) : ∀ {l : List TypP} {xs : List Value}, TypsC w B l xs → TypsC w' B l xs
  | [], _, h => h
  | _ :: _, _, h => by
    obtain ⟨ys, zs, e, ⟨vr, e2, h1⟩, h2⟩ := h
    exact ⟨ys, zs, e, ⟨vr, e2, h1.keep hk⟩, TypsC.keep hk h2⟩
theorem TypsC.snoc {w : World} {B : Nat} {y : TypP} {ws : List Value} (hy : TypC w B ws y) : ∀ {l : List TypP} {xs : List Value}, TypsC w B l xs → TypsC w B (l ++ [y]) (xs ++ ws)
  | [], xs, h => by
    have : xs = [] := h
    subst this
    exact ⟨ws, [], by simp, hy, rfl⟩
  | x :: r, xs, h => by
    obtain ⟨ys, zs, e, h1, h2⟩ := h
    exact ⟨ys, zs ++ ws, by rw [e, List.append_assoc], h1, TypsC.snoc hy h2⟩
theorem VRels.base {w : World} {B B' : Nat} (h : B' ≤ B) {v : Value} {l : List RelP} (hr : VRels B w v l) : VRels B' w v l := by
  obtain ⟨xs, h1, h2⟩ := hr
  exact ⟨xs, own_base h1 h, Keeps.base h h2⟩
theorem TypsC.base {w : World} {B B' : Nat} (h : B' ≤ B) : ∀ {l : List TypP} {xs : List Value}, TypsC w B l xs → TypsC w B' l xs
  | [], _, h => h
  | _ :: _, _, hr => by
    obtain ⟨ys, zs, e, ⟨vr, e2, h1⟩, h2⟩ := hr
    exact ⟨ys, zs, e, ⟨vr, e2, h1.base h⟩, TypsC.base h h2⟩
def VTyps (B : Nat) (w : World) (v : Value) (l : List TypP) : Prop := ∃ xs, w.ownsRow B 59 2 v l.length xs ∧ TypsC w B l xs
/-- A schema's value. -/
def VSchema (B : Nat) (w : World) (v : Value) (l : List TypP) : Prop := ∃ vt, v = .agg #[vt] ∧ VTyps B w vt l
theorem keeps3_kp {g B : Nat} {w w' : World} (hk : Kp g w.heap.size w w') (hg : g < B) : Keeps3 w w' B := ⟨keeps_kp hk hg, fun _ _ _ h => own_kp h hk hg⟩
theorem keeps3_below {B : Nat} {w w' : World} (hk : Below w.heap.size w w') : Keeps3 w w' B := ⟨⟨fun _ _ _ h => own_below h hk, fun _ _ _ h => own_below h hk⟩, fun _ _ _ h => own_below h hk⟩
theorem keeps3_set {B : Nat} {w : World} {a : Addr} (ha : a.block < B) (u : Value) : Keeps3 w (w.setCell a u) B := ⟨keeps_set ha u, fun _ _ _ h => own_set h ha u⟩
theorem keeps3_drew (w : World) (B : Nat) : Keeps3 w w.drew B := ⟨keeps_drew w B, fun _ _ _ h => own_drew h⟩
theorem keeps3_grown {w w' : World} {B B2 : Nat} {e2 : TypeId} {s2 n2 : Nat} {u : Value} {ys : List Value} {o : Obj} (hu : w.ownsRow B2 e2 s2 u n2 ys) (h1 : 101 ≠ e2) (h2 : 67 ≠ e2) (h3 : 63 ≠ e2) (hg : (w.alloc o).grownBy w' u.ownBlock) : Keeps3 w w' B :=
  ⟨keeps_grown hu h1 h2 hg, fun _ _ _ h => own_grown (World.ownsRow.alloc h o) (World.ownsRow.alloc hu o) h3 hg⟩
theorem tycell_one (a : ByteArray) (p : Option Addr) (m r : Nat) : ∀ u ∈ [Value.string a, .slice p m r], u.oneCell' = true := by
  intro u hu
  simp only [List.mem_cons, List.not_mem_nil, or_false] at hu
  rcases hu with rfl | rfl <;> rfl
/-- Types up to the end. -/
def typesX (acc : List TypP) (l : List Tk) : Rs (List TypP) := andT (typesT acc l) fun t r => if (hdT r).1 = 3 then .ok (t, r) else badT 30 r
theorem typesX_end {acc : List TypP} {l : List Tk} (hf : Fine l) (h : (hdT l).1 = 3) : typesX acc l = .ok (acc, l) := by
  have ht : isT sType l = false := by
    rw [hf.isT ask_type]
    rcases hf.hd with h2 | ⟨h1, _⟩ | ⟨_, h0⟩
    · omega
    · omega
    · rw [h0]; decide
  unfold typesX
  rw [typesT_eq, ht, if_neg (by decide), andT_ok, if_pos h]
theorem typesX_more {acc : List TypP} {l : List Tk} (h : ¬ (hdT l).1 = 3) : typesX acc l = andT (typT l) fun t r => typesX (acc ++ [t]) r := by
  unfold typesX
  rw [typesT_eq]
  cases ht : isT sType l with
  | true =>
    rw [if_pos rfl]
    unfold typT
    rw [show needT sType l = .ok ((), l.tail) from by unfold needT; rw [ht, if_pos rfl], andT_ok]
    simp only [andT_assoc, relsX, andT_ok]
  | false =>
    rw [if_neg (by decide), andT_ok, if_neg h]
    unfold typT
    rw [show needT sType l = badT 30 l from by unfold needT; rw [ht, if_neg (by decide)]]
    rfl
theorem typT_len {l r : List Tk} {x : TypP} (h : typT l = .ok (x, r)) : r.length < l.length := by
  unfold typT at h
  obtain ⟨_, m, h1, h⟩ := andT_inv h
  obtain ⟨_, m2, h2, h⟩ := andT_inv h
  obtain ⟨_, m3, h3, h⟩ := andT_inv h
  obtain ⟨_, m4, h4, h⟩ := andT_inv h
  unfold relsX at h4
  obtain ⟨_, m5, h5, h4⟩ := andT_inv h4
  obtain ⟨_, m6, h6, h4⟩ := andT_inv h4
  have a1 := needT_len sType_size h1
  have a2 := nameT_len h2
  have a3 := needT_len (sg_size _) h3
  have a5 := relsF_eats _ _ _ _ _ _ (by omega) h5
  have a6 := needT_len (sg_size _) h6
  cases h4
  cases h
  omega
section
variable {w : World} {g : Nat} {l : List Tk}
theorem Bk.c1 {w : World} {b : Nat} {x : Value} {t : TypeId} (h : Bk w b #[x] t) : w.cell? ⟨b, 0, none⟩ = some x := h.cell 0
set_option maxRecDepth 100000 in
set_option maxHeartbeats 2000000 in
theorem schema_any (h : Rdr w g l) : Calls Try.prog 34 #[.pointer (some ⟨g, 0, none⟩)] w (Post (VSchema w.heap.size) w.heap.size w g (typesX [] l)) := by
  suffices HH : ∀ R, To (Post (VSchema w.heap.size) w.heap.size w g (typesX [] l)) R → Calls Try.prog 34 #[.pointer (some ⟨g, 0, none⟩)] w R from HH _ fun _ _ h => h
  intro R HP
  have hg := h.size
  go_enter Try.func34, Try.ntmps34
  go_wp2_with fail
  have hb0 := (Bk.new w #[.slice none 0 0] 36).alloc (.cells #[.slice none 0 0] 36)
  have hb1 : Bk ((w.alloc (.cells #[.slice none 0 0] 36)).alloc (.cells #[.slice none 0 0] 36)) (w.heap.size + 1) #[.slice none 0 0] 36 := by have := Bk.new (w.alloc (.cells #[.slice none 0 0] 36)) #[.slice none 0 0] 36; rwa [World.size_alloc] at this
  have hR := (h.alloc (.cells #[.slice none 0 0] 36)).alloc (.cells #[.slice none 0 0] 36)
  have hK : Kp g w.heap.size w _ := ((Kp.refl g _ w).alloc (Nat.le_refl _) (.cells #[.slice none 0 0] 36)).alloc (size_alloc (Nat.le_refl _)) (.cells #[.slice none 0 0] 36)
  clear h
  generalize (w.alloc (.cells #[.slice none 0 0] 36)).alloc (.cells #[.slice none 0 0] 36) = W at *
  generalize w.heap.size = B at *
  obtain ⟨BT, hBT⟩ : ∃ BT, BT = B + 1 := ⟨_, rfl⟩
  rw [← hBT] at hb1
  go_loopw [] (fun wr => ∃ acc l4 vr, Bk wr (B + 1) #[vr] 36 ∧ VTyps (B + 2) wr vr acc ∧ Rdr wr g l4 ∧ Kp g B w wr ∧ Bk wr B #[.slice none 0 0] 36 ∧ To (Post (VSchema B) B w g (typesX acc l4)) R ∧ acc.length + l4.length ≤ 2000000) (fun wr => left wr g)
  case atStart => exact ⟨[], l, _, by rw [← hBT]; exact hb1, ⟨[], World.ownsRow_nil _ _ _ _, rfl⟩, hR, hK, hb0, HP, by have := hR.few; simp; omega⟩
  case round =>
    clear HP hb0 hb1 hR hK
    obtain ⟨acc, l4, vr, hb1, hv, hR, hK, hb0, HP, hl⟩ := hrel
    have hlf := hR.left
    have hfine := hR.fine
    have f0 := tok_f0
    have kf := first_any hR
    obtain ⟨xs, hv1, hv2⟩ := hv
    by_cases h3 : (hdT l4).1 = 3
    · have d3 : ((((hdT l4).1 : Nat) : Int) == 3) = true := by rw [beq_iff_eq]; omega
      rw [typesX_end hfine h3] at HP
      generalize (hdT l4).1 = z at *
      go_wp2_with fail
      refine kf.mono ?_
      rintro e W5 ⟨rfl, hb⟩
      have hR5 := hR.below hb
      replace hK := hK.trans ((Kp.of_below hb g).more (Nat.le_of_lt hb0.lt))
      replace hb0 := hb0.below hb
      replace hb1 := hb1.below hb
      replace hv2 := hv2.keep (keeps3_below hb)
      replace hv1 := own_below hv1 hb
      clear hb hR kf
      obtain ⟨A, c, rfl, _⟩ := Rd.own hv1
      have x0 := hb1.c1
      have y0 := hb0.c1
      have fy := hb0.fz
      have hne : ¬ B + 1 = B := by omega
      have hne2 : ¬ B = B + 1 := by omega
      go_wp2_with fail
      refine bodyPost_ret (v := .agg #[.slice A acc.length c]) (by simp [results, Try.results34, go_sem, y0]; try rfl) rfl ?_
      refine HP.ret rfl ?_ ⟨_, rfl, xs, ?_, ?_⟩ ?_
      · refine Kp.set hK ?_ _; exact Nat.le_refl _
      · exact own_base (own_set hv1 (show B < B + 2 by omega) _) (show B ≤ B + 2 by omega)
      · exact TypsC.base (show B ≤ B + 2 by omega) (hv2.keep (keeps3_set (show B < B + 2 by omega) _))
      · refine Rdr.set hR5 ?_ _; exact hg
    · have d3 : ((((hdT l4).1 : Nat) : Int) == 3) = false := by rw [beq_eq_false_iff_ne]; omega
      rw [typesX_more h3] at HP
      generalize (hdT l4).1 = z at *
      go_wp2_with fail
      refine kf.mono ?_
      rintro e W5 ⟨rfl, hb⟩
      have hR5 := hR.below hb
      replace hK := hK.trans ((Kp.of_below hb g).more (Nat.le_of_lt hb0.lt))
      replace hb0 := hb0.below hb
      replace hb1 := hb1.below hb
      replace hv2 := hv2.keep (keeps3_below hb)
      replace hv1 := own_below hv1 hb
      clear hb hR kf
      obtain ⟨A, c, rfl, _⟩ := Rd.own hv1
      go_wp2_with fail
      replace hR5 := hR5.drew
      replace hK := hK.drew
      replace hb0 : Bk W5.drew _ _ _ := hb0
      replace hb1 : Bk W5.drew _ _ _ := hb1
      replace hv2 := hv2.keep (keeps3_drew W5 (B + 2))
      replace hv1 := own_drew hv1
      refine wp_region_any (by kernel_rfl) ?_
      change wpAny _ _ _ _ _ _ _ (World.drew _)
      generalize W5.drew = W6 at *
      -- 0 fieldAddr 25 (Operand.tmp 3) 0
      refine ro_take 0 (some 8) (v := ?v0) rfl rfl (by kernel_rfl) (by kernel_rfl) (by kernel_rfl) (fun _ _ _ h => h) (by rfl) ?y0 ?r0
      case y0 => (intro w; go_simp; try with_reducible rfl)
      simp only [Act.put, List.setIfInBounds_toArray, List.set_cons_zero, List.set_cons_succ]
      -- 2 move (Operand.tmp 0)
      refine ro_take 2 (some 10) (v := ?v2) rfl rfl (by kernel_rfl) (by kernel_rfl) (by kernel_rfl) (fun _ _ _ h => h) (by rfl) ?y2 ?r2
      case y2 => (intro w; go_simp; try with_reducible rfl)
      simp only [Act.put, List.setIfInBounds_toArray, List.set_cons_zero, List.set_cons_succ]
      refine ro_swap3 1 3 4 (some 9) (fun W => W.cell? ⟨B + 1, 0, none⟩ = some (.slice A acc.length c)) (v := ?v1) rfl rfl rfl rfl (by kernel_rfl) (by kernel_rfl) (by kernel_rfl) (by decide) (by decide) (by decide) (by kernel_rfl) (by kernel_rfl) (by kernel_rfl) (by kernel_rfl) (by kernel_rfl) (by kernel_rfl) (by kernel_rfl) (by kernel_rfl) (by kernel_rfl) (by kernel_rfl) (fun _ _ _ h => h) (by rfl) ?y1 (hb1.cell 0) ?r1
      case y1 => (intro w hS; (try dsimp only at hS); go_simp; try with_reducible rfl)
      simp only [Act.put, List.setIfInBounds_toArray, List.set_cons_zero, List.set_cons_succ]
      intro K hK'
      go_simp
      refine (typ_any hR5).mono ?_
      intro e W7 hp
      obtain ⟨hk, hc⟩ := hp.cases_
      have hz := Nat.le_of_lt hb0.lt
      have hlt := hb1.lt
      replace hK := hK.trans (hk.more hz)
      replace hb0 := hb0.kp hk (by omega)
      replace hb1 := hb1.kp hk (by omega)
      replace hv2 := hv2.keep (keeps3_kp hk (by omega))
      replace hv1 := own_kp hv1 hk (by omega)
      clear hp hk hR5 hz
      rcases hc with ⟨c, p, hr, rfl⟩ | ⟨x, l5, v, hr, rfl, ⟨vr, rfl, hs1⟩, hR⟩
      · go_wp2_with fail
        exact ⟨rfl, HP.bad hr hK⟩
      replace HP := HP.bind hr
      have hlen := typT_len hr
      clear hr
      have hs1' : VRels (B + 2) W7 vr x.rels := hs1.base (by omega)
      obtain ⟨ys, hy1, hy2⟩ := hs1'
      obtain ⟨As, cS, rfl, _⟩ := Rd.own hy1
      clear hs1
      refine hK' _ _ (hb1.cell 0) ?_
      clear hK' K
      refine wpOp_step rfl fun K2 hK2 => ?_
      go_simp
      refine hK2 _ _ ⟨cell_alloc (hb1.cell 0) _, ?_⟩
      clear hK2 K2
      have hz7 : B + 2 ≤ W7.heap.size := hb1.lt
      obtain ⟨i0, hi0, hz0, hz1, hz2⟩ := info_parts info_typ
      have hlf6 := hR.few
      refine wpAny_ready (rs := [5]) (by kernel_rfl) (by simp) ?_
      refine AllReady.cons rfl (fun K hK' => ?_) AllReady.nil
      rw [if_pos (by rfl)]
      refine op_append_src _ (some 13) rfl (.tmp 9) (.tmp 12) 34 34 rfl (B + 2) 59 i0 (.agg #[.string .empty, .slice none 0 0]) 2 40 Try.underlying34 hi0 hz0 hz1 hz2 rfl (by decide) (.slice A acc.length c) acc.length xs rfl (World.ownsRow.alloc hv1 _) _ 1 [.string x.name, .slice As x.rels.length cS] rfl (Src.ofSlice _ Try.underlying34 _ 1 1 _ rfl (cells_new2 _ _ _ _) (tycell_one _ _ _ _)) (by simp only [maxLen]; omega) (by omega) (size_alloc hz7) ?_
      intro v8 W8 hown8 hg8
      refine hK' _ _ ?_
      clear hK' K
      simp only [Act.put, List.setIfInBounds_toArray, List.set_cons_zero, List.set_cons_succ]
      have hR8 := rdr_grown (v := .slice A acc.length c) hR hg8 hv1 (by omega)
      have hK8 := kp_grown (v := .slice A acc.length c) hK hg8 hv1 (Nat.le_of_lt hb0.lt) (by omega)
      have hb08 := hb0.grown (v := .slice A acc.length c) hg8 hv1 (by omega)
      have hb18 := hb1.grown (v := .slice A acc.length c) hg8 hv1 (by omega)
      have hkp := keeps3_grown (B := B + 2) (u := .slice A acc.length c) hv1 (by decide) (by decide) (by decide) hg8
      have hv28 := TypsC.snoc (y := x) ⟨_, rfl, VRels.keep hkp ⟨ys, hy1, hy2⟩⟩ (hv2.keep hkp)
      clear hg8 hkp hv2 hv1 hy1 hy2 hb0 hb1 hK hR
      obtain ⟨A8, c8, rfl, _⟩ := Rd.own hown8
      -- 6 fieldAddr
      refine ro_take 6 (some 14) (v := ?v6) rfl rfl (by kernel_rfl) (by kernel_rfl) (by kernel_rfl) (fun _ _ _ h => h) (by rfl) ?y6 ?r6
      case y6 => (intro w; go_simp; try with_reducible rfl)
      simp only [Act.put, List.setIfInBounds_toArray, List.set_cons_zero, List.set_cons_succ]
      -- 7 store
      have x0 := hb18.c1
      have fx := hb18.fz
      refine wpAny_ready (rs := [7]) (by kernel_rfl) (by simp) ?_
      refine AllReady.cons rfl (fun K hK' => ?_) AllReady.nil
      go_simp
      refine hK' _ _ ?_
      clear hK' K
      refine wpAny_done (by kernel_rfl) ?_ _
      have hR9 := hR8.set (a := ⟨B + 1, 0, none⟩) (show g < B + 1 by omega) (.slice A8 (acc.length + 1) c8)
      have hK9 := hK8.set (a := ⟨B + 1, 0, none⟩) (show B ≤ B + 1 by omega) (.slice A8 (acc.length + 1) c8)
      have hb09 := hb08.other (a := ⟨B + 1, 0, none⟩) (show B ≠ B + 1 by omega) (.slice A8 (acc.length + 1) c8)
      have hb19 : Bk _ (B + 1) #[.slice A8 (acc.length + 1) c8] 36 := hb18.set 0 (.slice A8 (acc.length + 1) c8)
      have hv29 := hv28.keep (keeps3_set (a := ⟨B + 1, 0, none⟩) (show B + 1 < B + 2 by omega) (.slice A8 (acc.length + 1) c8))
      have hv19 := own_set (a := ⟨B + 1, 0, none⟩) hown8 (show B + 1 < B + 2 by omega) (.slice A8 (acc.length + 1) c8)
      clear hR8 hK8 hb08 hb18 hv28 hown8 x0 fx
      generalize W8.setCell ⟨B + 1, 0, none⟩ (.slice A8 (acc.length + 1) c8) = W9 at *
      go_wp2_with fail
      refine ⟨⟨acc ++ [x], l5, _, hb19, ⟨_, ?_, hv29⟩, hR9, hK9, hb09, HP, ?_⟩, ?_⟩
      · rw [List.length_append]
        exact hv19
      · rw [List.length_append, List.length_singleton]
        omega
      · rw [hR9.left, hlf]
        exact hlen
end
end Go.Proofs.Ytinfbimfiaegdaa
