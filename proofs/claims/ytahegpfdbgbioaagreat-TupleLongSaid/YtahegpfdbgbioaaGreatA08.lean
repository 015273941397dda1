import Derived.Laws.StandIn
import Derived.Test.YtahegpfdbgbioaaGreatA07
set_option maxRecDepth 100000
set_option maxHeartbeats 4000000
namespace Go.Proofs.YtahegpfdbgbioaaGreat
open Go.RowKit
open Go.RowKit
open Go.RowKit
def TypC (w : World) (B : Nat) (ys : List Value) (t : TypP) : Prop := ∃ vr, ys = [.string t.name, vr] ∧ VRels B w vr t.rels
def TypsC (w : World) (B : Nat) : List TypP → List Value → Prop
 | [], xs => xs = []
 | x :: r, xs => ∃ ys zs, xs = ys ++ zs ∧ TypC w B ys x ∧ TypsC w B r zs
def Keeps3 (w w' : World) (B : Nat) : Prop := Keeps w w' B ∧ ∀ v n xs, w.ownsRow B 149 6 v n xs → w'.ownsRow B 149 6 v n xs
theorem VRels.keep {w w' : World} {B : Nat} (hk : Keeps3 w w' B) {v : Value} {l : List RelP} (h : VRels B w v l) : VRels B w' v l := by
 obtain ⟨xs, h1, h2⟩ := h
 exact ⟨xs, hk.2 _ _ _ h1, h2.keep hk.1⟩
theorem TypsC.keep {w w' : World} {B : Nat} (hk : Keeps3 w w' B) : ∀ {l : List TypP} {xs : List Value}, TypsC w B l xs → TypsC w' B l xs
 | [], _, h => h
 | _ :: _, _, h => by
  obtain ⟨ys, zs, e, ⟨vr, e2, h1⟩, h2⟩ := h
  exact ⟨ys, zs, e, ⟨vr, e2, h1.keep hk⟩, TypsC.keep hk h2⟩
theorem TypsC.snoc {w : World} {B : Nat} {y : TypP} {ws : List Value} (hy : TypC w B ws y) : ∀ {l : List TypP} {xs : List Value}, TypsC w B l xs → TypsC w B (l ++ [y]) (xs ++ ws)
 | [], xs, h => by
  have : xs = [] := h
  subst this
  exact ⟨ws, [], by simp, hy, rfl⟩
 | x :: r, xs, h => by
  obtain ⟨ys, zs, e, h1, h2⟩ := h
  exact ⟨ys, zs ++ ws, by rw [e, List.append_assoc], h1, TypsC.snoc hy h2⟩
theorem VRels.base {w : World} {B B' : Nat} (h : B' ≤ B) {v : Value} {l : List RelP} (hr : VRels B w v l) : VRels B' w v l := by
 obtain ⟨xs, h1, h2⟩ := hr
 exact ⟨xs, own_base h1 h, Keeps.base h h2⟩
theorem TypsC.base {w : World} {B B' : Nat} (h : B' ≤ B) : ∀ {l : List TypP} {xs : List Value}, TypsC w B l xs → TypsC w B' l xs
 | [], _, h => h
 | _ :: _, _, hr => by
  obtain ⟨ys, zs, e, ⟨vr, e2, h1⟩, h2⟩ := hr
  exact ⟨ys, zs, e, ⟨vr, e2, h1.base h⟩, TypsC.base h h2⟩
def VTyps (B : Nat) (w : World) (v : Value) (l : List TypP) : Prop := ∃ xs, w.ownsRow B 146 2 v l.length xs ∧ TypsC w B l xs
def VSchema (B : Nat) (w : World) (v : Value) (l : List TypP) : Prop := ∃ vt, v = .agg #[vt] ∧ VTyps B w vt l
theorem keeps3_kp {g B : Nat} {w w' : World} (hk : Kp g w.heap.size w w') (hg : g < B) : Keeps3 w w' B := ⟨keeps_kp hk hg, fun _ _ _ h => own_kp h hk hg⟩
theorem keeps3_below {B : Nat} {w w' : World} (hk : Below w.heap.size w w') : Keeps3 w w' B := ⟨⟨fun _ _ _ h => own_below h hk, fun _ _ _ h => own_below h hk⟩, fun _ _ _ h => own_below h hk⟩
theorem keeps3_set {B : Nat} {w : World} {a : Addr} (ha : a.block < B) (u : Value) : Keeps3 w (w.setCell a u) B := ⟨keeps_set ha u, fun _ _ _ h => own_set h ha u⟩
theorem keeps3_drew (w : World) (B : Nat) : Keeps3 w w.drew B := ⟨keeps_drew w B, fun _ _ _ h => own_drew h⟩
theorem keeps3_grown {w w' : World} {B B2 : Nat} {e2 : TypeId} {s2 n2 : Nat} {u : Value} {ys : List Value} {o : Obj} (hu : w.ownsRow B2 e2 s2 u n2 ys) (h1 : 126 ≠ e2) (h2 : 166 ≠ e2) (h3 : 149 ≠ e2) (hg : (w.alloc o).grownBy w' u.ownBlock) : Keeps3 w w' B :=
 ⟨keeps_grown hu h1 h2 hg, fun _ _ _ h => own_grown (World.ownsRow.alloc h o) (World.ownsRow.alloc hu o) h3 hg⟩
theorem tycell_one (a : ByteArray) (p : Option Addr) (m r : Nat) : ∀ u ∈ [Value.string a, .slice p m r], u.oneCell' = true := by
 intro u hu
 simp only [List.mem_cons, List.not_mem_nil, or_false] at hu
 rcases hu with rfl | rfl <;> rfl
def typesX (acc : List TypP) (l : List Tk) : Rs (List TypP) := andT (typesT acc l) fun t r => if (hdT r).1 = 3 then .ok (t, r) else badT 30 r
theorem typesX_end {acc : List TypP} {l : List Tk} (hf : Fine l) (h : (hdT l).1 = 3) : typesX acc l = .ok (acc, l) := by
 have ht : isT sType l = false := by
  rw [hf.isT ask_type]
  rcases hf.hd with h2 | ⟨h1, _⟩ | ⟨_, h0⟩
  · omega
  · omega
  · rw [h0]; decide
 unfold typesX
 rw [typesT_eq, ht, if_neg (by decide), andT_ok, if_pos h]
theorem typesX_more {acc : List TypP} {l : List Tk} (h : ¬ (hdT l).1 = 3) : typesX acc l = andT (typT l) fun t r => typesX (acc ++ [t]) r := by
 unfold typesX
 rw [typesT_eq]
 cases ht : isT sType l with
 | true =>
  rw [if_pos rfl]
  unfold typT
  rw [show needT sType l = .ok ((), l.tail) from by unfold needT; rw [ht, if_pos rfl], andT_ok]
  simp only [andT_assoc, relsX, andT_ok]
 | false =>
  rw [if_neg (by decide), andT_ok, if_neg h]
  unfold typT
  rw [show needT sType l = badT 30 l from by unfold needT; rw [ht, if_neg (by decide)]]
  rfl
theorem typT_len {l r : List Tk} {x : TypP} (h : typT l = .ok (x, r)) : r.length < l.length := by
 unfold typT at h
 obtain ⟨_, m, h1, h⟩ := andT_inv h
 obtain ⟨_, m2, h2, h⟩ := andT_inv h
 obtain ⟨_, m3, h3, h⟩ := andT_inv h
 obtain ⟨_, m4, h4, h⟩ := andT_inv h
 unfold relsX at h4
 obtain ⟨_, m5, h5, h4⟩ := andT_inv h4
 obtain ⟨_, m6, h6, h4⟩ := andT_inv h4
 have a1 := needT_len sType_size h1
 have a2 := nameT_len h2
 have a3 := needT_len (sg_size _) h3
 have a5 := relsF_eats _ _ _ _ _ _ (by omega) h5
 have a6 := needT_len (sg_size _) h6
 cases h4
 cases h
 omega
section
variable {w : World} {g : Nat} {l : List Tk}
theorem Bk.c1 {w : World} {b : Nat} {x : Value} {t : TypeId} (h : Bk w b #[x] t) : w.cell? ⟨b, 0, none⟩ = some x := h.cell 0
theorem schema_any (h : Rdr w g l) : Calls Tryz.prog 124 #[.pointer (some ⟨g, 0, none⟩)] w (Post (VSchema w.heap.size) w.heap.size w g (typesX [] l)) := by
 suffices HH : ∀ R, To (Post (VSchema w.heap.size) w.heap.size w g (typesX [] l)) R → Calls Tryz.prog 124 #[.pointer (some ⟨g, 0, none⟩)] w R from HH _ fun _ _ h => h
 intro R HP
 have hg := h.size
 go_enter Tryz.func124, Tryz.ntmps124
 go_wp2_with fail
 have hb0 := (Bk.new w #[.slice none 0 0] 92).alloc (.cells #[.slice none 0 0] 92)
 have hb1 : Bk ((w.alloc (.cells #[.slice none 0 0] 92)).alloc (.cells #[.slice none 0 0] 92)) (w.heap.size + 1) #[.slice none 0 0] 92 := by have := Bk.new (w.alloc (.cells #[.slice none 0 0] 92)) #[.slice none 0 0] 92; rwa [World.size_alloc] at this
 have hR := (h.alloc (.cells #[.slice none 0 0] 92)).alloc (.cells #[.slice none 0 0] 92)
 have hK : Kp g w.heap.size w _ := ((Kp.refl g _ w).alloc (Nat.le_refl _) (.cells #[.slice none 0 0] 92)).alloc (size_alloc (Nat.le_refl _)) (.cells #[.slice none 0 0] 92)
 clear h
 generalize (w.alloc (.cells #[.slice none 0 0] 92)).alloc (.cells #[.slice none 0 0] 92) = W at *
 generalize w.heap.size = B at *
 obtain ⟨BT, hBT⟩ : ∃ BT, BT = B + 1 := ⟨_, rfl⟩
 rw [← hBT] at hb1
 go_loopw [] (fun wr => ∃ acc l4 vr, Bk wr (B + 1) #[vr] 92 ∧ VTyps (B + 2) wr vr acc ∧ Rdr wr g l4 ∧ Kp g B w wr ∧ Bk wr B #[.slice none 0 0] 92 ∧ To (Post (VSchema B) B w g (typesX acc l4)) R ∧ acc.length + l4.length ≤ 2000000) (fun wr => left wr g)
 case atStart => exact ⟨[], l, _, by rw [← hBT]; exact hb1, ⟨[], World.ownsRow_nil _ _ _ _, rfl⟩, hR, hK, hb0, HP, by have := hR.few; simp; omega⟩
 case round =>
  clear HP hb0 hb1 hR hK
  obtain ⟨acc, l4, vr, hb1, hv, hR, hK, hb0, HP, hl⟩ := hrel
  have hlf := hR.left
  have hfine := hR.fine
  have f0 := tok_f0
  have kf := first_any hR
  obtain ⟨xs, hv1, hv2⟩ := hv
  by_cases h3 : (hdT l4).1 = 3
  · have d3 : ((((hdT l4).1 : Nat) : Int) == 3) = true := by rw [beq_iff_eq]; omega
    rw [typesX_end hfine h3] at HP
    generalize (hdT l4).1 = z at *
    go_wp2_with fail
    refine kf.mono ?_
    rintro e W5 ⟨rfl, hb⟩
    have hR5 := hR.below hb
    replace hK := hK.trans ((Kp.of_below hb g).more (Nat.le_of_lt hb0.lt))
    replace hb0 := hb0.below hb
    replace hb1 := hb1.below hb
    replace hv2 := hv2.keep (keeps3_below hb)
    replace hv1 := own_below hv1 hb
    clear hb hR kf
    obtain ⟨A, c, rfl, _⟩ := Rd.own hv1
    have x0 := hb1.c1
    have y0 := hb0.c1
    have fy := hb0.fz
    have hne : ¬ B + 1 = B := by omega
    have hne2 : ¬ B = B + 1 := by omega
    go_wp2_with fail
    refine bodyPost_ret (v := .agg #[.slice A acc.length c]) (by simp [results, Tryz.results124, go_sem, y0]; try rfl) rfl ?_
    refine HP.ret rfl ?_ ⟨_, rfl, xs, ?_, ?_⟩ ?_
    · refine Kp.set hK ?_ _; exact Nat.le_refl _
    · exact own_base (own_set hv1 (show B < B + 2 by omega) _) (show B ≤ B + 2 by omega)
    · exact TypsC.base (show B ≤ B + 2 by omega) (hv2.keep (keeps3_set (show B < B + 2 by omega) _))
    · refine Rdr.set hR5 ?_ _; exact hg
  · have d3 : ((((hdT l4).1 : Nat) : Int) == 3) = false := by rw [beq_eq_false_iff_ne]; omega
    rw [typesX_more h3] at HP
    generalize (hdT l4).1 = z at *
    go_wp2_with fail
    refine kf.mono ?_
    rintro e W5 ⟨rfl, hb⟩
    have hR5 := hR.below hb
    replace hK := hK.trans ((Kp.of_below hb g).more (Nat.le_of_lt hb0.lt))
    replace hb0 := hb0.below hb
    replace hb1 := hb1.below hb
    replace hv2 := hv2.keep (keeps3_below hb)
    replace hv1 := own_below hv1 hb
    clear hb hR kf
    obtain ⟨A, c, rfl, _⟩ := Rd.own hv1
    go_wp2_with fail
    replace hR5 := hR5.drew
    replace hK := hK.drew
    replace hb0 : Bk W5.drew _ _ _ := hb0
    replace hb1 : Bk W5.drew _ _ _ := hb1
    replace hv2 := hv2.keep (keeps3_drew W5 (B + 2))
    replace hv1 := own_drew hv1
    refine wp_region_any (by kernel_rfl) ?_
    change wpAny _ _ _ _ _ _ _ (World.drew _)
    generalize W5.drew = W6 at *
    refine ro_take 0 (some 8) (v := ?v0) rfl rfl (by kernel_rfl) (by kernel_rfl) (by kernel_rfl) (fun _ _ _ h => h) (by rfl) ?y0 ?r0
    case y0 => (intro w; go_simp; try with_reducible rfl)
    simp only [Act.put, List.setIfInBounds_toArray, List.set_cons_zero, List.set_cons_succ]
    refine ro_take 2 (some 10) (v := ?v2) rfl rfl (by kernel_rfl) (by kernel_rfl) (by kernel_rfl) (fun _ _ _ h => h) (by rfl) ?y2 ?r2
    case y2 => (intro w; go_simp; try with_reducible rfl)
    simp only [Act.put, List.setIfInBounds_toArray, List.set_cons_zero, List.set_cons_succ]
    refine ro_swap3 1 3 4 (some 9) (fun W => W.cell? ⟨B + 1, 0, none⟩ = some (.slice A acc.length c)) (v := ?v1) rfl rfl rfl rfl (by kernel_rfl) (by kernel_rfl) (by kernel_rfl) (by decide) (by decide) (by decide) (by kernel_rfl) (by kernel_rfl) (by kernel_rfl) (by kernel_rfl) (by kernel_rfl) (by kernel_rfl) (by kernel_rfl) (by kernel_rfl) (by kernel_rfl) (by kernel_rfl) (fun _ _ _ h => h) (by rfl) ?y1 (hb1.cell 0) ?r1
    case y1 => (intro w hS; (try dsimp only at hS); go_simp; try with_reducible rfl)
    simp only [Act.put, List.setIfInBounds_toArray, List.set_cons_zero, List.set_cons_succ]
    intro K hK'
    go_simp
    refine (typ_any hR5).mono ?_
    intro e W7 hp
    obtain ⟨hk, hc⟩ := hp.cases_
    have hz := Nat.le_of_lt hb0.lt
    have hlt := hb1.lt
    replace hK := hK.trans (hk.more hz)
    replace hb0 := hb0.kp hk (by omega)
    replace hb1 := hb1.kp hk (by omega)
    replace hv2 := hv2.keep (keeps3_kp hk (by omega))
    replace hv1 := own_kp hv1 hk (by omega)
    clear hp hk hR5 hz
    rcases hc with ⟨c, p, hr, rfl⟩ | ⟨x, l5, v, hr, rfl, ⟨vr, rfl, hs1⟩, hR⟩
    · go_wp2_with fail
      exact ⟨rfl, HP.bad hr hK⟩
    replace HP := HP.bind hr
    have hlen := typT_len hr
    clear hr
    have hs1' : VRels (B + 2) W7 vr x.rels := hs1.base (by omega)
    obtain ⟨ys, hy1, hy2⟩ := hs1'
    obtain ⟨As, cS, rfl, _⟩ := Rd.own hy1
    clear hs1
    refine hK' _ _ (hb1.cell 0) ?_
    clear hK' K
    refine wpOp_step rfl fun K2 hK2 => ?_
    go_simp
    refine hK2 _ _ ⟨cell_alloc (hb1.cell 0) _, ?_⟩
    clear hK2 K2
    have hz7 : B + 2 ≤ W7.heap.size := hb1.lt
    obtain ⟨i0, hi0, hz0, hz1, hz2⟩ := info_parts info_typ
    have hlf6 := hR.few
    refine wpAny_ready (rs := [5]) (by kernel_rfl) (by simp) ?_
    refine AllReady.cons rfl (fun K hK' => ?_) AllReady.nil
    rw [if_pos (by rfl)]
    refine op_append_src _ (some 13) rfl (.tmp 9) (.tmp 12) 90 90 rfl (B + 2) 146 i0 (.agg #[.string .empty, .slice none 0 0]) 2 40 Tryz.underlying90 hi0 hz0 hz1 hz2 rfl (by decide) (.slice A acc.length c) acc.length xs rfl (World.ownsRow.alloc hv1 _) _ 1 [.string x.name, .slice As x.rels.length cS] rfl (Src.ofSlice _ Tryz.underlying90 _ 1 1 _ rfl (cells_new2 _ _ _ _) (tycell_one _ _ _ _)) (by simp only [maxLen]; omega) (by omega) (size_alloc hz7) ?_
    intro v8 W8 hown8 hg8
    refine hK' _ _ ?_
    clear hK' K
    simp only [Act.put, List.setIfInBounds_toArray, List.set_cons_zero, List.set_cons_succ]
    have hR8 := rdr_grown (v := .slice A acc.length c) hR hg8 hv1 (by omega)
    have hK8 := kp_grown (v := .slice A acc.length c) hK hg8 hv1 (Nat.le_of_lt hb0.lt) (by omega)
    have hb08 := hb0.grown (v := .slice A acc.length c) hg8 hv1 (by omega)
    have hb18 := hb1.grown (v := .slice A acc.length c) hg8 hv1 (by omega)
    have hkp := keeps3_grown (B := B + 2) (u := .slice A acc.length c) hv1 (by decide) (by decide) (by decide) hg8
    have hv28 := TypsC.snoc (y := x) ⟨_, rfl, VRels.keep hkp ⟨ys, hy1, hy2⟩⟩ (hv2.keep hkp)
    clear hg8 hkp hv2 hv1 hy1 hy2 hb0 hb1 hK hR
    obtain ⟨A8, c8, rfl, _⟩ := Rd.own hown8
    refine ro_take 6 (some 14) (v := ?v6) rfl rfl (by kernel_rfl) (by kernel_rfl) (by kernel_rfl) (fun _ _ _ h => h) (by rfl) ?y6 ?r6
    case y6 => (intro w; go_simp; try with_reducible rfl)
    simp only [Act.put, List.setIfInBounds_toArray, List.set_cons_zero, List.set_cons_succ]
    have x0 := hb18.c1
    have fx := hb18.fz
    refine wpAny_ready (rs := [7]) (by kernel_rfl) (by simp) ?_
    refine AllReady.cons rfl (fun K hK' => ?_) AllReady.nil
    go_simp
    refine hK' _ _ ?_
    clear hK' K
    refine wpAny_done (by kernel_rfl) ?_ _
    have hR9 := hR8.set (a := ⟨B + 1, 0, none⟩) (show g < B + 1 by omega) (.slice A8 (acc.length + 1) c8)
    have hK9 := hK8.set (a := ⟨B + 1, 0, none⟩) (show B ≤ B + 1 by omega) (.slice A8 (acc.length + 1) c8)
    have hb09 := hb08.other (a := ⟨B + 1, 0, none⟩) (show B ≠ B + 1 by omega) (.slice A8 (acc.length + 1) c8)
    have hb19 : Bk _ (B + 1) #[.slice A8 (acc.length + 1) c8] 92 := hb18.set 0 (.slice A8 (acc.length + 1) c8)
    have hv29 := hv28.keep (keeps3_set (a := ⟨B + 1, 0, none⟩) (show B + 1 < B + 2 by omega) (.slice A8 (acc.length + 1) c8))
    have hv19 := own_set (a := ⟨B + 1, 0, none⟩) hown8 (show B + 1 < B + 2 by omega) (.slice A8 (acc.length + 1) c8)
    clear hR8 hK8 hb08 hb18 hv28 hown8 x0 fx
    generalize W8.setCell ⟨B + 1, 0, none⟩ (.slice A8 (acc.length + 1) c8) = W9 at *
    go_wp2_with fail
    refine ⟨⟨acc ++ [x], l5, _, hb19, ⟨_, ?_, hv29⟩, hR9, hK9, hb09, HP, ?_⟩, ?_⟩
    · rw [List.length_append]
      exact hv19
    · rw [List.length_append, List.length_singleton]
      omega
    · rw [hR9.left, hlf]
      exact hlen
end
theorem catch_idle (p q r : Addr) (w : World) :
 CallsD Tryz.prog 123 #[.pointer (some p), .pointer (some q), .pointer (some r)] .returning w fun e u' w' => e = .returned (.tuple #[]) ∧ u' = .returning ∧ w' = w := by
 refine callsD_of_wpS Tryz.func123 rfl fun c₀ cs hu => ?_
 apply wpS_seq
 apply wpS_region
 simp [wpOpsS, go_sem, recoverD, hu, Exit.thenS, Tryz.ntmps123]
 rw [show (#[.pointer (some p), .pointer (some q), .pointer (some r)] : Array Value) ++ ((Array.replicate 19 undef).setIfInBounds 3 (.nilIface)).setIfInBounds 0 (.nilIface) = #[.pointer (some p), .pointer (some q), .pointer (some r), .nilIface, undef, undef, .nilIface, undef, undef, undef, undef, undef, undef, undef, undef, undef, undef, undef, undef, undef, undef, undef] from by kernel_rfl]
 refine wpS_of_wp ?_
 go_wp2
 refine ⟨rfl, .returning, by rw [← hu], .tuple #[], ?_, rfl, rfl, rfl⟩
 simp [results, Tryz.results123, go_sem]
theorem assert_fault (x y : Value) (W : World) : (Instr.typeAssert (.iface 218 (.agg #[x, y])) 20 218 true).run Tryz.prog W = .ok (.tuple #[.agg #[x, y], .bool true]) W := by kernel_rfl
theorem catch_fault (c k : Nat) (bs be ba : Nat) (v0 v1 v2 : Value) (w : World) (h0 : Bk w bs #[v0] 92) (h1 : Bk w be #[v1] 28) (h2 : Bk w ba #[v2] 3) (n1 : bs < be) (n2 : be < ba) :
 CallsD Tryz.prog 123 #[.pointer (some ⟨bs, 0, none⟩), .pointer (some ⟨be, 0, none⟩), .pointer (some ⟨ba, 0, none⟩)] (.panicking [{ v := .iface 218 (.agg #[.int .i64 c, .int .i64 k]), recovered := false }]) w fun e u' w' =>
  e = .returned (.tuple #[]) ∧ u' = .panicking [{ v := .iface 218 (.agg #[.int .i64 c, .int .i64 k]), recovered := true }] ∧
  Bk w' bs #[.slice none 0 0] 92 ∧ Bk w' be #[.int .i64 c] 28 ∧ Bk w' ba #[.int .i64 k] 3 ∧ Below bs w w' := by
 have f0 := Bk.new w #[.int .i64 c, .int .i64 k] 218
 have l0 := h2.lt
 have hb : Below bs w (w.alloc (.cells #[.int .i64 c, .int .i64 k] 218)) := (Below.refl _ w).alloc (by omega) _
 have hS : w.heap.size ≤ (w.alloc (.cells #[.int .i64 c, .int .i64 k] 218)).heap.size := size_alloc (Nat.le_refl _)
 have g0 := h0.alloc (.cells #[.int .i64 c, .int .i64 k] 218)
 have g1 := h1.alloc (.cells #[.int .i64 c, .int .i64 k] 218)
 have g2 := h2.alloc (.cells #[.int .i64 c, .int .i64 k] 218)
 refine callsD_of_wpS Tryz.func123 rfl fun c₀ cs hu => ?_
 apply wpS_seq
 apply wpS_region
 simp [wpOpsS, go_sem, recoverD, hu, Exit.thenS, Tryz.ntmps123]
 rw [show (#[.pointer (some ⟨bs, 0, none⟩), .pointer (some ⟨be, 0, none⟩), .pointer (some ⟨ba, 0, none⟩)] : Array Value) ++ ((Array.replicate 19 undef).setIfInBounds 3 (.iface 218 (.agg #[.int .i64 c, .int .i64 k]))).setIfInBounds 0 (.iface 218 (.agg #[.int .i64 c, .int .i64 k])) = #[.pointer (some ⟨bs, 0, none⟩), .pointer (some ⟨be, 0, none⟩), .pointer (some ⟨ba, 0, none⟩), .iface 218 (.agg #[.int .i64 c, .int .i64 k]), undef, undef, .iface 218 (.agg #[.int .i64 c, .int .i64 k]), undef, undef, undef, undef, undef, undef, undef, undef, undef, undef, undef, undef, undef, undef, undef] from by kernel_rfl]
 refine wpS_of_wp ?_
 have hta := assert_fault
 go_wp2
 replace g0 : Bk (w.alloc (.cells #[.int .i64 c, .int .i64 k] 218)).drew _ _ _ := g0
 replace g1 : Bk (w.alloc (.cells #[.int .i64 c, .int .i64 k] 218)).drew _ _ _ := g1
 replace g2 : Bk (w.alloc (.cells #[.int .i64 c, .int .i64 k] 218)).drew _ _ _ := g2
 replace f0 : Bk (w.alloc (.cells #[.int .i64 c, .int .i64 k] 218)).drew _ _ _ := f0
 replace hb := hb.drew
 refine wp_region_held (S := fun W => W.cell? ⟨w.heap.size, 0, none⟩ = some (.int .i64 c) ∧ W.cell? ⟨w.heap.size, 1, none⟩ = some (.int .i64 k)) (by kernel_rfl) ?_
 change wpAnyH _ _ _ _ _ _ _ _ (World.drew _)
 generalize (w.alloc (.cells #[.int .i64 c, .int .i64 k] 218)).drew = W at *
 have q0 := g0.c1
 have q1 := g1.c1
 have q2 := g2.c1
 have z0 := g0.fz
 have z1 := g1.fz
 have z2 := g2.fz
 have hSW : W.cell? ⟨w.heap.size, 0, none⟩ = some (.int .i64 c) ∧ W.cell? ⟨w.heap.size, 1, none⟩ = some (.int .i64 k) := f0.c2
 have ne1 : ¬ bs = be := by omega
 have ne2 : ¬ be = bs := by omega
 have ne3 : ¬ bs = ba := by omega
 have ne4 : ¬ ba = bs := by omega
 have ne5 : ¬ be = ba := by omega
 have ne6 : ¬ ba = be := by omega
 refine roH_take 1 (some 18) (v := ?v1) rfl rfl (by kernel_rfl) (by kernel_rfl) (by kernel_rfl) (fun _ _ _ h => h) (by rfl) ?y1 hSW ?r1
 case y1 => (intro w hS; (try dsimp only at hS); go_simp; try with_reducible rfl)
 simp only [Act.put, List.setIfInBounds_toArray, List.set_cons_zero, List.set_cons_succ]
 refine roH_take 3 (some 20) (v := ?v3) rfl rfl (by kernel_rfl) (by kernel_rfl) (by kernel_rfl) (fun _ _ _ h => h) (by rfl) ?y3 hSW ?r3
 case y3 => (intro w hS; (try dsimp only at hS); go_simp; try with_reducible rfl)
 simp only [Act.put, List.setIfInBounds_toArray, List.set_cons_zero, List.set_cons_succ]
 refine roH_take 2 (some 19) (v := ?v2) rfl rfl (by kernel_rfl) (by kernel_rfl) (by kernel_rfl) (fun _ _ _ h => h) (by rfl) ?y2 hSW ?r2
 case y2 => (intro w hS; (try dsimp only at hS); go_simp; try with_reducible rfl)
 simp only [Act.put, List.setIfInBounds_toArray, List.set_cons_zero, List.set_cons_succ]
 refine roH_take 4 (some 21) (v := ?v4) rfl rfl (by kernel_rfl) (by kernel_rfl) (by kernel_rfl) (fun _ _ _ h => h) (by rfl) ?y4 hSW ?r4
 case y4 => (intro w hS; (try dsimp only at hS); go_simp; try with_reducible rfl)
 simp only [Act.put, List.setIfInBounds_toArray, List.set_cons_zero, List.set_cons_succ]
 refine roH_one 0 rfl (by kernel_rfl) ?_
 intro K hK
 go_simp
 refine hK _ _ hSW ?_
 clear hK K
 refine roH_one 5 rfl (by kernel_rfl) ?_
 intro K hK
 go_simp
 have f1 := f0.other (a := ⟨bs, 0, none⟩) (show w.heap.size ≠ bs by omega) (.slice none 0 0)
 refine hK _ _ f1.c2 ?_
 clear hK K
 refine roH_one 6 rfl (by kernel_rfl) ?_
 intro K hK
 go_simp
 have f2 := f1.other (a := ⟨be, 0, none⟩) (show w.heap.size ≠ be by omega) (.int .i64 c)
 refine hK _ _ f2.c2 ?_
 clear hK K
 refine roH_one 7 rfl (by kernel_rfl) ?_
 intro K hK
 go_simp
 have f3 := f2.other (a := ⟨ba, 0, none⟩) (show w.heap.size ≠ ba by omega) (.int .i64 k)
 refine hK _ _ f3.c2 ?_
 clear hK K
 refine wpAnyH_done (by kernel_rfl) ?_ _
 refine ⟨rfl, _, rfl, .tuple #[], ?_, rfl, rfl, ?_, ?_, ?_, ?_⟩
 · simp [results, Tryz.results123, go_sem]
 · exact (((g0.set 0 (.slice none 0 0)).other (a := ⟨be, 0, none⟩) (show bs ≠ be by omega) (.int .i64 c)).other (a := ⟨ba, 0, none⟩) (show bs ≠ ba by omega) (.int .i64 k))
 · exact (((g1.other (a := ⟨bs, 0, none⟩) (show be ≠ bs by omega) (.slice none 0 0)).set 0 (.int .i64 c)).other (a := ⟨ba, 0, none⟩) (show be ≠ ba by omega) (.int .i64 k))
 · exact (((g2.other (a := ⟨bs, 0, none⟩) (show ba ≠ bs by omega) (.slice none 0 0)).other (a := ⟨be, 0, none⟩) (show ba ≠ be by omega) (.int .i64 c)).set 0 (.int .i64 k))
 · refine Below.setCell (Below.setCell (Below.setCell hb ?_ _) ?_ _) ?_ _ <;> (dsimp only; omega)
def SPost (o : List TypP × Nat × Nat) (w : World) (e : Ending) (w' : World) : Prop :=
 ∃ vt, e = .returned (.tuple #[.agg #[vt], .int .i64 o.2.1, .int .i64 o.2.2]) ∧ VTyps w.heap.size w' vt o.1 ∧ Below w.heap.size w w'
theorem read_any {w : World} {A : Option Addr} {c : Nat} {l : List Tk} (hr : Rd w w.heap.size 3 A l.length c (tcells l)) (hf : Fine l) :
 Calls Tryz.prog 79 #[.slice A l.length c] w (SPost (outS (schemaF l)) w) := by
 have hmf : ∀ (fn : Fn) (first cap : Array Value) (w : World), (Instr.makeFunc fn first cap).run Tryz.prog w = .ok (.func fn first cap) w := fun _ _ _ _ => rfl
 rw [schemaF_eq]
 change Calls _ _ _ _ (SPost (outS (typesX [] l)) w)
 go_enter_defers Tryz.func79, Tryz.ntmps79
 go_wp2_with fail
 have hA1 := (Bk.new w #[.slice none 0 0] 92)
 have hA2 := (Bk.new (w.alloc (.cells #[.slice none 0 0] 92)) #[.int .i64 0] 28)
 have hA3 := (Bk.new ((w.alloc (.cells #[.slice none 0 0] 92)).alloc (.cells #[.int .i64 0] 28)) #[.int .i64 0] 3)
 have hA4 := (Bk.new (((w.alloc (.cells #[.slice none 0 0] 92)).alloc (.cells #[.int .i64 0] 28)).alloc (.cells #[.int .i64 0] 3)) #[.slice A l.length c] 222)
 simp only [World.size_alloc] at hA2 hA3 hA4
 have hb0 := ((hA1.alloc (.cells #[.int .i64 0] 28)).alloc (.cells #[.int .i64 0] 3)).alloc (.cells #[.slice A l.length c] 222)
 have hb1 := (hA2.alloc (.cells #[.int .i64 0] 3)).alloc (.cells #[.slice A l.length c] 222)
 have hb2 := hA3.alloc (.cells #[.slice A l.length c] 222)
 have hB : Below w.heap.size w ((((w.alloc (.cells #[.slice none 0 0] 92)).alloc (.cells #[.int .i64 0] 28)).alloc (.cells #[.int .i64 0] 3)).alloc (.cells #[.slice A l.length c] 222)) := by
  refine Below.alloc (Below.alloc (Below.alloc (Below.alloc (Below.refl _ w) (Nat.le_refl _) _) ?_ _) ?_ _) ?_ _ <;> (simp only [World.size_alloc]; omega)
 have hR : Rdr ((((w.alloc (.cells #[.slice none 0 0] 92)).alloc (.cells #[.int .i64 0] 28)).alloc (.cells #[.int .i64 0] 3)).alloc (.cells #[.slice A l.length c] 222)) (w.heap.size + 1 + 1 + 1) l := ⟨A, c, hA4, (hr.below hB).more (by omega), hf⟩
 clear hA1 hA2 hA3 hA4
 generalize (((w.alloc (.cells #[.slice none 0 0] 92)).alloc (.cells #[.int .i64 0] 28)).alloc (.cells #[.int .i64 0] 3)).alloc (.cells #[.slice A l.length c] 222) = W at *
 refine (schema_any hR).mono ?_
 intro e W1 hp
 obtain ⟨hk, hc⟩ := hp.cases_
 have hlt := hR.size
 replace hb0 := hb0.kp hk (by omega)
 replace hb1 := hb1.kp hk (by omega)
 replace hb2 := hb2.kp hk (by omega)
 replace hB := hB.trans (Kp.below hk (B' := w.heap.size) (by omega) (by omega))
 clear hp hk hR
 rcases hc with ⟨k, p, hr, rfl⟩ | ⟨o, l1, v, hr, rfl, ⟨vt, rfl, hv⟩, hR⟩
 · rw [hr]
   have kc := catch_fault k p _ _ _ _ _ _ W1 hb0 hb1 hb2 (by omega) (by omega)
   clear hb0 hb1 hb2
   go_wp2_with fail
   refine leaves_cons (f := 123) (args := #[.pointer (some ⟨w.heap.size, 0, none⟩), .pointer (some ⟨w.heap.size + 1, 0, none⟩), .pointer (some ⟨w.heap.size + 1 + 1, 0, none⟩)]) (by simp) (by simp [go_sem]) ?_
   refine kc.mono ?_
   rintro e u' w'' ⟨rfl, rfl, g0, g1, g2, hb⟩
   have q0 := g0.c1
   have q1 := g1.c1
   have q2 := g2.c1
   simp [Leaves, settle, results, Tryz.results79, go_sem, q0, q1, q2]
   exact ⟨.slice none 0 0, rfl, ⟨[], World.ownsRow_nil _ _ _ _, rfl⟩, hB.trans hb⟩
 · rw [hr]
   have q0 := hb0.c1
   have q1 := hb1.c1
   have q2 := hb2.c1
   have z0 := hb0.fz
   have z1 := hb1.fz
   have z2 := hb2.fz
   have n1 : ¬ w.heap.size = w.heap.size + 1 := by omega
   obtain ⟨A2, c2, rfl, _⟩ := Rd.own hv.choose_spec.1
   go_wp2_with fail
   rw [hr]
   refine leaves_cons (f := 123) (args := #[.pointer (some ⟨w.heap.size, 0, none⟩), .pointer (some ⟨w.heap.size + 1, 0, none⟩), .pointer (some ⟨w.heap.size + 1 + 1, 0, none⟩)]) (by simp) (by simp [go_sem]) ?_
   refine (catch_idle _ _ _ _).mono ?_
   rintro e u' w'' ⟨rfl, rfl, rfl⟩
   simp [Leaves, settle, results, Tryz.results79, go_sem, q0, q1, q2]
   obtain ⟨xs, h1, h2⟩ := hv
   refine ⟨.slice A2 o.length c2, rfl, ⟨xs, ?_, ?_⟩, ?_⟩
   · refine own_base (own_set (own_set (own_set h1 ?_ _) ?_ _) ?_ _) (show w.heap.size ≤ W.heap.size by omega) <;> (dsimp only; omega)
   · exact TypsC.base (show w.heap.size ≤ W.heap.size by omega) (((h2.keep (keeps3_set (a := ⟨w.heap.size, 0, none⟩) (by dsimp only; omega) _)).keep (keeps3_set (a := ⟨w.heap.size + 1, 0, none⟩) (by dsimp only; omega) _)).keep (keeps3_set (a := ⟨w.heap.size + 1 + 1, 0, none⟩) (by dsimp only; omega) _))
   · refine Below.setCell (Below.setCell (Below.setCell hB ?_ _) ?_ _) ?_ _ <;> (dsimp only; omega)
end Go.Proofs.YtahegpfdbgbioaaGreat
namespace Go.Proofs.YtahegpfdbgbioaaGreat
open Go.RowKit
open Go.RowKit
open Go.RowKit
theorem nt_byte {u : ByteArray} {q : Nat} (h : q < plc u (ntN u)) : bt u q ≠ 10 := by
 obtain ⟨j, h1, h2⟩ := rune_at (s := u) (k := q) (ntN u) h
 have hj : j < ntN u := by
  rcases Nat.lt_or_ge j (ntN u) with hh | hh
  · exact hh
  · have := plc_mono u hh; omega
 obtain ⟨a, b⟩ := (runN_spec _ u).1 j hj
 rcases Nat.lt_or_ge (plc u j) q with hq | hq
 · rw [plc_succ a] at h2
   have := inner_byte a hq h2
   omega
 · obtain rfl : plc u j = q := by omega
   simpa using b
theorem nt_end {u : ByteArray} (h : plc u (ntN u) < u.size) : bt u (plc u (ntN u)) = 10 := by
 have h2 : (!decide (bt u (plc u (ntN u)) = 10)) = false := (runN_spec (fun i => !decide (bt u i = 10)) u).2 h
 simpa using h2
def nlZ (u : ByteArray) : Int := if plc u (ntN u) < u.size then (plc u (ntN u) : Int) else -1
theorem idx_byte (u : ByteArray) (i : Nat) (h : i < u.size) : (u[i]! == UInt8.ofNat 10) = decide (bt u i = 10) := by
 rw [getElem!_pos u i h, bt_eq u i h, Bool.eq_iff_iff, beq_iff_eq, decide_eq_true_iff]
 constructor
 · intro e; rw [e]; rfl
 · intro e; exact UInt8.toNat_inj.1 e
theorem firstIdx_nl (u : ByteArray) : firstIdx u (10 : Int).toNat.toUInt8 = nlZ u := by
 show firstIdx u (UInt8.ofNat 10) = nlZ u
 unfold firstIdx nlZ
 by_cases h : plc u (ntN u) < u.size
 · rw [if_pos h]
   have e : (List.range u.size).find? (fun i => u[i]! == UInt8.ofNat 10) = some (plc u (ntN u)) := by
    rw [List.find?_range_eq_some]
    refine ⟨by rw [idx_byte u _ h, decide_eq_true (nt_end h)], by simpa using h, fun j hj => ?_⟩
    rw [idx_byte u j (by omega), decide_eq_false (nt_byte hj)]; rfl
   rw [e]
 · rw [if_neg h]
   have e : (List.range u.size).find? (fun i => u[i]! == UInt8.ofNat 10) = none := by
    rw [List.find?_range_eq_none]
    intro i hi
    rw [idx_byte u i hi]
    have := nt_byte (u := u) (q := i) (by omega)
    simp [this]
   rw [e]
theorem hasPrefix_any (u t : ByteArray) (w : World) :
 Calls Tryz.prog 192 #[.string u, .string t] w fun e w' => e = .returned (.bool (preB u t)) ∧ w' = w := by
 go_enter Tryz.func192, Tryz.ntmps192
 go_wp2_with ((refine (pre_any _ _ _).mono ?_); rintro e w' ⟨rfl, rfl⟩)
 go_ret
 exact ⟨rfl, rfl⟩
theorem indexByte_any (u : ByteArray) (w : World) :
 Calls Tryz.prog 188 #[.string u, .int .u8 10] w fun e w' => e = .returned (.int .i64 (nlZ u)) ∧ w' = w := by
 have hib : ∀ W, (callFunc 216 #[.string u, .int .u8 10]).run Tryz.prog W = .ok (.value (.int .i64 (nlZ u))) W := fun W => by
  rw [run_callFunc_indexByte Tryz.func216 (by kernel_rfl) (by kernel_rfl) (by kernel_rfl) (by kernel_rfl), run_indexByte_string, firstIdx_nl]
  rfl
 go_enter Tryz.func188, Tryz.ntmps188
 go_wp2
 go_ret
 exact ⟨rfl, rfl⟩
theorem index_nl (u : ByteArray) (w : World) (_ : u.size ≤ 1000000) :
 Calls Tryz.prog 155 #[.string u, .string ⟨#[10]⟩] w fun e w' => e = .returned (.int .i64 (nlZ u)) ∧ w' = w := by
 by_cases hu : u = sNl
 · have hd : ([10] == u.toList) = true := by subst hu; decide +kernel
   have hz : nlZ u = 0 := by subst hu; decide +kernel
   have HZ := Lib.hid hz
   clear hu hz
   go_enter Tryz.func155, Tryz.ntmps155
   go_wp2
   go_ret
   exact ⟨by rw [HZ.out]; rfl, rfl⟩
 · have hd : ([10] == u.toList) = false := by
    have := toList_ne (a := sNl) (b := u) (fun e => hu e.symm)
    rwa [show sNl.toList = [10] by decide +kernel] at this
   clear hu
   go_enter Tryz.func155, Tryz.ntmps155
   go_wp2_with ((refine (indexByte_any u _).mono ?_); rintro e w' ⟨rfl, rfl⟩)
   go_ret
   exact ⟨rfl, rfl⟩
theorem cutLite_nl (u : ByteArray) (w : World) (hs : u.size ≤ 1000000) :
 Calls Tryz.prog 112 #[.string u, .string ⟨#[10]⟩] w fun e w' => (∃ y b, e = .returned (.tuple #[.string (cutA u (ntN u)), .string y, .bool b])) ∧ Below w.heap.size w w' := by
 have hp := plc_le u (ntN u)
 by_cases h : plc u (ntN u) < u.size
 · have hz : nlZ u = (plc u (ntN u) : Int) := if_pos h
   have kc : ∀ W, _ := fun W => index_nl u W hs
   rw [hz] at kc
   have HX : Hid (cutA u (ntN u) = u.extract 0 (plc u (ntN u))) := Lib.hid rfl
   clear hz
   generalize plc u (ntN u) = p at *
   go_enter Tryz.func112, Tryz.ntmps112
   go_wp2_with ((with_reducible refine (kc _).mono ?_); rintro e w' ⟨rfl, rfl⟩)
   go_quiet (fail)
   go_wp2
   go_ret3
   rw [HX.out]
   exact ⟨⟨_, _, rfl⟩, ⟨rfl, rfl, rfl, Nat.le_refl _, fun _ _ => rfl⟩⟩
 · have hz : nlZ u = -1 := if_neg h
   have kc : ∀ W, _ := fun W => index_nl u W hs
   rw [hz] at kc
   have HX : Hid (cutA u (ntN u) = u) := Lib.hid (by unfold cutA; rw [show plc u (ntN u) = u.size by omega]; exact ext_all u)
   go_enter Tryz.func112, Tryz.ntmps112
   go_wp2_with ((with_reducible refine (kc _).mono ?_); rintro e w' ⟨rfl, rfl⟩)
   go_ret3
   rw [HX.out]
   exact ⟨⟨_, _, rfl⟩, Below.refl _ _⟩
theorem cut_nl (u : ByteArray) (w : World) (hs : u.size ≤ 1000000) :
 Calls Tryz.prog 67 #[.string u, .string ⟨#[10]⟩] w fun e w' => (∃ y b, e = .returned (.tuple #[.string (cutA u (ntN u)), .string y, .bool b])) ∧ Below w.heap.size w w' := by
 go_enter Tryz.func67, Tryz.ntmps67
 go_wp2_with ((with_reducible refine (cutLite_nl u _ hs).mono ?_); rintro e w' ⟨⟨y, b, rfl⟩, hb⟩)
 go_ret3
 exact ⟨⟨_, _, rfl⟩, hb⟩
theorem firstWord_any (u : ByteArray) (w : World) (_ : u.size ≤ 1000000) (hv : validS u = true) :
 Calls Tryz.prog 165 #[.string u] w fun e w' => e = .returned (.string (cutA u (wrN u))) ∧ Below w.heap.size w w' := by
 have HV := Lib.hid (validS_iff.1 hv)
 clear hv
 go_enter Tryz.func165, Tryz.ntmps165
 go_wp2
 go_loopw [] (fun wr => ∃ k : Nat, k ≤ cnt u ∧ itAt w wr u (plc u k) ∧ Below w.heap.size w wr ∧ ∀ j, j < k → mayB u (plc u j) = true) (fun wr => u.size - wr.iterPos w.heap.size)
 case atStart => exact ⟨0, Nat.zero_le _, it_start w u, it_below w u, fun j hj => by omega⟩
 case round =>
  obtain ⟨k, hk, hit, hbw, hall⟩ := hrel
  have Hall := Lib.hid hall
  clear hall
  have Hit := Lib.hid hit
  have Hbw := Lib.hid hbw
  have hc := cnt_le u
  have hl := plc_le u k
  by_cases h : plc u k < u.size
  · have hk2 := lt_cnt.2 h
    have hw := wd_pos h
    have HS := Lib.hid (plc_succ h)
    have hnx : ∀ ty, (Instr.next (.pointer (some ⟨w.heap.size, 0, none⟩)) true ty).run Tryz.prog wr = _ := fun ty => Lib.run_next_any_at wr w.heap.size u (plc u k) ty hit h
    have Hit2 := Lib.hid (Lib.iterAt_heap wr w.heap.size u (plc u k) (plc u k + (Utf8.decode u (plc u k)).2) hit)
    have Hbw2 := Lib.hid (Lib.below_iterAt hbw (k := w.heap.size) (Nat.le_refl _) u (plc u k + (Utf8.decode u (plc u k)).2))
    clear hit hbw
    have hnm : nameS (Utf8.encode ((Utf8.decode u (plc u k)).1 : Int)) = mayB u (plc u k) := rn_name h (HV.out k hk2)
    have kn : ∀ W, _ := fun W => name_any (Utf8.encode ((Utf8.decode u (plc u k)).1 : Int)) W (Nat.le_trans (encode_size_le _) (by omega))
    rw [hnm] at kn
    clear hnm
    have hsz2 : w.heap.size ≤ (wr.iterAt w.heap.size u (plc u k + (Utf8.decode u (plc u k)).2)).heap.size := Hbw2.out.size
    cases hm : mayB u (plc u k) with
    | true =>
     rw [hm] at kn
     go_wp2_with ((with_reducible refine (kn _).mono ?_); rintro e w2 ⟨rfl, hb2⟩)
     go_roundw
     case rel =>
      refine ⟨k + 1, by omega, ?_, Hbw2.out.trans (hb2.mono hsz2), fun j hj => ?_⟩
      · rw [HS.out]
        show w2.heap[w.heap.size]? = _
        rw [hb2.block _ (by have := Hit2.out; exact (Array.getElem?_eq_some_iff.1 this).1)]
        exact Hit2.out
      · by_cases e : j = k
        · subst e; exact hm
        · exact Hall.out j (by omega)
     case measure =>
      have h2 : itAt w w2 u (plc u k + wd u (plc u k)) := by
       show w2.heap[w.heap.size]? = _
       rw [hb2.block _ (by have := Hit2.out; exact (Array.getElem?_eq_some_iff.1 this).1)]
       exact Hit2.out
      rw [it_pos Hit.out, it_pos h2]; omega
    | false =>
     rw [hm] at kn
     have HE : Hid (wrN u = k) := Lib.hid (runN_eq (fun j hj => ⟨lt_cnt.1 (by omega), Hall.out j hj⟩) fun _ => hm)
     go_wp2_with ((with_reducible refine (kn _).mono ?_); rintro e w2 ⟨rfl, hb2⟩)
     go_ret
     exact ⟨by rw [HE.out]; rfl, Hbw2.out.trans (hb2.mono hsz2)⟩
  · have e := cnt_eq h fun j hj => lt_cnt.1 (by omega)
    have HE : Hid (wrN u = k) := Lib.hid (runN_eq (fun j hj => ⟨lt_cnt.1 (by omega), Hall.out j hj⟩) fun h' => absurd h' h)
    have HC : Hid (cutA u k = u) := Lib.hid (cutA_end (by omega))
    have hnx : ∀ ty, (Instr.next (.pointer (some ⟨w.heap.size, 0, none⟩)) true ty).run Tryz.prog wr = _ := fun ty => Lib.run_next_end_at wr w.heap.size u (plc u k) ty hit h
    clear e hit hbw
    go_wp2
    go_ret
    exact ⟨by rw [HE.out, HC.out]; rfl, Hbw.out⟩
def badZ (s : ByteArray) : Int := if plc s (badN s) < s.size then (plc s (badN s) : Int) else -1
theorem broken_at (s : ByteArray) (w : World) (hs : s.size ≤ 1000000) :
 Calls Tryz.prog 119 #[.string s] w fun e w' => e = .returned (.int .i64 (badZ s)) ∧ Below w.heap.size w w' := by
 go_enter Tryz.func119, Tryz.ntmps119
 go_wp2
 go_loopw [] (fun wr => ∃ k : Nat, k ≤ cnt s ∧ itAt w wr s (plc s k) ∧ Below w.heap.size w wr ∧ ∀ j, j < k → brk s (plc s j) = false) (fun wr => s.size - wr.iterPos w.heap.size)
 case atStart => exact ⟨0, Nat.zero_le _, it_start w s, it_below w s, fun j hj => by omega⟩
 case round =>
  obtain ⟨k, hk, hit, hbw, hall⟩ := hrel
  have Hall := Lib.hid hall
  clear hall
  have Hit := Lib.hid hit
  have Hbw := Lib.hid hbw
  have hc := cnt_le s
  have hl := plc_le s k
  by_cases h : plc s k < s.size
  · have hk2 := lt_cnt.2 h
    have hw := wd_pos h
    have HS := Lib.hid (plc_succ h)
    have hnx : ∀ ty, (Instr.next (.pointer (some ⟨w.heap.size, 0, none⟩)) true ty).run Tryz.prog wr = _ := fun ty => Lib.run_next_any_at wr w.heap.size s (plc s k) ty hit h
    have Hit2 := Lib.hid (Lib.iterAt_heap wr w.heap.size s (plc s k) (plc s k + (Utf8.decode s (plc s k)).2) hit)
    have Hbw2 := Lib.hid (Lib.below_iterAt hbw (k := w.heap.size) (Nat.le_refl _) s (plc s k + (Utf8.decode s (plc s k)).2))
    clear hit hbw
    have hsz := cutB_size s k
    have hsz2 : w.heap.size ≤ (wr.iterAt w.heap.size s (plc s k + (Utf8.decode s (plc s k)).2)).heap.size := Hbw2.out.size
    have hil : w.heap.size < (wr.iterAt w.heap.size s (plc s k + (Utf8.decode s (plc s k)).2)).heap.size := (Array.getElem?_eq_some_iff.1 Hit2.out).1
    have hve : validS (cutA (cutB s k) 1) = !brk s (plc s k) := by rw [first_valid (by omega), brk_cutB h]
    have hcs : (cutA (cutB s k) 1).size ≤ 1000000 := by have := cutA_size (cutB s k) 1; have := plc_le (cutB s k) 1; omega
    have kc : ∀ W, Calls Tryz.prog 160 #[.string (s.extract (plc s k) s.size), .int .i64 1] W fun e w' => e = .returned (.tuple #[.string (cutA (cutB s k) 1), .string (cutB (cutB s k) 1)]) ∧ Below W.heap.size W w' := fun W => cut_any (cutB s k) 1 W (by omega) (by omega) (by omega)
    have kv : ∀ W, _ := fun W => valid_any (cutA (cutB s k) 1) W hcs
    rw [hve] at kv
    clear hve hcs
    generalize cutA (cutB s k) 1 = x at *
    generalize cutB (cutB s k) 1 = y at *
    cases hm : brk s (plc s k) with
    | false =>
     rw [hm] at kv
     go_wp2_with (first
      | ((with_reducible refine (kc _).mono ?_); rintro e w2 ⟨rfl, hb2⟩)
      | ((with_reducible refine (kv _).mono ?_); rintro e w3 ⟨rfl, hb3⟩))
     have hbb : Below (wr.iterAt w.heap.size s (plc s k + (Utf8.decode s (plc s k)).2)).heap.size (wr.iterAt w.heap.size s (plc s k + (Utf8.decode s (plc s k)).2)) w3 := hb2.trans (hb3.mono hb2.size)
     go_roundw
     case rel =>
      refine ⟨k + 1, by omega, ?_, Hbw2.out.trans (hbb.mono hsz2), fun j hj => ?_⟩
      · rw [HS.out]
        show w3.heap[w.heap.size]? = _
        rw [hbb.block _ hil]
        exact Hit2.out
      · by_cases e : j = k
        · subst e; exact hm
        · exact Hall.out j (by omega)
     case measure =>
      have h2 : itAt w w3 s (plc s k + wd s (plc s k)) := by
       show w3.heap[w.heap.size]? = _
       rw [hbb.block _ hil]
       exact Hit2.out
      rw [it_pos Hit.out, it_pos h2]; omega
    | true =>
     rw [hm] at kv
     have HE : Hid (badN s = k) := Lib.hid (runN_eq (fun j hj => ⟨lt_cnt.1 (by omega), by have := Hall.out j hj; simp [this]⟩) fun _ => by simp [hm])
     go_wp2_with (first
      | ((with_reducible refine (kc _).mono ?_); rintro e w2 ⟨rfl, hb2⟩)
      | ((with_reducible refine (kv _).mono ?_); rintro e w3 ⟨rfl, hb3⟩))
     go_ret
     refine ⟨?_, Hbw2.out.trans ((hb2.trans (hb3.mono hb2.size)).mono hsz2)⟩
     unfold badZ
     rw [HE.out, if_pos h]; rfl
  · have e := cnt_eq h fun j hj => lt_cnt.1 (by omega)
    have HE : Hid (badN s = k) := Lib.hid (runN_eq (fun j hj => ⟨lt_cnt.1 (by omega), by have := Hall.out j hj; simp [this]⟩) fun h' => absurd h' h)
    have hnx : ∀ ty, (Instr.next (.pointer (some ⟨w.heap.size, 0, none⟩)) true ty).run Tryz.prog wr = _ := fun ty => Lib.run_next_end_at wr w.heap.size s (plc s k) ty hit h
    clear e hit hbw
    go_wp2
    go_ret
    refine ⟨?_, Hbw.out⟩
    unfold badZ
    rw [HE.out, if_neg h]; rfl
def stepT (u : ByteArray) (off : Nat) : List Tk := if kd u = 0 then [] else [(kd u, cutA u (ln u), off)]
def Stepped (B g : Nat) (s : ByteArray) (k : Nat) (l : List Tk) (w : World) (e : Ending) (w' : World) : Prop :=
 Kp g B w w' ∧
 ((kd (cutB s k) < 3 ∧ e = .returned (.int .i64 (plc s (k + ln (cutB s k)) : Nat)) ∧ Sc B w' g s (l ++ stepT (cutB s k) (plc s k)) 0) ∨
  (3 ≤ kd (cutB s k) ∧ e = .returned (.int .i64 (plc s k : Nat)) ∧ Sc B w' g s l (kd (cutB s k))))
section
variable {B : Nat} {w : World} {g : Nat} {s : ByteArray} {l : List Tk} {e : Nat} {k : Nat}
theorem fail_any (h : Sc B w g s l e) (c p : Nat) :
 Calls Tryz.prog 166 #[.pointer (some ⟨g, 0, none⟩), .int .i64 c, .int .i64 p] w fun e' w' => e' = .returned (.int .i64 p) ∧ Sc B w' g s l c ∧ Kp g B w w' := by
 obtain ⟨v, h⟩ := h
 have c2 := h.c2
 have fz := h.fz
 have H := Lib.hid h
 clear h
 go_enter Tryz.func166, Tryz.ntmps166
 go_wp2
 go_ret
 have hc := H.out.cells
 have hlt := H.out.lt
 refine ⟨rfl, ⟨v, ?_, own_same H.out.row fun j hj => Below.heap_setCell _ _ _ _ (by have := (H.out.row.lt j hj).1; show j ≠ g; omega), hlt⟩, rfl, rfl, rfl, by simp [World.setCell], fun j hj hn => Below.heap_setCell _ _ _ _ (by show j ≠ g; exact hn)⟩
 simp [World.setCell, Array.getElem?_modify, hc]
theorem bt_cutB {s : ByteArray} {k j : Nat} (h : plc s k + j < s.size) : bt (cutB s k) j = bt s (plc s k + j) := by
 have := cutB_size s k
 exact cutB_bt s k j (by omega)
theorem plc_low {s : ByteArray} {k : Nat} (h : plc s k < s.size) (hb : bt s (plc s k) < 128) : plc s (k + 1) = plc s k + 1 := by
 rw [plc_succ h, (dec_low h hb).2]
theorem blank_any (h : Sc B w g s l 0) (hs : s.size ≤ 2048) (hk : plc s k < s.size) (hb : blankB (bt s (plc s k)) = true) (A : Option Addr) :
 Calls Tryz.prog 164 #[.pointer A, .int .i64 (plc s k : Nat)] w (Stepped B g s k l w) := by
 have h0 : bt (cutB s k) 0 = bt s (plc s k) := bt_cutB (j := 0) (by omega)
 have hkd : kd (cutB s k) = 0 := by unfold kd; rw [h0, if_pos hb]
 have hln : ln (cutB s k) = 1 := by unfold ln; rw [h0, if_pos hb]
 have h10 := blankB_iff.1 hb
 have hpl := plc_low hk (by omega)
 have HX : Hid (Stepped B g s k l w (.returned (.int .i64 ((plc s k : Nat) + 1 : Int))) w) := Lib.hid ⟨Kp.refl _ _ _, .inl ⟨by omega, by rw [hln, hpl]; rfl, by unfold stepT; rw [if_pos hkd, List.append_nil]; exact h⟩⟩
 clear h h0 hkd hln h10 hb hpl
 go_enter Tryz.func164, Tryz.ntmps164
 go_wp2
 go_ret
 exact HX.out
theorem cutA_cutB_ext (s : ByteArray) (k j : Nat) : cutA (cutB s k) j = s.extract (plc s k) (plc s (k + j)) := by
 have h1 := plc_cutB s k j
 have h2 := cutB_size s k
 have h3 := cutA_size (cutB s k) j
 have h4 := plc_le s (k + j)
 refine bt_ext (by rw [size_ext]; omega) fun i hi => ?_
 rw [cutA_bt _ _ i hi, cutB_bt _ _ i (by have := plc_le (cutB s k) j; omega), bt_ext_get _ _ _ _ (by omega)]
theorem valid_cutB {s : ByteArray} (hv : validS s = true) (k : Nat) : validS (cutB s k) = true := by
 rw [validS_iff] at hv ⊢
 intro j hj
 rw [cnt_cutB] at hj
 have h1 := plc_cutB s k j
 have h2 := cutB_size s k
 have h3 := lt_cnt.1 (show k + j < cnt s by omega)
 have h4 := decode_suf h2 (cutB_bt s k) (i := plc (cutB s k) j) (by omega)
 have h5 := hv (k + j) (by omega)
 unfold brk rn wd at h5 ⊢
 rw [h4, h1]; exact h5
theorem sign_any (h : Sc B w g s l 0) (hB : B ≤ w.heap.size) (hs : s.size ≤ 2048) (hl : l.length < 1000000) (hk : plc s k < s.size) (hb : signB (bt s (plc s k)) = true) :
 Calls Tryz.prog 163 #[.pointer (some ⟨g, 0, none⟩), .int .i64 (plc s k : Nat)] w (Stepped B g s k l w) := by
 have h0 : bt (cutB s k) 0 = bt s (plc s k) := bt_cutB (j := 0) (by omega)
 have h10 := signB_iff.1 hb
 have hnb : ¬ blankB (bt s (plc s k)) = true := by rw [blankB_iff]; omega
 have hkd : kd (cutB s k) = 2 := by unfold kd; rw [h0, if_neg hnb, if_pos hb]
 have hln : ln (cutB s k) = 1 := by unfold ln; rw [h0, if_neg hnb, if_pos hb]
 have hpl := plc_low hk (by omega)
 have hx : s.extract (plc s k) (plc s k + 1) = cutA (cutB s k) 1 := by rw [cutA_cutB_ext, hpl]
 have hxs : (s.extract (plc s k) (plc s k + 1)).size = 1 := by rw [size_ext]; omega
 have ka : ∀ W, Sc B W g s l 0 → B ≤ W.heap.size → _ := fun W hW hBW => add_any (k := 2) (t := s.extract (plc s k) (plc s k + 1)) (p := plc s k) hW hBW hl (by omega) (by omega)
 have HX : ∀ W', Sc B W' g s (l ++ [(2, s.extract (plc s k) (plc s k + 1), plc s k)]) 0 → Kp g B w W' → Hid (Stepped B g s k l w (.returned (.int .i64 ((plc s k + (s.extract (plc s k) (plc s k + 1)).size : Nat) : Int))) W') := fun W' a b => Lib.hid ⟨b, .inl ⟨by omega, by rw [hln, hpl, hxs], by unfold stepT; rw [if_neg (by omega), hkd, hln, ← hx]; exact a⟩⟩
 clear hb h0 hkd hln h10 hpl hnb hx
 have hb1 : plc s k + 1 ≤ s.size := hk
 obtain ⟨v, h⟩ := h
 have c0 := h.c0
 have H := Lib.hid h
 clear h
 generalize plc s k = p at *
 go_enter Tryz.func163, Tryz.ntmps163
 go_wp2_with ((refine (ka _ ⟨v, H.out⟩ hB).mono ?_); rintro e w1 ⟨rfl, hsc, hkp⟩)
 go_ret
 have hx := (HX _ hsc hkp).out
 rw [hxs] at hx
 exact hx
theorem word_any (h : Sc B w g s l 0) (hB : B ≤ w.heap.size) (hs : s.size ≤ 2048) (hv : validS s = true) (hl : l.length < 1000000) (hk : plc s k < s.size) (hnb : blankB (bt s (plc s k)) = false) (hns : signB (bt s (plc s k)) = false) (h47 : bt s (plc s k) ≠ 47) :
 Calls Tryz.prog 121 #[.pointer (some ⟨g, 0, none⟩), .int .i64 (plc s k : Nat)] w (Stepped B g s k l w) := by
 have h0 : bt (cutB s k) 0 = bt s (plc s k) := bt_cutB (j := 0) (by omega)
 have hz := cutB_size s k
 have hkd : kd (cutB s k) = if mayB (cutB s k) 0 = true then (if wrN (cutB s k) ≤ 24 then 1 else 31) else 30 := by
  conv => lhs; unfold kd
  rw [h0, hnb, hns, if_neg (by decide), if_neg (by decide), if_neg h47]
 have hln : ln (cutB s k) = wrN (cutB s k) := by
  conv => lhs; unfold ln
  rw [h0, hnb, hns, if_neg (by decide), if_neg (by decide), if_neg h47]
 have hpl := plc_cutB s k (wrN (cutB s k))
 have hcs := cutA_size (cutB s k) (wrN (cutB s k))
 have hcc : cnt (cutA (cutB s k) (wrN (cutB s k))) = wrN (cutB s k) := by rw [cnt_cutA]; have := runN_le (mayB (cutB s k)) (cutB s k); unfold wrN; omega
 have hwl : wrN (cutB s k) ≤ 2048 := by have := runN_le (mayB (cutB s k)) (cutB s k); have := cnt_le (cutB s k); unfold wrN; omega
 have hbig : (cutA (cutB s k) (wrN (cutB s k))).size ≤ 1000000 := by have := plc_le (cutB s k) (wrN (cutB s k)); omega
 have kf : ∀ W, Calls Tryz.prog 165 #[.string (s.extract (plc s k) s.size)] W fun e w' => e = .returned (.string (cutA (cutB s k) (wrN (cutB s k)))) ∧ Below W.heap.size W w' := fun W => firstWord_any (cutB s k) W (by omega) (valid_cutB hv k)
 have kc : ∀ W, _ := fun W => count_any (cutA (cutB s k) (wrN (cutB s k))) W hbig
 rw [hcc] at kc
 have hb1 : plc s k ≤ s.size := Nat.le_of_lt hk
 obtain ⟨v, h⟩ := h
 have c0 := h.c0
 have hgs := h.size
 have H := Lib.hid h
 clear h h0 hnb hns h47 hcc
 by_cases hm : mayB (cutB s k) 0 = true
 · rw [if_pos hm] at hkd
   have hp : 0 < wrN (cutB s k) := runN_pos (by omega) hm
   have hpo : 0 < (cutA (cutB s k) (wrN (cutB s k))).size := by
    have h1 := plc_mono (cutB s k) (show 1 ≤ wrN (cutB s k) from hp)
    have h2 : plc (cutB s k) 0 < plc (cutB s k) 1 := plc_lt_succ (s := cutB s k) (k := 0) (by show 0 < _; omega)
    omega
   have hne := list_ne2 hpo
   by_cases h24 : wrN (cutB s k) ≤ 24
   · rw [if_pos h24] at hkd
     have hd : ¬ ((24 : Int) < (wrN (cutB s k) : Nat)) := by omega
     have ka : ∀ W, Sc B W g s l 0 → B ≤ W.heap.size → _ := fun W hW hBW => add_any (k := 1) (t := cutA (cutB s k) (wrN (cutB s k))) (p := plc s k) hW hBW hl (by omega) hbig
     have HX : ∀ W', Sc B W' g s (l ++ [(1, cutA (cutB s k) (wrN (cutB s k)), plc s k)]) 0 → Kp g B w W' → Hid (Stepped B g s k l w (.returned (.int .i64 ((plc s k + (cutA (cutB s k) (wrN (cutB s k))).size : Nat) : Int))) W') := fun W' a b => Lib.hid ⟨b, .inl ⟨by omega, by rw [hln, hcs, hpl], by unfold stepT; rw [if_neg (by omega), hkd, hln]; exact a⟩⟩
     clear hkd hln hpl hcs h24 hp hpo hm hz
     generalize cutA (cutB s k) (wrN (cutB s k)) = x at *
     generalize wrN (cutB s k) = n at *
     generalize plc s k = p at *
     go_enter Tryz.func121, Tryz.ntmps121
     go_wp2_with (first
      | ((with_reducible refine (kf _).mono ?_); rintro e w1 ⟨rfl, hb1⟩)
      | ((with_reducible refine (kc _).mono ?_); rintro e w2 ⟨rfl, hb2⟩; have hb3 := hb1.trans (hb2.mono hb1.size); have hsz := hb3.size; have H3 : Hid (ScAt B w2 g s l 0 v) := Lib.hid (H.out.below hb3))
      | ((refine (ka _ ⟨v, H3.out⟩ (Nat.le_trans hB hsz)).mono ?_); rintro e w4 ⟨rfl, hsc, hkp⟩))
     go_ret
     exact (HX _ hsc ((Kp.of_below (hb3.mono hB) g).trans hkp)).out
   · rw [if_neg h24] at hkd
     have hd : (24 : Int) < (wrN (cutB s k) : Nat) := by omega
     have HX : ∀ W', Sc B W' g s l 31 → Kp g B w W' → Hid (Stepped B g s k l w (.returned (.int .i64 (plc s k : Nat))) W') := fun W' a b => Lib.hid ⟨b, .inr ⟨by omega, rfl, by rw [hkd]; exact a⟩⟩
     clear hkd hln hpl hcs h24 hp hpo hm hz
     generalize cutA (cutB s k) (wrN (cutB s k)) = x at *
     generalize wrN (cutB s k) = n at *
     generalize plc s k = p at *
     go_enter Tryz.func121, Tryz.ntmps121
     go_wp2_with (first
      | ((with_reducible refine (kf _).mono ?_); rintro e w1 ⟨rfl, hb1⟩)
      | ((with_reducible refine (kc _).mono ?_); rintro e w2 ⟨rfl, hb2⟩; have hb3 := hb1.trans (hb2.mono hb1.size); have hsz := hb3.size; have H3 : Hid (ScAt B w2 g s l 0 v) := Lib.hid (H.out.below hb3))
      | ((refine (fail_any ⟨v, H3.out⟩ 31 p).mono ?_); rintro e w4 ⟨rfl, hsc, hkp⟩))
     go_ret
     exact (HX _ hsc ((Kp.of_below (hb3.mono hB) g).trans hkp)).out
 · rw [if_neg hm] at hkd
   rw [Bool.not_eq_true] at hm
   have hp : wrN (cutB s k) = 0 := runN_zero hm
   have hx : cutA (cutB s k) (wrN (cutB s k)) = ⟨#[]⟩ := by rw [hp, cutA_zero]
   rw [hx] at kf
   have HX : ∀ W', Sc B W' g s l 30 → Kp g B w W' → Hid (Stepped B g s k l w (.returned (.int .i64 (plc s k : Nat))) W') := fun W' a b => Lib.hid ⟨b, .inr ⟨by omega, rfl, by rw [hkd]; exact a⟩⟩
   clear hkd hln hpl hcs hp hm hz hx kc hbig hwl
   generalize plc s k = p at *
   go_enter Tryz.func121, Tryz.ntmps121
   go_wp2_with (first
    | ((with_reducible refine (kf _).mono ?_); rintro e w1 ⟨rfl, hb1⟩; have hsz := hb1.size; have H3 : Hid (ScAt B w1 g s l 0 v) := Lib.hid (H.out.below hb1))
    | ((refine (fail_any ⟨v, H3.out⟩ 30 p).mono ?_); rintro e w4 ⟨rfl, hsc, hkp⟩))
   go_ret
   exact (HX _ hsc ((Kp.of_below (hb1.mono hB) g).trans hkp)).out
theorem pre_slash {u : ByteArray} : preB u ⟨#[47, 47]⟩ = decide (1 < u.size ∧ bt u 0 = 47 ∧ bt u 1 = 47) := by
 unfold preB
 rw [Bool.eq_iff_iff, decide_eq_true_iff, decide_eq_true_iff, show (⟨#[47, 47]⟩ : ByteArray).size = 2 from rfl]
 have hg : ∀ j, j < min 2 u.size → bt (u.extract 0 2) j = bt u j := fun j hj => by rw [bt_ext_get _ _ _ _ (by omega), Nat.zero_add]
 constructor
 · rintro ⟨h1, h2⟩
   refine ⟨by omega, ?_, ?_⟩
   · rw [← hg 0 (by omega), h2]; rfl
   · rw [← hg 1 (by omega), h2]; rfl
 · rintro ⟨h1, h2, h3⟩
   refine ⟨by omega, bt_ext (by rw [size_ext, show (⟨#[47, 47]⟩ : ByteArray).size = 2 from rfl]; omega) fun j hj => ?_⟩
   rw [size_ext] at hj
   rw [hg j (by omega)]
   obtain rfl | rfl : j = 0 ∨ j = 1 := by omega
   · rw [h2]; rfl
   · rw [h3]; rfl
theorem note_any (h : Sc B w g s l 0) (hB : B ≤ w.heap.size) (hs : s.size ≤ 2048) (hk : plc s k < s.size) (h47 : bt s (plc s k) = 47) :
 Calls Tryz.prog 162 #[.pointer (some ⟨g, 0, none⟩), .int .i64 (plc s k : Nat)] w (Stepped B g s k l w) := by
 have h0 : bt (cutB s k) 0 = bt s (plc s k) := bt_cutB (j := 0) (by omega)
 have hz := cutB_size s k
 have hkd : kd (cutB s k) = if 1 < (cutB s k).size ∧ bt (cutB s k) 1 = 47 then 0 else 30 := by
  conv => lhs; unfold kd
  rw [h0, h47, show blankB 47 = false from rfl, show signB 47 = false from rfl, if_neg (by decide), if_neg (by decide), if_pos rfl]
 have hln : ln (cutB s k) = ntN (cutB s k) := by
  conv => lhs; unfold ln
  rw [h0, h47, show blankB 47 = false from rfl, show signB 47 = false from rfl, if_neg (by decide), if_neg (by decide), if_pos rfl]
 have hpl := plc_cutB s k (ntN (cutB s k))
 have hcs := cutA_size (cutB s k) (ntN (cutB s k))
 have hbig : (cutA (cutB s k) (ntN (cutB s k))).size ≤ 1000000 := by have := plc_le (cutB s k) (ntN (cutB s k)); omega
 have kp : ∀ W, Calls Tryz.prog 192 #[.string (s.extract (plc s k) s.size), .string ⟨#[47, 47]⟩] W fun e w' => e = .returned (.bool (preB (cutB s k) ⟨#[47, 47]⟩)) ∧ w' = W := fun W => hasPrefix_any (cutB s k) _ W
 have kc : ∀ W, Calls Tryz.prog 67 #[.string (s.extract (plc s k) s.size), .string ⟨#[10]⟩] W fun e w' => (∃ y b, e = .returned (.tuple #[.string (cutA (cutB s k) (ntN (cutB s k))), .string y, .bool b])) ∧ Below W.heap.size W w' := fun W => cut_nl (cutB s k) W (by omega)
 have hb1 : plc s k ≤ s.size := Nat.le_of_lt hk
 rw [pre_slash, h0] at kp
 obtain ⟨v, h⟩ := h
 have c0 := h.c0
 have hgs := h.size
 have H := Lib.hid h
 clear h
 by_cases hm : 1 < (cutB s k).size ∧ bt (cutB s k) 1 = 47
 · rw [if_pos hm] at hkd
   rw [decide_eq_true ⟨hm.1, h47, hm.2⟩] at kp
   have HX : ∀ W', Below w.heap.size w W' → Hid (Stepped B g s k l w (.returned (.int .i64 ((plc s k + (cutA (cutB s k) (ntN (cutB s k))).size : Nat) : Int))) W') := fun W' b => Lib.hid ⟨Kp.of_below (b.mono hB) g, .inl ⟨by omega, by rw [hln, hcs, hpl], by unfold stepT; rw [if_pos hkd, List.append_nil]; exact ⟨v, H.out.below b⟩⟩⟩
   clear hkd hln hpl hcs hm hz h0 h47
   generalize cutA (cutB s k) (ntN (cutB s k)) = x at *
   generalize plc s k = p at *
   go_enter Tryz.func162, Tryz.ntmps162
   go_wp2_with (first
    | ((with_reducible refine (kp _).mono ?_); rintro e w' ⟨rfl, rfl⟩)
    | ((with_reducible refine (kc _).mono ?_); rintro e w1 ⟨⟨y, b, rfl⟩, hb1⟩))
   go_ret
   exact (HX _ hb1).out
 · rw [if_neg hm] at hkd
   rw [decide_eq_false (fun h => hm ⟨h.1, h.2.2⟩)] at kp
   have HX : ∀ W', Sc B W' g s l 30 → Kp g B w W' → Hid (Stepped B g s k l w (.returned (.int .i64 (plc s k : Nat))) W') := fun W' a b => Lib.hid ⟨b, .inr ⟨by omega, rfl, by rw [hkd]; exact a⟩⟩
   clear hkd hln hpl hcs hm hz h0 h47 hbig kc
   generalize plc s k = p at *
   go_enter Tryz.func162, Tryz.ntmps162
   go_wp2_with (first
    | ((with_reducible refine (kp _).mono ?_); rintro e w' ⟨rfl, rfl⟩)
    | ((refine (fail_any ⟨v, H.out⟩ 30 p).mono ?_); rintro e w4 ⟨rfl, hsc, hkp⟩))
   go_ret
   exact (HX _ hsc hkp).out
end
end Go.Proofs.YtahegpfdbgbioaaGreat
