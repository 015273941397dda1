/- Layer 7: a type, read. Conditions: none. -/
import Derived.Test.YteafdhpcnpfmkaaGreatRel
import Derived.Test.YteafdhpcnpfmkaaGreatRegion7
namespace Go.Proofs.YteafdhpcnpfmkaaGreat
open Go.RowKit

/-- A relation's cells. -/
def RelC (w : World) (B : Nat) (ys : List Value) (x : RelP) : Prop := ∃ vs vo, ys = [.string x.name, .string x.view, .string x.edit, .string x.check, vs, vo] ∧ VSubs B w vs x.subs ∧ VOps B w vo x.ops
def RelsC (w : World) (B : Nat) : List RelP → List Value → Prop
  | [], xs => xs = []
  | x :: r, xs => ∃ ys zs, xs = ys ++ zs ∧ RelC w B ys x ∧ RelsC w B r zs
/-- What keeps each of the rows of who may stand in tuples, and of operations. -/
def Keeps (w w' : World) (B : Nat) : Prop := (∀ v n xs, w.ownsRow B 104 2 v n xs → w'.ownsRow B 104 2 v n xs) ∧ (∀ v n xs, w.ownsRow B 132 3 v n xs → w'.ownsRow B 132 3 v n xs)
theorem RelC.keep {w w' : World} {B : Nat} {ys : List Value} {x : RelP} (h : RelC w B ys x) (hk : Keeps w w' B) : RelC w' B ys x := by
  obtain ⟨vs, vo, e, h1, h2⟩ := h
  exact ⟨vs, vo, e, hk.1 _ _ _ h1, hk.2 _ _ _ h2⟩
theorem RelsC.keep {w w' : World} {B : Nat} (hk : Keeps w w' B) : ∀ {l : List RelP} {xs : List Value}, RelsC w B l xs → RelsC w' B l xs
  | [], _, h => h
  | _ :: _, _, h => by
    obtain ⟨ys, zs, e, h1, h2⟩ := h
    exact ⟨ys, zs, e, h1.keep hk, RelsC.keep hk h2⟩
theorem RelsC.snoc {w : World} {B : Nat} {y : RelP} {ws : List Value} (hy : RelC w B ws y) : ∀ {l : List RelP} {xs : List Value}, RelsC w B l xs → RelsC w B (l ++ [y]) (xs ++ ws)
  | [], xs, h => by
    have : xs = [] := h
    subst this
    exact ⟨ws, [], by simp, hy, rfl⟩
  | x :: r, xs, h => by
    obtain ⟨ys, zs, e, h1, h2⟩ := h
    exact ⟨ys, zs ++ ws, by rw [e, List.append_assoc], h1, RelsC.snoc hy h2⟩
def VRels (B : Nat) (w : World) (v : Value) (l : List RelP) : Prop := ∃ xs, w.ownsRow B 115 6 v l.length xs ∧ RelsC w B l xs
def VTyp (B : Nat) (w : World) (v : Value) (t : TypP) : Prop := ∃ vr, v = .agg #[.string t.name, vr] ∧ VRels B w vr t.rels
/-- Another row, of elements of another type, is grown: a row stays. -/
theorem own_grown {w w' : World} {B B2 : Nat} {e e2 : TypeId} {s s2 n n2 : Nat} {u v : Value} {xs ys : List Value} (h : w.ownsRow B e s v n xs) (hu : w.ownsRow B2 e2 s2 u n2 ys) (hne : e ≠ e2) (hg : w.grownBy w' u.ownBlock) : w'.ownsRow B e s v n xs := by
  refine own_same h fun k hk => hg.block k (h.lt k hk).2 fun hk2 => ?_
  rcases h.2 with ⟨rfl, _⟩ | ⟨g, cap, cur, rfl, _, hh, _⟩
  · simp [Value.ownBlock] at hk
  rcases hu.2 with ⟨rfl, _⟩ | ⟨g2, cap2, cur2, rfl, _, hh2, _⟩
  · simp [Value.ownBlock] at hk2
  simp only [Value.ownBlock, Option.some.injEq] at hk hk2
  subst hk
  subst hk2
  rw [hh] at hh2
  injection hh2 with hh2
  injection hh2 with _ h3 _
  exact hne h3
theorem keeps_kp {g B : Nat} {w w' : World} (hk : Kp g w.heap.size w w') (hg : g < B) : Keeps w w' B := ⟨fun _ _ _ h => own_kp h hk hg, fun _ _ _ h => own_kp h hk hg⟩
theorem keeps_set {B : Nat} {w : World} {a : Addr} (ha : a.block < B) (u : Value) : Keeps w (w.setCell a u) B := ⟨fun _ _ _ h => own_set h ha u, fun _ _ _ h => own_set h ha u⟩
theorem keeps_grown {w w' : World} {B B2 : Nat} {e2 : TypeId} {s2 n2 : Nat} {u : Value} {ys : List Value} {o : Obj} (hu : w.ownsRow B2 e2 s2 u n2 ys) (h1 : 104 ≠ e2) (h2 : 132 ≠ e2) (hg : (w.alloc o).grownBy w' u.ownBlock) : Keeps w w' B :=
  ⟨fun _ _ _ h => own_grown (World.ownsRow.alloc h o) (World.ownsRow.alloc hu o) h1 hg, fun _ _ _ h => own_grown (World.ownsRow.alloc h o) (World.ownsRow.alloc hu o) h2 hg⟩
theorem Keeps.base {w : World} {B B' : Nat} (h : B' ≤ B) {l : List RelP} {xs : List Value} : RelsC w B l xs → RelsC w B' l xs := by
  intro hr
  induction l generalizing xs with
  | nil => exact hr
  | cons x r ih =>
    obtain ⟨ys, zs, e, ⟨vs, vo, e2, h1, h2⟩, h3⟩ := hr
    exact ⟨ys, zs, e, ⟨vs, vo, e2, own_base h1 h, own_base h2 h⟩, ih h3⟩
theorem Kp.drew {g B : Nat} {w w' : World} (h : Kp g B w w') : Kp g B w w'.drew := h.trans ⟨rfl, rfl, rfl, Nat.le_refl _, fun _ _ _ => rfl⟩
theorem own_drew {w : World} {B : Nat} {e : TypeId} {s n : Nat} {v : Value} {xs : List Value} (h : w.ownsRow B e s v n xs) : w.drew.ownsRow B e s v n xs := own_same h fun _ _ => rfl
theorem keeps_drew (w : World) (B : Nat) : Keeps w w.drew B := ⟨fun _ _ _ h => own_drew h, fun _ _ _ h => own_drew h⟩
theorem rcell_one (a b c d : ByteArray) (p q : Option Addr) (m n r s : Nat) : ∀ u ∈ [Value.string a, .string b, .string c, .string d, .slice p m r, .slice q n s], u.oneCell' = true := by
  intro u hu
  simp only [List.mem_cons, List.not_mem_nil, or_false] at hu
  rcases hu with rfl | rfl | rfl | rfl | rfl | rfl <;> rfl
theorem Bk.grown {w w' : World} {b base : Nat} {cs : Array Value} {t : TypeId} {e : TypeId} {size n : Nat} {v : Value} {xs : List Value} {o : Obj} (h : Bk w b cs t) (hg : (w.alloc o).grownBy w' v.ownBlock) (hown : w.ownsRow base e size v n xs) (hle : b < base) : Bk w' b cs t := by
  have := h.lt
  refine (hg.block b (by simp; omega) fun e => ?_).trans (h.alloc o)
  have := (hown.lt b e.symm).1
  omega
theorem info_rel : (Tryz.prog.info? 115).map (fun i => (i.zero, i.size, i.bytes)) = some (some (.agg #[.string .empty, .string .empty, .string .empty, .string .empty, .slice none 0 0, .slice none 0 0]), 6, 112) := by kernel_rfl
theorem info_typ : (Tryz.prog.info? 112).map (fun i => (i.zero, i.size, i.bytes)) = some (some (.agg #[.string .empty, .slice none 0 0]), 2, 40) := by kernel_rfl
theorem cells_new6 (w : World) (a b c d e f : Value) (t : TypeId) : ∀ j u, [a, b, c, d, e, f][j]? = some u → (w.alloc (.cells #[a, b, c, d, e, f] t)).cell? ((⟨w.heap.size, 0, none⟩ : Addr).add j) = some u := by
  intro j u hj
  rw [Addr.add_lit, cell_of_row _ _ _ _ _ _ (heap_alloc_new w _), Nat.zero_add]
  simpa using hj

/-- Relations up to the brace that ends them. -/
def relsX (acc : List RelP) (l : List Tk) : Rs (List RelP) := andT (relsT acc l) fun rs r => andT (needT (sg 125) r) fun _ r => .ok (rs, r)
theorem isT_text {s : ByteArray} {l : List Tk} (h : isT s l = true) : (hdT l).2.1 = s := (of_decide_eq_true h).1
theorem isT_two {s s' : ByteArray} {l : List Tk} (h : isT s l = true) (hne : s ≠ s') : isT s' l = false := by
  cases h2 : isT s' l with
  | false => rfl
  | true => exact absurd ((isT_text h).symm.trans (isT_text h2)) hne
theorem relsX_end {acc : List RelP} {l : List Tk} (h : isT (sg 125) l = true) : relsX acc l = .ok (acc, l.tail) := by
  unfold relsX
  rw [relsT_eq, isT_two h (by decide), if_neg (by decide), andT_ok]
  unfold needT
  rw [if_pos h]
  rfl
theorem relsX_more {acc : List RelP} {l : List Tk} (h : isT (sg 125) l = false) : relsX acc l = andT (relR l) fun x r => relsX (acc ++ [x]) r := by
  rw [relR_eq]
  unfold relsX
  rw [relsT_eq]
  cases hr : isT sRel l with
  | true =>
    rw [if_pos rfl]
    unfold needT
    rw [hr, if_pos rfl, andT_ok, andT_assoc]
  | false =>
    rw [if_neg (by decide), andT_ok]
    unfold needT
    rw [h, hr, if_neg (by decide)]
    rfl
theorem relR_len {l r : List Tk} {x : RelP} (h : relR l = .ok (x, r)) : r.length < l.length := by
  rw [relR_eq] at h
  obtain ⟨a, m, h1, h2⟩ := andT_inv h
  have := needT_len sRel_size h1
  have := (relF_fuel (f := m.length + 1) (l := m) (by omega)).2 _ _ h2
  omega
def typT (l : List Tk) : Rs TypP := andT (needT sType l) fun _ r => andT (nameT r) fun n r => andT (needT (sg 123) r) fun _ r => andT (relsX [] r) fun rs r => .ok (⟨n, rs⟩, r)

section
variable {w : World} {g : Nat} {l : List Tk}
set_option maxRecDepth 100000 in
set_option maxHeartbeats 2000000 in
theorem typ_any (h : Rdr w g l) : Calls Tryz.prog 126 #[.pointer (some ⟨g, 0, none⟩)] w (Post (VTyp w.heap.size) w.heap.size w g (typT l)) := by
  suffices HH : ∀ R, To (Post (VTyp w.heap.size) w.heap.size w g (typT l)) R → Calls Tryz.prog 126 #[.pointer (some ⟨g, 0, none⟩)] w R from HH _ fun _ _ h => h
  intro R HP
  have hg := h.size
  unfold typT at HP
  go_enter Tryz.func126, Tryz.ntmps126
  go_wp2_with fail
  have hb0 := Bk.new w #[.string ⟨#[]⟩, .slice none 0 0] 112
  have hR := h.alloc (.cells #[.string ⟨#[]⟩, .slice none 0 0] 112)
  have hK : Kp g w.heap.size w _ := (Kp.refl g _ w).alloc (Nat.le_refl _) (.cells #[.string ⟨#[]⟩, .slice none 0 0] 112)
  clear h
  generalize w.alloc (.cells #[.string ⟨#[]⟩, .slice none 0 0] 112) = W at *
  generalize w.heap.size = B at *
  refine (must_any hR ask_type).mono ?_
  intro e W1 hp
  obtain ⟨hk, hc⟩ := hp.cases_
  have hz := Nat.le_of_lt hb0.lt
  replace hK := hK.trans (hk.more hz)
  replace hb0 := hb0.kp hk (by omega)
  clear hp hk hR hz
  rcases hc with ⟨c, p, hr, rfl⟩ | ⟨_, l1, v, hr, rfl, rfl, hR⟩
  · go_wp2_with fail
    exact ⟨rfl, HP.bad hr hK⟩
  replace HP := HP.bind hr
  clear hr
  go_wp2_with fail
  refine (rname_any hR).mono ?_
  intro e W2 hp
  obtain ⟨hk, hc⟩ := hp.cases_
  have hz := Nat.le_of_lt hb0.lt
  replace hK := hK.trans (hk.more hz)
  replace hb0 := hb0.kp hk (by omega)
  clear hp hk hR hz
  rcases hc with ⟨c, p, hr, rfl⟩ | ⟨n, l2, v, hr, rfl, rfl, hR⟩
  · go_wp2_with fail
    exact ⟨rfl, HP.bad hr hK⟩
  replace HP := HP.bind hr
  clear hr
  go_wp2_with fail
  have hBT := hb0.lt
  have hz := Nat.le_of_lt hBT
  have hb1 := Bk.new W2 #[.string n, .slice none 0 0] 112
  replace hb0 := hb0.alloc (.cells #[.string n, .slice none 0 0] 112)
  replace hR := hR.alloc (.cells #[.string n, .slice none 0 0] 112)
  replace hK := hK.alloc hz (.cells #[.string n, .slice none 0 0] 112)
  clear hz
  generalize W2.alloc (.cells #[.string n, .slice none 0 0] 112) = W3 at *
  generalize W2.heap.size = BT at *
  refine (must_any hR (ask_sg 123 (by decide))).mono ?_
  intro e W4 hp
  obtain ⟨hk, hc⟩ := hp.cases_
  have hz := Nat.le_of_lt hb0.lt
  replace hK := hK.trans (hk.more hz)
  replace hb0 := hb0.kp hk (by omega)
  replace hb1 := hb1.kp hk (by omega)
  clear hp hk hR hz
  rcases hc with ⟨c, p, hr, rfl⟩ | ⟨_, l3, v, hr, rfl, rfl, hR⟩
  · go_wp2_with fail
    exact ⟨rfl, HP.bad hr hK⟩
  replace HP := HP.bind hr
  clear hr
  go_wp2_with fail
  go_loopw [] (fun wr => ∃ acc l4 vr, Bk wr BT #[.string n, vr] 112 ∧ VRels (BT + 1) wr vr acc ∧ Rdr wr g l4 ∧ Kp g B w wr ∧ Bk wr B #[.string ⟨#[]⟩, .slice none 0 0] 112 ∧ To (Post (VTyp B) B w g (andT (relsX acc l4) fun rs r => .ok (⟨n, rs⟩, r))) R ∧ acc.length + l4.length ≤ 2000000) (fun wr => left wr g)
  case atStart => exact ⟨[], l3, _, hb1, ⟨[], World.ownsRow_nil _ _ _ _, rfl⟩, hR, hK, hb0, HP, by have := hR.few; simp; omega⟩
  case round =>
    clear HP hb0 hb1 hR hK
    obtain ⟨acc, l4, vr, hb1, hv, hR, hK, hb0, HP, hl⟩ := hrel
    have hlf := hR.left
    have km := may_any hR (ask_sg 125 (by decide))
    cases hi : isT (sg 125) l4 with
    | true =>
      rw [hi, if_pos rfl] at km
      rw [relsX_end hi, andT_ok] at HP
      go_wp2_with fail
      refine km.mono ?_
      rintro e W5 ⟨rfl, hR5, hk⟩
      have hz := Nat.le_of_lt hb0.lt
      replace hK := hK.trans (hk.more hz)
      replace hb0 := hb0.kp hk (by omega)
      replace hb1 := hb1.kp hk (by omega)
      obtain ⟨xs, hv1, hv2⟩ := hv
      replace hv2 := hv2.keep (keeps_kp hk (by omega))
      replace hv1 := own_kp hv1 hk (by omega)
      clear hk hR km hz
      obtain ⟨A, c, rfl, _⟩ := Rd.own hv1
      obtain ⟨x0, x1⟩ := hb1.c2
      obtain ⟨y0, y1⟩ := hb0.c2
      have fy := hb0.fz
      have hne : ¬ BT = B := by omega
      have hne2 : ¬ B = BT := by omega
      go_wp2_with fail
      refine bodyPost_ret (v := .agg #[.string n, .slice A acc.length c]) (by simp [results, Tryz.results126, go_sem, y0, y1]; try rfl) rfl ?_
      refine HP.ret rfl ?_ ⟨_, rfl, xs, ?_, ?_⟩ ?_
      · refine Kp.set (Kp.set hK ?_ _) ?_ _ <;> exact Nat.le_refl _
      · exact own_base (own_set (own_set hv1 (show B < BT + 1 by omega) _) (show B < BT + 1 by omega) _) (show B ≤ BT + 1 by omega)
      · exact Keeps.base (show B ≤ BT + 1 by omega) ((hv2.keep (keeps_set (show B < BT + 1 by omega) _)).keep (keeps_set (show B < BT + 1 by omega) _))
      · refine Rdr.set (Rdr.set hR5 ?_ _) ?_ _ <;> exact hg
    | false =>
      rw [hi, if_neg (by decide)] at km
      rw [relsX_more hi, andT_assoc] at HP
      go_wp2_with fail
      refine km.mono ?_
      rintro e W5 ⟨rfl, hR5, hk⟩
      have hz := Nat.le_of_lt hb0.lt
      replace hK := hK.trans (hk.more hz)
      replace hb0 := hb0.kp hk (by omega)
      replace hb1 := hb1.kp hk (by omega)
      obtain ⟨xs, hv1, hv2⟩ := hv
      replace hv2 := hv2.keep (keeps_kp hk (by omega))
      replace hv1 := own_kp hv1 hk (by omega)
      clear hk hR km hz
      obtain ⟨A, c, rfl, _⟩ := Rd.own hv1
      go_wp2_with fail
      replace hR5 := hR5.drew
      replace hK := hK.drew
      replace hb0 : Bk W5.drew _ _ _ := hb0
      replace hb1 : Bk W5.drew _ _ _ := hb1
      replace hv2 := hv2.keep (keeps_drew W5 (BT + 1))
      replace hv1 := own_drew hv1
      refine wp_region_any (by kernel_rfl) ?_
      change wpAny _ _ _ _ _ _ _ (World.drew _)
      generalize W5.drew = W6 at *
      -- 0 fieldAddr 37 (Operand.tmp 3) 1
      refine ro_take 0 (some 14) (v := ?v0) rfl rfl (by kernel_rfl) (by kernel_rfl) (by kernel_rfl) (fun _ _ _ h => h) (by rfl) ?y0 ?r0
      case y0 => (intro w; go_simp; try with_reducible rfl)
      simp only [Act.put, List.setIfInBounds_toArray, List.set_cons_zero, List.set_cons_succ]
      -- 2 move (Operand.tmp 0)
      refine ro_take 2 (some 16) (v := ?v2) rfl rfl (by kernel_rfl) (by kernel_rfl) (by kernel_rfl) (fun _ _ _ h => h) (by rfl) ?y2 ?r2
      case y2 => (intro w; go_simp; try with_reducible rfl)
      simp only [Act.put, List.setIfInBounds_toArray, List.set_cons_zero, List.set_cons_succ]
      refine ro_swap3 1 3 4 (some 15) (fun W => W.cell? ⟨BT, 1, none⟩ = some (.slice A acc.length c)) (v := ?v1) rfl rfl rfl rfl (by kernel_rfl) (by kernel_rfl) (by kernel_rfl) (by decide) (by decide) (by decide) (by kernel_rfl) (by kernel_rfl) (by kernel_rfl) (by kernel_rfl) (by kernel_rfl) (by kernel_rfl) (by kernel_rfl) (by kernel_rfl) (by kernel_rfl) (by kernel_rfl) (fun _ _ _ h => h) (by rfl) ?y1 (hb1.cell 1) ?r1
      case y1 => (intro w hS; (try dsimp only at hS); go_simp; try with_reducible rfl)
      simp only [Act.put, List.setIfInBounds_toArray, List.set_cons_zero, List.set_cons_succ]
      intro K hK'
      go_simp
      refine (relation_any hR5).mono ?_
      intro e W7 hp
      obtain ⟨hk, hc⟩ := hp.cases_
      have hz := Nat.le_of_lt hb0.lt
      have hlt := hb1.lt
      replace hK := hK.trans (hk.more hz)
      replace hb0 := hb0.kp hk (by omega)
      replace hb1 := hb1.kp hk (by omega)
      replace hv2 := hv2.keep (keeps_kp hk (by omega))
      replace hv1 := own_kp hv1 hk (by omega)
      clear hp hk hR5 hz
      rcases hc with ⟨c, p, hr, rfl⟩ | ⟨x, l5, v, hr, rfl, ⟨vs, vo, rfl, hs1, hs2⟩, hR⟩
      · go_wp2_with fail
        exact ⟨rfl, HP.bad hr hK⟩
      replace HP := HP.bind hr
      have hlen := relR_len hr
      clear hr
      have hs1' : VSubs (BT + 1) W7 vs x.subs := own_base hs1 (by omega)
      have hs2' : VOps (BT + 1) W7 vo x.ops := own_base hs2 (by omega)
      obtain ⟨As, cS, rfl, _⟩ := Rd.own hs1'
      obtain ⟨Ao, cO, rfl, _⟩ := Rd.own hs2'
      clear hs1 hs2
      refine hK' _ _ (hb1.cell 1) ?_
      clear hK' K
      refine wpOp_step rfl fun K2 hK2 => ?_
      go_simp
      refine hK2 _ _ ⟨cell_alloc (hb1.cell 1) _, ?_⟩
      clear hK2 K2
      have hz7 : BT + 1 ≤ W7.heap.size := hb1.lt
      obtain ⟨i0, hi0, hz0, hz1, hz2⟩ := info_parts info_rel
      have hlf6 := hR.few
      refine wpAny_ready (rs := [5]) (by kernel_rfl) (by simp) ?_
      refine AllReady.cons rfl (fun K hK' => ?_) AllReady.nil
      rw [if_pos (by rfl)]
      refine op_append_src _ (some 19) rfl (.tmp 15) (.tmp 18) 110 110 rfl (BT + 1) 115 i0 (.agg #[.string .empty, .string .empty, .string .empty, .string .empty, .slice none 0 0, .slice none 0 0]) 6 112 Tryz.underlying110 hi0 hz0 hz1 hz2 rfl (by decide) (.slice A acc.length c) acc.length xs rfl (World.ownsRow.alloc hv1 _) _ 1 [.string x.name, .string x.view, .string x.edit, .string x.check, .slice As x.subs.length cS, .slice Ao x.ops.length cO] rfl (Src.ofSlice _ Tryz.underlying110 _ 1 1 _ rfl (cells_new6 _ _ _ _ _ _ _ _) (rcell_one _ _ _ _ _ _ _ _ _ _)) (by simp only [maxLen]; omega) (by omega) (size_alloc hz7) ?_
      intro v8 W8 hown8 hg8
      refine hK' _ _ ?_
      clear hK' K
      simp only [Act.put, List.setIfInBounds_toArray, List.set_cons_zero, List.set_cons_succ]
      have hR8 := rdr_grown (v := .slice A acc.length c) hR hg8 hv1 (by omega)
      have hK8 := kp_grown (v := .slice A acc.length c) hK hg8 hv1 (Nat.le_of_lt hb0.lt) (by omega)
      have hb08 := hb0.grown (v := .slice A acc.length c) hg8 hv1 (by omega)
      have hb18 := hb1.grown (v := .slice A acc.length c) hg8 hv1 (by omega)
      have hkp := keeps_grown (B := BT + 1) (u := .slice A acc.length c) hv1 (by decide) (by decide) hg8
      have hv28 := RelsC.snoc (y := x) ⟨_, _, rfl, hkp.1 _ _ _ hs1', hkp.2 _ _ _ hs2'⟩ (hv2.keep hkp)
      clear hg8 hkp hv2 hv1 hs1' hs2' hb0 hb1 hK hR
      obtain ⟨A8, c8, rfl, _⟩ := Rd.own hown8
      -- 6 fieldAddr
      refine ro_take 6 (some 20) (v := ?v6) rfl rfl (by kernel_rfl) (by kernel_rfl) (by kernel_rfl) (fun _ _ _ h => h) (by rfl) ?y6 ?r6
      case y6 => (intro w; go_simp; try with_reducible rfl)
      simp only [Act.put, List.setIfInBounds_toArray, List.set_cons_zero, List.set_cons_succ]
      -- 7 store
      obtain ⟨x0, x1⟩ := hb18.c2
      have fx := hb18.fz
      refine wpAny_ready (rs := [7]) (by kernel_rfl) (by simp) ?_
      refine AllReady.cons rfl (fun K hK' => ?_) AllReady.nil
      go_simp
      refine hK' _ _ ?_
      clear hK' K
      refine wpAny_done (by kernel_rfl) ?_ _
      have hR9 := hR8.set (a := ⟨BT, 1, none⟩) (show g < BT by omega) (.slice A8 (acc.length + 1) c8)
      have hK9 := hK8.set (a := ⟨BT, 1, none⟩) (show B ≤ BT by omega) (.slice A8 (acc.length + 1) c8)
      have hb09 := hb08.other (a := ⟨BT, 1, none⟩) (show B ≠ BT by omega) (.slice A8 (acc.length + 1) c8)
      have hb19 : Bk _ BT #[.string n, .slice A8 (acc.length + 1) c8] 112 := hb18.set 1 (.slice A8 (acc.length + 1) c8)
      have hv29 := hv28.keep (keeps_set (a := ⟨BT, 1, none⟩) (show BT < BT + 1 by omega) (.slice A8 (acc.length + 1) c8))
      have hv19 := own_set (a := ⟨BT, 1, none⟩) hown8 (show BT < BT + 1 by omega) (.slice A8 (acc.length + 1) c8)
      clear hR8 hK8 hb08 hb18 hv28 hown8 x0 x1 fx
      generalize W8.setCell ⟨BT, 1, none⟩ (.slice A8 (acc.length + 1) c8) = W9 at *
      go_wp2_with fail
      refine ⟨⟨acc ++ [x], l5, _, hb19, ⟨_, ?_, hv29⟩, hR9, hK9, hb09, HP, ?_⟩, ?_⟩
      · rw [List.length_append]
        exact hv19
      · rw [List.length_append, List.length_singleton]
        omega
      · rw [hR9.left, hlf]
        exact hlen
end
end Go.Proofs.YteafdhpcnpfmkaaGreat
