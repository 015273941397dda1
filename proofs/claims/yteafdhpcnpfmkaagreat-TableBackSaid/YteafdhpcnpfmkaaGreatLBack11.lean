/- The statement TableBack, proved: for every input the call returns true and each argument reads behind it as it read before; no condition. First the walk, then its last step. -/
import Derived.Test.YteafdhpcnpfmkaaGreatTabL
import Derived.Test.YteafdhpcnpfmkaaGreatAwake11
import Derived.Test.YteafdhpcnpfmkaaGreatBackS
import Derived.Test.YteafdhpcnpfmkaaGreatFrame
namespace Go.Proofs.YteafdhpcnpfmkaaGreat
open Go.RowKit

theorem good_kind : ∀ t : Ex, t.good → ∀ o ∈ t.ops, o.1 ≤ 6
  | .this, _ => fun o ho => by rw [List.mem_singleton.1 ho]; decide
  | .same n, _ => fun o ho => by rw [List.mem_singleton.1 ho]; show 2 ≤ 6; decide
  | .via n m, _ => fun o ho => by rw [List.mem_singleton.1 ho]; show 3 ≤ 6; decide
  | .bin k a b, g => fun o ho => by
    rcases List.mem_append.1 ho with ho | ho
    · rcases List.mem_append.1 ho with ho | ho
      · exact good_kind a g.2.1 o ho
      · exact good_kind b g.2.2 o ho
    · rw [List.mem_singleton.1 ho]
      show k ≤ 6
      rcases g.1 with rfl | rfl | rfl <;> decide
/-- There is a first operation, and it isn't of the kind 9. -/
theorem TabOk.first {s tx : ByteArray} {ty : List ByteArray} {ps : List Path} {v : List Int} {K : List TabR} (h : TabOk s tx ty ps (K.map (·.r)) v) {i : Nat} (hi : i < K.length) :
    ∃ k r nx, (atK K i).r.ops[0]? = some (k, r, nx) ∧ k ≤ 6 ∧ 0 < (atK K i).r.ops.length := by
  obtain ⟨x, hx, e⟩ := h.at_ hi
  obtain ⟨q1, q2⟩ := rel_mem (List.mem_of_getElem? hx)
  obtain ⟨t, ht, hg, _, _⟩ := said_tree q1 q2
  have hp := t.len_pos
  unfold Ex.len at hp
  have hops : (atK K i).r.ops = (t.ops.map opZ).map (opT11 ps x.1.name) := by
    rw [e]
    show x.2.ops.map _ = _
    rw [ht]
  rw [hops]
  refine ⟨_, _, _, by rw [List.getElem?_map, List.getElem?_map, List.getElem?_eq_getElem hp]; rfl, ?_, by rw [List.length_map, List.length_map]; exact hp⟩
  have := good_kind t hg _ (List.getElem_mem hp)
  show ((t.ops[0].1 : Nat) : Int) ≤ 6
  omega
theorem TabOk.self {s tx : ByteArray} {ty : List ByteArray} {ps : List Path} {v : List Int} {K : List TabR} (h : TabOk s tx ty ps (K.map (·.r)) v) {i : Nat} (hi : i < K.length) :
    ixP ps ((atK K i).r.tn, (atK K i).r.rn) = i ∧ (lastIx ps ((atK K i).r.tn, (atK K i).r.rn)).isSome = true ∧ (ty.any fun y => decide (y = (atK K i).r.tn)) = true := by
  obtain ⟨x, hx, e⟩ := h.at_ hi
  have hl := h.right.ix_at hx
  rw [← h.paths] at hl
  rw [e]
  have hl2 : lastIx ps ((relT11 ps (lvAt v i) x).tn, (relT11 ps (lvAt v i) x).rn) = some i := hl
  refine ⟨by unfold ixP; rw [hl2]; rfl, by rw [hl2]; rfl, ?_⟩
  rw [h.types]
  obtain ⟨q1, q2⟩ := rel_mem (List.mem_of_getElem? hx)
  obtain ⟨t0, ht0, e0⟩ := List.mem_map.1 q1
  exact List.any_eq_true.2 ⟨t0.name, List.mem_map.2 ⟨t0, ht0, rfl⟩, decide_eq_true (congrArg TypI.name e0)⟩
theorem TabOk.sizes {s tx : ByteArray} {ty : List ByteArray} {ps : List Path} {v : List Int} {K : List TabR} (h : TabOk s tx ty ps (K.map (·.r)) v) {i : Nat} (hi : i < K.length) :
    (atK K i).r.tn.size ≤ maxLen ∧ (atK K i).r.rn.size ≤ maxLen := by
  obtain ⟨x, hx, e⟩ := h.at_ hi
  obtain ⟨q1, q2⟩ := rel_mem (List.mem_of_getElem? hx)
  obtain ⟨t0, ht0, e0⟩ := List.mem_map.1 q1
  have hs := said_small s t0 ht0
  rw [← e0] at q2
  obtain ⟨r0, hr0, e1⟩ := List.mem_map.1 q2
  have h1 : (atK K i).r.tn = t0.name := by rw [e]; show x.1.name = _; rw [← e0]; rfl
  have h2 : (atK K i).r.rn = r0.name := by rw [e]; show x.2.name = _; rw [← e1]; rfl
  rw [h1, h2]
  have := (hs.2.2 r0 hr0).name
  simp only [maxLen]
  omega
theorem at_same {K K2 : List TabR} (h : K.map (·.r) = K2.map (·.r)) (id : Int) : (atK K2 id).r = (atK K id).r := by
  unfold atK
  split
  · have h1 := congrArg (·[id.toNat]?) h
    simp only [List.getElem?_map] at h1
    rw [List.getD_eq_getElem?_getD, List.getD_eq_getElem?_getD]
    cases e1 : K[id.toNat]? with
    | none =>
      cases e2 : K2[id.toNat]? with
      | none => rfl
      | some b => rw [e1, e2] at h1; cases h1
    | some a =>
      cases e2 : K2[id.toNat]? with
      | none => rw [e1, e2] at h1; cases h1
      | some b => rw [e1, e2] at h1; exact (Option.some.inj h1).symm
  · rfl
theorem TabOk.back {s tx : ByteArray} {ty : List ByteArray} {ps : List Path} {R : List RelT} {v : List Int} (h : TabOk s tx ty ps R v) : tx.size ≤ 2048 ∧ (parseS s).1 = (parseS tx).1 ∧ (parseS s).2.1 = (parseS tx).2.1 := by
  have hb := parse_back (T := (parseS s).1) (parse_goodT s) h.size
  rw [h.text]
  exact ⟨h.size, by rw [hb], by rw [hb]; exact h.says⟩
theorem ot_get {l : List OpT} {j : Nat} {k r : Int} {nx : ByteArray} (h : l[j]? = some (k, r, nx)) : (otcells l)[j * 3 + 0]? = some (.int .i64 k) ∧ (otcells l)[j * 3 + 1]? = some (.int .i64 r) ∧ (otcells l)[j * 3 + 2]? = some (.string nx) := by
  have g := fun q (hq : q < 3) => flat_get otcell (sz := 3) (fun _ => rfl) h (k := q) hq
  exact ⟨g 0 (by omega), g 1 (by omega), g 2 (by omega)⟩
/-- The row that is written: from the place j on it is as it was; the other one is as it was. -/
def BackI (gl gm : Nat) (_cur curm : Array Value) (xs : List Value) (j : Nat) (w : World) : Prop :=
  (∃ cu, Bk w gl cu 62 ∧ ∀ q k u, k < 3 → j ≤ q → xs[q * 3 + k]? = some u → cu[q * 3 + k]? = some u) ∧ Bk w gm curm 62
theorem own_bk {w : World} {base n : Nat} {e : TypeId} {A : Option Addr} {c : Nat} {l : List OpT} (h : w.ownsRow base e 3 (.slice A n c) n (otcells l)) (hn : 0 < n) :
    ∃ g cur, A = some ⟨g, 0, none⟩ ∧ base ≤ g ∧ Bk w g cur e ∧ ∀ q k u, k < 3 → (otcells l)[q * 3 + k]? = some u → cur[q * 3 + k]? = some u := by
  rcases h.2 with ⟨he, hx⟩ | ⟨g, cap, cur, he, hb, hh, _, _, _, ht⟩
  · omega
  · injection he with e1 e2 e3
    refine ⟨g, cur, e1, hb, hh, fun q k u _ hu => ?_⟩
    rw [← ht] at hu
    have hlt := (List.getElem?_eq_some_iff.1 hu).1
    rw [List.getElem?_take_of_lt (by rw [List.length_take] at hlt; omega)] at hu
    rw [← Array.getElem?_toList]
    exact hu
set_option maxRecDepth 100000 in
set_option maxHeartbeats 4000000 in
theorem tableBack_walk (s0 : ByteArray) (w : World) (_f0 : s0.size ≤ maxLen) :
    Calls Tryz.prog 4 #[.string s0] w fun e w' => e = .returned (.bool true) ∧ Below w.heap.size w w' := by
  have ka := awake11_any w
  by_cases h0 : 1500 < s0.size
  · have hd : (s0.size : Int) > 1500 := by omega
    go_enter Tryz.func4, Tryz.ntmps4
    go_wp2_with (go_at_call 8; refine ka.mono ?_; rintro e w1 ⟨rfl, hb⟩)
    go_ret
    exact ⟨rfl, hb⟩
  · have hd : ¬ (s0.size : Int) > 1500 := by omega
    go_enter Tryz.func4, Tryz.ntmps4
    go_upto_region 6 with (go_at_call 8; refine ka.mono ?_; rintro e w1 ⟨rfl, hb⟩)
    have kc := compile_any s0 (by omega) w1
    go_upto_region 7 with (go_at_call 9; refine kc.mono ?_; rintro e w2 ⟨⟨tx, Ay, cy, ty, mb, ps, Ar, cr, K, err, rfl, hT, hC⟩, hb1⟩)
    replace hb := bthenZ hb hb.size hb1
    have dT := Bk.new w2 #[.string tx, .slice Ay ty.length cy, .map mb, .slice Ar K.length cr] 27
    have hbn := bnewZ w2 (.cells #[.string tx, .slice Ay ty.length cy, .map mb, .slice Ar K.length cr] 27)
    replace hT := hT.up hbn
    replace hb := bthenZ hb hb.size hbn
    clear hbn kc hb1 ka
    generalize w2.alloc (.cells #[.string tx, .slice Ay ty.length cy, .map mb, .slice Ar K.length cr] 27) = w3 at *
    generalize w2.heap.size = g1 at *
    rcases hC.yes with ⟨he, e1, e2, e3, e4⟩ | ⟨he, v, hok⟩
    · have he' : ¬ ((err : Int) = 0) := by omega
      have hK0 : K.length = 0 := by have := congrArg List.length e4; rwa [List.length_map] at this
      have k1 : ∀ W : World, TabA W Ay cy ty mb ps Ar cr K → Calls Tryz.prog 11 #[.agg #[.string tx, .slice Ay ty.length cy, .map mb, .slice Ar K.length cr]] W fun e w' => e = .returned (.int .i64 0) ∧ Below W.heap.size W w' := fun W h => (tlen_any (tx := tx) (Ay := Ay) (ny := ty.length) (cy := cy) (mb := mb) h.rels).mono fun e w' q => ⟨by rw [q.1, hK0]; rfl, q.2⟩
      have k2 : ∀ W : World, Calls Tryz.prog 13 #[.agg #[.string tx, .slice Ay ty.length cy, .map mb, .slice Ar K.length cr]] W fun e w' => e = .returned (.string ⟨#[]⟩) ∧ Below W.heap.size W w' := fun W => (ttext_any (tx := tx) (Ay := Ay) (ny := ty.length) (cy := cy) (mb := mb) (Ar := Ar) (cr := cr) (nr := K.length)).mono fun e w' q => ⟨by rw [q.1, e1], q.2⟩
      have k3 : ∀ W : World, TabA W Ay cy ty mb ps Ar cr K → Calls Tryz.prog 15 #[.agg #[.string tx, .slice Ay ty.length cy, .map mb, .slice Ar K.length cr], .string ⟨#[117, 115, 101, 114]⟩] W fun e w' => e = .returned (.bool false) ∧ Below W.heap.size W w' := fun W h => (thas_any (tx := tx) (mb := mb) (Ar := Ar) (cr := cr) (nr := K.length) h.types ⟨#[117, 115, 101, 114]⟩).mono fun e w' q => ⟨by rw [q.1, e2]; rfl, q.2⟩
      clear hC e1 e2 e3 e4 hK0
      obtain ⟨c0, c1, c2, c3⟩ := dT.c4
      have cl := dT.lt
      go_wp2_with (first
        | (go_at_call 11; with_reducible refine (k1 _ hT).mono ?_; rintro e wn ⟨rfl, hb3⟩; replace hT := hT.up hb3; replace dT := dT.below hb3; replace hb := bthenZ hb hb.size hb3; obtain ⟨c0, c1, c2, c3⟩ := dT.c4; have cl := dT.lt; clear hb3)
        | (go_at_call 13; with_reducible refine (k2 _).mono ?_; rintro e wn ⟨rfl, hb3⟩; replace hT := hT.up hb3; replace dT := dT.below hb3; replace hb := bthenZ hb hb.size hb3; obtain ⟨c0, c1, c2, c3⟩ := dT.c4; have cl := dT.lt; clear hb3)
        | (go_at_call 15; with_reducible refine (k3 _ hT).mono ?_; rintro e wn ⟨rfl, hb3⟩; replace hT := hT.up hb3; replace dT := dT.below hb3; replace hb := bthenZ hb hb.size hb3; obtain ⟨c0, c1, c2, c3⟩ := dT.c4; have cl := dT.lt; clear hb3))
      go_ret
      exact ⟨rfl, hb⟩
    · subst he
      rw [show ((0 : Nat) : Int) = 0 from rfl]
      have hK96 := hok.few
      obtain ⟨htz, hp1, hp2⟩ := hok.back
      have hone := Lib.hid fun (e : Nat) (ux : ByteArray) (uy : List ByteArray) (qs : List Path) (R : List RelT) (h : CompIs tx e ux uy qs R) => hC.one (h.move hp1 hp2)
      replace hok := Lib.hid hok
      clear hC hp1 hp2
      obtain ⟨c0, c1, c2, c3⟩ := dT.c4
      have cl := dT.lt
      have kt := fun (W : World) => ttext_any (w := W) (tx := tx) (Ay := Ay) (ny := ty.length) (cy := cy) (mb := mb) (Ar := Ar) (cr := cr) (nr := K.length)
      have kc2 := fun (W : World) => compile_any tx (by omega) W
      go_upto_region 10 with (first
        | (go_at_call 13; refine (kt _).mono ?_; rintro e wn ⟨rfl, hb3⟩; replace hT := hT.up hb3; replace dT := dT.below hb3; replace hb := bthenZ hb hb.size hb3; clear hb3)
        | (go_at_call 9; refine (kc2 _).mono ?_; rintro e w4 ⟨⟨ux, Uy, vy, uy, nb, qs, Ur, vr, K2, err2, rfl, hT2, hC2⟩, hb3⟩))
      have qq := hone.out _ _ _ _ _ hC2
      have q1 := qq.1
      have q2 := qq.2.1
      have q3 := qq.2.2.2.2
      subst q1
      subst q2
      have hKK : Hid (K2.length = K.length) := Lib.hid (by have := congrArg List.length q3; rw [List.length_map, List.length_map] at this; exact this.symm)
      have hsm := Lib.hid (at_same q3)
      clear qq q3 hC2 hone kt kc2 c0 c1 c2 c3 cl
      rw [show ((0 : Nat) : Int) = 0 from rfl]
      have hb4 := hb3.alloc hb3.size (.cells #[.string tx, .slice Uy uy.length vy, .map nb, .slice Ur K2.length vr] 27)
      have dU := Bk.new w4 #[.string tx, .slice Uy uy.length vy, .map nb, .slice Ur K2.length vr] 27
      replace hT2 := hT2.up (bnewZ w4 (.cells #[.string tx, .slice Uy uy.length vy, .map nb, .slice Ur K2.length vr] 27))
      replace hT := hT.up hb4
      replace dT := dT.below hb4
      replace hb := bthenZ hb hb.size hb4
      clear hb3 hb4
      generalize w4.alloc (.cells #[.string tx, .slice Uy uy.length vy, .map nb, .slice Ur K2.length vr] 27) = w5 at *
      generalize w4.heap.size = g6 at *
      have hKi : (K.length : Int) ≤ 9223372036854775807 := by omega
      have hzz : ¬ (tx.size : Int) > 2048 := by omega
      refine wp_region_any (by kernel_rfl) ?_
      change wpAny _ _ _ _ _ _ _ (World.drew _)
      generalize hdw : World.drew w5 = wza at *
      have hbd : Below w5.heap.size w5 wza := by subst hdw; exact ⟨rfl, rfl, rfl, Nat.le_refl _, fun _ _ => rfl⟩
      replace hT := hT.up hbd
      replace hT2 := hT2.up hbd
      replace dT := dT.below hbd
      replace dU := dU.below hbd
      replace hb := bthenZ hb hb.size hbd
      have k1 := fun (W : World) => ttext_any (w := W) (tx := tx) (Ay := Ay) (ny := ty.length) (cy := cy) (mb := mb) (Ar := Ar) (cr := cr) (nr := K.length)
      have k2 := fun (W : World) => ttext_any (w := W) (tx := tx) (Ay := Uy) (ny := uy.length) (cy := vy) (mb := nb) (Ar := Ur) (cr := vr) (nr := K2.length)
      have k3 := fun (W : World) (h : Below wza.heap.size wza W) => tlen_any (tx := tx) (Ay := Ay) (ny := ty.length) (cy := cy) (mb := mb) (hT.rels.up h)
      have k4 := fun (W : World) (h : Below wza.heap.size wza W) => (tlen_any (tx := tx) (Ay := Uy) (ny := uy.length) (cy := vy) (mb := nb) (hT2.rels.up h)).mono fun e w' (q : e = .returned (.int .i64 (K2.length : Nat)) ∧ Below W.heap.size W w') => show e = .returned (.int .i64 (K.length : Nat)) ∧ Below W.heap.size W w' from ⟨by rw [q.1, hKK.out], q.2⟩
      clear hdw hbd
      have hSk : ∀ W, Below wza.heap.size wza W → (W.cell? ⟨g1, 0, none⟩ = some (.string tx) ∧ W.cell? ⟨g1, 1, none⟩ = some (.slice Ay ty.length cy) ∧ W.cell? ⟨g1, 2, none⟩ = some (.map mb) ∧ W.cell? ⟨g1, 3, none⟩ = some (.slice Ar K.length cr) ∧ W.cell? ⟨g6, 0, none⟩ = some (.string tx) ∧ W.cell? ⟨g6, 1, none⟩ = some (.slice Uy uy.length vy) ∧ W.cell? ⟨g6, 2, none⟩ = some (.map nb) ∧ W.cell? ⟨g6, 3, none⟩ = some (.slice Ur K2.length vr)) := fun W hb => ⟨(dT.below hb).cell 0, (dT.below hb).cell 1, (dT.below hb).cell 2, (dT.below hb).cell 3, (dU.below hb).cell 0, (dU.below hb).cell 1, (dU.below hb).cell 2, (dU.below hb).cell 3⟩
      have hz0 := Below.refl wza.heap.size wza
      have HS := hSk _ hz0
      refine wpAny_of_held (S := fun W => W.cell? ⟨g1, 0, none⟩ = some (.string tx) ∧ W.cell? ⟨g1, 1, none⟩ = some (.slice Ay ty.length cy) ∧ W.cell? ⟨g1, 2, none⟩ = some (.map mb) ∧ W.cell? ⟨g1, 3, none⟩ = some (.slice Ar K.length cr) ∧ W.cell? ⟨g6, 0, none⟩ = some (.string tx) ∧ W.cell? ⟨g6, 1, none⟩ = some (.slice Uy uy.length vy) ∧ W.cell? ⟨g6, 2, none⟩ = some (.map nb) ∧ W.cell? ⟨g6, 3, none⟩ = some (.slice Ur K2.length vr)) _ _ _ _ ?_
      refine roH_take 0 (some 56) (v := ?v0a) rfl rfl (by kernel_rfl) (by kernel_rfl) (by kernel_rfl) (fun _ _ _ h => h) (by rfl) ?y0a HS ?r0a
      case y0a => (intro W hS; go_simp; try with_reducible rfl)
      simp only [Act.put, List.setIfInBounds_toArray, List.set_cons_zero, List.set_cons_succ]
      refine roH_take 1 (some 57) (v := ?v1a) rfl rfl (by kernel_rfl) (by kernel_rfl) (by kernel_rfl) (fun _ _ _ h => h) (by rfl) ?y1a HS ?r1a
      case y1a => (intro W hS; go_simp; try with_reducible rfl)
      simp only [Act.put, List.setIfInBounds_toArray, List.set_cons_zero, List.set_cons_succ]
      refine roH_take 2 (some 58) (v := ?v2a) rfl rfl (by kernel_rfl) (by kernel_rfl) (by kernel_rfl) (fun _ _ _ h => h) (by rfl) ?y2a HS ?r2a
      case y2a => (intro W hS; go_simp; try with_reducible rfl)
      simp only [Act.put, List.setIfInBounds_toArray, List.set_cons_zero, List.set_cons_succ]
      refine roH_take 3 (some 59) (v := ?v3a) rfl rfl (by kernel_rfl) (by kernel_rfl) (by kernel_rfl) (fun _ _ _ h => h) (by rfl) ?y3a HS ?r3a
      case y3a => (intro W hS; obtain ⟨s0, s1, s2, s3, s4, s5, s6, s7⟩ := hS; go_simp; try with_reducible rfl)
      simp only [Act.put, List.setIfInBounds_toArray, List.set_cons_zero, List.set_cons_succ]
      refine roH_one 4 rfl (by kernel_rfl) ?_
      intro Kf hKf
      go_simp
      refine (k1 _).mono ?_
      rintro e W1a ⟨rfl, hc1a⟩
      have hz1a : Below wza.heap.size wza W1a := bthenZ hz0 hz0.size hc1a
      replace HS := hSk _ hz1a
      refine hKf _ _ HS ?_
      clear hKf Kf
      refine roH_take 5 (some 61) (v := ?v5a) rfl rfl (by kernel_rfl) (by kernel_rfl) (by kernel_rfl) (fun _ _ _ h => h) (by rfl) ?y5a HS ?r5a
      case y5a => (intro W hS; go_simp; try with_reducible rfl)
      simp only [Act.put, List.setIfInBounds_toArray, List.set_cons_zero, List.set_cons_succ]
      refine roH_take 6 (some 62) (v := ?v6a) rfl rfl (by kernel_rfl) (by kernel_rfl) (by kernel_rfl) (fun _ _ _ h => h) (by rfl) ?y6a HS ?r6a
      case y6a => (intro W hS; go_simp; try with_reducible rfl)
      simp only [Act.put, List.setIfInBounds_toArray, List.set_cons_zero, List.set_cons_succ]
      refine roH_take 7 (some 63) (v := ?v7a) rfl rfl (by kernel_rfl) (by kernel_rfl) (by kernel_rfl) (fun _ _ _ h => h) (by rfl) ?y7a HS ?r7a
      case y7a => (intro W hS; go_simp; try with_reducible rfl)
      simp only [Act.put, List.setIfInBounds_toArray, List.set_cons_zero, List.set_cons_succ]
      refine roH_take 8 (some 64) (v := ?v8a) rfl rfl (by kernel_rfl) (by kernel_rfl) (by kernel_rfl) (fun _ _ _ h => h) (by rfl) ?y8a HS ?r8a
      case y8a => (intro W hS; go_simp; try with_reducible rfl)
      simp only [Act.put, List.setIfInBounds_toArray, List.set_cons_zero, List.set_cons_succ]
      refine roH_take 9 (some 65) (v := ?v9a) rfl rfl (by kernel_rfl) (by kernel_rfl) (by kernel_rfl) (fun _ _ _ h => h) (by rfl) ?y9a HS ?r9a
      case y9a => (intro W hS; obtain ⟨s0, s1, s2, s3, s4, s5, s6, s7⟩ := hS; go_simp; try with_reducible rfl)
      simp only [Act.put, List.setIfInBounds_toArray, List.set_cons_zero, List.set_cons_succ]
      refine roH_take 11 (some 67) (v := ?v11a) rfl rfl (by kernel_rfl) (by kernel_rfl) (by kernel_rfl) (fun _ _ _ h => h) (by rfl) ?y11a HS ?r11a
      case y11a => (intro W hS; obtain ⟨s0, s1, s2, s3, s4, s5, s6, s7⟩ := hS; go_simp; try with_reducible rfl)
      simp only [Act.put, List.setIfInBounds_toArray, List.set_cons_zero, List.set_cons_succ]
      refine roH_one 10 rfl (by kernel_rfl) ?_
      intro Kf hKf
      go_simp
      refine (k4 _ hz1a).mono ?_
      rintro e W2a ⟨rfl, hc2a⟩
      have hz2a : Below wza.heap.size wza W2a := bthenZ hz1a hz1a.size hc2a
      replace HS := hSk _ hz2a
      refine hKf _ _ HS ?_
      clear hKf Kf
      refine roH_one 12 rfl (by kernel_rfl) ?_
      intro Kf hKf
      go_simp
      refine (k3 _ hz2a).mono ?_
      rintro e W3a ⟨rfl, hc3a⟩
      have hz3a : Below wza.heap.size wza W3a := bthenZ hz2a hz2a.size hc3a
      replace HS := hSk _ hz3a
      refine hKf _ _ HS ?_
      clear hKf Kf
      refine roH_take 13 (some 69) (v := ?v13a) rfl rfl (by kernel_rfl) (by kernel_rfl) (by kernel_rfl) (fun _ _ _ h => h) (by rfl) ?y13a HS ?r13a
      case y13a => (intro W hS; go_simp; try with_reducible rfl)
      simp only [Act.put, List.setIfInBounds_toArray, List.set_cons_zero, List.set_cons_succ]
      refine roH_take 14 (some 70) (v := ?v14a) rfl rfl (by kernel_rfl) (by kernel_rfl) (by kernel_rfl) (fun _ _ _ h => h) (by rfl) ?y14a HS ?r14a
      case y14a => (intro W hS; go_simp; try with_reducible rfl)
      simp only [Act.put, List.setIfInBounds_toArray, List.set_cons_zero, List.set_cons_succ]
      refine roH_take 15 (some 71) (v := ?v15a) rfl rfl (by kernel_rfl) (by kernel_rfl) (by kernel_rfl) (fun _ _ _ h => h) (by rfl) ?y15a HS ?r15a
      case y15a => (intro W hS; go_simp; try with_reducible rfl)
      simp only [Act.put, List.setIfInBounds_toArray, List.set_cons_zero, List.set_cons_succ]
      refine roH_take 16 (some 72) (v := ?v16a) rfl rfl (by kernel_rfl) (by kernel_rfl) (by kernel_rfl) (fun _ _ _ h => h) (by rfl) ?y16a HS ?r16a
      case y16a => (intro W hS; obtain ⟨s0, s1, s2, s3, s4, s5, s6, s7⟩ := hS; go_simp; try with_reducible rfl)
      simp only [Act.put, List.setIfInBounds_toArray, List.set_cons_zero, List.set_cons_succ]
      refine roH_take 18 (some 74) (v := ?v18a) rfl rfl (by kernel_rfl) (by kernel_rfl) (by kernel_rfl) (fun _ _ _ h => h) (by rfl) ?y18a HS ?r18a
      case y18a => (intro W hS; obtain ⟨s0, s1, s2, s3, s4, s5, s6, s7⟩ := hS; go_simp; try with_reducible rfl)
      simp only [Act.put, List.setIfInBounds_toArray, List.set_cons_zero, List.set_cons_succ]
      refine roH_one 17 rfl (by kernel_rfl) ?_
      intro Kf hKf
      go_simp
      refine (k2 _).mono ?_
      rintro e W4a ⟨rfl, hc4a⟩
      have hz4a : Below wza.heap.size wza W4a := bthenZ hz3a hz3a.size hc4a
      replace HS := hSk _ hz4a
      refine hKf _ _ HS ?_
      clear hKf Kf
      refine roH_one 19 rfl (by kernel_rfl) ?_
      intro Kf hKf
      go_simp
      refine (k1 _).mono ?_
      rintro e W5a ⟨rfl, hc5a⟩
      have hz5a : Below wza.heap.size wza W5a := bthenZ hz4a hz4a.size hc5a
      replace HS := hSk _ hz5a
      refine hKf _ _ HS ?_
      clear hKf Kf
      refine roH_take 20 (some 76) (v := ?v20a) rfl rfl (by kernel_rfl) (by kernel_rfl) (by kernel_rfl) (fun _ _ _ h => h) (by rfl) ?y20a HS ?r20a
      case y20a => (intro W hS; go_simp; try with_reducible rfl)
      simp only [Act.put, List.setIfInBounds_toArray, List.set_cons_zero, List.set_cons_succ]
      refine roH_take 21 (some 77) (v := ?v21a) rfl rfl (by kernel_rfl) (by kernel_rfl) (by kernel_rfl) (fun _ _ _ h => h) (by rfl) ?y21a HS ?r21a
      case y21a => (intro W hS; go_simp; try with_reducible rfl)
      simp only [Act.put, List.setIfInBounds_toArray, List.set_cons_zero, List.set_cons_succ]
      refine wpAnyH_done (by kernel_rfl) ?_ _
      replace hT := hT.up hz5a
      replace hT2 := hT2.up hz5a
      replace dT := dT.below hz5a
      replace dU := dU.below hz5a
      replace hb := bthenZ hb hb.size hz5a
      clear HS hSk
      clear k1 k2 k3 k4
      go_wp2_with fail
      go_loopw [8] (fun vi wx => ∃ i : Nat, vi = .int .i64 i ∧ i ≤ K.length ∧ Below W5a.heap.size W5a wx) (fun vi _ => K.length - (intOf vi).toNat)
      case atStart => exact ⟨0, rfl, Nat.zero_le _, Below.refl _ _⟩
      case round =>
        obtain ⟨i, rfl, hi, hbx⟩ := hrel
        replace hT := hT.up hbx
        replace hT2 := hT2.up hbx
        replace dT := dT.below hbx
        replace dU := dU.below hbx
        by_cases hil : i < K.length
        · have hdi : (i : Int) < (K.length : Int) := by omega
          have wi := wf11 (n := i) (by omega)
          obtain ⟨k0, r0, x0, hf0, hk6, hf1⟩ := hok.out.first hil
          obtain ⟨hs1, hs2, hs3⟩ := hok.out.self hil
          obtain ⟨htnz, hrnz⟩ := hok.out.sizes hil
          have hfew := (hT.rels.at_ok i).few
          obtain ⟨Ri, hRi⟩ : ∃ Ri, (atK K i).r = Ri := ⟨_, rfl⟩
          have hRi2 : (atK K2 i).r = Ri := (hsm.out i).trans hRi
          rw [hRi] at hf0 hf1 hs1 hs2 hs3 hfew htnz hrnz
          replace hRi := Lib.hid hRi
          replace hRi2 := Lib.hid hRi2
          obtain ⟨tn, rn, va, vb, vc, lv, subs, ops⟩ := Ri
          simp only at hf0 hf1 hs1 hs2 hs3 hfew htnz hrnz
          replace hs1 := Lib.hid hs1
          replace hs2 := Lib.hid hs2
          replace hs3 := Lib.hid hs3
          have hf0 := Lib.hid hf0
          have hk9 : (k0 == 9) = false := by rw [beq_eq_false_iff_ne]; omega
          have hoi : (ops.length : Int) ≤ 9223372036854775807 := by omega
          have hz0 : (((ops.length : Nat) : Int) == 0) = false := by rw [beq_eq_false_iff_ne]; omega
          obtain ⟨c0, c1, c2, c3⟩ := dT.c4
          have cl := dT.lt
          obtain ⟨d0, d1, d2, d3⟩ := dU.c4
          have dl := dU.lt
          have kk := tlen_any (tx := tx) (Ay := Ay) (ny := ty.length) (cy := cy) (mb := mb) hT.rels
          go_upto_region 15 with (go_at_call 11; refine kk.mono ?_; rintro e wn ⟨rfl, hb3⟩)
          replace hT := hT.up hb3
          replace hT2 := hT2.up hb3
          replace dT := dT.below hb3
          replace dU := dU.below hb3
          replace hbx := bthenZ hbx hbx.size hb3
          clear hb3 kk c0 c1 c2 c3 cl d0 d1 d2 d3 dl
          have kP : ∀ W : World, TabA W Ay cy ty mb ps Ar cr K → Calls Tryz.prog 17 #[.agg #[.string tx, .slice Ay ty.length cy, .map mb, .slice Ar K.length cr], .int .i64 (i : Int)] W fun e w' => e = .returned (.tuple #[.string tn, .string rn]) ∧ Below W.heap.size W w' := fun W h => by { have q := tpath_any (tx := tx) (Ay := Ay) (ny := ty.length) (cy := cy) (mb := mb) h.rels (i : Int) wi; rw [hRi.out] at q; exact q }
          have kP2 : ∀ W : World, TabA W Uy vy uy nb qs Ur vr K2 → Calls Tryz.prog 17 #[.agg #[.string tx, .slice Uy uy.length vy, .map nb, .slice Ur K2.length vr], .int .i64 (i : Int)] W fun e w' => e = .returned (.tuple #[.string tn, .string rn]) ∧ Below W.heap.size W w' := fun W h => by { have q := tpath_any (tx := tx) (Ay := Uy) (ny := uy.length) (cy := vy) (mb := nb) h.rels (i : Int) wi; rw [hRi2.out] at q; exact q }
          have kM : ∀ W : World, TabA W Ay cy ty mb ps Ar cr K → Calls Tryz.prog 19 #[.agg #[.string tx, .slice Ay ty.length cy, .map mb, .slice Ar K.length cr], .int .i64 (i : Int)] W fun e w' => e = .returned (.tuple #[.int .i64 va, .int .i64 vb, .int .i64 vc]) ∧ Below W.heap.size W w' := fun W h => by { have q := tmetas_any (tx := tx) (Ay := Ay) (ny := ty.length) (cy := cy) (mb := mb) h.rels (i : Int) wi; rw [hRi.out] at q; exact q }
          have kM2 : ∀ W : World, TabA W Uy vy uy nb qs Ur vr K2 → Calls Tryz.prog 19 #[.agg #[.string tx, .slice Uy uy.length vy, .map nb, .slice Ur K2.length vr], .int .i64 (i : Int)] W fun e w' => e = .returned (.tuple #[.int .i64 va, .int .i64 vb, .int .i64 vc]) ∧ Below W.heap.size W w' := fun W h => by { have q := tmetas_any (tx := tx) (Ay := Uy) (ny := uy.length) (cy := vy) (mb := nb) h.rels (i : Int) wi; rw [hRi2.out] at q; exact q }
          have kL : ∀ W : World, TabA W Ay cy ty mb ps Ar cr K → Calls Tryz.prog 23 #[.agg #[.string tx, .slice Ay ty.length cy, .map mb, .slice Ar K.length cr], .int .i64 (i : Int)] W fun e w' => e = .returned (.int .i64 lv) ∧ Below W.heap.size W w' := fun W h => by { have q := tlevel_any (tx := tx) (Ay := Ay) (ny := ty.length) (cy := cy) (mb := mb) h.rels (i : Int) wi; rw [hRi.out] at q; exact q }
          have kL2 : ∀ W : World, TabA W Uy vy uy nb qs Ur vr K2 → Calls Tryz.prog 23 #[.agg #[.string tx, .slice Uy uy.length vy, .map nb, .slice Ur K2.length vr], .int .i64 (i : Int)] W fun e w' => e = .returned (.int .i64 lv) ∧ Below W.heap.size W w' := fun W h => by { have q := tlevel_any (tx := tx) (Ay := Uy) (ny := uy.length) (cy := vy) (mb := nb) h.rels (i : Int) wi; rw [hRi2.out] at q; exact q }
          have kO : ∀ W : World, TabA W Ay cy ty mb ps Ar cr K → Calls Tryz.prog 20 #[.agg #[.string tx, .slice Ay ty.length cy, .map mb, .slice Ar K.length cr], .int .i64 (i : Int)] W fun e w' => (∃ A c, e = .returned (.slice A ops.length c) ∧ w'.ownsRow W.heap.size 62 3 (.slice A ops.length c) ops.length (otcells ops)) ∧ Below W.heap.size W w' := fun W h => by { have q := tops_any (tx := tx) (Ay := Ay) (ny := ty.length) (cy := cy) (mb := mb) h.rels (i : Int) wi; rw [hRi.out] at q; exact q }
          have kO2 : ∀ W : World, TabA W Uy vy uy nb qs Ur vr K2 → Calls Tryz.prog 20 #[.agg #[.string tx, .slice Uy uy.length vy, .map nb, .slice Ur K2.length vr], .int .i64 (i : Int)] W fun e w' => (∃ A c, e = .returned (.slice A ops.length c) ∧ w'.ownsRow W.heap.size 62 3 (.slice A ops.length c) ops.length (otcells ops)) ∧ Below W.heap.size W w' := fun W h => by { have q := tops_any (tx := tx) (Ay := Uy) (ny := uy.length) (cy := vy) (mb := nb) h.rels (i : Int) wi; rw [hRi2.out] at q; exact q }
          have kI : ∀ W : World, TabA W Ay cy ty mb ps Ar cr K → Calls Tryz.prog 25 #[.agg #[.string tx, .slice Ay ty.length cy, .map mb, .slice Ar K.length cr], .string tn, .string rn] W fun e w' => e = .returned (.tuple #[.int .i64 (i : Int), .bool true]) ∧ Below W.heap.size W w' := fun W h => by { have q := tid_any (tx := tx) (Ay := Ay) (ny := ty.length) (cy := cy) (Ar := Ar) (cr := cr) (nr := K.length) h.ids tn rn htnz hrnz; rw [hs1.out, hs2.out] at q; exact q }
          have kH : ∀ W : World, TabA W Ay cy ty mb ps Ar cr K → Calls Tryz.prog 15 #[.agg #[.string tx, .slice Ay ty.length cy, .map mb, .slice Ar K.length cr], .string tn] W fun e w' => e = .returned (.bool true) ∧ Below W.heap.size W w' := fun W h => by { have q := thas_any (tx := tx) (mb := mb) (Ar := Ar) (cr := cr) (nr := K.length) h.types tn; rw [hs3.out] at q; exact q }
          clear hs1 hs2 hs3 hRi hRi2
          obtain ⟨c0, c1, c2, c3⟩ := dT.c4
          have cl := dT.lt
          obtain ⟨d0, d1, d2, d3⟩ := dU.c4
          have dl := dU.lt
          have kk := kP _ hT
          go_upto_region 16 with (go_at_call 17; refine kk.mono ?_; rintro e wn ⟨rfl, hb3⟩)
          replace hT := hT.up hb3
          replace hT2 := hT2.up hb3
          replace dT := dT.below hb3
          replace dU := dU.below hb3
          replace hbx := bthenZ hbx hbx.size hb3
          clear hb3 kk c0 c1 c2 c3 cl d0 d1 d2 d3 dl
          obtain ⟨c0, c1, c2, c3⟩ := dT.c4
          have cl := dT.lt
          obtain ⟨d0, d1, d2, d3⟩ := dU.c4
          have dl := dU.lt
          have kk := kP2 _ hT2
          go_upto_region 17 with (go_at_call 17; refine kk.mono ?_; rintro e wn ⟨rfl, hb3⟩)
          replace hT := hT.up hb3
          replace hT2 := hT2.up hb3
          replace dT := dT.below hb3
          replace dU := dU.below hb3
          replace hbx := bthenZ hbx hbx.size hb3
          clear hb3 kk c0 c1 c2 c3 cl d0 d1 d2 d3 dl
          obtain ⟨c0, c1, c2, c3⟩ := dT.c4
          have cl := dT.lt
          obtain ⟨d0, d1, d2, d3⟩ := dU.c4
          have dl := dU.lt
          have kk := kI _ hT
          go_upto_region 18 with (go_at_call 25; refine kk.mono ?_; rintro e wn ⟨rfl, hb3⟩)
          replace hT := hT.up hb3
          replace hT2 := hT2.up hb3
          replace dT := dT.below hb3
          replace dU := dU.below hb3
          replace hbx := bthenZ hbx hbx.size hb3
          clear hb3 kk c0 c1 c2 c3 cl d0 d1 d2 d3 dl
          obtain ⟨c0, c1, c2, c3⟩ := dT.c4
          have cl := dT.lt
          obtain ⟨d0, d1, d2, d3⟩ := dU.c4
          have dl := dU.lt
          have kk := kM _ hT
          go_upto_region 19 with (go_at_call 19; refine kk.mono ?_; rintro e wn ⟨rfl, hb3⟩)
          replace hT := hT.up hb3
          replace hT2 := hT2.up hb3
          replace dT := dT.below hb3
          replace dU := dU.below hb3
          replace hbx := bthenZ hbx hbx.size hb3
          clear hb3 kk c0 c1 c2 c3 cl d0 d1 d2 d3 dl
          obtain ⟨c0, c1, c2, c3⟩ := dT.c4
          have cl := dT.lt
          obtain ⟨d0, d1, d2, d3⟩ := dU.c4
          have dl := dU.lt
          have kk := kM2 _ hT2
          go_upto_region 20 with (go_at_call 19; refine kk.mono ?_; rintro e wn ⟨rfl, hb3⟩)
          replace hT := hT.up hb3
          replace hT2 := hT2.up hb3
          replace dT := dT.below hb3
          replace dU := dU.below hb3
          replace hbx := bthenZ hbx hbx.size hb3
          clear hb3 kk c0 c1 c2 c3 cl d0 d1 d2 d3 dl
          obtain ⟨c0, c1, c2, c3⟩ := dT.c4
          have cl := dT.lt
          obtain ⟨d0, d1, d2, d3⟩ := dU.c4
          have dl := dU.lt
          have kk := kO _ hT
          go_upto_region 21 with (go_at_call 20; refine kk.mono ?_; rintro e wl ⟨⟨Al, cl9, rfl, hol⟩, hb3⟩)
          have hTn := hT
          have dTn := dT
          replace hT := hT.up hb3
          replace hT2 := hT2.up hb3
          replace dT := dT.below hb3
          replace dU := dU.below hb3
          have hbn := hb3
          obtain ⟨gl, cur, rfl, hgl, hbk, hcur⟩ := own_bk hol hf1
          have hgll := hbk.lt
          replace hcur := Lib.hid hcur
          clear hb3 kk hol c0 c1 c2 c3 cl d0 d1 d2 d3 dl
          obtain ⟨c0, c1, c2, c3⟩ := dT.c4
          have cl := dT.lt
          obtain ⟨d0, d1, d2, d3⟩ := dU.c4
          have dl := dU.lt
          have kk := kO2 _ hT2
          go_upto_region 22 with (go_at_call 20; refine kk.mono ?_; rintro e wm ⟨⟨Am, cm9, rfl, hom⟩, hb3⟩)
          replace hT := hT.up hb3
          replace hT2 := hT2.up hb3
          replace dT := dT.below hb3
          replace dU := dU.below hb3
          replace hbn := bthenZ hbn hbn.size hb3
          replace hbk := hbk.below hb3
          obtain ⟨gm, curm, rfl, hgm, hbm, hcurm⟩ := own_bk hom hf1
          replace hcurm := Lib.hid hcurm
          clear hb3 kk hom c0 c1 c2 c3 cl d0 d1 d2 d3 dl
          refine wp_region_any (by kernel_rfl) ?_
          change wpAny _ _ _ _ _ _ _ (World.drew _)
          generalize hdw : World.drew wm = wzb at *
          have hbd : Below wm.heap.size wm wzb := by subst hdw; exact ⟨rfl, rfl, rfl, Nat.le_refl _, fun _ _ => rfl⟩
          replace hT := hT.up hbd
          replace hT2 := hT2.up hbd
          replace dT := dT.below hbd
          replace dU := dU.below hbd
          replace hbn := bthenZ hbn hbn.size hbd
          replace hbk := hbk.below hbd
          replace hbm := hbm.below hbd
          have kh := fun (W : World) (h : Below wzb.heap.size wzb W) => kH W (hT.up h)
          have kl := fun (W : World) (h : Below wzb.heap.size wzb W) => kL W (hT.up h)
          have kl2 := fun (W : World) (h : Below wzb.heap.size wzb W) => kL2 W (hT2.up h)
          clear hdw hbd
          have hSk : ∀ W, Below wzb.heap.size wzb W → (W.cell? ⟨g1, 0, none⟩ = some (.string tx) ∧ W.cell? ⟨g1, 1, none⟩ = some (.slice Ay ty.length cy) ∧ W.cell? ⟨g1, 2, none⟩ = some (.map mb) ∧ W.cell? ⟨g1, 3, none⟩ = some (.slice Ar K.length cr) ∧ W.cell? ⟨g6, 0, none⟩ = some (.string tx) ∧ W.cell? ⟨g6, 1, none⟩ = some (.slice Uy uy.length vy) ∧ W.cell? ⟨g6, 2, none⟩ = some (.map nb) ∧ W.cell? ⟨g6, 3, none⟩ = some (.slice Ur K2.length vr)) := fun W hb => ⟨(dT.below hb).cell 0, (dT.below hb).cell 1, (dT.below hb).cell 2, (dT.below hb).cell 3, (dU.below hb).cell 0, (dU.below hb).cell 1, (dU.below hb).cell 2, (dU.below hb).cell 3⟩
          have hz0 := Below.refl wzb.heap.size wzb
          have HS := hSk _ hz0
          refine wpAny_of_held (S := fun W => W.cell? ⟨g1, 0, none⟩ = some (.string tx) ∧ W.cell? ⟨g1, 1, none⟩ = some (.slice Ay ty.length cy) ∧ W.cell? ⟨g1, 2, none⟩ = some (.map mb) ∧ W.cell? ⟨g1, 3, none⟩ = some (.slice Ar K.length cr) ∧ W.cell? ⟨g6, 0, none⟩ = some (.string tx) ∧ W.cell? ⟨g6, 1, none⟩ = some (.slice Uy uy.length vy) ∧ W.cell? ⟨g6, 2, none⟩ = some (.map nb) ∧ W.cell? ⟨g6, 3, none⟩ = some (.slice Ur K2.length vr)) _ _ _ _ ?_
          refine roH_take 0 (some 123) (v := ?v0b) rfl rfl (by kernel_rfl) (by kernel_rfl) (by kernel_rfl) (fun _ _ _ h => h) (by rfl) ?y0b HS ?r0b
          case y0b => (intro W hS; go_simp; try with_reducible rfl)
          simp only [Act.put, List.setIfInBounds_toArray, List.set_cons_zero, List.set_cons_succ]
          refine roH_take 1 (some 124) (v := ?v1b) rfl rfl (by kernel_rfl) (by kernel_rfl) (by kernel_rfl) (fun _ _ _ h => h) (by rfl) ?y1b HS ?r1b
          case y1b => (intro W hS; go_simp; try with_reducible rfl)
          simp only [Act.put, List.setIfInBounds_toArray, List.set_cons_zero, List.set_cons_succ]
          refine roH_take 2 (some 125) (v := ?v2b) rfl rfl (by kernel_rfl) (by kernel_rfl) (by kernel_rfl) (fun _ _ _ h => h) (by rfl) ?y2b HS ?r2b
          case y2b => (intro W hS; go_simp; try with_reducible rfl)
          simp only [Act.put, List.setIfInBounds_toArray, List.set_cons_zero, List.set_cons_succ]
          refine roH_take 3 (some 126) (v := ?v3b) rfl rfl (by kernel_rfl) (by kernel_rfl) (by kernel_rfl) (fun _ _ _ h => h) (by rfl) ?y3b HS ?r3b
          case y3b => (intro W hS; go_simp; try with_reducible rfl)
          simp only [Act.put, List.setIfInBounds_toArray, List.set_cons_zero, List.set_cons_succ]
          refine roH_take 4 (some 127) (v := ?v4b) rfl rfl (by kernel_rfl) (by kernel_rfl) (by kernel_rfl) (fun _ _ _ h => h) (by rfl) ?y4b HS ?r4b
          case y4b => (intro W hS; go_simp; try with_reducible rfl)
          simp only [Act.put, List.setIfInBounds_toArray, List.set_cons_zero, List.set_cons_succ]
          refine roH_take 5 (some 128) (v := ?v5b) rfl rfl (by kernel_rfl) (by kernel_rfl) (by kernel_rfl) (fun _ _ _ h => h) (by rfl) ?y5b HS ?r5b
          case y5b => (intro W hS; go_simp; try with_reducible rfl)
          simp only [Act.put, List.setIfInBounds_toArray, List.set_cons_zero, List.set_cons_succ]
          refine roH_take 6 (some 129) (v := ?v6b) rfl rfl (by kernel_rfl) (by kernel_rfl) (by kernel_rfl) (fun _ _ _ h => h) (by rfl) ?y6b HS ?r6b
          case y6b => (intro W hS; go_simp; try with_reducible rfl)
          simp only [Act.put, List.setIfInBounds_toArray, List.set_cons_zero, List.set_cons_succ]
          refine roH_take 7 (some 130) (v := ?v7b) rfl rfl (by kernel_rfl) (by kernel_rfl) (by kernel_rfl) (fun _ _ _ h => h) (by rfl) ?y7b HS ?r7b
          case y7b => (intro W hS; go_simp; try with_reducible rfl)
          simp only [Act.put, List.setIfInBounds_toArray, List.set_cons_zero, List.set_cons_succ]
          refine roH_take 8 (some 131) (v := ?v8b) rfl rfl (by kernel_rfl) (by kernel_rfl) (by kernel_rfl) (fun _ _ _ h => h) (by rfl) ?y8b HS ?r8b
          case y8b => (intro W hS; go_simp; try with_reducible rfl)
          simp only [Act.put, List.setIfInBounds_toArray, List.set_cons_zero, List.set_cons_succ]
          refine roH_take 9 (some 132) (v := ?v9b) rfl rfl (by kernel_rfl) (by kernel_rfl) (by kernel_rfl) (fun _ _ _ h => h) (by rfl) ?y9b HS ?r9b
          case y9b => (intro W hS; go_simp; try with_reducible rfl)
          simp only [Act.put, List.setIfInBounds_toArray, List.set_cons_zero, List.set_cons_succ]
          refine roH_take 10 (some 133) (v := ?v10b) rfl rfl (by kernel_rfl) (by kernel_rfl) (by kernel_rfl) (fun _ _ _ h => h) (by rfl) ?y10b HS ?r10b
          case y10b => (intro W hS; go_simp; try with_reducible rfl)
          simp only [Act.put, List.setIfInBounds_toArray, List.set_cons_zero, List.set_cons_succ]
          refine roH_take 11 (some 134) (v := ?v11b) rfl rfl (by kernel_rfl) (by kernel_rfl) (by kernel_rfl) (fun _ _ _ h => h) (by rfl) ?y11b HS ?r11b
          case y11b => (intro W hS; go_simp; try with_reducible rfl)
          simp only [Act.put, List.setIfInBounds_toArray, List.set_cons_zero, List.set_cons_succ]
          refine roH_take 12 (some 135) (v := ?v12b) rfl rfl (by kernel_rfl) (by kernel_rfl) (by kernel_rfl) (fun _ _ _ h => h) (by rfl) ?y12b HS ?r12b
          case y12b => (intro W hS; go_simp; try with_reducible rfl)
          simp only [Act.put, List.setIfInBounds_toArray, List.set_cons_zero, List.set_cons_succ]
          refine roH_take 13 (some 136) (v := ?v13b) rfl rfl (by kernel_rfl) (by kernel_rfl) (by kernel_rfl) (fun _ _ _ h => h) (by rfl) ?y13b HS ?r13b
          case y13b => (intro W hS; go_simp; try with_reducible rfl)
          simp only [Act.put, List.setIfInBounds_toArray, List.set_cons_zero, List.set_cons_succ]
          refine roH_take 14 (some 137) (v := ?v14b) rfl rfl (by kernel_rfl) (by kernel_rfl) (by kernel_rfl) (fun _ _ _ h => h) (by rfl) ?y14b HS ?r14b
          case y14b => (intro W hS; go_simp; try with_reducible rfl)
          simp only [Act.put, List.setIfInBounds_toArray, List.set_cons_zero, List.set_cons_succ]
          refine roH_take 15 (some 138) (v := ?v15b) rfl rfl (by kernel_rfl) (by kernel_rfl) (by kernel_rfl) (fun _ _ _ h => h) (by rfl) ?y15b HS ?r15b
          case y15b => (intro W hS; go_simp; try with_reducible rfl)
          simp only [Act.put, List.setIfInBounds_toArray, List.set_cons_zero, List.set_cons_succ]
          refine roH_take 16 (some 139) (v := ?v16b) rfl rfl (by kernel_rfl) (by kernel_rfl) (by kernel_rfl) (fun _ _ _ h => h) (by rfl) ?y16b HS ?r16b
          case y16b => (intro W hS; go_simp; try with_reducible rfl)
          simp only [Act.put, List.setIfInBounds_toArray, List.set_cons_zero, List.set_cons_succ]
          refine roH_take 17 (some 140) (v := ?v17b) rfl rfl (by kernel_rfl) (by kernel_rfl) (by kernel_rfl) (fun _ _ _ h => h) (by rfl) ?y17b HS ?r17b
          case y17b => (intro W hS; go_simp; try with_reducible rfl)
          simp only [Act.put, List.setIfInBounds_toArray, List.set_cons_zero, List.set_cons_succ]
          refine roH_take 18 (some 141) (v := ?v18b) rfl rfl (by kernel_rfl) (by kernel_rfl) (by kernel_rfl) (fun _ _ _ h => h) (by rfl) ?y18b HS ?r18b
          case y18b => (intro W hS; obtain ⟨s0, s1, s2, s3, s4, s5, s6, s7⟩ := hS; go_simp; try with_reducible rfl)
          simp only [Act.put, List.setIfInBounds_toArray, List.set_cons_zero, List.set_cons_succ]
          refine roH_take 19 (some 142) (v := ?v19b) rfl rfl (by kernel_rfl) (by kernel_rfl) (by kernel_rfl) (fun _ _ _ h => h) (by rfl) ?y19b HS ?r19b
          case y19b => (intro W hS; go_simp; try with_reducible rfl)
          simp only [Act.put, List.setIfInBounds_toArray, List.set_cons_zero, List.set_cons_succ]
          refine roH_one 20 rfl (by kernel_rfl) ?_
          intro Kf hKf
          go_simp
          refine (kh _ hz0).mono ?_
          rintro e W1b ⟨rfl, hc1b⟩
          have hz1b : Below wzb.heap.size wzb W1b := bthenZ hz0 hz0.size hc1b
          replace HS := hSk _ hz1b
          refine hKf _ _ HS ?_
          clear hKf Kf
          refine roH_take 21 (some 144) (v := ?v21b) rfl rfl (by kernel_rfl) (by kernel_rfl) (by kernel_rfl) (fun _ _ _ h => h) (by rfl) ?y21b HS ?r21b
          case y21b => (intro W hS; go_simp; try with_reducible rfl)
          simp only [Act.put, List.setIfInBounds_toArray, List.set_cons_zero, List.set_cons_succ]
          refine roH_take 22 (some 145) (v := ?v22b) rfl rfl (by kernel_rfl) (by kernel_rfl) (by kernel_rfl) (fun _ _ _ h => h) (by rfl) ?y22b HS ?r22b
          case y22b => (intro W hS; go_simp; try with_reducible rfl)
          simp only [Act.put, List.setIfInBounds_toArray, List.set_cons_zero, List.set_cons_succ]
          refine roH_take 23 (some 146) (v := ?v23b) rfl rfl (by kernel_rfl) (by kernel_rfl) (by kernel_rfl) (fun _ _ _ h => h) (by rfl) ?y23b HS ?r23b
          case y23b => (intro W hS; go_simp; try with_reducible rfl)
          simp only [Act.put, List.setIfInBounds_toArray, List.set_cons_zero, List.set_cons_succ]
          refine roH_take 24 (some 147) (v := ?v24b) rfl rfl (by kernel_rfl) (by kernel_rfl) (by kernel_rfl) (fun _ _ _ h => h) (by rfl) ?y24b HS ?r24b
          case y24b => (intro W hS; go_simp; try with_reducible rfl)
          simp only [Act.put, List.setIfInBounds_toArray, List.set_cons_zero, List.set_cons_succ]
          refine roH_take 25 (some 148) (v := ?v25b) rfl rfl (by kernel_rfl) (by kernel_rfl) (by kernel_rfl) (fun _ _ _ h => h) (by rfl) ?y25b HS ?r25b
          case y25b => (intro W hS; go_simp; try with_reducible rfl)
          simp only [Act.put, List.setIfInBounds_toArray, List.set_cons_zero, List.set_cons_succ]
          refine roH_take 26 (some 149) (v := ?v26b) rfl rfl (by kernel_rfl) (by kernel_rfl) (by kernel_rfl) (fun _ _ _ h => h) (by rfl) ?y26b HS ?r26b
          case y26b => (intro W hS; go_simp; try with_reducible rfl)
          simp only [Act.put, List.setIfInBounds_toArray, List.set_cons_zero, List.set_cons_succ]
          refine roH_take 27 (some 150) (v := ?v27b) rfl rfl (by kernel_rfl) (by kernel_rfl) (by kernel_rfl) (fun _ _ _ h => h) (by rfl) ?y27b HS ?r27b
          case y27b => (intro W hS; go_simp; try with_reducible rfl)
          simp only [Act.put, List.setIfInBounds_toArray, List.set_cons_zero, List.set_cons_succ]
          refine roH_take 28 (some 151) (v := ?v28b) rfl rfl (by kernel_rfl) (by kernel_rfl) (by kernel_rfl) (fun _ _ _ h => h) (by rfl) ?y28b HS ?r28b
          case y28b => (intro W hS; go_simp; try with_reducible rfl)
          simp only [Act.put, List.setIfInBounds_toArray, List.set_cons_zero, List.set_cons_succ]
          refine roH_take 29 (some 152) (v := ?v29b) rfl rfl (by kernel_rfl) (by kernel_rfl) (by kernel_rfl) (fun _ _ _ h => h) (by rfl) ?y29b HS ?r29b
          case y29b => (intro W hS; go_simp; try with_reducible rfl)
          simp only [Act.put, List.setIfInBounds_toArray, List.set_cons_zero, List.set_cons_succ]
          refine roH_take 30 (some 153) (v := ?v30b) rfl rfl (by kernel_rfl) (by kernel_rfl) (by kernel_rfl) (fun _ _ _ h => h) (by rfl) ?y30b HS ?r30b
          case y30b => (intro W hS; go_simp; try with_reducible rfl)
          simp only [Act.put, List.setIfInBounds_toArray, List.set_cons_zero, List.set_cons_succ]
          refine roH_take 31 (some 154) (v := ?v31b) rfl rfl (by kernel_rfl) (by kernel_rfl) (by kernel_rfl) (fun _ _ _ h => h) (by rfl) ?y31b HS ?r31b
          case y31b => (intro W hS; go_simp; try with_reducible rfl)
          simp only [Act.put, List.setIfInBounds_toArray, List.set_cons_zero, List.set_cons_succ]
          refine roH_take 32 (some 155) (v := ?v32b) rfl rfl (by kernel_rfl) (by kernel_rfl) (by kernel_rfl) (fun _ _ _ h => h) (by rfl) ?y32b HS ?r32b
          case y32b => (intro W hS; go_simp; try with_reducible rfl)
          simp only [Act.put, List.setIfInBounds_toArray, List.set_cons_zero, List.set_cons_succ]
          refine roH_take 33 (some 156) (v := ?v33b) rfl rfl (by kernel_rfl) (by kernel_rfl) (by kernel_rfl) (fun _ _ _ h => h) (by rfl) ?y33b HS ?r33b
          case y33b => (intro W hS; go_simp; try with_reducible rfl)
          simp only [Act.put, List.setIfInBounds_toArray, List.set_cons_zero, List.set_cons_succ]
          refine roH_take 34 (some 157) (v := ?v34b) rfl rfl (by kernel_rfl) (by kernel_rfl) (by kernel_rfl) (fun _ _ _ h => h) (by rfl) ?y34b HS ?r34b
          case y34b => (intro W hS; go_simp; try with_reducible rfl)
          simp only [Act.put, List.setIfInBounds_toArray, List.set_cons_zero, List.set_cons_succ]
          refine roH_take 35 (some 158) (v := ?v35b) rfl rfl (by kernel_rfl) (by kernel_rfl) (by kernel_rfl) (fun _ _ _ h => h) (by rfl) ?y35b HS ?r35b
          case y35b => (intro W hS; go_simp; try with_reducible rfl)
          simp only [Act.put, List.setIfInBounds_toArray, List.set_cons_zero, List.set_cons_succ]
          refine roH_take 36 (some 159) (v := ?v36b) rfl rfl (by kernel_rfl) (by kernel_rfl) (by kernel_rfl) (fun _ _ _ h => h) (by rfl) ?y36b HS ?r36b
          case y36b => (intro W hS; go_simp; try with_reducible rfl)
          simp only [Act.put, List.setIfInBounds_toArray, List.set_cons_zero, List.set_cons_succ]
          refine roH_take 37 (some 160) (v := ?v37b) rfl rfl (by kernel_rfl) (by kernel_rfl) (by kernel_rfl) (fun _ _ _ h => h) (by rfl) ?y37b HS ?r37b
          case y37b => (intro W hS; go_simp; try with_reducible rfl)
          simp only [Act.put, List.setIfInBounds_toArray, List.set_cons_zero, List.set_cons_succ]
          refine roH_take 38 (some 161) (v := ?v38b) rfl rfl (by kernel_rfl) (by kernel_rfl) (by kernel_rfl) (fun _ _ _ h => h) (by rfl) ?y38b HS ?r38b
          case y38b => (intro W hS; go_simp; try with_reducible rfl)
          simp only [Act.put, List.setIfInBounds_toArray, List.set_cons_zero, List.set_cons_succ]
          refine roH_take 39 (some 162) (v := ?v39b) rfl rfl (by kernel_rfl) (by kernel_rfl) (by kernel_rfl) (fun _ _ _ h => h) (by rfl) ?y39b HS ?r39b
          case y39b => (intro W hS; obtain ⟨s0, s1, s2, s3, s4, s5, s6, s7⟩ := hS; go_simp; try with_reducible rfl)
          simp only [Act.put, List.setIfInBounds_toArray, List.set_cons_zero, List.set_cons_succ]
          refine roH_take 40 (some 163) (v := ?v40b) rfl rfl (by kernel_rfl) (by kernel_rfl) (by kernel_rfl) (fun _ _ _ h => h) (by rfl) ?y40b HS ?r40b
          case y40b => (intro W hS; go_simp; try with_reducible rfl)
          simp only [Act.put, List.setIfInBounds_toArray, List.set_cons_zero, List.set_cons_succ]
          refine roH_take 42 (some 165) (v := ?v42b) rfl rfl (by kernel_rfl) (by kernel_rfl) (by kernel_rfl) (fun _ _ _ h => h) (by rfl) ?y42b HS ?r42b
          case y42b => (intro W hS; obtain ⟨s0, s1, s2, s3, s4, s5, s6, s7⟩ := hS; go_simp; try with_reducible rfl)
          simp only [Act.put, List.setIfInBounds_toArray, List.set_cons_zero, List.set_cons_succ]
          refine roH_take 43 (some 166) (v := ?v43b) rfl rfl (by kernel_rfl) (by kernel_rfl) (by kernel_rfl) (fun _ _ _ h => h) (by rfl) ?y43b HS ?r43b
          case y43b => (intro W hS; go_simp; try with_reducible rfl)
          simp only [Act.put, List.setIfInBounds_toArray, List.set_cons_zero, List.set_cons_succ]
          refine roH_one 41 rfl (by kernel_rfl) ?_
          intro Kf hKf
          go_simp
          refine (kl _ hz1b).mono ?_
          rintro e W2b ⟨rfl, hc2b⟩
          have hz2b : Below wzb.heap.size wzb W2b := bthenZ hz1b hz1b.size hc2b
          replace HS := hSk _ hz2b
          refine hKf _ _ HS ?_
          clear hKf Kf
          refine roH_one 44 rfl (by kernel_rfl) ?_
          intro Kf hKf
          go_simp
          refine (kl2 _ hz2b).mono ?_
          rintro e W3b ⟨rfl, hc3b⟩
          have hz3b : Below wzb.heap.size wzb W3b := bthenZ hz2b hz2b.size hc3b
          replace HS := hSk _ hz3b
          refine hKf _ _ HS ?_
          clear hKf Kf
          refine roH_take 45 (some 168) (v := ?v45b) rfl rfl (by kernel_rfl) (by kernel_rfl) (by kernel_rfl) (fun _ _ _ h => h) (by rfl) ?y45b HS ?r45b
          case y45b => (intro W hS; go_simp; try with_reducible rfl)
          simp only [Act.put, List.setIfInBounds_toArray, List.set_cons_zero, List.set_cons_succ]
          refine roH_take 46 (some 169) (v := ?v46b) rfl rfl (by kernel_rfl) (by kernel_rfl) (by kernel_rfl) (fun _ _ _ h => h) (by rfl) ?y46b HS ?r46b
          case y46b => (intro W hS; go_simp; try with_reducible rfl)
          simp only [Act.put, List.setIfInBounds_toArray, List.set_cons_zero, List.set_cons_succ]
          refine roH_take 47 (some 170) (v := ?v47b) rfl rfl (by kernel_rfl) (by kernel_rfl) (by kernel_rfl) (fun _ _ _ h => h) (by rfl) ?y47b HS ?r47b
          case y47b => (intro W hS; go_simp; try with_reducible rfl)
          simp only [Act.put, List.setIfInBounds_toArray, List.set_cons_zero, List.set_cons_succ]
          refine roH_take 48 (some 171) (v := ?v48b) rfl rfl (by kernel_rfl) (by kernel_rfl) (by kernel_rfl) (fun _ _ _ h => h) (by rfl) ?y48b HS ?r48b
          case y48b => (intro W hS; go_simp; try with_reducible rfl)
          simp only [Act.put, List.setIfInBounds_toArray, List.set_cons_zero, List.set_cons_succ]
          refine roH_take 49 (some 172) (v := ?v49b) rfl rfl (by kernel_rfl) (by kernel_rfl) (by kernel_rfl) (fun _ _ _ h => h) (by rfl) ?y49b HS ?r49b
          case y49b => (intro W hS; go_simp; try with_reducible rfl)
          simp only [Act.put, List.setIfInBounds_toArray, List.set_cons_zero, List.set_cons_succ]
          refine roH_take 50 (some 173) (v := ?v50b) rfl rfl (by kernel_rfl) (by kernel_rfl) (by kernel_rfl) (fun _ _ _ h => h) (by rfl) ?y50b HS ?r50b
          case y50b => (intro W hS; go_simp; try with_reducible rfl)
          simp only [Act.put, List.setIfInBounds_toArray, List.set_cons_zero, List.set_cons_succ]
          refine roH_take 51 (some 174) (v := ?v51b) rfl rfl (by kernel_rfl) (by kernel_rfl) (by kernel_rfl) (fun _ _ _ h => h) (by rfl) ?y51b HS ?r51b
          case y51b => (intro W hS; go_simp; try with_reducible rfl)
          simp only [Act.put, List.setIfInBounds_toArray, List.set_cons_zero, List.set_cons_succ]
          refine roH_take 52 (some 175) (v := ?v52b) rfl rfl (by kernel_rfl) (by kernel_rfl) (by kernel_rfl) (fun _ _ _ h => h) (by rfl) ?y52b HS ?r52b
          case y52b => (intro W hS; go_simp; try with_reducible rfl)
          simp only [Act.put, List.setIfInBounds_toArray, List.set_cons_zero, List.set_cons_succ]
          refine roH_take 53 (some 176) (v := ?v53b) rfl rfl (by kernel_rfl) (by kernel_rfl) (by kernel_rfl) (fun _ _ _ h => h) (by rfl) ?y53b HS ?r53b
          case y53b => (intro W hS; go_simp; try with_reducible rfl)
          simp only [Act.put, List.setIfInBounds_toArray, List.set_cons_zero, List.set_cons_succ]
          refine roH_take 54 (some 177) (v := ?v54b) rfl rfl (by kernel_rfl) (by kernel_rfl) (by kernel_rfl) (fun _ _ _ h => h) (by rfl) ?y54b HS ?r54b
          case y54b => (intro W hS; go_simp; try with_reducible rfl)
          simp only [Act.put, List.setIfInBounds_toArray, List.set_cons_zero, List.set_cons_succ]
          refine roH_take 55 (some 178) (v := ?v55b) rfl rfl (by kernel_rfl) (by kernel_rfl) (by kernel_rfl) (fun _ _ _ h => h) (by rfl) ?y55b HS ?r55b
          case y55b => (intro W hS; go_simp; try with_reducible rfl)
          simp only [Act.put, List.setIfInBounds_toArray, List.set_cons_zero, List.set_cons_succ]
          refine roH_take 56 (some 179) (v := ?v56b) rfl rfl (by kernel_rfl) (by kernel_rfl) (by kernel_rfl) (fun _ _ _ h => h) (by rfl) ?y56b HS ?r56b
          case y56b => (intro W hS; go_simp; try with_reducible rfl)
          simp only [Act.put, List.setIfInBounds_toArray, List.set_cons_zero, List.set_cons_succ]
          refine roH_take 57 (some 180) (v := ?v57b) rfl rfl (by kernel_rfl) (by kernel_rfl) (by kernel_rfl) (fun _ _ _ h => h) (by rfl) ?y57b HS ?r57b
          case y57b => (intro W hS; go_simp; try with_reducible rfl)
          simp only [Act.put, List.setIfInBounds_toArray, List.set_cons_zero, List.set_cons_succ]
          refine roH_take 58 (some 181) (v := ?v58b) rfl rfl (by kernel_rfl) (by kernel_rfl) (by kernel_rfl) (fun _ _ _ h => h) (by rfl) ?y58b HS ?r58b
          case y58b => (intro W hS; go_simp; try with_reducible rfl)
          simp only [Act.put, List.setIfInBounds_toArray, List.set_cons_zero, List.set_cons_succ]
          refine wpAnyH_done (by kernel_rfl) ?_ _
          replace hT := hT.up hz3b
          replace hT2 := hT2.up hz3b
          replace dT := dT.below hz3b
          replace dU := dU.below hz3b
          replace hbn := bthenZ hbn hbn.size hz3b
          replace hbk := hbk.below hz3b
          replace hbm := hbm.below hz3b
          clear HS hSk
          clear kh kl kl2 kP kP2 kM kM2 kL kL2 kO2 kI kH hT hT2 dT dU
          go_wp2_with fail
          go_loopw [23] (fun vi wx => ∃ j : Nat, vi = .int .i64 j ∧ j ≤ ops.length ∧ BackI gl gm cur curm (otcells ops) j wx ∧ Below wn.heap.size wn wx) (fun vi _ => ops.length - (intOf vi).toNat)
          case atStart => exact ⟨0, rfl, Nat.zero_le _, ⟨⟨cur, hbk, fun q k u hk _ hu => hcur.out q k u hk hu⟩, hbm⟩, hbn⟩
          case round =>
            obtain ⟨j, rfl, hj, ⟨⟨cu, hbl, hcu⟩, hbm2⟩, hby⟩ := hrel
            by_cases hjl : j < ops.length
            · have hdj : (j : Int) < (ops.length : Int) := by omega
              obtain ⟨⟨ok, or_, on⟩, ho⟩ : ∃ o, ops[j]? = some o := ⟨_, List.getElem?_eq_getElem hjl⟩
              obtain ⟨u0, u1, u2⟩ := ot_get ho
              have a0 := (hbl.cell (j * 3)).trans (hcu j 0 _ (by omega) (Nat.le_refl _) u0)
              have a1 := (hbl.cell (j * 3 + 1)).trans (hcu j 1 _ (by omega) (Nat.le_refl _) u1)
              have a2 := (hbl.cell (j * 3 + 2)).trans (hcu j 2 _ (by omega) (Nat.le_refl _) u2)
              have b0 := (hbm2.cell (j * 3)).trans (hcurm.out j 0 _ (by omega) u0)
              have b1 := (hbm2.cell (j * 3 + 1)).trans (hcurm.out j 1 _ (by omega) u1)
              have b2 := (hbm2.cell (j * 3 + 2)).trans (hcurm.out j 2 _ (by omega) u2)
              replace hcu := Lib.hid hcu
              clear u0 u1 u2
              go_upto_region 27 with (fail)
              go_quiet (fail)
              have hbd := bdrew wr nq
              replace hbl := hbl.below hbd
              replace hbm2 := hbm2.below hbd
              replace hby := bthenZ hby hby.size hbd
              replace a0 := cell_unde a0 hbd
              clear hbd a1 a2 b0 b1 b2
              generalize wr.drewN nq = wy at *
              have zf := hbl.fz
              have zl := hbl.lt
              go_wp2_with fail
              refine ⟨⟨j + 1, by go_num, by omega, ⟨⟨_, hbl.set (j * 3) (.int .i64 9), fun q k u hk hq hu => ?_⟩, hbm2.other (a := ⟨gl, j * 3, none⟩) (by show gm ≠ gl; omega) _⟩, hby.setCell (by show wn.heap.size ≤ gl; omega) _⟩, by simp [intOf]; omega⟩
              rw [Array.getElem?_setIfInBounds_ne (by omega)]
              exact hcu.out q k u hk (by omega) hu
            · obtain rfl : j = ops.length := by omega
              have hdj : ¬ (((ops.length : Nat) : Int) < (ops.length : Int)) := by omega
              obtain ⟨c0, c1, c2, c3⟩ := (dTn.below hby).c4
              have cl := (dTn.below hby).lt
              have kk := kO _ (hTn.up hby)
              go_upto_region 14 with (go_at_call 20; refine kk.mono ?_; rintro e wv ⟨⟨Av, cv9, rfl, hov⟩, hb3⟩; obtain ⟨gv, cuv, rfl, hgv, hbv, hcuv⟩ := own_bk hov hf1; have v0 := (hbv.cell 0).trans (hcuv 0 0 _ (by omega) (ot_get hf0.out).1); have hbz := bthenZ hby hby.size hb3; clear hb3 kk hov hcuv c0 c1 c2 c3 cl hgv hbv)
              go_wp2_with fail
              exact ⟨⟨i + 1, by go_num, by omega, bthenZ hbx hbx.size hbz⟩, by simp [intOf]; omega⟩
        · obtain rfl : i = K.length := by omega
          have hdi : ¬ (((K.length : Nat) : Int) < (K.length : Int)) := by omega
          obtain ⟨c0, c1, c2, c3⟩ := dT.c4
          have cl := dT.lt
          have kk := tlen_any (tx := tx) (Ay := Ay) (ny := ty.length) (cy := cy) (mb := mb) hT.rels
          go_wp2_with (go_at_call 11; refine kk.mono ?_; rintro e wn ⟨rfl, hb3⟩)
          go_ret
          exact ⟨rfl, bthenZ hb hb.size (bthenZ hbx hbx.size hb3)⟩
end Go.Proofs.YteafdhpcnpfmkaaGreat
/- The statement TableBack, proved: for every input the call returns true and each argument reads behind it as it read before; no condition. -/
namespace Go.Proofs.YteafdhpcnpfmkaaGreat
open Go.ChangeShapes Go.WideShapes Go.ChangeAt Go.RowKit
open Go.ChangeMaps (open_string shut_string)

set_option maxRecDepth 100000 in
theorem tableBack_lifted (os : Os) (started : os.Started) (H : Type) (enc : TypeId × Value → H) :
    ReturnsInHanded {} Tryz.checked os 4 .any (Rows.tableBackSpec.pre6 enc Tryz.prog Tryz.f4 Rows.tableBackRow.domain false) (Rows.tableBackSpec.post enc Tryz.prog Tryz.f4 false true false false) := by
  refine returnsInHanded_of_change (C := Tryz.checked) own_ started (by kernel_rfl) Tryz.func4
    (ChangeSpec.witness6 (enc := enc) (C := Tryz.checked) false ⟨#[], #[.string .empty], []⟩ 8 (by kernel_rfl) (by kernel_rfl) (by kernel_rfl) (by kernel_rfl)) ?_
  intro W base args ds gs before hval0 hW hcnd _
  have hval : ∀ (j : Nat) t v, Tryz.f4.params[j]? = some t → args[j]? = some v → Value.okWide Tryz.prog W .any base t v := hval0
  have hW' := hW
  obtain ⟨p, q, hA0, hV, rfl, hfz, hnd⟩ := hW
  have hA : DataW.TrodAll enc Tryz.prog W 0 (fun _ => true) true Tryz.f4.params.toList args.toList ds p := hA0
  rw [Tryz.params4] at hA hval
  obtain ⟨v0, vs0, d0, ds0, p0, q0, hargs, rfl, rfl, h0, t0⟩ := trodAll_cons hA
  obtain ⟨rfl, rfl, rfl⟩ := trodAll_nil t0
  obtain rfl : args = #[v0] := by cases args; simp_all
  obtain ⟨rfl, rfl⟩ := trodVars_none hV
  obtain ⟨s0, rfl, rfl, rfl, f0⟩ := open_string Tryz.underlying9 (hval 0 9 v0 rfl rfl) h0
  clear hA0 hval0
  refine (tableBack_walk s0 W f0).mono fun e W' ⟨he, bel⟩ => ?_
  subst he
  exact ⟨_, rfl, _, _, _, [], _, [], hW', trodAll_mk1 (shut_bool Tryz.underlying4 _), (trodAll_cons_mk (shut_string Tryz.underlying9 f0) trodAll_mk0), rfl, bel.frame _, fun h => by cases h⟩

theorem tableBack_holds : Rows.TableBackSaid :=
  OpenClaim.holds_of_wide 4 Tryz.f4 rfl rfl rfl rfl rfl rfl rfl ⟨rfl, rfl, rfl, rfl, rfl⟩ rfl rfl rfl rfl rfl (by kernel_rfl) Tryz.func4 (by kernel_rfl)
    (of_decide_eq_true (by kernel_rfl)) (by unfold Func.isWrapper; first | (rw [if_pos (by decide +kernel)]; kernel_rfl) | (rw [if_neg (by decide +kernel)]; exact ⟨rfl, rfl⟩))
    (fun os started H enc _ => tableBack_lifted os started H enc)
#print axioms tableBack_holds
end Go.Proofs.YteafdhpcnpfmkaaGreat
