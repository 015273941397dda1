/- Layer 14: Trim: what didn't end is put into a new map, in a range over all spans. Conditions: no more than 100 spans. -/
import Derived.Test.YtmdhollegemlhaaCntW14
import Derived.Test.YtmdhollegemlhaaPutW14
import Derived.Test.YtmdhollegemlhaaRegion7
namespace Go.Proofs.Ytmdhollegemlhaa
open Go.RowKit Go.Shelf
attribute [local go_sem] Oper.semAt_some

/-! a region that draws its order, in a round -/
def OnlyN4 (Q : Exit → Act → World → Prop) : Exit → Act → World → Prop
  | .normal, a, w => Q .normal a w
  | _, _, _ => False
section
variable {l0 n : Nat} {P : Program} {ops : Array Oper} {md : Region.Mode} {Q : Exit → Act → World → Prop}
theorem opIn4_of_wp {o : Oper} {a : Act} {w : World} {K : Act → World → Prop} (hd : ∀ c, o.op ≠ .defer c) (h : o.wp P a w K (OnlyN4 Q)) : o.wpIn (Fence.wide.inRound l0) n P a w K Q := by
  have hlet : ¬ LetsOut (OnlyN4 Q) := fun ⟨_, _, h⟩ => h
  refine ⟨fun _ _ => trivial, ?_⟩
  rw [Oper.semAt_plain _ _ _ hd]
  unfold Oper.wp at h
  generalize (execOp a.eval o).run P w = r at *
  cases r with
  | ok x w' =>
    cases x <;> simp only [Oper.upon] at h <;> simp only [Oper.uponIn]
    case value => exact h
    case skip => exact h
    case defer => exact h
    case enter f args =>
      refine ⟨fun e => (by cases e), CallsIn.inRound l0 ((callsIn_wide.2 h).mono fun e w'' he => ?_)⟩
      cases e with
      | returned v => exact he
      | panicked c => exact (he : False).elim
      | outgrown => exact (hlet he).elim
    case row row args =>
      refine ⟨fun e => (by cases e), fun c cs _ => ?_⟩
      obtain ⟨v, w'', hr, hs⟩ := h c cs
      exact ⟨v, w'', hr, stepsIn_wide.2 hs⟩
  | halt x w' =>
    cases x <;> simp only [Oper.upon] at h
    case panic v => exact (h : False).elim
theorem wpAnyIn4_of_any (hd : ∀ (j : Nat) (o : Oper) c, ops[j]? = some o → o.op ≠ .defer c) :
    ∀ (f : Nat) (listed : Array Bool) (a : Act) (w : World), wpAny P md ops (OnlyN4 Q) f listed a w → wpAnyIn (Fence.wide.inRound l0) n P md ops Q f listed a w
  | 0, listed, a, w, h => ⟨h.1, h.2⟩
  | f + 1, listed, a, w, h => by
    refine ⟨fun h0 => h.1 h0, fun i hi => ?_⟩
    have hi' := h.2 i hi
    unfold wpOp at hi'
    unfold wpOpIn
    split
    · rename_i ho; simp only [ho] at hi'; exact wpAnyIn4_of_any hd f _ _ _ hi'
    · rename_i o ho
      simp only [ho] at hi'
      split
      · rename_i hw
        simp only [hw, if_true] at hi'
        rcases hi' with hi' | ⟨_, _, _, hx⟩
        · exact opIn4_of_wp (fun c => hd i o c ho) (Oper.wp_mono (fun a' w' h' => wpAnyIn4_of_any hd f _ a' w' h') hi')
        · exact (hx : False).elim
      · rename_i hw
        simp only [hw] at hi'
        exact ⟨fun _ _ => trivial, wpAnyIn4_of_any hd f _ _ _ hi'⟩
/-- A region that draws its order, in a round: by a walk outside of rounds, with a fact on the world kept behind every operation but the last store. -/
theorem roL_in4 (S : World → Prop) (z : Nat) {id : Nat} {a : Act} {w : World} {l : List Oper} (hm : P.follows .mixedOrders = true) (hd : l.all (fun o => match o.op with | .defer _ => false | _ => true) = true)
    (h : wpAnyL P .any l.toArray (OnlyN4 Q) S z l.toArray.size (Array.replicate l.toArray.size false) a (World.drew w)) : (Code.region id l.toArray true).wpIn (Fence.wide.inRound l0) n P Q a w :=
  wpIn_region_any hm (wpAnyIn4_of_any (fun j o c hj e => by
    have := List.all_eq_true.1 hd o (List.mem_of_getElem? (by simpa using hj))
    rw [e] at this
    cases this) _ _ _ _ (wpAnyL_any _ _ _ _ h))
end

/-- What Trim's rounds keep. -/
structure TrI (w : World) (r : Int) (pre : List Sp) (W : World) : Prop where
  rev : Rk W w.heap.size #[.int .i64 r] 3
  box : Rk W (w.heap.size + 1 + 1) #[.map (some (w.heap.size + 1))] 58
  cnt : Rk W (w.heap.size + 1 + 1 + 1) #[.int .i64 (pre.filter fun x => !keptB r x).length] 3
  map : ∃ V, MapS W w.heap.size (w.heap.size + 1) (pre.filter (keptB r)).length (ofK (pre.filter (keptB r))) V
  below : Below w.heap.size w W
theorem MapS.stay {X Y : World} {B b n : Nat} {G : ByteArray → List Iv} {V : ByteArray → Value} {row : Option Nat} (h : MapS X B b n G V) (hg : X.grownBy Y row) (hr : ∀ r, row = some r → r ≠ b ∧ ∃ o : Obj, X.heap[r]? = some o ∧ o.isCells = false) : MapS Y B b n G V :=
  h.same (hg.block b h.lt fun e => (hr b e.symm).1 rfl) fun k j hj => hg.block j (own_lt (h.row k) hj).2 fun e => by
    obtain ⟨o, ho, hc⟩ := (hr j e.symm).2
    rcases (h.row k).2 with ⟨e0, _⟩ | ⟨g2, cap2, cur2, e0, _, hh2, _⟩
    · rw [e0] at hj; simp [Value.ownBlock] at hj
    rw [e0] at hj
    simp only [Value.ownBlock, Option.some.injEq] at hj
    subst hj
    rw [hh2] at ho
    cases ho
    cases hc
theorem TrI.stay {w X Y : World} {r : Int} {pre : List Sp} {row : Option Nat} (h : TrI w r pre X) (hg : X.grownBy Y row) (hr : ∀ j, row = some j → w.heap.size + 1 < j ∧ ∃ o : Obj, X.heap[j]? = some o ∧ o.isCells = false) : TrI w r pre Y := by
  have hs := fun j e => (hr j e).2
  obtain ⟨V, hV⟩ := h.map
  exact ⟨h.rev.stay hg hs, h.box.stay hg hs, h.cnt.stay hg hs, ⟨V, hV.stay hg fun j e => ⟨by have := (hr j e).1; omega, (hr j e).2⟩⟩, h.below.grown hg h.below.size fun j e => by have := (hr j e).1; omega⟩

theorem own_cells14 {w : World} {B e s n : Nat} {v : Value} {xs : List Value} (h : w.ownsRow B e s v n xs) {j : Nat} (hj : v.ownBlock = some j) : ∃ o : Obj, w.heap[j]? = some o ∧ o.isCells = true := by
  rcases h.2 with ⟨rfl, _⟩ | ⟨g2, cap2, cur2, rfl, _, hh2, _⟩
  · simp [Value.ownBlock] at hj
  simp only [Value.ownBlock, Option.some.injEq] at hj
  subst hj
  exact ⟨_, hh2, rfl⟩
def TrJ (w : World) (r : Int) (L : List Sp) (pre : List { x : Sp // x ∈ L }) (W : World) : Prop := TrI w r (pre.map (·.1)) W
theorem MapS.one {w : World} {B b n1 n2 : Nat} {G1 G2 : ByteArray → List Iv} {V1 V2 : ByteArray → Value} (h1 : MapS w B b n1 G1 V1) (h2 : MapS w B b n2 G2 V2) {k : ByteArray} (hk : k.size ≤ maxLen) : V1 k = V2 k := by
  have e := (h1.look hk w rfl).symm.trans (h2.look hk w rfl)
  injection e

set_option maxRecDepth 100000 in
set_option maxHeartbeats 4000000 in
theorem trim_in (m : Nat) (hm : 6 ≤ m) {w : World} {F : Nat → Prop} {g : Nat} {L : List Sp} {last : Int} (r : Int) (h : Sk w F g L last) (hL : L.length ≤ 100) :
    CallsIn Fence.wide m Try.prog 15 #[.pointer (some ⟨g, 0, none⟩), .int .i64 r] w fun e w' => ∃ F', e = .returned (.int .i64 ((L.length : Int) - (trimP L r).length)) ∧ Sk w' F' g (trimP L r) last ∧ Own14 F F' w w' := by
  have hFl := h.lt
  have ka := fun W => all_any (some ⟨g, 0, none⟩) W
  have hmm := @run_makeMap Try.prog
  refine callsIn_of_wp_marks Try.func15 rfl trivial ?_ rfl
  simp only [Try.ntmps15, List.size_toArray, List.length_cons, List.length_nil, Nat.reduceAdd, Nat.reduceSub, Array.replicate_succ, Array.replicate_zero, List.push_toArray, List.append_toArray, List.nil_append, List.cons_append]
  obtain ⟨w1, hw1⟩ : ∃ w1, (((w.alloc (.cells #[.int .i64 r] 3)).alloc (.map #[] 0)).alloc (.cells #[.map (some (w.heap.size + 1))] 58)).alloc (.cells #[.int .i64 0] 3) = w1 := ⟨_, rfl⟩
  have hI0 : TrI w r [] w1 := by
    rw [← hw1]
    have e1 := Rk.new w #[.int .i64 r] 3
    have b1 := bnew w (.cells #[.int .i64 r] 3)
    have hm := (MapS.made (w.alloc (.cells #[.int .i64 r] 3))).base (B' := w.heap.size) (by simp)
    have b2 := b1.alloc b1.size (.map #[] 0)
    have e3 := Rk.new ((w.alloc (.cells #[.int .i64 r] 3)).alloc (.map #[] 0)) #[.map (some (w.heap.size + 1))] 58
    have e4 := Rk.new (((w.alloc (.cells #[.int .i64 r] 3)).alloc (.map #[] 0)).alloc (.cells #[.map (some (w.heap.size + 1))] 58)) #[.int .i64 0] 3
    simp only [World.size_alloc] at e3 e4 hm
    have b3 := b2.alloc b2.size (.cells #[.map (some (w.heap.size + 1))] 58)
    exact ⟨((e1.alloc _).alloc _).alloc _, e3.alloc _, e4, ⟨_, (hm.stay (grown_new _ _) fun j e => by cases e).stay (grown_new _ _) fun j e => by cases e⟩, b3.alloc b3.size _⟩
  have hs1 : w1.heap.size = w.heap.size + 4 := by rw [← hw1]; simp
  replace hw1 := Lib.hid hw1
  gi_wp2_with (refine ⟨trivial, fun e => (by cases e), ?_⟩; (with_reducible refine (callsIn_wide.2 (ka _)).mono ?_); rintro e w2 ⟨rfl, hw2⟩)
  rw [hw1.out]
  clear hw2 ka hw1
  obtain ⟨w3, hw3⟩ : ∃ w3, w1.alloc (.cells #[.pointer (some ⟨g, 0, none⟩)] 26) = w3 := ⟨_, rfl⟩
  have hI3 : TrI w r [] w3 := hw3 ▸ hI0.stay (grown_new _ _) fun j e => by cases e
  have z3 : Rk w3 (w.heap.size + 1 + 1 + 1 + 1) #[.pointer (some ⟨g, 0, none⟩)] 26 := by
    have := Rk.new w1 #[.pointer (some ⟨g, 0, none⟩)] 26
    rw [hw3, hs1] at this
    exact this
  have h3 : Sk w3 F g L last := h.keep fun b hb => hI3.below.block b (hFl b hb)
  have hs3 : w.heap.size + 1 + 1 + 1 + 1 < w3.heap.size := z3.lt
  rw [hw3]
  clear hw3 hI0
  have hF3 := h3.lt
  have hFw : ∀ j, w.heap.size ≤ j → ¬ F j := fun j hj hf => by have := hFl j hf; omega
  have hseq := all_stopM (X := fun j => j = w.heap.size + 1) (m - 1) (by omega) h3 (fun j h => by rw [h]; omega) (by omega) z3.one
  refine wpIn_rangeFunc_ownH (w0 := w3) rfl (by omega) (gf := 37) (lb := #[.pointer (some ⟨w.heap.size + 1 + 1 + 1 + 1, 0, none⟩)]) rfl trivial (enters_of Try.func37 (by kernel_rfl) rfl)
    hseq (fun h k => h.trans k) (fun W l o o' hl ho _ hw => Kx.putObj hF3 W l o o' hl ho hw) (Below.refl _ _) (fun _ => rfl)
    (TrJ w r L)
    (fun _ _ _ => False)
    (fun pre X Y row hI hg hr => show TrI w r (pre.map (·.1)) Y from TrI.stay hI hg fun j e => ⟨by have := (hr j e).1; omega, (hr j e).2⟩)
    (fun _ _ _ _ _ hs _ _ => hs)
    hI3
    (fun x a' W => ∃ gx, ¬ F gx ∧ w.heap.size + 1 + 1 + 1 < gx ∧ Rk W gx #[.int .i64 x.1.2.1, .int .i64 x.1.2.2] 64 ∧ (∃ n G V, MapS W w.heap.size (w.heap.size + 1) n G V ∧ ∀ k j, (V k).ownBlock = some j → j ≠ gx) ∧ a' = {
      tmps := #[.pointer (some ⟨g, 0, none⟩), .int .i64 r, undef, .pointer (some ⟨w.heap.size, 0, none⟩), .int .i64 0, .pointer (some ⟨w.heap.size + 1 + 1, 0, none⟩), .pointer (some ⟨w.heap.size + 1 + 1 + 1, 0, none⟩),
      .string x.1.1, .pointer (some ⟨gx, 0, none⟩), .pointer (some ⟨g, 0, none⟩), .bool false, .map (some (w.heap.size + 1)), .pointer (some ⟨g, 0, none⟩), .func (.func 37) #[] #[.pointer (some ⟨w.heap.size + 1 + 1 + 1 + 1, 0, none⟩)], .string x.1.1, .agg #[.int .i64 x.1.2.1, .int .i64 x.1.2.2],
      undef, undef, undef, undef, undef, undef, undef, undef, undef, undef, undef, undef, undef, undef, undef, undef, undef, undef], defers := [] })
    (fun x a' _ X Y row hs hg hr => by
      obtain ⟨gx, h0, hl, h1, ⟨n2, G2, V2, h4, h5⟩, h2⟩ := hs
      exact ⟨gx, h0, hl, h1.stay hg fun j e => (hr j e).2, ⟨n2, G2, V2, h4.stay hg fun j e => ⟨by have := (hr j e).1; omega, (hr j e).2⟩, h5⟩, h2⟩)
    ?assign ?body ?done ?stop
  case assign =>
    intro l2 pre x W K hI hK2
    change TrI w r (pre.map (·.1)) W at hI
    obtain ⟨⟨k, x1, x2⟩, hxL⟩ := x
    have hFW : ∀ j, F j → j < W.heap.size := fun j hj => Nat.lt_of_lt_of_le (hFl j hj) hI.below.size
    have hz := (Kz.refl w3.heap.size F (fun j => j = w.heap.size + 1) W).new (grown_new W (.cells #[.int .i64 x1, .int .i64 x2] 64)) hFW
    obtain ⟨V, hV⟩ := hI.map
    have hlt2 := hI.cnt.lt
    simp only [spEnc] at *
    gi_wp2
    exact hK2 _ _ hz.frm hz.kx (show TrJ w r L pre _ from hI.stay (grown_new _ _) fun j e => by cases e) ⟨W.heap.size, fun h => by have := hFW _ h; omega, hlt2, Rk.new W _ _, ⟨_, _, V, hV.stay (grown_new _ _) fun j e => (by cases e), fun c j hj => by have := (own_lt (hV.row c) hj).2; omega⟩, rfl⟩
  case body =>
    rintro l2 pre x a' W hl2 ⟨rr, hrr⟩ hI ⟨gx, hgx, hgl, hx, ⟨n2, G2, V2, hM2, hsep⟩, rfl⟩ hlt
    change TrI w r (pre.map (·.1)) W at hI
    obtain ⟨⟨k, x1, x2⟩, hxL⟩ := x
    obtain ⟨_, _, _, _, _, hk40⟩ := h
    have hk40 := hk40 _ hxL
    dsimp only at hx hk40
    have hkl : k.size ≤ maxLen := by simp only [maxLen]; omega
    have hFW : ∀ j, F j → j < W.heap.size := fun j hj => Nat.lt_of_lt_of_le (hFl j hj) hI.below.size
    have ke := ended_any x1 x2 r W
    have hpl : pre.length < 100 := by omega
    have hz0 := Kz.refl w3.heap.size F (fun j => j = w.heap.size + 1) W
    obtain ⟨c0, c1⟩ := hx.two
    have cr := hI.rev.one
    have hap : (pre ++ [(⟨(k, x1, x2), hxL⟩ : { x : Sp // x ∈ L })]).map (·.1) = pre.map (·.1) ++ [(k, x1, x2)] := by simp
    have hmpl : (pre.map (·.1)).length = pre.length := List.length_map _
    obtain ⟨q, hq⟩ : ∃ q, keptB r (k, x1, x2) = q := ⟨_, rfl⟩
    rw [show (decide (x2 = 0) || decide (r < x2)) = keptB r (k, x1, x2) from rfl, hq] at ke
    clear hrr hlt
    generalize hP : pre.map (·.1) = P at *
    gi_wp2
    refine ⟨trivial, fun e => (by cases e), CallsIn.inRound l2 ((callsIn_wide.2 ke).mono ?_)⟩
    rintro e w4 ⟨rfl, hg4⟩
    have hz4 := hz0.new hg4 hFW
    have hI4 := hI.stay hg4 fun j e => by cases e
    have hF4 : ∀ j, F j → j < w4.heap.size := fun j hj => Nat.lt_of_lt_of_le (hFW j hj) hg4.size
    cases q with
    | false =>
      have cn := hI4.cnt.one
      have fn := hI4.cnt.fz 0
      have hcl : (P.filter fun x => !keptB r x).length ≤ 100 := by
        have := List.length_filter_le (fun x => !keptB r x) P
        omega
      have e1 : (P ++ [(k, x1, x2)]).filter (keptB r) = P.filter (keptB r) := by rw [List.filter_append, List.filter_cons, hq, if_neg (by decide), List.filter_nil, List.append_nil]
      have e2 : ((P ++ [(k, x1, x2)]).filter fun x => !keptB r x).length = (P.filter fun x => !keptB r x).length + 1 := by rw [List.filter_append, List.length_append, List.filter_cons, hq, if_pos (by decide)]; rfl
      have hz5 := hz4.set (i := 0) hF4 hI4.cnt (hFw _ (by omega)) (.int .i64 (((P.filter fun x => !keptB r x).length : Int) + 1))
      have hfin : TrI w r (P ++ [(k, x1, x2)]) (w4.setCell ⟨w.heap.size + 1 + 1 + 1, 0, none⟩ (.int .i64 (((P.filter fun x => !keptB r x).length : Int) + 1))) := by
        obtain ⟨V, hV⟩ := hI4.map
        refine ⟨hI4.rev.other (by show w.heap.size ≠ w.heap.size + 1 + 1 + 1; omega) _, hI4.box.other (by show w.heap.size + 1 + 1 ≠ w.heap.size + 1 + 1 + 1; omega) _, by rw [e2]; exact hI4.cnt.set 0 _, ⟨V, ?_⟩, hI4.below.setCell (by show w.heap.size ≤ w.heap.size + 1 + 1 + 1; omega) _⟩
        rw [e1]
        exact hV.same (Below.heap_setCell _ _ _ _ (by show w.heap.size + 1 ≠ w.heap.size + 1 + 1 + 1; omega)) fun c j hj => Below.heap_setCell _ _ _ _ fun e => hI4.cnt.apart (hV.row c) (by decide) (by rw [hj]; exact congrArg some e)
      generalize (P.filter fun x => !keptB r x).length = z at *
      gi_wp2
      exact ⟨hz5.frm, hz5.kx, by show TrI w r _ _; rw [hap]; exact hfin⟩
    | true =>
      obtain ⟨V, hV0⟩ := hI.map
      have hV := hV0.stay hg4 fun j e => (by cases e)
      have hsepk : ∀ j, (V k).ownBlock = some j → j ≠ gx := fun j hj => hsep k j (by rw [← hV0.one hM2 hkl]; exact hj)
      obtain ⟨A, c, hVk, _⟩ := hV.read k
      have hnl : (P.filter (keptB r)).length ≤ 100 := by
        have := List.length_filter_le (keptB r) P
        omega
      have hGl := ofK_len (P.filter (keptB r)) k
      have e1 : (P ++ [(k, x1, x2)]).filter (keptB r) = P.filter (keptB r) ++ [(k, x1, x2)] := by rw [List.filter_append, List.filter_cons, hq, if_pos rfl]; rfl
      have e2 : ((P ++ [(k, x1, x2)]).filter fun x => !keptB r x).length = (P.filter fun x => !keptB r x).length := by rw [List.filter_append, List.length_append, List.filter_cons, hq, if_neg (by decide)]; rfl
      have x4 := hx.up hg4
      have hbx := hI4.box
      have hS : ∀ W', W'.heap[w.heap.size + 1]? = w4.heap[w.heap.size + 1]? → Rk W' (w.heap.size + 1 + 1) #[.map (some (w.heap.size + 1))] 58 → Rk W' gx #[.int .i64 x1, .int .i64 x2] 64 → W'.cell? ⟨w.heap.size + 1 + 1, 0, none⟩ = some (.map (some (w.heap.size + 1))) ∧ W'.cell? ⟨gx, 0, none⟩ = some (.int .i64 x1) ∧ W'.cell? ⟨gx, 1, none⟩ = some (.int .i64 x2) ∧ (Instr.lookup 58 (.map (some (w.heap.size + 1))) (.string k) false).run Try.prog W' = .ok (.slice A (ofK (P.filter (keptB r)) k).length c) W' := fun W' h1 h2 h3 => ⟨h2.one, h3.two.1, h3.two.2, by rw [hV.look hkl W' h1, hVk]⟩
      have HS0 := hS w4.drew rfl (hbx.same rfl) (x4.same rfl)
      have hb5 : (w4.drew.alloc (.cells #[.int .i64 x1, .int .i64 x2] 64)).heap[w.heap.size + 1]? = w4.heap[w.heap.size + 1]? := Below.heap_alloc _ _ _ hV.lt
      have x5 : Rk (w4.drew.alloc (.cells #[.int .i64 x1, .int .i64 x2] 64)) gx _ _ := (x4.same (w' := w4.drew) rfl).alloc _
      have bx5 : Rk (w4.drew.alloc (.cells #[.int .i64 x1, .int .i64 x2] 64)) (w.heap.size + 1 + 1) _ _ := (hbx.same (w' := w4.drew) rfl).alloc _
      have HS1 := hS _ hb5 bx5 x5
      have hM5 : MapS (w4.drew.alloc (.cells #[.int .i64 x1, .int .i64 x2] 64)) w.heap.size (w.heap.size + 1) _ _ V := (hV.same (w' := w4.drew) rfl fun _ _ _ => rfl).stay (grown_new _ _) fun j e => (by cases e)
      have hws : w.heap.size ≤ (w4.drew.alloc (.cells #[.int .i64 x1, .int .i64 x2] 64)).heap.size := size_alloc hI4.below.size
      obtain ⟨gg, cap, w6, w7, V', r6, r7, hM7, hg6, hg7, _⟩ := hM5.push hkl (x1, x2) (by omega) (by omega) hws ⟨w4.heap.size, 0, none⟩ (cells_at _ #[.int .i64 x1, .int .i64 x2] _ _ rfl) 62
      have bx6 : Rk w6 (w.heap.size + 1 + 1) _ _ := bx5.same (hg6.block _ bx5.lt fun e => bx5.apart (hM5.row k) (by decide) e.symm)
      have x6 : Rk w6 gx _ _ := x5.same (hg6.block _ x5.lt fun e => hsepk gx e.symm rfl)
      have hb6 : w6.heap[w.heap.size + 1]? = w4.heap[w.heap.size + 1]? := (hg6.block _ hM5.lt fun e => hM5.ne e.symm rfl).trans hb5
      have HS6 := hS w6 hb6 bx6 x6
      have hF5 : ∀ j, F j → j < (w4.drew.alloc (.cells #[.int .i64 x1, .int .i64 x2] 64)).heap.size := fun j hj => by have := hF4 j hj; simp; omega
      have hF6 : ∀ j, F j → j < w6.heap.size := fun j hj => Nat.lt_of_lt_of_le (hF5 j hj) hg6.size
      have hz5 : Kz w3.heap.size F (fun j => j = w.heap.size + 1) W (w4.drew.alloc (.cells #[.int .i64 x1, .int .i64 x2] 64)) := (hz4.new (C := w4.drew) ⟨rfl, rfl, rfl, Nat.le_refl _, fun _ _ _ => rfl⟩ hF4).new (grown_new _ _) hF4
      have hz7 := (hz5.step hg6 hF5 fun j e => ⟨hFw j (own_lt (hM5.row k) e).1, .inl (own_cells14 (hM5.row k) e)⟩).step hg7 hF6 fun j e => by cases e; exact ⟨hFw _ (by omega), .inr ⟨rfl, by omega⟩⟩
      have hk67 : ∀ (b' : Nat) (cs : Array Value) (t : TypeId), b' ≠ w.heap.size + 1 → Rk w4 b' cs t → t ≠ 64 → Rk w7 b' cs t := fun b' cs t hb h ht => by
        have h5 : Rk (w4.drew.alloc (.cells #[.int .i64 x1, .int .i64 x2] 64)) b' cs t := (h.same (w' := w4.drew) rfl).alloc _
        have h6 := h5.same (hg6.block _ h5.lt fun e => h5.apart (hM5.row k) ht e.symm)
        exact h6.same (hg7.block _ h6.lt fun e => hb (by cases e; rfl))
      have hfin : TrI w r (P ++ [(k, x1, x2)]) w7 := by
        refine ⟨hk67 _ _ _ (by omega) hI4.rev (by decide), hk67 _ _ _ (by omega) hbx (by decide), by rw [e2]; exact hk67 _ _ _ (by omega) hI4.cnt (by decide), ⟨V', ?_⟩, ?_⟩
        · rw [e1, List.length_append]
          refine hM7.congr fun d => ?_
          rw [ofK_app, ofK_one]
          unfold pushG
          by_cases e : d = k
          · subst e
            simp
          · rw [if_neg e, if_neg (Ne.symm e), List.append_nil]
        · exact (((hI4.below.drew).alloc (by exact hI4.below.size) _).grown hg6 hws fun j e => (own_lt (hM5.row k) e).1).grown hg7 (by have := hg6.size; omega) fun j e => by cases e; omega
      have hgoal : KeepsFrom w3.heap.size W w7 ∧ Kx F (fun j => j = w.heap.size + 1) W w7 ∧ TrJ w r L (pre ++ [⟨(k, x1, x2), hxL⟩]) w7 := ⟨hz7.frm, hz7.kx, by show TrI w r _ _; rw [hap]; exact hfin⟩
      rw [hVk] at r6
      clear hfin hz7 hz5 hk67 hM7 hM5 hb5 hb6 x5 x6 bx5 bx6 hV hV0 hM2 hS hg6 hg7 hsepk hsep e1 e2
      generalize (ofK (P.filter (keptB r)) k).length = z at *
      gi_wp2
      refine roL_in4 (fun W' => W'.cell? ⟨w.heap.size + 1 + 1, 0, none⟩ = some (.map (some (w.heap.size + 1))) ∧ W'.cell? ⟨gx, 0, none⟩ = some (.int .i64 x1) ∧ W'.cell? ⟨gx, 1, none⟩ = some (.int .i64 x2) ∧ (Instr.lookup 58 (.map (some (w.heap.size + 1))) (.string k) false).run Try.prog W' = .ok (.slice A z c) W') 8 (by kernel_rfl) (by kernel_rfl) ?_
      refine roL_take 0 (some 21) (v := ?v0) rfl rfl (by kernel_rfl) (by decide) (by kernel_rfl) (by kernel_rfl) (by kernel_rfl) (fun _ _ _ h => h) (by rfl) ?y0 HS0 ?r0
      case y0 => (intro wq hS; (try dsimp only at hS); obtain ⟨q0, q1, q2, q3⟩ := hS; go_simp; try with_reducible rfl)
      simp only [Act.put, List.setIfInBounds_toArray, List.set_cons_zero, List.set_cons_succ]
      refine roL_take 1 (some 22) (v := ?v1) rfl rfl (by kernel_rfl) (by decide) (by kernel_rfl) (by kernel_rfl) (by kernel_rfl) (fun _ _ _ h => h) (by rfl) ?y1 HS0 ?r1
      case y1 => (intro wq hS; (try dsimp only at hS); obtain ⟨q0, q1, q2, q3⟩ := hS; go_simp; try with_reducible rfl)
      simp only [Act.put, List.setIfInBounds_toArray, List.set_cons_zero, List.set_cons_succ]
      refine roL_take 2 (some 23) (v := ?v2) rfl rfl (by kernel_rfl) (by decide) (by kernel_rfl) (by kernel_rfl) (by kernel_rfl) (fun _ _ _ h => h) (by rfl) ?y2 HS0 ?r2
      case y2 => (intro wq hS; (try dsimp only at hS); obtain ⟨q0, q1, q2, q3⟩ := hS; go_simp; try with_reducible rfl)
      simp only [Act.put, List.setIfInBounds_toArray, List.set_cons_zero, List.set_cons_succ]
      refine roL_take 3 (some 24) (v := ?v3) rfl rfl (by kernel_rfl) (by decide) (by kernel_rfl) (by kernel_rfl) (by kernel_rfl) (fun _ _ _ h => h) (by rfl) ?y3 HS0 ?r3
      case y3 => (intro wq hS; (try dsimp only at hS); obtain ⟨q0, q1, q2, q3⟩ := hS; go_simp; try with_reducible rfl)
      simp only [Act.put, List.setIfInBounds_toArray, List.set_cons_zero, List.set_cons_succ]
      refine roL_take 4 (some 25) (v := ?v4) rfl rfl (by kernel_rfl) (by decide) (by kernel_rfl) (by kernel_rfl) (by kernel_rfl) (fun _ _ _ h => h) (by rfl) ?y4 HS0 ?r4
      case y4 => (intro wq hS; (try dsimp only at hS); obtain ⟨q0, q1, q2, q3⟩ := hS; go_simp; try with_reducible rfl)
      simp only [Act.put, List.setIfInBounds_toArray, List.set_cons_zero, List.set_cons_succ]
      refine roL_take 5 (some 26) (v := ?v5) rfl rfl (by kernel_rfl) (by decide) (by kernel_rfl) (by kernel_rfl) (by kernel_rfl) (fun _ _ _ h => h) (by rfl) ?y5 HS0 ?r5
      case y5 => (intro wq hS; (try dsimp only at hS); obtain ⟨q0, q1, q2, q3⟩ := hS; go_simp; try with_reducible rfl)
      simp only [Act.put, List.setIfInBounds_toArray, List.set_cons_zero, List.set_cons_succ]
      refine roL_one 6 rfl (by kernel_rfl) fun K hK' => ?_
      go_simp
      refine hK' _ _ (fun _ => HS1) ?_
      clear hK' K
      refine roL_one 7 rfl (by kernel_rfl) fun K hK' => ?_
      refine step_append_run (by rfl) _ _ _ (by rfl) _ _ _ (by rfl) (by rfl) r6 ?_
      refine hK' _ _ (fun _ => HS6) ?_
      clear hK' K
      refine roL_one 8 rfl (by kernel_rfl) fun K hK' => ?_
      refine step_update_run (by rfl) _ _ _ _ (by rfl) _ _ _ (by rfl) (by rfl) (by rfl) r7 ?_
      refine hK' _ _ (fun h => absurd rfl h) ?_
      clear hK' K
      refine roL_done (by kernel_rfl) ?_ _
      exact hgoal
  case done =>
    rintro D ys W hD hT hI hK3
    change TrI w r (ys.map (·.1)) W at hI
    change Telling L (ys.map (·.1)) at hT
    generalize ys.map (·.1) = P at hT hI
    have hp := hT.perm
    have hn1 : (P.filter (keptB r)).length = (trimP L r).length := trim_told r hp
    have hn2 := (List.filter_append_perm (keptB r) P).length_eq
    rw [List.length_append, hp.length_eq, hn1] at hn2
    obtain ⟨b, V0, hF0, hg0, hM0, hs0⟩ := h
    obtain ⟨V, hV⟩ := hI.map
    have hgF : F g := (hF0 g).2 (.inl rfl)
    have hgl := hFl g hgF
    have xg : Rk W g #[.map (some b), .int .i64 last] 60 := hg0.same (hI.below.block g hgl)
    have pg := xg.two
    have fg := xg.fz 0
    obtain ⟨pg, _⟩ := pg
    have cn := hI.cnt.one
    have hgD : g ≠ D := by omega
    have hfin : ∃ F', Sk ((W.setCell ⟨g, 0, none⟩ (.map (some (w.heap.size + 1)))).putObj D (.deferred none)) F' g (trimP L r) last ∧ Own14 F F' w ((W.setCell ⟨g, 0, none⟩ (.map (some (w.heap.size + 1)))).putObj D (.deferred none)) := by
      have hD4 : (W.setCell ⟨g, 0, none⟩ (.map (some (w.heap.size + 1)))).heap[D]? = some (.deferred (some [])) := (Below.heap_setCell _ _ _ _ (by show D ≠ g; omega)).trans hK3
      have hgr := grownBy_putObj' (W.setCell ⟨g, 0, none⟩ (.map (some (w.heap.size + 1)))) D (.deferred none)
      have xg2 : Rk (W.setCell ⟨g, 0, none⟩ (.map (some (w.heap.size + 1)))) g #[.map (some (w.heap.size + 1)), .int .i64 last] 60 := xg.set 0 (.map (some (w.heap.size + 1)))
      have hV2 : MapS (W.setCell ⟨g, 0, none⟩ (.map (some (w.heap.size + 1)))) w.heap.size (w.heap.size + 1) (P.filter (keptB r)).length (ofK (P.filter (keptB r))) V := hV.same (Below.heap_setCell _ _ _ _ (by show w.heap.size + 1 ≠ g; omega)) fun c j hj => Below.heap_setCell _ _ _ _ fun e => xg.apart (hV.row c) types14 (by rw [hj]; exact congrArg some e)
      refine ⟨fun j => j = g ∨ j = w.heap.size + 1 ∨ ∃ k, (V k).ownBlock = some j, ⟨w.heap.size + 1, V, fun _ => Iff.rfl, xg2.stay hgr (fun j e => by cases e; exact ⟨_, hD4, rfl⟩), ?_, fun x hx => hs0 x (List.mem_filter.1 hx).1⟩, ?_⟩
      · rw [← hn1]
        refine ((hV2.stay hgr fun j e => by cases e; exact ⟨by omega, _, hD4, rfl⟩).base (Nat.zero_le _)).congr fun k => ?_
        unfold trimP
        rw [ofK_filter, ofK_filter, hT.ofK]
      · refine ((((OnlyF.refl F w).below hI.below).set (a := ⟨g, 0, none⟩) (.inl hgF) _).grown hgr fun j e => by cases e; exact .inr (by omega)).own fun j hj => ?_
        rcases hj with rfl | rfl | ⟨k, hk⟩
        · exact .inl hgF
        · exact .inr (by omega)
        · exact .inr (own_lt (hV.row k) hk).1
    have hD4 : (W.setCell ⟨g, 0, none⟩ (.map (some (w.heap.size + 1)))).heap[D]? = some (.deferred (some [])) := (Below.heap_setCell _ _ _ _ (by show D ≠ g; omega)).trans hK3
    have hc2 : (W.setCell ⟨g, 0, none⟩ (.map (some (w.heap.size + 1)))).cell? ⟨w.heap.size + 1 + 1 + 1, 0, none⟩ = some (.int .i64 (P.filter fun x => !keptB r x).length) := (hI.cnt.other (a := ⟨g, 0, none⟩) (by show w.heap.size + 1 + 1 + 1 ≠ g; omega) _).one
    have hbx := hI.box.one
    have hres : ((P.filter fun x => !keptB r x).length : Int) = (L.length : Int) - (trimP L r).length := by omega
    clear hV hI hg0 hM0 xg hF0 hn1 hn2 hT hp
    gi_wp2
    obtain ⟨F', h1, h2⟩ := hfin
    refine ⟨by simp, .inl ⟨_, _, rfl, run_takeDeferred hD4, ?_⟩⟩
    refine ⟨_, results_tmp rfl _ _ _, F', ?_, h1, h2⟩
    rw [← hres]
    rfl
  case stop =>
    rintro D c pre W _ _ h _
    exact h.elim
theorem trim14_any {w : World} {F : Nat → Prop} {g : Nat} {L : List Sp} {last : Int} (r : Int) (h : Sk w F g L last) (hL : L.length ≤ 100) :
    Calls Try.prog 15 #[.pointer (some ⟨g, 0, none⟩), .int .i64 r] w fun e w' => ∃ F', e = .returned (.int .i64 ((L.length : Int) - (trimP L r).length)) ∧ Sk w' F' g (trimP L r) last ∧ Own14 F F' w w' := callsIn_wide.1 (trim_in 6 (Nat.le_refl _) r h hL)
end Go.Proofs.Ytmdhollegemlhaa
