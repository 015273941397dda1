/- Layer 14: Next: a range over all spans. Conditions: no more than 100 spans. -/
import Derived.Sort.QuietTacIn
import Derived.Test.YtmdhollegemlhaaCntW14
namespace Go.Proofs.Ytmdhollegemlhaa
open Go.RowKit Go.Shelf
attribute [local go_sem] Oper.semAt_some

theorem nextP_app (l : List Sp) (x : Sp) (r : Int) (lo hi : ByteArray) : nextP (l ++ [x]) r lo hi = if holdsP x r && within lo hi x.1 then lessO (nextP l r lo hi) x.1 else nextP l r lo hi := by
  unfold nextP
  rw [List.foldl_append]
  rfl
/-- What Next's rounds keep: bo is the least key so far. -/
structure NxI (w : World) (r : Int) (lo hi : ByteArray) (bo : Option ByteArray) (W : World) : Prop where
  rev : Rk W w.heap.size #[.int .i64 r] 3
  low : Rk W (w.heap.size + 1) #[.string lo] 9
  high : Rk W (w.heap.size + 1 + 1) #[.string hi] 9
  fst : Rk W (w.heap.size + 1 + 1 + 1) #[.string (bo.getD ⟨#[]⟩)] 9
  is_ : Rk W (w.heap.size + 1 + 1 + 1 + 1) #[.bool bo.isSome] 4
  below : Below w.heap.size w W
theorem NxI.stay {w X Y : World} {r : Int} {lo hi : ByteArray} {bo : Option ByteArray} {row : Option Nat} (h : NxI w r lo hi bo X) (hg : X.grownBy Y row) (hr : ∀ j, row = some j → w.heap.size ≤ j ∧ ∃ o : Obj, X.heap[j]? = some o ∧ o.isCells = false) : NxI w r lo hi bo Y :=
  have hs := fun j e => (hr j e).2
  ⟨h.rev.stay hg hs, h.low.stay hg hs, h.high.stay hg hs, h.fst.stay hg hs, h.is_.stay hg hs, h.below.grown hg h.below.size fun j e => (hr j e).1⟩
theorem NxI.take {w X : World} {r : Int} {lo hi k : ByteArray} {bo : Option ByteArray} (h : NxI w r lo hi bo X) : NxI w r lo hi (some k) ((X.setCell ⟨w.heap.size + 1 + 1 + 1, 0, none⟩ (.string k)).setCell ⟨w.heap.size + 1 + 1 + 1 + 1, 0, none⟩ (.bool true)) :=
  ⟨(h.rev.other (by show w.heap.size ≠ w.heap.size + 1 + 1 + 1; omega) _).other (by show w.heap.size ≠ w.heap.size + 1 + 1 + 1 + 1; omega) _,
   (h.low.other (by show w.heap.size + 1 ≠ w.heap.size + 1 + 1 + 1; omega) _).other (by show w.heap.size + 1 ≠ w.heap.size + 1 + 1 + 1 + 1; omega) _,
   (h.high.other (by show w.heap.size + 1 + 1 ≠ w.heap.size + 1 + 1 + 1; omega) _).other (by show w.heap.size + 1 + 1 ≠ w.heap.size + 1 + 1 + 1 + 1; omega) _,
   (h.fst.set 0 _).other (by show w.heap.size + 1 + 1 + 1 ≠ w.heap.size + 1 + 1 + 1 + 1; omega) _,
   (h.is_.other (by show w.heap.size + 1 + 1 + 1 + 1 ≠ w.heap.size + 1 + 1 + 1; omega) _).set 0 _,
   (h.below.setCell (by show w.heap.size ≤ w.heap.size + 1 + 1 + 1; omega) _).setCell (by show w.heap.size ≤ w.heap.size + 1 + 1 + 1 + 1; omega) _⟩
theorem isEmpty_not {hi : ByteArray} (h : hi ≠ ⟨#[]⟩) : hi.toList.isEmpty = false := by
  cases q : hi.toList.isEmpty
  · rfl
  · rw [List.isEmpty_iff] at q
    exact absurd (tl_inj (q.trans (ByteArray.toList_eq ⟨#[]⟩).symm)) h

set_option maxRecDepth 100000 in
set_option maxHeartbeats 4000000 in
theorem next_in (m : Nat) (hm : 6 ≤ m) {w : World} {F : Nat → Prop} {g : Nat} {L : List Sp} {last : Int} (r : Int) (lo hi_ : ByteArray) (h : Sk w F g L last) (hL : L.length ≤ 100) :
    CallsIn Fence.wide m Try.prog 17 #[.pointer (some ⟨g, 0, none⟩), .int .i64 r, .string lo, .string hi_] w fun e w' => e = .returned (.tuple #[.string ((nextP L r lo hi_).getD ⟨#[]⟩), .bool (nextP L r lo hi_).isSome]) ∧ Below w.heap.size w w' := by
  have hFl := h.lt
  have ka := fun W => all_any (some ⟨g, 0, none⟩) W
  refine callsIn_of_wp_marks Try.func17 rfl trivial ?_ rfl
  simp only [Try.ntmps17, List.size_toArray, List.length_cons, List.length_nil, Nat.reduceAdd, Nat.reduceSub, Array.replicate_succ, Array.replicate_zero, List.push_toArray, List.append_toArray, List.nil_append, List.cons_append]
  obtain ⟨w1, hw1⟩ : ∃ w1, ((((w.alloc (.cells #[.int .i64 r] 3)).alloc (.cells #[.string lo] 9)).alloc (.cells #[.string hi_] 9)).alloc (.cells #[.string ⟨#[]⟩] 9)).alloc (.cells #[.bool false] 4) = w1 := ⟨_, rfl⟩
  have hI0 : NxI w r lo hi_ none w1 := by
    rw [← hw1]
    have e1 := Rk.new w #[.int .i64 r] 3
    have e2 := Rk.new (w.alloc (.cells #[.int .i64 r] 3)) #[.string lo] 9
    have e3 := Rk.new ((w.alloc (.cells #[.int .i64 r] 3)).alloc (.cells #[.string lo] 9)) #[.string hi_] 9
    have e4 := Rk.new (((w.alloc (.cells #[.int .i64 r] 3)).alloc (.cells #[.string lo] 9)).alloc (.cells #[.string hi_] 9)) #[.string ⟨#[]⟩] 9
    have e5 := Rk.new ((((w.alloc (.cells #[.int .i64 r] 3)).alloc (.cells #[.string lo] 9)).alloc (.cells #[.string hi_] 9)).alloc (.cells #[.string ⟨#[]⟩] 9)) #[.bool false] 4
    simp only [World.size_alloc] at e2 e3 e4 e5
    have b1 := bnew w (.cells #[.int .i64 r] 3)
    have b2 := b1.alloc b1.size (.cells #[.string lo] 9)
    have b3 := b2.alloc b2.size (.cells #[.string hi_] 9)
    have b4 := b3.alloc b3.size (.cells #[.string ⟨#[]⟩] 9)
    exact ⟨(((e1.alloc _).alloc _).alloc _).alloc _, ((e2.alloc _).alloc _).alloc _, (e3.alloc _).alloc _, e4.alloc _, e5, b4.alloc b4.size _⟩
  have hs1 : w1.heap.size = w.heap.size + 5 := by rw [← hw1]; simp
  replace hw1 := Lib.hid hw1
  gi_wp2_with (refine ⟨trivial, fun e => (by cases e), ?_⟩; (with_reducible refine (callsIn_wide.2 (ka _)).mono ?_); rintro e w2 ⟨rfl, hw2⟩)
  rw [hw1.out]
  clear hw2 ka hw1
  obtain ⟨w3, hw3⟩ : ∃ w3, w1.alloc (.cells #[.pointer (some ⟨g, 0, none⟩)] 26) = w3 := ⟨_, rfl⟩
  have hI3 : NxI w r lo hi_ none w3 := hw3 ▸ hI0.stay (grown_new _ _) fun j e => by cases e
  have z3 : Rk w3 (w.heap.size + 1 + 1 + 1 + 1 + 1) #[.pointer (some ⟨g, 0, none⟩)] 26 := by
    have := Rk.new w1 #[.pointer (some ⟨g, 0, none⟩)] 26
    rw [hw3, hs1] at this
    exact this
  have h3 : Sk w3 F g L last := h.keep fun b hb => hI3.below.block b (hFl b hb)
  rw [hw3]
  clear hw3 hI0
  have hF3 := h3.lt
  have hsz3 := hI3.below.size
  have hFw : ∀ j, w.heap.size ≤ j → ¬ F j := fun j hj hf => by have := hFl j hf; omega
  have hseq := all_stop (X := fun _ => False) (m - 1) (by omega) h3 (fun _ h => h.elim) (by omega) z3.one
  refine wpIn_rangeFunc_ownH (w0 := w3) rfl (by omega) (gf := 37) (lb := #[.pointer (some ⟨w.heap.size + 1 + 1 + 1 + 1 + 1, 0, none⟩)]) rfl trivial (enters_of Try.func37 (by kernel_rfl) rfl)
    hseq (fun h k => h.trans k) (fun W l o o' hl ho _ hw => Kx.putObj hF3 W l o o' hl ho hw) (Below.refl _ _) (fun _ => rfl)
    (fun pre W => NxI w r lo hi_ (nextP pre r lo hi_) W)
    (fun _ _ _ => False)
    (fun pre X Y row hI hg hr => hI.stay hg fun j e => ⟨by have := (hr j e).1; omega, (hr j e).2⟩)
    (fun _ _ _ _ _ hs _ _ => hs)
    hI3
    (fun x a' W => ∃ gx, ¬ F gx ∧ Rk W gx #[.int .i64 x.2.1, .int .i64 x.2.2] 64 ∧ a' = { tmps := #[.pointer (some ⟨g, 0, none⟩), .int .i64 r, .string lo, .string hi_, undef, .pointer (some ⟨w.heap.size, 0, none⟩), .pointer (some ⟨w.heap.size + 1, 0, none⟩), .pointer (some ⟨w.heap.size + 1 + 1, 0, none⟩), .string ⟨#[]⟩, .bool false,
      .pointer (some ⟨w.heap.size + 1 + 1 + 1, 0, none⟩), .pointer (some ⟨w.heap.size + 1 + 1 + 1 + 1, 0, none⟩), .string x.1, .pointer (some ⟨gx, 0, none⟩), undef, .pointer (some ⟨g, 0, none⟩),
      .func (.func 37) #[] #[.pointer (some ⟨w.heap.size + 1 + 1 + 1 + 1 + 1, 0, none⟩)], .string x.1, .agg #[.int .i64 x.2.1, .int .i64 x.2.2],
      undef, undef, undef, undef, undef, undef, undef, undef, undef, undef, undef, undef, undef, undef, undef, undef, undef, undef, undef, undef, undef, undef, undef, undef, undef, undef, undef, undef, undef, undef], defers := [] })
    (fun x a' _ X Y row hs hg hr => by
      obtain ⟨gx, h0, h1, h2⟩ := hs
      exact ⟨gx, h0, h1.stay hg fun j e => (hr j e).2, h2⟩)
    ?assign ?body ?done ?stop
  case assign =>
    intro l2 pre x W K hI hK2
    obtain ⟨k, x1, x2⟩ := x
    have hFW : ∀ j, F j → j < W.heap.size := fun j hj => Nat.lt_of_lt_of_le (hFl j hj) hI.below.size
    have hz := (Kz.refl w3.heap.size F (fun _ => False) W).new (grown_new W (.cells #[.int .i64 x1, .int .i64 x2] 64)) hFW
    simp only [spEnc] at *
    gi_wp2
    exact hK2 _ _ hz.frm hz.kx (hI.stay (grown_new _ _) fun j e => by cases e) ⟨W.heap.size, fun h => by have := hFW _ h; omega, Rk.new W _ _, rfl⟩
  case body =>
    rintro l2 pre x a' W hl2 ⟨rr, hrr⟩ hI ⟨gx, hgx, hx, rfl⟩ hlt
    obtain ⟨k, x1, x2⟩ := x
    have hFW : ∀ j, F j → j < W.heap.size := fun j hj => Nat.lt_of_lt_of_le (hFl j hj) hI.below.size
    have kh := holds14_any x1 x2 r W
    rw [show (decide (x1 ≤ r) && (decide (x2 = 0) || decide (r < x2))) = holdsP (k, x1, x2) r from rfl] at kh
    have hap := nextP_app pre (k, x1, x2) r lo hi_
    obtain ⟨q, hq⟩ : ∃ q, holdsP (k, x1, x2) r = q := ⟨_, rfl⟩
    rw [hq] at kh hap
    dsimp only at hap hx
    obtain ⟨c0, c1⟩ := hx.two
    clear hq
    have hz0 := Kz.refl w3.heap.size F (fun _ => False) W
    -- the two ways: the least key stays, or this one is it
    have hno : ∀ W4, W.grownBy W4 none → nextP (pre ++ [(k, x1, x2)]) r lo hi_ = nextP pre r lo hi_ → KeepsFrom w3.heap.size W W4 ∧ Kx F (fun _ => False) W W4 ∧ NxI w r lo hi_ (nextP (pre ++ [(k, x1, x2)]) r lo hi_) W4 := fun W4 hg4 e => by
      have hz := hz0.new hg4 hFW
      exact ⟨hz.frm, hz.kx, by rw [e]; exact hI.stay hg4 fun j e => by cases e⟩
    have hyes : ∀ W4, W.grownBy W4 none → nextP (pre ++ [(k, x1, x2)]) r lo hi_ = some k → let W5 := (W4.setCell ⟨w.heap.size + 1 + 1 + 1, 0, none⟩ (.string k)).setCell ⟨w.heap.size + 1 + 1 + 1 + 1, 0, none⟩ (.bool true)
        KeepsFrom w3.heap.size W W5 ∧ Kx F (fun _ => False) W W5 ∧ NxI w r lo hi_ (nextP (pre ++ [(k, x1, x2)]) r lo hi_) W5 := fun W4 hg4 e => by
      have hI4 := hI.stay hg4 fun j e => by cases e
      have hF4 : ∀ j, F j → j < W4.heap.size := fun j hj => Nat.lt_of_lt_of_le (hFW j hj) hg4.size
      have hz := ((hz0.new hg4 hFW).set (i := 0) hF4 hI4.fst (hFw _ (by omega)) (.string k)).set (i := 0) (fun j hj => by simpa [World.setCell] using hF4 j hj) (hI4.is_.other (a := ⟨w.heap.size + 1 + 1 + 1, 0, none⟩) (by show w.heap.size + 1 + 1 + 1 + 1 ≠ w.heap.size + 1 + 1 + 1; omega) _) (hFw _ (by omega)) (.bool true)
      exact ⟨hz.frm, hz.kx, by rw [e]; exact hI4.take⟩
    have hW0 : W.grownBy W none := ⟨rfl, rfl, rfl, Nat.le_refl _, fun _ _ _ => rfl⟩
    have hst : ∀ W4, W.grownBy W4 none → NxI w r lo hi_ (nextP pre r lo hi_) W4 := fun W4 hg4 => hI.stay hg4 fun j e => by cases e
    have c2 := hI.low.one
    have c3 := hI.high.one
    have c4 := hI.rev.one
    generalize hbo : nextP pre r lo hi_ = bo at *
    clear hbo hI hx hrr hlt hgx
    have hc5 : ∀ W4, W.grownBy W4 none → W4.cell? ⟨w.heap.size + 1 + 1 + 1, 0, none⟩ = some (.string (bo.getD ⟨#[]⟩)) ∧ W4.cell? ⟨w.heap.size + 1 + 1 + 1 + 1, 0, none⟩ = some (.bool bo.isSome) ∧ W4.frozen? ⟨w.heap.size + 1 + 1 + 1, 0, none⟩ = false ∧ W4.frozen? ⟨w.heap.size + 1 + 1 + 1 + 1, 0, none⟩ = false := fun W4 hg4 =>
      have h := hst W4 hg4
      ⟨h.fst.one, h.is_.one, h.fst.fz 0, h.is_.fz 0⟩
    have hh4 : ∀ W4, W.grownBy W4 none → W4.cell? ⟨w.heap.size + 1 + 1 + 1, 0, none⟩ = some (.string (bo.getD ⟨#[]⟩)) := fun W4 h => (hc5 W4 h).1
    clear hst
    unfold within at hap
    have dlo : ∀ z, kl k lo = z → Op.bytesLess k.toList lo.toList = z := fun z e => e
    have dhi : ∀ z, kl k hi_ = z → Op.bytesLess k.toList hi_.toList = z := fun z e => e
    cases e1 : kl k lo with
    | true =>
      have d1 := dlo _ e1
      rw [e1, Bool.not_true, Bool.false_and, Bool.and_false, if_neg (by decide)] at hap
      have hfin := hno W hW0 hap
      clear hno hyes hc5 hh4 dlo dhi e1 hap
      gi_wp2
      refine ⟨trivial, ?_⟩
      gi_wp2
      exact hfin
    | false =>
      have d1 := dlo _ e1
      rw [e1, Bool.not_false, Bool.true_and] at hap
      by_cases e2 : hi_ = ⟨#[]⟩
      · have d2 : hi_.toList.isEmpty = true := by rw [e2, ByteArray.toList_eq]; rfl
        rw [decide_eq_true e2, Bool.true_or, Bool.and_true] at hap
        rw [← Bool.and_true q] at hap
        clear hh4 dlo dhi e1 e2
        gi_wp2
        refine ⟨trivial, fun e => (by cases e), CallsIn.inRound l2 ((callsIn_wide.2 kh).mono ?_)⟩
        rintro e w4 ⟨rfl, hg4⟩
        obtain ⟨c5, c6, f5, f6⟩ := hc5 w4 hg4
        have hno := hno w4 hg4
        have hyes := hyes w4 hg4
        clear hc5 hg4 hW0 kh c0 c1 c2 c3 c4
        cases q with
        | false =>
          rw [Bool.false_and, if_neg (by decide)] at hap
          have hfin := hno hap
          clear hno hyes hap
          gi_wp2
          exact hfin
        | true =>
          rw [Bool.true_and, if_pos rfl] at hap
          cases bo with
          | none =>
            have hfin := hyes hap
            clear hno hyes hap
            gi_wp2
            exact hfin
          | some cc =>
            have hap2 : nextP (pre ++ [(k, x1, x2)]) r lo hi_ = if kl k cc then some k else some cc := hap
            have dcc : ∀ z, kl k cc = z → Op.bytesLess k.toList cc.toList = z := fun z e => e
            cases e4 : kl k cc with
            | true =>
              have d4 := dcc _ e4
              rw [e4, if_pos rfl] at hap2
              have hfin := hyes hap2
              clear hno hyes hap hap2 dcc e4
              gi_wp2
              exact hfin
            | false =>
              have d4 := dcc _ e4
              rw [e4, if_neg (by decide)] at hap2
              have hfin := hno hap2
              clear hno hyes hap hap2 dcc e4
              gi_wp2
              exact hfin
      · have d2 := isEmpty_not e2
        rw [decide_eq_false e2, Bool.false_or] at hap
        cases e3 : kl k hi_ with
        | false =>
          have d3 := dhi _ e3
          rw [e3, Bool.and_false, if_neg (by decide)] at hap
          have hfin := hno W hW0 hap
          clear hno hyes hc5 hh4 dlo dhi e1 hap e2 e3
          gi_wp2
          refine ⟨trivial, ?_⟩
          gi_wp2
          exact hfin
        | true =>
          have d3 := dhi _ e3
          rw [e3] at hap
          clear hh4 dlo dhi e1 e2 e3
          gi_wp2
          refine ⟨trivial, fun e => (by cases e), CallsIn.inRound l2 ((callsIn_wide.2 kh).mono ?_)⟩
          rintro e w4 ⟨rfl, hg4⟩
          obtain ⟨c5, c6, f5, f6⟩ := hc5 w4 hg4
          have hno := hno w4 hg4
          have hyes := hyes w4 hg4
          clear hc5 hg4 hW0 kh c0 c1 c2 c3 c4
          cases q with
          | false =>
            rw [Bool.false_and, if_neg (by decide)] at hap
            have hfin := hno hap
            clear hno hyes hap
            gi_wp2
            exact hfin
          | true =>
            rw [Bool.true_and, if_pos rfl] at hap
            cases bo with
            | none =>
              have hfin := hyes hap
              clear hno hyes hap
              gi_wp2
              exact hfin
            | some cc =>
              have hap2 : nextP (pre ++ [(k, x1, x2)]) r lo hi_ = if kl k cc then some k else some cc := hap
              have dcc : ∀ z, kl k cc = z → Op.bytesLess k.toList cc.toList = z := fun z e => e
              cases e4 : kl k cc with
              | true =>
                have d4 := dcc _ e4
                rw [e4, if_pos rfl] at hap2
                have hfin := hyes hap2
                clear hno hyes hap hap2 dcc e4
                gi_wp2
                exact hfin
              | false =>
                have d4 := dcc _ e4
                rw [e4, if_neg (by decide)] at hap2
                have hfin := hno hap2
                clear hno hyes hap hap2 dcc e4
                gi_wp2
                exact hfin
  case done =>
    rintro D ys W hD hT hI hK3
    have hI2 := hI.stay (grownBy_putObj' W D (.deferred none)) (fun r e => by cases e; exact ⟨by omega, _, hK3, rfl⟩)
    rw [nextP_perm hT.perm] at hI hI2
    have c4 := hI.fst.one
    have c5 := hI.is_.one
    gi_wp2
    gi_quiet_th (fail)
    gi_wp2
    have hK4 : (W.drewN nq).heap[D]? = some (.deferred (some [])) := hK3
    refine ⟨by simp, .inl ⟨_, _, rfl, run_takeDeferred hK4, ?_⟩⟩
    refine ⟨_, results_tmp2 rfl _ _ _, rfl, ?_⟩
    have hb := hI2.below
    exact ⟨hb.os, hb.tape, hb.output, hb.size, hb.block⟩
  case stop =>
    rintro D c pre W _ _ h _
    exact h.elim
theorem next14_any {w : World} {F : Nat → Prop} {g : Nat} {L : List Sp} {last : Int} (r : Int) (lo hi_ : ByteArray) (h : Sk w F g L last) (hL : L.length ≤ 100) :
    Calls Try.prog 17 #[.pointer (some ⟨g, 0, none⟩), .int .i64 r, .string lo, .string hi_] w fun e w' => e = .returned (.tuple #[.string ((nextP L r lo hi_).getD ⟨#[]⟩), .bool (nextP L r lo hi_).isSome]) ∧ Below w.heap.size w w' := callsIn_wide.1 (next_in 6 (Nat.le_refl _) r lo hi_ h hL)
end Go.Proofs.Ytmdhollegemlhaa
