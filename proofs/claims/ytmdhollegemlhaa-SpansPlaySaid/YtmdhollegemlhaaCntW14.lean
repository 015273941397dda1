/- Layer 14: Count: a range over all spans. Conditions: no more than 100 spans. -/
import Derived.Test.YtmdhollegemlhaaAllW14
import Derived.Test.YtmdhollegemlhaaFunW14
namespace Go.Proofs.Ytmdhollegemlhaa
open Go.RowKit Go.Shelf
attribute [local go_sem] Oper.semAt_some

/-- What a round of a loop over all spans may do: M is where the heap ended ahead of the loop. -/
structure Kz (M : Nat) (F X : Nat → Prop) (W W' : World) : Prop where
  frm : KeepsFrom M W W'
  kx : Kx F X W W'
theorem Kz.refl (M : Nat) (F X : Nat → Prop) (W : World) : Kz M F X W W := ⟨KeepsFrom.refl _ _, Kx.refl _ _ _⟩
theorem Kz.size {M : Nat} {F X : Nat → Prop} {W W' : World} (h : Kz M F X W W') : W.heap.size ≤ W'.heap.size := h.kx.size
theorem Kz.trans {M : Nat} {F X : Nat → Prop} {A B C : World} (h : Kz M F X A B) (k : Kz M F X B C) : Kz M F X A C := ⟨h.frm.trans k.frm, h.kx.trans k.kx⟩
theorem walk_cells {o : Obj} (h : o.isCells = true) : o.isWalk = false := by
  cases o <;> first | rfl | cases h
theorem Kz.step {M : Nat} {F X : Nat → Prop} {A B C : World} {row : Option Nat} (h : Kz M F X A B) (hg : B.grownBy C row) (hF : ∀ k, F k → k < B.heap.size) (hr : ∀ r, row = some r → ¬ F r ∧ ((∃ o : Obj, B.heap[r]? = some o ∧ o.isCells = true) ∨ (X r ∧ r < M))) : Kz M F X A C := by
  refine ⟨h.frm.trans ⟨hg.size, fun k o hk h1 h2 => (hg.block k (Array.getElem?_eq_some_iff.1 h1).1 fun e => ?_).trans h1⟩, h.kx.grown hg hF fun r e => ⟨(hr r e).1, ?_⟩⟩
  · rcases (hr k e.symm).2 with ⟨o2, q1, q2⟩ | ⟨_, q⟩
    · rw [h1] at q1
      cases q1
      rw [h2] at q2
      cases q2
    · omega
  · rcases (hr r e).2 with ⟨o2, q1, q2⟩ | ⟨q, _⟩
    · exact .inr ⟨o2, q1, walk_cells q2⟩
    · exact .inl q
theorem Kz.new {M : Nat} {F X : Nat → Prop} {A B C : World} (h : Kz M F X A B) (hg : B.grownBy C none) (hF : ∀ k, F k → k < B.heap.size) : Kz M F X A C := h.step hg hF fun r e => by cases e
theorem grown_set (w : World) (b i : Nat) (v : Value) : w.grownBy (w.setCell ⟨b, i, none⟩ v) (some b) := ⟨rfl, rfl, rfl, by simp [World.setCell], fun k _ hne => Below.heap_setCell _ _ _ _ fun e => hne (congrArg some e)⟩
theorem Kz.set {M : Nat} {F X : Nat → Prop} {A B : World} {b i : Nat} {cs : Array Value} {t : TypeId} (h : Kz M F X A B) (hF : ∀ k, F k → k < B.heap.size) (hb : Rk B b cs t) (hn : ¬ F b) (v : Value) : Kz M F X A (B.setCell ⟨b, i, none⟩ v) :=
  h.step (grown_set B b i v) hF fun r e => by cases e; exact ⟨hn, .inl ⟨_, hb, rfl⟩⟩
/-- A block of cells lies through a step that turns other objects alone. -/
theorem Rk.stay {X Y : World} {b : Nat} {cs : Array Value} {t : TypeId} {row : Option Nat} (h : Rk X b cs t) (hg : X.grownBy Y row) (hr : ∀ r, row = some r → ∃ o : Obj, X.heap[r]? = some o ∧ o.isCells = false) : Rk Y b cs t :=
  h.same (hg.block b h.lt fun e => by
    obtain ⟨o, ho, hc⟩ := hr b e.symm
    rw [show X.heap[b]? = _ from h] at ho
    cases ho
    cases hc)
theorem Rk.up {X Y : World} {b : Nat} {cs : Array Value} {t : TypeId} (h : Rk X b cs t) (hg : X.grownBy Y none) : Rk Y b cs t := h.same (hg.block b h.lt (by simp))

theorem countP_app (l : List Sp) (x : Sp) (r : Int) : countP (l ++ [x]) r = countP l r + (if holdsP x r then 1 else 0) := by
  unfold countP
  rw [List.filter_append, List.length_append]
  cases q : holdsP x r <;> simp [q]
theorem countP_le (l : List Sp) (r : Int) : countP l r ≤ l.length := List.length_filter_le _ _
/-- What Count's rounds keep. -/
structure CnI (w : World) (r : Int) (Br Bn : Nat) (pre : List Sp) (W : World) : Prop where
  rev : Rk W Br #[.int .i64 r] 3
  cnt : Rk W Bn #[.int .i64 (countP pre r)] 3
  below : Below w.heap.size w W
theorem CnI.stay {w X Y : World} {r : Int} {Br Bn : Nat} {pre : List Sp} {row : Option Nat} (h : CnI w r Br Bn pre X) (hg : X.grownBy Y row) (hr : ∀ j, row = some j → w.heap.size ≤ j ∧ ∃ o : Obj, X.heap[j]? = some o ∧ o.isCells = false) : CnI w r Br Bn pre Y :=
  ⟨h.rev.stay hg fun j e => (hr j e).2, h.cnt.stay hg fun j e => (hr j e).2, h.below.grown hg h.below.size fun j e => (hr j e).1⟩

set_option maxRecDepth 100000 in
set_option maxHeartbeats 2000000 in
theorem count_in (m : Nat) (hm : 6 ≤ m) {w : World} {F : Nat → Prop} {g : Nat} {L : List Sp} {last : Int} (r : Int) (h : Sk w F g L last) (hL : L.length ≤ 100) :
    CallsIn Fence.wide m Try.prog 21 #[.pointer (some ⟨g, 0, none⟩), .int .i64 r] w fun e w' => e = .returned (.int .i64 (countP L r)) ∧ Below w.heap.size w w' := by
  have hFl := h.lt
  have ka := fun W => all_any (some ⟨g, 0, none⟩) W
  refine callsIn_of_wp_marks Try.func21 rfl trivial ?_ rfl
  simp only [Try.ntmps21, List.size_toArray, List.length_cons, List.length_nil, Nat.reduceAdd, Nat.reduceSub, Array.replicate_succ, Array.replicate_zero, List.push_toArray, List.append_toArray, List.nil_append, List.cons_append]
  have b0 := bnew w (.cells #[.int .i64 r] 3)
  have x0 := Rk.new w #[.int .i64 r] 3
  have h1 := h.keep (w' := w.alloc (.cells #[.int .i64 r] 3)) fun b hb => Below.heap_alloc _ _ _ (hFl b hb)
  have b1 := b0.alloc b0.size (.cells #[.int .i64 0] 3)
  have x1 := x0.alloc (.cells #[.int .i64 0] 3)
  have y1 := Rk.new (w.alloc (.cells #[.int .i64 r] 3)) #[.int .i64 0] 3
  have h2 := h1.keep (w' := (w.alloc (.cells #[.int .i64 r] 3)).alloc (.cells #[.int .i64 0] 3)) fun b hb => Below.heap_alloc _ _ _ (by have := hFl b hb; simp; omega)
  simp only [World.size_alloc] at y1
  gi_wp2_with (refine ⟨trivial, fun e => (by cases e), ?_⟩; (with_reducible refine (callsIn_wide.2 (ka _)).mono ?_); rintro e w2 ⟨rfl, hw2⟩)
  clear hw2 ka
  obtain ⟨w3, hw3⟩ : ∃ w3, ((w.alloc (.cells #[.int .i64 r] 3)).alloc (.cells #[.int .i64 0] 3)).alloc (.cells #[.pointer (some ⟨g, 0, none⟩)] 26) = w3 := ⟨_, rfl⟩
  have b3 : Below w.heap.size w w3 := hw3 ▸ b1.alloc b1.size _
  have x3 : Rk w3 w.heap.size #[.int .i64 r] 3 := hw3 ▸ x1.alloc _
  have y3 : Rk w3 (w.heap.size + 1) #[.int .i64 0] 3 := hw3 ▸ y1.alloc _
  have z3 : Rk w3 (w.heap.size + 1 + 1) #[.pointer (some ⟨g, 0, none⟩)] 26 := by
    have := Rk.new ((w.alloc (.cells #[.int .i64 r] 3)).alloc (.cells #[.int .i64 0] 3)) #[.pointer (some ⟨g, 0, none⟩)] 26
    simp only [World.size_alloc] at this
    rw [hw3] at this
    exact this
  have h3 : Sk w3 F g L last := hw3 ▸ h2.keep fun b hb => Below.heap_alloc _ _ _ (by have := hFl b hb; simp; omega)
  rw [hw3]
  clear hw3 b0 x0 h1 b1 x1 y1 h2
  have hF3 := h3.lt
  have hsz3 := b3.size
  have hFw : ∀ j, w.heap.size ≤ j → ¬ F j := fun j hj hf => by have := hFl j hf; omega
  have hseq := all_stop (X := fun _ => False) (m - 1) (by omega) h3 (fun _ h => h.elim) (by omega) z3.one
  refine wpIn_rangeFunc_ownH (w0 := w3) rfl (by omega) (gf := 37) (lb := #[.pointer (some ⟨w.heap.size + 1 + 1, 0, none⟩)]) rfl trivial (enters_of Try.func37 (by kernel_rfl) rfl)
    hseq (fun h k => h.trans k) (fun W l o o' hl ho _ hw => Kx.putObj hF3 W l o o' hl ho hw) (Below.refl _ _) (fun _ => rfl)
    (CnI w r w.heap.size (w.heap.size + 1))
    (fun _ _ _ => False)
    (fun pre X Y row hI hg hr => hI.stay hg fun j e => ⟨by have := (hr j e).1; omega, (hr j e).2⟩)
    (fun _ _ _ _ _ hs _ _ => hs)
    ⟨x3, y3, b3⟩
    (fun x a' W => ∃ gx, ¬ F gx ∧ Rk W gx #[.int .i64 x.2.1, .int .i64 x.2.2] 64 ∧ a' = { tmps := #[.pointer (some ⟨g, 0, none⟩), .int .i64 r, undef, .pointer (some ⟨w.heap.size, 0, none⟩), .int .i64 0, .pointer (some ⟨w.heap.size + 1, 0, none⟩), undef, .pointer (some ⟨gx, 0, none⟩), .pointer (some ⟨g, 0, none⟩),
      .func (.func 37) #[] #[.pointer (some ⟨w.heap.size + 1 + 1, 0, none⟩)], .string x.1, .agg #[.int .i64 x.2.1, .int .i64 x.2.2], undef, undef, undef, undef, undef, undef], defers := [] })
    (fun x a' _ X Y row hs hg hr => by
      obtain ⟨gx, h0, h1, h2⟩ := hs
      exact ⟨gx, h0, h1.stay hg fun j e => (hr j e).2, h2⟩)
    ?assign ?body ?done ?stop
  case assign =>
    intro l2 pre x W K hI hK2
    obtain ⟨k, x1, x2⟩ := x
    have hFW : ∀ j, F j → j < W.heap.size := fun j hj => Nat.lt_of_lt_of_le (hFl j hj) hI.below.size
    have hz := (Kz.refl w3.heap.size F (fun _ => False) W).new (grown_new W (.cells #[.int .i64 x1, .int .i64 x2] 64)) hFW
    simp only [spEnc] at *
    gi_wp2
    exact hK2 _ _ hz.frm hz.kx (hI.stay (grown_new _ _) fun j e => by cases e) ⟨W.heap.size, fun h => by have := hFW _ h; omega, Rk.new W _ _, rfl⟩
  case body =>
    rintro l2 pre x a' W hl2 ⟨rr, hrr⟩ hI ⟨gx, hgx, hx, rfl⟩ hlt
    obtain ⟨k, x1, x2⟩ := x
    have hFW : ∀ j, F j → j < W.heap.size := fun j hj => Nat.lt_of_lt_of_le (hFl j hj) hI.below.size
    have cr := hI.rev.one
    obtain ⟨c0, c1⟩ := hx.two
    have kh := holds14_any x1 x2 r W
    have hcn := countP_app pre (k, x1, x2) r
    obtain ⟨q, hq⟩ : ∃ q, holdsP (k, x1, x2) r = q := ⟨_, rfl⟩
    rw [show (decide (x1 ≤ r) && (decide (x2 = 0) || decide (r < x2))) = holdsP (k, x1, x2) r from rfl, hq] at kh
    rw [hq] at hcn
    have hpl : countP pre r ≤ 100 := by
      have := countP_le pre r
      omega
    have hnF : ¬ F (w.heap.size + 1) := hFw _ (by omega)
    clear hq
    dsimp only at c0 c1
    gi_wp2
    refine ⟨trivial, fun e => (by cases e), CallsIn.inRound l2 ((callsIn_wide.2 kh).mono ?_)⟩
    rintro e w4 ⟨rfl, hg4⟩
    have hz4 := (Kz.refl w3.heap.size F (fun _ => False) W).new hg4 hFW
    have hI4 := hI.stay hg4 fun j e => by cases e
    cases q with
    | false =>
      gi_wp2
      exact ⟨hz4.frm, hz4.kx, ⟨hI4.rev, by rw [hcn]; exact hI4.cnt, hI4.below⟩⟩
    | true =>
      have cn := hI4.cnt.one
      have fn := hI4.cnt.fz 0
      have hF4 : ∀ j, F j → j < w4.heap.size := fun j hj => Nat.lt_of_lt_of_le (hFW j hj) hg4.size
      have hz5 := hz4.set (i := 0) hF4 hI4.cnt hnF (.int .i64 ((countP pre r : Int) + 1))
      have hs4 := hI4.below.size
      gi_wp2
      refine ⟨hz5.frm, hz5.kx, ⟨hI4.rev.other (by show w.heap.size ≠ w.heap.size + 1; omega) _, ?_, hI4.below.setCell (by show w.heap.size ≤ w.heap.size + 1; omega) _⟩⟩
      rw [hcn]
      exact hI4.cnt.set 0 _
  case done =>
    rintro D ys W hD hT hI hK3
    have cn := hI.cnt.one
    have hI2 := hI.stay (grownBy_putObj' W D (.deferred none)) (fun r e => by cases e; exact ⟨by omega, _, hK3, rfl⟩)
    gi_wp2
    refine ⟨by simp, .inl ⟨_, _, rfl, run_takeDeferred hK3, ?_⟩⟩
    exact ⟨_, results_tmp rfl _ _ _, by rw [countP_perm hT.perm]; rfl, hI2.below⟩
  case stop =>
    rintro D c pre W _ _ h _
    exact h.elim
theorem count14_any {w : World} {F : Nat → Prop} {g : Nat} {L : List Sp} {last : Int} (r : Int) (h : Sk w F g L last) (hL : L.length ≤ 100) :
    Calls Try.prog 21 #[.pointer (some ⟨g, 0, none⟩), .int .i64 r] w fun e w' => e = .returned (.int .i64 (countP L r)) ∧ Below w.heap.size w w' := callsIn_wide.1 (count_in 6 (Nat.le_refl _) r h hL)
end Go.Proofs.Ytmdhollegemlhaa
