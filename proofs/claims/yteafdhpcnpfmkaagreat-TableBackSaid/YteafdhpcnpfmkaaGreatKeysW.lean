/- Layer 10: the keys of a map of edges told one after another (maps.Keys), whatever the loop's body. Conditions: none. -/
import Derived.RangeFuncNested
import Derived.RangeFuncBound
import Derived.RangeFuncCalls
import Derived.RangeFuncLeaves
import Derived.Shelf.Abstract
import Derived.OwnWalkIn
import Derived.TacticsInMore
import Derived.LoopNIn
import Derived.LoopIn
import Derived.Maps.Range
import Derived.Sort.MapsRangeIn
import Derived.WalkKit
import Derived.Test.YteafdhpcnpfmkaaGreatKeyW
import Derived.Great.BuildSlice
import Derived.Outline
import Derived.Test.YteafdhpcnpfmkaaGreatRingsW
namespace Go.Proofs.YteafdhpcnpfmkaaGreat
open Go.RowKit Go.Maps Go.Shelf
attribute [local go_sem] Oper.semAt_some

def edgeV (e : Ed) : Value := .agg (ecell e).toArray
/-- Its numbers are such as int holds. -/
def Fits (e : Ed) : Prop := (Lit.int .i64 e.1).wf = true ∧ (Lit.int .i64 e.2.1).wf = true
theorem key_fits {e : Ed} (h : Fits e) : keyOf Tryz.prog 117 (edgeV e) = some (kE e) := key_edge h.1 h.2
/-- A map whose keys are these edges. -/
structure KeysAre {H : Type} (D0 : DataW H) (L : List Ed) : Prop where
  fits : ∀ e ∈ L, Fits e
  nodup : L.Nodup
  mem : ∀ e ∈ L, has D0 (kE e) = true
  only : ∀ kl, has D0 kl = true → ∃ e ∈ L, kE e = kl
/-- What came so far, while a range is under way. -/
structure CollE (L : List Ed) (left : Lit → Bool) (ss : List Ed) : Prop where
  nodup : ss.Nodup
  mem : ∀ x ∈ ss, x ∈ L
  iff : ∀ x ∈ L, x ∈ ss ↔ left (kE x) = false
theorem CollE.start {H : Type} {D0 : DataW H} {L : List Ed} (h : KeysAre D0 L) : CollE L (has D0) [] := ⟨List.nodup_nil, fun _ h => by simp at h, fun x hx => by simp [h.mem x hx]⟩
theorem CollE.step {H : Type} {D0 : DataW H} {L ss : List Ed} {left : Lit → Bool} (hK : KeysAre D0 L) (h : CollE L left ss) {x : Ed} (hx : x ∈ L) (hl : left (kE x) = true) : CollE L (fun z => left z && !z.sameKey (kE x)) (ss ++ [x]) := by
  have hn : x ∉ ss := fun hm => by rw [(h.iff x hx).1 hm] at hl; cases hl
  refine ⟨List.nodup_append.2 ⟨h.nodup, by simp, fun a ha b hb => by simp at hb; subst hb; exact fun e => hn (e ▸ ha)⟩, fun y hy => ?_, fun y hy => ?_⟩
  · rcases List.mem_append.1 hy with hy | hy
    · exact h.mem y hy
    · simp at hy; exact hy ▸ hx
  · by_cases e : y = x
    · subst e
      simp [kE, Lit.sameKey]
    · have hne : kE y ≠ kE x := fun e2 => e (kE_inj (hK.fits y hy).1 (hK.fits y hy).2 (hK.fits x hx).1 (hK.fits x hx).2 e2)
      have hs : (kE y).sameKey (kE x) = false := by
        simp only [kE, Lit.sameKey, beq_eq_false_iff_ne, ne_eq]
        exact fun e2 => hne (by simp only [kE]; rw [e2])
      simp [h.iff y hy, hs, e]
theorem CollE.perm {L ss : List Ed} {left : Lit → Bool} (h : CollE L left ss) (hn : L.Nodup) (hl : ∀ kl, left kl = false) : ss.Perm L :=
  (List.perm_ext_iff_of_nodup h.nodup hn).2 fun x => ⟨h.mem x, fun hx => (h.iff x hx).2 (hl _)⟩
theorem CollE.short {L ss : List Ed} {left : Lit → Bool} (h : CollE L left ss) (hL : L.Nodup) {x : Ed} (hx : x ∈ L) (hl : left (kE x) = true) : ss.length < L.length := by
  have hn : x ∉ ss := fun hm => by rw [(h.iff x hx).1 hm] at hl; cases hl
  have hp : (L.filter fun y => decide (y ∈ x :: ss)).Perm (x :: ss) := (List.perm_ext_iff_of_nodup (hL.filter _) (List.nodup_cons.2 ⟨hn, h.nodup⟩)).2 fun y => by
    rw [List.mem_filter, decide_eq_true_eq]
    refine ⟨fun h2 => h2.2, fun h2 => ⟨?_, h2⟩⟩
    rcases List.mem_cons.1 h2 with rfl | h2
    · exact hx
    · exact h.mem y h2
  have h1 := hp.length_eq
  have h2 := List.length_filter_le (fun y => decide (y ∈ x :: ss)) L
  rw [List.length_cons] at h1
  omega

set_option maxRecDepth 100000 in
set_option maxHeartbeats 2000000 in
theorem keys_in {H : Type} {R : Value → Option (DataW H × List MemPlace)} {D0 : DataW H} {L : List Ed} (hK : KeysAre D0 L) (n : Nat) (hn : 1 ≤ n) (l Bm b nn : Nat) (J Jx : List Ed → World → Prop) (W : World) (hJ : AbidesFrom W.heap.size J)
    (hm : W.cell? ⟨Bm, 0, none⟩ = some (.map (some b))) (hown : W.ownsMap Tryz.prog 117 R b nn D0)
    (hY : ∀ pre x W1, J pre W1 → pre.length < L.length → YieldAt Fence.wide (n - 1) Tryz.prog l #[edgeV x] W1 fun e W' =>
      (e = .returned (.bool true) ∧ J (pre ++ [x]) W' ∧ KeepsWalks W1 W') ∨ (e = .returned (.bool false) ∧ Jx (pre ++ [x]) W'))
    (h0 : J [] W) :
    CallsIn Fence.wide n Tryz.prog 100 #[.func (.yield l) #[] #[], .pointer (some ⟨Bm, 0, none⟩)] W fun e W' => (∃ v, e = .returned v) ∧
      ((∃ ys, ys.Perm L ∧ J ys W') ∨ (∃ pre, True ∧ Jx pre W')) := by
  refine callsIn_of_wp Tryz.func100 rfl trivial ?_ rfl
  simp only [Tryz.ntmps100, List.size_toArray, List.length_cons, List.length_nil, Nat.reduceAdd, Nat.reduceSub, Array.replicate_succ, Array.replicate_zero, List.push_toArray, List.append_toArray, List.nil_append, List.cons_append]
  gi_wp2_with (first
    | (gi_at_range; refine wpListIn_range_own _ rfl _ 129 rfl 117 134 keyedE Tryz.underlying129 _ b nn _ rfl hown ?_; intro w0 hrg0 hg0 hs0)
    | fail)
  go_frame
  gi_loopw [3] (fun _ wr => ∃ (left : Lit → Bool) (cnt : Nat) (ss : List Ed), wr.ranges Tryz.prog 117 R b W.heap.size nn D0 left cnt ∧ CollE L left ss ∧ J ss wr)
    (fun _ wr => wr.rangeLeft b W.heap.size)
  case atStart =>
    exact ⟨_, _, [], hrg0, CollE.start hK, hJ [] W w0 none h0 hg0 (fun r e => by cases e)⟩
  case round =>
    obtain ⟨left, cnt, ss, hrg, hC, hJs⟩ := hrel
    gi_wp2_with (first
      | (gi_at_next; refine wpListIn_next_ranges _ rfl _ rfl 117 keyedE R (id : Value → Value) (id : Value → Value) (fun key _ _ => ⟨key, rfl⟩) (fun v _ _ => ⟨v, rfl⟩) b W.heap.size nn _ _ _ rfl hrg ?_ ?_)
      | fail)
    · intro hc0 hl0
      gi_wp2
      go_end0
      exact ⟨⟨_, rfl⟩, .inl ⟨ss, hC.perm hK.nodup hl0, hJs⟩⟩
    · intro x c kl yd yp w2 cnt2 hkey hlk hv hat hrg2 hlt hg2 hs2 hen
      obtain ⟨e, heL, rfl⟩ := hK.only kl (has_true_of_atKey hat)
      obtain rfl : x = edgeV e := keyedE.inj hkey (key_fits (hK.fits e heL))
      have hJ2 : J ss w2 := hJ ss wr w2 (some W.heap.size) hJs hg2 (fun r e => by cases e; exact ⟨Nat.le_refl _, hrg.iter_walk⟩)
      have hJ3 : J ss (w2.alloc (.cells (ecell e).toArray 117)) := hJ ss w2 _ none hJ2 (World.grownBy_alloc _ _ _) (fun r e => by cases e)
      have hrg3 := hrg2.of_walks (KeepsWalks.alloc w2 (.cells (ecell e).toArray 117))
      obtain ⟨fn, tmps, assign, body, hy, hR⟩ := hY ss e _ hJ3 (hC.short hK.nodup heL hlk)
      clear hs2
      obtain ⟨e1, e2, e3⟩ := e
      simp only [edgeV, ecell] at *
      gi_wp2
      refine hR.mono ?_
      rintro r W3 (⟨rfl, hJ4, hk3⟩ | ⟨rfl, hJx3⟩)
      · gi_wp2
        have hrg4 := hrg3.of_walks hk3
        go_roundw
        case rel => exact ⟨_, cnt2, ss ++ [(e1, e2, e3)], hrg4, hC.step hK heL hlk, hJ4⟩
        case measure => rw [hrg4.left_eq, hrg.left_eq]; exact hlt
      · gi_wp2
        refine bodyPost_ret (results_none rfl _ _ _) rfl ?_
        exact ⟨⟨_, rfl⟩, .inr ⟨_, trivial, hJx3⟩⟩

theorem keys_stop {H : Type} {R : Value → Option (DataW H × List MemPlace)} {D0 : DataW H} {L : List Ed} (hK : KeysAre D0 L) (n : Nat) (hn : 1 ≤ n) (Bm b nn : Nat) (w : World)
    (hm : w.cell? ⟨Bm, 0, none⟩ = some (.map (some b))) (hown : w.ownsMap Tryz.prog 117 R b nn D0) :
    SeqStopsK Fence.wide n Tryz.prog 100 #[.pointer (some ⟨Bm, 0, none⟩)] (fun e : Ed => #[edgeV e]) KeepsWalks (fun ys => ys.Perm L) (fun _ => True) L.length w := fun l J Jx W hW hJ _ hY h0 => by
  have hown' : W.ownsMap Tryz.prog 117 R b nn D0 := by
    have hbl := hown.lt
    obtain ⟨es, clock, hb, Ft, hs, hD⟩ := hown
    exact ⟨es, clock, (hW.block b hbl).trans hb, Ft, hs, hD⟩
  exact keys_in hK n hn l Bm b nn J Jx W hJ ((hW.cell (p := ⟨Bm, 0, none⟩) (World.block_lt_of_cell? w _ hm)).trans hm) hown' hY h0

theorem keys_any (m : Option Nat) (w : World) : Calls Tryz.prog 58 #[.map m] w fun e w' =>
    e = .returned (.func (.func 100) #[] #[.pointer (some ⟨w.heap.size, 0, none⟩)]) ∧ w' = w.alloc (.cells #[.map m] 129) := by
  go_enter Tryz.func58, Tryz.ntmps58
  go_wp2
  go_ret
  exact ⟨rfl, rfl⟩
end Go.Proofs.YteafdhpcnpfmkaaGreat
/- Layer 10: the keys of a map of edges gathered (slices.AppendSeq, slices.Collect). Conditions: no more than a million. -/
namespace Go.Proofs.YteafdhpcnpfmkaaGreat
open Go.RowKit Go.Shelf Go.Maps
attribute [local go_sem] Oper.semAt_some

/-- What the rounds keep: Bs holds what came so far. -/
structure ApI (w0 : World) (Bs : Nat) (pre : List Ed) (W : World) : Prop where
  one : ∃ v, Bk W Bs #[v] 78 ∧ W.ownsRow w0.heap.size 117 3 v pre.length (ecells pre)
  below : Below w0.heap.size w0 W
theorem ApI.stay {w0 X Y : World} {Bs : Nat} {pre : List Ed} {row : Option Nat} (h : ApI w0 Bs pre X) (hg : X.grownBy Y row) (hr : ∀ r, row = some r → w0.heap.size ≤ r ∧ ∃ o : Obj, X.heap[r]? = some o ∧ o.isCells = false) : ApI w0 Bs pre Y := by
  obtain ⟨⟨v, h1, h2⟩, h3⟩ := h
  have hr' : ∀ r, row = some r → ∃ o : Obj, X.heap[r]? = some o ∧ o.isCells = false := fun r e => (hr r e).2
  exact ⟨⟨v, h1.stay hg hr', own_stay h2 hg hr'⟩, h3.grown hg h3.size fun r e => (hr r e).1⟩

theorem own_cells {w : World} {B e s n : Nat} {v : Value} {xs : List Value} (h : w.ownsRow B e s v n xs) : ∀ (j : Nat) (o : Obj), v.ownBlock = some j → w.heap[j]? = some o → o.isCells = true := fun j o hj ho => by
  rcases h.2 with ⟨rfl, _⟩ | ⟨g2, cap2, cur2, rfl, _, hh2, _⟩
  · simp [Value.ownBlock] at hj
  simp only [Value.ownBlock, Option.some.injEq] at hj
  subst hj
  rw [hh2] at ho
  cases ho
  rfl
theorem news_edge (W : World) (e : Ed) : ∀ j u, (ecell e)[j]? = some u → (W.alloc (.cells (ecell e).toArray 117)).cell? (Addr.add ⟨W.heap.size, 0, none⟩ j) = some u := fun j u h => by
  have := (Bk.new W (ecell e).toArray 117).cell j
  rw [List.getElem?_toArray, h] at this
  rw [← this]
  by_cases h0 : j = 0
  · subst h0
    rfl
  · simp [Addr.add, h0]
theorem app_done {w0 W w5 : World} {Bs : Nat} {pre : List Ed} {x : Ed} {v v9 : Value} (o : Obj) (hBs : w0.heap.size ≤ Bs) (h1 : Bk W Bs #[v] 78) (h2 : W.ownsRow w0.heap.size 117 3 v pre.length (ecells pre)) (h3 : Below w0.heap.size w0 W)
    (hg : (W.alloc o).grownBy w5 v.ownBlock) (h5 : w5.ownsRow w0.heap.size 117 3 v9 (pre.length + 1) (ecells pre ++ ecell x)) :
    KeepsOthers W (w5.setCell ⟨Bs, 0, none⟩ v9) ∧ ApI w0 Bs (pre ++ [x]) (w5.setCell ⟨Bs, 0, none⟩ v9) := by
  have hb5 : Bk w5 Bs #[v] 78 := bk_grown (h1.alloc o) (h2.alloc o) (by decide) hg
  refine ⟨((KeepsOthers.alloc W o).trans (KeepsOthers.of_grownBy hg (own_cells (h2.alloc o)))).trans (KeepsOthers.setCell _ _ _), ⟨v9, ?_, ?_⟩, ?_⟩
  · have := hb5.set 0 v9
    simpa using this
  · rw [List.length_append, ecells_app]
    have e : ecells [x] = ecell x := by simp [ecells]
    rw [e]
    exact own_same h5 fun g hg2 => Below.heap_setCell _ _ _ _ fun e => own_ne hb5 h5 (by decide) ((show g = Bs from e) ▸ hg2)
  · exact (below_of_own (h3.alloc h3.size o) hg (h2.alloc o) (size_alloc h3.size) (Nat.le_refl _)).setCell hBs _

set_option maxRecDepth 100000 in
set_option maxHeartbeats 2000000 in
theorem appendSeq_in (m : Nat) (hm : 4 ≤ m) {H : Type} {R : Value → Option (DataW H × List MemPlace)} {D0 : DataW H} {L : List Ed} (hK : KeysAre D0 L) (hL : L.length ≤ 1000000) (Bm b nn : Nat) (w : World)
    (hmm : w.cell? ⟨Bm, 0, none⟩ = some (.map (some b))) (hown : w.ownsMap Tryz.prog 117 R b nn D0) :
    CallsIn Fence.wide m Tryz.prog 135 #[.slice none 0 0, .func (.func 100) #[] #[.pointer (some ⟨Bm, 0, none⟩)]] w fun e w' =>
      ∃ v ys, e = .returned v ∧ ys.Perm L ∧ w'.ownsRow w.heap.size 117 3 v ys.length (ecells ys) ∧ Below w.heap.size w w' := by
  obtain ⟨i0, hi0, hz0, hz1, hz2⟩ := info_parts info_edge
  refine callsIn_of_wp_marks Tryz.func135 rfl trivial ?_ rfl
  simp only [Tryz.ntmps135, List.size_toArray, List.length_cons, List.length_nil, Nat.reduceAdd, Nat.reduceSub, Array.replicate_succ, Array.replicate_zero, List.push_toArray, List.append_toArray, List.nil_append, List.cons_append]
  gi_wp2
  have hseq := keys_stop hK (m - 1) (by omega) Bm b nn w hmm hown
  have hb0 : Below w.heap.size w (w.alloc (.cells #[.slice none 0 0] 78)) := (Below.refl _ w).alloc (Nat.le_refl _) _
  have x2 := Bk.new w #[.slice none 0 0] 78
  have hs0 : (w.alloc (.cells #[.slice none 0 0] 78)).heap.size = w.heap.size + 1 := by simp
  generalize w.alloc (.cells #[.slice none 0 0] 78) = w2 at *
  refine wpIn_rangeFunc_ownH (w0 := w) rfl (by omega) (gf := 100) (lb := #[.pointer (some ⟨Bm, 0, none⟩)]) rfl trivial (enters_of Tryz.func100 (by kernel_rfl) rfl)
    hseq (fun h k => h.trans k) (fun W l o o' _ h2 _ h4 => KeepsWalks.putObj o' h2 h4) hb0 (fun _ => rfl)
    (ApI w w.heap.size)
    (fun _ _ _ => False)
    (fun pre X Y row hI hg hr => hI.stay hg (fun r e => ⟨by have := (hr r e).1; omega, (hr r e).2⟩))
    (fun _ _ _ _ _ hs _ _ => hs)
    ⟨⟨_, x2, World.ownsRow_nil _ _ _ _⟩, hb0⟩
    (fun x a' W => ∃ g, Bk W g (ecell x).toArray 117 ∧ a' = { tmps := #[.slice none 0 0, .func (.func 100) #[] #[.pointer (some ⟨Bm, 0, none⟩)], .pointer (some ⟨w.heap.size, 0, none⟩), undef, .slice none 0 0, .pointer (some ⟨g, 0, none⟩), .func (.func 100) #[] #[.pointer (some ⟨Bm, 0, none⟩)], edgeV x, undef, undef, undef, undef, undef], defers := [] })
    (fun x a' _ X Y row hs hg hr => by
      obtain ⟨g, h1, h2⟩ := hs
      exact ⟨g, h1.stay hg (fun r e => (hr r e).2), h2⟩)
    ?assign ?body ?done ?stop
  case assign =>
    intro l2 pre x W K hI hK2
    obtain ⟨e1, e2, e3⟩ := x
    simp only [edgeV, ecell] at *
    gi_wp2
    exact hK2 _ _ ((KeepsOthers.alloc _ _).from _) (KeepsWalks.alloc _ _) (hI.stay (World.grownBy_alloc _ _ none) (fun r e => by cases e)) ⟨_, Bk.new W _ _, rfl⟩
  case body =>
    rintro l2 pre x a' W hl2 ⟨r, hr⟩ hI ⟨g, hx, rfl⟩ hlt
    obtain ⟨⟨v, h1, h2⟩, h3⟩ := hI
    have hx0 := hx.cell 0
    have hx1 := hx.cell 1
    have hx2 := hx.cell 2
    have hne := news_edge W x
    have hone := ecell_one x
    have hdn := @app_done w W
    obtain ⟨A, c, rfl, _⟩ := Rd.own h2
    have c2 := h1.cell'
    obtain ⟨e1, e2, e3⟩ := x
    simp only [edgeV, ecell, List.getElem?_toArray, List.getElem?_cons_zero, List.getElem?_cons_succ] at *
    gi_wp2_with (gi_at_builtin; refine wpListIn_append_own _ rfl (.tmp 8) (.tmp 10) 78 rfl w.heap.size 117 i0 (.agg #[.int .i64 0, .int .i64 0, .bool false]) 3 24 Tryz.underlying78 hi0 hz0 hz1 hz2 rfl (by decide) _ pre.length (ecells pre) rfl (h2.alloc _) ⟨W.heap.size, 0, none⟩ 1 1 [.int .i64 e1, .int .i64 e2, .bool e3] rfl rfl hne hone (by simp only [maxLen]; omega) (by omega) (size_alloc h3.size) ?_; intro v9 w5 hown5 hg5 _; obtain ⟨q1, q2⟩ := app_done (x := (e1, e2, e3)) _ (Nat.le_refl _) h1 h2 h3 hg5 hown5; have hb5 := bk_grown (h1.alloc _) (h2.alloc _) (by decide) hg5; obtain ⟨A9, c9, rfl, _⟩ := Rd.own hown5; have f5 := hb5.fz 0; have c5 := hb5.cell')
    exact ⟨q1.from _, q1.walks, q2⟩
  case done =>
    rintro D ys W hD hp hI hK3
    have hI2 := hI.stay (grownBy_putObj' W D (.deferred none)) (fun r e => by cases e; exact ⟨by omega, _, hK3, rfl⟩)
    obtain ⟨⟨v, h1, h2⟩, h3⟩ := hI
    have c2 := h1.cell'
    obtain ⟨⟨v', h1', h2'⟩, h3'⟩ := hI2
    obtain rfl : v = v' := Option.some.inj ((h1.stay (grownBy_putObj' W D (.deferred none)) (fun r e => by cases e; exact ⟨_, hK3, rfl⟩)).cell'.symm.trans h1'.cell')
    gi_wp2
    refine ⟨by simp, .inl ⟨_, _, rfl, run_takeDeferred hK3, ?_⟩⟩
    exact ⟨_, results_tmp rfl _ _ _, v, ys, rfl, hp, h2', h3'⟩
  case stop =>
    rintro D c pre W _ _ h _
    exact h.elim
end Go.Proofs.YteafdhpcnpfmkaaGreat
