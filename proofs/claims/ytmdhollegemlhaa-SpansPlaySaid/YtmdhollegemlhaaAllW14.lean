/- Layer 14: all spans told one after another ('all'), whatever the loop's body. Conditions: none. -/
import Derived.RangeFuncNested
import Derived.RangeFuncBound
import Derived.RangeFuncCalls
import Derived.RangeFuncLeaves
import Derived.Shelf.Abstract
import Derived.OwnWalkIn
import Derived.TacticsInMore
import Derived.LoopNIn
import Derived.LoopIn
import Derived.Sort.MapsRangeIn
import Derived.WalkKit
import Derived.Great.BuildSlice
import Derived.Outline
import Derived.Test.YtmdhollegemlhaaMapW14
namespace Go.Proofs.Ytmdhollegemlhaa
open Go.RowKit Go.Shelf
attribute [local go_sem] Oper.semAt_some

/-- What a round leaves: the spans' blocks F, and all maps and iterators but X. -/
structure Kx (F X : Nat → Prop) (W W' : World) : Prop where
  size : W.heap.size ≤ W'.heap.size
  own : ∀ k, F k → W'.heap[k]? = W.heap[k]?
  walk : ∀ (k : Nat) (o : Obj), W.heap[k]? = some o → o.isWalk = true → ¬ X k → W'.heap[k]? = some o
theorem Kx.refl (F X : Nat → Prop) (W : World) : Kx F X W W := ⟨Nat.le_refl _, fun _ _ => rfl, fun _ _ h _ _ => h⟩
theorem Kx.trans {F X : Nat → Prop} {A B C : World} (h : Kx F X A B) (k : Kx F X B C) : Kx F X A C := ⟨Nat.le_trans h.size k.size, fun j hj => (k.own j hj).trans (h.own j hj), fun j o hj ho hx => k.walk j o (h.walk j o hj ho hx) ho hx⟩
/-- A step that turns one block, that is no walk, or one of X. -/
theorem Kx.grown {F X : Nat → Prop} {A B C : World} {row : Option Nat} (h : Kx F X A B) (hg : B.grownBy C row) (hF : ∀ k, F k → k < B.heap.size) (hr : ∀ r, row = some r → ¬ F r ∧ (X r ∨ ∃ o : Obj, B.heap[r]? = some o ∧ o.isWalk = false)) : Kx F X A C :=
  h.trans ⟨hg.size, fun k hk => hg.block k (hF k hk) fun e => (hr k e.symm).1 hk, fun k o hk ho hx => (hg.block k (Array.getElem?_eq_some_iff.1 hk).1 fun e => by
    rcases (hr k e.symm).2 with q | ⟨o2, h2, h3⟩
    · exact hx q
    · rw [hk] at h2
      cases h2
      rw [ho] at h3
      cases h3).trans hk⟩
theorem Kx.below {F X : Nat → Prop} {A B C : World} (h : Kx F X A B) (hb : Below B.heap.size B C) (hF : ∀ k, F k → k < B.heap.size) : Kx F X A C :=
  h.grown (row := none) ⟨hb.os, hb.tape, hb.output, hb.size, fun k hk _ => hb.block k hk⟩ hF fun r e => by cases e
theorem Kx.putObj {F X : Nat → Prop} {M : Nat} (hF : ∀ k, F k → k < M) (W : World) (l : Nat) (o o' : Obj) (hl : M ≤ l) (h1 : W.heap[l]? = some o) (h3 : o.isWalk = false) : Kx F X W (W.putObj l o') :=
  (Kx.refl F X W).trans ⟨(grownBy_putObj' W l o').size, fun k hk => World.putObj_heap_other (by have := hF k hk; omega), fun k o2 hk ho _ => (World.putObj_heap_other fun e => by
    subst e
    rw [hk] at h1
    cases h1
    rw [ho] at h3
    cases h3).trans hk⟩
theorem ranges_same {w w' : World} {b r n cnt : Nat} {D : DataW Value} {left : Lit → Bool} (h : w.ranges Try.prog 9 rawE b r n D left cnt) (hb : w'.heap[b]? = w.heap[b]?) (hr : w'.heap[r]? = w.heap[r]?) : w'.ranges Try.prog 9 rawE b r n D left cnt := by
  obtain ⟨es, clock, since, seen, c0, h1, F, hs, hD, h2, rest⟩ := h
  exact ⟨es, clock, since, seen, c0, hb.trans h1, F, hs, hD, hr.trans h2, rest⟩

/-- A span as it is told: its key, and it. -/
def spEnc (x : Sp) : Array Value := #[.string x.1, .agg #[.int .i64 x.2.1, .int .i64 x.2.2]]
/-- Which keys came so far. -/
structure Coll (L : List Sp) (left : Lit → Bool) (ss : List ByteArray) : Prop where
  nodup : ss.Nodup
  some_ : ∀ k ∈ ss, ofK L k ≠ []
  iff : ∀ k : ByteArray, ofK L k ≠ [] → (k ∈ ss ↔ left (kL k) = false)
/-- What was told is told once more: a telling. -/
def Telling (L ys : List Sp) : Prop := ∃ ks : List ByteArray, ks.Nodup ∧ (∀ x ∈ L, x.1 ∈ ks) ∧ ys = ks.flatMap (withK L)
theorem Telling.perm {L ys : List Sp} (h : Telling L ys) : ys.Perm L := by
  obtain ⟨ks, h1, h2, rfl⟩ := h
  exact told_perm h1 h2
theorem Telling.ofK {L ys : List Sp} (h : Telling L ys) (k : ByteArray) : ofK ys k = ofK L k := by
  obtain ⟨ks, h1, h2, rfl⟩ := h
  exact ofK_told h1 h2 k
theorem Coll.step {L : List Sp} {left : Lit → Bool} {ss : List ByteArray} {k : ByteArray} (h : Coll L left ss) (hk : ofK L k ≠ []) (hl : left (kL k) = true) : Coll L (fun z => left z && !z.sameKey (kL k)) (ss ++ [k]) := by
  have hn : k ∉ ss := fun hm => by rw [(h.iff k hk).1 hm] at hl; cases hl
  refine ⟨List.nodup_append.2 ⟨h.nodup, by simp, fun a ha b hb => by simp at hb; subst hb; exact fun e => hn (e ▸ ha)⟩, fun c hc => ?_, fun c hc => ?_⟩
  · rcases List.mem_append.1 hc with hc | hc
    · exact h.some_ c hc
    · rw [List.mem_singleton] at hc
      rw [hc]
      exact hk
  · rw [kL_same]
    by_cases e : c = k
    · subst e
      simp
    · simp [h.iff c hc, e]
theorem Coll.done {L : List Sp} {left : Lit → Bool} {ss : List ByteArray} (h : Coll L left ss) (hl : ∀ kl, left kl = false) : Telling L (ss.flatMap (withK L)) :=
  ⟨ss, h.nodup, fun x hx => (h.iff x.1 fun e => ofK_none.1 e x hx rfl).2 (hl _), rfl⟩
theorem withK_len (L : List Sp) (k : ByteArray) : (withK L k).length = (ofK L k).length := by unfold withK; rw [List.length_map]
theorem withK_get {L : List Sp} {k : ByteArray} {i : Nat} {y : Iv} (h : (ofK L k)[i]? = some y) : (withK L k)[i]? = some (k, y) := by unfold withK; rw [List.getElem?_map, h]; rfl
/-- Fewer than all came, as long as a key's span is to come. -/
theorem told_short {L : List Sp} {ss : List ByteArray} {k : ByteArray} {i : Nat} (hn : (ss ++ [k]).Nodup) (hi : i < (ofK L k).length) : (ss.flatMap (withK L) ++ (withK L k).take i).length < L.length := by
  have key : ∀ (ks : List ByteArray) (L : List Sp), ks.Nodup → (ks.flatMap (withK L)).length ≤ L.length := by
    intro ks
    induction ks with
    | nil => intro L _; exact Nat.zero_le _
    | cons c ks ih =>
      intro L hn
      obtain ⟨h1, h2⟩ := List.nodup_cons.1 hn
      have e : ks.flatMap (withK L) = ks.flatMap (withK (L.filter fun x => !decide (x.1 = c))) := by
        rw [List.flatMap_def, List.flatMap_def]
        congr 1
        refine List.map_congr_left fun d hd => (withK_filter fun e => h1 (by rw [← e]; exact hd)).symm
      have h3 := ih (L.filter fun x => !decide (x.1 = c)) h2
      have h4 := (List.filter_append_perm (fun x : Sp => decide (x.1 = c)) L).length_eq
      rw [List.length_append] at h4
      rw [List.flatMap_cons, List.length_append, e, withK_eq]
      omega
  have h := key _ L hn
  rw [List.flatMap_append, List.length_append, List.flatMap_cons, List.flatMap_nil, List.append_nil, withK_len] at h
  rw [List.length_append, List.length_take, withK_len]
  omega

theorem key14_inv {v : Value} {kl : Lit} (h : keyOf Try.prog 9 v = some kl) : ∃ k : ByteArray, v = .string k ∧ kl = kL k ∧ k.size ≤ maxLen := by
  unfold keyOf at h
  simp only [Try.underlying9] at h
  unfold mapKey at h
  simp only [Try.underlying9] at h
  cases v <;> simp at h
  obtain ⟨h1, rfl⟩ := h
  exact ⟨_, rfl, rfl, h1⟩

set_option maxRecDepth 100000 in
set_option maxHeartbeats 4000000 in
theorem all_in (n : Nat) (hn : 1 ≤ n) (l Bs g b nn : Nat) (last : Value) (L : List Sp) (V : ByteArray → Value) (F X : Nat → Prop) (J Jx : List Sp → World → Prop) (W : World) (hJ : AbidesFrom W.heap.size J)
    (hBs : W.cell? ⟨Bs, 0, none⟩ = some (.pointer (some ⟨g, 0, none⟩))) (hg : Rk W g #[.map (some b), last] 60) (hM : MapS W 0 b nn (ofK L) V) (hF : ∀ j, (j = b ∨ ∃ k, (V k).ownBlock = some j) → F j) (hFl : ∀ j, F j → j < W.heap.size) (hX : ∀ j, X j → j < W.heap.size) (hsz : ∀ x ∈ L, x.1.size ≤ 40) (hlen : L.length ≤ 1000000)
    (hY : ∀ pre x W1, x ∈ L → J pre W1 → pre.length < L.length → YieldAt Fence.wide (n - 1) Try.prog l (spEnc x) W1 fun e W' =>
      (e = .returned (.bool true) ∧ J (pre ++ [x]) W' ∧ Kx F X W1 W') ∨ (e = .returned (.bool false) ∧ Jx (pre ++ [x]) W'))
    (h0 : J [] W) :
    CallsIn Fence.wide n Try.prog 37 #[.func (.yield l) #[] #[], .pointer (some ⟨Bs, 0, none⟩)] W fun e W' => (∃ v, e = .returned v) ∧
      ((∃ ys, Telling L ys ∧ J ys W') ∨ (∃ pre, True ∧ Jx pre W')) := by
  obtain ⟨D, hown, hat, hhas⟩ := hM.own
  have hrow := hM.row
  have hbF : F b := hF b (.inl rfl)
  have hFr : ∀ k j, (V k).ownBlock = some j → F j := fun k j hj => hF j (.inr ⟨k, hj⟩)
  obtain ⟨g0, g1⟩ := hg.two
  have hlb := hM.lt
  refine callsIn_of_wp Try.func37 rfl trivial ?_ rfl
  simp only [Try.ntmps37, List.size_toArray, List.length_cons, List.length_nil, Nat.reduceAdd, Nat.reduceSub, Array.replicate_succ, Array.replicate_zero, List.push_toArray, List.append_toArray, List.nil_append, List.cons_append]
  gi_wp2_with (first
    | (gi_at_range; refine wpListIn_range_own _ rfl _ 58 rfl 9 62 keyed14 Try.underlying58 _ b nn _ rfl hown ?_; intro w0 hrg0 hg0 hs0)
    | fail)
  go_frame
  have hgF0 : ∀ j, F j → w0.heap[j]? = W.heap[j]? := fun j hj => hg0.block j (hFl j hj) (by simp)
  gi_loopw [3] (fun _ wr => ∃ (left : Lit → Bool) (cnt : Nat) (ss : List ByteArray), wr.ranges Try.prog 9 rawE b W.heap.size nn D left cnt ∧ Coll L left ss ∧ J (ss.flatMap (withK L)) wr ∧ (∀ j, F j → wr.heap[j]? = W.heap[j]?) ∧ W.heap.size < wr.heap.size)
    (fun _ wr => wr.rangeLeft b W.heap.size)
  case atStart =>
    refine ⟨_, _, [], hrg0, ⟨List.nodup_nil, fun _ h => by simp at h, fun k hk => ?_⟩, hJ [] W w0 none h0 hg0 (fun r e => by cases e), hgF0, by omega⟩
    have hkl : k.size ≤ maxLen := by
      obtain ⟨y, hy⟩ := List.exists_mem_of_ne_nil _ hk
      have := hsz _ (mem_ofK.1 hy)
      simp only [maxLen]
      dsimp only at this
      omega
    rw [hhas k hkl]
    simp [hk]
  case round =>
    obtain ⟨left, cnt, ss, hrg, hC, hJs, hFw, hsw⟩ := hrel
    gi_wp2_with (first
      | (gi_at_next; refine wpListIn_next_ranges _ rfl _ rfl 9 keyed14 rawE (id : Value → Value) (id : Value → Value) (fun key _ _ => ⟨key, rfl⟩) (fun v _ _ => ⟨v, rfl⟩) b W.heap.size nn _ _ _ rfl hrg ?_ ?_)
      | fail)
    · intro hc0 hl0
      gi_wp2
      go_end0
      exact ⟨⟨_, rfl⟩, .inl ⟨_, hC.done hl0, hJs⟩⟩
    · intro x c kl yd yp w2 cnt2 hkey hlk hv hat2 hrg2 hlt hg2 hs2 hen
      obtain ⟨k, rfl, rfl, hkl⟩ := key14_inv hkey
      have hcv : c = V k := by
        have h1 := hat2 (.held nilS)
        rw [hat k hkl] at h1
        simp only [rawE, Option.some.injEq, Prod.mk.injEq] at hv
        have h2 := h1.trans hv.1.symm
        simp only [DataW.held.injEq] at h2
        exact h2.symm
      have hk0 : ofK L k ≠ [] := fun e => by
        have h1 := Maps.has_true_of_atKey hat2
        rw [hhas k hkl, e] at h1
        cases h1
      subst hcv
      have hw2F : ∀ j, F j → w2.heap[j]? = W.heap[j]? := fun j hj => (hg2.block j (by have := hFl j hj; omega) (by have := hFl j hj; simp; omega)).trans (hFw j hj)
      have hcell : ∀ W' : World, (∀ j, F j → W'.heap[j]? = W.heap[j]?) → W'.ownsRow 0 64 2 (V k) (ofK L k).length (ics (ofK L k)) := fun W' h => own_keep (hrow k) fun j hj => h j (hFr k j hj)
      have hJ2 : J (ss.flatMap (withK L)) w2 := hJ _ wr w2 (some W.heap.size) hJs hg2 (fun r e => by cases e; exact ⟨Nat.le_refl _, hrg.iter_walk⟩)
      have hnd : (ss ++ [k]).Nodup := (hC.step hk0 hlk).nodup
      obtain ⟨A, cap, hVk, hR0⟩ := Rd.own (hcell W fun _ _ => rfl)
      have hread : ∀ W' : World, (∀ j, F j → W'.heap[j]? = W.heap[j]?) → Rd W' W'.heap.size 2 A (ofK L k).length cap (ics (ofK L k)) := fun W' h => by
        obtain ⟨A', cap', e, hr⟩ := Rd.own (hcell W' h)
        rw [hVk] at e
        injection e with e1 _ e2
        rw [e1, e2]
        exact hr
      have hlenk := ofK_len L k
      rw [hVk] at hen ⊢
      clear hs2 hat2 hv hkey hVk hcell hR0
      gi_wp2
      have hsw2 := hg2.size
      gi_loopw [21] (fun vi wx => ∃ i : Nat, vi = .int .i64 i ∧ i ≤ (ofK L k).length ∧ J (ss.flatMap (withK L) ++ (withK L k).take i) wx ∧ (∀ j, F j → wx.heap[j]? = W.heap[j]?) ∧ wx.heap[W.heap.size]? = w2.heap[W.heap.size]? ∧ W.heap.size < wx.heap.size)
        (fun vi _ => (ofK L k).length - (intOf vi).toNat)
      case atStart => exact ⟨0, rfl, Nat.zero_le _, by rw [List.take_zero, List.append_nil]; exact hJ2, hw2F, rfl, by omega⟩
      case round =>
        obtain ⟨i, rfl, hi, hJi, hFi, hri, hsi⟩ := hrel
        obtain ⟨oi, hoi, hwi⟩ := hrg2.iter_walk
        by_cases hil : i < (ofK L k).length
        · have di : (i : Int) < ((ofK L k).length : Int) := by omega
          obtain ⟨y, hy⟩ : ∃ y, (ofK L k)[i]? = some y := ⟨_, List.getElem?_eq_getElem hil⟩
          obtain ⟨bb, o, rfl, hbb, c0, c1⟩ := rd_iv (hread wr hFi) hy
          obtain ⟨y1, y2⟩ := y
          dsimp only at c0 c1
          have hJ3 := hJ _ wr (wr.alloc (.cells #[.int .i64 y1, .int .i64 y2] 64)) none hJi (World.grownBy_alloc _ _ _) (fun r e => by cases e)
          have hsh := told_short hnd hil
          have htk : (withK L k).take (i + 1) = (withK L k).take i ++ [(k, y1, y2)] := by rw [List.take_add_one, withK_get hy]; rfl
          obtain ⟨fn, tmps, assign, body, hyy, hR⟩ := hY _ (k, y1, y2) _ (mem_ofK.1 (List.mem_of_getElem? hy)) hJ3 hsh
          have hF3 : ∀ j, F j → (wr.alloc (.cells #[.int .i64 y1, .int .i64 y2] 64)).heap[j]? = W.heap[j]? := fun j hj => (Below.heap_alloc _ _ _ (by have := hFl j hj; omega)).trans (hFi j hj)
          have hr3 : (wr.alloc (.cells #[.int .i64 y1, .int .i64 y2] 64)).heap[W.heap.size]? = some oi := (Below.heap_alloc _ _ _ hsi).trans (hri.trans hoi)
          simp only [spEnc] at hyy
          clear hread hy
          gi_wp2
          refine hR.mono ?_
          rintro e W3 (⟨rfl, hJ4, hk4⟩ | ⟨rfl, hJx4⟩)
          · gi_wp2
            go_roundw
            case rel =>
              refine ⟨i + 1, by go_num, by omega, by rw [htk, ← List.append_assoc]; exact hJ4, fun j hj => (hk4.own j hj).trans (hF3 j hj), (hk4.walk _ _ hr3 hwi fun q => by have := hX _ q; omega).trans hoi.symm, ?_⟩
              have := hk4.size
              simp at this
              omega
            case measure => simp [intOf]; omega
          · gi_wp2
            refine bodyPost_ret (results_none rfl _ _ _) rfl ?_
            exact ⟨⟨_, rfl⟩, .inr ⟨_, trivial, hJx4⟩⟩
        · obtain rfl : i = (ofK L k).length := by omega
          have di : ¬ (((ofK L k).length : Nat) : Int) < ((ofK L k).length : Int) := by omega
          have hrgx : wr.ranges Try.prog 9 rawE b W.heap.size nn D (fun z => left z && !z.sameKey (kL k)) cnt2 := ranges_same hrg2 ((hFi b hbF).trans (hw2F b hbF).symm) hri
          rw [List.take_of_length_le (by rw [withK_len]; exact Nat.le_refl _)] at hJi
          clear hread
          gi_wp2
          go_roundw
          case rel => exact ⟨_, cnt2, ss ++ [k], hrgx, hC.step hk0 hlk, by rw [List.flatMap_append, List.flatMap_cons, List.flatMap_nil, List.append_nil]; exact hJi, hFi, hsi⟩
          case measure => rw [hrgx.left_eq, hrg.left_eq]; exact hlt

/-- 'all' hands back the function that tells; its pointer lies in a box. -/
theorem all_any (p : Option Addr) (w : World) : Calls Try.prog 28 #[.pointer p] w fun e w' => e = .returned (.func (.func 37) #[] #[.pointer (some ⟨w.heap.size, 0, none⟩)]) ∧ w' = w.alloc (.cells #[.pointer p] 26) := by
  go_enter Try.func28, Try.ntmps28
  go_wp2
  go_ret
  exact ⟨rfl, rfl⟩
theorem all_stop (n : Nat) (hn : 1 ≤ n) {w : World} {Bs g : Nat} {L : List Sp} {last : Int} {F X : Nat → Prop} (h : Sk w F g L last) (hX : ∀ j, X j → j < w.heap.size) (hlen : L.length ≤ 1000000)
    (hBs : w.cell? ⟨Bs, 0, none⟩ = some (.pointer (some ⟨g, 0, none⟩))) :
    SeqStopsK Fence.wide n Try.prog 37 #[.pointer (some ⟨Bs, 0, none⟩)] spEnc (Kx F X) (Telling L) (fun _ => True) L.length w := fun l J Jx W hW hJ _ hY h0 => by
  have hFl := h.lt
  have h' := h.keep (w' := W) fun b hb => hW.block b (hFl b hb)
  obtain ⟨b, V, h1, h2, h3, h4⟩ := h'
  exact all_in n hn l Bs g b _ _ L V F X J Jx W hJ ((hW.cell (p := ⟨Bs, 0, none⟩) (World.block_lt_of_cell? w _ hBs)).trans hBs) h2 h3 (fun j hj => (h1 j).2 (Or.inr hj)) (fun j hj => Nat.lt_of_lt_of_le (hFl j hj) hW.size) (fun j hj => Nat.lt_of_lt_of_le (hX j hj) hW.size) h4 hlen (fun pre x W1 _ => hY pre x W1) h0
/-- The same, where the body is told that what comes is one of the spans. -/
theorem all_stopM (n : Nat) (hn : 1 ≤ n) {w : World} {Bs g : Nat} {L : List Sp} {last : Int} {F X : Nat → Prop} (h : Sk w F g L last) (hX : ∀ j, X j → j < w.heap.size) (hlen : L.length ≤ 1000000)
    (hBs : w.cell? ⟨Bs, 0, none⟩ = some (.pointer (some ⟨g, 0, none⟩))) :
    SeqStopsK Fence.wide n Try.prog 37 #[.pointer (some ⟨Bs, 0, none⟩)] (fun x : { x : Sp // x ∈ L } => spEnc x.1) (Kx F X) (fun ys => Telling L (ys.map (·.1))) (fun _ => True) L.length w := fun l J Jx W hW hJ _ hY h0 => by
  have hFl := h.lt
  have h' := h.keep (w' := W) fun b hb => hW.block b (hFl b hb)
  obtain ⟨b, V, h1, h2, h3, h4⟩ := h'
  refine (all_in n hn l Bs g b _ _ L V F X (fun pre W => ∃ p : List { x : Sp // x ∈ L }, p.map (·.1) = pre ∧ J p W) (fun pre W => ∃ p : List { x : Sp // x ∈ L }, p.map (·.1) = pre ∧ Jx p W) W
    (fun s A B row hs hg hr => by obtain ⟨p, e, hp⟩ := hs; exact ⟨p, e, hJ p A B row hp hg hr⟩) ((hW.cell (p := ⟨Bs, 0, none⟩) (World.block_lt_of_cell? w _ hBs)).trans hBs) h2 h3 (fun j hj => (h1 j).2 (Or.inr hj)) (fun j hj => Nat.lt_of_lt_of_le (hFl j hj) hW.size) (fun j hj => Nat.lt_of_lt_of_le (hX j hj) hW.size) h4 hlen ?_ ⟨[], rfl, h0⟩).mono ?_
  · rintro pre x W1 hx ⟨p, e, hp⟩ hl
    refine (hY p ⟨x, hx⟩ W1 hp (by rw [← e, List.length_map] at hl; exact hl)).mono ?_
    rintro r w' (⟨q1, q2, q3⟩ | ⟨q1, q2⟩)
    · exact .inl ⟨q1, ⟨p ++ [⟨x, hx⟩], by rw [List.map_append, e]; rfl, q2⟩, q3⟩
    · exact .inr ⟨q1, ⟨p ++ [⟨x, hx⟩], by rw [List.map_append, e]; rfl, q2⟩⟩
  · rintro r w' ⟨q0, (⟨ys, q1, p, e, hp⟩ | ⟨pre, _, p, e, hp⟩)⟩
    · exact ⟨q0, .inl ⟨p, by show Telling L (p.map (·.1)); rw [e]; exact q1, hp⟩⟩
    · exact ⟨q0, .inr ⟨p, trivial, hp⟩⟩
end Go.Proofs.Ytmdhollegemlhaa
