/- Layer 4: head and add, called. Conditions: none but for sizes of up to a million. -/
import Derived.Test.YtgppaompcnllbaaLog
import Derived.StillTailTactics
import Derived.Deep.DeepMust
namespace Go.Proofs.Ytgppaompcnllbaa
open Go.RowKit

set_option maxRecDepth 100000 in
set_option maxHeartbeats 1000000 in
theorem head_any {L : Nat → Prop} {w : World} {g b : Nat} {t : LSt} (h : Lg L w g b t) (n : Nat) (hn : n ≤ 1000000) : Calls Try.prog 47 #[.pointer (some ⟨g, 0, none⟩), .int .i64 n] w fun e w' => e = .returned (.agg #[.int .u64 t.epoch, .int .u64 t.recs.length, .int .u64 n]) ∧ Below w.heap.size w w' := by
  obtain ⟨rv, rows, h⟩ := h
  have c3 := h.c3
  have c4 := h.c4
  have hf := h.ok.few
  have hm := h.ok.most
  have hl := h.ok.le
  have hgs := h.size g h.hg
  obtain ⟨A, c, rfl, _⟩ := Rd.own h.row
  have hz : (n : Int) ≤ 1000000 := by omega
  have hz2 : (t.recs.length : Int) ≤ 65536 := by omega
  go_enter Try.func47, Try.ntmps47
  go_wp2
  refine wp_region_still_tail 13 (by kernel_rfl) (by kernel_rfl) ?_
  change wpStill _ _ (World.drew _) _ _ _
  simp only [List.take_succ_cons, List.take_zero, List.drop_succ_cons, List.drop_zero]
  repeat still_step
  refine wpStill_nil ?_
  change wpList _ _ _ _ _ (World.drew _)
  go_wp2
  refine bodyPost_ret (v := .agg #[.int .u64 t.epoch, .int .u64 t.recs.length, .int .u64 n]) (by simp [results, Try.results47, go_sem]; try rfl) rfl ?_
  exact ⟨rfl, ((Below.refl _ _).alloc (Nat.le_refl _) _).drew⟩

/-- A log that a record more has been added to. -/
def LSt.add (t : LSt) (b : List UInt8) : LSt := { t with next := t.next + szN b.length, recs := t.recs ++ [b] }
theorem szN_two (n : Nat) : 1 ≤ szN n := szN_pos n
theorem LSt.Ok.add {t : LSt} (h : t.Ok) {b : List UInt8} (hb : b.length ≤ 4096) (hr : t.next + szN b.length ≤ t.to) : (t.add b).Ok :=
  ⟨hr, h.most, h.epoch, by show (t.recs ++ [b]).length ≤ t.next + szN b.length; rw [List.length_append, List.length_singleton]; have := h.few; have := szN_pos b.length; omega,
    fun r hr => by
      rcases List.mem_append.1 hr with hr | hr
      · exact h.sz r hr
      · simp at hr; subst hr; exact hb⟩
/-- What add leaves. -/
theorem add_done {L : Nat → Prop} {w w1 w2 : World} {g b : Nat} {t : LSt} {rv v1 : Value} {rows : List Rw} {x : Rw} (h : LgAt L w g b t rv rows) (hx : Rd w w.heap.size 1 x.A x.b.length x.c (bv x.b)) (hxi : 0 < x.b.length → ∀ q o, x.A = some ⟨q, o, none⟩ → L q ∧ q ≠ g ∧ rv.ownBlock ≠ some q)
    (hb : x.b.length ≤ 4096) (hr : t.next + szN x.b.length ≤ t.to)
    (hown : w1.ownsRow 0 36 1 v1 (t.recs.length + 1) (rows.map rwCell ++ [rwCell x])) (o : Obj) (hg : (w.alloc o).grownBy w1 rv.ownBlock) (hat : v1.ownBlock = rv.ownBlock ∨ v1.ownBlock = some (w.alloc o).heap.size)
    (hw2 : w2 = ((w1.setCell ⟨g, 4, none⟩ v1).drew.setCell ⟨g, 1, none⟩ (.int .i64 (t.next + szN x.b.length : Nat)))) :
    Lg (Grow L w w2) w2 g b (t.add x.b) ∧ Ks L w w2 := by
  have hs0 : w.heap.size ≤ w1.heap.size := Nat.le_trans (by simp) hg.size
  have hs2 : w2.heap.size = w1.heap.size := by subst hw2; simp [World.setCell, World.drew]
  have hgs := h.size g h.hg
  have hold : ∀ k, k < w.heap.size → some k ≠ rv.ownBlock → w1.heap[k]? = w.heap[k]? := fun k h1 h2 => (hg.block k (by simp; omega) h2).trans (Below.heap_alloc _ _ _ h1)
  have hoth : ∀ k, k ≠ g → w2.heap[k]? = w1.heap[k]? := fun k hk => by
    subst hw2
    exact (Below.heap_setCell _ ⟨g, 1, none⟩ _ k hk).trans (Below.heap_setCell w1 ⟨g, 4, none⟩ _ k hk)
  have hgg : w1.heap[g]? = w.heap[g]? := hold g hgs (fun e => h.rg e.symm)
  have hrl : rows.length = t.recs.length := by rw [← h.recs, List.length_map]
  have hvne : v1.ownBlock ≠ some g := by
    rcases hat with e | e
    · rw [e]; exact h.rg
    · rw [e]; simp; omega
  have hrd : ∀ (r : Rw), Rd w w.heap.size 1 r.A r.b.length r.c (bv r.b) → (0 < r.b.length → ∀ q o, r.A = some ⟨q, o, none⟩ → L q ∧ q ≠ g ∧ rv.ownBlock ≠ some q) → Rd w2 w2.heap.size 1 r.A r.b.length r.c (bv r.b) := fun r h1 h2 =>
    rd_same h1 (by omega) fun hn q o e => by
      obtain ⟨h3, h4, h5⟩ := h2 hn q o e
      exact (hoth q h4).trans (hold q (h.size q h3) (fun e => h5 e.symm))
  have hin : ∀ (r : Rw), (0 < r.b.length → ∀ q o, r.A = some ⟨q, o, none⟩ → L q ∧ q ≠ g ∧ rv.ownBlock ≠ some q) → (0 < r.b.length → ∀ q o, r.A = some ⟨q, o, none⟩ → Grow L w w2 q ∧ q ≠ g ∧ v1.ownBlock ≠ some q) := fun r h2 hn q o e => by
    obtain ⟨h3, h4, h5⟩ := h2 hn q o e
    refine ⟨.inl h3, h4, fun e2 => ?_⟩
    rcases hat with e3 | e3
    · exact h5 (e3.symm.trans e2)
    · rw [e3] at e2
      have := h.size q h3
      simp at e2
      omega
  refine ⟨⟨v1, rows ++ [x], ⟨h.ok.add hb hr, fun k e => ?_, .inl h.hg, fun q e => ?_, hvne, ?_, ?_, ?_, fun r hr => ?_, fun r hr => ?_⟩⟩, ?_⟩
  · rcases e with e | e
    · have := h.size k e; omega
    · exact e.2
  · rcases hat with e3 | e3
    · exact .inl (h.hr q (e3.symm.trans e))
    · rw [e3] at e
      cases e
      have := (hown.lt _ e3).2
      exact .inr ⟨by simp, by omega⟩
  · rw [hw2]
    exact heap_setCell_same (w1.setCell ⟨g, 4, none⟩ v1).drew g 1 _ _ _ (heap_setCell_same w1 g 4 _ _ v1 (hgg.trans h.cells))
  · have : (rows ++ [x]).map rwCell = rows.map rwCell ++ [rwCell x] := by simp
    rw [this]
    show w2.ownsRow 0 36 1 v1 (t.recs ++ [x.b]).length _
    rw [List.length_append, List.length_singleton]
    exact own_same hown fun q e => hoth q (fun e2 => hvne (by rw [e, e2]))
  · show (rows ++ [x]).map Rw.b = t.recs ++ [x.b]
    rw [List.map_append, h.recs]; rfl
  · rcases List.mem_append.1 hr with hr | hr
    · exact hrd r (h.rd r hr) (h.in_ r hr)
    · simp at hr; subst hr; exact hrd r hx hxi
  · rcases List.mem_append.1 hr with hr | hr
    · exact hin r (h.in_ r hr)
    · simp at hr; subst hr; exact hin r hxi
  · subst hw2
    refine Ks.setCell (Ks.drew (Ks.setCell ?_ (.inl h.hg) _)) (.inl h.hg) _
    exact ((Ks.refl L w).alloc o).grown hg fun k e => .inl (h.hr k e)
set_option maxRecDepth 100000 in
set_option maxHeartbeats 2000000 in
theorem add_any {L : Nat → Prop} {w : World} {g b : Nat} {t : LSt} {rv : Value} {rows : List Rw} {x : Rw} (h : LgAt L w g b t rv rows) (hx : Rd w w.heap.size 1 x.A x.b.length x.c (bv x.b)) (hxi : 0 < x.b.length → ∀ q o, x.A = some ⟨q, o, none⟩ → L q ∧ q ≠ g ∧ rv.ownBlock ≠ some q)
    (hb : x.b.length ≤ 4096) (hr : t.next + szN x.b.length ≤ t.to) :
    Calls Try.prog 28 #[.pointer (some ⟨g, 0, none⟩), .slice x.A x.b.length x.c] w fun e w' => (∃ v, e = .returned v) ∧ Lg (Grow L w w') w' g b (t.add x.b) ∧ Ks L w w' := by
  have c4 := h.c4
  have f1 := h.fz 1
  have f4 := h.fz 4
  have c1 := h.c1
  have hrow := h.row
  have hlm := h.ok.few
  have hmo := h.ok.most
  have hle := h.ok.le
  have hgs := h.size g h.hg
  obtain ⟨A, c, hrv, _⟩ := Rd.own h.row
  subst hrv
  obtain ⟨i0, hi, hz0, hz1, hz2⟩ := info_parts info_bytes
  have hcc : rwCell x = .slice x.A x.b.length x.c := rfl
  have hbz : (x.b.length : Int) ≤ 4096 := by omega
  have ksz := fun W => size_any W x.b.length (by omega)
  have H := Lib.hid h
  have Hx := Lib.hid hx
  clear h hx
  go_enter Try.func28, Try.ntmps28
  go_wp2_with (at_builtin; refine wpList_append_src _ rfl (.tmp 8) (.tmp 10) 23 23 rfl 0 36 i0 (.slice none 0 0) 1 24 Try.underlying23 hi hz0 hz1 hz2 rfl (by decide) (.slice A t.recs.length c) t.recs.length (rows.map rwCell) rfl (hrow.alloc _) _ 1 [_] rfl (Src.ofSlice _ Try.underlying23 _ 1 1 _ rfl (cell_one_new _ _ _) (fun u hu => by simp at hu; subst hu; rfl)) (by simp only [maxLen]; omega) (by omega) (by simp) ?_; intro v1 w1 hown1 hg1 hat1; obtain ⟨A1, c1', rfl, _⟩ := Rd.own hown1; have eg := (hg1.block g (by simp; omega) (fun e => H.out.rg e.symm)).trans (Below.heap_alloc _ _ _ hgs); have c4' := (World.cell?_of_block (a := ⟨g, 4, none⟩) eg).trans c4; have f4' := (World.frozen?_of_block (a := ⟨g, 4, none⟩) eg).trans f4; have c1b := (World.cell?_of_block (a := ⟨g, 1, none⟩) eg).trans c1; have f1b := (World.frozen?_of_block (a := ⟨g, 1, none⟩) eg).trans f1; replace hg1 := Lib.hid hg1; replace hown1 := Lib.hid hown1; replace hat1 := Lib.hid hat1; clear eg c1 c4 f1 f4)
  have c1c : (w1.setCell ⟨g, 4, none⟩ (.slice A1 (t.recs.length + 1) c1')).drew.cell? ⟨g, 1, none⟩ = some (.int .i64 t.next) := (World.cell?_setCell_other w1 _ _ _ (by simp)).trans c1b
  have f1c : (w1.setCell ⟨g, 4, none⟩ (.slice A1 (t.recs.length + 1) c1')).drew.frozen? ⟨g, 1, none⟩ = false := (World.frozen?_setCell _ _ _ _).trans f1b
  have hdone := add_done H.out Hx.out hxi hb hr hown1.out _ hg1.out hat1.out rfl
  have hsum := Lib.hid (show ((t.next : Int) + (szN x.b.length : Int)) = ((t.next + szN x.b.length : Nat) : Int) by omega)
  have hszz : (szN x.b.length : Int) ≤ 65536 := by omega
  have hnx : (t.next : Int) ≤ 65536 := by omega
  generalize hw5 : w1.setCell ⟨g, 4, none⟩ (.slice A1 (t.recs.length + 1) c1') = w5 at *
  clear c4' f4' c1b f1b hg1 hown1 hat1 hrow
  refine wp_region_still_tail 10 (by kernel_rfl) (by kernel_rfl) ?_
  change wpStill _ _ (World.drew _) _ _ _
  simp only [List.take_succ_cons, List.take_zero, List.drop_succ_cons, List.drop_zero]
  repeat still_step
  still_call (ksz _)
  repeat still_step
  refine wpStill_nil ?_
  change wpList _ _ _ _ _ w5.drew
  rw [hsum.out]
  go_wp2
  go_end0
  exact ⟨⟨_, rfl⟩, hdone⟩
end Go.Proofs.Ytgppaompcnllbaa
