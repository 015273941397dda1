/- Layer 3: Flush. Condition: no more than a million writes wait. -/
import Derived.Test.YtgppaompcnllbaaIter
namespace Go.Proofs.Ytgppaompcnllbaa
open Go.RowKit Go.Shelf
attribute [local go_sem] Oper.semAt_some

theorem wpListIn_store_mid {F : Fence} {n : Nat} {P : Program} {w : World} {ops : Array Oper} {rest : List Oper} {o : Oper} {a : Act} {Q : Exit → Act → World → Prop} (hw : Region.wanted o (yielded ops a.tmps) = true) (ty : TypeId) (x y : Operand) (ho : o.op = .store ty x y)
    (b off : Nat) (cells : Array Value) (hx : a.eval x = .pointer (some ⟨b, off, none⟩)) (hy : a.eval y = .agg cells)
    (ht : w.there b off cells.size) (hi : (P.info? ty).map (·.size) = some cells.size) (h1 : cells.all (·.oneCell') = true)
    (h : wpListIn F n P ops Q rest (a.put o.dst undef) (w.setCells b off cells.toList)) : wpListIn F n P ops Q (o :: rest) a w := by
  refine BigFrame.wpListIn_want hw fun K hK => ?_
  unfold Oper.wpIn
  refine ⟨?_, ?_⟩
  · simp [Oper.about, ho]
  · rw [Oper.semAt_plain F _ _ (by rw [ho]; intro c hc'; cases hc')]
    have hr := run_storeAt_mid (P := P) w b off ty cells ht hi h1
    simp [execOp, ho, hx, hy, hr, Result.andThen]
    exact hK _ _ h

/-- The zero of a sector. -/
def zeroS : Array Value := #[.int .u8 0, .int .u8 0, .int .u8 0, .int .u8 0, .int .u8 0, .int .u8 0, .int .u8 0, .int .u8 0, .int .u8 0, .int .u8 0, .int .u8 0, .int .u8 0, .int .u8 0, .int .u8 0, .int .u8 0, .int .u8 0, .int .u8 0, .int .u8 0, .int .u8 0, .int .u8 0, .int .u8 0, .int .u8 0, .int .u8 0, .int .u8 0, .int .u8 0, .int .u8 0, .int .u8 0, .int .u8 0, .int .u8 0, .int .u8 0, .int .u8 0, .int .u8 0, .int .u8 0, .int .u8 0, .int .u8 0, .int .u8 0, .int .u8 0, .int .u8 0, .int .u8 0, .int .u8 0, .int .u8 0, .int .u8 0, .int .u8 0, .int .u8 0, .int .u8 0, .int .u8 0, .int .u8 0, .int .u8 0, .int .u8 0, .int .u8 0, .int .u8 0, .int .u8 0, .int .u8 0, .int .u8 0, .int .u8 0, .int .u8 0, .int .u8 0, .int .u8 0, .int .u8 0, .int .u8 0, .int .u8 0, .int .u8 0, .int .u8 0, .int .u8 0]
theorem zeroS_run (W : World) : (zeroValue 75).run Try.prog W = .ok (.agg zeroS) W := (zero_of_info (P := Try.prog) (t := 75) (v := .agg zeroS) (n := 64) (by kernel_rfl)).1 W
theorem zeroS_size : zeroS.size = 64 := by simp [zeroS]
theorem storeS (W : World) (C : Array Value) (hC : C.size = 64) (h1 : C.all (·.oneCell') = true) :
    (Instr.storeAt 75 (.pointer (some ⟨W.heap.size, 0, none⟩)) (.agg C)).run Try.prog (W.alloc (.cells zeroS 75)) = .ok () (W.alloc (.cells C 75)) :=
  run_storeAt_new W 75 zeroS C (by rw [hC]; kernel_rfl) (by rw [zeroS_size, hC]) h1
theorem storeSC (W : World) (C : List Value) (hC : C.length = 64) (h1 : C.toArray.all (·.oneCell') = true) :
    (storeCells ⟨W.heap.size, 0, none⟩ C 0).run Try.prog (W.alloc (.cells zeroS 75)) = .ok () (W.alloc (.cells C.toArray 75)) := by
  have := run_storeCells_new (P := Try.prog) W 75 zeroS C.toArray (by simp only [List.size_toArray]; rw [hC]; kernel_rfl) (by simp [zeroS_size, hC]) h1
  simpa using this

/-! what the loop has done -/
/-- The writes that wait, each with what is known of it. -/
def St.ws {s : St} (h : s.Ok) : List (Wr s.kept.length) := s.waits.pmap (fun p hp => ⟨p, hp⟩) h.wait
theorem St.ws_val {s : St} (h : s.Ok) : (St.ws h).map (·.1) = s.waits := by simp [St.ws, List.map_pmap]
theorem St.ws_len {s : St} (h : s.Ok) : (St.ws h).length = s.waits.length := by simp [St.ws]

/-- Row g of kept sectors with some writes done; nothing else turned below M; of what lay at the beginning nothing but S. -/
structure Put (S : Nat → Prop) (w W3 : World) (M g cap : Nat) (l : List Sec) (ps : List (Nat × Sec)) (W : World) : Prop where
  kp : Kp M g W3 W
  row : W.ownsRow 0 75 64 (.slice (some ⟨g, 0, none⟩) l.length cap) l.length (scells (puts l ps))
  keeps : Ks S w W
section
variable {S : Nat → Prop} {M g cap : Nat} {w W3 : World} {l : List Sec} {ps : List (Nat × Sec)} {X Y : World}
theorem Put.grown {row : Option Nat} (h : Put S w W3 M g cap l ps X) (hM : M ≤ W3.heap.size) (hgM : g < M) (hwM : w.heap.size ≤ M) (hg : X.grownBy Y row) (hr : ∀ r, row = some r → M ≤ r) : Put S w W3 M g cap l ps Y :=
  ⟨⟨Nat.le_trans h.kp.size hg.size, fun k h1 h2 => (hg.block k (by have := h.kp.size; omega) fun e => by have := hr k e.symm; omega).trans (h.kp.same k h1 h2)⟩,
    h.row.kept hg (.inr fun e => by have := hr g e.symm; omega),
    h.keeps.grown hg fun k e => .inr (by have := hr k e; omega)⟩
/-- One more. -/
theorem Put.more (h : Put S w W3 M g cap l ps X) (hs : ∀ b ∈ l, b.length = 64) (hps : ∀ p ∈ ps, p.2.length = 64) (hg2 : S g ∨ w.heap.size ≤ g) (p : Nat × Sec) (hp1 : p.1 < l.length) (hp2 : p.2.length = 64) :
    Put S w W3 M g cap l (ps ++ [p]) (X.setCells g (p.1 * 64) (bv p.2)) ∧ Kp M g X (X.setCells g (p.1 * 64) (bv p.2)) := by
  have hsec : ∀ b ∈ puts l ps, b.length = 64 := puts_sec hs hps
  have hk : Kp M g X (X.setCells g (p.1 * 64) (bv p.2)) := ⟨by rw [setCells_size]; exact Nat.le_refl _, fun k _ h2 => setCells_heap_other g _ _ _ k h2⟩
  refine ⟨⟨h.kp.trans hk, ?_, h.keeps.setCells hg2 _ _⟩, hk⟩
  have := own_setCells h.row (p.1 * 64) (bv p.2) (by rw [bv_length, hp2, scells_length hsec, puts_length]; omega)
  rw [bv_length, hp2] at this
  rw [puts_snoc, scells_set hsec (by rw [puts_length]; exact hp1)]
  exact this
theorem Put.there (h : Put S w W3 M g cap l ps X) (hs : ∀ b ∈ l, b.length = 64) (hps : ∀ p ∈ ps, p.2.length = 64) {k : Nat} (hk : k < l.length) : X.there g (k * 64) 64 := fun j hj => by
  have hsec : ∀ b ∈ puts l ps, b.length = 64 := puts_sec hs hps
  have hc := h.row.cellAt (k * 64 + j) (by omega)
  have hf := h.row.frozenAt (k * 64 + j)
  refine ⟨?_, hf⟩
  rw [hc, List.getElem?_eq_getElem (by rw [scells_length hsec, puts_length]; omega)]
  rfl
end
/-- What a flush leaves. -/
theorem flush_done {S : Nat → Prop} {w W3 W : World} {b : Nat} {s : St} {kb ck nb cn : Nat} {wv : Value} (h : DkAt S W3 b s kb ck nb cn wv) (hI : Put S w W3 W3.heap.size kb ck s.kept s.waits W) {D : Nat} (hD : W3.heap.size ≤ D) (hw3 : w.heap.size ≤ W3.heap.size) :
    Ds S ((W.setCell ⟨b, 2, none⟩ (.slice none 0 0)).putObj D (.deferred none)) b s.flushed ∧ Ks S w ((W.setCell ⟨b, 2, none⟩ (.slice none 0 0)).putObj D (.deferred none)) := by
  have hWs := hI.kp.size
  have hb := h.bs
  have hks := h.ks
  have hns := h.ns
  have hgD := grownBy_putObj' (W.setCell ⟨b, 2, none⟩ (.slice none 0 0)) D (.deferred none)
  have hsz : (W.setCell ⟨b, 2, none⟩ (.slice none 0 0)).heap.size = W.heap.size := by simp [World.setCell]
  have hblk : ∀ g, g < W3.heap.size → g ≠ b → ((W.setCell ⟨b, 2, none⟩ (.slice none 0 0)).putObj D (.deferred none)).heap[g]? = W.heap[g]? := fun g h1 h2 =>
    (hgD.block g (by rw [hsz]; omega) (fun e => by cases e; omega)).trans (Below.heap_setCell W ⟨b, 2, none⟩ _ g h2)
  refine ⟨⟨kb, ck, nb, cn, .slice none 0 0, ?_⟩, ?_⟩
  · have hnl : s.flushed.kept.length = s.kept.length := St.nowLen s
    refine ⟨h.ok.flushed, fun k e => by have := h.size k e; have := hgD.size; rw [hsz] at this; omega, h.hb, h.hk, h.hn, fun g e => (by cases e), h.bk, h.bn, h.kn, by simp [Value.ownBlock], by simp [Value.ownBlock], by simp [Value.ownBlock], ?_, ?_, ?_, World.ownsRow_nil _ _ _ _⟩
    · rw [hnl]
      refine (hgD.block b (by rw [hsz]; omega) (fun e => by cases e; omega)).trans ?_
      rw [heap_setCell_same _ _ _ _ _ _ ((hI.kp.same b hb h.bk).trans h.cells)]
      rfl
    · rw [hnl]
      exact own_same hI.row fun g e => by cases e; exact hblk kb hks (fun e => h.bk e.symm)
    · rw [hnl, St.now_flushed]
      exact own_same h.now fun g e => by cases e; exact (hblk nb hns (fun e => h.bn e.symm)).trans (hI.kp.same nb hns (fun e => h.kn e.symm))
  · exact (hI.keeps.setCell (p := ⟨b, 2, none⟩) (.inl h.hb) _).grown hgD fun k e => by cases e; exact .inr (by omega)

theorem flush_nil (w : World) : Calls Try.prog 46 #[.pointer none] w fun e w' => e = .returned (.int .i64 1) ∧ Below w.heap.size w w' := by
  go_enter Try.func46, Try.ntmps46
  go_wp2
  go_ret
  exact ⟨rfl, (Below.refl _ _).alloc (Nat.le_refl _) _⟩
section
variable {S : Nat → Prop} {lo hi : Nat} {w : World} {b : Nat} {s : St}
theorem flush_dead_s (h : Ds S w b s) (hd : s.count.dead = true) : Calls Try.prog 46 #[.pointer (some ⟨b, 0, none⟩)] w fun e w' => e = .returned (.int .i64 20) ∧ Ds S w' b s.count ∧ Ks S w w' := by
  have ks := stops_s (h.alloc (.cells #[.pointer (some ⟨b, 0, none⟩)] 26))
  rw [hd] at ks
  go_enter Try.func46, Try.ntmps46
  go_wp2_with ((with_reducible refine ks.mono ?_); rintro e w2 ⟨rfl, hd2, hk2⟩)
  go_ret
  exact ⟨rfl, hd2, ((Ks.refl S w).alloc _).trans hk2⟩

set_option maxRecDepth 100000 in
set_option maxHeartbeats 2000000 in
theorem flush_in (n : Nat) (hn : 6 ≤ n) (h : Ds S w b s) (hd : s.count.dead = false) (hw : s.waits.length ≤ 1000000) :
    CallsIn Fence.wide n Try.prog 46 #[.pointer (some ⟨b, 0, none⟩)] w fun e w' => e = .returned (.int .i64 0) ∧ Ds S w' b s.count.flushed ∧ Ks S w w' := by
  have ks := stops_s (h.alloc (.cells #[.pointer (some ⟨b, 0, none⟩)] 26))
  rw [hd] at ks
  have kw := fun W => writes_any W (some ⟨b, 0, none⟩) 55 #[]
  have hSw := h.size
  have kbox : ∀ W2 : World, Ks S (w.alloc (.cells #[.pointer (some ⟨b, 0, none⟩)] 26)) W2 → Boxed W2 w.heap.size 26 (.pointer (some ⟨b, 0, none⟩)) := fun W2 hk => (hk.block _ (by simp) (fun e => by have := hSw _ e; omega)).trans (heap_alloc_new _ _)
  refine callsIn_of_wp_marks Try.func46 rfl trivial ?_ rfl
  simp only [Try.ntmps46, List.size_toArray, List.length_cons, List.length_nil, Nat.reduceAdd, Nat.reduceSub, Array.replicate_succ, Array.replicate_zero, List.push_toArray, List.append_toArray, List.nil_append, List.cons_append]
  gi_wp2_with (first
    | (refine ⟨trivial, fun e => (by cases e), ?_⟩; (with_reducible refine (callsIn_wide.2 ks).mono ?_); rintro e w2 ⟨rfl, hd2, hk2⟩; have hbx2 := kbox _ hk2; have cbx2 := hbx2.cell; have lbx2 := hbx2.lt)
    | (refine ⟨trivial, fun e => (by cases e), ?_⟩; (with_reducible refine (callsIn_wide.2 (kw _)).mono ?_); rintro e w3 ⟨rfl, hw3⟩))
  obtain ⟨W3, hW3⟩ : ∃ W3, (w2.alloc (.cells #[.pointer (some ⟨b, 0, none⟩)] 26)).alloc (.cells #[.func (.func 55) #[] #[]] 73) = W3 := ⟨_, rfl⟩
  have b23 : Below w2.heap.size w2 W3 := by rw [← hW3]; exact ((Below.refl _ _).alloc (Nat.le_refl _) _).alloc (by simp) _
  have s3 : W3.heap.size = w2.heap.size + 2 := by rw [← hW3]; simp
  have bd3 : Boxed W3 w2.heap.size 26 (.pointer (some ⟨b, 0, none⟩)) := by rw [← hW3]; exact heap_alloc2_old _ _ _
  have bs3 : Boxed W3 (w2.heap.size + 1) 73 (.func (.func 55) #[] #[]) := by rw [← hW3]; exact heap_alloc2_new _ _ _
  have hbx3 : Boxed W3 w.heap.size 26 (.pointer (some ⟨b, 0, none⟩)) := (b23.block _ lbx2).trans hbx2
  have hd3 := hd2.below b23
  have hk3 : Ks S w W3 := (((Ks.refl S w).alloc _).trans hk2).trans (Ks.all b23)
  rw [hW3]
  clear hW3 ks kw kbox cbx2 hbx2 hd2 hk2 b23
  obtain ⟨kb, ck, nb, cn, wv, hd3⟩ := hd3
  obtain ⟨A, c, rfl, hrw⟩ := Rd.own hd3.waits
  have hok := hd3.ok
  have hmost := hok.most
  have hvl : (St.ws hok).length = s.count.waits.length := St.ws_len hok
  have hcw : s.count.waits.length ≤ 1000000 := by rw [St.count_waits]; exact hw
  rw [← hvl] at hrw hcw
  have hc2 := hd3.c2
  rw [← hvl] at hc2
  rw [← St.ws_val hok] at hrw
  have hkb := hSw kb hd3.hk
  have hbb0 := hSw b hd3.hb
  have hseq := writes_stop (n - 1) (by omega) w2.heap.size (w2.heap.size + 1) b (St.ws hok) A c 55 #[] (fun _ => true) W3.heap.size kb W3 (Nat.le_refl _)
    ⟨by omega, bd3.cell⟩ bs3.cell ⟨by omega, hc2⟩ hrw (fun bb o e => ⟨fun e2 => hd3.wk (by rw [e, e2]; rfl), by have := hSw bb (hd3.hw bb (by rw [e]; rfl)); omega⟩) ⟨by omega, by omega⟩ hcw
    (enters_of Try.func55 (by kernel_rfl) rfl) (fun W' k _ _ => callsIn_wide.2 (stays_all W' k))
  refine wpIn_rangeFunc_ownH (w0 := W3) rfl (by omega) (gf := 50) (lb := #[.pointer (some ⟨w2.heap.size, 0, none⟩), .pointer (some ⟨w2.heap.size + 1, 0, none⟩)]) rfl trivial (enters_of Try.func50 (by kernel_rfl) rfl)
    hseq (fun h k => h.trans k) (fun W l o o' h1 _ _ _ => Kp.putObj W l o' h1) (Below.refl _ _) (fun _ => rfl)
    (fun (pre : List (Wr s.count.kept.length)) W => Put S w W3 W3.heap.size kb ck s.count.kept (pre.map Subtype.val) W)
    (fun _ _ _ => False)
    (fun pre X Y row hI hg hr => Put.grown hI (Nat.le_refl _) (by omega) (by omega) hg fun r e => (hr r e).1)
    (fun _ _ _ _ _ hs _ _ => hs)
    ⟨Kp.refl _ _ _, hd3.kept, hk3⟩
    (fun x a' W => ∃ Bx, W3.heap.size ≤ Bx ∧ W.heap[Bx]? = some (.cells (bv x.1.2).toArray 75 (0, 0)) ∧ a' = { tmps := #[.pointer (some ⟨b, 0, none⟩), .pointer (some ⟨w.heap.size, 0, none⟩), .int .i64 0, .int .i64 (x.1.1 : Int), .pointer (some ⟨Bx, 0, none⟩), .pointer (some ⟨b, 0, none⟩), .bool false,
          .pointer (some ⟨b, 0, none⟩), .bool false, .pointer (some ⟨b, 0, none⟩), .func (.func 50) #[] #[.pointer (some ⟨w2.heap.size, 0, none⟩), .pointer (some ⟨w2.heap.size + 1, 0, none⟩)], .int .i64 (x.1.1 : Int), .agg (bv x.1.2).toArray, undef, undef, undef, undef, undef, undef, undef, undef, undef, undef], defers := [] })
    (fun x a' _ X Y row hs hg hr => by
      obtain ⟨Bx, h1, h2, h3⟩ := hs
      exact ⟨Bx, h1, (hg.block Bx (Array.getElem?_eq_some_iff.1 h2).1 (fun e => by obtain ⟨_, o, ho, hc⟩ := hr Bx e.symm; rw [h2] at ho; cases ho; cases hc)).trans h2, h3⟩)
    ?assign ?body ?done ?stop
  case assign =>
    intro l pre x W K hI hK
    have hx2 := x.2.2
    have hbl : (bv x.1.2).length = 64 := by rw [bv_length, hx2]
    have z1 := zeroS_run
    have z4 := fun W : World => storeS W (bv x.1.2).toArray (by rw [List.size_toArray]; exact hbl) (all_oneCell_toArray (bv_one _))
    have z5 := fun W : World => storeSC W (bv x.1.2) hbl (all_oneCell_toArray (bv_one _))
    have z6 := zeroS_size
    simp only [wEnc]
    generalize hX : bv x.1.2 = X at *
    gi_wp2
    exact hK _ _ ((KeepsOthers.alloc _ _).from _) ((Kp.refl _ _ W).alloc hI.kp.size _) (hI.grown (Nat.le_refl _) (by omega) (by omega) (World.grownBy_alloc W _ none) fun r e => (by cases e)) ⟨W.heap.size, hI.kp.size, heap_alloc_new _ _, rfl⟩
  case body =>
    rintro l pre x a' W hl2 ⟨r, hr⟩ hI ⟨Bx, hBx, hX, rfl⟩ hlt
    have hx1 := x.2.1
    have hx2 := x.2.2
    have hbl : (bv x.1.2).length = 64 := by rw [bv_length, hx2]
    have hs64 : (Try.prog.info? 75).map (·.size) = some (bv x.1.2).length := by rw [hbl]; kernel_rfl
    have cbx : W.drew.cell? ⟨w.heap.size, 0, none⟩ = some (.pointer (some ⟨b, 0, none⟩)) := (hI.kp.cell (p := ⟨w.heap.size, 0, none⟩) (by show w.heap.size < _; omega) (by show w.heap.size ≠ _; omega)).trans hbx3.cell
    have c0 : W.drew.cell? ⟨b, 0, none⟩ = some (.slice (some ⟨kb, 0, none⟩) s.count.kept.length ck) := (hI.kp.cell (p := ⟨b, 0, none⟩) (by show b < _; omega) hd3.bk).trans hd3.c0
    have hrX : W.drew.rangeAt Bx 0 (bv x.1.2) := fun j v hj => by
      rw [Nat.zero_add, cell_of_row _ _ _ _ _ _ (show W.drew.heap[Bx]? = _ from hX)]
      simpa using hj
    have hps : ∀ p ∈ pre.map Subtype.val, p.2.length = 64 := fun p hp => by obtain ⟨q, _, rfl⟩ := List.mem_map.1 hp; exact q.2.2
    have hth : W.drew.there kb (x.1.1 * 64) 64 := hI.there hok.sec hps hx1
    have hxl : (x.1.1 : Int) < (s.count.kept.length : Int) := by omega
    have hID := hI.grown (Nat.le_refl _) (by omega) (by omega) (⟨rfl, rfl, rfl, Nat.le_refl _, fun _ _ _ => rfl⟩ : W.grownBy W.drew none) fun r e => (by cases e)
    have hmore := hID.more hok.sec hps (.inl hd3.hk) x.1 hx1 hx2
    gi_wp2
    refine wpIn_region_still_tail 7 (by kernel_rfl) (by kernel_rfl) (by kernel_rfl) ?_
    simp only [List.take_succ_cons, List.take_zero, List.drop_succ_cons, List.drop_zero]
    still_step
    still_step
    still_step
    still_step
    still_step
    refine still_load_mid (some 18) rfl rfl 75 (.tmp 4) rfl Bx 0 rfl (bv x.1.2) _ hrX Try.underlying75 rfl hs64 ?_
    simp only [Act.put, List.setIfInBounds_toArray, List.set_cons_zero, List.set_cons_succ]
    still_step
    refine wpStill_nil ?_
    refine wpListIn_store_mid (by rfl) 75 (.tmp 19) (.tmp 18) rfl kb (x.1.1 * 64) (bv x.1.2).toArray rfl rfl (by rw [List.size_toArray, hbl]; exact hth) (by rw [List.size_toArray]; exact hs64) (all_oneCell_toArray (bv_one _)) ?_
    gi_wp2
    refine ⟨KeepsFrom.of_grownBy (row := some kb) ?_ (fun j e => by cases e; omega), (⟨Nat.le_refl _, fun _ _ _ => rfl⟩ : Kp W3.heap.size kb W W.drew).trans hmore.2, by show Put S w W3 W3.heap.size kb ck s.count.kept ((pre ++ [x]).map Subtype.val) _; rw [List.map_append]; exact hmore.1⟩
    obtain ⟨s1, s2, s3'⟩ := setCells_streams kb (bv x.1.2) (x.1.1 * 64) W.drew
    exact ⟨s1, s2, s3', by rw [setCells_size]; exact Nat.le_refl _, fun k _ hk => setCells_heap_other kb _ _ _ k fun e => hk (by rw [e])⟩
  case done =>
    rintro D ys W hD rfl hI hK
    have cbx : W.cell? ⟨w.heap.size, 0, none⟩ = some (.pointer (some ⟨b, 0, none⟩)) := (hI.kp.cell (p := ⟨w.heap.size, 0, none⟩) (by show w.heap.size < _; omega) (by show w.heap.size ≠ _; omega)).trans hbx3.cell
    have hbb : W.heap[b]? = W3.heap[b]? := hI.kp.same b (by omega) hd3.bk
    have c2W := (World.cell?_of_block (a := ⟨b, 2, none⟩) hbb).trans hd3.c2
    have f2W := (World.frozen?_of_block (a := ⟨b, 2, none⟩) hbb).trans (hd3.fz 2)
    gi_wp2
    have hK' := (KeepsOthers.setCell W ⟨b, 2, none⟩ (.slice none 0 0)).same D _ hK rfl
    refine ⟨by simp, .inl ⟨_, _, rfl, run_takeDeferred hK', ?_⟩⟩
    have hps : (pick (fun _ => true) (St.ws hok)).map Subtype.val = s.count.waits := by rw [pick_all]; exact St.ws_val hok
    rw [hps] at hI
    exact ⟨_, results_tmp rfl _ _ _, rfl, flush_done hd3 hI (by omega) (by omega)⟩
  case stop =>
    rintro D c pre W _ _ h _
    exact h.elim
theorem flush_dead (h : Dk lo hi w b s) (hd : s.count.dead = true) : Calls Try.prog 46 #[.pointer (some ⟨b, 0, none⟩)] w fun e w' => e = .returned (.int .i64 20) ∧ Dk lo hi w' b s.count ∧ Keeps lo hi w w' :=
  (flush_dead_s h.1 hd).mono fun _ _ ⟨he, hd, hk⟩ => ⟨he, ⟨hd, Nat.le_trans h.2 hk.size⟩, hk.keeps (fun _ e => e) h.lw⟩
end
end Go.Proofs.Ytgppaompcnllbaa
