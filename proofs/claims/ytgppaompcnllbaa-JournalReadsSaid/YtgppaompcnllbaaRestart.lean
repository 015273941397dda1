/- Layer 3: Restart. Condition: no more than a million writes wait, no more than a million numbers are told. -/
import Derived.Test.YtgppaompcnllbaaFlush
import Derived.Stop.RegionWithIn
namespace Go.Proofs.Ytgppaompcnllbaa
open Go.RowKit Go.Shelf
attribute [local go_sem] Oper.semAt_some

theorem flush_s {S : Nat → Prop} {w : World} {b : Nat} {s : St} (h : Ds S w b s) (hd : s.count.dead = false) (hw : s.waits.length ≤ 1000000) :
    Calls Try.prog 46 #[.pointer (some ⟨b, 0, none⟩)] w fun e w' => e = .returned (.int .i64 0) ∧ Ds S w' b s.count.flushed ∧ Ks S w w' := callsIn_wide.1 (flush_in 6 (by omega) h hd hw)
theorem flush_ok {lo hi : Nat} {w : World} {b : Nat} {s : St} (h : Dk lo hi w b s) (hd : s.count.dead = false) (hw : s.waits.length ≤ 1000000) :
    Calls Try.prog 46 #[.pointer (some ⟨b, 0, none⟩)] w fun e w' => e = .returned (.int .i64 0) ∧ Dk lo hi w' b s.count.flushed ∧ Keeps lo hi w w' :=
  (flush_s h.1 hd hw).mono fun _ _ ⟨he, hd, hk⟩ => ⟨he, ⟨hd, Nat.le_trans h.2 hk.size⟩, hk.keeps (fun _ e => e) h.lw⟩

theorem own_pos {w : World} {base : Nat} {e : TypeId} {size n : Nat} {v : Value} {xs : List Value} (h : w.ownsRow base e size v n xs) (hn : 0 < n) : ∃ g cap, v = .slice (some ⟨g, 0, none⟩) n cap ∧ base ≤ g ∧ g < w.heap.size := by
  rcases h.2 with ⟨_, h0⟩ | ⟨g, cap, cur, rfl, hg, hh, _⟩
  · omega
  · exact ⟨g, cap, rfl, hg, (Array.getElem?_eq_some_iff.1 hh).1⟩
theorem restart_nil (w : World) (A : Option Addr) (n c : Nat) : Calls Try.prog 25 #[.pointer none, .slice A n c] w fun e w' => e = .returned (.pointer none) ∧ Below w.heap.size w w' := by
  go_enter Try.func25, Try.ntmps25
  go_wp2
  go_ret
  exact ⟨rfl, (Below.refl _ _).alloc (Nat.le_refl _) _⟩
/-- What a restart leaves. -/
theorem restart_done {w W w4 : World} {s : St} (hok : s.Ok) {g1 p1 g2 p2 D : Nat} {l : List Sec} {m : Nat} (hl : s.now = l) (hkl : s.kept = l) (hws : s.waits = []) (hle : s.left = 0) (hdd : s.dead = false) (hm : l.length = m) (hwW : w.heap.size ≤ W.heap.size) (hB : Below w.heap.size w W) (h1 : W.ownsRow 0 75 64 (.slice (some ⟨g1, 0, none⟩) m p1) m (scells l)) (hg0 : w.heap.size ≤ g1) (hg1 : g1 < W.heap.size)
    (hb : Below W.heap.size W w4) (h2 : w4.ownsRow W.heap.size 75 64 (.slice (some ⟨g2, 0, none⟩) m p2) m (scells l)) (hg2 : W.heap.size ≤ g2) (hg2' : g2 < w4.heap.size) (hD : w.heap.size ≤ D) (hD1 : g1 < D) (hD2 : D < W.heap.size) :
    Ds (In w.heap.size ((w4.alloc (.cells #[.slice (some ⟨g1, 0, none⟩) m p1, .slice (some ⟨g2, 0, none⟩) m p2, .slice none 0 0, .int .i64 0, .bool false] 61)).putObj D (.deferred none)).heap.size) ((w4.alloc (.cells #[.slice (some ⟨g1, 0, none⟩) m p1, .slice (some ⟨g2, 0, none⟩) m p2, .slice none 0 0, .int .i64 0, .bool false] 61)).putObj D (.deferred none)) w4.heap.size s ∧
    Below w.heap.size w ((w4.alloc (.cells #[.slice (some ⟨g1, 0, none⟩) m p1, .slice (some ⟨g2, 0, none⟩) m p2, .slice none 0 0, .int .i64 0, .bool false] 61)).putObj D (.deferred none)) := by
  obtain ⟨X, hX⟩ : ∃ X, w4.alloc (.cells #[.slice (some ⟨g1, 0, none⟩) m p1, .slice (some ⟨g2, 0, none⟩) m p2, .slice none 0 0, .int .i64 0, .bool false] 61) = X := ⟨_, rfl⟩
  have hXn : X.heap[w4.heap.size]? = some (.cells #[.slice (some ⟨g1, 0, none⟩) m p1, .slice (some ⟨g2, 0, none⟩) m p2, .slice none 0 0, .int .i64 0, .bool false] 61 (0, 0)) := by rw [← hX]; exact heap_alloc_new _ _
  have hXb : Below w4.heap.size w4 X := by rw [← hX]; exact (Below.refl _ _).alloc (Nat.le_refl _) _
  have hXs : X.heap.size = w4.heap.size + 1 := by rw [← hX]; simp
  rw [hX]
  clear hX
  have hgD := grownBy_putObj' X D (.deferred none)
  have hs := hgD.size
  have hs4 := hb.size
  have hnD : ∀ g, g < X.heap.size → g ≠ D → (X.putObj D (.deferred none)).heap[g]? = X.heap[g]? := fun g h1 h2 => hgD.block g h1 fun e => h2 (by cases e; rfl)
  subst hkl
  subst hm
  refine ⟨⟨g1, p1, g2, p2, .slice none 0 0, ?_⟩, ?_⟩
  · refine ⟨hok, fun k e => e.2, ⟨by omega, by omega⟩, ⟨by omega, by omega⟩, ⟨by omega, by omega⟩, fun g e => (by cases e), by omega, by omega, by omega, by simp [Value.ownBlock], by simp [Value.ownBlock], by simp [Value.ownBlock], ?_, ?_, ?_, ?_⟩
    · rw [hnD _ (by omega) (by omega), hXn, hle, hdd]
    · exact own_same h1 fun g e => by cases e; exact (hnD g1 (by omega) (by omega)).trans ((hXb.block g1 (by omega)).trans (hb.block g1 hg1))
    · rw [hl]; exact own_base (own_same h2 fun g e => by cases e; exact (hnD g2 (by omega) (by omega)).trans (hXb.block g2 hg2')) (Nat.zero_le _)
    · rw [hws]; exact World.ownsRow_nil _ _ _ _
  · exact ((hB.trans (hb.mono hwW)).trans (hXb.mono (by omega))).grown hgD (by omega) fun k e => by cases e; exact hD
section
variable {S : Nat → Prop} {lo hi : Nat} {w : World} {b : Nat} {s : St}
set_option maxRecDepth 100000 in
set_option maxHeartbeats 2000000 in
theorem restart_in (n : Nat) (hn : 6 ≤ n) (h : Ds S w b s) (hw : s.waits.length ≤ 1000000) {A : Option Addr} {c C : Nat} {keep : List Bool} (hr : Rd w C 1 A keep.length c (keep.map Value.bool)) (hC : C ≤ w.heap.size) :
    CallsIn Fence.wide n Try.prog 25 #[.pointer (some ⟨b, 0, none⟩), .slice A keep.length c] w fun e w' => ∃ b', e = .returned (.pointer (some ⟨b', 0, none⟩)) ∧ Ds (In w.heap.size w'.heap.size) w' b' (s.restart keep) ∧ Below w.heap.size w w' := by
  obtain ⟨kb, ck, nb, cn, wv, h⟩ := h
  have hok := h.ok
  have hmost := hok.most
  have hpos := hok.pos
  have c0 := h.c0
  have hbw : b < w.heap.size := h.bs
  have hSw := h.size
  obtain ⟨A0, cc, e0, hk0⟩ := Rd.own h.kept
  cases e0
  have W1s : (w.alloc (.cells #[.slice A keep.length c] 52)).heap.size = w.heap.size + 1 := by simp
  have kc1 := clone_rows (w.alloc (.cells #[.slice A keep.length c] 52)) (B := w.heap.size) (by simp) (hk0.below ((Below.refl _ _).alloc (Nat.le_refl _) _)) (by simp) (scells_one _) (by omega)
  have kw := fun W caps => writes_any W (some ⟨b, 0, none⟩) 42 caps
  refine callsIn_of_wp_marks Try.func25 rfl trivial ?_ rfl
  simp only [Try.ntmps25, List.size_toArray, List.length_cons, List.length_nil, Nat.reduceAdd, Nat.reduceSub, Array.replicate_succ, Array.replicate_zero, List.push_toArray, List.append_toArray, List.nil_append, List.cons_append]
  gi_wp2_with (first
    | (refine ⟨trivial, fun e => (by cases e), ?_⟩; (with_reducible refine (callsIn_wide.2 kc1).mono ?_); rintro e w2 ⟨v1, rfl, hv1, hb2⟩; obtain ⟨g1, p1, rfl, hg1, hg1'⟩ := own_pos hv1 hpos)
    | (refine ⟨trivial, fun e => (by cases e), ?_⟩; (with_reducible refine (callsIn_wide.2 (kw _ _)).mono ?_); rintro e w3 ⟨rfl, hw3⟩))
  obtain ⟨W3, hW3⟩ : ∃ W3, ((w2.alloc (.cells #[.slice (some ⟨g1, 0, none⟩) s.kept.length p1] 58)).alloc (.cells #[.pointer (some ⟨b, 0, none⟩)] 26)).alloc (.cells #[.func (.func 42) #[] #[.pointer (some ⟨w.heap.size, 0, none⟩)]] 73) = W3 := ⟨_, rfl⟩
  have b23 : Below w2.heap.size w2 W3 := by rw [← hW3]; exact (((Below.refl _ _).alloc (Nat.le_refl _) _).alloc (by simp) _).alloc (by simp; omega) _
  have s3 : W3.heap.size = w2.heap.size + 3 := by rw [← hW3]; simp
  have bk3 : Boxed W3 w2.heap.size 58 (.slice (some ⟨g1, 0, none⟩) s.kept.length p1) := by rw [← hW3]; exact ((Boxed.new w2 _ _).alloc _).alloc _
  have bd3 : Boxed W3 (w2.heap.size + 1) 26 (.pointer (some ⟨b, 0, none⟩)) := by
    rw [← hW3]
    have := (Boxed.new (w2.alloc (.cells #[.slice (some ⟨g1, 0, none⟩) s.kept.length p1] 58)) 26 (.pointer (some ⟨b, 0, none⟩))).alloc (.cells #[.func (.func 42) #[] #[.pointer (some ⟨w.heap.size, 0, none⟩)]] 73)
    rwa [World.size_alloc] at this
  have bs3 : Boxed W3 (w2.heap.size + 1 + 1) 73 (.func (.func 42) #[] #[.pointer (some ⟨w.heap.size, 0, none⟩)]) := by
    rw [← hW3]
    have := Boxed.new ((w2.alloc (.cells #[.slice (some ⟨g1, 0, none⟩) s.kept.length p1] 58)).alloc (.cells #[.pointer (some ⟨b, 0, none⟩)] 26)) 73 (.func (.func 42) #[] #[.pointer (some ⟨w.heap.size, 0, none⟩)])
    rwa [World.size_alloc, World.size_alloc] at this
  have s2 := hb2.size
  rw [W1s] at s2 hg1
  have bp3 : Boxed W3 w.heap.size 52 (.slice A keep.length c) := ((b23.block _ (by omega)).trans (hb2.block _ (by rw [W1s]; omega))).trans (heap_alloc_new _ _)
  have hBw : Below w.heap.size w W3 := (((Below.refl _ w).alloc (Nat.le_refl _) _).trans (hb2.mono (by rw [W1s]; omega))).trans (b23.mono (by omega))
  have h3 := h.same hBw.size fun k hk => hBw.block k (hSw k hk)
  have hv3 : W3.ownsRow 0 75 64 (.slice (some ⟨g1, 0, none⟩) s.kept.length p1) s.kept.length (scells s.kept) := own_base (own_same hv1 fun g e => by cases e; exact b23.block _ hg1') (Nat.zero_le _)
  rw [hW3]
  clear hW3 kc1 kw c0 hk0
  obtain ⟨A2, c2, rfl, hrw⟩ := Rd.own h3.waits
  have hvl : (St.ws hok).length = s.waits.length := St.ws_len hok
  have hcw : s.waits.length ≤ 1000000 := hw
  rw [← hvl] at hrw hcw
  have hc2 := h3.c2
  rw [← hvl] at hc2
  rw [← St.ws_val hok] at hrw
  have hseq := writes_stop (n - 1) (by omega) (w2.heap.size + 1) (w2.heap.size + 1 + 1) b (St.ws hok) A2 c2 42 #[.pointer (some ⟨w.heap.size, 0, none⟩)] (fun k => keep.getD k false) W3.heap.size g1 W3 (Nat.le_refl _)
    ⟨by omega, bd3.cell⟩ bs3.cell ⟨by omega, hc2⟩ hrw (fun bb o e => by have := hSw bb (h3.hw bb (by rw [e]; rfl)); omega) ⟨by omega, by omega⟩ hcw
    (enters_of Try.func42 (by kernel_rfl) rfl) (fun W' k hk _ => callsIn_wide.2 (stays_told W' w.heap.size (hr.keep (w' := W') fun p hp => (hk.cell (p := p) (by omega) (by omega)).trans (hBw.cell (by omega))) ((hk.cell (p := ⟨w.heap.size, 0, none⟩) (by show w.heap.size < _; omega) (by show w.heap.size ≠ _; omega)).trans bp3.cell) k))
  refine wpIn_rangeFunc_ownH (w0 := W3) rfl (by omega) (gf := 50) (lb := #[.pointer (some ⟨w2.heap.size + 1, 0, none⟩), .pointer (some ⟨w2.heap.size + 1 + 1, 0, none⟩)]) rfl trivial (enters_of Try.func50 (by kernel_rfl) rfl)
    hseq (fun h k => h.trans k) (fun W l o o' h1 _ _ _ => Kp.putObj W l o' h1) (Below.refl _ _) (fun _ => rfl)
    (fun (pre : List (Wr s.kept.length)) W => Put (fun _ => False) w W3 W3.heap.size g1 p1 s.kept (pre.map Subtype.val) W)
    (fun _ _ _ => False)
    (fun pre X Y row hI hg hr => Put.grown hI (Nat.le_refl _) (by omega) (by omega) hg fun r e => (hr r e).1)
    (fun _ _ _ _ _ hs _ _ => hs)
    ⟨Kp.refl _ _ _, hv3, Ks.all hBw⟩
    (fun x a' W => ∃ Bx, W3.heap.size ≤ Bx ∧ W.heap[Bx]? = some (.cells (bv x.1.2).toArray 75 (0, 0)) ∧ a' = { tmps := #[.pointer (some ⟨b, 0, none⟩), .slice A keep.length c, undef, .pointer (some ⟨w.heap.size, 0, none⟩), .pointer none, .pointer (some ⟨w2.heap.size, 0, none⟩), .int .i64 (x.1.1 : Int), .pointer (some ⟨Bx, 0, none⟩),
          .pointer (some ⟨b, 0, none⟩), .bool false, .pointer (some ⟨b, 0, none⟩), .pointer (some ⟨b, 0, none⟩), .pointer (some ⟨b, 0, none⟩), .slice (some ⟨kb, 0, none⟩) s.kept.length ck, .slice (some ⟨g1, 0, none⟩) s.kept.length p1, .pointer (some ⟨b, 0, none⟩),
          .func (.func 42) #[] #[.pointer (some ⟨w.heap.size, 0, none⟩)], .func (.func 50) #[] #[.pointer (some ⟨w2.heap.size + 1, 0, none⟩), .pointer (some ⟨w2.heap.size + 1 + 1, 0, none⟩)],
          .int .i64 (x.1.1 : Int), .agg (bv x.1.2).toArray, undef, undef, undef, undef, undef, undef, undef, undef, undef], defers := [] })
    (fun x a' _ X Y row hs hg hr => by
      obtain ⟨Bx, h1, h2, h3⟩ := hs
      exact ⟨Bx, h1, (hg.block Bx (Array.getElem?_eq_some_iff.1 h2).1 (fun e => by obtain ⟨_, o, ho, hc⟩ := hr Bx e.symm; rw [h2] at ho; cases ho; cases hc)).trans h2, h3⟩)
    ?assign ?body ?done ?stop
  case assign =>
    intro l pre x W K hI hK
    have hx2 := x.2.2
    have hbl : (bv x.1.2).length = 64 := by rw [bv_length, hx2]
    have z1 := zeroS_run
    have z4 := fun W : World => storeS W (bv x.1.2).toArray (by rw [List.size_toArray]; exact hbl) (all_oneCell_toArray (bv_one _))
    have z5 := fun W : World => storeSC W (bv x.1.2) hbl (all_oneCell_toArray (bv_one _))
    have z6 := zeroS_size
    simp only [wEnc]
    generalize hX : bv x.1.2 = X at *
    gi_wp2
    exact hK _ _ ((KeepsOthers.alloc _ _).from _) ((Kp.refl _ _ W).alloc hI.kp.size _) (hI.grown (Nat.le_refl _) (by omega) (by omega) (World.grownBy_alloc W _ none) fun r e => (by cases e)) ⟨W.heap.size, hI.kp.size, heap_alloc_new _ _, rfl⟩
  case body =>
    rintro l pre x a' W hl2 ⟨r, hr⟩ hI ⟨Bx, hBx, hX, rfl⟩ hlt
    have hx1 := x.2.1
    have hx2 := x.2.2
    have hbl : (bv x.1.2).length = 64 := by rw [bv_length, hx2]
    have hs64 : (Try.prog.info? 75).map (·.size) = some (bv x.1.2).length := by rw [hbl]; kernel_rfl
    have cbx : W.cell? ⟨w2.heap.size, 0, none⟩ = some (.slice (some ⟨g1, 0, none⟩) s.kept.length p1) := (hI.kp.cell (p := ⟨w2.heap.size, 0, none⟩) (by show w2.heap.size < _; omega) (by show w2.heap.size ≠ _; omega)).trans bk3.cell
    have hrX : W.rangeAt Bx 0 (bv x.1.2) := fun j v hj => by
      rw [Nat.zero_add, cell_of_row _ _ _ _ _ _ hX]
      simpa using hj
    have hps : ∀ p ∈ pre.map Subtype.val, p.2.length = 64 := fun p hp => by obtain ⟨q, _, rfl⟩ := List.mem_map.1 hp; exact q.2.2
    have hth : W.there g1 (x.1.1 * 64) 64 := hI.there hok.sec hps hx1
    have hxl : (x.1.1 : Int) < (s.kept.length : Int) := by omega
    have hmore := hI.more hok.sec hps (.inr (by omega)) x.1 hx1 hx2
    gi_wp2_with (first
      | (have _t := hrX; refine wpListIn_load_mid (o := ⟨some 22, _, _, _, _, _⟩) (by rfl) 75 (.tmp 7) rfl Bx 0 rfl (bv x.1.2) _ hrX Try.underlying75 rfl hs64 ?_; clear hrX)
      | (have _t := hth; refine wpListIn_store_mid (o := ⟨none, .store _ _ _, _, _, _, _⟩) (by rfl) 75 (.tmp 23) (.tmp 22) rfl g1 (x.1.1 * 64) (bv x.1.2).toArray rfl rfl (by rw [List.size_toArray, hbl]; exact hth) (by rw [List.size_toArray]; exact hs64) (all_oneCell_toArray (bv_one _)) ?_; clear hth))
    refine ⟨KeepsFrom.of_grownBy (row := some g1) ?_ (fun j e => by cases e; omega), hmore.2, by show Put (fun _ => False) w W3 W3.heap.size g1 p1 s.kept ((pre ++ [x]).map Subtype.val) _; rw [List.map_append]; exact hmore.1⟩
    obtain ⟨s1, s2, s3'⟩ := setCells_streams g1 (bv x.1.2) (x.1.1 * 64) W
    exact ⟨s1, s2, s3', by rw [setCells_size]; exact Nat.le_refl _, fun k _ hk => setCells_heap_other g1 _ _ _ k fun e => hk (by rw [e])⟩
  case done =>
    rintro D ys W hD rfl hI hK
    have hWs := hI.kp.size
    have hps : (pick (fun k => keep.getD k false) (St.ws hok)).map Subtype.val = pick (fun k => keep.getD k false) s.waits := by rw [pick_map, St.ws_val]
    rw [hps] at hI
    have hbk := hI.kp.same w2.heap.size (by omega) (by omega)
    have cbx : W.cell? ⟨w2.heap.size, 0, none⟩ = some (.slice (some ⟨g1, 0, none⟩) s.kept.length p1) := (World.cell?_of_block (a := ⟨w2.heap.size, 0, none⟩) hbk).trans bk3.cell
    have hDlt : D < W.heap.size := (Array.getElem?_eq_some_iff.1 hK).1
    obtain ⟨A5, p5, e5, hrd⟩ := Rd.own hI.row
    cases e5
    have kc2 := clone_rows W.drew (Nat.le_refl _) hrd.drew (by simp) (scells_one _) (by omega)
    have kbox : ∀ w4 : World, Below W.drew.heap.size W.drew w4 → w4.cell? ⟨w2.heap.size, 0, none⟩ = some (.slice (some ⟨g1, 0, none⟩) s.kept.length p1) := fun w4 hb => (hb.cell (p := ⟨w2.heap.size, 0, none⟩) (by show w2.heap.size < W.heap.size; omega)).trans cbx
    gi_wp2
    refine wpIn_region_any (by kernel_rfl) ?_
    change wpAnyIn _ _ _ _ _ _ _ _ _ (World.drew _)
    refine wpAnyIn_ready (rs := [0, 1]) (by kernel_rfl) (by simp) (AllReadyIn.cons rfl (fun K hK => ?p0) (AllReadyIn.cons rfl (fun K hK => ?p1) AllReadyIn.nil))
    case p0 =>
      go_simp
      refine hK _ _ ?_
      clear hK K
      refine wpAnyIn_ready (rs := [1]) (by kernel_rfl) (by simp) (AllReadyIn.cons rfl (fun K hK => ?_) AllReadyIn.nil)
      go_simp
      refine hK _ _ ?_
      clear hK K
      refine wpAnyIn_ready (rs := [2]) (by kernel_rfl) (by simp) (AllReadyIn.cons rfl (fun K hK => ?_) AllReadyIn.nil)
      go_simp
      refine ⟨trivial, fun e => (by cases e), ?_⟩
      refine (callsIn_wide.2 kc2).mono ?_
      rintro e w4 ⟨v2, rfl, hv2, hb4⟩
      obtain ⟨g2, p2, rfl, hg2, hg2'⟩ := own_pos hv2 hpos
      have cbx4 := kbox _ hb4
      refine hK _ _ ?_
      clear hK K
      refine wpAnyIn_ready (rs := [3]) (by kernel_rfl) (by simp) (AllReadyIn.cons rfl (fun K hK => ?_) AllReadyIn.nil)
      go_simp
      refine hK _ _ ?_
      clear hK K
      refine wpAnyIn_ready (rs := [4]) (by kernel_rfl) (by simp) (AllReadyIn.cons rfl (fun K hK => ?_) AllReadyIn.nil)
      go_simp
      refine hK _ _ ?_
      clear hK K
      refine wpAnyIn_ready (rs := [5]) (by kernel_rfl) (by simp) (AllReadyIn.cons rfl (fun K hK => ?_) AllReadyIn.nil)
      go_simp
      refine hK _ _ ?_
      clear hK K
      refine wpAnyIn_done (by kernel_rfl) ?_ _
      gi_wp2
      have hK' : (w4.alloc (.cells #[.slice (some ⟨g1, 0, none⟩) s.kept.length p1, .slice (some ⟨g2, 0, none⟩) s.kept.length p2, .slice none 0 0, .int .i64 0, .bool false] 61)).heap[D]? = some (.deferred (some [])) := (Below.heap_alloc _ _ _ (Nat.lt_of_lt_of_le hDlt hb4.size)).trans ((hb4.block D hDlt).trans hK)
      refine ⟨by simp, .inl ⟨_, _, rfl, run_takeDeferred hK', ?_⟩⟩
      have hfin := restart_done (hok.restart keep) (l := puts s.kept (pick (fun k => keep.getD k false) s.waits)) rfl rfl rfl rfl rfl (puts_length _ _) (by omega) (hI.keeps.below (fun _ e => e.elim) (Nat.le_refl _)) hI.row (by omega) (by omega) ((Below.refl W.heap.size W).drew.trans hb4) hv2 hg2 hg2' (by omega) (by omega) hDlt
      exact ⟨_, results_tmp rfl _ _ _, _, rfl, hfin⟩
    case p1 =>
      go_simp
      refine hK _ _ ?_
      clear hK K
      refine wpAnyIn_ready (rs := [0, 2]) (by kernel_rfl) (by simp) (AllReadyIn.cons rfl (fun K hK => ?p10) (AllReadyIn.cons rfl (fun K hK => ?p12) AllReadyIn.nil))
      case p10 =>
        go_simp
        refine hK _ _ ?_
        clear hK K
        refine wpAnyIn_ready (rs := [2]) (by kernel_rfl) (by simp) (AllReadyIn.cons rfl (fun K hK => ?_) AllReadyIn.nil)
        go_simp
        refine ⟨trivial, fun e => (by cases e), ?_⟩
        refine (callsIn_wide.2 kc2).mono ?_
        rintro e w4 ⟨v2, rfl, hv2, hb4⟩
        obtain ⟨g2, p2, rfl, hg2, hg2'⟩ := own_pos hv2 hpos
        have cbx4 := kbox _ hb4
        refine hK _ _ ?_
        clear hK K
        refine wpAnyIn_ready (rs := [3]) (by kernel_rfl) (by simp) (AllReadyIn.cons rfl (fun K hK => ?_) AllReadyIn.nil)
        go_simp
        refine hK _ _ ?_
        clear hK K
        refine wpAnyIn_ready (rs := [4]) (by kernel_rfl) (by simp) (AllReadyIn.cons rfl (fun K hK => ?_) AllReadyIn.nil)
        go_simp
        refine hK _ _ ?_
        clear hK K
        refine wpAnyIn_ready (rs := [5]) (by kernel_rfl) (by simp) (AllReadyIn.cons rfl (fun K hK => ?_) AllReadyIn.nil)
        go_simp
        refine hK _ _ ?_
        clear hK K
        refine wpAnyIn_done (by kernel_rfl) ?_ _
        gi_wp2
        have hK' : (w4.alloc (.cells #[.slice (some ⟨g1, 0, none⟩) s.kept.length p1, .slice (some ⟨g2, 0, none⟩) s.kept.length p2, .slice none 0 0, .int .i64 0, .bool false] 61)).heap[D]? = some (.deferred (some [])) := (Below.heap_alloc _ _ _ (Nat.lt_of_lt_of_le hDlt hb4.size)).trans ((hb4.block D hDlt).trans hK)
        refine ⟨by simp, .inl ⟨_, _, rfl, run_takeDeferred hK', ?_⟩⟩
        have hfin := restart_done (hok.restart keep) (l := puts s.kept (pick (fun k => keep.getD k false) s.waits)) rfl rfl rfl rfl rfl (puts_length _ _) (by omega) (hI.keeps.below (fun _ e => e.elim) (Nat.le_refl _)) hI.row (by omega) (by omega) ((Below.refl W.heap.size W).drew.trans hb4) hv2 hg2 hg2' (by omega) (by omega) hDlt
        exact ⟨_, results_tmp rfl _ _ _, _, rfl, hfin⟩
      case p12 =>
        go_simp
        refine ⟨trivial, fun e => (by cases e), ?_⟩
        refine (callsIn_wide.2 kc2).mono ?_
        rintro e w4 ⟨v2, rfl, hv2, hb4⟩
        obtain ⟨g2, p2, rfl, hg2, hg2'⟩ := own_pos hv2 hpos
        have cbx4 := kbox _ hb4
        refine hK _ _ ?_
        clear hK K
        refine wpAnyIn_ready (rs := [0]) (by kernel_rfl) (by simp) (AllReadyIn.cons rfl (fun K hK => ?_) AllReadyIn.nil)
        go_simp
        refine hK _ _ ?_
        clear hK K
        refine wpAnyIn_ready (rs := [3]) (by kernel_rfl) (by simp) (AllReadyIn.cons rfl (fun K hK => ?_) AllReadyIn.nil)
        go_simp
        refine hK _ _ ?_
        clear hK K
        refine wpAnyIn_ready (rs := [4]) (by kernel_rfl) (by simp) (AllReadyIn.cons rfl (fun K hK => ?_) AllReadyIn.nil)
        go_simp
        refine hK _ _ ?_
        clear hK K
        refine wpAnyIn_ready (rs := [5]) (by kernel_rfl) (by simp) (AllReadyIn.cons rfl (fun K hK => ?_) AllReadyIn.nil)
        go_simp
        refine hK _ _ ?_
        clear hK K
        refine wpAnyIn_done (by kernel_rfl) ?_ _
        gi_wp2
        have hK' : (w4.alloc (.cells #[.slice (some ⟨g1, 0, none⟩) s.kept.length p1, .slice (some ⟨g2, 0, none⟩) s.kept.length p2, .slice none 0 0, .int .i64 0, .bool false] 61)).heap[D]? = some (.deferred (some [])) := (Below.heap_alloc _ _ _ (Nat.lt_of_lt_of_le hDlt hb4.size)).trans ((hb4.block D hDlt).trans hK)
        refine ⟨by simp, .inl ⟨_, _, rfl, run_takeDeferred hK', ?_⟩⟩
        have hfin := restart_done (hok.restart keep) (l := puts s.kept (pick (fun k => keep.getD k false) s.waits)) rfl rfl rfl rfl rfl (puts_length _ _) (by omega) (hI.keeps.below (fun _ e => e.elim) (Nat.le_refl _)) hI.row (by omega) (by omega) ((Below.refl W.heap.size W).drew.trans hb4) hv2 hg2 hg2' (by omega) (by omega) hDlt
        exact ⟨_, results_tmp rfl _ _ _, _, rfl, hfin⟩
  case stop =>
    rintro D c pre W _ _ h _
    exact h.elim
theorem restart_s (h : Ds S w b s) (hw : s.waits.length ≤ 1000000) {A : Option Addr} {c C : Nat} {keep : List Bool} (hr : Rd w C 1 A keep.length c (keep.map Value.bool)) (hC : C ≤ w.heap.size) :
    Calls Try.prog 25 #[.pointer (some ⟨b, 0, none⟩), .slice A keep.length c] w fun e w' => ∃ b', e = .returned (.pointer (some ⟨b', 0, none⟩)) ∧ Ds (In w.heap.size w'.heap.size) w' b' (s.restart keep) ∧ Below w.heap.size w w' := callsIn_wide.1 (restart_in 6 (by omega) h hw hr hC)
theorem restart_any (h : Dk lo hi w b s) (hw : s.waits.length ≤ 1000000) {A : Option Addr} {c C : Nat} {keep : List Bool} (hr : Rd w C 1 A keep.length c (keep.map Value.bool)) (hC : C ≤ w.heap.size) :
    Calls Try.prog 25 #[.pointer (some ⟨b, 0, none⟩), .slice A keep.length c] w fun e w' => ∃ b', e = .returned (.pointer (some ⟨b', 0, none⟩)) ∧ Dk w.heap.size w'.heap.size w' b' (s.restart keep) ∧ Below w.heap.size w w' :=
  (restart_s h.1 hw hr hC).mono fun _ _ ⟨b', he, hd, hb⟩ => ⟨b', he, ⟨hd, Nat.le_refl _⟩, hb⟩
end
end Go.Proofs.Ytgppaompcnllbaa
