/- Layer 3: Write. Condition: fewer than a million writes wait. -/
import Derived.Test.YtgppaompcnllbaaMade
import Derived.Test.YtgppaompcnllbaaArr
import Derived.Deep.DeepMust
namespace Go.Proofs.Ytgppaompcnllbaa
open Go.RowKit

theorem write_nil (w : World) (i : Int) (A : Option Addr) (n c : Nat) : Calls Try.prog 21 #[.pointer none, .int .i64 i, .slice A n c] w fun e w' => e = .returned (.int .i64 1) ∧ w' = w := by
  go_enter Try.func21, Try.ntmps21
  go_wp2_with ((with_reducible refine (has_nil _ _).mono ?_); rintro e w1 ⟨rfl, rfl⟩)
  go_ret
  exact ⟨rfl, rfl⟩

/-- The zero of a write that waits, and the same with its place. -/
def zeroW : Array Value := #[.int .i64 0] ++ Array.replicate 64 (.int .u8 0)
theorem zeroW_run (W : World) : (zeroValue 77).run Try.prog W = .ok (.agg zeroW) W := (zero_of_info (P := Try.prog) (t := 77) (v := .agg zeroW) (n := 65) (by kernel_rfl)).1 W
theorem zeroW_ne : (zeroW = #[]) = False := by simp [zeroW]
theorem zeroW_set (k : Nat) : zeroW.setIfInBounds 0 (.int .i64 (k : Int)) = (wcell (k, List.replicate 64 0)).toArray := by
  simp [zeroW, wcell, bv]
theorem zeroW_size : zeroW.size = 65 := by simp [zeroW]
theorem zeros_len : (List.replicate 64 (0 : UInt8)).length = 64 := by simp
theorem storeW (W : World) (C : Array Value) (hC : C.size = 65) (h1 : C.all (·.oneCell') = true) :
    (Instr.storeAt 77 (.pointer (some ⟨W.heap.size, 0, none⟩)) (.agg C)).run Try.prog (W.alloc (.cells zeroW 77)) = .ok () (W.alloc (.cells C 77)) :=
  run_storeAt_new W 77 zeroW C (by rw [hC]; kernel_rfl) (by rw [zeroW_size, hC]) h1
theorem storeWC (W : World) (C : List Value) (hC : C.length = 65) (h1 : C.toArray.all (·.oneCell') = true) :
    (storeCells ⟨W.heap.size, 0, none⟩ C 0).run Try.prog (W.alloc (.cells zeroW 77)) = .ok () (W.alloc (.cells C.toArray 77)) := by
  have := run_storeCells_new (P := Try.prog) W 77 zeroW C.toArray (by simp only [List.size_toArray]; rw [hC]; kernel_rfl) (by simp [zeroW_size, hC]) h1
  simpa using this
theorem splice_pad (k : Nat) (l : List UInt8) : splice (wcell (k, List.replicate 64 0)) 1 (bv l) = wcell (k, pad l) := by
  simp only [splice, wcell, List.take_succ_cons, List.take_zero, bv_length, Nat.add_comm 1, List.drop_succ_cons, bv_drop, pad, bv_append, List.drop_replicate]
  rfl

/-! a row with cells set anew in its midst -/
theorem setCells_heap_all (b : Nat) (t : TypeId) (fr : Nat × Nat) : ∀ (vs : List Value) (o : Nat) (w : World) (cur : Array Value), w.heap[b]? = some (.cells cur t fr) → o + vs.length ≤ cur.size →
    (w.setCells b o vs).heap[b]? = some (.cells (cur.toList.take o ++ (vs ++ cur.toList.drop (o + vs.length))).toArray t fr)
  | [], o, w, cur, h, _ => by simp [World.setCells, h]
  | v :: r, o, w, cur, h, hl => by
    simp only [List.length_cons] at hl
    have h1 : (w.setCell ⟨b, o, none⟩ v).heap[b]? = some (.cells (cur.setIfInBounds o v) t fr) := by
      simp [World.setCell, Array.getElem?_modify, h]
    have := setCells_heap_all b t fr r (o + 1) _ _ h1 (by simp; omega)
    show ((w.setCell ⟨b, o, none⟩ v).setCells b (o + 1) r).heap[b]? = _
    rw [this]
    have e1 : (cur.setIfInBounds o v).toList.take (o + 1) = cur.toList.take o ++ [v] := by
      rw [Array.toList_setIfInBounds, List.take_set, List.take_succ_eq_append_getElem (by simp; omega)]
      rw [List.set_append_right _ _ (by simp; omega)]
      simp [show min o cur.size = o from by omega]
    have e2 : (cur.setIfInBounds o v).toList.drop (o + 1 + r.length) = cur.toList.drop (o + (r.length + 1)) := by
      rw [Array.toList_setIfInBounds, List.drop_set_of_lt (by omega), show o + 1 + r.length = o + (r.length + 1) from by omega]
    rw [e1, e2]; simp
theorem own_setCells {w : World} {base : Nat} {e : TypeId} {size n g cap : Nat} {xs : List Value} (h : w.ownsRow base e size (.slice (some ⟨g, 0, none⟩) n cap) n xs) (o : Nat) (vs : List Value) (hl : o + vs.length ≤ xs.length) :
    (w.setCells g o vs).ownsRow base e size (.slice (some ⟨g, 0, none⟩) n cap) n (xs.take o ++ vs ++ xs.drop (o + vs.length)) := by
  obtain ⟨h1, h2⟩ := h
  refine ⟨by rw [← h1]; simp; omega, ?_⟩
  rcases h2 with ⟨hv, _⟩ | ⟨g', cap', cur, hv, hg, hh, hn, hm, hs, ht⟩
  · cases hv
  · cases hv
    have hlx : xs.length ≤ cur.size := by rw [h1, hs]; exact Nat.mul_le_mul_right _ hn
    refine .inr ⟨g, cap, _, rfl, hg, setCells_heap_all g e (0, 0) vs o w cur hh (by omega), hn, hm, ?_, ?_⟩
    · simp; omega
    · have e0 : xs = cur.toList.take xs.length := by rw [h1, ht]
      rw [← h1]
      simp only [List.append_assoc]
      rw [show xs.length = (List.take o cur.toList).length + (vs.length + (xs.length - (o + vs.length))) from by simp; omega, List.take_length_add_append, List.take_length_add_append]
      have e1 : cur.toList.take o = xs.take o := by
        conv => rhs; rw [e0]
        rw [List.take_take, Nat.min_eq_left (by omega)]
      have e2 : (cur.toList.drop (o + vs.length)).take (xs.length - (o + vs.length)) = xs.drop (o + vs.length) := by
        conv => rhs; rw [e0]
        rw [List.drop_take]
      rw [e1, e2]
/-- What a write leaves. -/
theorem write_done {S : Nat → Prop} {w3 w4 : World} {b : Nat} {s : St} {kb ck nb cn : Nat} {wv v1 : Value} (h : DkAt S w3 b s kb ck nb cn wv) (o : Obj) (k : Nat) (l : List UInt8) (hk : k < s.kept.length) (hl : l.length ≤ 64)
    (hown : w4.ownsRow 0 77 65 v1 (s.waits.length + 1) (wcells s.waits ++ wcell (k, pad l))) (hg : (w3.drew.alloc o).grownBy w4 wv.ownBlock) (hat : v1.ownBlock = wv.ownBlock ∨ v1.ownBlock = some (w3.drew.alloc o).heap.size) :
    Ds (Grow S w3 ((w4.setCell ⟨b, 2, none⟩ v1).drew.setCells nb (k * 64) (bv (pad l)))) ((w4.setCell ⟨b, 2, none⟩ v1).drew.setCells nb (k * 64) (bv (pad l))) b (s.wrote k l) ∧ Ks S w3 ((w4.setCell ⟨b, 2, none⟩ v1).drew.setCells nb (k * 64) (bv (pad l))) := by
  have hpl := pad_length hl
  have hg0 : w3.grownBy (w3.drew.alloc o) none := ⟨rfl, rfl, rfl, by simp, fun k hk _ => heap_alloc_old w3.drew o hk⟩
  have hs4 : w3.heap.size ≤ w4.heap.size := Nat.le_trans hg0.size hg.size
  have h4 : ∀ g, g < w3.heap.size → some g ≠ wv.ownBlock → w4.heap[g]? = w3.heap[g]? := fun g h1 h2 => (hg.block g (Nat.lt_of_lt_of_le h1 hg0.size) h2).trans (hg0.block g h1 (by simp))
  have hv1 : ∀ g, g < w3.heap.size → wv.ownBlock ≠ some g → v1.ownBlock ≠ some g := by
    intro g h1 h2 h3
    rcases hat with hat | hat
    · exact h2 (hat.symm.trans h3)
    · rw [hat] at h3; simp at h3; omega
  have hbs := h.bs
  have hks := h.ks
  have hns := h.ns
  have hblk : ∀ g, g ≠ b → g ≠ nb → ((w4.setCell ⟨b, 2, none⟩ v1).drew.setCells nb (k * 64) (bv (pad l))).heap[g]? = w4.heap[g]? := fun g h1 h2 =>
    (setCells_heap_other nb _ _ _ g h2).trans (Below.heap_setCell w4 ⟨b, 2, none⟩ v1 g h1)
  have hsize : ((w4.setCell ⟨b, 2, none⟩ v1).drew.setCells nb (k * 64) (bv (pad l))).heap.size = w4.heap.size := by
    rw [setCells_size]; simp [World.setCell, World.drew]
  have hv1l : ∀ g, v1.ownBlock = some g → g < w4.heap.size := fun g e => (hown.lt g e).2
  have hnow : w4.ownsRow 0 75 64 (.slice (some ⟨nb, 0, none⟩) s.kept.length cn) s.kept.length (scells s.now) := own_same h.now fun g e => by cases e; exact h4 nb hns fun e => h.wn e.symm
  have hnow2 : (w4.setCell ⟨b, 2, none⟩ v1).drew.ownsRow 0 75 64 (.slice (some ⟨nb, 0, none⟩) s.kept.length cn) s.kept.length (scells s.now) := own_same hnow fun g e => by cases e; exact Below.heap_setCell w4 ⟨b, 2, none⟩ v1 nb (fun e => h.bn e.symm)
  refine ⟨⟨kb, ck, nb, cn, v1, ?_⟩, ?_⟩
  · refine ⟨h.ok.wrote (by omega) (by omega) hl, fun g e => ?_, .inl h.hb, .inl h.hk, .inl h.hn, fun g e => ?_, h.bk, h.bn, h.kn, hv1 b hbs h.wb, hv1 kb hks h.wk, hv1 nb hns h.wn, ?_, ?_, ?_, ?_⟩
    · rcases e with e | e
      · have := h.size g e; omega
      · exact e.2
    · rcases hat with hat | hat
      · exact .inl (h.hw g (hat.symm.trans e))
      · exact .inr ⟨by rw [hat] at e; simp at e; omega, by rw [hsize]; exact hv1l g e⟩
    · rw [setCells_heap_other nb _ _ _ b h.bn]
      show (w4.setCell ⟨b, 2, none⟩ v1).heap[b]? = _
      rw [heap_setCell_same _ _ _ _ _ _ ((h4 b hbs fun e => h.wb e.symm).trans h.cells)]
      rfl
    · exact own_same h.kept fun g e => by
        cases e
        exact (hblk kb (fun e => h.bk e.symm) h.kn).trans (h4 kb hks fun e => h.wk e.symm)
    · have := own_setCells hnow2 (k * 64) (bv (pad l)) (by rw [bv_length, hpl, scells_length h.ok.nowSec, St.nowLen]; omega)
      rw [bv_length, hpl] at this
      rw [St.now_wrote, Int.toNat_natCast, scells_set h.ok.nowSec (by rw [St.nowLen]; exact hk)]
      exact this
    · have e : wcells (s.wrote k l).waits = wcells s.waits ++ wcell (k, pad l) := by
        show wcells (s.waits ++ [((k : Int).toNat, pad l)]) = _
        rw [wcells_snoc, Int.toNat_natCast]
      rw [e, show (s.wrote k l).waits.length = s.waits.length + 1 from by simp [St.wrote]]
      exact own_same hown fun g e => hblk g (fun e2 => hv1 b hbs h.wb (by rw [← e2]; exact e)) (fun e2 => hv1 nb hns h.wn (by rw [← e2]; exact e))
  · have k1 : Ks S w3 (w3.drew.alloc o) := (Ks.refl S w3).drew.alloc o
    have k2 : Ks S w3 w4 := k1.grown hg fun g e => .inl (h.hw g e)
    exact ((k2.setCell (p := ⟨b, 2, none⟩) (.inl h.hb) v1).drew).setCells (.inl h.hn) _ _

section
variable {S : Nat → Prop} {lo hi : Nat} {w : World} {b : Nat} {s : St}
theorem write_bad_s (h : Ds S w b s) (i : Int) (A : Option Addr) (n c : Nat) (hb : s.has i = false ∨ 64 < n) :
    Calls Try.prog 21 #[.pointer (some ⟨b, 0, none⟩), .int .i64 i, .slice A n c] w fun e w' => e = .returned (.int .i64 1) ∧ w' = w := by
  have kh := has_s h i
  go_enter Try.func21, Try.ntmps21
  cases hh : s.has i with
  | false =>
    rw [hh] at kh
    go_wp2_with ((with_reducible refine kh.mono ?_); rintro e w1 ⟨rfl, rfl⟩)
    go_ret
    exact ⟨rfl, rfl⟩
  | true =>
    rw [hh] at kh
    have hn : 64 < n := by rcases hb with hb | hb; exact absurd (hh.symm.trans hb) (by simp); exact hb
    go_wp2_with ((with_reducible refine kh.mono ?_); rintro e w1 ⟨rfl, rfl⟩)
    go_ret
    exact ⟨rfl, rfl⟩
theorem write_dead_s (h : Ds S w b s) (i : Int) (A : Option Addr) (n c : Nat) (hh : s.has i = true) (hn : n ≤ 64) (hd : s.count.dead = true) :
    Calls Try.prog 21 #[.pointer (some ⟨b, 0, none⟩), .int .i64 i, .slice A n c] w fun e w' => e = .returned (.int .i64 20) ∧ Ds S w' b s.count ∧ Ks S w w' := by
  have kh := has_s h i
  have ks := stops_s h
  rw [hh] at kh
  rw [hd] at ks
  go_enter Try.func21, Try.ntmps21
  go_wp2_with (first
    | ((with_reducible refine kh.mono ?_); rintro e w1 ⟨rfl, rfl⟩)
    | ((with_reducible refine ks.mono ?_); rintro e w2 ⟨rfl, hd2, hk2⟩))
  go_ret
  exact ⟨rfl, hd2, hk2⟩

set_option maxRecDepth 100000 in
set_option maxHeartbeats 1000000 in
theorem write_s (h : Ds S w b s) (i : Int) {A : Option Addr} {n c : Nat} {l : List UInt8} (hr : Rd w w.heap.size 1 A n c (bv l)) (ha : 0 < n → ∀ b o, A = some ⟨b, o, none⟩ → ¬ S b)
    (hh : s.has i = true) (hn : n ≤ 64) (hd : s.count.dead = false) (hw : s.waits.length < 1000000) :
    Calls Try.prog 21 #[.pointer (some ⟨b, 0, none⟩), .int .i64 i, .slice A n c] w fun e w' => e = .returned (.int .i64 0) ∧ Ds (Grow S w w') w' b (s.count.wrote i l) ∧ Ks S w w' := by
  have kh := has_s h i
  have ks := stops_s h
  rw [hh] at kh
  rw [hd] at ks
  go_enter Try.func21, Try.ntmps21
  obtain ⟨k, rfl⟩ : ∃ k : Nat, i = (k : Int) := ⟨i.toNat, by have := St.has_iff.1 hh; omega⟩
  have hok2 := h.size
  have hwl : (wcell (k, List.replicate 64 0)).length = 65 := wcell_length zeros_len
  have hw1 : (wcell (k, List.replicate 64 0)).toArray.all (·.oneCell') = true := all_oneCell_toArray (fun u hu => wcells_one [(k, List.replicate 64 0)] u (by simpa [wcells] using hu))
  obtain rfl := hr.lenB
  have kcp : ∀ (W : World) (o : Obj), Ks S w W → 0 < (bv l).length → ∃ ad, A = some ad ∧ ∀ j v, (bv l)[j]? = some v → (W.alloc o).cell? (ad.add j) = some v := by
    intro W o hk hp
    have hr2 := hk.rd hr ha
    obtain ⟨bb, o, rfl, hbb, hcc⟩ := hr2.at_ (by rw [bv_length] at hp; omega)
    refine ⟨_, rfl, fun j v hj => ?_⟩
    rw [Addr.add_mid]
    have := hcc j v hj
    rw [World.cell?_alloc_lt _ _ _ (World.block_lt_of_cell? _ _ this)]
    exact this
  have z1 := zeroW_run
  have z2 := zeroW_ne
  have z3 := zeroW_set k
  have z4 := fun W : World => storeW W (wcell (k, List.replicate 64 0)).toArray (by rw [List.size_toArray]; exact hwl) hw1
  have z5 := fun W : World => storeWC W _ hwl hw1
  have z6 := zeroW_size
  have z7 := splice_pad k l
  have hpl := pad_length (l := l) (by omega)
  generalize wcell (k, List.replicate 64 0) = Z at *
  have hu8 : (Try.prog.info? 5).map (·.size) = some 1 := by kernel_rfl
  go_wp2_with (first
    | ((with_reducible refine kh.mono ?_); rintro e w1 ⟨rfl, rfl⟩)
    | ((with_reducible refine ks.mono ?_); rintro e w2 ⟨rfl, hd2, hk2⟩)
    | (with_reducible show wpList _ _ _ (⟨some 24, _, _, _, _, _⟩ :: _) _ _; go_must (refine wpList_copy_splice rfl (.tmp 22) (.tmp 23) 36 36 rfl 5 Try.underlying36 hu8 (some ⟨w2.heap.size, 1, none⟩) A 64 64 l.length c rfl rfl w2.heap.size 1 Z 77 (heap_alloc_new _ _) (bv l) (by rw [bv_length]; exact (Nat.min_eq_left hn).symm) (fun hp => ⟨rfl, kcp _ _ hk2 hp⟩) (by rw [hwl, bv_length]; omega) (bv_one l) w2.heap.size w2 ((Below.refl _ _).alloc (Nat.le_refl _) _) (Nat.le_refl _) ?_); intro w3 Hc3 hb3; clear z1 z2 z3 z4 z5 z6))
  have hc3 := Hc3.out
  rw [z7] at hc3
  clear Hc3 z7 kh ks kcp
  have hN2 := hd2.size
  have hd3 := hd2.below hb3
  obtain ⟨kb, ck, nb, cn, wv, hd3⟩ := hd3
  have hN3 : w2.heap.size < w3.heap.size := (Array.getElem?_eq_some_iff.1 hc3).1
  generalize hN : w2.heap.size = N at *
  have hCl : (wcell (k, pad l)).length = 65 := wcell_length hpl
  have hC1 : ∀ u ∈ wcell (k, pad l), u.oneCell' = true := fun u hu => wcells_one [(k, pad l)] u (by simpa [wcells] using hu)
  generalize hC : wcell (k, pad l) = C at *
  have c2 := hd3.c2
  have f2 := hd3.fz 2
  have hb3s : b < w3.heap.size := hd3.bs
  obtain ⟨i0, hin, hz0, hz1, hz2⟩ := info_parts info_write
  have hsw : (Try.prog.info? 77).map (·.size) = some C.length := by rw [hCl]; kernel_rfl
  have hrg : w3.drew.rangeAt N 0 C := by rw [World.rangeAt_drew, World.rangeAt]; intro j v hj; rw [Nat.zero_add, cell_of_row _ _ _ _ _ _ hc3]; simpa using hj
  refine wp_region_any (by kernel_rfl) ?_
  change wpAny _ _ _ _ _ _ _ (World.drew _)
  refine ro_take 0 (some 25) (v := ?v0) rfl rfl (by kernel_rfl) (by kernel_rfl) (by kernel_rfl) (fun _ _ _ h => h) (by rfl) ?y0 ?r0
  case y0 => (intro w; go_simp; try with_reducible rfl)
  simp only [Act.put, List.setIfInBounds_toArray, List.set_cons_zero, List.set_cons_succ]
  refine ro_take 1 (some 26) (v := ?v1) rfl rfl (by kernel_rfl) (by kernel_rfl) (by kernel_rfl) (fun _ _ _ h => h) (by rfl) ?y1 ?r1
  case y1 => (intro w; go_simp; try with_reducible rfl)
  simp only [Act.put, List.setIfInBounds_toArray, List.set_cons_zero, List.set_cons_succ]
  refine ro_take 2 (some 27) (v := ?v2) rfl rfl (by kernel_rfl) (by kernel_rfl) (by kernel_rfl) (fun _ _ _ h => h) (by rfl) ?y2 ?r2
  case y2 => (intro w; go_simp; try with_reducible rfl)
  simp only [Act.put, List.setIfInBounds_toArray, List.set_cons_zero, List.set_cons_succ]
  refine ro_take 3 (some 28) (v := ?v3) rfl rfl (by kernel_rfl) (by kernel_rfl) (by kernel_rfl) (fun _ _ _ h => h) (by rfl) ?y3 ?r3
  case y3 => (intro w; go_simp; try with_reducible rfl)
  simp only [Act.put, List.setIfInBounds_toArray, List.set_cons_zero, List.set_cons_succ]
  refine (fun (fin : Hid (?T : Prop)) => ?main) (Lib.hid ?fin)
  case main =>
    refine wpAny_ready (rs := [4, 5]) (by kernel_rfl) (by simp) (AllReady.cons rfl (fun K hK => ?p4) (AllReady.cons rfl (fun K hK => ?p5) AllReady.nil))
    case p4 =>
      go_simp
      refine hK _ _ ?_
      clear hK K
      refine wpAny_ready (rs := [5]) (by kernel_rfl) (by simp) (AllReady.cons rfl (fun K hK => ?_) AllReady.nil)
      refine step_load (some 30) rfl rfl 77 (.tmp 7) rfl N 0 rfl C _ hrg Try.underlying77 rfl hsw ?_
      simp only [Act.put, List.setIfInBounds_toArray, List.set_cons_zero, List.set_cons_succ]
      refine hK _ _ ?_
      clear hK K
      refine wpAny_ready (rs := [6]) (by kernel_rfl) (by simp) (AllReady.cons rfl (fun K hK => ?_) AllReady.nil)
      refine step_build1 (some 31) rfl rfl 59 77 (.tmp 30) rfl C 65 hCl (by decide) (by decide) rfl i0 _ Try.underlying59 hin hz0 hz1 ?_
      simp only [Act.put, List.setIfInBounds_toArray, List.set_cons_zero, List.set_cons_succ]
      refine hK _ _ ?_
      clear hK K
      refine any_as (l := #[true, true, true, true, true, true, true, false, false, false, false]) (n := 4) (by kernel_rfl) (by kernel_rfl) ?_
      exact fin.out
    case p5 =>
      refine step_load (some 30) rfl rfl 77 (.tmp 7) rfl N 0 rfl C _ hrg Try.underlying77 rfl hsw ?_
      simp only [Act.put, List.setIfInBounds_toArray, List.set_cons_zero, List.set_cons_succ]
      refine hK _ _ ?_
      clear hK K
      refine wpAny_ready (rs := [4, 6]) (by kernel_rfl) (by simp) (AllReady.cons rfl (fun K hK => ?p54) (AllReady.cons rfl (fun K hK => ?p56) AllReady.nil))
      case p54 =>
       go_simp
       refine hK _ _ ?_
       clear hK K
       refine wpAny_ready (rs := [6]) (by kernel_rfl) (by simp) (AllReady.cons rfl (fun K hK => ?_) AllReady.nil)
       refine step_build1 (some 31) rfl rfl 59 77 (.tmp 30) rfl C 65 hCl (by decide) (by decide) rfl i0 _ Try.underlying59 hin hz0 hz1 ?_
       simp only [Act.put, List.setIfInBounds_toArray, List.set_cons_zero, List.set_cons_succ]
       refine hK _ _ ?_
       clear hK K
       refine any_as (l := #[true, true, true, true, true, true, true, false, false, false, false]) (n := 4) (by kernel_rfl) (by kernel_rfl) ?_
       exact fin.out
      case p56 =>
       refine step_build1 (some 31) rfl rfl 59 77 (.tmp 30) rfl C 65 hCl (by decide) (by decide) rfl i0 _ Try.underlying59 hin hz0 hz1 ?_
       simp only [Act.put, List.setIfInBounds_toArray, List.set_cons_zero, List.set_cons_succ]
       refine hK _ _ ?_
       clear hK K
       refine wpAny_ready (rs := [4]) (by kernel_rfl) (by simp) (AllReady.cons rfl (fun K hK => ?_) AllReady.nil)
       go_simp
       refine hK _ _ ?_
       clear hK K
       refine any_as (l := #[true, true, true, true, true, true, true, false, false, false, false]) (n := 4) (by kernel_rfl) (by kernel_rfl) ?_
       exact fin.out
  case fin =>
    have hsrc : Src Try.prog 65 59 (.slice (some ⟨w3.drew.heap.size, 0, none⟩) 1 1) 1 C (w3.drew.alloc (.cells C.toArray 77)) :=
      Src.ofSlice _ Try.underlying59 _ 1 1 C (by rw [hCl]) (fun j u hj => by rw [Addr.add_mid, Nat.zero_add, cell_of_row _ _ _ _ _ _ (heap_alloc_new _ _)]; simpa using hj) hC1
    have hcw := St.count_waits s
    refine wpAny_ready (rs := [7]) (by kernel_rfl) (by simp) (AllReady.cons rfl (fun K hK => ?_) AllReady.nil)
    refine step_append_src (some 32) rfl rfl (.tmp 29) (.tmp 31) 59 59 rfl 0 77 i0 _ 65 72 Try.underlying59 hin hz0 hz1 hz2 rfl (by decide) wv s.count.waits.length (wcells s.count.waits) rfl (World.ownsRow.alloc (own_same hd3.waits fun _ _ => rfl) _) _ 1 C rfl hsrc (by rw [hcw]; simp only [maxLen]; omega) (by rw [hcw]; omega) (by simp) ?_
    intro v1 w4 hown4 hg4 hat4
    simp only [Act.put, List.setIfInBounds_toArray, List.set_cons_zero, List.set_cons_succ]
    refine hK _ _ ?_
    clear hK K
    obtain ⟨A1, c1, rfl, _⟩ := Rd.own hown4
    rw [← hC] at hown4
    have hdone := fun W5 (e : W5 = ((w4.setCell ⟨b, 2, none⟩ (.slice A1 (s.count.waits.length + 1) c1)).drew.setCells nb (k * 64) (bv (pad l)))) => e ▸ write_done hd3 _ k l (by rw [St.count_kept]; have := (St.has_iff.1 hh).2; omega) hn hown4 hg4 hat4
    have hg0 : w3.grownBy (w3.drew.alloc (.cells C.toArray 77)) none := ⟨rfl, rfl, rfl, by simp, fun k hk _ => heap_alloc_old w3.drew _ hk⟩
    have h4 : ∀ g, g < w3.heap.size → some g ≠ wv.ownBlock → w4.heap[g]? = w3.heap[g]? := fun g h1 h2 => (hg4.block g (Nat.lt_of_lt_of_le h1 hg0.size) h2).trans (hg0.block g h1 (by simp))
    have e4b := h4 b hb3s (fun e => hd3.wb e.symm)
    have e4N := h4 N hN3 (fun e => by have := hN2 N (hd3.hw N e.symm); omega)
    have c2' : w4.cell? ⟨b, 2, none⟩ = some wv := (World.cell?_of_block e4b).trans c2
    have f2' : w4.frozen? ⟨b, 2, none⟩ = false := (World.frozen?_of_block e4b).trans f2
    have c1' : w4.cell? ⟨b, 1, none⟩ = some (.slice (some ⟨nb, 0, none⟩) s.count.kept.length cn) := (World.cell?_of_block e4b).trans hd3.c1
    have e4n : w4.heap[nb]? = w3.heap[nb]? := h4 nb hd3.ns (fun e => hd3.wn e.symm)
    clear hg4 hat4 hown4 hsrc h4 hcw
    refine ro_take 8 (some 33) (v := ?v8) rfl rfl (by kernel_rfl) (by kernel_rfl) (by kernel_rfl) (fun _ _ _ h => h) (by rfl) ?y8 ?r8
    case y8 => (intro w; go_simp; try with_reducible rfl)
    simp only [Act.put, List.setIfInBounds_toArray, List.set_cons_zero, List.set_cons_succ]
    refine ro_take 9 (some 34) (v := ?v9) rfl rfl (by kernel_rfl) (by kernel_rfl) (by kernel_rfl) (fun _ _ _ h => h) (by rfl) ?y9 ?r9
    case y9 => (intro w; go_simp; try with_reducible rfl)
    simp only [Act.put, List.setIfInBounds_toArray, List.set_cons_zero, List.set_cons_succ]
    refine wpAny_ready (rs := [10]) (by kernel_rfl) (by simp) (AllReady.cons rfl (fun K hK => ?_) AllReady.nil)
    go_simp
    refine hK _ _ ?_
    clear hK K
    refine wpAny_done (by kernel_rfl) ?_ _
    go_wp2
    have hkk : k < s.count.kept.length := by rw [St.count_kept]; have := (St.has_iff.1 hh).2; omega
    have hmost := hd3.ok.most
    have hnow := hd3.now
    obtain ⟨w5, hw5⟩ : ∃ w5, w4.setCell ⟨b, 2, none⟩ (.slice A1 (s.count.waits.length + 1) c1) = w5 := ⟨_, rfl⟩
    rw [hw5] at hdone ⊢
    have d1 : w5.drew.cell? ⟨b, 1, none⟩ = some (.slice (some ⟨nb, 0, none⟩) s.count.kept.length cn) := by
      rw [← hw5]; exact (World.cell?_setCell_other _ _ _ _ (by simp)).trans c1'
    have hbN : N ≠ b := by have := hN2 b hd3.hb; omega
    have e5N : w5.drew.heap[N]? = some (.cells C.toArray 77 (0, 0)) := by
      rw [← hw5]; exact (Below.heap_setCell w4 ⟨b, 2, none⟩ _ N hbN).trans (e4N.trans hc3)
    have hr5 : w5.drew.rangeAt N 1 (bv (pad l)) := fun j v hj => by
      rw [cell_of_row _ _ _ _ _ _ e5N, ← hC]
      simpa [wcell, Nat.add_comm 1] using hj
    have e5n : w5.drew.heap[nb]? = w3.heap[nb]? := by
      rw [← hw5]; exact (Below.heap_setCell w4 ⟨b, 2, none⟩ _ nb (fun e => hd3.bn e.symm)).trans e4n
    have ht5 : w5.drew.there nb (k * 64) 64 := fun j hj => by
      have hc := hnow.cellAt (k * 64 + j) (by omega)
      have hf := hnow.frozenAt (k * 64 + j)
      refine ⟨?_, (World.frozen?_of_block e5n).trans hf⟩
      rw [World.cell?_of_block (w := w3) (a := ⟨nb, k * 64 + j, none⟩) e5n, hc, List.getElem?_eq_getElem (by rw [scells_length hd3.ok.nowSec, St.nowLen]; omega)]
      rfl
    have hs5 : (Try.prog.info? 75).map (·.size) = some (bv (pad l)).length := by rw [bv_length, hpl]; kernel_rfl
    have hb64 : (bv (pad l)).length = 64 := by rw [bv_length, hpl]
    clear c1' c2' f2' e4b e4N e4n c2 f2
    refine wp_region_still_tail 8 (by kernel_rfl) (by kernel_rfl) ?_
    change wpStill _ _ (World.drew _) _ _ _
    simp only [List.take_succ_cons, List.take_zero, List.drop_succ_cons, List.drop_zero]
    still_step
    still_step
    still_step
    still_step
    still_step
    still_step
    refine still_load_mid (some 41) rfl rfl 75 (.tmp 40) rfl N 1 rfl (bv (pad l)) _ hr5 Try.underlying75 rfl hs5 ?_
    simp only [Act.put, List.setIfInBounds_toArray, List.set_cons_zero, List.set_cons_succ]
    still_step
    refine wpStill_nil ?_
    change wpList _ _ _ _ _ w5.drew
    refine wpList_store_mid rfl 75 (.tmp 42) (.tmp 41) rfl nb (k * 64) (bv (pad l)).toArray rfl rfl (by rw [List.size_toArray, hb64]; exact ht5) (by rw [List.size_toArray]; exact hs5) (all_oneCell_toArray (bv_one _)) ?_
    go_wp2
    go_ret
    obtain ⟨g1, g2⟩ := hdone _ rfl
    have k3 : Ks S w2 w3 := Ks.all (by rw [hN]; exact hb3)
    have k13 := (hk2.trans k3).size
    refine ⟨rfl, g1.wide (fun g e => ?_) (fun g e => ?_), (hk2.trans k3).trans g2⟩
    · rcases e with e | e
      · exact .inl e
      · exact .inr ⟨by omega, e.2⟩
    · rcases e with e | e
      · exact Nat.lt_of_lt_of_le (hok2 g e) (by have := g2.size; omega)
      · exact e.2
theorem write_bad (h : Dk lo hi w b s) (i : Int) (A : Option Addr) (n c : Nat) (hb : s.has i = false ∨ 64 < n) :
    Calls Try.prog 21 #[.pointer (some ⟨b, 0, none⟩), .int .i64 i, .slice A n c] w fun e w' => e = .returned (.int .i64 1) ∧ w' = w := write_bad_s h.1 i A n c hb
theorem write_dead (h : Dk lo hi w b s) (i : Int) (A : Option Addr) (n c : Nat) (hh : s.has i = true) (hn : n ≤ 64) (hd : s.count.dead = true) :
    Calls Try.prog 21 #[.pointer (some ⟨b, 0, none⟩), .int .i64 i, .slice A n c] w fun e w' => e = .returned (.int .i64 20) ∧ Dk lo hi w' b s.count ∧ Keeps lo hi w w' :=
  (write_dead_s h.1 i A n c hh hn hd).mono fun _ _ ⟨he, hd, hk⟩ => ⟨he, ⟨hd, Nat.le_trans h.2 hk.size⟩, hk.keeps (fun _ e => e) h.lw⟩
theorem write_ok (h : Dk lo hi w b s) (i : Int) {A : Option Addr} {n c : Nat} {l : List UInt8} (hr : Rd w w.heap.size 1 A n c (bv l)) (ha : 0 < n → ∀ b o, A = some ⟨b, o, none⟩ → b < lo ∨ hi ≤ b)
    (hh : s.has i = true) (hn : n ≤ 64) (hd : s.count.dead = false) (hw : s.waits.length < 1000000) :
    Calls Try.prog 21 #[.pointer (some ⟨b, 0, none⟩), .int .i64 i, .slice A n c] w fun e w' => e = .returned (.int .i64 0) ∧ Dk lo w'.heap.size w' b (s.count.wrote i l) ∧ Keeps lo hi w w' :=
  (write_s h.1 i hr (fun hn b o e hS => by have := ha hn b o e; have := hS.1; have := hS.2; omega) hh hn hd hw).mono fun _ w' ⟨he, hd, hk⟩ => ⟨he, ⟨hd.wide (fun g e => by
      rcases e with e | e
      · exact ⟨e.1, Nat.lt_of_lt_of_le e.2 (Nat.le_trans h.2 hk.size)⟩
      · exact ⟨Nat.le_trans h.lw e.1, e.2⟩) (fun g e => e.2), Nat.le_refl _⟩, hk.keeps (fun _ e => e) h.lw⟩
end
end Go.Proofs.Ytgppaompcnllbaa
