/- The document's example of layer 3 holds: awake answers true. -/
import Derived.Test.YtiehnimkjneonaaRestart
import Derived.Lib.SlBytesConst
namespace Go.Proofs.Ytiehnimkjneonaa
open Go.RowKit

theorem chain {B : Nat} {w w1 w2 : World} (h : Hid (Below B w w1)) (hB : B ≤ w1.heap.size) (k : Below w1.heap.size w1 w2) : Hid (Below B w w2) ∧ B ≤ w2.heap.size :=
  ⟨Lib.hid (h.out.trans (k.mono hB)), Nat.le_trans hB k.size⟩
theorem chainL {B lo : Nat} {w w1 w2 : World} (h : Hid (Below B w w1)) (hB : B ≤ lo) (hB1 : B ≤ w1.heap.size) (k : Below lo w1 w2) : Hid (Below B w w2) ∧ B ≤ w2.heap.size :=
  ⟨Lib.hid (h.out.trans (k.mono hB)), Nat.le_trans hB1 k.size⟩

section
variable {lo hi : Nat} {w : World} {b : Nat} {s : St}
theorem Rd.litF (w : World) (cs : Array Value) (t : TypeId) (fr : Nat × Nat) (n size : Nat) (xs : List Value) (hx : cs.toList = xs) (h : cs.size = n * size) (hn : n ≤ maxLen) : Rd (w.alloc (.cells cs t fr)) (w.alloc (.cells cs t fr)).heap.size size (some ⟨w.heap.size, 0, none⟩) n n xs := by
  subst hx
  refine ⟨by rw [Array.length_toList]; exact h, Nat.le_refl _, hn, fun e => (by cases e), fun _ => ⟨_, _, rfl, by simp, fun j u hj => ?_⟩⟩
  rw [cell_of_row _ _ _ cs t fr (heap_alloc_new w _)]
  simpa using hj
/-- A byte is written that the caller has just laid. -/
theorem write_lit (h : Dk lo hi w b s) (i : Int) (z : UInt8) (hh : s.has i = true) (hd : s.count.dead = false) (hw : s.waits.length < 1000000) :
    Calls Try.prog 12 #[.pointer (some ⟨b, 0, none⟩), .int .i64 i, .slice (some ⟨w.heap.size, 0, none⟩) 1 1] (w.alloc (.cells #[.int .u8 (z.toNat : Int)] 5 (1, 2))) fun e w' => e = .returned (.int .i64 0) ∧ Dk lo w'.heap.size w' b (s.count.wrote i [z]) ∧ Below lo w w' := by
  refine (write_ok (h.alloc _) i (l := [z]) (Rd.litF w #[.int .u8 (z.toNat : Int)] 5 (1, 2) 1 1 (bv [z]) rfl rfl (by simp [maxLen])) (fun _ b o e => ?_) hh (by omega) hd hw).mono ?_
  · cases e; exact .inr h.size
  · rintro e w' ⟨rfl, hd, hk⟩
    exact ⟨rfl, hd, ((Below.refl lo w).alloc h.lw _).trans hk.low⟩
end

/-! the states of the example -/
def e0 : St := St.fresh 3
def e1 : St := e0.count.wrote 0 [97]
def e2 : St := e1.count.flushed
def e3 : St := e2.count.wrote 0 [98]
def e4 : St := e3.count.wrote 1 [99]
def e5 : St := e4.arm 1
def e6 : St := e5.count
def ex : St := e4.restart [false, true]
section
variable {lo hi : Nat} {w : World} {b : Nat}
theorem x_new (w : World) : Calls Try.prog 10 #[.int .i64 3] w fun e w' => ∃ b, e = .returned (.tuple #[.pointer (some ⟨b, 0, none⟩), .int .i64 0]) ∧ Dk w.heap.size w'.heap.size w' b e0 ∧ Below w.heap.size w w' := new_any w 3 (by omega) (by omega)
theorem x_w1 (h : Dk lo hi w b e0) : Calls Try.prog 12 #[.pointer (some ⟨b, 0, none⟩), .int .i64 0, .slice (some ⟨w.heap.size, 0, none⟩) 1 1] (w.alloc (.cells #[.int .u8 97] 5 (1, 2))) fun e w' => e = .returned (.int .i64 0) ∧ Dk lo w'.heap.size w' b e1 ∧ Below lo w w' := write_lit h 0 97 (by decide) (by decide) (by decide)
theorem x_f1 (h : Dk lo hi w b e1) : Calls Try.prog 14 #[.pointer (some ⟨b, 0, none⟩)] w fun e w' => e = .returned (.int .i64 0) ∧ Dk lo hi w' b e2 ∧ Keeps lo hi w w' := flush_ok h (by decide) (by decide)
theorem x_w2 (h : Dk lo hi w b e2) : Calls Try.prog 12 #[.pointer (some ⟨b, 0, none⟩), .int .i64 0, .slice (some ⟨w.heap.size, 0, none⟩) 1 1] (w.alloc (.cells #[.int .u8 98] 5 (1, 2))) fun e w' => e = .returned (.int .i64 0) ∧ Dk lo w'.heap.size w' b e3 ∧ Below lo w w' := write_lit h 0 98 (by decide) (by decide) (by decide)
theorem x_w3 (h : Dk lo hi w b e3) : Calls Try.prog 12 #[.pointer (some ⟨b, 0, none⟩), .int .i64 1, .slice (some ⟨w.heap.size, 0, none⟩) 1 1] (w.alloc (.cells #[.int .u8 99] 5 (1, 2))) fun e w' => e = .returned (.int .i64 0) ∧ Dk lo w'.heap.size w' b e4 ∧ Below lo w w' := write_lit h 1 99 (by decide) (by decide) (by decide)
theorem x_r (h : Dk lo w.heap.size w b e4) : Calls Try.prog 19 #[.pointer (some ⟨b, 0, none⟩), .slice (some ⟨w.heap.size, 0, none⟩) 2 2] (w.alloc (.cells #[.bool false, .bool true] 4)) fun e w' => ∃ x, e = .returned (.pointer (some ⟨x, 0, none⟩)) ∧ Dk (w.heap.size + 1) w'.heap.size w' x ex ∧ Dk lo w.heap.size w' b e4 ∧ Below w.heap.size w w' := by
  have hs : (w.alloc (.cells #[.bool false, .bool true] 4)).heap.size = w.heap.size + 1 := by simp
  refine (restart_any (h.alloc _) (by decide) (keep := [false, true]) (Rd.litX w #[.bool false, .bool true] 4 2 1 ([false, true].map Value.bool) rfl rfl (by simp [maxLen])) (Nat.le_refl _)).mono ?_
  rintro e w' ⟨x, rfl, hx, hb⟩
  rw [hs] at hx
  have hb' : Below w.heap.size w w' := ((Below.refl _ w).alloc (Nat.le_refl _) _).trans (hb.mono (by rw [hs]; omega))
  exact ⟨x, rfl, hx, h.below hb', hb'⟩
theorem x_rd (h : Dk lo hi w b ex) (i : Int) (z : UInt8) (hi1 : ex.has i = true) (hz : (ex.sect i)[0]? = some z) : Calls Try.prog 21 #[.pointer (some ⟨b, 0, none⟩), .int .i64 i] w fun e w' => ∃ g c, e = .returned (.tuple #[.slice (some ⟨g, 0, none⟩) 64 c, .int .i64 0]) ∧ w.heap.size ≤ g ∧ g < w'.heap.size ∧ w'.cell? ⟨g, 0, none⟩ = some (.int .u8 (z.toNat : Int)) ∧ Below w.heap.size w w' := by
  refine (read_any h i hi1 rfl).mono ?_
  rintro e w' ⟨v, rfl, ho, hb⟩
  obtain ⟨g, c, rfl, h1, h2⟩ := own_pos ho (by omega)
  refine ⟨g, c, rfl, h1, h2, ?_, hb⟩
  rw [ho.cellAt 0 (by omega), bv_get, hz]
  rfl
theorem x_rd0 (h : Dk lo hi w b ex) : Calls Try.prog 21 #[.pointer (some ⟨b, 0, none⟩), .int .i64 0] w fun e w' => ∃ g c, e = .returned (.tuple #[.slice (some ⟨g, 0, none⟩) 64 c, .int .i64 0]) ∧ w.heap.size ≤ g ∧ g < w'.heap.size ∧ w'.cell? ⟨g, 0, none⟩ = some (.int .u8 97) ∧ Below w.heap.size w w' := x_rd h 0 97 (by decide) (by decide)
theorem x_rd1 (h : Dk lo hi w b ex) : Calls Try.prog 21 #[.pointer (some ⟨b, 0, none⟩), .int .i64 1] w fun e w' => ∃ g c, e = .returned (.tuple #[.slice (some ⟨g, 0, none⟩) 64 c, .int .i64 0]) ∧ w.heap.size ≤ g ∧ g < w'.heap.size ∧ w'.cell? ⟨g, 0, none⟩ = some (.int .u8 99) ∧ Below w.heap.size w w' := x_rd h 1 99 (by decide) (by decide)
theorem x_arm (h : Dk lo hi w b e4) : Calls Try.prog 16 #[.pointer (some ⟨b, 0, none⟩), .int .i64 1] w fun e w' => (∃ v, e = .returned v) ∧ Dk lo hi w' b e5 ∧ Keeps lo hi w w' := arm_any h 1 (by omega) (by omega)
theorem x_f2 (h : Dk lo hi w b e5) : Calls Try.prog 14 #[.pointer (some ⟨b, 0, none⟩)] w fun e w' => e = .returned (.int .i64 20) ∧ Dk lo hi w' b e6 ∧ Keeps lo hi w w' := flush_dead h (by decide)
theorem x_wait (h : Dk lo hi w b e6) : Calls Try.prog 18 #[.pointer (some ⟨b, 0, none⟩)] w fun e w' => e = .returned (.int .i64 2) ∧ w' = w := waiting_any h
theorem x_dead (h : Dk lo hi w b e6) : Calls Try.prog 23 #[.pointer (some ⟨b, 0, none⟩)] w fun e w' => e = .returned (.bool true) ∧ w' = w := dead_any h
theorem x_len (h : Dk lo hi w b ex) : Calls Try.prog 24 #[.pointer (some ⟨b, 0, none⟩)] w fun e w' => e = .returned (.int .i64 3) ∧ w' = w := len_any h
end

set_option maxRecDepth 100000 in
set_option maxHeartbeats 4000000 in
theorem awake_any (w : World) : Calls Try.prog 8 #[] w fun e w' => e = .returned (.bool true) ∧ Below w.heap.size w w' := by
  have Hb := Lib.hid (Below.refl w.heap.size w)
  have hB : w.heap.size ≤ w.heap.size := Nat.le_refl _
  have hcv := fun (w : World) (C : Array Value) (n c : Nat) => Lib.run_convert_bytes_const (P := Try.prog) w 34 5 C n c Try.underlying34 Try.underlying5
  go_enter Try.func8, Try.ntmps8
  go_wp2_with (first
    | ((with_reducible refine (x_new _).mono ?_); rintro e w1 ⟨b, rfl, d0, hb⟩; obtain ⟨Hb, hB⟩ := chain Hb hB hb; clear hb)
    | ((with_reducible refine (x_w1 d0).mono ?_); rintro e w2 ⟨rfl, d1, hb⟩; obtain ⟨Hb, hB⟩ := chainL Hb (Nat.le_refl _) hB hb; clear hb d0)
    | ((with_reducible refine (x_f1 d1).mono ?_); rintro e w3 ⟨rfl, d2, hk⟩; have hb := hk.low; clear hk; obtain ⟨Hb, hB⟩ := chainL Hb (Nat.le_refl _) hB hb; clear hb d1)
    | ((with_reducible refine (x_w2 d2).mono ?_); rintro e w4 ⟨rfl, d3, hb⟩; obtain ⟨Hb, hB⟩ := chainL Hb (Nat.le_refl _) hB hb; clear hb d2)
    | ((with_reducible refine (x_w3 d3).mono ?_); rintro e w5 ⟨rfl, d4, hb⟩; obtain ⟨Hb, hB⟩ := chainL Hb (Nat.le_refl _) hB hb; clear hb d3)
    | ((with_reducible refine (x_r d4).mono ?_); rintro e w6 ⟨x, rfl, dx, d4', hb⟩; have hs6 := hb.size; obtain ⟨Hb, hB⟩ := chain Hb hB hb; clear hb d4)
    | ((with_reducible refine (x_rd0 dx).mono ?_); rintro e w7 ⟨g1, c1, rfl, hg1, hg1', hc1, hb⟩; have hs7 := hb.size; have dx7 := dx.below (hb.mono dx.size); have d47 := d4'.below (hb.mono d4'.size); obtain ⟨Hb, hB⟩ := chain Hb hB hb; clear hb dx d4')
    | ((with_reducible refine (x_rd1 dx7).mono ?_); rintro e w8 ⟨g2, c2, rfl, hg2, hg2', hc2, hb⟩; have hs8 := hb.size; have dx8 := dx7.below (hb.mono dx7.size); have d48 := d47.below (hb.mono d47.size); have hc18 := (hb.cell (p := ⟨g1, 0, none⟩) hg1').trans hc1; obtain ⟨Hb, hB⟩ := chain Hb hB hb; clear hb dx7 d47 hc1)
    | ((with_reducible refine (x_arm d48).mono ?_); rintro e w9 ⟨⟨_, rfl⟩, d49, hk⟩; have dx9 := dx8.keep hk (.inr (by omega)); have hc19 := (World.cell?_of_block (a := ⟨g1, 0, none⟩) (hk.block (k := g1) (.inr (by omega)) (by omega))).trans hc18; have hc29 := (World.cell?_of_block (a := ⟨g2, 0, none⟩) (hk.block (k := g2) (.inr (by omega)) (by omega))).trans hc2; have hs9 := hk.size; obtain ⟨Hb, hB⟩ := chainL Hb (Nat.le_refl _) hB hk.low; clear hk dx8 d48 hc18 hc2)
    | ((with_reducible refine (x_f2 d49).mono ?_); rintro e w10 ⟨rfl, d50, hk⟩; have dx10 := dx9.keep hk (.inr (by omega)); have hc110 := (World.cell?_of_block (a := ⟨g1, 0, none⟩) (hk.block (k := g1) (.inr (by omega)) (by omega))).trans hc19; have hc210 := (World.cell?_of_block (a := ⟨g2, 0, none⟩) (hk.block (k := g2) (.inr (by omega)) (by omega))).trans hc29; obtain ⟨Hb, hB⟩ := chainL Hb (Nat.le_refl _) hB hk.low; clear hk dx9 d49 hc19 hc29)
    | ((with_reducible refine (x_wait d50).mono ?_); rintro e w11 ⟨rfl, rfl⟩)
    | ((with_reducible refine (x_dead d50).mono ?_); rintro e w12 ⟨rfl, rfl⟩)
    | ((with_reducible refine (x_len dx10).mono ?_); rintro e w13 ⟨rfl, rfl⟩))
  go_ret
  exact ⟨rfl, Hb.out⟩
end Go.Proofs.Ytiehnimkjneonaa
