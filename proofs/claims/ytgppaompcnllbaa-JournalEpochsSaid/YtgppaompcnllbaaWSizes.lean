/- JournalSizes, walked. Conditions: none. -/
import Derived.Test.YtgppaompcnllbaaJAwake
namespace Go.Proofs.Ytgppaompcnllbaa
open Go.RowKit

theorem info_u8z : (Try.prog.info? 5).map (fun i => (i.zero, i.size, i.bytes)) = some (some (.int .u8 0), 1, 1) := by kernel_rfl
theorem appendX {lo : Nat} {W w0 : World} {T : Nat → Prop} {g b p : Nat} {K : List Sec} {t : LSt} (hL : Live T w0 g b p K t) (hT : ∀ k, T k → lo ≤ k) (h0 : lo ≤ w0.heap.size) (hb : Below w0.heap.size w0 W) {M : Array Value} {k : Nat} (hM : M.toList = bv (List.replicate k 0)) (hk : k ≤ 4096) (hf : t.next + szN k ≤ t.to) :
    ∀ X, Below (W.alloc (.cells M 5)).heap.size (W.alloc (.cells M 5)) X → Calls Try.prog 14 #[.pointer (some ⟨g, 0, none⟩), .slice (some ⟨W.heap.size, 0, none⟩) k k] X fun e w' => e = .returned (.int .i64 0) ∧ (∃ K', LiveL lo w' g b p K' (t.add (List.replicate k 0))) ∧ Below lo X w' := fun X hX => by
  have hs := hb.size
  have hsz := hL.size
  have hxs := hX.size
  have hml : M.size = k * 1 := by rw [← Array.length_toList, hM, bv_length]; simp
  have hr := Rd.litX W M 5 k 1 (bv (List.replicate k 0)) hM hml (by simp only [maxLen]; omega)
  have hbX : Below w0.heap.size w0 X := (hb.alloc hs _).trans (hX.mono (by simp; omega))
  have hlr : (List.replicate k (0 : UInt8)).length = k := by simp
  have hrX : Rd X X.heap.size 1 (some ⟨W.heap.size, 0, none⟩) (List.replicate k (0 : UInt8)).length k (bv (List.replicate k 0)) := by rw [hlr]; exact (hr.below hX).more hX.size
  have := appendL_at (hL.below hbX) hT (Nat.le_trans h0 hbX.size) hrX (fun _ q o e e2 => by cases e; have := hsz _ e2; omega) (by rw [hlr]; exact hk) (by rw [hlr]; exact hf)
  rw [hlr] at this
  exact this.mono fun e w' ⟨h1, h2, h3⟩ => ⟨h1, ⟨_, h2⟩, h3⟩

set_option maxRecDepth 100000 in
set_option maxHeartbeats 4000000 in
theorem sizes_walk (w : World) (n : Int) (hn : 0 ≤ n ∧ n ≤ 65535) (e : Nat) (he : e < 2 ^ 64) :
    Calls Try.prog 7 #[.int .u16 n, .int .u64 e] w fun en w' => en = .returned (.bool true) ∧ Below w.heap.size w w' := by
  have Hb := Lib.hid (Below.refl w.heap.size w)
  have hB : w.heap.size ≤ w.heap.size := Nat.le_refl _
  obtain ⟨hn0, hn1⟩ := hn
  obtain ⟨k, hk⟩ : ∃ k : Nat, n % 700 = (k : Int) := ⟨(n % 700).toNat, by omega⟩
  have hk7 : k < 700 := by omega
  obtain ⟨sz, hsz⟩ : ∃ sz, szN k = sz := ⟨_, rfl⟩
  have hb1 := pn_bd k
  have hs1 : 63 * (sz - 1) ≥ k ∧ (k = 0 ∨ 63 * (sz - 2) < k ∧ 2 ≤ sz) ∧ 1 ≤ sz ∧ sz ≤ 13 := by rw [← hsz]; unfold szN; unfold pn at hb1 ⊢; omega
  obtain ⟨q1, q2, q3, q4⟩ := hs1
  have kz := fun W => (size_any W k (by omega)).mono fun en w' (h : en = _ ∧ w' = W) => (⟨h.1, h.2.symm⟩ : en = .returned (.int .i64 (szN k)) ∧ W = w')
  have kneg := fun W => (size_neg W).mono fun en w' (h : en = _ ∧ w' = W) => (⟨h.1, h.2.symm⟩ : en = .returned (.int .i64 1) ∧ W = w')
  rw [hsz] at kz
  have kN := fun W => restL_new W (sz + 3) (by omega) (by omega)
  rw [show ((sz + 3 : Nat) : Int) = (sz : Int) + 3 from by omega] at kN
  have klen : (St.fresh (sz + 3)).kept.length = sz + 3 := by simp [St.fresh]
  have kO1 := fun (lo : Nat) (W : World) (b : Nat) (h : RestL lo W b (St.fresh (sz + 3)).kept) => openL h (e := e) (p := 1) (to := 1 + sz) (acc := []) (pos := 1) (Good.new (clean_fresh (sz + 3) e 1 (1 + sz)) (by omega)) (by omega) (by rw [klen]; omega) he
  rw [show ((1 + sz : Nat) : Int) = 1 + (sz : Int) from by omega, show ((1 : Nat) : Int) = 1 from rfl] at kO1
  have kO2 := fun (lo : Nat) (W : World) (b : Nat) (h : RestL lo W b (St.fresh (sz + 3)).kept) => openL h (e := e) (p := 1) (to := sz) (acc := []) (pos := 1) (Good.new (clean_fresh (sz + 3) e 1 sz) (by omega)) (by omega) (by rw [klen]; omega) he
  rw [show ((1 : Nat) : Int) = 1 from rfl] at kO2
  obtain ⟨i0, hi, hz0, hz1, hz2⟩ := info_parts info_u8z
  have hmk : ∀ W : World, (Instr.makeSlice 36 (.int .i64 (k : Int)) (.int .i64 (k : Int))).run Try.prog W = .ok (.slice (some ⟨W.heap.size, 0, none⟩) k k) (W.alloc (.cells (madeCells #[.int .u8 0] k) 5)) := fun W => by
    have := run_make (P := Try.prog) W 36 5 i0 _ Try.underlying36 hi hz0 .i64 .i64 k k (by omega) (Int.le_refl _) (by rw [hz2]; omega) (by omega)
    rw [Int.toNat_natCast, hz1, Nat.mul_one] at this
    exact this
  have hM := toList_madeCells_one (.int .u8 0) k
  rw [show List.replicate k (Value.int .u8 0) = bv (List.replicate k 0) from by simp [bv]] at hM
  generalize madeCells #[.int .u8 0] k = M at hmk hM
  have HM := Lib.hid hM
  have Hk := Lib.hid hk
  have Hsz := Lib.hid hsz
  have kz1 : (k : Int) ≤ 699 := by omega
  have kz2 : (sz : Int) ≤ 13 := by omega
  have kz3 : (1 : Int) ≤ (sz : Int) := by omega
  have g1 : decide ((k : Int) ≤ 63 * ((sz : Int) - 1)) = true := by simp; omega
  clear hM hsz hb1 klen he
  rcases q2 with h0 | ⟨h0, h2⟩
  · have g3 : ((k : Int) == 0) = true := by simp; omega
    clear h0
    go_enter Try.func7, Try.ntmps7
    go_wp2_with (first
      | ((with_reducible refine (awake_any _).mono ?_); rintro en w1 ⟨rfl, hb⟩; obtain ⟨Hb, hB⟩ := chain Hb hB hb; clear hb)
      | ((with_reducible refine (kz _).mono ?_); rintro en w2 ⟨rfl, rfl⟩)
      | ((with_reducible refine (kN _).mono ?_); rintro en w3 ⟨b, rfl, d3, hb⟩; have hlo := hB; obtain ⟨Hb, hB⟩ := chain Hb hB hb; clear hb)
      | ((with_reducible refine (kO1 _ _ _ d3).mono ?_); rintro en w4 ⟨ga, rfl, l4, d4, _, hb⟩; obtain ⟨h04, T4, L4, hT4⟩ := l4; obtain ⟨Hb, hB⟩ := chain Hb hB hb; clear hb d3)
      | ((with_reducible refine (kO2 _ _ _ d4).mono ?_); rintro en w5 ⟨gb, rfl, _, _, l5, hb⟩; have L5 := L4.below hb; have h05 := Nat.le_trans h04 hb.size; obtain ⟨Hb, hB⟩ := chain Hb hB hb; have l6 := l5.alloc (.cells M 5); have kF1 := append_full l6 (some ⟨w5.heap.size, 0, none⟩) k k (by omega) (by show sz - 1 < szN k; rw [Hsz.out]; omega); have kA1 := appendX L5 hT4 h05 (Below.refl _ w5) HM.out (by omega) (by show 1 + szN k ≤ 1 + sz; rw [Hsz.out]; omega); have HbM := Lib.hid (Hb.out.alloc hB (.cells M 5)); have hBM : w.heap.size ≤ (w5.alloc (.cells M 5)).heap.size := HbM.out.size; clear hb d4 L4 l5 l6)
      | ((with_reducible refine kF1.mono ?_); rintro en w7 ⟨rfl, hb⟩; have kA2 := kA1 _ hb; obtain ⟨Hb7, hB7⟩ := chain HbM hBM hb; clear hb kA1 kF1)
      | ((with_reducible refine kA2.mono ?_); rintro en w8 ⟨rfl, ⟨K8, l8⟩, hb⟩; obtain ⟨T8, lg8⟩ := l8.lg; have kR := room_any lg8; rw [show ((LSt.add ⟨1, 1 + sz, e, []⟩ (List.replicate k 0)).to - (LSt.add ⟨1, 1 + sz, e, []⟩ (List.replicate k 0)).next) = 0 from (by show 1 + sz - (1 + szN (List.replicate k (0 : UInt8)).length) = 0; rw [List.length_replicate, Hsz.out]; omega), show ((0 : Nat) : Int) = 0 from rfl] at kR; obtain ⟨Hb8, hB8⟩ := chainL Hb7 hlo hB7 hb; clear hb kA2 l8)
      | ((with_reducible refine kR.mono ?_); rintro en w9 ⟨rfl, hb⟩; have kF2 := append_full (lg8.below hb) none 0 0 (by omega) (by show (1 + sz - (1 + szN (List.replicate k (0 : UInt8)).length)) < szN 0; rw [List.length_replicate, Hsz.out, show szN 0 = 1 from rfl]; omega); obtain ⟨Hb9, hB9⟩ := chain Hb8 hB8 hb; clear hb kR lg8)
      | ((with_reducible refine kF2.mono ?_); rintro en w10 ⟨rfl, hb⟩; obtain ⟨Hb10, hB10⟩ := chain Hb9 hB9 hb; clear hb kF2)
      | ((with_reducible refine (kneg _).mono ?_); rintro en w11 ⟨rfl, rfl⟩))
    go_ret
    exact ⟨rfl, Hb10.out⟩
  · have g2 : decide (63 * ((sz : Int) - 2) < (k : Int)) = true := by simp; omega
    have g3 : ((k : Int) == 0) = false := by simp; omega
    have kz4 : (2 : Int) ≤ (sz : Int) := by omega
    clear q1 h0
    go_enter Try.func7, Try.ntmps7
    go_wp2_with (first
      | ((with_reducible refine (awake_any _).mono ?_); rintro en w1 ⟨rfl, hb⟩; obtain ⟨Hb, hB⟩ := chain Hb hB hb; clear hb)
      | ((with_reducible refine (kz _).mono ?_); rintro en w2 ⟨rfl, rfl⟩)
      | ((with_reducible refine (kN _).mono ?_); rintro en w3 ⟨b, rfl, d3, hb⟩; have hlo := hB; obtain ⟨Hb, hB⟩ := chain Hb hB hb; clear hb)
      | ((with_reducible refine (kO1 _ _ _ d3).mono ?_); rintro en w4 ⟨ga, rfl, l4, d4, _, hb⟩; obtain ⟨h04, T4, L4, hT4⟩ := l4; obtain ⟨Hb, hB⟩ := chain Hb hB hb; clear hb d3)
      | ((with_reducible refine (kO2 _ _ _ d4).mono ?_); rintro en w5 ⟨gb, rfl, _, _, l5, hb⟩; have L5 := L4.below hb; have h05 := Nat.le_trans h04 hb.size; obtain ⟨Hb, hB⟩ := chain Hb hB hb; have l6 := l5.alloc (.cells M 5); have kF1 := append_full l6 (some ⟨w5.heap.size, 0, none⟩) k k (by omega) (by show sz - 1 < szN k; rw [Hsz.out]; omega); have kA1 := appendX L5 hT4 h05 (Below.refl _ w5) HM.out (by omega) (by show 1 + szN k ≤ 1 + sz; rw [Hsz.out]; omega); have HbM := Lib.hid (Hb.out.alloc hB (.cells M 5)); have hBM : w.heap.size ≤ (w5.alloc (.cells M 5)).heap.size := HbM.out.size; clear hb d4 L4 l5 l6)
      | ((with_reducible refine kF1.mono ?_); rintro en w7 ⟨rfl, hb⟩; have kA2 := kA1 _ hb; obtain ⟨Hb7, hB7⟩ := chain HbM hBM hb; clear hb kA1 kF1)
      | ((with_reducible refine kA2.mono ?_); rintro en w8 ⟨rfl, ⟨K8, l8⟩, hb⟩; obtain ⟨T8, lg8⟩ := l8.lg; have kR := room_any lg8; rw [show ((LSt.add ⟨1, 1 + sz, e, []⟩ (List.replicate k 0)).to - (LSt.add ⟨1, 1 + sz, e, []⟩ (List.replicate k 0)).next) = 0 from (by show 1 + sz - (1 + szN (List.replicate k (0 : UInt8)).length) = 0; rw [List.length_replicate, Hsz.out]; omega), show ((0 : Nat) : Int) = 0 from rfl] at kR; obtain ⟨Hb8, hB8⟩ := chainL Hb7 hlo hB7 hb; clear hb kA2 l8)
      | ((with_reducible refine kR.mono ?_); rintro en w9 ⟨rfl, hb⟩; have kF2 := append_full (lg8.below hb) none 0 0 (by omega) (by show (1 + sz - (1 + szN (List.replicate k (0 : UInt8)).length)) < szN 0; rw [List.length_replicate, Hsz.out, show szN 0 = 1 from rfl]; omega); obtain ⟨Hb9, hB9⟩ := chain Hb8 hB8 hb; clear hb kR lg8)
      | ((with_reducible refine kF2.mono ?_); rintro en w10 ⟨rfl, hb⟩; obtain ⟨Hb10, hB10⟩ := chain Hb9 hB9 hb; clear hb kF2)
      | ((with_reducible refine (kneg _).mono ?_); rintro en w11 ⟨rfl, rfl⟩))
    go_ret
    exact ⟨rfl, Hb10.out⟩
theorem wf_u16 {z : Int} (h : (Lit.int .u16 z).wf = true) : 0 ≤ z ∧ z ≤ 65535 := by
  simpa [Lit.wf, IntKind.min, IntKind.max, IntKind.signed, IntKind.bits] using h
theorem wf_u64 {z : Int} (h : (Lit.int .u64 z).wf = true) : ∃ e : Nat, z = (e : Int) ∧ e < 2 ^ 64 := by
  have h2 : 0 ≤ z ∧ z ≤ 18446744073709551615 := by
    simpa [Lit.wf, IntKind.min, IntKind.max, IntKind.signed, IntKind.bits] using h
  exact ⟨z.toNat, by omega, by omega⟩
theorem journalSizes_walk (x0 : Int) (x1 : Int) (w : World) (f0 : (Lit.int .u16 x0).wf = true) (f1 : (Lit.int .u64 x1).wf = true) :
    Calls Try.prog 7 #[.int .u16 x0, .int .u64 x1] w fun e w' => e = .returned (.bool true) ∧ Below w.heap.size w w' := by
  obtain ⟨e, rfl, he⟩ := wf_u64 f1
  exact sizes_walk w x0 (wf_u16 f0) e he
end Go.Proofs.Ytgppaompcnllbaa
