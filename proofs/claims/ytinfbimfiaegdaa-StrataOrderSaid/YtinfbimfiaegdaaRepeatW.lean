/- Layer 10: so many levels that aren't told yet (slices.Repeat of one number). Conditions: none. -/
import Derived.Laws.CopyOwn
import Derived.Deep.RegionLaw
import Derived.Test.YtinfbimfiaegdaaShelf10
import Derived.Test.YtinfbimfiaegdaaLevelW
namespace Go.Proofs.Ytinfbimfiaegdaa
open Go.RowKit

def rep1 (x : Int) (n m : Nat) : List Value := List.replicate m (.int .i64 x) ++ List.replicate (n - m) (.int .i64 0)
theorem rep1_len {x : Int} {n m : Nat} (h : m ≤ n) : (rep1 x n m).length = n := by simp [rep1]; omega
theorem rep1_one (x : Int) (k : Nat) : ∀ u ∈ List.replicate k (Value.int .i64 x), u.oneCell' = true := by
  intro u hu
  rw [List.mem_replicate] at hu
  rw [hu.2]
  rfl
theorem rep1_splice {x : Int} {n m k : Nat} (h : m + k ≤ n) : splice (rep1 x n m) m (List.replicate k (.int .i64 x)) = rep1 x n (m + k) := by
  unfold splice rep1
  rw [List.take_append_of_le_length (by simp), List.take_of_length_le (by simp), List.length_replicate, List.drop_append, List.drop_of_length_le (by simp), List.length_replicate, List.nil_append, List.drop_replicate, ← List.append_assoc, List.replicate_append_replicate]
  congr 2
  omega
theorem info_intS : (Try.prog.info? 3).map (·.size) = some 1 := by kernel_rfl

set_option maxRecDepth 100000 in
set_option maxHeartbeats 2000000 in
theorem repeat_any {w : World} {b n : Nat} {x : Int} (hb : w.cell? ⟨b, 0, none⟩ = some (.int .i64 x)) (hn : n ≤ 4096) :
    Calls Try.prog 11 #[.slice (some ⟨b, 0, none⟩) 1 1, .int .i64 (n : Int)] w fun e w' => (∃ g, e = .returned (.slice (some ⟨g, 0, none⟩) n n) ∧ w.heap.size ≤ g ∧ Bk w' g (List.replicate n (Value.int .i64 x)).toArray 3) ∧ Below w.heap.size w w' := by
  obtain ⟨i1, hi1, hy0, hy1, hy2⟩ := info_parts info_int
  have hmk : ∀ W : World, (Instr.makeSlice 24 (.int .i64 (n : Int)) (.int .i64 (n : Int))).run Try.prog W = .ok (.slice (some ⟨W.heap.size, 0, none⟩) n n) (W.alloc (.cells (rep1 x n 0).toArray 3)) := fun W => by
    have := run_make (P := Try.prog) W 24 3 i1 _ Try.underlying24 hi1 hy0 .i64 .i64 n n (by omega) (Int.le_refl _) (by rw [hy2]; omega) (by omega)
    rw [Int.toNat_natCast, hy1, Nat.mul_one] at this
    rw [this]
    congr 3
    apply Array.ext'
    show (madeCells #[.int .i64 0] n).toList = _
    rw [toList_madeCells_one]
    simp [rep1]
  have hmul : ∀ W : World, Calls Try.prog 23 #[.int .u64 1, .int .u64 (n : Int)] W fun e w' => e = .returned (.tuple #[.int .u64 0, .int .u64 (n : Int)]) ∧ w' = W := fun W => by
    have := Any.bits_Mul lays212 1 n (by omega) (by omega) W
    rw [Nat.one_mul, Nat.div_eq_of_lt (by omega), Nat.mod_eq_of_lt (by omega)] at this
    exact this
  have hn0 : ¬ ((n : Int) < 0) := by omega
  go_enter Try.func11, Try.ntmps11
  go_upto_region 7 with (go_at_call 23; refine (hmul _).mono ?_; rintro e w9 ⟨rfl, hw9⟩; have h9 := hw9.symm; clear hw9; subst h9)
  have hbl := World.block_lt_of_cell? _ _ hb
  dsimp only at hbl
  have hb1 := cell_alloc hb (.cells (rep1 x n 0).toArray 3)
  have hx1 := Bk.new w (rep1 x n 0).toArray 3
  have hB1 : Below w.heap.size w (w.alloc (.cells (rep1 x n 0).toArray 3)) := (Below.refl _ w).alloc (Nat.le_refl _) _
  have hm1 : Nat.min 1 n = min 1 n := rfl
  clear hmk hmul
  generalize w.alloc (.cells (rep1 x n 0).toArray 3) = w1 at *
  go_wp2_with (refine wpList_copy_splice rfl (.tmp 31) (.tmp 32) 24 24 rfl 3 Try.underlying24 info_intS (some ⟨w.heap.size, 0, none⟩) (some ⟨b, 0, none⟩) n n 1 1 rfl rfl w.heap.size 0 (rep1 x n 0) 3 hx1 (List.replicate (min 1 n) (.int .i64 x)) (by rw [List.length_replicate, hm1]) (fun _ => ⟨rfl, _, rfl, fun j u hj => by
      rw [List.getElem?_replicate] at hj
      split at hj
      · cases hj
        obtain rfl : j = 0 := by omega
        exact hb1
      · cases hj⟩) (by rw [List.length_replicate, rep1_len (Nat.zero_le _)]; omega) (rep1_one x _) w.heap.size w hB1 (Nat.le_refl _) ?_; intro w2 hx2 hB2)
  replace hx2 : Hid (w2.heap[w.heap.size]? = some (.cells (rep1 x n (min 1 n)).toArray 3 (0, 0))) := Lib.hid (by
    have h := hx2.out
    rw [rep1_splice (by omega), Nat.zero_add] at h
    exact h)
  clear hb1 hx1 hB1 hb hbl
  have hmn : min 1 n ≤ n := by omega
  have hmp : 0 < n → 0 < min 1 n := by omega
  generalize min 1 n = m0 at *
  go_loopw [8] (fun v wx => ∃ m : Nat, v = .int .i64 m ∧ m ≤ n ∧ (0 < n → 0 < m) ∧ Hid (wx.heap[w.heap.size]? = some (.cells (rep1 x n m).toArray 3 (0, 0))) ∧ Below w.heap.size w wx) (fun v _ => n - (intOf v).toNat)
  case atStart => exact ⟨m0, rfl, hmn, hmp, hx2, hB2⟩
  case round =>
    obtain ⟨m, rfl, hm, hm0, hX, hB⟩ := hrel
    by_cases hlt : m < n
    · have hlt' : (m : Int) < (n : Int) := by omega
      have hne : ¬ n = m := by omega
      have hne2 : ¬ m = n := by omega
      go_upto_region 9 with (fail)
      have hXd : wr.drew.heap[w.heap.size]? = some (.cells (rep1 x n m).toArray 3 (0, 0)) := hX.out
      have hBd := hB.drew
      have hmin : Hid (Nat.min m (n - m) = min m (n - m)) := Lib.hid rfl
      have hsrc : ∀ j v, (List.replicate (min m (n - m)) (Value.int .i64 x))[j]? = some v → wr.drew.cell? ((⟨w.heap.size, 0, none⟩ : Addr).add j) = some v := fun j u hj => by
        rw [Addr.add_lit, cell_of_row _ _ _ _ _ _ hXd, Nat.zero_add]
        rw [List.getElem?_replicate] at hj
        split at hj
        · cases hj
          rw [List.getElem?_toArray, rep1, List.getElem?_append_left (by simp; omega), List.getElem?_replicate]
          simp
          omega
        · cases hj
      have hsrc := Lib.hid hsrc
      replace hXd := Lib.hid hXd
      go_region_law (refine step_copy_splice rfl (.tmp 41) (.tmp 44) 24 24 rfl 3 Try.underlying24 info_intS (some ⟨w.heap.size, m, none⟩) (some ⟨w.heap.size, 0, none⟩) (n - m) (n - m) m n (by simp [Act.eval, Act.put]) (by simp [Act.eval, Act.put]) w.heap.size m (rep1 x n m) 3 hXd.out (List.replicate (min m (n - m)) (.int .i64 x)) (by rw [List.length_replicate, hmin.out]) (fun _ => ⟨rfl, _, rfl, hsrc.out⟩) (by rw [List.length_replicate, rep1_len hm]; omega) (rep1_one x _) w.heap.size w hBd (Nat.le_refl _) ?_; intro w4 hg4 hb4)
      all_goals
        go_wp2_with fail
        have hw4 : IntKind.i64.wrap ((m : Int) + ((min m (n - m) : Nat) : Int)) = ((m + min m (n - m) : Nat) : Int) := by
          rw [IntWalk.i64_in _ ⟨by omega, by omega⟩]
          omega
        rw [hw4]
        have hg5 := hg4.out
        rw [rep1_splice (by omega)] at hg5
        exact ⟨⟨m + min m (n - m), rfl, by omega, by omega, Lib.hid hg5⟩, by simp [intOf]; omega⟩
    · obtain rfl : m = n := by omega
      have hlt' : ¬ ((m : Int) < (m : Nat)) := by omega
      go_wp2_with fail
      go_ret
      have h := hX.out
      rw [rep1, Nat.sub_self, List.replicate_zero, List.append_nil] at h
      exact ⟨⟨_, rfl, Nat.le_refl _, h⟩, hB⟩
end Go.Proofs.Ytinfbimfiaegdaa
