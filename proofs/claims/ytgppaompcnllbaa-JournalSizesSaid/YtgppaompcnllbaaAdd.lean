/- The contract of fields.addNumber: a number's bytes behind those of a row of the call's own. -/
import Derived.Test.YtgppaompcnllbaaLen
namespace Go.Proofs.Ytgppaompcnllbaa
open Go.RowKit

theorem infoF : (Try.prog.info? 5).map (fun i => (i.zero, i.size, i.bytes)) = some (some (.int .u8 0), 1, 1) := by kernel_rfl

theorem be_step {n : Int} {m j : Nat} (h0 : 0 ≤ n) (hm : m = nb n.toNat) (hj : j < m) :
    bv ((be n.toNat).take (j + 1)) = bv ((be n.toNat).take j) ++ [Value.int .u8 (n / 2 ^ (8 * (m - 1 - j)) % 256)] := by
  obtain ⟨x, rfl⟩ := Int.eq_ofNat_of_zero_le h0
  rw [Int.toNat_natCast] at hm ⊢
  have hg := be_get x j (by omega)
  rw [← hm] at hg
  obtain ⟨hl, hx⟩ := List.getElem?_eq_some_iff.1 hg
  rw [List.take_succ_eq_append_getElem hl, bv_append, hx]
  congr 1
  simp only [bv, List.map_cons, List.map_nil]
  congr 2
  rw [show (256 : Nat) ^ (m - 1 - j) = 2 ^ (8 * (m - 1 - j)) from by rw [show (256 : Nat) = 2 ^ 8 from rfl, ← Nat.pow_mul]]
  rw [UInt8.toNat_ofNat']
  generalize 8 * (m - 1 - j) = s
  have e : ((2 : Int) ^ s) = ((2 ^ s : Nat) : Int) := by simp
  rw [e, ← Int.natCast_ediv]
  omega

theorem num_fin {w : World} {B : Nat} {e : TypeId} {v : Value} {k m x : Nat} {xs : List Value} (hm : m = nb x) (h8 : m ≤ 8)
    (h : w.ownsRow B e 1 v (k + 1 + m) (xs ++ [Value.int .u8 m] ++ bv ((be x).take m))) : w.ownsRow B e 1 v (k + (nb x + 1)) (xs ++ bv (num x)) := by
  have e1 : bv (num x) = [Value.int .u8 m] ++ bv ((be x).take m) := by
    rw [List.take_of_length_le (by rw [be_length]; omega), num, ← hm]
    simp [bv, Nat.mod_eq_of_lt (show m < 256 from by omega)]
  rw [e1, ← hm, ← List.append_assoc, show k + (m + 1) = k + 1 + m from by omega]
  exact h

set_option maxRecDepth 100000 in
set_option maxHeartbeats 400000 in
theorem addNumber_any (B : Nat) (v : Value) (k : Nat) (xs : List Value) (n : Int) (h0 : 0 ≤ n) (h1 : n < 2 ^ 64) (w : World) (hown : w.ownsRow B 5 1 v k xs) (hB : B ≤ w.heap.size) (hk : k ≤ 100000000000) :
    Calls Try.prog 56 #[v, .int .u64 n] w fun e w' => ∃ v', e = .returned v' ∧ w'.ownsRow B 5 1 v' (k + (nb n.toNat + 1)) (xs ++ bv (num n.toNat)) ∧ Below B w w' := by
  obtain ⟨i0, hi, hz0, hz1, hz2⟩ := info_parts infoF
  obtain ⟨m, hm⟩ : ∃ m, m = nb n.toNat := ⟨_, rfl⟩
  have hm8 : m ≤ 8 := by rw [hm]; exact nb_le8 (by omega)
  have Hm := Lib.hid hm
  have H1 := Lib.hid h1
  have H0 := Lib.hid hown
  clear h1 hm hown
  go_enter Try.func56, Try.ntmps56
  go_wp2_with fail
  refine (len64_any _ h0 H1.out _).mono ?_
  rintro e w' ⟨K, rfl, hK1, hK2, rfl⟩
  have hK3 : ((K : Int) + 7) / 8 = (m : Int) := by have := Hm.out; omega
  clear hK2
  go_wp2_with (at_builtin; go_must (refine wpList_append_src _ rfl (.tmp 11) (.tmp 14) 36 36 rfl B 5 i0 (.int .u8 0) 1 1 Try.underlying36 hi hz0 hz1 hz2 rfl (by decide) v k xs rfl (H0.out.alloc _) _ 1 [_] rfl (Src.ofSlice _ Try.underlying36 _ 1 1 _ rfl (cell_one_new _ _ _) (fun u hu => by simp at hu; subst hu; rfl)) (by simp only [maxLen]; omega) (by omega) (by simp; omega) ?_); intro v1 w1 hown1 hg1 hat1)
  have hb1 : Below B w w1 := below_of_own ((Below.refl _ _).alloc hB _) hg1 (H0.out.alloc _) (by simp; omega) (Nat.le_refl _)
  clear hg1 hat1
  go_loopw [0, 17] (fun v i wr => ∃ j : Nat, j ≤ m ∧ i = .int .i64 j ∧ wr.ownsRow B 5 1 v (k + 1 + j) (xs ++ [Value.int .u8 m] ++ bv ((be n.toNat).take j)) ∧ Below B w wr) (fun _ i _ => m - (intOf i).toNat)
  case atStart => exact ⟨0, Nat.zero_le _, rfl, by simpa [bv] using hown1, hb1⟩
  case round =>
    obtain ⟨j, hj, rfl, hownj, hbj⟩ := hrel
    have Hj := Lib.hid hownj
    have hBj := hbj.size
    clear hownj hown1 hb1
    by_cases hlt : j < m
    · go_wp2_with (at_builtin; go_must (refine wpList_append_src _ rfl (.tmp 20) (.tmp 29) 36 36 rfl B 5 i0 (.int .u8 0) 1 1 Try.underlying36 hi hz0 hz1 hz2 rfl (by decide) _ (k + 1 + j) _ rfl (Hj.out.alloc _) _ 1 [_] rfl (Src.ofSlice _ Try.underlying36 _ 1 1 _ rfl (cell_one_new _ _ _) (fun u hu => by simp at hu; subst hu; rfl)) (by simp only [maxLen]; omega) (by omega) (by simp; omega) ?_); intro v2 w2 hown2 hg2 hat2)
      have hb2 : Below B w w2 := below_of_own (hbj.alloc (by omega) _) hg2 (Hj.out.alloc _) (by simp; omega) (Nat.le_refl _)
      clear hg2 hat2
      refine ⟨⟨j + 1, by omega, by go_num, ?_, hb2⟩, by simp [intOf]; omega⟩
      rw [be_step h0 Hm.out hlt, ← List.append_assoc]
      exact hown2
    · have e : j = m := by omega
      subst e
      clear hK3
      go_wp2
      go_ret
      exact ⟨_, rfl, num_fin Hm.out hm8 Hj.out, hbj⟩
end Go.Proofs.Ytgppaompcnllbaa
