/- FieldsOne walked: it answers true. -/
import Derived.Test.YtoddmaiplinkaaaAwake
import Derived.Test.YtoddmaiplinkaaaPlain
import Derived.Test.YtoddmaiplinkaaaRegion
import Derived.Deep.Cut
import Derived.Deep.DeepCutAuto
namespace Go.Proofs.Ytoddmaiplinkaaa
open Go.RowKit

theorem wf_u64' {z : Int} (h : (Lit.int .u64 z).wf = true) : 0 ≤ z ∧ z < 2 ^ 64 := by
  have : 0 ≤ z ∧ z ≤ 18446744073709551615 := by simpa [Lit.wf, IntKind.min, IntKind.max, IntKind.signed, IntKind.bits] using h
  omega

theorem beq_cast (x y : Nat) : (decide (x = y) == ((x : Int) == (y : Int))) = true := by
  by_cases h : x = y
  · subst h; simp
  · have : ¬ (x : Int) = y := by omega
    simp [h, this]

set_option maxRecDepth 100000 in
set_option maxHeartbeats 1000000 in
theorem fieldsOne_walk (A0 : Option Addr) (n0 c0 : Nat) (l0 : List UInt8) (A1 : Option Addr) (n1 c1 : Nat) (l1 : List UInt8) (x2 : Int) (x3 : Int) (w : World) (r0 : Rd w w.heap.size 1 A0 n0 c0 (bv l0)) (r1 : Rd w w.heap.size 1 A1 n1 c1 (bv l1)) (f2 : (Lit.int .u64 x2).wf = true) (f3 : (Lit.int .u64 x3).wf = true) :
    Calls Try.prog 6 #[.slice A0 n0 c0, .slice A1 n1 c1, .int .u64 x2, .int .u64 x3] w fun e w' => e = .returned (.bool true) ∧ Below w.heap.size w w' := by
  obtain ⟨i0, hi, hz0, hz1, hz2⟩ := info_parts info_u8
  have R0 := Lib.hid r0
  have R1 := Lib.hid r1
  have hl0 : n0 = l0.length := r0.lenB
  have hl1 : n1 = l1.length := r1.lenB
  have hc0 := r0.cap
  have hc0m : c0 ≤ 9223372036854775807 := by have := r0.capm; unfold maxLen at this; omega
  have hc1 := r1.cap
  have hc1m : c1 ≤ 9223372036854775807 := by have := r1.capm; unfold maxLen at this; omega
  have Hl0 := Lib.hid hl0
  have Hl1 := Lib.hid hl1
  have hf2 := wf_u64' f2
  have hf3 := wf_u64' f3
  obtain ⟨x, rfl⟩ := Int.eq_ofNat_of_zero_le hf2.1
  obtain ⟨y, rfl⟩ := Int.eq_ofNat_of_zero_le hf3.1
  have Hx : Hid (x < 2 ^ 64) := Lib.hid (by omega)
  have Hy : Hid (y < 2 ^ 64) := Lib.hid (by omega)
  clear r0 r1 hl0 hl1 f2 f3 hf2 hf3
  by_cases h0 : 200 < n0
  · go_enter Try.func6, Try.ntmps6
    go_wp2_with fail
    refine (awake_any w).mono ?_
    rintro e w1 ⟨rfl, hb1⟩
    have Hb1 := Lib.hid hb1
    clear hb1
    go_wp2
    go_ret
    exact ⟨rfl, Hb1.out⟩
  by_cases h1 : 200 < n1
  · go_enter Try.func6, Try.ntmps6
    go_wp2_with fail
    refine (awake_any w).mono ?_
    rintro e w1 ⟨rfl, hb1⟩
    have Hb1 := Lib.hid hb1
    clear hb1
    go_wp2
    go_ret
    exact ⟨rfl, Hb1.out⟩
  have Fx : Hid (∀ u ∈ [(x : Int)], 0 ≤ u ∧ u < 2 ^ 64) := Lib.hid fun u hu => by simp at hu; have := Hx.out; omega
  have Fy : Hid (∀ u ∈ [(y : Int)], 0 ≤ u ∧ u < 2 ^ 64) := Lib.hid fun u hu => by simp at hu; have := Hy.out; omega
  have Nx : Hid (nums [(x : Int)] = num x) := Lib.hid (by simp [nums])
  have Ny : Hid (nums [(y : Int)] = num y) := Lib.hid (by simp [nums])
  obtain ⟨q, m, f, hT⟩ : ∃ q m f, takeS l0 = (q, m, f) := ⟨_, _, _, rfl⟩
  have T : Hid (taken l0 = .tuple #[.int .u64 q, .int .i64 m, .int .i64 f]) := Lib.hid (by rw [taken, hT])
  by_cases hf : f = 0
  · subst hf
    obtain ⟨rest, hl, hm, hq⟩ := take_inv hT
    have hm0 : m ≤ l0.length := ((take_ok hT).1 rfl).2.1
    have hmn : m ≤ n0 := by have := Hl0.out; omega
    have htk : l0.take m = num q := by rw [hl, hm, ← num_length, List.take_left]
    have Htk := Lib.hid htk
    have hm1 : 1 ≤ m := by omega
    have Hm : Hid (m = (num q).length) := Lib.hid (by rw [num_length]; exact hm)
    have Hq := Lib.hid hq
    clear hT hl hm hm0 hq htk
    go_enter Try.func6, Try.ntmps6
    go_wp2_with fail
    refine (awake_any w).mono ?_
    rintro e w1 ⟨rfl, hb1⟩
    have Hb1 := Lib.hid hb1
    have hs1 := hb1.size
    clear hb1
    go_wp2_with fail
    refine (take_any w.heap.size A0 n0 c0 l0 _ (R0.out.below Hb1.out)).mono ?_
    rintro e w' ⟨rfl, rfl⟩
    rw [T.out]
    have hpre : Rd w1 w.heap.size 1 A0 m c0 (bv (num q)) := by
      have h := (R0.out.below Hb1.out).pre hmn
      rwa [Nat.mul_one, bv_take, Htk.out] at h
    have Hpre := Lib.hid hpre
    clear hpre
    go_wp2_with (first
      | (at_builtin; (refine wpList_append_src _ rfl (.tmp 38) (.tmp 41) 24 24 rfl w.heap.size 5 i0 (.int .u8 0) 1 1 Try.underlying24 hi hz0 hz1 hz2 rfl (by decide) (.slice none 0 0) 0 [] rfl (World.ownsRow_nil w1 w.heap.size 5 1) _ m (bv (num q)) rfl (Rd.src Try.underlying24 Hpre.out (bv_one _)) (by simp only [maxLen]; omega) (by omega) hs1 ?_); (intro v2 w2 hown2 hg2 hat2; have Ho2 := Lib.hid hown2; have Hb2 : Hid (Below w.heap.size w w2) := Lib.hid (below_of_own Hb1.out hg2 (World.ownsRow_nil w1 w.heap.size 5 1) hs1 (Nat.le_refl _)); have hs2 := Hb2.out.size; clear hown2 hg2 hat2))
      | (at_builtin; go_must (refine wpList_append_src _ rfl (.tmp 43) (.tmp 44) 24 24 rfl w.heap.size 5 i0 (.int .u8 0) 1 1 Try.underlying24 hi hz0 hz1 hz2 rfl (by decide) _ _ _ rfl Ho2.out _ n1 (bv l1) rfl (Rd.src Try.underlying24 (R1.out.below Hb2.out) (bv_one _)) (by simp only [maxLen]; omega) (by omega) hs2 ?_); (intro v3 w3 hown3 hg3 hat3; have Hb3 : Hid (Below w.heap.size w w3) := Lib.hid (below_of_own Hb2.out hg3 Ho2.out hs2 (Nat.le_refl _)); have hs3 := Hb3.out.size; obtain ⟨A3, c3, rfl, hr3⟩ := Rd.own hown3; have Hr3 : Hid (Rd w3 w3.heap.size 1 A3 (m + n1) c3 (bv (num q ++ l1))) := Lib.hid (by rw [bv_append]; simpa using hr3); clear hown3 hg3 hat3 hr3)))
    have hT3 : taken (num q ++ l1) = .tuple #[.int .u64 q, .int .i64 m, .int .i64 0] := by
      rw [taken, take_num q Hq.out, ← num_length, ← Hm.out]; rfl
    have T3 := Lib.hid hT3
    clear hT3
    refine (take_any _ A3 _ c3 _ _ Hr3.out).mono ?_
    rintro e w' ⟨rfl, rfl⟩
    rw [T3.out]
    go_wp2_with fail
    go_cut [74] from 52 (fun s w4 => s = .bool false ∧ Below w.heap.size w w4)
    case first =>
      have hpre3 : Rd w3 w.heap.size 1 A0 m c0 (bv (num q)) := by
        have h := (R0.out.below Hb3.out).pre hmn
        rwa [Nat.mul_one, bv_take, Htk.out] at h
      have hcvC := fun (W : World) (hb : Below w.heap.size w W) => (by have h := (R0.out.below hb).pre hmn; rw [Nat.mul_one, bv_take, Htk.out] at h; exact h.conv (P := Try.prog) 24 9 5 Try.underlying24 Try.underlying5 Try.underlying9 : (convert 24 9 (.slice A0 m c0)).run Try.prog W = .ok (.string (strOf (num q))) W)
      have htl := strOf_toList
      have hmc : m ≤ c0 := by omega
      have hq0 := Hq.out
      have Hlit : Hid (Rd (w3.alloc (.cells #[.int .u64 q] 27)).drew (w3.alloc (.cells #[.int .u64 q] 27)).drew.heap.size 1 (some ⟨w3.heap.size, 0, none⟩) 1 1 ([(q : Int)].map (Value.int .u64))) := Lib.hid (Rd.litX w3 #[.int .u64 q] 27 1 1 _ rfl rfl (by simp [maxLen])).drew
      have Hfit : Hid (∀ u ∈ [(q : Int)], 0 ≤ u ∧ u < 2 ^ 64) := Lib.hid fun u hu => by simp at hu; subst hu; omega
      have Hn1 : Hid (nums [(q : Int)] = num q) := Lib.hid (by simp [nums])
      have hS1 : Below w.heap.size w (w3.alloc (.cells #[.int .u64 q] 27)).drew := (Hb3.out.alloc hs3 _).drew
      have hS0 : Below w.heap.size w w3.drew := Hb3.out.drew
      clear hpre3 hq0 T T3 Hr3 Hb2 Hb1 Hpre Ho2 hs2 hs1 R1 Hl1 hc1 hc1m Hx Hy hi hz0 hz1 hz2 Hm Hl0
      refine wp_region_any (by kernel_rfl) ?_
      change wpAny _ _ _ _ _ _ _ (World.drew _)
      refine wpAny_of_held (S := fun W => Below w.heap.size w W) _ _ _ _ ?_
      -- 0 move (Operand.tmp 10)
      refine roH_take 0 (some 52) (v := ?v0) rfl rfl (by kernel_rfl) (by kernel_rfl) (by kernel_rfl) (fun _ _ _ h => h) (by rfl) ?y0 (by assumption) ?r0
      case y0 => (intro w hS; (try dsimp only at hS); go_simp; try with_reducible rfl)
      simp only [Act.put, List.setIfInBounds_toArray, List.set_cons_zero, List.set_cons_succ]
      -- 4 move (Operand.tmp 0)
      refine roH_take 4 (some 56) (v := ?v4) rfl rfl (by kernel_rfl) (by kernel_rfl) (by kernel_rfl) (fun _ _ _ h => h) (by rfl) ?y4 (by assumption) ?r4
      case y4 => (intro w hS; (try dsimp only at hS); go_simp; try with_reducible rfl)
      simp only [Act.put, List.setIfInBounds_toArray, List.set_cons_zero, List.set_cons_succ]
      -- 5 move (Operand.tmp 11)
      refine roH_take 5 (some 57) (v := ?v5) rfl rfl (by kernel_rfl) (by kernel_rfl) (by kernel_rfl) (fun _ _ _ h => h) (by rfl) ?y5 (by assumption) ?r5
      case y5 => (intro w hS; (try dsimp only at hS); go_simp; try with_reducible rfl)
      simp only [Act.put, List.setIfInBounds_toArray, List.set_cons_zero, List.set_cons_succ]
      -- 6 slice 24 (Operand.tmp 56) none (some (Operand.tmp 57)) none
      refine roH_take 6 (some 58) (v := ?v6) rfl rfl (by kernel_rfl) (by kernel_rfl) (by kernel_rfl) (fun _ _ _ h => h) (by rfl) ?y6 (by assumption) ?r6
      case y6 => (intro w hS; (try dsimp only at hS); go_simp; try with_reducible rfl)
      simp only [Act.put, List.setIfInBounds_toArray, List.set_cons_zero, List.set_cons_succ]
      -- 7 convert 24 9 (Operand.tmp 58)
      refine roH_take 7 (some 59) (v := ?v7) rfl rfl (by kernel_rfl) (by kernel_rfl) (by kernel_rfl) (fun _ _ _ h => h) (by rfl) ?y7 (by assumption) ?r7
      case y7 => (intro w hS; (try dsimp only at hS); go_simp; try with_reducible rfl)
      simp only [Act.put, List.setIfInBounds_toArray, List.set_cons_zero, List.set_cons_succ]
      -- 1 buildSlice 22 1 #[(0, Operand.tmp 52)]
      refine roH_one 1 rfl (by kernel_rfl) ?_
      intro K hK
      go_simp
      refine hK _ _ hS1 ?_
      clear hK K
      -- 2 call { callee := Callee.value (Operand.func 12), args := #[Opera
      refine roH_one 2 rfl (by kernel_rfl) ?_
      intro K hK
      go_simp
      refine (put_any _ 1 1 [(q : Int)] _ Hlit.out Hfit.out (by omega)).mono ?_
      rintro e w4 ⟨v4, rfl, hown4, hb4⟩
      rw [Hn1.out] at hown4
      obtain ⟨A4, c4, rfl, hr4⟩ := Rd.own hown4
      have hcv4 := hr4.conv (P := Try.prog) 24 9 5 Try.underlying24 Try.underlying5 Try.underlying9
      have hS2 : Below w.heap.size w w4 := hS1.trans (hb4.mono hS1.size)
      clear hown4 hr4 hb4
      refine hK _ _ hS2 ?_
      clear hK K
      -- 3 convert 24 9 (Operand.tmp 54)
      refine roH_one 3 rfl (by kernel_rfl) ?_
      intro K hK
      go_simp
      refine hK _ _ hS2 ?_
      clear hK K
      -- 8 binOp BinOp.neq 9 (Operand.tmp 55) (Operand.tmp 59) 9
      refine roH_take 8 (some 60) (v := ?v8) rfl rfl (by kernel_rfl) (by kernel_rfl) (by kernel_rfl) (fun _ _ _ h => h) (by rfl) ?y8 (by assumption) ?r8
      case y8 => (intro w hS; (try dsimp only at hS); go_simp; try with_reducible rfl)
      simp only [Act.put, List.setIfInBounds_toArray, List.set_cons_zero, List.set_cons_succ]
      -- 9 move (Operand.tmp 60)
      refine roH_take 9 (some 61) (v := ?v9) rfl rfl (by kernel_rfl) (by kernel_rfl) (by kernel_rfl) (fun _ _ _ h => h) (by rfl) ?y9 (by assumption) ?r9
      case y9 => (intro w hS; (try dsimp only at hS); go_simp; try with_reducible rfl)
      simp only [Act.put, List.setIfInBounds_toArray, List.set_cons_zero, List.set_cons_succ]
      -- 10 move (Operand.tmp 14)
      refine roH_take 10 (some 62) (v := ?v10) rfl rfl (by kernel_rfl) (by kernel_rfl) (by kernel_rfl) (fun _ _ _ h => h) (by rfl) ?y10 (by assumption) ?r10
      case y10 => (intro w hS; (try dsimp only at hS); go_simp; try with_reducible rfl)
      simp only [Act.put, List.setIfInBounds_toArray, List.set_cons_zero, List.set_cons_succ]
      -- 11 move (Operand.tmp 10)
      refine roH_take 11 (some 63) (v := ?v11) rfl rfl (by kernel_rfl) (by kernel_rfl) (by kernel_rfl) (fun _ _ _ h => h) (by rfl) ?y11 (by assumption) ?r11
      case y11 => (intro w hS; (try dsimp only at hS); go_simp; try with_reducible rfl)
      simp only [Act.put, List.setIfInBounds_toArray, List.set_cons_zero, List.set_cons_succ]
      -- 12 binOp BinOp.neq 27 (Operand.tmp 62) (Operand.tmp 63) 27
      refine roH_take 12 (some 64) (v := ?v12) rfl rfl (by kernel_rfl) (by kernel_rfl) (by kernel_rfl) (fun _ _ _ h => h) (by rfl) ?y12 (by assumption) ?r12
      case y12 => (intro w hS; (try dsimp only at hS); go_simp; try with_reducible rfl)
      simp only [Act.put, List.setIfInBounds_toArray, List.set_cons_zero, List.set_cons_succ]
      -- 13 pick (Operand.tmp 61) (Operand.const (Value.bool true)) (Operand
      refine roH_take 13 (some 65) (v := ?v13) rfl rfl (by kernel_rfl) (by kernel_rfl) (by kernel_rfl) (fun _ _ _ h => h) (by rfl) ?y13 (by assumption) ?r13
      case y13 => (intro w hS; (try dsimp only at hS); go_simp; try with_reducible rfl)
      simp only [Act.put, List.setIfInBounds_toArray, List.set_cons_zero, List.set_cons_succ]
      -- 14 move (Operand.tmp 65)
      refine roH_take 14 (some 66) (v := ?v14) rfl rfl (by kernel_rfl) (by kernel_rfl) (by kernel_rfl) (fun _ _ _ h => h) (by rfl) ?y14 (by assumption) ?r14
      case y14 => (intro w hS; (try dsimp only at hS); go_simp; try with_reducible rfl)
      simp only [Act.put, List.setIfInBounds_toArray, List.set_cons_zero, List.set_cons_succ]
      -- 15 move (Operand.tmp 15)
      refine roH_take 15 (some 67) (v := ?v15) rfl rfl (by kernel_rfl) (by kernel_rfl) (by kernel_rfl) (fun _ _ _ h => h) (by rfl) ?y15 (by assumption) ?r15
      case y15 => (intro w hS; (try dsimp only at hS); go_simp; try with_reducible rfl)
      simp only [Act.put, List.setIfInBounds_toArray, List.set_cons_zero, List.set_cons_succ]
      -- 16 move (Operand.tmp 11)
      refine roH_take 16 (some 68) (v := ?v16) rfl rfl (by kernel_rfl) (by kernel_rfl) (by kernel_rfl) (fun _ _ _ h => h) (by rfl) ?y16 (by assumption) ?r16
      case y16 => (intro w hS; (try dsimp only at hS); go_simp; try with_reducible rfl)
      simp only [Act.put, List.setIfInBounds_toArray, List.set_cons_zero, List.set_cons_succ]
      -- 17 binOp BinOp.neq 3 (Operand.tmp 67) (Operand.tmp 68) 3
      refine roH_take 17 (some 69) (v := ?v17) rfl rfl (by kernel_rfl) (by kernel_rfl) (by kernel_rfl) (fun _ _ _ h => h) (by rfl) ?y17 (by assumption) ?r17
      case y17 => (intro w hS; (try dsimp only at hS); go_simp; try with_reducible rfl)
      simp only [Act.put, List.setIfInBounds_toArray, List.set_cons_zero, List.set_cons_succ]
      -- 18 pick (Operand.tmp 66) (Operand.const (Value.bool true)) (Operand
      refine roH_take 18 (some 70) (v := ?v18) rfl rfl (by kernel_rfl) (by kernel_rfl) (by kernel_rfl) (fun _ _ _ h => h) (by rfl) ?y18 (by assumption) ?r18
      case y18 => (intro w hS; (try dsimp only at hS); go_simp; try with_reducible rfl)
      simp only [Act.put, List.setIfInBounds_toArray, List.set_cons_zero, List.set_cons_succ]
      -- 19 move (Operand.tmp 70)
      refine roH_take 19 (some 71) (v := ?v19) rfl rfl (by kernel_rfl) (by kernel_rfl) (by kernel_rfl) (fun _ _ _ h => h) (by rfl) ?y19 (by assumption) ?r19
      case y19 => (intro w hS; (try dsimp only at hS); go_simp; try with_reducible rfl)
      simp only [Act.put, List.setIfInBounds_toArray, List.set_cons_zero, List.set_cons_succ]
      -- 20 move (Operand.tmp 16)
      refine roH_take 20 (some 72) (v := ?v20) rfl rfl (by kernel_rfl) (by kernel_rfl) (by kernel_rfl) (fun _ _ _ h => h) (by rfl) ?y20 (by assumption) ?r20
      case y20 => (intro w hS; (try dsimp only at hS); go_simp; try with_reducible rfl)
      simp only [Act.put, List.setIfInBounds_toArray, List.set_cons_zero, List.set_cons_succ]
      -- 21 binOp BinOp.neq 28 (Operand.tmp 72) (Operand.const (Value.int Int
      refine roH_take 21 (some 73) (v := ?v21) rfl rfl (by kernel_rfl) (by kernel_rfl) (by kernel_rfl) (fun _ _ _ h => h) (by rfl) ?y21 (by assumption) ?r21
      case y21 => (intro w hS; (try dsimp only at hS); go_simp; try with_reducible rfl)
      simp only [Act.put, List.setIfInBounds_toArray, List.set_cons_zero, List.set_cons_succ]
      -- 22 pick (Operand.tmp 71) (Operand.const (Value.bool true)) (Operand
      refine roH_take 22 (some 74) (v := ?v22) rfl rfl (by kernel_rfl) (by kernel_rfl) (by kernel_rfl) (fun _ _ _ h => h) (by rfl) ?y22 (by assumption) ?r22
      case y22 => (intro w hS; (try dsimp only at hS); go_simp; try with_reducible rfl)
      simp only [Act.put, List.setIfInBounds_toArray, List.set_cons_zero, List.set_cons_succ]
      refine wpAnyH_done (by kernel_rfl) ?_ _
      go_wp2_with fail
      go_meet
      exact ⟨rfl, hS2⟩
    case rest =>
      obtain ⟨rfl, hb4⟩ := hcut
      have Hb4 := Lib.hid hb4
      have hs4 := hb4.size
      clear hb4 T T3 Hr3 Hb2 Hb1 Hpre Ho2 hs2 hs1 R1 Hl1 hc1 hc1m hi hz0 hz1 hz2 Hm Hl0 Hb3 hs3 Htk hm1
      go_wp2_with fail
      refine (put_any _ 1 1 [(x : Int)] _ (Rd.litX wc #[.int .u64 x] 27 1 1 _ rfl rfl (by simp [maxLen])) Fx.out (by omega)).mono ?_
      rintro e w5 ⟨v5, rfl, hown5, hb5⟩
      rw [Nx.out] at hown5
      obtain ⟨A5, c5, rfl, hr5⟩ := Rd.own hown5
      have hcv5 := hr5.conv (P := Try.prog) 24 9 5 Try.underlying24 Try.underlying5 Try.underlying9
      have hb5' : Below w.heap.size w w5 := (Hb4.out.alloc hs4 _).trans (hb5.mono (by simp; omega))
      have Hb5 := Lib.hid hb5'
      have hs5 := hb5'.size
      clear hown5 hr5 hb5 hb5'
      go_wp2_with fail
      clear hcv5
      refine (put_any _ 1 1 [(y : Int)] _ (Rd.litX w5 #[.int .u64 y] 27 1 1 _ rfl rfl (by simp [maxLen])) Fy.out (by omega)).mono ?_
      rintro e w6 ⟨v6, rfl, hown6, hb6⟩
      rw [Ny.out] at hown6
      obtain ⟨A6, c6, rfl, hr6⟩ := Rd.own hown6
      have hcv6 := hr6.conv (P := Try.prog) 24 9 5 Try.underlying24 Try.underlying5 Try.underlying9
      have hb6' : Below w.heap.size w w6 := (Hb5.out.alloc hs5 _).trans (hb6.mono (by simp; omega))
      have Hb6 := Lib.hid hb6'
      clear hown6 hr6 hb6 hb6'
      have htl := strOf_toList
      have hless : Op.bytesLess (num x) (num y) = decide (x < y) := less_num x y Hx.out Hy.out
      have hbeq : (num x == num y) = decide (x = y) := num_beq x y Hx.out Hy.out
      go_wp2
      go_ret
      exact ⟨congrArg (fun b => Ending.returned (.bool b)) (beq_cast x y), Hb6.out⟩
  · obtain ⟨rfl, rfl⟩ := (take_ok hT).2.2 hf
    have hf1 : ((f : Int) == 0) = false := by simp [hf]
    clear hT
    go_enter Try.func6, Try.ntmps6
    go_wp2_with fail
    refine (awake_any w).mono ?_
    rintro e w1 ⟨rfl, hb1⟩
    have Hb1 := Lib.hid hb1
    have hs1 := hb1.size
    clear hb1
    go_wp2_with fail
    refine (take_any w.heap.size A0 n0 c0 l0 _ (R0.out.below Hb1.out)).mono ?_
    rintro e w' ⟨rfl, rfl⟩
    rw [T.out]
    go_wp2_with fail
    refine (put_any _ 1 1 [(x : Int)] _ (Rd.litX w1 #[.int .u64 x] 27 1 1 _ rfl rfl (by simp [maxLen])) Fx.out (by omega)).mono ?_
    rintro e w5 ⟨v5, rfl, hown5, hb5⟩
    rw [Nx.out] at hown5
    obtain ⟨A5, c5, rfl, hr5⟩ := Rd.own hown5
    have hcv5 := hr5.conv (P := Try.prog) 24 9 5 Try.underlying24 Try.underlying5 Try.underlying9
    have hb5' : Below w.heap.size w w5 := (Hb1.out.alloc hs1 _).trans (hb5.mono (by simp; omega))
    have Hb5 := Lib.hid hb5'
    have hs5 := hb5'.size
    clear hown5 hr5 hb5 hb5'
    go_wp2_with fail
    clear hcv5
    refine (put_any _ 1 1 [(y : Int)] _ (Rd.litX w5 #[.int .u64 y] 27 1 1 _ rfl rfl (by simp [maxLen])) Fy.out (by omega)).mono ?_
    rintro e w6 ⟨v6, rfl, hown6, hb6⟩
    rw [Ny.out] at hown6
    obtain ⟨A6, c6, rfl, hr6⟩ := Rd.own hown6
    have hcv6 := hr6.conv (P := Try.prog) 24 9 5 Try.underlying24 Try.underlying5 Try.underlying9
    have hb6' : Below w.heap.size w w6 := (Hb5.out.alloc hs5 _).trans (hb6.mono (by simp; omega))
    have Hb6 := Lib.hid hb6'
    clear hown6 hr6 hb6 hb6'
    have htl := strOf_toList
    have hless : Op.bytesLess (num x) (num y) = decide (x < y) := less_num x y Hx.out Hy.out
    have hbeq : (num x == num y) = decide (x = y) := num_beq x y Hx.out Hy.out
    go_wp2
    go_ret
    exact ⟨congrArg (fun b => Ending.returned (.bool b)) (beq_cast x y), Hb6.out⟩
end Go.Proofs.Ytoddmaiplinkaaa
