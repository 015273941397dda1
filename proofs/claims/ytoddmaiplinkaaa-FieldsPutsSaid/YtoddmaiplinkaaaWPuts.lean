/- FieldsPuts walked: it answers true. -/
import Derived.Test.YtoddmaiplinkaaaAwake
import Derived.Test.YtoddmaiplinkaaaRefTake
import Derived.Test.YtoddmaiplinkaaaRegion
namespace Go.Proofs.Ytoddmaiplinkaaa
open Go.RowKit

theorem wf_u64 {z : Int} (h : (Lit.int .u64 z).wf = true) : 0 ≤ z ∧ z < 2 ^ 64 := by
  have : 0 ≤ z ∧ z ≤ 18446744073709551615 := by simpa [Lit.wf, IntKind.min, IntKind.max, IntKind.signed, IntKind.bits] using h
  omega

theorem conv_later {P : Program} {w : World} {n c : Nat} {A : Option Addr} {l : List UInt8} (h : Rd w w.heap.size 1 A n c (bv l)) (src dst e : TypeId) (hs : P.underlying src = some (.slice e)) (he : P.underlying e = some (.int .u8)) (hd : P.underlying dst = some .string) :
    ∀ W, Below w.heap.size w W → (convert src dst (.slice A n c)).run P W = .ok (.string (strOf l)) W := fun _ hb => (h.below hb).conv src dst e hs he hd
/-- What all texts together take, if each is short. -/
theorem texts_bound (ss : List ByteArray) (m : Nat) (hm : m ≤ 1000000) (h : ∀ s ∈ ss, s.size ≤ m) : (texts ss).length ≤ (m + 9) * ss.length := by
  induction ss with
  | nil => simp [texts]
  | cons s r ih =>
    have h1 := ih fun x hx => h x (List.mem_cons_of_mem _ hx)
    have h2 := h s (List.mem_cons_self ..)
    have h3 := nb_le8 (n := s.size) (by omega)
    simp only [texts, List.flatMap_cons, List.length_append, text_length, List.length_cons] at h1 ⊢
    rw [Nat.mul_succ]
    omega

set_option maxRecDepth 100000 in
set_option maxHeartbeats 2000000 in
theorem fieldsPuts_walk (A0 : Option Addr) (n0 c0 : Nat) (z0 : List Int) (A1 : Option Addr) (n1 c1 : Nat) (s1 : List ByteArray) (A2 : Option Addr) (n2 c2 : Nat) (l2 : List UInt8) (w : World) (r0 : Rd w w.heap.size 1 A0 n0 c0 (z0.map (Value.int .u64))) (f0 : ∀ z ∈ z0, (Lit.int .u64 z).wf = true) (r1 : Rd w w.heap.size 1 A1 n1 c1 (s1.map Value.string)) (f1 : ∀ s ∈ s1, s.size ≤ maxLen) (r2 : Rd w w.heap.size 1 A2 n2 c2 (bv l2)) :
    Calls Try.prog 3 #[.slice A0 n0 c0, .slice A1 n1 c1, .slice A2 n2 c2] w fun e w' => e = .returned (.bool true) ∧ Below w.heap.size w w' := by
  have R0 := Lib.hid r0
  have R1 := Lib.hid r1
  have R2 := Lib.hid r2
  have F0 : Hid (∀ z ∈ z0, 0 ≤ z ∧ z < 2 ^ 64) := Lib.hid fun z hz => wf_u64 (f0 z hz)
  have hn0 : n0 ≤ 9223372036854775807 := by have := r0.cap; have := r0.capm; unfold maxLen at this; omega
  have hn1 : n1 ≤ 9223372036854775807 := by have := r1.cap; have := r1.capm; unfold maxLen at this; omega
  have hn2 : n2 ≤ 9223372036854775807 := by have := r2.cap; have := r2.capm; unfold maxLen at this; omega
  have F1 := Lib.hid f1
  clear r0 r1 r2 f0 f1
  by_cases h0 : 200 < n0
  · go_enter Try.func3, Try.ntmps3
    go_wp2_with fail
    refine (awake_any w).mono ?_
    rintro e w1 ⟨rfl, hb1⟩
    have Hb1 := Lib.hid hb1
    clear hb1
    go_wp2
    go_ret
    exact ⟨rfl, Hb1.out⟩
  by_cases h1 : 40 < n1
  · go_enter Try.func3, Try.ntmps3
    go_wp2_with fail
    refine (awake_any w).mono ?_
    rintro e w1 ⟨rfl, hb1⟩
    have Hb1 := Lib.hid hb1
    clear hb1
    go_wp2
    go_ret
    exact ⟨rfl, Hb1.out⟩
  by_cases h2 : 1000 < n2
  · go_enter Try.func3, Try.ntmps3
    go_wp2_with fail
    refine (awake_any w).mono ?_
    rintro e w1 ⟨rfl, hb1⟩
    have Hb1 := Lib.hid hb1
    clear hb1
    go_wp2
    go_ret
    exact ⟨rfl, Hb1.out⟩
  go_enter Try.func3, Try.ntmps3
  go_wp2_with fail
  refine (awake_any w).mono ?_
  rintro e w1 ⟨rfl, hb1⟩
  have Hb1 := Lib.hid hb1
  clear hb1
  go_wp2_with fail
  go_loopw [8, 9] (fun t i wr => ∃ k : Nat, k ≤ n0 ∧ i = .int .i64 k ∧ t = .string (strOf (nums (z0.take k))) ∧ Below w.heap.size w wr) (fun _ i _ => n0 - (intOf i).toNat)
  case atStart => exact ⟨0, Nat.zero_le _, rfl, by simp [nums, strOf], Hb1.out⟩
  case round =>
    obtain ⟨k, hk, rfl, rfl, hb⟩ := hrel
    have Hb := Lib.hid hb
    have hbs := hb.size
    clear hb
    by_cases hlt : k < n0
    · obtain ⟨b, o, u, rfl, _, hx, hc⟩ := (R0.out.below Hb.out).getInt hlt
      have Hsn := Lib.hid (nums_snoc z0 k u hx)
      have hu := F0.out u (List.mem_of_getElem? hx)
      have hle := nums_take_le z0 F0.out k
      have hz1 : (strOf (nums (z0.take k))).size ≤ 1800 := by rw [strOf_size]; omega
      have hz2 : (strOf (num u.toNat)).size ≤ 9 := by rw [strOf_size, num_length]; have := nb_le8 (n := u.toNat) (by omega); omega
      obtain ⟨x, rfl⟩ := Int.eq_ofNat_of_zero_le hu.1
      have Hu : Hid (x < 2 ^ 64) := Lib.hid (by omega)
      rw [Int.toNat_natCast] at hz2
      clear hx hu hle
      go_wp2_with fail
      refine (refNum_any x Hu.out _).mono ?_
      rintro e w2 ⟨rfl, hb2⟩
      have Hb2 := Lib.hid (Hb.out.trans (hb2.mono hbs))
      clear hb2
      go_wp2
      refine ⟨⟨k + 1, by omega, by go_num, ?_, Hb2.out⟩, by simp [intOf]; omega⟩
      rw [Hsn.out, ← strOf_append, Int.toNat_natCast]
    · have e1 : k = n0 := by omega
      subst e1
      have hl0 : z0.take k = z0 := List.take_of_length_le (by have := R0.out.len; simp at this; omega)
      have hle0 : (nums z0).length ≤ 1800 := by have := nums_take_le z0 F0.out k; rw [hl0] at this; omega
      rw [hl0]
      clear hl0
      go_wp2_with fail
      go_loopw [10] (fun i wr => ∃ k : Nat, k ≤ n1 ∧ i = .int .i64 k ∧ (∀ s ∈ s1.take k, s.size ≤ 400) ∧ Below w.heap.size w wr) (fun i _ => n1 - (intOf i).toNat)
      case atStart => exact ⟨0, Nat.zero_le _, rfl, (fun s hs => by simp at hs), Hb.out⟩
      case round =>
        obtain ⟨k1, hk1, rfl, hall, hb⟩ := hrel
        have Hall := Lib.hid hall
        have Hb2 := Lib.hid hb
        clear hb hall
        by_cases hlt1 : k1 < n1
        · obtain ⟨b, o, s, rfl, _, hx, hc⟩ := (R1.out.below Hb2.out).getStr hlt1
          have hmem : s1.take (k1 + 1) = s1.take k1 ++ [s] := by
            obtain ⟨hl, hx⟩ := List.getElem?_eq_some_iff.1 hx
            rw [List.take_succ_eq_append_getElem hl, hx]
          have Hmem := Lib.hid hmem
          have hsz : s.size ≤ 9223372036854775807 := by have := F1.out s (List.mem_of_getElem? hx); unfold maxLen at this; omega
          clear hmem hx
          by_cases hbig : 400 < s.size
          · go_wp2
            go_ret
            exact ⟨rfl, Hb2.out⟩
          · go_wp2
            refine ⟨⟨k1 + 1, by omega, by go_num, ?_, Hb2.out⟩, by simp [intOf]; omega⟩
            rw [Hmem.out]
            intro t ht
            rcases List.mem_append.1 ht with ht | ht
            · exact Hall.out t ht
            · simp at ht; subst ht; omega
        · have e2 : k1 = n1 := by omega
          subst e2
          have hl1 : s1.take k1 = s1 := List.take_of_length_le (by have := R1.out.len; simp at this; omega)
          have hle1 : (texts s1).length ≤ 16360 := by
            have h3 := texts_bound s1 400 (by omega) (by have := Hall.out; rwa [hl1] at this)
            have h4 := R1.out.len
            simp at h4
            rw [h4] at h3
            omega
          obtain ⟨q, m, f, hT⟩ : ∃ q m f, takeS l2 = (q, m, f) := ⟨_, _, _, rfl⟩
          have T : Hid (taken l2 = .tuple #[.int .u64 q, .int .i64 m, .int .i64 f]) := Lib.hid (by rw [taken, hT])
          have hcv : (convert 24 9 (.slice A2 n2 c2)).run Try.prog wr = .ok (.string (strOf l2)) wr := (R2.out.below Hb2.out).conv (P := Try.prog) 24 9 5 Try.underlying24 Try.underlying5 Try.underlying9
          clear hl1 hT
          go_wp2_with fail
          refine (take_any w.heap.size A2 n2 c2 l2 _ (R2.out.below Hb2.out)).mono ?_
          rintro e w' ⟨rfl, rfl⟩
          rw [T.out]
          go_wp2_with fail
          refine (refTake_any l2 (by have := R2.out.lenB; omega) _).mono ?_
          rintro e w' ⟨rfl, rfl⟩
          rw [T.out]
          go_wp2_with fail
          have Hb3 : Hid (Below w.heap.size w wr.drew) := Lib.hid Hb2.out.drew
          have htl := strOf_toList
          clear hcv T Hall Hb2 Hb Hb1 F1 R2 hn0 hn1 hn2 h2 hk hk1 hlt hlt1
          refine wp_region_any (by kernel_rfl) ?_
          change wpAny _ _ _ _ _ _ _ (World.drew _)
          -- 0 move (Operand.tmp 0)
          refine ro_take 0 (some 71) (v := ?v0) rfl rfl (by kernel_rfl) (by kernel_rfl) (by kernel_rfl) (fun _ _ _ h => h) (by rfl) ?y0 ?r0
          case y0 => (intro w; go_simp; try with_reducible rfl)
          simp only [Act.put, List.setIfInBounds_toArray, List.set_cons_zero, List.set_cons_succ]
          -- 3 move (Operand.tmp 8)
          refine ro_take 3 (some 74) (v := ?v3) rfl rfl (by kernel_rfl) (by kernel_rfl) (by kernel_rfl) (fun _ _ _ h => h) (by rfl) ?y3 ?r3
          case y3 => (intro w; go_simp; try with_reducible rfl)
          simp only [Act.put, List.setIfInBounds_toArray, List.set_cons_zero, List.set_cons_succ]
          -- 1 call { callee := Callee.value (Operand.func 12), args := #[Opera
          refine wpAny_ready (rs := [1]) (by kernel_rfl) (by simp) ?_
          refine AllReady.cons rfl (fun K hK => ?_) AllReady.nil
          go_simp
          refine (put_any A0 k c0 z0 _ ((R0.out.below Hb3.out).more Hb3.out.size) F0.out (by omega)).mono ?_
          rintro e w3 ⟨v3, rfl, hown3, hb3⟩
          obtain ⟨A3, c3, rfl, hr3⟩ := Rd.own hown3
          have Hb4 : Hid (Below w.heap.size w w3) := Lib.hid (Hb3.out.trans (hb3.mono Hb3.out.size))
          have hcv3 := hr3.conv (P := Try.prog) 24 9 5 Try.underlying24 Try.underlying5 Try.underlying9
          clear hown3 hb3 hr3
          go_wp2_with fail
          first | (refine hK _ _ ?_; clear hK K) | skip
          -- 2 convert 24 9 (Operand.tmp 72)
          refine wpAny_ready (rs := [2]) (by kernel_rfl) (by simp) ?_
          refine AllReady.cons rfl (fun K hK => ?_) AllReady.nil
          go_simp
          refine hK _ _ ?_
          clear hK K
          -- 4 binOp BinOp.eql 9 (Operand.tmp 73) (Operand.tmp 74) 9
          refine ro_take 4 (some 75) (v := ?v4) rfl rfl (by kernel_rfl) (by kernel_rfl) (by kernel_rfl) (fun _ _ _ h => h) (by rfl) ?y4 ?r4
          case y4 => (intro w; go_simp; try with_reducible rfl)
          simp only [Act.put, List.setIfInBounds_toArray, List.set_cons_zero, List.set_cons_succ]
          -- 5 move (Operand.tmp 75)
          refine ro_take 5 (some 76) (v := ?v5) rfl rfl (by kernel_rfl) (by kernel_rfl) (by kernel_rfl) (fun _ _ _ h => h) (by rfl) ?y5 ?r5
          case y5 => (intro w; go_simp; try with_reducible rfl)
          simp only [Act.put, List.setIfInBounds_toArray, List.set_cons_zero, List.set_cons_succ]
          -- 6 move (Operand.tmp 1)
          refine ro_take 6 (some 77) (v := ?v6) rfl rfl (by kernel_rfl) (by kernel_rfl) (by kernel_rfl) (fun _ _ _ h => h) (by rfl) ?y6 ?r6
          case y6 => (intro w; go_simp; try with_reducible rfl)
          simp only [Act.put, List.setIfInBounds_toArray, List.set_cons_zero, List.set_cons_succ]
          -- 9 move (Operand.tmp 1)
          refine ro_take 9 (some 80) (v := ?v9) rfl rfl (by kernel_rfl) (by kernel_rfl) (by kernel_rfl) (fun _ _ _ h => h) (by rfl) ?y9 ?r9
          case y9 => (intro w; go_simp; try with_reducible rfl)
          simp only [Act.put, List.setIfInBounds_toArray, List.set_cons_zero, List.set_cons_succ]
          -- 7 call { callee := Callee.value (Operand.func 13), args := #[Opera
          refine wpAny_ready (rs := [7]) (by kernel_rfl) (by simp) ?_
          refine AllReady.cons rfl (fun K hK => ?_) AllReady.nil
          go_simp
          refine (texts_any A1 k1 c1 s1 _ ((R1.out.below Hb4.out).more Hb4.out.size) (by omega)).mono ?_
          rintro e w4 ⟨v4, rfl, hown4, hb4⟩
          obtain ⟨A4, c4, rfl, hr4⟩ := Rd.own hown4
          have Hb5 : Hid (Below w.heap.size w w4) := Lib.hid (Hb4.out.trans (hb4.mono Hb4.out.size))
          have hcv4 := conv_later hr4 (P := Try.prog) 24 9 5 Try.underlying24 Try.underlying5 Try.underlying9
          clear hown4 hb4 hr4
          go_wp2_with fail
          first | (refine hK _ _ ?_; clear hK K) | skip
          -- 8 convert 24 9 (Operand.tmp 78) AHEAD OF 10 call { callee := Callee.value (Operand.func 
          refine ro_swap 8 10 (some 79) (fun W => Below w4.heap.size w4 W) (v := ?v8) rfl rfl rfl (by kernel_rfl) (by kernel_rfl) (by kernel_rfl) (by kernel_rfl) (by kernel_rfl) (by kernel_rfl) (by kernel_rfl) (by kernel_rfl) (by kernel_rfl) (fun _ _ _ h => h) (by rfl) ?y8 (Below.refl _ _) ?r8
          case y8 => (intro w hS; (try dsimp only at hS); go_simp; try with_reducible rfl)
          simp only [Act.put, List.setIfInBounds_toArray, List.set_cons_zero, List.set_cons_succ]
          intro K hK
          go_simp
          refine (refTexts_any A1 k1 c1 s1 _ ((R1.out.below Hb5.out).more Hb5.out.size) (by omega)).mono ?_
          rintro e w5 ⟨rfl, hb45⟩
          have Hb6 : Hid (Below w.heap.size w w5) := Lib.hid (Hb5.out.trans (hb45.mono Hb5.out.size))
          refine hK _ _ hb45 ?_
          clear hK K
          -- 11 binOp BinOp.eql 9 (Operand.tmp 79) (Operand.tmp 81) 9
          refine ro_take 11 (some 82) (v := ?v11) rfl rfl (by kernel_rfl) (by kernel_rfl) (by kernel_rfl) (fun _ _ _ h => h) (by rfl) ?y11 ?r11
          case y11 => (intro w; go_simp; try with_reducible rfl)
          simp only [Act.put, List.setIfInBounds_toArray, List.set_cons_zero, List.set_cons_succ]
          -- 12 pick (Operand.tmp 76) (Operand.tmp 82) (Operand.const (Value.boo
          refine ro_take 12 (some 83) (v := ?v12) rfl rfl (by kernel_rfl) (by kernel_rfl) (by kernel_rfl) (fun _ _ _ h => h) (by rfl) ?y12 ?r12
          case y12 => (intro w; go_simp; try with_reducible rfl)
          simp only [Act.put, List.setIfInBounds_toArray, List.set_cons_zero, List.set_cons_succ]
          -- 13 move (Operand.tmp 83)
          refine ro_take 13 (some 84) (v := ?v13) rfl rfl (by kernel_rfl) (by kernel_rfl) (by kernel_rfl) (fun _ _ _ h => h) (by rfl) ?y13 ?r13
          case y13 => (intro w; go_simp; try with_reducible rfl)
          simp only [Act.put, List.setIfInBounds_toArray, List.set_cons_zero, List.set_cons_succ]
          -- 14 move (Operand.tmp 1)
          refine ro_take 14 (some 85) (v := ?v14) rfl rfl (by kernel_rfl) (by kernel_rfl) (by kernel_rfl) (fun _ _ _ h => h) (by rfl) ?y14 ?r14
          case y14 => (intro w; go_simp; try with_reducible rfl)
          simp only [Act.put, List.setIfInBounds_toArray, List.set_cons_zero, List.set_cons_succ]
          -- 17 move (Operand.tmp 1)
          refine ro_take 17 (some 88) (v := ?v17) rfl rfl (by kernel_rfl) (by kernel_rfl) (by kernel_rfl) (fun _ _ _ h => h) (by rfl) ?y17 ?r17
          case y17 => (intro w; go_simp; try with_reducible rfl)
          simp only [Act.put, List.setIfInBounds_toArray, List.set_cons_zero, List.set_cons_succ]
          -- 15 call { callee := Callee.value (Operand.func 15), args := #[Opera
          refine wpAny_ready (rs := [15]) (by kernel_rfl) (by simp) ?_
          refine AllReady.cons rfl (fun K hK => ?_) AllReady.nil
          go_simp
          refine (lists_any A1 k1 c1 s1 _ ((R1.out.below Hb6.out).more Hb6.out.size) (by omega) (by omega)).mono ?_
          rintro e w6 ⟨v6, rfl, hown6, hb6⟩
          obtain ⟨A6, c6, rfl, hr6⟩ := Rd.own hown6
          have Hb7 : Hid (Below w.heap.size w w6) := Lib.hid (Hb6.out.trans (hb6.mono Hb6.out.size))
          have hcv6 := conv_later hr6 (P := Try.prog) 24 9 5 Try.underlying24 Try.underlying5 Try.underlying9
          simp only [List.length_append] at hcv6
          clear hown6 hb6 hr6
          go_wp2_with fail
          first | (refine hK _ _ ?_; clear hK K) | skip
          -- 16 convert 24 9 (Operand.tmp 86) AHEAD OF 18 call { callee := Callee.value (Operand.func 
          refine ro_swap 16 18 (some 87) (fun W => Below w6.heap.size w6 W) (v := ?v16) rfl rfl rfl (by kernel_rfl) (by kernel_rfl) (by kernel_rfl) (by kernel_rfl) (by kernel_rfl) (by kernel_rfl) (by kernel_rfl) (by kernel_rfl) (by kernel_rfl) (fun _ _ _ h => h) (by rfl) ?y16 (Below.refl _ _) ?r16
          case y16 => (intro w hS; (try dsimp only at hS); go_simp; try with_reducible rfl)
          simp only [Act.put, List.setIfInBounds_toArray, List.set_cons_zero, List.set_cons_succ]
          intro K hK
          go_simp
          refine (refList_any A1 k1 c1 s1 _ ((R1.out.below Hb7.out).more Hb7.out.size) (by omega) (by omega)).mono ?_
          rintro e w7 ⟨rfl, hb67⟩
          have Hb8 : Hid (Below w.heap.size w w7) := Lib.hid (Hb7.out.trans (hb67.mono Hb7.out.size))
          refine hK _ _ hb67 ?_
          clear hK K
          -- 19 binOp BinOp.eql 9 (Operand.tmp 87) (Operand.tmp 89) 9
          refine ro_take 19 (some 90) (v := ?v19) rfl rfl (by kernel_rfl) (by kernel_rfl) (by kernel_rfl) (fun _ _ _ h => h) (by rfl) ?y19 ?r19
          case y19 => (intro w; go_simp; try with_reducible rfl)
          simp only [Act.put, List.setIfInBounds_toArray, List.set_cons_zero, List.set_cons_succ]
          -- 20 pick (Operand.tmp 84) (Operand.tmp 90) (Operand.const (Value.boo
          refine ro_take 20 (some 91) (v := ?v20) rfl rfl (by kernel_rfl) (by kernel_rfl) (by kernel_rfl) (fun _ _ _ h => h) (by rfl) ?y20 ?r20
          case y20 => (intro w; go_simp; try with_reducible rfl)
          simp only [Act.put, List.setIfInBounds_toArray, List.set_cons_zero, List.set_cons_succ]
          -- 21 move (Operand.tmp 91)
          refine ro_take 21 (some 92) (v := ?v21) rfl rfl (by kernel_rfl) (by kernel_rfl) (by kernel_rfl) (fun _ _ _ h => h) (by rfl) ?y21 ?r21
          case y21 => (intro w; go_simp; try with_reducible rfl)
          simp only [Act.put, List.setIfInBounds_toArray, List.set_cons_zero, List.set_cons_succ]
          -- 22 move (Operand.tmp 11)
          refine ro_take 22 (some 93) (v := ?v22) rfl rfl (by kernel_rfl) (by kernel_rfl) (by kernel_rfl) (fun _ _ _ h => h) (by rfl) ?y22 ?r22
          case y22 => (intro w; go_simp; try with_reducible rfl)
          simp only [Act.put, List.setIfInBounds_toArray, List.set_cons_zero, List.set_cons_succ]
          -- 23 move (Operand.tmp 14)
          refine ro_take 23 (some 94) (v := ?v23) rfl rfl (by kernel_rfl) (by kernel_rfl) (by kernel_rfl) (fun _ _ _ h => h) (by rfl) ?y23 ?r23
          case y23 => (intro w; go_simp; try with_reducible rfl)
          simp only [Act.put, List.setIfInBounds_toArray, List.set_cons_zero, List.set_cons_succ]
          -- 24 binOp BinOp.eql 27 (Operand.tmp 93) (Operand.tmp 94) 27
          refine ro_take 24 (some 95) (v := ?v24) rfl rfl (by kernel_rfl) (by kernel_rfl) (by kernel_rfl) (fun _ _ _ h => h) (by rfl) ?y24 ?r24
          case y24 => (intro w; go_simp; try with_reducible rfl)
          simp only [Act.put, List.setIfInBounds_toArray, List.set_cons_zero, List.set_cons_succ]
          -- 25 pick (Operand.tmp 92) (Operand.tmp 95) (Operand.const (Value.boo
          refine ro_take 25 (some 96) (v := ?v25) rfl rfl (by kernel_rfl) (by kernel_rfl) (by kernel_rfl) (fun _ _ _ h => h) (by rfl) ?y25 ?r25
          case y25 => (intro w; go_simp; try with_reducible rfl)
          simp only [Act.put, List.setIfInBounds_toArray, List.set_cons_zero, List.set_cons_succ]
          -- 26 move (Operand.tmp 96)
          refine ro_take 26 (some 97) (v := ?v26) rfl rfl (by kernel_rfl) (by kernel_rfl) (by kernel_rfl) (fun _ _ _ h => h) (by rfl) ?y26 ?r26
          case y26 => (intro w; go_simp; try with_reducible rfl)
          simp only [Act.put, List.setIfInBounds_toArray, List.set_cons_zero, List.set_cons_succ]
          -- 27 move (Operand.tmp 12)
          refine ro_take 27 (some 98) (v := ?v27) rfl rfl (by kernel_rfl) (by kernel_rfl) (by kernel_rfl) (fun _ _ _ h => h) (by rfl) ?y27 ?r27
          case y27 => (intro w; go_simp; try with_reducible rfl)
          simp only [Act.put, List.setIfInBounds_toArray, List.set_cons_zero, List.set_cons_succ]
          -- 28 move (Operand.tmp 15)
          refine ro_take 28 (some 99) (v := ?v28) rfl rfl (by kernel_rfl) (by kernel_rfl) (by kernel_rfl) (fun _ _ _ h => h) (by rfl) ?y28 ?r28
          case y28 => (intro w; go_simp; try with_reducible rfl)
          simp only [Act.put, List.setIfInBounds_toArray, List.set_cons_zero, List.set_cons_succ]
          -- 29 binOp BinOp.eql 3 (Operand.tmp 98) (Operand.tmp 99) 3
          refine ro_take 29 (some 100) (v := ?v29) rfl rfl (by kernel_rfl) (by kernel_rfl) (by kernel_rfl) (fun _ _ _ h => h) (by rfl) ?y29 ?r29
          case y29 => (intro w; go_simp; try with_reducible rfl)
          simp only [Act.put, List.setIfInBounds_toArray, List.set_cons_zero, List.set_cons_succ]
          -- 30 pick (Operand.tmp 97) (Operand.tmp 100) (Operand.const (Value.bo
          refine ro_take 30 (some 101) (v := ?v30) rfl rfl (by kernel_rfl) (by kernel_rfl) (by kernel_rfl) (fun _ _ _ h => h) (by rfl) ?y30 ?r30
          case y30 => (intro w; go_simp; try with_reducible rfl)
          simp only [Act.put, List.setIfInBounds_toArray, List.set_cons_zero, List.set_cons_succ]
          -- 31 move (Operand.tmp 101)
          refine ro_take 31 (some 102) (v := ?v31) rfl rfl (by kernel_rfl) (by kernel_rfl) (by kernel_rfl) (fun _ _ _ h => h) (by rfl) ?y31 ?r31
          case y31 => (intro w; go_simp; try with_reducible rfl)
          simp only [Act.put, List.setIfInBounds_toArray, List.set_cons_zero, List.set_cons_succ]
          -- 32 move (Operand.tmp 13)
          refine ro_take 32 (some 103) (v := ?v32) rfl rfl (by kernel_rfl) (by kernel_rfl) (by kernel_rfl) (fun _ _ _ h => h) (by rfl) ?y32 ?r32
          case y32 => (intro w; go_simp; try with_reducible rfl)
          simp only [Act.put, List.setIfInBounds_toArray, List.set_cons_zero, List.set_cons_succ]
          -- 33 move (Operand.tmp 16)
          refine ro_take 33 (some 104) (v := ?v33) rfl rfl (by kernel_rfl) (by kernel_rfl) (by kernel_rfl) (fun _ _ _ h => h) (by rfl) ?y33 ?r33
          case y33 => (intro w; go_simp; try with_reducible rfl)
          simp only [Act.put, List.setIfInBounds_toArray, List.set_cons_zero, List.set_cons_succ]
          -- 34 binOp BinOp.eql 28 (Operand.tmp 103) (Operand.tmp 104) 28
          refine ro_take 34 (some 105) (v := ?v34) rfl rfl (by kernel_rfl) (by kernel_rfl) (by kernel_rfl) (fun _ _ _ h => h) (by rfl) ?y34 ?r34
          case y34 => (intro w; go_simp; try with_reducible rfl)
          simp only [Act.put, List.setIfInBounds_toArray, List.set_cons_zero, List.set_cons_succ]
          -- 35 pick (Operand.tmp 102) (Operand.tmp 105) (Operand.const (Value.b
          refine ro_take 35 (some 106) (v := ?v35) rfl rfl (by kernel_rfl) (by kernel_rfl) (by kernel_rfl) (fun _ _ _ h => h) (by rfl) ?y35 ?r35
          case y35 => (intro w; go_simp; try with_reducible rfl)
          simp only [Act.put, List.setIfInBounds_toArray, List.set_cons_zero, List.set_cons_succ]
          -- 36 assign (Operand.tmp 106)
          refine ro_take 36 (some 6) (v := ?v36) rfl rfl (by kernel_rfl) (by kernel_rfl) (by kernel_rfl) (fun _ _ _ h => h) (by rfl) ?y36 ?r36
          case y36 => (intro w; go_simp; try with_reducible rfl)
          simp only [Act.put, List.setIfInBounds_toArray, List.set_cons_zero, List.set_cons_succ]
          refine wpAny_done (by kernel_rfl) ?_ _
          go_wp2
          go_ret
          exact ⟨rfl, Hb8.out⟩
end Go.Proofs.Ytoddmaiplinkaaa
