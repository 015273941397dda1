/- TokenErrs walked: it answers true. -/
import Derived.BigQuiet
import Derived.Deep.QuietTactic
import Derived.StillTailTactics
import Derived.Test.YtdblkghombemiaaRegion
import Derived.Test.YtdblkghombemiaaErrsF
import Derived.Test.YtdblkghombemiaaWNotes
import Derived.Test.YtdblkghombemiaaRefSign
namespace Go.Proofs.Ytdblkghombemiaa
open Go.RowKit

theorem chainA {B : Nat} {w w1 w2 : World} {o : Obj} (h : Hid (Below B w w1)) (hB : B ≤ w1.heap.size) (k : Below (w1.alloc o).heap.size (w1.alloc o) w2) : Hid (Below B w w2) ∧ B ≤ w2.heap.size :=
  chain (Lib.hid (h.out.alloc hB o)) (size_alloc hB) k
theorem chainD {B : Nat} {w w1 w2 : World} (h : Hid (Below B w w1)) (hB : B ≤ w1.heap.size) (k : Below w1.drew.heap.size w1.drew w2) : Hid (Below B w w2) ∧ B ≤ w2.heap.size :=
  chain h hB ⟨k.os, k.tape, k.output, k.size, k.block⟩
set_option maxRecDepth 100000 in
set_option maxHeartbeats 8000000 in
theorem tokenErrs_walk (s0 : ByteArray) (x1 : Int) (x2 : Int) (x3 : Int) (w : World) (f0 : s0.size ≤ maxLen) (f1 : (Lit.int .u16 x1).wf = true) (f2 : (Lit.int .u8 x2).wf = true) (f3 : (Lit.int .u8 x3).wf = true) :
    Calls Try.prog 6 #[.string s0, .int .u16 x1, .int .u8 x2, .int .u8 x3] w fun e w' => e = .returned (.bool true) ∧ Below w.heap.size w w' := by
  unfold maxLen at f0
  obtain ⟨h11, h12⟩ := wf_u16 f1
  obtain ⟨h21, h22⟩ := wf_u8 f2
  obtain ⟨h31, h32⟩ := wf_u8 f3
  clear f1 f2 f3
  have Hb := Lib.hid (Below.refl w.heap.size w)
  have hB : w.heap.size ≤ w.heap.size := Nat.le_refl _
  by_cases h300 : 300 < s0.size
  · go_enter Try.func6, Try.ntmps6
    go_wp2_with ((with_reducible refine (awake_any _).mono ?_); rintro e w1 ⟨rfl, hb⟩; obtain ⟨Hb, hB⟩ := chain Hb hB hb; clear hb)
    go_ret
    exact ⟨rfl, Hb.out⟩
  have h3 : s0.size ≤ 300 := by omega
  clear f0
  obtain ⟨q, hq⟩ : ∃ q : Nat, x1 % ((s0.size : Int) + 1) = (q : Int) := ⟨(x1 % ((s0.size : Int) + 1)).toNat, by have := Int.emod_nonneg x1 (show (s0.size : Int) + 1 ≠ 0 by omega); omega⟩
  have hqs : q ≤ s0.size := by have := Int.emod_lt_of_pos x1 (show 0 < (s0.size : Int) + 1 by omega); omega
  obtain ⟨m, hm⟩ : ∃ m : Nat, x3 % 40 = (m : Int) := ⟨(x3 % 40).toNat, by omega⟩
  have hm40 : m < 40 := by omega
  obtain ⟨c, rfl⟩ : ∃ c : Nat, x2 = (c : Int) := ⟨x2.toNat, by omega⟩
  have hc256 : c < 256 := by omega
  have hEA : (s0.extract 0 q).size ≤ 300 := by rw [size_ext]; omega
  have hEB : (s0.extract q s0.size).size ≤ 300 := by rw [size_ext]; omega
  have kva : ∀ W, _ := fun W => valid_any (s0.extract 0 q) W (by omega)
  have kvb : ∀ W, _ := fun W => valid_any (s0.extract q s0.size) W (by omega)
  obtain ⟨fa1, fa2⟩ := errs_a h3 hqs
  have hzX : (s0.extract 0 q ++ ⟨#[255]⟩ ++ s0.extract q s0.size).size ≤ 1000000 := by rw [size_app, size_app, show (⟨#[255]⟩ : ByteArray).size = 1 from rfl]; omega
  have kX := fun l e p h => all_named _ hzX (l := l) (e := e) (p := p) h
  obtain ⟨lX, eX, pX, hX⟩ : ∃ l e p, allS (s0.extract 0 q ++ ⟨#[255]⟩ ++ s0.extract q s0.size) = (l, e, p) := ⟨_, _, _, rfl⟩
  rw [hX] at fa1 fa2
  dsimp only at fa1 fa2
  subst fa1
  replace kX := kX _ _ _ hX
  have k0 := fun l e p h => all_named s0 (by omega) (l := l) (e := e) (p := p) h
  obtain ⟨l0, e0, p0, hA0⟩ : ∃ l e p, allS s0 = (l, e, p) := ⟨_, _, _, rfl⟩
  replace k0 := k0 _ _ _ hA0
  have FB := Lib.hid (errs_b (s := s0) (m := m) h3 hm40)
  have FC := Lib.hid (errs_c (s := s0) (c := c) h3)
  rw [hA0] at FB FC
  clear hzX hX hA0
  have hqz : (q : Int) ≤ (s0.size : Nat) := by omega
  obtain ⟨a, ha⟩ : ∃ a, s0.extract 0 q = a := ⟨_, rfl⟩
  obtain ⟨b, hbb⟩ : ∃ b, s0.extract q s0.size = b := ⟨_, rfl⟩
  rw [ha] at kva kX fa2 hEA
  rw [hbb] at kvb kX hEB
  have he1 : ∀ W, (Op.stringOp .add a ⟨#[255]⟩).run Try.prog W = .ok (.string (a ++ ⟨#[255]⟩)) W := fun W => run_string_add_sum W _ _ (by rw [show (⟨#[255]⟩ : ByteArray).size = 1 from rfl]; omega)
  have he2 : ∀ W, (Op.stringOp .add (a ++ ⟨#[255]⟩) b).run Try.prog W = .ok (.string (a ++ ⟨#[255]⟩ ++ b)) W := fun W => run_string_add_sum W _ _ (by rw [size_app, show (⟨#[255]⟩ : ByteArray).size = 1 from rfl]; omega)
  go_enter Try.func6, Try.ntmps6
  go_wp2_with (first
    | ((with_reducible refine (awake_any _).mono ?_); rintro e w1 ⟨rfl, hb⟩; obtain ⟨Hb, hB⟩ := chain Hb hB hb; clear hb)
    | ((with_reducible refine (k0 _).mono ?_); rintro e w2 ⟨⟨A2, c2, rfl, _⟩, hb⟩; obtain ⟨Hb, hB⟩ := chain Hb hB hb; clear hb))
  rw [hq]
  refine wp_region_any (by kernel_rfl) ?_
  change wpAny _ _ _ _ _ _ _ (World.drew _)
  refine ro_take 0 (some 45) (v := ?v0) rfl rfl (by kernel_rfl) (by kernel_rfl) (by kernel_rfl) (fun _ _ _ h => h) (by rfl) ?y0 ?r0
  case y0 => (intro w; go_simp; try with_reducible rfl)
  simp only [Act.put, List.setIfInBounds_toArray, List.set_cons_zero, List.set_cons_succ]
  refine ro_take 1 (some 46) (v := ?v1) rfl rfl (by kernel_rfl) (by kernel_rfl) (by kernel_rfl) (fun _ _ _ h => h) (by rfl) ?y1 ?r1
  case y1 => (intro w; go_simp; try with_reducible rfl)
  simp only [Act.put, List.setIfInBounds_toArray, List.set_cons_zero, List.set_cons_succ]
  refine ro_take 2 (some 47) (v := ?v2) rfl rfl (by kernel_rfl) (by kernel_rfl) (by kernel_rfl) (fun _ _ _ h => h) (by rfl) ?y2 ?r2
  case y2 => (intro w; go_simp; try with_reducible rfl)
  simp only [Act.put, List.setIfInBounds_toArray, List.set_cons_zero, List.set_cons_succ]
  refine ro_take 3 (some 48) (v := ?v3) rfl rfl (by kernel_rfl) (by kernel_rfl) (by kernel_rfl) (fun _ _ _ h => h) (by rfl) ?y3 ?r3
  case y3 => (intro w; go_simp; try with_reducible rfl)
  simp only [Act.put, List.setIfInBounds_toArray, List.set_cons_zero, List.set_cons_succ]
  refine ro_take 4 (some 49) (v := ?v4) rfl rfl (by kernel_rfl) (by kernel_rfl) (by kernel_rfl) (fun _ _ _ h => h) (by rfl) ?y4 ?r4
  case y4 => (intro w; go_simp; try with_reducible rfl)
  simp only [Act.put, List.setIfInBounds_toArray, List.set_cons_zero, List.set_cons_succ]
  refine ro_take 5 (some 50) (v := ?v5) rfl rfl (by kernel_rfl) (by kernel_rfl) (by kernel_rfl) (fun _ _ _ h => h) (by rfl) ?y5 ?r5
  case y5 => (intro w; go_simp; try with_reducible rfl)
  simp only [Act.put, List.setIfInBounds_toArray, List.set_cons_zero, List.set_cons_succ]
  refine ro_take 6 (some 51) (v := ?v6) rfl rfl (by kernel_rfl) (by kernel_rfl) (by kernel_rfl) (fun _ _ _ h => h) (by rfl) ?y6 ?r6
  case y6 => (intro w; go_simp; try with_reducible rfl)
  simp only [Act.put, List.setIfInBounds_toArray, List.set_cons_zero, List.set_cons_succ]
  refine ro_take 7 (some 52) (v := ?v7) rfl rfl (by kernel_rfl) (by kernel_rfl) (by kernel_rfl) (fun _ _ _ h => h) (by rfl) ?y7 ?r7
  case y7 => (intro w; go_simp; try with_reducible rfl)
  simp only [Act.put, List.setIfInBounds_toArray, List.set_cons_zero, List.set_cons_succ]
  refine wpAny_ready (rs := [8]) (by kernel_rfl) (by simp) ?_
  refine AllReady.cons rfl (fun K hK => ?_) AllReady.nil
  go_simp
  (refine (kX _).mono ?_); rintro e w3 ⟨⟨A3, c3, rfl, _⟩, hb⟩; obtain ⟨Hb, hB⟩ := chainD Hb hB hb; clear hb
  go_wp2_with fail
  first | (refine hK _ _ ?_; clear hK K) | skip
  refine ro_take 9 (some 44) (v := ?v9) rfl rfl (by kernel_rfl) (by kernel_rfl) (by kernel_rfl) (fun _ _ _ h => h) (by rfl) ?y9 ?r9
  case y9 => (intro w; go_simp; try with_reducible rfl)
  simp only [Act.put, List.setIfInBounds_toArray, List.set_cons_zero, List.set_cons_succ]
  refine ro_take 10 (some 54) (v := ?v10) rfl rfl (by kernel_rfl) (by kernel_rfl) (by kernel_rfl) (fun _ _ _ h => h) (by rfl) ?y10 ?r10
  case y10 => (intro w; go_simp; try with_reducible rfl)
  simp only [Act.put, List.setIfInBounds_toArray, List.set_cons_zero, List.set_cons_succ]
  refine ro_take 11 (some 55) (v := ?v11) rfl rfl (by kernel_rfl) (by kernel_rfl) (by kernel_rfl) (fun _ _ _ h => h) (by rfl) ?y11 ?r11
  case y11 => (intro w; go_simp; try with_reducible rfl)
  simp only [Act.put, List.setIfInBounds_toArray, List.set_cons_zero, List.set_cons_succ]
  refine ro_take 12 (some 56) (v := ?v12) rfl rfl (by kernel_rfl) (by kernel_rfl) (by kernel_rfl) (fun _ _ _ h => h) (by rfl) ?y12 ?r12
  case y12 => (intro w; go_simp; try with_reducible rfl)
  simp only [Act.put, List.setIfInBounds_toArray, List.set_cons_zero, List.set_cons_succ]
  refine ro_take 13 (some 14) (v := ?v13) rfl rfl (by kernel_rfl) (by kernel_rfl) (by kernel_rfl) (fun _ _ _ h => h) (by rfl) ?y13 ?r13
  case y13 => (intro w; go_simp; try with_reducible rfl)
  simp only [Act.put, List.setIfInBounds_toArray, List.set_cons_zero, List.set_cons_succ]
  refine ro_take 14 (some 15) (v := ?v14) rfl rfl (by kernel_rfl) (by kernel_rfl) (by kernel_rfl) (fun _ _ _ h => h) (by rfl) ?y14 ?r14
  case y14 => (intro w; go_simp; try with_reducible rfl)
  simp only [Act.put, List.setIfInBounds_toArray, List.set_cons_zero, List.set_cons_succ]
  refine ro_take 15 (some 16) (v := ?v15) rfl rfl (by kernel_rfl) (by kernel_rfl) (by kernel_rfl) (fun _ _ _ h => h) (by rfl) ?y15 ?r15
  case y15 => (intro w; go_simp; try with_reducible rfl)
  simp only [Act.put, List.setIfInBounds_toArray, List.set_cons_zero, List.set_cons_succ]
  refine wpAny_done (by kernel_rfl) ?_ _
  clear kX k0 he1 he2 hEA hEB hqz
  have hcs : (validS a = true ∧ validS b = true ∧ pX = q) ∨ (validS a = true ∧ validS b = false ∧ pX = q) ∨ validS a = false := by
    cases hva : validS a with
    | false => exact .inr (.inr rfl)
    | true =>
      cases hvb : validS b with
      | true => exact .inl ⟨rfl, rfl, fa2 hva⟩
      | false => exact .inr (.inl ⟨rfl, rfl, fa2 hva⟩)
  clear fa2
  generalize validS a = va at *
  generalize validS b = vb at *
  have kO : ∀ W, _ := fun W => name_any (sOne c) W (by rw [sOne_size]; omega)
  rw [name_one hc256] at kO
  have krs : ∀ W, Calls Try.prog 16 #[.int .u8 (c : Nat)] W fun e w' => e = .returned (.bool (signB c)) ∧ W = w' := fun W => (rsign_any (c : Nat) c W rfl).mono fun _ _ hh => ⟨hh.1, hh.2.symm⟩
  have cO : ∀ W : World, (convert 36 9 (.slice (some ⟨W.heap.size, 0, none⟩) 1 1)).run Try.prog (W.alloc (.cells #[.int .u8 (c : Nat)] 5)) = .ok (.string (sOne c)) (W.alloc (.cells #[.int .u8 (c : Nat)] 5)) := fun W =>
    conv_one 36 9 5 Try.underlying36 Try.underlying5 Try.underlying9 W (c : Nat)
  have z2 : (s0 ++ wdS m).size ≤ 1000000 := by rw [size_app, wdS_size]; omega
  have z3 : (s0 ++ ⟨#[10]⟩ ++ sOne c).size ≤ 1000000 := by rw [size_app, size_app, sOne_size, show (⟨#[10]⟩ : ByteArray).size = 1 from rfl]; omega
  have k2 := fun l e p h => all_named _ z2 (l := l) (e := e) (p := p) h
  have k3 := fun l e p h => all_named _ z3 (l := l) (e := e) (p := p) h
  obtain ⟨l2, e2, p2, hA2⟩ : ∃ l e p, allS (s0 ++ wdS m) = (l, e, p) := ⟨_, _, _, rfl⟩
  obtain ⟨l3, e3, p3, hA3⟩ : ∃ l e p, allS (s0 ++ ⟨#[10]⟩ ++ sOne c) = (l, e, p) := ⟨_, _, _, rfl⟩
  replace k2 := k2 _ _ _ hA2
  replace k3 := k3 _ _ _ hA3
  rw [hA2] at FB
  rw [hA3] at FC
  clear hA2 hA3 z2 z3
  have hszc : (sOne c).size = 1 := sOne_size c
  have hwz := fun k => wdS_size k
  have HWZ := Lib.hid hwz
  clear hwz
  rcases hcs with ⟨rfl, rfl, rfl⟩ | ⟨rfl, rfl, rfl⟩ | rfl
  all_goals
    by_cases h0 : e0 = 0
    · subst h0
      have fb := FB.out rfl
      have fc := FC.out rfl
      dsimp only at fb fc
      clear FB FC
      have FB := Lib.hid fb
      have FC := Lib.hid fc
      clear fb fc
      go_wp2_with (first
        | ((with_reducible refine (kva _).mono ?_); rintro e v1 ⟨rfl, hb⟩; obtain ⟨Hb, hB⟩ := chain Hb hB hb; clear hb)
        | ((with_reducible refine (kvb _).mono ?_); rintro e v2 ⟨rfl, hb⟩; obtain ⟨Hb, hB⟩ := chain Hb hB hb; clear hb))
      try rw [hm]
      go_loopw [18, 19] (fun vs vi wr => ∃ k : Nat, vi = .int .i64 k ∧ k ≤ m ∧ vs = .string (wdS k) ∧ Below w.heap.size w wr) (fun _ vi _ => m - (intOf vi).toNat)
      case atStart => exact ⟨0, rfl, Nat.zero_le _, rfl, Hb.out⟩
      case round =>
        clear Hb hB
        obtain ⟨k, rfl, hk, rfl, hbw⟩ := hrel
        have Hb := Lib.hid hbw
        have hB := hbw.size
        clear hbw
        by_cases h : k < m
        · have hd : (k : Int) < (m : Nat) := by omega
          have hwk := HWZ.out k
          have HT : Hid (wdS (k + 1) = wdS k ++ ⟨#[195, 169]⟩) := Lib.hid rfl
          generalize wdS k = T at *
          go_wp2
          go_roundw
          case rel => exact ⟨k + 1, by go_num, by omega, by rw [HT.out], Hb.out⟩
          case measure => simp [intOf]; omega
        · have hd : ¬ ((k : Int) < (m : Nat)) := by omega
          obtain rfl : k = m := by omega
          have hwk := HWZ.out k
          clear HWZ
          generalize wdS k = T at *
          have hmm : (k ≤ 24 ∧ e2 = 0) ∨ (24 < k ∧ e2 = 31 ∧ p2 = s0.size + 1) := by
            rcases Nat.lt_or_ge 24 k with hh | hh
            · have := FB.out.2 hh
              exact .inr ⟨hh, by simpa using this⟩
            · exact .inl ⟨hh, FB.out.1 hh⟩
          have hsg : ¬ c < 128 ∨ (c < 128 ∧ ¬ 32 < c) ∨ (c < 128 ∧ 32 < c ∧ byteB c = true) ∨ (c < 128 ∧ 32 < c ∧ byteB c = false ∧ signB c = true) ∨ (c < 128 ∧ 32 < c ∧ byteB c = false ∧ signB c = false ∧ e3 = 30 ∧ p3 = s0.size + 1) := by
            by_cases c1 : c < 128
            · by_cases c2 : 32 < c
              · cases c3 : byteB c with
                | true => exact .inr (.inr (.inl ⟨c1, c2, rfl⟩))
                | false =>
                  cases c4 : signB c with
                  | true => exact .inr (.inr (.inr (.inl ⟨c1, c2, rfl, rfl⟩)))
                  | false =>
                    have := FC.out c1 c2 c3 c4
                    exact .inr (.inr (.inr (.inr ⟨c1, c2, rfl, rfl, by simpa using this⟩)))
              · exact .inr (.inl ⟨c1, c2⟩)
            · exact .inl c1
          clear FB FC
          generalize byteB c = by_ at *
          generalize signB c = sg at *
          rcases hmm with ⟨hk24, rfl⟩ | ⟨hk24, rfl, rfl⟩
          all_goals
            rcases hsg with c1 | ⟨c1, c2⟩ | ⟨c1, c2, rfl⟩ | ⟨c1, c2, rfl, rfl⟩ | ⟨c1, c2, rfl, rfl, rfl, rfl⟩
            all_goals
              go_wp2_with (first
                | ((with_reducible refine (k2 _).mono ?_); rintro e v3 ⟨⟨A4, c4, rfl, _⟩, hb⟩; obtain ⟨Hb, hB⟩ := chain Hb hB hb; clear hb)
                | ((with_reducible refine (kO _).mono ?_); rintro e v4 ⟨rfl, hb⟩; obtain ⟨Hb, hB⟩ := chainA Hb hB hb; clear hb)
                | ((with_reducible refine (krs _).mono ?_); rintro e v5 ⟨rfl, rfl⟩)
                | ((with_reducible refine (k3 _).mono ?_); rintro e v6 ⟨⟨A5, c5, rfl, _⟩, hb⟩; obtain ⟨Hb, hB⟩ := chainA Hb hB hb; clear hb))
              go_ret
              exact ⟨rfl, Hb.out⟩
    · have d0 : (((e0 : Nat) : Int) == 0) = false := by rw [beq_eq_false_iff_ne]; omega
      clear FB FC k2 k3 cO kO krs
      go_wp2_with (first
        | ((with_reducible refine (kva _).mono ?_); rintro e v1 ⟨rfl, hb⟩; obtain ⟨Hb, hB⟩ := chain Hb hB hb; clear hb)
        | ((with_reducible refine (kvb _).mono ?_); rintro e v2 ⟨rfl, hb⟩; obtain ⟨Hb, hB⟩ := chain Hb hB hb; clear hb))
      go_ret
      exact ⟨rfl, Hb.out⟩
end Go.Proofs.Ytdblkghombemiaa
