/- PrintOps walked: it answers true. Condition: each name of fewer than 2^47 bytes. -/
import Derived.BigQuiet
import Derived.Deep.QuietTactic
import Derived.Test.YtkeonempmchpnaaNameP8
import Derived.Test.YtkeonempmchpnaaFrame
namespace Go.Proofs.Ytkeonempmchpnaa
open Go.RowKit

theorem opcell3 (z : Int) (a b : ByteArray) : ∀ u ∈ [Value.int .i64 z, .string a, .string b], u.oneCell' = true := by
  intro u hu
  simp only [List.mem_cons, List.not_mem_nil, or_false] at hu
  rcases hu with rfl | rfl | rfl <;> rfl
theorem cells_p3 (w : World) (a b c : Value) (t : TypeId) : ∀ j u, [a, b, c][j]? = some u → (w.alloc (.cells #[a, b, c] t)).cell? ((⟨w.heap.size, 0, none⟩ : Addr).add j) = some u := by
  intro j u hj
  rw [Addr.add_lit, cell_of_row _ _ _ _ _ _ (heap_alloc_new w _), Nat.zero_add]
  simpa using hj
set_option maxRecDepth 100000 in
set_option maxHeartbeats 8000000 in
theorem printOps_walk (A0 : Option Addr) (n0 c0 : Nat) (l0 : List UInt8) (A1 : Option Addr) (n1 c1 : Nat) (s1 : List ByteArray) (w : World) (r0 : Rd w w.heap.size 1 A0 n0 c0 (bv l0)) (r1 : Rd w w.heap.size 1 A1 n1 c1 (s1.map Value.string)) (f1 : ∀ s ∈ s1, s.size ≤ 140737488355327) :
    Calls Try.prog 7 #[.slice A0 n0 c0, .slice A1 n1 c1] w fun e w' => e = .returned (.bool true) ∧ Below w.heap.size w w' := by
  have hlb := r0.lenB
  have HLB := Lib.hid hlb
  clear hlb
  by_cases h0 : 20 < n0
  · have hd : (20 : Int) < (n0 : Nat) := by omega
    clear r1
    go_enter Try.func7, Try.ntmps7
    go_wp2_with ((with_reducible refine (awake8_any _).mono ?_); rintro e w1 ⟨rfl, hb1⟩)
    go_ret
    exact ⟨rfl, hb1⟩
  have hd : ¬ (20 : Int) < (n0 : Nat) := by omega
  by_cases h2 : n1 < 2
  · have hd2 : (n1 : Int) < 2 := by omega
    clear r1
    go_enter Try.func7, Try.ntmps7
    go_wp2_with ((with_reducible refine (awake8_any _).mono ?_); rintro e w1 ⟨rfl, hb1⟩)
    go_ret
    exact ⟨rfl, hb1⟩
  have hd2 : ¬ (n1 : Int) < 2 := by omega
  have hl1 : n1 = s1.length := by have := r1.len; rw [List.length_map] at this; omega
  obtain ⟨b1, o1, rfl, hbb1, hc1⟩ := r1.at_ (by omega)
  obtain ⟨a, b, rs, rfl⟩ : ∃ a b rs, s1 = a :: b :: rs := by
    rcases s1 with _ | ⟨a, _ | ⟨b, rs⟩⟩
    · simp at hl1; omega
    · simp at hl1; omega
    · exact ⟨a, b, rs, rfl⟩
  have g0 : w.cell? ⟨b1, o1, none⟩ = some (.string a) := by simpa using hc1 0 (.string a) rfl
  have g1 : w.cell? ⟨b1, o1 + 1, none⟩ = some (.string b) := by simpa using hc1 1 (.string b) rfl
  have za := f1 a (by simp)
  have zb := f1 b (by simp)
  have e0 : (0 : Int) < (n1 : Nat) := by omega
  have e1 : (1 : Int) < (n1 : Nat) := by omega
  clear hc1 f1 hl1 r1 hbb1 h2
  by_cases hx : nmB8 a = true
  · have ka : ∀ W, Calls Try.prog 19 #[.string a] W fun e w' => e = .returned (.bool true) ∧ Below W.heap.size W w' := fun W => by have := name8_any a za W; rw [hx] at this; exact this
    by_cases hy : nmB8 b = true
    · have kb : ∀ W, Calls Try.prog 19 #[.string b] W fun e w' => e = .returned (.bool true) ∧ Below W.heap.size W w' := fun W => by have := name8_any b zb W; rw [hy] at this; exact this
      obtain ⟨na0, sa⟩ := nmB8_yes hx
      obtain ⟨nb0, sb⟩ := nmB8_yes hy
      have HNM := Lib.hid (And.intro na0 nb0)
      clear hx hy na0 nb0 za zb
      go_enter Try.func7, Try.ntmps7
      go_wp2_with ((with_reducible refine (awake8_any _).mono ?_); rintro e w1 ⟨rfl, hb1⟩; have k0 := cell_under g0 hb1)
      refine (ka _).mono ?_
      rintro e w2 ⟨rfl, hb2⟩
      have h12 := hb1.trans (hb2.mono hb1.size)
      have k1 := cell_under g1 h12
      go_wp2_with fail
      refine (kb _).mono ?_
      rintro e w3 ⟨rfl, hb3⟩
      have h13 := h12.trans (hb3.mono h12.size)
      have nBa := cell_under g0 h13
      have nBb := cell_under g1 h13
      have hz1 := h13.size
      clear k0 k1 hb1 hb2 hb3 h12 ka kb g0 g1
      go_wp2_with fail
      go_loopw [6, 7, 8] (fun v6 v7 v8 wr => ∃ (i : Nat) (st : List Ex), v8 = .int .i64 i ∧ i ≤ n0 ∧ v7 = .int .i64 (st.length : Nat) ∧ wr.ownsRow w3.heap.size 56 3 v6 i (ocells (opsK st)) ∧ (∀ t ∈ st, t.pl a b) ∧ (opsK st).length = i ∧ Below w3.heap.size w3 wr) (fun _ _ v8 _ => n0 - (intOf v8).toNat)
      case atStart => exact ⟨0, [], rfl, Nat.zero_le _, rfl, World.ownsRow_nil _ _ _ _, (fun t ht => by cases ht), rfl, Below.refl _ _⟩
      case round =>
        obtain ⟨i0, hi0, hi1, hi2', hi3⟩ := info_parts info_op
        obtain ⟨i, st, rfl, hi, rfl, hO, hpl, hln, hb⟩ := hrel
        obtain ⟨A4, c4, rfl, _⟩ := Rd.own hO
        have hz2 := hb.size
        have hsum : st.length ≤ i := by
          have h1 : ∀ l : List Ex, l.length ≤ (opsK l).length := by
            intro l
            induction l with
            | nil => exact Nat.le_refl _
            | cons t r ih =>
              have h2 := t.leaves_le
              have h3 := t.leaves_pos
              show r.length + 1 ≤ (t.ops ++ opsK r).length
              rw [List.length_append]
              omega
          have := h1 st
          omega
        have na := cell_under nBa hb
        have nb := cell_under nBb hb
        by_cases hil : i < n0
        · have hdi : (i : Int) < (n0 : Nat) := by omega
          have hbw := h13.trans (hb.mono hz1)
          obtain ⟨bk, ok, rfl, hbb, hc⟩ := (r0.below hbw).at_ (by omega)
          have hi2 : i < l0.length := by rw [← HLB.out]; exact hil
          obtain ⟨x, hx⟩ : ∃ x, l0[i]? = some x := ⟨l0[i], List.getElem?_eq_getElem hi2⟩
          have q0 := hc i (.int .u8 x.toNat) (by rw [bv_get, hx]; rfl)
          have x0 : (0 : Int) ≤ (x.toNat : Nat) := by omega
          have x1 : ((x.toNat : Nat) : Int) ≤ 255 := by have := x.toNat_lt; omega
          obtain ⟨y, hy⟩ : ∃ y, x.toNat = y := ⟨_, rfl⟩
          rw [hy] at q0 x0 x1
          clear hc hx hy hbw
          by_cases hst : 1 < st.length ∧ y % 2 = 0
          · obtain ⟨hst1, hev⟩ := hst
            obtain ⟨s, x, z, rfl⟩ : ∃ s a b, st = s ++ [a, b] := by
              rcases List.eq_nil_or_concat st with rfl | ⟨l1, b, rfl⟩
              · exact absurd hst1 (by decide)
              · rcases List.eq_nil_or_concat l1 with rfl | ⟨l, a, rfl⟩
                · exact absurd hst1 (by simp)
                · exact ⟨l, a, b, by simp⟩
            obtain ⟨m, hm⟩ : ∃ m, s.length = m := ⟨_, rfl⟩
            have hlen : (s ++ [x, z]).length = m + 1 + 1 := by rw [List.length_append, hm]; rfl
            have HP : Hid ((∀ t ∈ s ++ [.bin (4 + y / 2 % 3) x z], Ex.pl a b t) ∧ (opsK (s ++ [.bin (4 + y / 2 % 3) x z])).length = i + 1 ∧ (s ++ [Ex.bin (4 + y / 2 % 3) x z]).length = m + 1) := Lib.hid ⟨(by
              intro t ht
              rcases List.mem_append.1 ht with h | h
              · exact hpl t (List.mem_append_left _ h)
              · rw [List.mem_singleton.1 h]
                exact ⟨by omega, hpl x (by simp), hpl z (by simp)⟩), by rw [opsK_bin, List.length_append, hln]; rfl, by rw [List.length_append, hm]; rfl⟩
            rw [hlen] at hsum ⊢
            have d1 : (1 : Int) < (m : Nat) + 1 + 1 := by omega
            have d2 : ((((y : Nat) : Int) % 2) == 0) = true := by rw [beq_iff_eq]; omega
            clear hpl hlen hst1 hev hm
            go_wp2_with (at_builtin; refine wpList_append_src _ rfl (.tmp 59) (.tmp 69) 40 40 rfl w3.heap.size 56 i0 (.agg #[.int .i64 0, .string .empty, .string .empty]) 3 40 Try.underlying40 hi0 hi1 hi2' hi3 rfl (by decide) _ i (ocells (opsK (s ++ [x, z]))) rfl (World.ownsRow.alloc hO _) _ 1 [.int .i64 (4 + (y : Int) / 2 % 3), .string ⟨#[]⟩, .string ⟨#[]⟩] rfl (Src.ofSlice _ Try.underlying40 _ 1 1 _ rfl (cells_p3 _ _ _ _ _) (opcell3 _ _ _)) (by simp only [maxLen]; omega) (by omega) (size_alloc hz2) ?_; intro v7 W7 hown7 hg7 hat7; obtain ⟨A7, c7, rfl, _⟩ := Rd.own hown7; have hb7 := below_of_own (v := .slice A4 i c4) (hb.alloc hz2 (.cells #[.int .i64 (4 + (y : Int) / 2 % 3), .string ⟨#[]⟩, .string ⟨#[]⟩] 56)) hg7 (World.ownsRow.alloc hO _) (size_alloc hz2) (Nat.le_refl _))
            refine ⟨⟨i + 1, s ++ [.bin (4 + y / 2 % 3) x z], by go_num, by omega, by rw [HP.out.2.2]; go_num, ?_, HP.out.1, HP.out.2.1, hb7⟩, ?_⟩
            · rw [opsK_bin, ocells_app]
              have : ocells [opK (4 + y / 2 % 3)] = [.int .i64 (4 + (y : Int) / 2 % 3), .string ⟨#[]⟩, .string ⟨#[]⟩] := by
                show [Value.int .i64 ((4 + y / 2 % 3 : Nat) : Int), .string ⟨#[]⟩, .string ⟨#[]⟩] = _
                rw [show ((4 + y / 2 % 3 : Nat) : Int) = 4 + (y : Int) / 2 % 3 by omega]
              rw [this]
              exact hown7
            · simp only [intOf]; omega
          obtain ⟨nst, hnst⟩ : ∃ n, st.length = n := ⟨_, rfl⟩
          rw [hnst] at hst hsum ⊢
          have HN := Lib.hid hnst
          clear hnst
          have hdd : (decide ((1 : Int) < (nst : Nat)) = false) ∨ (decide ((1 : Int) < (nst : Nat)) = true ∧ ((((y : Nat) : Int) % 2) == 0) = false) := by
            by_cases h1 : (1 : Int) < (nst : Nat)
            · refine .inr ⟨decide_eq_true h1, ?_⟩
              rw [beq_eq_false_iff_ne]
              omega
            · exact .inl (decide_eq_false h1)
          by_cases y1 : y % 6 = 1
          · have HP : Hid ((∀ t ∈ st ++ [Ex.same a], Ex.pl a b t) ∧ (opsK (st ++ [Ex.same a])).length = i + 1 ∧ (st ++ [Ex.same a]).length = nst + 1) := Lib.hid ⟨(by
              intro t ht
              rcases List.mem_append.1 ht with h | h
              · exact hpl t h
              · rw [List.mem_singleton.1 h]; first | trivial | rfl | exact ⟨rfl, rfl⟩), by rw [opsK_app, List.length_append, hln]; rfl, by rw [List.length_append, HN.out]; rfl⟩
            have d6 : ((((y : Nat) : Int) % 6) == 1) = true := by rw [beq_iff_eq]; omega
            clear hpl
            rcases hdd with d1 | ⟨d1, d2⟩
            · have d1' : ¬ (1 : Int) < (nst : Nat) := of_decide_eq_false d1
              clear d1 hst
              go_wp2_with (at_builtin; refine wpList_append_src _ rfl (.tmp 80) (.tmp 85) 40 40 rfl w3.heap.size 56 i0 (.agg #[.int .i64 0, .string .empty, .string .empty]) 3 40 Try.underlying40 hi0 hi1 hi2' hi3 rfl (by decide) _ i (ocells (opsK st)) rfl (World.ownsRow.alloc hO _) _ 1 [.int .i64 2, .string a, .string ⟨#[]⟩] rfl (Src.ofSlice _ Try.underlying40 _ 1 1 _ rfl (cells_p3 _ _ _ _ _) (opcell3 _ _ _)) (by simp only [maxLen]; omega) (by omega) (size_alloc hz2) ?_; intro v7 W7 hown7 hg7 hat7; obtain ⟨A7, c7, rfl, _⟩ := Rd.own hown7; have hb7 := below_of_own (v := .slice A4 i c4) (hb.alloc hz2 (.cells #[.int .i64 2, .string a, .string ⟨#[]⟩] 56)) hg7 (World.ownsRow.alloc hO _) (size_alloc hz2) (Nat.le_refl _))
              refine ⟨⟨i + 1, st ++ [Ex.same a], by go_num, by omega, by rw [HP.out.2.2]; go_num, ?_, HP.out.1, HP.out.2.1, hb7⟩, ?_⟩
              · rw [opsK_app, ocells_app]
                exact hown7
              · simp only [intOf]; omega
            · have d1' : (1 : Int) < (nst : Nat) := of_decide_eq_true d1
              clear d1 hst
              go_wp2_with (at_builtin; refine wpList_append_src _ rfl (.tmp 80) (.tmp 85) 40 40 rfl w3.heap.size 56 i0 (.agg #[.int .i64 0, .string .empty, .string .empty]) 3 40 Try.underlying40 hi0 hi1 hi2' hi3 rfl (by decide) _ i (ocells (opsK st)) rfl (World.ownsRow.alloc hO _) _ 1 [.int .i64 2, .string a, .string ⟨#[]⟩] rfl (Src.ofSlice _ Try.underlying40 _ 1 1 _ rfl (cells_p3 _ _ _ _ _) (opcell3 _ _ _)) (by simp only [maxLen]; omega) (by omega) (size_alloc hz2) ?_; intro v7 W7 hown7 hg7 hat7; obtain ⟨A7, c7, rfl, _⟩ := Rd.own hown7; have hb7 := below_of_own (v := .slice A4 i c4) (hb.alloc hz2 (.cells #[.int .i64 2, .string a, .string ⟨#[]⟩] 56)) hg7 (World.ownsRow.alloc hO _) (size_alloc hz2) (Nat.le_refl _))
              refine ⟨⟨i + 1, st ++ [Ex.same a], by go_num, by omega, by rw [HP.out.2.2]; go_num, ?_, HP.out.1, HP.out.2.1, hb7⟩, ?_⟩
              · rw [opsK_app, ocells_app]
                exact hown7
              · simp only [intOf]; omega
          by_cases y3 : y % 6 = 3
          · have HP : Hid ((∀ t ∈ st ++ [Ex.via b a], Ex.pl a b t) ∧ (opsK (st ++ [Ex.via b a])).length = i + 1 ∧ (st ++ [Ex.via b a]).length = nst + 1) := Lib.hid ⟨(by
              intro t ht
              rcases List.mem_append.1 ht with h | h
              · exact hpl t h
              · rw [List.mem_singleton.1 h]; first | trivial | rfl | exact ⟨rfl, rfl⟩), by rw [opsK_app, List.length_append, hln]; rfl, by rw [List.length_append, HN.out]; rfl⟩
            have d6 : ((((y : Nat) : Int) % 6) == 1) = false := by rw [beq_eq_false_iff_ne]; omega
            have d7 : ((((y : Nat) : Int) % 6) == 3) = true := by rw [beq_iff_eq]; omega
            clear hpl
            rcases hdd with d1 | ⟨d1, d2⟩
            · have d1' : ¬ (1 : Int) < (nst : Nat) := of_decide_eq_false d1
              clear d1 hst
              go_wp2_with fail
              refine roL_begin (fun W => W.cell? ⟨b1, o1, none⟩ = some (.string a) ∧ W.cell? ⟨b1, o1 + 1, none⟩ = some (.string b)) 10 (by kernel_rfl) ?_
              have hbd : Below wr.heap.size wr (World.drew wr) := ⟨rfl, rfl, rfl, Nat.le_refl _, fun _ _ => rfl⟩
              have HS : (World.drew wr).cell? ⟨b1, o1, none⟩ = some (.string a) ∧ (World.drew wr).cell? ⟨b1, o1 + 1, none⟩ = some (.string b) := ⟨cell_under na hbd, cell_under nb hbd⟩
              have hOd := own_below hO hbd
              have hbD := hb.trans (hbd.mono hb.size)
              have hzD := hbD.size
              generalize World.drew wr = wd at *
              refine roL_take 0 (some 94) (v := ?v0r18x1) rfl rfl (by kernel_rfl) (by decide) (by kernel_rfl) (by kernel_rfl) (by kernel_rfl) (fun _ _ _ h => h) (by rfl) ?y0r18x1 HS ?r0r18x1
              case y0r18x1 => (intro w hS; (try dsimp only at hS); obtain ⟨q0, q1⟩ := hS; go_simp; try with_reducible rfl)
              simp only [Act.put, List.setIfInBounds_toArray, List.set_cons_zero, List.set_cons_succ]
              refine roL_take 1 (some 95) (v := ?v1r18x1) rfl rfl (by kernel_rfl) (by decide) (by kernel_rfl) (by kernel_rfl) (by kernel_rfl) (fun _ _ _ h => h) (by rfl) ?y1r18x1 HS ?r1r18x1
              case y1r18x1 => (intro w hS; (try dsimp only at hS); obtain ⟨q0, q1⟩ := hS; go_simp; try with_reducible rfl)
              simp only [Act.put, List.setIfInBounds_toArray, List.set_cons_zero, List.set_cons_succ]
              refine roL_take 2 (some 96) (v := ?v2r18x1) rfl rfl (by kernel_rfl) (by decide) (by kernel_rfl) (by kernel_rfl) (by kernel_rfl) (fun _ _ _ h => h) (by rfl) ?y2r18x1 HS ?r2r18x1
              case y2r18x1 => (intro w hS; (try dsimp only at hS); obtain ⟨q0, q1⟩ := hS; go_simp; try with_reducible rfl)
              simp only [Act.put, List.setIfInBounds_toArray, List.set_cons_zero, List.set_cons_succ]
              refine roL_take 3 (some 97) (v := ?v3r18x1) rfl rfl (by kernel_rfl) (by decide) (by kernel_rfl) (by kernel_rfl) (by kernel_rfl) (fun _ _ _ h => h) (by rfl) ?y3r18x1 HS ?r3r18x1
              case y3r18x1 => (intro w hS; (try dsimp only at hS); obtain ⟨q0, q1⟩ := hS; go_simp; try with_reducible rfl)
              simp only [Act.put, List.setIfInBounds_toArray, List.set_cons_zero, List.set_cons_succ]
              refine roL_take 4 (some 98) (v := ?v4r18x1) rfl rfl (by kernel_rfl) (by decide) (by kernel_rfl) (by kernel_rfl) (by kernel_rfl) (fun _ _ _ h => h) (by rfl) ?y4r18x1 HS ?r4r18x1
              case y4r18x1 => (intro w hS; (try dsimp only at hS); obtain ⟨q0, q1⟩ := hS; go_simp; try with_reducible rfl)
              simp only [Act.put, List.setIfInBounds_toArray, List.set_cons_zero, List.set_cons_succ]
              refine roL_take 5 (some 99) (v := ?v5r18x1) rfl rfl (by kernel_rfl) (by decide) (by kernel_rfl) (by kernel_rfl) (by kernel_rfl) (fun _ _ _ h => h) (by rfl) ?y5r18x1 HS ?r5r18x1
              case y5r18x1 => (intro w hS; (try dsimp only at hS); obtain ⟨q0, q1⟩ := hS; go_simp; try with_reducible rfl)
              simp only [Act.put, List.setIfInBounds_toArray, List.set_cons_zero, List.set_cons_succ]
              refine roL_take 6 (some 100) (v := ?v6r18x1) rfl rfl (by kernel_rfl) (by decide) (by kernel_rfl) (by kernel_rfl) (by kernel_rfl) (fun _ _ _ h => h) (by rfl) ?y6r18x1 HS ?r6r18x1
              case y6r18x1 => (intro w hS; (try dsimp only at hS); obtain ⟨q0, q1⟩ := hS; go_simp; try with_reducible rfl)
              simp only [Act.put, List.setIfInBounds_toArray, List.set_cons_zero, List.set_cons_succ]
              refine roL_take 7 (some 101) (v := ?v7r18x1) rfl rfl (by kernel_rfl) (by decide) (by kernel_rfl) (by kernel_rfl) (by kernel_rfl) (fun _ _ _ h => h) (by rfl) ?y7r18x1 HS ?r7r18x1
              case y7r18x1 => (intro w hS; (try dsimp only at hS); obtain ⟨q0, q1⟩ := hS; go_simp; try with_reducible rfl)
              simp only [Act.put, List.setIfInBounds_toArray, List.set_cons_zero, List.set_cons_succ]
              refine roL_one 8 rfl (by kernel_rfl) fun K hK' => ?_
              go_simp
              refine hK' _ _ (fun _ => ⟨cell_alloc HS.1 _, cell_alloc HS.2 _⟩) ?_
              clear hK' K
              refine roL_one 9 rfl (by kernel_rfl) fun K hK' => ?_
              rw [if_pos (by rfl)]
              refine op_append_src _ (some 103) rfl (.tmp 94) (.tmp 102) 40 40 rfl w3.heap.size 56 i0 (.agg #[.int .i64 0, .string .empty, .string .empty]) 3 40 Try.underlying40 hi0 hi1 hi2' hi3 rfl (by decide) (.slice A4 i c4) i (ocells (opsK st)) rfl (World.ownsRow.alloc hOd _) _ 1 [.int .i64 3, .string b, .string a] rfl (Src.ofSlice _ Try.underlying40 _ 1 1 _ rfl (cells_p3 _ _ _ _ _) (opcell3 _ _ _)) (by simp only [maxLen]; omega) (by omega) (size_alloc hzD) ?_
              intro v7 W7 hown7 hg7
              obtain ⟨A7, c7, rfl, _⟩ := Rd.own hown7
              have hb7 := below_of_own (v := .slice A4 i c4) (hbD.alloc hzD (.cells #[.int .i64 3, .string b, .string a] 56)) hg7 (World.ownsRow.alloc hOd _) (size_alloc hzD) (Nat.le_refl _)
              have HS8 : W7.cell? ⟨b1, o1, none⟩ = some (.string a) ∧ W7.cell? ⟨b1, o1 + 1, none⟩ = some (.string b) := ⟨cell_under nBa hb7, cell_under nBb hb7⟩
              refine hK' _ _ (fun _ => HS8) ?_
              clear hK' K HS
              simp only [Act.put, List.setIfInBounds_toArray, List.set_cons_zero, List.set_cons_succ]
              refine roL_one 10 rfl (by kernel_rfl) fun K hK' => ?_
              go_simp
              refine hK' _ _ (fun h => absurd rfl h) ?_
              clear hK' K
              refine roL_done (by kernel_rfl) ?_ _
              go_wp2_with fail
              refine ⟨⟨i + 1, st ++ [Ex.via b a], by go_num, by omega, by rw [HP.out.2.2]; go_num, ?_, HP.out.1, HP.out.2.1, hb7⟩, ?_⟩
              · rw [opsK_app, ocells_app]
                exact hown7
              · simp only [intOf]; omega
            · have d1' : (1 : Int) < (nst : Nat) := of_decide_eq_true d1
              clear d1 hst
              go_wp2_with fail
              refine roL_begin (fun W => W.cell? ⟨b1, o1, none⟩ = some (.string a) ∧ W.cell? ⟨b1, o1 + 1, none⟩ = some (.string b)) 10 (by kernel_rfl) ?_
              have hbd : Below wr.heap.size wr (World.drew wr) := ⟨rfl, rfl, rfl, Nat.le_refl _, fun _ _ => rfl⟩
              have HS : (World.drew wr).cell? ⟨b1, o1, none⟩ = some (.string a) ∧ (World.drew wr).cell? ⟨b1, o1 + 1, none⟩ = some (.string b) := ⟨cell_under na hbd, cell_under nb hbd⟩
              have hOd := own_below hO hbd
              have hbD := hb.trans (hbd.mono hb.size)
              have hzD := hbD.size
              generalize World.drew wr = wd at *
              refine roL_take 0 (some 94) (v := ?v0r18x2) rfl rfl (by kernel_rfl) (by decide) (by kernel_rfl) (by kernel_rfl) (by kernel_rfl) (fun _ _ _ h => h) (by rfl) ?y0r18x2 HS ?r0r18x2
              case y0r18x2 => (intro w hS; (try dsimp only at hS); obtain ⟨q0, q1⟩ := hS; go_simp; try with_reducible rfl)
              simp only [Act.put, List.setIfInBounds_toArray, List.set_cons_zero, List.set_cons_succ]
              refine roL_take 1 (some 95) (v := ?v1r18x2) rfl rfl (by kernel_rfl) (by decide) (by kernel_rfl) (by kernel_rfl) (by kernel_rfl) (fun _ _ _ h => h) (by rfl) ?y1r18x2 HS ?r1r18x2
              case y1r18x2 => (intro w hS; (try dsimp only at hS); obtain ⟨q0, q1⟩ := hS; go_simp; try with_reducible rfl)
              simp only [Act.put, List.setIfInBounds_toArray, List.set_cons_zero, List.set_cons_succ]
              refine roL_take 2 (some 96) (v := ?v2r18x2) rfl rfl (by kernel_rfl) (by decide) (by kernel_rfl) (by kernel_rfl) (by kernel_rfl) (fun _ _ _ h => h) (by rfl) ?y2r18x2 HS ?r2r18x2
              case y2r18x2 => (intro w hS; (try dsimp only at hS); obtain ⟨q0, q1⟩ := hS; go_simp; try with_reducible rfl)
              simp only [Act.put, List.setIfInBounds_toArray, List.set_cons_zero, List.set_cons_succ]
              refine roL_take 3 (some 97) (v := ?v3r18x2) rfl rfl (by kernel_rfl) (by decide) (by kernel_rfl) (by kernel_rfl) (by kernel_rfl) (fun _ _ _ h => h) (by rfl) ?y3r18x2 HS ?r3r18x2
              case y3r18x2 => (intro w hS; (try dsimp only at hS); obtain ⟨q0, q1⟩ := hS; go_simp; try with_reducible rfl)
              simp only [Act.put, List.setIfInBounds_toArray, List.set_cons_zero, List.set_cons_succ]
              refine roL_take 4 (some 98) (v := ?v4r18x2) rfl rfl (by kernel_rfl) (by decide) (by kernel_rfl) (by kernel_rfl) (by kernel_rfl) (fun _ _ _ h => h) (by rfl) ?y4r18x2 HS ?r4r18x2
              case y4r18x2 => (intro w hS; (try dsimp only at hS); obtain ⟨q0, q1⟩ := hS; go_simp; try with_reducible rfl)
              simp only [Act.put, List.setIfInBounds_toArray, List.set_cons_zero, List.set_cons_succ]
              refine roL_take 5 (some 99) (v := ?v5r18x2) rfl rfl (by kernel_rfl) (by decide) (by kernel_rfl) (by kernel_rfl) (by kernel_rfl) (fun _ _ _ h => h) (by rfl) ?y5r18x2 HS ?r5r18x2
              case y5r18x2 => (intro w hS; (try dsimp only at hS); obtain ⟨q0, q1⟩ := hS; go_simp; try with_reducible rfl)
              simp only [Act.put, List.setIfInBounds_toArray, List.set_cons_zero, List.set_cons_succ]
              refine roL_take 6 (some 100) (v := ?v6r18x2) rfl rfl (by kernel_rfl) (by decide) (by kernel_rfl) (by kernel_rfl) (by kernel_rfl) (fun _ _ _ h => h) (by rfl) ?y6r18x2 HS ?r6r18x2
              case y6r18x2 => (intro w hS; (try dsimp only at hS); obtain ⟨q0, q1⟩ := hS; go_simp; try with_reducible rfl)
              simp only [Act.put, List.setIfInBounds_toArray, List.set_cons_zero, List.set_cons_succ]
              refine roL_take 7 (some 101) (v := ?v7r18x2) rfl rfl (by kernel_rfl) (by decide) (by kernel_rfl) (by kernel_rfl) (by kernel_rfl) (fun _ _ _ h => h) (by rfl) ?y7r18x2 HS ?r7r18x2
              case y7r18x2 => (intro w hS; (try dsimp only at hS); obtain ⟨q0, q1⟩ := hS; go_simp; try with_reducible rfl)
              simp only [Act.put, List.setIfInBounds_toArray, List.set_cons_zero, List.set_cons_succ]
              refine roL_one 8 rfl (by kernel_rfl) fun K hK' => ?_
              go_simp
              refine hK' _ _ (fun _ => ⟨cell_alloc HS.1 _, cell_alloc HS.2 _⟩) ?_
              clear hK' K
              refine roL_one 9 rfl (by kernel_rfl) fun K hK' => ?_
              rw [if_pos (by rfl)]
              refine op_append_src _ (some 103) rfl (.tmp 94) (.tmp 102) 40 40 rfl w3.heap.size 56 i0 (.agg #[.int .i64 0, .string .empty, .string .empty]) 3 40 Try.underlying40 hi0 hi1 hi2' hi3 rfl (by decide) (.slice A4 i c4) i (ocells (opsK st)) rfl (World.ownsRow.alloc hOd _) _ 1 [.int .i64 3, .string b, .string a] rfl (Src.ofSlice _ Try.underlying40 _ 1 1 _ rfl (cells_p3 _ _ _ _ _) (opcell3 _ _ _)) (by simp only [maxLen]; omega) (by omega) (size_alloc hzD) ?_
              intro v7 W7 hown7 hg7
              obtain ⟨A7, c7, rfl, _⟩ := Rd.own hown7
              have hb7 := below_of_own (v := .slice A4 i c4) (hbD.alloc hzD (.cells #[.int .i64 3, .string b, .string a] 56)) hg7 (World.ownsRow.alloc hOd _) (size_alloc hzD) (Nat.le_refl _)
              have HS8 : W7.cell? ⟨b1, o1, none⟩ = some (.string a) ∧ W7.cell? ⟨b1, o1 + 1, none⟩ = some (.string b) := ⟨cell_under nBa hb7, cell_under nBb hb7⟩
              refine hK' _ _ (fun _ => HS8) ?_
              clear hK' K HS
              simp only [Act.put, List.setIfInBounds_toArray, List.set_cons_zero, List.set_cons_succ]
              refine roL_one 10 rfl (by kernel_rfl) fun K hK' => ?_
              go_simp
              refine hK' _ _ (fun h => absurd rfl h) ?_
              clear hK' K
              refine roL_done (by kernel_rfl) ?_ _
              go_wp2_with fail
              refine ⟨⟨i + 1, st ++ [Ex.via b a], by go_num, by omega, by rw [HP.out.2.2]; go_num, ?_, HP.out.1, HP.out.2.1, hb7⟩, ?_⟩
              · rw [opsK_app, ocells_app]
                exact hown7
              · simp only [intOf]; omega
          · have HP : Hid ((∀ t ∈ st ++ [Ex.this], Ex.pl a b t) ∧ (opsK (st ++ [Ex.this])).length = i + 1 ∧ (st ++ [Ex.this]).length = nst + 1) := Lib.hid ⟨(by
              intro t ht
              rcases List.mem_append.1 ht with h | h
              · exact hpl t h
              · rw [List.mem_singleton.1 h]; first | trivial | rfl | exact ⟨rfl, rfl⟩), by rw [opsK_app, List.length_append, hln]; rfl, by rw [List.length_append, HN.out]; rfl⟩
            have d6 : ((((y : Nat) : Int) % 6) == 1) = false := by rw [beq_eq_false_iff_ne]; omega
            have d7 : ((((y : Nat) : Int) % 6) == 3) = false := by rw [beq_eq_false_iff_ne]; omega
            clear hpl
            rcases hdd with d1 | ⟨d1, d2⟩
            · have d1' : ¬ (1 : Int) < (nst : Nat) := of_decide_eq_false d1
              clear d1 hst
              go_wp2_with (at_builtin; refine wpList_append_src _ rfl (.tmp 44) (.tmp 46) 40 40 rfl w3.heap.size 56 i0 (.agg #[.int .i64 0, .string .empty, .string .empty]) 3 40 Try.underlying40 hi0 hi1 hi2' hi3 rfl (by decide) _ i (ocells (opsK st)) rfl (World.ownsRow.alloc hO _) _ 1 [.int .i64 1, .string ⟨#[]⟩, .string ⟨#[]⟩] rfl (Src.ofSlice _ Try.underlying40 _ 1 1 _ rfl (cells_p3 _ _ _ _ _) (opcell3 _ _ _)) (by simp only [maxLen]; omega) (by omega) (size_alloc hz2) ?_; intro v7 W7 hown7 hg7 hat7; obtain ⟨A7, c7, rfl, _⟩ := Rd.own hown7; have hb7 := below_of_own (v := .slice A4 i c4) (hb.alloc hz2 (.cells #[.int .i64 1, .string ⟨#[]⟩, .string ⟨#[]⟩] 56)) hg7 (World.ownsRow.alloc hO _) (size_alloc hz2) (Nat.le_refl _))
              refine ⟨⟨i + 1, st ++ [Ex.this], by go_num, by omega, by rw [HP.out.2.2]; go_num, ?_, HP.out.1, HP.out.2.1, hb7⟩, ?_⟩
              · rw [opsK_app, ocells_app]
                exact hown7
              · simp only [intOf]; omega
            · have d1' : (1 : Int) < (nst : Nat) := of_decide_eq_true d1
              clear d1 hst
              go_wp2_with (at_builtin; refine wpList_append_src _ rfl (.tmp 44) (.tmp 46) 40 40 rfl w3.heap.size 56 i0 (.agg #[.int .i64 0, .string .empty, .string .empty]) 3 40 Try.underlying40 hi0 hi1 hi2' hi3 rfl (by decide) _ i (ocells (opsK st)) rfl (World.ownsRow.alloc hO _) _ 1 [.int .i64 1, .string ⟨#[]⟩, .string ⟨#[]⟩] rfl (Src.ofSlice _ Try.underlying40 _ 1 1 _ rfl (cells_p3 _ _ _ _ _) (opcell3 _ _ _)) (by simp only [maxLen]; omega) (by omega) (size_alloc hz2) ?_; intro v7 W7 hown7 hg7 hat7; obtain ⟨A7, c7, rfl, _⟩ := Rd.own hown7; have hb7 := below_of_own (v := .slice A4 i c4) (hb.alloc hz2 (.cells #[.int .i64 1, .string ⟨#[]⟩, .string ⟨#[]⟩] 56)) hg7 (World.ownsRow.alloc hO _) (size_alloc hz2) (Nat.le_refl _))
              refine ⟨⟨i + 1, st ++ [Ex.this], by go_num, by omega, by rw [HP.out.2.2]; go_num, ?_, HP.out.1, HP.out.2.1, hb7⟩, ?_⟩
              · rw [opsK_app, ocells_app]
                exact hown7
              · simp only [intOf]; omega
        · obtain rfl : i = n0 := by omega
          have hdi : ¬ ((i : Nat) : Int) < (i : Nat) := by omega
          have hbw := h13.trans (hb.mono hz1)
          by_cases hst : st.length = 1
          · obtain ⟨t, rfl⟩ : ∃ t, st = [t] := List.length_eq_one_iff.1 hst
            have hpt := hpl t (by simp)
            have hops : opsK [t] = t.ops := by simp [opsK]
            have hrw : rewS (opsK [t]) = t.text := by rw [hops]; exact rewS_tree t (Ex.pl_good t hpt)
            have hnm := Ex.pl_names sa sb t hpt
            rw [← hops] at hnm
            obtain ⟨_, _, eA, hrd⟩ := Rd.own hO
            cases eA
            have kr := rewrite_any (w := wr) (A := A4) (c := c4) (l := opsK [t]) (by rw [hln]; exact hrd) (by omega) hnm
            obtain ⟨kp0, kz⟩ := parse_opsN HNM.out.1 HNM.out.2 sa sb hpt (by rw [← hops, hln]; omega)
            have kp := fun W => parse_named9 (opT8 t.text) (by omega) kp0 W
            unfold opT8 opHead opTail at kp kz
            unfold oneR at kp
            simp only [List.length_cons, List.length_nil, Nat.zero_add] at kp
            have kz2 : 29 + t.text.size + 3 ≤ 2048 := by rw [size_app, size_app] at kz; exact kz
            have s1 : ¬ 9223372036854775807 < 29 + t.text.size := by omega
            have s2 : ¬ 9223372036854775807 < 29 + t.text.size + 3 := by omega
            have hpos := t.leaves_pos
            have hll := t.leaves_le
            have hi' : i = t.ops.length := by rw [← hops, hln]
            rw [hops] at hO kr hrw
            rw [hrw] at kr
            subst hi'
            clear kp0 kz hpl hpt hops hrw hnm hrd hln hst r0 hb hi kz2 na nb nBa nBb hsum
            generalize t.text = S at *
            generalize t.ops = L at *
            have hP : VOps w3.heap.size wr (.slice A4 L.length c4) L := hO
            have hL0 : 0 < L.length := by omega
            have hL20 : L.length ≤ 20 := by omega
            clear hpos hll hO
            obtain ⟨gp, cp, e4, _⟩ := own_at hP hL0
            injection e4 with ea eb ec
            subst ea
            clear eb
            subst ec
            go_wp2_with fail
            refine kr.mono ?_
            rintro e W2 ⟨rfl, hb2⟩
            go_wp2_with fail
            refine (kp _).mono ?_
            rintro e W3 ⟨⟨Aa, ca, rfl, hva⟩, hb3⟩
            have h23 := hb2.trans (hb3.mono hb2.size)
            have h24 := h23.alloc h23.size (.cells #[.slice Aa 1 ca] 25)
            have hB4 := hbw.trans (h24.mono hbw.size)
            have hP4 := own_below hP h24
            have hva4 := hva.below ((Below.refl _ W3).alloc (Nat.le_refl _) (.cells #[.slice Aa 1 ca] 25))
            have hx4 := Bk.new W3 #[.slice Aa 1 ca] 25
            obtain ⟨gt, ct, vr, e1, hr, _, t1⟩ := hva4.get (i := 0) rfl
            injection e1 with ea eb ec
            subst ea
            clear eb
            subst ec
            obtain ⟨gr, cr, vs, vo, e2, _, ho, _, _, _, _, _, r5⟩ := hr.get (i := 0) rfl
            subst e2
            obtain ⟨go, cO, e3, _⟩ := own_at ho hL0
            subst e3
            have x0 : (W3.alloc (.cells #[.slice (some ⟨gt, 0, none⟩) 1 ca] 25)).cell? ⟨W3.heap.size, 0, none⟩ = some (.slice (some ⟨gt, 0, none⟩) 1 ca) := hx4.cell 0
            have x1 : (W3.alloc (.cells #[.slice (some ⟨gt, 0, none⟩) 1 ca] 25)).cell? ⟨gt, 1, none⟩ = some (.slice (some ⟨gr, 0, none⟩) 1 cr) := t1
            have x2 : (W3.alloc (.cells #[.slice (some ⟨gt, 0, none⟩) 1 ca] 25)).cell? ⟨gr, 5, none⟩ = some (.slice (some ⟨go, 0, none⟩) L.length cO) := r5
            clear t1 r5 hr hva hva4 kr kp hb2 hb3 h23 h24 hP
            go_wp2_with fail
            generalize W3.alloc (.cells #[.slice (some ⟨gt, 0, none⟩) 1 ca] 25) = W4 at *
            generalize W3.heap.size = bx at *
            go_loopw [12] (fun v12 wr => ∃ j : Nat, v12 = .int .i64 j ∧ j ≤ L.length ∧ Below W4.heap.size W4 wr) (fun v12 _ => L.length - (intOf v12).toNat)
            case atStart => exact ⟨0, rfl, Nat.zero_le _, Below.refl _ _⟩
            case round =>
              obtain ⟨j, rfl, hj, hbz⟩ := hrel
              by_cases hjl : j < L.length
              · have hdj : (j : Int) < (L.length : Nat) := by omega
                obtain ⟨o, hoj⟩ : ∃ o, L[j]? = some o := ⟨L[j], List.getElem?_eq_getElem hjl⟩
                have hPz : VOps _ wr _ L := own_below hP4 hbz
                obtain ⟨gp2, cp2, e5, q0, q1, q2⟩ := hPz.get hoj
                cases e5
                have hOz : VOps _ wr _ L := own_below ho hbz
                obtain ⟨go2, cO2, e6, p0, p1, p2⟩ := hOz.get hoj
                cases e6
                replace x0 := cell_under x0 hbz
                replace x1 := cell_under x1 hbz
                replace x2 := cell_under x2 hbz
                clear hPz hOz hoj
                go_wp2_with fail
                refine wp_region_held (S := fun W => W.cell? ⟨bx, 0, none⟩ = some (.slice (some ⟨gt, 0, none⟩) 1 ca) ∧ W.cell? ⟨gt, 1, none⟩ = some (.slice (some ⟨gr, 0, none⟩) 1 cr) ∧ W.cell? ⟨gr, 5, none⟩ = some (.slice (some ⟨go, 0, none⟩) L.length cO) ∧ W.cell? ⟨go, j * 3, none⟩ = some (.int .i64 o.1) ∧ W.cell? ⟨go, j * 3 + 1, none⟩ = some (.string o.2.1) ∧ W.cell? ⟨go, j * 3 + 2, none⟩ = some (.string o.2.2) ∧ W.cell? ⟨gp, j * 3, none⟩ = some (.int .i64 o.1) ∧ W.cell? ⟨gp, j * 3 + 1, none⟩ = some (.string o.2.1) ∧ W.cell? ⟨gp, j * 3 + 2, none⟩ = some (.string o.2.2)) (by kernel_rfl) ?_
                change wpAnyH _ _ _ _ _ _ _ _ (World.drew _)
                have hbd : Below wr.heap.size wr (World.drew wr) := ⟨rfl, rfl, rfl, Nat.le_refl _, fun _ _ => rfl⟩
                have HS : (World.drew wr).cell? ⟨bx, 0, none⟩ = some (.slice (some ⟨gt, 0, none⟩) 1 ca) ∧ (World.drew wr).cell? ⟨gt, 1, none⟩ = some (.slice (some ⟨gr, 0, none⟩) 1 cr) ∧ (World.drew wr).cell? ⟨gr, 5, none⟩ = some (.slice (some ⟨go, 0, none⟩) L.length cO) ∧ (World.drew wr).cell? ⟨go, j * 3, none⟩ = some (.int .i64 o.1) ∧ (World.drew wr).cell? ⟨go, j * 3 + 1, none⟩ = some (.string o.2.1) ∧ (World.drew wr).cell? ⟨go, j * 3 + 2, none⟩ = some (.string o.2.2) ∧ (World.drew wr).cell? ⟨gp, j * 3, none⟩ = some (.int .i64 o.1) ∧ (World.drew wr).cell? ⟨gp, j * 3 + 1, none⟩ = some (.string o.2.1) ∧ (World.drew wr).cell? ⟨gp, j * 3 + 2, none⟩ = some (.string o.2.2) := ⟨cell_under x0 hbd, cell_under x1 hbd, cell_under x2 hbd, cell_under p0 hbd, cell_under p1 hbd, cell_under p2 hbd, cell_under q0 hbd, cell_under q1 hbd, cell_under q2 hbd⟩
                generalize World.drew wr = wd at *
                refine roH_take 0 (some 159) (v := ?v0r30) rfl rfl (by kernel_rfl) (by kernel_rfl) (by kernel_rfl) (fun _ _ _ h => h) (by rfl) ?y0r30 HS ?r0r30
                case y0r30 => (intro w hS; (try dsimp only at hS); obtain ⟨x0, x1, x2, p0, p1, p2, q0, q1, q2⟩ := hS; go_simp; try with_reducible rfl)
                simp only [Act.put, List.setIfInBounds_toArray, List.set_cons_zero, List.set_cons_succ]
                refine roH_take 1 (some 160) (v := ?v1r30) rfl rfl (by kernel_rfl) (by kernel_rfl) (by kernel_rfl) (fun _ _ _ h => h) (by rfl) ?y1r30 HS ?r1r30
                case y1r30 => (intro w hS; (try dsimp only at hS); obtain ⟨x0, x1, x2, p0, p1, p2, q0, q1, q2⟩ := hS; go_simp; try with_reducible rfl)
                simp only [Act.put, List.setIfInBounds_toArray, List.set_cons_zero, List.set_cons_succ]
                refine roH_take 2 (some 161) (v := ?v2r30) rfl rfl (by kernel_rfl) (by kernel_rfl) (by kernel_rfl) (fun _ _ _ h => h) (by rfl) ?y2r30 HS ?r2r30
                case y2r30 => (intro w hS; (try dsimp only at hS); obtain ⟨x0, x1, x2, p0, p1, p2, q0, q1, q2⟩ := hS; go_simp; try with_reducible rfl)
                simp only [Act.put, List.setIfInBounds_toArray, List.set_cons_zero, List.set_cons_succ]
                refine roH_take 3 (some 162) (v := ?v3r30) rfl rfl (by kernel_rfl) (by kernel_rfl) (by kernel_rfl) (fun _ _ _ h => h) (by rfl) ?y3r30 HS ?r3r30
                case y3r30 => (intro w hS; (try dsimp only at hS); obtain ⟨x0, x1, x2, p0, p1, p2, q0, q1, q2⟩ := hS; go_simp; try with_reducible rfl)
                simp only [Act.put, List.setIfInBounds_toArray, List.set_cons_zero, List.set_cons_succ]
                refine roH_take 4 (some 163) (v := ?v4r30) rfl rfl (by kernel_rfl) (by kernel_rfl) (by kernel_rfl) (fun _ _ _ h => h) (by rfl) ?y4r30 HS ?r4r30
                case y4r30 => (intro w hS; (try dsimp only at hS); obtain ⟨x0, x1, x2, p0, p1, p2, q0, q1, q2⟩ := hS; go_simp; try with_reducible rfl)
                simp only [Act.put, List.setIfInBounds_toArray, List.set_cons_zero, List.set_cons_succ]
                refine roH_take 5 (some 164) (v := ?v5r30) rfl rfl (by kernel_rfl) (by kernel_rfl) (by kernel_rfl) (fun _ _ _ h => h) (by rfl) ?y5r30 HS ?r5r30
                case y5r30 => (intro w hS; (try dsimp only at hS); obtain ⟨x0, x1, x2, p0, p1, p2, q0, q1, q2⟩ := hS; go_simp; try with_reducible rfl)
                simp only [Act.put, List.setIfInBounds_toArray, List.set_cons_zero, List.set_cons_succ]
                refine roH_take 6 (some 165) (v := ?v6r30) rfl rfl (by kernel_rfl) (by kernel_rfl) (by kernel_rfl) (fun _ _ _ h => h) (by rfl) ?y6r30 HS ?r6r30
                case y6r30 => (intro w hS; (try dsimp only at hS); obtain ⟨x0, x1, x2, p0, p1, p2, q0, q1, q2⟩ := hS; go_simp; try with_reducible rfl)
                simp only [Act.put, List.setIfInBounds_toArray, List.set_cons_zero, List.set_cons_succ]
                refine roH_take 7 (some 166) (v := ?v7r30) rfl rfl (by kernel_rfl) (by kernel_rfl) (by kernel_rfl) (fun _ _ _ h => h) (by rfl) ?y7r30 HS ?r7r30
                case y7r30 => (intro w hS; (try dsimp only at hS); obtain ⟨x0, x1, x2, p0, p1, p2, q0, q1, q2⟩ := hS; go_simp; try with_reducible rfl)
                simp only [Act.put, List.setIfInBounds_toArray, List.set_cons_zero, List.set_cons_succ]
                refine roH_take 8 (some 167) (v := ?v8r30) rfl rfl (by kernel_rfl) (by kernel_rfl) (by kernel_rfl) (fun _ _ _ h => h) (by rfl) ?y8r30 HS ?r8r30
                case y8r30 => (intro w hS; (try dsimp only at hS); obtain ⟨x0, x1, x2, p0, p1, p2, q0, q1, q2⟩ := hS; go_simp; try with_reducible rfl)
                simp only [Act.put, List.setIfInBounds_toArray, List.set_cons_zero, List.set_cons_succ]
                refine roH_take 9 (some 168) (v := ?v9r30) rfl rfl (by kernel_rfl) (by kernel_rfl) (by kernel_rfl) (fun _ _ _ h => h) (by rfl) ?y9r30 HS ?r9r30
                case y9r30 => (intro w hS; (try dsimp only at hS); obtain ⟨x0, x1, x2, p0, p1, p2, q0, q1, q2⟩ := hS; go_simp; try with_reducible rfl)
                simp only [Act.put, List.setIfInBounds_toArray, List.set_cons_zero, List.set_cons_succ]
                refine roH_take 10 (some 169) (v := ?v10r30) rfl rfl (by kernel_rfl) (by kernel_rfl) (by kernel_rfl) (fun _ _ _ h => h) (by rfl) ?y10r30 HS ?r10r30
                case y10r30 => (intro w hS; (try dsimp only at hS); obtain ⟨x0, x1, x2, p0, p1, p2, q0, q1, q2⟩ := hS; go_simp; try with_reducible rfl)
                simp only [Act.put, List.setIfInBounds_toArray, List.set_cons_zero, List.set_cons_succ]
                refine roH_take 11 (some 170) (v := ?v11r30) rfl rfl (by kernel_rfl) (by kernel_rfl) (by kernel_rfl) (fun _ _ _ h => h) (by rfl) ?y11r30 HS ?r11r30
                case y11r30 => (intro w hS; (try dsimp only at hS); obtain ⟨x0, x1, x2, p0, p1, p2, q0, q1, q2⟩ := hS; go_simp; try with_reducible rfl)
                simp only [Act.put, List.setIfInBounds_toArray, List.set_cons_zero, List.set_cons_succ]
                refine roH_one 12 rfl (by kernel_rfl) fun K hK' => ?_
                go_simp
                refine hK' _ _ HS ?_
                clear hK' K
                refine roH_one 13 rfl (by kernel_rfl) fun K hK' => ?_
                go_simp
                refine hK' _ _ HS ?_
                clear hK' K
                refine roH_take 14 (some 173) (v := ?v14r30) rfl rfl (by kernel_rfl) (by kernel_rfl) (by kernel_rfl) (fun _ _ _ h => h) (by rfl) ?y14r30 HS ?r14r30
                case y14r30 => (intro w hS; (try dsimp only at hS); obtain ⟨x0, x1, x2, p0, p1, p2, q0, q1, q2⟩ := hS; go_simp; try with_reducible rfl)
                simp only [Act.put, List.setIfInBounds_toArray, List.set_cons_zero, List.set_cons_succ]
                refine roH_one 15 rfl (by kernel_rfl) fun K hK' => ?_
                go_simp
                refine hK' _ _ HS ?_
                clear hK' K
                refine wpAnyH_done (by kernel_rfl) ?_ _
                go_wp2_with fail
                refine ⟨⟨j + 1, by go_num, by omega, hbz.trans (hbd.mono hbz.size)⟩, ?_⟩
                simp only [intOf]
                omega
              · obtain rfl : j = L.length := by omega
                have hdj : ¬ ((L.length : Nat) : Int) < (L.length : Nat) := by omega
                go_wp2_with fail
                go_ret
                exact ⟨rfl, hB4.trans (hbz.mono hB4.size)⟩
          · have hdn : ((((st.length : Nat) : Int)) == 1) = false := by rw [beq_eq_false_iff_ne]; omega
            go_wp2_with fail
            go_ret
            exact ⟨rfl, hbw⟩
    · have kb : ∀ W, Calls Try.prog 19 #[.string b] W fun e w' => e = .returned (.bool false) ∧ Below W.heap.size W w' := fun W => by have := name8_any b zb W; rw [Bool.not_eq_true] at hy; rw [hy] at this; exact this
      clear hx hy za zb
      go_enter Try.func7, Try.ntmps7
      go_wp2_with ((with_reducible refine (awake8_any _).mono ?_); rintro e w1 ⟨rfl, hb1⟩; have k0 := cell_under g0 hb1)
      refine (ka _).mono ?_
      rintro e w2 ⟨rfl, hb2⟩
      have h12 := hb1.trans (hb2.mono hb1.size)
      have k1 := cell_under g1 h12
      go_wp2_with fail
      refine (kb _).mono ?_
      rintro e w3 ⟨rfl, hb3⟩
      go_wp2_with fail
      go_ret
      exact ⟨rfl, h12.trans (hb3.mono h12.size)⟩
  · have ka : ∀ W, Calls Try.prog 19 #[.string a] W fun e w' => e = .returned (.bool false) ∧ Below W.heap.size W w' := fun W => by have := name8_any a za W; rw [Bool.not_eq_true] at hx; rw [hx] at this; exact this
    clear hx za zb
    go_enter Try.func7, Try.ntmps7
    go_wp2_with ((with_reducible refine (awake8_any _).mono ?_); rintro e w1 ⟨rfl, hb1⟩; have k0 := cell_under g0 hb1)
    refine (ka _).mono ?_
    rintro e w2 ⟨rfl, hb2⟩
    go_wp2_with fail
    go_ret
    exact ⟨rfl, hb1.trans (hb2.mono hb1.size)⟩
end Go.Proofs.Ytkeonempmchpnaa
