/- PrintSigns walked: it answers true. -/
import Derived.BigQuiet
import Derived.Deep.QuietTactic
import Derived.Test.YtkeonempmchpnaaAwake8
import Derived.Test.YtkeonempmchpnaaSignsF
import Derived.Test.YtkeonempmchpnaaFrame
namespace Go.Proofs.Ytkeonempmchpnaa
open Go.RowKit

theorem opcell_one (z : Int) : ∀ u ∈ [Value.int .i64 z, .string ⟨#[]⟩, .string ⟨#[]⟩], u.oneCell' = true := by
  intro u hu
  simp only [List.mem_cons, List.not_mem_nil, or_false] at hu
  rcases hu with rfl | rfl | rfl <;> rfl
theorem intcell_one (z : Int) : ∀ u ∈ [Value.int .i64 z], u.oneCell' = true := by
  intro u hu
  rw [List.mem_singleton.1 hu]
  rfl
theorem cells_n3 (w : World) (a b c : Value) (t : TypeId) : ∀ j u, [a, b, c][j]? = some u → (w.alloc (.cells #[a, b, c] t)).cell? ((⟨w.heap.size, 0, none⟩ : Addr).add j) = some u := by
  intro j u hj
  rw [Addr.add_lit, cell_of_row _ _ _ _ _ _ (heap_alloc_new w _), Nat.zero_add]
  simpa using hj
theorem plain_names : ∀ t : Ex, t.plain → ∀ o ∈ t.ops, o.2.1.size ≤ 1000 ∧ o.2.2.size ≤ 1000
  | .this, _, o, ho => by
    rw [List.mem_singleton.1 ho]
    exact ⟨Nat.zero_le _, Nat.zero_le _⟩
  | .bin k a b, h, o, ho => by
    rcases List.mem_append.1 ho with ho | ho
    · rcases List.mem_append.1 ho with ho | ho
      · exact plain_names a h.2.1 o ho
      · exact plain_names b h.2.2 o ho
    · rw [List.mem_singleton.1 ho]
      exact ⟨Nat.zero_le _, Nat.zero_le _⟩
theorem isSg_int (c : UInt8) : isSg c = (((c.toNat : Int) == 124) || (((c.toNat : Int) == 38) || ((c.toNat : Int) == 45))) := by
  have h : ∀ n : UInt8, (c == n) = ((c.toNat : Int) == (n.toNat : Int)) := fun n => by
    rw [Bool.eq_iff_iff, beq_iff_eq, beq_iff_eq, Int.ofNat_inj]
    exact ⟨fun e => by rw [e], fun e => UInt8.toNat_inj.1 e⟩
  unfold isSg
  rw [h, h, h]
  rfl
theorem isOp_int (c : UInt8) : isOp c = ((c.toNat : Int) == 40) := by
  unfold isOp
  rw [Bool.eq_iff_iff, beq_iff_eq, beq_iff_eq]
  exact ⟨fun e => by rw [e]; rfl, fun e => UInt8.toNat_inj.1 (Int.ofNat_inj.1 e)⟩
theorem count_step (p : UInt8 → Bool) (S : ByteArray) (j : Nat) (h : j < S.size) : (S.data.toList.take (j + 1)).countP p = (S.data.toList.take j).countP p + (if p S[j] = true then 1 else 0) := by
  have hj : S.data.toList[j]? = some S[j] := by
    rw [Array.getElem?_toList]
    exact Array.getElem?_eq_getElem h
  rw [take_snoc8 hj, List.countP_append, List.countP_singleton]
theorem len_le_leaves : ∀ st : List Ex, st.length ≤ (st.map Ex.leaves).sum
  | [] => Nat.le_refl _
  | t :: r => by
    have h1 := len_le_leaves r
    have h2 := t.leaves_pos
    show r.length + 1 ≤ t.leaves + (r.map Ex.leaves).sum
    omega
theorem info_int8 : (Try.prog.info? 3).map (fun i => (i.zero, i.size, i.bytes)) = some (some (.int .i64 0), 1, 8) := by kernel_rfl
set_option maxRecDepth 100000 in
set_option maxHeartbeats 4000000 in
theorem printSigns_walk (A0 : Option Addr) (n0 c0 : Nat) (l0 : List UInt8) (w : World) (r0 : Rd w w.heap.size 1 A0 n0 c0 (bv l0)) :
    Calls Try.prog 6 #[.slice A0 n0 c0] w fun e w' => e = .returned (.bool true) ∧ Below w.heap.size w w' := by
  have hlb := r0.lenB
  by_cases h0 : 20 < n0
  · have hd : (20 : Int) < (n0 : Nat) := by omega
    clear hlb
    go_enter Try.func6, Try.ntmps6
    go_wp2_with ((with_reducible refine (awake8_any _).mono ?_); rintro e w1 ⟨rfl, hb1⟩)
    go_ret
    exact ⟨rfl, hb1⟩
  · have hd : ¬ (20 : Int) < (n0 : Nat) := by omega
    have HLB := Lib.hid hlb
    clear hlb
    go_enter Try.func6, Try.ntmps6
    go_wp2_with ((with_reducible refine (awake8_any _).mono ?_); rintro e w1 ⟨rfl, hb1⟩)
    have hz1 := hb1.size
    go_loopw [4, 5, 6, 7, 8] (fun v4 v5 v6 v7 v8 wr => ∃ (i : Nat) (st : List Ex), v8 = .int .i64 i ∧ i ≤ n0 ∧ v6 = .int .i64 (sgsK st : Nat) ∧ v7 = .int .i64 (opnK st : Nat) ∧ wr.ownsRow w1.heap.size 56 3 v4 i (ocells (opsK st)) ∧ wr.ownsRow w1.heap.size 3 1 v5 st.length ((st.map Ex.leaves).map fun x => .int .i64 (x : Nat)) ∧ (∀ t ∈ st, t.plain) ∧ (opsK st).length = i ∧ Below w1.heap.size w1 wr) (fun _ _ _ _ v8 _ => n0 - (intOf v8).toNat)
    case atStart => exact ⟨0, [], rfl, Nat.zero_le _, rfl, rfl, World.ownsRow_nil _ _ _ _, World.ownsRow_nil _ _ _ _, (fun t ht => by cases ht), rfl, Below.refl _ _⟩
    case round =>
      obtain ⟨i0, hi0, hi1, hi2', hi3⟩ := info_parts info_op
      obtain ⟨j0, hj0, hj1, hj2, hj3⟩ := info_parts info_int8
      obtain ⟨i, st, rfl, hi, rfl, rfl, hO, hS, hpl, hln, hb⟩ := hrel
      obtain ⟨A4, c4, rfl, _⟩ := Rd.own hO
      obtain ⟨A5, c5, rfl, _⟩ := Rd.own hS
      have hz2 := hb.size
      have hsum := leaves_sum st
      have hsg := sgsK_le st
      by_cases hil : i < n0
      · have hdi : (i : Int) < (n0 : Nat) := by omega
        have hbw := hb1.trans (hb.mono hz1)
        obtain ⟨b, o, rfl, hbb, hc⟩ := (r0.below hbw).at_ (by omega)
        have hi2 : i < l0.length := by rw [← HLB.out]; exact hil
        obtain ⟨x, hx⟩ : ∃ x, l0[i]? = some x := ⟨l0[i], List.getElem?_eq_getElem hi2⟩
        have q0 := hc i (.int .u8 x.toNat) (by rw [bv_get, hx]; rfl)
        have x0 : (0 : Int) ≤ (x.toNat : Nat) := by omega
        have x1 : ((x.toNat : Nat) : Int) ≤ 255 := by have := x.toNat_lt; omega
        obtain ⟨y, hy⟩ : ∃ y, x.toNat = y := ⟨_, rfl⟩
        rw [hy] at q0 x0 x1
        clear hc hx hy hbw
        by_cases hst : 1 < st.length ∧ y % 2 = 0
        · obtain ⟨hst1, hev⟩ := hst
          obtain ⟨s, a, b, rfl⟩ : ∃ s a b, st = s ++ [a, b] := by
            rcases List.eq_nil_or_concat st with rfl | ⟨l1, b, rfl⟩
            · exact absurd hst1 (by decide)
            · rcases List.eq_nil_or_concat l1 with rfl | ⟨l, a, rfl⟩
              · exact absurd hst1 (by simp)
              · exact ⟨l, a, b, by simp⟩
          obtain ⟨m, hm⟩ : ∃ m, s.length = m := ⟨_, rfl⟩
          have hlen : (s ++ [a, b]).length = m + 1 + 1 := by rw [List.length_append, hm]; rfl
          have hsl : (s.map Ex.leaves).sum + (a.leaves + b.leaves) ≤ i := by
            rw [List.map_append, List.sum_append, hln] at hsum
            exact hsum
          have hms := len_le_leaves s
          rw [hm] at hms
          have HP : Hid ((∀ t ∈ s ++ [.bin (4 + y / 2 % 3) a b], Ex.plain t) ∧ (opsK (s ++ [.bin (4 + y / 2 % 3) a b])).length = i + 1 ∧ sgsK (s ++ [.bin (4 + y / 2 % 3) a b]) = sgsK (s ++ [a, b]) + 1 ∧ (∀ c : Bool, decide (1 < b.leaves) = c → opnK (s ++ [.bin (4 + y / 2 % 3) a b]) = opnK (s ++ [a, b]) + (if c = true then 1 else 0)) ∧ s.length = m) := Lib.hid ⟨(by
            intro t ht
            rcases List.mem_append.1 ht with h | h
            · exact hpl t (List.mem_append_left _ h)
            · rw [List.mem_singleton.1 h]
              exact ⟨by omega, hpl a (by simp), hpl b (by simp)⟩), by rw [opsK_bin, List.length_append, hln]; rfl, by rw [sgsK_app, sgsK_app]; show _ + (a.sgnN + b.sgnN + 1 + 0) = _ + (a.sgnN + (b.sgnN + 0)) + 1; omega, (by
            intro c hc
            rw [opnK_app, opnK_app]
            show _ + (a.opnN + b.opnN + (if 1 < b.leaves then 1 else 0) + 0) = _ + (a.opnN + (b.opnN + 0)) + _
            cases c with
            | true => rw [if_pos (of_decide_eq_true hc), if_pos rfl]; omega
            | false => rw [if_neg (of_decide_eq_false hc), if_neg (by decide)]; omega), hm⟩
          have e0 : (((s ++ [a, b]).map Ex.leaves).map fun x => Value.int .i64 (x : Nat))[m]? = some (.int .i64 (a.leaves : Nat)) := by
            rw [List.getElem?_map, List.getElem?_map, List.getElem?_append_right (by omega), hm, Nat.sub_self]; rfl
          have e1 : (((s ++ [a, b]).map Ex.leaves).map fun x => Value.int .i64 (x : Nat))[m + 1]? = some (.int .i64 (b.leaves : Nat)) := by
            rw [List.getElem?_map, List.getElem?_map, List.getElem?_append_right (by omega), hm, show m + 1 - m = 1 by omega]; rfl
          rw [hlen] at hS ⊢
          obtain ⟨g5, rfl, hg5, lg5, hcap⟩ := own_sz hS (by omega)
          have d1 : (1 : Int) < (m : Nat) + 1 + 1 := by omega
          have d2 : ((((y : Nat) : Int) % 2) == 0) = true := by rw [beq_iff_eq]; omega
          have d3 : ((m : Nat) : Int) + 1 < (m : Nat) + 1 + 1 := by omega
          have d4 : ((m : Nat) : Int) < (m : Nat) + 1 + 1 := by omega
          have d5 : ((m : Nat) : Int) ≤ (c5 : Nat) := by omega
          have bl1 := b.leaves_pos
          have bl2 : b.leaves ≤ 20 := by omega
          have al2 : a.leaves ≤ 20 := by omega
          have hm20 : m ≤ 20 := by omega
          have so2 := hsg.1
          have so3 := hsg.2
          rw [hln] at so2 so3
          generalize hsgs : sgsK (s ++ [a, b]) = SG at *
          generalize hopn : opnK (s ++ [a, b]) = OP at *
          clear hpl hsum hlen hst1 hev hsg hsgs hopn hm hms
          by_cases h1 : 1 < b.leaves
          · have d6 : (1 : Int) < (b.leaves : Nat) := by omega
            have HD := Lib.hid (decide_eq_true h1)
            go_wp2_with (first
              | (at_builtin; refine wpList_append_src _ rfl (.tmp 36) (.tmp 46) 40 40 rfl w1.heap.size 56 i0 (.agg #[.int .i64 0, .string .empty, .string .empty]) 3 40 Try.underlying40 hi0 hi1 hi2' hi3 rfl (by decide) _ i (ocells (opsK (s ++ [a, b]))) rfl (World.ownsRow.alloc hO _) _ 1 [.int .i64 (4 + (y : Int) / 2 % 3), .string ⟨#[]⟩, .string ⟨#[]⟩] rfl (Src.ofSlice _ Try.underlying40 _ 1 1 _ rfl (cells_n3 _ _ _ _ _) (opcell_one _)) (by simp only [maxLen]; omega) (by omega) (size_alloc hz2) ?_; intro v7 W7 hown7 hg7 hat7; obtain ⟨A7, c7, rfl, _⟩ := Rd.own hown7; have hS7 := own_grown (World.ownsRow.alloc hS (.cells #[.int .i64 (4 + (y : Int) / 2 % 3), .string ⟨#[]⟩, .string ⟨#[]⟩] 56)) (World.ownsRow.alloc hO _) (by decide) hg7; have hb7 := below_of_own (v := .slice A4 i c4) (hb.alloc hz2 (.cells #[.int .i64 (4 + (y : Int) / 2 % 3), .string ⟨#[]⟩, .string ⟨#[]⟩] 56)) hg7 (World.ownsRow.alloc hO _) (size_alloc hz2) (Nat.le_refl _); have hz7 := hb7.size; have y1 : W7.cell? ⟨g5, m + 1, none⟩ = some (.int .i64 (b.leaves : Nat)) := (hS7.cellAt (m + 1) (show m + 1 < (m + 1 + 1) * 1 by omega)).trans e1; have y0 : W7.cell? ⟨g5, m, none⟩ = some (.int .i64 (a.leaves : Nat)) := (hS7.cellAt m (show m < (m + 1 + 1) * 1 by omega)).trans e0; have hS7s := own_short hS7 (show m ≤ m + 1 + 1 by omega))
              | (at_builtin; refine wpList_append_src _ rfl (.tmp 71) (.tmp 75) 54 54 rfl w1.heap.size 3 j0 (.int .i64 0) 1 8 Try.underlying54 hj0 hj1 hj2 hj3 rfl (by decide) _ m ((((s ++ [a, b]).map Ex.leaves).map fun x => Value.int .i64 (x : Nat)).take (m * 1)) rfl (World.ownsRow.alloc hS7s _) _ 1 [.int .i64 ((a.leaves : Nat) + (b.leaves : Nat))] rfl (Src.ofSlice _ Try.underlying54 _ 1 1 _ rfl (cells_new1 _ _ _) (intcell_one _)) (by simp only [maxLen]; omega) (by omega) (size_alloc hz7) ?_; intro v8 W8 hown8 hg8 hat8; obtain ⟨A8, c8, rfl, _⟩ := Rd.own hown8; have hO8 := own_grown (World.ownsRow.alloc hown7 (.cells #[.int .i64 ((a.leaves : Nat) + (b.leaves : Nat))] 3)) (World.ownsRow.alloc hS7s _) (by decide) hg8; have hb8 := below_of_own (v := .slice (some ⟨g5, 0, none⟩) m c5) (hb7.alloc hz7 (.cells #[.int .i64 ((a.leaves : Nat) + (b.leaves : Nat))] 3)) hg8 (World.ownsRow.alloc hS7s _) (size_alloc hz7) (Nat.le_refl _)))
            refine ⟨⟨i + 1, s ++ [.bin (4 + y / 2 % 3) a b], by go_num, by omega, by rw [HP.out.2.2.1]; go_num, by rw [HP.out.2.2.2.1 true HD.out]; go_num, ?_, ?_, HP.out.1, HP.out.2.1, hb8⟩, ?_⟩
            · rw [opsK_bin, ocells_app]
              have : ocells [opK (4 + y / 2 % 3)] = [.int .i64 (4 + (y : Int) / 2 % 3), .string ⟨#[]⟩, .string ⟨#[]⟩] := by
                show [Value.int .i64 ((4 + y / 2 % 3 : Nat) : Int), .string ⟨#[]⟩, .string ⟨#[]⟩] = _
                rw [show ((4 + y / 2 % 3 : Nat) : Int) = 4 + (y : Int) / 2 % 3 by omega]
              rw [this]
              exact hO8
            · have e2 : ((s ++ [Ex.bin (4 + y / 2 % 3) a b]).map Ex.leaves).map (fun x => Value.int .i64 (x : Nat)) = (((s ++ [a, b]).map Ex.leaves).map fun x => Value.int .i64 (x : Nat)).take (m * 1) ++ [.int .i64 ((a.leaves : Nat) + (b.leaves : Nat))] := by
                rw [Nat.mul_one, ← HP.out.2.2.2.2, List.map_append, List.map_append, List.map_append, List.map_append]
                have : s.length = ((s.map Ex.leaves).map fun x => Value.int .i64 (x : Nat)).length := by simp
                rw [this, List.take_left]
                show _ ++ [Value.int .i64 ((a.leaves + b.leaves : Nat) : Int)] = _
                rw [Int.natCast_add]
              rw [e2, List.length_append, HP.out.2.2.2.2]
              exact hown8
            · simp only [intOf]; omega
          · have d6 : ¬ (1 : Int) < (b.leaves : Nat) := by omega
            have HD := Lib.hid (decide_eq_false h1)
            go_wp2_with (first
              | (at_builtin; refine wpList_append_src _ rfl (.tmp 36) (.tmp 46) 40 40 rfl w1.heap.size 56 i0 (.agg #[.int .i64 0, .string .empty, .string .empty]) 3 40 Try.underlying40 hi0 hi1 hi2' hi3 rfl (by decide) _ i (ocells (opsK (s ++ [a, b]))) rfl (World.ownsRow.alloc hO _) _ 1 [.int .i64 (4 + (y : Int) / 2 % 3), .string ⟨#[]⟩, .string ⟨#[]⟩] rfl (Src.ofSlice _ Try.underlying40 _ 1 1 _ rfl (cells_n3 _ _ _ _ _) (opcell_one _)) (by simp only [maxLen]; omega) (by omega) (size_alloc hz2) ?_; intro v7 W7 hown7 hg7 hat7; obtain ⟨A7, c7, rfl, _⟩ := Rd.own hown7; have hS7 := own_grown (World.ownsRow.alloc hS (.cells #[.int .i64 (4 + (y : Int) / 2 % 3), .string ⟨#[]⟩, .string ⟨#[]⟩] 56)) (World.ownsRow.alloc hO _) (by decide) hg7; have hb7 := below_of_own (v := .slice A4 i c4) (hb.alloc hz2 (.cells #[.int .i64 (4 + (y : Int) / 2 % 3), .string ⟨#[]⟩, .string ⟨#[]⟩] 56)) hg7 (World.ownsRow.alloc hO _) (size_alloc hz2) (Nat.le_refl _); have hz7 := hb7.size; have y1 : W7.cell? ⟨g5, m + 1, none⟩ = some (.int .i64 (b.leaves : Nat)) := (hS7.cellAt (m + 1) (show m + 1 < (m + 1 + 1) * 1 by omega)).trans e1; have y0 : W7.cell? ⟨g5, m, none⟩ = some (.int .i64 (a.leaves : Nat)) := (hS7.cellAt m (show m < (m + 1 + 1) * 1 by omega)).trans e0; have hS7s := own_short hS7 (show m ≤ m + 1 + 1 by omega))
              | (at_builtin; refine wpList_append_src _ rfl (.tmp 71) (.tmp 75) 54 54 rfl w1.heap.size 3 j0 (.int .i64 0) 1 8 Try.underlying54 hj0 hj1 hj2 hj3 rfl (by decide) _ m ((((s ++ [a, b]).map Ex.leaves).map fun x => Value.int .i64 (x : Nat)).take (m * 1)) rfl (World.ownsRow.alloc hS7s _) _ 1 [.int .i64 ((a.leaves : Nat) + (b.leaves : Nat))] rfl (Src.ofSlice _ Try.underlying54 _ 1 1 _ rfl (cells_new1 _ _ _) (intcell_one _)) (by simp only [maxLen]; omega) (by omega) (size_alloc hz7) ?_; intro v8 W8 hown8 hg8 hat8; obtain ⟨A8, c8, rfl, _⟩ := Rd.own hown8; have hO8 := own_grown (World.ownsRow.alloc hown7 (.cells #[.int .i64 ((a.leaves : Nat) + (b.leaves : Nat))] 3)) (World.ownsRow.alloc hS7s _) (by decide) hg8; have hb8 := below_of_own (v := .slice (some ⟨g5, 0, none⟩) m c5) (hb7.alloc hz7 (.cells #[.int .i64 ((a.leaves : Nat) + (b.leaves : Nat))] 3)) hg8 (World.ownsRow.alloc hS7s _) (size_alloc hz7) (Nat.le_refl _)))
            refine ⟨⟨i + 1, s ++ [.bin (4 + y / 2 % 3) a b], by go_num, by omega, by rw [HP.out.2.2.1]; go_num, by rw [HP.out.2.2.2.1 false HD.out]; go_num, ?_, ?_, HP.out.1, HP.out.2.1, hb8⟩, ?_⟩
            · rw [opsK_bin, ocells_app]
              have : ocells [opK (4 + y / 2 % 3)] = [.int .i64 (4 + (y : Int) / 2 % 3), .string ⟨#[]⟩, .string ⟨#[]⟩] := by
                show [Value.int .i64 ((4 + y / 2 % 3 : Nat) : Int), .string ⟨#[]⟩, .string ⟨#[]⟩] = _
                rw [show ((4 + y / 2 % 3 : Nat) : Int) = 4 + (y : Int) / 2 % 3 by omega]
              rw [this]
              exact hO8
            · have e2 : ((s ++ [Ex.bin (4 + y / 2 % 3) a b]).map Ex.leaves).map (fun x => Value.int .i64 (x : Nat)) = (((s ++ [a, b]).map Ex.leaves).map fun x => Value.int .i64 (x : Nat)).take (m * 1) ++ [.int .i64 ((a.leaves : Nat) + (b.leaves : Nat))] := by
                rw [Nat.mul_one, ← HP.out.2.2.2.2, List.map_append, List.map_append, List.map_append, List.map_append]
                have : s.length = ((s.map Ex.leaves).map fun x => Value.int .i64 (x : Nat)).length := by simp
                rw [this, List.take_left]
                show _ ++ [Value.int .i64 ((a.leaves + b.leaves : Nat) : Int)] = _
                rw [Int.natCast_add]
              rw [e2, List.length_append, HP.out.2.2.2.2]
              exact hown8
            · simp only [intOf]; omega
        · have hlen : st.length ≤ i := by
            have : st.length ≤ (st.map Ex.leaves).sum := len_le_leaves st
            omega
          have HP : Hid ((∀ t ∈ st ++ [.this], Ex.plain t) ∧ (opsK (st ++ [.this])).length = i + 1 ∧ sgsK (st ++ [.this]) = sgsK st ∧ opnK (st ++ [.this]) = opnK st) := Lib.hid ⟨(by
            intro t ht
            rcases List.mem_append.1 ht with h | h
            · exact hpl t h
            · rw [List.mem_singleton.1 h]; trivial), by rw [opsK_app, List.length_append, hln]; rfl, by rw [sgsK_app]; rfl, by rw [opnK_app]; rfl⟩
          clear hpl hsum
          have hstn : st.length ≤ 1000 := by omega
          obtain ⟨nst, hnst⟩ : ∃ n, st.length = n := ⟨_, rfl⟩
          rw [hnst] at hS hstn hst hlen ⊢
          have HN := Lib.hid hnst
          clear hnst
          have hdd : (decide ((1 : Int) < (nst : Nat)) = false) ∨ (decide ((1 : Int) < (nst : Nat)) = true ∧ ((((y : Nat) : Int) % 2) == 0) = false) := by
            by_cases h1 : (1 : Int) < (nst : Nat)
            · refine .inr ⟨decide_eq_true h1, ?_⟩
              rw [beq_eq_false_iff_ne]
              omega
            · exact .inl (decide_eq_false h1)
          rcases hdd with d1 | ⟨d1, d2⟩
          · have d1' : ¬ (1 : Int) < (nst : Nat) := of_decide_eq_false d1
            clear d1 hst
            go_wp2_with (first
              | (at_builtin; refine wpList_append_src _ rfl (.tmp 77) (.tmp 79) 40 40 rfl w1.heap.size 56 i0 (.agg #[.int .i64 0, .string .empty, .string .empty]) 3 40 Try.underlying40 hi0 hi1 hi2' hi3 rfl (by decide) _ i (ocells (opsK st)) rfl (World.ownsRow.alloc hO _) _ 1 [.int .i64 1, .string ⟨#[]⟩, .string ⟨#[]⟩] rfl (Src.ofSlice _ Try.underlying40 _ 1 1 _ rfl (cells_n3 _ _ _ _ _) (opcell_one _)) (by simp only [maxLen]; omega) (by omega) (size_alloc hz2) ?_; intro v7 W7 hown7 hg7 hat7; obtain ⟨A7, c7, rfl, _⟩ := Rd.own hown7; have hS7 := own_grown (World.ownsRow.alloc hS (.cells #[.int .i64 1, .string ⟨#[]⟩, .string ⟨#[]⟩] 56)) (World.ownsRow.alloc hO _) (by decide) hg7; have hb7 := below_of_own (v := .slice A4 i c4) (hb.alloc hz2 (.cells #[.int .i64 1, .string ⟨#[]⟩, .string ⟨#[]⟩] 56)) hg7 (World.ownsRow.alloc hO _) (size_alloc hz2) (Nat.le_refl _); have hz7 := hb7.size)
              | (at_builtin; refine wpList_append_src _ rfl (.tmp 81) (.tmp 82) 54 54 rfl w1.heap.size 3 j0 (.int .i64 0) 1 8 Try.underlying54 hj0 hj1 hj2 hj3 rfl (by decide) _ nst ((st.map Ex.leaves).map fun x => .int .i64 (x : Nat)) rfl (World.ownsRow.alloc hS7 _) _ 1 [.int .i64 1] rfl (Src.ofSlice _ Try.underlying54 _ 1 1 _ rfl (cells_new1 _ _ _) (intcell_one _)) (by simp only [maxLen]; omega) (by omega) (size_alloc hz7) ?_; intro v8 W8 hown8 hg8 hat8; obtain ⟨A8, c8, rfl, _⟩ := Rd.own hown8; have hO8 := own_grown (World.ownsRow.alloc hown7 (.cells #[.int .i64 1] 3)) (World.ownsRow.alloc hS7 _) (by decide) hg8; have hb8 := below_of_own (v := .slice A5 nst c5) (hb7.alloc hz7 (.cells #[.int .i64 1] 3)) hg8 (World.ownsRow.alloc hS7 _) (size_alloc hz7) (Nat.le_refl _)))
            refine ⟨⟨i + 1, st ++ [.this], by go_num, by omega, by rw [HP.out.2.2.1], by rw [HP.out.2.2.2], ?_, ?_, HP.out.1, HP.out.2.1, hb8⟩, ?_⟩
            · rw [opsK_app, ocells_app]
              exact hO8
            · rw [List.length_append, HN.out, List.map_append, List.map_append]
              exact hown8
            · simp only [intOf]; omega
          · have d1' : (1 : Int) < (nst : Nat) := of_decide_eq_true d1
            clear d1 hst
            go_wp2_with (first
              | (at_builtin; refine wpList_append_src _ rfl (.tmp 77) (.tmp 79) 40 40 rfl w1.heap.size 56 i0 (.agg #[.int .i64 0, .string .empty, .string .empty]) 3 40 Try.underlying40 hi0 hi1 hi2' hi3 rfl (by decide) _ i (ocells (opsK st)) rfl (World.ownsRow.alloc hO _) _ 1 [.int .i64 1, .string ⟨#[]⟩, .string ⟨#[]⟩] rfl (Src.ofSlice _ Try.underlying40 _ 1 1 _ rfl (cells_n3 _ _ _ _ _) (opcell_one _)) (by simp only [maxLen]; omega) (by omega) (size_alloc hz2) ?_; intro v7 W7 hown7 hg7 hat7; obtain ⟨A7, c7, rfl, _⟩ := Rd.own hown7; have hS7 := own_grown (World.ownsRow.alloc hS (.cells #[.int .i64 1, .string ⟨#[]⟩, .string ⟨#[]⟩] 56)) (World.ownsRow.alloc hO _) (by decide) hg7; have hb7 := below_of_own (v := .slice A4 i c4) (hb.alloc hz2 (.cells #[.int .i64 1, .string ⟨#[]⟩, .string ⟨#[]⟩] 56)) hg7 (World.ownsRow.alloc hO _) (size_alloc hz2) (Nat.le_refl _); have hz7 := hb7.size)
              | (at_builtin; refine wpList_append_src _ rfl (.tmp 81) (.tmp 82) 54 54 rfl w1.heap.size 3 j0 (.int .i64 0) 1 8 Try.underlying54 hj0 hj1 hj2 hj3 rfl (by decide) _ nst ((st.map Ex.leaves).map fun x => .int .i64 (x : Nat)) rfl (World.ownsRow.alloc hS7 _) _ 1 [.int .i64 1] rfl (Src.ofSlice _ Try.underlying54 _ 1 1 _ rfl (cells_new1 _ _ _) (intcell_one _)) (by simp only [maxLen]; omega) (by omega) (size_alloc hz7) ?_; intro v8 W8 hown8 hg8 hat8; obtain ⟨A8, c8, rfl, _⟩ := Rd.own hown8; have hO8 := own_grown (World.ownsRow.alloc hown7 (.cells #[.int .i64 1] 3)) (World.ownsRow.alloc hS7 _) (by decide) hg8; have hb8 := below_of_own (v := .slice A5 nst c5) (hb7.alloc hz7 (.cells #[.int .i64 1] 3)) hg8 (World.ownsRow.alloc hS7 _) (size_alloc hz7) (Nat.le_refl _)))
            refine ⟨⟨i + 1, st ++ [.this], by go_num, by omega, by rw [HP.out.2.2.1], by rw [HP.out.2.2.2], ?_, ?_, HP.out.1, HP.out.2.1, hb8⟩, ?_⟩
            · rw [opsK_app, ocells_app]
              exact hO8
            · rw [List.length_append, HN.out, List.map_append, List.map_append]
              exact hown8
            · simp only [intOf]; omega
      · obtain rfl : i = n0 := by omega
        have hdi : ¬ ((i : Nat) : Int) < (i : Nat) := by omega
        have hbw := hb1.trans (hb.mono hz1)
        by_cases hst : st.length = 1
        · obtain ⟨t, rfl⟩ : ∃ t, st = [t] := List.length_eq_one_iff.1 hst
          have hpt := hpl t (by simp)
          have hops : opsK [t] = t.ops := by simp [opsK]
          have hrw : rewS (opsK [t]) = t.text := by rw [hops]; exact rewS_tree t (Ex.plain_good t hpt)
          obtain ⟨hc1, hc2⟩ := text_signs t hpt
          have hnm := plain_names t hpt
          rw [← hops] at hnm
          have hsk : sgsK [t] = t.sgnN ∧ opnK [t] = t.opnN := ⟨by simp [sgsK], by simp [opnK]⟩
          rw [hsk.1, hsk.2]
          obtain ⟨_, _, e1, hrd⟩ := Rd.own hO
          cases e1
          have kr := rewrite_any (w := wr) (A := A4) (c := c4) (l := opsK [t]) (by rw [hln]; exact hrd) (by omega) hnm
          rw [hln, hrw] at kr
          have hN1 := t.leaves_le
          have hg1 := sgs_le t
          rw [← hops, hln] at hg1
          have hi20 : i ≤ 20 := by omega
          have htz : t.text.size ≤ 1000000 := by
            have := rew_size hnm
            rw [hrw, hln] at this
            omega
          generalize t.text = S at *
          generalize t.sgnN = G1 at *
          generalize t.opnN = G2 at *
          have HC := Lib.hid (And.intro hc1 hc2)
          clear hpl hsum hsg hst hpt hops hrw hnm hsk hO hS hrd hln hN1 hc1 hc2 r0
          go_wp2_with fail
          refine kr.mono ?_
          rintro e W2 ⟨rfl, hb2⟩
          go_wp2_with fail
          go_loopw [6, 7, 12] (fun v6 v7 v12 wx => ∃ j : Nat, v12 = .int .i64 j ∧ j ≤ S.size ∧ v6 = .int .i64 ((G1 : Int) - ((S.data.toList.take j).countP isSg : Nat)) ∧ v7 = .int .i64 ((G2 : Int) - ((S.data.toList.take j).countP isOp : Nat)) ∧ wx = W2) (fun _ _ v12 _ => S.size - (intOf v12).toNat)
          case atStart => exact ⟨0, rfl, Nat.zero_le _, by simp, by simp, rfl⟩
          case round =>
            obtain ⟨j, rfl, hj, rfl, rfl, rfl⟩ := hrel
            by_cases hjl : j < S.size
            · have hdj : (j : Int) < (S.size : Nat) := by omega
              have n1l : (S.data.toList.take j).countP isSg ≤ 1000000 := Nat.le_trans List.countP_le_length (by rw [List.length_take]; omega)
              have n2l : (S.data.toList.take j).countP isOp ≤ 1000000 := Nat.le_trans List.countP_le_length (by rw [List.length_take]; omega)
              have HS1 : Hid (∀ b, (((S[j].toNat : Int) == 124) || (((S[j].toNat : Int) == 38) || ((S[j].toNat : Int) == 45))) = b → (S.data.toList.take (j + 1)).countP isSg = (S.data.toList.take j).countP isSg + (if b = true then 1 else 0)) := Lib.hid fun b hb => by rw [count_step _ _ _ hjl, isSg_int, hb]
              have HS2 : Hid (∀ b, ((S[j].toNat : Int) == 40) = b → (S.data.toList.take (j + 1)).countP isOp = (S.data.toList.take j).countP isOp + (if b = true then 1 else 0)) := Lib.hid fun b hb => by rw [count_step _ _ _ hjl, isOp_int, hb]
              generalize (S.data.toList.take j).countP isSg = n1 at *
              generalize (S.data.toList.take j).countP isOp = n2 at *
              have hcs : (((S[j].toNat : Int) == 124) = true ∧ ((S[j].toNat : Int) == 40) = false) ∨ (((S[j].toNat : Int) == 124) = false ∧ ((S[j].toNat : Int) == 38) = true ∧ ((S[j].toNat : Int) == 40) = false) ∨ (((S[j].toNat : Int) == 124) = false ∧ ((S[j].toNat : Int) == 38) = false ∧ ((S[j].toNat : Int) == 45) = true ∧ ((S[j].toNat : Int) == 40) = false) ∨ (((S[j].toNat : Int) == 124) = false ∧ ((S[j].toNat : Int) == 38) = false ∧ ((S[j].toNat : Int) == 45) = false ∧ ((S[j].toNat : Int) == 40) = true) ∨ (((S[j].toNat : Int) == 124) = false ∧ ((S[j].toNat : Int) == 38) = false ∧ ((S[j].toNat : Int) == 45) = false ∧ ((S[j].toNat : Int) == 40) = false) := by
                simp only [beq_iff_eq, beq_eq_false_iff_ne]
                omega
              rcases hcs with ⟨d1, d4⟩ | ⟨d1, d2, d4⟩ | ⟨d1, d2, d3, d4⟩ | ⟨d1, d2, d3, d4⟩ | ⟨d1, d2, d3, d4⟩
              · go_wp2_with fail
                refine ⟨⟨j + 1, by go_num, by omega, ?_, ?_, trivial⟩, ?_⟩
                · rw [HS1.out true (by simp only [d1]; rfl), if_pos rfl]
                  go_num
                · rw [HS2.out false d4, if_neg (by decide)]
                  go_num
                · simp only [intOf]; omega
              · go_wp2_with fail
                refine ⟨⟨j + 1, by go_num, by omega, ?_, ?_, trivial⟩, ?_⟩
                · rw [HS1.out true (by simp only [d1, d2]; rfl), if_pos rfl]
                  go_num
                · rw [HS2.out false d4, if_neg (by decide)]
                  go_num
                · simp only [intOf]; omega
              · go_wp2_with fail
                refine ⟨⟨j + 1, by go_num, by omega, ?_, ?_, trivial⟩, ?_⟩
                · rw [HS1.out true (by simp only [d1, d2, d3]; rfl), if_pos rfl]
                  go_num
                · rw [HS2.out false d4, if_neg (by decide)]
                  go_num
                · simp only [intOf]; omega
              · go_wp2_with fail
                refine ⟨⟨j + 1, by go_num, by omega, ?_, ?_, trivial⟩, ?_⟩
                · rw [HS1.out false (by simp only [d1, d2, d3]; rfl), if_neg (by decide)]
                  go_num
                · rw [HS2.out true d4, if_pos rfl]
                  go_num
                · simp only [intOf]; omega
              · go_wp2_with fail
                refine ⟨⟨j + 1, by go_num, by omega, ?_, ?_, trivial⟩, ?_⟩
                · rw [HS1.out false (by simp only [d1, d2, d3]; rfl), if_neg (by decide)]
                  go_num
                · rw [HS2.out false d4, if_neg (by decide)]
                  go_num
                · simp only [intOf]; omega
            · obtain rfl : j = S.size := by omega
              have hdj : ¬ ((S.size : Nat) : Int) < (S.size : Nat) := by omega
              have ht : S.data.toList.take S.size = S.data.toList := List.take_of_length_le (Nat.le_refl _)
              rw [ht, show S.data.toList.countP isSg = G1 from HC.out.1, show S.data.toList.countP isOp = G2 from HC.out.2, Int.sub_self, Int.sub_self]
              clear ht
              go_wp2_with fail
              go_ret
              exact ⟨rfl, hbw.trans (hb2.mono hbw.size)⟩
        · have hdn : ((((st.length : Nat) : Int)) == 1) = false := by rw [beq_eq_false_iff_ne]; omega
          go_wp2_with fail
          go_ret
          exact ⟨rfl, hbw⟩
end Go.Proofs.Ytkeonempmchpnaa
