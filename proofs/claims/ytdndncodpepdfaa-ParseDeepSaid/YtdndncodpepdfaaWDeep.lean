/- ParseDeep walked: it answers true. -/
import Derived.BigQuiet
import Derived.Deep.QuietTactic
import Derived.Test.YtdndncodpepdfaaAwake7
import Derived.Test.YtdndncodpepdfaaDeepF
import Derived.Test.YtdndncodpepdfaaFrame
namespace Go.Proofs.Ytdndncodpepdfaa
open Go.RowKit

theorem dHead_lit : dHead = ⟨#[116, 121, 112, 101, 32, 116, 32, 123, 32, 114, 101, 108, 32, 114, 32, 40, 114, 44, 32, 114, 44, 32, 114, 41, 58, 32, 116, 32, 105, 115, 32]⟩ := rfl
theorem deepOps_len (k : Nat) : (deepOps true k).length = 2 * k + 1 := by
  unfold deepOps
  rw [if_pos rfl, List.length_append, List.length_replicate, List.length_replicate]
  omega
theorem deepOps_at (k j : Nat) (h : j < 2 * k + 1) : (deepOps true k)[j]? = some (if j ≤ k then (2, ⟨#[97]⟩, ⟨#[]⟩) else (4, ⟨#[]⟩, ⟨#[]⟩)) := by
  unfold deepOps
  rw [if_pos rfl]
  by_cases hj : j ≤ k
  · rw [if_pos hj, List.getElem?_append_left (by rw [List.length_replicate]; omega), List.getElem?_replicate, if_pos (by omega)]
  · rw [if_neg hj, List.getElem?_append_right (by rw [List.length_replicate]; omega), List.length_replicate, List.getElem?_replicate, if_pos (by omega)]
theorem repS_step (x : ByteArray) (k : Nat) : repS x (k + 1) = repS x k ++ x := rfl
set_option maxRecDepth 100000 in
set_option maxHeartbeats 4000000 in
theorem parseDeep_core (n : Nat) (right : Bool) (w : World) (hn : n ≤ 255) :
    Calls Try.prog 5 #[.int .u8 n, .bool right] w fun e w' => e = .returned (.bool true) ∧ Below w.heap.size w w' := by
  have hmod : ((n : Int)).tmod 14 = ((n % 14 : Nat) : Int) := rfl
  have hk : n % 14 < 14 := Nat.mod_lt _ (by decide)
  generalize n % 14 = k at *
  go_enter Try.func5, Try.ntmps5
  go_wp2_with ((with_reducible refine (awake7_any _).mono ?_); rintro e w1 ⟨rfl, hb1⟩)
  go_loopw [8, 9, 10] (fun va vb vi wr => ∃ i : Nat, va = .string (repS (dOpen right) i) ∧ vb = .string (repS ⟨#[41]⟩ i) ∧ vi = .int .i64 i ∧ i ≤ k ∧ wr = w1) (fun _ _ vi _ => k - (intOf vi).toNat)
  case atStart => exact ⟨0, rfl, rfl, rfl, Nat.zero_le _, rfl⟩
  case round =>
    obtain ⟨i, rfl, rfl, rfl, hi, rfl⟩ := hrel
    by_cases h : i < k
    · have hd : (i : Int) < (k : Int) := by omega
      have e2 := repS_step ⟨#[41]⟩ i
      have q2 : (repS ⟨#[41]⟩ i).size ≤ 100 := by rw [repS_size]; show i * 1 ≤ 100; omega
      cases right with
      | true =>
        have e1 := repS_step (dOpen true) i
        have q1 : (repS (dOpen true) i).size ≤ 100 := by rw [repS_size]; show i * 3 ≤ 100; omega
        rw [show dOpen true = ⟨#[40, 97, 124]⟩ from rfl] at *
        generalize repS ⟨#[41]⟩ i = y at *
        generalize repS ⟨#[40, 97, 124]⟩ i = z at *
        have b1 : ¬ 9223372036854775807 < z.size + 3 := by omega
        have b2 : ¬ 9223372036854775807 < y.size + 1 := by omega
        go_wp2
        refine ⟨⟨i + 1, by rw [e1], by rw [e2], by go_num, by omega, by first | rfl | trivial⟩, ?_⟩
        simp [intOf]; omega
      | false =>
        have e1 := repS_step (dOpen false) i
        have q1 : (repS (dOpen false) i).size ≤ 100 := by rw [repS_size]; show i * 1 ≤ 100; omega
        rw [show dOpen false = ⟨#[40]⟩ from rfl] at *
        generalize repS ⟨#[41]⟩ i = y at *
        generalize repS ⟨#[40]⟩ i = z at *
        have b1 : ¬ 9223372036854775807 < z.size + 1 := by omega
        have b2 : ¬ 9223372036854775807 < y.size + 1 := by omega
        go_wp2
        refine ⟨⟨i + 1, by rw [e1], by rw [e2], by go_num, by omega, by first | rfl | trivial⟩, ?_⟩
        simp [intOf]; omega
    · have hd : ¬ ((i : Int) < (k : Int)) := by omega
      obtain rfl : i = k := by omega
      have hp := parse_deep right hk
      have hz : (deepS right i).size ≤ 1000000 := by
        cases right with
        | true => have := (deep_size i hk).1; omega
        | false => have := (deep_size i hk).2; omega
      have hS : deepS right i = dHead ++ repS (dOpen right) i ++ ⟨#[97]⟩ ++ repS ⟨#[41]⟩ i ++ ⟨#[59, 32, 125]⟩ := rfl
      unfold deepR at hp
      have q1 : (repS (dOpen right) i).size ≤ 100 := by
        rw [repS_size]
        cases right with
        | true => show i * 3 ≤ 100; omega
        | false => show i * 1 ≤ 100; omega
      have q2 : (repS ⟨#[41]⟩ i).size ≤ 100 := by rw [repS_size]; show i * 1 ≤ 100; omega
      by_cases h8 : 8 < i
      · rw [if_pos h8] at hp
        have kp := fun W => parse_named _ hz hp W
        rw [hS, dHead_lit] at kp
        clear hp hz hS hmod
        generalize repS ⟨#[41]⟩ i = y at *
        generalize repS (dOpen right) i = z at *
        have b1 : ¬ 9223372036854775807 < 31 + z.size := by omega
        have b2 : ¬ 9223372036854775807 < 31 + z.size + 1 := by omega
        have b3 : ¬ 9223372036854775807 < 31 + z.size + 1 + y.size := by omega
        have b4 : ¬ 9223372036854775807 < 31 + z.size + 1 + y.size + 3 := by omega
        have hd8 : (8 : Int) < (i : Int) := by omega
        cases right
        all_goals (
          go_wp2_with ((with_reducible refine (kp _).mono ?_); rintro e w2 ⟨⟨A, c, rfl, hv⟩, hb2⟩)
          go_ret
          exact ⟨rfl, (hb1.trans (hb2.mono hb1.size)).alloc (Nat.le_trans hb1.size hb2.size) _⟩)
      · rw [if_neg h8] at hp
        have kp := fun W => parse_named _ hz hp W
        rw [hS, dHead_lit] at kp
        clear hp hz hS hmod
        generalize repS ⟨#[41]⟩ i = y at *
        generalize repS (dOpen right) i = z at *
        have b1 : ¬ 9223372036854775807 < 31 + z.size := by omega
        have b2 : ¬ 9223372036854775807 < 31 + z.size + 1 := by omega
        have b3 : ¬ 9223372036854775807 < 31 + z.size + 1 + y.size := by omega
        have b4 : ¬ 9223372036854775807 < 31 + z.size + 1 + y.size + 3 := by omega
        have hd8 : ¬ ((8 : Int) < (i : Int)) := by omega
        cases right with
        | false =>
          have hlo : (deepOps false i).length = 1 := rfl
          go_wp2_with ((with_reducible refine (kp _).mono ?_); rintro e w2 ⟨⟨A, c, rfl, hv⟩, hb2⟩; obtain ⟨g, c3, vr, e1, hr, _, g1⟩ := hv.get (i := 0) rfl; cases e1; obtain ⟨gr, cr, vs, vo, rfl, _, ho, _, _, _, _, _, r5⟩ := hr.get (i := 0) rfl; obtain ⟨go, co, e2, o0, o1, o2⟩ := ho.get (i := 0) rfl; rw [hlo] at e2; subst e2; have l1 := World.block_lt_of_cell? _ _ g1; have l2 := World.block_lt_of_cell? _ _ r5; have l3 := World.block_lt_of_cell? _ _ o0; dsimp only at l1 l2 l3; clear hv hr ho)
          go_ret
          exact ⟨rfl, (hb1.trans (hb2.mono hb1.size)).alloc (Nat.le_trans hb1.size hb2.size) _⟩
        | true =>
          have hlo := deepOps_len i
          go_wp2_with ((with_reducible refine (kp _).mono ?_); rintro e w2 ⟨⟨A, c, rfl, hv⟩, hb2⟩; obtain ⟨g, c3, vr, e1, hr, _, g1⟩ := hv.get (i := 0) rfl; cases e1; obtain ⟨gr, cr, vs, vo, rfl, _, ho, _, _, _, _, _, r5⟩ := hr.get (i := 0) rfl; dsimp only at ho r5; obtain ⟨go, co, e2, _⟩ := ho.get (deepOps_at i 0 (by omega)); rw [hlo] at e2; subst e2; have l1 := World.block_lt_of_cell? _ _ g1; have l2 := World.block_lt_of_cell? _ _ r5; dsimp only at l1 l2; clear hv hr)
          have HO := Lib.hid ho
          clear ho
          generalize hw3 : w2.alloc (.cells #[.slice (some ⟨g, 0, none⟩) 1 c] 25) = w3
          go_loopw [16] (fun vi wx => ∃ j : Nat, vi = .int .i64 j ∧ j ≤ 2 * i + 1 ∧ wx = w3) (fun vi _ => 2 * i + 1 - (intOf vi).toNat)
          case atStart => exact ⟨0, rfl, Nat.zero_le _, rfl⟩
          case round =>
            obtain ⟨j, rfl, hj, rfl⟩ := hrel
            by_cases hjl : j < 2 * i + 1
            · have hdj : (j : Int) < 2 * (i : Int) + 1 := by omega
              obtain ⟨go', co', e2, o0, _, _⟩ := HO.out.get (deepOps_at i j hjl)
              rw [hlo] at e2
              cases e2
              replace o0 := cell_alloc o0 (.cells #[.slice (some ⟨g, 0, none⟩) 1 c] 25)
              rw [hw3] at o0
              by_cases hji : j ≤ i
              · have hdi : ¬ ((i : Int) < (j : Int)) := by omega
                rw [if_pos hji] at o0
                go_wp2
                first | (refine ⟨⟨j + 1, by go_num, by omega, by first | rfl | trivial⟩, ?_⟩; simp [intOf]; omega) | trace_state
              · have hdi : (i : Int) < (j : Int) := by omega
                rw [if_neg hji] at o0
                go_wp2
                first | (refine ⟨⟨j + 1, by go_num, by omega, by first | rfl | trivial⟩, ?_⟩; simp [intOf]; omega) | trace_state
            · have hdj : ¬ ((j : Int) < 2 * (i : Int) + 1) := by omega
              go_wp2
              go_ret
              rw [← hw3]
              exact ⟨rfl, (hb1.trans (hb2.mono hb1.size)).alloc (Nat.le_trans hb1.size hb2.size) _⟩
theorem parseDeep_walk (x0 : Int) (b1 : Bool) (w : World) (f0 : (Lit.int .u8 x0).wf = true) :
    Calls Try.prog 5 #[.int .u8 x0, .bool b1] w fun e w' => e = .returned (.bool true) ∧ Below w.heap.size w w' := by
  have h := wf_u8 f0
  obtain ⟨n, rfl⟩ : ∃ n : Nat, x0 = n := ⟨x0.toNat, by omega⟩
  exact parseDeep_core n b1 w (by omega)
end Go.Proofs.Ytdndncodpepdfaa
