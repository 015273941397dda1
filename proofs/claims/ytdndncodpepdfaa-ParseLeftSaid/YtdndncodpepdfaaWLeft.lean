/- ParseLeft walked: it answers true. -/
import Derived.BigQuiet
import Derived.Deep.QuietTactic
import Derived.Test.YtdndncodpepdfaaAwake7
import Derived.Test.YtdndncodpepdfaaLeftF
import Derived.Test.YtdndncodpepdfaaFrame
namespace Go.Proofs.Ytdndncodpepdfaa
open Go.RowKit

/-- Which sign a number tells. -/
def sgN (n : Nat) : Nat := if n % 3 = 0 then 124 else if n % 3 = 1 then 38 else 45
theorem sgN_ok (n : Nat) : sgN n = 124 ∨ sgN n = 38 ∨ sgN n = 45 := by
  unfold sgN
  split
  · exact .inl rfl
  · split
    · exact .inr (.inl rfl)
    · exact .inr (.inr rfl)
theorem left_take (l : List Nat) (i n : Nat) (h : l[i]? = some n) : leftM ((l.take (i + 1)).map sgN) = leftM ((l.take i).map sgN) ++ stepS (sgN n) := by
  rw [List.take_add_one, h, Option.toList_some, List.map_append, List.map_singleton, leftM_snoc]
/-- The text so far. -/
def leftU (l : List Nat) : ByteArray := dHead ++ wp0 ++ leftM (l.map sgN)
theorem leftU_nil : leftU [] = ⟨#[116, 121, 112, 101, 32, 116, 32, 123, 32, 114, 101, 108, 32, 114, 32, 40, 114, 44, 32, 114, 44, 32, 114, 41, 58, 32, 116, 32, 105, 115, 32, 112, 48]⟩ := rfl
theorem leftU_size (l : List Nat) : (leftU l).size = 33 + 7 * l.length := by
  unfold leftU
  rw [size_app, size_app, leftM_size, List.length_map]
  rfl
theorem cell_below {w w' : World} {a : Addr} {v : Value} (h : w.cell? a = some v) (hb : Below w.heap.size w w') : w'.cell? a = some v := (hb.cell (World.block_lt_of_cell? _ _ h)).trans h
theorem stepS_two : stepS 124 = ⟨#[32, 124, 32]⟩ ++ ⟨#[116, 104, 105, 115]⟩ ∧ stepS 38 = ⟨#[32, 38, 32]⟩ ++ ⟨#[116, 104, 105, 115]⟩ ∧ stepS 45 = ⟨#[32, 45, 32]⟩ ++ ⟨#[116, 104, 105, 115]⟩ := ⟨rfl, rfl, rfl⟩
theorem leftO_len : ∀ l : List Nat, (leftO l).length = 2 * l.length
  | [] => rfl
  | c :: t => by
    show (_ :: _ :: leftO t).length = _
    rw [List.length_cons, List.length_cons, leftO_len t, List.length_cons]
    omega
theorem leftO_at : ∀ (l : List Nat) (i c : Nat), l[i]? = some c → (leftO l)[2 * i]? = some (1, ⟨#[]⟩, ⟨#[]⟩) ∧ (leftO l)[2 * i + 1]? = some (opN c, ⟨#[]⟩, ⟨#[]⟩)
  | [], _, _, h => by simp at h
  | d :: t, 0, c, h => by
    simp only [List.getElem?_cons_zero, Option.some.injEq] at h
    subst h
    exact ⟨rfl, rfl⟩
  | d :: t, i + 1, c, h => by
    simp only [List.getElem?_cons_succ] at h
    have := leftO_at t i c h
    exact this
theorem sgN_op (n : Nat) : opN (sgN n) = 4 + n % 3 := by
  have := Nat.mod_lt n (show 0 < 3 by decide)
  unfold sgN
  by_cases h0 : n % 3 = 0
  · rw [if_pos h0, h0]; rfl
  · rw [if_neg h0]
    by_cases h1 : n % 3 = 1
    · rw [if_pos h1, h1]; rfl
    · rw [if_neg h1, show n % 3 = 2 by omega]; rfl
theorem stepS_lit : stepS 124 = ⟨#[32, 124, 32, 116, 104, 105, 115]⟩ ∧ stepS 38 = ⟨#[32, 38, 32, 116, 104, 105, 115]⟩ ∧ stepS 45 = ⟨#[32, 45, 32, 116, 104, 105, 115]⟩ := ⟨rfl, rfl, rfl⟩
theorem leftU_step (l : List Nat) (i n : Nat) (h : l[i]? = some n) : leftU (l.take (i + 1)) = leftU (l.take i) ++ stepS (sgN n) := by
  unfold leftU
  rw [left_take l i n h, app_assoc, app_assoc, app_assoc]
set_option maxRecDepth 100000 in
set_option maxHeartbeats 4000000 in
theorem parseLeft_core (A0 : Option Addr) (n0 c0 : Nat) (l : List Nat) (w : World) (r0 : Rd w w.heap.size 1 A0 n0 c0 (l.map fun n => Value.int .u8 (n : Nat))) (f0 : ∀ n ∈ l, n ≤ 255) :
    Calls Try.prog 8 #[.slice A0 n0 c0] w fun e w' => e = .returned (.bool true) ∧ Below w.heap.size w w' := by
  have hl : n0 = l.length := by have := r0.len; rw [List.length_map] at this; omega
  subst hl
  by_cases h14 : 14 < l.length
  · have hd : (14 : Int) < (l.length : Nat) := by omega
    go_enter Try.func8, Try.ntmps8
    go_wp2_with ((with_reducible refine (awake7_any _).mono ?_); rintro e w1 ⟨rfl, hb1⟩)
    go_ret
    exact ⟨rfl, hb1⟩
  have hd : ¬ ((14 : Int) < (l.length : Nat)) := by omega
  go_enter Try.func8, Try.ntmps8
  go_wp2_with ((with_reducible refine (awake7_any _).mono ?_); rintro e w1 ⟨rfl, hb1⟩)
  have hB1 := hb1.size
  go_loopw [4, 5] (fun vs vi wr => ∃ i : Nat, vs = .string (leftU (l.take i)) ∧ vi = .int .i64 i ∧ i ≤ l.length ∧ Below w.heap.size w wr) (fun _ vi _ => l.length - (intOf vi).toNat)
  case atStart => exact ⟨0, congrArg Value.string leftU_nil.symm, rfl, Nat.zero_le _, hb1⟩
  case round =>
    obtain ⟨i, rfl, rfl, hi, hbw⟩ := hrel
    by_cases h : i < l.length
    · have hdi : (i : Int) < (l.length : Nat) := by omega
      obtain ⟨n, hn⟩ : ∃ n, l[i]? = some n := ⟨l[i], List.getElem?_eq_getElem h⟩
      have hn255 := f0 n (List.mem_of_getElem? hn)
      obtain ⟨b, o, u, rfl, hlt, hu, hc⟩ := (r0.below hbw).get h
      rw [List.getElem?_map, hn] at hu
      simp only [Option.map_some, Option.some.injEq] at hu
      subst hu
      replace hc := cell_alloc hc
      have hsz := leftU_size (l.take i)
      have hlt' : (l.take i).length ≤ 14 := by rw [List.length_take]; omega
      have hstep := leftU_step l i n hn
      have hmod : ((n : Int)).tmod 3 = ((n % 3 : Nat) : Int) := rfl
      have hbz := hbw.size
      have Hr0 := Lib.hid r0
      have Hf0 := Lib.hid f0
      clear r0 f0 hn
      unfold sgN at hstep
      generalize leftU (l.take i) = x at *
      have hb7 : ¬ 9223372036854775807 < x.size + 7 := by omega
      rcases (show n % 3 = 0 ∨ n % 3 = 1 ∨ n % 3 = 2 by omega) with hm | hm | hm
      · rw [hm] at hmod hstep
        replace hstep := hstep.trans (congrArg (x ++ ·) stepS_two.1)
        go_wp2_with fail
        refine ⟨⟨i + 1, congrArg Value.string hstep.symm, by go_num, by omega, hbw.alloc hbz _⟩, ?_⟩
        simp [intOf]; omega
      · rw [hm] at hmod hstep
        replace hstep := hstep.trans (congrArg (x ++ ·) stepS_two.2.1)
        go_wp2_with fail
        refine ⟨⟨i + 1, congrArg Value.string hstep.symm, by go_num, by omega, hbw.alloc hbz _⟩, ?_⟩
        simp [intOf]; omega
      · rw [hm] at hmod hstep
        replace hstep := hstep.trans (congrArg (x ++ ·) stepS_two.2.2)
        go_wp2_with fail
        refine ⟨⟨i + 1, congrArg Value.string hstep.symm, by go_num, by omega, hbw.alloc hbz _⟩, ?_⟩
        simp [intOf]; omega
    · have hdi : ¬ ((i : Int) < (l.length : Nat)) := by omega
      obtain rfl : i = l.length := by omega
      rw [List.take_length]
      have hp := parse_left (l.map sgN) (fun c hc => by obtain ⟨n, _, rfl⟩ := List.mem_map.1 hc; exact sgN_ok n) (by rw [List.length_map]; omega)
      have hz : (leftU l ++ ⟨#[59, 32, 125]⟩).size ≤ 1000000 := by
        rw [size_app, leftU_size]
        show _ + 3 ≤ _
        omega
      have hsz := leftU_size l
      have kp := fun W => parse_named (leftU l ++ ⟨#[59, 32, 125]⟩) hz hp W
      have hlo : ((2, wp0, ⟨#[]⟩) :: leftO (l.map sgN)).length = 2 * l.length + 1 := by rw [List.length_cons, leftO_len, List.length_map]
      clear hp hz
      generalize leftU l = x at *
      have hb3 : ¬ 9223372036854775807 < x.size + 3 := by omega
      have Hr0 := Lib.hid r0
      have Hf0 := Lib.hid f0
      clear r0 f0
      go_wp2_with ((with_reducible refine (kp _).mono ?_); rintro e w2 ⟨⟨A, c, rfl, hv⟩, hb2⟩; obtain ⟨g, c3, vr, e1, hr, _, g1⟩ := hv.get (i := 0) rfl; cases e1; obtain ⟨gr, cr, vs, vo, rfl, _, ho, _, _, _, _, _, r5⟩ := hr.get (i := 0) rfl; dsimp only at ho r5; obtain ⟨go, co, e2, q0, q1, q2⟩ := ho.get (i := 0) rfl; rw [hlo] at e2; subst e2; have l1 := World.block_lt_of_cell? _ _ g1; have l2 := World.block_lt_of_cell? _ _ r5; have l3 := World.block_lt_of_cell? _ _ q0; dsimp only at l1 l2 l3 q0 q1 q2; rw [show wp0 = ⟨#[112, 48]⟩ from rfl] at q1; clear hv hr)
      have HO := Lib.hid ho
      clear ho
      have hB2 : Below w.heap.size w w2 := hbw.trans (hb2.mono hbw.size)
      have hB3 := hB2.alloc hB2.size (.cells #[.slice (some ⟨g, 0, none⟩) 1 c] 25)
      generalize hw3 : w2.alloc (.cells #[.slice (some ⟨g, 0, none⟩) 1 c] 25) = w3 at *
      go_loopw [10] (fun vi wx => ∃ j : Nat, vi = .int .i64 j ∧ j ≤ l.length ∧ Below w3.heap.size w3 wx) (fun vi _ => l.length - (intOf vi).toNat)
      case atStart => exact ⟨0, rfl, Nat.zero_le _, Below.refl _ _⟩
      case round =>
        obtain ⟨j, rfl, hj, hbx⟩ := hrel
        have hB4 := hB3.trans (hbx.mono hB3.size)
        by_cases hjl : j < l.length
        · have hdj : (j : Int) < (l.length : Nat) := by omega
          obtain ⟨n, hn⟩ : ∃ n, l[j]? = some n := ⟨l[j], List.getElem?_eq_getElem hjl⟩
          have hn255 := Hf0.out n (List.mem_of_getElem? hn)
          obtain ⟨b, o, u, rfl, hlt, hu, hc⟩ := (Hr0.out.below hB4).get hjl
          rw [List.getElem?_map, hn] at hu
          simp only [Option.map_some, Option.some.injEq] at hu
          subst hu
          obtain ⟨m1, m2⟩ := leftO_at (l.map sgN) j (sgN n) (by rw [List.getElem?_map, hn]; rfl)
          rw [sgN_op] at m2
          obtain ⟨_, _, e2, z1, _, _⟩ := HO.out.get (i := 2 * j + 1) (o := (1, ⟨#[]⟩, ⟨#[]⟩)) (by rw [List.getElem?_cons_succ]; exact m1)
          rw [hlo] at e2
          cases e2
          obtain ⟨_, _, e2, z2, _, _⟩ := HO.out.get (i := 2 * j + 1 + 1) (o := (4 + n % 3, ⟨#[]⟩, ⟨#[]⟩)) (by rw [List.getElem?_cons_succ]; exact m2)
          rw [hlo] at e2
          cases e2
          replace z1 := cell_alloc z1 (.cells #[.slice (some ⟨g, 0, none⟩) 1 c] 25)
          replace z2 := cell_alloc z2 (.cells #[.slice (some ⟨g, 0, none⟩) 1 c] 25)
          rw [hw3] at z1 z2
          replace z1 := cell_below z1 hbx
          replace z2 := cell_below z2 hbx
          have hmod : ((n : Int)).tmod 3 = ((n % 3 : Nat) : Int) := rfl
          have hm3 := Nat.mod_lt n (show 0 < 3 by decide)
          clear m1 m2 hn kp
          dsimp only at z1 z2
          generalize n % 3 = m at *
          have hi1 : 2 * (j : Int) + 1 < 2 * (l.length : Nat) + 1 := by omega
          have hi2 : 2 * (j : Int) + 2 < 2 * (l.length : Nat) + 1 := by omega
          go_wp2
          go_quiet (fail)
          go_wp2
          refine ⟨⟨j + 1, by go_num, by omega, hbx.trans ⟨rfl, rfl, rfl, Nat.le_refl _, fun _ _ => rfl⟩⟩, ?_⟩
          simp [intOf]; omega
        · have hdj : ¬ ((j : Int) < (l.length : Nat)) := by omega
          go_wp2
          go_ret
          exact ⟨rfl, hB4⟩
theorem nats (z : List Int) (f : ∀ x ∈ z, (Lit.int .u8 x).wf = true) : ∃ l : List Nat, z = l.map (fun n : Nat => (n : Int)) ∧ ∀ n ∈ l, n ≤ 255 := by
  refine ⟨z.map Int.toNat, ?_, fun n hn => ?_⟩
  · rw [List.map_map]
    conv => lhs; rw [← List.map_id z]
    refine List.map_congr_left fun x hx => ?_
    have := wf_u8 (f x hx)
    simp only [Function.comp, id]
    omega
  · obtain ⟨x, hx, rfl⟩ := List.mem_map.1 hn
    have := wf_u8 (f x hx)
    omega
theorem parseLeft_walk (A0 : Option Addr) (n0 c0 : Nat) (z0 : List Int) (w : World) (r0 : Rd w w.heap.size 1 A0 n0 c0 (z0.map (Value.int .u8))) (f0 : ∀ z ∈ z0, (Lit.int .u8 z).wf = true) :
    Calls Try.prog 8 #[.slice A0 n0 c0] w fun e w' => e = .returned (.bool true) ∧ Below w.heap.size w w' := by
  obtain ⟨l, rfl, hl⟩ := nats z0 f0
  rw [List.map_map] at r0
  exact parseLeft_core A0 n0 c0 l w r0 hl
end Go.Proofs.Ytdndncodpepdfaa
