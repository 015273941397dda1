/- DeviceArms, walked. Conditions: none. -/
import Derived.Test.YtiehnimkjneonaaAwake
import Derived.Test.YtiehnimkjneonaaFrame
namespace Go.Proofs.Ytiehnimkjneonaa
open Go.RowKit

/-- A new disk of two, armed with c. -/
def fl (c : Int) : St := { St.fresh 2 with left := c }
/-- The same behind j writes. -/
def ar (k j : Nat) : St := { kept := (St.fresh 2).kept, waits := List.replicate j (0, pad []), left := (k : Int) - j, dead := false }
theorem fl_fresh : St.fresh 2 = fl 0 := rfl
theorem fl_arm (c m : Int) : (fl c).arm m = fl m := rfl
theorem fl_ar (k : Nat) : fl k = ar k 0 := by simp [fl, ar, St.fresh]
theorem ar_count {k j : Nat} (h : j + 1 < k) : (ar k j).count = { ar k j with left := (k : Int) - j - 1 } := by
  unfold St.count
  rw [if_pos (by show 0 < (k : Int) - j; omega)]
  simp only [ar]
  congr 1
  exact decide_eq_false (by omega)
theorem ar_next {k j : Nat} (h : j + 1 < k) : (ar k j).count.wrote 0 [] = ar k (j + 1) := by
  rw [ar_count h]
  simp only [ar, St.wrote, Int.toNat_zero, List.replicate_succ']
  congr 1
  omega
theorem ar_last {k : Nat} (h : 1 ≤ k) : (ar k (k - 1)).count = { ar k (k - 1) with left := 0, dead := true } := by
  unfold St.count
  rw [if_pos (by show 0 < (k : Int) - ((k - 1 : Nat) : Int); omega)]
  simp only [ar]
  congr 1
  · omega
  · exact decide_eq_true (by omega)
theorem n_two (w : World) : Calls Try.prog 10 #[.int .i64 2] w fun e w' => ∃ b, e = .returned (.tuple #[.pointer (some ⟨b, 0, none⟩), .int .i64 0]) ∧ Dk w.heap.size w'.heap.size w' b (fl 0) ∧ Below w.heap.size w w' := new_any w 2 (by omega) (by omega)
section
variable {lo hi : Nat} {w : World} {b : Nat}
theorem a_arm {c : Int} (h : Dk lo hi w b (fl c)) (m : Int) (h1 : 0 ≤ m) (h2 : m ≤ 300) : Calls Try.prog 16 #[.pointer (some ⟨b, 0, none⟩), .int .i64 m] w fun e w' => (∃ v, e = .returned v) ∧ Dk lo hi w' b (fl m) ∧ Keeps lo hi w w' := by
  have := arm_any h m (by omega) (by omega)
  rwa [fl_arm] at this
theorem a_bad {k j : Nat} (h : Dk lo hi w b (ar k j)) : Calls Try.prog 12 #[.pointer (some ⟨b, 0, none⟩), .int .i64 5, .slice none 0 0] w fun e w' => e = .returned (.int .i64 1) ∧ w' = w := write_bad h 5 none 0 0 (.inl rfl)
theorem a_ok {k j : Nat} (h : Dk lo hi w b (ar k j)) (hk : j + 1 < k) (hj : j < 1000) : Calls Try.prog 12 #[.pointer (some ⟨b, 0, none⟩), .int .i64 0, .slice none 0 0] w fun e w' => e = .returned (.int .i64 0) ∧ Dk lo w'.heap.size w' b (ar k (j + 1)) ∧ Keeps lo hi w w' := by
  have := write_ok h 0 (l := []) (Rd.none_ w w.heap.size 1) (fun _ b o e => by cases e) rfl (by omega) (by rw [ar_count hk]; rfl) (by show (List.replicate j _).length < _; simp; omega)
  rwa [ar_next hk] at this
theorem a_dead {k j : Nat} (h : Dk lo hi w b (ar k j)) : Calls Try.prog 23 #[.pointer (some ⟨b, 0, none⟩)] w fun e w' => e = .returned (.bool false) ∧ w' = w := dead_any h
/-- Dead behind its last call. -/
def fn (j : Nat) : St := { ar (j + 1) j with left := 0, dead := true }
theorem fn_count (j : Nat) : (fn j).count = fn j := rfl
theorem a_f1 {j : Nat} (h : Dk lo hi w b (ar (j + 1) j)) : Calls Try.prog 14 #[.pointer (some ⟨b, 0, none⟩)] w fun e w' => e = .returned (.int .i64 20) ∧ Dk lo hi w' b (fn j) ∧ Keeps lo hi w w' := by
  have e : (ar (j + 1) j).count = fn j := ar_last (k := j + 1) (by omega)
  have := flush_dead h (by rw [e]; rfl)
  rwa [e] at this
theorem a_arm0 {j : Nat} (h : Dk lo hi w b (fn j)) : Calls Try.prog 16 #[.pointer (some ⟨b, 0, none⟩), .int .i64 0] w fun e w' => (∃ v, e = .returned v) ∧ Dk lo hi w' b (fn j) ∧ Keeps lo hi w w' := arm_any h 0 (by omega) (by omega)
theorem a_dead1 {j : Nat} (h : Dk lo hi w b (fn j)) : Calls Try.prog 23 #[.pointer (some ⟨b, 0, none⟩)] w fun e w' => e = .returned (.bool true) ∧ w' = w := dead_any h
theorem a_f2 {j : Nat} (h : Dk lo hi w b (fn j)) : Calls Try.prog 14 #[.pointer (some ⟨b, 0, none⟩)] w fun e w' => e = .returned (.int .i64 20) ∧ Dk lo hi w' b (fn j) ∧ Keeps lo hi w w' := flush_dead h rfl
theorem a_wait {j : Nat} (h : Dk lo hi w b (fn j)) : Calls Try.prog 18 #[.pointer (some ⟨b, 0, none⟩)] w fun e w' => e = .returned (.int .i64 j) ∧ w' = w := by
  have := waiting_any h
  rwa [show (fn j).waits.length = j from by simp [fn, ar]] at this
theorem a_r {j : Nat} (h : Dk lo hi w b (fn j)) (hj : j < 1000) : Calls Try.prog 19 #[.pointer (some ⟨b, 0, none⟩), .slice none 0 0] w fun e w' => ∃ x, e = .returned (.pointer (some ⟨x, 0, none⟩)) ∧ Dk w.heap.size w'.heap.size w' x ((fn j).restart []) ∧ Below w.heap.size w w' :=
  restart_any h (by simp [fn, ar]; omega) (keep := []) (Rd.none_ w w.heap.size 1) (Nat.le_refl _)
theorem a_dead2 {s : St} {keep : List Bool} (h : Dk lo hi w b (s.restart keep)) : Calls Try.prog 23 #[.pointer (some ⟨b, 0, none⟩)] w fun e w' => e = .returned (.bool false) ∧ w' = w := dead_any h
end

set_option maxRecDepth 100000 in
set_option maxHeartbeats 4000000 in
theorem arms_walk (w : World) (a n : Int) (ha : 0 ≤ a ∧ a ≤ 255) (hn : 0 ≤ n ∧ n ≤ 255) : Calls Try.prog 7 #[.int .u8 a, .int .u8 n] w fun e w' => e = .returned (.bool true) ∧ Below w.heap.size w w' := by
  have Hb := Lib.hid (Below.refl w.heap.size w)
  have hB : w.heap.size ≤ w.heap.size := Nat.le_refl _
  obtain ⟨ha0, ha1⟩ := ha
  obtain ⟨hn0, hn1⟩ := hn
  have kA := fun {lo hi : Nat} {W : World} {b : Nat} {c : Int} (h : Dk lo hi W b (fl c)) => a_arm h (a % 3) (by omega) (by omega)
  have kZ := fun {lo hi : Nat} {W : World} {b : Nat} {c : Int} (h : Dk lo hi W b (fl c)) => a_arm h 0 (by omega) (by omega)
  obtain ⟨k, hk⟩ : ∃ k : Nat, n % 9 + 2 = (k : Int) := ⟨(n % 9 + 2).toNat, by omega⟩
  have hk2 : 2 ≤ k := by omega
  have hk10 : k ≤ 10 := by omega
  have kK := fun {lo hi : Nat} {W : World} {b : Nat} {c : Int} (h : Dk lo hi W b (fl c)) => a_arm h k (by omega) (by omega)
  go_enter Try.func7, Try.ntmps7
  go_wp2_with (first
    | ((with_reducible refine (awake_any _).mono ?_); rintro e w1 ⟨rfl, hb⟩; obtain ⟨Hb, hB⟩ := chain Hb hB hb; clear hb)
    | ((with_reducible refine (n_two _).mono ?_); rintro e w2 ⟨b, rfl, d0, hb⟩; have hlo := hB; obtain ⟨Hb, hB⟩ := chain Hb hB hb; clear hb)
    | ((with_reducible refine (kA d0).mono ?_); rintro e w3 ⟨⟨_, rfl⟩, dA, hk3⟩; obtain ⟨Hb, hB⟩ := chainL Hb hlo hB hk3.low; clear hk3 d0)
    | ((with_reducible refine (kZ dA).mono ?_); rintro e w4 ⟨⟨_, rfl⟩, dA, hk4⟩; obtain ⟨Hb, hB⟩ := chainL Hb hlo hB hk4.low; clear hk4)
    | ((with_reducible refine (kK dA).mono ?_); rintro e w5 ⟨⟨_, rfl⟩, dK, hk5⟩; obtain ⟨Hb, hB⟩ := chainL Hb hlo hB hk5.low; clear hk5 dA))
  all_goals
    rw [fl_ar] at dK
    go_loopw [9] (fun v wr => ∃ j hi : Nat, v = .int .i64 (j + 1 : Nat) ∧ j + 1 ≤ k ∧ Dk w1.heap.size hi wr b (ar k j) ∧ Below w.heap.size w wr) (fun v _ => k - (intOf v).toNat)
    case atStart => exact ⟨0, _, rfl, by omega, dK, Hb.out⟩
    case round =>
      obtain ⟨j, hi, rfl, hj, hD, hbw⟩ := hrel
      have Hw := Lib.hid hbw
      have hBw := Nat.le_trans (Nat.le_refl _) hbw.size
      clear hbw
      by_cases hlt : j + 1 < k
      · have hltz : (j : Int) + 1 < (k : Int) := by omega
        go_wp2_with (first
          | ((with_reducible refine (a_bad hD).mono ?_); rintro e v1 ⟨rfl, rfl⟩)
          | ((with_reducible refine (a_ok hD hlt (by omega)).mono ?_); rintro e v2 ⟨rfl, hD2, hk2⟩; obtain ⟨Hw, hBw⟩ := chainL Hw hlo hBw hk2.low; clear hk2)
          | ((with_reducible refine (a_dead hD2).mono ?_); rintro e v3 ⟨rfl, rfl⟩))
        go_roundw
        case rel => exact ⟨j + 1, _, by simp, by omega, hD2, Hw.out⟩
        case measure => simp [intOf]; omega
      · obtain rfl : k = j + 1 := by omega
        go_wp2_with (first
          | ((with_reducible refine (a_f1 hD).mono ?_); rintro e v1 ⟨rfl, hE, hk1⟩; obtain ⟨Hw, hBw⟩ := chainL Hw hlo hBw hk1.low; clear hk1 hD)
          | ((with_reducible refine (a_arm0 hE).mono ?_); rintro e v2 ⟨⟨_, rfl⟩, hF, hk2⟩; obtain ⟨Hw, hBw⟩ := chainL Hw hlo hBw hk2.low; clear hk2 hE)
          | ((with_reducible refine (a_dead1 hF).mono ?_); rintro e v3 ⟨rfl, rfl⟩)
          | ((with_reducible refine (a_f2 hF).mono ?_); rintro e v4 ⟨rfl, hG, hk4⟩; obtain ⟨Hw, hBw⟩ := chainL Hw hlo hBw hk4.low; clear hk4 hF)
          | ((with_reducible refine (a_wait hG).mono ?_); rintro e v5 ⟨rfl, rfl⟩)
          | ((with_reducible refine (a_r hG (by omega)).mono ?_); rintro e v6 ⟨x, rfl, hX, hb6⟩; obtain ⟨Hw, hBw⟩ := chain Hw hBw hb6; clear hb6 hG)
          | ((with_reducible refine (a_dead2 hX).mono ?_); rintro e v7 ⟨rfl, rfl⟩))
        go_ret
        exact ⟨rfl, Hw.out⟩
theorem deviceArms_walk (x0 x1 : Int) (w : World) (f0 : (Lit.int .u8 x0).wf = true) (f1 : (Lit.int .u8 x1).wf = true) :
    Calls Try.prog 7 #[.int .u8 x0, .int .u8 x1] w fun e w' => e = .returned (.bool true) ∧ Below w.heap.size w w' := arms_walk w x0 x1 (wf_u8 f0) (wf_u8 f1)
end Go.Proofs.Ytiehnimkjneonaa
