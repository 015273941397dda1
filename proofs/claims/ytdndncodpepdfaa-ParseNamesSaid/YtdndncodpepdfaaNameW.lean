/- Layer 7: the law's name, called: whether a text is a name that is no key, as a plain function. Conditions: a text of at most a hundred bytes. -/
import Derived.BigQuiet
import Derived.Deep.QuietTactic
import Derived.Test.YtdndncodpepdfaaAwake7
import Derived.Test.YtdndncodpepdfaaNamF
namespace Go.Proofs.Ytdndncodpepdfaa
open Go.RowKit

def badC (c : Nat) : Bool := decide (c = 47 ∨ c = 32 ∨ c = 9 ∨ c = 10 ∨ c = 123 ∨ c = 125)
/-- What the law's name answers. -/
def nmB (s : ByteArray) : Bool := decide ((∀ i, i < s.size → badC (bt s i) = false) ∧ (parseS (nm1 s)).2.1 = 0)
theorem nmB_yes {s : ByteArray} (hz : s.size ≤ 96) (h : nmB s = true) : nameS s = true ∧ keyB s = false := by
  obtain ⟨h1, h2⟩ := of_decide_eq_true h
  exact name_says hz (fun i hi => of_decide_eq_false (h1 i hi)) h2
theorem nm1_eq (s : ByteArray) : nm1 s = ⟨#[116, 121, 112, 101, 32]⟩ ++ s ++ ⟨#[32, 123, 125]⟩ := rfl
set_option maxRecDepth 100000 in
set_option maxHeartbeats 4000000 in
theorem lname_any (s : ByteArray) (hz : s.size ≤ 96) (w : World) : Calls Try.prog 14 #[.string s] w fun e w' => e = .returned (.bool (nmB s)) ∧ Below w.heap.size w w' := by
  obtain ⟨T, e0, p0, hp⟩ : ∃ T e p, parseS (nm1 s) = (T, e, p) := ⟨_, _, _, rfl⟩
  have hn : nmB s = decide ((∀ i, i < s.size → badC (bt s i) = false) ∧ e0 = 0) := by unfold nmB; rw [hp]
  have kp := fun W => parse_named (nm1 s) (by rw [nm1_eq, size_app, size_app]; show 5 + s.size + 3 ≤ 1000000; omega) hp W
  rw [nm1_eq] at kp
  rw [hn]
  have b1 : ¬ 9223372036854775807 < 5 + s.size := by omega
  have b2 : ¬ 9223372036854775807 < 5 + s.size + 3 := by omega
  clear hp hn
  go_enter Try.func14, Try.ntmps14
  go_wp2_with ((with_reducible refine (kp _).mono ?_); rintro e w2 ⟨⟨A, c, rfl, hv⟩, hb2⟩)
  clear hv
  have hB3 := hb2.alloc hb2.size (.cells #[.slice A T.length c] 25)
  generalize w2.alloc (.cells #[.slice A T.length c] 25) = w3 at *
  go_loopw [6] (fun vi wx => ∃ i : Nat, vi = .int .i64 i ∧ i ≤ s.size ∧ wx = w3 ∧ ∀ j, j < i → badC (bt s j) = false) (fun vi _ => s.size - (intOf vi).toNat)
  case atStart => exact ⟨0, rfl, Nat.zero_le _, rfl, fun j hj => absurd hj (Nat.not_lt_zero _)⟩
  case round =>
    obtain ⟨i, rfl, hi, rfl, hall⟩ := hrel
    have Hall := Lib.hid hall
    clear hall
    by_cases h : i < s.size
    · have hdi : (i : Int) < (s.size : Nat) := by omega
      have hx : (s[i]'h).toNat = bt s i := (bt_eq s i h).symm
      by_cases h47 : bt s i = 47
      · have d47 : (((bt s i : Nat) : Int) == 47) = true := by rw [beq_iff_eq]; omega
        have hbad : badC (bt s i) = true := decide_eq_true (by omega)
        have HX := Lib.hid hbad
        clear hbad h47
        go_wp2
        try go_ret
        refine ⟨?_, hB3⟩
        rw [decide_eq_false (fun hh => by have h1 := hh.1 i h; rw [HX.out] at h1; cases h1)]
        rfl
      · have d47 : (((bt s i : Nat) : Int) == 47) = false := by rw [beq_eq_false_iff_ne]; omega
        by_cases h32 : bt s i = 32
        · have d32 : (((bt s i : Nat) : Int) == 32) = true := by rw [beq_iff_eq]; omega
          have hbad : badC (bt s i) = true := decide_eq_true (by omega)
          have HX := Lib.hid hbad
          clear hbad h47 h32
          go_wp2
          try go_ret
          refine ⟨?_, hB3⟩
          rw [decide_eq_false (fun hh => by have h1 := hh.1 i h; rw [HX.out] at h1; cases h1)]
          rfl
        · have d32 : (((bt s i : Nat) : Int) == 32) = false := by rw [beq_eq_false_iff_ne]; omega
          by_cases h9 : bt s i = 9
          · have d9 : (((bt s i : Nat) : Int) == 9) = true := by rw [beq_iff_eq]; omega
            have hbad : badC (bt s i) = true := decide_eq_true (by omega)
            have HX := Lib.hid hbad
            clear hbad h47 h32 h9
            go_wp2
            try go_ret
            refine ⟨?_, hB3⟩
            rw [decide_eq_false (fun hh => by have h1 := hh.1 i h; rw [HX.out] at h1; cases h1)]
            rfl
          · have d9 : (((bt s i : Nat) : Int) == 9) = false := by rw [beq_eq_false_iff_ne]; omega
            by_cases h10 : bt s i = 10
            · have d10 : (((bt s i : Nat) : Int) == 10) = true := by rw [beq_iff_eq]; omega
              have hbad : badC (bt s i) = true := decide_eq_true (by omega)
              have HX := Lib.hid hbad
              clear hbad h47 h32 h9 h10
              go_wp2
              try go_ret
              refine ⟨?_, hB3⟩
              rw [decide_eq_false (fun hh => by have h1 := hh.1 i h; rw [HX.out] at h1; cases h1)]
              rfl
            · have d10 : (((bt s i : Nat) : Int) == 10) = false := by rw [beq_eq_false_iff_ne]; omega
              by_cases h123 : bt s i = 123
              · have d123 : (((bt s i : Nat) : Int) == 123) = true := by rw [beq_iff_eq]; omega
                have hbad : badC (bt s i) = true := decide_eq_true (by omega)
                have HX := Lib.hid hbad
                clear hbad h47 h32 h9 h10 h123
                go_wp2
                try go_ret
                refine ⟨?_, hB3⟩
                rw [decide_eq_false (fun hh => by have h1 := hh.1 i h; rw [HX.out] at h1; cases h1)]
                rfl
              · have d123 : (((bt s i : Nat) : Int) == 123) = false := by rw [beq_eq_false_iff_ne]; omega
                by_cases h125 : bt s i = 125
                · have d125 : (((bt s i : Nat) : Int) == 125) = true := by rw [beq_iff_eq]; omega
                  have hbad : badC (bt s i) = true := decide_eq_true (by omega)
                  have HX := Lib.hid hbad
                  clear hbad h47 h32 h9 h10 h123 h125
                  go_wp2
                  try go_ret
                  refine ⟨?_, hB3⟩
                  rw [decide_eq_false (fun hh => by have h1 := hh.1 i h; rw [HX.out] at h1; cases h1)]
                  rfl
                · have d125 : (((bt s i : Nat) : Int) == 125) = false := by rw [beq_eq_false_iff_ne]; omega
                  have HN : Hid (¬ (bt s i = 47 ∨ bt s i = 32 ∨ bt s i = 9 ∨ bt s i = 10 ∨ bt s i = 123 ∨ bt s i = 125)) := Lib.hid (by omega)
                  clear h47 h32 h9 h10 h123 h125
                  go_wp2
                  refine ⟨⟨i + 1, by go_num, by omega, by first | rfl | trivial, fun j hj => ?_⟩, ?_⟩
                  · by_cases e : j = i
                    · subst e
                      exact decide_eq_false fun h => by have := HN.out; omega
                    · exact Hall.out j (by omega)
                  · simp [intOf]; omega
    · have hdi : ¬ ((i : Int) < (s.size : Nat)) := by omega
      have HA : Hid (decide (∀ j, j < s.size → badC (bt s j) = false) = true) := Lib.hid (decide_eq_true fun j hj => Hall.out j (by omega))
      have hde : (((e0 : Nat) : Int) == 0) = decide (e0 = 0) := by
        by_cases he : e0 = 0
        · subst he; rfl
        · rw [decide_eq_false he, beq_eq_false_iff_ne]; omega
      go_wp2
      try go_ret
      refine ⟨?_, hB3⟩
      rw [HA.out, Bool.true_and]
      rfl
end Go.Proofs.Ytdndncodpepdfaa
