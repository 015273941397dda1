/- Layer 8: the law's name, called: whether a text is a short name that is no key. Conditions: a text of fewer than 2^47 bytes. -/
import Derived.BigQuiet
import Derived.Deep.QuietTactic
import Derived.Test.YtkeonempmchpnaaOpsF8
import Derived.Test.YtkeonempmchpnaaAwake8
import Derived.Test.YtkeonempmchpnaaOfK
namespace Go.Proofs.Ytkeonempmchpnaa
open Go.RowKit

theorem parse_named9 (s : ByteArray) (hz : s.size ≤ 9223372036854775807) {l : List TypP} {e p : Nat} (h : parseS s = (l, e, p)) (W : World) :
    Calls Try.prog 9 #[.string s] W fun r w' => (∃ A c, r = .returned (.tuple #[.agg #[.slice A l.length c], .int .i64 e, .int .i64 p]) ∧ VTyps W.heap.size w' (.slice A l.length c) l) ∧ Below W.heap.size W w' := by
  have k := parse_any s W (by unfold maxLen; omega)
  rw [h] at k
  refine k.mono fun r w' ⟨vt, h1, h2, h3⟩ => ?_
  obtain ⟨A, c, rfl, _⟩ := Rd.own h2.choose_spec.1
  exact ⟨⟨A, c, h1, h2⟩, h3⟩
theorem nmB8_of {s : ByteArray} {T : List TypP} {e p : Nat} (h : parseS (nmT8 s) = (T, e, p)) : nmB8 s = match (T, e) with
  | ([t], 0) => decide (t.name = s) && decide (s.size < 97)
  | _ => false := by
  unfold nmB8
  rw [h]
  rcases T with _ | ⟨t, _ | ⟨t2, r⟩⟩
  · rfl
  · cases e <;> rfl
  · rfl
set_option maxRecDepth 100000 in
set_option maxHeartbeats 4000000 in
theorem name8_any (s : ByteArray) (hz : s.size ≤ 140737488355327) (w : World) : Calls Try.prog 19 #[.string s] w fun e w' => e = .returned (.bool (nmB8 s)) ∧ Below w.heap.size w w' := by
  obtain ⟨T, e0, p0, hp⟩ : ∃ T e p, parseS (nmT8 s) = (T, e, p) := ⟨_, _, _, rfl⟩
  have hn := nmB8_of hp
  have kp := fun W => parse_named9 (nmT8 s) (by unfold nmT8; rw [size_app, size_app]; show 5 + s.size + 3 ≤ _; omega) hp W
  unfold nmT8 at kp
  rw [hn]
  have b1 : ¬ 9223372036854775807 < 5 + s.size := by omega
  have b2 : ¬ 9223372036854775807 < 5 + s.size + 3 := by omega
  clear hp hn
  by_cases h0 : e0 = 0
  · subst h0
    by_cases h1 : T.length = 1
    · obtain ⟨t, rfl⟩ := List.length_eq_one_iff.1 h1
      clear h1
      have hB : (match ([t], (0 : Nat)) with
        | ([t], 0) => decide (t.name = s) && decide (s.size < 97)
        | _ => false) = (decide (t.name = s) && decide (s.size < 97)) := rfl
      rw [hB]
      clear hB
      simp only [List.length_cons, List.length_nil, Nat.zero_add] at kp
      by_cases hnm : t.name = s
      · rw [decide_eq_true hnm, Bool.true_and]
        by_cases h97 : s.size < 97
        · rw [decide_eq_true h97]
          have d97 : ((s.size : Nat) : Int) < 97 := by omega
          go_enter Try.func19, Try.ntmps19
          go_wp2_with fail
          refine (kp _).mono ?_
          rintro e w2 ⟨⟨A, c, rfl, hv⟩, hb2⟩
          obtain ⟨g, c2, vr, e1, hr, g0, g1⟩ := hv.get (i := 0) rfl
          injection e1 with ea eb ec
          subst ea
          clear eb
          subst ec
          rw [hnm] at g0
          have y0 := cell_under g0 ((Below.refl _ w2).alloc (Nat.le_refl _) (.cells #[.slice (some ⟨g, 0, none⟩) 1 c] 25))
          have hal := hb2.alloc hb2.size (.cells #[.slice (some ⟨g, 0, none⟩) 1 c] 25)
          go_wp2_with fail
          go_ret
          exact ⟨rfl, hb2.alloc hb2.size _⟩
        · rw [decide_eq_false h97]
          have d97 : ¬ ((s.size : Nat) : Int) < 97 := by omega
          go_enter Try.func19, Try.ntmps19
          go_wp2_with fail
          refine (kp _).mono ?_
          rintro e w2 ⟨⟨A, c, rfl, hv⟩, hb2⟩
          obtain ⟨g, c2, vr, e1, hr, g0, g1⟩ := hv.get (i := 0) rfl
          injection e1 with ea eb ec
          subst ea
          clear eb
          subst ec
          rw [hnm] at g0
          have y0 := cell_under g0 ((Below.refl _ w2).alloc (Nat.le_refl _) (.cells #[.slice (some ⟨g, 0, none⟩) 1 c] 25))
          have hal := hb2.alloc hb2.size (.cells #[.slice (some ⟨g, 0, none⟩) 1 c] 25)
          go_wp2_with fail
          go_ret
          exact ⟨congrArg (fun b => Ending.returned (.bool b)) (decide_eq_false (by omega)), hb2.alloc hb2.size _⟩
      · rw [decide_eq_false hnm, Bool.false_and]
        have dn := toList_ne hnm
        go_enter Try.func19, Try.ntmps19
        go_wp2_with fail
        refine (kp _).mono ?_
        rintro e w2 ⟨⟨A, c, rfl, hv⟩, hb2⟩
        obtain ⟨g, c2, vr, e1, hr, g0, g1⟩ := hv.get (i := 0) rfl
        injection e1 with ea eb ec
        subst ea
        clear eb
        subst ec
        have y0 := cell_under g0 ((Below.refl _ w2).alloc (Nat.le_refl _) (.cells #[.slice (some ⟨g, 0, none⟩) 1 c] 25))
        have hal := hb2.alloc hb2.size (.cells #[.slice (some ⟨g, 0, none⟩) 1 c] 25)
        go_wp2_with fail
        go_ret
        exact ⟨rfl, hb2.alloc hb2.size _⟩
    · have hB : (match (T, (0 : Nat)) with
        | ([t], 0) => decide (t.name = s) && decide (s.size < 97)
        | _ => false) = false := by
        rcases T with _ | ⟨t, _ | ⟨t2, r⟩⟩
        · rfl
        · exact absurd rfl h1
        · rfl
      rw [hB]
      clear hB
      generalize T.length = n at *
      have d1 : (((n : Nat) : Int) == 1) = false := by rw [beq_eq_false_iff_ne]; omega
      go_enter Try.func19, Try.ntmps19
      go_wp2_with ((with_reducible refine (kp _).mono ?_); rintro e w2 ⟨⟨A, c, rfl, hv⟩, hb2⟩)
      go_ret
      exact ⟨rfl, hb2.alloc hb2.size _⟩
  · have hB : (match (T, e0) with
      | ([t], 0) => decide (t.name = s) && decide (s.size < 97)
      | _ => false) = false := by
      rcases T with _ | ⟨t, _ | ⟨t2, r⟩⟩
      · rfl
      · cases e0 with
        | zero => exact absurd rfl h0
        | succ n => rfl
      · rfl
    rw [hB]
    have dz : (((e0 : Nat) : Int) == 0) = false := by rw [beq_eq_false_iff_ne]; omega
    clear hB h0
    go_enter Try.func19, Try.ntmps19
    go_wp2_with ((with_reducible refine (kp _).mono ?_); rintro e w2 ⟨⟨A, c, rfl, hv⟩, hb2⟩)
    go_ret
    exact ⟨rfl, hb2.alloc hb2.size _⟩
end Go.Proofs.Ytkeonempmchpnaa
