/- Layer 7: Parse, called: what a text says, or the error and its place, are the document's. Conditions: the text is a string of Go's. -/
import Derived.Test.YtinfbimfiaegdaaReadW
import Derived.Test.YtinfbimfiaegdaaParseP
import Derived.Test.YtinfbimfiaegdaaAllW
namespace Go.Proofs.Ytinfbimfiaegdaa
open Go.RowKit

theorem scan_few (n : Nat) : ∀ (u : ByteArray) (off : Nat), u.size ≤ n → (scan u off).1.length ≤ u.size + 1 := by
  induction n with
  | zero =>
    intro u off hn
    rw [scan_nil (by omega)]
    show 1 ≤ _
    omega
  | succ n ih =>
    intro u off hn
    rcases Nat.eq_zero_or_pos u.size with h | h
    · rw [scan_nil h]
      show 1 ≤ _
      omega
    by_cases h3 : 3 ≤ kd u
    · rw [scan_err h h3]
      show 0 ≤ _
      omega
    · have hl := cutB_lt h (by omega)
      rw [scan_go h (by omega)]
      have := ih (cutB u (ln u)) (off + plc u (ln u)) (by omega)
      rw [List.length_append]
      have h1 : ∀ (p : Prop) [Decidable p] (t : Tk), (if p then ([] : List Tk) else [t]).length ≤ 1 := fun p _ t => by split <;> simp
      have := h1 (kd u = 0) (kd u, cutA u (ln u), off)
      omega
theorem sign_name {x : ByteArray} (h : nameS x = true) (c : UInt8) (hc : signB c.toNat = true) : x ≠ sg c := by
  rintro rfl
  obtain ⟨h1, _, h3⟩ := nameS_iff.1 h
  have h4 := h3 0 h1
  have h5 := (may_not (u := sg c) (sg_size c) h4).2.1
  have h6 : bt (sg c) 0 = c.toNat := rfl
  rw [h6, hc] at h5
  cases h5
theorem all_fine {s : ByteArray} (hz : s.size ≤ 2048) (h0 : (allS s).2.1 = 0) : Fine (allS s).1 := by
  obtain ⟨v, e0, eA⟩ := all_zero hz h0
  obtain ⟨init, e, hi⟩ := scan_init _ s 0 (Nat.le_refl _) e0
  have hf := scan_few _ s 0 (Nat.le_refl _)
  rw [eA]
  refine ⟨by omega, init, 0 + s.size, e, fun t ht => ?_⟩
  rcases hi t ht with ⟨h1, h2⟩ | ⟨h1, _⟩
  · exact .inr ⟨h1, fun c hc => sign_name h2 c hc⟩
  · exact .inl h1
theorem all_long {s : ByteArray} (h0 : (allS s).2.1 = 0) : s.size ≤ 2048 := by
  rcases Nat.lt_or_ge 2048 s.size with h | h
  · unfold allS at h0
    rw [if_pos h] at h0
    exact absurd h0 (by decide)
  · exact h
set_option maxRecDepth 100000 in
set_option maxHeartbeats 1000000 in
theorem parse_any (s : ByteArray) (w : World) (f0 : s.size ≤ maxLen) : Calls Try.prog 8 #[.string s] w (SPost (parseS s) w) := by
  have ka := all_any s (w.alloc (.cells #[.slice none 0 0] 36)) f0
  unfold AllPost at ka
  have hB : Below w.heap.size w (w.alloc (.cells #[.slice none 0 0] 36)) := (Below.refl _ w).alloc (Nat.le_refl _) _
  have hb := Bk.new w #[.slice none 0 0] 36
  have hz := hb.lt
  by_cases h0 : (allS s).2.1 = 0
  · have hp : parseS s = outS (schemaF (allS s).1) := by unfold parseS; rw [if_pos h0]
    have hf := all_fine (all_long h0) h0
    rw [hp]
    rw [h0] at ka
    have HR : ∀ w1 A c, Toks w1 A c (allS s).1 → _ := fun w1 A c ht => read_any (w := w1) (A := A) (c := c) ht hf
    clear hf h0 hp
    generalize (allS s).1 = l at *
    generalize (allS s).2.2 = q at *
    generalize outS (schemaF l) = o at *
    clear f0
    go_enter Try.func8, Try.ntmps8
    go_wp2_with fail
    generalize w.alloc (.cells #[.slice none 0 0] 36) = W at *
    refine ka.mono ?_
    rintro e W1 ⟨⟨A, c, rfl, ht⟩, hbw⟩
    replace hB := hB.trans (hbw.mono hB.size)
    replace hb := hb.below hbw
    have hz1 := hb.lt
    clear ka hbw
    go_wp2_with fail
    refine (HR _ _ _ ht).mono ?_
    rintro e W2 ⟨vt, rfl, hv, hbw⟩
    replace hB := hB.trans (hbw.mono hB.size)
    replace hb := hb.below hbw
    obtain ⟨xs, h1, h2⟩ := hv
    obtain ⟨A2, c2, rfl, _⟩ := Rd.own h1
    have q0 := hb.c1
    have fz := hb.fz
    clear HR ht hbw
    go_wp2_with fail
    refine bodyPost_ret (v := .tuple #[.agg #[.slice A2 o.1.length c2], .int .i64 o.2.1, .int .i64 o.2.2]) (by simp [results, Try.results8, go_sem, q0]; try rfl) rfl ?_
    refine ⟨.slice A2 o.1.length c2, rfl, ⟨xs, ?_, ?_⟩, ?_⟩
    · refine own_base (own_set h1 ?_ _) (show w.heap.size ≤ W1.heap.size by omega)
      dsimp only; omega
    · exact TypsC.base (show w.heap.size ≤ W1.heap.size by omega) (h2.keep (keeps3_set (a := ⟨w.heap.size, 0, none⟩) (by dsimp only; omega) _))
    · refine Below.setCell hB ?_ _
      exact Nat.le_refl _
  · have hp : parseS s = ([], (allS s).2) := by unfold parseS; rw [if_neg h0]
    rw [hp]
    have d0 : ((((allS s).2.1 : Nat) : Int) == 0) = false := by rw [beq_eq_false_iff_ne]; omega
    clear h0 hp f0
    generalize (allS s).2 = q at *
    generalize (allS s).1 = l at *
    go_enter Try.func8, Try.ntmps8
    go_wp2_with fail
    generalize w.alloc (.cells #[.slice none 0 0] 36) = W at *
    refine ka.mono ?_
    rintro e W1 ⟨⟨A, c, rfl, ht⟩, hbw⟩
    replace hB := hB.trans (hbw.mono hB.size)
    replace hb := hb.below hbw
    have q0 := hb.c1
    have fz := hb.fz
    clear ka hbw
    go_wp2_with fail
    refine bodyPost_ret (v := .tuple #[.agg #[.slice none 0 0], .int .i64 q.1, .int .i64 q.2]) (by simp [results, Try.results8, go_sem, q0]; try rfl) rfl ?_
    refine ⟨.slice none 0 0, rfl, ⟨[], World.ownsRow_nil _ _ _ _, rfl⟩, ?_⟩
    refine Below.setCell hB ?_ _
    exact Nat.le_refl _
end Go.Proofs.Ytinfbimfiaegdaa
