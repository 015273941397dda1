/- A text's tokens, and those of the text with a note or a single slash behind it or ahead of it. Conditions: short texts; the note is valid and has no newline. -/
import Derived.Test.YtdndncodpepdfaaScanT
namespace Go.Proofs.Ytdndncodpepdfaa

section
variable {s : ByteArray}
theorem all_ok (hz : s.size ≤ 2048) (hv : validS s = true) (h : (scan s 0).2.1 = 0) : allS s = scan s 0 := by
  unfold allS
  rw [if_neg (by omega), if_neg (badN_valid.1 hv), if_pos h]
theorem all_err (hz : s.size ≤ 2048) (hv : validS s = true) (h : ¬ (scan s 0).2.1 = 0) : allS s = ([], (scan s 0).2) := by
  unfold allS
  rw [if_neg (by omega), if_neg (badN_valid.1 hv), if_neg h]
theorem bad_lt (hv : validS s = false) : plc s (badN s) < s.size := by
  rcases Nat.lt_or_ge (plc s (badN s)) s.size with h | h
  · exact h
  · rw [badN_valid.2 (by omega)] at hv; cases hv
theorem all_bad (hz : s.size ≤ 2048) (hv : validS s = false) : allS s = ([], 11, plc s (badN s)) := by
  unfold allS
  rw [if_neg (by omega), if_pos (bad_lt hv)]
theorem all_zero (hz : s.size ≤ 2048) (h : (allS s).2.1 = 0) : validS s = true ∧ (scan s 0).2.1 = 0 ∧ allS s = scan s 0 := by
  cases hv : validS s with
  | false => rw [all_bad hz hv] at h; dsimp only at h; omega
  | true =>
    by_cases h0 : (scan s 0).2.1 = 0
    · exact ⟨rfl, h0, all_ok hz hv h0⟩
    · rw [all_err hz hv h0] at h
      exact absurd h h0
theorem scan_zero {u : ByteArray} {off : Nat} (h : (scan u off).2.1 = 0) : (scan u off).2 = (0, 0) := by
  rcases scan_code _ u off (Nat.le_refl _) with e | ⟨e, _⟩
  · exact e
  · omega
/-- A text ahead of what begins with a newline. -/
theorem all_sep {b : ByteArray} (hb : 0 < b.size) (h10 : bt b 0 = 10) (hvb : validS b = true) (hz : s.size + b.size ≤ 2048) :
    (¬ (allS s).2.1 = 0 → (allS (s ++ b)).2 = (allS s).2) ∧
    ((allS s).2.1 = 0 → (∃ init, allS s = (init ++ [(3, ⟨#[]⟩, s.size)], 0, 0) ∧ (∀ t ∈ init, TkOK t) ∧
      ((scan b s.size).2.1 = 0 → allS (s ++ b) = (init ++ (scan b s.size).1, 0, 0)) ∧
      (¬ (scan b s.size).2.1 = 0 → allS (s ++ b) = ([], (scan b s.size).2)))) := by
  have hs : Sep s b := sep_nc fun _ => by omega
  have hz2 : (s ++ b).size ≤ 2048 := by rw [size_app]; omega
  have hv2 : validS (s ++ b) = validS s := by rw [sep_validS hs, hvb, Bool.and_true]
  cases hv : validS s with
  | false =>
    rw [hv] at hv2
    rw [all_bad (by omega) hv, all_bad hz2 hv2, (sep_bad hs (bad_lt hv)).2]
    exact ⟨fun _ => rfl, fun h => by dsimp only at h; omega⟩
  | true =>
    rw [hv] at hv2
    obtain ⟨g1, g2⟩ := scan_sep _ s b 0 (Nat.le_refl _) hv hb h10
    rw [Nat.zero_add] at g1
    by_cases h0 : (scan s 0).2.1 = 0
    · obtain ⟨f1, f2⟩ := g1 h0
      obtain ⟨init, e, hi⟩ := scan_init _ s 0 (Nat.le_refl _) h0
      rw [Nat.zero_add] at e
      have e2 := scan_zero h0
      have eA : allS s = (init ++ [(3, ⟨#[]⟩, s.size)], 0, 0) := by rw [all_ok (by omega) hv h0]; exact Prod.ext e e2
      rw [eA]
      refine ⟨fun h => absurd rfl h, fun _ => ⟨init, rfl, hi, fun h => ?_, fun h => ?_⟩⟩
      · have h' : (scan (s ++ b) 0).2.1 = 0 := by rw [f2]; exact h
        rw [all_ok hz2 hv2 h']
        refine Prod.ext ?_ ?_
        · rw [f1, e, List.dropLast_concat]
        · rw [f2]; exact scan_zero h
      · have h' : ¬ (scan (s ++ b) 0).2.1 = 0 := by rw [f2]; exact h
        rw [all_err hz2 hv2 h', f2]
    · have h' : ¬ (scan (s ++ b) 0).2.1 = 0 := by rw [g2 h0]; exact h0
      rw [all_err (by omega) hv h0, all_err hz2 hv2 h', g2 h0]
      exact ⟨fun _ => rfl, fun h => absurd h h0⟩
end

theorem scan_at (n : Nat) : ∀ (u : ByteArray) (off : Nat), u.size ≤ n → ∀ t ∈ (scan u off).1, t.2.2 ≤ off + u.size := by
  induction n with
  | zero =>
    intro u off hn t ht
    rw [scan_nil (by omega)] at ht
    simp only [List.mem_cons, List.not_mem_nil, or_false] at ht
    subst ht
    show off ≤ _
    omega
  | succ n ih =>
    intro u off hn t ht
    rcases Nat.eq_zero_or_pos u.size with h | h
    · rw [scan_nil h] at ht
      simp only [List.mem_cons, List.not_mem_nil, or_false] at ht
      subst ht
      show off ≤ _
      omega
    by_cases h3 : 3 ≤ kd u
    · rw [scan_err h h3] at ht; cases ht
    · have hl := cutB_lt h (by omega)
      have hcz := cutB_size u (ln u)
      rw [scan_go h (by omega)] at ht
      rcases List.mem_append.1 ht with ht | ht
      · split at ht
        · cases ht
        · simp only [List.mem_cons, List.not_mem_nil, or_false] at ht
          subst ht
          show off ≤ _
          omega
      · have := ih _ _ (by omega) t ht
        omega
theorem all_at (s : ByteArray) : ∀ t ∈ (allS s).1, t.2.2 ≤ s.size := by
  intro t ht
  unfold allS at ht
  split at ht
  · cases ht
  · split at ht
    · cases ht
    · split at ht
      · have := scan_at _ s 0 (Nat.le_refl _) t ht
        omega
      · cases ht

/-- A token's kind and text. -/
def ktT (t : Tk) : Nat × ByteArray := (t.1, t.2.1)
section
variable {s n : ByteArray} (hv : validS n = true) (hn : ∀ i, i < n.size → bt n i ≠ 10)
include hv hn
theorem notes_a (hz : s.size + n.size + 3 ≤ 2048) :
    (¬ (allS s).2.1 = 0 → (allS (s ++ ⟨#[10, 47, 47]⟩ ++ n)).2 = (allS s).2) ∧
    ((allS s).2.1 = 0 → (allS (s ++ ⟨#[10, 47, 47]⟩ ++ n)).2 = (0, 0) ∧ (allS (s ++ ⟨#[10, 47, 47]⟩ ++ n)).1.map ktT = (allS s).1.map ktT) := by
  have hb : (⟨#[10, 47, 47]⟩ : ByteArray) ++ n = sOne 10 ++ (sSl ++ n) := by rw [← app_assoc]; rfl
  have hs1 := sep_valid (b := n) sSl_valid
  have hva : validS (sSl ++ n) = true := by rw [sep_validS hs1, sSl_valid, hv]; rfl
  have hs2 := sep_valid (b := sSl ++ n) (sOne_valid (n := 10) (by omega))
  have hvb : validS (sOne 10 ++ (sSl ++ n)) = true := by rw [sep_validS hs2, sOne_valid (by omega), hva]; rfl
  have h10 := ascii_first (n := 10) (r := sSl ++ n) (by omega)
  have hsz : (sOne 10 ++ (sSl ++ n)).size = n.size + 3 := by rw [size_app, size_app, sOne_size, show sSl.size = 2 from rfl]; omega
  have hE : (scan (sOne 10 ++ (sSl ++ n)) s.size) = ([(3, ⟨#[]⟩, s.size + 1 + 2 + n.size)], 0, 0) := by
    rw [scan_blank1 rfl]
    have := scan_note1 (r := ⟨#[]⟩) (off := s.size + 1) hv hn (fun h => absurd h (by decide))
    rw [app_nil] at this
    rw [this, scan_nil rfl]
  rw [app_assoc, hb]
  obtain ⟨g1, g2⟩ := all_sep (s := s) (b := sOne 10 ++ (sSl ++ n)) (by omega) h10 hvb (by omega)
  refine ⟨g1, fun h0 => ?_⟩
  obtain ⟨init, e1, _, e2, _⟩ := g2 h0
  rw [hE] at e2
  rw [e2 rfl, e1]
  exact ⟨rfl, by simp [ktT]⟩
theorem notes_b (hz : s.size + n.size + 3 ≤ 2048) :
    (allS (⟨#[47, 47]⟩ ++ n ++ ⟨#[10]⟩ ++ s)).2.1 = (allS s).2.1 ∧ ((allS s).2.1 = 0 → (allS (⟨#[47, 47]⟩ ++ n ++ ⟨#[10]⟩ ++ s)).1 = (allS s).1.map (shT (n.size + 3))) := by
  have hs1 := sep_valid (b := n) sSl_valid
  have hva : validS (sSl ++ n) = true := by rw [sep_validS hs1, sSl_valid, hv]; rfl
  have hs2 := sep_valid (b := s) (sOne_valid (n := 10) (by omega))
  have hs3 := sep_valid (b := sOne 10 ++ s) hva
  have h10 := ascii_first (n := 10) (r := s) (by omega)
  have hb : (⟨#[47, 47]⟩ ++ n ++ ⟨#[10]⟩ ++ s : ByteArray) = sSl ++ n ++ (sOne 10 ++ s) := by rw [app_assoc]; rfl
  have hsz : (sSl ++ n ++ (sOne 10 ++ s)).size = s.size + n.size + 3 := by rw [size_app, size_app, size_app, sOne_size, show sSl.size = 2 from rfl]; omega
  have hvv : validS (sSl ++ n ++ (sOne 10 ++ s)) = validS s := by rw [sep_validS hs3, hva, sep_validS hs2, sOne_valid (by omega)]; rfl
  have hE : scan (sSl ++ n ++ (sOne 10 ++ s)) 0 = scan s (0 + (n.size + 3)) := by
    rw [scan_note1 hv hn (fun _ => h10), scan_blank1 rfl]
    congr 1; omega
  obtain ⟨q1, q2⟩ := scan_shift _ s 0 (n.size + 3) (Nat.le_refl _)
  rw [hb]
  cases hvs : validS s with
  | false =>
    rw [hvs] at hvv
    rw [all_bad (by omega) hvs, all_bad (by omega) hvv]
    exact ⟨rfl, fun h => by dsimp only at h; omega⟩
  | true =>
    rw [hvs] at hvv
    by_cases h0 : (scan s 0).2.1 = 0
    · have h' : (scan (sSl ++ n ++ (sOne 10 ++ s)) 0).2.1 = 0 := by rw [hE, q2]; exact h0
      rw [all_ok (by omega) hvs h0, all_ok (by omega) hvv h', hE]
      exact ⟨q2, fun _ => q1⟩
    · have h' : ¬ (scan (sSl ++ n ++ (sOne 10 ++ s)) 0).2.1 = 0 := by rw [hE, q2]; exact h0
      rw [all_err (by omega) hvs h0, all_err (by omega) hvv h', hE]
      exact ⟨q2, fun h => absurd h h0⟩
omit hn in
theorem notes_c (hz : s.size + n.size + 3 ≤ 2048) (h0 : (allS s).2.1 = 0) : (allS (s ++ ⟨#[10, 47, 32]⟩ ++ n)).2 = (30, s.size + 1) := by
  have hb : (⟨#[10, 47, 32]⟩ : ByteArray) ++ n = sOne 10 ++ (sOne 47 ++ (sOne 32 ++ n)) := by rw [← app_assoc, ← app_assoc]; rfl
  have v1 : validS (sOne 32 ++ n) = true := by rw [sep_validS (sep_valid (sOne_valid (by omega))), sOne_valid (by omega), hv]; rfl
  have v2 : validS (sOne 47 ++ (sOne 32 ++ n)) = true := by rw [sep_validS (sep_valid (sOne_valid (by omega))), sOne_valid (by omega), v1]; rfl
  have v3 : validS (sOne 10 ++ (sOne 47 ++ (sOne 32 ++ n))) = true := by rw [sep_validS (sep_valid (sOne_valid (by omega))), sOne_valid (by omega), v2]; rfl
  have h10 := ascii_first (n := 10) (r := sOne 47 ++ (sOne 32 ++ n)) (by omega)
  have h32 := ascii_first (n := 32) (r := n) (by omega)
  have hsz : (sOne 10 ++ (sOne 47 ++ (sOne 32 ++ n))).size = n.size + 3 := by simp only [size_app, sOne_size]; omega
  have hE : scan (sOne 10 ++ (sOne 47 ++ (sOne 32 ++ n))) s.size = ([], 30, s.size + 1) := by
    rw [scan_blank1 rfl]
    exact scan_slash1 fun _ => by rw [h32]; decide
  rw [app_assoc, hb]
  obtain ⟨_, g2⟩ := all_sep (s := s) (b := sOne 10 ++ (sOne 47 ++ (sOne 32 ++ n))) (by omega) h10 v3 (by omega)
  obtain ⟨init, _, _, _, e2⟩ := g2 h0
  rw [hE] at e2
  rw [e2 (by show ¬ (30 = 0); decide)]
end
end Go.Proofs.Ytdndncodpepdfaa
