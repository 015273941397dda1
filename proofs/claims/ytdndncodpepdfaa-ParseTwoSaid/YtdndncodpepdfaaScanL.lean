/- Tokens of texts that are put behind each other: blanks, words, signs, notes ahead of a rest; a text ahead of a newline. Conditions: none; nothing of the program is named here. -/
import Derived.Test.YtdndncodpepdfaaSep
namespace Go.Proofs.Ytdndncodpepdfaa

/-! words and notes that end where the second text begins -/
section
variable {a b : ByteArray} (hs : Sep a b)
include hs
theorem wrN_sep (hb : 0 < b.size → mayB b 0 = false) : wrN (a ++ b) = wrN a := by
  obtain ⟨x, y⟩ := runN_spec (mayB a) a
  have hle := runN_le (mayB a) a
  refine runN_eq (fun j hj => ?_) fun h => ?_
  · have hj2 : j < cnt a := Nat.lt_of_lt_of_le hj hle
    refine ⟨by rw [sep_plc hs j (by omega), size_app]; have := lt_cnt.1 hj2; omega, ?_⟩
    rw [sep_may hs hj2]; exact (x j hj).2
  · rcases Nat.lt_or_ge (runN (mayB a) a) (cnt a) with h1 | h1
    · show mayB (a ++ b) (plc (a ++ b) (runN (mayB a) a)) = false
      rw [sep_may hs h1]
      exact y (lt_cnt.1 h1)
    · have e : runN (mayB a) a = cnt a := by omega
      show mayB (a ++ b) (plc (a ++ b) (runN (mayB a) a)) = false
      have h' : plc (a ++ b) (runN (mayB a) a) < (a ++ b).size := h
      have hb0 : 0 < b.size := by rw [e, sep_end hs, size_app] at h'; omega
      have := sep_may_right hs (j := 0) (cnt_pos hb0)
      rw [Nat.add_zero] at this
      rw [e, this]; exact hb hb0
theorem ntN_sep (hb : 0 < b.size → bt b 0 = 10) : ntN (a ++ b) = ntN a := by
  obtain ⟨x, y⟩ := runN_spec (fun i => !decide (bt a i = 10)) a
  have hle := runN_le (fun i => !decide (bt a i = 10)) a
  refine runN_eq (fun j hj => ?_) fun h => ?_
  · have hj2 : j < cnt a := Nat.lt_of_lt_of_le hj hle
    have h1 := lt_cnt.1 hj2
    refine ⟨by rw [sep_plc hs j (by omega), size_app]; omega, ?_⟩
    rw [sep_plc hs j (by omega), bt_app_left _ _ _ h1]; exact (x j hj).2
  · have h' : plc (a ++ b) (ntN a) < (a ++ b).size := h
    show (!decide (bt (a ++ b) (plc (a ++ b) (ntN a)) = 10)) = false
    have hle' : ntN a ≤ cnt a := hle
    rcases Nat.lt_or_ge (ntN a) (cnt a) with h1 | h1
    · have h2 := lt_cnt.1 h1
      rw [sep_plc hs _ (by omega), bt_app_left _ _ _ h2]
      exact y h2
    · have e : ntN a = cnt a := by omega
      have hb0 : 0 < b.size := by rw [e, sep_end hs, size_app] at h'; omega
      have h3 := bt_app_right a b 0 hb0
      rw [Nat.add_zero] at h3
      rw [e, sep_end hs, h3, hb hb0]; rfl
theorem kd_sep (ha : 0 < a.size) (hb : 0 < b.size) (h10 : bt b 0 = 10) : kd (a ++ b) = kd a ∧ ln (a ++ b) = ln a := by
  have h0 : bt (a ++ b) 0 = bt a 0 := bt_app_left _ _ _ ha
  have hm : mayB b 0 = false := by rw [may_low hb (by omega), h10]; rfl
  have hm0 : mayB (a ++ b) 0 = mayB a 0 := sep_may hs (j := 0) (cnt_pos ha)
  have hw := wrN_sep hs fun _ => hm
  have hn := ntN_sep hs fun _ => h10
  have h1 : (1 < (a ++ b).size ∧ bt (a ++ b) 1 = 47) = (1 < a.size ∧ bt a 1 = 47) := by
    apply propext
    by_cases hz : 1 < a.size
    · rw [bt_app_left _ _ _ hz, size_app]
      exact ⟨fun h => ⟨hz, h.2⟩, fun h => ⟨by omega, h.2⟩⟩
    · have e : a.size = 1 := by omega
      have h2 := bt_app_right a b 0 hb
      rw [Nat.add_zero, e] at h2
      rw [h2, h10]
      exact ⟨fun h => absurd h.2 (by decide), fun h => absurd h.1 hz⟩
  constructor
  · unfold kd
    simp only [h0, h1, hm0, hw]
  · unfold ln
    simp only [h0, hw, hn]
end
theorem cutB_app {a b : ByteArray} (hs : Sep a b) {n : Nat} (hn : n ≤ cnt a) : cutB (a ++ b) n = cutB a n ++ b ∧ cutA (a ++ b) n = cutA a n := by
  have hp := sep_plc hs n hn
  have hle := plc_le a n
  have h1 := cutB_size (a ++ b) n
  have h2 := cutB_size a n
  rw [hp, size_app] at h1
  constructor
  · refine bt_ext (by rw [size_app]; omega) fun k hk => ?_
    rw [cutB_bt _ _ k hk, hp]
    by_cases hk2 : k < (cutB a n).size
    · rw [bt_app_left _ _ _ hk2, cutB_bt _ _ k hk2, bt_app_left _ _ _ (by omega)]
    · obtain ⟨i, rfl⟩ : ∃ i, k = (cutB a n).size + i := ⟨k - (cutB a n).size, by omega⟩
      rw [bt_app_right _ _ _ (by omega), show plc a n + ((cutB a n).size + i) = a.size + i by omega, bt_app_right _ _ _ (by omega)]
  · have h3 := cutA_size (a ++ b) n
    have h4 := cutA_size a n
    rw [hp] at h3
    refine bt_ext (by omega) fun k hk => ?_
    rw [cutA_bt _ _ k hk, cutA_bt _ _ k (by omega), bt_app_left _ _ _ (by omega)]
theorem valid_cut {s : ByteArray} (hv : validS s = true) (k : Nat) : validS (cutB s k) = true := by
  rw [validS_iff] at hv ⊢
  intro j hj
  rw [cnt_cutB] at hj
  have h1 := plc_cutB s k j
  have h2 := cutB_size s k
  have h3 := lt_cnt.1 (show k + j < cnt s by omega)
  have h4 := decode_suf h2 (cutB_bt s k) (i := plc (cutB s k) j) (by omega)
  have h5 := hv (k + j) (by omega)
  unfold brk rn wd at h5 ⊢
  rw [h4, h1]; exact h5
/-- With no error there is a token. -/
theorem scan_ne (n : Nat) : ∀ (u : ByteArray) (off : Nat), u.size ≤ n → (scan u off).2.1 = 0 → (scan u off).1 ≠ [] := by
  induction n with
  | zero =>
    intro u off hn _
    rw [scan_nil (by omega)]; simp
  | succ n ih =>
    intro u off hn h0
    rcases Nat.eq_zero_or_pos u.size with h | h
    · rw [scan_nil h]; simp
    by_cases h3 : 3 ≤ kd u
    · rw [scan_err h h3] at h0
      dsimp only at h0
      omega
    · have hl := cutB_lt h (by omega)
      have hE := scan_go (off := off) h (by omega)
      have ih := ih (cutB u (ln u)) (off + plc u (ln u)) (by omega)
      generalize scan u off = r at hE h0 ⊢
      generalize scan (cutB u (ln u)) (off + plc u (ln u)) = r2 at hE ih
      subst hE
      dsimp only at h0 ⊢
      have := ih h0
      simp [this]
/-- A text ahead of a newline. -/
theorem scan_sep (n : Nat) : ∀ (a b : ByteArray) (off : Nat), a.size ≤ n → validS a = true → 0 < b.size → bt b 0 = 10 →
    ((scan a off).2.1 = 0 → (scan (a ++ b) off).1 = (scan a off).1.dropLast ++ (scan b (off + a.size)).1 ∧ (scan (a ++ b) off).2 = (scan b (off + a.size)).2) ∧
    (¬ (scan a off).2.1 = 0 → (scan (a ++ b) off).2 = (scan a off).2) := by
  induction n with
  | zero =>
    intro a b off hn hv hb h10
    have ha : a = ⟨#[]⟩ := nil_size (by omega)
    subst ha
    rw [nil_app', scan_nil (u := ⟨#[]⟩) rfl]
    exact ⟨fun _ => ⟨rfl, rfl⟩, fun h => absurd rfl h⟩
  | succ n ih =>
    intro a b off hn hv hb h10
    rcases Nat.eq_zero_or_pos a.size with h | h
    · have ha : a = ⟨#[]⟩ := nil_size h
      subst ha
      rw [nil_app', scan_nil (u := ⟨#[]⟩) rfl]
      exact ⟨fun _ => ⟨rfl, rfl⟩, fun h => absurd rfl h⟩
    · have hs := sep_valid (b := b) hv
      obtain ⟨hkd, hln⟩ := kd_sep hs h hb h10
      have hz : 0 < (a ++ b).size := by rw [size_app]; omega
      by_cases h3 : 3 ≤ kd a
      · rw [scan_err h h3, scan_err hz (by omega), hkd]
        exact ⟨fun h => by dsimp only at h; omega, fun _ => rfl⟩
      · have hle := ln_le h
        have hl := cutB_lt h (by omega)
        have hE := scan_go (off := off) h (by omega)
        have hE2 := scan_go (u := a ++ b) (off := off) hz (by omega)
        obtain ⟨e1, e2⟩ := cutB_app hs hle
        have hp := sep_plc hs _ hle
        have hcz := cutB_size a (ln a)
        have hne := scan_ne _ (cutB a (ln a)) (off + plc a (ln a)) (Nat.le_refl _)
        have ih := ih (cutB a (ln a)) b (off + plc a (ln a)) (by omega) (valid_cut hv _) hb h10
        rw [hkd, hln, e1, e2, hp] at hE2
        rw [show off + plc a (ln a) + (cutB a (ln a)).size = off + a.size by omega] at ih
        generalize scan a off = r at hE ⊢
        generalize scan (a ++ b) off = rr at hE2 ⊢
        generalize scan (cutB a (ln a)) (off + plc a (ln a)) = r2 at hE ih hne
        generalize scan (cutB a (ln a) ++ b) (off + plc a (ln a)) = r3 at hE2 ih
        generalize scan b (off + a.size) = r4 at ih ⊢
        subst hE hE2
        dsimp only
        refine ⟨fun h0 => ?_, fun h0 => ih.2 h0⟩
        obtain ⟨f1, f2⟩ := ih.1 h0
        refine ⟨?_, f2⟩
        rw [f1, List.dropLast_append_of_ne_nil (hne h0), List.append_assoc]
end Go.Proofs.Ytdndncodpepdfaa
