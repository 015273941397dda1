/- Where tokens stand: each text at its place, only blanks and notes between; what is told with an error. Conditions: none. -/
import Derived.Test.YtdblkghombemiaaNotesF
import Derived.Test.YtdblkghombemiaaRAll
namespace Go.Proofs.Ytdblkghombemiaa

/-- Within a note, behind so many bytes from a place on: a slash begins one, a newline ends it. -/
def mch (b : Bool) (c : Nat) : Bool := (b && !decide (c = 10)) || decide (c = 47)
def stG (s : ByteArray) (a : Nat) : Nat → Bool
  | 0 => false
  | j + 1 => mch (stG s a j) (bt s (a + j))
/-- Only blanks and notes stand there. -/
def gapOK (s : ByteArray) (a b : Nat) : Prop := ∀ j, a + j < b → stG s a (j + 1) = true ∨ blankB (bt s (a + j)) = true
/-- The tokens from a place on stand where they say. -/
def PlOK (s : ByteArray) : Nat → List Tk → Prop
  | e, [] => e = s.size
  | e, t :: r => (t.1 = 3 ↔ r = []) ∧ (t.1 = 3 ↔ t.2.1 = ⟨#[]⟩) ∧ (t.1 = 1 → nameS t.2.1 = true) ∧ e ≤ t.2.2 ∧ t.2.2 + t.2.1.size ≤ s.size ∧ s.extract t.2.2 (t.2.2 + t.2.1.size) = t.2.1 ∧ gapOK s e t.2.2 ∧ PlOK s (t.2.2 + t.2.1.size) r

theorem note_st {s : ByteArray} {a p q : Nat} (hap : a ≤ p) (hpq : p < q) (h47 : bt s p = 47) (h10 : ∀ i, p ≤ i → i < q → bt s i ≠ 10) : ∀ d, p + d < q → stG s a (p + d + 1 - a) = true
  | 0, _ => by
    rw [show p + 0 + 1 - a = (p - a) + 1 by omega]
    show mch _ (bt s (a + (p - a))) = true
    rw [show a + (p - a) = p by omega, h47]
    unfold mch
    simp
  | d + 1, h => by
    have ih := note_st hap hpq h47 h10 d (by omega)
    rw [show p + (d + 1) + 1 - a = (p + d + 1 - a) + 1 by omega]
    show mch (stG s a (p + d + 1 - a)) (bt s (a + (p + d + 1 - a))) = true
    rw [ih, show a + (p + d + 1 - a) = p + d + 1 by omega]
    have := h10 (p + d + 1) (by omega) (by omega)
    unfold mch
    simp [this]
set_option maxHeartbeats 400000 in
theorem places {s : ByteArray} (m : Nat) : ∀ k a, s.size - plc s k ≤ m → (scan (cutB s k) (plc s k)).2.1 = 0 → a ≤ plc s k → gapOK s a (plc s k) → (plc s k < s.size → stG s a (plc s k - a) = false ∨ bt s (plc s k) = 10) →
    PlOK s a (scan (cutB s k) (plc s k)).1 := by
  induction m with
  | zero =>
    intro k a hm _ hak hg _
    have hz := cutB_size s k
    have hle := plc_le s k
    have hp : plc s k = s.size := by omega
    rw [scan_nil (by omega)]
    exact ⟨by simp, by simp, (fun h => absurd h (by show ¬ (3 = 1); decide)), hak, by show plc s k + 0 ≤ _; omega, by show s.extract (plc s k) (plc s k + 0) = _; exact nil_size (by rw [size_ext]; omega), hg, hp⟩
  | succ m ih =>
    intro k a hm h0 hak hg hinv
    have hz := cutB_size s k
    have hle := plc_le s k
    by_cases hk : plc s k < s.size
    · have hc0 := cutB_pos hk
      have hb0 : bt (cutB s k) 0 = bt s (plc s k) := bt_cutB (j := 0) (by omega)
      by_cases h3 : 3 ≤ kd (cutB s k)
      · rw [scan_err hc0 h3] at h0
        dsimp only at h0
        omega
      · have hE := scan_go (off := plc s k) hc0 (by omega)
        have hlp := ln_pos hc0 (by omega)
        have hp2 := plc_cutB s k (ln (cutB s k))
        have hlt := plc_lt_succ hk
        have hmo := plc_mono s (show k + 1 ≤ k + ln (cutB s k) by omega)
        have hle2 := plc_le s (k + ln (cutB s k))
        have hok := fun h => step_ok hc0 (by omega) h (plc s k)
        have hne := scan_ne _ (cutB s (k + ln (cutB s k))) (plc s (k + ln (cutB s k))) (Nat.le_refl _)
        have hcx := cutA_cutB_ext s k (ln (cutB s k))
        have hcs := cutA_size (cutB s k) (ln (cutB s k))
        rw [cutB_cutB, hp2] at hE
        generalize scan (cutB s k) (plc s k) = r0 at hE h0 ⊢
        obtain ⟨r, hr⟩ : ∃ r, scan (cutB s (k + ln (cutB s k))) (plc s (k + ln (cutB s k))) = r := ⟨_, rfl⟩
        rw [hr] at hE hne
        subst hE
        dsimp only at h0 ⊢
        have IH : ∀ n, k + ln (cutB s k) = n → ∀ a, s.size - plc s n ≤ m → a ≤ plc s n → gapOK s a (plc s n) → (plc s n < s.size → stG s a (plc s n - a) = false ∨ bt s (plc s n) = 10) → PlOK s a r.1 := by
          intro n hn a g1 g2 g3 g4
          rw [hn] at hr
          rw [← hr] at h0 ⊢
          exact ih n a g1 h0 g2 g3 g4
        clear ih
        by_cases hk0 : kd (cutB s k) = 0
        · rw [if_pos hk0, List.nil_append]
          by_cases hbl : blankB (bt s (plc s k)) = true
          · have hln : ln (cutB s k) = 1 := by unfold ln; rw [hb0, if_pos hbl]
            have hb10 := blankB_iff.1 hbl
            have hpl := plc_low hk (by omega)
            rw [hln] at IH hle2 hmo hp2
            have hst : stG s a (plc s (k + 1) - a) = false := by
              rw [hpl, show plc s k + 1 - a = (plc s k - a) + 1 by omega]
              show mch (stG s a (plc s k - a)) (bt s (a + (plc s k - a))) = false
              rw [show a + (plc s k - a) = plc s k by omega]
              unfold mch
              rcases hinv hk with h | h
              · rw [h]; simp; omega
              · rw [h]; simp
            refine IH _ rfl a (by omega) (by omega) (fun j hj => ?_) fun _ => .inl hst
            by_cases hj2 : a + j < plc s k
            · exact hg j hj2
            · right
              rw [show a + j = plc s k by omega]; exact hbl
          · have h47 : bt s (plc s k) = 47 := by
              rcases Nat.decEq (bt s (plc s k)) 47 with h | h
              · exfalso
                rw [Bool.not_eq_true] at hbl
                by_cases hs : signB (bt s (plc s k)) = true
                · have : kd (cutB s k) = 2 := by unfold kd; rw [hb0, hbl, if_neg (by decide), if_pos hs]
                  omega
                · rw [Bool.not_eq_true] at hs
                  have := (kd_other hk hbl hs h).1
                  rw [this] at hk0
                  split at hk0
                  · split at hk0 <;> omega
                  · omega
              · exact h
            have hln : ln (cutB s k) = ntN (cutB s k) := by
              conv => lhs; unfold ln
              rw [hb0, h47, show blankB 47 = false from rfl, show signB 47 = false from rfl, if_neg (by decide), if_neg (by decide), if_pos rfl]
            rw [hln] at IH hle2 hmo hp2
            have hby : ∀ i, plc s k ≤ i → i < plc s (k + ntN (cutB s k)) → bt s i ≠ 10 := fun i h1 h2 => by
              have := nt_byte (u := cutB s k) (q := i - plc s k) (by omega)
              rwa [bt_cutB (by omega), show plc s k + (i - plc s k) = i by omega] at this
            have hstt := note_st hak (by omega) h47 hby
            refine IH _ rfl a (by omega) (by omega) (fun j hj => ?_) fun hq => .inr ?_
            · by_cases hj2 : a + j < plc s k
              · exact hg j hj2
              · left
                have := hstt (a + j - plc s k) (by omega)
                rwa [show plc s k + (a + j - plc s k) + 1 - a = j + 1 by omega] at this
            · have := nt_end (u := cutB s k) (by omega)
              rw [bt_cutB (by omega), hp2] at this
              exact this
        · rw [if_neg hk0]
          have hsz : plc s k + (cutA (cutB s k) (ln (cutB s k))).size = plc s (k + ln (cutB s k)) := by omega
          have hpos : 0 < (cutA (cutB s k) (ln (cutB s k))).size := by omega
          refine ⟨⟨fun h => by dsimp only at h; omega, fun h => absurd h (hne h0)⟩, ⟨fun h => by dsimp only at h; omega, fun h => ?_⟩, fun h => ?_, hak, by dsimp only; omega, by dsimp only; rw [hsz, hcx], hg, ?_⟩
          · dsimp only at h
            rw [h] at hpos
            exact absurd hpos (by decide)
          · rcases hok hk0 with h1 | h1
            · exact h1.2
            · dsimp only at h h1; omega
          · dsimp only
            rw [hsz]
            refine IH _ rfl _ (by omega) (Nat.le_refl _) (fun j hj => by omega) fun _ => .inl ?_
            rw [Nat.sub_self]; rfl
    · have hp : plc s k = s.size := by omega
      rw [scan_nil (by omega)]
      exact ⟨by simp, by simp, (fun h => absurd h (by show ¬ (3 = 1); decide)), hak, by show plc s k + 0 ≤ _; omega, by show s.extract (plc s k) (plc s k + 0) = _; exact nil_size (by rw [size_ext]; omega), hg, hp⟩
theorem all_places {s : ByteArray} (hz : s.size ≤ 2000) (h0 : (allS s).2.1 = 0) : PlOK s 0 (allS s).1 ∧ (allS s).2.2 = 0 ∧ (allS s).1 ≠ [] := by
  obtain ⟨v, e0, eA⟩ := all_zero (by omega) h0
  have := places (s := s) _ 0 0 (Nat.le_refl _) (by rw [cutB_zero]; exact e0) (Nat.zero_le _) (fun j hj => by have : plc s 0 = 0 := rfl; omega) fun _ => .inl rfl
  rw [cutB_zero] at this
  refine ⟨by rw [eA]; exact this, by rw [eA]; exact congrArg Prod.snd (scan_zero e0), by rw [eA]; exact scan_ne _ _ _ (Nat.le_refl _) e0⟩
theorem all_wrong {s : ByteArray} (hz : s.size ≤ 2000) (h0 : ¬ (allS s).2.1 = 0) : (allS s).1 = [] ∧ (allS s).2.2 < s.size ∧ decide ((allS s).2.1 = 11) = !validS s := by
  cases hv : validS s with
  | false =>
    rw [all_bad (by omega) hv]
    exact ⟨rfl, bad_lt hv, rfl⟩
  | true =>
    by_cases e : (scan s 0).2.1 = 0
    · rw [all_ok (by omega) hv e] at h0
      exact absurd e h0
    · rw [all_err (by omega) hv e]
      rcases scan_code _ s 0 (Nat.le_refl _) with h | ⟨h1, h2, h3⟩
      · rw [h] at e; exact absurd rfl e
      · refine ⟨rfl, by dsimp only; omega, ?_⟩
        dsimp only
        rw [decide_eq_false (by omega)]; rfl
end Go.Proofs.Ytdblkghombemiaa
