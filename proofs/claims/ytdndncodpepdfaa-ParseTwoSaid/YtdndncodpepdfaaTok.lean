/- The tokens of a text as plain functions of its bytes: what stands at its beginning, how far it goes, and the whole list, or the error and its place. Conditions: none; nothing of the program is named here. -/
import Derived.Test.YtdndncodpepdfaaNames
import Derived.Test.YtdndncodpepdfaaNext
namespace Go.Proofs.Ytdndncodpepdfaa

def signB (c : Nat) : Bool := decide (c = 123 ∨ c = 125 ∨ c = 40 ∨ c = 41 ∨ c = 58 ∨ c = 44 ∨ c = 59 ∨ c = 124 ∨ c = 38 ∨ c = 45 ∨ c = 46 ∨ c = 35)
def blankB (c : Nat) : Bool := decide (c = 32 ∨ c = 9 ∨ c = 10)
theorem signB_iff {c : Nat} : signB c = true ↔ (c = 123 ∨ c = 125 ∨ c = 40 ∨ c = 41 ∨ c = 58 ∨ c = 44 ∨ c = 59 ∨ c = 124 ∨ c = 38 ∨ c = 45 ∨ c = 46 ∨ c = 35) := by unfold signB; exact decide_eq_true_iff
theorem blankB_iff {c : Nat} : blankB c = true ↔ (c = 32 ∨ c = 9 ∨ c = 10) := by unfold blankB; exact decide_eq_true_iff
theorem byteB_iff {c : Nat} : byteB c = true ↔ (c = 95 ∨ (97 ≤ c ∧ c ≤ 122) ∨ (65 ≤ c ∧ c ≤ 90) ∨ (48 ≤ c ∧ c ≤ 57)) := by unfold byteB; exact decide_eq_true_iff

/-- How many runes stand ahead of the first one that isn't so. -/
def runN (p : Nat → Bool) (u : ByteArray) : Nat := least (fun j => !(decide (plc u j < u.size) && p (plc u j))) u.size 0
theorem runN_spec (p : Nat → Bool) (u : ByteArray) : (∀ j, j < runN p u → plc u j < u.size ∧ p (plc u j) = true) ∧ (plc u (runN p u) < u.size → p (plc u (runN p u)) = false) := by
  obtain ⟨a, _, c⟩ := least_spec (fun j => !(decide (plc u j < u.size) && p (plc u j))) u.size 0 ⟨u.size, Nat.zero_le _, by omega, by simp [plc_size]⟩
  refine ⟨fun j hj => ?_, fun h => ?_⟩
  · have := c j (Nat.zero_le _) hj
    simpa using this
  · have a' : (!(decide (plc u (runN p u) < u.size) && p (plc u (runN p u)))) = true := a
    rw [decide_eq_true h] at a'
    simpa using a'
theorem runN_eq {p : Nat → Bool} {u : ByteArray} {k : Nat} (h1 : ∀ j, j < k → plc u j < u.size ∧ p (plc u j) = true) (h2 : plc u k < u.size → p (plc u k) = false) : runN p u = k := by
  obtain ⟨a, b⟩ := runN_spec p u
  rcases Nat.lt_trichotomy (runN p u) k with h | h | h
  · obtain ⟨x, y⟩ := h1 _ h
    rw [b x] at y; cases y
  · exact h
  · obtain ⟨x, y⟩ := a _ h
    rw [h2 x] at y; cases y
theorem runN_le (p : Nat → Bool) (u : ByteArray) : runN p u ≤ cnt u := by
  rcases Nat.lt_or_ge (cnt u) (runN p u) with h | h
  · have := ((runN_spec p u).1 _ h).1
    rw [(cnt_spec u).1] at this; omega
  · exact h
theorem runN_pos {p : Nat → Bool} {u : ByteArray} (h : 0 < u.size) (hp : p 0 = true) : 0 < runN p u := by
  rcases Nat.eq_zero_or_pos (runN p u) with e | e
  · have := (runN_spec p u).2
    rw [e] at this
    have h0 : p (plc u 0) = false := this h
    rw [show plc u 0 = 0 from rfl, hp] at h0; cases h0
  · exact e
theorem runN_zero {p : Nat → Bool} {u : ByteArray} (hp : p 0 = false) : runN p u = 0 := runN_eq (fun _ hj => absurd hj (Nat.not_lt_zero _)) fun _ => hp

/-- How many runes the word has that a text begins with. -/
def wrN (u : ByteArray) : Nat := runN (mayB u) u
/-- How many runes stand ahead of the first newline. -/
def ntN (u : ByteArray) : Nat := runN (fun i => !decide (bt u i = 10)) u
/-- How many runes stand ahead of the first broken byte. -/
def badN (u : ByteArray) : Nat := runN (fun i => !brk u i) u

/-- What stands at a text's beginning: 0 a blank or a note, 1 a word, 2 a sign, else the error. -/
def kd (u : ByteArray) : Nat :=
  if blankB (bt u 0) = true then 0 else if signB (bt u 0) = true then 2
  else if bt u 0 = 47 then (if 1 < u.size ∧ bt u 1 = 47 then 0 else 30)
  else if mayB u 0 = true then (if wrN u ≤ 24 then 1 else 31) else 30
/-- How many runes it has. -/
def ln (u : ByteArray) : Nat :=
  if blankB (bt u 0) = true then 1 else if signB (bt u 0) = true then 1
  else if bt u 0 = 47 then ntN u else wrN u

theorem ln_pos {u : ByteArray} (h : 0 < u.size) (hk : kd u < 3) : 0 < ln u := by
  unfold kd at hk
  unfold ln
  by_cases h1 : blankB (bt u 0) = true
  · rw [if_pos h1]; omega
  rw [if_neg h1] at hk ⊢
  by_cases h2 : signB (bt u 0) = true
  · rw [if_pos h2]; omega
  rw [if_neg h2] at hk ⊢
  by_cases h3 : bt u 0 = 47
  · rw [if_pos h3]
    exact runN_pos h (by rw [h3]; rfl)
  rw [if_neg h3] at hk ⊢
  by_cases h4 : mayB u 0 = true
  · exact runN_pos h h4
  rw [if_neg h4] at hk; omega
theorem ln_le {u : ByteArray} (h : 0 < u.size) : ln u ≤ cnt u := by
  have := cnt_pos h
  unfold ln
  repeat' split
  · omega
  · omega
  · exact runN_le _ u
  · exact runN_le _ u

/-- A token: its kind, its text, its place. -/
abbrev Tk := Nat × ByteArray × Nat
def scanF : Nat → ByteArray → Nat → List Tk × Nat × Nat
  | 0, _, off => ([], 0, off)
  | f + 1, u, off =>
    if u.size = 0 then ([(3, ⟨#[]⟩, off)], 0, 0)
    else if 3 ≤ kd u then ([], kd u, off)
    else ((if kd u = 0 then [] else [(kd u, cutA u (ln u), off)]) ++ (scanF f (cutB u (ln u)) (off + plc u (ln u))).1, (scanF f (cutB u (ln u)) (off + plc u (ln u))).2)
theorem cutB_lt {u : ByteArray} (h : 0 < u.size) (hk : kd u < 3) : (cutB u (ln u)).size < u.size := by
  have h1 := cutB_size u (ln u)
  have h2 := ln_pos h hk
  have h3 := plc_mono u (show 1 ≤ ln u from h2)
  have h4 : plc u 0 < plc u 1 := plc_lt_succ (s := u) (k := 0) (by exact h)
  have h5 : plc u 0 = 0 := rfl
  omega
theorem scanF_more : ∀ (f g : Nat) (u : ByteArray) (off : Nat), u.size < f → u.size < g → scanF f u off = scanF g u off
  | 0, _, _, _, h, _ => absurd h (Nat.not_lt_zero _)
  | _ + 1, 0, _, _, _, h => absurd h (Nat.not_lt_zero _)
  | f + 1, g + 1, u, off, hf, hg => by
    unfold scanF
    by_cases h0 : u.size = 0
    · rw [if_pos h0, if_pos h0]
    rw [if_neg h0, if_neg h0]
    by_cases h3 : 3 ≤ kd u
    · rw [if_pos h3, if_pos h3]
    rw [if_neg h3, if_neg h3]
    have := cutB_lt (u := u) (by omega) (by omega)
    rw [scanF_more f g _ _ (by omega) (by omega)]
/-- The tokens from a place on, and the error and its place, if there is one. -/
def scan (u : ByteArray) (off : Nat) : List Tk × Nat × Nat := scanF (u.size + 1) u off
theorem scan_nil {u : ByteArray} {off : Nat} (h : u.size = 0) : scan u off = ([(3, ⟨#[]⟩, off)], 0, 0) := by unfold scan scanF; rw [if_pos h]
theorem scan_err {u : ByteArray} {off : Nat} (h : 0 < u.size) (hk : 3 ≤ kd u) : scan u off = ([], kd u, off) := by unfold scan scanF; rw [if_neg (by omega), if_pos hk]
theorem scan_go {u : ByteArray} {off : Nat} (h : 0 < u.size) (hk : kd u < 3) :
    scan u off = ((if kd u = 0 then [] else [(kd u, cutA u (ln u), off)]) ++ (scan (cutB u (ln u)) (off + plc u (ln u))).1, (scan (cutB u (ln u)) (off + plc u (ln u))).2) := by
  have := cutB_lt h hk
  conv => lhs; unfold scan scanF
  rw [if_neg (by omega), if_neg (by omega), scanF_more u.size ((cutB u (ln u)).size + 1) _ _ (by omega) (by omega)]
  rfl

/-- A text's tokens; else the error, and its place. -/
def allS (s : ByteArray) : List Tk × Nat × Nat :=
  if 2048 < s.size then ([], 13, 0)
  else if plc s (badN s) < s.size then ([], 11, plc s (badN s))
  else if (scan s 0).2.1 = 0 then scan s 0 else ([], (scan s 0).2)
theorem badN_valid {s : ByteArray} : validS s = true ↔ ¬ plc s (badN s) < s.size := by
  obtain ⟨a, b⟩ := runN_spec (fun i => !brk s i) s
  rw [validS_iff]
  constructor
  · intro h hl
    have h1 := b hl
    have h2 : brk s (plc s (badN s)) = false := h _ (lt_cnt.2 hl)
    have h3 : (!brk s (plc s (badN s))) = false := h1
    rw [h2] at h3; cases h3
  · intro h k hk
    have hl := lt_cnt.1 hk
    rcases Nat.lt_or_ge k (badN s) with h1 | h1
    · have := (a k h1).2
      simpa using this
    · have := plc_mono s h1
      omega
/-- Errors of the way: 30, 31; without one the place is 0. -/
theorem kd_err {u : ByteArray} (h : 3 ≤ kd u) : kd u = 30 ∨ kd u = 31 := by
  revert h
  unfold kd
  repeat' split
  all_goals omega
theorem scan_code (n : Nat) : ∀ (u : ByteArray) (off : Nat), u.size ≤ n → ((scan u off).2 = (0, 0) ∨ ((scan u off).2.1 = 30 ∨ (scan u off).2.1 = 31) ∧ off ≤ (scan u off).2.2 ∧ (scan u off).2.2 < off + u.size) := by
  induction n with
  | zero =>
    intro u off hn
    rw [scan_nil (by omega)]; exact .inl rfl
  | succ n ih =>
    intro u off hn
    rcases Nat.eq_zero_or_pos u.size with h0 | h0
    · rw [scan_nil h0]; exact .inl rfl
    by_cases h3 : 3 ≤ kd u
    · rw [scan_err h0 h3]
      exact .inr ⟨kd_err h3, Nat.le_refl _, by dsimp only; omega⟩
    · have hl := cutB_lt h0 (by omega)
      have hz := cutB_size u (ln u)
      have hE := scan_go (off := off) h0 (by omega)
      have ih := ih (cutB u (ln u)) (off + plc u (ln u)) (by omega)
      generalize scan u off = r at hE ⊢
      generalize scan (cutB u (ln u)) (off + plc u (ln u)) = r2 at hE ih
      subst hE
      rcases ih with h | ⟨h1, h2, h4⟩
      · exact .inl h
      · exact .inr ⟨h1, by dsimp only; omega, by dsimp only; omega⟩

/-- A key. -/
def keyB (s : ByteArray) : Bool := decide (s = ⟨#[116, 121, 112, 101]⟩ ∨ s = ⟨#[114, 101, 108]⟩ ∨ s = ⟨#[105, 115]⟩ ∨ s = ⟨#[116, 104, 105, 115]⟩)
end Go.Proofs.Ytdndncodpepdfaa
