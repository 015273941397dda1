/- The tokens of a text as plain functions of its bytes: what stands at its beginning, how far it goes, and the whole list, or the error and its place. Conditions: none; nothing of the program is named here. -/
import Derived.Test.YteafdhpcnpfmkaaGreatPlain
namespace Go.Proofs.YteafdhpcnpfmkaaGreat

def signB (c : Nat) : Bool := decide (c = 123 ∨ c = 125 ∨ c = 40 ∨ c = 41 ∨ c = 58 ∨ c = 44 ∨ c = 59 ∨ c = 124 ∨ c = 38 ∨ c = 45 ∨ c = 46 ∨ c = 35)
def blankB (c : Nat) : Bool := decide (c = 32 ∨ c = 9 ∨ c = 10)
theorem signB_iff {c : Nat} : signB c = true ↔ (c = 123 ∨ c = 125 ∨ c = 40 ∨ c = 41 ∨ c = 58 ∨ c = 44 ∨ c = 59 ∨ c = 124 ∨ c = 38 ∨ c = 45 ∨ c = 46 ∨ c = 35) := by unfold signB; exact decide_eq_true_iff
theorem blankB_iff {c : Nat} : blankB c = true ↔ (c = 32 ∨ c = 9 ∨ c = 10) := by unfold blankB; exact decide_eq_true_iff
theorem byteB_iff {c : Nat} : byteB c = true ↔ (c = 95 ∨ (97 ≤ c ∧ c ≤ 122) ∨ (65 ≤ c ∧ c ≤ 90) ∨ (48 ≤ c ∧ c ≤ 57)) := by unfold byteB; exact decide_eq_true_iff

/-- How many runes stand ahead of the first one that isn't so. -/
def runN (p : Nat → Bool) (u : ByteArray) : Nat := least (fun j => !(decide (plc u j < u.size) && p (plc u j))) u.size 0
theorem runN_spec (p : Nat → Bool) (u : ByteArray) : (∀ j, j < runN p u → plc u j < u.size ∧ p (plc u j) = true) ∧ (plc u (runN p u) < u.size → p (plc u (runN p u)) = false) := by
  obtain ⟨a, _, c⟩ := least_spec (fun j => !(decide (plc u j < u.size) && p (plc u j))) u.size 0 ⟨u.size, Nat.zero_le _, by omega, by simp [plc_size]⟩
  refine ⟨fun j hj => ?_, fun h => ?_⟩
  · have := c j (Nat.zero_le _) hj
    simpa using this
  · have a' : (!(decide (plc u (runN p u) < u.size) && p (plc u (runN p u)))) = true := a
    rw [decide_eq_true h] at a'
    simpa using a'
theorem runN_eq {p : Nat → Bool} {u : ByteArray} {k : Nat} (h1 : ∀ j, j < k → plc u j < u.size ∧ p (plc u j) = true) (h2 : plc u k < u.size → p (plc u k) = false) : runN p u = k := by
  obtain ⟨a, b⟩ := runN_spec p u
  rcases Nat.lt_trichotomy (runN p u) k with h | h | h
  · obtain ⟨x, y⟩ := h1 _ h
    rw [b x] at y; cases y
  · exact h
  · obtain ⟨x, y⟩ := a _ h
    rw [h2 x] at y; cases y
theorem runN_le (p : Nat → Bool) (u : ByteArray) : runN p u ≤ cnt u := by
  rcases Nat.lt_or_ge (cnt u) (runN p u) with h | h
  · have := ((runN_spec p u).1 _ h).1
    rw [(cnt_spec u).1] at this; omega
  · exact h
theorem runN_pos {p : Nat → Bool} {u : ByteArray} (h : 0 < u.size) (hp : p 0 = true) : 0 < runN p u := by
  rcases Nat.eq_zero_or_pos (runN p u) with e | e
  · have := (runN_spec p u).2
    rw [e] at this
    have h0 : p (plc u 0) = false := this h
    rw [show plc u 0 = 0 from rfl, hp] at h0; cases h0
  · exact e
theorem runN_zero {p : Nat → Bool} {u : ByteArray} (hp : p 0 = false) : runN p u = 0 := runN_eq (fun _ hj => absurd hj (Nat.not_lt_zero _)) fun _ => hp

/-- How many runes the word has that a text begins with. -/
def wrN (u : ByteArray) : Nat := runN (mayB u) u
/-- How many runes stand ahead of the first newline. -/
def ntN (u : ByteArray) : Nat := runN (fun i => !decide (bt u i = 10)) u
/-- How many runes stand ahead of the first broken byte. -/
def badN (u : ByteArray) : Nat := runN (fun i => !brk u i) u

/-- What stands at a text's beginning: 0 a blank or a note, 1 a word, 2 a sign, else the error. -/
def kd (u : ByteArray) : Nat :=
  if blankB (bt u 0) = true then 0 else if signB (bt u 0) = true then 2
  else if bt u 0 = 47 then (if 1 < u.size ∧ bt u 1 = 47 then 0 else 30)
  else if mayB u 0 = true then (if wrN u ≤ 24 then 1 else 31) else 30
/-- How many runes it has. -/
def ln (u : ByteArray) : Nat :=
  if blankB (bt u 0) = true then 1 else if signB (bt u 0) = true then 1
  else if bt u 0 = 47 then ntN u else wrN u

theorem ln_pos {u : ByteArray} (h : 0 < u.size) (hk : kd u < 3) : 0 < ln u := by
  unfold kd at hk
  unfold ln
  by_cases h1 : blankB (bt u 0) = true
  · rw [if_pos h1]; omega
  rw [if_neg h1] at hk ⊢
  by_cases h2 : signB (bt u 0) = true
  · rw [if_pos h2]; omega
  rw [if_neg h2] at hk ⊢
  by_cases h3 : bt u 0 = 47
  · rw [if_pos h3]
    exact runN_pos h (by rw [h3]; rfl)
  rw [if_neg h3] at hk ⊢
  by_cases h4 : mayB u 0 = true
  · exact runN_pos h h4
  rw [if_neg h4] at hk; omega
theorem ln_le {u : ByteArray} (h : 0 < u.size) : ln u ≤ cnt u := by
  have := cnt_pos h
  unfold ln
  repeat' split
  · omega
  · omega
  · exact runN_le _ u
  · exact runN_le _ u

/-- A token: its kind, its text, its place. -/
abbrev Tk := Nat × ByteArray × Nat
def scanF : Nat → ByteArray → Nat → List Tk × Nat × Nat
  | 0, _, off => ([], 0, off)
  | f + 1, u, off =>
    if u.size = 0 then ([(3, ⟨#[]⟩, off)], 0, 0)
    else if 3 ≤ kd u then ([], kd u, off)
    else ((if kd u = 0 then [] else [(kd u, cutA u (ln u), off)]) ++ (scanF f (cutB u (ln u)) (off + plc u (ln u))).1, (scanF f (cutB u (ln u)) (off + plc u (ln u))).2)
theorem cutB_lt {u : ByteArray} (h : 0 < u.size) (hk : kd u < 3) : (cutB u (ln u)).size < u.size := by
  have h1 := cutB_size u (ln u)
  have h2 := ln_pos h hk
  have h3 := plc_mono u (show 1 ≤ ln u from h2)
  have h4 : plc u 0 < plc u 1 := plc_lt_succ (s := u) (k := 0) (by exact h)
  have h5 : plc u 0 = 0 := rfl
  omega
theorem scanF_more : ∀ (f g : Nat) (u : ByteArray) (off : Nat), u.size < f → u.size < g → scanF f u off = scanF g u off
  | 0, _, _, _, h, _ => absurd h (Nat.not_lt_zero _)
  | _ + 1, 0, _, _, _, h => absurd h (Nat.not_lt_zero _)
  | f + 1, g + 1, u, off, hf, hg => by
    unfold scanF
    by_cases h0 : u.size = 0
    · rw [if_pos h0, if_pos h0]
    rw [if_neg h0, if_neg h0]
    by_cases h3 : 3 ≤ kd u
    · rw [if_pos h3, if_pos h3]
    rw [if_neg h3, if_neg h3]
    have := cutB_lt (u := u) (by omega) (by omega)
    rw [scanF_more f g _ _ (by omega) (by omega)]
/-- The tokens from a place on, and the error and its place, if there is one. -/
def scan (u : ByteArray) (off : Nat) : List Tk × Nat × Nat := scanF (u.size + 1) u off
theorem scan_nil {u : ByteArray} {off : Nat} (h : u.size = 0) : scan u off = ([(3, ⟨#[]⟩, off)], 0, 0) := by unfold scan scanF; rw [if_pos h]
theorem scan_err {u : ByteArray} {off : Nat} (h : 0 < u.size) (hk : 3 ≤ kd u) : scan u off = ([], kd u, off) := by unfold scan scanF; rw [if_neg (by omega), if_pos hk]
theorem scan_go {u : ByteArray} {off : Nat} (h : 0 < u.size) (hk : kd u < 3) :
    scan u off = ((if kd u = 0 then [] else [(kd u, cutA u (ln u), off)]) ++ (scan (cutB u (ln u)) (off + plc u (ln u))).1, (scan (cutB u (ln u)) (off + plc u (ln u))).2) := by
  have := cutB_lt h hk
  conv => lhs; unfold scan scanF
  rw [if_neg (by omega), if_neg (by omega), scanF_more u.size ((cutB u (ln u)).size + 1) _ _ (by omega) (by omega)]
  rfl

/-- A text's tokens; else the error, and its place. -/
def allS (s : ByteArray) : List Tk × Nat × Nat :=
  if 2048 < s.size then ([], 13, 0)
  else if plc s (badN s) < s.size then ([], 11, plc s (badN s))
  else if (scan s 0).2.1 = 0 then scan s 0 else ([], (scan s 0).2)
theorem badN_valid {s : ByteArray} : validS s = true ↔ ¬ plc s (badN s) < s.size := by
  obtain ⟨a, b⟩ := runN_spec (fun i => !brk s i) s
  rw [validS_iff]
  constructor
  · intro h hl
    have h1 := b hl
    have h2 : brk s (plc s (badN s)) = false := h _ (lt_cnt.2 hl)
    have h3 : (!brk s (plc s (badN s))) = false := h1
    rw [h2] at h3; cases h3
  · intro h k hk
    have hl := lt_cnt.1 hk
    rcases Nat.lt_or_ge k (badN s) with h1 | h1
    · have := (a k h1).2
      simpa using this
    · have := plc_mono s h1
      omega
/-- Errors of the way: 30, 31; without one the place is 0. -/
theorem kd_err {u : ByteArray} (h : 3 ≤ kd u) : kd u = 30 ∨ kd u = 31 := by
  revert h
  unfold kd
  repeat' split
  all_goals omega
theorem scan_code (n : Nat) : ∀ (u : ByteArray) (off : Nat), u.size ≤ n → ((scan u off).2 = (0, 0) ∨ ((scan u off).2.1 = 30 ∨ (scan u off).2.1 = 31) ∧ off ≤ (scan u off).2.2 ∧ (scan u off).2.2 < off + u.size) := by
  induction n with
  | zero =>
    intro u off hn
    rw [scan_nil (by omega)]; exact .inl rfl
  | succ n ih =>
    intro u off hn
    rcases Nat.eq_zero_or_pos u.size with h0 | h0
    · rw [scan_nil h0]; exact .inl rfl
    by_cases h3 : 3 ≤ kd u
    · rw [scan_err h0 h3]
      exact .inr ⟨kd_err h3, Nat.le_refl _, by dsimp only; omega⟩
    · have hl := cutB_lt h0 (by omega)
      have hz := cutB_size u (ln u)
      have hE := scan_go (off := off) h0 (by omega)
      have ih := ih (cutB u (ln u)) (off + plc u (ln u)) (by omega)
      generalize scan u off = r at hE ⊢
      generalize scan (cutB u (ln u)) (off + plc u (ln u)) = r2 at hE ih
      subst hE
      rcases ih with h | ⟨h1, h2, h4⟩
      · exact .inl h
      · exact .inr ⟨h1, by dsimp only; omega, by dsimp only; omega⟩

/-- A key. -/
def keyB (s : ByteArray) : Bool := decide (s = ⟨#[116, 121, 112, 101]⟩ ∨ s = ⟨#[114, 101, 108]⟩ ∨ s = ⟨#[105, 115]⟩ ∨ s = ⟨#[116, 104, 105, 115]⟩)
end Go.Proofs.YteafdhpcnpfmkaaGreat
/- A rune by itself as a text: it is a name just if the rune may stand in one; a text's first rune is a valid text just if it isn't broken; where the newline and the words' ends lie. Conditions: none; nothing of the program is named here. -/
namespace Go.Proofs.YteafdhpcnpfmkaaGreat

theorem one_cnt {t : ByteArray} {r : Nat} (hz : 0 < t.size) (hd : Utf8.decode t 0 = (r, t.size)) : cnt t = 1 := by
  have h0 : plc t 0 < t.size := hz
  have h1 : plc t 1 = plc t 0 + wd t (plc t 0) := plc_succ h0
  have h2 : wd t (plc t 0) = t.size := by show (Utf8.decode t 0).2 = _; rw [hd]
  have h3 : plc t 0 = 0 := rfl
  exact cnt_eq (by omega) fun j hj => by obtain rfl : j = 0 := by omega
                                         exact hz
theorem one_name {t : ByteArray} {r : Nat} (hz : 0 < t.size) (hd : Utf8.decode t 0 = (r, t.size)) (hb : brk t 0 = false) : nameS t = inNameB r := by
  have hm : mayB t 0 = inNameB r := by
    unfold mayB
    rw [hb]
    show (!false && inNameB (Utf8.decode t 0).1) = _
    rw [hd]; rfl
  rw [Bool.eq_iff_iff, nameS_iff, one_cnt hz hd, ← hm]
  constructor
  · rintro ⟨_, _, h⟩
    exact h 0 (by omega)
  · intro h
    refine ⟨by omega, by omega, fun k hk => ?_⟩
    obtain rfl : k = 0 := by omega
    exact h

theorem enc_name {r : Nat} (h : r < 55296 ∨ (57344 ≤ r ∧ r ≤ 1114111)) : nameS (Utf8.encode (r : Int)) = inNameB r := by
  have hv : Utf8.valid (r : Int) = true := by unfold Utf8.valid; simp; omega
  unfold Utf8.encode
  simp only [hv, if_true, Int.toNat_natCast]
  have of : ∀ n, n < 256 → (UInt8.ofNat n).toNat = n := fun n hn => by simp; omega
  by_cases h1 : r < 128
  · rw [if_pos h1]
    show nameS (sOne r) = _
    rw [name_one (by omega), Bool.eq_iff_iff, byteB_iff]
    unfold inNameB
    rw [decide_eq_true_iff]
    omega
  rw [if_neg h1]
  by_cases h2 : r < 2048
  · rw [if_pos h2]
    have e0 := of (192 + r / 64) (by omega)
    have e1 := of (128 + r % 64) (by omega)
    generalize UInt8.ofNat (192 + r / 64) = b0 at *
    generalize UInt8.ofNat (128 + r % 64) = b1 at *
    have hd : Utf8.decode ⟨#[b0, b1]⟩ 0 = (r, 2) := by
      rw [decode_dec _ 0 (by show 0 < 2; omega), show (⟨#[b0, b1]⟩ : ByteArray).size - 0 = 2 from rfl, show bt ⟨#[b0, b1]⟩ 0 = b0.toNat from rfl, show bt ⟨#[b0, b1]⟩ (0 + 1) = b1.toNat from rfl, e0, e1]
      unfold dec
      rw [if_neg (by omega), if_pos (by omega)]
      exact Prod.ext (by dsimp only; omega) rfl
    refine one_name (by show 0 < 2; omega) hd ?_
    unfold brk rn wd
    rw [hd]
    simp
  rw [if_neg h2]
  by_cases h3 : r < 65536
  · rw [if_pos h3]
    have e0 := of (224 + r / 4096) (by omega)
    have e1 := of (128 + r / 64 % 64) (by omega)
    have e2 := of (128 + r % 64) (by omega)
    generalize UInt8.ofNat (224 + r / 4096) = b0 at *
    generalize UInt8.ofNat (128 + r / 64 % 64) = b1 at *
    generalize UInt8.ofNat (128 + r % 64) = b2 at *
    have hd : Utf8.decode ⟨#[b0, b1, b2]⟩ 0 = (r, 3) := by
      rw [decode_dec _ 0 (by show 0 < 3; omega), show (⟨#[b0, b1, b2]⟩ : ByteArray).size - 0 = 3 from rfl, show bt ⟨#[b0, b1, b2]⟩ 0 = b0.toNat from rfl, show bt ⟨#[b0, b1, b2]⟩ (0 + 1) = b1.toNat from rfl, show bt ⟨#[b0, b1, b2]⟩ (0 + 2) = b2.toNat from rfl, e0, e1, e2]
      unfold dec
      rw [if_neg (by omega), if_neg (by omega), if_pos (by omega)]
      exact Prod.ext (by dsimp only; omega) rfl
    refine one_name (by show 0 < 3; omega) hd ?_
    unfold brk rn wd
    rw [hd]
    simp
  rw [if_neg h3]
  have e0 := of (240 + r / 262144) (by omega)
  have e1 := of (128 + r / 4096 % 64) (by omega)
  have e2 := of (128 + r / 64 % 64) (by omega)
  have e3 := of (128 + r % 64) (by omega)
  generalize UInt8.ofNat (240 + r / 262144) = b0 at *
  generalize UInt8.ofNat (128 + r / 4096 % 64) = b1 at *
  generalize UInt8.ofNat (128 + r / 64 % 64) = b2 at *
  generalize UInt8.ofNat (128 + r % 64) = b3 at *
  have hd : Utf8.decode ⟨#[b0, b1, b2, b3]⟩ 0 = (r, 4) := by
    rw [decode_dec _ 0 (by show 0 < 4; omega), show (⟨#[b0, b1, b2, b3]⟩ : ByteArray).size - 0 = 4 from rfl, show bt ⟨#[b0, b1, b2, b3]⟩ 0 = b0.toNat from rfl, show bt ⟨#[b0, b1, b2, b3]⟩ (0 + 1) = b1.toNat from rfl, show bt ⟨#[b0, b1, b2, b3]⟩ (0 + 2) = b2.toNat from rfl, show bt ⟨#[b0, b1, b2, b3]⟩ (0 + 3) = b3.toNat from rfl, e0, e1, e2, e3]
    unfold dec
    rw [if_neg (by omega), if_neg (by omega), if_neg (by omega), if_pos (by omega)]
    exact Prod.ext (by dsimp only; omega) rfl
  refine one_name (by show 0 < 4; omega) hd ?_
  unfold brk rn wd
  rw [hd]
  simp
theorem rn_range {s : ByteArray} {i : Nat} (h : i < s.size) : rn s i < 55296 ∨ (57344 ≤ rn s i ∧ rn s i ≤ 1114111) := by
  have hb := bt_lt s i
  unfold rn
  rw [decode_dec s i h]
  rcases dec_cases (s.size - i) (bt s i) (bt s (i + 1)) (bt s (i + 2)) (bt s (i + 3)) with ⟨c, e⟩ | ⟨c, e⟩ | ⟨c, e⟩ | ⟨c, e⟩ | ⟨c, e⟩
  all_goals (rw [e]; dsimp only; omega)
theorem rn_name {s : ByteArray} {i : Nat} (h : i < s.size) (hb : brk s i = false) : nameS (Utf8.encode ((rn s i : Nat) : Int)) = mayB s i := by
  rw [enc_name (rn_range h)]
  unfold mayB
  rw [hb]; rfl

/-- The first rune that a text has, as a text. -/
theorem first_valid {u : ByteArray} (h : 0 < u.size) : validS (cutA u 1) = !brk u 0 := by
  have hc : cnt (cutA u 1) = 1 := by rw [cnt_cutA]; have := cnt_pos h; omega
  have hs := cutA_size u 1
  have h1 : plc u 0 < plc u 1 := plc_lt_succ (s := u) (k := 0) h
  have hd := dec_same_pre (s := u) (t := cutA u 1) (k := 1) (j := 0) hs (cutA_bt u 1) h1
  have hb : brk (cutA u 1) 0 = brk u 0 := by
    have hd' : Utf8.decode (cutA u 1) 0 = Utf8.decode u 0 := hd
    unfold brk rn wd
    rw [hd']
  rw [Bool.eq_iff_iff, validS_iff, hc]
  constructor
  · intro h2
    have : brk (cutA u 1) 0 = false := h2 0 (by omega)
    rw [← hb, this]; rfl
  · intro h2 k hk
    obtain rfl : k = 0 := by omega
    show brk (cutA u 1) 0 = false
    rw [hb]; simpa using h2
theorem brk_cutB {s : ByteArray} {k : Nat} (h : plc s k < s.size) : brk (cutB s k) 0 = brk s (plc s k) := by
  have hz := cutB_size s k
  have hd := decode_suf hz (cutB_bt s k) (i := 0) (by omega)
  unfold brk rn wd
  rw [hd, Nat.add_zero]
end Go.Proofs.YteafdhpcnpfmkaaGreat

/- Runes of two texts one behind the other, where the first one's runes stay: it is valid, or what stands behind begins with no byte that follows. Conditions: none; nothing of the program is named here. -/
namespace Go.Proofs.YteafdhpcnpfmkaaGreat

/-- The first text's runes stay. -/
def Sep (a b : ByteArray) : Prop := ∀ j, j < cnt a → Utf8.decode (a ++ b) (plc a j) = Utf8.decode a (plc a j)
theorem sep_valid {a b : ByteArray} (hv : validS a = true) : Sep a b := fun _ hj => dec_app hv hj
theorem dec_nc {a b : ByteArray} (hb : 0 < b.size → bt b 0 < 128 ∨ 192 ≤ bt b 0) {i : Nat} (hi : i < a.size) : Utf8.decode (a ++ b) i = Utf8.decode a i := by
  rcases decode_pre (s := a ++ b) (t := a) (i := i) (by rw [size_app]; omega) (fun k hk => (bt_app_left a b k hk).symm) hi with e | ⟨e, h⟩
  · exact e.symm
  · exfalso
    have hl : i < (a ++ b).size := by rw [size_app]; omega
    have hle := wd_le hl
    rw [size_app] at hle
    have hin := inner_byte hl (k := a.size) hi h
    have h0 := bt_app_right a b 0 (by omega)
    rw [Nat.add_zero] at h0
    have := hb (by omega)
    omega
theorem sep_nc {a b : ByteArray} (hb : 0 < b.size → bt b 0 < 128 ∨ 192 ≤ bt b 0) : Sep a b := fun _ hj => dec_nc hb (lt_cnt.1 hj)
section
variable {a b : ByteArray} (hv : Sep a b)
include hv
theorem sep_plc : ∀ j, j ≤ cnt a → plc (a ++ b) j = plc a j
  | 0, _ => rfl
  | j + 1, hj => by
    have ih := sep_plc j (by omega)
    have hl := lt_cnt.1 (show j < cnt a by omega)
    rw [plc_succ hl, plc_succ (by rw [ih, size_app]; omega), ih]
    unfold wd
    rw [hv j (by omega)]
theorem sep_end : plc (a ++ b) (cnt a) = a.size := by rw [sep_plc hv _ (Nat.le_refl _), (cnt_spec a).1]
theorem sep_cutA : cutA (a ++ b) (cnt a) = a := by unfold cutA; rw [sep_end hv]; exact app_left a b
theorem sep_cutB : cutB (a ++ b) (cnt a) = b := by unfold cutB; rw [sep_end hv]; exact app_right a b
theorem sep_cnt : cnt (a ++ b) = cnt a + cnt b := by
  have h1 := cnt_cutA (a ++ b) (cnt a)
  have h2 := cnt_cutB (a ++ b) (cnt a)
  rw [sep_cutA hv] at h1
  rw [sep_cutB hv] at h2
  omega
theorem sep_right (j : Nat) : plc (a ++ b) (cnt a + j) = a.size + plc b j := by
  have h := plc_cutB (a ++ b) (cnt a) j
  rw [sep_end hv, sep_cutB hv] at h
  exact h.symm
theorem sep_dec_right {j : Nat} (hj : j < cnt b) : Utf8.decode (a ++ b) (plc (a ++ b) (cnt a + j)) = Utf8.decode b (plc b j) := by
  rw [sep_right hv]
  exact (decode_suf (s := a ++ b) (t := b) (p := a.size) (by rw [size_app]) (fun k hk => (bt_app_right a b k hk).symm) (lt_cnt.1 hj)).symm
theorem sep_brk {j : Nat} (hj : j < cnt a) : brk (a ++ b) (plc (a ++ b) j) = brk a (plc a j) := by
  unfold brk rn wd
  rw [sep_plc hv j (by omega), hv j hj]
theorem sep_may {j : Nat} (hj : j < cnt a) : mayB (a ++ b) (plc (a ++ b) j) = mayB a (plc a j) := by
  unfold mayB brk rn wd
  rw [sep_plc hv j (by omega), hv j hj]
theorem sep_brk_right {j : Nat} (hj : j < cnt b) : brk (a ++ b) (plc (a ++ b) (cnt a + j)) = brk b (plc b j) := by
  unfold brk rn wd
  rw [sep_dec_right hv hj]
theorem sep_may_right {j : Nat} (hj : j < cnt b) : mayB (a ++ b) (plc (a ++ b) (cnt a + j)) = mayB b (plc b j) := by
  unfold mayB brk rn wd
  rw [sep_dec_right hv hj]
theorem sep_validS : validS (a ++ b) = (validS a && validS b) := by
  rw [Bool.eq_iff_iff, Bool.and_eq_true, validS_iff, validS_iff, validS_iff, sep_cnt hv]
  constructor
  · intro h
    exact ⟨fun k hk => by rw [← sep_brk hv hk]; exact h k (by omega), fun k hk => by rw [← sep_brk_right hv hk]; exact h _ (by omega)⟩
  · rintro ⟨h1, h2⟩ k hk
    by_cases hl : k < cnt a
    · rw [sep_brk hv hl]; exact h1 k hl
    · obtain ⟨j, rfl⟩ : ∃ j, k = cnt a + j := ⟨k - cnt a, by omega⟩
      rw [sep_brk_right hv (by omega)]; exact h2 j (by omega)
/-- The place of the first broken byte: where the first text has one, that. -/
theorem sep_bad (h : plc a (badN a) < a.size) : badN (a ++ b) = badN a ∧ plc (a ++ b) (badN (a ++ b)) = plc a (badN a) := by
  have hl := lt_cnt.2 h
  obtain ⟨x, y⟩ := runN_spec (fun i => !brk a i) a
  have e : badN (a ++ b) = badN a := by
    refine runN_eq (fun j hj => ?_) fun _ => ?_
    · have hj2 : j < cnt a := Nat.lt_trans hj hl
      refine ⟨by rw [sep_plc hv j (by omega), size_app]; have := lt_cnt.1 hj2; omega, ?_⟩
      rw [sep_brk hv hj2]; exact (x j hj).2
    · rw [sep_brk hv hl]; exact y h
  exact ⟨e, by rw [e, sep_plc hv _ (by omega)]⟩
theorem sep_bad_right (ha : validS a = true) (h : plc b (badN b) < b.size) : plc (a ++ b) (badN (a ++ b)) = a.size + plc b (badN b) := by
  have hl := lt_cnt.2 h
  obtain ⟨x, y⟩ := runN_spec (fun i => !brk b i) b
  have e : badN (a ++ b) = cnt a + badN b := by
    refine runN_eq (fun j hj => ?_) fun _ => ?_
    · by_cases hj2 : j < cnt a
      · refine ⟨by rw [sep_plc hv j (by omega), size_app]; have := lt_cnt.1 hj2; omega, ?_⟩
        rw [sep_brk hv hj2, validS_iff.1 ha j hj2]; rfl
      · obtain ⟨i, rfl⟩ : ∃ i, j = cnt a + i := ⟨j - cnt a, by omega⟩
        have hi : i < badN b := by omega
        refine ⟨by rw [sep_right hv, size_app]; have := (x i hi).1; omega, ?_⟩
        rw [sep_brk_right hv (by omega)]; exact (x i hi).2
    · rw [sep_brk_right hv hl]; exact y h
  rw [e, sep_right hv]
end

/-! bytes by themselves -/
theorem ascii_first {n : Nat} {r : ByteArray} (h : n < 256) : bt (sOne n ++ r) 0 = n := by rw [bt_app_left _ _ _ (by rw [sOne_size]; omega), sOne_bt h]
theorem sOne_valid {n : Nat} (h : n < 128) : validS (sOne n) = true := by
  rw [validS_iff, sOne_cnt]
  intro k hk
  obtain rfl : k = 0 := by omega
  show brk (sOne n) 0 = false
  have := (dec_low (s := sOne n) (i := 0) (by rw [sOne_size]; omega) (by rw [sOne_bt (by omega)]; exact h))
  unfold brk
  rw [this.2, this.1, sOne_bt (by omega), decide_eq_false_iff_not]
  omega
theorem one_cutB {n : Nat} {r : ByteArray} (h : n < 128) : cutB (sOne n ++ r) 1 = r ∧ plc (sOne n ++ r) 1 = 1 ∧ cutA (sOne n ++ r) 1 = sOne n := by
  have hs := sep_valid (b := r) (sOne_valid h)
  have h1 := sep_cutB hs
  have h2 := sep_end hs
  have h3 := sep_cutA hs
  rw [sOne_cnt] at h1 h2 h3
  exact ⟨h1, h2, h3⟩
theorem app_assoc (a b c : ByteArray) : a ++ b ++ c = a ++ (b ++ c) := by
  refine bt_ext (by simp only [size_app]; omega) fun k hk => ?_
  simp only [size_app] at hk
  by_cases h1 : k < a.size
  · rw [bt_app_left _ _ _ (by rw [size_app]; omega), bt_app_left _ _ _ h1, bt_app_left _ _ _ h1]
  · obtain ⟨i, rfl⟩ : ∃ i, k = a.size + i := ⟨k - a.size, by omega⟩
    by_cases h2 : i < b.size
    · rw [bt_app_left _ _ _ (by rw [size_app]; omega), bt_app_right _ _ _ h2, bt_app_right _ _ _ (by rw [size_app]; omega), bt_app_left _ _ _ h2]
    · obtain ⟨j, rfl⟩ : ∃ j, i = b.size + j := ⟨i - b.size, by omega⟩
      have e : bt (a ++ b ++ c) (a.size + (b.size + j)) = bt c j := by
        have := bt_app_right (a ++ b) c j (by omega)
        rwa [size_app, Nat.add_assoc] at this
      rw [e, bt_app_right _ _ _ (by rw [size_app]; omega), bt_app_right _ _ _ (by omega)]
theorem app_nil (a : ByteArray) : a ++ ⟨#[]⟩ = a := bt_ext (by rw [size_app]; rfl) fun k hk => by
  rw [size_app] at hk
  have e : (⟨#[]⟩ : ByteArray).size = 0 := rfl
  exact bt_app_left _ _ _ (by omega)
theorem nil_app' (a : ByteArray) : (⟨#[]⟩ : ByteArray) ++ a = a := bt_ext (by rw [size_app]; exact Nat.zero_add _) fun k hk => by
  have e : (⟨#[]⟩ : ByteArray).size = 0 := rfl
  rw [size_app, e, Nat.zero_add] at hk
  have := bt_app_right ⟨#[]⟩ a k hk
  rwa [e, Nat.zero_add] at this
end Go.Proofs.YteafdhpcnpfmkaaGreat

/- Tokens of texts that are put behind each other: blanks, words, signs, notes ahead of a rest; a text ahead of a newline. Conditions: none; nothing of the program is named here. -/
namespace Go.Proofs.YteafdhpcnpfmkaaGreat

/-! words and notes that end where the second text begins -/
section
variable {a b : ByteArray} (hs : Sep a b)
include hs
theorem wrN_sep (hb : 0 < b.size → mayB b 0 = false) : wrN (a ++ b) = wrN a := by
  obtain ⟨x, y⟩ := runN_spec (mayB a) a
  have hle := runN_le (mayB a) a
  refine runN_eq (fun j hj => ?_) fun h => ?_
  · have hj2 : j < cnt a := Nat.lt_of_lt_of_le hj hle
    refine ⟨by rw [sep_plc hs j (by omega), size_app]; have := lt_cnt.1 hj2; omega, ?_⟩
    rw [sep_may hs hj2]; exact (x j hj).2
  · rcases Nat.lt_or_ge (runN (mayB a) a) (cnt a) with h1 | h1
    · show mayB (a ++ b) (plc (a ++ b) (runN (mayB a) a)) = false
      rw [sep_may hs h1]
      exact y (lt_cnt.1 h1)
    · have e : runN (mayB a) a = cnt a := by omega
      show mayB (a ++ b) (plc (a ++ b) (runN (mayB a) a)) = false
      have h' : plc (a ++ b) (runN (mayB a) a) < (a ++ b).size := h
      have hb0 : 0 < b.size := by rw [e, sep_end hs, size_app] at h'; omega
      have := sep_may_right hs (j := 0) (cnt_pos hb0)
      rw [Nat.add_zero] at this
      rw [e, this]; exact hb hb0
theorem ntN_sep (hb : 0 < b.size → bt b 0 = 10) : ntN (a ++ b) = ntN a := by
  obtain ⟨x, y⟩ := runN_spec (fun i => !decide (bt a i = 10)) a
  have hle := runN_le (fun i => !decide (bt a i = 10)) a
  refine runN_eq (fun j hj => ?_) fun h => ?_
  · have hj2 : j < cnt a := Nat.lt_of_lt_of_le hj hle
    have h1 := lt_cnt.1 hj2
    refine ⟨by rw [sep_plc hs j (by omega), size_app]; omega, ?_⟩
    rw [sep_plc hs j (by omega), bt_app_left _ _ _ h1]; exact (x j hj).2
  · have h' : plc (a ++ b) (ntN a) < (a ++ b).size := h
    show (!decide (bt (a ++ b) (plc (a ++ b) (ntN a)) = 10)) = false
    have hle' : ntN a ≤ cnt a := hle
    rcases Nat.lt_or_ge (ntN a) (cnt a) with h1 | h1
    · have h2 := lt_cnt.1 h1
      rw [sep_plc hs _ (by omega), bt_app_left _ _ _ h2]
      exact y h2
    · have e : ntN a = cnt a := by omega
      have hb0 : 0 < b.size := by rw [e, sep_end hs, size_app] at h'; omega
      have h3 := bt_app_right a b 0 hb0
      rw [Nat.add_zero] at h3
      rw [e, sep_end hs, h3, hb hb0]; rfl
theorem kd_sep (ha : 0 < a.size) (hb : 0 < b.size) (h10 : bt b 0 = 10) : kd (a ++ b) = kd a ∧ ln (a ++ b) = ln a := by
  have h0 : bt (a ++ b) 0 = bt a 0 := bt_app_left _ _ _ ha
  have hm : mayB b 0 = false := by rw [may_low hb (by omega), h10]; rfl
  have hm0 : mayB (a ++ b) 0 = mayB a 0 := sep_may hs (j := 0) (cnt_pos ha)
  have hw := wrN_sep hs fun _ => hm
  have hn := ntN_sep hs fun _ => h10
  have h1 : (1 < (a ++ b).size ∧ bt (a ++ b) 1 = 47) = (1 < a.size ∧ bt a 1 = 47) := by
    apply propext
    by_cases hz : 1 < a.size
    · rw [bt_app_left _ _ _ hz, size_app]
      exact ⟨fun h => ⟨hz, h.2⟩, fun h => ⟨by omega, h.2⟩⟩
    · have e : a.size = 1 := by omega
      have h2 := bt_app_right a b 0 hb
      rw [Nat.add_zero, e] at h2
      rw [h2, h10]
      exact ⟨fun h => absurd h.2 (by decide), fun h => absurd h.1 hz⟩
  constructor
  · unfold kd
    simp only [h0, h1, hm0, hw]
  · unfold ln
    simp only [h0, hw, hn]
end
theorem cutB_app {a b : ByteArray} (hs : Sep a b) {n : Nat} (hn : n ≤ cnt a) : cutB (a ++ b) n = cutB a n ++ b ∧ cutA (a ++ b) n = cutA a n := by
  have hp := sep_plc hs n hn
  have hle := plc_le a n
  have h1 := cutB_size (a ++ b) n
  have h2 := cutB_size a n
  rw [hp, size_app] at h1
  constructor
  · refine bt_ext (by rw [size_app]; omega) fun k hk => ?_
    rw [cutB_bt _ _ k hk, hp]
    by_cases hk2 : k < (cutB a n).size
    · rw [bt_app_left _ _ _ hk2, cutB_bt _ _ k hk2, bt_app_left _ _ _ (by omega)]
    · obtain ⟨i, rfl⟩ : ∃ i, k = (cutB a n).size + i := ⟨k - (cutB a n).size, by omega⟩
      rw [bt_app_right _ _ _ (by omega), show plc a n + ((cutB a n).size + i) = a.size + i by omega, bt_app_right _ _ _ (by omega)]
  · have h3 := cutA_size (a ++ b) n
    have h4 := cutA_size a n
    rw [hp] at h3
    refine bt_ext (by omega) fun k hk => ?_
    rw [cutA_bt _ _ k hk, cutA_bt _ _ k (by omega), bt_app_left _ _ _ (by omega)]
theorem valid_cut {s : ByteArray} (hv : validS s = true) (k : Nat) : validS (cutB s k) = true := by
  rw [validS_iff] at hv ⊢
  intro j hj
  rw [cnt_cutB] at hj
  have h1 := plc_cutB s k j
  have h2 := cutB_size s k
  have h3 := lt_cnt.1 (show k + j < cnt s by omega)
  have h4 := decode_suf h2 (cutB_bt s k) (i := plc (cutB s k) j) (by omega)
  have h5 := hv (k + j) (by omega)
  unfold brk rn wd at h5 ⊢
  rw [h4, h1]; exact h5
/-- With no error there is a token. -/
theorem scan_ne (n : Nat) : ∀ (u : ByteArray) (off : Nat), u.size ≤ n → (scan u off).2.1 = 0 → (scan u off).1 ≠ [] := by
  induction n with
  | zero =>
    intro u off hn _
    rw [scan_nil (by omega)]; simp
  | succ n ih =>
    intro u off hn h0
    rcases Nat.eq_zero_or_pos u.size with h | h
    · rw [scan_nil h]; simp
    by_cases h3 : 3 ≤ kd u
    · rw [scan_err h h3] at h0
      dsimp only at h0
      omega
    · have hl := cutB_lt h (by omega)
      have hE := scan_go (off := off) h (by omega)
      have ih := ih (cutB u (ln u)) (off + plc u (ln u)) (by omega)
      generalize scan u off = r at hE h0 ⊢
      generalize scan (cutB u (ln u)) (off + plc u (ln u)) = r2 at hE ih
      subst hE
      dsimp only at h0 ⊢
      have := ih h0
      simp [this]
/-- A text ahead of a newline. -/
theorem scan_sep (n : Nat) : ∀ (a b : ByteArray) (off : Nat), a.size ≤ n → validS a = true → 0 < b.size → bt b 0 = 10 →
    ((scan a off).2.1 = 0 → (scan (a ++ b) off).1 = (scan a off).1.dropLast ++ (scan b (off + a.size)).1 ∧ (scan (a ++ b) off).2 = (scan b (off + a.size)).2) ∧
    (¬ (scan a off).2.1 = 0 → (scan (a ++ b) off).2 = (scan a off).2) := by
  induction n with
  | zero =>
    intro a b off hn hv hb h10
    have ha : a = ⟨#[]⟩ := nil_size (by omega)
    subst ha
    rw [nil_app', scan_nil (u := ⟨#[]⟩) rfl]
    exact ⟨fun _ => ⟨rfl, rfl⟩, fun h => absurd rfl h⟩
  | succ n ih =>
    intro a b off hn hv hb h10
    rcases Nat.eq_zero_or_pos a.size with h | h
    · have ha : a = ⟨#[]⟩ := nil_size h
      subst ha
      rw [nil_app', scan_nil (u := ⟨#[]⟩) rfl]
      exact ⟨fun _ => ⟨rfl, rfl⟩, fun h => absurd rfl h⟩
    · have hs := sep_valid (b := b) hv
      obtain ⟨hkd, hln⟩ := kd_sep hs h hb h10
      have hz : 0 < (a ++ b).size := by rw [size_app]; omega
      by_cases h3 : 3 ≤ kd a
      · rw [scan_err h h3, scan_err hz (by omega), hkd]
        exact ⟨fun h => by dsimp only at h; omega, fun _ => rfl⟩
      · have hle := ln_le h
        have hl := cutB_lt h (by omega)
        have hE := scan_go (off := off) h (by omega)
        have hE2 := scan_go (u := a ++ b) (off := off) hz (by omega)
        obtain ⟨e1, e2⟩ := cutB_app hs hle
        have hp := sep_plc hs _ hle
        have hcz := cutB_size a (ln a)
        have hne := scan_ne _ (cutB a (ln a)) (off + plc a (ln a)) (Nat.le_refl _)
        have ih := ih (cutB a (ln a)) b (off + plc a (ln a)) (by omega) (valid_cut hv _) hb h10
        rw [hkd, hln, e1, e2, hp] at hE2
        rw [show off + plc a (ln a) + (cutB a (ln a)).size = off + a.size by omega] at ih
        generalize scan a off = r at hE ⊢
        generalize scan (a ++ b) off = rr at hE2 ⊢
        generalize scan (cutB a (ln a)) (off + plc a (ln a)) = r2 at hE ih hne
        generalize scan (cutB a (ln a) ++ b) (off + plc a (ln a)) = r3 at hE2 ih
        generalize scan b (off + a.size) = r4 at ih ⊢
        subst hE hE2
        dsimp only
        refine ⟨fun h0 => ?_, fun h0 => ih.2 h0⟩
        obtain ⟨f1, f2⟩ := ih.1 h0
        refine ⟨?_, f2⟩
        rw [f1, List.dropLast_append_of_ne_nil (hne h0), List.append_assoc]
end Go.Proofs.YteafdhpcnpfmkaaGreat

/- Tokens of texts that begin with a blank, a sign, a word, a note, or with what is wrong; a text's tokens at another place; what tokens are. Conditions: none; nothing of the program is named here. -/
namespace Go.Proofs.YteafdhpcnpfmkaaGreat

theorem may_not {u : ByteArray} (h : 0 < u.size) (hm : mayB u 0 = true) : blankB (bt u 0) = false ∧ signB (bt u 0) = false ∧ bt u 0 ≠ 47 := by
  by_cases hb : bt u 0 < 128
  · rw [may_low h hb] at hm
    have hm := byteB_iff.1 hm
    refine ⟨?_, ?_, by omega⟩
    · rw [Bool.eq_false_iff]; intro e; have := blankB_iff.1 e; omega
    · rw [Bool.eq_false_iff]; intro e; have := signB_iff.1 e; omega
  · refine ⟨?_, ?_, by omega⟩
    · rw [Bool.eq_false_iff]; intro e; have := blankB_iff.1 e; omega
    · rw [Bool.eq_false_iff]; intro e; have := signB_iff.1 e; omega
section
variable {r : ByteArray} {off : Nat}
theorem scan_blank1 {c : Nat} (h : blankB c = true) : scan (sOne c ++ r) off = scan r (off + 1) := by
  have hc := blankB_iff.1 h
  have h0 := ascii_first (r := r) (show c < 256 by omega)
  obtain ⟨e1, e2, e3⟩ := one_cutB (r := r) (show c < 128 by omega)
  have hz : 0 < (sOne c ++ r).size := by rw [size_app, sOne_size]; omega
  have hkd : kd (sOne c ++ r) = 0 := by unfold kd; rw [h0, if_pos h]
  have hln : ln (sOne c ++ r) = 1 := by unfold ln; rw [h0, if_pos h]
  have hE := scan_go (off := off) hz (by omega)
  rw [if_pos hkd, hln, e1, e2, List.nil_append] at hE
  exact hE
theorem scan_sign1 {c : Nat} (h : signB c = true) : scan (sOne c ++ r) off = ((2, sOne c, off) :: (scan r (off + 1)).1, (scan r (off + 1)).2) := by
  have hc := signB_iff.1 h
  have h0 := ascii_first (r := r) (show c < 256 by omega)
  obtain ⟨e1, e2, e3⟩ := one_cutB (r := r) (show c < 128 by omega)
  have hz : 0 < (sOne c ++ r).size := by rw [size_app, sOne_size]; omega
  have hnb : ¬ blankB c = true := by rw [blankB_iff]; omega
  have hkd : kd (sOne c ++ r) = 2 := by unfold kd; rw [h0, if_neg hnb, if_pos h]
  have hln : ln (sOne c ++ r) = 1 := by unfold ln; rw [h0, if_neg hnb, if_pos h]
  have hE := scan_go (off := off) hz (by omega)
  rw [if_neg (by omega), hkd, hln, e1, e2, e3] at hE
  exact hE
theorem wrN_all {x : ByteArray} (h : ∀ k, k < cnt x → mayB x (plc x k) = true) : wrN x = cnt x :=
  runN_eq (fun j hj => ⟨lt_cnt.1 hj, h j hj⟩) fun hh => absurd hh (by rw [(cnt_spec x).1]; omega)
theorem kd_word {x : ByteArray} (hx : 0 < x.size) (h : ∀ k, k < cnt x → mayB x (plc x k) = true) (hv : Sep x r) (hr : 0 < r.size → mayB r 0 = false) : kd (x ++ r) = (if cnt x ≤ 24 then 1 else 31) ∧ ln (x ++ r) = cnt x := by
  have h0 : bt (x ++ r) 0 = bt x 0 := bt_app_left _ _ _ hx
  have hm : mayB x 0 = true := h 0 (cnt_pos hx)
  obtain ⟨a, b, c⟩ := may_not hx hm
  have hm0 : mayB (x ++ r) 0 = true := (sep_may hv (j := 0) (cnt_pos hx)).trans hm
  have hw := (wrN_sep hv hr).trans (wrN_all h)
  constructor
  · unfold kd
    simp only [h0, hm0, hw, a, b, if_neg c, if_true]
    rfl
  · unfold ln
    simp only [h0, hw, a, b, if_neg c]
    rfl
theorem may_sep {x : ByteArray} (h : ∀ k, k < cnt x → mayB x (plc x k) = true) : validS x = true := by
  rw [validS_iff]
  intro k hk
  have := h k hk
  unfold mayB at this
  simp at this
  exact this.1
theorem scan_word1 {x : ByteArray} (hx : nameS x = true) (hr : 0 < r.size → mayB r 0 = false) : scan (x ++ r) off = ((1, x, off) :: (scan r (off + x.size)).1, (scan r (off + x.size)).2) := by
  obtain ⟨h1, h2, h3⟩ := nameS_iff.1 hx
  have hx0 : 0 < x.size := by have := cnt_le x; omega
  have hv := sep_valid (b := r) (may_sep h3)
  obtain ⟨hkd, hln⟩ := kd_word hx0 h3 hv hr
  rw [if_pos h2] at hkd
  have hz : 0 < (x ++ r).size := by rw [size_app]; omega
  have hE := scan_go (off := off) hz (by omega)
  rw [if_neg (by omega), hkd, hln, sep_cutA hv, sep_cutB hv, sep_end hv] at hE
  exact hE
theorem scan_long1 {x : ByteArray} (h3 : ∀ k, k < cnt x → mayB x (plc x k) = true) (h24 : 24 < cnt x) (hr : 0 < r.size → mayB r 0 = false) : scan (x ++ r) off = ([], 31, off) := by
  have hx0 : 0 < x.size := by have := cnt_le x; omega
  have hv := sep_valid (b := r) (may_sep h3)
  obtain ⟨hkd, _⟩ := kd_word hx0 h3 hv hr
  rw [if_neg (by omega)] at hkd
  rw [scan_err (by rw [size_app]; omega) (by omega), hkd]
def sSl : ByteArray := ⟨#[47, 47]⟩
theorem sSl_valid : validS sSl = true := by decide +kernel
theorem scan_note1 {n : ByteArray} (hv : validS n = true) (hn : ∀ i, i < n.size → bt n i ≠ 10) (hr : 0 < r.size → bt r 0 = 10) : scan (sSl ++ n ++ r) off = scan r (off + 2 + n.size) := by
  have hs1 := sep_valid (b := n) sSl_valid
  have hva : validS (sSl ++ n) = true := by rw [sep_validS hs1, sSl_valid, hv]; rfl
  have hs := sep_valid (b := r) hva
  have hz2 : sSl.size = 2 := rfl
  have hsz : (sSl ++ n).size = 2 + n.size := by rw [size_app, hz2]
  have hall : ∀ i, i < (sSl ++ n).size → bt (sSl ++ n) i ≠ 10 := fun i hi => by
    by_cases h2 : i < 2
    · rw [bt_app_left _ _ _ (by omega)]
      obtain rfl | rfl : i = 0 ∨ i = 1 := by omega
      · decide
      · decide
    · obtain ⟨j, rfl⟩ : ∃ j, i = sSl.size + j := ⟨i - 2, by omega⟩
      rw [bt_app_right _ _ _ (by omega)]
      exact hn j (by omega)
  have hnt : ntN (sSl ++ n) = cnt (sSl ++ n) := runN_eq (fun j hj => by
    have h1 := lt_cnt.1 hj
    exact ⟨h1, by simp [hall _ h1]⟩) fun hh => absurd hh (by rw [(cnt_spec _).1]; omega)
  have hnt2 := (ntN_sep hs hr).trans hnt
  have h0 : bt (sSl ++ n ++ r) 0 = 47 := by rw [bt_app_left _ _ _ (by omega), bt_app_left _ _ _ (by omega)]; rfl
  have h1 : bt (sSl ++ n ++ r) 1 = 47 := by rw [bt_app_left _ _ _ (by omega), bt_app_left _ _ _ (by omega)]; rfl
  have hz : 1 < (sSl ++ n ++ r).size := by rw [size_app]; omega
  have hkd : kd (sSl ++ n ++ r) = 0 := by
    unfold kd
    rw [h0, h1, show blankB 47 = false from rfl, show signB 47 = false from rfl, if_neg (by decide), if_neg (by decide), if_pos rfl, if_pos ⟨hz, rfl⟩]
  have hln : ln (sSl ++ n ++ r) = cnt (sSl ++ n) := by
    unfold ln
    rw [h0, show blankB 47 = false from rfl, show signB 47 = false from rfl, if_neg (by decide), if_neg (by decide), if_pos rfl, hnt2]
  have hE := scan_go (off := off) (u := sSl ++ n ++ r) (by omega) (by omega)
  rw [if_pos hkd, hln, sep_cutB hs, sep_end hs, hsz, List.nil_append, ← Nat.add_assoc] at hE
  exact hE
theorem scan_slash1 (hr : 0 < r.size → bt r 0 ≠ 47) : scan (sOne 47 ++ r) off = ([], 30, off) := by
  have h0 := ascii_first (r := r) (show 47 < 256 by omega)
  have hkd : kd (sOne 47 ++ r) = 30 := by
    unfold kd
    rw [h0, show blankB 47 = false from rfl, show signB 47 = false from rfl, if_neg (by decide), if_neg (by decide), if_pos rfl, if_neg]
    rintro ⟨a, b⟩
    rw [size_app, sOne_size] at a
    have h1 := bt_app_right (sOne 47) r 0 (by omega)
    rw [sOne_size] at h1
    rw [h1] at b
    exact hr (by omega) b
  rw [scan_err (by rw [size_app, sOne_size]; omega) (by omega), hkd]
theorem scan_other1 {c : Nat} (hc : c < 128) (h1 : blankB c = false) (h2 : signB c = false) (h3 : c ≠ 47) (h4 : byteB c = false) : scan (sOne c ++ r) off = ([], 30, off) := by
  have h0 := ascii_first (r := r) (show c < 256 by omega)
  have hz : 0 < (sOne c ++ r).size := by rw [size_app, sOne_size]; omega
  have hm : mayB (sOne c ++ r) 0 = false := by rw [may_low hz (by rw [h0]; exact hc), h0, h4]
  have hkd : kd (sOne c ++ r) = 30 := by
    unfold kd
    rw [h0, h1, h2, hm, if_neg (by decide), if_neg (by decide), if_neg h3, if_neg (by decide)]
  rw [scan_err hz (by omega), hkd]
end

/-- The tokens at another place. -/
def shT (d : Nat) (t : Tk) : Tk := (t.1, t.2.1, t.2.2 + d)
theorem scan_shift (n : Nat) : ∀ (u : ByteArray) (off d : Nat), u.size ≤ n → (scan u (off + d)).1 = (scan u off).1.map (shT d) ∧ (scan u (off + d)).2.1 = (scan u off).2.1 := by
  induction n with
  | zero =>
    intro u off d hn
    rw [scan_nil (by omega), scan_nil (by omega)]; exact ⟨rfl, rfl⟩
  | succ n ih =>
    intro u off d hn
    rcases Nat.eq_zero_or_pos u.size with h | h
    · rw [scan_nil h, scan_nil h]; exact ⟨rfl, rfl⟩
    by_cases h3 : 3 ≤ kd u
    · rw [scan_err h h3, scan_err h h3]; exact ⟨rfl, rfl⟩
    · have hl := cutB_lt h (by omega)
      have hE := scan_go (off := off) h (by omega)
      have hE2 := scan_go (off := off + d) h (by omega)
      have ih := ih (cutB u (ln u)) (off + plc u (ln u)) d (by omega)
      rw [show off + d + plc u (ln u) = off + plc u (ln u) + d by omega] at hE2
      generalize scan u off = r at hE ⊢
      generalize scan u (off + d) = q at hE2 ⊢
      generalize scan (cutB u (ln u)) (off + plc u (ln u)) = r2 at hE ih
      generalize scan (cutB u (ln u)) (off + plc u (ln u) + d) = q2 at hE2 ih
      subst hE hE2
      dsimp only
      refine ⟨?_, ih.2⟩
      rw [ih.1, List.map_append]
      congr 1
      split <;> rfl
/-- What a token is that isn't the end. -/
def TkOK (t : Tk) : Prop := (t.1 = 1 ∧ nameS t.2.1 = true) ∨ (t.1 = 2 ∧ ∃ c, signB c = true ∧ t.2.1 = sOne c)
theorem step_ok {u : ByteArray} (h : 0 < u.size) (h3 : kd u < 3) (h0 : ¬ kd u = 0) (off : Nat) : TkOK (kd u, cutA u (ln u), off) := by
  unfold TkOK
  by_cases hb : blankB (bt u 0) = true
  · exact absurd (by unfold kd; rw [if_pos hb]) h0
  by_cases hs : signB (bt u 0) = true
  · right
    have hc := signB_iff.1 hs
    have hkd : kd u = 2 := by unfold kd; rw [if_neg hb, if_pos hs]
    have hln : ln u = 1 := by unfold ln; rw [if_neg hb, if_pos hs]
    refine ⟨hkd, bt u 0, hs, ?_⟩
    have hp : plc u 1 = 1 := by
      have h1 : plc u 1 = plc u 0 + wd u (plc u 0) := plc_succ (s := u) (k := 0) h
      have h2 : wd u 0 = 1 := (dec_low h (by omega)).2
      rw [h1, show plc u 0 = 0 from rfl, h2]
    have hz := cutA_size u 1
    rw [hln]
    show cutA u 1 = sOne (bt u 0)
    refine bt_ext (by rw [hz, hp, sOne_size]) fun k hk => ?_
    have hk' := hk
    rw [hz, hp] at hk'
    obtain rfl : k = 0 := by omega
    rw [cutA_bt _ _ _ hk, sOne_bt (by omega)]
  · left
    by_cases h47 : bt u 0 = 47
    · exfalso
      have : kd u = 0 ∨ kd u = 30 := by
        unfold kd; rw [if_neg hb, if_neg hs, if_pos h47]
        split
        · exact .inl rfl
        · exact .inr rfl
      omega
    · have hkd : kd u = (if mayB u 0 = true then (if wrN u ≤ 24 then 1 else 31) else 30) := by
        conv => lhs; unfold kd
        rw [if_neg hb, if_neg hs, if_neg h47]
      have hln : ln u = wrN u := by unfold ln; rw [if_neg hb, if_neg hs, if_neg h47]
      by_cases hm : mayB u 0 = true
      · rw [if_pos hm] at hkd
        by_cases h24 : wrN u ≤ 24
        · rw [if_pos h24] at hkd
          refine ⟨hkd, ?_⟩
          rw [hln]
          have hle : wrN u ≤ cnt u := runN_le _ u
          have hpos : 0 < wrN u := runN_pos h hm
          rw [nameS_iff, cnt_cutA, Nat.min_eq_left hle]
          refine ⟨hpos, h24, fun k hk => ?_⟩
          have hlt : plc u k < plc u (wrN u) := Nat.lt_of_lt_of_le (plc_lt_succ (lt_cnt.1 (by omega))) (plc_mono u hk)
          have hd := dec_same_pre (s := u) (t := cutA u (wrN u)) (k := wrN u) (j := k) (cutA_size u _) (cutA_bt u _) hlt
          have hp := plc_pre (s := u) (t := cutA u (wrN u)) (k := wrN u) (cutA_size u _) (cutA_bt u _) k (by omega)
          have := ((runN_spec (mayB u) u).1 k hk).2
          unfold mayB brk rn wd at this ⊢
          rw [hp, hd]; exact this
        · rw [if_neg h24] at hkd; omega
      · rw [if_neg hm] at hkd; omega
theorem scan_init (n : Nat) : ∀ (u : ByteArray) (off : Nat), u.size ≤ n → (scan u off).2.1 = 0 → ∃ init, (scan u off).1 = init ++ [(3, ⟨#[]⟩, off + u.size)] ∧ ∀ t ∈ init, TkOK t := by
  induction n with
  | zero =>
    intro u off hn _
    rw [scan_nil (by omega), show off + u.size = off by omega]; exact ⟨[], rfl, fun t h => by cases h⟩
  | succ n ih =>
    intro u off hn h0
    rcases Nat.eq_zero_or_pos u.size with h | h
    · rw [scan_nil h, h]; exact ⟨[], rfl, fun t h => by cases h⟩
    by_cases h3 : 3 ≤ kd u
    · rw [scan_err h h3] at h0
      dsimp only at h0
      omega
    · have hl := cutB_lt h (by omega)
      have hcz := cutB_size u (ln u)
      have hE := scan_go (off := off) h (by omega)
      have ih := ih (cutB u (ln u)) (off + plc u (ln u)) (by omega)
      rw [show off + plc u (ln u) + (cutB u (ln u)).size = off + u.size by omega] at ih
      generalize scan u off = r at hE h0 ⊢
      generalize scan (cutB u (ln u)) (off + plc u (ln u)) = r2 at hE ih
      subst hE
      dsimp only at h0 ⊢
      obtain ⟨init, e, hi⟩ := ih h0
      rw [e, ← List.append_assoc]
      refine ⟨_, rfl, fun t ht => ?_⟩
      rcases List.mem_append.1 ht with ht | ht
      · split at ht
        · cases ht
        · rename_i hk
          simp only [List.mem_cons, List.not_mem_nil, or_false] at ht
          subst ht
          exact step_ok h (by omega) hk off
      · exact hi t ht
end Go.Proofs.YteafdhpcnpfmkaaGreat

/- A text's tokens, and those of the text with a note or a single slash behind it or ahead of it. Conditions: short texts; the note is valid and has no newline. -/
namespace Go.Proofs.YteafdhpcnpfmkaaGreat

section
variable {s : ByteArray}
theorem all_ok (hz : s.size ≤ 2048) (hv : validS s = true) (h : (scan s 0).2.1 = 0) : allS s = scan s 0 := by
  unfold allS
  rw [if_neg (by omega), if_neg (badN_valid.1 hv), if_pos h]
theorem all_err (hz : s.size ≤ 2048) (hv : validS s = true) (h : ¬ (scan s 0).2.1 = 0) : allS s = ([], (scan s 0).2) := by
  unfold allS
  rw [if_neg (by omega), if_neg (badN_valid.1 hv), if_neg h]
theorem bad_lt (hv : validS s = false) : plc s (badN s) < s.size := by
  rcases Nat.lt_or_ge (plc s (badN s)) s.size with h | h
  · exact h
  · rw [badN_valid.2 (by omega)] at hv; cases hv
theorem all_bad (hz : s.size ≤ 2048) (hv : validS s = false) : allS s = ([], 11, plc s (badN s)) := by
  unfold allS
  rw [if_neg (by omega), if_pos (bad_lt hv)]
theorem all_zero (hz : s.size ≤ 2048) (h : (allS s).2.1 = 0) : validS s = true ∧ (scan s 0).2.1 = 0 ∧ allS s = scan s 0 := by
  cases hv : validS s with
  | false => rw [all_bad hz hv] at h; dsimp only at h; omega
  | true =>
    by_cases h0 : (scan s 0).2.1 = 0
    · exact ⟨rfl, h0, all_ok hz hv h0⟩
    · rw [all_err hz hv h0] at h
      exact absurd h h0
theorem scan_zero {u : ByteArray} {off : Nat} (h : (scan u off).2.1 = 0) : (scan u off).2 = (0, 0) := by
  rcases scan_code _ u off (Nat.le_refl _) with e | ⟨e, _⟩
  · exact e
  · omega
/-- A text ahead of what begins with a newline. -/
theorem all_sep {b : ByteArray} (hb : 0 < b.size) (h10 : bt b 0 = 10) (hvb : validS b = true) (hz : s.size + b.size ≤ 2048) :
    (¬ (allS s).2.1 = 0 → (allS (s ++ b)).2 = (allS s).2) ∧
    ((allS s).2.1 = 0 → (∃ init, allS s = (init ++ [(3, ⟨#[]⟩, s.size)], 0, 0) ∧ (∀ t ∈ init, TkOK t) ∧
      ((scan b s.size).2.1 = 0 → allS (s ++ b) = (init ++ (scan b s.size).1, 0, 0)) ∧
      (¬ (scan b s.size).2.1 = 0 → allS (s ++ b) = ([], (scan b s.size).2)))) := by
  have hs : Sep s b := sep_nc fun _ => by omega
  have hz2 : (s ++ b).size ≤ 2048 := by rw [size_app]; omega
  have hv2 : validS (s ++ b) = validS s := by rw [sep_validS hs, hvb, Bool.and_true]
  cases hv : validS s with
  | false =>
    rw [hv] at hv2
    rw [all_bad (by omega) hv, all_bad hz2 hv2, (sep_bad hs (bad_lt hv)).2]
    exact ⟨fun _ => rfl, fun h => by dsimp only at h; omega⟩
  | true =>
    rw [hv] at hv2
    obtain ⟨g1, g2⟩ := scan_sep _ s b 0 (Nat.le_refl _) hv hb h10
    rw [Nat.zero_add] at g1
    by_cases h0 : (scan s 0).2.1 = 0
    · obtain ⟨f1, f2⟩ := g1 h0
      obtain ⟨init, e, hi⟩ := scan_init _ s 0 (Nat.le_refl _) h0
      rw [Nat.zero_add] at e
      have e2 := scan_zero h0
      have eA : allS s = (init ++ [(3, ⟨#[]⟩, s.size)], 0, 0) := by rw [all_ok (by omega) hv h0]; exact Prod.ext e e2
      rw [eA]
      refine ⟨fun h => absurd rfl h, fun _ => ⟨init, rfl, hi, fun h => ?_, fun h => ?_⟩⟩
      · have h' : (scan (s ++ b) 0).2.1 = 0 := by rw [f2]; exact h
        rw [all_ok hz2 hv2 h']
        refine Prod.ext ?_ ?_
        · rw [f1, e, List.dropLast_concat]
        · rw [f2]; exact scan_zero h
      · have h' : ¬ (scan (s ++ b) 0).2.1 = 0 := by rw [f2]; exact h
        rw [all_err hz2 hv2 h', f2]
    · have h' : ¬ (scan (s ++ b) 0).2.1 = 0 := by rw [g2 h0]; exact h0
      rw [all_err (by omega) hv h0, all_err hz2 hv2 h', g2 h0]
      exact ⟨fun _ => rfl, fun h => absurd h h0⟩
end

theorem scan_at (n : Nat) : ∀ (u : ByteArray) (off : Nat), u.size ≤ n → ∀ t ∈ (scan u off).1, t.2.2 ≤ off + u.size := by
  induction n with
  | zero =>
    intro u off hn t ht
    rw [scan_nil (by omega)] at ht
    simp only [List.mem_cons, List.not_mem_nil, or_false] at ht
    subst ht
    show off ≤ _
    omega
  | succ n ih =>
    intro u off hn t ht
    rcases Nat.eq_zero_or_pos u.size with h | h
    · rw [scan_nil h] at ht
      simp only [List.mem_cons, List.not_mem_nil, or_false] at ht
      subst ht
      show off ≤ _
      omega
    by_cases h3 : 3 ≤ kd u
    · rw [scan_err h h3] at ht; cases ht
    · have hl := cutB_lt h (by omega)
      have hcz := cutB_size u (ln u)
      rw [scan_go h (by omega)] at ht
      rcases List.mem_append.1 ht with ht | ht
      · split at ht
        · cases ht
        · simp only [List.mem_cons, List.not_mem_nil, or_false] at ht
          subst ht
          show off ≤ _
          omega
      · have := ih _ _ (by omega) t ht
        omega
theorem all_at (s : ByteArray) : ∀ t ∈ (allS s).1, t.2.2 ≤ s.size := by
  intro t ht
  unfold allS at ht
  split at ht
  · cases ht
  · split at ht
    · cases ht
    · split at ht
      · have := scan_at _ s 0 (Nat.le_refl _) t ht
        omega
      · cases ht

/-- A token's kind and text. -/
def ktT (t : Tk) : Nat × ByteArray := (t.1, t.2.1)
section
variable {s n : ByteArray} (hv : validS n = true) (hn : ∀ i, i < n.size → bt n i ≠ 10)
include hv hn
theorem notes_a (hz : s.size + n.size + 3 ≤ 2048) :
    (¬ (allS s).2.1 = 0 → (allS (s ++ ⟨#[10, 47, 47]⟩ ++ n)).2 = (allS s).2) ∧
    ((allS s).2.1 = 0 → (allS (s ++ ⟨#[10, 47, 47]⟩ ++ n)).2 = (0, 0) ∧ (allS (s ++ ⟨#[10, 47, 47]⟩ ++ n)).1.map ktT = (allS s).1.map ktT) := by
  have hb : (⟨#[10, 47, 47]⟩ : ByteArray) ++ n = sOne 10 ++ (sSl ++ n) := by rw [← app_assoc]; rfl
  have hs1 := sep_valid (b := n) sSl_valid
  have hva : validS (sSl ++ n) = true := by rw [sep_validS hs1, sSl_valid, hv]; rfl
  have hs2 := sep_valid (b := sSl ++ n) (sOne_valid (n := 10) (by omega))
  have hvb : validS (sOne 10 ++ (sSl ++ n)) = true := by rw [sep_validS hs2, sOne_valid (by omega), hva]; rfl
  have h10 := ascii_first (n := 10) (r := sSl ++ n) (by omega)
  have hsz : (sOne 10 ++ (sSl ++ n)).size = n.size + 3 := by rw [size_app, size_app, sOne_size, show sSl.size = 2 from rfl]; omega
  have hE : (scan (sOne 10 ++ (sSl ++ n)) s.size) = ([(3, ⟨#[]⟩, s.size + 1 + 2 + n.size)], 0, 0) := by
    rw [scan_blank1 rfl]
    have := scan_note1 (r := ⟨#[]⟩) (off := s.size + 1) hv hn (fun h => absurd h (by decide))
    rw [app_nil] at this
    rw [this, scan_nil rfl]
  rw [app_assoc, hb]
  obtain ⟨g1, g2⟩ := all_sep (s := s) (b := sOne 10 ++ (sSl ++ n)) (by omega) h10 hvb (by omega)
  refine ⟨g1, fun h0 => ?_⟩
  obtain ⟨init, e1, _, e2, _⟩ := g2 h0
  rw [hE] at e2
  rw [e2 rfl, e1]
  exact ⟨rfl, by simp [ktT]⟩
theorem notes_b (hz : s.size + n.size + 3 ≤ 2048) :
    (allS (⟨#[47, 47]⟩ ++ n ++ ⟨#[10]⟩ ++ s)).2.1 = (allS s).2.1 ∧ ((allS s).2.1 = 0 → (allS (⟨#[47, 47]⟩ ++ n ++ ⟨#[10]⟩ ++ s)).1 = (allS s).1.map (shT (n.size + 3))) := by
  have hs1 := sep_valid (b := n) sSl_valid
  have hva : validS (sSl ++ n) = true := by rw [sep_validS hs1, sSl_valid, hv]; rfl
  have hs2 := sep_valid (b := s) (sOne_valid (n := 10) (by omega))
  have hs3 := sep_valid (b := sOne 10 ++ s) hva
  have h10 := ascii_first (n := 10) (r := s) (by omega)
  have hb : (⟨#[47, 47]⟩ ++ n ++ ⟨#[10]⟩ ++ s : ByteArray) = sSl ++ n ++ (sOne 10 ++ s) := by rw [app_assoc]; rfl
  have hsz : (sSl ++ n ++ (sOne 10 ++ s)).size = s.size + n.size + 3 := by rw [size_app, size_app, size_app, sOne_size, show sSl.size = 2 from rfl]; omega
  have hvv : validS (sSl ++ n ++ (sOne 10 ++ s)) = validS s := by rw [sep_validS hs3, hva, sep_validS hs2, sOne_valid (by omega)]; rfl
  have hE : scan (sSl ++ n ++ (sOne 10 ++ s)) 0 = scan s (0 + (n.size + 3)) := by
    rw [scan_note1 hv hn (fun _ => h10), scan_blank1 rfl]
    congr 1; omega
  obtain ⟨q1, q2⟩ := scan_shift _ s 0 (n.size + 3) (Nat.le_refl _)
  rw [hb]
  cases hvs : validS s with
  | false =>
    rw [hvs] at hvv
    rw [all_bad (by omega) hvs, all_bad (by omega) hvv]
    exact ⟨rfl, fun h => by dsimp only at h; omega⟩
  | true =>
    rw [hvs] at hvv
    by_cases h0 : (scan s 0).2.1 = 0
    · have h' : (scan (sSl ++ n ++ (sOne 10 ++ s)) 0).2.1 = 0 := by rw [hE, q2]; exact h0
      rw [all_ok (by omega) hvs h0, all_ok (by omega) hvv h', hE]
      exact ⟨q2, fun _ => q1⟩
    · have h' : ¬ (scan (sSl ++ n ++ (sOne 10 ++ s)) 0).2.1 = 0 := by rw [hE, q2]; exact h0
      rw [all_err (by omega) hvs h0, all_err (by omega) hvv h', hE]
      exact ⟨q2, fun h => absurd h h0⟩
omit hn in
theorem notes_c (hz : s.size + n.size + 3 ≤ 2048) (h0 : (allS s).2.1 = 0) : (allS (s ++ ⟨#[10, 47, 32]⟩ ++ n)).2 = (30, s.size + 1) := by
  have hb : (⟨#[10, 47, 32]⟩ : ByteArray) ++ n = sOne 10 ++ (sOne 47 ++ (sOne 32 ++ n)) := by rw [← app_assoc, ← app_assoc]; rfl
  have v1 : validS (sOne 32 ++ n) = true := by rw [sep_validS (sep_valid (sOne_valid (by omega))), sOne_valid (by omega), hv]; rfl
  have v2 : validS (sOne 47 ++ (sOne 32 ++ n)) = true := by rw [sep_validS (sep_valid (sOne_valid (by omega))), sOne_valid (by omega), v1]; rfl
  have v3 : validS (sOne 10 ++ (sOne 47 ++ (sOne 32 ++ n))) = true := by rw [sep_validS (sep_valid (sOne_valid (by omega))), sOne_valid (by omega), v2]; rfl
  have h10 := ascii_first (n := 10) (r := sOne 47 ++ (sOne 32 ++ n)) (by omega)
  have h32 := ascii_first (n := 32) (r := n) (by omega)
  have hsz : (sOne 10 ++ (sOne 47 ++ (sOne 32 ++ n))).size = n.size + 3 := by simp only [size_app, sOne_size]; omega
  have hE : scan (sOne 10 ++ (sOne 47 ++ (sOne 32 ++ n))) s.size = ([], 30, s.size + 1) := by
    rw [scan_blank1 rfl]
    exact scan_slash1 fun _ => by rw [h32]; decide
  rw [app_assoc, hb]
  obtain ⟨_, g2⟩ := all_sep (s := s) (b := sOne 10 ++ (sOne 47 ++ (sOne 32 ++ n))) (by omega) h10 v3 (by omega)
  obtain ⟨init, _, _, _, e2⟩ := g2 h0
  rw [hE] at e2
  rw [e2 (by show ¬ (30 = 0); decide)]
end
end Go.Proofs.YteafdhpcnpfmkaaGreat
