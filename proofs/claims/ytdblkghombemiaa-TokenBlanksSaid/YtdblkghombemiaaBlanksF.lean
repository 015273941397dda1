/- Tokens of a text's tokens, put behind each other with blanks, and notes, between. Conditions: short texts; the note is valid and has no newline. -/
import Derived.Test.YtdblkghombemiaaWordsF
namespace Go.Proofs.Ytdblkghombemiaa

/-- What stands behind the i-th text. -/
def sepB (n : ByteArray) (i : Nat) : ByteArray := if i % 5 = 4 then ⟨#[32, 47, 47]⟩ ++ n ++ ⟨#[10]⟩ else ⟨#[32]⟩
/-- The texts, as the law puts them. -/
def catB (n : ByteArray) : Nat → List Tk → ByteArray → ByteArray
  | _, [], s => s
  | i, t :: r, s => catB n (i + 1) r (s ++ (⟨#[9]⟩ ++ t.2.1) ++ sepB n i)
theorem catB_snoc (n : ByteArray) : ∀ (l : List Tk) (i : Nat) (t : Tk) (s : ByteArray), catB n i (l ++ [t]) s = catB n i l s ++ (⟨#[9]⟩ ++ t.2.1) ++ sepB n (i + l.length)
  | [], i, t, s => rfl
  | x :: r, i, t, s => by
    show catB n (i + 1) (r ++ [t]) _ = _
    rw [catB_snoc n r]
    show _ = catB n (i + 1) r _ ++ _ ++ sepB n (i + (r.length + 1))
    rw [show i + 1 + r.length = i + (r.length + 1) by omega]
def resB (n : ByteArray) : Nat → List Tk → ByteArray
  | _, [] => ⟨#[]⟩
  | i, t :: r => sOne 9 ++ (t.2.1 ++ (sepB n i ++ resB n (i + 1) r))
theorem catB_res (n : ByteArray) : ∀ (l : List Tk) (i : Nat) (s : ByteArray), catB n i l s = s ++ resB n i l
  | [], i, s => (app_nil s).symm
  | t :: r, i, s => by
    show catB n (i + 1) r _ = s ++ (sOne 9 ++ (t.2.1 ++ (sepB n i ++ resB n (i + 1) r)))
    rw [catB_res n r]
    show s ++ (sOne 9 ++ t.2.1) ++ sepB n i ++ resB n (i + 1) r = _
    simp only [app_assoc]
theorem scan_len (k : Nat) : ∀ (u : ByteArray) (off : Nat), u.size ≤ k → (scan u off).1.length ≤ u.size + 1 := by
  induction k with
  | zero =>
    intro u off hn
    rw [scan_nil (by omega)]; show 1 ≤ _; omega
  | succ k ih =>
    intro u off hn
    rcases Nat.eq_zero_or_pos u.size with h | h
    · rw [scan_nil h]; show 1 ≤ _; omega
    by_cases h3 : 3 ≤ kd u
    · rw [scan_err h h3]; show 0 ≤ _; omega
    · have hl := cutB_lt h (by omega)
      have ih := ih (cutB u (ln u)) (off + plc u (ln u)) (by omega)
      rw [scan_go h (by omega)]
      dsimp only
      rw [List.length_append]
      have : (if kd u = 0 then [] else [(kd u, cutA u (ln u), off)]).length ≤ 1 := by split <;> simp
      omega
theorem all_len (s : ByteArray) : (allS s).1.length ≤ s.size + 1 := by
  unfold allS
  split
  · show 0 ≤ _; omega
  · split
    · show 0 ≤ _; omega
    · split
      · exact scan_len _ s 0 (Nat.le_refl _)
      · show 0 ≤ _; omega
theorem catB_size {n : ByteArray} (hz : n.size ≤ 20) : ∀ (l : List Tk) (i : Nat) (s : ByteArray), (∀ t ∈ l, t.2.1.size ≤ 96) → (catB n i l s).size ≤ s.size + 125 * l.length
  | [], _, s, _ => by show s.size ≤ _; omega
  | t :: r, i, s, h => by
    have ih := catB_size hz r (i + 1) (s ++ (⟨#[9]⟩ ++ t.2.1) ++ sepB n i) fun x hx => h x (List.mem_cons_of_mem _ hx)
    have h1 := h t (List.mem_cons_self ..)
    have h2 : (sepB n i).size ≤ 24 := by
      unfold sepB
      split
      · rw [size_app, size_app, show (⟨#[32, 47, 47]⟩ : ByteArray).size = 3 from rfl, show (⟨#[10]⟩ : ByteArray).size = 1 from rfl]; omega
      · show 1 ≤ _; omega
    show (catB n (i + 1) r _).size ≤ _
    rw [size_app, size_app, size_app, show (⟨#[9]⟩ : ByteArray).size = 1 from rfl] at ih
    rw [List.length_cons]
    omega
theorem all_small {s : ByteArray} (hz : s.size ≤ 300) : ∀ t ∈ (allS s).1, t.2.1.size ≤ 96 := by
  by_cases h0 : (allS s).2.1 = 0
  · obtain ⟨v, e0, eA⟩ := all_zero (by omega) h0
    obtain ⟨init, e, hi⟩ := scan_init _ s 0 (Nat.le_refl _) e0
    rw [eA, e]
    intro t ht
    rcases List.mem_append.1 ht with ht | ht
    · rcases hi t ht with ⟨_, h2⟩ | ⟨_, c, _, h2⟩
      · exact name_size h2
      · rw [h2, sOne_size]; omega
    · simp only [List.mem_cons, List.not_mem_nil, or_false] at ht
      subst ht
      show 0 ≤ 96
      omega
  · have : (allS s).1 = [] := by
      unfold allS at h0 ⊢
      split
      · rfl
      · split
        · rfl
        · split
          · rename_i h1 h2 h3
            rw [if_neg h1, if_neg h2, if_pos h3] at h0
            exact absurd h3 h0
          · rfl
    rw [this]
    intro t ht
    cases ht
section
variable {n : ByteArray} (hv : validS n = true) (hn : ∀ i, i < n.size → bt n i ≠ 10)
include hv hn
theorem sep_scan (i : Nat) (r : ByteArray) (off : Nat) : scan (sepB n i ++ r) off = scan r (off + (sepB n i).size) := by
  unfold sepB
  by_cases h : i % 5 = 4
  · rw [if_pos h]
    have e : (⟨#[32, 47, 47]⟩ ++ n ++ ⟨#[10]⟩ : ByteArray) ++ r = sOne 32 ++ (sSl ++ n ++ (sOne 10 ++ r)) := by
      rw [← app_assoc, ← app_assoc, ← app_assoc]; rfl
    have hz : (⟨#[32, 47, 47]⟩ ++ n ++ ⟨#[10]⟩ : ByteArray).size = n.size + 4 := by rw [size_app, size_app, show (⟨#[32, 47, 47]⟩ : ByteArray).size = 3 from rfl, show (⟨#[10]⟩ : ByteArray).size = 1 from rfl]; omega
    rw [e, hz, scan_blank1 rfl, scan_note1 hv hn (fun _ => ascii_first (by omega)), scan_blank1 rfl]
    congr 1; omega
  · rw [if_neg h]
    show scan (sOne 32 ++ r) off = scan r (off + 1)
    exact scan_blank1 rfl
omit hn in
theorem sep_valid_ (i : Nat) (r : ByteArray) : validS (sepB n i ++ r) = validS r := by
  unfold sepB
  by_cases h : i % 5 = 4
  · rw [if_pos h]
    have e : (⟨#[32, 47, 47]⟩ ++ n ++ ⟨#[10]⟩ : ByteArray) ++ r = sOne 32 ++ (sSl ++ (n ++ (sOne 10 ++ r))) := by
      rw [← app_assoc, ← app_assoc, ← app_assoc]; rfl
    rw [e, sep_validS (sep_valid (sOne_valid (by omega))), sep_validS (sep_valid sSl_valid), sep_validS (sep_valid hv), sep_validS (sep_valid (sOne_valid (by omega))), sOne_valid (by omega), sOne_valid (by omega), sSl_valid, hv]; rfl
  · rw [if_neg h]
    show validS (sOne 32 ++ r) = validS r
    rw [sep_validS (sep_valid (sOne_valid (by omega))), sOne_valid (by omega)]; rfl
omit hv hn in
theorem sep_first (i : Nat) (r : ByteArray) : 0 < (sepB n i ++ r).size ∧ bt (sepB n i ++ r) 0 = 32 := by
  unfold sepB
  by_cases h : i % 5 = 4
  · rw [if_pos h]
    have h3 : (⟨#[32, 47, 47]⟩ : ByteArray).size = 3 := rfl
    refine ⟨by rw [size_app, size_app, size_app]; omega, ?_⟩
    rw [bt_app_left _ _ _ (by rw [size_app, size_app]; omega), bt_app_left _ _ _ (by rw [size_app]; omega), bt_app_left _ _ _ (by omega)]; rfl
  · rw [if_neg h]
    exact ⟨by rw [size_app]; show 0 < 1 + _; omega, ascii_first (n := 32) (by omega)⟩
omit hv hn in
/-- A token's text ahead of a blank. -/
theorem tok_scan {t : Tk} (ht : TkOK t) {r : ByteArray} (off : Nat) (hr : 0 < r.size) (h32 : bt r 0 = 32) : ∃ p, scan (t.2.1 ++ r) off = ((t.1, t.2.1, p) :: (scan r (off + t.2.1.size)).1, (scan r (off + t.2.1.size)).2) := by
  rcases ht with ⟨h1, h2⟩ | ⟨h1, c, hc, h2⟩
  · refine ⟨off, ?_⟩
    rw [scan_word1 h2 (fun _ => by rw [may_low hr (by omega), h32]; rfl), h1]
  · refine ⟨off, ?_⟩
    rw [h2, scan_sign1 hc, h1, sOne_size]
omit hv hn in
theorem tok_valid {t : Tk} (ht : TkOK t) (r : ByteArray) : validS (t.2.1 ++ r) = validS r := by
  have : validS t.2.1 = true := by
    rcases ht with ⟨_, h2⟩ | ⟨_, c, hc, h2⟩
    · exact name_valid h2
    · rw [h2]
      have := signB_iff.1 hc
      exact sOne_valid (by omega)
  rw [sep_validS (sep_valid this), this]; rfl
theorem res_scan (e : Tk) (he : e.1 = 3 ∧ e.2.1 = ⟨#[]⟩) : ∀ (l : List Tk) (i off : Nat), (∀ t ∈ l, TkOK t) → ∃ m, scan (resB n i (l ++ [e])) off = (m, 0, 0) ∧ m.map ktT = (l ++ [e]).map ktT
  | [], i, off, _ => by
    have hE : scan (resB n i [e]) off = scan ⟨#[]⟩ (off + 1 + (sepB n i).size) := by
      show scan (sOne 9 ++ (e.2.1 ++ (sepB n i ++ ⟨#[]⟩))) off = _
      rw [he.2, nil_app', scan_blank1 rfl, sep_scan hv hn]
    refine ⟨_, by rw [List.nil_append, hE, scan_nil rfl], ?_⟩
    simp [ktT, he.1, he.2]
  | t :: r, i, off, h => by
    obtain ⟨z1, z2⟩ := sep_first (n := n) i (resB n (i + 1) (r ++ [e]))
    obtain ⟨p, hp⟩ := tok_scan (h t (List.mem_cons_self ..)) (r := sepB n i ++ resB n (i + 1) (r ++ [e])) (off + 1) z1 z2
    obtain ⟨m, hm, hk⟩ := res_scan e he r (i + 1) (off + 1 + t.2.1.size + (sepB n i).size) fun x hx => h x (List.mem_cons_of_mem _ hx)
    rw [sep_scan hv hn, hm] at hp
    refine ⟨(t.1, t.2.1, p) :: m, ?_, ?_⟩
    · show scan (sOne 9 ++ (t.2.1 ++ (sepB n i ++ resB n (i + 1) (r ++ [e])))) off = _
      rw [scan_blank1 rfl, hp]
    · rw [List.map_cons, hk]; rfl
omit hn in
theorem res_valid (e : Tk) (he : e.2.1 = ⟨#[]⟩) : ∀ (l : List Tk) (i : Nat), (∀ t ∈ l, TkOK t) → validS (resB n i (l ++ [e])) = true
  | [], i, _ => by
    show validS (sOne 9 ++ (e.2.1 ++ (sepB n i ++ ⟨#[]⟩))) = true
    rw [he, nil_app', sep_validS (sep_valid (sOne_valid (by omega))), sOne_valid (by omega), sep_valid_ hv]
    decide +kernel
  | t :: r, i, h => by
    show validS (sOne 9 ++ (t.2.1 ++ (sepB n i ++ resB n (i + 1) (r ++ [e])))) = true
    rw [sep_validS (sep_valid (sOne_valid (by omega))), sOne_valid (by omega), tok_valid (h t (List.mem_cons_self ..)), sep_valid_ hv, res_valid e he r (i + 1) fun x hx => h x (List.mem_cons_of_mem _ hx)]
    rfl
theorem blanks {s : ByteArray} (hz : s.size ≤ 300) (h0 : (allS s).2.1 = 0) (h2 : (catB n 0 (allS s).1 ⟨#[]⟩).size ≤ 2048) :
    ∃ m, allS (catB n 0 (allS s).1 ⟨#[]⟩) = (m, 0, 0) ∧ m.map ktT = (allS s).1.map ktT := by
  obtain ⟨v, e0, eA⟩ := all_zero (by omega) h0
  obtain ⟨init, e, hi⟩ := scan_init _ s 0 (Nat.le_refl _) e0
  rw [eA, e] at h2 ⊢
  rw [catB_res, nil_app'] at h2 ⊢
  obtain ⟨m, hm, hk⟩ := res_scan hv hn (3, ⟨#[]⟩, 0 + s.size) ⟨rfl, rfl⟩ init 0 0 hi
  refine ⟨m, ?_, hk⟩
  rw [all_ok h2 (res_valid hv (3, ⟨#[]⟩, 0 + s.size) rfl init 0 hi) (by rw [hm]), hm]
end
end Go.Proofs.Ytdblkghombemiaa
