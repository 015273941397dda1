/- Tokens of texts that begin with a blank, a sign, a word, a note, or with what is wrong; a text's tokens at another place; what tokens are. Conditions: none; nothing of the program is named here. -/
import Derived.Test.YtdndncodpepdfaaScanL
namespace Go.Proofs.Ytdndncodpepdfaa

theorem may_not {u : ByteArray} (h : 0 < u.size) (hm : mayB u 0 = true) : blankB (bt u 0) = false ∧ signB (bt u 0) = false ∧ bt u 0 ≠ 47 := by
  by_cases hb : bt u 0 < 128
  · rw [may_low h hb] at hm
    have hm := byteB_iff.1 hm
    refine ⟨?_, ?_, by omega⟩
    · rw [Bool.eq_false_iff]; intro e; have := blankB_iff.1 e; omega
    · rw [Bool.eq_false_iff]; intro e; have := signB_iff.1 e; omega
  · refine ⟨?_, ?_, by omega⟩
    · rw [Bool.eq_false_iff]; intro e; have := blankB_iff.1 e; omega
    · rw [Bool.eq_false_iff]; intro e; have := signB_iff.1 e; omega
section
variable {r : ByteArray} {off : Nat}
theorem scan_blank1 {c : Nat} (h : blankB c = true) : scan (sOne c ++ r) off = scan r (off + 1) := by
  have hc := blankB_iff.1 h
  have h0 := ascii_first (r := r) (show c < 256 by omega)
  obtain ⟨e1, e2, e3⟩ := one_cutB (r := r) (show c < 128 by omega)
  have hz : 0 < (sOne c ++ r).size := by rw [size_app, sOne_size]; omega
  have hkd : kd (sOne c ++ r) = 0 := by unfold kd; rw [h0, if_pos h]
  have hln : ln (sOne c ++ r) = 1 := by unfold ln; rw [h0, if_pos h]
  have hE := scan_go (off := off) hz (by omega)
  rw [if_pos hkd, hln, e1, e2, List.nil_append] at hE
  exact hE
theorem scan_sign1 {c : Nat} (h : signB c = true) : scan (sOne c ++ r) off = ((2, sOne c, off) :: (scan r (off + 1)).1, (scan r (off + 1)).2) := by
  have hc := signB_iff.1 h
  have h0 := ascii_first (r := r) (show c < 256 by omega)
  obtain ⟨e1, e2, e3⟩ := one_cutB (r := r) (show c < 128 by omega)
  have hz : 0 < (sOne c ++ r).size := by rw [size_app, sOne_size]; omega
  have hnb : ¬ blankB c = true := by rw [blankB_iff]; omega
  have hkd : kd (sOne c ++ r) = 2 := by unfold kd; rw [h0, if_neg hnb, if_pos h]
  have hln : ln (sOne c ++ r) = 1 := by unfold ln; rw [h0, if_neg hnb, if_pos h]
  have hE := scan_go (off := off) hz (by omega)
  rw [if_neg (by omega), hkd, hln, e1, e2, e3] at hE
  exact hE
theorem wrN_all {x : ByteArray} (h : ∀ k, k < cnt x → mayB x (plc x k) = true) : wrN x = cnt x :=
  runN_eq (fun j hj => ⟨lt_cnt.1 hj, h j hj⟩) fun hh => absurd hh (by rw [(cnt_spec x).1]; omega)
theorem kd_word {x : ByteArray} (hx : 0 < x.size) (h : ∀ k, k < cnt x → mayB x (plc x k) = true) (hv : Sep x r) (hr : 0 < r.size → mayB r 0 = false) : kd (x ++ r) = (if cnt x ≤ 24 then 1 else 31) ∧ ln (x ++ r) = cnt x := by
  have h0 : bt (x ++ r) 0 = bt x 0 := bt_app_left _ _ _ hx
  have hm : mayB x 0 = true := h 0 (cnt_pos hx)
  obtain ⟨a, b, c⟩ := may_not hx hm
  have hm0 : mayB (x ++ r) 0 = true := (sep_may hv (j := 0) (cnt_pos hx)).trans hm
  have hw := (wrN_sep hv hr).trans (wrN_all h)
  constructor
  · unfold kd
    simp only [h0, hm0, hw, a, b, if_neg c, if_true]
    rfl
  · unfold ln
    simp only [h0, hw, a, b, if_neg c]
    rfl
theorem may_sep {x : ByteArray} (h : ∀ k, k < cnt x → mayB x (plc x k) = true) : validS x = true := by
  rw [validS_iff]
  intro k hk
  have := h k hk
  unfold mayB at this
  simp at this
  exact this.1
theorem scan_word1 {x : ByteArray} (hx : nameS x = true) (hr : 0 < r.size → mayB r 0 = false) : scan (x ++ r) off = ((1, x, off) :: (scan r (off + x.size)).1, (scan r (off + x.size)).2) := by
  obtain ⟨h1, h2, h3⟩ := nameS_iff.1 hx
  have hx0 : 0 < x.size := by have := cnt_le x; omega
  have hv := sep_valid (b := r) (may_sep h3)
  obtain ⟨hkd, hln⟩ := kd_word hx0 h3 hv hr
  rw [if_pos h2] at hkd
  have hz : 0 < (x ++ r).size := by rw [size_app]; omega
  have hE := scan_go (off := off) hz (by omega)
  rw [if_neg (by omega), hkd, hln, sep_cutA hv, sep_cutB hv, sep_end hv] at hE
  exact hE
theorem scan_long1 {x : ByteArray} (h3 : ∀ k, k < cnt x → mayB x (plc x k) = true) (h24 : 24 < cnt x) (hr : 0 < r.size → mayB r 0 = false) : scan (x ++ r) off = ([], 31, off) := by
  have hx0 : 0 < x.size := by have := cnt_le x; omega
  have hv := sep_valid (b := r) (may_sep h3)
  obtain ⟨hkd, _⟩ := kd_word hx0 h3 hv hr
  rw [if_neg (by omega)] at hkd
  rw [scan_err (by rw [size_app]; omega) (by omega), hkd]
def sSl : ByteArray := ⟨#[47, 47]⟩
theorem sSl_valid : validS sSl = true := by decide +kernel
theorem scan_note1 {n : ByteArray} (hv : validS n = true) (hn : ∀ i, i < n.size → bt n i ≠ 10) (hr : 0 < r.size → bt r 0 = 10) : scan (sSl ++ n ++ r) off = scan r (off + 2 + n.size) := by
  have hs1 := sep_valid (b := n) sSl_valid
  have hva : validS (sSl ++ n) = true := by rw [sep_validS hs1, sSl_valid, hv]; rfl
  have hs := sep_valid (b := r) hva
  have hz2 : sSl.size = 2 := rfl
  have hsz : (sSl ++ n).size = 2 + n.size := by rw [size_app, hz2]
  have hall : ∀ i, i < (sSl ++ n).size → bt (sSl ++ n) i ≠ 10 := fun i hi => by
    by_cases h2 : i < 2
    · rw [bt_app_left _ _ _ (by omega)]
      obtain rfl | rfl : i = 0 ∨ i = 1 := by omega
      · decide
      · decide
    · obtain ⟨j, rfl⟩ : ∃ j, i = sSl.size + j := ⟨i - 2, by omega⟩
      rw [bt_app_right _ _ _ (by omega)]
      exact hn j (by omega)
  have hnt : ntN (sSl ++ n) = cnt (sSl ++ n) := runN_eq (fun j hj => by
    have h1 := lt_cnt.1 hj
    exact ⟨h1, by simp [hall _ h1]⟩) fun hh => absurd hh (by rw [(cnt_spec _).1]; omega)
  have hnt2 := (ntN_sep hs hr).trans hnt
  have h0 : bt (sSl ++ n ++ r) 0 = 47 := by rw [bt_app_left _ _ _ (by omega), bt_app_left _ _ _ (by omega)]; rfl
  have h1 : bt (sSl ++ n ++ r) 1 = 47 := by rw [bt_app_left _ _ _ (by omega), bt_app_left _ _ _ (by omega)]; rfl
  have hz : 1 < (sSl ++ n ++ r).size := by rw [size_app]; omega
  have hkd : kd (sSl ++ n ++ r) = 0 := by
    unfold kd
    rw [h0, h1, show blankB 47 = false from rfl, show signB 47 = false from rfl, if_neg (by decide), if_neg (by decide), if_pos rfl, if_pos ⟨hz, rfl⟩]
  have hln : ln (sSl ++ n ++ r) = cnt (sSl ++ n) := by
    unfold ln
    rw [h0, show blankB 47 = false from rfl, show signB 47 = false from rfl, if_neg (by decide), if_neg (by decide), if_pos rfl, hnt2]
  have hE := scan_go (off := off) (u := sSl ++ n ++ r) (by omega) (by omega)
  rw [if_pos hkd, hln, sep_cutB hs, sep_end hs, hsz, List.nil_append, ← Nat.add_assoc] at hE
  exact hE
theorem scan_slash1 (hr : 0 < r.size → bt r 0 ≠ 47) : scan (sOne 47 ++ r) off = ([], 30, off) := by
  have h0 := ascii_first (r := r) (show 47 < 256 by omega)
  have hkd : kd (sOne 47 ++ r) = 30 := by
    unfold kd
    rw [h0, show blankB 47 = false from rfl, show signB 47 = false from rfl, if_neg (by decide), if_neg (by decide), if_pos rfl, if_neg]
    rintro ⟨a, b⟩
    rw [size_app, sOne_size] at a
    have h1 := bt_app_right (sOne 47) r 0 (by omega)
    rw [sOne_size] at h1
    rw [h1] at b
    exact hr (by omega) b
  rw [scan_err (by rw [size_app, sOne_size]; omega) (by omega), hkd]
theorem scan_other1 {c : Nat} (hc : c < 128) (h1 : blankB c = false) (h2 : signB c = false) (h3 : c ≠ 47) (h4 : byteB c = false) : scan (sOne c ++ r) off = ([], 30, off) := by
  have h0 := ascii_first (r := r) (show c < 256 by omega)
  have hz : 0 < (sOne c ++ r).size := by rw [size_app, sOne_size]; omega
  have hm : mayB (sOne c ++ r) 0 = false := by rw [may_low hz (by rw [h0]; exact hc), h0, h4]
  have hkd : kd (sOne c ++ r) = 30 := by
    unfold kd
    rw [h0, h1, h2, hm, if_neg (by decide), if_neg (by decide), if_neg h3, if_neg (by decide)]
  rw [scan_err hz (by omega), hkd]
end

/-- The tokens at another place. -/
def shT (d : Nat) (t : Tk) : Tk := (t.1, t.2.1, t.2.2 + d)
theorem scan_shift (n : Nat) : ∀ (u : ByteArray) (off d : Nat), u.size ≤ n → (scan u (off + d)).1 = (scan u off).1.map (shT d) ∧ (scan u (off + d)).2.1 = (scan u off).2.1 := by
  induction n with
  | zero =>
    intro u off d hn
    rw [scan_nil (by omega), scan_nil (by omega)]; exact ⟨rfl, rfl⟩
  | succ n ih =>
    intro u off d hn
    rcases Nat.eq_zero_or_pos u.size with h | h
    · rw [scan_nil h, scan_nil h]; exact ⟨rfl, rfl⟩
    by_cases h3 : 3 ≤ kd u
    · rw [scan_err h h3, scan_err h h3]; exact ⟨rfl, rfl⟩
    · have hl := cutB_lt h (by omega)
      have hE := scan_go (off := off) h (by omega)
      have hE2 := scan_go (off := off + d) h (by omega)
      have ih := ih (cutB u (ln u)) (off + plc u (ln u)) d (by omega)
      rw [show off + d + plc u (ln u) = off + plc u (ln u) + d by omega] at hE2
      generalize scan u off = r at hE ⊢
      generalize scan u (off + d) = q at hE2 ⊢
      generalize scan (cutB u (ln u)) (off + plc u (ln u)) = r2 at hE ih
      generalize scan (cutB u (ln u)) (off + plc u (ln u) + d) = q2 at hE2 ih
      subst hE hE2
      dsimp only
      refine ⟨?_, ih.2⟩
      rw [ih.1, List.map_append]
      congr 1
      split <;> rfl
/-- What a token is that isn't the end. -/
def TkOK (t : Tk) : Prop := (t.1 = 1 ∧ nameS t.2.1 = true) ∨ (t.1 = 2 ∧ ∃ c, signB c = true ∧ t.2.1 = sOne c)
theorem step_ok {u : ByteArray} (h : 0 < u.size) (h3 : kd u < 3) (h0 : ¬ kd u = 0) (off : Nat) : TkOK (kd u, cutA u (ln u), off) := by
  unfold TkOK
  by_cases hb : blankB (bt u 0) = true
  · exact absurd (by unfold kd; rw [if_pos hb]) h0
  by_cases hs : signB (bt u 0) = true
  · right
    have hc := signB_iff.1 hs
    have hkd : kd u = 2 := by unfold kd; rw [if_neg hb, if_pos hs]
    have hln : ln u = 1 := by unfold ln; rw [if_neg hb, if_pos hs]
    refine ⟨hkd, bt u 0, hs, ?_⟩
    have hp : plc u 1 = 1 := by
      have h1 : plc u 1 = plc u 0 + wd u (plc u 0) := plc_succ (s := u) (k := 0) h
      have h2 : wd u 0 = 1 := (dec_low h (by omega)).2
      rw [h1, show plc u 0 = 0 from rfl, h2]
    have hz := cutA_size u 1
    rw [hln]
    show cutA u 1 = sOne (bt u 0)
    refine bt_ext (by rw [hz, hp, sOne_size]) fun k hk => ?_
    have hk' := hk
    rw [hz, hp] at hk'
    obtain rfl : k = 0 := by omega
    rw [cutA_bt _ _ _ hk, sOne_bt (by omega)]
  · left
    by_cases h47 : bt u 0 = 47
    · exfalso
      have : kd u = 0 ∨ kd u = 30 := by
        unfold kd; rw [if_neg hb, if_neg hs, if_pos h47]
        split
        · exact .inl rfl
        · exact .inr rfl
      omega
    · have hkd : kd u = (if mayB u 0 = true then (if wrN u ≤ 24 then 1 else 31) else 30) := by
        conv => lhs; unfold kd
        rw [if_neg hb, if_neg hs, if_neg h47]
      have hln : ln u = wrN u := by unfold ln; rw [if_neg hb, if_neg hs, if_neg h47]
      by_cases hm : mayB u 0 = true
      · rw [if_pos hm] at hkd
        by_cases h24 : wrN u ≤ 24
        · rw [if_pos h24] at hkd
          refine ⟨hkd, ?_⟩
          rw [hln]
          have hle : wrN u ≤ cnt u := runN_le _ u
          have hpos : 0 < wrN u := runN_pos h hm
          rw [nameS_iff, cnt_cutA, Nat.min_eq_left hle]
          refine ⟨hpos, h24, fun k hk => ?_⟩
          have hlt : plc u k < plc u (wrN u) := Nat.lt_of_lt_of_le (plc_lt_succ (lt_cnt.1 (by omega))) (plc_mono u hk)
          have hd := dec_same_pre (s := u) (t := cutA u (wrN u)) (k := wrN u) (j := k) (cutA_size u _) (cutA_bt u _) hlt
          have hp := plc_pre (s := u) (t := cutA u (wrN u)) (k := wrN u) (cutA_size u _) (cutA_bt u _) k (by omega)
          have := ((runN_spec (mayB u) u).1 k hk).2
          unfold mayB brk rn wd at this ⊢
          rw [hp, hd]; exact this
        · rw [if_neg h24] at hkd; omega
      · rw [if_neg hm] at hkd; omega
theorem scan_init (n : Nat) : ∀ (u : ByteArray) (off : Nat), u.size ≤ n → (scan u off).2.1 = 0 → ∃ init, (scan u off).1 = init ++ [(3, ⟨#[]⟩, off + u.size)] ∧ ∀ t ∈ init, TkOK t := by
  induction n with
  | zero =>
    intro u off hn _
    rw [scan_nil (by omega), show off + u.size = off by omega]; exact ⟨[], rfl, fun t h => by cases h⟩
  | succ n ih =>
    intro u off hn h0
    rcases Nat.eq_zero_or_pos u.size with h | h
    · rw [scan_nil h, h]; exact ⟨[], rfl, fun t h => by cases h⟩
    by_cases h3 : 3 ≤ kd u
    · rw [scan_err h h3] at h0
      dsimp only at h0
      omega
    · have hl := cutB_lt h (by omega)
      have hcz := cutB_size u (ln u)
      have hE := scan_go (off := off) h (by omega)
      have ih := ih (cutB u (ln u)) (off + plc u (ln u)) (by omega)
      rw [show off + plc u (ln u) + (cutB u (ln u)).size = off + u.size by omega] at ih
      generalize scan u off = r at hE h0 ⊢
      generalize scan (cutB u (ln u)) (off + plc u (ln u)) = r2 at hE ih
      subst hE
      dsimp only at h0 ⊢
      obtain ⟨init, e, hi⟩ := ih h0
      rw [e, ← List.append_assoc]
      refine ⟨_, rfl, fun t ht => ?_⟩
      rcases List.mem_append.1 ht with ht | ht
      · split at ht
        · cases ht
        · rename_i hk
          simp only [List.mem_cons, List.not_mem_nil, or_false] at ht
          subst ht
          exact step_ok h (by omega) hk off
      · exact hi t ht
end Go.Proofs.Ytdndncodpepdfaa
