/- Layer 6: the reference's All, called: its tokens, or the error and its place, are the plain functions'. Conditions: a text of at most a million bytes. -/
import Derived.Test.YtdblkghombemiaaRefSign
namespace Go.Proofs.Ytdblkghombemiaa
open Go.RowKit

theorem may_cutB {s : ByteArray} {k : Nat} (h : plc s k < s.size) : mayB (cutB s k) 0 = mayB s (plc s k) := by
  have hz := cutB_size s k
  have hd := decode_suf hz (cutB_bt s k) (i := 0) (by omega)
  unfold mayB brk rn wd
  rw [hd, Nat.add_zero]
theorem may_cutB_at {s : ByteArray} {k j : Nat} (h : plc s (k + j) < s.size) : mayB (cutB s k) (plc (cutB s k) j) = mayB s (plc s (k + j)) := by
  have hz := cutB_size s k
  have hp := plc_cutB s k j
  have hd := decode_suf hz (cutB_bt s k) (i := plc (cutB s k) j) (by omega)
  unfold mayB brk rn wd
  rw [hd, hp]
/-- The word's end: as many runes as there are that may stand in a name. -/
theorem wrN_at {s : ByteArray} {k n : Nat} (h1 : ∀ j, j < n → plc s (k + j) < s.size ∧ mayB s (plc s (k + j)) = true) (h2 : plc s (k + n) < s.size → mayB s (plc s (k + n)) = false) : wrN (cutB s k) = n := by
  refine runN_eq (fun j hj => ?_) fun h => ?_
  · obtain ⟨a, b⟩ := h1 j hj
    have hp := plc_cutB s k j
    have hz := cutB_size s k
    exact ⟨by omega, by rw [may_cutB_at a]; exact b⟩
  · have hp := plc_cutB s k n
    have hz := cutB_size s k
    rw [may_cutB_at (by omega)]
    exact h2 (by omega)
/-- The note's end: the first byte that is a newline, or the text's end. -/
theorem ntN_at {s : ByteArray} {k d : Nat} (hd : d ≤ (cutB s k).size) (h1 : ∀ j, j < d → bt s (plc s k + j) ≠ 10) (h2 : plc s k + d < s.size → bt s (plc s k + d) = 10) : plc s (k + ntN (cutB s k)) = plc s k + d := by
  have hz := cutB_size s k
  have hp := plc_cutB s k (ntN (cutB s k))
  have hle := plc_le (cutB s k) (ntN (cutB s k))
  rcases Nat.lt_trichotomy (plc (cutB s k) (ntN (cutB s k))) d with h | h | h
  · have e := nt_end (u := cutB s k) (by omega)
    rw [bt_cutB (by omega)] at e
    exact absurd e (h1 _ h)
  · omega
  · have e := nt_byte (u := cutB s k) h
    rw [bt_cutB (by omega)] at e
    exact absurd (h2 (by omega)) e

/-- The tokens so far, and what is left behind a place, are the whole. -/
structure Left (s : ByteArray) (k : Nat) (l : List Tk) : Prop where
  kc : k ≤ cnt s
  toks : l ++ (scan (cutB s k) (plc s k)).1 = (scan s 0).1
  code : (scan (cutB s k) (plc s k)).2 = (scan s 0).2
  few : l.length ≤ k
section
variable {s : ByteArray} {k : Nat} {l : List Tk}
theorem Left.start (s : ByteArray) : Left s 0 [] := ⟨Nat.zero_le _, by rw [cutB_zero]; rfl, by rw [cutB_zero]; rfl, Nat.le_refl _⟩
theorem Left.err (h : Left s k l) (hk : plc s k < s.size) (h3 : 3 ≤ kd (cutB s k)) : (scan s 0).2 = (kd (cutB s k), plc s k) := by
  have e := Go.Proofs.Ytdblkghombemiaa.scan_err (off := plc s k) (cutB_pos hk) h3
  have hc := h.code
  rw [e] at hc
  exact hc.symm
theorem Left.step (h : Left s k l) (hk : plc s k < s.size) (h3 : kd (cutB s k) < 3) : Left s (k + ln (cutB s k)) (l ++ stepT (cutB s k) (plc s k)) ∧ 0 < ln (cutB s k) := by
  have hz := cutB_pos hk
  have h1 := ln_pos hz h3
  have h2 := ln_le hz
  rw [cnt_cutB] at h2
  have hE := scan_go (off := plc s k) hz h3
  have h4 := plc_cutB s k (ln (cutB s k))
  rw [cutB_cutB, h4] at hE
  have ht := h.toks
  have hc := h.code
  obtain ⟨r, hr⟩ : ∃ r, scan (cutB s (k + ln (cutB s k))) (plc s (k + ln (cutB s k))) = r := ⟨_, rfl⟩
  rw [hr] at hE
  generalize scan (cutB s k) (plc s k) = r0 at *
  subst hE
  dsimp only at ht hc
  refine ⟨⟨by have := h.kc; omega, ?_, by rw [hr]; exact hc, ?_⟩, h1⟩
  · rw [hr, List.append_assoc]
    exact ht
  · rw [List.length_append]
    have := h.few
    have : (stepT (cutB s k) (plc s k)).length ≤ 1 := by unfold stepT; split <;> simp
    omega
theorem Left.fin (h : Left s k l) (hk : ¬ plc s k < s.size) : plc s k = s.size ∧ (scan s 0).2 = (0, 0) ∧ (scan s 0).1 = l ++ [(3, ⟨#[]⟩, s.size)] := by
  have h1 := plc_le s k
  have hz := cutB_size s k
  have e := scan_nil (u := cutB s k) (off := plc s k) (by omega)
  have ht := h.toks
  have hc := h.code
  rw [e] at ht hc
  have hj : plc s k = s.size := by omega
  rw [hj] at ht
  exact ⟨hj, hc.symm, ht.symm⟩
/-- A step, by what stands there. -/
theorem Left.blank (h : Left s k l) (hk : plc s k < s.size) (hb : blankB (bt s (plc s k)) = true) : Left s (k + 1) l ∧ plc s (k + 1) = plc s k + 1 := by
  have h0 : bt (cutB s k) 0 = bt s (plc s k) := bt_cutB (j := 0) (by omega)
  have hkd : kd (cutB s k) = 0 := by unfold kd; rw [h0, if_pos hb]
  have hln : ln (cutB s k) = 1 := by unfold ln; rw [h0, if_pos hb]
  have h10 := blankB_iff.1 hb
  have := (h.step hk (by omega)).1
  unfold stepT at this
  rw [hln, if_pos hkd, List.append_nil] at this
  exact ⟨this, plc_low hk (by omega)⟩
theorem Left.sign (h : Left s k l) (hk : plc s k < s.size) (hb : signB (bt s (plc s k)) = true) : Left s (k + 1) (l ++ [(2, s.extract (plc s k) (plc s k + 1), plc s k)]) ∧ plc s (k + 1) = plc s k + 1 := by
  have h0 : bt (cutB s k) 0 = bt s (plc s k) := bt_cutB (j := 0) (by omega)
  have h10 := signB_iff.1 hb
  have hnb : ¬ blankB (bt s (plc s k)) = true := by rw [blankB_iff]; omega
  have hkd : kd (cutB s k) = 2 := by unfold kd; rw [h0, if_neg hnb, if_pos hb]
  have hln : ln (cutB s k) = 1 := by unfold ln; rw [h0, if_neg hnb, if_pos hb]
  have hpl := plc_low hk (by omega)
  have hx : s.extract (plc s k) (plc s k + 1) = cutA (cutB s k) 1 := by rw [cutA_cutB_ext, hpl]
  have := (h.step hk (by omega)).1
  unfold stepT at this
  rw [hln, if_neg (by omega), hkd, ← hx] at this
  exact ⟨this, hpl⟩
theorem Left.note (h : Left s k l) (hk : plc s k < s.size) (h47 : bt s (plc s k) = 47) (h1 : plc s k + 1 < s.size) (h2 : bt s (plc s k + 1) = 47) : Left s (k + ntN (cutB s k)) l ∧ 0 < ntN (cutB s k) := by
  have h0 : bt (cutB s k) 0 = bt s (plc s k) := bt_cutB (j := 0) (by omega)
  have hb1 : bt (cutB s k) 1 = bt s (plc s k + 1) := bt_cutB (j := 1) h1
  have hz := cutB_size s k
  have hkd : kd (cutB s k) = 0 := by
    conv => lhs; unfold kd
    rw [h0, h47, show blankB 47 = false from rfl, show signB 47 = false from rfl, if_neg (by decide), if_neg (by decide), if_pos rfl, if_pos ⟨by omega, hb1.trans h2⟩]
  have hln : ln (cutB s k) = ntN (cutB s k) := by
    conv => lhs; unfold ln
    rw [h0, h47, show blankB 47 = false from rfl, show signB 47 = false from rfl, if_neg (by decide), if_neg (by decide), if_pos rfl]
  have := h.step hk (by omega)
  unfold stepT at this
  rw [hln, if_pos hkd, List.append_nil] at this
  exact this
theorem kd_other {s : ByteArray} {k : Nat} (hk : plc s k < s.size) (hnb : blankB (bt s (plc s k)) = false) (hns : signB (bt s (plc s k)) = false) (h47 : bt s (plc s k) ≠ 47) :
    kd (cutB s k) = (if mayB s (plc s k) = true then (if wrN (cutB s k) ≤ 24 then 1 else 31) else 30) ∧ ln (cutB s k) = wrN (cutB s k) := by
  have h0 : bt (cutB s k) 0 = bt s (plc s k) := bt_cutB (j := 0) (by omega)
  constructor
  · conv => lhs; unfold kd
    rw [h0, hnb, hns, if_neg (by decide), if_neg (by decide), if_neg h47, may_cutB hk]
  · conv => lhs; unfold ln
    rw [h0, hnb, hns, if_neg (by decide), if_neg (by decide), if_neg h47]
theorem kd_slash {s : ByteArray} {k : Nat} (hk : plc s k < s.size) (h47 : bt s (plc s k) = 47) (h1 : ¬ (plc s k + 1 < s.size ∧ bt s (plc s k + 1) = 47)) : kd (cutB s k) = 30 := by
  have h0 : bt (cutB s k) 0 = bt s (plc s k) := bt_cutB (j := 0) (by omega)
  have hz := cutB_size s k
  conv => lhs; unfold kd
  rw [h0, h47, show blankB 47 = false from rfl, show signB 47 = false from rfl, if_neg (by decide), if_neg (by decide), if_pos rfl, if_neg]
  rintro ⟨a, b⟩
  have hb1 : bt (cutB s k) 1 = bt s (plc s k + 1) := bt_cutB (j := 1) (by omega)
  exact h1 ⟨by omega, hb1 ▸ b⟩
theorem Left.word (h : Left s k l) (hk : plc s k < s.size) (hnb : blankB (bt s (plc s k)) = false) (hns : signB (bt s (plc s k)) = false) (h47 : bt s (plc s k) ≠ 47) (hm : mayB s (plc s k) = true) (h24 : wrN (cutB s k) ≤ 24) :
    Left s (k + wrN (cutB s k)) (l ++ [(1, s.extract (plc s k) (plc s (k + wrN (cutB s k))), plc s k)]) ∧ 0 < wrN (cutB s k) := by
  obtain ⟨hkd, hln⟩ := kd_other hk hnb hns h47
  rw [if_pos hm, if_pos h24] at hkd
  have := h.step hk (by omega)
  unfold stepT at this
  rw [hln, if_neg (by omega), hkd, cutA_cutB_ext] at this
  exact this
theorem Left.slash (h : Left s k l) (hk : plc s k < s.size) (h47 : bt s (plc s k) = 47) (h1 : ¬ (plc s k + 1 < s.size ∧ bt s (plc s k + 1) = 47)) : (scan s 0).2 = (30, plc s k) := by
  have := h.err hk (by rw [kd_slash hk h47 h1]; omega)
  rwa [kd_slash hk h47 h1] at this
theorem Left.other (h : Left s k l) (hk : plc s k < s.size) (hnb : blankB (bt s (plc s k)) = false) (hns : signB (bt s (plc s k)) = false) (h47 : bt s (plc s k) ≠ 47) (hm : mayB s (plc s k) = false) : (scan s 0).2 = (30, plc s k) := by
  obtain ⟨hkd, _⟩ := kd_other hk hnb hns h47
  rw [hm, if_neg (by decide)] at hkd
  have := h.err hk (by omega)
  rwa [hkd] at this
theorem Left.long (h : Left s k l) (hk : plc s k < s.size) (hnb : blankB (bt s (plc s k)) = false) (hns : signB (bt s (plc s k)) = false) (h47 : bt s (plc s k) ≠ 47) (hm : mayB s (plc s k) = true) (h24 : ¬ wrN (cutB s k) ≤ 24) : (scan s 0).2 = (31, plc s k) := by
  obtain ⟨hkd, _⟩ := kd_other hk hnb hns h47
  rw [if_pos hm, if_neg h24] at hkd
  have := h.err hk (by omega)
  rwa [hkd] at this
end
end Go.Proofs.Ytdblkghombemiaa
