/- Layer 6: the reference's All, called: its tokens, or the error and its place, are the plain functions'. Conditions: a text of at most a million bytes. -/
import Derived.Test.YtkeonempmchpnaaRefSign
namespace Go.Proofs.Ytkeonempmchpnaa
open Go.RowKit

theorem may_cutB {s : ByteArray} {k : Nat} (h : plc s k < s.size) : mayB (cutB s k) 0 = mayB s (plc s k) := by
  have hz := cutB_size s k
  have hd := decode_suf hz (cutB_bt s k) (i := 0) (by omega)
  unfold mayB brk rn wd
  rw [hd, Nat.add_zero]
theorem may_cutB_at {s : ByteArray} {k j : Nat} (h : plc s (k + j) < s.size) : mayB (cutB s k) (plc (cutB s k) j) = mayB s (plc s (k + j)) := by
  have hz := cutB_size s k
  have hp := plc_cutB s k j
  have hd := decode_suf hz (cutB_bt s k) (i := plc (cutB s k) j) (by omega)
  unfold mayB brk rn wd
  rw [hd, hp]
/-- The word's end: as many runes as there are that may stand in a name. -/
theorem wrN_at {s : ByteArray} {k n : Nat} (h1 : ∀ j, j < n → plc s (k + j) < s.size ∧ mayB s (plc s (k + j)) = true) (h2 : plc s (k + n) < s.size → mayB s (plc s (k + n)) = false) : wrN (cutB s k) = n := by
  refine runN_eq (fun j hj => ?_) fun h => ?_
  · obtain ⟨a, b⟩ := h1 j hj
    have hp := plc_cutB s k j
    have hz := cutB_size s k
    exact ⟨by omega, by rw [may_cutB_at a]; exact b⟩
  · have hp := plc_cutB s k n
    have hz := cutB_size s k
    rw [may_cutB_at (by omega)]
    exact h2 (by omega)
/-- The note's end: the first byte that is a newline, or the text's end. -/
theorem ntN_at {s : ByteArray} {k d : Nat} (hd : d ≤ (cutB s k).size) (h1 : ∀ j, j < d → bt s (plc s k + j) ≠ 10) (h2 : plc s k + d < s.size → bt s (plc s k + d) = 10) : plc s (k + ntN (cutB s k)) = plc s k + d := by
  have hz := cutB_size s k
  have hp := plc_cutB s k (ntN (cutB s k))
  have hle := plc_le (cutB s k) (ntN (cutB s k))
  rcases Nat.lt_trichotomy (plc (cutB s k) (ntN (cutB s k))) d with h | h | h
  · have e := nt_end (u := cutB s k) (by omega)
    rw [bt_cutB (by omega)] at e
    exact absurd e (h1 _ h)
  · omega
  · have e := nt_byte (u := cutB s k) h
    rw [bt_cutB (by omega)] at e
    exact absurd (h2 (by omega)) e

/-- The tokens so far, and what is left behind a place, are the whole. -/
structure Left (s : ByteArray) (k : Nat) (l : List Tk) : Prop where
  kc : k ≤ cnt s
  toks : l ++ (scan (cutB s k) (plc s k)).1 = (scan s 0).1
  code : (scan (cutB s k) (plc s k)).2 = (scan s 0).2
  few : l.length ≤ k
section
variable {s : ByteArray} {k : Nat} {l : List Tk}
theorem Left.start (s : ByteArray) : Left s 0 [] := ⟨Nat.zero_le _, by rw [cutB_zero]; rfl, by rw [cutB_zero]; rfl, Nat.le_refl _⟩
theorem Left.err (h : Left s k l) (hk : plc s k < s.size) (h3 : 3 ≤ kd (cutB s k)) : (scan s 0).2 = (kd (cutB s k), plc s k) := by
  have e := Go.Proofs.Ytkeonempmchpnaa.scan_err (off := plc s k) (cutB_pos hk) h3
  have hc := h.code
  rw [e] at hc
  exact hc.symm
theorem Left.step (h : Left s k l) (hk : plc s k < s.size) (h3 : kd (cutB s k) < 3) : Left s (k + ln (cutB s k)) (l ++ stepT (cutB s k) (plc s k)) ∧ 0 < ln (cutB s k) := by
  have hz := cutB_pos hk
  have h1 := ln_pos hz h3
  have h2 := ln_le hz
  rw [cnt_cutB] at h2
  have hE := scan_go (off := plc s k) hz h3
  have h4 := plc_cutB s k (ln (cutB s k))
  rw [cutB_cutB, h4] at hE
  have ht := h.toks
  have hc := h.code
  obtain ⟨r, hr⟩ : ∃ r, scan (cutB s (k + ln (cutB s k))) (plc s (k + ln (cutB s k))) = r := ⟨_, rfl⟩
  rw [hr] at hE
  generalize scan (cutB s k) (plc s k) = r0 at *
  subst hE
  dsimp only at ht hc
  refine ⟨⟨by have := h.kc; omega, ?_, by rw [hr]; exact hc, ?_⟩, h1⟩
  · rw [hr, List.append_assoc]
    exact ht
  · rw [List.length_append]
    have := h.few
    have : (stepT (cutB s k) (plc s k)).length ≤ 1 := by unfold stepT; split <;> simp
    omega
theorem Left.fin (h : Left s k l) (hk : ¬ plc s k < s.size) : plc s k = s.size ∧ (scan s 0).2 = (0, 0) ∧ (scan s 0).1 = l ++ [(3, ⟨#[]⟩, s.size)] := by
  have h1 := plc_le s k
  have hz := cutB_size s k
  have e := scan_nil (u := cutB s k) (off := plc s k) (by omega)
  have ht := h.toks
  have hc := h.code
  rw [e] at ht hc
  have hj : plc s k = s.size := by omega
  rw [hj] at ht
  exact ⟨hj, hc.symm, ht.symm⟩
/-- A step, by what stands there. -/
theorem Left.blank (h : Left s k l) (hk : plc s k < s.size) (hb : blankB (bt s (plc s k)) = true) : Left s (k + 1) l ∧ plc s (k + 1) = plc s k + 1 := by
  have h0 : bt (cutB s k) 0 = bt s (plc s k) := bt_cutB (j := 0) (by omega)
  have hkd : kd (cutB s k) = 0 := by unfold kd; rw [h0, if_pos hb]
  have hln : ln (cutB s k) = 1 := by unfold ln; rw [h0, if_pos hb]
  have h10 := blankB_iff.1 hb
  have := (h.step hk (by omega)).1
  unfold stepT at this
  rw [hln, if_pos hkd, List.append_nil] at this
  exact ⟨this, plc_low hk (by omega)⟩
theorem Left.sign (h : Left s k l) (hk : plc s k < s.size) (hb : signB (bt s (plc s k)) = true) : Left s (k + 1) (l ++ [(2, s.extract (plc s k) (plc s k + 1), plc s k)]) ∧ plc s (k + 1) = plc s k + 1 := by
  have h0 : bt (cutB s k) 0 = bt s (plc s k) := bt_cutB (j := 0) (by omega)
  have h10 := signB_iff.1 hb
  have hnb : ¬ blankB (bt s (plc s k)) = true := by rw [blankB_iff]; omega
  have hkd : kd (cutB s k) = 2 := by unfold kd; rw [h0, if_neg hnb, if_pos hb]
  have hln : ln (cutB s k) = 1 := by unfold ln; rw [h0, if_neg hnb, if_pos hb]
  have hpl := plc_low hk (by omega)
  have hx : s.extract (plc s k) (plc s k + 1) = cutA (cutB s k) 1 := by rw [cutA_cutB_ext, hpl]
  have := (h.step hk (by omega)).1
  unfold stepT at this
  rw [hln, if_neg (by omega), hkd, ← hx] at this
  exact ⟨this, hpl⟩
theorem Left.note (h : Left s k l) (hk : plc s k < s.size) (h47 : bt s (plc s k) = 47) (h1 : plc s k + 1 < s.size) (h2 : bt s (plc s k + 1) = 47) : Left s (k + ntN (cutB s k)) l ∧ 0 < ntN (cutB s k) := by
  have h0 : bt (cutB s k) 0 = bt s (plc s k) := bt_cutB (j := 0) (by omega)
  have hb1 : bt (cutB s k) 1 = bt s (plc s k + 1) := bt_cutB (j := 1) h1
  have hz := cutB_size s k
  have hkd : kd (cutB s k) = 0 := by
    conv => lhs; unfold kd
    rw [h0, h47, show blankB 47 = false from rfl, show signB 47 = false from rfl, if_neg (by decide), if_neg (by decide), if_pos rfl, if_pos ⟨by omega, hb1.trans h2⟩]
  have hln : ln (cutB s k) = ntN (cutB s k) := by
    conv => lhs; unfold ln
    rw [h0, h47, show blankB 47 = false from rfl, show signB 47 = false from rfl, if_neg (by decide), if_neg (by decide), if_pos rfl]
  have := h.step hk (by omega)
  unfold stepT at this
  rw [hln, if_pos hkd, List.append_nil] at this
  exact this
theorem kd_other {s : ByteArray} {k : Nat} (hk : plc s k < s.size) (hnb : blankB (bt s (plc s k)) = false) (hns : signB (bt s (plc s k)) = false) (h47 : bt s (plc s k) ≠ 47) :
    kd (cutB s k) = (if mayB s (plc s k) = true then (if wrN (cutB s k) ≤ 24 then 1 else 31) else 30) ∧ ln (cutB s k) = wrN (cutB s k) := by
  have h0 : bt (cutB s k) 0 = bt s (plc s k) := bt_cutB (j := 0) (by omega)
  constructor
  · conv => lhs; unfold kd
    rw [h0, hnb, hns, if_neg (by decide), if_neg (by decide), if_neg h47, may_cutB hk]
  · conv => lhs; unfold ln
    rw [h0, hnb, hns, if_neg (by decide), if_neg (by decide), if_neg h47]
theorem kd_slash {s : ByteArray} {k : Nat} (hk : plc s k < s.size) (h47 : bt s (plc s k) = 47) (h1 : ¬ (plc s k + 1 < s.size ∧ bt s (plc s k + 1) = 47)) : kd (cutB s k) = 30 := by
  have h0 : bt (cutB s k) 0 = bt s (plc s k) := bt_cutB (j := 0) (by omega)
  have hz := cutB_size s k
  conv => lhs; unfold kd
  rw [h0, h47, show blankB 47 = false from rfl, show signB 47 = false from rfl, if_neg (by decide), if_neg (by decide), if_pos rfl, if_neg]
  rintro ⟨a, b⟩
  have hb1 : bt (cutB s k) 1 = bt s (plc s k + 1) := bt_cutB (j := 1) (by omega)
  exact h1 ⟨by omega, hb1 ▸ b⟩
theorem Left.word (h : Left s k l) (hk : plc s k < s.size) (hnb : blankB (bt s (plc s k)) = false) (hns : signB (bt s (plc s k)) = false) (h47 : bt s (plc s k) ≠ 47) (hm : mayB s (plc s k) = true) (h24 : wrN (cutB s k) ≤ 24) :
    Left s (k + wrN (cutB s k)) (l ++ [(1, s.extract (plc s k) (plc s (k + wrN (cutB s k))), plc s k)]) ∧ 0 < wrN (cutB s k) := by
  obtain ⟨hkd, hln⟩ := kd_other hk hnb hns h47
  rw [if_pos hm, if_pos h24] at hkd
  have := h.step hk (by omega)
  unfold stepT at this
  rw [hln, if_neg (by omega), hkd, cutA_cutB_ext] at this
  exact this
theorem Left.slash (h : Left s k l) (hk : plc s k < s.size) (h47 : bt s (plc s k) = 47) (h1 : ¬ (plc s k + 1 < s.size ∧ bt s (plc s k + 1) = 47)) : (scan s 0).2 = (30, plc s k) := by
  have := h.err hk (by rw [kd_slash hk h47 h1]; omega)
  rwa [kd_slash hk h47 h1] at this
theorem Left.other (h : Left s k l) (hk : plc s k < s.size) (hnb : blankB (bt s (plc s k)) = false) (hns : signB (bt s (plc s k)) = false) (h47 : bt s (plc s k) ≠ 47) (hm : mayB s (plc s k) = false) : (scan s 0).2 = (30, plc s k) := by
  obtain ⟨hkd, _⟩ := kd_other hk hnb hns h47
  rw [hm, if_neg (by decide)] at hkd
  have := h.err hk (by omega)
  rwa [hkd] at this
theorem Left.long (h : Left s k l) (hk : plc s k < s.size) (hnb : blankB (bt s (plc s k)) = false) (hns : signB (bt s (plc s k)) = false) (h47 : bt s (plc s k) ≠ 47) (hm : mayB s (plc s k) = true) (h24 : ¬ wrN (cutB s k) ≤ 24) : (scan s 0).2 = (31, plc s k) := by
  obtain ⟨hkd, _⟩ := kd_other hk hnb hns h47
  rw [if_pos hm, if_neg h24] at hkd
  have := h.err hk (by omega)
  rwa [hkd] at this
end
end Go.Proofs.Ytkeonempmchpnaa
/- Layer 6: the reference's All, called: its tokens, or the error and its place, are the plain functions'. Conditions: a text of at most a million bytes. -/
namespace Go.Proofs.Ytkeonempmchpnaa
open Go.RowKit

theorem info_rtok : (Try.prog.info? 76).map (fun i => (i.zero, i.size, i.bytes)) = some (some (.agg #[.int .i64 0, .string .empty, .int .i64 0]), 3, 32) := by kernel_rfl
theorem row_snoc {w w1 : World} {B : Nat} {e : TypeId} {v v1 : Value} {o : Obj} {l : List Tk} {t : Tk} {w0 : World} (hb : Below B w0 w) (_ : w.ownsRow B e 3 v l.length (tcells l)) (hB : B ≤ w.heap.size) (hg : (w.alloc o).grownBy w1 v.ownBlock) (h : w.ownsRow B e 3 v l.length (tcells l)) (h1 : w1.ownsRow B e 3 v1 (l.length + 1) (tcells l ++ tcell t)) :
    Below B w0 w1 ∧ w1.ownsRow B e 3 v1 (l ++ [t]).length (tcells (l ++ [t])) :=
  ⟨below_of_own (hb.alloc hB o) hg (h.alloc o) (size_alloc hB) (Nat.le_refl _), by rw [tcells_snoc, List.length_append]; exact h1⟩
/-- What the reference answers: the tokens read as a list. -/
def RAllPost (s : ByteArray) (w : World) (e : Ending) (w' : World) : Prop := AllPost s w e w'

set_option maxHeartbeats 4000000 in
set_option maxRecDepth 100000 in
theorem rall_any (s : ByteArray) (w : World) (f0 : s.size ≤ maxLen) :
    Calls Try.prog 22 #[.string s] w (AllPost s w) := by
  unfold maxLen at f0
  by_cases hlong : 2048 < s.size
  · have hA : allS s = ([], 13, 0) := by unfold allS; rw [if_pos hlong]
    have HX : Hid (AllPost s w (.returned (.tuple #[.slice none 0 0, .int .i64 13, .int .i64 0])) w) := Lib.hid (AllPost.empty hA (Below.refl _ _))
    clear hA
    go_enter Try.func22, Try.ntmps22
    go_wp2
    go_ret3
    exact HX.out
  have hs : s.size ≤ 2048 := by omega
  have hs6 : s.size ≤ 1000000 := by omega
  clear f0
  have HA : Hid (allS s = if plc s (badN s) < s.size then ([], 11, plc s (badN s)) else if (scan s 0).2.1 = 0 then scan s 0 else ([], (scan s 0).2)) := Lib.hid (by unfold allS; rw [if_neg hlong])
  clear hlong
  obtain ⟨i0, hi0, hz0, hz1, hz2⟩ := info_parts info_rtok
  go_enter Try.func22, Try.ntmps22
  go_wp2
  go_loopw [5] (fun vi wr => ∃ k : Nat, k ≤ cnt s ∧ vi = .int .i64 (plc s k : Nat) ∧ w = wr ∧ ∀ j, j < k → brk s (plc s j) = false) (fun vi _ => s.size - (intOf vi).toNat)
  case atStart => exact ⟨0, Nat.zero_le _, rfl, rfl, fun j hj => by omega⟩
  case round =>
    obtain ⟨k, hk, rfl, rfl, hall⟩ := hrel
    have Hall := Lib.hid hall
    clear hall
    have hl := plc_le s k
    have hc := cnt_le s
    by_cases h : plc s k < s.size
    · have hd : (plc s k : Int) < (s.size : Nat) := by omega
      have hk2 := lt_cnt.2 h
      have hw := wd_pos h
      have HS := Lib.hid (plc_succ h)
      have hlg := brk_lng h
      have klo : ∀ W, _ := fun W => long_any s (plc s k) W hs6 h
      have kst : ∀ W, _ := fun W => step_any s (plc s k : Nat) (plc s k) W rfl hs6 h
      cases hm : brk s (plc s k) with
      | true =>
        rw [hm] at hlg
        have h0 : lng s (plc s k) = 0 := by simpa using hlg.symm
        rw [h0] at klo
        have HE : Hid (badN s = k) := Lib.hid (runN_eq (fun j hj => ⟨lt_cnt.1 (by omega), by have := Hall.out j hj; simp [this]⟩) fun _ => by simp [hm])
        clear h0 hlg
        go_wp2_with ((with_reducible refine (klo _).mono ?_); rintro e w' ⟨rfl, rfl⟩)
        go_ret3
        have hA := HA.out
        rw [HE.out, if_pos h] at hA
        exact AllPost.empty hA (Below.refl _ _)
      | false =>
        rw [hm] at hlg
        have hn : ¬ lng s (plc s k) = 0 := by simpa using hlg.symm
        have h0 : (((lng s (plc s k) : Nat) : Int) == 0) = false := by simp [hn]
        clear hlg hn
        go_wp2_with (first
          | ((with_reducible refine (klo _).mono ?_); rintro e w' ⟨rfl, rfl⟩)
          | ((with_reducible refine (kst _).mono ?_); rintro e w' ⟨rfl, rfl⟩))
        go_roundw
        case rel => exact ⟨k + 1, by omega, by rw [HS.out]; go_num, by first | rfl | trivial, fun j hj => by
          by_cases e : j = k
          · subst e; exact hm
          · exact Hall.out j (by omega)⟩
        case measure => simp [intOf]; omega
    · have hd : ¬ ((plc s k : Int) < (s.size : Nat)) := by omega
      have e := cnt_eq h fun j hj => lt_cnt.1 (by omega)
      have hv : ¬ plc s (badN s) < s.size := badN_valid.1 (validS_iff.2 (by rw [e]; exact Hall.out))
      have hA := HA.out
      rw [if_neg hv] at hA
      have HA2 := Lib.hid hA
      clear HA hA e hv hk Hall
      go_wp2
      clear hl h hd
      go_loopw [6, 7] (fun vo vi wq => ∃ (k : Nat) (l : List Tk), vi = .int .i64 (plc s k : Nat) ∧ Left s k l ∧ wq.ownsRow w.heap.size 76 3 vo l.length (tcells l) ∧ Below w.heap.size w wq) (fun _ vi _ => s.size - (intOf vi).toNat)
      case atStart => exact ⟨0, [], rfl, Left.start s, World.ownsRow_nil _ _ _ _, Below.refl _ _⟩
      case round =>
        clear hc
        obtain ⟨k, l, rfl, hL, hrow, hbw⟩ := hrel
        have hlk := plc_le s k
        have hll : l.length < 1000000 := by have := hL.few; have := hL.kc; have := cnt_le s; omega
        have hbs := hbw.size
        have HL := Lib.hid hL
        have Hb := Lib.hid hbw
        have Hrow := Lib.hid hrow
        clear hbw
        obtain ⟨A, c, rfl, _⟩ := Rd.own hrow
        by_cases h : plc s k < s.size
        · have hd : (plc s k : Int) < (s.size : Nat) := by omega
          have hx : (s[plc s k]'h).toNat = bt s (plc s k) := (bt_eq s (plc s k) h).symm
          have krs : ∀ W, Calls Try.prog 43 #[.int .u8 (bt s (plc s k) : Nat)] W fun e w' => e = .returned (.bool (signB (bt s (plc s k)))) ∧ W = w' := fun W => (rsign_any (bt s (plc s k) : Nat) (bt s (plc s k)) W rfl).mono fun _ _ hh => ⟨hh.1, hh.2.symm⟩
          have krm : ∀ W, _ := fun W => rmay_any s (plc s k) W hs6 h
          have hbl := bt_lt s (plc s k)
          by_cases cB : blankB (bt s (plc s k)) = true
          · obtain ⟨hN, hpn⟩ := hL.blank h cB
            have HN := Lib.hid hN
            have HP := Lib.hid hpn
            clear hL hN hpn
            have cB3 := blankB_iff.1 cB
            generalize bt s (plc s k) = q at *
            generalize signB q = sg at *
            generalize mayB s (plc s k) = my at *
            have hd3 : (((q : Nat) : Int) == 32) = true ∨ ((((q : Nat) : Int) == 32) = false ∧ (((q : Nat) : Int) == 9) = true) ∨ ((((q : Nat) : Int) == 32) = false ∧ (((q : Nat) : Int) == 9) = false ∧ (((q : Nat) : Int) == 10) = true) := by
              simp only [beq_iff_eq, beq_eq_false_iff_ne]; omega
            rcases hd3 with d1 | ⟨d1, d2⟩ | ⟨d1, d2, d3⟩
            all_goals
              clear cB cB3
              go_wp2_with (first
                | ((with_reducible refine (krs _).mono ?_); rintro e w' ⟨rfl, rfl⟩)
                | ((with_reducible refine (krm _).mono ?_); rintro e w' ⟨rfl, rfl⟩))
              go_roundw
              case rel => exact ⟨k + 1, l, by rw [HP.out]; rfl, HN.out, Hrow.out, Hb.out⟩
              case measure => simp [intOf]; omega
          rw [Bool.not_eq_true] at cB
          have d32 : (((bt s (plc s k) : Nat) : Int) == 32) = false := by
            rw [beq_eq_false_iff_ne]; intro e; have := blankB_iff (c := bt s (plc s k)) |>.2 (.inl (by omega)) ; rw [cB] at this; cases this
          have d9 : (((bt s (plc s k) : Nat) : Int) == 9) = false := by
            rw [beq_eq_false_iff_ne]; intro e; have := blankB_iff (c := bt s (plc s k)) |>.2 (.inr (.inl (by omega))) ; rw [cB] at this; cases this
          have d10 : (((bt s (plc s k) : Nat) : Int) == 10) = false := by
            rw [beq_eq_false_iff_ne]; intro e; have := blankB_iff (c := bt s (plc s k)) |>.2 (.inr (.inr (by omega))) ; rw [cB] at this; cases this
          cases cS : signB (bt s (plc s k)) with
          | true =>
            obtain ⟨hN, hpn⟩ := hL.sign h cS
            have HN := Lib.hid hN
            have HP := Lib.hid hpn
            clear hL hN hpn
            rw [cS] at krs
            clear cS cB
            generalize bt s (plc s k) = q at *
            generalize mayB s (plc s k) = my at *
            have hb1 : plc s k + 1 ≤ s.size := h
            go_wp2_with (first
              | ((with_reducible refine (krs _).mono ?_); rintro e w' ⟨rfl, rfl⟩)
              | ((with_reducible refine (krm _).mono ?_); rintro e w' ⟨rfl, rfl⟩)
              | (at_builtin; refine wpList_append_src _ rfl (.tmp 56) (.tmp 64) 66 66 rfl w.heap.size 76 i0 (.agg #[.int .i64 0, .string .empty, .int .i64 0]) 3 32 Try.underlying66 hi0 hz0 hz1 hz2 rfl (by decide) _ l.length (tcells l) rfl (Hrow.out.alloc _) _ 1 [.int .i64 2, .string (s.extract (plc s k) (plc s k + 1)), .int .i64 (plc s k : Nat)] rfl (Src.ofSlice _ Try.underlying66 _ 1 1 _ rfl (cells_new _ _ _ _ _) (tcell_one (2, s.extract (plc s k) (plc s k + 1), plc s k))) (by simp only [maxLen]; omega) (by omega) (size_alloc hbs) ?_; intro v1 w1 hown1 hg1 hat1; obtain ⟨A1, c1, rfl, _⟩ := Rd.own hown1; obtain ⟨hb1', hr1⟩ := row_snoc (t := (2, s.extract (plc s k) (plc s k + 1), plc s k)) Hb.out Hrow.out hbs hg1 Hrow.out hown1; have HB1 := Lib.hid hb1'; have HR1 := Lib.hid hr1; clear hown1 hg1 hat1 hb1' hr1))
            go_roundw
            case rel => exact ⟨k + 1, _, by rw [HP.out]; rfl, HN.out, by simpa using HR1.out, HB1.out⟩
            case measure => simp [intOf]; omega
          | false =>
            rw [cS] at krs
            by_cases c47 : bt s (plc s k) = 47
            · have hmy : mayB s (plc s k) = false := by rw [may_low h (by omega), c47]; rfl
              rw [hmy] at krm
              have d47 : (((bt s (plc s k) : Nat) : Int) == 47) = true := by rw [beq_iff_eq]; omega
              by_cases c1 : plc s k + 1 < s.size
              · have hd1 : (plc s k : Int) + 1 < (s.size : Nat) := by omega
                have hx1 : (s[plc s k + 1]'c1).toNat = bt s (plc s k + 1) := (bt_eq s (plc s k + 1) c1).symm
                by_cases c2 : bt s (plc s k + 1) = 47
                · obtain ⟨hN, hpn⟩ := hL.note h c47 c1 c2
                  have HN := Lib.hid hN
                  have HPN := Lib.hid hpn
                  have d2 : (((bt s (plc s k + 1) : Nat) : Int) == 47) = true := by rw [beq_iff_eq]; omega
                  have H1 := Lib.hid c47
                  have H2 := Lib.hid c2
                  clear hL hN hpn cB cS c47 c2 hmy hbl
                  go_wp2_with (first
                    | ((with_reducible refine (krs _).mono ?_); rintro e w' ⟨rfl, rfl⟩)
                    | ((with_reducible refine (krm _).mono ?_); rintro e w' ⟨rfl, rfl⟩))
                  go_loopw [7] (fun vi wz => ∃ d : Nat, vi = .int .i64 (plc s k + d : Nat) ∧ wr = wz ∧ d ≤ (cutB s k).size ∧ ∀ j, j < d → bt s (plc s k + j) ≠ 10) (fun vi _ => s.size - (intOf vi).toNat)
                  case atStart => exact ⟨0, rfl, by first | rfl | trivial, Nat.zero_le _, fun j hj => by omega⟩
                  case round =>
                    obtain ⟨d, rfl, rfl, hdl, hall⟩ := hrel
                    have Hall := Lib.hid hall
                    clear hall hd hx hd1 hx1 d32 d9 d10 d47 d2 krs krm
                    have hzz := cutB_size s k
                    by_cases hm : plc s k + d < s.size
                    · have hd4 : (plc s k : Int) + (d : Int) < (s.size : Nat) := by omega
                      have hx4 : (s[plc s k + d]'hm).toNat = bt s (plc s k + d) := (bt_eq s (plc s k + d) hm).symm
                      by_cases h10 : bt s (plc s k + d) = 10
                      · have d10 : (((bt s (plc s k + d) : Nat) : Int) == 10) = true := by rw [beq_iff_eq]; omega
                        have HE := Lib.hid (ntN_at hdl Hall.out fun _ => h10)
                        clear h10
                        go_wp2
                        go_roundw
                        case rel => exact ⟨k + ntN (cutB s k), l, by rw [HE.out]; go_num, HN.out, Hrow.out, Hb.out⟩
                        case measure =>
                          have h1 := HE.out
                          have h2 := plc_mono s (show k + 1 ≤ k + ntN (cutB s k) by have := HPN.out; omega)
                          have h3 := plc_lt_succ h
                          simp [intOf]; omega
                      · have d10 : (((bt s (plc s k + d) : Nat) : Int) == 10) = false := by rw [beq_eq_false_iff_ne]; omega
                        have H10 := Lib.hid h10
                        clear h10
                        go_wp2
                        go_roundw
                        case rel => exact ⟨d + 1, by go_num, by first | rfl | trivial, by omega, fun j hj => by
                          by_cases e : j = d
                          · subst e; exact H10.out
                          · exact Hall.out j (by omega)⟩
                        case measure => simp [intOf]; omega
                    · have hd4 : ¬ ((plc s k : Int) + (d : Int) < (s.size : Nat)) := by omega
                      have HE := Lib.hid (ntN_at hdl Hall.out fun hh => absurd hh hm)
                      go_wp2
                      go_roundw
                      case rel => exact ⟨k + ntN (cutB s k), l, by rw [HE.out], HN.out, Hrow.out, Hb.out⟩
                      case measure =>
                        have h1 := HE.out
                        have h2 := plc_mono s (show k + 1 ≤ k + ntN (cutB s k) by have := HPN.out; omega)
                        have h3 := plc_lt_succ h
                        simp [intOf]; omega
                · have hE := hL.slash h c47 (fun hh => c2 hh.2)
                  have HE := Lib.hid hE
                  have d2 : (((bt s (plc s k + 1) : Nat) : Int) == 47) = false := by rw [beq_eq_false_iff_ne]; omega
                  clear hL hE cB cS c47 c2 hmy hbl
                  go_wp2_with (first
                    | ((with_reducible refine (krs _).mono ?_); rintro e w' ⟨rfl, rfl⟩)
                    | ((with_reducible refine (krm _).mono ?_); rintro e w' ⟨rfl, rfl⟩))
                  go_ret3
                  have hA := HA2.out
                  rw [HE.out] at hA
                  exact AllPost.empty hA Hb.out
              · have hE := hL.slash h c47 (fun hh => c1 hh.1)
                have HE := Lib.hid hE
                have hd1 : ¬ ((plc s k : Int) + 1 < (s.size : Nat)) := by omega
                clear hL hE cB cS c47 hmy hbl
                go_wp2_with (first
                  | ((with_reducible refine (krs _).mono ?_); rintro e w' ⟨rfl, rfl⟩)
                  | ((with_reducible refine (krm _).mono ?_); rintro e w' ⟨rfl, rfl⟩))
                go_ret3
                have hA := HA2.out
                rw [HE.out] at hA
                exact AllPost.empty hA Hb.out
            · have d47 : (((bt s (plc s k) : Nat) : Int) == 47) = false := by rw [beq_eq_false_iff_ne]; omega
              cases hmy : mayB s (plc s k) with
              | false =>
                have hE := hL.other h cB cS c47 hmy
                have HE := Lib.hid hE
                rw [hmy] at krm
                clear hL hE cB cS c47 hmy
                generalize bt s (plc s k) = q at *
                go_wp2_with (first
                  | ((with_reducible refine (krs _).mono ?_); rintro e w' ⟨rfl, rfl⟩)
                  | ((with_reducible refine (krm _).mono ?_); rintro e w' ⟨rfl, rfl⟩))
                go_ret3
                have hA := HA2.out
                rw [HE.out] at hA
                exact AllPost.empty hA Hb.out
              | true =>
                have HC := Lib.hid (And.intro cB (And.intro cS (And.intro c47 hmy)))
                rw [hmy] at krm
                clear hL cB cS c47 hmy
                have Hx := Lib.hid h
                go_wp2_with (first
                  | ((with_reducible refine (krs _).mono ?_); rintro e w' ⟨rfl, rfl⟩)
                  | ((with_reducible refine (krm _).mono ?_); rintro e w' ⟨rfl, rfl⟩))
                go_loopw [11, 12] (fun vk vn wz => ∃ n : Nat, vk = .int .i64 (plc s (k + n) : Nat) ∧ vn = .int .i64 n ∧ wr = wz ∧ ∀ j, j < n → plc s (k + j) < s.size ∧ mayB s (plc s (k + j)) = true) (fun vk _ _ => s.size - (intOf vk).toNat)
                case atStart => exact ⟨0, rfl, rfl, by first | rfl | trivial, fun j hj => by omega⟩
                case round =>
                  obtain ⟨n, rfl, rfl, rfl, hall⟩ := hrel
                  have Hall := Lib.hid hall
                  clear hall hd hx d32 d9 d10 d47 krs krm hbl
                  have hlkn := plc_le s (k + n)
                  by_cases hm : plc s (k + n) < s.size
                  · have hd4 : (plc s (k + n) : Int) < (s.size : Nat) := by omega
                    have hge := plc_ge hm
                    have kmn : ∀ W, _ := fun W => rmay_any s (plc s (k + n)) W hs6 hm
                    have ksn : ∀ W, _ := fun W => step_any s (plc s (k + n) : Nat) (plc s (k + n)) W rfl hs6 hm
                    cases hmn : mayB s (plc s (k + n)) with
                    | true =>
                      rw [hmn] at kmn
                      have HP := Lib.hid (plc_succ hm)
                      have hw2 := wd_pos hm
                      have HM := Lib.hid (And.intro hm hmn)
                      clear hmn
                      go_wp2_with (first
                        | ((with_reducible refine (kmn _).mono ?_); rintro e w' ⟨rfl, rfl⟩)
                        | ((with_reducible refine (ksn _).mono ?_); rintro e w' ⟨rfl, rfl⟩))
                      go_roundw
                      case rel => exact ⟨n + 1, by rw [← Nat.add_assoc, HP.out]; go_num, by go_num, by first | rfl | trivial, fun j hj => by
                        by_cases e : j = n
                        · subst e; exact HM.out
                        · exact Hall.out j (by omega)⟩
                      case measure => simp [intOf]; omega
                    | false =>
                      rw [hmn] at kmn
                      have hwn := wrN_at Hall.out fun _ => hmn
                      clear hmn
                      by_cases h24 : n ≤ 24
                      · obtain ⟨hN, hpo⟩ := HL.out.word Hx.out HC.out.1 HC.out.2.1 HC.out.2.2.1 HC.out.2.2.2 (by rw [hwn]; exact h24)
                        rw [hwn] at hN hpo
                        have HN := Lib.hid hN
                        have hd6 : ¬ ((24 : Int) < (n : Nat)) := by omega
                        have hlt6 := plc_lt_succ Hx.out
                        have hmo6 := plc_mono s (show k + 1 ≤ k + n by omega)
                        have hle6 := plc_le s (k + n)
                        clear hN hwn
                        go_wp2_with (first
                          | ((with_reducible refine (kmn _).mono ?_); rintro e w' ⟨rfl, rfl⟩)
                          | (at_builtin; refine wpList_append_src _ rfl (.tmp 117) (.tmp 124) 66 66 rfl w.heap.size 76 i0 (.agg #[.int .i64 0, .string .empty, .int .i64 0]) 3 32 Try.underlying66 hi0 hz0 hz1 hz2 rfl (by decide) _ l.length (tcells l) rfl (Hrow.out.alloc _) _ 1 [.int .i64 1, .string (s.extract (plc s k) (plc s (k + n))), .int .i64 (plc s k : Nat)] rfl (Src.ofSlice _ Try.underlying66 _ 1 1 _ rfl (cells_new _ _ _ _ _) (tcell_one (1, s.extract (plc s k) (plc s (k + n)), plc s k))) (by simp only [maxLen]; omega) (by omega) (size_alloc hbs) ?_; intro v1 w1 hown1 hg1 hat1; obtain ⟨A1, c1, rfl, _⟩ := Rd.own hown1; obtain ⟨hb1', hr1⟩ := row_snoc (t := (1, s.extract (plc s k) (plc s (k + n)), plc s k)) Hb.out Hrow.out hbs hg1 Hrow.out hown1; have HB1 := Lib.hid hb1'; have HR1 := Lib.hid hr1; clear hown1 hg1 hat1 hb1' hr1))
                        go_roundw
                        case rel => exact ⟨k + n, _, rfl, HN.out, by simpa using HR1.out, HB1.out⟩
                        case measure => simp [intOf]; omega
                      · have hE := HL.out.long Hx.out HC.out.1 HC.out.2.1 HC.out.2.2.1 HC.out.2.2.2 (by rw [hwn]; exact h24)
                        have HE := Lib.hid hE
                        have hd6 : (24 : Int) < (n : Nat) := by omega
                        clear hE hwn
                        go_wp2_with (first
                          | ((with_reducible refine (kmn _).mono ?_); rintro e w' ⟨rfl, rfl⟩)
                          | (at_builtin; refine wpList_append_src _ rfl (.tmp 117) (.tmp 124) 66 66 rfl w.heap.size 76 i0 (.agg #[.int .i64 0, .string .empty, .int .i64 0]) 3 32 Try.underlying66 hi0 hz0 hz1 hz2 rfl (by decide) _ l.length (tcells l) rfl (Hrow.out.alloc _) _ 1 [.int .i64 1, .string (s.extract (plc s k) (plc s (k + n))), .int .i64 (plc s k : Nat)] rfl (Src.ofSlice _ Try.underlying66 _ 1 1 _ rfl (cells_new _ _ _ _ _) (tcell_one (1, s.extract (plc s k) (plc s (k + n)), plc s k))) (by simp only [maxLen]; omega) (by omega) (size_alloc hbs) ?_; intro v1 w1 hown1 hg1 hat1; obtain ⟨A1, c1, rfl, _⟩ := Rd.own hown1; obtain ⟨hb1', hr1⟩ := row_snoc (t := (1, s.extract (plc s k) (plc s (k + n)), plc s k)) Hb.out Hrow.out hbs hg1 Hrow.out hown1; have HB1 := Lib.hid hb1'; have HR1 := Lib.hid hr1; clear hown1 hg1 hat1 hb1' hr1))
                        go_ret3
                        have hA := HA2.out
                        rw [HE.out] at hA
                        exact AllPost.empty hA Hb.out
                  · have hd4 : ¬ ((plc s (k + n) : Int) < (s.size : Nat)) := by omega
                    have hwn := wrN_at Hall.out fun hh => absurd hh hm
                    have hge : n ≤ 2048 := by
                      rcases Nat.eq_zero_or_pos n with e | e
                      · omega
                      · have h1 := (Hall.out (n - 1) (by omega)).1
                        have h2 := plc_ge h1
                        omega
                    by_cases h24 : n ≤ 24
                    · obtain ⟨hN, hpo⟩ := HL.out.word Hx.out HC.out.1 HC.out.2.1 HC.out.2.2.1 HC.out.2.2.2 (by rw [hwn]; exact h24)
                      rw [hwn] at hN hpo
                      have HN := Lib.hid hN
                      have hd6 : ¬ ((24 : Int) < (n : Nat)) := by omega
                      have hlt6 := plc_lt_succ Hx.out
                      have hmo6 := plc_mono s (show k + 1 ≤ k + n by omega)
                      have hle6 := plc_le s (k + n)
                      clear hN hwn
                      go_wp2_with (at_builtin; refine wpList_append_src _ rfl (.tmp 117) (.tmp 124) 66 66 rfl w.heap.size 76 i0 (.agg #[.int .i64 0, .string .empty, .int .i64 0]) 3 32 Try.underlying66 hi0 hz0 hz1 hz2 rfl (by decide) _ l.length (tcells l) rfl (Hrow.out.alloc _) _ 1 [.int .i64 1, .string (s.extract (plc s k) (plc s (k + n))), .int .i64 (plc s k : Nat)] rfl (Src.ofSlice _ Try.underlying66 _ 1 1 _ rfl (cells_new _ _ _ _ _) (tcell_one (1, s.extract (plc s k) (plc s (k + n)), plc s k))) (by simp only [maxLen]; omega) (by omega) (size_alloc hbs) ?_; intro v1 w1 hown1 hg1 hat1; obtain ⟨A1, c1, rfl, _⟩ := Rd.own hown1; obtain ⟨hb1', hr1⟩ := row_snoc (t := (1, s.extract (plc s k) (plc s (k + n)), plc s k)) Hb.out Hrow.out hbs hg1 Hrow.out hown1; have HB1 := Lib.hid hb1'; have HR1 := Lib.hid hr1; clear hown1 hg1 hat1 hb1' hr1)
                      go_roundw
                      case rel => exact ⟨k + n, _, rfl, HN.out, by simpa using HR1.out, HB1.out⟩
                      case measure => simp [intOf]; omega
                    · have hE := HL.out.long Hx.out HC.out.1 HC.out.2.1 HC.out.2.2.1 HC.out.2.2.2 (by rw [hwn]; exact h24)
                      have HE := Lib.hid hE
                      have hd6 : (24 : Int) < (n : Nat) := by omega
                      clear hE hwn
                      go_wp2_with (at_builtin; refine wpList_append_src _ rfl (.tmp 117) (.tmp 124) 66 66 rfl w.heap.size 76 i0 (.agg #[.int .i64 0, .string .empty, .int .i64 0]) 3 32 Try.underlying66 hi0 hz0 hz1 hz2 rfl (by decide) _ l.length (tcells l) rfl (Hrow.out.alloc _) _ 1 [.int .i64 1, .string (s.extract (plc s k) (plc s (k + n))), .int .i64 (plc s k : Nat)] rfl (Src.ofSlice _ Try.underlying66 _ 1 1 _ rfl (cells_new _ _ _ _ _) (tcell_one (1, s.extract (plc s k) (plc s (k + n)), plc s k))) (by simp only [maxLen]; omega) (by omega) (size_alloc hbs) ?_; intro v1 w1 hown1 hg1 hat1; obtain ⟨A1, c1, rfl, _⟩ := Rd.own hown1; obtain ⟨hb1', hr1⟩ := row_snoc (t := (1, s.extract (plc s k) (plc s (k + n)), plc s k)) Hb.out Hrow.out hbs hg1 Hrow.out hown1; have HB1 := Lib.hid hb1'; have HR1 := Lib.hid hr1; clear hown1 hg1 hat1 hb1' hr1)
                      go_ret3
                      have hA := HA2.out
                      rw [HE.out] at hA
                      exact AllPost.empty hA Hb.out
        · have hd : ¬ ((plc s k : Int) < (s.size : Nat)) := by omega
          obtain ⟨hpj, hcode, htoks⟩ := hL.fin h
          have HC := Lib.hid hcode
          have HT := Lib.hid htoks
          clear hL hpj hcode htoks
          go_wp2_with (at_builtin; refine wpList_append_src _ rfl (.tmp 127) (.tmp 131) 66 66 rfl w.heap.size 76 i0 (.agg #[.int .i64 0, .string .empty, .int .i64 0]) 3 32 Try.underlying66 hi0 hz0 hz1 hz2 rfl (by decide) _ l.length (tcells l) rfl (Hrow.out.alloc _) _ 1 [.int .i64 3, .string ⟨#[]⟩, .int .i64 (s.size : Nat)] rfl (Src.ofSlice _ Try.underlying66 _ 1 1 _ rfl (cells_new _ _ _ _ _) (tcell_one (3, ⟨#[]⟩, s.size))) (by simp only [maxLen]; omega) (by omega) (size_alloc hbs) ?_; intro v1 w1 hown1 hg1 hat1; obtain ⟨A1, c1, rfl, hrd⟩ := Rd.own hown1; obtain ⟨hb1', hr1⟩ := row_snoc (t := (3, ⟨#[]⟩, s.size)) Hb.out Hrow.out hbs hg1 Hrow.out hown1; have HB1 := Lib.hid hb1'; have HRD := Lib.hid hrd; clear hown1 hg1 hat1 hb1' hr1 hrd)
          go_ret3
          have hA := HA2.out
          rw [if_pos (by rw [HC.out])] at hA
          refine ⟨⟨A1, c1, ?_, ?_⟩, HB1.out⟩
          · rw [hA, HC.out, HT.out, List.length_append]; rfl
          · unfold Toks
            rw [hA, HT.out, List.length_append, tcells_snoc]; exact HRD.out
end Go.Proofs.Ytkeonempmchpnaa
