/- Layer 6: what comes of a rune that is in no word: blank, note, sign, word; each takes in what stands there, or tells the error. Conditions: a valid text of at most 2048 bytes, fewer than a million tokens. -/
import Derived.Test.YtinfbimfiaegdaaLine
import Derived.Test.YtinfbimfiaegdaaWord
namespace Go.Proofs.Ytinfbimfiaegdaa
open Go.RowKit

/-- What a step adds. -/
def stepT (u : ByteArray) (off : Nat) : List Tk := if kd u = 0 then [] else [(kd u, cutA u (ln u), off)]
/-- What a step leaves: it goes on behind what stood there, or an error is told. -/
def Stepped (B g : Nat) (s : ByteArray) (k : Nat) (l : List Tk) (w : World) (e : Ending) (w' : World) : Prop :=
  Kp g B w w' ∧
  ((kd (cutB s k) < 3 ∧ e = .returned (.int .i64 (plc s (k + ln (cutB s k)) : Nat)) ∧ Sc B w' g s (l ++ stepT (cutB s k) (plc s k)) 0) ∨
   (3 ≤ kd (cutB s k) ∧ e = .returned (.int .i64 (plc s k : Nat)) ∧ Sc B w' g s l (kd (cutB s k))))

section
variable {B : Nat} {w : World} {g : Nat} {s : ByteArray} {l : List Tk} {e : Nat} {k : Nat}
set_option maxHeartbeats 400000 in
theorem fail_any (h : Sc B w g s l e) (c p : Nat) :
    Calls Try.prog 52 #[.pointer (some ⟨g, 0, none⟩), .int .i64 c, .int .i64 p] w fun e' w' => e' = .returned (.int .i64 p) ∧ Sc B w' g s l c ∧ Kp g B w w' := by
  obtain ⟨v, h⟩ := h
  have c2 := h.c2
  have fz := h.fz
  have H := Lib.hid h
  clear h
  go_enter Try.func52, Try.ntmps52
  go_wp2
  go_ret
  have hc := H.out.cells
  have hlt := H.out.lt
  refine ⟨rfl, ⟨v, ?_, own_same H.out.row fun j hj => Below.heap_setCell _ _ _ _ (by have := (H.out.row.lt j hj).1; show j ≠ g; omega), hlt⟩, rfl, rfl, rfl, by simp [World.setCell], fun j hj hn => Below.heap_setCell _ _ _ _ (by show j ≠ g; exact hn)⟩
  simp [World.setCell, Array.getElem?_modify, hc]
theorem bt_cutB {s : ByteArray} {k j : Nat} (h : plc s k + j < s.size) : bt (cutB s k) j = bt s (plc s k + j) := by
  have := cutB_size s k
  exact cutB_bt s k j (by omega)
theorem plc_one {u : ByteArray} (h : 0 < u.size) (hb : bt u 0 < 128) : plc u 1 = 1 := by
  have h1 : plc u 1 = plc u 0 + wd u (plc u 0) := plc_succ (s := u) (k := 0) h
  have h2 : wd u 0 = 1 := (dec_low h hb).2
  rw [h1, show plc u 0 = 0 from rfl, h2]
theorem plc_low {s : ByteArray} {k : Nat} (h : plc s k < s.size) (hb : bt s (plc s k) < 128) : plc s (k + 1) = plc s k + 1 := by
  rw [plc_succ h, (dec_low h hb).2]
theorem blank_any (h : Sc B w g s l 0) (hs : s.size ≤ 2048) (hk : plc s k < s.size) (hb : blankB (bt s (plc s k)) = true) (A : Option Addr) :
    Calls Try.prog 50 #[.pointer A, .int .i64 (plc s k : Nat)] w (Stepped B g s k l w) := by
  have h0 : bt (cutB s k) 0 = bt s (plc s k) := bt_cutB (j := 0) (by omega)
  have hkd : kd (cutB s k) = 0 := by unfold kd; rw [h0, if_pos hb]
  have hln : ln (cutB s k) = 1 := by unfold ln; rw [h0, if_pos hb]
  have h10 := blankB_iff.1 hb
  have hpl := plc_low hk (by omega)
  have HX : Hid (Stepped B g s k l w (.returned (.int .i64 ((plc s k : Nat) + 1 : Int))) w) := Lib.hid ⟨Kp.refl _ _ _, .inl ⟨by omega, by rw [hln, hpl]; rfl, by unfold stepT; rw [if_pos hkd, List.append_nil]; exact h⟩⟩
  clear h h0 hkd hln h10 hb hpl
  go_enter Try.func50, Try.ntmps50
  go_wp2
  go_ret
  exact HX.out

theorem cutA_cutB_ext (s : ByteArray) (k j : Nat) : cutA (cutB s k) j = s.extract (plc s k) (plc s (k + j)) := by
  have h1 := plc_cutB s k j
  have h2 := cutB_size s k
  have h3 := cutA_size (cutB s k) j
  have h4 := plc_le s (k + j)
  refine bt_ext (by rw [size_ext]; omega) fun i hi => ?_
  rw [cutA_bt _ _ i hi, cutB_bt _ _ i (by have := plc_le (cutB s k) j; omega), bt_ext_get _ _ _ _ (by omega)]
theorem valid_cutB {s : ByteArray} (hv : validS s = true) (k : Nat) : validS (cutB s k) = true := by
  rw [validS_iff] at hv ⊢
  intro j hj
  rw [cnt_cutB] at hj
  have h1 := plc_cutB s k j
  have h2 := cutB_size s k
  have h3 := lt_cnt.1 (show k + j < cnt s by omega)
  have h4 := decode_suf h2 (cutB_bt s k) (i := plc (cutB s k) j) (by omega)
  have h5 := hv (k + j) (by omega)
  unfold brk rn wd at h5 ⊢
  rw [h4, h1]; exact h5
theorem sign_any (h : Sc B w g s l 0) (hB : B ≤ w.heap.size) (hs : s.size ≤ 2048) (hl : l.length < 1000000) (hk : plc s k < s.size) (hb : signB (bt s (plc s k)) = true) :
    Calls Try.prog 49 #[.pointer (some ⟨g, 0, none⟩), .int .i64 (plc s k : Nat)] w (Stepped B g s k l w) := by
  have h0 : bt (cutB s k) 0 = bt s (plc s k) := bt_cutB (j := 0) (by omega)
  have h10 := signB_iff.1 hb
  have hnb : ¬ blankB (bt s (plc s k)) = true := by rw [blankB_iff]; omega
  have hkd : kd (cutB s k) = 2 := by unfold kd; rw [h0, if_neg hnb, if_pos hb]
  have hln : ln (cutB s k) = 1 := by unfold ln; rw [h0, if_neg hnb, if_pos hb]
  have hpl := plc_low hk (by omega)
  have hx : s.extract (plc s k) (plc s k + 1) = cutA (cutB s k) 1 := by rw [cutA_cutB_ext, hpl]
  have hxs : (s.extract (plc s k) (plc s k + 1)).size = 1 := by rw [size_ext]; omega
  have ka : ∀ W, Sc B W g s l 0 → B ≤ W.heap.size → _ := fun W hW hBW => add_any (k := 2) (t := s.extract (plc s k) (plc s k + 1)) (p := plc s k) hW hBW hl (by omega) (by omega)
  have HX : ∀ W', Sc B W' g s (l ++ [(2, s.extract (plc s k) (plc s k + 1), plc s k)]) 0 → Kp g B w W' → Hid (Stepped B g s k l w (.returned (.int .i64 ((plc s k + (s.extract (plc s k) (plc s k + 1)).size : Nat) : Int))) W') := fun W' a b => Lib.hid ⟨b, .inl ⟨by omega, by rw [hln, hpl, hxs], by unfold stepT; rw [if_neg (by omega), hkd, hln, ← hx]; exact a⟩⟩
  clear hb h0 hkd hln h10 hpl hnb hx
  have hb1 : plc s k + 1 ≤ s.size := hk
  obtain ⟨v, h⟩ := h
  have c0 := h.c0
  have H := Lib.hid h
  clear h
  generalize plc s k = p at *
  go_enter Try.func49, Try.ntmps49
  go_wp2_with ((refine (ka _ ⟨v, H.out⟩ hB).mono ?_); rintro e w1 ⟨rfl, hsc, hkp⟩)
  go_ret
  have hx := (HX _ hsc hkp).out
  rw [hxs] at hx
  exact hx
set_option maxHeartbeats 1000000 in
theorem word_any (h : Sc B w g s l 0) (hB : B ≤ w.heap.size) (hs : s.size ≤ 2048) (hv : validS s = true) (hl : l.length < 1000000) (hk : plc s k < s.size) (hnb : blankB (bt s (plc s k)) = false) (hns : signB (bt s (plc s k)) = false) (h47 : bt s (plc s k) ≠ 47) :
    Calls Try.prog 31 #[.pointer (some ⟨g, 0, none⟩), .int .i64 (plc s k : Nat)] w (Stepped B g s k l w) := by
  have h0 : bt (cutB s k) 0 = bt s (plc s k) := bt_cutB (j := 0) (by omega)
  have hz := cutB_size s k
  have hkd : kd (cutB s k) = if mayB (cutB s k) 0 = true then (if wrN (cutB s k) ≤ 24 then 1 else 31) else 30 := by
    conv => lhs; unfold kd
    rw [h0, hnb, hns, if_neg (by decide), if_neg (by decide), if_neg h47]
  have hln : ln (cutB s k) = wrN (cutB s k) := by
    conv => lhs; unfold ln
    rw [h0, hnb, hns, if_neg (by decide), if_neg (by decide), if_neg h47]
  have hpl := plc_cutB s k (wrN (cutB s k))
  have hcs := cutA_size (cutB s k) (wrN (cutB s k))
  have hcc : cnt (cutA (cutB s k) (wrN (cutB s k))) = wrN (cutB s k) := by rw [cnt_cutA]; have := runN_le (mayB (cutB s k)) (cutB s k); unfold wrN; omega
  have hwl : wrN (cutB s k) ≤ 2048 := by have := runN_le (mayB (cutB s k)) (cutB s k); have := cnt_le (cutB s k); unfold wrN; omega
  have hbig : (cutA (cutB s k) (wrN (cutB s k))).size ≤ 1000000 := by have := plc_le (cutB s k) (wrN (cutB s k)); omega
  have kf : ∀ W, Calls Try.prog 51 #[.string (s.extract (plc s k) s.size)] W fun e w' => e = .returned (.string (cutA (cutB s k) (wrN (cutB s k)))) ∧ Below W.heap.size W w' := fun W => firstWord_any (cutB s k) W (by omega) (valid_cutB hv k)
  have kc : ∀ W, _ := fun W => count_any (cutA (cutB s k) (wrN (cutB s k))) W hbig
  rw [hcc] at kc
  have hb1 : plc s k ≤ s.size := Nat.le_of_lt hk
  obtain ⟨v, h⟩ := h
  have c0 := h.c0
  have hgs := h.size
  have H := Lib.hid h
  clear h h0 hnb hns h47 hcc
  by_cases hm : mayB (cutB s k) 0 = true
  · rw [if_pos hm] at hkd
    have hp : 0 < wrN (cutB s k) := runN_pos (by omega) hm
    have hpo : 0 < (cutA (cutB s k) (wrN (cutB s k))).size := by
      have h1 := plc_mono (cutB s k) (show 1 ≤ wrN (cutB s k) from hp)
      have h2 : plc (cutB s k) 0 < plc (cutB s k) 1 := plc_lt_succ (s := cutB s k) (k := 0) (by show 0 < _; omega)
      omega
    have hne := list_ne2 hpo
    by_cases h24 : wrN (cutB s k) ≤ 24
    · rw [if_pos h24] at hkd
      have hd : ¬ ((24 : Int) < (wrN (cutB s k) : Nat)) := by omega
      have ka : ∀ W, Sc B W g s l 0 → B ≤ W.heap.size → _ := fun W hW hBW => add_any (k := 1) (t := cutA (cutB s k) (wrN (cutB s k))) (p := plc s k) hW hBW hl (by omega) hbig
      have HX : ∀ W', Sc B W' g s (l ++ [(1, cutA (cutB s k) (wrN (cutB s k)), plc s k)]) 0 → Kp g B w W' → Hid (Stepped B g s k l w (.returned (.int .i64 ((plc s k + (cutA (cutB s k) (wrN (cutB s k))).size : Nat) : Int))) W') := fun W' a b => Lib.hid ⟨b, .inl ⟨by omega, by rw [hln, hcs, hpl], by unfold stepT; rw [if_neg (by omega), hkd, hln]; exact a⟩⟩
      clear hkd hln hpl hcs h24 hp hpo hm hz
      generalize cutA (cutB s k) (wrN (cutB s k)) = x at *
      generalize wrN (cutB s k) = n at *
      generalize plc s k = p at *
      go_enter Try.func31, Try.ntmps31
      go_wp2_with (first
        | ((with_reducible refine (kf _).mono ?_); rintro e w1 ⟨rfl, hb1⟩)
        | ((with_reducible refine (kc _).mono ?_); rintro e w2 ⟨rfl, hb2⟩; have hb3 := hb1.trans (hb2.mono hb1.size); have hsz := hb3.size; have H3 : Hid (ScAt B w2 g s l 0 v) := Lib.hid (H.out.below hb3))
        | ((refine (ka _ ⟨v, H3.out⟩ (Nat.le_trans hB hsz)).mono ?_); rintro e w4 ⟨rfl, hsc, hkp⟩))
      go_ret
      exact (HX _ hsc ((Kp.of_below (hb3.mono hB) g).trans hkp)).out
    · rw [if_neg h24] at hkd
      have hd : (24 : Int) < (wrN (cutB s k) : Nat) := by omega
      have HX : ∀ W', Sc B W' g s l 31 → Kp g B w W' → Hid (Stepped B g s k l w (.returned (.int .i64 (plc s k : Nat))) W') := fun W' a b => Lib.hid ⟨b, .inr ⟨by omega, rfl, by rw [hkd]; exact a⟩⟩
      clear hkd hln hpl hcs h24 hp hpo hm hz
      generalize cutA (cutB s k) (wrN (cutB s k)) = x at *
      generalize wrN (cutB s k) = n at *
      generalize plc s k = p at *
      go_enter Try.func31, Try.ntmps31
      go_wp2_with (first
        | ((with_reducible refine (kf _).mono ?_); rintro e w1 ⟨rfl, hb1⟩)
        | ((with_reducible refine (kc _).mono ?_); rintro e w2 ⟨rfl, hb2⟩; have hb3 := hb1.trans (hb2.mono hb1.size); have hsz := hb3.size; have H3 : Hid (ScAt B w2 g s l 0 v) := Lib.hid (H.out.below hb3))
        | ((refine (fail_any ⟨v, H3.out⟩ 31 p).mono ?_); rintro e w4 ⟨rfl, hsc, hkp⟩))
      go_ret
      exact (HX _ hsc ((Kp.of_below (hb3.mono hB) g).trans hkp)).out
  · rw [if_neg hm] at hkd
    rw [Bool.not_eq_true] at hm
    have hp : wrN (cutB s k) = 0 := runN_zero hm
    have hx : cutA (cutB s k) (wrN (cutB s k)) = ⟨#[]⟩ := by rw [hp, cutA_zero]
    rw [hx] at kf
    have HX : ∀ W', Sc B W' g s l 30 → Kp g B w W' → Hid (Stepped B g s k l w (.returned (.int .i64 (plc s k : Nat))) W') := fun W' a b => Lib.hid ⟨b, .inr ⟨by omega, rfl, by rw [hkd]; exact a⟩⟩
    clear hkd hln hpl hcs hp hm hz hx kc hbig hwl
    generalize plc s k = p at *
    go_enter Try.func31, Try.ntmps31
    go_wp2_with (first
      | ((with_reducible refine (kf _).mono ?_); rintro e w1 ⟨rfl, hb1⟩; have hsz := hb1.size; have H3 : Hid (ScAt B w1 g s l 0 v) := Lib.hid (H.out.below hb1))
      | ((refine (fail_any ⟨v, H3.out⟩ 30 p).mono ?_); rintro e w4 ⟨rfl, hsc, hkp⟩))
    go_ret
    exact (HX _ hsc ((Kp.of_below (hb1.mono hB) g).trans hkp)).out
theorem pre_slash {u : ByteArray} : preB u ⟨#[47, 47]⟩ = decide (1 < u.size ∧ bt u 0 = 47 ∧ bt u 1 = 47) := by
  unfold preB
  rw [Bool.eq_iff_iff, decide_eq_true_iff, decide_eq_true_iff, show (⟨#[47, 47]⟩ : ByteArray).size = 2 from rfl]
  have hg : ∀ j, j < min 2 u.size → bt (u.extract 0 2) j = bt u j := fun j hj => by rw [bt_ext_get _ _ _ _ (by omega), Nat.zero_add]
  constructor
  · rintro ⟨h1, h2⟩
    refine ⟨by omega, ?_, ?_⟩
    · rw [← hg 0 (by omega), h2]; rfl
    · rw [← hg 1 (by omega), h2]; rfl
  · rintro ⟨h1, h2, h3⟩
    refine ⟨by omega, bt_ext (by rw [size_ext, show (⟨#[47, 47]⟩ : ByteArray).size = 2 from rfl]; omega) fun j hj => ?_⟩
    rw [size_ext] at hj
    rw [hg j (by omega)]
    obtain rfl | rfl : j = 0 ∨ j = 1 := by omega
    · rw [h2]; rfl
    · rw [h3]; rfl
set_option maxHeartbeats 1000000 in
theorem note_any (h : Sc B w g s l 0) (hB : B ≤ w.heap.size) (hs : s.size ≤ 2048) (hk : plc s k < s.size) (h47 : bt s (plc s k) = 47) :
    Calls Try.prog 48 #[.pointer (some ⟨g, 0, none⟩), .int .i64 (plc s k : Nat)] w (Stepped B g s k l w) := by
  have h0 : bt (cutB s k) 0 = bt s (plc s k) := bt_cutB (j := 0) (by omega)
  have hz := cutB_size s k
  have hkd : kd (cutB s k) = if 1 < (cutB s k).size ∧ bt (cutB s k) 1 = 47 then 0 else 30 := by
    conv => lhs; unfold kd
    rw [h0, h47, show blankB 47 = false from rfl, show signB 47 = false from rfl, if_neg (by decide), if_neg (by decide), if_pos rfl]
  have hln : ln (cutB s k) = ntN (cutB s k) := by
    conv => lhs; unfold ln
    rw [h0, h47, show blankB 47 = false from rfl, show signB 47 = false from rfl, if_neg (by decide), if_neg (by decide), if_pos rfl]
  have hpl := plc_cutB s k (ntN (cutB s k))
  have hcs := cutA_size (cutB s k) (ntN (cutB s k))
  have hbig : (cutA (cutB s k) (ntN (cutB s k))).size ≤ 1000000 := by have := plc_le (cutB s k) (ntN (cutB s k)); omega
  have kp : ∀ W, Calls Try.prog 61 #[.string (s.extract (plc s k) s.size), .string ⟨#[47, 47]⟩] W fun e w' => e = .returned (.bool (preB (cutB s k) ⟨#[47, 47]⟩)) ∧ w' = W := fun W => hasPrefix_any (cutB s k) _ W
  have kc : ∀ W, Calls Try.prog 62 #[.string (s.extract (plc s k) s.size), .string ⟨#[10]⟩] W fun e w' => (∃ y b, e = .returned (.tuple #[.string (cutA (cutB s k) (ntN (cutB s k))), .string y, .bool b])) ∧ Below W.heap.size W w' := fun W => cut_nl (cutB s k) W (by omega)
  have hb1 : plc s k ≤ s.size := Nat.le_of_lt hk
  rw [pre_slash, h0] at kp
  obtain ⟨v, h⟩ := h
  have c0 := h.c0
  have hgs := h.size
  have H := Lib.hid h
  clear h
  by_cases hm : 1 < (cutB s k).size ∧ bt (cutB s k) 1 = 47
  · rw [if_pos hm] at hkd
    rw [decide_eq_true ⟨hm.1, h47, hm.2⟩] at kp
    have HX : ∀ W', Below w.heap.size w W' → Hid (Stepped B g s k l w (.returned (.int .i64 ((plc s k + (cutA (cutB s k) (ntN (cutB s k))).size : Nat) : Int))) W') := fun W' b => Lib.hid ⟨Kp.of_below (b.mono hB) g, .inl ⟨by omega, by rw [hln, hcs, hpl], by unfold stepT; rw [if_pos hkd, List.append_nil]; exact ⟨v, H.out.below b⟩⟩⟩
    clear hkd hln hpl hcs hm hz h0 h47
    generalize cutA (cutB s k) (ntN (cutB s k)) = x at *
    generalize plc s k = p at *
    go_enter Try.func48, Try.ntmps48
    go_wp2_with (first
      | ((with_reducible refine (kp _).mono ?_); rintro e w' ⟨rfl, rfl⟩)
      | ((with_reducible refine (kc _).mono ?_); rintro e w1 ⟨⟨y, b, rfl⟩, hb1⟩))
    go_ret
    exact (HX _ hb1).out
  · rw [if_neg hm] at hkd
    rw [decide_eq_false (fun h => hm ⟨h.1, h.2.2⟩)] at kp
    have HX : ∀ W', Sc B W' g s l 30 → Kp g B w W' → Hid (Stepped B g s k l w (.returned (.int .i64 (plc s k : Nat))) W') := fun W' a b => Lib.hid ⟨b, .inr ⟨by omega, rfl, by rw [hkd]; exact a⟩⟩
    clear hkd hln hpl hcs hm hz h0 h47 hbig kc
    generalize plc s k = p at *
    go_enter Try.func48, Try.ntmps48
    go_wp2_with (first
      | ((with_reducible refine (kp _).mono ?_); rintro e w' ⟨rfl, rfl⟩)
      | ((refine (fail_any ⟨v, H.out⟩ 30 p).mono ?_); rintro e w4 ⟨rfl, hsc, hkp⟩))
    go_ret
    exact (HX _ hsc hkp).out
end
end Go.Proofs.Ytinfbimfiaegdaa
