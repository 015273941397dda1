/- Layer 6: what Go's library tells of a text's beginning and of its first newline: strings.HasPrefix, strings.Cut at one newline. Conditions: a text of at most a million bytes. -/
import Derived.Laws.StandIn
import Derived.Test.YteafdhpcnpfmkaaGreatScan
import Derived.Test.YteafdhpcnpfmkaaGreatScanP
namespace Go.Proofs.YteafdhpcnpfmkaaGreat
open Go.RowKit

theorem nt_byte {u : ByteArray} {q : Nat} (h : q < plc u (ntN u)) : bt u q ≠ 10 := by
  obtain ⟨j, h1, h2⟩ := rune_at (s := u) (k := q) (ntN u) h
  have hj : j < ntN u := by
    rcases Nat.lt_or_ge j (ntN u) with hh | hh
    · exact hh
    · have := plc_mono u hh; omega
  obtain ⟨a, b⟩ := (runN_spec _ u).1 j hj
  rcases Nat.lt_or_ge (plc u j) q with hq | hq
  · rw [plc_succ a] at h2
    have := inner_byte a hq h2
    omega
  · obtain rfl : plc u j = q := by omega
    simpa using b
theorem nt_end {u : ByteArray} (h : plc u (ntN u) < u.size) : bt u (plc u (ntN u)) = 10 := by
  have h2 : (!decide (bt u (plc u (ntN u)) = 10)) = false := (runN_spec (fun i => !decide (bt u i = 10)) u).2 h
  simpa using h2
/-- Where the first newline stands; below 0: nowhere. -/
def nlZ (u : ByteArray) : Int := if plc u (ntN u) < u.size then (plc u (ntN u) : Int) else -1
theorem idx_byte (u : ByteArray) (i : Nat) (h : i < u.size) : (u[i]! == UInt8.ofNat 10) = decide (bt u i = 10) := by
  rw [getElem!_pos u i h, bt_eq u i h, Bool.eq_iff_iff, beq_iff_eq, decide_eq_true_iff]
  constructor
  · intro e; rw [e]; rfl
  · intro e; exact UInt8.toNat_inj.1 e
theorem firstIdx_nl (u : ByteArray) : firstIdx u (10 : Int).toNat.toUInt8 = nlZ u := by
  show firstIdx u (UInt8.ofNat 10) = nlZ u
  unfold firstIdx nlZ
  by_cases h : plc u (ntN u) < u.size
  · rw [if_pos h]
    have e : (List.range u.size).find? (fun i => u[i]! == UInt8.ofNat 10) = some (plc u (ntN u)) := by
      rw [List.find?_range_eq_some]
      refine ⟨by rw [idx_byte u _ h, decide_eq_true (nt_end h)], by simpa using h, fun j hj => ?_⟩
      rw [idx_byte u j (by omega), decide_eq_false (nt_byte hj)]; rfl
    rw [e]
  · rw [if_neg h]
    have e : (List.range u.size).find? (fun i => u[i]! == UInt8.ofNat 10) = none := by
      rw [List.find?_range_eq_none]
      intro i hi
      rw [idx_byte u i hi]
      have := nt_byte (u := u) (q := i) (by omega)
      simp [this]
    rw [e]

set_option maxHeartbeats 400000 in
theorem hasPrefix_any (u t : ByteArray) (w : World) :
    Calls Tryz.prog 147 #[.string u, .string t] w fun e w' => e = .returned (.bool (preB u t)) ∧ w' = w := by
  go_enter Tryz.func147, Tryz.ntmps147
  go_wp2_with ((refine (pre_any _ _ _).mono ?_); rintro e w' ⟨rfl, rfl⟩)
  go_ret
  exact ⟨rfl, rfl⟩

set_option maxHeartbeats 1000000 in
theorem indexByte_any (u : ByteArray) (w : World) :
    Calls Tryz.prog 196 #[.string u, .int .u8 10] w fun e w' => e = .returned (.int .i64 (nlZ u)) ∧ w' = w := by
  have hib : ∀ W, (callFunc 202 #[.string u, .int .u8 10]).run Tryz.prog W = .ok (.value (.int .i64 (nlZ u))) W := fun W => by
    rw [run_callFunc_indexByte Tryz.func202 (by kernel_rfl) (by kernel_rfl) (by kernel_rfl) (by kernel_rfl), run_indexByte_string, firstIdx_nl]
    rfl
  go_enter Tryz.func196, Tryz.ntmps196
  go_wp2
  go_ret
  exact ⟨rfl, rfl⟩
set_option maxHeartbeats 1000000 in
theorem index_nl (u : ByteArray) (w : World) (_ : u.size ≤ 1000000) :
    Calls Tryz.prog 189 #[.string u, .string ⟨#[10]⟩] w fun e w' => e = .returned (.int .i64 (nlZ u)) ∧ w' = w := by
  by_cases hu : u = sNl
  · have hd : ([10] == u.toList) = true := by subst hu; decide +kernel
    have hz : nlZ u = 0 := by subst hu; decide +kernel
    have HZ := Lib.hid hz
    clear hu hz
    go_enter Tryz.func189, Tryz.ntmps189
    go_wp2
    go_ret
    exact ⟨by rw [HZ.out]; rfl, rfl⟩
  · have hd : ([10] == u.toList) = false := by
      have := toList_ne (a := sNl) (b := u) (fun e => hu e.symm)
      rwa [show sNl.toList = [10] by decide +kernel] at this
    clear hu
    go_enter Tryz.func189, Tryz.ntmps189
    go_wp2_with ((refine (indexByte_any u _).mono ?_); rintro e w' ⟨rfl, rfl⟩)
    go_ret
    exact ⟨rfl, rfl⟩
set_option maxHeartbeats 1000000 in
theorem cutLite_nl (u : ByteArray) (w : World) (hs : u.size ≤ 1000000) :
    Calls Tryz.prog 174 #[.string u, .string ⟨#[10]⟩] w fun e w' => (∃ y b, e = .returned (.tuple #[.string (cutA u (ntN u)), .string y, .bool b])) ∧ Below w.heap.size w w' := by
  have hp := plc_le u (ntN u)
  by_cases h : plc u (ntN u) < u.size
  · have hz : nlZ u = (plc u (ntN u) : Int) := if_pos h
    have kc : ∀ W, _ := fun W => index_nl u W hs
    rw [hz] at kc
    have HX : Hid (cutA u (ntN u) = u.extract 0 (plc u (ntN u))) := Lib.hid rfl
    clear hz
    generalize plc u (ntN u) = p at *
    go_enter Tryz.func174, Tryz.ntmps174
    go_wp2_with ((with_reducible refine (kc _).mono ?_); rintro e w' ⟨rfl, rfl⟩)
    go_quiet (fail)
    go_wp2
    go_ret3
    rw [HX.out]
    exact ⟨⟨_, _, rfl⟩, ⟨rfl, rfl, rfl, Nat.le_refl _, fun _ _ => rfl⟩⟩
  · have hz : nlZ u = -1 := if_neg h
    have kc : ∀ W, _ := fun W => index_nl u W hs
    rw [hz] at kc
    have HX : Hid (cutA u (ntN u) = u) := Lib.hid (by unfold cutA; rw [show plc u (ntN u) = u.size by omega]; exact ext_all u)
    go_enter Tryz.func174, Tryz.ntmps174
    go_wp2_with ((with_reducible refine (kc _).mono ?_); rintro e w' ⟨rfl, rfl⟩)
    go_ret3
    rw [HX.out]
    exact ⟨⟨_, _, rfl⟩, Below.refl _ _⟩
set_option maxHeartbeats 1000000 in
theorem cut_nl (u : ByteArray) (w : World) (hs : u.size ≤ 1000000) :
    Calls Tryz.prog 148 #[.string u, .string ⟨#[10]⟩] w fun e w' => (∃ y b, e = .returned (.tuple #[.string (cutA u (ntN u)), .string y, .bool b])) ∧ Below w.heap.size w w' := by
  go_enter Tryz.func148, Tryz.ntmps148
  go_wp2_with ((with_reducible refine (cutLite_nl u _ hs).mono ?_); rintro e w' ⟨⟨y, b, rfl⟩, hb⟩)
  go_ret3
  exact ⟨⟨_, _, rfl⟩, hb⟩
end Go.Proofs.YteafdhpcnpfmkaaGreat
/- Layer 6: the first word of a text; the place of its first broken byte. Conditions: a text of at most a million bytes; the word's text is valid. -/
namespace Go.Proofs.YteafdhpcnpfmkaaGreat
open Go.RowKit

set_option maxHeartbeats 1000000 in
theorem firstWord_any (u : ByteArray) (w : World) (_ : u.size ≤ 1000000) (hv : validS u = true) :
    Calls Tryz.prog 122 #[.string u] w fun e w' => e = .returned (.string (cutA u (wrN u))) ∧ Below w.heap.size w w' := by
  have HV := Lib.hid (validS_iff.1 hv)
  clear hv
  go_enter Tryz.func122, Tryz.ntmps122
  go_wp2
  go_loopw [] (fun wr => ∃ k : Nat, k ≤ cnt u ∧ itAt w wr u (plc u k) ∧ Below w.heap.size w wr ∧ ∀ j, j < k → mayB u (plc u j) = true) (fun wr => u.size - wr.iterPos w.heap.size)
  case atStart => exact ⟨0, Nat.zero_le _, it_start w u, it_below w u, fun j hj => by omega⟩
  case round =>
    obtain ⟨k, hk, hit, hbw, hall⟩ := hrel
    have Hall := Lib.hid hall
    clear hall
    have Hit := Lib.hid hit
    have Hbw := Lib.hid hbw
    have hc := cnt_le u
    have hl := plc_le u k
    by_cases h : plc u k < u.size
    · have hk2 := lt_cnt.2 h
      have hw := wd_pos h
      have HS := Lib.hid (plc_succ h)
      have hnx : ∀ ty, (Instr.next (.pointer (some ⟨w.heap.size, 0, none⟩)) true ty).run Tryz.prog wr = _ := fun ty => Lib.run_next_any_at wr w.heap.size u (plc u k) ty hit h
      have Hit2 := Lib.hid (Lib.iterAt_heap wr w.heap.size u (plc u k) (plc u k + (Utf8.decode u (plc u k)).2) hit)
      have Hbw2 := Lib.hid (Lib.below_iterAt hbw (k := w.heap.size) (Nat.le_refl _) u (plc u k + (Utf8.decode u (plc u k)).2))
      clear hit hbw
      have hnm : nameS (Utf8.encode ((Utf8.decode u (plc u k)).1 : Int)) = mayB u (plc u k) := rn_name h (HV.out k hk2)
      have kn : ∀ W, _ := fun W => name_any (Utf8.encode ((Utf8.decode u (plc u k)).1 : Int)) W (Nat.le_trans (encode_size_le _) (by omega))
      rw [hnm] at kn
      clear hnm
      have hsz2 : w.heap.size ≤ (wr.iterAt w.heap.size u (plc u k + (Utf8.decode u (plc u k)).2)).heap.size := Hbw2.out.size
      cases hm : mayB u (plc u k) with
      | true =>
        rw [hm] at kn
        go_wp2_with ((with_reducible refine (kn _).mono ?_); rintro e w2 ⟨rfl, hb2⟩)
        go_roundw
        case rel =>
          refine ⟨k + 1, by omega, ?_, Hbw2.out.trans (hb2.mono hsz2), fun j hj => ?_⟩
          · rw [HS.out]
            show w2.heap[w.heap.size]? = _
            rw [hb2.block _ (by have := Hit2.out; exact (Array.getElem?_eq_some_iff.1 this).1)]
            exact Hit2.out
          · by_cases e : j = k
            · subst e; exact hm
            · exact Hall.out j (by omega)
        case measure =>
          have h2 : itAt w w2 u (plc u k + wd u (plc u k)) := by
            show w2.heap[w.heap.size]? = _
            rw [hb2.block _ (by have := Hit2.out; exact (Array.getElem?_eq_some_iff.1 this).1)]
            exact Hit2.out
          rw [it_pos Hit.out, it_pos h2]; omega
      | false =>
        rw [hm] at kn
        have HE : Hid (wrN u = k) := Lib.hid (runN_eq (fun j hj => ⟨lt_cnt.1 (by omega), Hall.out j hj⟩) fun _ => hm)
        go_wp2_with ((with_reducible refine (kn _).mono ?_); rintro e w2 ⟨rfl, hb2⟩)
        go_ret
        exact ⟨by rw [HE.out]; rfl, Hbw2.out.trans (hb2.mono hsz2)⟩
    · have e := cnt_eq h fun j hj => lt_cnt.1 (by omega)
      have HE : Hid (wrN u = k) := Lib.hid (runN_eq (fun j hj => ⟨lt_cnt.1 (by omega), Hall.out j hj⟩) fun h' => absurd h' h)
      have HC : Hid (cutA u k = u) := Lib.hid (cutA_end (by omega))
      have hnx : ∀ ty, (Instr.next (.pointer (some ⟨w.heap.size, 0, none⟩)) true ty).run Tryz.prog wr = _ := fun ty => Lib.run_next_end_at wr w.heap.size u (plc u k) ty hit h
      clear e hit hbw
      go_wp2
      go_ret
      exact ⟨by rw [HE.out, HC.out]; rfl, Hbw.out⟩

def badZ (s : ByteArray) : Int := if plc s (badN s) < s.size then (plc s (badN s) : Int) else -1
set_option maxHeartbeats 1000000 in
theorem broken_at (s : ByteArray) (w : World) (hs : s.size ≤ 1000000) :
    Calls Tryz.prog 79 #[.string s] w fun e w' => e = .returned (.int .i64 (badZ s)) ∧ Below w.heap.size w w' := by
  go_enter Tryz.func79, Tryz.ntmps79
  go_wp2
  go_loopw [] (fun wr => ∃ k : Nat, k ≤ cnt s ∧ itAt w wr s (plc s k) ∧ Below w.heap.size w wr ∧ ∀ j, j < k → brk s (plc s j) = false) (fun wr => s.size - wr.iterPos w.heap.size)
  case atStart => exact ⟨0, Nat.zero_le _, it_start w s, it_below w s, fun j hj => by omega⟩
  case round =>
    obtain ⟨k, hk, hit, hbw, hall⟩ := hrel
    have Hall := Lib.hid hall
    clear hall
    have Hit := Lib.hid hit
    have Hbw := Lib.hid hbw
    have hc := cnt_le s
    have hl := plc_le s k
    by_cases h : plc s k < s.size
    · have hk2 := lt_cnt.2 h
      have hw := wd_pos h
      have HS := Lib.hid (plc_succ h)
      have hnx : ∀ ty, (Instr.next (.pointer (some ⟨w.heap.size, 0, none⟩)) true ty).run Tryz.prog wr = _ := fun ty => Lib.run_next_any_at wr w.heap.size s (plc s k) ty hit h
      have Hit2 := Lib.hid (Lib.iterAt_heap wr w.heap.size s (plc s k) (plc s k + (Utf8.decode s (plc s k)).2) hit)
      have Hbw2 := Lib.hid (Lib.below_iterAt hbw (k := w.heap.size) (Nat.le_refl _) s (plc s k + (Utf8.decode s (plc s k)).2))
      clear hit hbw
      have hsz := cutB_size s k
      have hsz2 : w.heap.size ≤ (wr.iterAt w.heap.size s (plc s k + (Utf8.decode s (plc s k)).2)).heap.size := Hbw2.out.size
      have hil : w.heap.size < (wr.iterAt w.heap.size s (plc s k + (Utf8.decode s (plc s k)).2)).heap.size := (Array.getElem?_eq_some_iff.1 Hit2.out).1
      have hve : validS (cutA (cutB s k) 1) = !brk s (plc s k) := by rw [first_valid (by omega), brk_cutB h]
      have hcs : (cutA (cutB s k) 1).size ≤ 1000000 := by have := cutA_size (cutB s k) 1; have := plc_le (cutB s k) 1; omega
      have kc : ∀ W, Calls Tryz.prog 117 #[.string (s.extract (plc s k) s.size), .int .i64 1] W fun e w' => e = .returned (.tuple #[.string (cutA (cutB s k) 1), .string (cutB (cutB s k) 1)]) ∧ Below W.heap.size W w' := fun W => cut_any (cutB s k) 1 W (by omega) (by omega) (by omega)
      have kv : ∀ W, _ := fun W => valid_any (cutA (cutB s k) 1) W hcs
      rw [hve] at kv
      clear hve hcs
      generalize cutA (cutB s k) 1 = x at *
      generalize cutB (cutB s k) 1 = y at *
      cases hm : brk s (plc s k) with
      | false =>
        rw [hm] at kv
        go_wp2_with (first
          | ((with_reducible refine (kc _).mono ?_); rintro e w2 ⟨rfl, hb2⟩)
          | ((with_reducible refine (kv _).mono ?_); rintro e w3 ⟨rfl, hb3⟩))
        have hbb : Below (wr.iterAt w.heap.size s (plc s k + (Utf8.decode s (plc s k)).2)).heap.size (wr.iterAt w.heap.size s (plc s k + (Utf8.decode s (plc s k)).2)) w3 := hb2.trans (hb3.mono hb2.size)
        go_roundw
        case rel =>
          refine ⟨k + 1, by omega, ?_, Hbw2.out.trans (hbb.mono hsz2), fun j hj => ?_⟩
          · rw [HS.out]
            show w3.heap[w.heap.size]? = _
            rw [hbb.block _ hil]
            exact Hit2.out
          · by_cases e : j = k
            · subst e; exact hm
            · exact Hall.out j (by omega)
        case measure =>
          have h2 : itAt w w3 s (plc s k + wd s (plc s k)) := by
            show w3.heap[w.heap.size]? = _
            rw [hbb.block _ hil]
            exact Hit2.out
          rw [it_pos Hit.out, it_pos h2]; omega
      | true =>
        rw [hm] at kv
        have HE : Hid (badN s = k) := Lib.hid (runN_eq (fun j hj => ⟨lt_cnt.1 (by omega), by have := Hall.out j hj; simp [this]⟩) fun _ => by simp [hm])
        go_wp2_with (first
          | ((with_reducible refine (kc _).mono ?_); rintro e w2 ⟨rfl, hb2⟩)
          | ((with_reducible refine (kv _).mono ?_); rintro e w3 ⟨rfl, hb3⟩))
        go_ret
        refine ⟨?_, Hbw2.out.trans ((hb2.trans (hb3.mono hb2.size)).mono hsz2)⟩
        unfold badZ
        rw [HE.out, if_pos h]; rfl
    · have e := cnt_eq h fun j hj => lt_cnt.1 (by omega)
      have HE : Hid (badN s = k) := Lib.hid (runN_eq (fun j hj => ⟨lt_cnt.1 (by omega), by have := Hall.out j hj; simp [this]⟩) fun h' => absurd h' h)
      have hnx : ∀ ty, (Instr.next (.pointer (some ⟨w.heap.size, 0, none⟩)) true ty).run Tryz.prog wr = _ := fun ty => Lib.run_next_end_at wr w.heap.size s (plc s k) ty hit h
      clear e hit hbw
      go_wp2
      go_ret
      refine ⟨?_, Hbw.out⟩
      unfold badZ
      rw [HE.out, if_neg h]; rfl
end Go.Proofs.YteafdhpcnpfmkaaGreat

/- Layer 6: what comes of a rune that is in no word: blank, note, sign, word; each takes in what stands there, or tells the error. Conditions: a valid text of at most 2048 bytes, fewer than a million tokens. -/
namespace Go.Proofs.YteafdhpcnpfmkaaGreat
open Go.RowKit

/-- What a step adds. -/
def stepT (u : ByteArray) (off : Nat) : List Tk := if kd u = 0 then [] else [(kd u, cutA u (ln u), off)]
/-- What a step leaves: it goes on behind what stood there, or an error is told. -/
def Stepped (B g : Nat) (s : ByteArray) (k : Nat) (l : List Tk) (w : World) (e : Ending) (w' : World) : Prop :=
  Kp g B w w' ∧
  ((kd (cutB s k) < 3 ∧ e = .returned (.int .i64 (plc s (k + ln (cutB s k)) : Nat)) ∧ Sc B w' g s (l ++ stepT (cutB s k) (plc s k)) 0) ∨
   (3 ≤ kd (cutB s k) ∧ e = .returned (.int .i64 (plc s k : Nat)) ∧ Sc B w' g s l (kd (cutB s k))))

section
variable {B : Nat} {w : World} {g : Nat} {s : ByteArray} {l : List Tk} {e : Nat} {k : Nat}
set_option maxHeartbeats 400000 in
theorem fail_any (h : Sc B w g s l e) (c p : Nat) :
    Calls Tryz.prog 123 #[.pointer (some ⟨g, 0, none⟩), .int .i64 c, .int .i64 p] w fun e' w' => e' = .returned (.int .i64 p) ∧ Sc B w' g s l c ∧ Kp g B w w' := by
  obtain ⟨v, h⟩ := h
  have c2 := h.c2
  have fz := h.fz
  have H := Lib.hid h
  clear h
  go_enter Tryz.func123, Tryz.ntmps123
  go_wp2
  go_ret
  have hc := H.out.cells
  have hlt := H.out.lt
  refine ⟨rfl, ⟨v, ?_, own_same H.out.row fun j hj => Below.heap_setCell _ _ _ _ (by have := (H.out.row.lt j hj).1; show j ≠ g; omega), hlt⟩, rfl, rfl, rfl, by simp [World.setCell], fun j hj hn => Below.heap_setCell _ _ _ _ (by show j ≠ g; exact hn)⟩
  simp [World.setCell, Array.getElem?_modify, hc]
theorem bt_cutB {s : ByteArray} {k j : Nat} (h : plc s k + j < s.size) : bt (cutB s k) j = bt s (plc s k + j) := by
  have := cutB_size s k
  exact cutB_bt s k j (by omega)
theorem plc_one {u : ByteArray} (h : 0 < u.size) (hb : bt u 0 < 128) : plc u 1 = 1 := by
  have h1 : plc u 1 = plc u 0 + wd u (plc u 0) := plc_succ (s := u) (k := 0) h
  have h2 : wd u 0 = 1 := (dec_low h hb).2
  rw [h1, show plc u 0 = 0 from rfl, h2]
theorem plc_low {s : ByteArray} {k : Nat} (h : plc s k < s.size) (hb : bt s (plc s k) < 128) : plc s (k + 1) = plc s k + 1 := by
  rw [plc_succ h, (dec_low h hb).2]
theorem blank_any (h : Sc B w g s l 0) (hs : s.size ≤ 2048) (hk : plc s k < s.size) (hb : blankB (bt s (plc s k)) = true) (A : Option Addr) :
    Calls Tryz.prog 121 #[.pointer A, .int .i64 (plc s k : Nat)] w (Stepped B g s k l w) := by
  have h0 : bt (cutB s k) 0 = bt s (plc s k) := bt_cutB (j := 0) (by omega)
  have hkd : kd (cutB s k) = 0 := by unfold kd; rw [h0, if_pos hb]
  have hln : ln (cutB s k) = 1 := by unfold ln; rw [h0, if_pos hb]
  have h10 := blankB_iff.1 hb
  have hpl := plc_low hk (by omega)
  have HX : Hid (Stepped B g s k l w (.returned (.int .i64 ((plc s k : Nat) + 1 : Int))) w) := Lib.hid ⟨Kp.refl _ _ _, .inl ⟨by omega, by rw [hln, hpl]; rfl, by unfold stepT; rw [if_pos hkd, List.append_nil]; exact h⟩⟩
  clear h h0 hkd hln h10 hb hpl
  go_enter Tryz.func121, Tryz.ntmps121
  go_wp2
  go_ret
  exact HX.out

theorem cutA_cutB_ext (s : ByteArray) (k j : Nat) : cutA (cutB s k) j = s.extract (plc s k) (plc s (k + j)) := by
  have h1 := plc_cutB s k j
  have h2 := cutB_size s k
  have h3 := cutA_size (cutB s k) j
  have h4 := plc_le s (k + j)
  refine bt_ext (by rw [size_ext]; omega) fun i hi => ?_
  rw [cutA_bt _ _ i hi, cutB_bt _ _ i (by have := plc_le (cutB s k) j; omega), bt_ext_get _ _ _ _ (by omega)]
theorem valid_cutB {s : ByteArray} (hv : validS s = true) (k : Nat) : validS (cutB s k) = true := by
  rw [validS_iff] at hv ⊢
  intro j hj
  rw [cnt_cutB] at hj
  have h1 := plc_cutB s k j
  have h2 := cutB_size s k
  have h3 := lt_cnt.1 (show k + j < cnt s by omega)
  have h4 := decode_suf h2 (cutB_bt s k) (i := plc (cutB s k) j) (by omega)
  have h5 := hv (k + j) (by omega)
  unfold brk rn wd at h5 ⊢
  rw [h4, h1]; exact h5
theorem sign_any (h : Sc B w g s l 0) (hB : B ≤ w.heap.size) (hs : s.size ≤ 2048) (hl : l.length < 1000000) (hk : plc s k < s.size) (hb : signB (bt s (plc s k)) = true) :
    Calls Tryz.prog 120 #[.pointer (some ⟨g, 0, none⟩), .int .i64 (plc s k : Nat)] w (Stepped B g s k l w) := by
  have h0 : bt (cutB s k) 0 = bt s (plc s k) := bt_cutB (j := 0) (by omega)
  have h10 := signB_iff.1 hb
  have hnb : ¬ blankB (bt s (plc s k)) = true := by rw [blankB_iff]; omega
  have hkd : kd (cutB s k) = 2 := by unfold kd; rw [h0, if_neg hnb, if_pos hb]
  have hln : ln (cutB s k) = 1 := by unfold ln; rw [h0, if_neg hnb, if_pos hb]
  have hpl := plc_low hk (by omega)
  have hx : s.extract (plc s k) (plc s k + 1) = cutA (cutB s k) 1 := by rw [cutA_cutB_ext, hpl]
  have hxs : (s.extract (plc s k) (plc s k + 1)).size = 1 := by rw [size_ext]; omega
  have ka : ∀ W, Sc B W g s l 0 → B ≤ W.heap.size → _ := fun W hW hBW => add_any (k := 2) (t := s.extract (plc s k) (plc s k + 1)) (p := plc s k) hW hBW hl (by omega) (by omega)
  have HX : ∀ W', Sc B W' g s (l ++ [(2, s.extract (plc s k) (plc s k + 1), plc s k)]) 0 → Kp g B w W' → Hid (Stepped B g s k l w (.returned (.int .i64 ((plc s k + (s.extract (plc s k) (plc s k + 1)).size : Nat) : Int))) W') := fun W' a b => Lib.hid ⟨b, .inl ⟨by omega, by rw [hln, hpl, hxs], by unfold stepT; rw [if_neg (by omega), hkd, hln, ← hx]; exact a⟩⟩
  clear hb h0 hkd hln h10 hpl hnb hx
  have hb1 : plc s k + 1 ≤ s.size := hk
  obtain ⟨v, h⟩ := h
  have c0 := h.c0
  have H := Lib.hid h
  clear h
  generalize plc s k = p at *
  go_enter Tryz.func120, Tryz.ntmps120
  go_wp2_with ((refine (ka _ ⟨v, H.out⟩ hB).mono ?_); rintro e w1 ⟨rfl, hsc, hkp⟩)
  go_ret
  have hx := (HX _ hsc hkp).out
  rw [hxs] at hx
  exact hx
set_option maxHeartbeats 1000000 in
theorem word_any (h : Sc B w g s l 0) (hB : B ≤ w.heap.size) (hs : s.size ≤ 2048) (hv : validS s = true) (hl : l.length < 1000000) (hk : plc s k < s.size) (hnb : blankB (bt s (plc s k)) = false) (hns : signB (bt s (plc s k)) = false) (h47 : bt s (plc s k) ≠ 47) :
    Calls Tryz.prog 81 #[.pointer (some ⟨g, 0, none⟩), .int .i64 (plc s k : Nat)] w (Stepped B g s k l w) := by
  have h0 : bt (cutB s k) 0 = bt s (plc s k) := bt_cutB (j := 0) (by omega)
  have hz := cutB_size s k
  have hkd : kd (cutB s k) = if mayB (cutB s k) 0 = true then (if wrN (cutB s k) ≤ 24 then 1 else 31) else 30 := by
    conv => lhs; unfold kd
    rw [h0, hnb, hns, if_neg (by decide), if_neg (by decide), if_neg h47]
  have hln : ln (cutB s k) = wrN (cutB s k) := by
    conv => lhs; unfold ln
    rw [h0, hnb, hns, if_neg (by decide), if_neg (by decide), if_neg h47]
  have hpl := plc_cutB s k (wrN (cutB s k))
  have hcs := cutA_size (cutB s k) (wrN (cutB s k))
  have hcc : cnt (cutA (cutB s k) (wrN (cutB s k))) = wrN (cutB s k) := by rw [cnt_cutA]; have := runN_le (mayB (cutB s k)) (cutB s k); unfold wrN; omega
  have hwl : wrN (cutB s k) ≤ 2048 := by have := runN_le (mayB (cutB s k)) (cutB s k); have := cnt_le (cutB s k); unfold wrN; omega
  have hbig : (cutA (cutB s k) (wrN (cutB s k))).size ≤ 1000000 := by have := plc_le (cutB s k) (wrN (cutB s k)); omega
  have kf : ∀ W, Calls Tryz.prog 122 #[.string (s.extract (plc s k) s.size)] W fun e w' => e = .returned (.string (cutA (cutB s k) (wrN (cutB s k)))) ∧ Below W.heap.size W w' := fun W => firstWord_any (cutB s k) W (by omega) (valid_cutB hv k)
  have kc : ∀ W, _ := fun W => count_any (cutA (cutB s k) (wrN (cutB s k))) W hbig
  rw [hcc] at kc
  have hb1 : plc s k ≤ s.size := Nat.le_of_lt hk
  obtain ⟨v, h⟩ := h
  have c0 := h.c0
  have hgs := h.size
  have H := Lib.hid h
  clear h h0 hnb hns h47 hcc
  by_cases hm : mayB (cutB s k) 0 = true
  · rw [if_pos hm] at hkd
    have hp : 0 < wrN (cutB s k) := runN_pos (by omega) hm
    have hpo : 0 < (cutA (cutB s k) (wrN (cutB s k))).size := by
      have h1 := plc_mono (cutB s k) (show 1 ≤ wrN (cutB s k) from hp)
      have h2 : plc (cutB s k) 0 < plc (cutB s k) 1 := plc_lt_succ (s := cutB s k) (k := 0) (by show 0 < _; omega)
      omega
    have hne := list_ne2 hpo
    by_cases h24 : wrN (cutB s k) ≤ 24
    · rw [if_pos h24] at hkd
      have hd : ¬ ((24 : Int) < (wrN (cutB s k) : Nat)) := by omega
      have ka : ∀ W, Sc B W g s l 0 → B ≤ W.heap.size → _ := fun W hW hBW => add_any (k := 1) (t := cutA (cutB s k) (wrN (cutB s k))) (p := plc s k) hW hBW hl (by omega) hbig
      have HX : ∀ W', Sc B W' g s (l ++ [(1, cutA (cutB s k) (wrN (cutB s k)), plc s k)]) 0 → Kp g B w W' → Hid (Stepped B g s k l w (.returned (.int .i64 ((plc s k + (cutA (cutB s k) (wrN (cutB s k))).size : Nat) : Int))) W') := fun W' a b => Lib.hid ⟨b, .inl ⟨by omega, by rw [hln, hcs, hpl], by unfold stepT; rw [if_neg (by omega), hkd, hln]; exact a⟩⟩
      clear hkd hln hpl hcs h24 hp hpo hm hz
      generalize cutA (cutB s k) (wrN (cutB s k)) = x at *
      generalize wrN (cutB s k) = n at *
      generalize plc s k = p at *
      go_enter Tryz.func81, Tryz.ntmps81
      go_wp2_with (first
        | ((with_reducible refine (kf _).mono ?_); rintro e w1 ⟨rfl, hb1⟩)
        | ((with_reducible refine (kc _).mono ?_); rintro e w2 ⟨rfl, hb2⟩; have hb3 := hb1.trans (hb2.mono hb1.size); have hsz := hb3.size; have H3 : Hid (ScAt B w2 g s l 0 v) := Lib.hid (H.out.below hb3))
        | ((refine (ka _ ⟨v, H3.out⟩ (Nat.le_trans hB hsz)).mono ?_); rintro e w4 ⟨rfl, hsc, hkp⟩))
      go_ret
      exact (HX _ hsc ((Kp.of_below (hb3.mono hB) g).trans hkp)).out
    · rw [if_neg h24] at hkd
      have hd : (24 : Int) < (wrN (cutB s k) : Nat) := by omega
      have HX : ∀ W', Sc B W' g s l 31 → Kp g B w W' → Hid (Stepped B g s k l w (.returned (.int .i64 (plc s k : Nat))) W') := fun W' a b => Lib.hid ⟨b, .inr ⟨by omega, rfl, by rw [hkd]; exact a⟩⟩
      clear hkd hln hpl hcs h24 hp hpo hm hz
      generalize cutA (cutB s k) (wrN (cutB s k)) = x at *
      generalize wrN (cutB s k) = n at *
      generalize plc s k = p at *
      go_enter Tryz.func81, Tryz.ntmps81
      go_wp2_with (first
        | ((with_reducible refine (kf _).mono ?_); rintro e w1 ⟨rfl, hb1⟩)
        | ((with_reducible refine (kc _).mono ?_); rintro e w2 ⟨rfl, hb2⟩; have hb3 := hb1.trans (hb2.mono hb1.size); have hsz := hb3.size; have H3 : Hid (ScAt B w2 g s l 0 v) := Lib.hid (H.out.below hb3))
        | ((refine (fail_any ⟨v, H3.out⟩ 31 p).mono ?_); rintro e w4 ⟨rfl, hsc, hkp⟩))
      go_ret
      exact (HX _ hsc ((Kp.of_below (hb3.mono hB) g).trans hkp)).out
  · rw [if_neg hm] at hkd
    rw [Bool.not_eq_true] at hm
    have hp : wrN (cutB s k) = 0 := runN_zero hm
    have hx : cutA (cutB s k) (wrN (cutB s k)) = ⟨#[]⟩ := by rw [hp, cutA_zero]
    rw [hx] at kf
    have HX : ∀ W', Sc B W' g s l 30 → Kp g B w W' → Hid (Stepped B g s k l w (.returned (.int .i64 (plc s k : Nat))) W') := fun W' a b => Lib.hid ⟨b, .inr ⟨by omega, rfl, by rw [hkd]; exact a⟩⟩
    clear hkd hln hpl hcs hp hm hz hx kc hbig hwl
    generalize plc s k = p at *
    go_enter Tryz.func81, Tryz.ntmps81
    go_wp2_with (first
      | ((with_reducible refine (kf _).mono ?_); rintro e w1 ⟨rfl, hb1⟩; have hsz := hb1.size; have H3 : Hid (ScAt B w1 g s l 0 v) := Lib.hid (H.out.below hb1))
      | ((refine (fail_any ⟨v, H3.out⟩ 30 p).mono ?_); rintro e w4 ⟨rfl, hsc, hkp⟩))
    go_ret
    exact (HX _ hsc ((Kp.of_below (hb1.mono hB) g).trans hkp)).out
theorem pre_slash {u : ByteArray} : preB u ⟨#[47, 47]⟩ = decide (1 < u.size ∧ bt u 0 = 47 ∧ bt u 1 = 47) := by
  unfold preB
  rw [Bool.eq_iff_iff, decide_eq_true_iff, decide_eq_true_iff, show (⟨#[47, 47]⟩ : ByteArray).size = 2 from rfl]
  have hg : ∀ j, j < min 2 u.size → bt (u.extract 0 2) j = bt u j := fun j hj => by rw [bt_ext_get _ _ _ _ (by omega), Nat.zero_add]
  constructor
  · rintro ⟨h1, h2⟩
    refine ⟨by omega, ?_, ?_⟩
    · rw [← hg 0 (by omega), h2]; rfl
    · rw [← hg 1 (by omega), h2]; rfl
  · rintro ⟨h1, h2, h3⟩
    refine ⟨by omega, bt_ext (by rw [size_ext, show (⟨#[47, 47]⟩ : ByteArray).size = 2 from rfl]; omega) fun j hj => ?_⟩
    rw [size_ext] at hj
    rw [hg j (by omega)]
    obtain rfl | rfl : j = 0 ∨ j = 1 := by omega
    · rw [h2]; rfl
    · rw [h3]; rfl
set_option maxHeartbeats 1000000 in
theorem note_any (h : Sc B w g s l 0) (hB : B ≤ w.heap.size) (hs : s.size ≤ 2048) (hk : plc s k < s.size) (h47 : bt s (plc s k) = 47) :
    Calls Tryz.prog 119 #[.pointer (some ⟨g, 0, none⟩), .int .i64 (plc s k : Nat)] w (Stepped B g s k l w) := by
  have h0 : bt (cutB s k) 0 = bt s (plc s k) := bt_cutB (j := 0) (by omega)
  have hz := cutB_size s k
  have hkd : kd (cutB s k) = if 1 < (cutB s k).size ∧ bt (cutB s k) 1 = 47 then 0 else 30 := by
    conv => lhs; unfold kd
    rw [h0, h47, show blankB 47 = false from rfl, show signB 47 = false from rfl, if_neg (by decide), if_neg (by decide), if_pos rfl]
  have hln : ln (cutB s k) = ntN (cutB s k) := by
    conv => lhs; unfold ln
    rw [h0, h47, show blankB 47 = false from rfl, show signB 47 = false from rfl, if_neg (by decide), if_neg (by decide), if_pos rfl]
  have hpl := plc_cutB s k (ntN (cutB s k))
  have hcs := cutA_size (cutB s k) (ntN (cutB s k))
  have hbig : (cutA (cutB s k) (ntN (cutB s k))).size ≤ 1000000 := by have := plc_le (cutB s k) (ntN (cutB s k)); omega
  have kp : ∀ W, Calls Tryz.prog 147 #[.string (s.extract (plc s k) s.size), .string ⟨#[47, 47]⟩] W fun e w' => e = .returned (.bool (preB (cutB s k) ⟨#[47, 47]⟩)) ∧ w' = W := fun W => hasPrefix_any (cutB s k) _ W
  have kc : ∀ W, Calls Tryz.prog 148 #[.string (s.extract (plc s k) s.size), .string ⟨#[10]⟩] W fun e w' => (∃ y b, e = .returned (.tuple #[.string (cutA (cutB s k) (ntN (cutB s k))), .string y, .bool b])) ∧ Below W.heap.size W w' := fun W => cut_nl (cutB s k) W (by omega)
  have hb1 : plc s k ≤ s.size := Nat.le_of_lt hk
  rw [pre_slash, h0] at kp
  obtain ⟨v, h⟩ := h
  have c0 := h.c0
  have hgs := h.size
  have H := Lib.hid h
  clear h
  by_cases hm : 1 < (cutB s k).size ∧ bt (cutB s k) 1 = 47
  · rw [if_pos hm] at hkd
    rw [decide_eq_true ⟨hm.1, h47, hm.2⟩] at kp
    have HX : ∀ W', Below w.heap.size w W' → Hid (Stepped B g s k l w (.returned (.int .i64 ((plc s k + (cutA (cutB s k) (ntN (cutB s k))).size : Nat) : Int))) W') := fun W' b => Lib.hid ⟨Kp.of_below (b.mono hB) g, .inl ⟨by omega, by rw [hln, hcs, hpl], by unfold stepT; rw [if_pos hkd, List.append_nil]; exact ⟨v, H.out.below b⟩⟩⟩
    clear hkd hln hpl hcs hm hz h0 h47
    generalize cutA (cutB s k) (ntN (cutB s k)) = x at *
    generalize plc s k = p at *
    go_enter Tryz.func119, Tryz.ntmps119
    go_wp2_with (first
      | ((with_reducible refine (kp _).mono ?_); rintro e w' ⟨rfl, rfl⟩)
      | ((with_reducible refine (kc _).mono ?_); rintro e w1 ⟨⟨y, b, rfl⟩, hb1⟩))
    go_ret
    exact (HX _ hb1).out
  · rw [if_neg hm] at hkd
    rw [decide_eq_false (fun h => hm ⟨h.1, h.2.2⟩)] at kp
    have HX : ∀ W', Sc B W' g s l 30 → Kp g B w W' → Hid (Stepped B g s k l w (.returned (.int .i64 (plc s k : Nat))) W') := fun W' a b => Lib.hid ⟨b, .inr ⟨by omega, rfl, by rw [hkd]; exact a⟩⟩
    clear hkd hln hpl hcs hm hz h0 h47 hbig kc
    generalize plc s k = p at *
    go_enter Tryz.func119, Tryz.ntmps119
    go_wp2_with (first
      | ((with_reducible refine (kp _).mono ?_); rintro e w' ⟨rfl, rfl⟩)
      | ((refine (fail_any ⟨v, H.out⟩ 30 p).mono ?_); rintro e w4 ⟨rfl, hsc, hkp⟩))
    go_ret
    exact (HX _ hsc hkp).out
end
end Go.Proofs.YteafdhpcnpfmkaaGreat
