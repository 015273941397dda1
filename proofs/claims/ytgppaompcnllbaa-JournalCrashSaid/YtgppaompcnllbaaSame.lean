/- Layer 4: records held against texts; whether they are few. Conditions: none. -/
import Derived.Test.YtgppaompcnllbaaRecords
namespace Go.Proofs.Ytgppaompcnllbaa
open Go.RowKit

/-- Texts xs cells. -/
def tcs (l : List (List UInt8)) : List Value := l.map fun b => Value.string (strOf b)
theorem tcs_len (l : List (List UInt8)) : (tcs l).length = l.length := by simp [tcs]
theorem tcs_append (a b : List (List UInt8)) : tcs (a ++ b) = tcs a ++ tcs b := by simp [tcs]
theorem tcs_get (l : List (List UInt8)) (k : Nat) : (tcs l)[k]? = (l[k]?).map fun b => Value.string (strOf b) := by simp [tcs]
theorem tcs_one (l : List (List UInt8)) : ∀ u ∈ tcs l, u.oneCell' = true := fun u hu => by
  obtain ⟨p, _, rfl⟩ := List.mem_map.1 hu
  rfl
def sameB (a b : List (List UInt8)) : Bool := decide (a = b)
theorem sameB_self (a : List (List UInt8)) : sameB a a = true := by simp [sameB]
theorem sameB_ne {a b : List (List UInt8)} (h : a ≠ b) : sameB a b = false := by simp [sameB, h]
set_option maxRecDepth 100000 in
set_option maxHeartbeats 2000000 in
theorem same_any {w : World} {A B : Option Addr} {c d : Nat} {xs ys : List (List UInt8)} (ha : RRs w A c xs) (hb : Rd w w.heap.size 1 B ys.length d (tcs ys)) :
    Calls Try.prog 15 #[.slice A xs.length c, .slice B ys.length d] w fun e w' => e = .returned (.bool (sameB xs ys)) ∧ Below w.heap.size w w' := by
  have hal : xs.length ≤ 9223372036854775807 := by
    obtain ⟨_, _, h, _⟩ := ha
    have := h.cap; have := h.capm; simp only [maxLen] at this; omega
  by_cases hl : xs.length = ys.length
  · rw [← hl] at hb ⊢
    have Hl := Lib.hid hl
    clear hl
    go_enter Try.func15, Try.ntmps15
    go_wp2
    go_loopw [5] (fun vi wr => ∃ k : Nat, vi = .int .i64 k ∧ k ≤ xs.length ∧ xs.take k = ys.take k ∧ Below w.heap.size w wr) (fun vi _ => xs.length - (intOf vi).toNat)
    case atStart => exact ⟨0, rfl, Nat.zero_le _, rfl, Below.refl _ _⟩
    case round =>
      obtain ⟨k, rfl, hk, hkk, hbw⟩ := hrel
      have Hkk := Lib.hid hkk
      clear hkk
      have hbs := hbw.size
      by_cases hlt : k < xs.length
      · have hlz : (k : Int) < (xs.length : Int) := by omega
        obtain ⟨x, hx⟩ : ∃ x, xs[k]? = some x := ⟨xs[k], List.getElem?_eq_getElem hlt⟩
        obtain ⟨y, hy⟩ : ∃ y, ys[k]? = some y := ⟨ys[k]'(by rw [← Hl.out]; exact hlt), List.getElem?_eq_getElem _⟩
        obtain ⟨q, o, r, rfl, hq, cq, hrb, hrok⟩ := (ha.below (w' := wr) hbw).at_ hx
        obtain ⟨q2, o2, u, rfl, hq2, hu, cq2⟩ := (hb.below hbw).get hlt
        rw [tcs_get, hy] at hu
        simp at hu
        subst hu
        have hrx : Rd wr wr.heap.size 1 r.A x.length r.c (bv x) := by rw [← hrb]; exact hrok
        have kcv := fun m => hrx.convN m
        have Hx := Lib.hid hx
        have Hy := Lib.hid hy
        have Hbw := Lib.hid hbw
        clear hx hy hrb hrok hbw
        by_cases hxy : x = y
        · subst hxy
          go_wp2
          go_quiet (fail)
          go_wp2
          go_roundw
          case rel => exact ⟨k + 1, by simp, by omega, by rw [List.take_add_one, List.take_add_one, Hkk.out, Hx.out, Hy.out], below_drewN Hbw.out _⟩
          case measure => simp [intOf]; omega
        · have hne : ((strOf x).toList == (strOf y).toList) = false := by
            rw [strOf_toList, strOf_toList]; exact beq_eq_false_iff_ne.2 hxy
          have hno : sameB xs ys = false := sameB_ne fun e => hxy (by have := Hx.out; rw [e, Hy.out] at this; exact (Option.some.inj this).symm)
          have Hno := Lib.hid hno
          clear hno
          go_wp2
          go_quiet (fail)
          go_wp2
          go_ret
          exact ⟨by rw [Hno.out]; rfl, below_drewN Hbw.out _⟩
      · obtain rfl : k = xs.length := by omega
        go_wp2
        go_ret
        have h1 := Hkk.out
        rw [List.take_length, Hl.out, List.take_length] at h1
        exact ⟨by rw [h1, sameB_self]; rfl, hbw⟩
  · have hno : sameB xs ys = false := sameB_ne fun e => hl (by rw [e])
    have Hno := Lib.hid hno
    have hlz : ((xs.length : Int) != (ys.length : Int)) = true := by simp; omega
    clear hno
    go_enter Try.func15, Try.ntmps15
    go_wp2
    go_ret
    exact ⟨by rw [Hno.out]; rfl, Below.refl _ _⟩
def fewR (l : List Rw) : Bool := l.all (fun r => decide (r.b.length ≤ 300)) && decide (l.length ≤ 12)
theorem fewR_iff {l : List Rw} : fewR l = true ↔ (∀ r ∈ l, r.b.length ≤ 300) ∧ l.length ≤ 12 := by simp [fewR]
set_option maxRecDepth 100000 in
set_option maxHeartbeats 2000000 in
theorem few_any (w : World) {B c : Nat} {A : Option Addr} {l : List Rw} (h : Rd w B 1 A l.length c (l.map rwCell)) :
    Calls Try.prog 9 #[.slice A l.length c] w fun e w' => e = .returned (.bool (fewR l)) ∧ w = w' := by
  have hcm := h.capm
  have hcc := h.cap
  have hlm : l.length ≤ 9223372036854775807 := by simp only [maxLen] at hcm; omega
  go_enter Try.func9, Try.ntmps9
  go_wp2
  go_loop [3] (fun i => ∃ k : Nat, k ≤ l.length ∧ i = .int .i64 k ∧ (l.take k).all (fun r => decide (r.b.length ≤ 300)) = true) (fun i => l.length - (intOf i).toNat)
  case atStart => exact ⟨0, Nat.zero_le _, rfl, rfl⟩
  case round =>
    obtain ⟨k, hk, rfl, ha⟩ := hrel
    by_cases hlt : k < l.length
    · obtain ⟨a, hka⟩ : ∃ a, l[k]? = some a := ⟨l[k], List.getElem?_eq_getElem hlt⟩
      obtain ⟨b, o, u, rfl, _, hu, cu⟩ := h.get hlt
      rw [List.getElem?_map, hka] at hu
      simp at hu
      subst hu
      have cu' : w.cell? ⟨b, o + k, none⟩ = some (.slice a.A a.b.length a.c) := cu
      have hlz : (k : Int) < (l.length : Int) := by omega
      have hmem : a ∈ l := List.mem_of_getElem? hka
      have htk : (l.take (k + 1)).all (fun r => decide (r.b.length ≤ 300)) = ((l.take k).all (fun r => decide (r.b.length ≤ 300)) && decide (a.b.length ≤ 300)) := by rw [List.take_add_one, hka, List.all_append]; simp
      have Htk := Lib.hid htk
      have Hka := Lib.hid hka
      have Ha := Lib.hid ha
      clear htk hka cu ha
      by_cases h1 : a.b.length ≤ 300
      · go_wp2
        go_round
        case rel => exact ⟨k + 1, by omega, by simp, by rw [Htk.out, Ha.out]; simp [h1]⟩
        case measure => simp [intOf]; omega
      · have hno : fewR l = false := by
          cases hf : fewR l with
          | false => rfl
          | true => exact absurd ((fewR_iff.1 hf).1 a hmem) h1
        have Hno := Lib.hid hno
        clear hno
        go_wp2
        go_ret
        exact ⟨by rw [Hno.out]; rfl, rfl⟩
    · obtain rfl : k = l.length := by omega
      rw [List.take_length] at ha
      have Ha := Lib.hid ha
      clear ha
      go_wp2
      go_ret
      refine ⟨?_, rfl⟩
      rw [fewR, Ha.out]
      simp
      omega
end Go.Proofs.Ytgppaompcnllbaa
