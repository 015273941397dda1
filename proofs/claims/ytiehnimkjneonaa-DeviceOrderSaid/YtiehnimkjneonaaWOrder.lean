/- DeviceOrder, walked. Conditions: none. -/
import Derived.Test.YtiehnimkjneonaaFew
namespace Go.Proofs.Ytiehnimkjneonaa
open Go.RowKit

/-- A disk of two behind these writes to sector 1. -/
def od (l : List (List UInt8)) : St := { kept := (St.fresh 2).kept, waits := l.map fun b => (1, pad b), left := 0, dead := false }
theorem od_count (l : List (List UInt8)) : (od l).count = od l := rfl
theorem od_next (l : List (List UInt8)) (b : List UInt8) : (od l).wrote 1 b = od (l ++ [b]) := by simp [od, St.wrote]
theorem od_nil : St.fresh 2 = od [] := rfl
def zs64 : Sec := List.replicate 64 0
/-- What is read behind them. -/
def lastP (l : List (List UInt8)) : Sec := match l.getLast? with | none => zs64 | some b => pad b
/-- The same as a text, none ahead. -/
def lastS (l : List (List UInt8)) : ByteArray := match l.getLast? with | none => ⟨#[]⟩ | some b => strOf (pad b)
theorem lastS_snoc (l : List (List UInt8)) (b : List UInt8) : lastS (l ++ [b]) = strOf (pad b) := by simp [lastS]
theorem lastS_cases (l : List (List UInt8)) : (lastS l = ⟨#[]⟩ ∧ lastP l = zs64) ∨ (lastS l = strOf (lastP l) ∧ (lastS l).toList.isEmpty = false) := by
  unfold lastS lastP
  cases l.getLast? with
  | none => exact .inl ⟨rfl, rfl⟩
  | some b =>
    refine .inr ⟨rfl, ?_⟩
    rw [strOf_toList]
    by_cases h : b = []
    · subst h; rfl
    · cases b with
      | nil => exact absurd rfl h
      | cons x r => rfl
theorem puts_last (l : List (List UInt8)) (z0 z1 : Sec) : ∃ y, puts [z0, z1] (l.map fun b => (1, pad b)) = [z0, y] ∧ y = (match l.getLast? with | none => z1 | some b => pad b) := by
  induction l generalizing z1 with
  | nil => exact ⟨z1, rfl, rfl⟩
  | cons b r ih =>
    obtain ⟨y, h1, h2⟩ := ih (pad b)
    refine ⟨y, h1, ?_⟩
    rw [h2]
    cases r with
    | nil => rfl
    | cons c q => simp [List.getLast?_cons]
theorem od_now (l : List (List UInt8)) : (od l).now = [zs64, lastP l] := by
  obtain ⟨y, h1, h2⟩ := puts_last l zs64 zs64
  rw [show (od l).now = puts [zs64, zs64] (l.map fun b => (1, pad b)) from rfl, h1, h2]
  rfl
theorem od_restart (l : List (List UInt8)) (keep : List Bool) : ((od l).restart keep).now = [zs64, lastP (pick (fun n => keep.getD n false) l)] := by
  obtain ⟨y, h1, h2⟩ := puts_last (pick (fun n => keep.getD n false) l) zs64 zs64
  rw [show ((od l).restart keep).now = puts [zs64, zs64] (pick (fun n => keep.getD n false) (l.map fun b => (1, pad b))) from rfl, ← pick_map, h1, h2]
  rfl
/-- A sector that is read: its bytes, in new memory, wherever that is kept. -/
theorem read_rd {lo hi : Nat} {w : World} {b : Nat} {s : St} (h : Dk lo hi w b s) (i : Int) (hi1 : s.has i = true) (hd : s.dead = false) (p : Sec) (hp : s.sect i = p) :
    Calls Try.prog 21 #[.pointer (some ⟨b, 0, none⟩), .int .i64 i] w fun e w' => ∃ g c, e = .returned (.tuple #[.slice (some ⟨g, 0, none⟩) 64 c, .int .i64 0]) ∧ Rd w' w'.heap.size 1 (some ⟨g, 0, none⟩) 64 c (bv p) ∧ Below w.heap.size w w' := by
  refine (read_any h i hi1 hd).mono ?_
  rintro e w' ⟨v, rfl, ho, hb⟩
  obtain ⟨g, c, rfl, _, _⟩ := own_pos ho (by omega)
  obtain ⟨A, c', e', hr⟩ := Rd.own ho
  cases e'
  exact ⟨g, c, rfl, by rw [← hp]; exact hr, hb⟩
theorem x_two (w : World) : Calls Try.prog 10 #[.int .i64 2] w fun e w' => ∃ b, e = .returned (.tuple #[.pointer (some ⟨b, 0, none⟩), .int .i64 0]) ∧ Dk w.heap.size w'.heap.size w' b (od []) ∧ Below w.heap.size w w' := new_any w 2 (by omega) (by omega)
/-- How long a text is, for a measure. -/
def strLen : Value → Nat | .string s => s.size | _ => 0
theorem strOf_append (a b : List UInt8) : strOf a ++ strOf b = strOf (a ++ b) := by
  apply ByteArray.ext
  simp [strOf]

set_option maxRecDepth 100000 in
set_option maxHeartbeats 16000000 in
theorem order_walk (w : World) {A K : Option Addr} {c e : Nat} {l : List Rw} {keep : List Bool} (hr : Rd w w.heap.size 1 A l.length c (l.map rwCell)) (hl : ∀ a ∈ l, RwOk w a) (hk : Rd w w.heap.size 1 K keep.length e (keep.map Value.bool)) :
    Calls Try.prog 6 #[.slice A l.length c, .slice K keep.length e] w fun e w' => e = .returned (.bool true) ∧ Below w.heap.size w w' := by
  have Hb := Lib.hid (Below.refl w.heap.size w)
  have hB : w.heap.size ≤ w.heap.size := Nat.le_refl _
  have hcm := hr.capm
  have hcc := hr.cap
  have hlm : l.length ≤ 9223372036854775807 := by simp only [maxLen] at hcm; omega
  have hem := hk.capm
  have hec := hk.cap
  have hkm : keep.length ≤ 9223372036854775807 := by simp only [maxLen] at hem; omega
  go_enter Try.func6, Try.ntmps6
  by_cases hl30 : l.length ≤ 30
  case neg =>
    have hz : (30 : Int) < (l.length : Int) := by omega
    go_wp2_with (first
      | ((with_reducible refine (awake_any _).mono ?_); rintro e w1 ⟨rfl, hb⟩; obtain ⟨Hb, hB⟩ := chain Hb hB hb; clear hb))
    go_ret
    exact ⟨rfl, Hb.out⟩
  by_cases hk60 : keep.length ≤ 60
  case neg =>
    have hz : (60 : Int) < (keep.length : Int) := by omega
    go_wp2_with (first
      | ((with_reducible refine (awake_any _).mono ?_); rintro e w1 ⟨rfl, hb⟩; obtain ⟨Hb, hB⟩ := chain Hb hB hb; clear hb))
    go_ret
    exact ⟨rfl, Hb.out⟩
  go_wp2_with (first
    | ((with_reducible refine (awake_any _).mono ?_); rintro e w1 ⟨rfl, hb⟩; obtain ⟨Hb, hB⟩ := chain Hb hB hb; clear hb)
    | ((with_reducible refine (x_two _).mono ?_); rintro e w2 ⟨b, rfl, d0, hb⟩; have hlo := hB; obtain ⟨Hb, hB⟩ := chain Hb hB hb; clear hb))
  go_loopw [8, 9, 10] (fun vl vk vi wr => ∃ (k hi : Nat), vi = .int .i64 k ∧ vl = .string (lastS ((l.map (·.b)).take k)) ∧ vk = .string (lastS (pick (fun n => keep.getD n false) ((l.map (·.b)).take k))) ∧ k ≤ l.length ∧ Dk w1.heap.size hi wr b (od ((l.map (·.b)).take k)) ∧ Below w.heap.size w wr) (fun _ _ vi _ => l.length - (intOf vi).toNat)
  case atStart => exact ⟨0, _, rfl, rfl, rfl, by omega, d0, Hb.out⟩
  case round =>
    obtain ⟨k, hi, rfl, rfl, rfl, hkl, hD, hbw⟩ := hrel
    by_cases hlt : k < l.length
    · obtain ⟨a, hka⟩ : ∃ a, l[k]? = some a := ⟨l[k], List.getElem?_eq_getElem hlt⟩
      have hmem : a ∈ l := List.mem_of_getElem? hka
      have hlz : (k : Int) < (l.length : Int) := by omega
      have hbk : (l.map (·.b))[k]? = some a.b := by rw [List.getElem?_map, hka]; rfl
      have htk : (l.map (·.b)).take (k + 1) = (l.map (·.b)).take k ++ [a.b] := by rw [List.take_add_one, hbk]; rfl
      have hpk := pick_take_succ (f := fun n => keep.getD n false) hbk
      have hLn : lastS ((l.map (·.b)).take (k + 1)) = strOf (pad a.b) := by rw [htk, lastS_snoc]
      have hwl : ((l.map (·.b)).take k).length ≤ 30 := by simp; omega
      obtain ⟨bb, o, u, rfl, hbb, hu, cuw⟩ := hr.get hlt
      rw [List.getElem?_map, hka] at hu
      obtain rfl : rwCell a = u := by simpa using hu
      have cw := fun (W : World) (hb : Below w.heap.size w W) => (hb.cell (p := ⟨bb, o + k, none⟩) hbb).trans cuw
      have c0 := cw _ hbw
      simp only [rwCell] at c0 cw
      have hra := ((hl a hmem).below hbw).more hbw.size
      have hbe := Rd.beside (hi := hi) (hl a hmem) hlo
      have hnx : ∀ {W : World} {hi2 : Nat}, Dk w1.heap.size hi2 W b ((od ((l.map (·.b)).take k)).count.wrote 1 a.b) → Dk w1.heap.size hi2 W b (od ((l.map (·.b)).take (k + 1))) := fun h => by rw [htk, ← od_next]; exact h
      generalize hLg : lastS ((l.map (·.b)).take k) = L at *
      generalize hKg : lastS (pick (fun n => keep.getD n false) ((l.map (·.b)).take k)) = Kx at *
      replace hbw := Lib.hid hbw
      by_cases hn64 : a.b.length ≤ 64
      case neg =>
        have hz : (64 : Int) < (a.b.length : Int) := by omega
        go_wp2_with fail
        go_ret
        exact ⟨rfl, hbw.out⟩
      have hz : (a.b.length : Int) ≤ 64 := by omega
      go_wp2_with ((with_reducible refine (write_ok hD 1 hra hbe rfl hn64 rfl (by simp [od]; omega)).mono ?_); rintro e v2 ⟨rfl, hD2, hk2⟩; have hb2 := hbw.out.trans (hk2.low.mono hlo); have c0' := cw _ hb2; have hcv := ((hl a hmem).below hb2).conv (P := Try.prog) 34 9 5 Try.underlying34 Try.underlying5 Try.underlying9; replace hD2 := hnx hD2; replace hb2 := Lib.hid hb2; clear hk2 hbw c0 hra hbe cw hnx hD)
      go_loop [11] (fun v => ∃ j : Nat, v = .string (strOf (a.b ++ List.replicate j 0)) ∧ a.b.length + j ≤ 64) (fun v => 64 - strLen v)
      case atStart => exact ⟨0, by simp, by omega⟩
      case round =>
        obtain ⟨j, rfl, hj⟩ := hrel
        have hTs : (strOf (a.b ++ List.replicate j 0)).size = a.b.length + j := by rw [strOf_size]; simp
        have hTn : strOf (a.b ++ List.replicate j 0) ++ (⟨#[0]⟩ : ByteArray) = strOf (a.b ++ List.replicate (j + 1) 0) := by
          rw [show (⟨#[0]⟩ : ByteArray) = strOf [0] from rfl, strOf_append, List.replicate_succ', List.append_assoc]
        by_cases hjl : a.b.length + j < 64
        · have hjz : (a.b.length : Int) + (j : Int) < 64 := by omega
          go_wp2_with fail
          exact ⟨⟨j + 1, rfl, by omega⟩, by simp [strLen, strOf_size]; omega⟩
        · have hje : a.b ++ List.replicate j 0 = pad a.b := by rw [pad, show j = 64 - a.b.length from by omega]
          have hjz : 64 ≤ (a.b.length : Int) + (j : Int) := by omega
          rw [hje] at hTs hTn ⊢
          clear hTn
          by_cases hkk : k < keep.length
          · have hkz : (k : Int) < (keep.length : Int) := by omega
            obtain ⟨b5, o5, u5, rfl, hb5, hu5, c5⟩ := (hk.below hb2.out).get hkk
            rw [List.getElem?_map, List.getElem?_eq_getElem hkk] at hu5
            simp at hu5
            subst hu5
            have hkd : keep.getD k false = keep[k] := by rw [List.getD_eq_getElem?_getD, List.getElem?_eq_getElem hkk]; rfl
            rw [hkd] at hpk
            cases hv : keep[k] with
            | true =>
              rw [hv] at hpk c5
              go_wp2_with fail
              go_roundw
              case rel => exact ⟨k + 1, _, by simp, by rw [hLn], by rw [hpk, if_pos rfl, lastS_snoc], by omega, hD2, hb2.out⟩
              case measure => simp [intOf]; omega
            | false =>
              rw [hv] at hpk c5
              go_wp2_with fail
              go_roundw
              case rel => exact ⟨k + 1, _, by simp, by rw [hLn], by rw [hpk, ← hKg]; simp, by omega, hD2, hb2.out⟩
              case measure => simp [intOf]; omega
          · have hkz : (keep.length : Int) ≤ (k : Int) := by omega
            have hkd : keep.getD k false = false := by rw [List.getD_eq_getElem?_getD, List.getElem?_eq_none (by omega)]; rfl
            rw [hkd] at hpk
            go_wp2_with fail
            go_roundw
            case rel => exact ⟨k + 1, _, by simp, by rw [hLn], by rw [hpk, ← hKg]; simp, by omega, hD2, hb2.out⟩
            case measure => simp [intOf]; omega
    · obtain rfl : k = l.length := by omega
      have hall : (l.map (·.b)).take l.length = l.map (·.b) := List.take_of_length_le (by simp)
      rw [hall] at hD ⊢
      have Hw := Lib.hid hbw
      have hBw := hbw.size
      have hkb := hk.below hbw
      have hs1 : (od (l.map (·.b))).sect 1 = lastP (l.map (·.b)) := by unfold St.sect; rw [od_now]; rfl
      have hs0 : (od (l.map (·.b))).sect 0 = zs64 := by unfold St.sect; rw [od_now]; rfl
      have hsr : ((od (l.map (·.b))).restart keep).sect 1 = lastP (pick (fun n => keep.getD n false) (l.map (·.b))) := by unfold St.sect; rw [od_restart]; rfl
      have hol : (od (l.map (·.b))).waits.length ≤ 1000000 := by simp [od]; omega
      clear hbw
      have hN : (strOf zs64).size = 64 := by rw [strOf_size]; rfl
      have hcases := lastS_cases (l.map (·.b))
      have hcases2 := lastS_cases (pick (fun n => keep.getD n false) (l.map (·.b)))
      generalize lastS (l.map (·.b)) = L1 at *
      generalize lastS (pick (fun n => keep.getD n false) (l.map (·.b))) = L2 at *
      generalize lastP (l.map (·.b)) = P1 at *
      generalize lastP (pick (fun n => keep.getD n false) (l.map (·.b))) = P2 at *
      have hh1 : (od (l.map (·.b))).has 1 = true := rfl
      have hh0 : (od (l.map (·.b))).has 0 = true := rfl
      have hsd : (od (l.map (·.b))).dead = false := rfl
      have hxr : ((od (l.map (·.b))).restart keep).has 1 = true := St.has_iff.2 ⟨by omega, by show (1 : Int) < ((puts _ _).length : Int); rw [puts_length]; show (1 : Int) < 2; omega⟩
      generalize od (l.map (·.b)) = s0 at *
      clear hall d0 Hb hB
      rcases hcases with ⟨rfl, rfl⟩ | ⟨rfl, he1⟩ <;> rcases hcases2 with ⟨rfl, rfl⟩ | ⟨rfl, he2⟩
      all_goals
        go_wp2_with (first
          | ((with_reducible refine (read_rd hD 1 hh1 hsd _ hs1).mono ?_); rintro e v1 ⟨g1, c1, rfl, r1, hb⟩; have hD1 := hD.below (hb.mono hD.size); obtain ⟨Hw, hBw⟩ := chain Hw hBw hb; clear hb hD)
          | ((with_reducible refine (restart_any hD1 hol (hk.below Hw.out) hBw).mono ?_); rintro e v2 ⟨x, rfl, hX, hb⟩; have hD2 := hD1.below (hb.mono hD1.size); have r1b := (r1.below hb).more hb.size; obtain ⟨Hw, hBw⟩ := chain Hw hBw hb; clear hb hD1 r1)
          | ((with_reducible refine (read_rd hX 1 hxr rfl _ hsr).mono ?_); rintro e v3 ⟨g2, c2, rfl, r2, hb⟩; have hD3 := hD2.below (hb.mono hD2.size); have r1c := (r1b.below hb).more hb.size; obtain ⟨Hw, hBw⟩ := chain Hw hBw hb; clear hb hD2 r1b hX)
          | ((with_reducible refine (read_rd hD3 0 hh0 hsd _ hs0).mono ?_); rintro e v4 ⟨g3, c3, rfl, r3, hb⟩; have hcx := ((r1c.below hb).more hb.size).conv (P := Try.prog) 34 9 5 Try.underlying34 Try.underlying5 Try.underlying9; have hcy := ((r2.below hb).more hb.size).conv (P := Try.prog) 34 9 5 Try.underlying34 Try.underlying5 Try.underlying9; have hcz := r3.conv (P := Try.prog) 34 9 5 Try.underlying34 Try.underlying5 Try.underlying9; obtain ⟨Hw, hBw⟩ := chain Hw hBw hb; clear hb hD3 r1c r2 r3))
        go_ret
        exact ⟨rfl, Hw.out⟩
theorem deviceOrder_walk (A0 : Option Addr) (c0 : Nat) (l0 : List Rw) (A1 : Option Addr) (c1 : Nat) (l1 : List Bool) (w : World) (r0 : Rd w w.heap.size 1 A0 l0.length c0 (l0.map rwCell)) (f0 : ∀ a ∈ l0, RwOk w a) (r1 : Rd w w.heap.size 1 A1 l1.length c1 (l1.map Value.bool)) :
    Calls Try.prog 6 #[.slice A0 l0.length c0, .slice A1 l1.length c1] w fun e w' => e = .returned (.bool true) ∧ Below w.heap.size w w' := order_walk w r0 f0 r1
end Go.Proofs.Ytiehnimkjneonaa
