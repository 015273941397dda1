/- Layer 6: what Go's library tells of a text's beginning and of its first newline: strings.HasPrefix, strings.Cut at one newline. Conditions: a text of at most a million bytes. -/
import Derived.Laws.StandIn
import Derived.Test.YtinfbimfiaegdaaScan
import Derived.Test.YtinfbimfiaegdaaScanP
namespace Go.Proofs.Ytinfbimfiaegdaa
open Go.RowKit

theorem nt_byte {u : ByteArray} {q : Nat} (h : q < plc u (ntN u)) : bt u q ≠ 10 := by
  obtain ⟨j, h1, h2⟩ := rune_at (s := u) (k := q) (ntN u) h
  have hj : j < ntN u := by
    rcases Nat.lt_or_ge j (ntN u) with hh | hh
    · exact hh
    · have := plc_mono u hh; omega
  obtain ⟨a, b⟩ := (runN_spec _ u).1 j hj
  rcases Nat.lt_or_ge (plc u j) q with hq | hq
  · rw [plc_succ a] at h2
    have := inner_byte a hq h2
    omega
  · obtain rfl : plc u j = q := by omega
    simpa using b
theorem nt_end {u : ByteArray} (h : plc u (ntN u) < u.size) : bt u (plc u (ntN u)) = 10 := by
  have h2 : (!decide (bt u (plc u (ntN u)) = 10)) = false := (runN_spec (fun i => !decide (bt u i = 10)) u).2 h
  simpa using h2
/-- Where the first newline stands; below 0: nowhere. -/
def nlZ (u : ByteArray) : Int := if plc u (ntN u) < u.size then (plc u (ntN u) : Int) else -1
theorem idx_byte (u : ByteArray) (i : Nat) (h : i < u.size) : (u[i]! == UInt8.ofNat 10) = decide (bt u i = 10) := by
  rw [getElem!_pos u i h, bt_eq u i h, Bool.eq_iff_iff, beq_iff_eq, decide_eq_true_iff]
  constructor
  · intro e; rw [e]; rfl
  · intro e; exact UInt8.toNat_inj.1 e
theorem firstIdx_nl (u : ByteArray) : firstIdx u (10 : Int).toNat.toUInt8 = nlZ u := by
  show firstIdx u (UInt8.ofNat 10) = nlZ u
  unfold firstIdx nlZ
  by_cases h : plc u (ntN u) < u.size
  · rw [if_pos h]
    have e : (List.range u.size).find? (fun i => u[i]! == UInt8.ofNat 10) = some (plc u (ntN u)) := by
      rw [List.find?_range_eq_some]
      refine ⟨by rw [idx_byte u _ h, decide_eq_true (nt_end h)], by simpa using h, fun j hj => ?_⟩
      rw [idx_byte u j (by omega), decide_eq_false (nt_byte hj)]; rfl
    rw [e]
  · rw [if_neg h]
    have e : (List.range u.size).find? (fun i => u[i]! == UInt8.ofNat 10) = none := by
      rw [List.find?_range_eq_none]
      intro i hi
      rw [idx_byte u i hi]
      have := nt_byte (u := u) (q := i) (by omega)
      simp [this]
    rw [e]

set_option maxHeartbeats 400000 in
theorem hasPrefix_any (u t : ByteArray) (w : World) :
    Calls Try.prog 61 #[.string u, .string t] w fun e w' => e = .returned (.bool (preB u t)) ∧ w' = w := by
  go_enter Try.func61, Try.ntmps61
  go_wp2_with ((refine (pre_any _ _ _).mono ?_); rintro e w' ⟨rfl, rfl⟩)
  go_ret
  exact ⟨rfl, rfl⟩

set_option maxHeartbeats 1000000 in
theorem indexByte_any (u : ByteArray) (w : World) :
    Calls Try.prog 96 #[.string u, .int .u8 10] w fun e w' => e = .returned (.int .i64 (nlZ u)) ∧ w' = w := by
  have hib : ∀ W, (callFunc 102 #[.string u, .int .u8 10]).run Try.prog W = .ok (.value (.int .i64 (nlZ u))) W := fun W => by
    rw [run_callFunc_indexByte Try.func102 (by kernel_rfl) (by kernel_rfl) (by kernel_rfl) (by kernel_rfl), run_indexByte_string, firstIdx_nl]
    rfl
  go_enter Try.func96, Try.ntmps96
  go_wp2
  go_ret
  exact ⟨rfl, rfl⟩
set_option maxHeartbeats 1000000 in
theorem index_nl (u : ByteArray) (w : World) (_ : u.size ≤ 1000000) :
    Calls Try.prog 91 #[.string u, .string ⟨#[10]⟩] w fun e w' => e = .returned (.int .i64 (nlZ u)) ∧ w' = w := by
  by_cases hu : u = sNl
  · have hd : ([10] == u.toList) = true := by subst hu; decide +kernel
    have hz : nlZ u = 0 := by subst hu; decide +kernel
    have HZ := Lib.hid hz
    clear hu hz
    go_enter Try.func91, Try.ntmps91
    go_wp2
    go_ret
    exact ⟨by rw [HZ.out]; rfl, rfl⟩
  · have hd : ([10] == u.toList) = false := by
      have := toList_ne (a := sNl) (b := u) (fun e => hu e.symm)
      rwa [show sNl.toList = [10] by decide +kernel] at this
    clear hu
    go_enter Try.func91, Try.ntmps91
    go_wp2_with ((refine (indexByte_any u _).mono ?_); rintro e w' ⟨rfl, rfl⟩)
    go_ret
    exact ⟨rfl, rfl⟩
set_option maxHeartbeats 1000000 in
theorem cutLite_nl (u : ByteArray) (w : World) (hs : u.size ≤ 1000000) :
    Calls Try.prog 79 #[.string u, .string ⟨#[10]⟩] w fun e w' => (∃ y b, e = .returned (.tuple #[.string (cutA u (ntN u)), .string y, .bool b])) ∧ Below w.heap.size w w' := by
  have hp := plc_le u (ntN u)
  by_cases h : plc u (ntN u) < u.size
  · have hz : nlZ u = (plc u (ntN u) : Int) := if_pos h
    have kc : ∀ W, _ := fun W => index_nl u W hs
    rw [hz] at kc
    have HX : Hid (cutA u (ntN u) = u.extract 0 (plc u (ntN u))) := Lib.hid rfl
    clear hz
    generalize plc u (ntN u) = p at *
    go_enter Try.func79, Try.ntmps79
    go_wp2_with ((with_reducible refine (kc _).mono ?_); rintro e w' ⟨rfl, rfl⟩)
    go_quiet (fail)
    go_wp2
    go_ret3
    rw [HX.out]
    exact ⟨⟨_, _, rfl⟩, ⟨rfl, rfl, rfl, Nat.le_refl _, fun _ _ => rfl⟩⟩
  · have hz : nlZ u = -1 := if_neg h
    have kc : ∀ W, _ := fun W => index_nl u W hs
    rw [hz] at kc
    have HX : Hid (cutA u (ntN u) = u) := Lib.hid (by unfold cutA; rw [show plc u (ntN u) = u.size by omega]; exact ext_all u)
    go_enter Try.func79, Try.ntmps79
    go_wp2_with ((with_reducible refine (kc _).mono ?_); rintro e w' ⟨rfl, rfl⟩)
    go_ret3
    rw [HX.out]
    exact ⟨⟨_, _, rfl⟩, Below.refl _ _⟩
set_option maxHeartbeats 1000000 in
theorem cut_nl (u : ByteArray) (w : World) (hs : u.size ≤ 1000000) :
    Calls Try.prog 62 #[.string u, .string ⟨#[10]⟩] w fun e w' => (∃ y b, e = .returned (.tuple #[.string (cutA u (ntN u)), .string y, .bool b])) ∧ Below w.heap.size w w' := by
  go_enter Try.func62, Try.ntmps62
  go_wp2_with ((with_reducible refine (cutLite_nl u _ hs).mono ?_); rintro e w' ⟨⟨y, b, rfl⟩, hb⟩)
  go_ret3
  exact ⟨⟨_, _, rfl⟩, hb⟩
end Go.Proofs.Ytinfbimfiaegdaa
