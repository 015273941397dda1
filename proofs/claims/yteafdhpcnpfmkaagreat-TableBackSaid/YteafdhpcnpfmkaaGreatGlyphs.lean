/- The program's own functions on a whole text: whether it is valid, how many runes, a name, its first runes, a place's line and column. Conditions: the text has at most a million bytes. -/
import Derived.Test.YteafdhpcnpfmkaaGreatGlyph
namespace Go.Proofs.YteafdhpcnpfmkaaGreat
open Go.RowKit

/-- The iterator of the call's own range stands at a place. -/
def itAt (w wr : World) (s : ByteArray) (p : Nat) : Prop := wr.heap[w.heap.size]? = some (.stringIter s p)
theorem it_start (w : World) (s : ByteArray) : itAt w (w.iter s 0) s 0 := World.iter_heap w s 0
theorem it_below (w : World) (s : ByteArray) : Below w.heap.size w (w.iter s 0) := (Below.refl _ w).alloc (Nat.le_refl _) _
theorem rn_dec (s : ByteArray) (p : Nat) : ((Utf8.decode s p).1 : Int) = (rn s p : Int) := rfl
theorem it_pos {w wr : World} {s : ByteArray} {p : Nat} (h : itAt w wr s p) : wr.iterPos w.heap.size = p := by unfold itAt at h; simp only [World.iterPos, h]

set_option maxHeartbeats 1000000 in
theorem count_any (s : ByteArray) (w : World) (hs : s.size ≤ 1000000) :
    Calls Tryz.prog 124 #[.string s] w fun e w' => e = .returned (.int .i64 (cnt s)) ∧ Below w.heap.size w w' := by
  go_enter Tryz.func124, Tryz.ntmps124
  go_wp2
  go_loopw [3] (fun n wr => ∃ k : Nat, k ≤ cnt s ∧ n = .int .i64 k ∧ itAt w wr s (plc s k) ∧ Below w.heap.size w wr) (fun _ wr => s.size - wr.iterPos w.heap.size)
  case atStart => exact ⟨0, Nat.zero_le _, rfl, it_start w s, it_below w s⟩
  case round =>
    obtain ⟨k, hk, rfl, hit, hbw⟩ := hrel
    have Hit := Lib.hid hit
    have Hbw := Lib.hid hbw
    have hc := cnt_le s
    have hl := plc_le s k
    by_cases h : plc s k < s.size
    · have hk2 := lt_cnt.2 h
      have hw := wd_pos h
      have HS := Lib.hid (plc_succ h)
      have hnx : ∀ ty, (Instr.next (.pointer (some ⟨w.heap.size, 0, none⟩)) true ty).run Tryz.prog wr = _ := fun ty => Lib.run_next_any_at wr w.heap.size s (plc s k) ty hit h
      have Hit2 := Lib.hid (Lib.iterAt_heap wr w.heap.size s (plc s k) (plc s k + (Utf8.decode s (plc s k)).2) hit)
      have Hbw2 := Lib.hid (Lib.below_iterAt hbw (k := w.heap.size) (Nat.le_refl _) s (plc s k + (Utf8.decode s (plc s k)).2))
      clear hit hbw
      go_wp2
      go_roundw
      case rel =>
        refine ⟨k + 1, by omega, by go_num, ?_, Hbw2.out⟩
        rw [HS.out]; exact Hit2.out
      case measure => rw [it_pos Hit.out, it_pos (w := w) Hit2.out]; show s.size - (plc s k + wd s (plc s k)) < _; omega
    · have e := cnt_eq h fun j hj => lt_cnt.1 (by omega)
      have E := Lib.hid e
      have hnx : ∀ ty, (Instr.next (.pointer (some ⟨w.heap.size, 0, none⟩)) true ty).run Tryz.prog wr = _ := fun ty => Lib.run_next_end_at wr w.heap.size s (plc s k) ty hit h
      clear e hit hbw
      go_wp2
      go_ret
      exact ⟨by rw [E.out]; rfl, Hbw.out⟩

set_option maxHeartbeats 1000000 in
theorem valid_any (s : ByteArray) (w : World) (_ : s.size ≤ 1000000) :
    Calls Tryz.prog 118 #[.string s] w fun e w' => e = .returned (.bool (validS s)) ∧ Below w.heap.size w w' := by
  go_enter Tryz.func118, Tryz.ntmps118
  go_wp2
  go_loopw [] (fun wr => ∃ k : Nat, k ≤ cnt s ∧ itAt w wr s (plc s k) ∧ Below w.heap.size w wr ∧ ∀ j, j < k → brk s (plc s j) = false) (fun wr => s.size - wr.iterPos w.heap.size)
  case atStart => exact ⟨0, Nat.zero_le _, it_start w s, it_below w s, fun j hj => by omega⟩
  case round =>
    obtain ⟨k, hk, hit, hbw, hall⟩ := hrel
    have Hall := Lib.hid hall
    clear hall
    have Hit := Lib.hid hit
    have Hbw := Lib.hid hbw
    have hc := cnt_le s
    have hl := plc_le s k
    by_cases h : plc s k < s.size
    · have hk2 := lt_cnt.2 h
      have hw := wd_pos h
      have HS := Lib.hid (plc_succ h)
      have hnx : ∀ ty, (Instr.next (.pointer (some ⟨w.heap.size, 0, none⟩)) true ty).run Tryz.prog wr = _ := fun ty => Lib.run_next_any_at wr w.heap.size s (plc s k) ty hit h
      have Hit2 := Lib.hid (Lib.iterAt_heap wr w.heap.size s (plc s k) (plc s k + (Utf8.decode s (plc s k)).2) hit)
      have Hbw2 := Lib.hid (Lib.below_iterAt hbw (k := w.heap.size) (Nat.le_refl _) s (plc s k + (Utf8.decode s (plc s k)).2))
      clear hit hbw
      by_cases hb : brk s (plc s k) = true
      · go_wp2_with ((with_reducible refine (broken_any s (plc s k) _ _ _ rfl (rn_dec s (plc s k)) h).mono ?_); rintro e w' ⟨rfl, rfl⟩)
        go_ret
        refine ⟨gret_bool ?_, Hbw2.out⟩
        symm
        rw [Bool.eq_false_iff]
        intro hv
        have := validS_iff.1 hv k hk2
        rw [hb] at this
        cases this
      · rw [Bool.not_eq_true] at hb
        go_wp2_with ((with_reducible refine (broken_any s (plc s k) _ _ _ rfl (rn_dec s (plc s k)) h).mono ?_); rintro e w' ⟨rfl, rfl⟩)
        go_roundw
        case rel =>
          refine ⟨k + 1, by omega, ?_, Hbw2.out, fun j hj => ?_⟩
          · rw [HS.out]; exact Hit2.out
          · by_cases e : j = k
            · subst e; exact hb
            · exact Hall.out j (by omega)
        case measure => rw [it_pos Hit.out, it_pos (w := w) Hit2.out]; show s.size - (plc s k + wd s (plc s k)) < _; omega
    · have e := cnt_eq h fun j hj => lt_cnt.1 (by omega)
      have E := Lib.hid e
      have hnx : ∀ ty, (Instr.next (.pointer (some ⟨w.heap.size, 0, none⟩)) true ty).run Tryz.prog wr = _ := fun ty => Lib.run_next_end_at wr w.heap.size s (plc s k) ty hit h
      clear e hit hbw
      go_wp2
      go_ret
      exact ⟨gret_bool (by symm; rw [validS_iff, E.out]; exact Hall.out), Hbw.out⟩

set_option maxHeartbeats 2000000 in
theorem name_any (s : ByteArray) (w : World) (_ : s.size ≤ 1000000) :
    Calls Tryz.prog 149 #[.string s] w fun e w' => e = .returned (.bool (nameS s)) ∧ Below w.heap.size w w' := by
  go_enter Tryz.func149, Tryz.ntmps149
  go_wp2
  go_loopw [3] (fun n wr => ∃ k : Nat, k ≤ cnt s ∧ n = .int .i64 k ∧ k ≤ 24 ∧ itAt w wr s (plc s k) ∧ Below w.heap.size w wr ∧ ∀ j, j < k → mayB s (plc s j) = true) (fun _ wr => s.size - wr.iterPos w.heap.size)
  case atStart => exact ⟨0, Nat.zero_le _, rfl, Nat.zero_le _, it_start w s, it_below w s, fun j hj => by omega⟩
  case round =>
    obtain ⟨k, hk, rfl, h24, hit, hbw, hall⟩ := hrel
    have Hall := Lib.hid hall
    clear hall
    have Hit := Lib.hid hit
    have Hbw := Lib.hid hbw
    have hc := cnt_le s
    have hl := plc_le s k
    by_cases h : plc s k < s.size
    · have hk2 := lt_cnt.2 h
      have hw := wd_pos h
      have HS := Lib.hid (plc_succ h)
      have hnx : ∀ ty, (Instr.next (.pointer (some ⟨w.heap.size, 0, none⟩)) true ty).run Tryz.prog wr = _ := fun ty => Lib.run_next_any_at wr w.heap.size s (plc s k) ty hit h
      have Hit2 := Lib.hid (Lib.iterAt_heap wr w.heap.size s (plc s k) (plc s k + (Utf8.decode s (plc s k)).2) hit)
      have Hbw2 := Lib.hid (Lib.below_iterAt hbw (k := w.heap.size) (Nat.le_refl _) s (plc s k + (Utf8.decode s (plc s k)).2))
      clear hit hbw
      by_cases h25 : 24 < k + 1
      · have hd : (24 : Int) < (k : Int) + 1 := by omega
        go_wp2_with fail
        go_ret
        refine ⟨gret_bool ?_, Hbw2.out⟩
        symm
        rw [Bool.eq_false_iff]
        intro hv
        have := (nameS_iff.1 hv).2.1
        omega
      · have hd : ¬ (24 : Int) < (k : Int) + 1 := by omega
        have hmB : mayB s (plc s k) = (!brk s (plc s k) && inNameB (rn s (plc s k))) := rfl
        have HM := Lib.hid hmB
        clear hmB
        by_cases hb : brk s (plc s k) = true
        · go_wp2_with ((with_reducible refine (broken_any s (plc s k) _ _ _ rfl (rn_dec s (plc s k)) h).mono ?_); rintro e w' ⟨rfl, rfl⟩)
          go_ret
          refine ⟨gret_bool ?_, Hbw2.out⟩
          symm
          rw [Bool.eq_false_iff]
          intro hv
          have := (nameS_iff.1 hv).2.2 k hk2
          rw [HM.out, hb] at this
          cases this
        · rw [Bool.not_eq_true] at hb
          by_cases hm : inNameB (rn s (plc s k)) = true
          · go_wp2_with (first
              | ((with_reducible refine (broken_any s (plc s k) _ _ _ rfl (rn_dec s (plc s k)) h).mono ?_); rintro e w' ⟨rfl, rfl⟩)
              | ((with_reducible refine (inname_any _ (rn s (plc s k)) _ (rn_dec s (plc s k))).mono ?_); rintro e w' ⟨rfl, rfl⟩))
            go_roundw
            case rel =>
              refine ⟨k + 1, by omega, by go_num, by omega, ?_, Hbw2.out, fun j hj => ?_⟩
              · rw [HS.out]; exact Hit2.out
              · by_cases e : j = k
                · subst e; rw [HM.out, hb, hm]; rfl
                · exact Hall.out j (by omega)
            case measure => rw [it_pos Hit.out, it_pos (w := w) Hit2.out]; show s.size - (plc s k + wd s (plc s k)) < _; omega
          · rw [Bool.not_eq_true] at hm
            go_wp2_with (first
              | ((with_reducible refine (broken_any s (plc s k) _ _ _ rfl (rn_dec s (plc s k)) h).mono ?_); rintro e w' ⟨rfl, rfl⟩)
              | ((with_reducible refine (inname_any _ (rn s (plc s k)) _ (rn_dec s (plc s k))).mono ?_); rintro e w' ⟨rfl, rfl⟩))
            go_ret
            refine ⟨gret_bool ?_, Hbw2.out⟩
            symm
            rw [Bool.eq_false_iff]
            intro hv
            have := (nameS_iff.1 hv).2.2 k hk2
            rw [HM.out, hb, hm] at this
            cases this
    · have e := cnt_eq h fun j hj => lt_cnt.1 (by omega)
      have E := Lib.hid e
      have hnx : ∀ ty, (Instr.next (.pointer (some ⟨w.heap.size, 0, none⟩)) true ty).run Tryz.prog wr = _ := fun ty => Lib.run_next_end_at wr w.heap.size s (plc s k) ty hit h
      clear e hit hbw
      go_wp2
      go_ret
      refine ⟨gret_bool ?_, Hbw.out⟩
      rw [Bool.eq_iff_iff, nameS_iff, E.out]
      simp only [decide_eq_true_eq]
      exact ⟨fun h0 => ⟨by omega, h24, Hall.out⟩, fun h0 => by omega⟩

theorem cutA_end {s : ByteArray} {n : Nat} (h : cnt s ≤ n) : cutA s n = s := by unfold cutA; rw [plc_end h]; exact ext_all s
theorem cutB_end {s : ByteArray} {n : Nat} (h : cnt s ≤ n) : cutB s n = ⟨#[]⟩ := by
  unfold cutB; rw [plc_end h]
  exact bt_ext (by rw [size_ext]; show _ = 0; omega) fun k hk => by rw [size_ext] at hk; omega
set_option maxHeartbeats 2000000 in
theorem cut_any (s : ByteArray) (n : Int) (w : World) (_ : s.size ≤ 1000000) (hn : -9223372036854775808 ≤ n) (hn2 : n ≤ 9223372036854775807) :
    Calls Tryz.prog 117 #[.string s, .int .i64 n] w fun e w' => e = .returned (.tuple #[.string (cutA s n.toNat), .string (cutB s n.toNat)]) ∧ Below w.heap.size w w' := by
  go_enter Tryz.func117, Tryz.ntmps117
  go_wp2
  go_loopw [1] (fun m wr => ∃ k : Nat, k ≤ cnt s ∧ k ≤ n.toNat ∧ m = .int .i64 (n - k) ∧ itAt w wr s (plc s k) ∧ Below w.heap.size w wr) (fun _ wr => s.size - wr.iterPos w.heap.size)
  case atStart => exact ⟨0, Nat.zero_le _, Nat.zero_le _, by simp, it_start w s, it_below w s⟩
  case round =>
    obtain ⟨k, hk, hkn, rfl, hit, hbw⟩ := hrel
    have Hit := Lib.hid hit
    have Hbw := Lib.hid hbw
    have hc := cnt_le s
    have hl := plc_le s k
    by_cases h : plc s k < s.size
    · have hk2 := lt_cnt.2 h
      have hw := wd_pos h
      have HS := Lib.hid (plc_succ h)
      have hnx : ∀ ty, (Instr.next (.pointer (some ⟨w.heap.size, 0, none⟩)) true ty).run Tryz.prog wr = _ := fun ty => Lib.run_next_any_at wr w.heap.size s (plc s k) ty hit h
      have Hit2 := Lib.hid (Lib.iterAt_heap wr w.heap.size s (plc s k) (plc s k + (Utf8.decode s (plc s k)).2) hit)
      have Hbw2 := Lib.hid (Lib.below_iterAt hbw (k := w.heap.size) (Nat.le_refl _) s (plc s k + (Utf8.decode s (plc s k)).2))
      clear hit hbw
      by_cases h0 : n - k ≤ 0
      · have e : n.toNat = k := by omega
        have E := Lib.hid e
        clear e
        go_wp2
        go_quiet (fail)
        go_wp2
        go_ret2
        exact ⟨by rw [E.out]; rfl, Hbw2.out.trans ⟨rfl, rfl, rfl, Nat.le_refl _, fun _ _ => rfl⟩⟩
      · go_wp2
        go_roundw
        case rel =>
          refine ⟨k + 1, by omega, by omega, by go_num, ?_, Hbw2.out⟩
          rw [HS.out]; exact Hit2.out
        case measure => rw [it_pos Hit.out, it_pos (w := w) Hit2.out]; show s.size - (plc s k + wd s (plc s k)) < _; omega
    · have e := cnt_eq h fun j hj => lt_cnt.1 (by omega)
      have E := Lib.hid e
      have hnx : ∀ ty, (Instr.next (.pointer (some ⟨w.heap.size, 0, none⟩)) true ty).run Tryz.prog wr = _ := fun ty => Lib.run_next_end_at wr w.heap.size s (plc s k) ty hit h
      clear e hit hbw
      have ea := cutA_end (s := s) (n := n.toNat) (by have := E.out; omega)
      have eb := cutB_end (s := s) (n := n.toNat) (by have := E.out; omega)
      have EA := Lib.hid ea
      have EB := Lib.hid eb
      clear ea eb
      go_wp2
      go_ret2
      exact ⟨by rw [EA.out, EB.out]; rfl, Hbw.out⟩

end Go.Proofs.YteafdhpcnpfmkaaGreat
