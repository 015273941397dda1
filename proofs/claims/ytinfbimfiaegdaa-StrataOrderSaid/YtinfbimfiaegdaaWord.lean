/- Layer 6: the first word of a text; the place of its first broken byte. Conditions: a text of at most a million bytes; the word's text is valid. -/
import Derived.Test.YtinfbimfiaegdaaScanP
import Derived.Test.YtinfbimfiaegdaaScan
namespace Go.Proofs.Ytinfbimfiaegdaa
open Go.RowKit

set_option maxHeartbeats 1000000 in
theorem firstWord_any (u : ByteArray) (w : World) (_ : u.size ≤ 1000000) (hv : validS u = true) :
    Calls Try.prog 51 #[.string u] w fun e w' => e = .returned (.string (cutA u (wrN u))) ∧ Below w.heap.size w w' := by
  have HV := Lib.hid (validS_iff.1 hv)
  clear hv
  go_enter Try.func51, Try.ntmps51
  go_wp2
  go_loopw [] (fun wr => ∃ k : Nat, k ≤ cnt u ∧ itAt w wr u (plc u k) ∧ Below w.heap.size w wr ∧ ∀ j, j < k → mayB u (plc u j) = true) (fun wr => u.size - wr.iterPos w.heap.size)
  case atStart => exact ⟨0, Nat.zero_le _, it_start w u, it_below w u, fun j hj => by omega⟩
  case round =>
    obtain ⟨k, hk, hit, hbw, hall⟩ := hrel
    have Hall := Lib.hid hall
    clear hall
    have Hit := Lib.hid hit
    have Hbw := Lib.hid hbw
    have hc := cnt_le u
    have hl := plc_le u k
    by_cases h : plc u k < u.size
    · have hk2 := lt_cnt.2 h
      have hw := wd_pos h
      have HS := Lib.hid (plc_succ h)
      have hnx : ∀ ty, (Instr.next (.pointer (some ⟨w.heap.size, 0, none⟩)) true ty).run Try.prog wr = _ := fun ty => Lib.run_next_any_at wr w.heap.size u (plc u k) ty hit h
      have Hit2 := Lib.hid (Lib.iterAt_heap wr w.heap.size u (plc u k) (plc u k + (Utf8.decode u (plc u k)).2) hit)
      have Hbw2 := Lib.hid (Lib.below_iterAt hbw (k := w.heap.size) (Nat.le_refl _) u (plc u k + (Utf8.decode u (plc u k)).2))
      clear hit hbw
      have hnm : nameS (Utf8.encode ((Utf8.decode u (plc u k)).1 : Int)) = mayB u (plc u k) := rn_name h (HV.out k hk2)
      have kn : ∀ W, _ := fun W => name_any (Utf8.encode ((Utf8.decode u (plc u k)).1 : Int)) W (Nat.le_trans (encode_size_le _) (by omega))
      rw [hnm] at kn
      clear hnm
      have hsz2 : w.heap.size ≤ (wr.iterAt w.heap.size u (plc u k + (Utf8.decode u (plc u k)).2)).heap.size := Hbw2.out.size
      cases hm : mayB u (plc u k) with
      | true =>
        rw [hm] at kn
        go_wp2_with ((with_reducible refine (kn _).mono ?_); rintro e w2 ⟨rfl, hb2⟩)
        go_roundw
        case rel =>
          refine ⟨k + 1, by omega, ?_, Hbw2.out.trans (hb2.mono hsz2), fun j hj => ?_⟩
          · rw [HS.out]
            show w2.heap[w.heap.size]? = _
            rw [hb2.block _ (by have := Hit2.out; exact (Array.getElem?_eq_some_iff.1 this).1)]
            exact Hit2.out
          · by_cases e : j = k
            · subst e; exact hm
            · exact Hall.out j (by omega)
        case measure =>
          have h2 : itAt w w2 u (plc u k + wd u (plc u k)) := by
            show w2.heap[w.heap.size]? = _
            rw [hb2.block _ (by have := Hit2.out; exact (Array.getElem?_eq_some_iff.1 this).1)]
            exact Hit2.out
          rw [it_pos Hit.out, it_pos h2]; omega
      | false =>
        rw [hm] at kn
        have HE : Hid (wrN u = k) := Lib.hid (runN_eq (fun j hj => ⟨lt_cnt.1 (by omega), Hall.out j hj⟩) fun _ => hm)
        go_wp2_with ((with_reducible refine (kn _).mono ?_); rintro e w2 ⟨rfl, hb2⟩)
        go_ret
        exact ⟨by rw [HE.out]; rfl, Hbw2.out.trans (hb2.mono hsz2)⟩
    · have e := cnt_eq h fun j hj => lt_cnt.1 (by omega)
      have HE : Hid (wrN u = k) := Lib.hid (runN_eq (fun j hj => ⟨lt_cnt.1 (by omega), Hall.out j hj⟩) fun h' => absurd h' h)
      have HC : Hid (cutA u k = u) := Lib.hid (cutA_end (by omega))
      have hnx : ∀ ty, (Instr.next (.pointer (some ⟨w.heap.size, 0, none⟩)) true ty).run Try.prog wr = _ := fun ty => Lib.run_next_end_at wr w.heap.size u (plc u k) ty hit h
      clear e hit hbw
      go_wp2
      go_ret
      exact ⟨by rw [HE.out, HC.out]; rfl, Hbw.out⟩

def badZ (s : ByteArray) : Int := if plc s (badN s) < s.size then (plc s (badN s) : Int) else -1
set_option maxHeartbeats 1000000 in
theorem broken_at (s : ByteArray) (w : World) (hs : s.size ≤ 1000000) :
    Calls Try.prog 29 #[.string s] w fun e w' => e = .returned (.int .i64 (badZ s)) ∧ Below w.heap.size w w' := by
  go_enter Try.func29, Try.ntmps29
  go_wp2
  go_loopw [] (fun wr => ∃ k : Nat, k ≤ cnt s ∧ itAt w wr s (plc s k) ∧ Below w.heap.size w wr ∧ ∀ j, j < k → brk s (plc s j) = false) (fun wr => s.size - wr.iterPos w.heap.size)
  case atStart => exact ⟨0, Nat.zero_le _, it_start w s, it_below w s, fun j hj => by omega⟩
  case round =>
    obtain ⟨k, hk, hit, hbw, hall⟩ := hrel
    have Hall := Lib.hid hall
    clear hall
    have Hit := Lib.hid hit
    have Hbw := Lib.hid hbw
    have hc := cnt_le s
    have hl := plc_le s k
    by_cases h : plc s k < s.size
    · have hk2 := lt_cnt.2 h
      have hw := wd_pos h
      have HS := Lib.hid (plc_succ h)
      have hnx : ∀ ty, (Instr.next (.pointer (some ⟨w.heap.size, 0, none⟩)) true ty).run Try.prog wr = _ := fun ty => Lib.run_next_any_at wr w.heap.size s (plc s k) ty hit h
      have Hit2 := Lib.hid (Lib.iterAt_heap wr w.heap.size s (plc s k) (plc s k + (Utf8.decode s (plc s k)).2) hit)
      have Hbw2 := Lib.hid (Lib.below_iterAt hbw (k := w.heap.size) (Nat.le_refl _) s (plc s k + (Utf8.decode s (plc s k)).2))
      clear hit hbw
      have hsz := cutB_size s k
      have hsz2 : w.heap.size ≤ (wr.iterAt w.heap.size s (plc s k + (Utf8.decode s (plc s k)).2)).heap.size := Hbw2.out.size
      have hil : w.heap.size < (wr.iterAt w.heap.size s (plc s k + (Utf8.decode s (plc s k)).2)).heap.size := (Array.getElem?_eq_some_iff.1 Hit2.out).1
      have hve : validS (cutA (cutB s k) 1) = !brk s (plc s k) := by rw [first_valid (by omega), brk_cutB h]
      have hcs : (cutA (cutB s k) 1).size ≤ 1000000 := by have := cutA_size (cutB s k) 1; have := plc_le (cutB s k) 1; omega
      have kc : ∀ W, Calls Try.prog 46 #[.string (s.extract (plc s k) s.size), .int .i64 1] W fun e w' => e = .returned (.tuple #[.string (cutA (cutB s k) 1), .string (cutB (cutB s k) 1)]) ∧ Below W.heap.size W w' := fun W => cut_any (cutB s k) 1 W (by omega) (by omega) (by omega)
      have kv : ∀ W, _ := fun W => valid_any (cutA (cutB s k) 1) W hcs
      rw [hve] at kv
      clear hve hcs
      generalize cutA (cutB s k) 1 = x at *
      generalize cutB (cutB s k) 1 = y at *
      cases hm : brk s (plc s k) with
      | false =>
        rw [hm] at kv
        go_wp2_with (first
          | ((with_reducible refine (kc _).mono ?_); rintro e w2 ⟨rfl, hb2⟩)
          | ((with_reducible refine (kv _).mono ?_); rintro e w3 ⟨rfl, hb3⟩))
        have hbb : Below (wr.iterAt w.heap.size s (plc s k + (Utf8.decode s (plc s k)).2)).heap.size (wr.iterAt w.heap.size s (plc s k + (Utf8.decode s (plc s k)).2)) w3 := hb2.trans (hb3.mono hb2.size)
        go_roundw
        case rel =>
          refine ⟨k + 1, by omega, ?_, Hbw2.out.trans (hbb.mono hsz2), fun j hj => ?_⟩
          · rw [HS.out]
            show w3.heap[w.heap.size]? = _
            rw [hbb.block _ hil]
            exact Hit2.out
          · by_cases e : j = k
            · subst e; exact hm
            · exact Hall.out j (by omega)
        case measure =>
          have h2 : itAt w w3 s (plc s k + wd s (plc s k)) := by
            show w3.heap[w.heap.size]? = _
            rw [hbb.block _ hil]
            exact Hit2.out
          rw [it_pos Hit.out, it_pos h2]; omega
      | true =>
        rw [hm] at kv
        have HE : Hid (badN s = k) := Lib.hid (runN_eq (fun j hj => ⟨lt_cnt.1 (by omega), by have := Hall.out j hj; simp [this]⟩) fun _ => by simp [hm])
        go_wp2_with (first
          | ((with_reducible refine (kc _).mono ?_); rintro e w2 ⟨rfl, hb2⟩)
          | ((with_reducible refine (kv _).mono ?_); rintro e w3 ⟨rfl, hb3⟩))
        go_ret
        refine ⟨?_, Hbw2.out.trans ((hb2.trans (hb3.mono hb2.size)).mono hsz2)⟩
        unfold badZ
        rw [HE.out, if_pos h]; rfl
    · have e := cnt_eq h fun j hj => lt_cnt.1 (by omega)
      have HE : Hid (badN s = k) := Lib.hid (runN_eq (fun j hj => ⟨lt_cnt.1 (by omega), by have := Hall.out j hj; simp [this]⟩) fun h' => absurd h' h)
      have hnx : ∀ ty, (Instr.next (.pointer (some ⟨w.heap.size, 0, none⟩)) true ty).run Try.prog wr = _ := fun ty => Lib.run_next_end_at wr w.heap.size s (plc s k) ty hit h
      clear e hit hbw
      go_wp2
      go_ret
      refine ⟨?_, Hbw.out⟩
      unfold badZ
      rw [HE.out, if_neg h]; rfl
end Go.Proofs.Ytinfbimfiaegdaa
