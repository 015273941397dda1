/- Layer 10: whether a way that has a Not leads back, and levels by rounds, as the document has them, walked. Conditions: edges between the places that there are; at most 255 places, 100000 edges. -/
import Derived.BigQuiet
import Derived.Deep.QuietTactic
import Derived.Deep.Cut
import Derived.Deep.DeepCutAuto
import Derived.IntWalk
import Derived.Deep.RegionLaw
import Derived.Test.YtinfbimfiaegdaaGreatWayW
namespace Go.Proofs.YtinfbimfiaegdaaGreat
open Go.RowKit

theorem bthenD {B nq : Nat} {w w' : World} (h : Below B w w') : Below B w (w'.drewN nq) := h.trans ⟨rfl, rfl, rfl, Nat.le_refl _, fun _ _ => rfl⟩
set_option maxRecDepth 100000 in
set_option maxHeartbeats 4000000 in
theorem cycle_any {w : World} {n c : Nat} {A : Option Addr} {l : List Ed} (h : Rd w w.heap.size 3 A l.length c (ecells l)) (hi : InR n l) (hn : n ≤ 255) (hl : l.length ≤ 100000) {r : Bool} (hr : r = true ↔ Cyc l) :
    Calls Tryz.prog 14 #[.int .i64 (n : Int), .slice A l.length c] w fun e w' => e = .returned (.bool r) ∧ Below w.heap.size w w' := by
  have kw := ways_any h hi hn hl
  replace hr := Lib.hid hr
  go_enter Tryz.func14, Tryz.ntmps14
  go_wp2_with (go_at_call 35; refine kw.mono ?_; rintro e w1 ⟨⟨A1, c1, rfl, gl, M, hM, hMp⟩, hb1⟩)
  have h1 := h.below hb1
  clear kw
  go_loopw [6] (fun vi wx => ∃ i : Nat, vi = .int .i64 i ∧ i ≤ l.length ∧ Below w1.heap.size w1 wx ∧ ¬ ∃ e ∈ l.take i, e.2.2 = true ∧ (fr e = tt e ∨ PathLt l n (tt e) (fr e))) (fun vi _ => l.length - (intOf vi).toNat)
  case atStart => exact ⟨0, rfl, Nat.zero_le _, Below.refl _ _, by simp⟩
  case round =>
    obtain ⟨i, rfl, hil, hbx, hno⟩ := hrel
    have h2 := h1.below (hbx.mono hb1.size)
    have hMx := hM.below hbx
    have hb9 : Below w.heap.size w wr := hb1.trans (hbx.mono hb1.size)
    have hb8 := hb1.trans (hbx.mono hb1.size)
    by_cases hlt : i < l.length
    · have hdi : (i : Int) < (l.length : Int) := by omega
      obtain ⟨e, he⟩ : ∃ e, l[i]? = some e := ⟨_, List.getElem?_eq_getElem hlt⟩
      have hem := List.mem_of_getElem? he
      have hfe : e.1 = ((fr e : Nat) : Int) := by have := hi e hem; unfold fr; omega
      have hte : e.2.1 = ((tt e : Nat) : Int) := by have := hi e hem; unfold tt; omega
      have hfn := hi.fr hem
      have htn := hi.tt hem
      have hfi : ((fr e : Nat) : Int) < (n : Int) := by omega
      have hti : ((tt e : Nat) : Int) < (n : Int) := by omega
      obtain ⟨b, o, rfl, hb, c0, c1, c2⟩ := rd_edge h2 he
      rw [hfe] at c0
      rw [hte] at c1
      obtain ⟨b5, o5, g, rfl, hg, m0, m1, m2, m3, m4, m5⟩ := hMx.at_ htn
      have m6 := m5 _ hfn
      have m7 := hMp _ _ htn hfn
      have hyes : Hid (e.2.2 = true → (fr e = tt e ∨ M (tt e) (fr e) = true) → Cyc l) := Lib.hid fun q1 q2 => (cyc_path hi).2 ⟨e, hem, q1, q2.imp id m7.1⟩
      have hnext : Hid (¬ (e.2.2 = true ∧ (fr e = tt e ∨ M (tt e) (fr e) = true)) → ¬ ∃ e ∈ l.take (i + 1), e.2.2 = true ∧ (fr e = tt e ∨ PathLt l n (tt e) (fr e))) := Lib.hid fun q => by
        rw [List.take_add_one, he]
        rintro ⟨d, hd, q1, q2⟩
        rcases List.mem_append.1 hd with hd | hd
        · exact hno ⟨d, hd, q1, q2⟩
        · simp at hd
          subst hd
          exact q ⟨q1, q2.imp id m7.2⟩
      clear hno he m5 m1 m7 hfe hte hMp hem hMx
      generalize fr e = f at *
      generalize tt e = t at *
      generalize M t f = x at *
      generalize e.2.2 = y at *
      cases y with
      | false =>
        replace hnext := Lib.hid (hnext.out (by simp))
        clear hyes
        go_wp2_with fail
        go_quiet (fail)
        go_wp2_with fail
        exact ⟨⟨i + 1, by go_num, by omega, bthenD hbx, hnext.out⟩, by simp [intOf]; omega⟩
      | true =>
        by_cases hft : f = t
        · subst hft
          have hC := Lib.hid (hyes.out rfl (.inl rfl))
          obtain rfl : r = true := hr.out.2 hC.out
          clear hyes hnext
          go_wp2_with fail
          go_quiet (fail)
          go_wp2_with fail
          go_ret
          exact ⟨rfl, bthenD hb9⟩
        · have hft2 : ¬ ((f : Int) = (t : Int)) := by omega
          cases x with
          | true =>
            have hC := Lib.hid (hyes.out rfl (.inr rfl))
            obtain rfl : r = true := hr.out.2 hC.out
            clear hyes hnext
            go_wp2_with fail
            go_quiet (fail)
            go_wp2_with fail
            go_ret
            exact ⟨rfl, bthenD hb9⟩
          | false =>
            replace hnext := Lib.hid (hnext.out (by simp [hft]))
            clear hyes
            go_wp2_with fail
            go_quiet (fail)
            go_wp2_with fail
            exact ⟨⟨i + 1, by go_num, by omega, bthenD hbx, hnext.out⟩, by simp [intOf]; omega⟩
    · obtain rfl : i = l.length := by omega
      have hdi : ¬ (((l.length : Nat) : Int) < (l.length : Int)) := by omega
      rw [List.take_length] at hno
      obtain rfl : r = false := by
        cases r with
        | false => rfl
        | true => exact absurd ((cyc_path hi).1 (hr.out.1 rfl)) hno
      go_wp2_with fail
      go_ret
      exact ⟨rfl, hb8⟩
end Go.Proofs.YtinfbimfiaegdaaGreat
