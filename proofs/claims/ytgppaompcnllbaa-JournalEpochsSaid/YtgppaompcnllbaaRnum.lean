/- The contracts of the reader's Num and Text. -/
import Derived.Test.YtgppaompcnllbaaReader
namespace Go.Proofs.Ytgppaompcnllbaa
open Go.RowKit

theorem take_ok {l : List UInt8} {x k f : Nat} (h : takeS l = (x, k, f)) : (f = 0 → 1 ≤ k ∧ k ≤ l.length ∧ k ≤ 9) ∧ x < 2 ^ 64 ∧ (f ≠ 0 → x = 0 ∧ k = 0) := by
  cases l with
  | nil => simp [takeS] at h; omega
  | cons b r =>
    simp only [takeS] at h
    split at h
    · simp at h; omega
    · split at h
      · simp at h; omega
      · split at h
        · simp at h; omega
        · simp only [Prod.mk.injEq] at h
          obtain ⟨rfl, rfl, rfl⟩ := h
          refine ⟨fun _ => ⟨by omega, by simp; omega, by omega⟩, ?_, fun h => absurd rfl h⟩
          exact Nat.lt_of_lt_of_le (val_lt _) (Nat.le_trans (Nat.pow_le_pow_right (n := 256) (by omega) (show (r.take b.toNat).length ≤ 8 by have := List.length_take_le b.toNat r; omega)) (by omega))

set_option maxRecDepth 100000 in
set_option maxHeartbeats 400000 in
theorem num_any (g : Nat) (st : RSt) (w : World) (h : IsR w g st) :
    Calls Try.prog 52 #[.pointer (some ⟨g, 0, none⟩)] w fun e w' => e = .returned (.int .u64 (rnum st).1) ∧ IsR w' g (rnum st).2 ∧ w.grownBy w' (some g) := by
  have hlt := h.lt
  obtain ⟨l, x⟩ := st
  by_cases hx : x = 0
  · subst hx
    obtain ⟨q, k, f, hT⟩ : ∃ q k f, takeS l = (q, k, f) := ⟨_, _, _, rfl⟩
    have ht : taken l = .tuple #[.int .u64 q, .int .i64 k, .int .i64 f] := by rw [taken, hT]
    obtain ⟨A, n, c, h0, h1, hf, hr⟩ := h.cells
    have hl : n = l.length := hr.lenB
    subst hl
    have Hr := Lib.hid hr
    have H := Lib.hid h
    have hcap := hr.cap
    have hc63 : c ≤ 9223372036854775807 := by have := hr.capm; unfold maxLen at this; omega
    by_cases hf0 : f = 0
    · subst hf0
      obtain ⟨⟨hk1, hk2, hk9⟩, hq, _⟩ := And.imp_left (fun h => h rfl) (take_ok hT)
      have e1 : rnum (l, 0) = (q, (l.drop k, 0)) := by simp [rnum, hT]
      have E := Lib.hid e1
      have T := Lib.hid ht
      clear e1 ht hT hr h hq
      go_enter Try.func52, Try.ntmps52
      go_wp2_with fail
      refine (err_any g _ _ H.out).mono ?_
      rintro e w' ⟨rfl, rfl⟩
      go_wp2_with fail
      refine (take_any g A _ c l w Hr.out).mono ?_
      rintro e w' ⟨rfl, rfl⟩
      rw [T.out]
      go_wp2
      · have hck : c = k := by assumption
        go_ret
        rw [E.out]
        exact ⟨rfl, H.out.set0 A _ _ (l.drop k) (by rw [← bv_drop]; exact Hr.out.cutE hk2 hck), grown_set (World.grownBy.refl _ _) _ _⟩
      · have hck : ¬ c = k := by assumption
        go_ret
        rw [E.out]
        exact ⟨rfl, H.out.set0 _ _ _ (l.drop k) (by rw [← bv_drop]; exact Hr.out.cutN hk2 hck), grown_set (World.grownBy.refl _ _) _ _⟩
    · have hf1 : ((f : Int) != 0) = true := by simp [hf0]
      have e1 : rnum (l, 0) = (0, (l, f)) := by simp [rnum, hT, hf0]
      have E := Lib.hid e1
      have T := Lib.hid ht
      clear e1 ht hT hr h
      go_enter Try.func52, Try.ntmps52
      go_wp2_with fail
      refine (err_any g _ _ H.out).mono ?_
      rintro e w' ⟨rfl, rfl⟩
      go_wp2_with fail
      refine (take_any g A _ c l w Hr.out).mono ?_
      rintro e w' ⟨rfl, rfl⟩
      rw [T.out]
      go_wp2
      go_ret
      rw [E.out]
      exact ⟨rfl, H.out.set1 f, grown_set (World.grownBy.refl _ _) _ _⟩
  · have hx1 : ((x : Int) != 0) = true := by simp [hx]
    have e1 : rnum (l, x) = (0, (l, x)) := by simp [rnum, hx]
    have E := Lib.hid e1
    clear e1
    go_enter Try.func52, Try.ntmps52
    go_wp2_with fail
    refine (err_any g _ _ h).mono ?_
    rintro e w' ⟨rfl, rfl⟩
    go_wp2
    go_ret
    rw [E.out]
    exact ⟨rfl, h, World.grownBy.refl _ _⟩
end Go.Proofs.Ytgppaompcnllbaa
