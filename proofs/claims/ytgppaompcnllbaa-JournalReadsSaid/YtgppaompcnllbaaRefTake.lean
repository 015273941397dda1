/- The contract of the document's own Take, over a string. -/
import Derived.Test.YtgppaompcnllbaaRefNum
import Derived.Test.YtgppaompcnllbaaTake
namespace Go.Proofs.Ytgppaompcnllbaa
open Go.RowKit

theorem strOf_get (l : List UInt8) (k : Nat) (y : UInt8) (h : l[k]? = some y) : ∀ h' : k < (strOf l).size, (strOf l)[k]'h' = y := by
  intro h'
  obtain ⟨hl, hx⟩ := List.getElem?_eq_some_iff.1 h
  rw [← hx]
  rfl

set_option maxRecDepth 100000 in
set_option maxHeartbeats 400000 in
theorem refTake_any (l : List UInt8) (hl : l.length ≤ 9223372036854775807) (w : World) :
    Calls Try.prog 49 #[.string (strOf l)] w fun e w' => e = .returned (taken l) ∧ w = w' := by
  have hsz := strOf_size l
  have htl := strOf_toList
  match l, hl, hsz with
  | [], hl, hsz =>
    go_enter Try.func49, Try.ntmps49
    go_wp2
    go_ret3
    exact ⟨rfl, rfl⟩
  | b :: r, hl, hsz =>
    have hc0 := strOf_get (b :: r) 0 b rfl
    have hbn : (b.toNat : Int) < 256 := by have := b.toNat_lt; omega
    simp only [List.length_cons] at hl hsz
    by_cases h8 : 8 < b.toNat
    · have e : taken (b :: r) = .tuple #[.int .u64 0, .int .i64 0, .int .i64 11] := by simp [taken, takeS, h8]
      have E := Lib.hid e
      clear e
      go_enter Try.func49, Try.ntmps49
      go_wp2
      go_ret3
      exact ⟨by rw [E.out]; rfl, rfl⟩
    · by_cases hs : r.length < b.toNat
      · have e : taken (b :: r) = .tuple #[.int .u64 0, .int .i64 0, .int .i64 10] := by simp [taken, takeS, h8, hs]
        have E := Lib.hid e
        clear e
        go_enter Try.func49, Try.ntmps49
        go_wp2
        go_ret3
        exact ⟨by rw [E.out]; rfl, rfl⟩
      · by_cases h0 : 0 < b.toNat
        · obtain ⟨u, hx1⟩ : ∃ u, (b :: r)[1]? = some u := ⟨(b :: r)[1]'(by simp; omega), List.getElem?_eq_getElem _⟩
          have hd : r.head? = some u := by rw [List.head?_eq_getElem?]; simpa using hx1
          have hc1 := strOf_get (b :: r) 1 u hx1
          by_cases hu : u = 0
          · have e : taken (b :: r) = .tuple #[.int .u64 0, .int .i64 0, .int .i64 11] := by simp [taken, takeS, h8, hs, h0, hd, hu]
            have E := Lib.hid e
            clear e hd hx1
            subst hu
            go_enter Try.func49, Try.ntmps49
            go_wp2
            go_ret3
            exact ⟨by rw [E.out]; rfl, rfl⟩
          · have hun : u.toNat ≠ 0 := fun h => hu (UInt8.toNat_inj.1 h)
            have hu0 : 0 < u.toNat := by omega
            have hub : ((u.toNat : Int) == 0) = false := by simp [hun]
            have e : taken (b :: r) = .tuple #[.int .u64 (val (r.take b.toNat)), .int .i64 ((b.toNat : Int) + 1), .int .i64 0] := by simp [taken, takeS, h8, hs, h0, hd, hu]
            have E := Lib.hid e
            clear e hd hx1 hu hun
            go_enter Try.func49, Try.ntmps49
            go_wp2
            go_loop [6, 7] (fun v i => ∃ j : Nat, j ≤ b.toNat ∧ i = .int .i64 ((j : Int) + 1) ∧ v = .int .u64 (val (r.take j))) (fun _ i => b.toNat + 1 - (intOf i).toNat)
            case atStart => exact ⟨0, Nat.zero_le _, rfl, rfl⟩
            case round =>
              obtain ⟨j, hj, rfl, rfl⟩ := hrel
              by_cases hlt : j < b.toNat
              · obtain ⟨y, hyr⟩ : ∃ y, r[j]? = some y := ⟨r[j]'(by omega), List.getElem?_eq_getElem _⟩
                have hcj := strOf_get (b :: r) (j + 1) y (by simpa using hyr)
                have Hy := Lib.hid hyr
                have hv : val (r.take j) < 256 ^ 7 := Nat.lt_of_lt_of_le (val_lt _) (Nat.pow_le_pow_right (by omega) (by have := List.length_take_le j r; omega))
                obtain ⟨q, hq⟩ : ∃ q, q = val (r.take j) := ⟨_, rfl⟩
                rw [← hq] at hv ⊢
                have Hq := Lib.hid hq
                clear hyr hq
                have hyl := y.toNat_lt
                go_wp2
                refine ⟨⟨j + 1, by omega, by simp, ?_⟩, by simp [intOf]; omega⟩
                rw [Hq.out, val_take r j y Hy.out]
                simp
              · have e3 : j = b.toNat := by omega
                subst e3
                go_wp2
                go_ret3
                exact ⟨by rw [E.out]; rfl, rfl⟩
        · have e : taken (b :: r) = .tuple #[.int .u64 0, .int .i64 1, .int .i64 0] := by simp [taken, takeS, show b.toNat = 0 from by omega, val]
          have E := Lib.hid e
          have hb0 : b.toNat = 0 := by omega
          clear e
          go_enter Try.func49, Try.ntmps49
          go_wp2
          refine wp_loop_rounds 1 ?_
          rw [rounds_succ]
          go_wp2
          go_ret3
          exact ⟨by rw [E.out]; rfl, rfl⟩
end Go.Proofs.Ytgppaompcnllbaa
