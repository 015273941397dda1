/- The contract of fields.Take: the number that any bytes begin with, how many bytes it has, or the error. -/
import Derived.Test.YtgppaompcnllbaaBase
import Derived.Test.YtgppaompcnllbaaRows
namespace Go.Proofs.Ytgppaompcnllbaa
open Go.RowKit

/-- What bytes are worth as a number, the greatest part first. -/
def val (l : List UInt8) : Nat := l.foldl (fun a c => a * 256 + c.toNat) 0
theorem val_snoc (l : List UInt8) (c : UInt8) : val (l ++ [c]) = val l * 256 + c.toNat := by simp [val]
theorem val_nil : val [] = 0 := rfl
theorem val_lt (l : List UInt8) : val l < 256 ^ l.length := by
  have key : ∀ (l : List UInt8) (a k : Nat), a < 256 ^ k → l.foldl (fun a c => a * 256 + c.toNat) a < 256 ^ (k + l.length) := by
    intro l
    induction l with
    | nil => intro a k h; simpa using h
    | cons c r ih =>
      intro a k h
      have := ih (a * 256 + c.toNat) (k + 1) (by rw [Nat.pow_succ]; have := c.toNat_lt; omega)
      rw [List.foldl_cons, List.length_cons, show k + (r.length + 1) = k + 1 + r.length from by omega]
      exact this
  have := key l 0 0 (by simp)
  rwa [Nat.zero_add] at this
/-- What Take answers: the number, how many bytes it has, the error. -/
def takeS : List UInt8 → Nat × Nat × Nat
  | [] => (0, 0, 10)
  | b :: r => if 8 < b.toNat then (0, 0, 11) else if r.length < b.toNat then (0, 0, 10) else if 0 < b.toNat ∧ r.head? = some 0 then (0, 0, 11) else (val (r.take b.toNat), b.toNat + 1, 0)
def taken (l : List UInt8) : Value := .tuple #[.int .u64 (takeS l).1, .int .i64 (takeS l).2.1, .int .i64 (takeS l).2.2]

/-- Element k of a slice that reads as bytes. -/
theorem Rd.getByte {w : World} {B n c : Nat} {A : Option Addr} {l : List UInt8} (h : Rd w B 1 A n c (bv l)) {k : Nat} (hk : k < n) :
    ∃ b o u, A = some ⟨b, o, none⟩ ∧ b < B ∧ l[k]? = some u ∧ w.cell? ⟨b, o + k, none⟩ = some (.int .u8 u.toNat) := by
  obtain ⟨b, o, v, e, hb, hx, hc⟩ := h.get hk
  rw [bv_get] at hx
  cases hu : l[k]? with
  | none => rw [hu] at hx; cases hx
  | some u => rw [hu] at hx; simp at hx; subst hx; exact ⟨b, o, u, e, hb, rfl, hc⟩

theorem or_byte (q : Nat) (y : UInt8) (hq : q < 256 ^ 7) : bits .or .u64 ((q : Int) * 256) (y.toNat : Int) = ((q * 256 + y.toNat : Nat) : Int) := by
  have hy := y.toNat_lt
  have h := u64_or_nat (q * 256) y.toNat (by omega) (by omega)
  rw [Nat.mul_comm q 256, show 256 = 2 ^ 8 from rfl, ← Nat.two_pow_add_eq_or_of_lt hy] at h
  rw [show ((q : Int) * 256) = ((2 ^ 8 * q : Nat) : Int) from by rw [Nat.mul_comm]; simp, h, Nat.mul_comm q 256]
theorem val_take (r : List UInt8) (j : Nat) (y : UInt8) (h : r[j]? = some y) : val (r.take (j + 1)) = val (r.take j) * 256 + y.toNat := by
  obtain ⟨hl, hx⟩ := List.getElem?_eq_some_iff.1 h
  rw [List.take_succ_eq_append_getElem hl, val_snoc, hx]

set_option maxRecDepth 100000 in
set_option maxHeartbeats 400000 in
theorem take_any (B : Nat) (A : Option Addr) (n c : Nat) (l : List UInt8) (w : World) (hr : Rd w B 1 A n c (bv l)) :
    Calls Try.prog 57 #[.slice A n c] w fun e w' => e = .returned (taken l) ∧ w = w' := by
  have Hr := Lib.hid hr
  have hn63 : n ≤ 9223372036854775807 := by have := hr.capm; have := hr.cap; unfold maxLen at *; omega
  have hln : l.length = n := by have := hr.len; rw [bv_length] at this; omega
  clear hr
  match l, hln, Hr with
  | [], hln, Hr =>
    simp at hln
    subst hln
    go_enter Try.func57, Try.ntmps57
    go_wp2
    go_ret3
    exact ⟨rfl, rfl⟩
  | b :: r, hln, Hr =>
    have hn0 : 0 < n := by simp at hln; omega
    obtain ⟨ab, ao, u, rfl, _, hx, hc⟩ := Hr.out.getByte hn0
    simp at hx
    subst hx
    have hc0 : w.cell? ⟨ab, ao, none⟩ = some (Value.int .u8 b.toNat) := by simpa using hc
    have hbn : (b.toNat : Int) < 256 := by have := b.toNat_lt; omega
    have hrn : n = r.length + 1 := by simpa using hln.symm
    subst hrn
    clear hln hc
    by_cases h8 : 8 < b.toNat
    · have e : taken (b :: r) = .tuple #[.int .u64 0, .int .i64 0, .int .i64 11] := by simp [taken, takeS, h8]
      have E := Lib.hid e
      clear e
      go_enter Try.func57, Try.ntmps57
      go_wp2
      go_ret3
      exact ⟨by rw [E.out]; rfl, rfl⟩
    · by_cases hs : r.length < b.toNat
      · have e : taken (b :: r) = .tuple #[.int .u64 0, .int .i64 0, .int .i64 10] := by simp [taken, takeS, h8, hs]
        have E := Lib.hid e
        clear e
        go_enter Try.func57, Try.ntmps57
        go_wp2
        go_ret3
        exact ⟨by rw [E.out]; rfl, rfl⟩
      · by_cases h0 : 0 < b.toNat
        · obtain ⟨ab1, ao1, u, e1, _, hx1, hc1⟩ := Hr.out.getByte (k := 1) (by omega)
          simp at e1; obtain ⟨rfl, rfl⟩ := e1
          have hd : r.head? = some u := by rw [List.head?_eq_getElem?]; simpa using hx1
          have Hx1 := Lib.hid hx1
          by_cases hu : u = 0
          · have e : taken (b :: r) = .tuple #[.int .u64 0, .int .i64 0, .int .i64 11] := by simp [taken, takeS, h8, hs, h0, hd, hu]
            have E := Lib.hid e
            clear e hd hx1
            subst hu
            go_enter Try.func57, Try.ntmps57
            go_wp2
            go_ret3
            exact ⟨by rw [E.out]; rfl, rfl⟩
          · have hun : u.toNat ≠ 0 := fun h => hu (UInt8.toNat_inj.1 h)
            have hu0 : 0 < u.toNat := by omega
            have hub : ((u.toNat : Int) == 0) = false := by simp [hun]
            have e : taken (b :: r) = .tuple #[.int .u64 (val (r.take b.toNat)), .int .i64 (1 + (b.toNat : Int)), .int .i64 0] := by simp [taken, takeS, h8, hs, h0, hd, hu, Int.add_comm]
            have E := Lib.hid e
            clear e hd hx1 hu hun
            go_enter Try.func57, Try.ntmps57
            go_wp2
            go_loop [6, 31] (fun v i => ∃ j : Nat, j ≤ b.toNat ∧ i = .int .i64 j ∧ v = .int .u64 (val (r.take j))) (fun _ i => b.toNat - (intOf i).toNat)
            case atStart => exact ⟨0, Nat.zero_le _, rfl, rfl⟩
            case round =>
              obtain ⟨j, hj, rfl, rfl⟩ := hrel
              by_cases hlt : j < b.toNat
              · obtain ⟨ab2, ao2, y, e2, _, hx2, hc2⟩ := Hr.out.getByte (k := 1 + j) (by omega)
                simp at e2
                obtain ⟨rfl, rfl⟩ := e2
                have hyr : r[j]? = some y := by rw [Nat.add_comm] at hx2; simpa using hx2
                have Hy := Lib.hid hyr
                have hv : val (r.take j) < 256 ^ 7 := Nat.lt_of_lt_of_le (val_lt _) (Nat.pow_le_pow_right (by omega) (by have := List.length_take_le j r; omega))
                obtain ⟨q, hq⟩ : ∃ q, q = val (r.take j) := ⟨_, rfl⟩
                rw [← hq] at hv ⊢
                have Hq := Lib.hid hq
                clear hx2 hyr hq
                have hyl := y.toNat_lt
                go_wp2
                refine ⟨⟨j + 1, by omega, by go_num, ?_⟩, by simp [intOf]; omega⟩
                rw [or_byte q y hv, Hq.out, val_take r j y Hy.out]
              · have e3 : j = b.toNat := by omega
                subst e3
                go_wp2
                go_ret3
                exact ⟨by rw [E.out]; rfl, rfl⟩
        · have e : taken (b :: r) = .tuple #[.int .u64 0, .int .i64 1, .int .i64 0] := by simp [taken, takeS, show b.toNat = 0 from by omega, val]
          have E := Lib.hid e
          have hb0 : b.toNat = 0 := by omega
          clear e
          go_enter Try.func57, Try.ntmps57
          go_wp2
          refine wp_loop_rounds 1 ?_
          rw [rounds_succ]
          go_wp2
          go_ret3
          exact ⟨by rw [E.out]; rfl, rfl⟩
end Go.Proofs.Ytgppaompcnllbaa
