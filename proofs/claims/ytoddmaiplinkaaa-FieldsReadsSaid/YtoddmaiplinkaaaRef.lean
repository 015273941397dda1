/- The contracts of the document's own answers for layer 1 (numbers and texts as strings). -/
import Derived.Test.YtoddmaiplinkaaaTexts
import Derived.Test.YtoddmaiplinkaaaTake
namespace Go.Proofs.Ytoddmaiplinkaaa
open Go.RowKit

set_option maxRecDepth 100000 in
set_option maxHeartbeats 400000 in
theorem refNum_any (x : Nat) (hx : x < 2 ^ 64) (w : World) :
    Calls Try.prog 9 #[.int .u64 x] w fun e w' => e = .returned (.string (strOf (num x))) ∧ Below w.heap.size w w' := by
  have Hx := Lib.hid hx
  clear hx
  have hcv := conv_one (P := Try.prog) 24 9 5 Try.underlying24 Try.underlying5 Try.underlying9
  go_enter Try.func9, Try.ntmps9
  go_wp2
  go_loopw [3, 4] (fun t i wr => ∃ (y : Nat) (s : ByteArray), i = .int .u64 y ∧ y ≤ x ∧ t = .string s ∧ be y ++ s.data.toList = be x ∧ Below w.heap.size w wr) (fun _ i _ => (intOf i).toNat)
  case atStart => exact ⟨x, _, rfl, Nat.le_refl _, rfl, by simp, Below.refl _ _⟩
  case round =>
    obtain ⟨y, s, rfl, hyx, rfl, hs, hb⟩ := hrel
    have hs8 : s.size ≤ 8 := by
      have h1 := congrArg List.length hs
      have h2 := nb_le8 Hx.out
      rw [List.length_append, be_length, be_length, size_eq] at h1
      omega
    have Hs := Lib.hid hs
    have Hb := Lib.hid hb
    clear hs hb
    by_cases hlt : 0 < y
    · go_wp2
      have e1 : IntKind.u64.wrap ((y : Int) / 256) = ((y / 256 : Nat) : Int) := by have := Hx.out; rw [IntKind.wrap_u64]; omega
      refine ⟨⟨y / 256, _, by rw [e1], by omega, rfl, ?_, Hb.out.alloc Hb.out.size _⟩, by rw [e1]; simp [intOf]; omega⟩
      rw [← Hs.out, be_pos hlt]
      simp
    · have e : y = 0 := by omega
      subst e
      go_wp2
      go_ret
      refine ⟨?_, Hb.out.alloc Hb.out.size _⟩
      have h := Hs.out
      rw [be_zero, List.nil_append] at h
      have e2 : s.size = nb x := by rw [← be_length, ← h, size_eq]
      have e3 : strOf (num x) = { data := #[UInt8.ofNat s.size] } ++ s := by
        rw [num, ← h, e2]; apply ByteArray.ext; simp [strOf]
      rw [e3]
      rfl

theorem strOf_append (a b : List UInt8) : strOf a ++ strOf b = strOf (a ++ b) := by apply ByteArray.ext; simp [strOf]

set_option maxRecDepth 100000 in
set_option maxHeartbeats 400000 in
theorem refText_any (s : ByteArray) (hs : s.size ≤ 100000000000) (w : World) :
    Calls Try.prog 29 #[.string s] w fun e w' => e = .returned (.string (strOf (text s))) ∧ Below w.heap.size w w' := by
  go_enter Try.func29, Try.ntmps29
  go_wp2_with fail
  refine (refNum_any s.size (by omega) _).mono ?_
  rintro e w1 ⟨rfl, hb⟩
  have h9 := nb_le8 (n := s.size) (by omega)
  have hz : (strOf (num s.size)).size ≤ 9 := by rw [strOf_size, num_length]; omega
  go_wp2
  go_ret
  refine ⟨?_, hb⟩
  have e : strOf (text s) = strOf (num s.size) ++ s := by rw [text, ← strOf_append, strOf_of]
  rw [e]
  rfl

set_option maxRecDepth 100000 in
set_option maxHeartbeats 400000 in
theorem refTexts_any (A : Option Addr) (n c : Nat) (ss : List ByteArray) (w : World) (hr : Rd w w.heap.size 1 A n c (ss.map Value.string)) (hm : (texts ss).length ≤ 100000000000) :
    Calls Try.prog 14 #[.slice A n c] w fun e w' => e = .returned (.string (strOf (texts ss))) ∧ Below w.heap.size w w' := by
  have Hr := Lib.hid hr
  have hn63 : n ≤ 9223372036854775807 := by have := hr.capm; have := hr.cap; unfold maxLen at *; omega
  clear hr
  go_enter Try.func14, Try.ntmps14
  go_wp2
  go_loopw [3, 4] (fun t i wr => ∃ k : Nat, k ≤ n ∧ i = .int .i64 k ∧ t = .string (strOf (texts (ss.take k))) ∧ Below w.heap.size w wr) (fun _ i _ => n - (intOf i).toNat)
  case atStart => exact ⟨0, Nat.zero_le _, rfl, by simp [texts, strOf], Below.refl _ _⟩
  case round =>
    obtain ⟨k, hk, rfl, rfl, hb⟩ := hrel
    have Hb := Lib.hid hb
    clear hb
    by_cases hlt : k < n
    · obtain ⟨b, o, s, rfl, _, hx, hc⟩ := (Hr.out.below Hb.out).getStr hlt
      have hle : (texts (ss.take (k + 1))).length ≤ 100000000000 := by have := texts_take_le ss (k + 1); omega
      have hsn := texts_snoc ss k s hx
      rw [hsn, List.length_append, text_length] at hle
      have Hsn := Lib.hid hsn
      clear hx hsn
      have hz1 : (strOf (texts (ss.take k))).size ≤ 100000000000 := by rw [strOf_size]; omega
      have hz2 : (strOf (text s)).size ≤ 100000000000 := by rw [strOf_size, text_length]; omega
      have hs1 : s.size ≤ 100000000000 := by omega
      clear hle
      go_wp2_with fail
      refine (refText_any s hs1 _).mono ?_
      rintro e w1 ⟨rfl, hb1⟩
      go_wp2
      refine ⟨⟨k + 1, by omega, by go_num, ?_, Hb.out.trans (hb1.mono Hb.out.size)⟩, by simp [intOf]; omega⟩
      rw [Hsn.out, ← strOf_append]
    · have e : k = n := by omega
      subst e
      have hl : ss.take k = ss := List.take_of_length_le (by have := Hr.out.len; simp at this; omega)
      rw [hl]
      go_wp2
      go_ret
      exact ⟨rfl, Hb.out⟩

set_option maxRecDepth 100000 in
set_option maxHeartbeats 400000 in
theorem refList_any (A : Option Addr) (n c : Nat) (ss : List ByteArray) (w : World) (hr : Rd w w.heap.size 1 A n c (ss.map Value.string)) (hm : (texts ss).length ≤ 10000000000) (hn : n ≤ 10000000000) :
    Calls Try.prog 16 #[.slice A n c] w fun e w' => e = .returned (.string (strOf (num n ++ texts ss))) ∧ Below w.heap.size w w' := by
  have Hr := Lib.hid hr
  clear hr
  go_enter Try.func16, Try.ntmps16
  go_wp2_with fail
  refine (refNum_any n (by omega) _).mono ?_
  rintro e w1 ⟨rfl, hb⟩
  have Hb := Lib.hid hb
  clear hb
  go_wp2_with fail
  refine (refTexts_any A n c ss w1 ((Hr.out.below Hb.out).more Hb.out.size) (by omega)).mono ?_
  rintro e w2 ⟨rfl, hb2⟩
  have h9 := nb_le8 (n := n) (by omega)
  have hz : (strOf (num n)).size ≤ 9 := by rw [strOf_size, num_length]; omega
  have hz2 : (strOf (texts ss)).size ≤ 100000000000 := by rw [strOf_size]; omega
  go_wp2
  go_ret
  refine ⟨?_, Hb.out.trans (hb2.mono Hb.out.size)⟩
  rw [← strOf_append]
  rfl
end Go.Proofs.Ytoddmaiplinkaaa
