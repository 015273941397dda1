/- The contracts of fields.addTexts, Texts and Lists: the bytes of any texts, one behind the other, in a row of the call's own. -/
import Derived.Test.YtoddmaiplinkaaaPut
namespace Go.Proofs.Ytoddmaiplinkaaa
open Go.RowKit

/-- A text's bytes. -/
def text (s : ByteArray) : List UInt8 := num s.size ++ s.data.toList
/-- Texts' bytes, one behind the other. -/
def texts (ss : List ByteArray) : List UInt8 := ss.flatMap text
theorem size_eq (s : ByteArray) : s.data.toList.length = s.size := by rw [Array.length_toList]; rfl
theorem text_length (s : ByteArray) : (text s).length = nb s.size + 1 + s.size := by simp [text, num_length]
theorem texts_snoc (ss : List ByteArray) (k : Nat) (s : ByteArray) (h : ss[k]? = some s) : texts (ss.take (k + 1)) = texts (ss.take k) ++ text s := by
  obtain ⟨hl, hx⟩ := List.getElem?_eq_some_iff.1 h
  rw [texts, List.take_succ_eq_append_getElem hl, List.flatMap_append, hx]; simp [texts]
theorem texts_take_le (ss : List ByteArray) (k : Nat) : (texts (ss.take k)).length ≤ (texts ss).length := by
  have : texts ss = texts (ss.take k) ++ texts (ss.drop k) := by rw [texts, texts, texts, ← List.flatMap_append, List.take_append_drop]
  rw [this, List.length_append]; omega
/-- Element k of a slice that reads as texts. -/
theorem Rd.getStr {w : World} {B n c : Nat} {A : Option Addr} {ss : List ByteArray} (h : Rd w B 1 A n c (ss.map Value.string)) {k : Nat} (hk : k < n) :
    ∃ b o s, A = some ⟨b, o, none⟩ ∧ b < B ∧ ss[k]? = some s ∧ w.cell? ⟨b, o + k, none⟩ = some (.string s) := by
  obtain ⟨b, o, v, e, hb, hx, hc⟩ := h.get hk
  rw [List.getElem?_map] at hx
  cases hu : ss[k]? with
  | none => rw [hu] at hx; cases hx
  | some u => rw [hu] at hx; simp at hx; subst hx; exact ⟨b, o, u, e, hb, rfl, hc⟩
theorem byteCells_bv (s : ByteArray) : byteCells s = bv s.data.toList := rfl

set_option maxRecDepth 100000 in
set_option maxHeartbeats 400000 in
theorem addTexts_any (B : Nat) (v : Value) (m : Nat) (xs : List Value) (A : Option Addr) (n c : Nat) (ss : List ByteArray) (w : World) (hown : w.ownsRow B 5 1 v m xs) (hB : B ≤ w.heap.size)
    (hr : Rd w B 1 A n c (ss.map Value.string)) (hm : m + (texts ss).length ≤ 100000000000) :
    Calls Try.prog 28 #[v, .slice A n c] w fun e w' => ∃ v', e = .returned v' ∧ w'.ownsRow B 5 1 v' (m + (texts ss).length) (xs ++ bv (texts ss)) ∧ Below B w w' := by
  obtain ⟨i0, hi, hz0, hz1, hz2⟩ := info_parts info_u8
  have Hr := Lib.hid hr
  have Hown := Lib.hid hown
  have hn63 : n ≤ 9223372036854775807 := by have := hr.capm; have := hr.cap; unfold maxLen at *; omega
  clear hr hown
  go_enter Try.func28, Try.ntmps28
  go_wp2
  go_loopw [0, 9] (fun u i wr => ∃ k : Nat, k ≤ n ∧ i = .int .i64 k ∧ wr.ownsRow B 5 1 u (m + (texts (ss.take k)).length) (xs ++ bv (texts (ss.take k))) ∧ Below B w wr) (fun _ i _ => n - (intOf i).toNat)
  case atStart => exact ⟨0, Nat.zero_le _, rfl, by simpa [texts, bv] using Hown.out, Below.refl _ _⟩
  case round =>
    obtain ⟨k, hk, rfl, hownk, hb⟩ := hrel
    have Ho := Lib.hid hownk
    have Hb := Lib.hid hb
    have hbs := hb.size
    clear hownk hb
    by_cases hlt : k < n
    · obtain ⟨b, o, s, rfl, _, hx, hc⟩ := (Hr.out.below Hb.out).getStr hlt
      have Hx := Lib.hid hx
      have hle : m + (texts (ss.take (k + 1))).length ≤ 100000000000 := by have := texts_take_le ss (k + 1); omega
      have hsn := texts_snoc ss k s hx
      rw [hsn, List.length_append, text_length] at hle
      have Hsn := Lib.hid hsn
      clear hx hsn
      obtain ⟨q, hq⟩ : ∃ q, q = (texts (ss.take k)).length := ⟨_, rfl⟩
      rw [← hq] at hle
      have Hq := Lib.hid hq
      clear hq
      have hs1 : s.size ≤ 100000000000 := by omega
      go_wp2_with fail
      refine (addNumber_any B _ _ _ s.size (by omega) (by omega) wr Ho.out (by omega) (by have := Hq.out; omega)).mono ?_
      rintro e w1 ⟨v1, rfl, hown1, hb1⟩
      have hbs1 := hb1.size
      go_wp2_with (at_builtin; go_must (refine wpList_append_src _ rfl (.tmp 18) (.tmp 19) 24 9 rfl B 5 i0 (.int .u8 0) 1 1 Try.underlying24 hi hz0 hz1 hz2 rfl (by decide) v1 _ _ rfl hown1 _ s.size (byteCells s) rfl (Src.ofString _ Try.underlying9 s) (by have := Hq.out; simp only [maxLen, Int.toNat_natCast]; omega) (by have := Hq.out; simp only [Int.toNat_natCast]; omega) (by omega) ?_); intro v2 w2 hown2 hg2 hat2)
      have hb2 : Below B w w2 := below_of_own (Hb.out.trans hb1) hg2 hown1 (by omega) (Nat.le_refl _)
      refine ⟨⟨k + 1, by omega, by go_num, ?_, hb2⟩, by simp [intOf]; omega⟩
      have e1 : xs ++ bv (texts (ss.take (k + 1))) = xs ++ bv (texts (ss.take k)) ++ bv (num s.size) ++ byteCells s := by
        rw [Hsn.out, byteCells_bv]; simp [bv_append, text, List.append_assoc]
      have e2 : m + (texts (ss.take (k + 1))).length = m + (texts (ss.take k)).length + (nb s.size + 1) + s.size := by
        rw [Hsn.out, List.length_append, text_length]; omega
      rw [e1, e2]
      exact hown2
    · have e : k = n := by omega
      subst e
      go_wp2
      go_ret
      have h := Ho.out
      rw [List.take_of_length_le (by have := Hr.out.len; simp at this; omega)] at h
      exact ⟨_, rfl, h, Hb.out⟩

set_option maxRecDepth 100000 in
set_option maxHeartbeats 400000 in
theorem texts_any (A : Option Addr) (n c : Nat) (ss : List ByteArray) (w : World) (hr : Rd w w.heap.size 1 A n c (ss.map Value.string)) (hm : (texts ss).length ≤ 100000000000) :
    Calls Try.prog 13 #[.slice A n c] w fun e w' => ∃ v', e = .returned v' ∧ w'.ownsRow w.heap.size 5 1 v' (texts ss).length (bv (texts ss)) ∧ Below w.heap.size w w' := by
  have Hr := Lib.hid hr
  clear hr
  go_enter Try.func13, Try.ntmps13
  go_wp2_with fail
  refine (addTexts_any w.heap.size _ 0 [] A n c ss w (World.ownsRow_nil _ _ _ _) (Nat.le_refl _) Hr.out (by omega)).mono ?_
  rintro e w1 ⟨v1, rfl, hown1, hb1⟩
  rw [Nat.zero_add, List.nil_append] at hown1
  go_wp2
  go_ret
  exact ⟨_, rfl, hown1, hb1⟩

set_option maxRecDepth 100000 in
set_option maxHeartbeats 400000 in
theorem lists_any (A : Option Addr) (n c : Nat) (ss : List ByteArray) (w : World) (hr : Rd w w.heap.size 1 A n c (ss.map Value.string)) (hm : (texts ss).length ≤ 10000000000) (hn : n ≤ 10000000000) :
    Calls Try.prog 15 #[.slice A n c] w fun e w' => ∃ v', e = .returned v' ∧ w'.ownsRow w.heap.size 5 1 v' (num n ++ texts ss).length (bv (num n ++ texts ss)) ∧ Below w.heap.size w w' := by
  have Hr := Lib.hid hr
  clear hr
  go_enter Try.func15, Try.ntmps15
  have hn63 : n ≤ 9223372036854775807 := by omega
  go_wp2_with fail
  refine (put_any _ 1 1 [(n : Int)] _ (by simpa using Rd.lit w #[.int .u64 n] _ 1 1 rfl (by simp [maxLen])) (fun u hu => by simp at hu; subst hu; omega) (by omega)).mono ?_
  rintro e w1 ⟨v1, rfl, hown1, hb1⟩
  have e1 : nums [(n : Int)] = num n := by simp [nums]
  rw [e1] at hown1
  simp only [World.size_alloc] at hown1 hb1
  have H1 := Lib.hid hown1
  have hbs1 := hb1.size
  simp only [World.size_alloc] at hbs1
  have Hb1 := Lib.hid hb1
  clear hown1 e1 hb1
  go_wp2_with fail
  refine (addTexts_any (w.heap.size + 1) _ _ _ A n c ss w1 H1.out hbs1 (((Hr.out.alloc (Nat.le_refl _) _).more (Nat.le_succ _)).below Hb1.out) (by have := nb_le8 (n := n) (by omega); rw [num_length]; omega)).mono ?_
  rintro e w2 ⟨v2, rfl, hown2, hb2⟩
  go_wp2
  go_ret
  refine ⟨_, rfl, ?_, ((Below.refl _ _).alloc (Nat.le_refl _) _).trans ((Hb1.out.trans hb2).mono (by omega))⟩
  rw [bv_append, List.length_append]
  exact own_base hown2 (by omega)
end Go.Proofs.Ytoddmaiplinkaaa
