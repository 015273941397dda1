/- The document's examples of layer 1 hold: awake answers true. -/
import Derived.Test.YtoddmaiplinkaaaTexts
import Derived.Test.YtoddmaiplinkaaaRlist
import Derived.Test.YtoddmaiplinkaaaOpen
namespace Go.Proofs.Ytoddmaiplinkaaa
open Go.RowKit

theorem awake_t1 : taken [2, 1, 44, 9] = .tuple #[.int .u64 300, .int .i64 3, .int .i64 0] := by rfl
theorem awake_t2 : taken [1, 0] = .tuple #[.int .u64 0, .int .i64 0, .int .i64 11] := by rfl
theorem num_300 : num 300 = [2, 1, 44] := by simp [num, nb_pos, be_pos, nb_zero, be_zero]
theorem num_0 : num 0 = [0] := by simp [num, nb_zero, be_zero]
theorem num_2 : num 2 = [1, 2] := by simp [num, nb_pos, be_pos, nb_zero, be_zero]
def sAb : ByteArray := ⟨#[97, 98]⟩
def sNo : ByteArray := ⟨#[]⟩
theorem texts_ab : texts [sAb, sNo] = [1, 2, 97, 98, 0] := by
  simp only [texts, text, List.flatMap_cons, List.flatMap_nil, show sAb.size = 2 from rfl, show sNo.size = 0 from rfl, num_2, num_0]; rfl
theorem texts_a : texts [sAb] = [1, 2, 97, 98] := by
  simp only [texts, text, List.flatMap_cons, List.flatMap_nil, show sAb.size = 2 from rfl, num_2]; rfl
theorem nums_300 : nums [300, 0] = [2, 1, 44, 0] := by
  simp only [nums, List.flatMap_cons, List.flatMap_nil, show (300 : Int).toNat = 300 from rfl, show (0 : Int).toNat = 0 from rfl, num_300, num_0]; rfl
theorem list_ab : num 2 ++ texts [sAb, sNo] = [1, 2, 1, 2, 97, 98, 0] := by rw [num_2, texts_ab]; rfl
theorem awake_l : rlist ([1, 2, 1, 2, 97, 98, 0, 7], 0) 5 = ([[97, 98], []], ([7], 0)) := by decide +kernel
theorem Rd.litB (w : World) (cs : Array Value) (t : TypeId) (l : List UInt8) (h : cs.toList = bv l) (hn : l.length ≤ maxLen) : Rd (w.alloc (.cells cs t)) (w.heap.size + 1) 1 (some ⟨w.heap.size, 0, none⟩) l.length l.length (bv l) := by
  have := Rd.lit w cs t l.length 1 (by rw [← Array.length_toList, h, bv_length, Nat.mul_one]) hn
  rwa [h] at this

set_option maxRecDepth 100000 in
set_option maxHeartbeats 400000 in
theorem awake_any (w : World) : Calls Try.prog 8 #[] w fun e w' => e = .returned (.bool true) ∧ Below w.heap.size w w' := by
  obtain ⟨i0, hi, hz0, hz1, hz2⟩ := info_parts info_u8
  go_enter Try.func8, Try.ntmps8
  go_wp2_with fail
  refine (take_any _ _ 4 4 [2, 1, 44, 9] _ (Rd.litB w #[.int .u8 2, .int .u8 1, .int .u8 44, .int .u8 9] 5 [2, 1, 44, 9] rfl (by simp [maxLen]))).mono ?_
  rintro e w' ⟨rfl, rfl⟩
  rw [awake_t1]
  have hb1 : Below w.heap.size w (w.alloc (.cells #[.int .u8 2, .int .u8 1, .int .u8 44, .int .u8 9] 5)) := (Below.refl _ _).alloc (Nat.le_refl _) _
  generalize World.alloc w _ = w1 at hb1 ⊢
  have Hb1 := Lib.hid hb1
  have hs1 := hb1.size
  clear hb1
  go_wp2_with fail
  refine (take_any _ _ 2 2 [1, 0] _ (Rd.litB w1 #[.int .u8 1, .int .u8 0] 5 [1, 0] rfl (by simp [maxLen]))).mono ?_
  rintro e w' ⟨rfl, rfl⟩
  rw [awake_t2]
  have hb2 : Below w.heap.size w (w1.alloc (.cells #[.int .u8 1, .int .u8 0] 5)) := Hb1.out.alloc hs1 _
  generalize World.alloc w1 _ = w2 at hb2 ⊢
  have Hb2 := Lib.hid hb2
  have hs2 := hb2.size
  clear hb2
  go_wp2_with fail
  have hl1 : (texts [sAb, sNo]).length ≤ 10000000000 := by rw [texts_ab]; decide
  have hr1 : Rd (w2.alloc (.cells #[.string ⟨#[97, 98]⟩, .string ⟨#[]⟩] 9)) (w2.heap.size + 1) 1 (some ⟨w2.heap.size, 0, none⟩) 2 2 ([sAb, sNo].map Value.string) := Rd.lit w2 #[.string sAb, .string sNo] _ 2 1 rfl (by simp [maxLen])
  refine (lists_any _ 2 2 [sAb, sNo] _ (by simpa using hr1) hl1 (by omega)).mono ?_
  rintro e w3 ⟨v3, rfl, hown3, hb3⟩
  rw [list_ab] at hown3
  have hb3' : Below w.heap.size w w3 := (Hb2.out.alloc hs2 _).trans (hb3.mono (by simp; omega))
  have Ho3 := Lib.hid (own_base hown3 (show w.heap.size ≤ _ by simp; omega))
  have Hb3 := Lib.hid hb3'
  have hs3 := hb3'.size
  clear hown3 hb3 hb3' hr1 hl1
  go_wp2_with (at_builtin; go_must (refine wpList_append_src _ rfl (.tmp 22) (.tmp 23) 24 24 rfl w.heap.size 5 i0 (.int .u8 0) 1 1 Try.underlying24 hi hz0 hz1 hz2 rfl (by decide) v3 _ _ rfl (Ho3.out.alloc _) _ 1 [.int .u8 7] rfl (Src.ofSlice _ Try.underlying24 _ 1 1 _ rfl (cell_one_new _ _ _) (fun u hu => by simp at hu; subst hu; rfl)) (by simp [maxLen]) (by simp) (by simp; omega) ?_); intro v4 w4 hown4 hg4 hat4; obtain ⟨A4, c4, rfl, hr4⟩ := Rd.own hown4)
  have hb4 : Below w.heap.size w w4 := below_of_own (Hb3.out.alloc hs3 _) hg4 (Ho3.out.alloc _) (by simp; omega) (Nat.le_refl _)
  have hs4 := hb4.size
  have Hb4 := Lib.hid hb4
  clear hg4 hat4 hown4 hb4
  refine (open_any A4 _ c4 [1, 2, 1, 2, 97, 98, 0, 7] w4 hr4 (by simp)).mono ?_
  rintro e w5 ⟨g, rfl, hg5, hr5, hb5⟩
  have Hb5 := Lib.hid (Hb4.out.trans (hb5.mono hs4))
  have hs5 := Hb5.out.size
  clear hr4 hb5
  go_wp2_with fail
  refine (list_any g _ 5 (by omega) (by omega) w5 hr5).mono ?_
  rintro e w6 ⟨v6, rfl, hown6, hr6, hg6⟩
  rw [show (5 : Int).toNat = 5 from rfl, awake_l] at hown6 hr6
  obtain ⟨A6, c6, rfl, hl6⟩ := Rd.own hown6
  have hb6 : Below w.heap.size w w6 := Hb5.out.grown hg6 hs5 fun k hk => by simp at hk; omega
  have hs6 := hb6.size
  have Hb6 := Lib.hid hb6
  have Hr6 := Lib.hid hr6
  have Hl6 := Lib.hid hl6
  clear hown6 hr6 hl6 hg6 hb6 hr5
  go_wp2_with fail
  refine (put_any _ 2 2 [300, 0] _ (Rd.litX w6 #[.int .u64 300, .int .u64 0] 27 2 1 _ rfl rfl (by simp [maxLen])) (fun u hu => by simp at hu; omega) (by omega)).mono ?_
  rintro e w7 ⟨v7, rfl, hown7, hb7⟩
  rw [nums_300] at hown7
  have hb7' : Below w.heap.size w w7 := (Hb6.out.alloc hs6 _).trans (hb7.mono (by simp; omega))
  have hw67 : Below w6.heap.size w6 w7 := ((Below.refl _ _).alloc (Nat.le_refl _) _).trans (hb7.mono (by simp))
  obtain ⟨A7, c7, rfl, hr7⟩ := Rd.own hown7
  have hcv7 : (convert 24 9 (.slice A7 4 c7)).run Try.prog w7 = .ok (.string (strOf [2, 1, 44, 0])) w7 := hr7.conv (P := Try.prog) 24 9 5 Try.underlying24 Try.underlying5 Try.underlying9
  have Hl7 := Lib.hid (Hl6.out.below hw67)
  have Hr7 := Lib.hid (Hr6.out.below hw67 Hr6.out.lt)
  have hs7 := hb7'.size
  have Hb7 := Lib.hid hb7'
  have htl := strOf_toList
  obtain ⟨b7, o7, u7, hA, _, hx7, hc7⟩ := Hl7.out.get (k := 0) (by simp)
  simp [tv] at hx7
  subst hx7
  subst hA
  rw [Nat.add_zero] at hc7
  have hsw := hw67.size
  clear hown7 hb7 hb7' hw67 hr7
  go_wp2_with fail
  refine (left_any g _ _ Hr7.out).mono ?_
  rintro e w' ⟨rfl, rfl⟩
  go_wp2_with fail
  refine (end_any g _ _ Hr7.out).mono ?_
  rintro e w' ⟨rfl, rfl⟩
  rw [show rend ([7], 0) = 12 from rfl]
  go_wp2_with fail
  refine (texts_any _ 1 1 [sAb] _ (Rd.litX w7 #[.string ⟨#[97, 98]⟩] 9 1 1 _ rfl rfl (by simp [maxLen])) (by rw [texts_a]; decide)).mono ?_
  rintro e w8 ⟨v8, rfl, hown8, hb8⟩
  rw [texts_a] at hown8
  obtain ⟨A8, c8, rfl, hr8⟩ := Rd.own hown8
  have hcv8 : (convert 24 9 (.slice A8 4 c8)).run Try.prog w8 = .ok (.string (strOf [1, 2, 97, 98])) w8 := hr8.conv (P := Try.prog) 24 9 5 Try.underlying24 Try.underlying5 Try.underlying9
  have hb8' : Below w.heap.size w w8 := (Hb7.out.alloc hs7 _).trans (hb8.mono (by simp; omega))
  have Hb8 := Lib.hid hb8'
  clear hown8 hr8 hb8 hb8'
  go_wp2
  go_ret
  exact ⟨rfl, Hb8.out⟩
end Go.Proofs.Ytoddmaiplinkaaa
