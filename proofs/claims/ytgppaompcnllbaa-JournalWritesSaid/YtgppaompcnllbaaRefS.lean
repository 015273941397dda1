/- Layer 4, for the laws: the reference's Head and Sectors, and a disk's sectors as texts. Conditions: none of note. -/
import Derived.Test.YtgppaompcnllbaaWants
import Derived.Test.YtgppaompcnllbaaPad
import Derived.Test.YtgppaompcnllbaaRefNum
import Derived.Test.YtgppaompcnllbaaRefRd
namespace Go.Proofs.Ytgppaompcnllbaa
open Go.RowKit

theorem strOf1 : (⟨#[1]⟩ : ByteArray) = strOf [1] := rfl
theorem strOf0 : (⟨#[0]⟩ : ByteArray) = strOf [0] := rfl
theorem head_text (e k n : Nat) : strOf [1] ++ strOf (num e) ++ strOf (num k) ++ strOf (num n) = strOf (headB e k n) := by
  rw [strOf_app, strOf_app, strOf_app]
  simp [headB]
set_option maxRecDepth 100000 in
theorem refHead_any (w : World) (e k n : Nat) (he : e < 2 ^ 64) (hk : k < 2 ^ 64) (hn : n ≤ 1000000) :
    Calls Try.prog 20 #[.int .u64 e, .int .u64 k, .int .i64 n] w fun en w' => en = .returned (.string (strOf (headS e k n))) ∧ Below w.heap.size w w' := by
  have Hb := Lib.hid (Below.refl w.heap.size w)
  have hB : w.heap.size ≤ w.heap.size := Nat.le_refl _
  have h64 := headB_le he hk (show n < 2 ^ 64 by omega)
  have kP := fun W => pad_any W (headB e k n) (by omega)
  have k1 := fun W => refNum_any e he W
  have k2 := fun W => refNum_any k hk W
  have k3 := fun W => refNum_any n (by omega) W
  have ht := head_text e k n
  have ht1 : (⟨#[1]⟩ : ByteArray) ++ strOf (num e) ++ strOf (num k) ++ strOf (num n) = strOf (headB e k n) := ht
  have hz1 : (strOf (num e)).size ≤ 64 := by rw [strOf_size]; simp [headB] at h64; omega
  have hz2 : (strOf (num k)).size ≤ 64 := by rw [strOf_size]; simp [headB] at h64; omega
  have hz3 : (strOf (num n)).size ≤ 64 := by rw [strOf_size]; simp [headB] at h64; omega
  clear ht he hk h64
  go_enter Try.func20, Try.ntmps20
  go_wp2_with (first
    | ((with_reducible refine (k1 _).mono ?_); rintro en w1 ⟨rfl, hb⟩; obtain ⟨Hb, hB⟩ := chain Hb hB hb; clear hb k1)
    | ((with_reducible refine (k2 _).mono ?_); rintro en w2 ⟨rfl, hb⟩; obtain ⟨Hb, hB⟩ := chain Hb hB hb; clear hb k2)
    | ((with_reducible refine (k3 _).mono ?_); rintro en w3 ⟨rfl, hb⟩; obtain ⟨Hb, hB⟩ := chain Hb hB hb; clear hb k3)
    | ((with_reducible refine (kP _).mono ?_); rintro en w4 ⟨rfl, rfl⟩))
  go_ret
  exact ⟨rfl, Hb.out⟩
set_option maxRecDepth 100000 in
set_option maxHeartbeats 2000000 in
theorem sectors_any {S : Nat → Prop} {w : World} {b : Nat} {s : St} (h : Ds S w b s) (hd : s.dead = false) :
    Calls Try.prog 12 #[.pointer (some ⟨b, 0, none⟩)] w fun e w' => ∃ v, e = .returned v ∧ w'.ownsRow w.heap.size 9 1 v s.now.length (tcs s.now) ∧ Below w.heap.size w w' := by
  have hnl : s.now.length = s.kept.length := by rw [St.now, puts_length]
  have hmost := h.ok.most
  obtain ⟨i0, hi, hz0, hz1, hz2⟩ := info_parts info_str
  have kl := fun W (hb : Below w.heap.size w W) => len_s (h.below hb)
  generalize hN : s.kept.length = N at *
  have HN := Lib.hid hN
  have Hnl := Lib.hid hnl
  clear hN hnl
  go_enter Try.func12, Try.ntmps12
  go_wp2
  go_loopw [3, 4, 5, 6] (fun vo vi va vb wr => ∃ k : Nat, vi = .int .i64 k ∧ k ≤ N ∧ wr.ownsRow w.heap.size 9 1 vo k (tcs (s.now.take k)) ∧ Below w.heap.size w wr) (fun _ vi _ _ _ => N - (intOf vi).toNat)
  case atStart => exact ⟨0, rfl, Nat.zero_le _, World.ownsRow_nil _ _ _ _, Below.refl _ _⟩
  case round =>
    obtain ⟨k, rfl, hk, ho, hb⟩ := hrel
    have Hb := Lib.hid hb
    have hbs := hb.size
    clear hb
    obtain ⟨A3, c3, rfl, _⟩ := Rd.own ho
    by_cases hlt : k < N
    · have hlz : (k : Int) < (N : Int) := by omega
      have hhas : s.has (k : Int) = true := St.has_iff.2 (by rw [HN.out]; omega)
      have kr := fun W (hb : Below w.heap.size w W) => read_s (h.below hb) (k : Int) hhas hd
      have hsl := St.sect_len h.ok hhas
      have hx := St.sect_get hhas
      rw [Int.toNat_natCast] at hx
      have Hx := Lib.hid hx
      have Hsl := Lib.hid hsl
      clear hx hsl
      go_wp2_with (first
        | ((with_reducible refine (kl _ Hb.out).mono ?_); rintro e w1 ⟨rfl, rfl⟩)
        | ((with_reducible refine (kr _ Hb.out).mono ?_); rintro e w2 ⟨v2, rfl, ho2, hb2⟩; obtain ⟨A2, c2, rfl, hr2⟩ := Rd.own ho2; have kcv := hr2.conv (P := Try.prog) 36 9 5 Try.underlying36 Try.underlying5 Try.underlying9; have hown2 := own_below ho hb2; have Hb2 := Lib.hid (Hb.out.trans (hb2.mono hbs)); have hs2 := hb2.size; clear ho2 hr2 hb2)
        | (at_builtin; refine wpList_append_src _ rfl (.tmp 19) (.tmp 22) 33 33 rfl w.heap.size 9 i0 (.string .empty) 1 16 Try.underlying33 hi hz0 hz1 hz2 rfl (by decide) _ _ _ rfl (hown2.alloc _) _ 1 [_] rfl (Src.ofSlice _ Try.underlying33 _ 1 1 _ rfl (cell_one_new _ _ _) (fun u hu => by simp at hu; subst hu; rfl)) (by simp only [maxLen]; omega) (by omega) (by simp; omega) ?_; intro v4 w10 hown hg hat))
      have hsz3 : w.heap.size ≤ w2.heap.size := Nat.le_trans hbs hs2
      refine ⟨⟨k + 1, by simp, by omega, ?_, ?_⟩, by simp [intOf]; omega⟩
      · rw [List.take_add_one, Hx.out, tcs_append]
        exact hown
      · exact (Hb2.out.alloc hsz3 _).grown hg (by simp; omega) fun q e => (hown2.lt q e).1
    · obtain rfl : k = N := by omega
      have hlz : decide (k < k) = false := by simp
      go_wp2_with (first
        | ((with_reducible refine (kl _ Hb.out).mono ?_); rintro e w1 ⟨rfl, rfl⟩))
      go_ret
      refine ⟨_, rfl, ?_, Hb.out⟩
      rw [Hnl.out]
      have : s.now.take k = s.now := List.take_of_length_le (by rw [Hnl.out]; exact Nat.le_refl _)
      rw [← this]
      exact ho
/-- The texts of a record's sectors. -/
def secsOf (e k : Nat) (l : List UInt8) : List (List UInt8) := headS e k l.length :: (List.range (pn l.length)).map (partS l)
theorem secsOf_len (e k : Nat) (l : List UInt8) : (secsOf e k l).length = szN l.length := by simp [secsOf, szN]; omega
theorem secsOf_zero (e k : Nat) (l : List UInt8) : (secsOf e k l)[0]? = some (headS e k l.length) := rfl
theorem secsOf_succ (e k : Nat) (l : List UInt8) {j : Nat} (hj : j < pn l.length) : (secsOf e k l)[j + 1]? = some (partS l j) := by
  simp [secsOf, hj]
theorem part_text (l : List UInt8) (j : Nat) {n : Nat} (hn : n = min (l.length - 63 * j) 63) : (⟨#[0]⟩ : ByteArray) ++ (strOf (l.drop (63 * j))).extract 0 n = strOf (partB l j) := by
  rw [strOf0, strOf_takeE, strOf_app]
  have hx : (l.drop (63 * j)).length = l.length - 63 * j := by simp
  have : (l.drop (63 * j)).take n = (l.drop (63 * j)).take 63 := by
    by_cases h : l.length - 63 * j ≤ 63
    · rw [List.take_of_length_le (by omega), List.take_of_length_le (by omega)]
    · rw [show n = 63 from by omega]
  rw [this]
  rfl
theorem rest_text (l : List UInt8) (j : Nat) {n : Nat} (hn : n = min (l.length - 63 * j) 63) : (strOf (l.drop (63 * j))).extract n (l.length - 63 * j) = strOf (l.drop (63 * (j + 1))) := by
  have hx : (l.drop (63 * j)).length = l.length - 63 * j := by simp
  rw [← hx, strOf_drop, List.drop_drop]
  by_cases h : l.length - 63 * j ≤ 63
  · rw [List.drop_eq_nil_of_le (by omega), List.drop_eq_nil_of_le (by omega)]
  · rw [show 63 * j + n = 63 * (j + 1) from by omega]
set_option maxRecDepth 100000 in
set_option maxHeartbeats 2000000 in
theorem refSectors_any (w : World) (e k : Nat) (l : List UInt8) (he : e < 2 ^ 64) (hk : k < 2 ^ 64) (hl : l.length ≤ 4096) :
    Calls Try.prog 13 #[.int .u64 e, .int .u64 k, .string (strOf l)] w fun en w' => ∃ v, en = .returned v ∧ w'.ownsRow w.heap.size 9 1 v (szN l.length) (tcs (secsOf e k l)) ∧ Below w.heap.size w w' := by
  have Hb := Lib.hid (Below.refl w.heap.size w)
  have hB : w.heap.size ≤ w.heap.size := Nat.le_refl _
  obtain ⟨i0, hi, hz0, hz1, hz2⟩ := info_parts info_str
  have kh := fun W => refHead_any W e k l.length he hk (by omega)
  have hsl : (strOf l).size = l.length := strOf_size l
  go_enter Try.func13, Try.ntmps13
  go_wp2_with (first
    | ((with_reducible refine (kh _).mono ?_); rintro en w1 ⟨rfl, hb⟩; obtain ⟨Hb, hB⟩ := chain Hb hB hb; clear hb kh)
    | (at_builtin; refine wpList_append_src _ rfl (.tmp 9) (.tmp 15) 33 33 rfl w.heap.size 9 i0 (.string .empty) 1 16 Try.underlying33 hi hz0 hz1 hz2 rfl (by decide) _ _ _ rfl (World.ownsRow_nil _ _ _ _) _ 1 [_] rfl (Src.ofSlice _ Try.underlying33 _ 1 1 _ rfl (cell_one_new _ _ _) (fun u hu => by simp at hu; subst hu; rfl)) (by simp only [maxLen]; omega) (by omega) (by simp; omega) ?_; intro v2 w2 hown hg hat))
  have Hb2 := Lib.hid ((Hb.out.alloc hB _).grown hg (by simp; omega) fun q e => (by cases e))
  have hsz2 := hg.size
  have hsz3 : w.heap.size ≤ w2.heap.size := by have : (w1.alloc (.cells #[.string (strOf (headS e k l.length))] 9)).heap.size = w1.heap.size + 1 := by simp
                                               omega
  have hpl := pn_le l.length
  go_loopw [2, 7, 8] (fun vs vo vn wr => ∃ j : Nat, vs = .string (strOf (l.drop (63 * j))) ∧ j ≤ pn l.length ∧ wr.ownsRow w.heap.size 9 1 vo (1 + j) (tcs ((secsOf e k l).take (1 + j))) ∧ Below w.heap.size w wr) (fun vs _ _ _ => strLen' vs)
  case atStart => exact ⟨0, rfl, Nat.zero_le _, by simpa [secsOf, tcs] using hown, Hb2.out⟩
  case round =>
    obtain ⟨j, rfl, hj, ho, hb⟩ := hrel
    replace Hb := Lib.hid hb
    have hbs := hb.size
    clear hb
    obtain ⟨A4, c4, rfl, _⟩ := Rd.own ho
    have hxl : (l.drop (63 * j)).length = l.length - 63 * j := by simp
    have hss : (strOf (l.drop (63 * j))).size = l.length - 63 * j := by rw [strOf_size, hxl]
    by_cases hlt : j < pn l.length
    · have hne : 63 * j < l.length := pn_lt.1 hlt
      have hnb : ((strOf (l.drop (63 * j))).toList == ([] : List UInt8)) = false := by
        rw [strOf_toList, beq_eq_false_iff_ne]
        intro e2
        rw [e2] at hxl
        simp at hxl
        omega
      have kP := fun W => pad_any W (partB l j) (by have := partB_le l j; omega)
      have hst : (secsOf e k l).take (1 + j + 1) = (secsOf e k l).take (1 + j) ++ [partS l j] := by rw [List.take_add_one, show 1 + j = j + 1 from by omega, secsOf_succ _ _ _ hlt]; rfl
      have Hst := Lib.hid hst
      have hx2 : (l.drop (63 * (j + 1))).length = l.length - 63 * (j + 1) := by simp
      by_cases h63 : l.length - 63 * j ≤ 63
      · have hpt := part_text l j (n := l.length - 63 * j) (by omega)
        have hrt := rest_text l j (n := l.length - 63 * j) (by omega)
        have hlz : ((l.length - 63 * j : Nat) : Int) ≤ 63 := by omega
        go_wp2_with (first
          | ((with_reducible refine (kP _).mono ?_); rintro en w4 ⟨rfl, rfl⟩)
          | (at_builtin; refine wpList_append_src _ rfl (.tmp 22) (.tmp 28) 33 33 rfl w.heap.size 9 i0 (.string .empty) 1 16 Try.underlying33 hi hz0 hz1 hz2 rfl (by decide) _ _ _ rfl (ho.alloc _) _ 1 [_] rfl (Src.ofSlice _ Try.underlying33 _ 1 1 _ rfl (cell_one_new _ _ _) (fun u hu => by simp at hu; subst hu; rfl)) (by simp only [maxLen]; omega) (by omega) (by simp; omega) ?_; intro v4 w10 hown4 hg4 hat4))
        refine ⟨⟨j + 1, by first | rfl | (rw [List.drop_eq_nil_of_le (by omega)]; rfl), by omega, ?_, ?_⟩, ?_⟩
        · rw [show 1 + (j + 1) = 1 + j + 1 from by omega, hst, tcs_append]
          exact hown4
        · exact (Hb.out.alloc hbs _).grown hg4 (by simp; omega) fun q e => (ho.lt q e).1
        · simp [strLen', strOf_size]; omega
      · have hpt := part_text l j (n := 63) (by omega)
        have hrt := rest_text l j (n := 63) (by omega)
        have hlz : (63 : Int) < ((l.length - 63 * j : Nat) : Int) := by omega
        go_wp2_with (first
          | ((with_reducible refine (kP _).mono ?_); rintro en w4 ⟨rfl, rfl⟩)
          | (at_builtin; refine wpList_append_src _ rfl (.tmp 22) (.tmp 28) 33 33 rfl w.heap.size 9 i0 (.string .empty) 1 16 Try.underlying33 hi hz0 hz1 hz2 rfl (by decide) _ _ _ rfl (ho.alloc _) _ 1 [_] rfl (Src.ofSlice _ Try.underlying33 _ 1 1 _ rfl (cell_one_new _ _ _) (fun u hu => by simp at hu; subst hu; rfl)) (by simp only [maxLen]; omega) (by omega) (by simp; omega) ?_; intro v4 w10 hown4 hg4 hat4))
        refine ⟨⟨j + 1, by first | rfl | (rw [List.drop_eq_nil_of_le (by omega)]; rfl), by omega, ?_, ?_⟩, ?_⟩
        · rw [show 1 + (j + 1) = 1 + j + 1 from by omega, hst, tcs_append]
          exact hown4
        · exact (Hb.out.alloc hbs _).grown hg4 (by simp; omega) fun q e => (ho.lt q e).1
        · simp [strLen', strOf_size]; omega
    · obtain rfl : j = pn l.length := by omega
      have hxe : l.drop (63 * pn l.length) = [] := List.drop_eq_nil_of_le (by have := @pn_lt l.length (pn l.length); omega)
      have htk : (secsOf e k l).take (1 + pn l.length) = secsOf e k l := List.take_of_length_le (by rw [secsOf_len, szN]; exact Nat.le_refl _)
      rw [htk] at ho
      have hnb : ((strOf (l.drop (63 * pn l.length))).toList == ([] : List UInt8)) = true := by rw [strOf_toList, hxe]; rfl
      clear hxe htk hss
      go_wp2
      go_ret
      exact ⟨_, rfl, ho, Hb.out⟩
end Go.Proofs.Ytgppaompcnllbaa
