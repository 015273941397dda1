/- Layer 13, the document's side: Has, Without. Conditions: none. -/
import Derived.Test.YtampggkjlpbbmaaOfS13
namespace Go.Proofs.Ytampggkjlpbbmaa
open Go.RowKit

set_option maxRecDepth 100000 in
set_option maxHeartbeats 1000000 in
theorem rhas_any {w : World} {A : Option Addr} {n c B : Nat} {s : List ByteArray} (h : Rd w B 1 A n c (ks s)) (hn : n = s.length) (hl : n ≤ 1000000) (k : ByteArray) :
    Calls Try.prog 16 #[.slice A n c, .string k] w fun e w' => e = .returned (.bool (hasK s k)) ∧ ∃ q, w' = w.drewN q := by
  subst hn
  obtain ⟨R, hR⟩ : ∃ R, hasK s k = R := ⟨_, rfl⟩
  rw [hR]
  replace hR := Lib.hid hR
  go_enter Try.func16, Try.ntmps16
  go_wp2_with fail
  go_loopw [5] (fun vi wx => ∃ i q : Nat, vi = .int .i64 i ∧ i ≤ s.length ∧ Hid (wx = w.drewN q) ∧ Hid (hasK (s.take i) k = false)) (fun vi _ => s.length - (intOf vi).toNat)
  case atStart => exact ⟨0, 0, rfl, Nat.zero_le _, Lib.hid rfl, Lib.hid rfl⟩
  case round =>
    obtain ⟨i, q, rfl, hi, hw, ha⟩ := hrel
    by_cases hil : i < s.length
    · have di : (i : Int) < (s.length : Int) := by omega
      obtain ⟨a, hx⟩ : ∃ a, s[i]? = some a := ⟨_, List.getElem?_eq_getElem hil⟩
      obtain ⟨b1, o1, rfl, _, g1⟩ := rd_key h hx
      have e1 : wr.cell? ⟨b1, o1 + i, none⟩ = some (.string a) := by rw [hw.out]; exact g1
      have hsn := hasK_snoc k hx
      rw [ha.out, Bool.false_or] at hsn
      cases hd : (a.toList == k.toList) <;> rw [hd] at hsn
      · replace hsn := Lib.hid hsn
        clear hx ha g1
        go_wp2_with fail
        exact ⟨⟨i + 1, q, by go_num, by omega, hw, hsn⟩, by simp [intOf]; omega⟩
      · have hR2 : R = true := by
          rw [← hR.out]
          exact hasK_iff.2 (List.mem_of_mem_take (hasK_iff.1 hsn))
        subst hR2
        clear hx ha g1 hsn
        go_wp2_with fail
        go_ret
        exact ⟨rfl, q, hw.out⟩
    · obtain rfl : i = s.length := by omega
      have di : ¬ (((s.length : Nat) : Int) < (s.length : Int)) := by omega
      have hR2 : R = false := by
        rw [← hR.out]
        have := ha.out
        rwa [List.take_length] at this
      subst hR2
      clear ha
      go_wp2_with fail
      go_ret
      exact ⟨rfl, q, hw.out⟩

set_option maxRecDepth 100000 in
set_option maxHeartbeats 1000000 in
theorem rout_any {w : World} {A : Option Addr} {c : Nat} {s : List ByteArray} (h : Rd w w.heap.size 1 A s.length c (ks s)) (hl : s.length ≤ 1000000) (k : ByteArray) :
    Calls Try.prog 24 #[.slice A s.length c, .string k] w fun e w' => ∃ A' c', e = .returned (.slice A' (outS s k).length c') ∧ Rd w' w'.heap.size 1 A' (outS s k).length c' (ks (outS s k)) ∧ Below w.heap.size w w' := by
  obtain ⟨i0, hi0, hz0, hz1, hz2⟩ := info_parts info_string
  go_enter Try.func24, Try.ntmps24
  go_wp2_with fail
  go_loopw [5, 6] (fun vm vi wx => ∃ (i : Nat) (m : List ByteArray), vi = .int .i64 i ∧ i ≤ s.length ∧ Hid (m = outS (s.take i) k) ∧ wx.ownsRow w.heap.size 9 1 vm m.length (ks m) ∧ Below w.heap.size w wx) (fun _ vi _ => s.length - (intOf vi).toNat)
  case atStart => exact ⟨0, [], rfl, Nat.zero_le _, Lib.hid rfl, World.ownsRow_nil _ _ _ _, Below.refl _ _⟩
  case round =>
    obtain ⟨i, m, rfl, hi, hm, hO, hb⟩ := hrel
    have hws := hb.size
    have hml : m.length ≤ s.length := by
      have := outS_len (s.take i) k
      rw [← hm.out, List.length_take] at this
      omega
    by_cases hil : i < s.length
    · have di : (i : Int) < (s.length : Int) := by omega
      obtain ⟨a, hx⟩ : ∃ a, s[i]? = some a := ⟨_, List.getElem?_eq_getElem hil⟩
      obtain ⟨b1, o1, rfl, _, g1⟩ := rd_key (h.below hb) hx
      have hsn : outS (s.take (i + 1)) k = outS (s.take i) k ++ (if a = k then [] else [a]) := by
        unfold outS
        rw [List.take_add_one, hx, Option.toList_some, List.filter_append]
        by_cases e : a = k <;> simp [e]
      obtain ⟨A4, c4, rfl, _⟩ := Rd.own hO
      by_cases e : a = k
      · have hm2 : Hid (m = outS (s.take (i + 1)) k) := Lib.hid (by rw [hsn, if_pos e, List.append_nil, hm.out])
        have hd : (a.toList == k.toList) = true := by rw [tl_eq, decide_eq_true e]
        clear hx hsn e hm
        go_wp2_with fail
        exact ⟨⟨i + 1, m, by go_num, by omega, hm2, hO, hb⟩, by simp [intOf]; omega⟩
      · have hm2 : Hid (m ++ [a] = outS (s.take (i + 1)) k) := Lib.hid (by rw [hsn, if_neg e, hm.out])
        have hd : (a.toList == k.toList) = false := by rw [tl_eq, decide_eq_false e]
        clear hx hsn e hm
        go_wp2_with (at_builtin; go_loud (refine wpList_append_src _ rfl (.tmp 19) (.tmp 24) 22 22 rfl w.heap.size 9 i0 (.string ⟨#[]⟩) 1 16 Try.underlying22 hi0 hz0 hz1 hz2 rfl (by decide) (.slice A4 m.length c4) m.length _ rfl (hO.alloc _) _ 1 [.string a] rfl (Src.ofSlice _ Try.underlying22 _ 1 1 _ rfl (cells_at _ #[.string a] _ _ (by simp)) (ks_one [a])) (by simp only [maxLen]; omega) (by omega) (size_alloc hws) ?_; intro v9 w8 hown8 hg8 hat8))
        have hO9 : w8.ownsRow w.heap.size 9 1 v9 (m ++ [a]).length (ks (m ++ [a])) := by rw [ks_app, List.length_append]; exact hown8
        have hb9 := below_of_own (hb.alloc hws _) hg8 (hO.alloc _) (size_alloc hws) (Nat.le_refl _)
        exact ⟨⟨i + 1, m ++ [a], by go_num, by omega, hm2, hO9, hb9⟩, by simp [intOf]; omega⟩
    · obtain rfl : i = s.length := by omega
      have di : ¬ (((s.length : Nat) : Int) < (s.length : Int)) := by omega
      have hm2 := hm.out
      rw [List.take_length] at hm2
      subst hm2
      obtain ⟨A4, c4, rfl, hR4⟩ := Rd.own hO
      clear hm
      go_wp2_with fail
      go_ret
      exact ⟨A4, c4, rfl, hR4, hb⟩
end Go.Proofs.Ytampggkjlpbbmaa
