/- Layer 13, the document's side: With, Of. Conditions: no more than a million keys. -/
import Derived.Test.YtampggkjlpbbmaaRefH13
namespace Go.Proofs.Ytampggkjlpbbmaa
open Go.RowKit

theorem ks_take (l : List ByteArray) (i : Nat) : ks (l.take i) = (ks l).take (i * 1) := by rw [Nat.mul_one]; exact List.map_take
theorem ks_drop (l : List ByteArray) (i : Nat) : ks (l.drop i) = (ks l).drop (i * 1) := by rw [Nat.mul_one]; exact List.map_drop

/-- A list that is handed back. -/
def ListIs (w w' : World) (l : List ByteArray) (e : Ending) : Prop := ∃ A c, e = .returned (.slice A l.length c) ∧ Rd w' w'.heap.size 1 A l.length c (ks l) ∧ Below w.heap.size w w'

set_option maxRecDepth 100000 in
set_option maxHeartbeats 2000000 in
theorem rwith_any {w : World} {A : Option Addr} {c : Nat} {s : List ByteArray} (h : Rd w w.heap.size 1 A s.length c (ks s)) (hl : s.length ≤ 1000000) (k : ByteArray) :
    Calls Try.prog 21 #[.slice A s.length c, .string k] w fun e w' => ListIs w w' (withS s k) e := by
  have kh := rhas_any h rfl hl k
  obtain ⟨i0, hi0, hz0, hz1, hz2⟩ := info_parts info_string
  cases hB : hasK s k
  · have hput : withS s k = putS s k := by unfold withS; rw [hB, if_neg (by decide)]
    rw [hB] at kh
    rw [hput]
    clear hput hB
    go_enter Try.func21, Try.ntmps21
    go_upto_region 4 with (go_at_call 16; refine kh.mono ?_; rintro e w1 ⟨rfl, q, hw1⟩)
    obtain ⟨wa, hwa⟩ : ∃ wa, w.drewN q = wa := ⟨_, rfl⟩
    have hba : Below w.heap.size w wa := hwa ▸ drewN_below _ _ _
    have ha := h.up hba
    try rw [hw1]
    try rw [hwa]
    clear hw1 hwa kh h
    go_wp2_with fail
    go_loopw [7] (fun vi wx => ∃ i q : Nat, vi = .int .i64 i ∧ i ≤ s.length ∧ Hid (wx = wa.drewN q) ∧ Hid (∀ (j : Nat) a, j < i → s[j]? = some a → kl a k = true)) (fun vi _ => s.length - (intOf vi).toNat)
    case atStart => exact ⟨0, 0, rfl, Nat.zero_le _, Lib.hid rfl, Lib.hid fun j a hj => by omega⟩
    case round =>
      obtain ⟨i, q, rfl, hi, hw, hall⟩ := hrel
      have hbx : Below wa.heap.size wa wr := by rw [hw.out]; exact drewN_below _ _ _
      have hx0 := ha.up hbx
      by_cases hgo : ∃ a, s[i]? = some a ∧ kl a k = true
      · obtain ⟨a, hx, hka⟩ := hgo
        have hil := lt_at hx
        have di : (i : Int) < (s.length : Int) := by omega
        obtain ⟨b1, o1, rfl, _, g1⟩ := rd_key hx0 hx
        have hd : Op.bytesLess a.toList k.toList = true := hka
        have hall2 : Hid (∀ (j : Nat) a, j < i + 1 → s[j]? = some a → kl a k = true) := Lib.hid fun j y hj hy => by
          by_cases e : j = i
          · subst e; rw [hx] at hy; cases hy; exact hka
          · exact hall.out j y (by omega) hy
        clear hx hka hall hx0
        go_wp2_with fail
        exact ⟨⟨i + 1, q, by go_num, by omega, hw, hall2⟩, by simp [intOf]; omega⟩
      · have hstop : ∀ a, s[i]? = some a → kl a k = false := fun a hx => by
          cases e : kl a k
          · rfl
          · exact absurd ⟨a, hx, e⟩ hgo
        have hres := Lib.hid (putS_at hi hall.out hstop)
        have hsrc := (hx0.pre (k := i) hi).src (P := Try.prog) Try.underlying22 (fun u hu => ks_one s u (List.mem_of_mem_take hu))
        rw [← ks_take] at hsrc
        have hcap := hx0.cap
        have hwxs := hbx.size
        have part : i < s.length ∧ (∃ a b o, s[i]? = some a ∧ A = some ⟨b, o, none⟩ ∧ wr.cell? ⟨b, o + i, none⟩ = some (.string a) ∧ Op.bytesLess a.toList k.toList = false) ∨ i = s.length := by
          rcases Nat.lt_or_ge i s.length with q | q
          · obtain ⟨a, hx⟩ : ∃ a, s[i]? = some a := ⟨_, List.getElem?_eq_getElem q⟩
            obtain ⟨b1, o1, e, _, g1⟩ := rd_key hx0 hx
            exact .inl ⟨q, a, b1, o1, hx, e, g1, hstop a hx⟩
          · exact .inr (by omega)
        clear hall hstop hgo
        rcases part with ⟨hil, a, b1, o1, hx, rfl, g1, hd⟩ | hil
        · have di : (i : Int) < (s.length : Int) := by omega
          clear hx
          go_upto_region 9 with (at_builtin; go_loud (refine wpList_append_src _ rfl (.tmp 27) (.tmp 30) 22 22 rfl wa.heap.size 9 i0 (.string ⟨#[]⟩) 1 16 Try.underlying22 hi0 hz0 hz1 hz2 rfl (by decide) (.slice none 0 0) 0 [] rfl (World.ownsRow_nil _ _ _ _) _ i (ks (s.take i)) rfl hsrc (by simp only [maxLen]; omega) (by omega) hwxs ?_; intro v9 w8 hown8 hg8 hat8))
          rw [Nat.zero_add, List.nil_append] at hown8
          have hb8 := below_of_own hbx hg8 (World.ownsRow_nil wr wa.heap.size 9 1) hwxs (Nat.le_refl _)
          have hw8 := hb8.size
          clear hsrc hg8 hat8 hx0
          obtain ⟨A8, c8, rfl, _⟩ := Rd.own hown8
          go_upto_region 10 with (at_builtin; go_loud (refine wpList_append_src _ rfl (.tmp 32) (.tmp 34) 22 22 rfl wa.heap.size 9 i0 (.string ⟨#[]⟩) 1 16 Try.underlying22 hi0 hz0 hz1 hz2 rfl (by decide) (.slice A8 i c8) i (ks (s.take i)) rfl (hown8.alloc _) _ 1 [.string k] rfl (Src.ofSlice _ Try.underlying22 _ 1 1 _ rfl (cells_at _ #[.string k] _ _ (by simp)) (ks_one [k])) (by simp only [maxLen]; omega) (by omega) (size_alloc hw8) ?_; intro v7 w7 hown7 hg7 hat7))
          have hb7 := below_of_own (hb8.alloc hw8 _) hg7 (hown8.alloc _) (size_alloc hw8) (Nat.le_refl _)
          have hw7 := hb7.size
          have hz7 := ha.below hb7
          clear hg7 hat7 hown8 hw8 hb8
          obtain ⟨A7, c7, rfl, _⟩ := Rd.own hown7
          have hcut := (hz7.cut hi).src (P := Try.prog) Try.underlying22 (fun u hu => ks_one s u (List.mem_of_mem_drop hu))
          rw [← ks_drop] at hcut
          simp only [Nat.mul_one, if_neg (show ¬ c = i by omega), Option.map_some, Addr.add_lit] at hcut
          go_wp2_with (at_builtin; go_loud (refine wpList_append_src _ rfl (.tmp 36) (.tmp 39) 22 22 rfl wa.heap.size 9 i0 (.string ⟨#[]⟩) 1 16 Try.underlying22 hi0 hz0 hz1 hz2 rfl (by decide) (.slice A7 (i + 1) c7) (i + 1) (ks (s.take i) ++ [.string k]) rfl hown7 _ (s.length - i) (ks (s.drop i)) rfl hcut (by simp only [maxLen]; omega) (by omega) hw7 ?_; intro v6 w6 hown6 hg6 hat6))
          all_goals
            have hb6 := below_of_own hb7 hg6 hown7 hw7 (Nat.le_refl _)
            obtain ⟨A6, c6, rfl, hR6⟩ := Rd.own hown6
            have hlen : i + 1 + (s.length - i) = (putS s k).length := by rw [putS_len]; omega
            have hcel : ks (s.take i) ++ [.string k] ++ ks (s.drop i) = ks (putS s k) := by rw [hres.out]; simp [ks]
            rw [hcel, hlen] at hR6
            rw [hlen]
            go_ret
            exact ⟨A6, c6, rfl, hR6, bthen hba hba.size hb6⟩
        · have di : ¬ (i : Int) < (s.length : Int) := by omega
          have hil2 := Lib.hid hil
          clear hil
          go_upto_region 9 with (at_builtin; go_loud (refine wpList_append_src _ rfl (.tmp 27) (.tmp 30) 22 22 rfl wa.heap.size 9 i0 (.string ⟨#[]⟩) 1 16 Try.underlying22 hi0 hz0 hz1 hz2 rfl (by decide) (.slice none 0 0) 0 [] rfl (World.ownsRow_nil _ _ _ _) _ i (ks (s.take i)) rfl hsrc (by simp only [maxLen]; omega) (by omega) hwxs ?_; intro v9 w8 hown8 hg8 hat8))
          rw [Nat.zero_add, List.nil_append] at hown8
          have hb8 := below_of_own hbx hg8 (World.ownsRow_nil wr wa.heap.size 9 1) hwxs (Nat.le_refl _)
          have hw8 := hb8.size
          clear hsrc hg8 hat8 hx0
          obtain ⟨A8, c8, rfl, _⟩ := Rd.own hown8
          go_upto_region 10 with (at_builtin; go_loud (refine wpList_append_src _ rfl (.tmp 32) (.tmp 34) 22 22 rfl wa.heap.size 9 i0 (.string ⟨#[]⟩) 1 16 Try.underlying22 hi0 hz0 hz1 hz2 rfl (by decide) (.slice A8 i c8) i (ks (s.take i)) rfl (hown8.alloc _) _ 1 [.string k] rfl (Src.ofSlice _ Try.underlying22 _ 1 1 _ rfl (cells_at _ #[.string k] _ _ (by simp)) (ks_one [k])) (by simp only [maxLen]; omega) (by omega) (size_alloc hw8) ?_; intro v7 w7 hown7 hg7 hat7))
          have hb7 := below_of_own (hb8.alloc hw8 _) hg7 (hown8.alloc _) (size_alloc hw8) (Nat.le_refl _)
          have hw7 := hb7.size
          have hz7 := ha.below hb7
          clear hg7 hat7 hown8 hw8 hb8
          obtain ⟨A7, c7, rfl, _⟩ := Rd.own hown7
          have hcut := (hz7.cut hi).src (P := Try.prog) Try.underlying22 (fun u hu => ks_one s u (List.mem_of_mem_drop hu))
          rw [← ks_drop] at hcut
          simp only [Nat.mul_one] at hcut
          go_wp2_with (at_builtin; go_loud (refine wpList_append_src _ rfl (.tmp 36) (.tmp 39) 22 22 rfl wa.heap.size 9 i0 (.string ⟨#[]⟩) 1 16 Try.underlying22 hi0 hz0 hz1 hz2 rfl (by decide) (.slice A7 (i + 1) c7) (i + 1) (ks (s.take i) ++ [.string k]) rfl hown7 _ (s.length - i) (ks (s.drop i)) rfl hcut (by simp only [maxLen]; omega) (by omega) hw7 ?_; intro v6 w6 hown6 hg6 hat6))
          all_goals
            have hb6 := below_of_own hb7 hg6 hown7 hw7 (Nat.le_refl _)
            obtain ⟨A6, c6, rfl, hR6⟩ := Rd.own hown6
            have hlen : i + 1 + (s.length - i) = (putS s k).length := by have := hil2.out; rw [putS_len]; omega
            have hcel : ks (s.take i) ++ [.string k] ++ ks (s.drop i) = ks (putS s k) := by rw [hres.out]; simp [ks]
            rw [hcel, hlen] at hR6
            rw [hlen]
            go_ret
            exact ⟨A6, c6, rfl, hR6, bthen hba hba.size hb6⟩
  · have hput : withS s k = s := by unfold withS; rw [hB, if_pos rfl]
    rw [hB] at kh
    rw [hput]
    clear hput hB
    go_enter Try.func21, Try.ntmps21
    go_wp2_with (go_at_call 16; refine kh.mono ?_; rintro e w1 ⟨rfl, q, hw1⟩)
    go_ret
    exact ⟨A, c, rfl, h.up (drewN_below _ _ _), drewN_below _ _ _⟩
end Go.Proofs.Ytampggkjlpbbmaa
