/- MatchSets walked. Conditions: none. -/
import Derived.Laws.Cover1
import Derived.Deep.RegionHeld3
import Derived.Deep.AppendLies
import Derived.Test.YtampggkjlpbbmaaOfS13
namespace Go.Proofs.Ytampggkjlpbbmaa
open Go.RowKit

set_option maxRecDepth 100000 in
set_option maxHeartbeats 2000000 in
theorem matchSets_walk (A : Option Addr) (c : Nat) (l : List ByteArray) (k : ByteArray) (w : World) (h : Rd w w.heap.size 1 A l.length c (ks l)) (_ : ∀ x ∈ l, x.size ≤ maxLen) (_ : k.size ≤ maxLen) :
    Calls Try.prog 6 #[.slice A l.length c, .string k] w fun e w' => e = .returned (.bool true) ∧ Below w.heap.size w w' := by
  have ka := awake13_any w
  by_cases hl : 60 < l.length
  · have hl' : (l.length : Int) > 60 := by omega
    go_enter Try.func6, Try.ntmps6
    go_wp2_with (go_at_call 8; refine ka.mono ?_; rintro e w1 ⟨rfl, hb⟩)
    go_ret
    exact ⟨rfl, hb⟩
  · have hl' : ¬ ((l.length : Int) > 60) := by omega
    obtain ⟨i0, hi0, hz0, hz1, hz2⟩ := info_parts info_string
    go_enter Try.func6, Try.ntmps6
    go_upto_region 6 with (go_at_call 8; refine ka.mono ?_; rintro e w1 ⟨rfl, hb⟩)
    have h1 := h.up hb
    clear ka h
    go_wp2_with fail
    go_loopw [6, 7] (fun vm vi wx => ∃ (j : Nat) (m : List ByteArray), vi = .int .i64 ((l.length : Int) - 1 - j) ∧ j ≤ l.length ∧ m.length = 2 * j ∧ Hid ((∀ e ∈ m, e ∈ l) ∧ (∀ (i : Nat) e, l.length - j ≤ i → l[i]? = some e → e ∈ m)) ∧ wx.ownsRow w1.heap.size 9 1 vm (2 * j) (ks m) ∧ Below w1.heap.size w1 wx) (fun _ vi _ => (intOf vi + 1).toNat)
    case atStart => exact ⟨0, [], by simp, Nat.zero_le _, rfl, Lib.hid ⟨fun _ h => (by cases h), fun i e h1 h2 => by have := (List.getElem?_eq_some_iff.1 h2).1; omega⟩, World.ownsRow_nil _ _ _ _, Below.refl _ _⟩
    case round =>
      obtain ⟨j, m, rfl, hj, hml, hmm, hO, hbx⟩ := hrel
      have hws := hbx.size
      by_cases hjl : j < l.length
      · obtain ⟨p, hp⟩ : ∃ p : Nat, (l.length : Int) - 1 - j = (p : Int) := ⟨l.length - 1 - j, by omega⟩
        have hpl : p < l.length := by omega
        have hpi : (p : Int) < (l.length : Int) := by omega
        have hp0 : (p : Int) ≥ 0 := by omega
        obtain ⟨e, he⟩ : ∃ e, l[p]? = some e := ⟨_, List.getElem?_eq_getElem hpl⟩
        obtain ⟨b, o, rfl, hb1, c0⟩ := rd_key (h1.below hbx) he
        obtain ⟨A3, c3, rfl, _⟩ := Rd.own hO
        have hmm2 : Hid ((∀ d ∈ m ++ [e, e], d ∈ l) ∧ (∀ (i : Nat) d, l.length - (j + 1) ≤ i → l[i]? = some d → d ∈ m ++ [e, e])) := Lib.hid ⟨fun d hd => by
          rcases List.mem_append.1 hd with hd | hd
          · exact hmm.out.1 d hd
          · have : d = e := by simpa using hd
            rw [this]; exact List.mem_of_getElem? he, fun i d h3 h4 => by
          by_cases hip : i = p
          · subst hip
            rw [he] at h4
            cases h4
            simp
          · exact List.mem_append_left _ (hmm.out.2 i d (by omega) h4)⟩
        rw [hp]
        have hp := Lib.hid hp
        have ag : (Value.slice A3 (2 * j) c3).ownBlock ≠ some b := fun e => by have := (hO.lt b e).1; omega
        have hml2 := Lib.hid hml
        clear hml he hmm
        go_upto_region 10 with (fail)
        go_region_held3 (fun w' => w'.cell? ⟨b, o + p, none⟩ = some (.string e))
          (first
            | go_keep
            | (rw [hgrow.cell_far _ (by simp; omega) (Ne.symm ag)]; assumption)
            | fail)
          ((refine step_append_lies _ (by rfl) _ _ _ (by rfl) w1.heap.size 9 i0 _ 1 16 Try.underlying22 hi0 hz0 hz1 hz2 rfl (by omega) (.slice A3 (2 * j) c3) (2 * j) (ks m) (by rfl) ((hO.alloc _).drew)
                ⟨wr.heap.size, 0, none⟩ 2 2 [.string e, .string e] (by rfl) (by rfl) (World.news_of_block (cs := #[.string e, .string e]) (t := 9) (fr := (0, 0)) (heap_alloc_new wr _)) (by simp [Value.oneCell'])
                (by omega) (by simp only [maxLen]; omega) (by omega) (by simp; omega) (wr.heap.size + 1) (by simp) ?_; intro gg cap w8 hown8 hgrow hat hlt))
        go_wp2_with fail
        have hO9 : w8.ownsRow w1.heap.size 9 1 (.slice (some ⟨gg, 0, none⟩) (2 * j + 2) cap) (2 * (j + 1)) (ks (m ++ [e, e])) := by
          rw [ks_app]
          exact hown8
        have hb9 := below_of_own ((hbx.alloc hws (.cells #[.string e, .string e] 9)).drew) hgrow ((hO.alloc _).drew) (by simp; omega) (Nat.le_refl _)
        exact ⟨⟨j + 1, m ++ [e, e], by have := hp.out; (congr 1 <;> omega), by omega, by simp [hml2.out]; omega, hmm2, hO9, hb9⟩, by simp [intOf]⟩
      · obtain rfl : j = l.length := by omega
        have hng : ¬ ((l.length : Int) - 1 - (l.length : Nat)) ≥ 0 := by omega
        have hmem : ∀ e, e ∈ m ↔ e ∈ l := fun e => ⟨hmm.out.1 e, fun he => by
          obtain ⟨i, hi, rfl⟩ := List.getElem_of_mem he
          exact hmm.out.2 i _ (by omega) (List.getElem?_eq_getElem hi)⟩
        obtain ⟨A3, c3, rfl, hR3⟩ := Rd.own hO
        rw [← hml] at hR3 ⊢
        have hm120 : m.length ≤ 120 := by omega
        have h2 := h1.up hbx
        have hb2 := bthen hb hb.size hbx
        have k1 := of_set h2 (by omega)
        obtain ⟨S, hS⟩ : ∃ S, setS l = S := ⟨_, rfl⟩
        have hSm : setS m = S := by rw [← hS]; exact setS_same hmem
        have hSr : Rises S := hS ▸ setS_rises l
        have hSl : S.length ≤ 60 := by have := setS_len l; rw [hS] at this; omega
        have hSk : ∀ x, x ∈ S ↔ x ∈ l := fun x => by rw [← hS]; exact setS_mem
        rw [hS] at k1
        clear hmm hml hO hbx h1 hb hmem
        go_upto_region 12 with (go_at_call 9; refine k1.mono ?_; rintro e w4 ⟨A4, c4, rfl, hR4, hb4⟩)
        have k2 := of_set (hR3.up hb4) (by omega)
        rw [hSm] at k2
        have hk0 := h2.up hb4
        have hb5 := bthen hb2 hb2.size hb4
        clear k1 hR3 h2 hb2 hb4 hSm hm120
        go_upto_region 13 with (go_at_call 9; refine k2.mono ?_; rintro e w5 ⟨A5, c5, rfl, hR5, hb6⟩)
        have hk1 := hk0.up hb6
        have hR6 := hR4.up hb6
        have hb7 := bthen hb5 hb5.size hb6
        have kh := fun (W : World) (hW : Below w5.heap.size w5 W) (x : ByteArray) => has_any (hR6.below hW) rfl hSr (by omega) x
        clear k2 hk0 hR4 hb5 hb6 hS
        go_wp2_with fail
        go_loopw [10, 11] (fun vb vi wx => ∃ i : Nat, vi = .int .i64 i ∧ i ≤ l.length ∧ vb = .bool (hasK (l.take i) k) ∧ Below w5.heap.size w5 wx) (fun _ vi _ => l.length - (intOf vi).toNat)
        case atStart => exact ⟨0, rfl, Nat.zero_le _, rfl, Below.refl _ _⟩
        case round =>
          obtain ⟨i, rfl, hi, rfl, hbx⟩ := hrel
          by_cases hil : i < l.length
          · have di : (i : Int) < (l.length : Int) := by omega
            obtain ⟨a, hx⟩ : ∃ a, l[i]? = some a := ⟨_, List.getElem?_eq_getElem hil⟩
            obtain ⟨b, o, rfl, _, g0⟩ := rd_key (hk1.below hbx) hx
            have hsn := hasK_snoc k hx
            have hin : hasK S a = true := hasK_iff.2 ((hSk a).2 (List.mem_of_getElem? hx))
            have kha := kh wr hbx a
            rw [hin] at kha
            obtain ⟨B1, hB1⟩ : ∃ B1, hasK (l.take i) k = B1 := ⟨_, rfl⟩
            obtain ⟨B2, hB2⟩ : ∃ B2, (a.toList == k.toList) = B2 := ⟨_, rfl⟩
            rw [hB1, hB2] at hsn
            rw [hB1]
            replace hsn := Lib.hid hsn
            clear hB1 hx hin kh
            cases B1
            · cases B2
              · go_wp2_with (go_at_call 15; refine kha.mono ?_; rintro e w6 ⟨rfl, q, hw⟩)
                exact ⟨⟨i + 1, by go_num, by omega, by rw [hsn.out]; rfl, hbx.trans (drewN_below _ _ _)⟩, by simp [intOf]; omega⟩
              · go_wp2_with (go_at_call 15; refine kha.mono ?_; rintro e w6 ⟨rfl, q, hw⟩)
                exact ⟨⟨i + 1, by go_num, by omega, by rw [hsn.out]; rfl, hbx.trans (drewN_below _ _ _)⟩, by simp [intOf]; omega⟩
            · go_wp2_with (go_at_call 15; refine kha.mono ?_; rintro e w6 ⟨rfl, q, hw⟩)
              exact ⟨⟨i + 1, by go_num, by omega, by rw [hsn.out]; rfl, hbx.trans (drewN_below _ _ _)⟩, by simp [intOf]; omega⟩
          · obtain rfl : i = l.length := by omega
            have di : ¬ (((l.length : Nat) : Int) < (l.length : Int)) := by omega
            rw [List.take_length]
            have hkS : hasK l k = hasK S k := by rw [Bool.eq_iff_iff, hasK_iff, hasK_iff, hSk k]
            rw [hkS]
            clear hkS hSk hk1
            go_wp2_with fail
            go_loopw [12] (fun vi wx => ∃ i : Nat, vi = .int .i64 i ∧ 1 ≤ i ∧ Below w5.heap.size w5 wx) (fun vi _ => S.length - (intOf vi).toNat)
            case atStart => exact ⟨1, rfl, Nat.le_refl _, hbx⟩
            case round =>
              obtain ⟨i, rfl, hi1, hby⟩ := hrel
              by_cases hil : i < S.length
              · have di : (i : Int) < (S.length : Int) := by omega
                obtain ⟨p, rfl⟩ : ∃ p, i = p + 1 := ⟨i - 1, by omega⟩
                have hsub : ((p + 1 : Nat) : Int) - 1 = (p : Int) := by omega
                have dp : (p : Int) < (S.length : Int) := by omega
                obtain ⟨a, hx⟩ : ∃ a, S[p]? = some a := ⟨_, List.getElem?_eq_getElem (by omega)⟩
                obtain ⟨d, hy⟩ : ∃ d, S[p + 1]? = some d := ⟨_, List.getElem?_eq_getElem hil⟩
                obtain ⟨b, o, rfl, _, g0⟩ := rd_key (hR6.below hby) hx
                obtain ⟨b2, o2, e2, _, g1⟩ := rd_key (hR6.below hby) hy
                cases e2
                have hlt : Op.bytesLess a.toList d.toList = true := hSr.at_ hx hy (by omega)
                clear hx hy kh hSr hbx
                go_wp2_with fail
                go_quiet (fail)
                go_wp2_with fail
                exact ⟨⟨p + 1 + 1, by go_num, by omega, hby.trans (drewN_below _ _ _)⟩, by simp [intOf]; omega⟩
              · have di : ¬ ((i : Int) < (S.length : Int)) := by omega
                have hd := difS_self hSr
                have hself := setS_self hSr
                have ksm := fun (W : World) (hW : Below w5.heap.size w5 W) => same_any ((hR6.below hW).more hW.size) ((hR5.below hW).more hW.size) (by omega)
                have kdf := fun (W : World) (hW : Below w5.heap.size w5 W) => diff_any ((hR6.below hW).more hW.size) ((hR5.below hW).more hW.size) (by omega) (by omega)
                have kof := fun (W : World) (hW : Below w5.heap.size w5 W) => of_set ((hR6.below hW).more hW.size) (by omega)
                simp only [eqL_self] at ksm
                simp only [hd] at kdf
                simp only [hself] at kof
                have Hb := hby
                clear hd hself hbx hby
                obtain ⟨B, hB⟩ : ∃ B, hasK S k = B := ⟨_, rfl⟩
                have khk := fun (W : World) (hW : Below w5.heap.size w5 W) => kh W hW k
                simp only [hB] at khk ⊢
                clear hB kh
                cases B
                · go_wp2_with (first
                    | (go_at_call 14; refine (ksm _ Hb).mono ?_; rintro e w6 ⟨rfl, q, hw6⟩; replace Hb := Hb.trans (hw6 ▸ drewN_below _ _ q); clear hw6)
                    | (go_at_call 15; refine (khk _ Hb).mono ?_; rintro e w7 ⟨rfl, q, hw7⟩; replace Hb := Hb.trans (hw7 ▸ drewN_below _ _ q); clear hw7)
                    | (go_at_call 17; refine (kdf _ Hb).mono ?_; rintro e w8 ⟨A8, c8, rfl, _, hb8⟩; replace Hb := bthen Hb Hb.size hb8; clear hb8)
                    | (go_at_call 9; refine (kof _ Hb).mono ?_; rintro e w9 ⟨A9, c9, rfl, _, hb9⟩; replace Hb := bthen Hb Hb.size hb9; clear hb9)
                    | fail)
                  go_ret
                  exact ⟨rfl, bthen hb7 hb7.size Hb⟩
                · go_wp2_with (first
                    | (go_at_call 14; refine (ksm _ Hb).mono ?_; rintro e w6 ⟨rfl, q, hw6⟩; replace Hb := Hb.trans (hw6 ▸ drewN_below _ _ q); clear hw6)
                    | (go_at_call 15; refine (khk _ Hb).mono ?_; rintro e w7 ⟨rfl, q, hw7⟩; replace Hb := Hb.trans (hw7 ▸ drewN_below _ _ q); clear hw7)
                    | (go_at_call 17; refine (kdf _ Hb).mono ?_; rintro e w8 ⟨A8, c8, rfl, _, hb8⟩; replace Hb := bthen Hb Hb.size hb8; clear hb8)
                    | (go_at_call 9; refine (kof _ Hb).mono ?_; rintro e w9 ⟨A9, c9, rfl, _, hb9⟩; replace Hb := bthen Hb Hb.size hb9; clear hb9)
                    | fail)
                  go_ret
                  exact ⟨rfl, bthen hb7 hb7.size Hb⟩
end Go.Proofs.Ytampggkjlpbbmaa
