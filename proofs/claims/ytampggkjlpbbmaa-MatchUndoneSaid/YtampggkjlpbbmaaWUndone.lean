/- MatchUndone walked. Conditions: none. -/
import Derived.Deep.RegionHeld3
import Derived.Deep.AppendLies
import Derived.Test.YtampggkjlpbbmaaOfS13
namespace Go.Proofs.Ytampggkjlpbbmaa
open Go.RowKit

theorem backS_small {ch : List (ByteArray × Bool)} (h : ∀ x ∈ ch, x.1.size ≤ maxLen) : ∀ x ∈ backS ch, x.1.size ≤ maxLen := fun x hx => by
  obtain ⟨c, hc, rfl⟩ := List.mem_map.1 hx
  exact h c (List.mem_reverse.1 hc)
theorem chgS_small {t : List ByteArray} {ch : List (ByteArray × Bool)} {i : Nat} (ht : ∀ x ∈ t, x.size ≤ maxLen) (h : ∀ x ∈ ch, x.1.size ≤ maxLen) : ∀ x ∈ (chgS t ch i).1, x.size ≤ maxLen := by
  induction ch generalizing t i with
  | nil => exact ht
  | cons c r ih =>
    by_cases q : hasK t c.1 = !c.2
    · rw [chgS_ok q]
      refine ih (fun x hx => ?_) fun x hx => h x (List.mem_cons_of_mem _ hx)
      unfold oneS at hx
      split at hx
      · rcases putS_mem.1 hx with rfl | hx
        · exact h c (List.mem_cons_self ..)
        · exact ht x hx
      · exact ht x (outS_mem.1 hx).1
    · rw [chgS_bad (by cases e : c.2 <;> simp_all)]
      exact fun x hx => (by cases hx)

theorem pcs_take (l : List (ByteArray × Bool)) (j : Nat) : pcs (l.take j) = (pcs l).take (j * 2) := by
  induction l generalizing j with
  | nil => simp [pcs]
  | cons a t ih =>
    cases j with
    | zero => simp [pcs]
    | succ j =>
      rw [List.take_succ_cons]
      show pcell a ++ pcs (t.take j) = (pcell a ++ pcs t).take ((j + 1) * 2)
      have hl : (pcell a).length = 2 := rfl
      have hj : (j + 1) * 2 - 2 = j * 2 := by omega
      rw [ih, List.take_append, hl, hj, List.take_of_length_le (l := pcell a) (by rw [hl]; omega)]

set_option maxRecDepth 100000 in
set_option maxHeartbeats 2000000 in
theorem matchUndone_walk (A0 : Option Addr) (c0 : Nat) (l0 : List ByteArray) (A1 : Option Addr) (c1 : Nat) (l1 : List (ByteArray × Bool)) (w : World) (r0 : Rd w w.heap.size 1 A0 l0.length c0 (ks l0)) (f0 : ∀ x ∈ l0, x.size ≤ maxLen) (r1 : Rd w w.heap.size 2 A1 l1.length c1 (pcs l1)) (f1 : ∀ x ∈ l1, x.1.size ≤ maxLen) :
    Calls Try.prog 5 #[.slice A0 l0.length c0, .slice A1 l1.length c1] w fun e w' => e = .returned (.bool true) ∧ Below w.heap.size w w' := by
  have kaw := awake13_any w
  by_cases hl : 60 < l0.length ∨ 60 < l1.length
  · by_cases hl0 : 60 < l0.length
    · have hl' : (l0.length : Int) > 60 := by omega
      go_enter Try.func5, Try.ntmps5
      go_wp2_with (go_at_call 8; refine kaw.mono ?_; rintro e w1 ⟨rfl, hb⟩)
      go_ret
      exact ⟨rfl, hb⟩
    · have hl' : ¬ (l0.length : Int) > 60 := by omega
      have hl2 : (l1.length : Int) > 60 := by omega
      go_enter Try.func5, Try.ntmps5
      go_wp2_with (go_at_call 8; refine kaw.mono ?_; rintro e w1 ⟨rfl, hb⟩)
      go_ret
      exact ⟨rfl, hb⟩
  · have hl' : ¬ (l0.length : Int) > 60 := by omega
    have hl2 : ¬ (l1.length : Int) > 60 := by omega
    go_enter Try.func5, Try.ntmps5
    go_upto_region 6 with (go_at_call 8; refine kaw.mono ?_; rintro e w1 ⟨rfl, hb⟩)
    have h1 := r0.up hb
    have h2 := r1.up hb
    have hSr := setS_rises l0
    have hSk := setS_small f0
    have hSl := setS_len l0
    have k1 := of_set h1 (by omega)
    obtain ⟨S, hS⟩ : ∃ S, setS l0 = S := ⟨_, rfl⟩
    rw [hS] at k1 hSr hSk hSl
    clear kaw r0 r1 hS f0
    go_upto_region 7 with (go_at_call 9; refine k1.mono ?_; rintro e w2 ⟨A2, c2, rfl, hRS, hb2⟩)
    have h3 := h2.up hb2
    have hb3 := bthen hb hb.size hb2
    clear h1 h2 hb hb2 k1
    have hTl := chgS_len l1 S 0
    have hTk := chgS_small (i := 0) hSk f1
    rcases chgS_cases l1 S 0 hSr with ⟨T, hT, hTr⟩ | ⟨j, u, x, hx, hT, hu, hux, hur⟩
    · have hbk := chg_back hSr hT 0
      rw [hT] at hTl hTk
      dsimp only at hTl hTk
      have k2 := app_nil hRS hSr hSk (by omega) h3 (by omega) f1 (show appS S [] l1 = _ from hT)
      replace hbk := Lib.hid hbk
      clear hT
      go_upto_region 8 with (go_at_call 12; refine k2.mono ?_; rintro e w3 ⟨A3, c3, rfl, hRT, hb4⟩)
      have h4 := h3.up hb4
      have hRS3 := hRS.up hb4
      have hb5 := bthen hb3 hb3.size hb4
      obtain ⟨i0, hi0, hz0, hz1, hz2⟩ := info_parts info_change
      clear k2 h3 hRS hb3 hb4
      go_wp2_with fail
      go_loopw [13, 14] (fun vm vi wx => ∃ j : Nat, vi = .int .i64 ((l1.length : Int) - 1 - j) ∧ j ≤ l1.length ∧ wx.ownsRow w3.heap.size 40 2 vm j (pcs (backS (l1.drop (l1.length - j)))) ∧ Below w3.heap.size w3 wx) (fun _ vi _ => (intOf vi + 1).toNat)
      case atStart => exact ⟨0, by simp, Nat.zero_le _, by rw [Nat.sub_zero, List.drop_length]; exact World.ownsRow_nil _ _ _ _, Below.refl _ _⟩
      case round =>
        obtain ⟨j, rfl, hj, hO, hbx⟩ := hrel
        have hws := hbx.size
        by_cases hjl : j < l1.length
        · obtain ⟨p, hp⟩ : ∃ p : Nat, (l1.length : Int) - 1 - j = (p : Int) := ⟨l1.length - 1 - j, by omega⟩
          have hpl : p < l1.length := by omega
          have hpi : (p : Int) < (l1.length : Int) := by omega
          have hp0 : (p : Int) ≥ 0 := by omega
          obtain ⟨x, hx⟩ : ∃ x, l1[p]? = some x := ⟨_, List.getElem?_eq_getElem hpl⟩
          obtain ⟨b, o, rfl, hb1, g0, g1⟩ := rd_pair (h4.below hbx) hx
          obtain ⟨A5, c5, rfl, _⟩ := Rd.own hO
          have hsn := backS_snoc hx
          rw [show l1.length - j = p + 1 by omega] at hO
          obtain ⟨k, e⟩ := x
          dsimp only at g0 g1 hsn
          rw [hp]
          have hpj := Lib.hid (show l1.length - (j + 1) = p by omega)
          have hp := Lib.hid hp
          have ag : (Value.slice A5 j c5).ownBlock ≠ some b := fun e => by have := (hO.lt b e).1; omega
          replace hsn := Lib.hid hsn
          clear hx
          obtain ⟨e2, he2⟩ : ∃ e2, (!e) = e2 := ⟨_, rfl⟩
          rw [he2] at hsn
          go_upto_region 15 with (fail)
          go_region_held3 (fun w' => w'.cell? ⟨b, o + p * 2, none⟩ = some (.string k) ∧ w'.cell? ⟨b, o + p * 2 + 1, none⟩ = some (.bool e))
            (first
              | go_keep
              | (go_split_ands
                 refine ⟨?_, ?_⟩ <;> (rw [hgrow.cell_far _ (by simp; omega) (Ne.symm ag)]; assumption))
              | fail)
            ((refine step_append_lies _ (by rfl) _ _ _ (by rfl) w3.heap.size 40 i0 _ 2 24 Try.underlying24 hi0 hz0 hz1 hz2 rfl (by omega) (.slice A5 j c5) j (pcs (backS (l1.drop (p + 1)))) (by rfl) ((hO.alloc _).drew)
                  ⟨wr.heap.size, 0, none⟩ 1 1 [.string k, .bool e2] (by rfl) (by rfl) (World.news_of_block (cs := #[.string k, .bool e2]) (t := 40) (fr := (0, 0)) (heap_alloc_new wr _)) (by simp [Value.oneCell'])
                  (by omega) (by simp only [maxLen]; omega) (by omega) (by simp; omega) (wr.heap.size + 1) (by simp) ?_; intro gg cap w8 hown8 hgrow hat hlt))
          go_wp2_with fail
          have hO9 : w8.ownsRow w3.heap.size 40 2 (.slice (some ⟨gg, 0, none⟩) (j + 1) cap) (j + 1) (pcs (backS (l1.drop (l1.length - (j + 1))))) := by
            rw [hpj.out, hsn.out, pcs_snoc]
            exact hown8
          have hb9 := below_of_own ((hbx.alloc hws (.cells #[.string k, .bool e2] 40)).drew) hgrow ((hO.alloc _).drew) (by simp; omega) (Nat.le_refl _)
          exact ⟨⟨j + 1, by have := hp.out; (congr 1 <;> omega), by omega, hO9, hb9⟩, by simp [intOf]⟩
        · obtain rfl : j = l1.length := by omega
          have hng : ¬ ((l1.length : Int) - 1 - (l1.length : Nat)) ≥ 0 := by omega
          rw [Nat.sub_self, List.drop_zero] at hO
          obtain ⟨A5, c5, rfl, hR5⟩ := Rd.own hO
          have hbl := backS_len l1
          rw [← hbl] at hR5 ⊢
          have hl60 : (backS l1).length ≤ 60 := by omega
          have k3 := app_nil (hRT.up hbx) hTr hTk (by omega) hR5 (by omega) (backS_small f1) (show appS T [] (backS l1) = _ from hbk.out)
          have hRS4 := hRS3.up hbx
          have hb6 := bthen hb5 hb5.size hbx
          clear hbl hO hbx hb5 hRS3
          go_upto_region 17 with (go_at_call 12; refine k3.mono ?_; rintro e w4 ⟨A6, c6, rfl, hR6, hb7⟩)
          have ksm := same_any hR6 (hRS4.up hb7) (by omega)
          rw [eqL_self] at ksm
          clear k3
          go_wp2_with (go_at_call 14; refine ksm.mono ?_; rintro e w6 ⟨rfl, q, hw6⟩)
          go_ret
          exact ⟨rfl, (bthen hb6 hb6.size hb7).trans (drewN_below _ _ _)⟩
    · obtain ⟨k, e⟩ := x
      dsimp only at hux hT
      rw [Nat.zero_add] at hT
      have hjl := lt_at hx
      have hji : (j : Int) < (l1.length : Int) := by omega
      have hj0 : (j : Int) ≥ 0 := by omega
      have hmin : min (j : Int) (l1.length : Int) = (j : Int) := by omega
      have hlt : (l1.take j).length = j := by rw [List.length_take]; omega
      have hul : u.length ≤ S.length + 60 := by
        have := chgS_len (l1.take j) S 0
        rw [hu, hlt] at this
        dsimp only at this
        omega
      have hcap := h3.cap
      have k2 := app_nil hRS hSr hSk (by omega) h3 (by omega) f1 (show appS S [] l1 = _ from hT)
      clear hT hTl hTk
      cases e
      · go_upto_region 9 with (go_at_call 12; refine k2.mono ?_; rintro e9 w3 ⟨A3, c3, rfl, hRT, hb4⟩)
        have h4 := h3.up hb4
        have hRS3 := hRS.up hb4
        have hb5 := bthen hb3 hb3.size hb4
        have hpre := h4.pre (k := j) (by omega)
        rw [← pcs_take] at hpre
        have k3 := fun (n : Nat) (hn : n = j) => app_nil (ch := l1.take j) hRS3 hSr hSk (by omega) (by rw [hlt]; exact hpre) (by omega) (fun x hx => f1 x (List.mem_of_mem_take hx)) (show appS S [] (l1.take j) = _ from hu)
        simp only [hlt] at k3
        obtain ⟨b, o, rfl, hlb, g0, g1⟩ := rd_pair h4 hx
        dsimp only at g0 g1
        clear k2 h3 hRS hb3 hb4 hpre hRT
        go_upto_region 10 with (go_at_call 12; refine (k3 _ rfl).mono ?_; rintro e9 w4 ⟨A4, c4, rfl, hRu, hb6⟩)
        have q0 : w4.cell? ⟨b, o + j * 2, none⟩ = some (.string k) := (hb6.cell hlb).trans g0
        have q1 : w4.cell? ⟨b, o + j * 2 + 1, none⟩ = some (.bool false) := (hb6.cell hlb).trans g1
        have kq := fun q => has_any (hRu.below (drewN_below w4 w4.heap.size q)) rfl hur (by omega) k
        rw [hux] at kq
        clear k3 g0 g1 hx hlt
        go_quiet ((go_at_call 15; exact Calls.quiet_of (kq _)))
        go_wp2_with fail
        go_ret
        exact ⟨rfl, (bthen hb5 hb5.size hb6).trans (drewN_below _ _ _)⟩
      · go_upto_region 9 with (go_at_call 12; refine k2.mono ?_; rintro e9 w3 ⟨A3, c3, rfl, hRT, hb4⟩)
        have h4 := h3.up hb4
        have hRS3 := hRS.up hb4
        have hb5 := bthen hb3 hb3.size hb4
        have hpre := h4.pre (k := j) (by omega)
        rw [← pcs_take] at hpre
        have k3 := fun (n : Nat) (hn : n = j) => app_nil (ch := l1.take j) hRS3 hSr hSk (by omega) (by rw [hlt]; exact hpre) (by omega) (fun x hx => f1 x (List.mem_of_mem_take hx)) (show appS S [] (l1.take j) = _ from hu)
        simp only [hlt] at k3
        obtain ⟨b, o, rfl, hlb, g0, g1⟩ := rd_pair h4 hx
        dsimp only at g0 g1
        clear k2 h3 hRS hb3 hb4 hpre hRT
        go_upto_region 10 with (go_at_call 12; refine (k3 _ rfl).mono ?_; rintro e9 w4 ⟨A4, c4, rfl, hRu, hb6⟩)
        have q0 : w4.cell? ⟨b, o + j * 2, none⟩ = some (.string k) := (hb6.cell hlb).trans g0
        have q1 : w4.cell? ⟨b, o + j * 2 + 1, none⟩ = some (.bool true) := (hb6.cell hlb).trans g1
        have kq := fun q => has_any (hRu.below (drewN_below w4 w4.heap.size q)) rfl hur (by omega) k
        rw [hux] at kq
        clear k3 g0 g1 hx hlt
        go_quiet ((go_at_call 15; exact Calls.quiet_of (kq _)))
        go_wp2_with fail
        go_ret
        exact ⟨rfl, (bthen hb5 hb5.size hb6).trans (drewN_below _ _ _)⟩
end Go.Proofs.Ytampggkjlpbbmaa
