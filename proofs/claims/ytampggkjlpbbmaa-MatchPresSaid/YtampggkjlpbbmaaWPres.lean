/- MatchPres walked. Conditions: none. -/
import Derived.Test.YtampggkjlpbbmaaOfS13
namespace Go.Proofs.Ytampggkjlpbbmaa
open Go.RowKit

theorem app_is {w : World} {A A1 A2 : Option Addr} {c c1 c2 : Nat} {s : List ByteArray} {p ch : List (ByteArray × Bool)} {r : List ByteArray} {e i : Nat} (h : Rd w w.heap.size 1 A s.length c (ks s)) (hs : Rises s) (hsk : ∀ k ∈ s, k.size ≤ maxLen) (hl : s.length ≤ 500000)
    (h1 : Rd w w.heap.size 2 A1 p.length c1 (pcs p)) (hp : p.length ≤ 100000) (h2 : Rd w w.heap.size 2 A2 ch.length c2 (pcs ch)) (hc : ch.length ≤ 100000) (hck : ∀ x ∈ ch, x.1.size ≤ maxLen) (hr : appS s p ch = (r, e, i)) :
    Calls Try.prog 12 #[.slice A s.length c, .slice A1 p.length c1, .slice A2 ch.length c2] w fun x w' => ∃ A' c', x = .returned (.tuple #[.slice A' r.length c', .int .i64 (e : Nat), .int .i64 (i : Nat)]) ∧ Rd w' w'.heap.size 1 A' r.length c' (ks r) ∧ Below w.heap.size w w' := by
  refine (apply_any h hs hsk hl h1 hp h2 hc hck).mono ?_
  rintro x w' ⟨A', c', he, hR, hb⟩
  rw [hr] at he hR
  exact ⟨A', c', he, hR, hb⟩

set_option maxRecDepth 100000 in
set_option maxHeartbeats 2000000 in
theorem matchPres_walk (A0 : Option Addr) (c0 : Nat) (l0 : List ByteArray) (A1 : Option Addr) (c1 : Nat) (l1 : List (ByteArray × Bool)) (A2 : Option Addr) (c2 : Nat) (l2 : List (ByteArray × Bool)) (w : World) (r0 : Rd w w.heap.size 1 A0 l0.length c0 (ks l0)) (f0 : ∀ x ∈ l0, x.size ≤ maxLen) (r1 : Rd w w.heap.size 2 A1 l1.length c1 (pcs l1)) (_ : ∀ x ∈ l1, x.1.size ≤ maxLen) (r2 : Rd w w.heap.size 2 A2 l2.length c2 (pcs l2)) (f2 : ∀ x ∈ l2, x.1.size ≤ maxLen) :
    Calls Try.prog 7 #[.slice A0 l0.length c0, .slice A1 l1.length c1, .slice A2 l2.length c2] w fun e w' => e = .returned (.bool true) ∧ Below w.heap.size w w' := by
  have kaw := awake13_any w
  by_cases hl : 60 < l0.length ∨ 30 < l1.length ∨ 30 < l2.length
  · by_cases hl0 : 60 < l0.length
    · have hl' : (l0.length : Int) > 60 := by omega
      go_enter Try.func7, Try.ntmps7
      go_wp2_with (go_at_call 8; refine kaw.mono ?_; rintro e w1 ⟨rfl, hb⟩)
      go_ret
      exact ⟨rfl, hb⟩
    · have hl' : ¬ (l0.length : Int) > 60 := by omega
      by_cases hl1 : 30 < l1.length
      · have hl2 : (l1.length : Int) > 30 := by omega
        go_enter Try.func7, Try.ntmps7
        go_wp2_with (go_at_call 8; refine kaw.mono ?_; rintro e w1 ⟨rfl, hb⟩)
        go_ret
        exact ⟨rfl, hb⟩
      · have hl2 : ¬ (l1.length : Int) > 30 := by omega
        have hl3 : (l2.length : Int) > 30 := by omega
        go_enter Try.func7, Try.ntmps7
        go_wp2_with (go_at_call 8; refine kaw.mono ?_; rintro e w1 ⟨rfl, hb⟩)
        go_ret
        exact ⟨rfl, hb⟩
  · have hl' : ¬ (l0.length : Int) > 60 := by omega
    have hl2 : ¬ (l1.length : Int) > 30 := by omega
    have hl3 : ¬ (l2.length : Int) > 30 := by omega
    go_enter Try.func7, Try.ntmps7
    go_upto_region 6 with (go_at_call 8; refine kaw.mono ?_; rintro e w1 ⟨rfl, hb⟩)
    have h1 := r1.up hb
    have h2 := r2.up hb
    have hSr := setS_rises l0
    have hSk := setS_small f0
    have hSl := setS_len l0
    have k1 := of_set (r0.up hb) (by omega)
    obtain ⟨S, hS⟩ : ∃ S, setS l0 = S := ⟨_, rfl⟩
    rw [hS] at k1 hSr hSk hSl
    clear kaw r0 r1 r2 hS f0
    go_upto_region 7 with (go_at_call 9; refine k1.mono ?_; rintro e w2 ⟨A3, c3, rfl, hRS, hb2⟩)
    have h3 := h1.up hb2
    have h4 := h2.up hb2
    have hb3 := bthen hb hb.size hb2
    have kh := fun (W : World) (hW : Below w2.heap.size w2 W) (x : ByteArray) => has_any (hRS.below hW) rfl hSr (by omega) x
    clear h1 h2 hb hb2 k1
    go_wp2_with fail
    go_loopw [9, 10] (fun vz vi wx => ∃ (j : Nat) (z : Int), vi = .int .i64 ((l1.length : Int) - 1 - j) ∧ j ≤ l1.length ∧ vz = .int .i64 z ∧ Hid (FirstBad S l1 (l1.length - j) z) ∧ Below w2.heap.size w2 wx) (fun _ vi _ => (intOf vi + 1).toNat)
    case atStart => exact ⟨0, -1, by simp, Nat.zero_le _, rfl, Lib.hid (FirstBad.start _ _), Below.refl _ _⟩
    case round =>
      obtain ⟨j, z, rfl, hj, rfl, hF, hbx⟩ := hrel
      by_cases hjl : j < l1.length
      · obtain ⟨p, hp⟩ : ∃ p : Nat, (l1.length : Int) - 1 - j = (p : Int) := ⟨l1.length - 1 - j, by omega⟩
        have hpl : p < l1.length := by omega
        have hpi : (p : Int) < (l1.length : Int) := by omega
        have hp0 : (p : Int) ≥ 0 := by omega
        obtain ⟨x, hx⟩ : ∃ x, l1[p]? = some x := ⟨_, List.getElem?_eq_getElem hpl⟩
        obtain ⟨b, o, rfl, hb1, g0, g1⟩ := rd_pair (h3.below hbx) hx
        rw [show l1.length - j = p + 1 by omega] at hF
        obtain ⟨k, e⟩ := x
        dsimp only at g0 g1
        rw [hp]
        have hpj := Lib.hid (show l1.length - (j + 1) = p by omega)
        have hp := Lib.hid hp
        have kq := fun q => kh (wr.drewN q) (hbx.trans (drewN_below _ _ _)) k
        by_cases hke : hasK S k = e
        · have hF2 : Hid (FirstBad S l1 (l1.length - (j + 1)) z) := Lib.hid (by rw [hpj.out]; exact hF.out.good hx hke)
          rw [hke] at kq
          clear hx hke kh hF
          cases e
          · go_upto_region 11 with (fail)
            go_quiet ((go_at_call 15; exact Calls.quiet_of (kq _)))
            go_wp2_with fail
            exact ⟨⟨j + 1, z, by have := hp.out; (congr 1 <;> omega), by omega, rfl, hF2, hbx.trans (drewN_below _ _ _)⟩, by simp [intOf]⟩
          · go_upto_region 11 with (fail)
            go_quiet ((go_at_call 15; exact Calls.quiet_of (kq _)))
            go_wp2_with fail
            exact ⟨⟨j + 1, z, by have := hp.out; (congr 1 <;> omega), by omega, rfl, hF2, hbx.trans (drewN_below _ _ _)⟩, by simp [intOf]⟩
        · have hF2 : Hid (FirstBad S l1 (l1.length - (j + 1)) p) := Lib.hid (by rw [hpj.out]; exact .bad hx hke)
          have hke2 : hasK S k = !e := by cases q1 : hasK S k <;> cases e <;> simp_all
          rw [hke2] at kq
          clear hx hke kh hF hke2
          cases e
          · go_upto_region 11 with (fail)
            go_quiet ((go_at_call 15; exact Calls.quiet_of (kq _)))
            go_wp2_with fail
            exact ⟨⟨j + 1, p, by have := hp.out; (congr 1 <;> omega), by omega, rfl, hF2, hbx.trans (drewN_below _ _ _)⟩, by simp [intOf]⟩
          · go_upto_region 11 with (fail)
            go_quiet ((go_at_call 15; exact Calls.quiet_of (kq _)))
            go_wp2_with fail
            exact ⟨⟨j + 1, p, by have := hp.out; (congr 1 <;> omega), by omega, rfl, hF2, hbx.trans (drewN_below _ _ _)⟩, by simp [intOf]⟩
      · obtain rfl : j = l1.length := by omega
        have hng : ¬ ((l1.length : Int) - 1 - (l1.length : Nat)) ≥ 0 := by omega
        have hF2 := hF.out
        rw [Nat.sub_self] at hF2
        have hRx := hRS.up hbx
        have h5 := h3.up hbx
        have h6 := h4.up hbx
        have hb4 := bthen hb3 hb3.size hbx
        have hch := chgS_len l2 S 0
        clear kh hRS h3 h4 hb3 hbx hF
        by_cases hz : 0 ≤ z
        · obtain ⟨q, rfl, hq⟩ := hF2.some_ hz
          have hap : appS S l1 l2 = ([], 41, q) := by rw [appS, hq]
          clear hq hF2
          obtain ⟨⟨r, f, i⟩, hr⟩ : ∃ r, chgS S l2 0 = r := ⟨_, rfl⟩
          have hr2 : appS S [] l2 = (r, f, i) := hr
          clear hr hch
          have k2 := app_is hRx hSr hSk (by omega) h5 (by omega) h6 (by omega) f2 hap
          go_upto_region 14 with (go_at_call 12; refine k2.mono ?_; rintro e9 w3 ⟨A4, c4, rfl, hR4, hb5⟩)
          have hR0 := hRx.up hb5
          have h7 := h5.up hb5
          have h8 := h6.up hb5
          have hb6 := bthen hb4 hb4.size hb5
          clear hap k2 hRx h5 h6 hb4 hb5
          have k3 := app_nil hR0 hSr hSk (by omega) h8 (by omega) f2 hr2
          go_upto_region 15 with (go_at_call 12; refine k3.mono ?_; rintro e9 w4 ⟨A5, c5, rfl, hR5, hb7⟩)
          have hb8 := bthen hb6 hb6.size hb7
          clear k3 hr2
          have hz2 : (q : Int) ≥ 0 := by omega
          have dq : ((q : Int) == (q : Int)) = true := beq_self_eq_true _
          go_wp2_with fail
          go_ret
          exact ⟨rfl, hb8⟩
        · have hz3 : ¬ (z ≥ 0) := by omega
          have hn := hF2.none_ (by omega)
          clear hF2
          rcases chgS_cases l2 S 0 hSr with ⟨T, hT, hTr⟩ | ⟨j2, u, ⟨kx, ex⟩, hxx, hT, _, _, _⟩
          · have hq : appS S l1 l2 = (T, 0, 0) := by
              have := chgS_shift l2 S 0 l1.length
              rw [Nat.zero_add, hT] at this
              rw [appS, hn, this]
              rfl
            have hT2 : appS S [] l2 = (T, 0, 0) := hT
            rw [hT] at hch
            dsimp only at hch
            clear hT hn
            have k2 := app_is hRx hSr hSk (by omega) h5 (by omega) h6 (by omega) f2 hq
            go_upto_region 14 with (go_at_call 12; refine k2.mono ?_; rintro e9 w3 ⟨A4, c4, rfl, hR4, hb5⟩)
            have hR0 := hRx.up hb5
            have h7 := h5.up hb5
            have h8 := h6.up hb5
            have hb6 := bthen hb4 hb4.size hb5
            clear k2 hRx h5 h6 hb4 hb5
            have k3 := app_nil hR0 hSr hSk (by omega) h8 (by omega) f2 hT2
            go_upto_region 15 with (go_at_call 12; refine k3.mono ?_; rintro e9 w4 ⟨A5, c5, rfl, hR5, hb7⟩)
            have hb8 := bthen hb6 hb6.size hb7
            have k4 := app_is (hR0.up hb7) hSr hSk (by omega) (h7.up hb7) (by omega) (h8.up hb7) (by omega) f2 hq
            clear k3 hR0 h7 h8 hb6
            go_upto_region 18 with (go_at_call 12; refine k4.mono ?_; rintro e9 w5 ⟨A6, c6, rfl, hR6, hb9⟩)
            have hb10 := bthen hb8 hb8.size hb9
            have ksm := same_any ((hR5.up hb9)) hR6 (by omega)
            rw [eqL_self] at ksm
            clear k4 hT2 hq
            go_wp2_with (go_at_call 14; refine ksm.mono ?_; rintro e9 w6 ⟨rfl, qq, hw6⟩)
            go_ret
            exact ⟨rfl, hb10.trans (drewN_below _ _ _)⟩
          · rw [Nat.zero_add] at hT
            dsimp only at hT
            cases ex
            · have hq : appS S l1 l2 = ([], 41, j2 + l1.length) := by
                have := chgS_shift l2 S 0 l1.length
                rw [Nat.zero_add, hT] at this
                rw [appS, hn, this]
                rfl
              have hT2 : appS S [] l2 = ([], 41, j2) := hT
              have hjj := lt_at hxx
              obtain ⟨m, hm⟩ : ∃ m, j2 + l1.length = m := ⟨_, rfl⟩
              have hmi : (j2 : Int) + (l1.length : Int) = (m : Int) := by omega
              rw [hm] at hq
              replace hm := Lib.hid hm
              have hm100 : m ≤ 100 := by have := hm.out; omega
              clear hT hn hch hxx
              have k2 := app_is hRx hSr hSk (by omega) h5 (by omega) h6 (by omega) f2 hq
              go_upto_region 14 with (go_at_call 12; refine k2.mono ?_; rintro e9 w3 ⟨A4, c4, rfl, hR4, hb5⟩)
              have hR0 := hRx.up hb5
              have h7 := h5.up hb5
              have h8 := h6.up hb5
              have hb6 := bthen hb4 hb4.size hb5
              clear k2 hRx h5 h6 hb4 hb5
              have k3 := app_nil hR0 hSr hSk (by omega) h8 (by omega) f2 hT2
              go_upto_region 15 with (go_at_call 12; refine k3.mono ?_; rintro e9 w4 ⟨A5, c5, rfl, hR5, hb7⟩)
              have hb8 := bthen hb6 hb6.size hb7
              have k4 := app_is (hR0.up hb7) hSr hSk (by omega) (h7.up hb7) (by omega) (h8.up hb7) (by omega) f2 hq
              clear k3 hR0 h7 h8 hb6
              go_upto_region 18 with (go_at_call 12; refine k4.mono ?_; rintro e9 w5 ⟨A6, c6, rfl, hR6, hb9⟩)
              have hb10 := bthen hb8 hb8.size hb9
              clear k4 hT2 hq
              go_wp2_with fail
              go_ret
              exact ⟨rfl, hb10⟩
            · have hq : appS S l1 l2 = ([], 32, j2 + l1.length) := by
                have := chgS_shift l2 S 0 l1.length
                rw [Nat.zero_add, hT] at this
                rw [appS, hn, this]
                rfl
              have hT2 : appS S [] l2 = ([], 32, j2) := hT
              have hjj := lt_at hxx
              obtain ⟨m, hm⟩ : ∃ m, j2 + l1.length = m := ⟨_, rfl⟩
              have hmi : (j2 : Int) + (l1.length : Int) = (m : Int) := by omega
              rw [hm] at hq
              replace hm := Lib.hid hm
              have hm100 : m ≤ 100 := by have := hm.out; omega
              clear hT hn hch hxx
              have k2 := app_is hRx hSr hSk (by omega) h5 (by omega) h6 (by omega) f2 hq
              go_upto_region 14 with (go_at_call 12; refine k2.mono ?_; rintro e9 w3 ⟨A4, c4, rfl, hR4, hb5⟩)
              have hR0 := hRx.up hb5
              have h7 := h5.up hb5
              have h8 := h6.up hb5
              have hb6 := bthen hb4 hb4.size hb5
              clear k2 hRx h5 h6 hb4 hb5
              have k3 := app_nil hR0 hSr hSk (by omega) h8 (by omega) f2 hT2
              go_upto_region 15 with (go_at_call 12; refine k3.mono ?_; rintro e9 w4 ⟨A5, c5, rfl, hR5, hb7⟩)
              have hb8 := bthen hb6 hb6.size hb7
              have k4 := app_is (hR0.up hb7) hSr hSk (by omega) (h7.up hb7) (by omega) (h8.up hb7) (by omega) f2 hq
              clear k3 hR0 h7 h8 hb6
              go_upto_region 18 with (go_at_call 12; refine k4.mono ?_; rintro e9 w5 ⟨A6, c6, rfl, hR6, hb9⟩)
              have hb10 := bthen hb8 hb8.size hb9
              clear k4 hT2 hq
              go_wp2_with fail
              go_ret
              exact ⟨rfl, hb10⟩
end Go.Proofs.Ytampggkjlpbbmaa
