/- MatchApplies walked. Conditions: none. -/
import Derived.Test.YtampggkjlpbbmaaRefA13
namespace Go.Proofs.Ytampggkjlpbbmaa
open Go.RowKit

theorem appS_len (s : List ByteArray) (p ch : List (ByteArray × Bool)) : (appS s p ch).1.length ≤ s.length + ch.length := by
  unfold appS
  split
  · exact Nat.zero_le _
  · exact chgS_len _ _ _
theorem app_res {w : World} {A A1 A2 : Option Addr} {c c1 c2 : Nat} {s : List ByteArray} {p ch : List (ByteArray × Bool)} {r : List ByteArray} {e i : Nat} (h : Rd w w.heap.size 1 A s.length c (ks s)) (hs : Rises s) (hsk : ∀ k ∈ s, k.size ≤ maxLen) (hl : s.length ≤ 500000)
    (h1 : Rd w w.heap.size 2 A1 p.length c1 (pcs p)) (hp : p.length ≤ 100000) (h2 : Rd w w.heap.size 2 A2 ch.length c2 (pcs ch)) (hc : ch.length ≤ 100000) (hck : ∀ x ∈ ch, x.1.size ≤ maxLen) (hr : appS s p ch = (r, e, i)) :
    Calls Try.prog 12 #[.slice A s.length c, .slice A1 p.length c1, .slice A2 ch.length c2] w fun x w' => ∃ A' c', x = .returned (.tuple #[.slice A' r.length c', .int .i64 (e : Nat), .int .i64 (i : Nat)]) ∧ Rd w' w'.heap.size 1 A' r.length c' (ks r) ∧ Below w.heap.size w w' := by
  refine (apply_any h hs hsk hl h1 hp h2 hc hck).mono ?_
  rintro x w' ⟨A', c', he, hR, hb⟩
  rw [hr] at he hR
  exact ⟨A', c', he, hR, hb⟩
theorem rapp_res {w : World} {A A1 A2 : Option Addr} {c c1 c2 : Nat} {s : List ByteArray} {p ch : List (ByteArray × Bool)} {r : List ByteArray} {e i : Nat} (h : Rd w w.heap.size 1 A s.length c (ks s)) (hl : s.length ≤ 500000)
    (h1 : Rd w w.heap.size 2 A1 p.length c1 (pcs p)) (hp : p.length ≤ 100000) (h2 : Rd w w.heap.size 2 A2 ch.length c2 (pcs ch)) (hc : ch.length ≤ 100000) (hr : appS s p ch = (r, e, i)) :
    Calls Try.prog 13 #[.slice A s.length c, .slice A1 p.length c1, .slice A2 ch.length c2] w fun x w' => ∃ A' c', x = .returned (.tuple #[.slice A' r.length c', .int .i64 (e : Nat), .int .i64 (i : Nat)]) ∧ Rd w' w'.heap.size 1 A' r.length c' (ks r) ∧ Below w.heap.size w w' := by
  refine (rapply_any h hl h1 hp h2 hc).mono ?_
  rintro x w' ⟨A', c', he, hR, hb⟩
  rw [hr] at he hR
  exact ⟨A', c', he, hR, hb⟩

set_option maxRecDepth 100000 in
set_option maxHeartbeats 2000000 in
theorem matchApplies_walk (A0 : Option Addr) (c0 : Nat) (l0 : List ByteArray) (A1 : Option Addr) (c1 : Nat) (l1 : List (ByteArray × Bool)) (A2 : Option Addr) (c2 : Nat) (l2 : List (ByteArray × Bool)) (w : World) (r0 : Rd w w.heap.size 1 A0 l0.length c0 (ks l0)) (f0 : ∀ x ∈ l0, x.size ≤ maxLen) (r1 : Rd w w.heap.size 2 A1 l1.length c1 (pcs l1)) (_ : ∀ x ∈ l1, x.1.size ≤ maxLen) (r2 : Rd w w.heap.size 2 A2 l2.length c2 (pcs l2)) (f2 : ∀ x ∈ l2, x.1.size ≤ maxLen) :
    Calls Try.prog 3 #[.slice A0 l0.length c0, .slice A1 l1.length c1, .slice A2 l2.length c2] w fun e w' => e = .returned (.bool true) ∧ Below w.heap.size w w' := by
  have kaw := awake13_any w
  by_cases hl : 60 < l0.length ∨ 30 < l1.length ∨ 30 < l2.length
  · by_cases hl0 : 60 < l0.length
    · have hl' : (l0.length : Int) > 60 := by omega
      go_enter Try.func3, Try.ntmps3
      go_wp2_with (go_at_call 8; refine kaw.mono ?_; rintro e w1 ⟨rfl, hb⟩)
      go_ret
      exact ⟨rfl, hb⟩
    · have hl' : ¬ (l0.length : Int) > 60 := by omega
      by_cases hl1 : 30 < l1.length
      · have hl2 : (l1.length : Int) > 30 := by omega
        go_enter Try.func3, Try.ntmps3
        go_wp2_with (go_at_call 8; refine kaw.mono ?_; rintro e w1 ⟨rfl, hb⟩)
        go_ret
        exact ⟨rfl, hb⟩
      · have hl2 : ¬ (l1.length : Int) > 30 := by omega
        have hl3 : (l2.length : Int) > 30 := by omega
        go_enter Try.func3, Try.ntmps3
        go_wp2_with (go_at_call 8; refine kaw.mono ?_; rintro e w1 ⟨rfl, hb⟩)
        go_ret
        exact ⟨rfl, hb⟩
  · have hl' : ¬ (l0.length : Int) > 60 := by omega
    have hl2 : ¬ (l1.length : Int) > 30 := by omega
    have hl3 : ¬ (l2.length : Int) > 30 := by omega
    go_enter Try.func3, Try.ntmps3
    go_upto_region 6 with (go_at_call 8; refine kaw.mono ?_; rintro e w1 ⟨rfl, hb⟩)
    have h1 := r1.up hb
    have h2 := r2.up hb
    have h0 := r0.up hb
    have hSr := setS_rises l0
    have hSk := setS_small f0
    have hSl := setS_len l0
    have k1 := of_set h0 (by omega)
    obtain ⟨S, hS⟩ : ∃ S, setS l0 = S := ⟨_, rfl⟩
    rw [hS] at k1 hSr hSk hSl
    clear kaw r0 r1 r2 f0
    go_upto_region 7 with (go_at_call 9; refine k1.mono ?_; rintro e w2 ⟨A3, c3, rfl, hRS, hb2⟩)
    have k2 := rof_any (h0.up hb2) (by omega)
    unfold ListIs at k2
    rw [hS] at k2
    have h3 := h1.up hb2
    have h4 := h2.up hb2
    have hb3 := bthen hb hb.size hb2
    clear h0 h1 h2 hb hb2 k1 hS
    go_upto_region 8 with (go_at_call 10; refine k2.mono ?_; rintro e w3 ⟨A4, c4, rfl, hRW, hb4⟩)
    have hRS3 := hRS.up hb4
    have h5 := h3.up hb4
    have h6 := h4.up hb4
    have hb5 := bthen hb3 hb3.size hb4
    have k3 := as_any h5 (by omega) h6 (by omega)
    clear k2 h3 h4 hb3 hb4 hRS
    go_upto_region 9 with (go_at_call 11; refine k3.mono ?_; rintro e w4 ⟨B1, d1, B2, d2, rfl, hB1, hB2, hb6⟩)
    obtain ⟨⟨r, f, i⟩, hr⟩ : ∃ r, appS S l1 l2 = r := ⟨_, rfl⟩
    have hrl : r.length ≤ S.length + l2.length := by have := appS_len S l1 l2; rw [hr] at this; exact this
    have k4 := app_res (hRS3.up hb6) hSr hSk (by omega) (h5.up hb6) (by omega) (h6.up hb6) (by omega) f2 hr
    have hRS4 := hRS3.up hb6
    have hRW4 := hRW.up hb6
    have h7 := h6.up hb6
    have hb7 := bthen hb5 hb5.size hb6
    replace hr := Lib.hid hr
    clear k3 h5 h6 hb5 hb6 hRS3 hRW
    go_upto_region 10 with (go_at_call 12; refine k4.mono ?_; rintro e w5 ⟨A5, c5, rfl, hRx, hb8⟩)
    have k5 := rapp_res (hRW4.up hb8) (by omega) (hB1.up hb8) (by omega) (hB2.up hb8) (by omega) hr.out
    have hRS5 := hRS4.up hb8
    have hRW5 := hRW4.up hb8
    have h8 := h7.up hb8
    have hb9 := bthen hb7 hb7.size hb8
    clear k4 hRS4 hRW4 h7 hb7 hB1 hB2
    go_upto_region 11 with (go_at_call 13; refine k5.mono ?_; rintro e w6 ⟨A6, c6, rfl, hRy, hb10⟩)
    have hRx6 := hRx.up hb10
    have hRS6 := hRS5.up hb10
    have hRW6 := hRW5.up hb10
    have h9 := h8.up hb10
    have hb11 := bthen hb9 hb9.size hb10
    have s1 := same_any hRx6 hRy (by omega)
    have s2 := fun q => same_any ((hRS6.below (drewN_below w6 _ q)).more (drewN_below w6 0 q).size) ((hRW6.below (drewN_below w6 _ q)).more (drewN_below w6 0 q).size) (by omega)
    rw [eqL_self] at s1
    simp only [eqL_self] at s2
    have df : ((f : Int) != (f : Int)) = false := by simp
    have di : ((i : Int) != (i : Int)) = false := by simp
    clear k5 hRS5 hRW5 h8 hb8 hb9 hRx hb10 hr
    go_upto_region 13 with (first
      | (go_at_call 14; refine s1.mono ?_; clear s1; rintro e w7 ⟨rfl, q1, rfl⟩)
      | (go_at_call 14; refine (s2 _).mono ?_; clear s2; rintro e w8 ⟨rfl, q2, hw8⟩)
      | fail)
    have kh := fun (W : World) (hW : Below w6.heap.size w6 W) (x : ByteArray) => has_any (hRS6.below hW) rfl hSr (by omega) x
    have kr := fun (W : World) (hW : Below w6.heap.size w6 W) (x : ByteArray) => rhas_any (hRW6.below hW) rfl (by omega) x
    clear df di
    go_wp2_with fail
    go_loopw [18] (fun vi wx => ∃ j : Nat, vi = .int .i64 j ∧ j ≤ l2.length ∧ Below w6.heap.size w6 wx) (fun vi _ => l2.length - (intOf vi).toNat)
    case atStart => exact ⟨0, rfl, Nat.zero_le _, drewN_below _ _ _⟩
    case round =>
      obtain ⟨j, rfl, hj, hbx⟩ := hrel
      by_cases hjl : j < l2.length
      · have dj : (j : Int) < (l2.length : Int) := by omega
        obtain ⟨⟨k, e⟩, hx⟩ : ∃ x, l2[j]? = some x := ⟨_, List.getElem?_eq_getElem hjl⟩
        obtain ⟨b, o, rfl, hb1, g0, _⟩ := rd_pair (h9.below hbx) hx
        dsimp only at g0
        have kq := fun q => kh (wr.drewN q) (hbx.trans (drewN_below _ _ _)) k
        have kz := fun q => kr (wr.drewN q) (hbx.trans (drewN_below _ _ _)) k
        obtain ⟨H, hH⟩ : ∃ H, hasK S k = H := ⟨_, rfl⟩
        simp only [hH] at kq kz
        clear hx hH kh kr
        cases H
        · go_upto_region 16 with (fail)
          go_quiet (first | (go_at_call 15; exact Calls.quiet_of (kq _)) | (go_at_call 16; exact Calls.quiet_of (kz _)))
          go_wp2_with fail
          exact ⟨⟨j + 1, by go_num, by omega, hbx.trans (drewN_below _ _ _)⟩, by simp [intOf]; omega⟩
        · go_upto_region 16 with (fail)
          go_quiet (first | (go_at_call 15; exact Calls.quiet_of (kq _)) | (go_at_call 16; exact Calls.quiet_of (kz _)))
          go_wp2_with fail
          exact ⟨⟨j + 1, by go_num, by omega, hbx.trans (drewN_below _ _ _)⟩, by simp [intOf]; omega⟩
      · obtain rfl : j = l2.length := by omega
        have dj : ¬ (((l2.length : Nat) : Int) < (l2.length : Int)) := by omega
        go_wp2_with fail
        go_ret
        exact ⟨rfl, bthen hb11 hb11.size hbx⟩
end Go.Proofs.Ytampggkjlpbbmaa
