/- SpansTrim walked, against what the program's functions are asked to do (SpK) and the law's awake. Conditions: none. -/
import Derived.Test.YtmdhollegemlhaaKeyW14
import Derived.Test.YtmdhollegemlhaaTwoL14
namespace Go.Proofs.Ytmdhollegemlhaa
open Go.RowKit

theorem trim40 {L : List Sp} {r : Int} (h : ∀ x ∈ L, x.1.size ≤ 40) : ∀ x ∈ trimP L r, x.1.size ≤ 40 := fun x hx => h x (List.mem_filter.1 hx).1
theorem trimP_diff (L : List Sp) (r : Int) : ∃ d : Nat, ((L.length : Int) - (trimP L r).length) = (d : Int) ∧ d ≤ L.length := by
  have := trimP_len L r
  exact ⟨L.length - (trimP L r).length, by omega, by omega⟩
theorem put40t {L : List Sp} {last r : Int} {k : ByteArray} (h : ∀ x ∈ L, x.1.size ≤ 40) (hk : k.size ≤ 40) : ∀ x ∈ (putP L last k r).getD L, x.1.size ≤ 40 := by
  cases e : putP L last k r with
  | none => exact h
  | some L' =>
    obtain ⟨_, _, _, rfl⟩ := putP_some e
    intro x hx
    rcases List.mem_append.1 hx with hx | hx
    · exact h x hx
    · rw [List.mem_singleton] at hx
      subst hx
      exact hk
theorem drop40t {L : List Sp} {last r : Int} {k : ByteArray} (h : ∀ x ∈ L, x.1.size ≤ 40) (hk : k.size ≤ 40) : ∀ x ∈ (dropP L last k r).getD L, x.1.size ≤ 40 := by
  cases e : dropP L last k r with
  | none => exact h
  | some L' =>
    obtain ⟨i, x, _, _, _, _, _, _, rfl⟩ := dropP_some e
    intro y hy
    rcases List.mem_or_eq_of_mem_set hy with hy | hy
    · exact h y hy
    · rw [hy]
      exact hk

set_option maxRecDepth 100000 in
set_option maxHeartbeats 8000000 in
theorem spansTrim_walk {S : World → (Nat → Prop) → Nat → List Sp → Int → Prop} (K : SpK S) (up : ∀ w, Calls Try.prog 8 #[] w fun e w' => e = .returned (.bool true) ∧ Below w.heap.size w w') (A0 : Option Addr) (c0 : Nat) (l0 : List Ac) (x1 : Int) (A2 : Option Addr) (n2 c2 : Nat) (z2 : List Int) (w : World) (r0 : Rd w w.heap.size 3 A0 l0.length c0 (acs l0)) (f0 : ∀ s ∈ l0, s.2.1.size ≤ maxLen ∧ (Lit.int .u8 s.1).wf = true ∧ (Lit.int .i64 s.2.2).wf = true) (_f1 : (Lit.int .i64 x1).wf = true) (r2 : Rd w w.heap.size 1 A2 n2 c2 (z2.map (Value.int .i64))) (_f2 : ∀ z ∈ z2, (Lit.int .i64 z).wf = true) :
    Calls Try.prog 5 #[.slice A0 l0.length c0, .int .i64 x1, .slice A2 n2 c2] w fun e w' => e = .returned (.bool true) ∧ Below w.heap.size w w' := by
  have hmx : ∀ s ∈ l0, s.2.1.size ≤ maxLen := fun s hs => (f0 s hs).1
  obtain rfl : n2 = z2.length := by have := r2.len; simp at this; omega
  go_enter Try.func5, Try.ntmps5
  go_upto_region 2 with (go_at_call 8; refine (up _).mono ?_; rintro e1 w1 ⟨rfl, hb1⟩)
  have kf := few_any (r0.up hb1) hmx
  obtain ⟨fw, hfw⟩ : ∃ fw, fewA l0 = fw := ⟨_, rfl⟩
  rw [hfw] at kf
  cases fw with
  | false =>
    go_wp2_with (go_at_call 9; refine kf.mono ?_; rintro e2 w2 ⟨rfl, rfl⟩)
    go_ret
    exact ⟨rfl, hb1⟩
  | true =>
    by_cases c1 : (12 : Int) < (z2.length : Int)
    · go_wp2_with (go_at_call 9; refine kf.mono ?_; rintro e2 w2 ⟨rfl, rfl⟩)
      go_ret
      exact ⟨rfl, hb1⟩
    by_cases c2 : 1000000 < x1
    · go_wp2_with (go_at_call 9; refine kf.mono ?_; rintro e2 w2 ⟨rfl, rfl⟩)
      go_ret
      exact ⟨rfl, hb1⟩
    by_cases c3 : x1 < 0
    · go_wp2_with (go_at_call 9; refine kf.mono ?_; rintro e2 w2 ⟨rfl, rfl⟩)
      go_ret
      exact ⟨rfl, hb1⟩
    go_upto_region 8 with (first
      | (go_at_call 9; refine kf.mono ?_; rintro e2 w2 ⟨rfl, rfl⟩)
      | (go_at_call 10; refine (Sx.new K _ _ hb1).mono ?_; rintro e3 w3 ⟨g, rfl, hS⟩))
    go_upto_region 9 with (go_at_call 10; refine (Tx.new K hS).mono ?_; rintro e4 w4 ⟨h, rfl, hT⟩)
    obtain ⟨hl60, hfew⟩ := fewA_at hfw
    clear kf hS
    go_wp2_with fail
    go_loopw [11] (fun vi wx => ∃ (i : Nat) (L : List Sp) (last : Int), vi = .int .i64 i ∧ i ≤ l0.length ∧ Tx S w wx g L last h L last ∧ L.length ≤ i ∧ Hid (∀ x ∈ L, x.1.size ≤ 40)) (fun vi _ => l0.length - (intOf vi).toNat)
    case atStart => exact ⟨0, [], 0, rfl, Nat.zero_le _, hT, Nat.le_refl _, Lib.hid fun _ h => by cases h⟩
    case round =>
      obtain ⟨i, L, last, rfl, hi, hTx, hLi, h40⟩ := hrel
      by_cases hil : i < l0.length
      · have di : (i : Int) < (l0.length : Int) := by omega
        obtain ⟨x, hx⟩ : ∃ x, l0[i]? = some x := ⟨_, List.getElem?_eq_getElem hil⟩
        obtain ⟨b, o, rfl, hlb, g0, g1, g2⟩ := rd_act (r0.below hTx.below) hx
        obtain ⟨k1, k2⟩ := hfew i x hx
        obtain ⟨kd, s, r⟩ := x
        dsimp only at g0 g1 g2 k1 k2
        clear hx
        have hTd := hTx.drew K
        have hgd : ∀ W, Below w.heap.size w W → W.cell? ⟨b, o + i * 3 + 1, none⟩ = some (.string s) ∧ W.cell? ⟨b, o + i * 3 + 2, none⟩ = some (.int .i64 r) := fun W hW => ⟨(hW.cell (p := ⟨b, o + i * 3 + 1, none⟩) hlb).trans ((hTx.below.cell (p := ⟨b, o + i * 3 + 1, none⟩) hlb).symm.trans g1), (hW.cell (p := ⟨b, o + i * 3 + 2, none⟩) hlb).trans ((hTx.below.cell (p := ⟨b, o + i * 3 + 2, none⟩) hlb).symm.trans g2)⟩
        have kput := hTd.put K s r (by omega) k1 k2
        have kdrop := hTd.drop K s r (by omega) k1 k2
        have kput2 := fun W (q : Tx S w W g ((putP L last s r).getD L) (if (putP L last s r).isSome then r else last) h L last) => (q.drew K).put2 K s r (by omega) k1 k2
        have kdrop2 := fun W (q : Tx S w W g ((dropP L last s r).getD L) (if (dropP L last s r).isSome then r else last) h L last) => (q.drew K).drop2 K s r (by omega) k1 k2
        by_cases c3 : Int.tmod kd 2 = 0
        · go_upto_region 13 with (fail)
          go_region_held3 (fun w' => w'.cell? ⟨b, o + i * 3 + 1, none⟩ = some (.string s) ∧ w'.cell? ⟨b, o + i * 3 + 2, none⟩ = some (.int .i64 r))
            (first
              | exact hk4
              | go_keep
              | fail)
            ((with_reducible refine kput.mono ?_; rintro e4 w4 ⟨rfl, hS4⟩; have hk4 : w4.cell? ⟨b, o + i * 3 + 1, none⟩ = some (.string s) ∧ w4.cell? ⟨b, o + i * 3 + 2, none⟩ = some (.int .i64 r) := hgd w4 hS4.below))
          have hg5 : w4.drew.cell? ⟨b, o + i * 3 + 1, none⟩ = some (.string s) ∧ w4.drew.cell? ⟨b, o + i * 3 + 2, none⟩ = some (.int .i64 r) := hk4
          obtain ⟨hg5a, hg5b⟩ := hg5
          go_upto_region 14 with (fail)
          go_region_held3 (fun w' => w'.cell? ⟨b, o + i * 3 + 1, none⟩ = some (.string s) ∧ w'.cell? ⟨b, o + i * 3 + 2, none⟩ = some (.int .i64 r))
            (first
              | exact hk5
              | go_keep
              | fail)
            ((with_reducible refine (kput2 _ hS4).mono ?_; rintro e5 w5 ⟨rfl, hS5⟩; have hk5 : w5.cell? ⟨b, o + i * 3 + 1, none⟩ = some (.string s) ∧ w5.cell? ⟨b, o + i * 3 + 2, none⟩ = some (.int .i64 r) := hgd w5 hS5.below))
          go_wp2_with fail
          have hlen := putP_lenD L last r s
          exact ⟨⟨i + 1, _, _, by go_num, by omega, hS5, by omega, Lib.hid (put40t h40.out k1)⟩, by simp [intOf]; omega⟩
        · go_upto_region 15 with (fail)
          go_region_held3 (fun w' => w'.cell? ⟨b, o + i * 3 + 1, none⟩ = some (.string s) ∧ w'.cell? ⟨b, o + i * 3 + 2, none⟩ = some (.int .i64 r))
            (first
              | exact hk4
              | go_keep
              | fail)
            ((with_reducible refine kdrop.mono ?_; rintro e4 w4 ⟨rfl, hS4⟩; have hk4 : w4.cell? ⟨b, o + i * 3 + 1, none⟩ = some (.string s) ∧ w4.cell? ⟨b, o + i * 3 + 2, none⟩ = some (.int .i64 r) := hgd w4 hS4.below))
          have hg5 : w4.drew.cell? ⟨b, o + i * 3 + 1, none⟩ = some (.string s) ∧ w4.drew.cell? ⟨b, o + i * 3 + 2, none⟩ = some (.int .i64 r) := hk4
          obtain ⟨hg5a, hg5b⟩ := hg5
          go_upto_region 16 with (fail)
          go_region_held3 (fun w' => w'.cell? ⟨b, o + i * 3 + 1, none⟩ = some (.string s) ∧ w'.cell? ⟨b, o + i * 3 + 2, none⟩ = some (.int .i64 r))
            (first
              | exact hk5
              | go_keep
              | fail)
            ((with_reducible refine (kdrop2 _ hS4).mono ?_; rintro e5 w5 ⟨rfl, hS5⟩; have hk5 : w5.cell? ⟨b, o + i * 3 + 1, none⟩ = some (.string s) ∧ w5.cell? ⟨b, o + i * 3 + 2, none⟩ = some (.int .i64 r) := hgd w5 hS5.below))
          go_wp2_with fail
          have hlen := dropP_lenD L last r s
          exact ⟨⟨i + 1, _, _, by go_num, by omega, hS5, by omega, Lib.hid (drop40t h40.out k1)⟩, by simp [intOf]; omega⟩
      · obtain rfl : i = l0.length := by omega
        have di : ¬ (((l0.length : Nat) : Int) < (l0.length : Int)) := by omega
        have hL60 : L.length ≤ 60 := by omega
        have h40 := h40.out
        have hf := hTx.left.fine
        have htw := trimP_twice L x1
        have hsub : ((trimP L x1).length : Int) - (trimP L x1).length = 0 := by omega
        have hMl := trimP_len L x1
        have hM40 := trim40 (r := x1) h40
        have hkk := fun k (h : x1 ≤ k) => keysP_trim h L
        have hcc := fun k (h : x1 ≤ k) => countP_trim h L
        have hee := fun k => eventsP_trim hf x1 k
        have hsz := fun k x (hx : x ∈ keysP L k) => keysP_size hf h40 hx
        have hkl := fun k => (keysP_all hf k).2.1
        have hcl := fun k => Nat.le_trans (List.length_filter_le (fun x => holdsP x k) L) (show L.length ≤ 60 by omega)
        have hel := fun k => eventsP_len L x1 k
        have kt1 := hTx.trim K x1 (by omega)
        obtain ⟨d, hd, hdl⟩ := trimP_diff L x1
        rw [hd] at kt1
        have kt2 := fun W (q : Tx S w W g L last h (trimP L x1) last) => q.trim K x1 (by omega)
        simp only [htw, hsub] at kt2
        clear hd htw hsub r0 f0 hmx hfew hi hLi
        generalize trimP L x1 = M at *
        generalize l0.length = l0n at *
        have dd : ¬ ((d : Int) < 0) := by omega
        go_upto_region 18 with (go_at_call 15; refine kt1.mono ?_; rintro e5 w5 ⟨rfl, hT5⟩)
        clear kt1 hTx
        go_upto_region 20 with (go_at_call 15; refine (kt2 _ hT5).mono ?_; rintro e6 w6 ⟨rfl, hT6⟩)
        clear kt2 hT5
        go_wp2_with fail
        go_loopw [13, 14, 15, 16, 17, 18, 19, 20] (fun vi _ _ _ _ _ _ _ wx => ∃ (i : Nat), vi = .int .i64 i ∧ i ≤ z2.length ∧ Tx S w wx g L last h M last) (fun vi _ _ _ _ _ _ _ _ => z2.length - (intOf vi).toNat)
        case atStart => exact ⟨0, rfl, Nat.zero_le _, hT6⟩
        case round =>
          obtain ⟨i, rfl, hi, hTi⟩ := hrel
          by_cases hiz : i < z2.length
          · have di2 : (i : Int) < (z2.length : Int) := by omega
            obtain ⟨k, hk⟩ : ∃ x, z2[i]? = some x := ⟨_, List.getElem?_eq_getElem hiz⟩
            obtain ⟨b2, o2, rfl, hlb2, g2⟩ := rd_num (r2.below hTi.below) hk
            clear hk
            by_cases ck : k < x1
            · go_wp2_with fail
              exact ⟨⟨i + 1, by go_num, by omega, hTi⟩, by simp [intOf]; omega⟩
            have hle : x1 ≤ k := by omega
            have hkk := hkk k hle
            have hcc := hcc k hle
            have hee := hee k
            have hsz := hsz k
            have hkl := hkl k
            have hcl := hcl k
            have hel := hel k
            have kx := keys14_any K k hTi.left (by omega) h40
            have ky := fun W (q : Tx S w W g L last h M last) => keys14_any K k q.right (by omega) hM40
            have ke := fun W (q : Tx S w W g L last h M last) => q.left.events K x1 k (by omega)
            have kf := fun W (q : Tx S w W g L last h M last) => q.right.events K x1 k (by omega)
            have kc := fun W (q : Tx S w W g L last h M last) => q.left.count K k (by omega)
            have kd := fun W (q : Tx S w W g L last h M last) => q.right.count K k (by omega)
            simp only [hkk] at ky
            simp only [hee] at kf
            simp only [hcc] at kd
            change countP L k ≤ 60 at hcl
            rw [← hkl] at hcl
            clear hkk hcc hee hkl
            generalize keysP L k = X at *
            generalize eventsP L x1 k = E at *
            generalize countP L k = C at *
            go_upto_region 26 with (go_at_call 25; refine kx.mono ?_; rintro e7 w7 ⟨A7, c7, rfl, hR7, _, hb7⟩)
            have hT7 := hTi.up K hb7
            clear kx
            go_upto_region 27 with (go_at_call 25; refine (ky _ hT7).mono ?_; rintro e8 w8 ⟨A8, c8, rfl, hR8, _, hb8⟩)
            have hT8 := hT7.up K hb8
            clear ky
            go_upto_region 28 with (go_at_call 23; refine (ke _ hT8).mono ?_; rintro e9 w9 ⟨A9, c9, rfl, hR9, _, hb9⟩)
            have hT9 := hT8.up K hb9
            clear ke
            go_upto_region 29 with (go_at_call 23; refine (kf _ hT9).mono ?_; rintro e10 w10 ⟨A10, c10, rfl, hR10, _, hb10⟩)
            have hT10 := hT9.up K hb10
            clear kf
            replace hR7 := ((hR7.up hb8).up hb9).up hb10
            replace hR8 := (hR8.up hb9).up hb10
            replace hR9 := hR9.up hb10
            clear hb7 hb8 hb9 hb10 hT7 hT8 hT9
            have kc := kc _ hT10
            go_upto_region 31 with (first
              | (go_at_call 21; with_reducible refine kc.mono ?_; rintro e11 w11 ⟨rfl, _, hb11⟩; clear kc; have hT11 := hT10.up K hb11)
              | (go_at_call 21; with_reducible refine (kd _ hT11).mono ?_; rintro e12 w12 ⟨rfl, _, hb12⟩; have hT12 := hT11.up K hb12)
              | fail)
            replace hR7 := (hR7.up hb11).up hb12
            replace hR8 := (hR8.up hb11).up hb12
            replace hR9 := (hR9.up hb11).up hb12
            replace hR10 := (hR10.up hb11).up hb12
            clear hb11 hb12 hT11 hT10 hTi kd
            go_wp2_with fail
            go_loopw [19] (fun vj wx => ∃ (j : Nat), vj = .int .i64 j ∧ j ≤ X.length ∧ Below w12.heap.size w12 wx) (fun vj _ => X.length - (intOf vj).toNat)
            case atStart => exact ⟨0, rfl, Nat.zero_le _, Below.refl _ _⟩
            case round =>
              obtain ⟨j, rfl, hj, hbj⟩ := hrel
              by_cases hjX : j < X.length
              · have dj : (j : Int) < (X.length : Int) := by omega
                obtain ⟨x, hx⟩ : ∃ x, X[j]? = some x := ⟨_, List.getElem?_eq_getElem hjX⟩
                obtain ⟨b7, o7, rfl, _, g7⟩ := rd_key (hR7.below hbj) hx
                obtain ⟨b8, o8, rfl, _, g8⟩ := rd_key (hR8.below hbj) hx
                clear hx
                go_upto_region 34 with (fail)
                go_quiet (fail)
                go_wp2_with fail
                exact ⟨⟨j + 1, by go_num, by omega, hbj.trans (drewN_below _ _ _)⟩, by simp [intOf]; omega⟩
              · obtain rfl : j = X.length := by omega
                have dj : ¬ (((X.length : Nat) : Int) < (X.length : Int)) := by omega
                have hTj := hT12.up K hbj
                clear hR7 hR8
                go_wp2_with fail
                go_loopw [20] (fun vj wx => ∃ (j : Nat), vj = .int .i64 j ∧ j ≤ E.length ∧ Tx S w wx g L last h M last ∧ Below w12.heap.size w12 wx) (fun vj _ => E.length - (intOf vj).toNat)
                case atStart => exact ⟨0, rfl, Nat.zero_le _, hTj, hbj⟩
                case round =>
                  obtain ⟨j, rfl, hj, hTq, hbq⟩ := hrel
                  by_cases hjE : j < E.length
                  · have dj : (j : Int) < (E.length : Int) := by omega
                    obtain ⟨x, hx⟩ : ∃ x, E[j]? = some x := ⟨_, List.getElem?_eq_getElem hjE⟩
                    obtain ⟨b9, o9, rfl, _, g90, g91, g92⟩ := rd_ev (hR9.below hbq) hx
                    obtain ⟨b10, o10, rfl, _, g100, g101, g102⟩ := rd_ev (hR10.below hbq) hx
                    clear hx
                    obtain ⟨xr, xk, xa⟩ := x
                    dsimp only at g90 g91 g92 g100 g101 g102
                    go_upto_region 39 with (fail)
                    go_quiet (fail)
                    go_wp2_with fail
                    exact ⟨⟨j + 1, by go_num, by omega, hTq.up K (drewN_below _ _ _), hbq.trans (drewN_below _ _ _)⟩, by simp [intOf]; omega⟩
                  · obtain rfl : j = E.length := by omega
                    have dj : ¬ (((E.length : Nat) : Int) < (E.length : Int)) := by omega
                    go_wp2_with fail
                    exact ⟨⟨i + 1, by go_num, by omega, hTq⟩, by simp [intOf]; omega⟩
          · obtain rfl : i = z2.length := by omega
            have di2 : ¬ (((z2.length : Nat) : Int) < (z2.length : Int)) := by omega
            go_wp2_with fail
            go_ret
            exact ⟨rfl, hTi.below⟩
end Go.Proofs.Ytmdhollegemlhaa
