/- SpansPlay walked, against what the program's functions are asked to do (SpK) and the law's awake. Conditions: none. -/
import Derived.Deep.DeepCutAuto
import Derived.Deep.CutBlock
import Derived.Deep.RegionHeld3
import Derived.Test.YtmdhollegemlhaaPlyL14
import Derived.Test.YtmdhollegemlhaaNilW14
import Derived.Test.YtmdhollegemlhaaRegion
namespace Go.Proofs.Ytmdhollegemlhaa
open Go.RowKit

set_option maxRecDepth 100000 in
set_option maxHeartbeats 8000000 in
theorem spansPlay_walk {S : World → (Nat → Prop) → Nat → List Sp → Int → Prop} (K : SpK S) (up : ∀ w, Calls Try.prog 8 #[] w fun e w' => e = .returned (.bool true) ∧ Below w.heap.size w w') (A0 : Option Addr) (c0 : Nat) (l0 : List Ac) (s1 : ByteArray) (A2 : Option Addr) (n2 c2 : Nat) (z2 : List Int) (s3 : ByteArray) (s4 : ByteArray) (w : World) (r0 : Rd w w.heap.size 3 A0 l0.length c0 (acs l0)) (f0 : ∀ s ∈ l0, s.2.1.size ≤ maxLen ∧ (Lit.int .u8 s.1).wf = true ∧ (Lit.int .i64 s.2.2).wf = true) (f1 : s1.size ≤ maxLen) (r2 : Rd w w.heap.size 1 A2 n2 c2 (z2.map (Value.int .i64))) (_f2 : ∀ z ∈ z2, (Lit.int .i64 z).wf = true) (_f3 : s3.size ≤ maxLen) (_f4 : s4.size ≤ maxLen) :
    Calls Try.prog 3 #[.slice A0 l0.length c0, .string s1, .slice A2 n2 c2, .string s3, .string s4] w fun e w' => e = .returned (.bool true) ∧ Below w.heap.size w w' := by
  have hmx : ∀ s ∈ l0, s.2.1.size ≤ maxLen := fun s hs => (f0 s hs).1
  obtain rfl : n2 = z2.length := by have := r2.len; simp at this; omega
  go_enter Try.func3, Try.ntmps3
  go_upto_region 2 with (go_at_call 8; refine (up _).mono ?_; rintro e1 w1 ⟨rfl, hb1⟩)
  have kf := few_any (r0.up hb1) hmx
  obtain ⟨fw, hfw⟩ : ∃ fw, fewA l0 = fw := ⟨_, rfl⟩
  rw [hfw] at kf
  cases fw with
  | false =>
    go_wp2_with (go_at_call 9; refine kf.mono ?_; rintro e2 w2 ⟨rfl, rfl⟩)
    go_ret
    exact ⟨rfl, hb1⟩
  | true =>
    by_cases c1 : (12 : Int) < (z2.length : Int)
    · go_wp2_with (go_at_call 9; refine kf.mono ?_; rintro e2 w2 ⟨rfl, rfl⟩)
      go_ret
      exact ⟨rfl, hb1⟩
    go_upto_region 8 with (first
      | (go_at_call 9; refine kf.mono ?_; rintro e2 w2 ⟨rfl, rfl⟩)
      | (go_at_call 10; refine (Sx.new K _ _ hb1).mono ?_; rintro e3 w3 ⟨g, rfl, hS⟩))
    obtain ⟨hl60, hfew⟩ := fewA_at hfw
    have hP0 := Py.start K hS
    clear kf hS
    go_upto_region 9 with (fail)
    generalize w3.alloc (.cells #[.slice none 0 0, .int .i64 0] 30) = w4 at *
    generalize w3.heap.size = bw at *
    go_wp2_with fail
    go_loopw [15] (fun vi wx => ∃ (i : Nat) (L : List Sp) (last : Int) (A : Option Addr) (c : Nat), vi = .int .i64 i ∧ i ≤ l0.length ∧ Py S w wx g L last bw #[.slice A L.length c, .int .i64 last] [] [(A, c, L)] ∧ L.length ≤ i) (fun vi _ => l0.length - (intOf vi).toNat)
    case atStart => exact ⟨0, [], 0, none, 0, rfl, Nat.zero_le _, hP0, Nat.le_refl _⟩
    case round =>
      obtain ⟨i, L, last, A, c, rfl, hi, hPx, hLi⟩ := hrel
      by_cases hil : i < l0.length
      · have di : (i : Int) < (l0.length : Int) := by omega
        obtain ⟨x, hx⟩ : ∃ x, l0[i]? = some x := ⟨_, List.getElem?_eq_getElem hil⟩
        obtain ⟨b, o, rfl, hlb, g0, g1, g2⟩ := rd_act (r0.below hPx.below) hx
        obtain ⟨k1, k2⟩ := hfew i x hx
        obtain ⟨kd, s, r⟩ := x
        dsimp only at g0 g1 g2 k1 k2
        clear hx
        go_upto_region 13 with (fail)
        have hPa := hPx.hold K (bnew wr (.cells #[.int .u8 kd, .string s, .int .i64 r] 32)) (Rk.new wr _ _) (Nat.le_refl _)
        generalize wr.alloc (.cells #[.int .u8 kd, .string s, .int .i64 r] 32) = wa at *
        generalize wr.heap.size = ba at *
        clear g0 g1 g2 hPx
        have hca : ∀ {W : World} {L' : List Sp} {last' : Int} {v : Array Value} {R : List (Option Addr × Nat × List Sp)}, Py S w W g L' last' bw v [(ba, #[.int .u8 kd, .string s, .int .i64 r], 32)] R → W.cell? ⟨ba, 0, none⟩ = some (.int .u8 kd) ∧ W.cell? ⟨ba, 1, none⟩ = some (.string s) ∧ W.cell? ⟨ba, 2, none⟩ = some (.int .i64 r) := fun {W L' last' v R} h => by
          have h := h.held List.mem_cons_self
          exact ⟨h.cell 0, h.cell 1, h.cell 2⟩
        obtain ⟨a0, a1, a2⟩ := hca hPa
        go_upto_block 2 with (fail)
        go_cut [17, 18] from 57 to 117 (fun x y wc => ∃ (q : Bool) (L' : List Sp) (last' : Int) (A' : Option Addr) (c' : Nat), x = .bool q ∧ y = .bool q ∧ Py S w wc g L' last' bw #[.slice A' L'.length c', .int .i64 last'] [(ba, #[.int .u8 kd, .string s, .int .i64 r], 32)] [(A', c', L')] ∧ L'.length ≤ L.length + 1)
        case first =>
          as_aux_lemma =>
          obtain ⟨b0, b1, _, _⟩ := hPa.box
          by_cases d0 : kd = 0
          · subst d0
            have kp := hPa.put K s r (by omega) k1 k2
            have kr := fun W (hR : Rd W W.heap.size 3 A L.length c (scs L)) => rputS_any (last := last) hR (by omega) s r
            have hlen := putP_lenD L last r s
            generalize (if (putP L last s r).isSome then r else last) = t2 at *
            generalize (putP L last s r).isSome = q2 at *
            generalize (putP L last s r).getD L = L2 at *
            go_upto_region 22 with (go_at_call 11; with_reducible refine kp.mono ?_; rintro e5 w5 ⟨rfl, hP5⟩)
            obtain ⟨a0, a1, a2⟩ := hca hP5
            obtain ⟨b0, b1, _, _⟩ := hP5.box
            have kr := kr _ hP5.rd
            go_upto_region 23 with (go_at_call 12; with_reducible refine kr.mono ?_; rintro e6 w6 ⟨A6, c6, rfl, hR6, hb6, hf6⟩)
            have hP6 := hP5.see K hb6 hR6 List.mem_cons_self hf6
            have hP7 := hP6.up K (bnew w6 (.cells #[.slice A6 L2.length c6, .int .i64 t2] 30))
            have hV := Rk.new w6 #[.slice A6 L2.length c6, .int .i64 t2] 30
            generalize w6.alloc (.cells #[.slice A6 L2.length c6, .int .i64 t2] 30) = w7 at *
            clear hP5 hP6 hR6 hf6 kr a0 a1 a2 b0 b1 hb6 kp
            obtain ⟨v0, v1⟩ := hV.two
            obtain ⟨b0, b1, b2, b3⟩ := hP7.box
            go_wp2_with fail
            go_meet
            exact ⟨_, _, _, _, _, rfl, rfl, hP7.set K _ _, hlen⟩
          · by_cases d1 : kd = 1
            · subst d1
              have kp := hPa.drop K s r (by omega) k1 k2
              have kr := fun W (hR : Rd W W.heap.size 3 A L.length c (scs L)) => rdropS_any (last := last) hR (by omega) s r
              have hlen := Nat.le_trans (Nat.le_of_eq (dropP_lenD L last r s)) (Nat.le_succ _)
              generalize (if (dropP L last s r).isSome then r else last) = t2 at *
              generalize (dropP L last s r).isSome = q2 at *
              generalize (dropP L last s r).getD L = L2 at *
              go_upto_region 27 with (go_at_call 13; with_reducible refine kp.mono ?_; rintro e5 w5 ⟨rfl, hP5⟩)
              obtain ⟨a0, a1, a2⟩ := hca hP5
              obtain ⟨b0, b1, _, _⟩ := hP5.box
              have kr := kr _ hP5.rd
              go_upto_region 28 with (go_at_call 14; with_reducible refine kr.mono ?_; rintro e6 w6 ⟨A6, c6, rfl, hR6, hb6, hf6⟩)
              have hP6 := hP5.see K hb6 hR6 List.mem_cons_self hf6
              have hP7 := hP6.up K (bnew w6 (.cells #[.slice A6 L2.length c6, .int .i64 t2] 30))
              have hV := Rk.new w6 #[.slice A6 L2.length c6, .int .i64 t2] 30
              generalize w6.alloc (.cells #[.slice A6 L2.length c6, .int .i64 t2] 30) = w7 at *
              clear hP5 hP6 hR6 hf6 kr a0 a1 a2 b0 b1 hb6 kp
              obtain ⟨v0, v1⟩ := hV.two
              obtain ⟨b0, b1, b2, b3⟩ := hP7.box
              go_wp2_with fail
              go_meet
              exact ⟨_, _, _, _, _, rfl, rfl, hP7.set K _ _, hlen⟩
            · have e0 : (kd == 0) = false := by simpa using d0
              have e1 : (kd == 1) = false := by simpa using d1
              have kp := hPa.trim K r (by omega)
              have kr := fun W (hR : Rd W W.heap.size 3 A L.length c (scs L)) => rtrim_any (last := last) hR (by omega) r
              have hlen := Nat.le_trans (trimP_len L r) (Nat.le_succ _)
              generalize (L.length : Int) - (trimP L r).length = q2 at *
              generalize trimP L r = L2 at *
              go_upto_region 17 with (go_at_call 15; with_reducible refine kp.mono ?_; rintro e5 w5 ⟨rfl, hP5⟩)
              obtain ⟨a0, a1, a2⟩ := hca hP5
              obtain ⟨b0, b1, _, _⟩ := hP5.box
              have kr := kr _ hP5.rd
              go_upto_region 18 with (go_at_call 16; with_reducible refine kr.mono ?_; rintro e6 w6 ⟨A6, c6, rfl, hR6, hb6, hf6⟩)
              have hP6 := hP5.see K hb6 hR6 List.mem_cons_self hf6
              have hP7 := hP6.up K (bnew w6 (.cells #[.slice A6 L2.length c6, .int .i64 last] 30))
              have hV := Rk.new w6 #[.slice A6 L2.length c6, .int .i64 last] 30
              generalize w6.alloc (.cells #[.slice A6 L2.length c6, .int .i64 last] 30) = w7 at *
              clear hP5 hP6 hR6 hf6 kr a0 a1 a2 b0 b1 hb6 kp
              obtain ⟨v0, v1⟩ := hV.two
              obtain ⟨b0, b1, b2, b3⟩ := hP7.box
              go_wp2_with fail
              go_meet
              exact ⟨_, _, _, _, _, rfl, by simp, hP7.set K _ _, hlen⟩
        case rest =>
        obtain ⟨q, L2, t2, A3, c3, rfl, rfl, hP2, hl2⟩ := hcut
        clear hPa a0 a1 a2 hlb
        go_wp2_with fail
        go_loopw [26] (fun vk wx => ∃ (k : Nat), vk = .int .i64 k ∧ k ≤ z2.length ∧ Py S w wx g L2 t2 bw #[.slice A3 L2.length c3, .int .i64 t2] [(ba, #[.int .u8 kd, .string s, .int .i64 r], 32)] [(A3, c3, L2)]) (fun vk _ => z2.length - (intOf vk).toNat)
        case atStart => exact ⟨0, rfl, Nat.zero_le _, hP2⟩
        case round =>
          obtain ⟨k, rfl, hk, hP3⟩ := hrel
          by_cases hkz : k < z2.length
          · as_aux_lemma =>
            have dk : (k : Int) < (z2.length : Int) := by omega
            have dz : (0 : Int) < (z2.length : Int) := by omega
            have dzn : 0 < z2.length := by omega
            obtain ⟨rv, hrv⟩ : ∃ x, z2[k]? = some x := ⟨_, List.getElem?_eq_getElem hkz⟩
            obtain ⟨ru, hru⟩ : ∃ x, z2[0]? = some x := ⟨_, List.getElem?_eq_getElem (by omega)⟩
            obtain ⟨b2, o2, rfl, hlb2, gk⟩ := rd_num r2 hrv
            obtain ⟨b2', o2', e2, _, gz⟩ := rd_num r2 hru
            injection e2 with e2
            injection e2 with e2 e3
            subst e2 e3
            rw [Nat.add_zero] at gz
            have hrk : ∀ {W : World}, Below w.heap.size w W → W.cell? ⟨b2, o2 + k, none⟩ = some (.int .i64 rv) ∧ W.cell? ⟨b2, o2, none⟩ = some (.int .i64 ru) := fun {W} hb => ⟨(hb.cell (p := ⟨b2, o2 + k, none⟩) hlb2).trans gk, (hb.cell (p := ⟨b2, o2, none⟩) hlb2).trans gz⟩
            clear gk gz hrv hru
            obtain ⟨gk, gz⟩ := hrk hP3.below
            have hs40 : s.size ≤ maxLen := by simp only [maxLen]; omega
            have kn := hP3.sx.next K rv s3 s4 (by omega)
            have kn2 := fun W (x : Py S w W g L2 t2 bw #[.slice A3 L2.length c3, .int .i64 t2] [(ba, #[.int .u8 kd, .string s, .int .i64 r], 32)] [(A3, c3, L2)]) => rnext_any (last := t2) x.rd (by omega) rv s3 s4
            have h1 := fun W (x : Py S w W g L2 t2 bw #[.slice A3 L2.length c3, .int .i64 t2] [(ba, #[.int .u8 kd, .string s, .int .i64 r], 32)] [(A3, c3, L2)]) => x.sx.hasB K s1 rv (by omega) f1 rfl
            have h2 := fun W (x : Py S w W g L2 t2 bw #[.slice A3 L2.length c3, .int .i64 t2] [(ba, #[.int .u8 kd, .string s, .int .i64 r], 32)] [(A3, c3, L2)]) => rhas14_any (last := t2) x.rd (by omega) s1 rv
            have h3 := fun W (x : Py S w W g L2 t2 bw #[.slice A3 L2.length c3, .int .i64 t2] [(ba, #[.int .u8 kd, .string s, .int .i64 r], 32)] [(A3, c3, L2)]) => x.sx.hasB K s rv (by omega) hs40 rfl
            have h4 := fun W (x : Py S w W g L2 t2 bw #[.slice A3 L2.length c3, .int .i64 t2] [(ba, #[.int .u8 kd, .string s, .int .i64 r], 32)] [(A3, c3, L2)]) => rhas14_any (last := t2) x.rd (by omega) s rv
            have h5 := fun W (x : Py S w W g L2 t2 bw #[.slice A3 L2.length c3, .int .i64 t2] [(ba, #[.int .u8 kd, .string s, .int .i64 r], 32)] [(A3, c3, L2)]) => x.sx.count K rv (by omega)
            have h6 := fun W (x : Py S w W g L2 t2 bw #[.slice A3 L2.length c3, .int .i64 t2] [(ba, #[.int .u8 kd, .string s, .int .i64 r], 32)] [(A3, c3, L2)]) => rcount_any (last := t2) x.rd (by omega) rv
            have h7 := fun W (x : Py S w W g L2 t2 bw #[.slice A3 L2.length c3, .int .i64 t2] [(ba, #[.int .u8 kd, .string s, .int .i64 r], 32)] [(A3, c3, L2)]) => x.sx.events K ru rv (by omega)
            have h8 := fun W (x : Py S w W g L2 t2 bw #[.slice A3 L2.length c3, .int .i64 t2] [(ba, #[.int .u8 kd, .string s, .int .i64 r], 32)] [(A3, c3, L2)]) => revents_any (last := t2) x.rd (by omega) ru rv
            have hSf : ∀ {W : World}, Py S w W g L2 t2 bw #[.slice A3 L2.length c3, .int .i64 t2] [(ba, #[.int .u8 kd, .string s, .int .i64 r], 32)] [(A3, c3, L2)] → W.cell? ⟨bw, 0, none⟩ = some (.slice A3 L2.length c3) ∧ W.cell? ⟨bw, 1, none⟩ = some (.int .i64 t2) ∧ W.cell? ⟨ba, 1, none⟩ = some (.string s) ∧ W.cell? ⟨b2, o2 + k, none⟩ = some (.int .i64 rv) ∧ W.cell? ⟨b2, o2, none⟩ = some (.int .i64 ru) := fun {W} x => ⟨x.box.1, x.box.2.1, (hca x).2.1, hrk x.below⟩
            have hEl := eventsP_len L2 ru rv
            generalize (nextP L2 rv s3 s4).getD ⟨#[]⟩ = pk at *
            generalize (nextP L2 rv s3 s4).isSome = pq at *
            generalize hasP L2 s1 rv = u1 at *
            generalize hasP L2 s rv = u3 at *
            generalize countP L2 rv = u5 at *
            generalize eventsP L2 ru rv = E at *
            have hEl2 : E.length ≤ 1000 := by omega
            clear hEl hca hrk k1 k2 hlb2
            go_upto_region 36 with (go_at_call 17; with_reducible refine kn.mono ?_; rintro e5 w5 ⟨rfl, _, hb5⟩)
            have hPd := (hP3.up K hb5).drew K
            have hk4 := hSf hPd
            clear kn hP3 hb5 gk gz
            go_region_held3 (fun w' => w'.cell? ⟨bw, 0, none⟩ = some (.slice A3 L2.length c3) ∧ w'.cell? ⟨bw, 1, none⟩ = some (.int .i64 t2) ∧ w'.cell? ⟨ba, 1, none⟩ = some (.string s) ∧ w'.cell? ⟨b2, o2 + k, none⟩ = some (.int .i64 rv) ∧ w'.cell? ⟨b2, o2, none⟩ = some (.int .i64 ru))
              (first
                | exact hk4
                | go_keep
                | fail)
              ((with_reducible refine (kn2 _ hPd).mono ?_; rintro e6 w6 ⟨rfl, hb6⟩; have hP6 := hPd.up K hb6; have hk4 := hSf hP6))
            clear hPd hb6 kn2 hk4
            have hPd := hP6.drew K
            have hk4 := hSf hPd
            go_upto_region 37 with (fail)
            go_region_held3 (fun w' => w'.cell? ⟨bw, 0, none⟩ = some (.slice A3 L2.length c3) ∧ w'.cell? ⟨bw, 1, none⟩ = some (.int .i64 t2) ∧ w'.cell? ⟨ba, 1, none⟩ = some (.string s) ∧ w'.cell? ⟨b2, o2 + k, none⟩ = some (.int .i64 rv) ∧ w'.cell? ⟨b2, o2, none⟩ = some (.int .i64 ru))
              (first
                | exact hk4
                | go_keep
                | fail)
              ((first
                | (with_reducible refine (h1 _ hPd).mono ?_; rintro e7 w7 ⟨rfl, _, hb7⟩; replace hPd := hPd.up K hb7; have hk4 := hSf hPd; clear hb7)
                | (with_reducible refine (h2 _ hPd).mono ?_; rintro e7 w7 ⟨rfl, hb7⟩; replace hPd := hPd.up K hb7; have hk4 := hSf hPd; clear hb7)
                | (with_reducible refine (h3 _ hPd).mono ?_; rintro e7 w7 ⟨rfl, _, hb7⟩; replace hPd := hPd.up K hb7; have hk4 := hSf hPd; clear hb7)
                | (with_reducible refine (h4 _ hPd).mono ?_; rintro e7 w7 ⟨rfl, hb7⟩; replace hPd := hPd.up K hb7; have hk4 := hSf hPd; clear hb7)
                | (with_reducible refine (h5 _ hPd).mono ?_; rintro e7 w7 ⟨rfl, _, hb7⟩; replace hPd := hPd.up K hb7; have hk4 := hSf hPd; clear hb7)
                | (with_reducible refine (h6 _ hPd).mono ?_; rintro e7 w7 ⟨rfl, hb7⟩; replace hPd := hPd.up K hb7; have hk4 := hSf hPd; clear hb7)
                | fail))
            clear h1 h2 h3 h4 h5 h6 hk4
            go_upto_region 39 with (fail)
            replace hPd := hPd.drew K
            have hk4 := hSf hPd
            go_region_held3 (fun w' => w'.cell? ⟨bw, 0, none⟩ = some (.slice A3 L2.length c3) ∧ w'.cell? ⟨bw, 1, none⟩ = some (.int .i64 t2) ∧ w'.cell? ⟨ba, 1, none⟩ = some (.string s) ∧ w'.cell? ⟨b2, o2 + k, none⟩ = some (.int .i64 rv) ∧ w'.cell? ⟨b2, o2, none⟩ = some (.int .i64 ru))
              (first
                | exact hk4
                | go_keep
                | fail)
              ((with_reducible refine (h7 _ hPd).mono ?_; rintro e8 w8 ⟨A8, c8, rfl, hR8, _, hb8⟩; replace hPd := hPd.up K hb8; have hk4 := hSf hPd))
            clear h7 hk4 hb8
            go_upto_region 40 with (fail)
            replace hPd := hPd.drew K
            have hk4 := hSf hPd
            go_region_held3 (fun w' => w'.cell? ⟨bw, 0, none⟩ = some (.slice A3 L2.length c3) ∧ w'.cell? ⟨bw, 1, none⟩ = some (.int .i64 t2) ∧ w'.cell? ⟨ba, 1, none⟩ = some (.string s) ∧ w'.cell? ⟨b2, o2 + k, none⟩ = some (.int .i64 rv) ∧ w'.cell? ⟨b2, o2, none⟩ = some (.int .i64 ru))
              (first
                | exact hk4
                | go_keep
                | fail)
              ((with_reducible refine (h8 _ hPd).mono ?_; rintro e9 w9 ⟨A9, c9, rfl, hR9, hb9⟩; replace hPd := hPd.up K hb9; have hk4 := hSf hPd))
            replace hR8 := (Rd.drew hR8).up hb9
            clear h8 hk4 hb9 hSf
            go_upto_region 43 with (fail)
            go_wp2_with fail
            go_loopw [33] (fun vj wx => ∃ (j : Nat), vj = .int .i64 j ∧ j ≤ E.length ∧ Below w9.heap.size w9 wx) (fun vj _ => E.length - (intOf vj).toNat)
            case atStart => exact ⟨0, rfl, Nat.zero_le _, Below.refl _ _⟩
            case round =>
              obtain ⟨j, rfl, hj, hbj⟩ := hrel
              by_cases hjE : j < E.length
              · as_aux_lemma =>
                have dj : (j : Int) < (E.length : Int) := by omega
                obtain ⟨x, hx⟩ : ∃ x, E[j]? = some x := ⟨_, List.getElem?_eq_getElem hjE⟩
                obtain ⟨b8, o8, rfl, _, g80, g81, g82⟩ := rd_ev (hR8.below hbj) hx
                obtain ⟨b9, o9, rfl, _, g90, g91, g92⟩ := rd_ev (hR9.below hbj) hx
                clear hx
                obtain ⟨xr, xk, xa⟩ := x
                dsimp only at g80 g81 g82 g90 g91 g92
                go_upto_region 46 with (fail)
                go_quiet (fail)
                go_wp2_with fail
                exact ⟨⟨j + 1, by go_num, by omega, hbj.trans (drewN_below _ _ _)⟩, by simp [intOf]; omega⟩
              · obtain rfl : j = E.length := by omega
                have dj : ¬ (((E.length : Nat) : Int) < (E.length : Int)) := by omega
                have hPj := hPd.up K hbj
                clear hR8 hR9
                go_wp2_with fail
                exact ⟨⟨k + 1, by go_num, by omega, hPj⟩, by simp [intOf]; omega⟩
          · obtain rfl : k = z2.length := by omega
            have dk : ¬ (((z2.length : Nat) : Int) < (z2.length : Int)) := by omega
            go_wp2_with fail
            go_roundw
            case rel => exact ⟨i + 1, L2, t2, A3, c3, by go_num, by omega, hP3.forget, by omega⟩
            case measure => simp [intOf]; omega
      · obtain rfl : i = l0.length := by omega
        have di : ¬ (((l0.length : Nat) : Int) < (l0.length : Int)) := by omega
        have hbX := hPx.below
        clear r0 r2 f0 hmx hfew hPx hLi
        go_wp2_with (first
          | (go_at_call 17; refine (next_nil _ _ _ _).mono ?_; rintro e5 w5 ⟨rfl, hb5⟩)
          | (go_at_call 11; refine (put_nil _ _ _).mono ?_; rintro e6 w6 ⟨rfl, rfl⟩)
          | (go_at_call 13; refine (drop_nil _ _ _).mono ?_; rintro e7 w7 ⟨rfl, rfl⟩)
          | (go_at_call 19; refine (has_nil _ _ _).mono ?_; rintro e8 w8 ⟨rfl, hb8⟩)
          | (go_at_call 21; refine (count_nil _ _).mono ?_; rintro e9 w9 ⟨rfl, hb9⟩)
          | (go_at_call 15; refine (trim_nil _ _).mono ?_; rintro e10 w10 ⟨rfl, hb10⟩)
          | (go_at_call 23; refine (events_nil _ _ _).mono ?_; rintro e11 w11 ⟨rfl, hb11⟩)
          | fail)
        go_ret
        have hB1 := bthen hbX hbX.size hb5
        have hB2 := bthen hB1 hB1.size hb8
        have hB3 := bthen hB2 hB2.size hb9
        have hB4 := bthen hB3 hB3.size hb10
        exact ⟨rfl, bthen hB4 hB4.size hb11⟩
end Go.Proofs.Ytmdhollegemlhaa
