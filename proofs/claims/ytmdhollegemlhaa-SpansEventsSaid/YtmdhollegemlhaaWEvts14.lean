/- SpansEvents walked, against what the program's functions are asked to do (SpK) and the law's awake. Conditions: none. -/
import Derived.Deep.RegionHeld3
import Derived.Deep.AppendLies
import Derived.Test.YtmdhollegemlhaaSpK14
namespace Go.Proofs.Ytmdhollegemlhaa
open Go.RowKit

theorem own_up {w w' : World} {base n size : Nat} {e : TypeId} {v : Value} {xs : List Value} (h : w.ownsRow base e size v n xs) (hb : Below w.heap.size w w') : w'.ownsRow base e size v n xs := by
  obtain ⟨h1, h2⟩ := h
  refine ⟨h1, ?_⟩
  rcases h2 with h | ⟨g, cap, cur, e, hg, hh, r⟩
  · exact Or.inl h
  · exact Or.inr ⟨g, cap, cur, e, hg, (hb.block g (Array.getElem?_eq_some_iff.1 hh).1).trans hh, r⟩

set_option maxRecDepth 100000 in
set_option maxHeartbeats 8000000 in
theorem spansEvents_walk {S : World → (Nat → Prop) → Nat → List Sp → Int → Prop} (K : SpK S) (up : ∀ w, Calls Try.prog 8 #[] w fun e w' => e = .returned (.bool true) ∧ Below w.heap.size w w') (A0 : Option Addr) (c0 : Nat) (l0 : List Ac) (x1 : Int) (x2 : Int) (x3 : Int) (w : World) (r0 : Rd w w.heap.size 3 A0 l0.length c0 (acs l0)) (f0 : ∀ s ∈ l0, s.2.1.size ≤ maxLen ∧ (Lit.int .u8 s.1).wf = true ∧ (Lit.int .i64 s.2.2).wf = true) (_f1 : (Lit.int .i64 x1).wf = true) (_f2 : (Lit.int .i64 x2).wf = true) (_f3 : (Lit.int .i64 x3).wf = true) :
    Calls Try.prog 7 #[.slice A0 l0.length c0, .int .i64 x1, .int .i64 x2, .int .i64 x3] w fun e w' => e = .returned (.bool true) ∧ Below w.heap.size w w' := by
  obtain ⟨i0, hi0, hz0, hz1, hz2⟩ := info_parts (show (Try.prog.info? 49).map (fun i => (i.zero, i.size, i.bytes)) = some (some (.agg #[.int .i64 0, .string ⟨#[]⟩, .bool false]), 3, 32) by kernel_rfl)
  have hmx : ∀ s ∈ l0, s.2.1.size ≤ maxLen := fun s hs => (f0 s hs).1
  go_enter Try.func7, Try.ntmps7
  go_upto_region 2 with (go_at_call 8; refine (up _).mono ?_; rintro e1 w1 ⟨rfl, hb1⟩)
  have kf := few_any (r0.up hb1) hmx
  obtain ⟨fw, hfw⟩ : ∃ fw, fewA l0 = fw := ⟨_, rfl⟩
  rw [hfw] at kf
  cases fw with
  | false =>
    go_wp2_with (go_at_call 9; refine kf.mono ?_; rintro e2 w2 ⟨rfl, rfl⟩)
    go_ret
    exact ⟨rfl, hb1⟩
  | true =>
    by_cases c1 : x2 < x1
    · go_wp2_with (go_at_call 9; refine kf.mono ?_; rintro e2 w2 ⟨rfl, rfl⟩)
      go_ret
      exact ⟨rfl, hb1⟩
    · by_cases c2 : x3 < x2
      · go_wp2_with (go_at_call 9; refine kf.mono ?_; rintro e2 w2 ⟨rfl, rfl⟩)
        go_ret
        exact ⟨rfl, hb1⟩
      · go_upto_region 8 with (first | (go_at_call 9; refine kf.mono ?_; rintro e2 w2 ⟨rfl, rfl⟩) | (go_at_call 10; refine (K.new _).mono ?_; rintro e3 w3 ⟨g, F, rfl, hS, hF, hb3⟩))
        obtain ⟨hl60, hfew⟩ := fewA_at hfw
        have hb13 := bthen hb1 hb1.size hb3
        have hF1 : ∀ b, F b → w.heap.size ≤ b := fun b hb => Nat.le_trans hb1.size (hF b hb)
        have hs3 := hb3.size
        have hR3 := r0.up hb13
        go_wp2_with fail
        go_loopw [12] (fun vi wx => ∃ (i : Nat) (Fx : Nat → Prop) (L : List Sp) (last : Int), vi = .int .i64 i ∧ i ≤ l0.length ∧ S wx Fx g L last ∧ FineS L last ∧ L.length ≤ i ∧ (∀ b, Fx b → w.heap.size ≤ b) ∧ Below w.heap.size w wx) (fun vi _ => l0.length - (intOf vi).toNat)
        case atStart => exact ⟨0, F, [], 0, rfl, Nat.zero_le _, hS, FineS.nil, Nat.le_refl _, hF1, hb13⟩
        case round =>
          obtain ⟨i, Fx, L, last, rfl, hi, hSx, hfine, hLi, hFx, hbx⟩ := hrel
          by_cases hil : i < l0.length
          · have di : (i : Int) < (l0.length : Int) := by omega
            obtain ⟨x, hx⟩ : ∃ x, l0[i]? = some x := ⟨_, List.getElem?_eq_getElem hil⟩
            obtain ⟨b, o, rfl, hlb, g0, g1, g2⟩ := rd_act (r0.below hbx) hx
            obtain ⟨k1, k2⟩ := hfew i x hx
            obtain ⟨kd, s, r⟩ := x
            dsimp only at g0 g1 g2 k1 k2
            clear hx
            have hSd : S wr.drew Fx g L last := K.keep hSx fun b _ => rfl
            have hgd : ∀ W, Below w.heap.size wr.drew W → W.cell? ⟨b, o + i * 3 + 1, none⟩ = some (.string s) ∧ W.cell? ⟨b, o + i * 3 + 2, none⟩ = some (.int .i64 r) := fun W hW => ⟨(hW.cell (p := ⟨b, o + i * 3 + 1, none⟩) hlb).trans g1, (hW.cell (p := ⟨b, o + i * 3 + 2, none⟩) hlb).trans g2⟩
            have kput := K.put s r hSd hfine (by omega) k1 k2
            have kdrop := K.drop s r hSd hfine (by omega) k1 k2
            by_cases c3 : Int.tmod kd 2 = 0
            · go_upto_region 12 with (fail)
              go_region_held3 (fun w' => w'.cell? ⟨b, o + i * 3 + 1, none⟩ = some (.string s) ∧ w'.cell? ⟨b, o + i * 3 + 2, none⟩ = some (.int .i64 r))
                (first
                  | exact hk4
                  | go_keep
                  | fail)
                ((with_reducible refine kput.mono ?_; rintro e4 w4 ⟨F4, rfl, hS4, hO4⟩; have hbd : Below w.heap.size wr.drew w4 := hO4.rest w.heap.size hbx.drew.size hFx; have hk4 : w4.cell? ⟨b, o + i * 3 + 1, none⟩ = some (.string s) ∧ w4.cell? ⟨b, o + i * 3 + 2, none⟩ = some (.int .i64 r) := hgd w4 hbd))
              go_wp2_with fail
              have hb4 : Below w.heap.size w w4 := hbx.drew.trans hbd
              have hlen := putP_lenD L last r s
              exact ⟨⟨i + 1, F4, _, _, by go_num, by omega, hS4, hfine.putD, by omega, fun q hq => by
                rcases hO4.grow q hq with h | h
                · exact hFx q h
                · exact Nat.le_trans hbx.size h, hb4⟩, by simp [intOf]; omega⟩
            · go_upto_region 13 with (fail)
              go_region_held3 (fun w' => w'.cell? ⟨b, o + i * 3 + 1, none⟩ = some (.string s) ∧ w'.cell? ⟨b, o + i * 3 + 2, none⟩ = some (.int .i64 r))
                (first
                  | exact hk4
                  | go_keep
                  | fail)
                ((with_reducible refine kdrop.mono ?_; rintro e4 w4 ⟨F4, rfl, hS4, hO4⟩; have hbd : Below w.heap.size wr.drew w4 := hO4.rest w.heap.size hbx.drew.size hFx; have hk4 : w4.cell? ⟨b, o + i * 3 + 1, none⟩ = some (.string s) ∧ w4.cell? ⟨b, o + i * 3 + 2, none⟩ = some (.int .i64 r) := hgd w4 hbd))
              go_wp2_with fail
              have hb4 : Below w.heap.size w w4 := hbx.drew.trans hbd
              have hlen := dropP_lenD L last r s
              exact ⟨⟨i + 1, F4, _, _, by go_num, by omega, hS4, hfine.dropD, by omega, fun q hq => by
                rcases hO4.grow q hq with h | h
                · exact hFx q h
                · exact Nat.le_trans hbx.size h, hb4⟩, by simp [intOf]; omega⟩
          · obtain rfl : i = l0.length := by omega
            have di : ¬ (((l0.length : Nat) : Int) < (l0.length : Int)) := by omega
            have hSW := fun (W : World) (h : Below wr.heap.size wr W) => K.keep hSx fun b hb => h.block b (K.lt hSx b hb)
            have hL60 : L.length ≤ 100 := by omega
            have hev := fun (W : World) (h : Below wr.heap.size wr W) (a b : Int) => K.events a b (hSW W h) hfine hL60
            have hln := fun a b => eventsP_len L a b
            have kc1 := hev wr (Below.refl _ _) x1 x2
            have l1 := hln x1 x2
            have l2 := hln x2 x3
            have l3 := hln x1 x3
            have hj := eventsP_join L (show x1 ≤ x2 by omega) (show x2 ≤ x3 by omega)
            have hin := fun e => eventsP_within (L := L) (a := x1) (b := x3) (e := e)
            have e22 : eventsP L x2 x2 = [] := eventsP_none (Int.le_refl _)
            have e31 : eventsP L x3 x1 = [] := eventsP_none (by omega)
            generalize eventsP L x1 x2 = E1 at kc1 l1 hj
            go_upto_region 16 with (first
              | (go_at_call 23; refine kc1.mono ?_; rintro e5 w5 ⟨A5, c5, rfl, hR5, hb5⟩)
              | (at_builtin; go_loud (refine wpList_append_src _ rfl (.tmp 71) (.tmp 75) 44 44 rfl w5.heap.size 49 i0 (.agg #[.int .i64 0, .string ⟨#[]⟩, .bool false]) 3 32 Try.underlying44 hi0 hz0 hz1 hz2 rfl (by decide) (.slice none 0 0) 0 [] rfl (World.ownsRow_nil _ _ _ _) _ E1.length (ecs E1) rfl (hR5.src (P := Try.prog) Try.underlying44 (fun u hu => ecs_one E1 u hu)) (by simp only [maxLen]; omega) (by omega) (Nat.le_refl _) ?_; intro v9 w8 hown8 hg8 hat8)))
            rw [Nat.zero_add, List.nil_append] at hown8
            have hb8 := below_of_own (Below.refl w5.heap.size w5) hg8 (World.ownsRow_nil w5 w5.heap.size 49 3) (Nat.le_refl _) (Nat.le_refl _)
            have hb58 := bthen hb5 hb5.size hb8
            have kc2 := hev w8 hb58 x2 x3
            clear hg8 hat8 hR5 kc1
            generalize eventsP L x2 x3 = E2 at kc2 l2 hj
            obtain ⟨A8, c8, rfl, _⟩ := Rd.own hown8
            go_upto_region 17 with (first
              | (go_at_call 23; refine kc2.mono ?_; rintro e9 w9 ⟨A9, c9, rfl, hR9, hb9⟩)
              | (at_builtin; go_loud (refine wpList_append_src _ rfl (.tmp 77) (.tmp 81) 44 44 rfl w5.heap.size 49 i0 (.agg #[.int .i64 0, .string ⟨#[]⟩, .bool false]) 3 32 Try.underlying44 hi0 hz0 hz1 hz2 rfl (by decide) (.slice A8 E1.length c8) E1.length (ecs E1) rfl (own_up hown8 hb9) _ E2.length (ecs E2) rfl (hR9.src (P := Try.prog) Try.underlying44 (fun u hu => ecs_one E2 u hu)) (by simp only [maxLen]; omega) (by omega) (Nat.le_trans hb8.size hb9.size) ?_; intro v9 w10 hown10 hg10 hat10)))
            have hb10 := below_of_own (bthen hb8 hb8.size hb9) hg10 (own_up hown8 hb9) (Nat.le_trans hb8.size hb9.size) (Nat.le_refl _)
            have hb510 := bthen hb5 hb5.size hb10
            have kc3 := hev w10 hb510 x1 x3
            obtain ⟨A10, c10, rfl, hR10⟩ := Rd.own hown10
            have hcel : ecs E1 ++ ecs E2 = ecs (eventsP L x1 x3) := by rw [← hj]; simp [ecs]
            have hlen : E1.length + E2.length = (eventsP L x1 x3).length := by rw [← hj]; simp
            rw [hcel, hlen] at hR10
            rw [hlen]
            clear hg10 hat10 hown10 hR9 kc2 hown8 hj hcel hlen
            generalize eventsP L x1 x3 = E3 at kc3 l3 hR10 hin ⊢
            go_upto_region 18 with (go_at_call 23; refine kc3.mono ?_; rintro e11 w11 ⟨A11, c11, rfl, hR11, hb11⟩)
            have hR10 := hR10.up hb11
            have hb511 := bthen hb510 hb510.size hb11
            have kc4 := hev w11 hb511 x2 x2
            rw [e22] at kc4
            go_wp2_with (go_at_call 23; first
              | (with_reducible refine kc4.mono ?_; rintro e12 w12 ⟨A12, c12, rfl, _, hb12⟩)
              | (have kc5 := hev _ (bthen hb511 hb511.size hb12) x3 x1; rw [e31] at kc5; with_reducible refine kc5.mono ?_; rintro e13 w13 ⟨A13, c13, rfl, _, hb13⟩))
            have hb1113 := bthen hb12 hb12.size hb13
            have hR10 := hR10.up hb1113
            have hR11 := hR11.up hb1113
            have hb513 := bthen hb511 hb511.size hb1113
            have hbw := bthen hbx hbx.size hb513
            go_loopw [15] (fun vi wx => ∃ (i : Nat), vi = .int .i64 i ∧ i ≤ E3.length ∧ Below w13.heap.size w13 wx) (fun vi _ => E3.length - (intOf vi).toNat)
            case atStart => exact ⟨0, rfl, Nat.zero_le _, Below.refl _ _⟩
            case round =>
              obtain ⟨i, rfl, hi9, hb9x⟩ := hrel
              clear kf kc3 kc4 hev hSW e22 e31 hln
              by_cases hil9 : i < E3.length
              · have di9 : (i : Int) < (E3.length : Int) := by omega
                obtain ⟨x, hx⟩ : ∃ x, E3[i]? = some x := ⟨_, List.getElem?_eq_getElem hil9⟩
                obtain ⟨b, o, rfl, hlb, g0, g1, g2⟩ := rd_ev (hR10.below hb9x) hx
                obtain ⟨b', o', rfl, hlb', g0', g1', g2'⟩ := rd_ev (hR11.below hb9x) hx
                have hxin := hin x (List.mem_of_getElem? hx)
                obtain ⟨xr, xk, xa⟩ := x
                dsimp only at g0 g1 g2 g0' g1' g2' hxin
                obtain ⟨m1, m2⟩ := hxin
                have n1 : ¬ xr ≤ x1 := by omega
                have n2 : ¬ x3 < xr := by omega
                clear hin hx
                go_upto_region 23 with (fail)
                go_quiet (fail)
                go_wp2_with fail
                exact ⟨⟨i + 1, by go_num, by omega, hb9x.trans (drewN_below _ _ _)⟩, by simp [intOf]; omega⟩
              · obtain rfl : i = E3.length := by omega
                have di9 : ¬ (((E3.length : Nat) : Int) < (E3.length : Int)) := by omega
                go_wp2_with fail
                go_ret
                exact ⟨rfl, bthen hbw hbw.size hb9x⟩
end Go.Proofs.Ytmdhollegemlhaa
