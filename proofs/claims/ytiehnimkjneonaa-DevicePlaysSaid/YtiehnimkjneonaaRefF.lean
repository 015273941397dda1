/- The document's own Flush. Conditions: none. -/
import Derived.Test.YtiehnimkjneonaaRefR
namespace Go.Proofs.Ytiehnimkjneonaa
open Go.RowKit
theorem put_n (w : World) {A : Option Addr} {c n : Nat} {l : List Sec} (hn : l.length = n) (at_ : Nat) (p : Sec) (hr : Rd w w.heap.size 1 A n c (kcs l)) (hl : n ≤ 65536) (hat : at_ ≤ 65536) :
    Calls Try.prog 31 #[.slice A n c, .agg #[.int .i64 at_, .string (strOf p)]] w fun e w' => ∃ A' c', e = .returned (.slice A' n c') ∧ w'.ownsRow w.heap.size 9 1 (.slice A' n c') n (kcs (l.set at_ p)) ∧ Below w.heap.size w w' := by
  subst hn
  exact put_any w l at_ p hr hl hat
theorem rd_far {w w' : World} {B n c : Nat} {A : Option Addr} {xs : List Value} {size g : Nat} (h : Rd w B size A n c xs) (hb : ∀ j, j ≠ g → w'.heap[j]? = w.heap[j]?) (ha : ∀ b o, A = some ⟨b, o, none⟩ → b ≠ g) : Rd w' B size A n c xs :=
  ⟨h.len, h.cap, h.capm, h.nil, fun hn => by
    obtain ⟨b, o, e, hb1, hc⟩ := h.at_ hn
    exact ⟨b, o, e, hb1, fun j u hj => (World.cell?_of_block (w := w) (a := ⟨b, _, none⟩) (hb b (ha b o e))).trans (hc j u hj)⟩⟩
theorem own_at {w : World} {base : Nat} {e : TypeId} {size n c : Nat} {A : Option Addr} {xs : List Value} (h : w.ownsRow base e size (.slice A n c) n xs) : ∀ b o, A = some ⟨b, o, none⟩ → base ≤ b := fun b o e => by
  subst e
  rcases h.2 with ⟨h', _⟩ | ⟨g, cap, cur, h', hb, _⟩
  · cases h'
  · cases h'; exact hb
set_option maxRecDepth 100000 in
set_option maxHeartbeats 1000000 in
theorem refFlush_ok (w : World) {KA WA : Option Addr} {kc wc n m : Nat} (a : Int) (d : Bool) (l : List Sec) (ps : List (Nat × Sec)) (hn : l.length = n) (hm : ps.length = m) (hr : Rd w w.heap.size 1 KA n kc (kcs l)) (hw : Rd w w.heap.size 2 WA m wc (wsCs ps)) (hl : n ≤ 65536) (hm1 : m ≤ 1000000) (hp : ∀ p ∈ ps, p.1 ≤ 65536)
    (ha : -9223372036854775808 ≤ a ∧ a ≤ 9223372036854775807) (hd : cntD a d = false) (hkb : ∀ b o, KA = some ⟨b, o, none⟩ → b < w.heap.size) :
    Calls Try.prog 15 #[.agg #[.slice KA n kc, .slice WA m wc, .int .i64 a, .bool d]] w fun e w' => ∃ A c, e = .returned (.tuple #[.agg #[.slice A n c, .slice none 0 0, .int .i64 (cntA a), .bool false], .int .i64 0]) ∧
      Rd w' w'.heap.size 1 A n c (kcs (puts l ps)) ∧ (∀ b o, A = some ⟨b, o, none⟩ → KA = some ⟨b, o, none⟩ ∨ w.heap.size ≤ b) ∧ Below w.heap.size w w' := by
  go_enter Try.func15, Try.ntmps15
  go_upto_region 1 with (fail)
  obtain ⟨V, hV, x0, r0, b0, hs⟩ := two_laid w (.slice KA n kc) (.slice WA m wc) a d (.slice none 0 0) (.slice none 0 0) 0 false
  rw [hV]
  have e0 := x0.c0
  have e1 := x0.c1
  have e2 := x0.c2
  have e3 := x0.c3
  clear hV
  go_upto_region 2 with ((with_reducible refine (counted_any _ a d ha).mono ?_); rintro e w2 ⟨rfl, hb⟩; have x1 := x0.on hb; have r1 := r0.on hb; have b1 := b0.trans (hb.mono (by omega)); have f0 := x1.c0; have f1 := x1.c1; have f2 := x1.c2; have f3 := x1.c3; have ff := x1.fz; have hs1 := hb.size; clear hb)
  obtain ⟨V2, hV2, x2, r2, b2, hs2⟩ := four_set x1 r1 (by omega) b1 (Nat.le_refl _) (.slice KA n kc) (.slice WA m wc) (cntA a) false
  rw [hV2]
  clear hV2 f0 f1 f2 f3 ff e0 e1 e2 e3 x1 r1 b1 x0 r0 b0
  have f3 := x2.c3
  go_upto_region 4 with (fail)
  clear f3
  have hr2 := (hr.below b2).more b2.size
  have hw2 := hw.below b2
  have hb2s := b2.size
  go_wp2_with fail
  go_loopw [4] (fun vi wr => ∃ (k : Nat) (A : Option Addr) (c : Nat), vi = .int .i64 k ∧ k ≤ m ∧ Rd wr wr.heap.size 1 A n c (kcs (puts l (ps.take k))) ∧ (∀ b o, A = some ⟨b, o, none⟩ → KA = some ⟨b, o, none⟩ ∨ w.heap.size + 2 ≤ b) ∧ D4 wr w.heap.size (.slice A n c) (.slice WA m wc) (cntA a) false ∧ D4 wr (w.heap.size + 1) (.slice none 0 0) (.slice none 0 0) 0 false ∧ Below w.heap.size w wr ∧ w.heap.size + 2 ≤ wr.heap.size) (fun vi _ => m - (intOf vi).toNat)
  case atStart => exact ⟨0, KA, kc, rfl, by omega, hr2, fun b o e => .inl e, x2, r2, b2, by omega⟩
  case round =>
    obtain ⟨k, A, c, rfl, hkm, hrk, hA, hx, hr', hb, hsz⟩ := hrel
    have f0 := hx.c0
    have f1 := hx.c1
    have f2 := hx.c2
    have f3 := hx.c3
    by_cases hlt : k < m
    · have hlz : (k : Int) < (m : Int) := by omega
      obtain ⟨p, hkp⟩ : ∃ p, ps[k]? = some p := ⟨ps[k]'(by omega), List.getElem?_eq_getElem (by omega)⟩
      have hww := hw.below hb
      rw [← hm] at hww
      obtain ⟨b2, o2, rfl, hb2, d0, d1⟩ := ws_cells hww hkp
      have hst : puts l (ps.take (k + 1)) = (puts l (ps.take k)).set p.1 p.2 := by rw [List.take_add_one, hkp]; exact puts_snoc _ _ _
      have kp := put_n wr.drew (l := puts l (ps.take k)) (n := n) (by rw [puts_length]; exact hn) p.1 p.2 hrk.drew hl (hp p (List.mem_of_getElem? hkp))
      go_wp2_with fail
      go_still_tail 7, (by kernel_rfl)
      change wpList _ _ _ _ _ wr.drew
      go_wp2_with ((with_reducible refine kp.mono ?_); rintro e w3 ⟨A', c', rfl, ho, hb3⟩; have hb3' : Below wr.heap.size wr w3 := ⟨hb3.os, hb3.tape, hb3.output, hb3.size, hb3.block⟩; have x3 := hx.on hb3'; have r3 := hr'.on hb3'; have b3 := hb.trans (hb3'.mono hb.size); have hs3 := hb3'.size; clear f0 f1 f2 f3 kp hb3; have f0 := x3.c0; have ff := x3.fz)
      have ho' : (w3.setCell ⟨w.heap.size, 0, none⟩ (.slice A' n c')).ownsRow wr.heap.size 9 1 (.slice A' n c') n (kcs ((puts l (ps.take k)).set p.1 p.2)) := own_same ho fun g e => Below.heap_setCell _ _ _ _ (by have : wr.heap.size ≤ g := (ho.lt g e).1; show g ≠ w.heap.size; omega)
      obtain ⟨A2, c2, e2, hrd⟩ := Rd.own ho'
      cases e2
      refine ⟨⟨k + 1, A', c', rfl, by omega, by rw [hst]; exact hrd, fun b o e => .inr (by have : wr.heap.size ≤ b := own_at ho b o e; omega), x3.s0 _, r3.far (by show w.heap.size + 1 ≠ w.heap.size; omega) _, b3.setCell (Nat.le_refl _) _, by simp [World.setCell]; omega⟩, by simp [intOf]; omega⟩
    · obtain rfl : k = m := by omega
      rw [List.take_of_length_le (by omega)] at hrk
      have hAb : ∀ b o, A = some ⟨b, o, none⟩ → b ≠ w.heap.size ∧ b ≠ w.heap.size + 1 := fun b o e => by
        rcases hA b o e with e' | e'
        · have := hkb b o e'; omega
        · omega
      have ff := hx.fz
      go_upto_region 9 with (fail)
      have x5 := hx.s1 (.slice none 0 0)
      have r5 := hr'.far (p := ⟨w.heap.size, 1, none⟩) (by show w.heap.size + 1 ≠ w.heap.size; omega) (.slice none 0 0)
      have b5 := hb.setCell (p := ⟨w.heap.size, 1, none⟩) (Nat.le_refl _) (.slice none 0 0)
      have o5 := rd_far (w' := wr.setCell ⟨w.heap.size, 1, none⟩ (.slice none 0 0)) hrk (g := w.heap.size) (fun j hj => Below.heap_setCell _ _ _ _ hj) (fun b o e => (hAb b o e).1)
      have hs5 : (wr.setCell ⟨w.heap.size, 1, none⟩ (.slice none 0 0)).heap.size = wr.heap.size := by simp [World.setCell]
      generalize wr.setCell ⟨w.heap.size, 1, none⟩ (.slice none 0 0) = V4 at *
      clear f0 f1 f2 f3 ff hx hr' hb hrk
      have f0 := x5.c0
      have f1 := x5.c1
      have f2 := x5.c2
      have f3 := x5.c3
      have g0 := r5.c0
      have g1 := r5.c1
      have g2 := r5.c2
      have g3 := r5.c3
      have gf := r5.fz
      go_wp2_with fail
      have o6 := rd_far (w' := ((((V4.setCell ⟨w.heap.size + 1, 0, none⟩ (.slice A n c)).setCell ⟨w.heap.size + 1, 1, none⟩ (.slice none 0 0)).setCell ⟨w.heap.size + 1, 2, none⟩ (.int .i64 (cntA a))).setCell ⟨w.heap.size + 1, 3, none⟩ (.bool false))) o5 (g := w.heap.size + 1) (fun j hj => by rw [Below.heap_setCell _ _ _ _ hj, Below.heap_setCell _ _ _ _ hj, Below.heap_setCell _ _ _ _ hj, Below.heap_setCell _ _ _ _ hj]) (fun b o e => (hAb b o e).2)
      obtain ⟨V3, hV3, r6, x6, b6, hs6⟩ := four_set r5 x5 (by omega) b5 (Nat.le_succ _) (.slice A n c) (.slice none 0 0) (cntA a) false
      rw [hV3] at o6 ⊢
      have k0 := r6.c0
      have k1 := r6.c1
      have k2 := r6.c2
      have k3 := r6.c3
      refine bodyPost_ret (v := .tuple #[.agg #[.slice A n c, .slice none 0 0, .int .i64 (cntA a), .bool false], .int .i64 0]) (by simp [results, Try.results15, go_sem, k0, k1, k2, k3]; try rfl) rfl ?_
      exact ⟨A, c, rfl, o6.more (by omega), fun b o e => (hA b o e).imp id (fun h => by omega), b6⟩
set_option maxRecDepth 100000 in
theorem refFlush_dead (w : World) {KA WA : Option Addr} {n kc m wc : Nat} (a : Int) (d : Bool) (ha : -9223372036854775808 ≤ a ∧ a ≤ 9223372036854775807) (hd : cntD a d = true) :
    Calls Try.prog 15 #[.agg #[.slice KA n kc, .slice WA m wc, .int .i64 a, .bool d]] w fun e w' => e = .returned (.tuple #[.agg #[.slice KA n kc, .slice WA m wc, .int .i64 (cntA a), .bool true], .int .i64 20]) ∧ Below w.heap.size w w' := by
  go_enter Try.func15, Try.ntmps15
  go_upto_region 1 with (fail)
  obtain ⟨V, hV, x0, r0, b0, hs⟩ := two_laid w (.slice KA n kc) (.slice WA m wc) a d (.slice none 0 0) (.slice none 0 0) 0 false
  rw [hV]
  have e0 := x0.c0
  have e1 := x0.c1
  have e2 := x0.c2
  have e3 := x0.c3
  clear hV
  go_upto_region 2 with ((with_reducible refine (counted_any _ a d ha).mono ?_); rintro e w2 ⟨rfl, hb⟩; have x1 := x0.on hb; have r1 := r0.on hb; have b1 := b0.trans (hb.mono (by omega)); have f0 := x1.c0; have f1 := x1.c1; have f2 := x1.c2; have f3 := x1.c3; have ff := x1.fz; clear hb)
  obtain ⟨V2, hV2, x2, r2, b2, hs2⟩ := four_set x1 r1 (by omega) b1 (Nat.le_refl _) (.slice KA n kc) (.slice WA m wc) (cntA a) true
  rw [hV2]
  clear hV2 f0 f1 f2 f3 ff e0 e1 e2 e3 x1 r1 b1 x0 r0 b0
  have f0 := x2.c0
  have f1 := x2.c1
  have f2 := x2.c2
  have f3 := x2.c3
  have g0 := r2.c0
  have g1 := r2.c1
  have g2 := r2.c2
  have g3 := r2.c3
  have gf := r2.fz
  go_wp2_with fail
  obtain ⟨V3, hV3, r3, x3, b3, hs3⟩ := four_set r2 x2 (by omega) b2 (Nat.le_succ _) (.slice KA n kc) (.slice WA m wc) (cntA a) true
  rw [hV3]
  have k0 := r3.c0
  have k1 := r3.c1
  have k2 := r3.c2
  have k3 := r3.c3
  refine bodyPost_ret (v := _) (by simp [results, Try.results15, go_sem, k0, k1, k2, k3]; try rfl) rfl ?_
  exact ⟨rfl, b3⟩
end Go.Proofs.Ytiehnimkjneonaa
