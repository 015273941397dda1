/- Layer 13, the document's side: Of, what is asked as it has it, Apply. Conditions: no more than a million keys. -/
import Derived.Deep.RegionHeld3
import Derived.Deep.AppendLies
import Derived.Test.YtampggkjlpbbmaaRefW13
namespace Go.Proofs.Ytampggkjlpbbmaa
open Go.RowKit

set_option maxRecDepth 100000 in
set_option maxHeartbeats 1000000 in
theorem rof_any {w : World} {A : Option Addr} {c : Nat} {l : List ByteArray} (h : Rd w w.heap.size 1 A l.length c (ks l)) (hl : l.length ≤ 1000000) :
    Calls Try.prog 10 #[.slice A l.length c] w fun e w' => ListIs w w' (setS l) e := by
  go_enter Try.func10, Try.ntmps10
  go_wp2_with fail
  go_loopw [3, 4] (fun vm vi wx => ∃ (i : Nat) (A' : Option Addr) (c' : Nat) (t : List ByteArray), vi = .int .i64 i ∧ i ≤ l.length ∧ vm = .slice A' t.length c' ∧ Hid (t = setS (l.take i)) ∧ Rd wx wx.heap.size 1 A' t.length c' (ks t) ∧ Below w.heap.size w wx) (fun _ vi _ => l.length - (intOf vi).toNat)
  case atStart => exact ⟨0, none, 0, [], rfl, Nat.zero_le _, rfl, Lib.hid rfl, Rd.none_ _ _ _, Below.refl _ _⟩
  case round =>
    obtain ⟨i, A', c', t, rfl, hi, rfl, ht, hR, hb⟩ := hrel
    have hws := hb.size
    by_cases hil : i < l.length
    · have di : (i : Int) < (l.length : Int) := by omega
      obtain ⟨a, hx⟩ : ∃ a, l[i]? = some a := ⟨_, List.getElem?_eq_getElem hil⟩
      obtain ⟨b1, o1, rfl, _, g1⟩ := rd_key (h.below hb) hx
      have ht2 : Hid (withS t a = setS (l.take (i + 1))) := Lib.hid (by rw [setS_take hx, ht.out])
      have htl : t.length ≤ l.length := by
        have := setS_len (l.take i)
        rw [← ht.out, List.length_take] at this
        omega
      have kw := rwith_any hR (by omega) a
      clear hx ht
      go_wp2_with (go_at_call 21; refine kw.mono ?_; rintro e w2 ⟨A2, c2, rfl, hR2, hb2⟩)
      exact ⟨⟨i + 1, A2, c2, _, by go_num, by omega, rfl, ht2, hR2, bthen hb hws hb2⟩, by simp [intOf]; omega⟩
    · obtain rfl : i = l.length := by omega
      have di : ¬ (((l.length : Nat) : Int) < (l.length : Int)) := by omega
      have ht2 := ht.out
      rw [List.take_length] at ht2
      subst ht2
      clear ht
      go_wp2_with fail
      go_ret
      exact ⟨A', c', rfl, hR, hb⟩

theorem info_C : (Try.prog.info? 49).map (fun i => (i.zero, i.size, i.bytes)) = some (some (.agg #[.string ⟨#[]⟩, .bool false]), 2, 24) := by kernel_rfl
theorem pcs_snocT {l : List (ByteArray × Bool)} {i : Nat} {k : ByteArray} {e : Bool} (h : l[i]? = some (k, e)) : pcs (l.take (i + 1)) = pcs (l.take i) ++ [.string k, .bool e] := by
  rw [List.take_add_one, h, Option.toList_some, pcs_snoc]

set_option maxRecDepth 100000 in
set_option maxHeartbeats 2000000 in
theorem as_any {w : World} {A1 A2 : Option Addr} {c1 c2 : Nat} {p ch : List (ByteArray × Bool)} (h1 : Rd w w.heap.size 2 A1 p.length c1 (pcs p)) (hp : p.length ≤ 100000) (h2 : Rd w w.heap.size 2 A2 ch.length c2 (pcs ch)) (hc : ch.length ≤ 100000) :
    Calls Try.prog 11 #[.slice A1 p.length c1, .slice A2 ch.length c2] w fun e w' => ∃ B1 d1 B2 d2, e = .returned (.tuple #[.slice B1 p.length d1, .slice B2 ch.length d2]) ∧ Rd w' w'.heap.size 2 B1 p.length d1 (pcs p) ∧ Rd w' w'.heap.size 2 B2 ch.length d2 (pcs ch) ∧ Below w.heap.size w w' := by
  obtain ⟨i0, hi0, hz0, hz1, hz2⟩ := info_parts info_C
  go_enter Try.func11, Try.ntmps11
  go_wp2_with fail
  go_loopw [6, 8] (fun vm vi wx => ∃ j : Nat, vi = .int .i64 j ∧ j ≤ p.length ∧ wx.ownsRow w.heap.size 49 2 vm j (pcs (p.take j)) ∧ Below w.heap.size w wx) (fun _ vi _ => p.length - (intOf vi).toNat)
  case atStart => exact ⟨0, rfl, Nat.zero_le _, World.ownsRow_nil _ _ _ _, Below.refl _ _⟩
  case round =>
    obtain ⟨j, rfl, hj, hO, hbx⟩ := hrel
    have hws := hbx.size
    by_cases hjl : j < p.length
    · have dj : (j : Int) < (p.length : Int) := by omega
      obtain ⟨⟨k, e⟩, hx⟩ : ∃ x, p[j]? = some x := ⟨_, List.getElem?_eq_getElem hjl⟩
      obtain ⟨b, o, rfl, hb1, g0, g1⟩ := rd_pair (h1.below hbx) hx
      dsimp only at g0 g1
      have hsn := Lib.hid (pcs_snocT hx)
      obtain ⟨A5, c5, rfl, _⟩ := Rd.own hO
      have ag : (Value.slice A5 j c5).ownBlock ≠ some b := fun e => by have := (hO.lt b e).1; omega
      clear hx
      go_upto_region 6 with (fail)
      go_region_held3 (fun w' => w'.cell? ⟨b, o + j * 2, none⟩ = some (.string k) ∧ w'.cell? ⟨b, o + j * 2 + 1, none⟩ = some (.bool e))
        (first
          | go_keep
          | (go_split_ands
             refine ⟨?_, ?_⟩ <;> (rw [hgrow.cell_far _ (by simp; omega) (Ne.symm ag)]; assumption))
          | fail)
        ((refine step_append_lies _ (by rfl) _ _ _ (by rfl) w.heap.size 49 i0 _ 2 24 Try.underlying29 hi0 hz0 hz1 hz2 rfl (by omega) (.slice A5 j c5) j (pcs (p.take j)) (by rfl) ((hO.alloc _).drew)
              ⟨wr.heap.size, 0, none⟩ 1 1 [.string k, .bool e] (by rfl) (by rfl) (World.news_of_block (cs := #[.string k, .bool e]) (t := 49) (fr := (0, 0)) (heap_alloc_new wr _)) (by simp [Value.oneCell'])
              (by omega) (by simp only [maxLen]; omega) (by omega) (by simp; omega) (wr.heap.size + 1) (by simp) ?_; intro gg cap w8 hown8 hgrow hat hlt))
      go_wp2_with fail
      have hO9 : w8.ownsRow w.heap.size 49 2 (.slice (some ⟨gg, 0, none⟩) (j + 1) cap) (j + 1) (pcs (p.take (j + 1))) := by
        rw [hsn.out]
        exact hown8
      have hb9 := below_of_own ((hbx.alloc hws (.cells #[.string k, .bool e] 49)).drew) hgrow ((hO.alloc _).drew) (by simp; omega) (Nat.le_refl _)
      exact ⟨⟨j + 1, by go_num, by omega, hO9, hb9⟩, by simp [intOf]; omega⟩
    · obtain rfl : j = p.length := by omega
      have dj : ¬ (((p.length : Nat) : Int) < (p.length : Int)) := by omega
      rw [List.take_length] at hO
      obtain ⟨B1, d1, rfl, hR1⟩ := Rd.own hO
      have h2x := h2.up hbx
      obtain ⟨wb, hwb⟩ : ∃ wb, wr = wb := ⟨_, rfl⟩
      rw [hwb] at hR1 h2x hbx ⊢
      clear hwb hO hws h1 h2
      go_wp2_with fail
      go_loopw [7, 9] (fun vm vi wx => ∃ j : Nat, vi = .int .i64 j ∧ j ≤ ch.length ∧ wx.ownsRow wb.heap.size 49 2 vm j (pcs (ch.take j)) ∧ Below wb.heap.size wb wx) (fun _ vi _ => ch.length - (intOf vi).toNat)
      case atStart => exact ⟨0, rfl, Nat.zero_le _, World.ownsRow_nil _ _ _ _, Below.refl _ _⟩
      case round =>
        obtain ⟨j, rfl, hj, hO, hby⟩ := hrel
        have hws := hby.size
        by_cases hjl : j < ch.length
        · have dj : (j : Int) < (ch.length : Int) := by omega
          obtain ⟨⟨k, e⟩, hx⟩ : ∃ x, ch[j]? = some x := ⟨_, List.getElem?_eq_getElem hjl⟩
          obtain ⟨b, o, rfl, hb1, g0, g1⟩ := rd_pair (h2x.below hby) hx
          dsimp only at g0 g1
          have hsn := Lib.hid (pcs_snocT hx)
          obtain ⟨A5, c5, rfl, _⟩ := Rd.own hO
          have ag : (Value.slice A5 j c5).ownBlock ≠ some b := fun e => by have := (hO.lt b e).1; omega
          clear hx hR1
          go_upto_region 10 with (fail)
          go_region_held3 (fun w' => w'.cell? ⟨b, o + j * 2, none⟩ = some (.string k) ∧ w'.cell? ⟨b, o + j * 2 + 1, none⟩ = some (.bool e))
            (first
              | go_keep
              | (go_split_ands
                 refine ⟨?_, ?_⟩ <;> (rw [hgrow.cell_far _ (by simp; omega) (Ne.symm ag)]; assumption))
              | fail)
            ((refine step_append_lies _ (by rfl) _ _ _ (by rfl) wb.heap.size 49 i0 _ 2 24 Try.underlying29 hi0 hz0 hz1 hz2 rfl (by omega) (.slice A5 j c5) j (pcs (ch.take j)) (by rfl) ((hO.alloc _).drew)
                  ⟨wr.heap.size, 0, none⟩ 1 1 [.string k, .bool e] (by rfl) (by rfl) (World.news_of_block (cs := #[.string k, .bool e]) (t := 49) (fr := (0, 0)) (heap_alloc_new wr _)) (by simp [Value.oneCell'])
                  (by omega) (by simp only [maxLen]; omega) (by omega) (by simp; omega) (wr.heap.size + 1) (by simp) ?_; intro gg cap w8 hown8 hgrow hat hlt))
          go_wp2_with fail
          have hO9 : w8.ownsRow wb.heap.size 49 2 (.slice (some ⟨gg, 0, none⟩) (j + 1) cap) (j + 1) (pcs (ch.take (j + 1))) := by
            rw [hsn.out]
            exact hown8
          have hb9 := below_of_own ((hby.alloc hws (.cells #[.string k, .bool e] 49)).drew) hgrow ((hO.alloc _).drew) (by simp; omega) (Nat.le_refl _)
          exact ⟨⟨j + 1, by go_num, by omega, hO9, hb9⟩, by simp [intOf]; omega⟩
        · obtain rfl : j = ch.length := by omega
          have dj : ¬ (((ch.length : Nat) : Int) < (ch.length : Int)) := by omega
          rw [List.take_length] at hO
          obtain ⟨B2, d2, rfl, hR2⟩ := Rd.own hO
          go_wp2_with fail
          go_ret2
          exact ⟨B1, d1, B2, d2, rfl, hR1.up hby, hR2, bthen hbx hbx.size hby⟩

set_option maxRecDepth 100000 in
set_option maxHeartbeats 2000000 in
theorem rapply_any {w : World} {A A1 A2 : Option Addr} {c c1 c2 : Nat} {s : List ByteArray} {p ch : List (ByteArray × Bool)} (h : Rd w w.heap.size 1 A s.length c (ks s)) (hl : s.length ≤ 500000)
    (h1 : Rd w w.heap.size 2 A1 p.length c1 (pcs p)) (hp : p.length ≤ 100000) (h2 : Rd w w.heap.size 2 A2 ch.length c2 (pcs ch)) (hc : ch.length ≤ 100000) :
    Calls Try.prog 13 #[.slice A s.length c, .slice A1 p.length c1, .slice A2 ch.length c2] w fun e w' => AppIs w w' (appS s p ch) e := by
  obtain ⟨r, hr⟩ : ∃ r, appS s p ch = r := ⟨_, rfl⟩
  rw [hr]
  have hr := Lib.hid hr
  have kh := fun (W : World) (hW : Below w.heap.size w W) (k : ByteArray) => rhas_any (h.below hW) rfl (by omega) k
  go_enter Try.func13, Try.ntmps13
  go_wp2_with fail
  go_loopw [9] (fun vi wx => ∃ i : Nat, vi = .int .i64 i ∧ i ≤ p.length ∧ Below w.heap.size w wx ∧ Hid (∀ (j : Nat) y, j < i → p[j]? = some y → hasK s y.1 = y.2)) (fun vi _ => p.length - (intOf vi).toNat)
  case atStart => exact ⟨0, rfl, Nat.zero_le _, Below.refl _ _, Lib.hid fun j y hj => by omega⟩
  case round =>
    obtain ⟨i, rfl, hi, hb, ha⟩ := hrel
    have hws := hb.size
    by_cases hil : i < p.length
    · have di : (i : Int) < (p.length : Int) := by omega
      obtain ⟨x, hx⟩ : ∃ x, p[i]? = some x := ⟨_, List.getElem?_eq_getElem hil⟩
      obtain ⟨b1, o1, rfl, hlb, g0, g1⟩ := rd_pair (h1.below hb) hx
      obtain ⟨k, e⟩ := x
      dsimp only at g0 g1
      have kq := fun q => kh (wr.drewN q) (hb.trans (drewN_below _ _ _)) k
      by_cases hke : hasK s k = e
      · have ha2 : Hid (∀ (j : Nat) y, j < i + 1 → p[j]? = some y → hasK s y.1 = y.2) := Lib.hid fun j y hj hy => by
          by_cases q : j = i
          · subst q
            rw [hx] at hy
            cases hy
            exact hke
          · exact ha.out j y (by omega) hy
        rw [hke] at kq
        clear ha hx hke kh
        cases e
        · go_upto_region 4 with (fail)
          go_quiet ((go_at_call 16; exact Calls.quiet_of (kq _)))
          go_wp2_with fail
          exact ⟨⟨i + 1, by go_num, by omega, hb.trans (drewN_below _ _ _), ha2⟩, by simp [intOf]; omega⟩
        · go_upto_region 4 with (fail)
          go_quiet ((go_at_call 16; exact Calls.quiet_of (kq _)))
          go_wp2_with fail
          exact ⟨⟨i + 1, by go_num, by omega, hb.trans (drewN_below _ _ _), ha2⟩, by simp [intOf]; omega⟩
      · have hrr : Hid (r = ([], 41, i)) := Lib.hid (by rw [← hr.out, appS, preS_some ha.out hx hke])
        have hke2 : hasK s k = !e := (by cases q1 : hasK s k <;> cases e <;> simp_all)
        rw [hke2] at kq
        clear ha hx hke kh hke2 hr
        cases e
        · go_upto_region 4 with (fail)
          go_quiet ((go_at_call 16; exact Calls.quiet_of (kq _)))
          go_wp2_with fail
          go_returns
          rw [hrr.out]
          exact ⟨none, 0, rfl, Rd.none_ _ _ _, hb.trans (drewN_below _ _ _)⟩
        · go_upto_region 4 with (fail)
          go_quiet ((go_at_call 16; exact Calls.quiet_of (kq _)))
          go_wp2_with fail
          go_returns
          rw [hrr.out]
          exact ⟨none, 0, rfl, Rd.none_ _ _ _, hb.trans (drewN_below _ _ _)⟩
    · obtain rfl : i = p.length := by omega
      have di : ¬ (((p.length : Nat) : Int) < (p.length : Int)) := by omega
      have hrr : Hid (chgS s ch p.length = r) := Lib.hid (by
        have hn : preS s p = none := preS_none fun x hx => by
          obtain ⟨j, hj, e⟩ := List.getElem_of_mem hx
          exact ha.out j x hj (by rw [List.getElem?_eq_getElem hj, e])
        rw [← hr.out, appS, hn])
      have hRs := h.up hb
      clear ha hr hi h1 h kh
      go_wp2_with fail
      go_loopw [0, 10] (fun vl vi wx => ∃ (j : Nat) (t : List ByteArray) (A' : Option Addr) (c' : Nat), vi = .int .i64 j ∧ vl = .slice A' t.length c' ∧ j ≤ ch.length ∧ t.length ≤ s.length + j ∧ Below w.heap.size w wx ∧ Rd wx wx.heap.size 1 A' t.length c' (ks t) ∧ Hid (chgS t (ch.drop j) (p.length + j) = r)) (fun _ vi _ => ch.length - (intOf vi).toNat)
      case atStart => exact ⟨0, s, A, c, rfl, rfl, Nat.zero_le _, Nat.le_refl _, hb, hRs, hrr⟩
      case round =>
        obtain ⟨j, t, A', c', rfl, rfl, hj, htl, hb2, hRt, hrj⟩ := hrel
        clear hb hRs hrr hws
        have hws := hb2.size
        by_cases hjl : j < ch.length
        · have dj : (j : Int) < (ch.length : Int) := by omega
          obtain ⟨x, hx⟩ : ∃ x, ch[j]? = some x := ⟨_, List.getElem?_eq_getElem hjl⟩
          obtain ⟨b1, o1, rfl, hlb, g0, g1⟩ := rd_pair (h2.below hb2) hx
          have hdr := drop_at hx
          obtain ⟨k, e⟩ := x
          dsimp only at g0 g1
          obtain ⟨p0, p1⟩ := box2 wr (.string k) (.bool e) 49
          have hb3 := hb2.alloc hws (.cells #[.string k, .bool e] 49)
          have hR3 := hRt.up (bnew wr (.cells #[.string k, .bool e] 49))
          have hlt3 : wr.heap.size < (wr.alloc (.cells #[.string k, .bool e] 49)).heap.size := by simp
          obtain ⟨W1, hW1⟩ : ∃ W1, wr.alloc (.cells #[.string k, .bool e] 49) = W1 := ⟨_, rfl⟩
          rw [hW1] at p0 p1 hb3 hR3 hlt3
          replace hW1 := Lib.hid hW1
          have kk := rhas_any hR3 rfl (by omega) k
          have kput := fun (W : World) (hW : Below W1.heap.size W1 W) => rwith_any (hR3.up hW) (by omega) k
          have kout := fun (W : World) (hW : Below W1.heap.size W1 W) => rout_any (hR3.up hW) (by omega) k
          have hcell : ∀ W, Below W1.heap.size W1 W → W.cell? ⟨wr.heap.size, 0, none⟩ = some (.string k) ∧ W.cell? ⟨wr.heap.size, 1, none⟩ = some (.bool e) := fun W hW => ⟨(hW.cell hlt3).trans p0, (hW.cell hlt3).trans p1⟩
          by_cases hke : hasK t k = !e
          · have hone : (if e then withS t k else outS t k) = oneS t (k, e) := by
              cases e
              · rfl
              · show withS t k = putS t k
                unfold withS
                rw [hke]
                rfl
            have hlen := oneS_len t (k, e)
            have hr2 : Hid (chgS (if e then withS t k else outS t k) (ch.drop (j + 1)) (p.length + (j + 1)) = r) := Lib.hid (by rw [hone, ← hrj.out, hdr, chgS_ok (c := (k, e)) hke]; rfl)
            rw [← hone] at hlen
            rw [hke] at kk
            replace hlen := Lib.hid hlen
            replace kk := kk.mono fun e9 w9 ⟨he, q, hw⟩ => (⟨he, by rw [hw]; exact drewN_below _ _ _⟩ : e9 = _ ∧ Below W1.heap.size W1 w9)
            clear hdr hx hke hrj hRt hR3 hone
            cases e
            · simp only [Bool.false_eq_true, if_false] at hlen hr2
              go_upto_region 10 with (fail)
              rw [hW1.out]
              clear hW1 g0 g1
              go_wp2_with (first
                | (go_at_call 16; refine kk.mono ?_; rintro e9 w4 ⟨rfl, hb4⟩; obtain ⟨z0, z1⟩ := hcell _ hb4)
                | (go_at_call 24; refine (kout _ hb4).mono ?_; rintro e9 w5 ⟨A5, c5, rfl, hR5, hb5⟩)
                | fail)
              exact ⟨⟨j + 1, outS t k, A5, c5, by go_num, rfl, by omega, by have := hlen.out; omega, bthen hb3 hb3.size (bthen hb4 hb4.size hb5), hR5, hr2⟩, by simp [intOf]; omega⟩
            · simp only [if_true] at hlen hr2
              go_upto_region 10 with (fail)
              rw [hW1.out]
              clear hW1 g0 g1
              go_wp2_with (first
                | (go_at_call 16; refine kk.mono ?_; rintro e9 w4 ⟨rfl, hb4⟩; obtain ⟨z0, z1⟩ := hcell _ hb4)
                | (go_at_call 21; refine (kput _ hb4).mono ?_; rintro e9 w5 ⟨A5, c5, rfl, hR5, hb5⟩)
                | fail)
              exact ⟨⟨j + 1, withS t k, A5, c5, by go_num, rfl, by omega, by have := hlen.out; omega, bthen hb3 hb3.size (bthen hb4 hb4.size hb5), hR5, hr2⟩, by simp [intOf]; omega⟩
          · have hke2 : hasK t k = e := by cases q1 : hasK t k <;> cases e <;> simp_all
            have hr2 : Hid (r = ([], if e then 32 else 41, p.length + j)) := Lib.hid (by rw [← hrj.out, hdr, chgS_bad (c := (k, e)) hke2])
            rw [hke2] at kk
            replace kk := kk.mono fun e9 w9 ⟨he, q, hw⟩ => (⟨he, by rw [hw]; exact drewN_below _ _ _⟩ : e9 = _ ∧ Below W1.heap.size W1 w9)
            clear hdr hx hke hke2 hrj hRt hR3
            cases e
            · go_upto_region 10 with (fail)
              rw [hW1.out]
              clear hW1 g0 g1
              go_wp2_with (go_at_call 16; refine kk.mono ?_; rintro e9 w4 ⟨rfl, hb4⟩; obtain ⟨z0, z1⟩ := hcell _ hb4)
              go_returns
              rw [hr2.out]
              exact ⟨none, 0, rfl, Rd.none_ _ _ _, bthen hb3 hb3.size hb4⟩
            · go_upto_region 10 with (fail)
              rw [hW1.out]
              clear hW1 g0 g1
              go_wp2_with (go_at_call 16; refine kk.mono ?_; rintro e9 w4 ⟨rfl, hb4⟩; obtain ⟨z0, z1⟩ := hcell _ hb4)
              go_returns
              rw [hr2.out]
              exact ⟨none, 0, rfl, Rd.none_ _ _ _, bthen hb3 hb3.size hb4⟩
        · obtain rfl : j = ch.length := by omega
          have dj : ¬ (((ch.length : Nat) : Int) < (ch.length : Int)) := by omega
          have hrt : r = (t, 0, 0) := by
            rw [← hrj.out, List.drop_length]
            rfl
          subst hrt
          clear hrj
          go_wp2_with fail
          go_returns
          exact ⟨A', c', rfl, hRt, hb2⟩
end Go.Proofs.Ytampggkjlpbbmaa
