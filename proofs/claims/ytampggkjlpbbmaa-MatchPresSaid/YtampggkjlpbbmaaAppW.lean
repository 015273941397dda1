/- Layer 13: what Apply answers. Conditions: no more than a million keys, a hundred thousand changes, names that a form reads. -/
import Derived.Maps.Own
import Derived.Test.YtampggkjlpbbmaaDraftW
namespace Go.Proofs.Ytampggkjlpbbmaa
open Go.RowKit

/-- What Apply answers. -/
def AppIs (w w' : World) (r : List ByteArray × Nat × Nat) (e : Ending) : Prop := ∃ A c, e = .returned (.tuple #[.slice A r.1.length c, .int .i64 (r.2.1 : Nat), .int .i64 (r.2.2 : Nat)]) ∧ Rd w' w'.heap.size 1 A r.1.length c (ks r.1) ∧ Below w.heap.size w w'
theorem doing_any (k : ByteArray) (b : Bool) (w : World) : Calls Try.prog 22 #[.agg #[.string k, .bool b]] w fun e w' => e = .returned (.func (.func (if b then 28 else 29)) #[] #[]) ∧ w' = w.alloc (.cells #[.string k, .bool b] 40) := by
  cases b
  · go_enter Try.func22, Try.ntmps22
    go_wp2_with fail
    go_ret
    exact ⟨rfl, rfl⟩
  · go_enter Try.func22, Try.ntmps22
    go_wp2_with fail
    go_ret
    exact ⟨rfl, rfl⟩
theorem ddo_any {w : World} {A : Option Addr} {n c b mm B : Nat} {s : List ByteArray} {T : ByteArray → Bool} {k : ByteArray} (add : Bool) (h : Rd w B 1 A n c (ks s)) (hB : B ≤ w.heap.size) (hn : n = s.length) (hs : Rises s) (hl : n ≤ 1000000) (hM : MapT w b mm T) (hmm : mm < 1000000) (hk : k.size ≤ maxLen) :
    Calls Try.prog (if add then 28 else 29) #[.agg #[.slice A n c, .map (some b)], .string k] w fun e w' => ∃ z, e = .returned (.int .i64 z) ∧ Step w w' b mm T k (hasK s k != T k) add z ∧ w.grownBy w' (some b) := by
  cases add
  · exact ddrop_any h hB hn hs hl hM hmm hk
  · exact dput_any h hB hn hs hl hM hmm hk
theorem step_done {w w' : World} {b mm : Nat} {T : ByteArray → Bool} {k : ByteArray} {add : Bool} {z : Int} {e : Ending} (he : e = .returned (.int .i64 z)) (h : Step w w' b mm T k (!add) add z) (hg : w.grownBy w' (some b)) : e = .returned (.int .i64 0) ∧ MapT w' b (mm + 1) (flipT T k) ∧ w.grownBy w' (some b) := by
  cases h with
  | done h hM _ => exact ⟨he, hM, hg⟩
  | not h => cases add <;> cases h
theorem step_not {w w' : World} {b mm : Nat} {T : ByteArray → Bool} {k : ByteArray} {add : Bool} {z : Int} {e : Ending} (he : e = .returned (.int .i64 z)) (h : Step w w' b mm T k add add z) (hg : w.grownBy w' (some b)) : e = .returned (.int .i64 (if add then 32 else 41)) ∧ w.grownBy w' (some b) := by
  cases h with
  | done h hM _ => cases add <;> cases h
  | not h => exact ⟨he, hg⟩
/-- The set as it is by now, and the keys that were turned. -/
structure Now (s t : List ByteArray) (T : ByteArray → Bool) : Prop where
  rises : Rises t
  has : ∀ k : ByteArray, k.size ≤ maxLen → hasK t k = (hasK s k != T k)
  small : ∀ k ∈ t, k.size ≤ maxLen
theorem Now.start {s : List ByteArray} (h : Rises s) (hk : ∀ k ∈ s, k.size ≤ maxLen) : Now s s fun _ => false := ⟨h, fun k _ => by cases hasK s k <;> rfl, hk⟩
theorem Now.step {s t : List ByteArray} {T : ByteArray → Bool} {c : ByteArray × Bool} (h : Now s t T) (hc : c.1.size ≤ maxLen) (k : hasK t c.1 = !c.2) : Now s (oneS t c) (flipT T c.1) := by
  refine ⟨oneS_rises h.rises k, fun x hx => ?_, fun x hx => ?_⟩
  · rw [oneS_has k]
    unfold flipT
    by_cases e : x = c.1
    · rw [if_pos e, if_pos e, e]
      have h2 := h.has c.1 hc
      rw [k] at h2
      cases q1 : c.2 <;> cases q2 : T c.1 <;> cases q3 : hasK s c.1 <;> simp_all
    · rw [if_neg e, if_neg e, h.has x hx]
  · rcases Decidable.em (x = c.1) with e | e
    · rw [e]; exact hc
    · have := oneS_has k x
      rw [if_neg e, hasK_iff.2 hx] at this
      exact h.small x (hasK_iff.1 this.symm)
theorem Now.end_ {s t r : List ByteArray} {T : ByteArray → Bool} (h : Now s t T) (hk : ∀ k ∈ s, k.size ≤ maxLen) (hr : Rises r) (h2 : ∀ k : ByteArray, hasK r k = (hasK s k != (decide (k.size ≤ maxLen) && T k))) : r = t := by
  refine rises_eq hr h.rises fun k => ?_
  rw [← hasK_iff, ← hasK_iff, h2 k]
  by_cases e : k.size ≤ maxLen
  · rw [decide_eq_true e, Bool.true_and, h.has k e]
  · rw [decide_eq_false e, Bool.false_and]
    have h3 : hasK s k = false := hasK_not.2 fun q => e (hk k q)
    have h4 : hasK t k = false := hasK_not.2 fun q => e (h.small k q)
    rw [h3, h4]
    rfl

set_option maxRecDepth 100000 in
set_option maxHeartbeats 2000000 in
theorem apply_any {w : World} {A A1 A2 : Option Addr} {c c1 c2 : Nat} {s : List ByteArray} {p ch : List (ByteArray × Bool)} (h : Rd w w.heap.size 1 A s.length c (ks s)) (hs : Rises s) (hsk : ∀ k ∈ s, k.size ≤ maxLen) (hl : s.length ≤ 500000)
    (h1 : Rd w w.heap.size 2 A1 p.length c1 (pcs p)) (hp : p.length ≤ 100000) (h2 : Rd w w.heap.size 2 A2 ch.length c2 (pcs ch)) (hc : ch.length ≤ 100000) (hck : ∀ x ∈ ch, x.1.size ≤ maxLen) :
    Calls Try.prog 12 #[.slice A s.length c, .slice A1 p.length c1, .slice A2 ch.length c2] w fun e w' => AppIs w w' (appS s p ch) e := by
  have hmm := @run_makeMap Try.prog
  obtain ⟨r, hr⟩ : ∃ r, appS s p ch = r := ⟨_, rfl⟩
  rw [hr]
  have hr := Lib.hid hr
  have kh := fun (W : World) (hW : Below w.heap.size w W) (k : ByteArray) => has_any (h.below hW) rfl hs (by omega) k
  go_enter Try.func12, Try.ntmps12
  go_wp2_with fail
  go_loopw [18] (fun vi wx => ∃ i : Nat, vi = .int .i64 i ∧ i ≤ p.length ∧ Below w.heap.size w wx ∧ Hid (∀ (j : Nat) y, j < i → p[j]? = some y → hasK s y.1 = y.2)) (fun vi _ => p.length - (intOf vi).toNat)
  case atStart => exact ⟨0, rfl, Nat.zero_le _, Below.refl _ _, Lib.hid fun j y hj => by omega⟩
  case round =>
    obtain ⟨i, rfl, hi, hb, ha⟩ := hrel
    have hws := hb.size
    by_cases hil : i < p.length
    · have di : (i : Int) < (p.length : Int) := by omega
      obtain ⟨x, hx⟩ : ∃ x, p[i]? = some x := ⟨_, List.getElem?_eq_getElem hil⟩
      obtain ⟨b1, o1, rfl, hlb, g0, g1⟩ := rd_pair (h1.below hb) hx
      obtain ⟨k, e⟩ := x
      dsimp only at g0 g1
      obtain ⟨W1, hW1⟩ : ∃ W1, wr.alloc (.cells #[.string k, .bool e] 46) = W1 := ⟨_, rfl⟩
      obtain ⟨p0, p1⟩ := box2 wr (.string k) (.bool e) 46
      rw [hW1] at p0 p1
      have hb1 : Below w.heap.size w W1 := hW1 ▸ hb.alloc hws _
      replace hW1 := Lib.hid hW1
      have kq := fun q => kh (W1.drewN q) (hb1.trans (drewN_below _ _ _)) k
      by_cases hke : hasK s k = e
      · have ha2 : Hid (∀ (j : Nat) y, j < i + 1 → p[j]? = some y → hasK s y.1 = y.2) := Lib.hid fun j y hj hy => by
          by_cases q : j = i
          · subst q
            rw [hx] at hy
            cases hy
            exact hke
          · exact ha.out j y (by omega) hy
        rw [hke] at kq
        clear ha hx hke kh
        cases e
        · go_upto_region 4 with (fail)
          rw [hW1.out]
          clear hW1 g0 g1
          go_quiet ((go_at_call 15; exact Calls.quiet_of (kq _)))
          go_wp2_with fail
          exact ⟨⟨i + 1, by go_num, by omega, hb1.trans (drewN_below _ _ _), ha2⟩, by simp [intOf]; omega⟩
        · go_upto_region 4 with (fail)
          rw [hW1.out]
          clear hW1 g0 g1
          go_quiet ((go_at_call 15; exact Calls.quiet_of (kq _)))
          go_wp2_with fail
          exact ⟨⟨i + 1, by go_num, by omega, hb1.trans (drewN_below _ _ _), ha2⟩, by simp [intOf]; omega⟩
      · have hrr : Hid (r = ([], 41, i)) := Lib.hid (by rw [← hr.out, appS, preS_some ha.out hx hke])
        have hke2 : hasK s k = !e := (by cases q1 : hasK s k <;> cases e <;> simp_all)
        rw [hke2] at kq
        clear ha hx hke kh hke2 hr
        cases e
        · go_upto_region 4 with (fail)
          rw [hW1.out]
          clear hW1 g0 g1
          go_quiet ((go_at_call 15; exact Calls.quiet_of (kq _)))
          go_wp2_with fail
          go_returns
          rw [hrr.out]
          exact ⟨none, 0, rfl, Rd.none_ _ _ _, hb1.trans (drewN_below _ _ _)⟩
        · go_upto_region 4 with (fail)
          rw [hW1.out]
          clear hW1 g0 g1
          go_quiet ((go_at_call 15; exact Calls.quiet_of (kq _)))
          go_wp2_with fail
          go_returns
          rw [hrr.out]
          exact ⟨none, 0, rfl, Rd.none_ _ _ _, hb1.trans (drewN_below _ _ _)⟩
    · obtain rfl : i = p.length := by omega
      have di : ¬ (((p.length : Nat) : Int) < (p.length : Int)) := by omega
      have hrr : Hid (chgS s ch p.length = r) := Lib.hid (by
        have hn : preS s p = none := preS_none fun x hx => by
          obtain ⟨j, hj, e⟩ := List.getElem_of_mem hx
          exact ha.out j x hj (by rw [List.getElem?_eq_getElem hj, e])
        rw [← hr.out, appS, hn])
      have hM0 : MapT ((wr.alloc (.map #[] 0)).alloc (.cells #[.slice A s.length c, .map (some wr.heap.size)] 52)) wr.heap.size 0 fun _ => false :=
        MapT.alloc ⟨.map [], 0, Nat.le_refl _, World.ownsMap_made wr _ _ _, Nat.le_refl _, fun _ _ => rfl⟩ _
      obtain ⟨d0, d1⟩ := box2 (wr.alloc (.map #[] 0)) (.slice A s.length c) (.map (some wr.heap.size)) 52
      have hb2 := (hb.alloc hws (.map #[] 0)).alloc (size_alloc hws) (.cells #[.slice A s.length c, .map (some wr.heap.size)] 52)
      obtain ⟨bm, hbm⟩ : ∃ bm, wr.heap.size = bm := ⟨_, rfl⟩
      have hne : bm ≠ bm + 1 := by omega
      simp only [World.size_alloc] at d0 d1
      rw [hbm] at hM0 d0 d1 hb2 hws
      have hN := Lib.hid (Now.start hs hsk)
      have hbmB : w.heap.size ≤ bm := hws
      clear ha hr hi h1 kh hb hne hws
      go_wp2_with fail
      clear hmm hbm
      go_loopw [37] (fun vi wx => ∃ (j : Nat) (t : List ByteArray) (T : ByteArray → Bool), vi = .int .i64 j ∧ j ≤ ch.length ∧ Below w.heap.size w wx ∧ MapT wx bm j T ∧ wx.cell? ⟨bm + 1, 0, none⟩ = some (.slice A s.length c) ∧ wx.cell? ⟨bm + 1, 1, none⟩ = some (.map (some bm)) ∧ Hid (Now s t T) ∧ Hid (chgS t (ch.drop j) (p.length + j) = r)) (fun vi _ => ch.length - (intOf vi).toNat)
      case atStart => exact ⟨0, s, _, rfl, Nat.zero_le _, hb2, hM0, d0, d1, hN, hrr⟩
      case round =>
        obtain ⟨j, t, T, rfl, hj, hb, hM, e0, e1, hNow, hrj⟩ := hrel
        clear hM0 d0 d1 hb2 hN hrr
        have hws := hb.size
        have hbl := hM.lt
        by_cases hjl : j < ch.length
        · have dj : (j : Int) < (ch.length : Int) := by omega
          obtain ⟨x, hx⟩ : ∃ x, ch[j]? = some x := ⟨_, List.getElem?_eq_getElem hjl⟩
          obtain ⟨b1, o1, rfl, hlb, g0, g1⟩ := rd_pair (h2.below hb) hx
          have hxk := hck x (List.mem_of_getElem? hx)
          have hdr := drop_at hx
          obtain ⟨k, e⟩ := x
          dsimp only at g0 g1 hxk
          have hn1 := hNow.out
          have hT := hn1.has k hxk
          obtain ⟨p0, p1⟩ := box2 wr (.string k) (.bool e) 40
          have hb3 := hb.alloc hws (.cells #[.string k, .bool e] 40)
          have hM3 := hM.alloc (.cells #[.string k, .bool e] 40)
          have hbe1 : bm + 1 < wr.heap.size := World.block_lt_of_cell? wr _ e0
          have f0 : (wr.alloc (.cells #[.string k, .bool e] 40)).cell? ⟨bm + 1, 0, none⟩ = some (.slice A s.length c) := Lib.cell?_alloc_some _ e0
          have f1 : (wr.alloc (.cells #[.string k, .bool e] 40)).cell? ⟨bm + 1, 1, none⟩ = some (.map (some bm)) := Lib.cell?_alloc_some _ e1
          have hlt3 : wr.heap.size < (wr.alloc (.cells #[.string k, .bool e] 40)).heap.size := by simp
          obtain ⟨W1, hW1⟩ : ∃ W1, wr.alloc (.cells #[.string k, .bool e] 40) = W1 := ⟨_, rfl⟩
          rw [hW1] at p0 p1 hb3 hM3 f0 f1 hlt3
          obtain ⟨W2, hW2⟩ : ∃ W2, W1.alloc (.cells #[.string k, .bool e] 40) = W2 := ⟨_, rfl⟩
          have r0 : W2.cell? ⟨wr.heap.size, 0, none⟩ = some (.string k) := hW2 ▸ Lib.cell?_alloc_some _ p0
          have q0 : W2.cell? ⟨bm + 1, 0, none⟩ = some (.slice A s.length c) := hW2 ▸ Lib.cell?_alloc_some _ f0
          have q1 : W2.cell? ⟨bm + 1, 1, none⟩ = some (.map (some bm)) := hW2 ▸ Lib.cell?_alloc_some _ f1
          have hb4 : Below w.heap.size w W2 := hW2 ▸ hb3.alloc hb3.size _
          have hM4 : MapT W2 bm j T := hW2 ▸ hM3.alloc _
          have kd := doing_any k e W1
          rw [hW2] at kd
          have kp := ddo_any e (h.below hb4) hb4.size rfl hs (by omega) hM4 (by omega) hxk
          rw [← hT] at kp
          replace hW1 := Lib.hid hW1
          by_cases hke : hasK t k = !e
          · have hN2 : Hid (Now s (oneS t (k, e)) (flipT T k)) := Lib.hid (hn1.step (c := (k, e)) hxk hke)
            have hr2 : Hid (chgS (oneS t (k, e)) (ch.drop (j + 1)) (p.length + (j + 1)) = r) := Lib.hid (by rw [← hrj.out, hdr, chgS_ok (c := (k, e)) hke]; rfl)
            rw [hke] at kp
            replace kp := kp.mono fun e9 w9 ⟨z, he, hst, hg⟩ => step_done he hst hg
            clear hdr hx hT hke hn1 hNow hrj hM hM3 hM4 e0 e1 hb hb3 hws hbe1 hW2
            cases e
            · go_upto_region 11 with (fail)
              rw [hW1.out]
              clear hW1 g0 g1
              go_wp2_with (first
                | (go_at_call 22; refine kd.mono ?_; rintro e9 w4 ⟨rfl, rfl⟩)
                | (go_at_call 29; refine kp.mono ?_; rintro e9 w5 ⟨rfl, hM5, hg5⟩)
                | fail)
              have hb5 := hb4.grown hg5 hb4.size fun k hk => (by cases hk; exact hbmB)
              exact ⟨⟨j + 1, oneS t (k, false), flipT T k, by go_num, by omega, hb5, hM5, hg5.cell q0 (by simp), hg5.cell q1 (by simp), hN2, hr2⟩, by simp [intOf]; omega⟩
            · go_upto_region 11 with (fail)
              rw [hW1.out]
              clear hW1 g0 g1
              go_wp2_with (first
                | (go_at_call 22; refine kd.mono ?_; rintro e9 w4 ⟨rfl, rfl⟩)
                | (go_at_call 28; refine kp.mono ?_; rintro e9 w5 ⟨rfl, hM5, hg5⟩)
                | fail)
              have hb5 := hb4.grown hg5 hb4.size fun k hk => (by cases hk; exact hbmB)
              exact ⟨⟨j + 1, oneS t (k, true), flipT T k, by go_num, by omega, hb5, hM5, hg5.cell q0 (by simp), hg5.cell q1 (by simp), hN2, hr2⟩, by simp [intOf]; omega⟩
          · have hke2 : hasK t k = e := by cases q1 : hasK t k <;> cases e <;> simp_all
            have hr2 : Hid (r = ([], if e then 32 else 41, p.length + j)) := Lib.hid (by rw [← hrj.out, hdr, chgS_bad (c := (k, e)) hke2])
            rw [hke2] at kp
            replace kp := kp.mono fun e9 w9 ⟨z, he, hst, hg⟩ => step_not he hst hg
            clear hdr hx hT hke hke2 hn1 hNow hrj hM hM3 hM4 e0 e1 hb hb3 hws hbe1 hW2
            cases e
            · go_upto_region 11 with (fail)
              rw [hW1.out]
              clear hW1 g0 g1
              go_wp2_with (first
                | (go_at_call 22; refine kd.mono ?_; rintro e9 w4 ⟨rfl, rfl⟩)
                | (go_at_call 29; refine kp.mono ?_; rintro e9 w5 ⟨rfl, hg5⟩)
                | fail)
              have hb5 := hb4.grown hg5 hb4.size fun k hk => (by cases hk; exact hbmB)
              go_returns
              rw [hr2.out]
              exact ⟨none, 0, rfl, Rd.none_ _ _ _, hb5⟩
            · go_upto_region 11 with (fail)
              rw [hW1.out]
              clear hW1 g0 g1
              go_wp2_with (first
                | (go_at_call 22; refine kd.mono ?_; rintro e9 w4 ⟨rfl, rfl⟩)
                | (go_at_call 28; refine kp.mono ?_; rintro e9 w5 ⟨rfl, hg5⟩)
                | fail)
              have hb5 := hb4.grown hg5 hb4.size fun k hk => (by cases hk; exact hbmB)
              go_returns
              rw [hr2.out]
              exact ⟨none, 0, rfl, Rd.none_ _ _ _, hb5⟩
        · obtain rfl : j = ch.length := by omega
          have dj : ¬ (((ch.length : Nat) : Int) < (ch.length : Int)) := by omega
          have hrt : r = (t, 0, 0) := by
            rw [← hrj.out, List.drop_length]
            rfl
          subst hrt
          have kset := set_any (h.up hb) hs (by omega) hM (by omega)
          clear hrj
          go_wp2_with (go_at_call 23; refine kset.mono ?_; rintro e9 w5 ⟨A5, c5, u, rfl, hu1, hu2, _, hR5, hb5⟩)
          go_returns
          obtain rfl := hNow.out.end_ hsk hu1 hu2
          exact ⟨A5, c5, rfl, hR5, bthen hb hws hb5⟩
end Go.Proofs.Ytampggkjlpbbmaa
