/- Layer 4: writeHead, called. Condition: fewer than a million writes wait. -/
import Derived.Test.YtgppaompcnllbaaHead
import Derived.Test.YtgppaompcnllbaaPut
namespace Go.Proofs.Ytgppaompcnllbaa
open Go.RowKit

/-- The head's write, and the flush behind it: the disk, and the error. -/
def hdW (s : St) (t : LSt) (n : Nat) : St := wrS s t.next (headB t.epoch t.recs.length n)
def hdX (s : St) (t : LSt) (n : Nat) : Int := wrE s t.next (headB t.epoch t.recs.length n)
def hdS (s : St) (t : LSt) (n : Nat) : St := if hdX s t n = 0 then (hdW s t n).flush else hdW s t n
def hdE (s : St) (t : LSt) (n : Nat) : Int := if hdX s t n = 0 then (hdW s t n).err else hdX s t n
theorem wrS_waits (s : St) (i : Int) (l : List UInt8) : (wrS s i l).waits.length ≤ s.waits.length + 1 := by
  unfold wrS
  split
  · unfold St.write
    split
    · rw [St.count_waits]; omega
    · simp [St.wrote, St.count_waits]
  · omega
theorem nums_head (e k n : Nat) : 1 :: nums [(e : Int), (k : Int), (n : Int)] = headB e k n := by simp [nums, headB]
theorem nums_len3 (e k n : Nat) : (nums [(e : Int), (k : Int), (n : Int)]).length + 1 = (headB e k n).length := by rw [← nums_head]; rfl
theorem grow_then {S : Nat → Prop} {w w1 w2 : World} {b : Nat} {s : St} (h : Ds (Grow S w1 w2) w2 b s) (hs : w.heap.size ≤ w1.heap.size) (h12 : w1.heap.size ≤ w2.heap.size) (hS : ∀ k, S k → k < w.heap.size) : Ds (Grow S w w2) w2 b s :=
  h.wide (fun k e => by rcases e with e | e; exact .inl e; exact .inr ⟨by omega, e.2⟩) (fun k e => by rcases e with e | e; have := hS k e; omega; exact e.2)
theorem grow_two {S : Nat → Prop} {w w1 w2 : World} {b : Nat} {s : St} (h : Ds (Grow S w w1) w2 b s) (h12 : w1.heap.size ≤ w2.heap.size) (hw : w.heap.size ≤ w1.heap.size) (hS : ∀ k, S k → k < w.heap.size) : Ds (Grow S w w2) w2 b s :=
  h.wide (fun k e => by rcases e with e | e; exact .inl e; exact .inr ⟨e.1, by omega⟩) (fun k e => by rcases e with e | e; have := hS k e; omega; exact e.2)
theorem ks_two {S : Nat → Prop} {w w1 w2 : World} (h : Ks S w w1) (k : Ks (Grow S w w1) w1 w2) : Ks S w w2 := h.then k fun i e => by rcases e with e | e; exact .inl e; exact .inr e.1

/-- Three numbers put, in the world that a head's write has come to. -/
theorem put3 (W : World) (e k n : Nat) (he : e < 2 ^ 64) (hk : k < 2 ^ 64) (hn : n < 2 ^ 64) :
    Calls Try.prog 48 #[.slice (some ⟨W.heap.size + 1 + 1, 0, none⟩) 3 3] (((W.alloc (.cells #[.int .u64 e, .int .u64 k, .int .u64 n] 94)).alloc (.cells #[.int .u8 1] 5)).alloc (.cells #[.int .u64 e, .int .u64 k, .int .u64 n] 22)) fun e' w' => ∃ A c, e' = .returned (.slice A (nums [(e : Int), (k : Int), (n : Int)]).length c) ∧
      Rd w' w'.heap.size 1 A (nums [(e : Int), (k : Int), (n : Int)]).length c (bv (nums [(e : Int), (k : Int), (n : Int)])) ∧ w'.ownsRow W.heap.size 5 1 (.slice (some ⟨W.heap.size + 1, 0, none⟩) 1 1) 1 [.int .u8 1] ∧ Below W.heap.size W w' := by
  obtain ⟨W1, hW1⟩ : ∃ W1, W.alloc (.cells #[.int .u64 e, .int .u64 k, .int .u64 n] 94) = W1 := ⟨_, rfl⟩
  have s1 : W1.heap.size = W.heap.size + 1 := by rw [← hW1]; simp
  have b1 : Below W.heap.size W W1 := by rw [← hW1]; exact (Below.refl _ _).alloc (Nat.le_refl _) _
  rw [hW1]
  have s2 : (W1.alloc (.cells #[.int .u8 1] 5)).heap.size = W.heap.size + 1 + 1 := by simp [s1]
  have o2 : (W1.alloc (.cells #[.int .u8 1] 5)).ownsRow W.heap.size 5 1 (.slice (some ⟨W.heap.size + 1, 0, none⟩) 1 1) 1 [.int .u8 1] := by
    have := own_lit W1 #[.int .u8 1] 5 1 1 W.heap.size rfl (by simp [maxLen]) (by omega)
    rw [s1] at this
    exact this
  have b2 : Below W.heap.size W (W1.alloc (.cells #[.int .u8 1] 5)) := b1.alloc (by omega) _
  generalize W1.alloc (.cells #[.int .u8 1] 5) = W2 at *
  have hr := Rd.litX W2 #[.int .u64 e, .int .u64 k, .int .u64 n] 22 3 1 ([(e : Int), (k : Int), (n : Int)].map (Value.int .u64)) rfl rfl (by simp [maxLen])
  rw [s2] at hr
  have o3 := o2.alloc (.cells #[.int .u64 e, .int .u64 k, .int .u64 n] 22)
  have b3 : Below W.heap.size W (W2.alloc (.cells #[.int .u64 e, .int .u64 k, .int .u64 n] 22)) := b2.alloc (by omega) _
  refine (fput_any _ 3 3 [(e : Int), (k : Int), (n : Int)] _ hr (fun u hu => ?_) (by omega)).mono ?_
  · simp at hu
    rcases hu with rfl | rfl | rfl <;> omega
  · rintro e' w' ⟨v, rfl, hown, hb⟩
    obtain ⟨A, c, rfl, hr'⟩ := Rd.own hown
    exact ⟨A, c, rfl, hr', own_below o3 hb, b3.trans (hb.mono (by simp; omega))⟩

set_option maxRecDepth 100000 in
set_option maxHeartbeats 4000000 in
theorem whead_any {S L : Nat → Prop} {w : World} {g b : Nat} {s : St} {t : LSt} (hD : Ds S w b s) (hL : Lg L w g b t) (hSL : ∀ k, S k → ¬ L k) (n : Nat) (hn : n ≤ 4096) (hw : s.waits.length < 900000) :
    Calls Try.prog 33 #[.pointer (some ⟨g, 0, none⟩), .int .i64 n] w fun e w' => e = .returned (.int .i64 (hdE s t n)) ∧ Ds (Grow S w w') w' b (hdS s t n) ∧ Ks S w w' := by
  have kh := fun W (h : Lg L W g b t) => head_any h n (by omega)
  have hsz := hD.size
  have hHl := nums_len3 t.epoch t.recs.length n
  have hHh := nums_head t.epoch t.recs.length n
  have hepo := hL.ok.epoch
  have hrz := hL.ok.few
  have hrm := hL.ok.most
  have hrl := hL.ok.le
  have hk64 : t.recs.length < 2 ^ 64 := by omega
  have hn64 : n < 2 ^ 64 := by omega
  have hlen64 : (headB t.epoch t.recs.length n).length ≤ 64 := headB_le hepo hk64 hn64
  have kp := fun W => put3 W t.epoch t.recs.length n hepo hk64 hn64
  obtain ⟨us, hus⟩ : ∃ us, nums [(t.epoch : Int), (t.recs.length : Int), (n : Int)] = us := ⟨_, rfl⟩
  rw [hus] at hHl hHh kp
  have hnl : us.length ≤ 63 := by omega
  obtain ⟨l, hl⟩ : ∃ l, headB t.epoch t.recs.length n = l := ⟨_, rfl⟩
  rw [hl] at hHl hHh hlen64
  have hlr : ([.int .u8 1] : List Value) ++ bv us = bv l := by rw [← hHh]; rfl
  have HL := Lib.hid hl
  have HHl := Lib.hid hHl
  have Hlr := Lib.hid hlr
  clear hl hHl hlr hus hHh hepo hk64 hn64
  obtain ⟨i0, hi, hz0, hz1, hz2⟩ := info_parts infoF
  go_enter Try.func33, Try.ntmps33
  go_wp2_with (first
    | ((with_reducible refine (kh _ hL).mono ?_); rintro e w1 ⟨rfl, hb1⟩; replace hb1 := Lib.hid hb1; have hs1 := hb1.out.size)
    | ((with_reducible refine (kp _).mono ?_); rintro e w2 ⟨A2, c2, rfl, hr2, ho2, hb2⟩; replace hb2 := Lib.hid hb2; have hs2 := hb2.out.size)
    | (at_builtin; refine wpList_append_src _ rfl (.tmp 11) (.tmp 19) 36 36 rfl w1.heap.size 5 i0 (.int .u8 0) 1 1 Try.underlying36 hi hz0 hz1 hz2 rfl (by decide) (.slice (some ⟨w1.heap.size + 1, 0, none⟩) 1 1) 1 [.int .u8 1] rfl ho2 _ us.length (bv us) rfl (Rd.src Try.underlying36 hr2 (bv_one us)) (by simp only [maxLen]; omega) (by omega) (by omega) ?_; intro v3 w3 hown3 hg3 hat3))
  have hlx : 1 + us.length = l.length := by rw [Nat.add_comm]; exact HHl.out
  rw [hlx, Hlr.out] at hown3
  have hb3 : Below w1.heap.size w1 w3 := below_of_own hb2.out hg3 ho2 (by omega) (Nat.le_refl _)
  have hs3 := hb3.size
  obtain ⟨A3, c3, rfl, hr3⟩ := Rd.own hown3
  have hA3 := own_at hown3
  have hb03 : Below w.heap.size w w3 := hb1.out.trans (hb3.mono hs1)
  have hL3 := hL.below hb03
  have hD3 := drewDs (hD.below hb03)
  obtain ⟨rv, rows, hL3⟩ := hL3
  have c0 : w3.drew.cell? ⟨g, 0, none⟩ = _ := hL3.c0
  have c1 : w3.drew.cell? ⟨g, 1, none⟩ = _ := hL3.c1
  have kW := dWrite hD3 (t.next : Int) (A := A3) (c := c3) (l := l) hr3.drew (fun hn b' o e hs => by have := hA3 _ _ e; have := hsz b' hs; omega) (by omega)
  obtain ⟨E, hE⟩ : ∃ E, wrE s t.next l = E := ⟨_, rfl⟩
  have hEE : hdX s t n = E := by rw [hdX, HL.out]; exact hE
  have hWW : hdW s t n = wrS s t.next l := by rw [hdW, HL.out]
  have hww := wrS_waits s t.next l
  rw [hE] at kW
  clear hlx hown3 hg3 hat3 hr3 hA3 hE kh kp
  replace hb03 := Lib.hid hb03
  replace hb3 := Lib.hid hb3
  replace hEE := Lib.hid hEE
  replace hWW := Lib.hid hWW
  have hg : ¬ S g := fun e => hSL g e hL3.hg
  have hgs := hL3.size g hL3.hg
  by_cases h0 : E = 0
  · subst h0
    refine wp_region_still_tail 9 (by kernel_rfl) (by kernel_rfl) ?_
    change wpStill _ _ (World.drew _) _ _ _
    simp only [List.take_succ_cons, List.take_zero, List.drop_succ_cons, List.drop_zero]
    repeat still_step
    refine wpStill_nil ?_
    change wpList _ _ _ _ _ w3.drew
    go_wp2_with (first
      | ((with_reducible refine kW.mono ?_); rintro e w4 ⟨rfl, hD4, hk4⟩; have c0' := (World.cell?_of_block (a := ⟨g, 0, none⟩) (hk4.block g hgs hg)).trans c0; clear kW c0 c1)
      | ((with_reducible refine (dFlush hD4 (by omega)).mono ?_); rintro e w5 ⟨rfl, hD5, hk5⟩))
    go_ret
    have hS5 : hdS s t n = (wrS s t.next l).flush := by rw [hdS, if_pos hEE.out, hWW.out]
    have hE5 : hdE s t n = (wrS s t.next l).err := by rw [hdE, if_pos hEE.out, hWW.out]
    rw [hS5, hE5]
    have k45 := ks_two (drewKs hk4) hk5
    have hw3 := hb03.out.size
    refine ⟨rfl, hD5.wide (fun k e => ?_) (fun k e => ?_), (Ks.all hb03.out).trans k45⟩
    · have := k45.size
      have := hk5.size
      rcases e with e | e
      · exact .inl e
      · exact .inr ⟨Nat.le_trans hw3 e.1, by omega⟩
    · have := k45.size
      rcases e with e | e
      · have := hsz k e; omega
      · exact e.2
  · have h0b : (E != 0) = true := by simp [h0]
    refine wp_region_still_tail 9 (by kernel_rfl) (by kernel_rfl) ?_
    change wpStill _ _ (World.drew _) _ _ _
    simp only [List.take_succ_cons, List.take_zero, List.drop_succ_cons, List.drop_zero]
    repeat still_step
    refine wpStill_nil ?_
    change wpList _ _ _ _ _ w3.drew
    go_wp2_with ((with_reducible refine kW.mono ?_); rintro e w4 ⟨rfl, hD4, hk4⟩)
    go_ret
    have hS5 : hdS s t n = wrS s t.next l := by rw [hdS, if_neg (by rw [hEE.out]; exact h0), hWW.out]
    have hE5 : hdE s t n = E := by rw [hdE, if_neg (by rw [hEE.out]; exact h0), hEE.out]
    rw [hS5, hE5]
    have k34 := drewKs hk4
    have hw3 := hb03.out.size
    refine ⟨rfl, hD4.wide (fun k e => ?_) (fun k e => ?_), (Ks.all hb03.out).trans k34⟩
    · rcases e with e | e
      · exact .inl e
      · exact .inr ⟨Nat.le_trans hw3 e.1, e.2⟩
    · have := k34.size
      rcases e with e | e
      · have := hsz k e; omega
      · exact e.2
end Go.Proofs.Ytgppaompcnllbaa
