/- Layer 14, the document's side: Trim. Conditions: no more than a million spans. -/
import Derived.Test.YtmdhollegemlhaaRefM14
namespace Go.Proofs.Ytmdhollegemlhaa
open Go.RowKit

set_option maxRecDepth 100000 in
set_option maxHeartbeats 4000000 in
theorem rtrim_any {w : World} {A : Option Addr} {c : Nat} {last : Int} {L : List Sp} (h : Rd w w.heap.size 3 A L.length c (scs L)) (hl : L.length ≤ 1000000) (r : Int) :
    Calls Try.prog 16 #[.agg #[.slice A L.length c, .int .i64 last], .int .i64 r] w fun e w' => ∃ A' c', e = .returned (.tuple #[.agg #[.slice A' (trimP L r).length c', .int .i64 last], .int .i64 ((L.length : Int) - (trimP L r).length)]) ∧ Rd w' w'.heap.size 3 A' (trimP L r).length c' (scs (trimP L r)) ∧ Below w.heap.size w w' ∧ (A' = A ∧ trimP L r = L ∨ ∀ b o q, A' = some ⟨b, o, q⟩ → w.heap.size ≤ b) := by
  obtain ⟨i0, hi0, hz0, hz1, hz2⟩ := info_parts (show (Try.prog.info? 67).map (fun i => (i.zero, i.size, i.bytes)) = some (some (.agg #[.string ⟨#[]⟩, .int .i64 0, .int .i64 0]), 3, 32) by kernel_rfl)
  obtain ⟨w1, hw1⟩ : ∃ w1, w.alloc (.cells #[.slice A L.length c, .int .i64 last] 30) = w1 := ⟨_, rfl⟩
  have hb1 : Below w.heap.size w w1 := hw1 ▸ bnew w _
  obtain ⟨z0, z1⟩ := box2 w (.slice A L.length c) (.int .i64 last) 30
  rw [hw1] at z0 z1
  have hs1 : w1.heap.size = w.heap.size + 1 := by rw [← hw1]; simp
  have hlt1 : w.heap.size < w1.heap.size := by omega
  have h1 := h.up hb1
  replace hw1 := Lib.hid hw1
  go_enter Try.func16, Try.ntmps16
  go_upto_region 1 with (fail)
  rw [hw1.out]
  clear hw1 h
  have hlaid := fun (W : World) => laid2 (w := w1) (W := W) (x := .slice none 0 0) (y := .int .i64 0) (t := 30)
  have hb2 : Below w1.heap.size w1 (w1.alloc (.cells #[.slice none 0 0, .int .i64 0] 30)) := bnew w1 _
  have hs2 : (w1.alloc (.cells #[.slice none 0 0, .int .i64 0] 30)).heap.size = w1.heap.size + 1 := by simp
  obtain ⟨w2, hw2⟩ : ∃ w2, w1.alloc (.cells #[.slice none 0 0, .int .i64 0] 30) = w2 := ⟨_, rfl⟩
  rw [hw2] at hlaid hb2 hs2 ⊢
  clear hw2
  have h2 := h1.up hb2
  have q0 := (hb2.cell hlt1).trans z0
  have q1 := (hb2.cell hlt1).trans z1
  go_wp2_with fail
  go_loopw [6, 7] (fun vo vi wx => ∃ (i : Nat), vi = .int .i64 i ∧ i ≤ L.length ∧ wx.ownsRow w2.heap.size 67 3 vo (trimP (L.take i) r).length (scs (trimP (L.take i) r)) ∧ Below w2.heap.size w2 wx) (fun _ vi _ => L.length - (intOf vi).toNat)
  case atStart => exact ⟨0, rfl, Nat.zero_le _, World.ownsRow_nil _ _ _ _, Below.refl _ _⟩
  case round =>
    obtain ⟨i, rfl, hi, hown, hbx⟩ := hrel
    have hbr := hb2.trans (hbx.mono hb2.size)
    have hsr := hbx.size
    have y0 := (hbx.cell (p := ⟨w.heap.size, 0, none⟩) (by show w.heap.size < _; omega)).trans q0
    have y1 := (hbx.cell (p := ⟨w.heap.size, 1, none⟩) (by show w.heap.size < _; omega)).trans q1
    have hlen : (trimP (L.take i) r).length ≤ i := Nat.le_trans (List.length_filter_le _ _) (by rw [List.length_take]; omega)
    clear q0 q1
    by_cases hil : i < L.length
    · have di : (i : Int) < (L.length : Int) := by omega
      obtain ⟨x, hx⟩ : ∃ x, L[i]? = some x := ⟨_, List.getElem?_eq_getElem hil⟩
      obtain ⟨b, o, rfl, hlb, g0, g1, g2⟩ := rd_span (h1.up hbr) hx
      have hsn := trimP_snoc r hx
      obtain ⟨s, a, t⟩ := x
      dsimp only at g0 g1 g2
      obtain ⟨T, hT⟩ : ∃ T, trimP (L.take i) r = T := ⟨_, rfl⟩
      rw [hT] at hsn hown hlen
      clear hT hx
      by_cases hk : keptB r (s, a, t) = true
      · rw [if_pos hk] at hsn
        obtain ⟨A8, c8, rfl, _⟩ := Rd.own hown
        have e1 : (T ++ [(s, a, t)]).length = T.length + 1 := by simp
        have e2 : scs (T ++ [(s, a, t)]) = scs T ++ [.string s, .int .i64 a, .int .i64 t] := by simp [scs, scell]
        have hk2 : t = 0 ∨ r < t := by unfold keptB at hk; simpa using hk
        by_cases k1 : t = 0
        · subst k1
          clear hk2
          go_wp2_with (at_builtin; go_loud (refine wpList_append_src _ rfl (.tmp 32) (.tmp 38) 28 28 rfl w2.heap.size 67 i0 (.agg #[.string ⟨#[]⟩, .int .i64 0, .int .i64 0]) 3 32 Try.underlying28 hi0 hz0 hz1 hz2 rfl (by decide) (.slice A8 T.length c8) T.length (scs T) rfl (hown.alloc _) _ 1 [.string s, .int .i64 a, .int .i64 0] rfl (Src.ofSlice _ Try.underlying28 _ 1 1 _ rfl (cells_at _ #[.string s, .int .i64 a, .int .i64 0] _ _ (by simp)) (scell_one (s, a, 0))) (by simp only [maxLen]; omega) (by omega) (size_alloc hsr) ?_; intro v7 w7 hown7 hg7 hat7))
          have hb27 := below_of_own (hbx.alloc hsr _) hg7 (hown.alloc _) (size_alloc hsr) (Nat.le_refl _)
          exact ⟨⟨i + 1, by go_num, by omega, by rw [hsn, e1, e2]; exact hown7, hb27⟩, by simp [intOf]; omega⟩
        · have k3 : (t == 0) = false := by simpa using k1
          have k2 : r < t := by omega
          clear hk2
          go_wp2_with (at_builtin; go_loud (refine wpList_append_src _ rfl (.tmp 32) (.tmp 38) 28 28 rfl w2.heap.size 67 i0 (.agg #[.string ⟨#[]⟩, .int .i64 0, .int .i64 0]) 3 32 Try.underlying28 hi0 hz0 hz1 hz2 rfl (by decide) (.slice A8 T.length c8) T.length (scs T) rfl (hown.alloc _) _ 1 [.string s, .int .i64 a, .int .i64 t] rfl (Src.ofSlice _ Try.underlying28 _ 1 1 _ rfl (cells_at _ #[.string s, .int .i64 a, .int .i64 t] _ _ (by simp)) (scell_one (s, a, t))) (by simp only [maxLen]; omega) (by omega) (size_alloc hsr) ?_; intro v7 w7 hown7 hg7 hat7))
          have hb27 := below_of_own (hbx.alloc hsr _) hg7 (hown.alloc _) (size_alloc hsr) (Nat.le_refl _)
          exact ⟨⟨i + 1, by go_num, by omega, by rw [hsn, e1, e2]; exact hown7, hb27⟩, by simp [intOf]; omega⟩
      · rw [if_neg hk, List.append_nil] at hsn
        have hk2 : ¬ t = 0 ∧ ¬ r < t := by unfold keptB at hk; simpa using hk
        obtain ⟨k1, k2⟩ := hk2
        have k3 : (t == 0) = false := by simpa using k1
        go_wp2_with fail
        exact ⟨⟨i + 1, by go_num, by omega, by rw [hsn]; exact hown, hbx⟩, by simp [intOf]; omega⟩
    · obtain rfl : i = L.length := by omega
      have di : ¬ (((L.length : Nat) : Int) < (L.length : Int)) := by omega
      rw [List.take_length] at hown hlen
      obtain ⟨A8, c8, rfl, hR8⟩ := Rd.own hown
      obtain ⟨g0, g1, g2, g3⟩ := hlaid wr hbx
      rw [hs1] at g0 g1 g2 g3
      go_upto_region 7 with (fail)
      go_region
      go_wp2_with fail
      obtain ⟨p0, p1⟩ := put2 (.slice A8 (trimP L r).length c8) (.int .i64 last) g0 g1
      refine bodyPost_ret (v := .tuple #[.agg #[.slice A8 (trimP L r).length c8, .int .i64 last], .int .i64 ((L.length : Int) - (trimP L r).length)]) (by simp [results, Try.results16, go_sem, p0, p1]; try rfl) rfl ?_
      have hb3 : Below w1.heap.size wr ((wr.setCell ⟨w.heap.size + 1, 0, none⟩ (.slice A8 (trimP L r).length c8)).setCell ⟨w.heap.size + 1, 1, none⟩ (.int .i64 last)).drew := (((Below.refl _ _).setCell (by show _ ≤ w.heap.size + 1; omega) _).setCell (by show _ ≤ w.heap.size + 1; omega) _).drew
      have hb9 := hbr.trans hb3
      have hown9 := ownsRow_setCell_below (ownsRow_setCell_below hown (a := ⟨w.heap.size + 1, 0, none⟩) (by show w.heap.size + 1 < _; omega) (.slice A8 (trimP L r).length c8)) (a := ⟨w.heap.size + 1, 1, none⟩) (by show w.heap.size + 1 < _; omega) (.int .i64 last)
      obtain ⟨A6, c6, e6, hR6⟩ := Rd.own hown9
      cases e6
      exact ⟨A8, c8, rfl, hR6.drew, bthen hb1 hb1.size hb9, .inr fun b o q e => by have := own_fresh hown b o q e; omega⟩
end Go.Proofs.Ytmdhollegemlhaa
