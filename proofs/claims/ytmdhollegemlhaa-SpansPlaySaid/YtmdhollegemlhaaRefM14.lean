/- Layer 14, the document's side: Put. Conditions: no more than a million spans. -/
import Derived.Test.YtmdhollegemlhaaRefE14
namespace Go.Proofs.Ytmdhollegemlhaa
open Go.RowKit

/-- A struct of two cells that is made ahead and written at the end. -/
theorem laid2 {w W : World} {x y : Value} {t : TypeId} (hb : Below (w.alloc (.cells #[x, y] t)).heap.size (w.alloc (.cells #[x, y] t)) W) :
    W.cell? ⟨w.heap.size, 0, none⟩ = some x ∧ W.cell? ⟨w.heap.size, 1, none⟩ = some y ∧ W.frozen? ⟨w.heap.size, 0, none⟩ = false ∧ W.frozen? ⟨w.heap.size, 1, none⟩ = false := by
  have h3 : W.heap[w.heap.size]? = some (.cells #[x, y] t (0, 0)) := (hb.block _ (by simp)).trans (heap_alloc_new w _)
  exact ⟨by rw [cell_of_row _ _ _ _ _ _ h3]; rfl, by rw [cell_of_row _ _ _ _ _ _ h3]; rfl, by simp [World.frozen?, h3], by simp [World.frozen?, h3]⟩
theorem put2 {W : World} {g : Nat} {a b : Value} (u v : Value) (g0 : W.cell? ⟨g, 0, none⟩ = some a) (g1 : W.cell? ⟨g, 1, none⟩ = some b) :
    ((W.setCell ⟨g, 0, none⟩ u).setCell ⟨g, 1, none⟩ v).cell? ⟨g, 0, none⟩ = some u ∧ ((W.setCell ⟨g, 0, none⟩ u).setCell ⟨g, 1, none⟩ v).cell? ⟨g, 1, none⟩ = some v := by
  constructor
  · rw [World.cell?_setCell_other _ _ _ _ (by simp)]
    exact World.cell?_setCell_same _ _ _ (by rw [g0])
  · exact World.cell?_setCell_same _ _ _ (by rw [World.cell?_setCell_other _ _ _ _ (by simp), g1])

theorem own_fresh {w : World} {B n m s c : Nat} {e : TypeId} {A : Option Addr} {xs : List Value} (h : w.ownsRow B e s (.slice A n c) m xs) : ∀ b o q, A = some ⟨b, o, q⟩ → B ≤ b := by
  intro b o q e
  subst e
  rcases h.2 with ⟨h1, _⟩ | ⟨g, cap, cur, e, hg, _⟩
  · cases h1
  · injection e with e1
    injection e1 with e1
    injection e1 with e1
    omega
set_option maxRecDepth 100000 in
set_option maxHeartbeats 4000000 in
theorem rputS_any {w : World} {A : Option Addr} {c : Nat} {last : Int} {L : List Sp} (h : Rd w w.heap.size 3 A L.length c (scs L)) (hl : L.length ≤ 1000000) (k : ByteArray) (r : Int) :
    Calls Try.prog 12 #[.agg #[.slice A L.length c, .int .i64 last], .string k, .int .i64 r] w fun e w' => ∃ A' c', e = .returned (.tuple #[.agg #[.slice A' ((putP L last k r).getD L).length c', .int .i64 (if (putP L last k r).isSome then r else last)], .bool (putP L last k r).isSome]) ∧ Rd w' w'.heap.size 3 A' ((putP L last k r).getD L).length c' (scs ((putP L last k r).getD L)) ∧ Below w.heap.size w w' ∧ (A' = A ∧ (putP L last k r).getD L = L ∨ ∀ b o q, A' = some ⟨b, o, q⟩ → w.heap.size ≤ b) := by
  obtain ⟨i0, hi0, hz0, hz1, hz2⟩ := info_parts (show (Try.prog.info? 67).map (fun i => (i.zero, i.size, i.bytes)) = some (some (.agg #[.string ⟨#[]⟩, .int .i64 0, .int .i64 0]), 3, 32) by kernel_rfl)
  obtain ⟨w1, hw1⟩ : ∃ w1, w.alloc (.cells #[.slice A L.length c, .int .i64 last] 30) = w1 := ⟨_, rfl⟩
  have hb1 : Below w.heap.size w w1 := hw1 ▸ bnew w _
  obtain ⟨z0, z1⟩ := box2 w (.slice A L.length c) (.int .i64 last) 30
  rw [hw1] at z0 z1
  have hs1 : w1.heap.size = w.heap.size + 1 := by rw [← hw1]; simp
  have hlt1 : w.heap.size < w1.heap.size := by omega
  have h1 := h.up hb1
  replace hw1 := Lib.hid hw1
  obtain ⟨O, hO⟩ : ∃ O, putP L last k r = O := ⟨_, rfl⟩
  rw [hO]
  unfold putP at hO
  obtain ⟨Lv, rv, bv, hq⟩ : ∃ Lv rv bv, O.getD L = Lv ∧ (if O.isSome then r else last) = rv ∧ O.isSome = bv := ⟨_, _, _, rfl, rfl, rfl⟩
  rw [hq.1, hq.2.1, hq.2.2]
  replace hq := Lib.hid hq
  go_enter Try.func12, Try.ntmps12
  go_upto_region 1 with (fail)
  rw [hw1.out]
  clear hw1 h
  have hlaid := fun (W : World) => laid2 (w := w1) (W := W) (x := .slice none 0 0) (y := .int .i64 0) (t := 30)
  have hb2 : Below w1.heap.size w1 (w1.alloc (.cells #[.slice none 0 0, .int .i64 0] 30)) := bnew w1 _
  have hs2 : (w1.alloc (.cells #[.slice none 0 0, .int .i64 0] 30)).heap.size = w1.heap.size + 1 := by simp
  obtain ⟨w2, hw2⟩ : ∃ w2, w1.alloc (.cells #[.slice none 0 0, .int .i64 0] 30) = w2 := ⟨_, rfl⟩
  rw [hw2] at hlaid hb2 hs2 ⊢
  clear hw2
  have h2 := h1.up hb2
  have q0 := (hb2.cell hlt1).trans z0
  have q1 := (hb2.cell hlt1).trans z1
  obtain ⟨g0, g1, g2, g3⟩ := hlaid w2 (Below.refl _ _)
  rw [hs1] at g0 g1 g2 g3
  have kop := fun (W : World) (hR : Rd W W.heap.size 3 A L.length c (scs L)) => ropen_any (last := last) hR hl k
  by_cases c1 : r < 1
  · rw [if_pos (Or.inl c1)] at hO
    subst hO
    go_wp2_with fail
    obtain ⟨p0, p1⟩ := put2 (.slice A L.length c) (.int .i64 last) g0 g1
    refine bodyPost_ret (v := .tuple #[.agg #[.slice A L.length c, .int .i64 last], .bool false]) (by simp [results, Try.results12, go_sem, p0, p1]; try rfl) rfl ?_
    have hb3 : Below w1.heap.size w2 ((w2.setCell ⟨w.heap.size + 1, 0, none⟩ (.slice A L.length c)).setCell ⟨w.heap.size + 1, 1, none⟩ (.int .i64 last)) := ((Below.refl _ _).setCell (by show _ ≤ w.heap.size + 1; omega) _).setCell (by show _ ≤ w.heap.size + 1; omega) _
    have hb9 := hb2.trans hb3
    obtain ⟨rfl, rfl, rfl⟩ := hq.out
    exact ⟨A, c, rfl, h1.up hb9, bthen hb1 hb1.size hb9, .inl ⟨rfl, rfl⟩⟩
  · by_cases c2 : r < last
    · rw [if_pos (Or.inr (Or.inl c2))] at hO
      subst hO
      go_wp2_with fail
      obtain ⟨p0, p1⟩ := put2 (.slice A L.length c) (.int .i64 last) g0 g1
      refine bodyPost_ret (v := .tuple #[.agg #[.slice A L.length c, .int .i64 last], .bool false]) (by simp [results, Try.results12, go_sem, p0, p1]; try rfl) rfl ?_
      have hb3 : Below w1.heap.size w2 ((w2.setCell ⟨w.heap.size + 1, 0, none⟩ (.slice A L.length c)).setCell ⟨w.heap.size + 1, 1, none⟩ (.int .i64 last)) := ((Below.refl _ _).setCell (by show _ ≤ w.heap.size + 1; omega) _).setCell (by show _ ≤ w.heap.size + 1; omega) _
      have hb9 := hb2.trans hb3
      obtain ⟨rfl, rfl, rfl⟩ := hq.out
      exact ⟨A, c, rfl, h1.up hb9, bthen hb1 hb1.size hb9, .inl ⟨rfl, rfl⟩⟩
    · by_cases c3 : 0 ≤ openP L k
      · rw [if_pos (Or.inr (Or.inr c3))] at hO
        subst hO
        clear g0 g1 g2 g3
        go_upto_region 2 with (go_at_call 27; refine (kop _ h2).mono ?_; rintro e8 w3 ⟨rfl, hb8⟩)
        obtain ⟨g0, g1, g2, g3⟩ := hlaid w3 hb8
        rw [hs1] at g0 g1 g2 g3
        have y0 := (hb8.cell (p := ⟨w.heap.size, 0, none⟩) (by show w.heap.size < _; omega)).trans q0
        have y1 := (hb8.cell (p := ⟨w.heap.size, 1, none⟩) (by show w.heap.size < _; omega)).trans q1
        have hb23 := bthen hb2 hb2.size hb8
        clear q0 q1 hb8
        go_wp2_with fail
        obtain ⟨p0, p1⟩ := put2 (.slice A L.length c) (.int .i64 last) g0 g1
        refine bodyPost_ret (v := .tuple #[.agg #[.slice A L.length c, .int .i64 last], .bool false]) (by simp [results, Try.results12, go_sem, p0, p1]; try rfl) rfl ?_
        have hb3 : Below w1.heap.size w3 ((w3.setCell ⟨w.heap.size + 1, 0, none⟩ (.slice A L.length c)).setCell ⟨w.heap.size + 1, 1, none⟩ (.int .i64 last)) := ((Below.refl _ _).setCell (by show _ ≤ w.heap.size + 1; omega) _).setCell (by show _ ≤ w.heap.size + 1; omega) _
        have hb9 := hb23.trans hb3
        obtain ⟨rfl, rfl, rfl⟩ := hq.out
        exact ⟨A, c, rfl, h1.up hb9, bthen hb1 hb1.size hb9, .inl ⟨rfl, rfl⟩⟩
      · rw [if_neg (by omega)] at hO
        subst hO
        clear g0 g1 g2 g3
        go_upto_region 4 with (go_at_call 27; refine (kop _ h2).mono ?_; rintro e8 w3 ⟨rfl, hb8⟩)
        have y0 := (hb8.cell (p := ⟨w.heap.size, 0, none⟩) (by show w.heap.size < _; omega)).trans q0
        have hb23 := bthen hb2 hb2.size hb8
        have hz := h1.up hb23
        have hs3 := hb8.size
        have hsrc := hz.src (P := Try.prog) Try.underlying28 (fun u hu => scs_one L u hu)
        clear q0 q1
        go_upto_region 5 with (at_builtin; go_loud (refine wpList_append_src _ rfl (.tmp 24) (.tmp 26) 28 28 rfl w2.heap.size 67 i0 (.agg #[.string ⟨#[]⟩, .int .i64 0, .int .i64 0]) 3 32 Try.underlying28 hi0 hz0 hz1 hz2 rfl (by decide) (.slice none 0 0) 0 [] rfl (World.ownsRow_nil _ _ _ _) _ L.length (scs L) rfl hsrc (by simp only [maxLen]; omega) (by omega) hs3 ?_; intro v9 w8 hown8 hg8 hat8))
        rw [Nat.zero_add, List.nil_append] at hown8
        have hb28 := below_of_own hb8 hg8 (World.ownsRow_nil w3 w2.heap.size 67 3) hs3 (Nat.le_refl _)
        have hs8 := hb28.size
        clear hsrc hg8 hat8 y0 hb8
        obtain ⟨A8, c8, rfl, _⟩ := Rd.own hown8
        go_upto_region 6 with (at_builtin; go_loud (refine wpList_append_src _ rfl (.tmp 28) (.tmp 32) 28 28 rfl w2.heap.size 67 i0 (.agg #[.string ⟨#[]⟩, .int .i64 0, .int .i64 0]) 3 32 Try.underlying28 hi0 hz0 hz1 hz2 rfl (by decide) (.slice A8 L.length c8) L.length (scs L) rfl (hown8.alloc _) _ 1 [.string k, .int .i64 r, .int .i64 0] rfl (Src.ofSlice _ Try.underlying28 _ 1 1 _ rfl (cells_at _ #[.string k, .int .i64 r, .int .i64 0] _ _ (by simp)) (scell_one (k, r, 0))) (by simp only [maxLen]; omega) (by omega) (size_alloc hs8) ?_; intro v7 w7 hown7 hg7 hat7))
        have hb27 := below_of_own (hb28.alloc hs8 _) hg7 (hown8.alloc _) (size_alloc hs8) (Nat.le_refl _)
        have hs7 := hb27.size
        clear hg7 hat7 hown8 hs8 hb28
        obtain ⟨A7, c7, rfl, _⟩ := Rd.own hown7
        obtain ⟨g0, g1, g2, g3⟩ := hlaid w7 hb27
        rw [hs1] at g0 g1 g2 g3
        go_wp2_with fail
        obtain ⟨p0, p1⟩ := put2 (.slice A7 (L.length + 1) c7) (.int .i64 r) g0 g1
        refine bodyPost_ret (v := .tuple #[.agg #[.slice A7 (L.length + 1) c7, .int .i64 r], .bool true]) (by simp [results, Try.results12, go_sem, p0, p1]; try rfl) rfl ?_
        have hb3 : Below w1.heap.size w7 ((w7.setCell ⟨w.heap.size + 1, 0, none⟩ (.slice A7 (L.length + 1) c7)).setCell ⟨w.heap.size + 1, 1, none⟩ (.int .i64 r)) := ((Below.refl _ _).setCell (by show _ ≤ w.heap.size + 1; omega) _).setCell (by show _ ≤ w.heap.size + 1; omega) _
        have hb9 := (bthen hb2 hb2.size hb27).trans hb3
        have hown9 := ownsRow_setCell_below (ownsRow_setCell_below hown7 (a := ⟨w.heap.size + 1, 0, none⟩) (by show w.heap.size + 1 < _; omega) (.slice A7 (L.length + 1) c7)) (a := ⟨w.heap.size + 1, 1, none⟩) (by show w.heap.size + 1 < _; omega) (.int .i64 r)
        obtain ⟨A6, c6, e6, hR6⟩ := Rd.own hown9
        cases e6
        have e1 : (L ++ [(k, r, 0)]).length = L.length + 1 := by simp
        have e2 : scs (L ++ [(k, r, 0)]) = scs L ++ [.string k, .int .i64 r, .int .i64 0] := by simp [scs, scell]
        obtain ⟨rfl, rfl, rfl⟩ := hq.out
        refine ⟨A7, c7, by rw [Option.getD_some, e1]; rfl, ?_, bthen hb1 hb1.size hb9, .inr fun b o q e => by have := own_fresh hown7 b o q e; omega⟩
        rw [Option.getD_some, e1, e2]
        exact hR6
end Go.Proofs.Ytmdhollegemlhaa
