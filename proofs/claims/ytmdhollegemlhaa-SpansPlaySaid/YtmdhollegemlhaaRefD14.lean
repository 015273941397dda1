/- Layer 14, the document's side: Drop. Conditions: no more than a million spans. -/
import Derived.Test.YtmdhollegemlhaaRefM14
namespace Go.Proofs.Ytmdhollegemlhaa
open Go.RowKit

theorem openP_ge {L : List Sp} {k : ByteArray} (h : ¬ openP L k < 0) : ∃ (i : Nat) (x : Sp), openP L k = i ∧ L[i]? = some x := by
  unfold openP at h ⊢
  cases e : L.findIdx? (openB k) with
  | none => rw [e] at h; exact absurd (by decide) h
  | some i =>
    obtain ⟨hi, _⟩ := List.findIdx?_eq_some_iff_getElem.1 e
    exact ⟨i, L[i], rfl, List.getElem?_eq_getElem hi⟩
theorem scs_end : ∀ (L : List Sp) {i : Nat} {x : Sp} (_ : L[i]? = some x) (r : Int), scs (L.set i (x.1, x.2.1, r)) = (scs L).set (i * 3 + 2) (.int .i64 r)
  | [], i, x, h, _ => by simp at h
  | a :: l, 0, x, h, r => by
    simp at h
    subst h
    rfl
  | a :: l, i + 1, x, h, r => by
    rw [List.set_cons_succ]
    show scell a ++ scs (l.set i (x.1, x.2.1, r)) = (scell a ++ scs l).set ((i + 1) * 3 + 2) (.int .i64 r)
    have hl : (scell a).length = 3 := rfl
    rw [scs_end l (by simpa using h) r, List.set_append_right _ _ (by rw [hl]; omega), hl, show (i + 1) * 3 + 2 - 3 = i * 3 + 2 by omega]
/-- A cell of a row is set, or one that isn't the row's. -/
theorem Rd.at {w : World} {B sz n c g : Nat} {xs : List Value} (h : Rd w B sz (some ⟨g, 0, none⟩) n c xs) {k : Nat} (hk : k < xs.length) (u : Value) : Rd (w.setCell ⟨g, k, none⟩ u) B sz (some ⟨g, 0, none⟩) n c (xs.set k u) := by
  refine ⟨by rw [List.length_set]; exact h.len, h.cap, h.capm, fun e => (by cases e), fun hp => ?_⟩
  obtain ⟨b, o, e, hb, hc⟩ := h.at_ hp
  injection e with e
  injection e with e1 e2 e3
  subst e1; subst e2
  refine ⟨g, 0, rfl, hb, fun j v hj => ?_⟩
  rw [Nat.zero_add]
  have hcj := fun j v hj => hc j v hj
  simp only [Nat.zero_add] at hcj
  by_cases hjk : j = k
  · subst hjk
    rw [List.getElem?_set_self hk] at hj
    injection hj with hj
    subst hj
    exact World.cell?_setCell_same' _ _ _ (by rw [hcj j _ (List.getElem?_eq_getElem hk)]; rfl)
  · rw [List.getElem?_set_ne (fun e => hjk e.symm)] at hj
    exact (World.cell?_setCell_other w ⟨g, k, none⟩ ⟨g, j, none⟩ u (by intro e; injection e with _ e _; exact hjk e.symm)).trans (hcj j v hj)
theorem Rd.off {w : World} {B sz n c g : Nat} {xs : List Value} (h : Rd w B sz (some ⟨g, 0, none⟩) n c xs) {a : Addr} (ha : a.block ≠ g) (u : Value) : Rd (w.setCell a u) B sz (some ⟨g, 0, none⟩) n c xs := by
  refine ⟨h.len, h.cap, h.capm, h.nil, fun hp => ?_⟩
  obtain ⟨b, o, e, hb, hc⟩ := h.at_ hp
  injection e with e
  injection e with e1 e2 e3
  subst e1; subst e2
  exact ⟨g, 0, rfl, hb, fun j v hj => (World.cell?_setCell_other w a ⟨g, 0 + j, none⟩ u (by intro e; exact ha (congrArg Addr.block e))).trans (hc j v hj)⟩

set_option maxRecDepth 100000 in
set_option maxHeartbeats 4000000 in
theorem rdropS_any {w : World} {A : Option Addr} {c : Nat} {last : Int} {L : List Sp} (h : Rd w w.heap.size 3 A L.length c (scs L)) (hl : L.length ≤ 1000000) (k : ByteArray) (r : Int) :
    Calls Try.prog 14 #[.agg #[.slice A L.length c, .int .i64 last], .string k, .int .i64 r] w fun e w' => ∃ A' c', e = .returned (.tuple #[.agg #[.slice A' ((dropP L last k r).getD L).length c', .int .i64 (if (dropP L last k r).isSome then r else last)], .bool (dropP L last k r).isSome]) ∧ Rd w' w'.heap.size 3 A' ((dropP L last k r).getD L).length c' (scs ((dropP L last k r).getD L)) ∧ Below w.heap.size w w' ∧ (A' = A ∧ (dropP L last k r).getD L = L ∨ ∀ b o q, A' = some ⟨b, o, q⟩ → w.heap.size ≤ b) := by
  obtain ⟨i0, hi0, hz0, hz1, hz2⟩ := info_parts (show (Try.prog.info? 67).map (fun i => (i.zero, i.size, i.bytes)) = some (some (.agg #[.string ⟨#[]⟩, .int .i64 0, .int .i64 0]), 3, 32) by kernel_rfl)
  obtain ⟨w1, hw1⟩ : ∃ w1, w.alloc (.cells #[.slice A L.length c, .int .i64 last] 30) = w1 := ⟨_, rfl⟩
  have hb1 : Below w.heap.size w w1 := hw1 ▸ bnew w _
  obtain ⟨z0, z1⟩ := box2 w (.slice A L.length c) (.int .i64 last) 30
  rw [hw1] at z0 z1
  have hs1 : w1.heap.size = w.heap.size + 1 := by rw [← hw1]; simp
  have hlt1 : w.heap.size < w1.heap.size := by omega
  have h1 := h.up hb1
  replace hw1 := Lib.hid hw1
  obtain ⟨O, hO⟩ : ∃ O, dropP L last k r = O := ⟨_, rfl⟩
  rw [hO]
  unfold dropP at hO
  obtain ⟨P, hP⟩ : ∃ P, openP L k = P := ⟨_, rfl⟩
  have hge := openP_ge (L := L) (k := k)
  rw [hP] at hO hge
  obtain ⟨Lv, rv, bv, hq⟩ : ∃ Lv rv bv, O.getD L = Lv ∧ (if O.isSome then r else last) = rv ∧ O.isSome = bv := ⟨_, _, _, rfl, rfl, rfl⟩
  rw [hq.1, hq.2.1, hq.2.2]
  replace hq := Lib.hid hq
  go_enter Try.func14, Try.ntmps14
  go_upto_region 1 with (fail)
  rw [hw1.out]
  clear hw1 h
  have hlaid := fun (W : World) => laid2 (w := w1) (W := W) (x := .slice none 0 0) (y := .int .i64 0) (t := 30)
  have hb2 : Below w1.heap.size w1 (w1.alloc (.cells #[.slice none 0 0, .int .i64 0] 30)) := bnew w1 _
  have hs2 : (w1.alloc (.cells #[.slice none 0 0, .int .i64 0] 30)).heap.size = w1.heap.size + 1 := by simp
  obtain ⟨w2, hw2⟩ : ∃ w2, w1.alloc (.cells #[.slice none 0 0, .int .i64 0] 30) = w2 := ⟨_, rfl⟩
  rw [hw2] at hlaid hb2 hs2 ⊢
  clear hw2
  have h2 := h1.up hb2
  have q0 := (hb2.cell hlt1).trans z0
  have q1 := (hb2.cell hlt1).trans z1
  have kop := ropen_any (last := last) h2 hl k
  rw [hP] at kop
  clear hP
  go_upto_region 2 with (go_at_call 27; refine kop.mono ?_; rintro e8 w3 ⟨rfl, hb8⟩)
  have y0 := (hb8.cell (p := ⟨w.heap.size, 0, none⟩) (by show w.heap.size < _; omega)).trans q0
  have y1 := (hb8.cell (p := ⟨w.heap.size, 1, none⟩) (by show w.heap.size < _; omega)).trans q1
  have hb23 := bthen hb2 hb2.size hb8
  have hs3 := hb8.size
  have hz := h1.up hb23
  clear q0 q1 kop
  by_cases c1 : r < last
  · rw [if_pos (Or.inl c1)] at hO
    subst hO
    clear hge
    obtain ⟨g0, g1, g2, g3⟩ := hlaid w3 hb8
    rw [hs1] at g0 g1 g2 g3
    go_wp2_with fail
    obtain ⟨p0, p1⟩ := put2 (.slice A L.length c) (.int .i64 last) g0 g1
    refine bodyPost_ret (v := .tuple #[.agg #[.slice A L.length c, .int .i64 last], .bool false]) (by simp [results, Try.results14, go_sem, p0, p1]; try rfl) rfl ?_
    have hb3 : Below w1.heap.size w3 ((w3.setCell ⟨w.heap.size + 1, 0, none⟩ (.slice A L.length c)).setCell ⟨w.heap.size + 1, 1, none⟩ (.int .i64 last)) := ((Below.refl _ _).setCell (by show _ ≤ w.heap.size + 1; omega) _).setCell (by show _ ≤ w.heap.size + 1; omega) _
    have hb9 := hb23.trans hb3
    obtain ⟨rfl, rfl, rfl⟩ := hq.out
    exact ⟨A, c, rfl, h1.up hb9, bthen hb1 hb1.size hb9, .inl ⟨rfl, rfl⟩⟩
  · by_cases c2 : P < 0
    · rw [if_pos (Or.inr (Or.inl c2))] at hO
      subst hO
      clear hge
      obtain ⟨g0, g1, g2, g3⟩ := hlaid w3 hb8
      rw [hs1] at g0 g1 g2 g3
      go_wp2_with fail
      obtain ⟨p0, p1⟩ := put2 (.slice A L.length c) (.int .i64 last) g0 g1
      refine bodyPost_ret (v := .tuple #[.agg #[.slice A L.length c, .int .i64 last], .bool false]) (by simp [results, Try.results14, go_sem, p0, p1]; try rfl) rfl ?_
      have hb3 : Below w1.heap.size w3 ((w3.setCell ⟨w.heap.size + 1, 0, none⟩ (.slice A L.length c)).setCell ⟨w.heap.size + 1, 1, none⟩ (.int .i64 last)) := ((Below.refl _ _).setCell (by show _ ≤ w.heap.size + 1; omega) _).setCell (by show _ ≤ w.heap.size + 1; omega) _
      have hb9 := hb23.trans hb3
      obtain ⟨rfl, rfl, rfl⟩ := hq.out
      exact ⟨A, c, rfl, h1.up hb9, bthen hb1 hb1.size hb9, .inl ⟨rfl, rfl⟩⟩
    · obtain ⟨i, x, rfl, hx⟩ := hge (by omega)
      rw [show ((i : Int)).toNat = i from rfl, hx, Option.map_some, Option.getD_some] at hO
      have hil := lt_at hx
      have di : (i : Int) < (L.length : Int) := by omega
      obtain ⟨b, o, rfl, hlb, e0, e1, e2⟩ := rd_span hz hx
      have hend := scs_end L hx r
      have hset : endAt L i r = L.set i (x.1, x.2.1, r) := by unfold endAt; rw [hx]
      have hilen := scs_len L
      obtain ⟨s, a, t⟩ := x
      dsimp only at e0 e1 e2 hO hend hset
      have hxx := hx
      clear hx e0 e2
      by_cases c3 : r ≤ a
      · rw [if_pos (Or.inr (Or.inr c3))] at hO
        subst hO
        clear hset hend
        obtain ⟨g0, g1, g2, g3⟩ := hlaid w3 hb8
        rw [hs1] at g0 g1 g2 g3
        go_wp2_with fail
        obtain ⟨p0, p1⟩ := put2 (.slice (some ⟨b, o, none⟩) L.length c) (.int .i64 last) g0 g1
        refine bodyPost_ret (v := .tuple #[.agg #[.slice (some ⟨b, o, none⟩) L.length c, .int .i64 last], .bool false]) (by simp [results, Try.results14, go_sem, p0, p1]; try rfl) rfl ?_
        have hb3 : Below w1.heap.size w3 ((w3.setCell ⟨w.heap.size + 1, 0, none⟩ (.slice (some ⟨b, o, none⟩) L.length c)).setCell ⟨w.heap.size + 1, 1, none⟩ (.int .i64 last)) := ((Below.refl _ _).setCell (by show _ ≤ w.heap.size + 1; omega) _).setCell (by show _ ≤ w.heap.size + 1; omega) _
        have hb9 := hb23.trans hb3
        obtain ⟨rfl, rfl, rfl⟩ := hq.out
        exact ⟨(some ⟨b, o, none⟩), c, rfl, h1.up hb9, bthen hb1 hb1.size hb9, .inl ⟨rfl, rfl⟩⟩
      · rw [if_neg (by omega)] at hO
        subst hO
        have hsrc := hz.src (P := Try.prog) Try.underlying28 (fun u hu => scs_one L u hu)
        go_upto_region 6 with (at_builtin; go_loud (refine wpList_append_src _ rfl (.tmp 32) (.tmp 34) 28 28 rfl w2.heap.size 67 i0 (.agg #[.string ⟨#[]⟩, .int .i64 0, .int .i64 0]) 3 32 Try.underlying28 hi0 hz0 hz1 hz2 rfl (by decide) (.slice none 0 0) 0 [] rfl (World.ownsRow_nil _ _ _ _) _ L.length (scs L) rfl hsrc (by simp only [maxLen]; omega) (by omega) hs3 ?_; intro v9 w8 hown8 hg8 hat8))
        rw [Nat.zero_add, List.nil_append] at hown8
        have hb28 := below_of_own hb8 hg8 (World.ownsRow_nil w3 w2.heap.size 67 3) hs3 (Nat.le_refl _)
        have hs8 := hb28.size
        clear hsrc hg8 hat8 y0 y1 hb8 e1
        obtain ⟨A8, c8, rfl, hR8⟩ := Rd.own hown8
        obtain ⟨_, hz8⟩ := hown8
        rcases hz8 with ⟨_, e⟩ | ⟨g, cap, cur, e, hbg, hh8, _⟩
        · omega
        cases e
        obtain ⟨g0, g1, g2, g3⟩ := hlaid w8 hb28
        rw [hs1] at g0 g1 g2 g3
        have hne : w.heap.size + 1 ≠ g := by omega
        have hfz : w8.frozen? ⟨g, i * 3 + 2, none⟩ = false := by simp [World.frozen?, hh8]
        obtain ⟨b8, o8, e8, hl8, _, _, k2⟩ := rd_span hR8 (show L[i]? = some (s, a, t) from hxx)
        injection e8 with e8
        injection e8 with f1 f2 _
        subst f1
        subst f2
        rw [Nat.zero_add] at k2
        clear hge
        go_wp2_with fail
        obtain ⟨p0, p1⟩ := put2 (W := w8.setCell ⟨g, i * 3 + 2, none⟩ (.int .i64 r)) (.slice (some ⟨g, 0, none⟩) L.length c8) (.int .i64 r) ((World.cell?_setCell_other _ _ _ _ (by intro e; exact hne (congrArg Addr.block e).symm)).trans g0) ((World.cell?_setCell_other _ _ _ _ (by intro e; exact hne (congrArg Addr.block e).symm)).trans g1)
        refine bodyPost_ret (v := .tuple #[.agg #[.slice (some ⟨g, 0, none⟩) L.length c8, .int .i64 r], .bool true]) (by simp [results, Try.results14, go_sem, p0, p1]; try rfl) rfl ?_
        have hb3 : Below w1.heap.size w8 (((w8.setCell ⟨g, i * 3 + 2, none⟩ (.int .i64 r)).setCell ⟨w.heap.size + 1, 0, none⟩ (.slice (some ⟨g, 0, none⟩) L.length c8)).setCell ⟨w.heap.size + 1, 1, none⟩ (.int .i64 r)) := (((Below.refl _ _).setCell (by show _ ≤ g; omega) _).setCell (by show _ ≤ w.heap.size + 1; omega) _).setCell (by show _ ≤ w.heap.size + 1; omega) _
        have hb9 := (bthen hb2 hb2.size hb28).trans hb3
        have hR9 := ((hR8.at (k := i * 3 + 2) (by omega) (.int .i64 r)).off (a := ⟨w.heap.size + 1, 0, none⟩) hne (.slice (some ⟨g, 0, none⟩) L.length c8)).off (a := ⟨w.heap.size + 1, 1, none⟩) hne (.int .i64 r)
        rw [← hend, ← hset] at hR9
        obtain ⟨rfl, rfl, rfl⟩ := hq.out
        have hlen : (endAt L i r).length = L.length := by rw [hset, List.length_set]
        refine ⟨some ⟨g, 0, none⟩, c8, by rw [Option.getD_some, hlen]; rfl, ?_, bthen hb1 hb1.size hb9, .inr fun b' o' q' e' => by injection e' with e'; injection e' with e'; omega⟩
        rw [Option.getD_some, hlen]
        exact hR9.more (by simp [World.setCell])
end Go.Proofs.Ytmdhollegemlhaa
