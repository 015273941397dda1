/- Layer 10: Levels. Condition: no more than a hundred thousand edges. -/
import Derived.BigQuiet
import Derived.Deep.QuietTactic
import Derived.Deep.Cut
import Derived.Test.YtinfbimfiaegdaaRepeatW
namespace Go.Proofs.Ytinfbimfiaegdaa
open Go.RowKit

theorem rings_any {w : World} {B n c c' : Nat} {A A' : Option Addr} {l : List Ed} (h1 : Gr w B A c n l) (h2 : Gr w B A' c' n (l.map turn)) (hB : B ≤ w.heap.size) :
    Calls Try.prog 12 #[.slice A n c, .slice A' n c'] w fun e w' => ∃ v all ord s, e = .returned v ∧ OrdOk l n ord ∧ Told l n ord s all ∧ VRing w.heap.size w' v all ∧ Below w.heap.size w w' :=
  callsIn_wide.1 (rings_in 6 (Nat.le_refl _) h1 h2 hB)

/-- What Levels answers. -/
inductive LvAns (n : Int) (l : List Ed) (w' : World) : Ending → Prop
  | arg (h : n < 0 ∨ 4096 < n ∨ ¬ InR n.toNat l) : LvAns n l w' (.returned (.tuple #[.slice none 0 0, .int .i64 1]))
  | cyc (h0 : 0 ≤ n) (h1 : n ≤ 4096) (hi : InR n.toNat l) (hc : Cyc l) : LvAns n l w' (.returned (.tuple #[.slice none 0 0, .int .i64 33]))
  | ok (h0 : 0 ≤ n) (h1 : n ≤ 4096) (hi : InR n.toNat l) (v : List Int) (A : Option Addr) (c : Nat) (hr : Rd w' w'.heap.size 1 A n.toNat c (lvs v)) (hv : v.length = n.toNat) (hL : Least n.toNat l (lvAt v)) (hb : ∀ x ∈ v, 0 ≤ x ∧ x ≤ 4096) : LvAns n l w' (.returned (.tuple #[.slice A n.toNat c, .int .i64 0]))

theorem lvs_set (v : List Int) (a : Nat) (z : Int) : (lvs v).toArray.setIfInBounds a (.int .i64 z) = (lvs (v.set a z)).toArray := by
  apply Array.ext'
  simp [lvs, List.map_set]
theorem setR_snoc {v : List Int} {z : Int} {r : List Nat} {j a : Nat} (h : r[j]? = some a) : setR v z (r.take (j + 1)) = (setR v z (r.take j)).set a z := by
  rw [List.take_add_one, h, Option.toList_some]
  have : ∀ (s : List Nat) (v : List Int), setR v z (s ++ [a]) = (setR v z s).set a z := by
    intro s
    induction s with
    | nil => intro v; rfl
    | cons b t ih => intro v; exact ih _
  exact this _ v
theorem rd_of_bk {w : World} {g n : Nat} {v : List Int} (h : Bk w g (lvs v).toArray 3) (hv : v.length = n) (hn : n ≤ 4096) : Rd w w.heap.size 1 (some ⟨g, 0, none⟩) n n (lvs v) :=
  ⟨by simp [lvs, hv], Nat.le_refl _, by simp only [maxLen]; omega, fun e => (by cases e), fun _ => ⟨g, 0, rfl, h.lt, fun j u hj => by rw [Nat.zero_add, h.cell j]; simpa using hj⟩⟩

set_option maxRecDepth 100000 in
set_option maxHeartbeats 4000000 in
theorem levels_any {w : World} {n : Int} {c : Nat} {A : Option Addr} {l : List Ed} (h : Rd w w.heap.size 3 A l.length c (ecells l)) (hl : l.length ≤ 100000) :
    Calls Try.prog 7 #[.int .i64 n, .slice A l.length c] w fun e w' => LvAns n l w' e ∧ Below w.heap.size w w' := by
  by_cases h0 : n < 0
  · have h0' : decide (n < 0) = true := by simpa using h0
    go_enter Try.func7, Try.ntmps7
    go_wp2_with fail
    go_ret2
    exact ⟨.arg (.inl h0), Below.refl _ _⟩
  · by_cases h1 : 4096 < n
    · go_enter Try.func7, Try.ntmps7
      go_wp2_with fail
      go_ret2
      exact ⟨.arg (.inr (.inl h1)), Below.refl _ _⟩
    · obtain ⟨k, rfl⟩ : ∃ k : Nat, n = (k : Int) := ⟨n.toNat, by omega⟩
      have hk : k ≤ 4096 := by omega
      have h0' : ¬ ((k : Int) < 0) := by omega
      go_enter Try.func7, Try.ntmps7
      go_wp2_with fail
      go_loopw [24] (fun vi wx => ∃ j : Nat, vi = .int .i64 j ∧ j ≤ l.length ∧ InR k (l.take j) ∧ Below w.heap.size w wx) (fun vi _ => l.length - (intOf vi).toNat)
      case atStart => exact ⟨0, rfl, Nat.zero_le _, fun e he => by simp at he, Below.refl _ _⟩
      case round =>
        obtain ⟨j, rfl, hj, hI, hbx⟩ := hrel
        by_cases hjl : j < l.length
        · have hdj : (j : Int) < (l.length : Int) := by omega
          obtain ⟨e, he⟩ : ∃ e, l[j]? = some e := ⟨_, List.getElem?_eq_getElem hjl⟩
          obtain ⟨b, o, rfl, hb, c0, c1, c2⟩ := rd_edge (h.below hbx) he
          have hws := hbx.size
          have hbx1 := hbx.alloc hws (.cells #[.int .i64 e.1, .int .i64 e.2.1, .bool e.2.2] 29)
          have x1 := Bk.new wr #[.int .i64 e.1, .int .i64 e.2.1, .bool e.2.2] 29
          go_upto_region 6 with (fail)
          have y0 := x1.cell 0
          have y1 := x1.cell 1
          clear c0 c1 c2 x1
          generalize wr.alloc (.cells #[.int .i64 e.1, .int .i64 e.2.1, .bool e.2.2] 29) = w1 at *
          have hI1 : 0 ≤ e.1 ∧ e.1 < k ∧ 0 ≤ e.2.1 ∧ e.2.1 < k → InR k (l.take (j + 1)) := fun q d hd => by
            rw [List.take_add_one, he, Option.toList_some, List.mem_append, List.mem_singleton] at hd
            rcases hd with hd | rfl
            · exact hI d hd
            · exact q
          by_cases hcmp : e.2.1 < e.1
          · by_cases hlo : e.2.1 < 0
            · go_wp2_with fail
              go_ret2
              exact ⟨.arg (.inr (.inr fun hI => by have := hI e (List.mem_of_getElem? he); simp only [Int.toNat_natCast] at this; omega)), hbx1⟩
            · by_cases hhi : e.1 ≥ (k : Int)
              · go_wp2_with fail
                go_ret2
                exact ⟨.arg (.inr (.inr fun hI => by have := hI e (List.mem_of_getElem? he); simp only [Int.toNat_natCast] at this; omega)), hbx1⟩
              · go_wp2_with fail
                exact ⟨⟨j + 1, by go_num, by omega, hI1 (by omega), hbx1⟩, by simp [intOf]; omega⟩
          · by_cases hlo : e.1 < 0
            · go_wp2_with fail
              go_ret2
              exact ⟨.arg (.inr (.inr fun hI => by have := hI e (List.mem_of_getElem? he); simp only [Int.toNat_natCast] at this; omega)), hbx1⟩
            · by_cases hhi : e.2.1 ≥ (k : Int)
              · go_wp2_with fail
                go_ret2
                exact ⟨.arg (.inr (.inr fun hI => by have := hI e (List.mem_of_getElem? he); simp only [Int.toNat_natCast] at this; omega)), hbx1⟩
              · go_wp2_with fail
                exact ⟨⟨j + 1, by go_num, by omega, hI1 (by omega), hbx1⟩, by simp [intOf]; omega⟩
        · obtain rfl : j = l.length := by omega
          have hdj : ¬ (((l.length : Nat) : Int) < (l.length : Int)) := by omega
          rw [List.take_length] at hI
          have hIk : InR ((k : Int).toNat) l := hI
          have hT : (l.map turn).length = l.length := by simp
          have h9 := h.below hbx
          go_upto_region 9 with (fail)
          have k1 := leaving_any (h9.more hbx.size) hI hk (by omega)
          go_upto_region 10 with (go_at_call 10; refine k1.mono ?_; rintro e2 w2 ⟨rfl, hG2, hb2⟩)
          have hbw2 := hbx.trans (hb2.mono hbx.size)
          have h2s := hbw2.size
          clear k1 hbx
          generalize wr.heap.size = g2 at *
          have k2 := repeat_any (w := w2.alloc (.cells #[.int .i64 (-1)] 3)) (b := w2.heap.size) (n := k) (x := -1) (by rw [cell_of_row _ _ _ _ _ _ (heap_alloc_new w2 _)]; rfl) hk
          go_upto_region 11 with (go_at_call 11; refine k2.mono ?_; rintro e3 w3 ⟨⟨g, rfl, hg3, hx3⟩, hb3⟩)
          have hb3' : Below w2.heap.size w2 w3 := ((Below.refl _ w2).alloc (Nat.le_refl _) _).trans (hb3.mono (by simp))
          have hbw3 := hbw2.trans (hb3'.mono h2s)
          have h3s := hb3'.size
          replace hg3 : w2.heap.size ≤ g := by simp at hg3; omega
          clear k2 hb3
          have hG3 := hG2.below hb3'
          have kt := turned_any ((h.below hbw3).more hbw3.size) (by omega)
          have kl : ∀ (W : World) (A4 : Option Addr) (c4 : Nat), Rd W W.heap.size 3 A4 l.length c4 (ecells (l.map turn)) → Calls Try.prog 10 #[.int .i64 (k : Int), .slice A4 l.length c4] W fun e w' => e = .returned (.slice (some ⟨W.heap.size, 0, none⟩) k k) ∧ Gr w' w'.heap.size (some ⟨W.heap.size, 0, none⟩) k k (l.map turn) ∧ Below W.heap.size W w' := fun W A4 c4 hr => by
            have := leaving_any (w := W) (l := l.map turn) (A := A4) (c := c4) (by rw [hT]; exact hr) hI.turn hk (by omega)
            rw [hT] at this
            exact this
          have kr : ∀ (w5 : World) (x : Nat), Gr w5 w5.heap.size (some ⟨g2, 0, none⟩) k k l → Gr w5 w5.heap.size (some ⟨x, 0, none⟩) k k (l.map turn) → Calls Try.prog 12 #[.slice (some ⟨g2, 0, none⟩) k k, .slice (some ⟨x, 0, none⟩) k k] w5 fun e w' => ∃ v all ord s, e = .returned v ∧ OrdOk l k ord ∧ Told l k ord s all ∧ VRing w5.heap.size w' v all ∧ Below w5.heap.size w5 w' := fun w5 x q1 q2 => rings_any q1 q2 (Nat.le_refl _)
          have hG3' := hG3.more h3s
          clear hT
          go_wp2_with (first
            | (go_at_call 13; refine kt.mono ?_; rintro e4 w4 ⟨⟨A4, c4, rfl, hr4⟩, hb4⟩; have hG4 := (hG3'.below hb4).more hb4.size)
            | (go_at_call 10; refine (kl _ _ _ hr4).mono ?_; rintro e5 w5 ⟨rfl, hg5, hb5⟩; have hG5 := (hG4.below hb5).more hb5.size)
            | (go_at_call 12; refine (kr _ _ hG5 hg5).mono ?_; rintro e6 w6 ⟨va, all, ord, s, rfl, hO, hTd, hVR, hb6⟩; obtain ⟨vs, hV1, hV2⟩ := hVR; obtain ⟨A6, c6, rfl, hR6⟩ := Rd.own hV1))
          have hs4 := hb4.size
          have hs5 := hb5.size
          have hs6 := hb6.size
          have b36 : Below w3.heap.size w3 w6 := (hb4.trans (hb5.mono hs4)).trans (hb6.mono (by omega))
          have hbw6 := hbw3.trans (b36.mono hbw3.size)
          have hgl := hx3.lt
          have hsz := hbw3.size
          have hG6 : Gr w6 w2.heap.size _ _ _ _ := hG3.below (b36.mono h3s)
          have hX6 : Bk w6 g (lvs (List.replicate k (-1))).toArray 3 := by
            have := hx3.below b36
            simpa [lvs] using this
          have hgw : w.heap.size ≤ g := by omega
          have hg5' : g < w5.heap.size := by omega
          have hwh : ∀ i, i < k ↔ i ∈ all.flatten := hTd.whole hO
          have hRg := hTd.rings
          have hfew := rings_few hRg fun i hi => (hwh i).2 hi
          have hal : (all.length : Int) ≤ 9223372036854775807 := by omega
          clear kl kr kt hG2 hb2 hbw2 hb3' hbw3 hx3 hG3 hG3' hb4 hb5 hb6 hG4 hG5 hg5 b36 hTd hO hr4 h9
          go_loopw [57] (fun vi wx => ∃ (j : Nat) (v : List Int), vi = .int .i64 j ∧ j ≤ all.length ∧ Lv l k (all.take j) v ∧ Bk wx g (lvs v).toArray 3 ∧ Kp g w6.heap.size w6 wx) (fun vi _ => all.length - (intOf vi).toNat)
          case atStart => exact ⟨0, _, rfl, Nat.zero_le _, Lv.start, hX6, Kp.refl _ _ _⟩
          case round =>
            obtain ⟨j, v, rfl, hj, hLv, hX, hK⟩ := hrel
            have hKs := hK.size
            by_cases hjl : j < all.length
            · have hdj : (j : Int) < (all.length : Int) := by omega
              obtain ⟨r, hr⟩ : ∃ r, all[j]? = some r := ⟨_, List.getElem?_eq_getElem hjl⟩
              obtain ⟨u, hu, hor⟩ := hV2 j r hr
              have ks : ∀ {e s n} {q : Value} {xs}, w6.ownsRow w5.heap.size e s q n xs → wr.ownsRow w5.heap.size e s q n xs := fun q => own_same q fun b hb => hK.block b (q.lt b hb).2 (by have := (q.lt b hb).1; omega)
              have hV1' := ks hV1
              have hor' := ks hor
              obtain ⟨Ar, cr, rfl, hRr⟩ := Rd.own hor'
              obtain ⟨A6', c6', e6, hR6'⟩ := Rd.own hV1'
              injection e6 with e6 _ e6'
              subst e6 e6'
              obtain ⟨b, o, q, rfl, _, hq, hcq⟩ := hR6'.get hjl
              rw [hu] at hq
              cases hq
              have esp : all = all.take j ++ r :: all.drop (j + 1) := by
                rw [List.getElem?_eq_some_iff] at hr
                obtain ⟨h1, rfl⟩ := hr
                simp
              have htk : all.take (j + 1) = all.take j ++ [r] := by rw [List.take_add_one, hr]; rfl
              have hrk : ∀ i ∈ r, i < k := fun i hi => (hwh i).2 (by rw [esp]; simp [hi])
              have hbd : ∀ x ∈ v, -1 ≤ x ∧ x ≤ 5000 := fun x hx => by
                have := hLv.small x hx
                rw [List.length_take] at this
                omega
              have kR := ringLevel_any (w := wr) hRr ((hG6.below (hK.below (by omega) hg3)).more (by omega)) (rd_of_bk hX hLv.len hk) hLv.len hrk hbd
              have hwh' : ∀ i, i ∈ all.flatten → i < k := fun i hi => (hwh i).2 hi
              cases hz : upR v l 0 r with
              | none =>
                rw [hz] at kR
                simp only [rlV] at kR
                have hcy := hLv.bad hRg esp hwh' hz
                clear esp htk hr hz
                go_wp2_with (go_at_call 14; refine kR.mono ?_; rintro e7 w7 ⟨rfl, hb7⟩)
                go_ret2
                exact ⟨.cyc (by omega) (by omega) hIk hcy, hbw6.trans ((hK.below (by omega) hgw).trans (hb7.mono (by omega)))⟩
              | some z =>
                rw [hz] at kR
                simp only [rlV] at kR
                have hst := hLv.step hRg esp hwh' hz
                rw [← htk] at hst
                clear esp htk hr hz
                go_wp2_with (go_at_call 14; refine kR.mono ?_; rintro e7 w7 ⟨rfl, hb7⟩)
                have hrl : (r.length : Int) ≤ 9223372036854775807 := by have := hRr.cap; have := hRr.capm; simp only [maxLen] at this; omega
                have hX7 := hX.below (hb7.mono (Nat.le_refl _))
                obtain ⟨wo, rfl⟩ : ∃ wo : World, wo = wr := ⟨_, rfl⟩
                go_loopw [72] (fun vi wy => ∃ i : Nat, vi = .int .i64 i ∧ i ≤ r.length ∧ Bk wy g (lvs (setR v z (r.take i))).toArray 3 ∧ Kp g wo.heap.size wo wy) (fun vi _ => r.length - (intOf vi).toNat)
                case atStart => exact ⟨0, rfl, Nat.zero_le _, hX7, Kp.of_below hb7 _⟩
                case round =>
                  obtain ⟨i, rfl, hi, hXi, hKi⟩ := hrel
                  by_cases hil : i < r.length
                  · have hdi : (i : Int) < (r.length : Int) := by omega
                    obtain ⟨a, ha⟩ : ∃ a, r[i]? = some a := ⟨_, List.getElem?_eq_getElem hil⟩
                    have hak := hrk a (List.mem_of_getElem? ha)
                    have hai : (a : Int) < (k : Int) := by omega
                    have hor2 : wr.ownsRow w5.heap.size 3 1 _ _ _ := own_same hor' fun b hb => hKi.block b (hor'.lt b hb).2 (by have := (hor'.lt b hb).1; omega)
                    obtain ⟨A9, c9, e9, hR9⟩ := Rd.own hor2
                    injection e9 with e9 _ e9'
                    subst e9 e9'
                    obtain ⟨b2, o2, q2, rfl, _, hq2, hc2⟩ := hR9.get hil
                    have hq3 : q2 = .int .i64 (a : Int) := by
                      simp only [ints, List.getElem?_map, ha, Option.map_some, Option.some.injEq] at hq2
                      exact hq2.symm
                    subst hq3
                    have hca : ∃ y : Int, wr.cell? ⟨g, a, none⟩ = some (.int .i64 y) := by
                      rw [hXi.cell a]
                      have : a < (lvs (setR v z (r.take i))).length := by simp [lvs, setR_len, hLv.len, hak]
                      rw [List.getElem?_toArray, List.getElem?_eq_getElem this]
                      simp [lvs]
                    obtain ⟨y, hca⟩ := hca
                    have hfa := hXi.fz a
                    go_wp2_with fail
                    have hX8 := hXi.set a (.int .i64 z)
                    rw [lvs_set, ← setR_snoc ha] at hX8
                    exact ⟨⟨i + 1, by go_num, by omega, hX8, ⟨hKi.os, hKi.tape, hKi.output, by have := hKi.size; simp [World.setCell]; omega, fun b hb1 hb2 => (Below.heap_setCell _ _ _ _ hb2).trans (hKi.block b hb1 hb2)⟩⟩, by simp [intOf]; omega⟩
                  · obtain rfl : i = r.length := by omega
                    have hdi : ¬ (((r.length : Nat) : Int) < (r.length : Int)) := by omega
                    rw [List.take_length] at hXi
                    go_wp2_with fail
                    exact ⟨⟨j + 1, _, by go_num, by omega, hst, hXi, hK.trans (hKi.more hKs)⟩, by simp [intOf]; omega⟩
            · obtain rfl : j = all.length := by omega
              have hdj : ¬ (((all.length : Nat) : Int) < (all.length : Int)) := by omega
              rw [List.take_length] at hLv
              go_wp2_with fail
              go_ret2
              have hLe := hLv.least hI hwh
              refine ⟨.ok (by omega) (by omega) hIk v _ _ (rd_of_bk hX hLv.len hk) hLv.len hLe fun x hx => ?_, hbw6.trans (hK.below (by omega) hgw)⟩
              have h1 := hLv.small x hx
              obtain ⟨i, hi, rfl⟩ := List.getElem_of_mem hx
              have h2 := hLe.1.1 i (by rw [hLv.len] at hi; exact hi)
              rw [lv_get (List.getElem?_eq_getElem hi)] at h2
              omega
end Go.Proofs.Ytinfbimfiaegdaa
