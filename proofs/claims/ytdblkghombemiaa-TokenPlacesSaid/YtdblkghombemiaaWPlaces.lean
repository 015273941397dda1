/- TokenPlaces walked: it answers true. -/
import Derived.BigQuiet
import Derived.Deep.QuietTactic
import Derived.StillTailTactics
import Derived.Deep.DeepCutAuto
import Derived.Test.YtdblkghombemiaaPlacesF
import Derived.Test.YtdblkghombemiaaWNotes
namespace Go.Proofs.Ytdblkghombemiaa
open Go.RowKit

theorem wrap_id {z : Int} (h1 : -9223372036854775808 ≤ z) (h2 : z ≤ 9223372036854775807) : IntKind.i64.wrap z = z := by
  unfold IntKind.wrap
  simp [IntKind.signed, IntKind.bits]
  omega
theorem places_five {nb ob : Bool} {c : Nat} (h : nb = mch ob c) (hg : nb = true ∨ blankB c = true) :
    (c = 10 ∧ nb = false) ∨ (c ≠ 10 ∧ c = 47 ∧ nb = true) ∨ (c ≠ 10 ∧ c ≠ 47 ∧ ob = true ∧ nb = true) ∨ (c ≠ 10 ∧ c ≠ 47 ∧ ob = false ∧ nb = false ∧ (c = 32 ∨ c = 9)) := by
  unfold mch at h
  by_cases h10 : c = 10
  · exact .inl ⟨h10, by rw [h, h10]; simp⟩
  by_cases h47 : c = 47
  · exact .inr (.inl ⟨h10, h47, by rw [h, h47]; simp⟩)
  cases ob with
  | true => exact .inr (.inr (.inl ⟨h10, h47, rfl, by rw [h]; simp [h10]⟩))
  | false =>
    have hn : nb = false := by rw [h]; simp [h47]
    rw [hn] at hg
    have := blankB_iff.1 (by simpa using hg)
    exact .inr (.inr (.inr ⟨h10, h47, rfl, hn, by omega⟩))

set_option maxRecDepth 100000 in
set_option maxHeartbeats 8000000 in
theorem tokenPlaces_walk (s0 : ByteArray) (w : World) (f0 : s0.size ≤ maxLen) :
    Calls Try.prog 5 #[.string s0] w fun e w' => e = .returned (.bool true) ∧ Below w.heap.size w w' := by
  unfold maxLen at f0
  have Hb := Lib.hid (Below.refl w.heap.size w)
  have hB : w.heap.size ≤ w.heap.size := Nat.le_refl _
  by_cases h2000 : 2000 < s0.size
  · go_enter Try.func5, Try.ntmps5
    go_wp2_with ((with_reducible refine (awake_any _).mono ?_); rintro e w1 ⟨rfl, hb⟩; obtain ⟨Hb, hB⟩ := chain Hb hB hb; clear hb)
    go_ret
    exact ⟨rfl, Hb.out⟩
  have hz : s0.size ≤ 2000 := by omega
  clear f0
  have k1 := fun l e p h => all_named s0 (by omega) (l := l) (e := e) (p := p) h
  have FP := all_places hz
  have FW := all_wrong hz
  have hln := all_at s0
  obtain ⟨l1, e1, p1, h1⟩ : ∃ l e p, allS s0 = (l, e, p) := ⟨_, _, _, rfl⟩
  rw [h1] at FP FW hln
  dsimp only at FP FW hln
  replace k1 := k1 _ _ _ h1
  clear h1
  have HLN := Lib.hid hln
  clear hln
  by_cases h0 : e1 = 0
  · subst h0
    obtain ⟨hP, rfl, hne⟩ := FP rfl
    have HP := Lib.hid hP
    have hl0 : 0 < l1.length := List.length_pos_iff.2 hne
    have hd0 : (0 : Int) < (l1.length : Nat) := by omega
    clear FP FW hP hne
    go_enter Try.func5, Try.ntmps5
    go_wp2_with (first
      | ((with_reducible refine (awake_any _).mono ?_); rintro e w1 ⟨rfl, hb⟩; obtain ⟨Hb, hB⟩ := chain Hb hB hb; clear hb)
      | ((with_reducible refine (k1 _).mono ?_); rintro e w2 ⟨⟨A1, c1, rfl, ht1⟩, hb⟩; obtain ⟨Hb, hB⟩ := chain Hb hB hb; clear hb))
    clear k1
    have hlm := Rd.capm ht1
    have hlc := Rd.cap ht1
    unfold maxLen at hlm
    go_loopw [7, 8] (fun ve vi wr => ∃ (i e : Nat), vi = .int .i64 i ∧ ve = .int .i64 e ∧ i ≤ l1.length ∧ PlOK s0 e (l1.drop i) ∧ e ≤ s0.size ∧ Below w2.heap.size w2 wr) (fun _ vi _ => l1.length - (intOf vi).toNat)
    case atStart => exact ⟨0, 0, rfl, rfl, Nat.zero_le _, HP.out, Nat.zero_le _, Below.refl _ _⟩
    case round =>
      clear HP
      obtain ⟨i, en, rfl, rfl, hi, hpl, hes, hbw⟩ := hrel
      have hwb := hbw.size
      by_cases hil : i < l1.length
      · have hdi : (i : Int) < (l1.length : Nat) := by omega
        obtain ⟨t, ht⟩ : ∃ t, l1[i]? = some t := ⟨l1[i], List.getElem?_eq_getElem hil⟩
        obtain ⟨b1, o1, rfl, hb1, x0, x1, x2⟩ := (ht1.below hbw).get ht
        have hdr : l1.drop i = t :: l1.drop (i + 1) := by
          rw [List.drop_eq_getElem_cons hil]
          rw [List.getElem?_eq_getElem hil] at ht
          cases ht
          rfl
        rw [hdr] at hpl
        obtain ⟨p1, p2, p3, p4, p5, p6, p7, p8⟩ := hpl
        have hlast : l1.drop (i + 1) = [] ↔ i + 1 = l1.length := by
          rw [List.drop_eq_nil_iff]; omega
        rw [hlast] at p1
        have P7 := Lib.hid p7
        have Hbw := Lib.hid hbw
        clear ht hdr hlast p7 hbw
        generalize t.1 = q0 at *
        generalize t.2.1 = q1 at *
        generalize t.2.2 = q2 at *
        go_upto_region 14 with (fail)
        obtain ⟨W, hW⟩ : ∃ W, W = wr.alloc (.cells #[.int .i64 q0, .string q1, .int .i64 q2] 32) := ⟨_, rfl⟩
        have hrow : W.heap[wr.heap.size]? = some (.cells #[.int .i64 q0, .string q1, .int .i64 q2] 32 (0, 0)) := by rw [hW]; exact heap_alloc_new wr _
        have hgW : wr.heap.size < W.heap.size := (Array.getElem?_eq_some_iff.1 hrow).1
        have z0 : W.cell? ⟨wr.heap.size, 0, none⟩ = some (.int .i64 q0) := by rw [cell_of_row _ _ _ _ _ _ hrow]; rfl
        have z1 : W.cell? ⟨wr.heap.size, 1, none⟩ = some (.string q1) := by rw [cell_of_row _ _ _ _ _ _ hrow]; rfl
        have z2 : W.cell? ⟨wr.heap.size, 2, none⟩ = some (.int .i64 q2) := by rw [cell_of_row _ _ _ _ _ _ hrow]; rfl
        have HBW : Hid (Below w2.heap.size w2 W) := Lib.hid (by rw [hW]; exact Hbw.out.alloc hwb _)
        rw [← hW]
        generalize wr.heap.size = g at *
        clear hrow hW x0 x1 x2 hb1 ht1
        have hq1 : q1.size ≤ 2000 := by omega
        obtain ⟨ez, hez⟩ : ∃ ez : Nat, ez = q2 + q1.size := ⟨_, rfl⟩
        have hsum : (q2 : Int) + (q1.size : Int) = (ez : Int) := by omega
        have hq2e : (q2 : Int) ≤ (ez : Int) := by omega
        have hezs : (ez : Int) ≤ (s0.size : Int) := by omega
        have d1 : decide ((q2 : Int) < (en : Int)) = false := decide_eq_false (by omega)
        have d2 : decide ((s0.size : Int) < (ez : Int)) = false := decide_eq_false (by omega)
        have hwr : IntKind.i64.wrap (ez : Int) = (ez : Int) := wrap_id (by omega) (by omega)
        have d1b : decide (q2 < en) = false := decide_eq_false (by omega)
        have d2b : decide (s0.size < ez) = false := decide_eq_false (by omega)
        have hwl : IntKind.i64.wrap ((l1.length : Int) - 1) = (l1.length : Int) - 1 := wrap_id (by omega) (by omega)
        rw [← hez] at p6 p8
        have P8 := Lib.hid p8
        have HEZ := Lib.hid hez
        clear hez p5 p8
        have hz1 := Lib.hid z1
        have hcs : (q0 = 3 ∧ i + 1 = l1.length ∧ q1 = ⟨#[]⟩) ∨ (q0 = 1 ∧ i + 1 ≠ l1.length ∧ 0 < q1.size ∧ nameS q1 = true) ∨ (q0 ≠ 3 ∧ q0 ≠ 1 ∧ i + 1 ≠ l1.length ∧ 0 < q1.size) := by
          by_cases e3 : q0 = 3
          · exact .inl ⟨e3, p1.1 e3, p2.1 e3⟩
          · have hl : i + 1 ≠ l1.length := fun h => e3 (p1.2 h)
            have hs : 0 < q1.size := by
              rcases Nat.eq_zero_or_pos q1.size with h | h
              · exact absurd (p2.2 (nil_size h)) e3
              · exact h
            by_cases e1 : q0 = 1
            · exact .inr (.inl ⟨e1, hl, hs, p3 e1⟩)
            · exact .inr (.inr ⟨e3, e1, hl, hs⟩)
        clear p1 p2 p3
        rcases hcs with ⟨c1, c2, c3⟩ | ⟨c1, c2, c3, c4⟩ | ⟨c1, c2, c3, c4⟩
        · have d3 : (((q0 : Nat) : Int) == 3) = true := by rw [beq_iff_eq]; omega
          have d4 : ((i : Int) == (l1.length : Int) - 1) = true := by rw [beq_iff_eq]; omega
          have d5 : q1.toList.isEmpty = true := by subst c3; decide +kernel
          have d6 : (((q0 : Nat) : Int) == 1) = false := by rw [beq_eq_false_iff_ne]; omega
          clear c1 c2 c3
          go_quiet (fail)
          go_wp2
          go_loopw [10, 11] (fun vn vk wz => ∃ j : Nat, vk = .int .i64 (en + j : Nat) ∧ vn = .bool (stG s0 en j) ∧ en + j ≤ q2 ∧ Below W.heap.size W wz) (fun _ vk _ => q2 - (intOf vk).toNat)
          case atStart => exact ⟨0, rfl, rfl, by omega, by first | exact hbv | exact ⟨rfl, rfl, rfl, Nat.le_refl _, fun _ _ => rfl⟩⟩
          case round =>
            obtain ⟨j, rfl, rfl, hj, hbz⟩ := hrel
            have hgz : ∀ o, wr.cell? ⟨g, o, none⟩ = W.cell? ⟨g, o, none⟩ := fun o => hbz.cell hgW
            have y1 := (hgz 1).trans z1
            have y2 := (hgz 2).trans z2
            have Hbz := Lib.hid hbz
            clear hbz hgz
            by_cases hjq : en + j < q2
            · have hdj : (en : Int) + (j : Int) < (q2 : Nat) := by omega
              have hjs : en + j < s0.size := by omega
              have hx : (s0[en + j]'hjs).toNat = bt s0 (en + j) := (bt_eq s0 (en + j) hjs).symm
              have hgap := P7.out j hjq
              have hst : stG s0 en (j + 1) = mch (stG s0 en j) (bt s0 (en + j)) := rfl
              have hlt := bt_lt s0 (en + j)
              have hc5 : (bt s0 (en + j) = 10 ∧ stG s0 en (j + 1) = false) ∨ (bt s0 (en + j) ≠ 10 ∧ bt s0 (en + j) = 47 ∧ stG s0 en (j + 1) = true) ∨ (bt s0 (en + j) ≠ 10 ∧ bt s0 (en + j) ≠ 47 ∧ stG s0 en j = true ∧ stG s0 en (j + 1) = true) ∨ (bt s0 (en + j) ≠ 10 ∧ bt s0 (en + j) ≠ 47 ∧ stG s0 en j = false ∧ stG s0 en (j + 1) = false ∧ (bt s0 (en + j) = 32 ∨ bt s0 (en + j) = 9)) := places_five hst hgap
              clear hgap hst
              generalize hnb : stG s0 en (j + 1) = nb at *
              have HNB := Lib.hid hnb
              generalize hob : stG s0 en j = ob at *
              clear hnb hob
              generalize bt s0 (en + j) = cc at *
              rcases hc5 with ⟨h10, rfl⟩ | ⟨h10, h47, rfl⟩ | ⟨h10, h47, rfl, rfl⟩ | ⟨h10, h47, rfl, rfl, h32 | h32⟩
              · have hcz : (cc : Int) = 10 := by omega
                clear h10
                cases ob
                all_goals
                  go_wp2
                  go_roundw
                  case rel => exact ⟨j + 1, by go_num, by rw [HNB.out], by omega, Hbz.out⟩
                  case measure => simp [intOf]; omega
              · have hcz : (cc : Int) = 47 := by omega
                clear h10 h47
                cases ob
                all_goals
                  go_wp2
                  go_roundw
                  case rel => exact ⟨j + 1, by go_num, by rw [HNB.out], by omega, Hbz.out⟩
                  case measure => simp [intOf]; omega
              · have v10 : ¬ (cc : Int) = 10 := by omega
                have w10 : ((cc : Int) == 10) = false := by rw [beq_eq_false_iff_ne]; exact v10
                have n10 : ((cc : Int) != 10) = true := by rw [bne_iff_ne]; exact v10
                clear h10 h47
                go_wp2
                go_roundw
                case rel => exact ⟨j + 1, by go_num, by rw [HNB.out], by omega, Hbz.out⟩
                case measure => simp [intOf]; omega
              · have hcz : (cc : Int) = 32 := by omega
                clear h10 h47 h32
                go_wp2
                go_roundw
                case rel => exact ⟨j + 1, by go_num, by rw [HNB.out], by omega, Hbz.out⟩
                case measure => simp [intOf]; omega
              · have hcz : (cc : Int) = 9 := by omega
                clear h10 h47 h32
                go_wp2
                go_roundw
                case rel => exact ⟨j + 1, by go_num, by rw [HNB.out], by omega, Hbz.out⟩
                case measure => simp [intOf]; omega
            · have hdj : ¬ ((en : Int) + (j : Int) < (q2 : Nat)) := by omega
              have hws := HBW.out.size
              go_wp2
              go_roundw
              case rel => exact ⟨i + 1, ez, by go_num, rfl, by omega, P8.out, by omega, HBW.out.trans (Hbz.out.mono hws)⟩
              case measure => simp [intOf]; omega
        · have d3 : (((q0 : Nat) : Int) == 3) = false := by rw [beq_eq_false_iff_ne]; omega
          have d4 : ((i : Int) == (l1.length : Int) - 1) = false := by rw [beq_eq_false_iff_ne]; omega
          have d5 : q1.toList.isEmpty = false := list_ne2 c3
          have d6 : (((q0 : Nat) : Int) == 1) = true := by rw [beq_iff_eq]; omega
          have kn : ∀ W, _ := fun W => name_any q1 W (by omega)
          rw [c4] at kn
          clear c1 c2 c3 c4
          go_still_tail 57, (by kernel_rfl)
          change wpList _ _ _ _ _ (World.drew _)
          go_wp2_with ((with_reducible refine (kn _).mono ?_); rintro e v3 ⟨rfl, hb⟩; have hbv : Below W.heap.size W v3 := ⟨hb.os, hb.tape, hb.output, hb.size, hb.block⟩; clear hb)
          go_loopw [10, 11] (fun vn vk wz => ∃ j : Nat, vk = .int .i64 (en + j : Nat) ∧ vn = .bool (stG s0 en j) ∧ en + j ≤ q2 ∧ Below W.heap.size W wz) (fun _ vk _ => q2 - (intOf vk).toNat)
          case atStart => exact ⟨0, rfl, rfl, by omega, by first | exact hbv | exact ⟨rfl, rfl, rfl, Nat.le_refl _, fun _ _ => rfl⟩⟩
          case round =>
            obtain ⟨j, rfl, rfl, hj, hbz⟩ := hrel
            have hgz : ∀ o, wr.cell? ⟨g, o, none⟩ = W.cell? ⟨g, o, none⟩ := fun o => hbz.cell hgW
            have y1 := (hgz 1).trans z1
            have y2 := (hgz 2).trans z2
            have Hbz := Lib.hid hbz
            clear hbz hgz
            by_cases hjq : en + j < q2
            · have hdj : (en : Int) + (j : Int) < (q2 : Nat) := by omega
              have hjs : en + j < s0.size := by omega
              have hx : (s0[en + j]'hjs).toNat = bt s0 (en + j) := (bt_eq s0 (en + j) hjs).symm
              have hgap := P7.out j hjq
              have hst : stG s0 en (j + 1) = mch (stG s0 en j) (bt s0 (en + j)) := rfl
              have hlt := bt_lt s0 (en + j)
              have hc5 : (bt s0 (en + j) = 10 ∧ stG s0 en (j + 1) = false) ∨ (bt s0 (en + j) ≠ 10 ∧ bt s0 (en + j) = 47 ∧ stG s0 en (j + 1) = true) ∨ (bt s0 (en + j) ≠ 10 ∧ bt s0 (en + j) ≠ 47 ∧ stG s0 en j = true ∧ stG s0 en (j + 1) = true) ∨ (bt s0 (en + j) ≠ 10 ∧ bt s0 (en + j) ≠ 47 ∧ stG s0 en j = false ∧ stG s0 en (j + 1) = false ∧ (bt s0 (en + j) = 32 ∨ bt s0 (en + j) = 9)) := places_five hst hgap
              clear hgap hst
              generalize hnb : stG s0 en (j + 1) = nb at *
              have HNB := Lib.hid hnb
              generalize hob : stG s0 en j = ob at *
              clear hnb hob
              generalize bt s0 (en + j) = cc at *
              rcases hc5 with ⟨h10, rfl⟩ | ⟨h10, h47, rfl⟩ | ⟨h10, h47, rfl, rfl⟩ | ⟨h10, h47, rfl, rfl, h32 | h32⟩
              · have hcz : (cc : Int) = 10 := by omega
                clear h10
                cases ob
                all_goals
                  go_wp2
                  go_roundw
                  case rel => exact ⟨j + 1, by go_num, by rw [HNB.out], by omega, Hbz.out⟩
                  case measure => simp [intOf]; omega
              · have hcz : (cc : Int) = 47 := by omega
                clear h10 h47
                cases ob
                all_goals
                  go_wp2
                  go_roundw
                  case rel => exact ⟨j + 1, by go_num, by rw [HNB.out], by omega, Hbz.out⟩
                  case measure => simp [intOf]; omega
              · have v10 : ¬ (cc : Int) = 10 := by omega
                have w10 : ((cc : Int) == 10) = false := by rw [beq_eq_false_iff_ne]; exact v10
                have n10 : ((cc : Int) != 10) = true := by rw [bne_iff_ne]; exact v10
                clear h10 h47
                go_wp2
                go_roundw
                case rel => exact ⟨j + 1, by go_num, by rw [HNB.out], by omega, Hbz.out⟩
                case measure => simp [intOf]; omega
              · have hcz : (cc : Int) = 32 := by omega
                clear h10 h47 h32
                go_wp2
                go_roundw
                case rel => exact ⟨j + 1, by go_num, by rw [HNB.out], by omega, Hbz.out⟩
                case measure => simp [intOf]; omega
              · have hcz : (cc : Int) = 9 := by omega
                clear h10 h47 h32
                go_wp2
                go_roundw
                case rel => exact ⟨j + 1, by go_num, by rw [HNB.out], by omega, Hbz.out⟩
                case measure => simp [intOf]; omega
            · have hdj : ¬ ((en : Int) + (j : Int) < (q2 : Nat)) := by omega
              have hws := HBW.out.size
              go_wp2
              go_roundw
              case rel => exact ⟨i + 1, ez, by go_num, rfl, by omega, P8.out, by omega, HBW.out.trans (Hbz.out.mono hws)⟩
              case measure => simp [intOf]; omega
        · have d3 : (((q0 : Nat) : Int) == 3) = false := by rw [beq_eq_false_iff_ne]; omega
          have d4 : ((i : Int) == (l1.length : Int) - 1) = false := by rw [beq_eq_false_iff_ne]; omega
          have d5 : q1.toList.isEmpty = false := list_ne2 c4
          have d6 : (((q0 : Nat) : Int) == 1) = false := by rw [beq_eq_false_iff_ne]; omega
          clear c1 c2 c3 c4
          go_quiet (fail)
          go_wp2
          go_loopw [10, 11] (fun vn vk wz => ∃ j : Nat, vk = .int .i64 (en + j : Nat) ∧ vn = .bool (stG s0 en j) ∧ en + j ≤ q2 ∧ Below W.heap.size W wz) (fun _ vk _ => q2 - (intOf vk).toNat)
          case atStart => exact ⟨0, rfl, rfl, by omega, by first | exact hbv | exact ⟨rfl, rfl, rfl, Nat.le_refl _, fun _ _ => rfl⟩⟩
          case round =>
            obtain ⟨j, rfl, rfl, hj, hbz⟩ := hrel
            have hgz : ∀ o, wr.cell? ⟨g, o, none⟩ = W.cell? ⟨g, o, none⟩ := fun o => hbz.cell hgW
            have y1 := (hgz 1).trans z1
            have y2 := (hgz 2).trans z2
            have Hbz := Lib.hid hbz
            clear hbz hgz
            by_cases hjq : en + j < q2
            · have hdj : (en : Int) + (j : Int) < (q2 : Nat) := by omega
              have hjs : en + j < s0.size := by omega
              have hx : (s0[en + j]'hjs).toNat = bt s0 (en + j) := (bt_eq s0 (en + j) hjs).symm
              have hgap := P7.out j hjq
              have hst : stG s0 en (j + 1) = mch (stG s0 en j) (bt s0 (en + j)) := rfl
              have hlt := bt_lt s0 (en + j)
              have hc5 : (bt s0 (en + j) = 10 ∧ stG s0 en (j + 1) = false) ∨ (bt s0 (en + j) ≠ 10 ∧ bt s0 (en + j) = 47 ∧ stG s0 en (j + 1) = true) ∨ (bt s0 (en + j) ≠ 10 ∧ bt s0 (en + j) ≠ 47 ∧ stG s0 en j = true ∧ stG s0 en (j + 1) = true) ∨ (bt s0 (en + j) ≠ 10 ∧ bt s0 (en + j) ≠ 47 ∧ stG s0 en j = false ∧ stG s0 en (j + 1) = false ∧ (bt s0 (en + j) = 32 ∨ bt s0 (en + j) = 9)) := places_five hst hgap
              clear hgap hst
              generalize hnb : stG s0 en (j + 1) = nb at *
              have HNB := Lib.hid hnb
              generalize hob : stG s0 en j = ob at *
              clear hnb hob
              generalize bt s0 (en + j) = cc at *
              rcases hc5 with ⟨h10, rfl⟩ | ⟨h10, h47, rfl⟩ | ⟨h10, h47, rfl, rfl⟩ | ⟨h10, h47, rfl, rfl, h32 | h32⟩
              · have hcz : (cc : Int) = 10 := by omega
                clear h10
                cases ob
                all_goals
                  go_wp2
                  go_roundw
                  case rel => exact ⟨j + 1, by go_num, by rw [HNB.out], by omega, Hbz.out⟩
                  case measure => simp [intOf]; omega
              · have hcz : (cc : Int) = 47 := by omega
                clear h10 h47
                cases ob
                all_goals
                  go_wp2
                  go_roundw
                  case rel => exact ⟨j + 1, by go_num, by rw [HNB.out], by omega, Hbz.out⟩
                  case measure => simp [intOf]; omega
              · have v10 : ¬ (cc : Int) = 10 := by omega
                have w10 : ((cc : Int) == 10) = false := by rw [beq_eq_false_iff_ne]; exact v10
                have n10 : ((cc : Int) != 10) = true := by rw [bne_iff_ne]; exact v10
                clear h10 h47
                go_wp2
                go_roundw
                case rel => exact ⟨j + 1, by go_num, by rw [HNB.out], by omega, Hbz.out⟩
                case measure => simp [intOf]; omega
              · have hcz : (cc : Int) = 32 := by omega
                clear h10 h47 h32
                go_wp2
                go_roundw
                case rel => exact ⟨j + 1, by go_num, by rw [HNB.out], by omega, Hbz.out⟩
                case measure => simp [intOf]; omega
              · have hcz : (cc : Int) = 9 := by omega
                clear h10 h47 h32
                go_wp2
                go_roundw
                case rel => exact ⟨j + 1, by go_num, by rw [HNB.out], by omega, Hbz.out⟩
                case measure => simp [intOf]; omega
            · have hdj : ¬ ((en : Int) + (j : Int) < (q2 : Nat)) := by omega
              have hws := HBW.out.size
              go_wp2
              go_roundw
              case rel => exact ⟨i + 1, ez, by go_num, rfl, by omega, P8.out, by omega, HBW.out.trans (Hbz.out.mono hws)⟩
              case measure => simp [intOf]; omega
      · have hdi : ¬ ((i : Int) < (l1.length : Nat)) := by omega
        obtain rfl : i = l1.length := by omega
        rw [List.drop_length] at hpl
        have hen : en = s0.size := hpl
        subst hen
        clear hpl
        go_wp2
        go_ret
        exact ⟨rfl, Hb.out.trans (hbw.mono hB)⟩
  · obtain ⟨rfl, hp, he⟩ := FW h0
    have d0 : (((e1 : Nat) : Int) == 0) = false := by rw [beq_eq_false_iff_ne]; omega
    have d1 : (p1 : Int) < (s0.size : Nat) := by omega
    have d2 : (((e1 : Nat) : Int) == 11) = !validS s0 := by
      rw [← he, Bool.eq_iff_iff, beq_iff_eq, decide_eq_true_iff]; omega
    have kv : ∀ W, _ := fun W => valid_any s0 W (by omega)
    clear FP FW hp he
    generalize validS s0 = v at *
    go_enter Try.func5, Try.ntmps5
    go_wp2_with (first
      | ((with_reducible refine (awake_any _).mono ?_); rintro e w1 ⟨rfl, hb⟩; obtain ⟨Hb, hB⟩ := chain Hb hB hb; clear hb)
      | ((with_reducible refine (k1 _).mono ?_); rintro e w2 ⟨⟨A1, c1, rfl, _⟩, hb⟩; obtain ⟨Hb, hB⟩ := chain Hb hB hb; clear hb)
      | ((with_reducible refine (kv _).mono ?_); rintro e w3 ⟨rfl, hb⟩; obtain ⟨Hb, hB⟩ := chain Hb hB hb; clear hb))
    all_goals go_ret
    all_goals (refine ⟨?_, Hb.out⟩; try cases v <;> rfl)
end Go.Proofs.Ytdblkghombemiaa
