/- ParseOps walked: it answers true. -/
import Derived.BigQuiet
import Derived.Deep.QuietTactic
import Derived.Test.YtdndncodpepdfaaAwake7
import Derived.Test.YtdndncodpepdfaaFrame
namespace Go.Proofs.Ytdndncodpepdfaa
open Go.RowKit

theorem ne_list {x : ByteArray} (h : 0 < x.size) : x.toList.isEmpty = false ∧ ¬ x.toList = [] := by
  have hne : ¬ x.toList = [] := fun e => by
    have h2 := congrArg List.length e
    rw [ByteArray.toList_eq] at h2
    have h3 : x.data.toList.length = x.size := Array.length_toList
    rw [List.length_nil] at h2
    omega
  exact ⟨by cases hx : x.toList with
    | nil => exact absurd hx hne
    | cons a r => rfl, hne⟩
theorem no_bytes {x : ByteArray} (h : ¬ 0 < x.size) : x = ⟨#[]⟩ := by
  obtain ⟨d⟩ := x
  have : d.size = 0 := by
    have : ¬ 0 < d.size := h
    omega
  rw [Array.eq_empty_of_size_eq_zero this]
theorem op_forms {o : OpP} (h : okOp o) : o = (1, ⟨#[]⟩, ⟨#[]⟩) ∨ o = (4, ⟨#[]⟩, ⟨#[]⟩) ∨ o = (5, ⟨#[]⟩, ⟨#[]⟩) ∨ o = (6, ⟨#[]⟩, ⟨#[]⟩) ∨ (∃ a, 0 < a.size ∧ o = (2, a, ⟨#[]⟩)) ∨ ∃ a b, 0 < a.size ∧ 0 < b.size ∧ o = (3, a, b) := by
  obtain ⟨k, a, b⟩ := o
  obtain ⟨h1, h2, h3, h4⟩ := h
  dsimp only at h1 h2 h3 h4
  have ha : ¬ (k = 2 ∨ k = 3) → a = ⟨#[]⟩ := fun hk => no_bytes fun hz => hk (h3.1 hz)
  have hb : ¬ k = 3 → b = ⟨#[]⟩ := fun hk => no_bytes fun hz => hk (h4.1 hz)
  rcases (show k = 1 ∨ k = 2 ∨ k = 3 ∨ k = 4 ∨ k = 5 ∨ k = 6 by omega) with rfl | rfl | rfl | rfl | rfl | rfl
  · rw [ha (by omega), hb (by omega)]; exact .inl rfl
  · rw [hb (by omega)]; exact .inr (.inr (.inr (.inr (.inl ⟨a, h3.2 (by omega), rfl⟩))))
  · exact .inr (.inr (.inr (.inr (.inr ⟨a, b, h3.2 (by omega), h4.2 rfl, rfl⟩))))
  · rw [ha (by omega), hb (by omega)]; exact .inr (.inl rfl)
  · rw [ha (by omega), hb (by omega)]; exact .inr (.inr (.inl rfl))
  · rw [ha (by omega), hb (by omega)]; exact .inr (.inr (.inr (.inl rfl)))
theorem stk_step {o : OpP} {r : List OpP} {n : Nat} (h : stk (o :: r) n = some 1) : (4 ≤ o.1 → 2 ≤ n ∧ stk r (n - 1) = some 1) ∧ (¬ 4 ≤ o.1 → stk r (n + 1) = some 1) := by
  unfold stk at h
  constructor
  · intro h4
    rw [if_pos h4] at h
    by_cases h2 : 2 ≤ n
    · rw [if_pos h2] at h
      exact ⟨h2, h⟩
    · rw [if_neg h2] at h
      cases h
  · intro h4
    rw [if_neg h4] at h
    exact h
theorem cell_below {w w' : World} {a : Addr} {v : Value} (h : w.cell? a = some v) (hb : Below w.heap.size w w') : w'.cell? a = some v := (hb.cell (World.block_lt_of_cell? _ _ h)).trans h
set_option maxRecDepth 100000 in
set_option maxHeartbeats 4000000 in
theorem parseOps_walk (s0 : ByteArray) (w : World) (f0 : s0.size ≤ maxLen) :
    Calls Try.prog 4 #[.string s0] w fun e w' => e = .returned (.bool true) ∧ Below w.heap.size w w' := by
  unfold maxLen at f0
  by_cases h20 : 2000 < s0.size
  · have hd : (2000 : Int) < (s0.size : Nat) := by omega
    go_enter Try.func4, Try.ntmps4
    go_wp2_with ((with_reducible refine (awake7_any _).mono ?_); rintro e w1 ⟨rfl, hb1⟩)
    go_ret
    exact ⟨rfl, hb1⟩
  have hd : ¬ ((2000 : Int) < (s0.size : Nat)) := by omega
  obtain ⟨hg1, hg2⟩ := parse_good (s := s0) (by omega)
  obtain ⟨T, e0, p0, hp⟩ : ∃ T e p, parseS s0 = (T, e, p) := ⟨_, _, _, rfl⟩
  rw [hp] at hg1 hg2
  dsimp only at hg1 hg2
  have kp := fun W => parse_named s0 (by omega) hp W
  clear hp f0
  by_cases h0 : e0 = 0
  · have hgood := hg2 h0
    subst h0
    have HG := Lib.hid hgood
    clear hg1 hg2 hgood
    go_enter Try.func4, Try.ntmps4
    go_wp2_with (first
      | ((with_reducible refine (awake7_any _).mono ?_); rintro e w1 ⟨rfl, hb1⟩)
      | ((with_reducible refine (kp _).mono ?_); rintro e w2 ⟨⟨A, c, rfl, hv⟩, hb2⟩))
    have hB2 : Below w.heap.size w w2 := hb1.trans (hb2.mono hb1.size)
    have hB3 := hB2.alloc hB2.size (.cells #[.slice A T.length c] 25)
    have hx3 := Bk.new w2 #[.slice A T.length c] 25
    have hv3 := hv.below ((Below.refl _ w2).alloc (Nat.le_refl _) (.cells #[.slice A T.length c] 25))
    have hTm : T.length ≤ 9223372036854775807 := by
      obtain ⟨A', c', e1, hrd⟩ := Rd.own hv.choose_spec.1
      have h1 := hrd.cap
      have h2 := hrd.capm
      unfold maxLen at h2
      omega
    clear hv hB2 hb2 kp
    generalize w2.alloc (.cells #[.slice A T.length c] 25) = w3 at *
    generalize w2.heap.size = bx at *
    generalize w1.heap.size = B at *
    go_loopw [7] (fun vi wx => ∃ i : Nat, vi = .int .i64 i ∧ i ≤ T.length ∧ Below w3.heap.size w3 wx) (fun vi _ => T.length - (intOf vi).toNat)
    case atStart => exact ⟨0, rfl, Nat.zero_le _, Below.refl _ _⟩
    case round =>
      obtain ⟨i, rfl, hi, hbx⟩ := hrel
      have hBx := hB3.trans (hbx.mono hB3.size)
      have hxx := hx3.below hbx
      have hvx := hv3.below hbx
      have x0 := hxx.c1
      have lx := hxx.lt
      by_cases hil : i < T.length
      · have hdi : (i : Int) < (T.length : Nat) := by omega
        obtain ⟨t, ht⟩ : ∃ t, T[i]? = some t := ⟨T[i], List.getElem?_eq_getElem hil⟩
        have hgt := HG.out t (List.mem_of_getElem? ht)
        obtain ⟨g, c2, vr, e1, hr, _, g1⟩ := hvx.get ht
        cases e1
        have hRm : ∃ Ar cr, vr = .slice Ar t.rels.length cr ∧ t.rels.length ≤ 9223372036854775807 := by
          obtain ⟨A', c', e1, hrd⟩ := Rd.own hr.choose_spec.1
          have h1 := hrd.cap
          have h2 := hrd.capm
          unfold maxLen at h2
          exact ⟨A', c', e1, by omega⟩
        obtain ⟨Ar, cr, rfl, hRm⟩ := hRm
        clear hvx hv3 ht
        go_wp2_with fail
        go_loopw [8] (fun vk wy => ∃ k : Nat, vk = .int .i64 k ∧ k ≤ t.rels.length ∧ Below wr.heap.size wr wy) (fun vk _ => t.rels.length - (intOf vk).toNat)
        case atStart => exact ⟨0, rfl, Nat.zero_le _, Below.refl _ _⟩
        case round =>
          obtain ⟨k, rfl, hk, hby⟩ := hrel
          have hBy := hBx.trans (hby.mono hBx.size)
          have hxy := hxx.below hby
          have y0 := hxy.c1
          have ly := hxy.lt
          have y1 := cell_below g1 hby
          have lg := World.block_lt_of_cell? _ _ y1
          dsimp only at lg
          have hry : VRels B _ (.slice Ar t.rels.length cr) t.rels := VRels.keep (keeps3_below hby) hr
          by_cases hkl : k < t.rels.length
          · have hdk : (k : Int) < (t.rels.length : Nat) := by omega
            obtain ⟨x, hx⟩ : ∃ x, t.rels[k]? = some x := ⟨t.rels[k], List.getElem?_eq_getElem hkl⟩
            have hgx := hgt x (List.mem_of_getElem? hx)
            obtain ⟨gr, c3, vs, vo, e1, hs, ho, r0, r1, r2, r3, r4, r5⟩ := hry.get hx
            cases e1
            have hom : ∃ Ao co, vo = .slice Ao x.ops.length co ∧ x.ops.length ≤ 9223372036854775807 := by
              obtain ⟨A', c', e1, hrd⟩ := Rd.own ho
              have h1 := hrd.cap
              have h2 := hrd.capm
              unfold maxLen at h2
              exact ⟨A', c', e1, by omega⟩
            obtain ⟨Ao, co, rfl, hom⟩ := hom
            obtain ⟨As, cS, rfl, _⟩ := Rd.own hs
            have Hgx := Lib.hid hgx
            clear hgx hry hs hx
            go_wp2_with fail
            have hal : Below _ _ (World.alloc _ (.cells #[.string x.name, .string x.view, .string x.edit, .string x.check, .slice As x.subs.length cS, .slice Ao x.ops.length co] 41)) := (Below.refl _ wr).alloc (Nat.le_refl _) _
            have hBz := hBy.trans (hal.mono hBy.size)
            have hrz := Bk.new wr #[.string x.name, .string x.view, .string x.edit, .string x.check, .slice As x.subs.length cS, .slice Ao x.ops.length co] 41
            have hoz : VOps B _ _ _ := own_below ho hal
            have hyz := hby.trans (hal.mono hby.size)
            clear hal ho
            generalize wr.alloc (.cells #[.string x.name, .string x.view, .string x.edit, .string x.check, .slice As x.subs.length cS, .slice Ao x.ops.length co] 41) = wz0 at *
            generalize wr.heap.size = br at *
            have hst0 := Hgx.out.2.2.2.2.2 0
            go_loopw [10, 11] (fun vn vj wz => ∃ n j : Nat, vn = .int .i64 n ∧ vj = .int .i64 j ∧ j ≤ x.ops.length ∧ n ≤ j ∧ stk (x.ops.drop j) n = some 1 ∧ Below wz0.heap.size wz0 wz) (fun _ vj _ => x.ops.length - (intOf vj).toNat)
            case atStart => exact ⟨0, 0, rfl, rfl, Nat.zero_le _, Nat.le_refl _, hst0, Below.refl _ _⟩
            case round =>
              obtain ⟨n, j, rfl, rfl, hj, hnj, hst, hbz⟩ := hrel
              have hBw := hBz.trans (hbz.mono hBz.size)
              have hrw := hrz.below hbz
              have z0 : World.cell? _ ⟨br, 0, none⟩ = some (.string x.name) := hrw.cell 0
              have z1 : World.cell? _ ⟨br, 1, none⟩ = some (.string x.view) := hrw.cell 1
              have z2 : World.cell? _ ⟨br, 2, none⟩ = some (.string x.edit) := hrw.cell 2
              have z3 : World.cell? _ ⟨br, 3, none⟩ = some (.string x.check) := hrw.cell 3
              have z5 : World.cell? _ ⟨br, 5, none⟩ = some (.slice Ao x.ops.length co) := hrw.cell 5
              have lz := hrw.lt
              have how : VOps B _ _ _ := own_below hoz hbz
              by_cases hjl : j < x.ops.length
              · have hdj : (j : Int) < (x.ops.length : Nat) := by omega
                obtain ⟨o, hox⟩ : ∃ o, x.ops[j]? = some o := ⟨x.ops[j], List.getElem?_eq_getElem hjl⟩
                have hdr : x.ops.drop j = o :: x.ops.drop (j + 1) := by
                  rw [List.drop_eq_getElem_cons hjl]
                  congr 1
                  rw [List.getElem?_eq_getElem hjl] at hox
                  exact Option.some.inj hox
                have hok := Hgx.out.2.2.2.2.1 o (List.mem_of_getElem? hox)
                obtain ⟨go, c4, e1, o0, o1, o2⟩ := how.get hox
                cases e1
                rw [hdr] at hst
                clear hdr hox how
                have Hst := Lib.hid hst
                have Hok := Lib.hid hok
                clear hst hok
                have Hn3 : ∀ o2 : OpP, ∀ m : Nat, o = o2 → (4 ≤ o2.1 → 2 ≤ n ∧ stk (x.ops.drop (j + 1)) (n - 1) = some 1) ∧ (¬ 4 ≤ o2.1 → stk (x.ops.drop (j + 1)) (n + 1) = some 1) := fun o2 _ e => by
                  subst e
                  exact stk_step Hst.out
                rcases op_forms Hok.out with he | he | he | he | ⟨a, ha, he⟩ | ⟨a, b, ha, hb, he⟩
                · subst he
                  dsimp only at o0 o1 o2
                  have hst2 := (Hn3 _ 0 rfl).2 (by dsimp only; omega)
                  have HS := Lib.hid hst2
                  clear hst2 Hn3 Hst Hok
                  go_wp2_with fail
                  refine ⟨⟨n + 1, j + 1, by go_num, by go_num, by omega, by omega, HS.out, hbz.alloc hbz.size _⟩, ?_⟩
                  simp [intOf]; omega
                · subst he
                  dsimp only at o0 o1 o2
                  obtain ⟨hn2, hst2⟩ := (Hn3 _ 0 rfl).1 (by dsimp only; omega)
                  have hn3 : ¬ ((n : Int) - 2 < 0) := by omega
                  have HS := Lib.hid hst2
                  clear hst2 Hn3 Hst Hok
                  go_wp2_with fail
                  refine ⟨⟨n - 1, j + 1, by go_num, by go_num, by omega, by omega, HS.out, hbz.alloc hbz.size _⟩, ?_⟩
                  simp [intOf]; omega
                · subst he
                  dsimp only at o0 o1 o2
                  obtain ⟨hn2, hst2⟩ := (Hn3 _ 0 rfl).1 (by dsimp only; omega)
                  have hn3 : ¬ ((n : Int) - 2 < 0) := by omega
                  have HS := Lib.hid hst2
                  clear hst2 Hn3 Hst Hok
                  go_wp2_with fail
                  refine ⟨⟨n - 1, j + 1, by go_num, by go_num, by omega, by omega, HS.out, hbz.alloc hbz.size _⟩, ?_⟩
                  simp [intOf]; omega
                · subst he
                  dsimp only at o0 o1 o2
                  obtain ⟨hn2, hst2⟩ := (Hn3 _ 0 rfl).1 (by dsimp only; omega)
                  have hn3 : ¬ ((n : Int) - 2 < 0) := by omega
                  have HS := Lib.hid hst2
                  clear hst2 Hn3 Hst Hok
                  go_wp2_with fail
                  refine ⟨⟨n - 1, j + 1, by go_num, by go_num, by omega, by omega, HS.out, hbz.alloc hbz.size _⟩, ?_⟩
                  simp [intOf]; omega
                · subst he
                  dsimp only at o0 o1 o2
                  obtain ⟨na, nb⟩ := ne_list ha
                  have hst2 := (Hn3 _ 0 rfl).2 (by dsimp only; omega)
                  have HS := Lib.hid hst2
                  clear hst2 Hn3 Hst Hok
                  go_wp2_with fail
                  refine ⟨⟨n + 1, j + 1, by go_num, by go_num, by omega, by omega, HS.out, hbz.alloc hbz.size _⟩, ?_⟩
                  simp [intOf]; omega
                · subst he
                  dsimp only at o0 o1 o2
                  obtain ⟨na, nb⟩ := ne_list ha
                  obtain ⟨nc, nd⟩ := ne_list hb
                  have hst2 := (Hn3 _ 0 rfl).2 (by dsimp only; omega)
                  have HS := Lib.hid hst2
                  clear hst2 Hn3 Hst Hok
                  go_wp2_with fail
                  refine ⟨⟨n + 1, j + 1, by go_num, by go_num, by omega, by omega, HS.out, hbz.alloc hbz.size _⟩, ?_⟩
                  simp [intOf]; omega
              · have hdj : ¬ ((j : Int) < (x.ops.length : Nat)) := by omega
                obtain rfl : j = x.ops.length := by omega
                rw [List.drop_length] at hst
                obtain rfl : n = 1 := by unfold stk at hst; exact Option.some.inj hst
                obtain ⟨na, nb⟩ := ne_list Hgx.out.1
                obtain ⟨nc, nd⟩ := ne_list Hgx.out.2.1
                obtain ⟨ne, nf⟩ := ne_list Hgx.out.2.2.1
                obtain ⟨ng, nh⟩ := ne_list Hgx.out.2.2.2.1
                go_wp2_with fail
                refine ⟨⟨k + 1, by go_num, by omega, hyz.trans (hbz.mono hyz.size)⟩, ?_⟩
                simp [intOf]; omega
          · have hdk : ¬ ((k : Int) < (t.rels.length : Nat)) := by omega
            go_wp2_with fail
            refine ⟨⟨i + 1, by go_num, by omega, hbx.trans (hby.mono hbx.size)⟩, ?_⟩
            simp [intOf]; omega
      · have hdi : ¬ ((i : Int) < (T.length : Nat)) := by omega
        go_wp2
        go_ret
        exact ⟨rfl, hBx⟩
  · obtain ⟨rfl, hp0⟩ := hg1 h0
    have d0 : (((e0 : Nat) : Int) == 0) = false := by rw [beq_eq_false_iff_ne]; omega
    have hp1 : (p0 : Int) ≤ (s0.size : Nat) := by omega
    have hp2 : (0 : Int) ≤ (p0 : Nat) := by omega
    clear hg1 hg2
    go_enter Try.func4, Try.ntmps4
    go_wp2_with (first
      | ((with_reducible refine (awake7_any _).mono ?_); rintro e w1 ⟨rfl, hb1⟩)
      | ((with_reducible refine (kp _).mono ?_); rintro e w2 ⟨⟨A, c, rfl, hv⟩, hb2⟩))
    go_ret
    exact ⟨rfl, (hb1.trans (hb2.mono hb1.size)).alloc (Nat.le_trans hb1.size hb2.size) _⟩
end Go.Proofs.Ytdndncodpepdfaa
