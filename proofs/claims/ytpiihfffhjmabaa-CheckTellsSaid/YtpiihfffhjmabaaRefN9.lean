/- Layer 9: the document's own answer on what a relation names, walked. Conditions: none. -/
import Derived.BigQuiet
import Derived.Deep.QuietTactic
import Derived.Deep.Cut
import Derived.StillTailTactics
import Derived.Test.YtpiihfffhjmabaaRefK9
import Derived.Test.YtpiihfffhjmabaaNamesW
namespace Go.Proofs.Ytpiihfffhjmabaa
open Go.RowKit

theorem eqDSub (a b c d : ByteArray) (w : World) : (binOp .eql 60 (.agg #[.string a, .string b]) (.agg #[.string c, .string d])).run Try.prog w = .ok (.bool (decide ((a, b) = (c, d)))) w := by
  have hS : Try.prog.underlying 60 = some (.struct (Try.prog.fieldsOf 60)) := by kernel_rfl
  have hp : Try.prog.stoodInHeld 60 = false := by kernel_rfl
  have u := Try.underlying9
  rw [run_eql_struct, show (10000 : Nat) = 9999 + 1 from rfl, run_equalIn_agg w 9999 60 _ _ hS hp]
  simp only [Program.fieldsOf, Try.underlying60]
  go_simp
  have i1 := toL_iff a c
  have i2 := toL_iff b d
  by_cases e1 : a = c <;> by_cases e2 : b = d <;> simp [e1, e2, i1, i2]
theorem pair_dec2 (s t : ByteArray × ByteArray) : decide ((s.1, s.2) = (t.1, t.2)) = decide (s = t) := rfl
theorem AtZ.rel {t : TypA} {n : ByteArray} {z : Int} (h : AtZ (fun x : RelA => decide (x.name = n)) t.rels z) : decide (z < 0) = !(hasR t.says n) := by
  rw [h.neg, hasR_says]
  rfl
theorem AtZ.typ {l : List TypA} {n : ByteArray} {z : Int} (h : AtZ (fun x : TypA => decide (x.name = n)) l z) : decide (z < 0) = !(hasT (l.map TypA.says) n) := by
  rw [h.neg, hasT_says]
  rfl
theorem and3_a {b c : Bool} : (false && (b && c)) = false := rfl
theorem and3_b {a c : Bool} : (a && (false && c)) = false := by cases a <;> rfl
theorem and3_c {a b : Bool} : (a && (b && false)) = false := by cases a <;> cases b <;> rfl
theorem lead_at {l : List TypI} {r : RelI} {next : ByteArray} : leadsI l r next = r.subs.any (leadB l next) := rfl
theorem opOk3 {L : List TypI} {t : TypA} {n x : ByteArray} {r : RelA} (h : firstRA t n = some r) : opOk L t.says (3, n, x) = r.subs.any (leadB L x) := by
  unfold opOk
  rw [firstRA_says, h]
  rfl
theorem opOk3n {L : List TypI} {t : TypA} {n x : ByteArray} (h : firstRA t n = none) : opOk L t.says (3, n, x) = false := by
  unfold opOk
  rw [firstRA_says, h]
  rfl
theorem opOk2 {L : List TypI} {t : TypA} {n x : ByteArray} : opOk L t.says (2, n, x) = hasR t.says n := rfl
theorem opOkO {L : List TypI} {t : TypA} {z : Int} {n x : ByteArray} (h2 : ¬ z = 2) (h3 : ¬ z = 3) : opOk L t.says (z, n, x) = true := by
  unfold opOk
  rw [if_neg h2, if_neg h3]
theorem any_snoc {α : Type} {p : α → Bool} {l : List α} {j : Nat} {a : α} (h : l[j]? = some a) : (l.take (j + 1)).any p = ((l.take j).any p || p a) := by
  rw [take_snoc h, List.any_append]
  simp

set_option maxRecDepth 100000 in
set_option maxHeartbeats 2000000 in
theorem named9_any {w : World} {R : Nat} {A : Option Addr} {c : Nat} {l : List TypA} {t : TypA} {r : RelA} (h : SchA w R A c l) (ht : t.ok w R) (hr : r.ok w R) :
    Calls Try.prog 20 #[.slice A l.length c, .agg #[.string t.name, .slice t.A t.rels.length t.c], .agg #[.string r.name, .string r.view, .string r.edit, .string r.check, .slice r.As r.subs.length r.cs, .slice r.Ao r.ops.length r.co]] w fun e w' =>
      e = .returned (.int .i64 (namedE (l.map TypA.says) t.says r.says : Nat)) ∧ Below w.heap.size w w' := by
  have hls : (r.subs.length : Int) ≤ 9223372036854775807 := by have := hr.subs.cap; have := hr.subs.capm; simp only [maxLen] at this; omega
  have hlo : (r.ops.length : Int) ≤ 9223372036854775807 := by have := hr.ops.cap; have := hr.ops.capm; simp only [maxLen] at this; omega
  obtain ⟨As, hAs⟩ : ∃ As, r.As = As := ⟨_, rfl⟩
  obtain ⟨Ao, hAo⟩ : ∃ Ao, r.Ao = Ao := ⟨_, rfl⟩
  obtain ⟨tA, htA⟩ : ∃ tA, t.A = tA := ⟨_, rfl⟩
  obtain ⟨L, hL⟩ : ∃ L, l.map TypA.says = L := ⟨_, rfl⟩
  rw [hAs, hAo, htA, hL]
  have hNE : Hid (namedE L t.says r.says = if (hasR t.says r.view && (hasR t.says r.edit && hasR t.says r.check)) = false then 31 else if subsE L [] r.subs ≠ 0 then subsE L [] r.subs else if r.ops.all (opOk L t.says) = false then 31 else 0) := Lib.hid rfl
  generalize namedE L t.says r.says = NE at *
  have hL := Lib.hid hL
  have hb1 := (bnew w (.cells #[.string t.name, .slice tA t.rels.length t.c] 43)).alloc (size_alloc (Nat.le_refl _)) (.cells #[.string r.name, .string r.view, .string r.edit, .string r.check, .slice As r.subs.length r.cs, .slice Ao r.ops.length r.co] 50)
  have d1 := (Bk.new w #[.string t.name, .slice tA t.rels.length t.c] 43).alloc (.cells #[.string r.name, .string r.view, .string r.edit, .string r.check, .slice As r.subs.length r.cs, .slice Ao r.ops.length r.co] 50)
  have d2 := Bk.new2 w (.cells #[.string t.name, .slice tA t.rels.length t.c] 43) #[.string r.name, .string r.view, .string r.edit, .string r.check, .slice As r.subs.length r.cs, .slice Ao r.ops.length r.co] 50
  have h1 := h.up hb1
  have ht1 := ht.up hb1
  have hr1 := hr.up hb1
  go_enter Try.func20, Try.ntmps20
  go_upto_region 1 with (fail)
  generalize (w.alloc (.cells #[.string t.name, .slice tA t.rels.length t.c] 43)).alloc (.cells #[.string r.name, .string r.view, .string r.edit, .string r.check, .slice As r.subs.length r.cs, .slice Ao r.ops.length r.co] 50) = w1 at *
  clear h ht hr
  obtain ⟨y0, y1⟩ := d1.c2
  have yl := d1.lt
  obtain ⟨x0, x1, x2, x3, x4, x5⟩ := d2.c6
  have xl := d2.lt
  have k1 := fun n => rel9_any ht1 n
  rw [htA] at k1
  go_wp2_with fail
  refine (k1 _).mono ?_
  rintro e w2 ⟨⟨z, rfl, hz⟩, hb2⟩
  have hz := hz.rel
  cases hv : hasR t.says r.view with
  | false =>
    rw [hv] at hz
    have hz := of_decide_eq_true hz
    go_wp2
    go_ret
    refine ⟨?_, bthen hb1 hb1.size hb2⟩
    rw [hNE.out, hv, if_pos and3_a]
    rfl
  | true =>
    rw [hv] at hz
    have hz := of_decide_eq_false hz
    replace hb1 := bthen hb1 hb1.size hb2
    replace d1 := d1.below hb2
    replace d2 := d2.below hb2
    replace h1 := h1.up hb2
    replace ht1 := ht1.up hb2
    replace hr1 := hr1.up hb2
    clear hb2 y0 y1 yl x0 x1 x2 x3 x4 x5 xl k1
    obtain ⟨y0, y1⟩ := d1.c2
    have yl := d1.lt
    obtain ⟨x0, x1, x2, x3, x4, x5⟩ := d2.c6
    have xl := d2.lt
    have k1 := fun n => rel9_any ht1 n
    rw [htA] at k1
    go_wp2_with fail
    refine (k1 _).mono ?_
    rintro e w3 ⟨⟨z2, rfl, hz2⟩, hb2⟩
    have hz2 := hz2.rel
    cases hv2 : hasR t.says r.edit with
    | false =>
      rw [hv2] at hz2
      have hz2 := of_decide_eq_true hz2
      go_wp2
      go_ret
      refine ⟨?_, bthen hb1 hb1.size hb2⟩
      rw [hNE.out, hv2, if_pos and3_b]
      rfl
    | true =>
      rw [hv2] at hz2
      have hz2 := of_decide_eq_false hz2
      replace hb1 := bthen hb1 hb1.size hb2
      replace d1 := d1.below hb2
      replace d2 := d2.below hb2
      replace h1 := h1.up hb2
      replace ht1 := ht1.up hb2
      replace hr1 := hr1.up hb2
      clear hb2 y0 y1 yl x0 x1 x2 x3 x4 x5 xl k1 hz
      obtain ⟨y0, y1⟩ := d1.c2
      have yl := d1.lt
      obtain ⟨x0, x1, x2, x3, x4, x5⟩ := d2.c6
      have xl := d2.lt
      have k1 := fun n => rel9_any ht1 n
      rw [htA] at k1
      go_wp2_with fail
      refine (k1 _).mono ?_
      rintro e w4 ⟨⟨z3, rfl, hz3⟩, hb2⟩
      have hz3 := hz3.rel
      cases hv3 : hasR t.says r.check with
      | false =>
        rw [hv3] at hz3
        have hz3 := of_decide_eq_true hz3
        go_wp2
        go_ret
        refine ⟨?_, bthen hb1 hb1.size hb2⟩
        rw [hNE.out, hv3, if_pos and3_c]
        rfl
      | true =>
        rw [hv3] at hz3
        have hz3 := of_decide_eq_false hz3
        replace hb1 := bthen hb1 hb1.size hb2
        replace d1 := d1.below hb2
        replace d2 := d2.below hb2
        replace h1 := h1.up hb2
        replace ht1 := ht1.up hb2
        replace hr1 := hr1.up hb2
        clear hb2 y0 y1 yl x0 x1 x2 x3 x4 x5 xl k1 hz2
        replace hNE : Hid (NE = if subsE L [] r.subs ≠ 0 then subsE L [] r.subs else if r.ops.all (opOk L t.says) = false then 31 else 0) := Lib.hid (by rw [hNE.out, hv, hv2, hv3, if_neg (by decide)])
        clear hv hv2 hv3
        go_wp2_with fail
        clear hz3
        go_loopw [7] (fun vi wx => ∃ i : Nat, vi = .int .i64 i ∧ i ≤ r.subs.length ∧ Hid (subsE L [] r.subs = subsE L (r.subs.take i) (r.subs.drop i)) ∧ Below w4.heap.size w4 wx) (fun vi _ => r.subs.length - (intOf vi).toNat)
        case atStart => exact ⟨0, rfl, Nat.zero_le _, Lib.hid rfl, Below.refl _ _⟩
        case round =>
          obtain ⟨j, rfl, hj, hE, hbx⟩ := hrel
          have e2 := d2.below hbx
          obtain ⟨x0, x1, x2, x3, x4, x5⟩ := e2.c6
          have xl := e2.lt
          by_cases hjl : j < r.subs.length
          · have hdj : (j : Int) < (r.subs.length : Nat) := by omega
            obtain ⟨s, hs⟩ : ∃ s, r.subs[j]? = some s := ⟨r.subs[j], List.getElem?_eq_getElem hjl⟩
            obtain ⟨g, o, eA, g0, g1, _, _⟩ := (hr1.up hbx).sub hs
            have lg := World.block_lt_of_cell? _ _ g0
            dsimp only at lg
            rw [hAs] at eA
            subst eA
            go_upto_region 7 with (fail)
            have hbs := bnew wr (.cells #[.string s.1, .string s.2] 60)
            have dS := Bk.new wr #[.string s.1, .string s.2] 60
            have hbx2 := bthen hbx hbx.size hbs
            clear hbs x0 x1 x2 x3 x4 x5 xl e2 g0 g1 lg
            generalize wr.alloc (.cells #[.string s.1, .string s.2] 60) = w5 at *
            generalize wr.heap.size = B5 at *
            obtain ⟨s0, s1⟩ := dS.c2
            have sl := dS.lt
            have hEs := Lib.hid (subsE_at (l := L) hs)
            have hc := has9_any (h1.up hbx2) s.1 s.2
            rw [hL.out] at hc
            go_wp2_with fail
            refine hc.mono ?_
            rintro e w6 ⟨rfl, hb6⟩
            replace hbx2 := bthen hbx2 hbx2.size hb6
            replace dS := dS.below hb6
            clear hb6 s0 s1 sl hc hbx
            obtain ⟨s0, s1⟩ := dS.c2
            have sl := dS.lt
            have hc := type9_any (h1.up hbx2) s.1
            go_wp2_with fail
            refine hc.mono ?_
            rintro e w7 ⟨⟨z, rfl, hz⟩, hb6⟩
            have hz := hz.typ
            rw [hL.out] at hz
            replace hbx2 := bthen hbx2 hbx2.size hb6
            replace dS := dS.below hb6
            clear hb6 s0 s1 sl hc
            obtain ⟨s0, s1⟩ := dS.c2
            have sl := dS.lt
            have hO : Hid (subOk L s = (hasT L s.1 && (decide (s.2 = ⟨#[]⟩) || hasI L s.1 s.2))) := Lib.hid rfl
            have he := empty_dec s.2
            have hfin : Hid (subOk L s = false → NE = 31) := Lib.hid (fun e => by
              rw [hNE.out, hE.out, hEs.out, if_pos e, if_pos (by decide)])
            cases hT : hasT L s.1 with
            | false =>
              rw [hT] at hz
              have hz := of_decide_eq_true hz
              go_wp2
              go_ret
              exact ⟨by rw [hfin.out (by rw [hO.out, hT]; rfl)]; rfl, bthen hb1 hb1.size hbx2⟩
            | true =>
              rw [hT] at hz
              have hz := of_decide_eq_false hz
              replace hO : Hid (subOk L s = (decide (s.2 = ⟨#[]⟩) || hasI L s.1 s.2)) := Lib.hid (by rw [hO.out, hT]; rfl)
              generalize decide (s.2 = ⟨#[]⟩) = be at *
              generalize hasI L s.1 s.2 = bh at *
              obtain ⟨hne, hno⟩ | hyes : (be = false ∧ bh = false) ∨ (be = false ∧ bh = true ∨ be = true) := by cases be <;> cases bh <;> simp
              · subst hne; subst hno
                go_wp2
                go_ret
                exact ⟨by rw [hfin.out hO.out]; rfl, bthen hb1 hb1.size hbx2⟩
              · have hok : subOk L s = true := by
                  rw [hO.out]
                  rcases hyes with ⟨rfl, rfl⟩ | rfl <;> simp
                replace hEs : Hid (subsE L (r.subs.take j) (r.subs.drop j) = if (r.subs.take j).any (fun y => decide (y = s)) = true then 32 else subsE L (r.subs.take (j + 1)) (r.subs.drop (j + 1))) := Lib.hid (by rw [hEs.out, hok, if_neg (by decide)])
                clear hok hfin hO hT
                rcases hyes with ⟨hq1, hq2⟩ | hq1
                all_goals
                  (try subst hq2)
                  subst hq1
                  go_wp2_with fail
                  clear hz s0 s1 sl he
                  go_loopw [10] (fun vk wz => ∃ k : Nat, vk = .int .i64 k ∧ k ≤ j ∧ (∀ y ∈ r.subs.take k, decide (y = s) = false) ∧ Below w7.heap.size w7 wz) (fun vk _ => j - (intOf vk).toNat)
                  case atStart => exact ⟨0, rfl, Nat.zero_le _, fun t ht => (by simp at ht), Below.refl _ _⟩
                  case round =>
                    obtain ⟨k, rfl, hk, hn, hbz⟩ := hrel
                    have dSz := dS.below hbz
                    have hbxz := bthen hbx2 hbx2.size hbz
                    by_cases hkj : k < j
                    · have hdk : (k : Int) < (j : Nat) := by omega
                      have hdk2 : (k : Int) < (r.subs.length : Nat) := by omega
                      obtain ⟨y, hy⟩ : ∃ y, r.subs[k]? = some y := ⟨r.subs[k], List.getElem?_eq_getElem (by omega)⟩
                      obtain ⟨g2, o2, eA, v0, v1, _, _⟩ := (hr1.up hbxz).sub hy
                      rw [hAs] at eA
                      injection eA with eA
                      injection eA with eg eo _
                      subst eg; subst eo
                      have lg := World.block_lt_of_cell? _ _ v0
                      dsimp only at lg
                      have e2 := d2.below hbxz
                      obtain ⟨x0, x1, x2, x3, x4, x5⟩ := e2.c6
                      have xl := e2.lt
                      obtain ⟨s0, s1⟩ := dSz.c2
                      have sl := dSz.lt
                      have hEq := eqDSub y.1 y.2 s.1 s.2
                      cases hd : decide (y = s) with
                      | true =>
                        rw [pair_dec2, hd] at hEq
                        go_wp2_with fail
                        go_quiet (fail)
                        go_wp2
                        go_ret
                        refine ⟨?_, bthen hb1 hb1.size (bthen hbxz hbxz.size (bdrew wr nq))⟩
                        have ha : (r.subs.take j).any (fun y => decide (y = s)) = true := List.any_eq_true.2 ⟨y, List.mem_of_getElem? (i := k) (by rw [List.getElem?_take_of_lt hkj]; exact hy), hd⟩
                        rw [hNE.out, hE.out, hEs.out, if_pos ha, if_pos (by decide)]
                        rfl
                      | false =>
                        rw [pair_dec2, hd] at hEq
                        go_wp2_with fail
                        go_quiet (fail)
                        go_wp2
                        refine ⟨⟨k + 1, by go_num, by omega, take_all hy hn hd, bthen hbz hbz.size (bdrew wr nq)⟩, ?_⟩
                        simp [intOf]; omega
                    · have hdk : ¬ (k : Int) < (j : Nat) := by omega
                      obtain rfl : k = j := by omega
                      have ha : ¬ (r.subs.take k).any (fun y => decide (y = s)) = true := by rw [any_not hn]; decide
                      go_wp2_with fail
                      refine ⟨⟨k + 1, by go_num, by omega, Lib.hid (by rw [hE.out, hEs.out, if_neg ha]), hbxz⟩, ?_⟩
                      simp [intOf]; omega
          · obtain rfl : j = r.subs.length := by omega
            have hE0 : subsE L [] r.subs = 0 := by
              rw [hE.out, List.take_length, List.drop_length]
              rfl
            replace hNE : Hid (NE = if r.ops.all (opOk L t.says) = false then 31 else 0) := Lib.hid (by rw [hNE.out, hE0, if_neg (by decide)])
            clear hE0 hE
            go_wp2_with fail
            clear x0 x1 x2 x3 x4 x5 xl e2
            replace hb1 := bthen hb1 hb1.size hbx
            replace d1 := d1.below hbx
            replace d2 := d2.below hbx
            replace h1 := h1.up hbx
            replace ht1 := ht1.up hbx
            replace hr1 := hr1.up hbx
            generalize wr = w5 at *
            clear hbx
            go_loopw [11] (fun vi wx => ∃ i : Nat, vi = .int .i64 i ∧ i ≤ r.ops.length ∧ (∀ o ∈ r.ops.take i, opOk L t.says o = true) ∧ Below w5.heap.size w5 wx) (fun vi _ => r.ops.length - (intOf vi).toNat)
            case atStart => exact ⟨0, rfl, Nat.zero_le _, fun o ho => (by simp at ho), Below.refl _ _⟩
            case round =>
              obtain ⟨k, rfl, hk, hE, hbx⟩ := hrel
              have e2 := d2.below hbx
              obtain ⟨x0, x1, x2, x3, x4, x5⟩ := e2.c6
              have xl := e2.lt
              by_cases hkl : k < r.ops.length
              · have hdk : (k : Int) < (r.ops.length : Nat) := by omega
                obtain ⟨q, hq⟩ : ∃ q, r.ops[k]? = some q := ⟨r.ops[k], List.getElem?_eq_getElem hkl⟩
                obtain ⟨g, o, eA, g0, g1, g2, _, _, _⟩ := (hr1.up hbx).op hq
                have lg := World.block_lt_of_cell? _ _ g0
                dsimp only at lg
                rw [hAo] at eA
                subst eA
                go_upto_region 19 with (fail)
                have hbs := bnew wr (.cells #[.int .i64 q.1, .string q.2.1, .string q.2.2] 61)
                have dS := Bk.new wr #[.int .i64 q.1, .string q.2.1, .string q.2.2] 61
                have hbx2 := bthen hbx hbx.size hbs
                clear hbs x0 x1 x2 x3 x4 x5 xl e2 g0 g1 g2 lg hbx
                generalize wr.alloc (.cells #[.int .i64 q.1, .string q.2.1, .string q.2.2] 61) = w6 at *
                generalize wr.heap.size = B6 at *
                obtain ⟨q1, q2, q3⟩ := q
                dsimp only at dS ⊢
                have hmem := Lib.hid (List.mem_of_getElem? hq)
                have hbad : Hid (opOk L t.says (q1, q2, q3) = false → NE = 31) := Lib.hid (fun e => by rw [hNE.out, if_pos (List.all_eq_false.2 ⟨_, hmem.out, by rw [e]; decide⟩)])
                have hnext : Hid (opOk L t.says (q1, q2, q3) = true → ∀ o ∈ r.ops.take (k + 1), opOk L t.says o = true) := Lib.hid (fun e o ho => by
                  rw [take_snoc hq] at ho
                  rcases List.mem_append.1 ho with ho | ho
                  · exact hE o ho
                  · simp at ho
                    subst ho
                    exact e)
                clear hE hmem hq
                have s0 : w6.cell? ⟨B6, 0, none⟩ = some (.int .i64 q1) := dS.cell 0
                have s1 : w6.cell? ⟨B6, 1, none⟩ = some (.string q2) := dS.cell 1
                have s2 : w6.cell? ⟨B6, 2, none⟩ = some (.string q3) := dS.cell 2
                have sl := dS.lt
                have e1 := d1.below hbx2
                obtain ⟨y0, y1⟩ := e1.c2
                have yl := e1.lt
                have k1 := rel9_any (ht1.up hbx2) q2
                rw [htA] at k1
                by_cases h2 : q1 = 2
                · subst h2
                  go_wp2_with fail
                  refine k1.mono ?_
                  rintro e w7 ⟨⟨z, rfl, hz⟩, hb7⟩
                  have hz := hz.rel
                  have dS7 := dS.below hb7
                  clear s0 s1 s2 sl y0 y1 yl e1 k1
                  have s0 : w7.cell? ⟨B6, 0, none⟩ = some (.int .i64 2) := dS7.cell 0
                  have sl := dS7.lt
                  rw [opOk2] at hbad hnext
                  cases hv : hasR t.says q2 with
                  | false =>
                    rw [hv] at hz
                    have hz := of_decide_eq_true hz
                    go_wp2
                    go_ret
                    exact ⟨by rw [hbad.out hv]; rfl, bthen hb1 hb1.size (bthen hbx2 hbx2.size hb7)⟩
                  | true =>
                    rw [hv] at hz
                    have hz := of_decide_eq_false hz
                    go_wp2
                    refine ⟨⟨k + 1, by go_num, by omega, hnext.out hv, bthen hbx2 hbx2.size hb7⟩, ?_⟩
                    simp [intOf]; omega
                · by_cases h3 : q1 = 3
                  · subst h3
                    go_wp2_with fail
                    refine k1.mono ?_
                    rintro e w7 ⟨⟨z, rfl, hz⟩, hb7⟩
                    replace hbx2 := bthen hbx2 hbx2.size hb7
                    replace dS := dS.below hb7
                    clear s0 s1 s2 sl y0 y1 yl e1 k1 hb7
                    have s0 : w7.cell? ⟨B6, 0, none⟩ = some (.int .i64 3) := dS.cell 0
                    have sl := dS.lt
                    rcases hz with ⟨rfl, hf⟩ | ⟨i, x, rfl, hx, hf, _⟩
                    · go_wp2
                      go_ret
                      exact ⟨by rw [hbad.out (opOk3n hf)]; rfl, bthen hb1 hb1.size hbx2⟩
                    · rw [opOk3 (show firstRA t q2 = some x from hf)] at hbad hnext
                      clear hf
                      have hil : i < t.rels.length := (List.getElem?_eq_some_iff.1 hx).1
                      have hdi : (i : Int) < (t.rels.length : Nat) := by omega
                      have hdn : ¬ (i : Int) < 0 := by omega
                      go_wp2_with fail
                      clear s0 sl
                      obtain ⟨xA, hxA⟩ : ∃ B, x.As = B := ⟨_, rfl⟩
                      have hxl : (x.subs.length : Int) ≤ 9223372036854775807 := by have := (ht1.relz x (List.mem_of_getElem? hx)).subs.cap; have := (ht1.relz x (List.mem_of_getElem? hx)).subs.capm; simp only [maxLen] at this; omega
                      go_loopw [14, 15] (fun vb vj wz => ∃ j : Nat, vj = .int .i64 j ∧ j ≤ x.subs.length ∧ vb = .bool ((x.subs.take j).any (leadB L q3)) ∧ Below w7.heap.size w7 wz) (fun _ vj _ => x.subs.length - (intOf vj).toNat)
                      case atStart => exact ⟨0, rfl, Nat.zero_le _, rfl, Below.refl _ _⟩
                      case round =>
                        obtain ⟨j, rfl, hj, rfl, hbz⟩ := hrel
                        have hbxz := bthen hbx2 hbx2.size hbz
                        have e1 := d1.below hbxz
                        obtain ⟨y0, y1⟩ := e1.c2
                        have yl := e1.lt
                        obtain ⟨gt, ot, eA, _, _, _, _, v4, _, hkx⟩ := (ht1.up hbxz).get hx
                        rw [htA] at eA
                        subst eA
                        rw [hxA] at v4
                        have lv := World.block_lt_of_cell? _ _ v4
                        dsimp only at lv
                        have dSz := dS.below hbz
                        have s2 : World.cell? _ ⟨B6, 2, none⟩ = some (.string q3) := dSz.cell 2
                        have sl := dSz.lt
                        by_cases hjl : j < x.subs.length
                        · have hdj : (j : Int) < (x.subs.length : Nat) := by omega
                          obtain ⟨s, hs⟩ : ∃ s, x.subs[j]? = some s := ⟨x.subs[j], List.getElem?_eq_getElem hjl⟩
                          obtain ⟨g2, o2, eA, g0, g1, _, _⟩ := hkx.sub hs
                          rw [hxA] at eA
                          subst eA
                          have lg := World.block_lt_of_cell? _ _ g0
                          dsimp only at lg
                          have hL1 := any_snoc (p := leadB L q3) hs
                          generalize (x.subs.take j).any (leadB L q3) = vb at *
                          go_upto_region 29 with (fail)
                          have hbs := bnew wr (.cells #[.string s.1, .string s.2] 60)
                          have dT := Bk.new wr #[.string s.1, .string s.2] 60
                          have hbz2 := bthen hbz hbz.size hbs
                          have dSy := dSz.below hbs
                          clear hbs y0 y1 yl e1 v4 lv s2 sl g0 g1 lg hbz dSz hkx
                          generalize wr.alloc (.cells #[.string s.1, .string s.2] 60) = w8 at *
                          generalize wr.heap.size = B8 at *
                          obtain ⟨s0, s1⟩ := dT.c2
                          have tl := dT.lt
                          have s2 : w8.cell? ⟨B6, 2, none⟩ = some (.string q3) := dSy.cell 2
                          have sl := dSy.lt
                          have hc := has9_any (h1.up (bthen hbx2 hbx2.size hbz2)) s.1 q3
                          rw [hL.out] at hc
                          go_wp2_with fail
                          refine hc.mono ?_
                          rintro e w9 ⟨rfl, hb9⟩
                          have dT9 := dT.below hb9
                          have hbz9 := bthen hbz2 hbz2.size hb9
                          clear s0 s1 tl s2 sl hc dT dSy hb9 hbz2
                          obtain ⟨s0, s1⟩ := dT9.c2
                          have tl := dT9.lt
                          replace hL1 : Hid ((x.subs.take (j + 1)).any (leadB L q3) = (vb || (decide (s.2 = ⟨#[]⟩) && hasI L s.1 q3))) := Lib.hid hL1
                          have he := empty_dec s.2
                          generalize decide (s.2 = ⟨#[]⟩) = be at *
                          generalize hasI L s.1 q3 = bh at *
                          cases vb with
                          | true =>
                            go_wp2
                            refine ⟨⟨j + 1, by go_num, by omega, by rw [hL1.out]; rfl, hbz9⟩, ?_⟩
                            simp [intOf]; omega
                          | false =>
                            cases be with
                            | false =>
                              go_wp2
                              refine ⟨⟨j + 1, by go_num, by omega, by rw [hL1.out]; rfl, hbz9⟩, ?_⟩
                              simp [intOf]; omega
                            | true =>
                              cases bh with
                              | false =>
                                go_wp2
                                refine ⟨⟨j + 1, by go_num, by omega, by rw [hL1.out]; rfl, hbz9⟩, ?_⟩
                                simp [intOf]; omega
                              | true =>
                                go_wp2
                                refine ⟨⟨j + 1, by go_num, by omega, by rw [hL1.out]; rfl, hbz9⟩, ?_⟩
                                simp [intOf]; omega
                        · have hdj : ¬ ((j : Int) < (x.subs.length : Nat)) := by omega
                          obtain rfl : j = x.subs.length := by omega
                          rw [List.take_length]
                          cases hv : x.subs.any (leadB L q3) with
                          | false =>
                            go_wp2
                            go_ret
                            exact ⟨by rw [hbad.out hv]; rfl, bthen hb1 hb1.size hbxz⟩
                          | true =>
                            go_wp2
                            refine ⟨⟨k + 1, by go_num, by omega, hnext.out hv, hbxz⟩, ?_⟩
                            simp [intOf]; omega
                  · clear k1
                    have b2 : (q1 != 2) = true := by simpa using h2
                    have b3 : (q1 != 3) = true := by simpa using h3
                    go_wp2
                    refine ⟨⟨k + 1, by go_num, by omega, hnext.out (opOkO h2 h3), hbx2⟩, ?_⟩
                    simp [intOf]; omega
              · obtain rfl : k = r.ops.length := by omega
                have hdk : ¬ ((r.ops.length : Int) < (r.ops.length : Nat)) := by omega
                rw [List.take_length] at hE
                go_wp2
                go_ret
                refine ⟨?_, bthen hb1 hb1.size hbx⟩
                rw [hNE.out, if_neg (by rw [List.all_eq_true.2 hE]; decide)]
                rfl
end Go.Proofs.Ytpiihfffhjmabaa
