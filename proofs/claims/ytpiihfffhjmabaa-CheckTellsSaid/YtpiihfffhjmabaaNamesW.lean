/- Layer 9: what is wrong with what a relation names. Conditions: none. -/
import Derived.BigQuiet
import Derived.Deep.QuietTactic
import Derived.Deep.Cut
import Derived.StillTailTactics
import Derived.Test.YtpiihfffhjmabaaLeadW
namespace Go.Proofs.Ytpiihfffhjmabaa
open Go.RowKit

theorem flat_take {α : Type} (g : α → List Value) {sz : Nat} (hg : ∀ a, (g a).length = sz) : ∀ (l : List α) (i : Nat), (l.take i).flatMap g = (l.flatMap g).take (i * sz)
  | [], i => by simp
  | x :: r, 0 => by simp
  | x :: r, i + 1 => by
    have e1 : (g x).take ((i + 1) * sz) = g x := List.take_of_length_le (by rw [hg, Nat.succ_mul]; omega)
    rw [List.take_succ_cons, List.flatMap_cons, List.flatMap_cons, flat_take g hg r i, List.take_append, e1, hg, show (i + 1) * sz - sz = i * sz by rw [Nat.succ_mul]; omega]
theorem SubsA.pre {w : World} {A : Option Addr} {c : Nat} {l : List (ByteArray × ByteArray)} (h : SubsA w A c l) {i : Nat} (hi : i ≤ l.length) : SubsA w A c (l.take i) := by
  have e : (l.take i).length = i := by rw [List.length_take]; omega
  refine ⟨?_⟩
  rw [e, flat_take aSub (sz := 2) (fun _ => rfl)]
  exact h.rows.pre hi
theorem subsE_at {l : List TypI} {s : List (ByteArray × ByteArray)} {i : Nat} {x : ByteArray × ByteArray} (hx : s[i]? = some x) :
    subsE l (s.take i) (s.drop i) = if subOk l x = false then 31 else if (s.take i).any (fun y => decide (y = x)) = true then 32 else subsE l (s.take (i + 1)) (s.drop (i + 1)) := by
  rw [List.drop_eq_getElem_cons (List.getElem?_eq_some_iff.1 hx).1, (List.getElem?_eq_some_iff.1 hx).2, take_snoc hx]
  rfl
theorem names_not {q : TypI} {a b c n : ByteArray} {i : Nat} (h : [a, b, c][i]? = some n) (hn : hasR q n = false) : (hasR q a && (hasR q b && hasR q c)) = false := by
  match i, h with
  | 0, h => simp at h; subst h; rw [hn]; rfl
  | 1, h => simp at h; subst h; rw [hn]; simp
  | 2, h => simp at h; subst h; rw [hn]; simp
set_option maxRecDepth 100000 in
set_option maxHeartbeats 1000000 in
theorem relNames_any {w : World} {R : Nat} {A : Option Addr} {c : Nat} {l : List TypA} {t : TypA} {r : RelA} (h : SchA w R A c l) (ht : t.ok w R) (hr : r.ok w R) :
    Calls Try.prog 31 #[.agg #[.slice A l.length c], .agg #[.string t.name, .slice t.A t.rels.length t.c], .agg #[.string r.name, .string r.view, .string r.edit, .string r.check, .slice r.As r.subs.length r.cs, .slice r.Ao r.ops.length r.co]] w fun e w' =>
      e = .returned (.int .i64 (namedE (l.map TypA.says) t.says r.says : Nat)) ∧ Below w.heap.size w w' := by
  have hls : (r.subs.length : Int) ≤ 9223372036854775807 := by have := hr.subs.cap; have := hr.subs.capm; simp only [maxLen] at this; omega
  have hlo : (r.ops.length : Int) ≤ 9223372036854775807 := by have := hr.ops.cap; have := hr.ops.capm; simp only [maxLen] at this; omega
  obtain ⟨As, hAs⟩ : ∃ As, r.As = As := ⟨_, rfl⟩
  obtain ⟨Ao, hAo⟩ : ∃ Ao, r.Ao = Ao := ⟨_, rfl⟩
  rw [hAs, hAo]
  have hNE : Hid (namedE (l.map TypA.says) t.says r.says = if (hasR t.says r.view && (hasR t.says r.edit && hasR t.says r.check)) = false then 31 else if subsE (l.map TypA.says) [] r.subs ≠ 0 then subsE (l.map TypA.says) [] r.subs else if r.ops.all (opOk (l.map TypA.says) t.says) = false then 31 else 0) := Lib.hid rfl
  generalize namedE (l.map TypA.says) t.says r.says = NE at *
  have hb0 := ((bnew w (.cells #[.slice A l.length c] 24)).alloc (size_alloc (Nat.le_refl _)) (.cells #[.string t.name, .slice t.A t.rels.length t.c] 46))
  have hb1 := hb0.alloc hb0.size (.cells #[.string r.name, .string r.view, .string r.edit, .string r.check, .slice As r.subs.length r.cs, .slice Ao r.ops.length r.co] 36)
  have d0 := ((Bk.new w #[.slice A l.length c] 24).alloc (.cells #[.string t.name, .slice t.A t.rels.length t.c] 46)).alloc (.cells #[.string r.name, .string r.view, .string r.edit, .string r.check, .slice As r.subs.length r.cs, .slice Ao r.ops.length r.co] 36)
  have d1 := (Bk.new2 w (.cells #[.slice A l.length c] 24) #[.string t.name, .slice t.A t.rels.length t.c] 46).alloc (.cells #[.string r.name, .string r.view, .string r.edit, .string r.check, .slice As r.subs.length r.cs, .slice Ao r.ops.length r.co] 36)
  have d2 := Bk.new2 (w.alloc (.cells #[.slice A l.length c] 24)) (.cells #[.string t.name, .slice t.A t.rels.length t.c] 46) #[.string r.name, .string r.view, .string r.edit, .string r.check, .slice As r.subs.length r.cs, .slice Ao r.ops.length r.co] 36
  rw [show (w.alloc (.cells #[.slice A l.length c] 24)).heap.size + 1 = w.heap.size + 1 + 1 by simp] at d2
  have hz1 : ((((w.alloc (.cells #[.slice A l.length c] 24)).alloc (.cells #[.string t.name, .slice t.A t.rels.length t.c] 46)).alloc (.cells #[.string r.name, .string r.view, .string r.edit, .string r.check, .slice As r.subs.length r.cs, .slice Ao r.ops.length r.co] 36))).heap.size = w.heap.size + 1 + 1 + 1 := by simp
  go_enter Try.func31, Try.ntmps31
  go_upto_region 1 with (fail)
  generalize ((w.alloc (.cells #[.slice A l.length c] 24)).alloc (.cells #[.string t.name, .slice t.A t.rels.length t.c] 46)).alloc (.cells #[.string r.name, .string r.view, .string r.edit, .string r.check, .slice As r.subs.length r.cs, .slice Ao r.ops.length r.co] 36) = w1 at *
  obtain ⟨x0, x1, x2, x3, x4, x5⟩ := d2.c6
  have xl := d2.lt
  clear hb0
  go_wp2_with fail
  replace d0 := d0.alloc (.cells #[.string r.view, .string r.edit, .string r.check] 9)
  replace d1 := d1.alloc (.cells #[.string r.view, .string r.edit, .string r.check] 9)
  replace d2 := d2.alloc (.cells #[.string r.view, .string r.edit, .string r.check] 9)
  have d3 := Bk.new w1 #[.string r.view, .string r.edit, .string r.check] 9
  have hb2 := hb1.alloc hb1.size (.cells #[.string r.view, .string r.edit, .string r.check] 9)
  rw [hz1] at d3
  have ht2 := ht.up hb2
  have h2 := h.up hb2
  have hr2 := hr.up hb2
  clear hb1 x0 x1 x2 x3 x4 x5 xl h ht hr
  generalize w1.alloc (.cells #[.string r.view, .string r.edit, .string r.check] 9) = w2 at *
  clear hz1
  go_loopw [21] (fun vi wx => ∃ i : Nat, vi = .int .i64 i ∧ i ≤ 3 ∧ (∀ n ∈ [r.view, r.edit, r.check].take i, hasR t.says n = true) ∧ Below w2.heap.size w2 wx) (fun vi _ => 3 - (intOf vi).toNat)
  case atStart => exact ⟨0, rfl, Nat.zero_le _, fun n hn => (by simp at hn), Below.refl _ _⟩
  case round =>
    obtain ⟨i, rfl, hi, hn, hbx⟩ := hrel
    by_cases hil : i < 3
    · obtain ⟨n, hni⟩ : ∃ n, [r.view, r.edit, r.check][i]? = some n := ⟨_, List.getElem?_eq_getElem hil⟩
      have hdi : (i : Int) < 3 := by omega
      have g0 : wr.cell? ⟨w.heap.size + 1 + 1 + 1, i, none⟩ = some (.string n) := by
        rw [(d3.below hbx).cell i]
        match i, hil with
        | 0, _ => simpa using hni
        | 1, _ => simpa using hni
        | 2, _ => simpa using hni
      have e1 := d1.below hbx
      obtain ⟨y0, y1⟩ := e1.c2
      have yl := e1.lt
      have gl := (d3.below hbx).lt
      have hc := hasRel_any (ht2.up hbx) n
      cases hd : hasR t.says n with
      | false =>
        rw [hd] at hc
        go_wp2_with (with_reducible refine hc.mono ?_; rintro e w3 ⟨rfl, hb3⟩)
        go_ret
        refine ⟨?_, hb2.trans ((hbx.trans (hb3.mono hbx.size)).mono hb2.size)⟩
        have : (hasR t.says r.view && (hasR t.says r.edit && hasR t.says r.check)) = false := names_not hni hd
        rw [hNE.out, if_pos this]
        rfl
      | true =>
        rw [hd] at hc
        go_wp2_with (with_reducible refine hc.mono ?_; rintro e w3 ⟨rfl, hb3⟩)
        refine ⟨⟨i + 1, by go_num, by omega, fun m hm => ?_, bthen hbx hbx.size hb3⟩, ?_⟩
        · rw [take_snoc hni] at hm
          rcases List.mem_append.1 hm with hm | hm
          · exact hn m hm
          · simp at hm
            subst hm
            exact hd
        · simp [intOf]; omega
    · obtain rfl : i = 3 := by omega
      have e2 := d2.below hbx
      obtain ⟨x0, x1, x2, x3, x4, x5⟩ := e2.c6
      have xl := e2.lt
      have hA : ¬ (hasR t.says r.view && (hasR t.says r.edit && hasR t.says r.check)) = false := by
        rw [hn r.view (by simp), hn r.edit (by simp), hn r.check (by simp)]
        decide
      replace hNE : Hid (NE = if subsE (l.map TypA.says) [] r.subs ≠ 0 then subsE (l.map TypA.says) [] r.subs else if r.ops.all (opOk (l.map TypA.says) t.says) = false then 31 else 0) := Lib.hid (by rw [hNE.out, if_neg hA])
      clear hA hn d3
      go_wp2_with fail
      clear x0 x1 x2 x3 x4 x5 xl
      have hb4 := bthen hb2 hb2.size hbx
      have d0' := d0.below hbx
      have d1' := d1.below hbx
      have d2' := d2.below hbx
      have ht4 := ht2.up hbx
      have h4 := h2.up hbx
      have hr4 := hr2.up hbx
      clear hb2 d0 d1 d2 ht2 h2 hr2
      generalize wr = w4 at *
      clear hbx
      simp only [show ((3 : Nat) : Int) = 3 from rfl]
      go_loopw [33] (fun vi wx => ∃ i : Nat, vi = .int .i64 i ∧ i ≤ r.subs.length ∧ Hid (subsE (l.map TypA.says) [] r.subs = subsE (l.map TypA.says) (r.subs.take i) (r.subs.drop i)) ∧ Below w4.heap.size w4 wx) (fun vi _ => r.subs.length - (intOf vi).toNat)
      case atStart => exact ⟨0, rfl, Nat.zero_le _, Lib.hid rfl, Below.refl _ _⟩
      case round =>
        obtain ⟨j, rfl, hj, hE, hbx⟩ := hrel
        by_cases hjl : j < r.subs.length
        · have hdj : (j : Int) < (r.subs.length : Nat) := by omega
          obtain ⟨s, hs⟩ : ∃ s, r.subs[j]? = some s := ⟨r.subs[j], List.getElem?_eq_getElem hjl⟩
          obtain ⟨g, o, eA, g0, g1, _, _⟩ := (hr4.up hbx).sub hs
          have lg := World.block_lt_of_cell? _ _ g0
          dsimp only at lg
          rw [hAs] at eA
          subst eA
          go_upto_region 10 with (fail)
          have hbs := bnew wr (.cells #[.string s.1, .string s.2] 54)
          have dS := Bk.new wr #[.string s.1, .string s.2] 54
          have hbx2 := bthen hbx hbx.size hbs
          clear hbs
          generalize wr.alloc (.cells #[.string s.1, .string s.2] 54) = w5 at *
          obtain ⟨s0, s1⟩ := dS.c2
          have sl := dS.lt
          have e0 := d0'.below hbx2
          have q0 := e0.c1
          have ql := e0.lt
          have hc := isThere_any (h4.up hbx2) s
          have hEs := subsE_at (l := l.map TypA.says) hs
          cases hd : subOk (l.map TypA.says) s with
          | false =>
            rw [hd] at hc
            rw [if_pos hd] at hEs
            go_wp2_with (with_reducible refine hc.mono ?_; rintro e w6 ⟨rfl, hb6⟩)
            go_ret
            refine ⟨?_, bthen hb4 hb4.size (bthen hbx2 hbx2.size hb6)⟩
            rw [hNE.out, hE.out, hEs, if_pos (by decide)]
            rfl
          | true =>
            rw [hd] at hc
            rw [if_neg (by rw [hd]; decide)] at hEs
            go_wp2_with (with_reducible refine hc.mono ?_; rintro e w6 ⟨rfl, hb6⟩)
            have hbx6 := bthen hbx2 hbx2.size hb6
            have dS6 := dS.below hb6
            clear s0 s1 sl q0 ql e0 dS
            obtain ⟨s0, s1⟩ := dS6.c2
            have sl := dS6.lt
            have e2 := d2'.below hbx6
            obtain ⟨x0, x1, x2, x3, x4, x5⟩ := e2.c6
            have xl := e2.lt
            have hcap := hr4.subs.cap
            have hjc : (j : Int) ≤ (r.cs : Nat) := by omega
            have hbd : Below w6.heap.size w6 w6.drew := ⟨rfl, rfl, rfl, Nat.le_refl _, fun _ _ => rfl⟩
            have hbx7 := bthen hbx6 hbx6.size hbd
            have hcn := contains_any (((SubsA.mk hr4.subs).up hbx7).pre (Nat.le_of_lt hjl)) s
            rw [hAs, show (r.subs.take j).length = j by rw [List.length_take]; omega] at hcn
            go_still_tail 5, (by kernel_rfl)
            change wpList _ _ _ _ _ (World.drew _)
            cases hcb : (r.subs.take j).any fun y => decide (y = s) with
            | true =>
              rw [hcb] at hcn
              rw [if_pos hcb] at hEs
              go_wp2_with (with_reducible refine hcn.mono ?_; rintro e w8 ⟨rfl, hb8⟩)
              go_ret
              refine ⟨?_, bthen hb4 hb4.size (bthen hbx7 hbx7.size hb8)⟩
              rw [hNE.out, hE.out, hEs, if_pos (by decide)]
              rfl
            | false =>
              rw [hcb] at hcn
              rw [if_neg (by rw [hcb]; decide)] at hEs
              go_wp2_with (with_reducible refine hcn.mono ?_; rintro e w8 ⟨rfl, hb8⟩)
              refine ⟨⟨j + 1, by go_num, by omega, Lib.hid (by rw [hE.out, hEs]), bthen hbx7 hbx7.size hb8⟩, ?_⟩
              simp [intOf]; omega
        · obtain rfl : j = r.subs.length := by omega
          have hE0 : subsE (l.map TypA.says) [] r.subs = 0 := by
            rw [hE.out, List.take_length, List.drop_length]
            rfl
          replace hNE : Hid (NE = if r.ops.all (opOk (l.map TypA.says) t.says) = false then 31 else 0) := Lib.hid (by rw [hNE.out, hE0, if_neg (by decide)])
          clear hE0 hE
          have e2 := d2'.below hbx
          obtain ⟨x0, x1, x2, x3, x4, x5⟩ := e2.c6
          have xl := e2.lt
          go_wp2_with fail
          clear x0 x1 x2 x3 x4 x5 xl e2
          have hb5 := bthen hb4 hb4.size hbx
          have d0'' := d0'.below hbx
          have d1'' := d1'.below hbx
          have ht5 := ht4.up hbx
          have h5 := h4.up hbx
          have hr5 := hr4.up hbx
          clear hb4 d0' d1' d2' ht4 h4 hr4
          generalize wr = w5 at *
          clear hbx
          go_loopw [52] (fun vi wx => ∃ i : Nat, vi = .int .i64 i ∧ i ≤ r.ops.length ∧ (∀ o ∈ r.ops.take i, opOk (l.map TypA.says) t.says o = true) ∧ Below w5.heap.size w5 wx) (fun vi _ => r.ops.length - (intOf vi).toNat)
          case atStart => exact ⟨0, rfl, Nat.zero_le _, fun o ho => (by simp at ho), Below.refl _ _⟩
          case round =>
            obtain ⟨k, rfl, hk, hE, hbx⟩ := hrel
            by_cases hkl : k < r.ops.length
            · have hdk : (k : Int) < (r.ops.length : Nat) := by omega
              obtain ⟨q, hq⟩ : ∃ q, r.ops[k]? = some q := ⟨r.ops[k], List.getElem?_eq_getElem hkl⟩
              obtain ⟨g, o, eA, g0, g1, g2, _, _, _⟩ := (hr5.up hbx).op hq
              have lg := World.block_lt_of_cell? _ _ g0
              dsimp only at lg
              rw [hAo] at eA
              subst eA
              go_upto_region 18 with (fail)
              have hbs := bnew wr (.cells #[.int .i64 q.1, .string q.2.1, .string q.2.2] 56)
              have dS := Bk.new wr #[.int .i64 q.1, .string q.2.1, .string q.2.2] 56
              have hbx2 := bthen hbx hbx.size hbs
              clear hbs
              generalize wr.alloc (.cells #[.int .i64 q.1, .string q.2.1, .string q.2.2] 56) = w6 at *
              have s0 : w6.cell? ⟨wr.heap.size, 0, none⟩ = some (.int .i64 q.1) := dS.cell 0
              have s1 : w6.cell? ⟨wr.heap.size, 1, none⟩ = some (.string q.2.1) := dS.cell 1
              have s2 : w6.cell? ⟨wr.heap.size, 2, none⟩ = some (.string q.2.2) := dS.cell 2
              have sl := dS.lt
              have e0 := d0''.below hbx2
              have q0 := e0.c1
              have ql := e0.lt
              have e1 := d1''.below hbx2
              obtain ⟨y0, y1⟩ := e1.c2
              have yl := e1.lt
              have hc := opHolds_any q (h5.up hbx2) (ht5.up hbx2)
              cases hd : opOk (l.map TypA.says) t.says q with
              | false =>
                rw [hd] at hc
                go_wp2_with (with_reducible refine hc.mono ?_; rintro e w7 ⟨rfl, hb7⟩)
                go_ret
                refine ⟨?_, bthen hb5 hb5.size (bthen hbx2 hbx2.size hb7)⟩
                rw [hNE.out, if_pos (List.all_eq_false.2 ⟨q, List.mem_of_getElem? hq, by rw [hd]; decide⟩)]
                rfl
              | true =>
                rw [hd] at hc
                go_wp2_with (with_reducible refine hc.mono ?_; rintro e w7 ⟨rfl, hb7⟩)
                refine ⟨⟨k + 1, by go_num, by omega, fun o ho => ?_, bthen hbx2 hbx2.size hb7⟩, ?_⟩
                · rw [take_snoc hq] at ho
                  rcases List.mem_append.1 ho with ho | ho
                  · exact hE o ho
                  · simp at ho
                    subst ho
                    exact hd
                · simp [intOf]; omega
            · obtain rfl : k = r.ops.length := by omega
              have hdk : ¬ ((r.ops.length : Int) < (r.ops.length : Nat)) := by omega
              rw [List.take_length] at hE
              go_wp2
              go_ret
              refine ⟨?_, bthen hb5 hb5.size hbx⟩
              rw [hNE.out, if_neg (by rw [List.all_eq_true.2 hE]; decide)]
              rfl
end Go.Proofs.Ytpiihfffhjmabaa
