/- Layer 9: whether a relation leads, whether an operation holds. Conditions: none. -/
import Derived.BigQuiet
import Derived.Deep.QuietTactic
import Derived.Test.YtpiihfffhjmabaaListW
namespace Go.Proofs.Ytpiihfffhjmabaa
open Go.RowKit

theorem run_enter9 {f : FuncId} {fn : Func} (hf : Try.prog.funcs[f]? = some fn) (hname : (fn.name == "runtime.NumGoroutine") = false) (hb : fn.body.isNone = false) (args : Array Value) (W : World) : (callFunc f args).run Try.prog W = .ok (.enter f args) W := by
  have h1 : ¬ (fn.name = "runtime.NumGoroutine") := by simpa using hname
  have h2 : fn.body ≠ none := by intro e; rw [e] at hb; cases hb
  simp [callFunc, hf, h1, h2, Result.andThen]
set_option maxRecDepth 100000 in
set_option maxHeartbeats 400000 in
theorem indexFunc_any {w : World} {R b1 b2 : Nat} {A A2 : Option Addr} {c c2 : Nat} {l : List TypA} {next : ByteArray} {s : List (ByteArray × ByteArray)} (h : SchA w R A c l) (hs : SubsA w A2 c2 s) (l1 : b1 < w.heap.size)
    (q1 : w.cell? ⟨b1, 0, none⟩ = some (.slice A l.length c)) (q2 : w.cell? ⟨b2, 0, none⟩ = some (.string next)) :
    Calls Try.prog 73 #[.slice A2 s.length c2, .func (.func 64) #[] #[.pointer (some ⟨b1, 0, none⟩), .pointer (some ⟨b2, 0, none⟩)]] w fun e w' => (∃ z : Int, e = .returned (.int .i64 z) ∧ decide (0 ≤ z) = s.any (leadB (l.map TypA.says) next)) ∧ Below w.heap.size w w' := by
  have hl : (s.length : Int) ≤ 9223372036854775807 := by have := hs.rows.cap; have := hs.rows.capm; simp only [maxLen] at this; omega
  have hen : ∀ args W, (callFunc 64 args).run Try.prog W = .ok (.enter 64 args) W := run_enter9 Try.func64 (by kernel_rfl) (by kernel_rfl)
  go_enter Try.func73, Try.ntmps73
  go_wp2_with fail
  go_loopw [8] (fun vi wx => ∃ i : Nat, vi = .int .i64 i ∧ i ≤ s.length ∧ (∀ y ∈ s.take i, leadB (l.map TypA.says) next y = false) ∧ Below w.heap.size w wx) (fun vi _ => s.length - (intOf vi).toNat)
  case atStart => exact ⟨0, rfl, Nat.zero_le _, fun t ht => (by simp at ht), Below.refl _ _⟩
  case round =>
    obtain ⟨i, rfl, hi, hn, hbx⟩ := hrel
    by_cases hil : i < s.length
    · have hdi : (i : Int) < (s.length : Nat) := by omega
      obtain ⟨t, ht⟩ : ∃ t, s[i]? = some t := ⟨s[i], List.getElem?_eq_getElem hil⟩
      obtain ⟨g, o, rfl, g0, g1⟩ := (hs.up hbx).get ht
      have lg := World.block_lt_of_cell? _ _ g0
      dsimp only at lg
      have hc := lead1_any (h.up hbx) t (Nat.lt_of_lt_of_le l1 hbx.size) (cell_under q1 hbx) (cell_under q2 hbx)
      cases hd : leadB (l.map TypA.says) next t with
      | true =>
        rw [hd] at hc
        go_wp2_with (with_reducible refine hc.mono ?_; rintro e w1 ⟨rfl, hb1⟩)
        go_ret
        exact ⟨⟨_, rfl, by rw [any_at ht hd]; exact decide_eq_true (by omega)⟩, bthen hbx hbx.size hb1⟩
      | false =>
        rw [hd] at hc
        go_wp2_with (with_reducible refine hc.mono ?_; rintro e w1 ⟨rfl, hb1⟩)
        refine ⟨⟨i + 1, by go_num, by omega, take_all ht hn hd, bthen hbx hbx.size hb1⟩, ?_⟩
        simp [intOf]; omega
    · have hdi : ¬ (i : Int) < (s.length : Nat) := by omega
      obtain rfl : i = s.length := by omega
      rw [List.take_length] at hn
      go_wp2
      go_ret
      exact ⟨⟨_, rfl, by rw [any_not hn]; decide⟩, hbx⟩
set_option maxRecDepth 100000 in
set_option maxHeartbeats 400000 in
theorem containsFunc_any {w : World} {R b1 b2 : Nat} {A A2 : Option Addr} {c c2 : Nat} {l : List TypA} {next : ByteArray} {s : List (ByteArray × ByteArray)} (h : SchA w R A c l) (hs : SubsA w A2 c2 s) (l1 : b1 < w.heap.size)
    (q1 : w.cell? ⟨b1, 0, none⟩ = some (.slice A l.length c)) (q2 : w.cell? ⟨b2, 0, none⟩ = some (.string next)) :
    Calls Try.prog 63 #[.slice A2 s.length c2, .func (.func 64) #[] #[.pointer (some ⟨b1, 0, none⟩), .pointer (some ⟨b2, 0, none⟩)]] w fun e w' => e = .returned (.bool (s.any (leadB (l.map TypA.says) next))) ∧ Below w.heap.size w w' := by
  go_enter Try.func63, Try.ntmps63
  go_wp2_with fail
  refine (indexFunc_any h hs l1 q1 q2).mono ?_
  rintro e w1 ⟨⟨z, rfl, hz⟩, hb1⟩
  by_cases h0 : 0 ≤ z
  · go_wp2
    go_ret
    exact ⟨by rw [← hz, decide_eq_true h0]; rfl, hb1⟩
  · go_wp2
    go_ret
    exact ⟨by rw [← hz]; rfl, hb1⟩
set_option maxRecDepth 100000 in
set_option maxHeartbeats 400000 in
theorem leads_any {w : World} {R : Nat} {A : Option Addr} {c : Nat} {l : List TypA} {r : RelA} {next : ByteArray} (h : SchA w R A c l) (hr : r.ok w R) :
    Calls Try.prog 54 #[.agg #[.slice A l.length c], .agg #[.string r.name, .string r.view, .string r.edit, .string r.check, .slice r.As r.subs.length r.cs, .slice r.Ao r.ops.length r.co], .string next] w fun e w' =>
      e = .returned (.bool (leadsI (l.map TypA.says) r.says next)) ∧ Below w.heap.size w w' := by
  have hb0 := ((bnew w (.cells #[.slice A l.length c] 24)).alloc (size_alloc (Nat.le_refl _)) (.cells #[.string r.name, .string r.view, .string r.edit, .string r.check, .slice r.As r.subs.length r.cs, .slice r.Ao r.ops.length r.co] 36))
  have hb1 := hb0.alloc hb0.size (.cells #[.string next] 9)
  have hk1 := ((Bk.new w #[.slice A l.length c] 24).alloc (.cells #[.string r.name, .string r.view, .string r.edit, .string r.check, .slice r.As r.subs.length r.cs, .slice r.Ao r.ops.length r.co] 36)).alloc (.cells #[.string next] 9)
  have hk2 := Bk.new ((w.alloc (.cells #[.slice A l.length c] 24)).alloc (.cells #[.string r.name, .string r.view, .string r.edit, .string r.check, .slice r.As r.subs.length r.cs, .slice r.Ao r.ops.length r.co] 36)) #[.string next] 9
  rw [show ((w.alloc (.cells #[.slice A l.length c] 24)).alloc (.cells #[.string r.name, .string r.view, .string r.edit, .string r.check, .slice r.As r.subs.length r.cs, .slice r.Ao r.ops.length r.co] 36)).heap.size = w.heap.size + 1 + 1 by simp] at hk2
  have k := containsFunc_any (b1 := w.heap.size) (b2 := w.heap.size + 1 + 1) (next := next) (h.up hb1) ((SubsA.mk hr.subs).up hb1) hk1.lt hk1.c1 hk2.c1
  go_enter Try.func54, Try.ntmps54
  go_wp2_with (with_reducible refine k.mono ?_; rintro e w1 ⟨rfl, hb2⟩)
  go_ret
  exact ⟨rfl, bthen hb1 hb1.size hb2⟩
set_option maxRecDepth 100000 in
set_option maxHeartbeats 400000 in
theorem opHolds_any {w : World} {R : Nat} {A : Option Addr} {c : Nat} {l : List TypA} {t : TypA} (o : OpI) (h : SchA w R A c l) (ht : t.ok w R) :
    Calls Try.prog 42 #[.agg #[.slice A l.length c], .agg #[.string t.name, .slice t.A t.rels.length t.c], .agg #[.int .i64 o.1, .string o.2.1, .string o.2.2]] w fun e w' =>
      e = .returned (.bool (opOk (l.map TypA.says) t.says o)) ∧ Below w.heap.size w w' := by
  have hb0 := ((bnew w (.cells #[.slice A l.length c] 24)).alloc (size_alloc (Nat.le_refl _)) (.cells #[.string t.name, .slice t.A t.rels.length t.c] 46))
  have hb1 := hb0.alloc hb0.size (.cells #[.int .i64 o.1, .string o.2.1, .string o.2.2] 56)
  obtain ⟨z, n, x⟩ := o
  dsimp only at hb1 ⊢
  by_cases h2 : z = 2
  · subst h2
    rw [show opOk (l.map TypA.says) t.says (2, n, x) = hasR t.says n from rfl]
    go_enter Try.func42, Try.ntmps42
    go_wp2_with (with_reducible refine (hasRel_any (ht.up hb1) n).mono ?_; rintro e w1 ⟨rfl, hb2⟩)
    go_ret
    exact ⟨rfl, bthen hb1 hb1.size hb2⟩
  · by_cases h3 : z = 3
    · subst h3
      cases hf : firstRA t n with
      | none =>
        have hE : opOk (l.map TypA.says) t.says (3, n, x) = false := by
          unfold opOk
          rw [firstRA_says, hf]
          rfl
        rw [hE]
        go_enter Try.func42, Try.ntmps42
        go_wp2_with (with_reducible refine (relOf_none (ht.up hb1) hf).mono ?_; rintro e w1 ⟨rfl, hb2⟩)
        go_ret
        have hb := bthen hb1 hb1.size hb2
        exact ⟨rfl, hb.alloc hb.size _⟩
      | some r =>
        have hE : opOk (l.map TypA.says) t.says (3, n, x) = leadsI (l.map TypA.says) r.says x := by
          unfold opOk
          rw [firstRA_says, hf]
          rfl
        rw [hE]
        have hs1 := ((Bk.new w #[.slice A l.length c] 24).alloc (.cells #[.string t.name, .slice t.A t.rels.length t.c] 46)).alloc (.cells #[.int .i64 3, .string n, .string x] 56)
        have hs3 := Bk.new ((w.alloc (.cells #[.slice A l.length c] 24)).alloc (.cells #[.string t.name, .slice t.A t.rels.length t.c] 46)) #[.int .i64 3, .string n, .string x] 56
        rw [show ((w.alloc (.cells #[.slice A l.length c] 24)).alloc (.cells #[.string t.name, .slice t.A t.rels.length t.c] 46)).heap.size = w.heap.size + 1 + 1 by simp] at hs3
        go_enter Try.func42, Try.ntmps42
        go_wp2_with fail
        refine (relOf_some (ht.up hb1) hf).mono ?_
        rintro e w1 ⟨rfl, hb2⟩
        have z1 := (hs1.below hb2).c1
        have z2 : w1.cell? ⟨w.heap.size + 1 + 1, 2, none⟩ = some (.string x) := (hs3.below hb2).cell 2
        have z3 := (hs3.below hb2).lt
        have z4 := (hs1.below hb2).lt
        go_wp2_with fail
        have hb := bthen hb1 hb1.size hb2
        have hb' := hb.alloc hb.size (.cells #[.string r.name, .string r.view, .string r.edit, .string r.check, .slice r.As r.subs.length r.cs, .slice r.Ao r.ops.length r.co] 36)
        refine (leads_any (h.up hb') ((ht.relz r (firstRA_mem hf)).up hb')).mono ?_
        rintro e w2 ⟨rfl, hb3⟩
        go_wp2
        go_ret
        exact ⟨rfl, bthen hb' hb'.size hb3⟩
    · have hE : opOk (l.map TypA.says) t.says (z, n, x) = true := by
        unfold opOk
        rw [if_neg h2, if_neg h3]
      rw [hE]
      go_enter Try.func42, Try.ntmps42
      go_wp2
      go_ret
      exact ⟨rfl, hb1⟩
end Go.Proofs.Ytpiihfffhjmabaa
