/- Layer 9: the document's example. Conditions: none. -/
import Derived.BigQuiet
import Derived.Deep.QuietTactic
import Derived.Deep.Cut
import Derived.Test.YtpiihfffhjmabaaCheckW
import Derived.Test.YtpiihfffhjmabaaFind9
namespace Go.Proofs.Ytpiihfffhjmabaa
open Go.RowKit

def ex9a : ByteArray := ⟨#[116, 121, 112, 101, 32, 116, 32, 123, 32, 114, 101, 108, 32, 114, 32, 40, 114, 44, 32, 114, 44, 32, 115, 41, 58, 32, 116, 59, 32, 125]⟩
def ex9b : ByteArray := ⟨#[116, 121, 112, 101, 32, 116, 32, 123, 32, 114, 101, 108, 32, 114, 32, 40, 114, 44, 32, 114, 44, 32, 114, 41, 58, 32, 116, 44, 32, 116, 35, 114, 32, 105, 115, 32, 116, 104, 105, 115, 32, 45, 32, 114, 46, 114, 59, 32, 125]⟩
def T9a : List TypP := [⟨⟨#[116]⟩, [⟨⟨#[114]⟩, ⟨#[114]⟩, ⟨#[114]⟩, ⟨#[115]⟩, [(⟨#[116]⟩, ⟨#[]⟩)], [(1, ⟨#[]⟩, ⟨#[]⟩)]⟩]⟩]
def T9b : List TypP := [⟨⟨#[116]⟩, [⟨⟨#[114]⟩, ⟨#[114]⟩, ⟨#[114]⟩, ⟨#[114]⟩, [(⟨#[116]⟩, ⟨#[]⟩), (⟨#[116]⟩, ⟨#[114]⟩)], [(1, ⟨#[]⟩, ⟨#[]⟩), (3, ⟨#[114]⟩, ⟨#[114]⟩), (6, ⟨#[]⟩, ⟨#[]⟩)]⟩]⟩]
theorem ex9a_says : parseS ex9a = (T9a, 0, 0) := by decide +kernel
theorem ex9b_says : parseS ex9b = (T9b, 0, 0) := by decide +kernel
theorem T9a_check : checkE (T9a.map typI) = (31, ⟨#[116, 46, 114]⟩) := by decide +kernel
theorem T9b_check : checkE (T9b.map typI) = (0, ⟨#[]⟩) := by decide +kernel
theorem T9b_find : findI (T9b.map typI) ⟨#[116]⟩ ⟨#[114]⟩ = some ⟨⟨#[114]⟩, ⟨#[114]⟩, ⟨#[114]⟩, ⟨#[114]⟩, [(⟨#[116]⟩, ⟨#[]⟩), (⟨#[116]⟩, ⟨#[114]⟩)], [(1, ⟨#[]⟩, ⟨#[]⟩), (3, ⟨#[114]⟩, ⟨#[114]⟩), (6, ⟨#[]⟩, ⟨#[]⟩)]⟩ := by decide +kernel
theorem T9b_none : findI (T9b.map typI) ⟨#[116]⟩ ⟨#[120]⟩ = none := by decide +kernel
/-- Small enough for every reading. -/
theorem small9 (T : List TypP) (h : ∀ t ∈ T, t.name.size ≤ 1000 ∧ t.rels.length ≤ 1000 ∧ ∀ x ∈ t.rels, x.name.size ≤ 1000 ∧ x.view.size ≤ 1000 ∧ x.edit.size ≤ 1000 ∧ x.check.size ≤ 1000 ∧ (x.subs.length ≤ 1000 ∧ ∀ s ∈ x.subs, s.1.size ≤ 1000 ∧ s.2.size ≤ 1000) ∧ (x.ops.length ≤ 1000 ∧ ∀ o ∈ x.ops, (Lit.int .i64 (o.1 : Nat)).wf = true ∧ o.2.1.size ≤ 1000 ∧ o.2.2.size ≤ 1000)) :
    ∀ t ∈ T, t.name.size ≤ 140737488351232 ∧ t.rels.length * 112 ≤ 140737488351232 ∧ ∀ x ∈ t.rels, SmI 140737488351232 x := by
  intro t ht
  obtain ⟨h1, h2, h3⟩ := h t ht
  refine ⟨by omega, by omega, fun x hx => ?_⟩
  obtain ⟨a, b, c, d, ⟨e, f⟩, ⟨g, k⟩⟩ := h3 x hx
  exact ⟨by omega, by omega, by omega, by omega, by omega, fun s hs => by have := f s hs; omega, by omega, fun o ho => by have := k o ho; exact ⟨this.1, by omega, by omega⟩⟩
theorem T9a_small : ∀ t ∈ T9a, t.name.size ≤ 140737488351232 ∧ t.rels.length * 112 ≤ 140737488351232 ∧ ∀ x ∈ t.rels, SmI 140737488351232 x := small9 T9a (by decide +kernel)
theorem T9b_small : ∀ t ∈ T9b, t.name.size ≤ 140737488351232 ∧ t.rels.length * 112 ≤ 140737488351232 ∧ ∀ x ∈ t.rels, SmI 140737488351232 x := small9 T9b (by decide +kernel)
set_option maxRecDepth 100000 in
set_option maxHeartbeats 400000 in
theorem awake9_any (w : World) : Calls Try.prog 8 #[] w fun e w' => e = .returned (.bool true) ∧ Below w.heap.size w w' := by
  have ka := fun W => parse_named ex9a (by decide) ex9a_says W
  have kb := fun W => parse_named ex9b (by decide) ex9b_says W
  unfold ex9a at ka
  unfold ex9b at kb
  go_enter Try.func8, Try.ntmps8
  go_wp2_with fail
  refine (ka w).mono ?_
  rintro e w1 ⟨⟨A, c, rfl, hv⟩, hb⟩
  obtain ⟨l, hl, hs⟩ := hv.sch (R := 140737488351232) (by decide) T9a_small
  have hn : l.length = T9a.length := by have := congrArg List.length hl; rwa [List.length_map, List.length_map] at this
  rw [← hn]
  replace hl := Lib.hid hl
  clear hv ka hn
  go_upto_region 2 with (fail)
  replace hs := hs.up (bnew w1 (.cells #[.slice A l.length c] 24))
  replace hb := hb.alloc hb.size (.cells #[.slice A l.length c] 24)
  have x0 := (Bk.new w1 #[.slice A l.length c] 24).c1
  have xl := (Bk.new w1 #[.slice A l.length c] 24).lt
  generalize w1.alloc (.cells #[.slice A l.length c] 24) = w2 at *
  go_wp2_with fail
  have kc := check_any hs (Nat.le_refl _)
  rw [hl.out, T9a_check] at kc
  refine kc.mono ?_
  rintro e w3 ⟨rfl, hb1⟩
  replace hb := bthen hb hb.size hb1
  clear hb1 kc hs hl x0 xl
  go_wp2_with fail
  refine (kb w3).mono ?_
  rintro e w4 ⟨⟨A2, c2, rfl, hv⟩, hb1⟩
  replace hb := bthen hb hb.size hb1
  obtain ⟨l2, hl, hs⟩ := hv.sch (R := 140737488351232) (by decide) T9b_small
  have hn : l2.length = T9b.length := by have := congrArg List.length hl; rwa [List.length_map, List.length_map] at this
  rw [← hn]
  replace hl := Lib.hid hl
  clear hv kb hb1 hn
  go_upto_region 4 with (fail)
  replace hs := hs.up (bnew w4 (.cells #[.slice A2 l2.length c2] 24))
  replace hb := hb.alloc hb.size (.cells #[.slice A2 l2.length c2] 24)
  have hx := Bk.new w4 #[.slice A2 l2.length c2] 24
  generalize w4.alloc (.cells #[.slice A2 l2.length c2] 24) = w5 at *
  generalize w4.heap.size = b4 at *
  have x0 := hx.c1
  have xl := hx.lt
  go_wp2_with fail
  have kc := check_any hs (Nat.le_refl _)
  rw [hl.out, T9b_check] at kc
  refine kc.mono ?_
  rintro e w6 ⟨rfl, hb1⟩
  replace hb := bthen hb hb.size hb1
  replace hs := hs.up hb1
  replace hx := hx.below hb1
  clear hb1 kc x0 xl
  have x0 := hx.c1
  have xl := hx.lt
  have kf := find_any hs (Nat.le_refl _) ⟨#[116]⟩ ⟨#[114]⟩
  rw [hl.out, T9b_find] at kf
  go_wp2_with fail
  refine kf.mono ?_
  rintro e w7 ⟨⟨r, rfl, hr, hsays⟩, hb1⟩
  have hrn : r.subs.length = 2 := by rw [show r.subs = r.says.subs from rfl, hsays]; rfl
  rw [hrn]
  clear hsays kf x0 xl hr
  replace hb := bthen hb hb.size hb1
  replace hs := hs.up hb1
  replace hx := hx.below hb1
  clear hb1
  go_upto_region 6 with (fail)
  have hX := Bk.new w7 #[.string r.name, .string r.view, .string r.edit, .string r.check, .slice r.As 2 r.cs, .slice r.Ao r.ops.length r.co] 36
  replace hs := hs.up (bnew w7 (.cells #[.string r.name, .string r.view, .string r.edit, .string r.check, .slice r.As 2 r.cs, .slice r.Ao r.ops.length r.co] 36))
  replace hx := hx.alloc (.cells #[.string r.name, .string r.view, .string r.edit, .string r.check, .slice r.As 2 r.cs, .slice r.Ao r.ops.length r.co] 36)
  replace hb := hb.alloc hb.size (.cells #[.string r.name, .string r.view, .string r.edit, .string r.check, .slice r.As 2 r.cs, .slice r.Ao r.ops.length r.co] 36)
  generalize w7.alloc (.cells #[.string r.name, .string r.view, .string r.edit, .string r.check, .slice r.As 2 r.cs, .slice r.Ao r.ops.length r.co] 36) = w8 at *
  generalize w7.heap.size = b7 at *
  have x0 := hx.c1
  have xl := hx.lt
  have kf := find_any hs (Nat.le_refl _) ⟨#[116]⟩ ⟨#[120]⟩
  rw [hl.out, T9b_none] at kf
  go_wp2_with fail
  refine kf.mono ?_
  rintro e w9 ⟨⟨r2, rfl, _, _⟩, hb1⟩
  replace hb := bthen hb hb.size hb1
  replace hX := hX.below hb1
  clear hb1 kf x0 xl hx hs
  obtain ⟨y0, y1, y2, y3, y4, y5⟩ := hX.c6
  have yl := hX.lt
  go_wp2_with fail
  go_ret
  exact ⟨rfl, hb.alloc hb.size _⟩
end Go.Proofs.Ytpiihfffhjmabaa
