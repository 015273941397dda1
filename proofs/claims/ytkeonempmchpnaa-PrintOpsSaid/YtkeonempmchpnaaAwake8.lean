/- Layer 8: the document's example. Conditions: none. -/
import Derived.BigQuiet
import Derived.Deep.QuietTactic
import Derived.Test.YtkeonempmchpnaaShowW
namespace Go.Proofs.Ytkeonempmchpnaa
open Go.RowKit

def ex8 : ByteArray := ⟨#[116, 121, 112, 101, 32, 116, 123, 114, 101, 108, 32, 114, 40, 97, 44, 98, 44, 99, 41, 58, 117, 44, 103, 35, 109, 32, 105, 115, 32, 40, 97, 124, 98, 41, 45, 40, 99, 38, 100, 41, 59, 114, 101, 108, 32, 113, 40, 97, 44, 97, 44, 97, 41, 58, 59, 125]⟩
def out8 : ByteArray := ⟨#[116, 121, 112, 101, 32, 116, 32, 123, 10, 9, 114, 101, 108, 32, 114, 32, 40, 97, 44, 32, 98, 44, 32, 99, 41, 58, 32, 117, 44, 32, 103, 35, 109, 32, 105, 115, 32, 97, 32, 124, 32, 98, 32, 45, 32, 40, 99, 32, 38, 32, 100, 41, 59, 10, 9, 114, 101, 108, 32, 113, 32, 40, 97, 44, 32, 97, 44, 32, 97, 41, 58, 59, 10, 125, 10]⟩
def T8 : List TypP := [⟨⟨#[116]⟩, [⟨⟨#[114]⟩, ⟨#[97]⟩, ⟨#[98]⟩, ⟨#[99]⟩, [(⟨#[117]⟩, ⟨#[]⟩), (⟨#[103]⟩, ⟨#[109]⟩)], [(2, ⟨#[97]⟩, ⟨#[]⟩), (2, ⟨#[98]⟩, ⟨#[]⟩), (4, ⟨#[]⟩, ⟨#[]⟩), (2, ⟨#[99]⟩, ⟨#[]⟩), (2, ⟨#[100]⟩, ⟨#[]⟩), (5, ⟨#[]⟩, ⟨#[]⟩), (6, ⟨#[]⟩, ⟨#[]⟩)]⟩, ⟨⟨#[113]⟩, ⟨#[97]⟩, ⟨#[97]⟩, ⟨#[97]⟩, [], [(1, ⟨#[]⟩, ⟨#[]⟩)]⟩]⟩]
theorem ex8_says : parseS ex8 = (T8, 0, 0) := by decide +kernel
theorem ex8_shown : showS T8 = out8 := by decide +kernel
theorem via8 : rewS [(3, ⟨#[97]⟩, ⟨#[98]⟩)] = ⟨#[97, 46, 98]⟩ := by decide +kernel
theorem out8_list : out8.toList = [116, 121, 112, 101, 32, 116, 32, 123, 10, 9, 114, 101, 108, 32, 114, 32, 40, 97, 44, 32, 98, 44, 32, 99, 41, 58, 32, 117, 44, 32, 103, 35, 109, 32, 105, 115, 32, 97, 32, 124, 32, 98, 32, 45, 32, 40, 99, 32, 38, 32, 100, 41, 59, 10, 9, 114, 101, 108, 32, 113, 32, 40, 97, 44, 32, 97, 44, 32, 97, 41, 58, 59, 10, 125, 10] := by decide +kernel
theorem T8_small : ∀ t ∈ T8, t.name.size ≤ 1000 ∧ t.rels.length ≤ 1000000 ∧ ∀ x ∈ t.rels, (x.name.size ≤ 1000 ∧ x.view.size ≤ 1000 ∧ x.edit.size ≤ 1000 ∧ x.check.size ≤ 1000 ∧ (x.subs.length ≤ 100000 ∧ ∀ s ∈ x.subs, s.1.size ≤ 1000 ∧ s.2.size ≤ 1000) ∧ (x.ops.length ≤ 100000 ∧ ∀ o ∈ x.ops, o.2.1.size ≤ 1000 ∧ o.2.2.size ≤ 1000)) := by decide +kernel
theorem T8_sml : ∀ t ∈ T8, SmlT t := fun t ht =>
  have h := T8_small t ht
  ⟨h.1, h.2.1, fun x hx => have h := h.2.2 x hx; ⟨h.1, h.2.1, h.2.2.1, h.2.2.2.1, h.2.2.2.2.1, h.2.2.2.2.2⟩⟩
set_option maxRecDepth 100000 in
set_option maxHeartbeats 2000000 in
theorem awake8_any (w : World) : Calls Try.prog 13 #[] w fun e w' => e = .returned (.bool true) ∧ Below w.heap.size w w' := by
  have kp := fun W => parse_named ex8 (by decide) ex8_says W
  unfold ex8 at kp
  go_enter Try.func13, Try.ntmps13
  go_wp2_with fail
  refine (kp w).mono ?_
  rintro e W1 ⟨⟨A, c, rfl, hv⟩, hb⟩
  have hx := Bk.new W1 #[.slice A T8.length c] 25
  have x0 := hx.cell 0
  have lx := hx.lt
  have hal : Below W1.heap.size W1 (W1.alloc (.cells #[.slice A T8.length c] 25)) := (Below.refl _ W1).alloc (Nat.le_refl _) _
  have hv2 := hv.below hal
  have hb2 := hb.alloc hb.size (.cells #[.slice A T8.length c] 25)
  clear hx hv hb
  go_wp2_with fail
  have ks := show_any8 hv2 (by decide) T8_sml (by rw [ex8_shown]; decide)
  rw [ex8_shown] at ks
  refine ks.mono ?_
  rintro e W2 ⟨rfl, hb3⟩
  have hb4 := hb2.trans (hb3.mono hb2.size)
  have kr := fun W c H => rewrite_any (w := W) (A := some ⟨W2.heap.size, 0, none⟩) (c := c) (l := [(3, ⟨#[97]⟩, ⟨#[98]⟩)]) H (by decide) (by decide +kernel)
  rw [via8] at kr
  have ho := out8_list
  clear ks hv2 hal x0 lx hb2 hb3 kp
  go_wp2_with fail
  refine (kr _ 1 (Rd.litX W2 #[.int .i64 3, .string ⟨#[97]⟩, .string ⟨#[98]⟩] 56 1 3 (ocells [(3, ⟨#[97]⟩, ⟨#[98]⟩)]) rfl rfl (by decide))).mono ?_
  rintro e W3 ⟨rfl, hb5⟩
  have hb6 := hb4.alloc hb4.size (.cells #[.int .i64 3, .string ⟨#[97]⟩, .string ⟨#[98]⟩] 56)
  have hb7 := hb6.trans (hb5.mono hb6.size)
  clear kr ho hb4 hb5 hb6
  go_wp2_with fail
  go_ret
  exact ⟨rfl, hb7⟩
end Go.Proofs.Ytkeonempmchpnaa
