/- Layer 7: a reader's small calls: the first token, whether it is a key or a sign or a name, and passing it. Conditions: none. -/
import Derived.Test.YtdndncodpepdfaaRead
namespace Go.Proofs.Ytdndncodpepdfaa
open Go.RowKit

section
variable {w : World} {g : Nat} {l : List Tk}
theorem cell_alloc {w : World} {a : Addr} {v : Value} (h : w.cell? a = some v) (o : Obj) : (w.alloc o).cell? a = some v := by
  rw [World.cell?_alloc_lt w o a (World.block_lt_of_cell? w _ h)]; exact h
theorem first_any (h : Rdr w g l) : Calls Try.prog 44 #[.pointer (some ⟨g, 0, none⟩)] w fun e w' => e = .returned (.agg #[.int .i64 (hdT l).1, .string (hdT l).2.1, .int .i64 (hdT l).2.2]) ∧ Below w.heap.size w w' := by
  obtain ⟨A, c, h⟩ := h
  have c0 := cell_alloc h.c0
  obtain ⟨b, o, rfl, hl, x0, x1, x2⟩ := h.first
  replace x0 := cell_alloc x0
  replace x1 := cell_alloc x1
  replace x2 := cell_alloc x2
  clear h
  go_enter Try.func44, Try.ntmps44
  go_wp2
  refine bodyPost_ret (v := _) (by simp [results, Try.results44, go_sem]; try rfl) rfl ?_
  exact ⟨rfl, (Below.refl _ w).alloc (Nat.le_refl _) _⟩
set_option maxRecDepth 100000 in
theorem pass_any (h : Rdr w g l) (hf : Fine l.tail) : Calls Try.prog 61 #[.pointer (some ⟨g, 0, none⟩)] w fun e w' => e = .returned (.tuple #[]) ∧ Rdr w' g l.tail ∧ Kp g w.heap.size w w' := by
  obtain ⟨A, c, h⟩ := h
  have c0 := h.c0
  have fz := h.fz
  obtain ⟨b, o, rfl, hl, _⟩ := h.first
  have hs := h.step hf
  have hc := h.toks.cap
  have hm := h.toks.capm
  unfold maxLen at hm
  clear h
  by_cases h1 : c = 1
  · subst h1
    simp only [if_true, show l.length - 1 = 0 by omega, Nat.sub_self] at hs
    have HS := Lib.hid hs
    clear hs
    go_enter Try.func61, Try.ntmps61
    go_wp2
    go_returns
    exact ⟨rfl, HS.out⟩
  · simp only [if_neg h1, Option.map_some, Addr.add_lit] at hs
    have HS := Lib.hid hs
    clear hs
    go_enter Try.func61, Try.ntmps61
    go_wp2
    go_returns
    exact ⟨rfl, HS.out⟩
theorem tok_f0 (x y z : Value) (W : World) : (Instr.field 102 (.agg #[x, y, z]) 0).run Try.prog W = .ok x W := by kernel_rfl
theorem tok_f1 (x y z : Value) (W : World) : (Instr.field 102 (.agg #[x, y, z]) 1).run Try.prog W = .ok y W := by kernel_rfl
theorem tok_f2 (x y z : Value) (W : World) : (Instr.field 102 (.agg #[x, y, z]) 2).run Try.prog W = .ok z W := by kernel_rfl
set_option maxRecDepth 100000 in
theorem may_yes (h : Rdr w g l) {s : ByteArray} (hs : 0 < s.size) (e : (hdT l).2.1 = s) : Calls Try.prog 54 #[.pointer (some ⟨g, 0, none⟩), .string s] w fun e w' => e = .returned (.bool true) ∧ Rdr w' g l.tail ∧ Kp g w.heap.size w w' := by
  have hf := h.fine.next hs e
  have e1 : ((hdT l).2.1.toList == s.toList) = true := by rw [list_dec]; exact decide_eq_true e
  generalize hx : (hdT l).2.1 = x at *
  have f1 := tok_f1
  go_enter Try.func54, Try.ntmps54
  go_wp2_with (first
    | ((with_reducible refine (first_any h).mono ?_); rintro e w1 ⟨rfl, hb⟩; rw [hx])
    | ((with_reducible refine (pass_any (h.below hb) hf).mono ?_); rintro e w2 ⟨rfl, h2, hk⟩))
  go_returns
  exact ⟨rfl, h2, (Kp.of_below hb g).trans (hk.more hb.size)⟩
set_option maxRecDepth 100000 in
theorem may_no (h : Rdr w g l) {s : ByteArray} (e : ¬ (hdT l).2.1 = s) : Calls Try.prog 54 #[.pointer (some ⟨g, 0, none⟩), .string s] w fun e w' => e = .returned (.bool false) ∧ Below w.heap.size w w' := by
  have e1 : ((hdT l).2.1.toList == s.toList) = false := by rw [list_dec]; exact decide_eq_false e
  generalize hx : (hdT l).2.1 = x at *
  have f1 := tok_f1
  go_enter Try.func54, Try.ntmps54
  go_wp2_with ((with_reducible refine (first_any h).mono ?_); rintro e w1 ⟨rfl, hb⟩; rw [hx])
  go_returns
  exact ⟨rfl, hb⟩
set_option maxRecDepth 100000 in
theorem stop_any (h : Rdr w g l) : Calls Try.prog 59 #[.pointer (some ⟨g, 0, none⟩)] w fun e w' => e = faultE 30 (hdT l).2.2 ∧ Below w.heap.size w w' := by
  have f2 := tok_f2
  go_enter Try.func59, Try.ntmps59
  go_wp2_with ((with_reducible refine (first_any h).mono ?_); rintro e w1 ⟨rfl, hb⟩)
  exact ⟨rfl, rfl, hb⟩
end
end Go.Proofs.Ytdndncodpepdfaa
