/- Layer 7: a reader's small calls: the first token, whether it is a key or a sign or a name, and passing it. Conditions: none. -/
import Derived.Test.YtinfbimfiaegdaaRead
namespace Go.Proofs.Ytinfbimfiaegdaa
open Go.RowKit

section
variable {w : World} {g : Nat} {l : List Tk}
theorem cell_alloc {w : World} {a : Addr} {v : Value} (h : w.cell? a = some v) (o : Obj) : (w.alloc o).cell? a = some v := by
  rw [World.cell?_alloc_lt w o a (World.block_lt_of_cell? w _ h)]; exact h
theorem first_any (h : Rdr w g l) : Calls Try.prog 54 #[.pointer (some ⟨g, 0, none⟩)] w fun e w' => e = .returned (.agg #[.int .i64 (hdT l).1, .string (hdT l).2.1, .int .i64 (hdT l).2.2]) ∧ Below w.heap.size w w' := by
  obtain ⟨A, c, h⟩ := h
  have c0 := cell_alloc h.c0
  obtain ⟨b, o, rfl, hl, x0, x1, x2⟩ := h.first
  replace x0 := cell_alloc x0
  replace x1 := cell_alloc x1
  replace x2 := cell_alloc x2
  clear h
  go_enter Try.func54, Try.ntmps54
  go_wp2
  refine bodyPost_ret (v := _) (by simp [results, Try.results54, go_sem]; try rfl) rfl ?_
  exact ⟨rfl, (Below.refl _ w).alloc (Nat.le_refl _) _⟩
set_option maxRecDepth 100000 in
theorem pass_any (h : Rdr w g l) (hf : Fine l.tail) : Calls Try.prog 83 #[.pointer (some ⟨g, 0, none⟩)] w fun e w' => e = .returned (.tuple #[]) ∧ Rdr w' g l.tail ∧ Kp g w.heap.size w w' := by
  obtain ⟨A, c, h⟩ := h
  have c0 := h.c0
  have fz := h.fz
  obtain ⟨b, o, rfl, hl, _⟩ := h.first
  have hs := h.step hf
  have hc := h.toks.cap
  have hm := h.toks.capm
  unfold maxLen at hm
  clear h
  by_cases h1 : c = 1
  · subst h1
    simp only [if_true, show l.length - 1 = 0 by omega, Nat.sub_self] at hs
    have HS := Lib.hid hs
    clear hs
    go_enter Try.func83, Try.ntmps83
    go_wp2
    go_returns
    exact ⟨rfl, HS.out⟩
  · simp only [if_neg h1, Option.map_some, Addr.add_lit] at hs
    have HS := Lib.hid hs
    clear hs
    go_enter Try.func83, Try.ntmps83
    go_wp2
    go_returns
    exact ⟨rfl, HS.out⟩
theorem tok_f0 (x y z : Value) (W : World) : (Instr.field 122 (.agg #[x, y, z]) 0).run Try.prog W = .ok x W := by kernel_rfl
theorem tok_f1 (x y z : Value) (W : World) : (Instr.field 122 (.agg #[x, y, z]) 1).run Try.prog W = .ok y W := by kernel_rfl
theorem tok_f2 (x y z : Value) (W : World) : (Instr.field 122 (.agg #[x, y, z]) 2).run Try.prog W = .ok z W := by kernel_rfl
set_option maxRecDepth 100000 in
theorem may_yes (h : Rdr w g l) {s : ByteArray} (hs : 0 < s.size) (e : (hdT l).2.1 = s) : Calls Try.prog 66 #[.pointer (some ⟨g, 0, none⟩), .string s] w fun e w' => e = .returned (.bool true) ∧ Rdr w' g l.tail ∧ Kp g w.heap.size w w' := by
  have hf := h.fine.next hs e
  have e1 : ((hdT l).2.1.toList == s.toList) = true := by rw [list_dec]; exact decide_eq_true e
  generalize hx : (hdT l).2.1 = x at *
  have f1 := tok_f1
  go_enter Try.func66, Try.ntmps66
  go_wp2_with (first
    | ((with_reducible refine (first_any h).mono ?_); rintro e w1 ⟨rfl, hb⟩; rw [hx])
    | ((with_reducible refine (pass_any (h.below hb) hf).mono ?_); rintro e w2 ⟨rfl, h2, hk⟩))
  go_returns
  exact ⟨rfl, h2, (Kp.of_below hb g).trans (hk.more hb.size)⟩
set_option maxRecDepth 100000 in
theorem may_no (h : Rdr w g l) {s : ByteArray} (e : ¬ (hdT l).2.1 = s) : Calls Try.prog 66 #[.pointer (some ⟨g, 0, none⟩), .string s] w fun e w' => e = .returned (.bool false) ∧ Below w.heap.size w w' := by
  have e1 : ((hdT l).2.1.toList == s.toList) = false := by rw [list_dec]; exact decide_eq_false e
  generalize hx : (hdT l).2.1 = x at *
  have f1 := tok_f1
  go_enter Try.func66, Try.ntmps66
  go_wp2_with ((with_reducible refine (first_any h).mono ?_); rintro e w1 ⟨rfl, hb⟩; rw [hx])
  go_returns
  exact ⟨rfl, hb⟩
set_option maxRecDepth 100000 in
theorem stop_any (h : Rdr w g l) : Calls Try.prog 81 #[.pointer (some ⟨g, 0, none⟩)] w fun e w' => e = faultE 30 (hdT l).2.2 ∧ Below w.heap.size w w' := by
  have f2 := tok_f2
  go_enter Try.func81, Try.ntmps81
  go_wp2_with ((with_reducible refine (first_any h).mono ?_); rintro e w1 ⟨rfl, hb⟩)
  exact ⟨rfl, rfl, hb⟩
end
end Go.Proofs.Ytinfbimfiaegdaa
/- Layer 7: what a reader must find: a key or a sign, a name; and which operation a sign is. Conditions: none. -/
namespace Go.Proofs.Ytinfbimfiaegdaa
open Go.RowKit

section
variable {w : World} {g : Nat} {l : List Tk}
theorem need_yes {l : List Tk} (hf : Fine l) {s : ByteArray} (hs : Ask s) (h : (hdT l).2.1 = s) : needT s l = .ok ((), l.tail) := by unfold needT; rw [hf.isT hs, decide_eq_true h]; rfl
theorem need_no {l : List Tk} (hf : Fine l) {s : ByteArray} (hs : Ask s) (h : ¬ (hdT l).2.1 = s) : needT s l = .error (30, (hdT l).2.2) := by unfold needT; rw [hf.isT hs, decide_eq_false h]; rfl
set_option maxRecDepth 100000 in
theorem must_any (h : Rdr w g l) {s : ByteArray} (hs : Ask s) : Calls Try.prog 64 #[.pointer (some ⟨g, 0, none⟩), .string s] w (Post VUnit w.heap.size w g (needT s l)) := by
  by_cases e : (hdT l).2.1 = s
  · rw [need_yes h.fine hs e]
    have k := may_yes h hs.1 e
    clear e
    go_enter Try.func64, Try.ntmps64
    go_wp2_with ((with_reducible refine k.mono ?_); rintro e w1 ⟨rfl, h1, hk⟩)
    go_returns
    exact Post.ok hk rfl h1
  · rw [need_no h.fine hs e]
    have k := may_no h e
    clear e
    go_enter Try.func64, Try.ntmps64
    go_wp2_with (first
      | ((with_reducible refine k.mono ?_); rintro e w1 ⟨rfl, hb⟩)
      | ((with_reducible refine (stop_any (h.below hb)).mono ?_); rintro e w2 ⟨rfl, hb2⟩))
    refine ⟨rfl, ?_⟩
    exact Post.bad ((Kp.of_below hb g).trans (Kp.of_below (hb2.mono hb.size) g)) _ _
set_option maxRecDepth 100000 in
theorem atName_any (h : Rdr w g l) : Calls Try.prog 82 #[.pointer (some ⟨g, 0, none⟩)] w fun e w' => e = .returned (.bool (decide ((hdT l).1 = 1) && !keyB (hdT l).2.1)) ∧ Below w.heap.size w w' := by
  have f0 := tok_f0
  have f1 := tok_f1
  have kk : ∀ W, _ := fun W => key_any (hdT l).2.1 W
  have kf : ∀ W, Rdr W g l → _ := fun W H => first_any (w := W) H
  by_cases h1 : (hdT l).1 = 1
  · have d1 : ((((hdT l).1 : Nat) : Int) == 1) = true := by rw [beq_iff_eq]; omega
    rw [decide_eq_true h1, Bool.true_and]
    generalize (hdT l).2.1 = x at *
    generalize (hdT l).2.2 = y at *
    generalize (hdT l).1 = z at *
    generalize keyB x = b at *
    clear h1
    cases b
    all_goals (
      go_enter Try.func82, Try.ntmps82
      go_wp2_with (first
        | ((with_reducible refine (kf _ h).mono ?_); rintro e w1 ⟨rfl, hb⟩)
        | ((with_reducible refine (kk _).mono ?_); rintro e w2 ⟨rfl, rfl⟩))
      go_returns
      exact ⟨rfl, hb.alloc hb.size _⟩)
  · have d1 : ((((hdT l).1 : Nat) : Int) == 1) = false := by rw [beq_eq_false_iff_ne]; omega
    rw [decide_eq_false h1, Bool.false_and]
    generalize (hdT l).2.1 = x at *
    generalize (hdT l).2.2 = y at *
    generalize (hdT l).1 = z at *
    clear h1 kk
    go_enter Try.func82, Try.ntmps82
    go_wp2_with ((with_reducible refine (kf _ h).mono ?_); rintro e w1 ⟨rfl, hb⟩)
    go_returns
    exact ⟨rfl, hb.alloc hb.size _⟩
theorem name_yes {l : List Tk} (h : (decide ((hdT l).1 = 1) && !keyB (hdT l).2.1) = true) : nameT l = .ok ((hdT l).2.1, l.tail) := by
  unfold nameT
  refine if_pos ?_
  simpa using h
theorem name_no {l : List Tk} (h : (decide ((hdT l).1 = 1) && !keyB (hdT l).2.1) = false) : nameT l = .error (30, (hdT l).2.2) := by
  unfold nameT
  refine if_neg ?_
  intro ⟨h1, h2⟩
  rw [decide_eq_true h1, h2] at h
  cases h
theorem name_fine {l : List Tk} (hf : Fine l) (h : (decide ((hdT l).1 = 1) && !keyB (hdT l).2.1) = true) : Fine l.tail := by
  refine hf.tail ?_
  simp only [Bool.and_eq_true, decide_eq_true_eq] at h
  omega
set_option maxRecDepth 100000 in
theorem rname_any (h : Rdr w g l) : Calls Try.prog 65 #[.pointer (some ⟨g, 0, none⟩)] w (Post VStr w.heap.size w g (nameT l)) := by
  have f1 := tok_f1
  have ka := atName_any h
  cases hb : (decide ((hdT l).1 = 1) && !keyB (hdT l).2.1) with
  | false =>
    rw [name_no hb]
    rw [hb] at ka
    go_enter Try.func65, Try.ntmps65
    go_wp2_with (first
      | ((with_reducible refine ka.mono ?_); rintro e w1 ⟨rfl, hb⟩)
      | ((with_reducible refine (stop_any (h.below hb)).mono ?_); rintro e w2 ⟨rfl, hb2⟩))
    refine ⟨rfl, ?_⟩
    exact Post.bad ((Kp.of_below hb g).trans (Kp.of_below (hb2.mono hb.size) g)) _ _
  | true =>
    rw [name_yes hb]
    rw [hb] at ka
    have hf := name_fine h.fine hb
    clear hb
    have kf : ∀ W, Rdr W g l → _ := fun W H => first_any (w := W) H
    have kp : ∀ W, Rdr W g l → _ := fun W H => pass_any (w := W) H hf
    have HV : ∀ w', Rdr w' g l.tail → Kp g w.heap.size w w' → Hid (Post VStr w.heap.size w g (.ok ((hdT l).2.1, l.tail)) (.returned (.string (hdT l).2.1)) w') := fun w' h1 h2 => Lib.hid (Post.ok h2 rfl h1)
    generalize Post VStr w.heap.size w g (.ok ((hdT l).2.1, l.tail)) = R at *
    generalize (hdT l).2.1 = x at *
    go_enter Try.func65, Try.ntmps65
    go_wp2_with (first
      | ((with_reducible refine ka.mono ?_); rintro e w1 ⟨rfl, hb⟩)
      | ((with_reducible refine (kf _ (h.below hb)).mono ?_); rintro e w2 ⟨rfl, hb2⟩)
      | ((with_reducible refine (kp _ ((h.below hb).below hb2)).mono ?_); rintro e w3 ⟨rfl, h3, hk⟩))
    exact (HV _ h3 ((Kp.of_below (hb.trans (hb2.mono hb.size)) g).trans (hk.more (Nat.le_trans hb.size hb2.size)))).out
/-- Which operation a sign's text is. -/
def joinS (x : ByteArray) : Nat := if x = ⟨#[124]⟩ then 4 else if x = ⟨#[38]⟩ then 5 else if x = ⟨#[45]⟩ then 6 else 0
set_option maxHeartbeats 1000000 in
theorem joins_any (x : ByteArray) (w : World) : Calls Try.prog 101 #[.string x] w fun e w' => e = .returned (.tuple #[.int .i64 (joinS x), .bool (!decide (joinS x = 0))]) ∧ w' = w := by
  have e1 := list_dec x ⟨#[124]⟩
  have e2 := list_dec x ⟨#[38]⟩
  have e3 := list_dec x ⟨#[45]⟩
  rw [show (⟨#[124]⟩ : ByteArray).toList = [124] by decide +kernel] at e1
  rw [show (⟨#[38]⟩ : ByteArray).toList = [38] by decide +kernel] at e2
  rw [show (⟨#[45]⟩ : ByteArray).toList = [45] by decide +kernel] at e3
  have HJ : Hid (joinS x = if decide (x = ⟨#[124]⟩) = true then 4 else if decide (x = ⟨#[38]⟩) = true then 5 else if decide (x = ⟨#[45]⟩) = true then 6 else 0) := Lib.hid (by unfold joinS; simp only [decide_eq_true_eq])
  generalize decide (x = ⟨#[124]⟩) = d1 at *
  generalize decide (x = ⟨#[38]⟩) = d2 at *
  generalize decide (x = ⟨#[45]⟩) = d3 at *
  generalize joinS x = J at *
  go_enter Try.func101, Try.ntmps101
  cases d1 <;> cases d2 <;> cases d3
  all_goals go_wp2
  all_goals go_returns
  all_goals (refine ⟨?_, rfl⟩; rw [HJ.out]; rfl)
theorem join_op {l : List Tk} (hf : Fine l) : joinS (hdT l).2.1 = opT l := by
  have a1 : Ask (sg 124) := ⟨by decide, .inr ⟨124, by decide, rfl⟩⟩
  have a2 : Ask (sg 38) := ⟨by decide, .inr ⟨38, by decide, rfl⟩⟩
  have a3 : Ask (sg 45) := ⟨by decide, .inr ⟨45, by decide, rfl⟩⟩
  unfold opT joinS
  rw [hf.isT a1, hf.isT a2, hf.isT a3]
  show _ = if decide ((hdT l).2.1 = ⟨#[124]⟩) = true then 4 else if decide ((hdT l).2.1 = ⟨#[38]⟩) = true then 5 else if decide ((hdT l).2.1 = ⟨#[45]⟩) = true then 6 else 0
  by_cases e1 : (hdT l).2.1 = ⟨#[124]⟩
  · rw [if_pos e1, if_pos (decide_eq_true e1)]
  · rw [if_neg e1, if_neg (fun h => e1 (of_decide_eq_true h))]
    by_cases e2 : (hdT l).2.1 = ⟨#[38]⟩
    · rw [if_pos e2, if_pos (decide_eq_true e2)]
    · rw [if_neg e2, if_neg (fun h => e2 (of_decide_eq_true h))]
      by_cases e3 : (hdT l).2.1 = ⟨#[45]⟩
      · rw [if_pos e3, if_pos (decide_eq_true e3)]
      · rw [if_neg e3, if_neg (fun h => e3 (of_decide_eq_true h))]
end
end Go.Proofs.Ytinfbimfiaegdaa
