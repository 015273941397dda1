/- Key, called. Conditions: none. -/
import Derived.Test.YteafdhpcnpfmkaaGreatScan
import Derived.Recover
import Derived.Test.YteafdhpcnpfmkaaGreatParseP
namespace Go.Proofs.YteafdhpcnpfmkaaGreat
open Go.RowKit

theorem list_dec (x y : ByteArray) : (x.toList == y.toList) = decide (x = y) := toList_inj
set_option maxHeartbeats 1000000 in
theorem key_any (s : ByteArray) (w : World) : Calls Tryz.prog 190 #[.string s] w fun e w' => e = .returned (.bool (keyB s)) ∧ w' = w := by
  have e1 := list_dec s ⟨#[116, 121, 112, 101]⟩
  have e2 := list_dec s ⟨#[114, 101, 108]⟩
  have e3 := list_dec s ⟨#[105, 115]⟩
  have e4 := list_dec s ⟨#[116, 104, 105, 115]⟩
  rw [show (⟨#[116, 121, 112, 101]⟩ : ByteArray).toList = [116, 121, 112, 101] by decide +kernel] at e1
  rw [show (⟨#[114, 101, 108]⟩ : ByteArray).toList = [114, 101, 108] by decide +kernel] at e2
  rw [show (⟨#[105, 115]⟩ : ByteArray).toList = [105, 115] by decide +kernel] at e3
  rw [show (⟨#[116, 104, 105, 115]⟩ : ByteArray).toList = [116, 104, 105, 115] by decide +kernel] at e4
  have HK : Hid (keyB s = (decide (s = ⟨#[116, 121, 112, 101]⟩) || decide (s = ⟨#[114, 101, 108]⟩) || decide (s = ⟨#[105, 115]⟩) || decide (s = ⟨#[116, 104, 105, 115]⟩))) := Lib.hid (by unfold keyB; rw [Bool.eq_iff_iff]; simp [or_assoc])
  generalize decide (s = ⟨#[116, 121, 112, 101]⟩) = d1 at *
  generalize decide (s = ⟨#[114, 101, 108]⟩) = d2 at *
  generalize decide (s = ⟨#[105, 115]⟩) = d3 at *
  generalize decide (s = ⟨#[116, 104, 105, 115]⟩) = d4 at *
  go_enter Tryz.func190, Tryz.ntmps190
  cases d1 <;> cases d2 <;> cases d3 <;> cases d4
  all_goals go_wp2
  all_goals go_ret
  all_goals (refine ⟨?_, rfl⟩; rw [HK.out]; rfl)

theorem chain {B : Nat} {w w1 w2 : World} (h : Hid (Below B w w1)) (hB : B ≤ w1.heap.size) (k : Below w1.heap.size w1 w2) : Hid (Below B w w2) ∧ B ≤ w2.heap.size :=
  ⟨Lib.hid (h.out.trans (k.mono hB)), Nat.le_trans hB k.size⟩
end Go.Proofs.YteafdhpcnpfmkaaGreat
/- Layer 7: what memory holds of a reader of tokens, and how its calls end: with a value and the tokens that are left, or with a fault. Conditions: none. -/
namespace Go.Proofs.YteafdhpcnpfmkaaGreat
open Go.RowKit

/-- Tokens up to the end, which is the last one alone; a word isn't a sign. -/
def Fine (l : List Tk) : Prop := l.length ≤ 1000000 ∧ ∃ init p, l = init ++ [(3, ⟨#[]⟩, p)] ∧ ∀ t ∈ init, t.1 = 2 ∨ (t.1 = 1 ∧ ∀ c : UInt8, signB c.toNat = true → t.2.1 ≠ sg c)
theorem Fine.cons {l : List Tk} (h : Fine l) : ∃ t r, l = t :: r := by
  obtain ⟨_, init, p, rfl, _⟩ := h
  cases init with
  | nil => exact ⟨_, _, rfl⟩
  | cons a r => exact ⟨_, _, rfl⟩
theorem Fine.tail {l : List Tk} (h : Fine l) (h3 : (hdT l).1 ≠ 3) : Fine l.tail := by
  obtain ⟨hl, init, p, rfl, hi⟩ := h
  cases init with
  | nil => exact absurd rfl h3
  | cons a r => exact ⟨by rw [List.length_tail]; omega, r, p, rfl, fun t ht => hi t (List.mem_cons_of_mem _ ht)⟩
theorem Fine.hd {l : List Tk} (h : Fine l) : (hdT l).1 = 2 ∨ ((hdT l).1 = 1 ∧ ∀ c : UInt8, signB c.toNat = true → (hdT l).2.1 ≠ sg c) ∨ ((hdT l).1 = 3 ∧ (hdT l).2.1 = ⟨#[]⟩) := by
  obtain ⟨_, init, p, rfl, hi⟩ := h
  cases init with
  | nil => exact .inr (.inr ⟨rfl, rfl⟩)
  | cons a r => rcases hi a (List.mem_cons_self) with h | h
                · exact .inl h
                · exact .inr (.inl h)
/-- What a reader may ask for: a key, or a sign. -/
def Ask (s : ByteArray) : Prop := 0 < s.size ∧ (keyB s = true ∨ ∃ c : UInt8, signB c.toNat = true ∧ s = sg c)
theorem Fine.isT {l : List Tk} (h : Fine l) {s : ByteArray} (hs : Ask s) : isT s l = decide ((hdT l).2.1 = s) := by
  unfold Go.Proofs.YteafdhpcnpfmkaaGreat.isT
  by_cases e : (hdT l).2.1 = s
  · rw [decide_eq_true e]
    refine decide_eq_true ⟨e, ?_⟩
    rcases hs.2 with hk | ⟨c, hc, rfl⟩
    · exact .inr hk
    · rcases h.hd with h2 | ⟨_, h1⟩ | ⟨_, h3⟩
      · exact .inl h2
      · exact absurd e (h1 c hc)
      · rw [h3] at e
        have := congrArg ByteArray.size e
        rw [show (sg c).size = 1 from rfl, show (⟨#[]⟩ : ByteArray).size = 0 from rfl] at this
        omega
  · rw [decide_eq_false e]
    exact decide_eq_false fun h => e h.1
theorem Fine.next {l : List Tk} (h : Fine l) {s : ByteArray} (hs : 0 < s.size) (e : (hdT l).2.1 = s) : Fine l.tail := by
  refine h.tail fun h3 => ?_
  rcases h.hd with h2 | ⟨h1, _⟩ | ⟨_, h0⟩
  · omega
  · omega
  · rw [h0] at e
    subst e
    exact absurd hs (by decide)

/-- A reader, at the block g: the tokens l are left. -/
structure RdAt (w : World) (g : Nat) (l : List Tk) (A : Option Addr) (c : Nat) : Prop where
  cells : w.heap[g]? = some (.cells #[.slice A l.length c] 185 (0, 0))
  toks : Rd w g 3 A l.length c (tcells l)
  fine : Fine l
def Rdr (w : World) (g : Nat) (l : List Tk) : Prop := ∃ A c, RdAt w g l A c
section
variable {w w' : World} {g : Nat} {l : List Tk} {A : Option Addr} {c : Nat}
theorem RdAt.size (h : RdAt w g l A c) : g < w.heap.size := (Array.getElem?_eq_some_iff.1 h.cells).1
theorem Rdr.size (h : Rdr w g l) : g < w.heap.size := by obtain ⟨A, c, h⟩ := h; exact h.size
theorem Rdr.fine (h : Rdr w g l) : Fine l := by obtain ⟨A, c, h⟩ := h; exact h.fine
theorem RdAt.c0 (h : RdAt w g l A c) : w.cell? ⟨g, 0, none⟩ = some (.slice A l.length c) := by rw [cell_of_row _ _ _ _ _ _ h.cells]; rfl
theorem RdAt.fz (h : RdAt w g l A c) : w.frozen? ⟨g, 0, none⟩ = false := by simp [World.frozen?, h.cells]
theorem RdAt.first (h : RdAt w g l A c) : ∃ b o, A = some ⟨b, o, none⟩ ∧ 0 < l.length ∧ w.cell? ⟨b, o, none⟩ = some (.int .i64 (hdT l).1) ∧ w.cell? ⟨b, o + 1, none⟩ = some (.string (hdT l).2.1) ∧ w.cell? ⟨b, o + 2, none⟩ = some (.int .i64 (hdT l).2.2) := by
  obtain ⟨t, r, rfl⟩ := h.fine.cons
  obtain ⟨b, o, e, _, hc⟩ := h.toks.at_ (by simp)
  exact ⟨b, o, e, by simp, hc 0 _ rfl, hc 1 _ rfl, hc 2 _ rfl⟩
/-- What only touches new blocks, and others than the reader's. -/
theorem Rdr.keep (h : Rdr w g l) (hb : ∀ k, k ≤ g → w'.heap[k]? = w.heap[k]?) : Rdr w' g l := by
  obtain ⟨A, c, h⟩ := h
  refine ⟨A, c, (hb g (Nat.le_refl _)).trans h.cells, h.toks.keep fun p hp => ?_, h.fine⟩
  have := hb p.block (by omega)
  unfold World.cell?
  rw [this]
theorem Rdr.below (h : Rdr w g l) (hb : Below w.heap.size w w') : Rdr w' g l := h.keep fun k hk => hb.block k (by have := h.size; omega)
theorem Rdr.drew (h : Rdr w g l) : Rdr w.drew g l := h.keep fun _ _ => rfl
theorem RdAt.step (h : RdAt w g l A c) (hf : Fine l.tail) : Rdr (w.setCell ⟨g, 0, none⟩ (.slice (if c = 1 then A else A.map (·.add 3)) (l.length - 1) (c - 1))) g l.tail ∧ Kp g w.heap.size w (w.setCell ⟨g, 0, none⟩ (.slice (if c = 1 then A else A.map (·.add 3)) (l.length - 1) (c - 1))) := by
  have hl : 1 ≤ l.length := by obtain ⟨_, _, _, h1, _⟩ := h.first; exact h1
  have ht := h.toks.cut hl
  have e : (tcells l).drop (1 * 3) = tcells l.tail := by
    obtain ⟨t, r, rfl⟩ := h.fine.cons
    rfl
  rw [e] at ht
  have hll : l.tail.length = l.length - 1 := List.length_tail
  refine ⟨⟨if c = 1 then A else A.map (·.add 3), c - 1, ?_, ?_, hf⟩, ?_⟩
  · rw [hll]
    simp [World.setCell, Array.getElem?_modify, h.cells]
  · rw [hll]
    refine ht.keep fun p hp => ?_
    have := Below.heap_setCell w ⟨g, 0, none⟩ (.slice (if c = 1 then A else A.map (·.add 3)) (l.length - 1) (c - 1)) p.block (by show p.block ≠ g; omega)
    unfold World.cell?
    rw [this]
  · exact ⟨rfl, rfl, rfl, by simp [World.setCell], fun k _ hn => Below.heap_setCell _ _ _ _ hn⟩
end

/-- How many tokens are left, as memory tells it. -/
def left (w : World) (g : Nat) : Nat := match w.cell? ⟨g, 0, none⟩ with
  | some (.slice _ n _) => n
  | _ => 0
theorem Rdr.left {w : World} {g : Nat} {l : List Tk} (h : Rdr w g l) : left w g = l.length := by
  obtain ⟨A, c, h⟩ := h
  unfold Go.Proofs.YteafdhpcnpfmkaaGreat.left
  rw [h.c0]
theorem Rdr.few {w : World} {g : Nat} {l : List Tk} (h : Rdr w g l) : l.length ≤ 1000000 := h.fine.1
/-- A fault, thrown. -/
abbrev faultE (c p : Nat) : Ending := .panicked [{ v := .iface 181 (.agg #[.int .i64 c, .int .i64 p]), recovered := false }]
/-- How a reader's call ends. -/
def Post {α : Type} (V : World → Value → α → Prop) (B : Nat) (w : World) (g : Nat) (r : Rs α) (e : Ending) (w' : World) : Prop :=
  Kp g B w w' ∧ match r with
    | .error c => e = faultE c.1 c.2
    | .ok a => ∃ v, e = .returned v ∧ V w' v a.1 ∧ Rdr w' g a.2
section
variable {α β : Type} {V : World → Value → α → Prop} {U : World → Value → β → Prop} {B B' : Nat} {w w1 w' : World} {g : Nat} {r : Rs α} {e : Ending}
theorem Post.ok {a : α} {l : List Tk} {v : Value} (hk : Kp g B w w') (hv : V w' v a) (hr : Rdr w' g l) : Post V B w g (.ok (a, l)) (.returned v) w' := ⟨hk, v, rfl, hv, hr⟩
theorem Post.bad (hk : Kp g B w w') (c p : Nat) : Post V B w g (.error (c, p)) (faultE c p) w' := ⟨hk, rfl⟩
theorem Post.from_ (h : Post V B w1 g r e w') (hk : Kp g B' w w1) (hB : B' ≤ B) : Post V B' w g r e w' := ⟨hk.trans (h.1.more hB), h.2⟩
theorem Post.cases_ (h : Post V B w g r e w') : Kp g B w w' ∧ ((∃ c p, r = .error (c, p) ∧ e = faultE c p) ∨ ∃ a l v, r = .ok (a, l) ∧ e = .returned v ∧ V w' v a ∧ Rdr w' g l) := by
  obtain ⟨hk, h⟩ := h
  refine ⟨hk, ?_⟩
  cases r with
  | error c => exact .inl ⟨c.1, c.2, rfl, h⟩
  | ok a => obtain ⟨v, h1, h2, h3⟩ := h; exact .inr ⟨a.1, a.2, v, rfl, h1, h2, h3⟩
end
/-- Nothing is handed back. -/
def VUnit (_ : World) (v : Value) (_ : Unit) : Prop := v = .tuple #[]
/-- A text. -/
def VStr (_ : World) (v : Value) (s : ByteArray) : Prop := v = .string s
end Go.Proofs.YteafdhpcnpfmkaaGreat

/- Layer 7: a reader's small calls: the first token, whether it is a key or a sign or a name, and passing it. Conditions: none. -/
namespace Go.Proofs.YteafdhpcnpfmkaaGreat
open Go.RowKit

section
variable {w : World} {g : Nat} {l : List Tk}
theorem cell_alloc {w : World} {a : Addr} {v : Value} (h : w.cell? a = some v) (o : Obj) : (w.alloc o).cell? a = some v := by
  rw [World.cell?_alloc_lt w o a (World.block_lt_of_cell? w _ h)]; exact h
theorem first_any (h : Rdr w g l) : Calls Tryz.prog 125 #[.pointer (some ⟨g, 0, none⟩)] w fun e w' => e = .returned (.agg #[.int .i64 (hdT l).1, .string (hdT l).2.1, .int .i64 (hdT l).2.2]) ∧ Below w.heap.size w w' := by
  obtain ⟨A, c, h⟩ := h
  have c0 := cell_alloc h.c0
  obtain ⟨b, o, rfl, hl, x0, x1, x2⟩ := h.first
  replace x0 := cell_alloc x0
  replace x1 := cell_alloc x1
  replace x2 := cell_alloc x2
  clear h
  go_enter Tryz.func125, Tryz.ntmps125
  go_wp2
  refine bodyPost_ret (v := _) (by simp [results, Tryz.results125, go_sem]; try rfl) rfl ?_
  exact ⟨rfl, (Below.refl _ w).alloc (Nat.le_refl _) _⟩
set_option maxRecDepth 100000 in
theorem pass_any (h : Rdr w g l) (hf : Fine l.tail) : Calls Tryz.prog 178 #[.pointer (some ⟨g, 0, none⟩)] w fun e w' => e = .returned (.tuple #[]) ∧ Rdr w' g l.tail ∧ Kp g w.heap.size w w' := by
  obtain ⟨A, c, h⟩ := h
  have c0 := h.c0
  have fz := h.fz
  obtain ⟨b, o, rfl, hl, _⟩ := h.first
  have hs := h.step hf
  have hc := h.toks.cap
  have hm := h.toks.capm
  unfold maxLen at hm
  clear h
  by_cases h1 : c = 1
  · subst h1
    simp only [if_true, show l.length - 1 = 0 by omega, Nat.sub_self] at hs
    have HS := Lib.hid hs
    clear hs
    go_enter Tryz.func178, Tryz.ntmps178
    go_wp2
    go_returns
    exact ⟨rfl, HS.out⟩
  · simp only [if_neg h1, Option.map_some, Addr.add_lit] at hs
    have HS := Lib.hid hs
    clear hs
    go_enter Tryz.func178, Tryz.ntmps178
    go_wp2
    go_returns
    exact ⟨rfl, HS.out⟩
theorem tok_f0 (x y z : Value) (W : World) : (Instr.field 222 (.agg #[x, y, z]) 0).run Tryz.prog W = .ok x W := by kernel_rfl
theorem tok_f1 (x y z : Value) (W : World) : (Instr.field 222 (.agg #[x, y, z]) 1).run Tryz.prog W = .ok y W := by kernel_rfl
theorem tok_f2 (x y z : Value) (W : World) : (Instr.field 222 (.agg #[x, y, z]) 2).run Tryz.prog W = .ok z W := by kernel_rfl
set_option maxRecDepth 100000 in
theorem may_yes (h : Rdr w g l) {s : ByteArray} (hs : 0 < s.size) (e : (hdT l).2.1 = s) : Calls Tryz.prog 152 #[.pointer (some ⟨g, 0, none⟩), .string s] w fun e w' => e = .returned (.bool true) ∧ Rdr w' g l.tail ∧ Kp g w.heap.size w w' := by
  have hf := h.fine.next hs e
  have e1 : ((hdT l).2.1.toList == s.toList) = true := by rw [list_dec]; exact decide_eq_true e
  generalize hx : (hdT l).2.1 = x at *
  have f1 := tok_f1
  go_enter Tryz.func152, Tryz.ntmps152
  go_wp2_with (first
    | ((with_reducible refine (first_any h).mono ?_); rintro e w1 ⟨rfl, hb⟩; rw [hx])
    | ((with_reducible refine (pass_any (h.below hb) hf).mono ?_); rintro e w2 ⟨rfl, h2, hk⟩))
  go_returns
  exact ⟨rfl, h2, (Kp.of_below hb g).trans (hk.more hb.size)⟩
set_option maxRecDepth 100000 in
theorem may_no (h : Rdr w g l) {s : ByteArray} (e : ¬ (hdT l).2.1 = s) : Calls Tryz.prog 152 #[.pointer (some ⟨g, 0, none⟩), .string s] w fun e w' => e = .returned (.bool false) ∧ Below w.heap.size w w' := by
  have e1 : ((hdT l).2.1.toList == s.toList) = false := by rw [list_dec]; exact decide_eq_false e
  generalize hx : (hdT l).2.1 = x at *
  have f1 := tok_f1
  go_enter Tryz.func152, Tryz.ntmps152
  go_wp2_with ((with_reducible refine (first_any h).mono ?_); rintro e w1 ⟨rfl, hb⟩; rw [hx])
  go_returns
  exact ⟨rfl, hb⟩
set_option maxRecDepth 100000 in
theorem stop_any (h : Rdr w g l) : Calls Tryz.prog 176 #[.pointer (some ⟨g, 0, none⟩)] w fun e w' => e = faultE 30 (hdT l).2.2 ∧ Below w.heap.size w w' := by
  have f2 := tok_f2
  go_enter Tryz.func176, Tryz.ntmps176
  go_wp2_with ((with_reducible refine (first_any h).mono ?_); rintro e w1 ⟨rfl, hb⟩)
  exact ⟨rfl, rfl, hb⟩
end
end Go.Proofs.YteafdhpcnpfmkaaGreat
/- Layer 7: what a reader must find: a key or a sign, a name; and which operation a sign is. Conditions: none. -/
namespace Go.Proofs.YteafdhpcnpfmkaaGreat
open Go.RowKit

section
variable {w : World} {g : Nat} {l : List Tk}
theorem need_yes {l : List Tk} (hf : Fine l) {s : ByteArray} (hs : Ask s) (h : (hdT l).2.1 = s) : needT s l = .ok ((), l.tail) := by unfold needT; rw [hf.isT hs, decide_eq_true h]; rfl
theorem need_no {l : List Tk} (hf : Fine l) {s : ByteArray} (hs : Ask s) (h : ¬ (hdT l).2.1 = s) : needT s l = .error (30, (hdT l).2.2) := by unfold needT; rw [hf.isT hs, decide_eq_false h]; rfl
set_option maxRecDepth 100000 in
theorem must_any (h : Rdr w g l) {s : ByteArray} (hs : Ask s) : Calls Tryz.prog 150 #[.pointer (some ⟨g, 0, none⟩), .string s] w (Post VUnit w.heap.size w g (needT s l)) := by
  by_cases e : (hdT l).2.1 = s
  · rw [need_yes h.fine hs e]
    have k := may_yes h hs.1 e
    clear e
    go_enter Tryz.func150, Tryz.ntmps150
    go_wp2_with ((with_reducible refine k.mono ?_); rintro e w1 ⟨rfl, h1, hk⟩)
    go_returns
    exact Post.ok hk rfl h1
  · rw [need_no h.fine hs e]
    have k := may_no h e
    clear e
    go_enter Tryz.func150, Tryz.ntmps150
    go_wp2_with (first
      | ((with_reducible refine k.mono ?_); rintro e w1 ⟨rfl, hb⟩)
      | ((with_reducible refine (stop_any (h.below hb)).mono ?_); rintro e w2 ⟨rfl, hb2⟩))
    refine ⟨rfl, ?_⟩
    exact Post.bad ((Kp.of_below hb g).trans (Kp.of_below (hb2.mono hb.size) g)) _ _
set_option maxRecDepth 100000 in
theorem atName_any (h : Rdr w g l) : Calls Tryz.prog 177 #[.pointer (some ⟨g, 0, none⟩)] w fun e w' => e = .returned (.bool (decide ((hdT l).1 = 1) && !keyB (hdT l).2.1)) ∧ Below w.heap.size w w' := by
  have f0 := tok_f0
  have f1 := tok_f1
  have kk : ∀ W, _ := fun W => key_any (hdT l).2.1 W
  have kf : ∀ W, Rdr W g l → _ := fun W H => first_any (w := W) H
  by_cases h1 : (hdT l).1 = 1
  · have d1 : ((((hdT l).1 : Nat) : Int) == 1) = true := by rw [beq_iff_eq]; omega
    rw [decide_eq_true h1, Bool.true_and]
    generalize (hdT l).2.1 = x at *
    generalize (hdT l).2.2 = y at *
    generalize (hdT l).1 = z at *
    generalize keyB x = b at *
    clear h1
    cases b
    all_goals (
      go_enter Tryz.func177, Tryz.ntmps177
      go_wp2_with (first
        | ((with_reducible refine (kf _ h).mono ?_); rintro e w1 ⟨rfl, hb⟩)
        | ((with_reducible refine (kk _).mono ?_); rintro e w2 ⟨rfl, rfl⟩))
      go_returns
      exact ⟨rfl, hb.alloc hb.size _⟩)
  · have d1 : ((((hdT l).1 : Nat) : Int) == 1) = false := by rw [beq_eq_false_iff_ne]; omega
    rw [decide_eq_false h1, Bool.false_and]
    generalize (hdT l).2.1 = x at *
    generalize (hdT l).2.2 = y at *
    generalize (hdT l).1 = z at *
    clear h1 kk
    go_enter Tryz.func177, Tryz.ntmps177
    go_wp2_with ((with_reducible refine (kf _ h).mono ?_); rintro e w1 ⟨rfl, hb⟩)
    go_returns
    exact ⟨rfl, hb.alloc hb.size _⟩
theorem name_yes {l : List Tk} (h : (decide ((hdT l).1 = 1) && !keyB (hdT l).2.1) = true) : nameT l = .ok ((hdT l).2.1, l.tail) := by
  unfold nameT
  refine if_pos ?_
  simpa using h
theorem name_no {l : List Tk} (h : (decide ((hdT l).1 = 1) && !keyB (hdT l).2.1) = false) : nameT l = .error (30, (hdT l).2.2) := by
  unfold nameT
  refine if_neg ?_
  intro ⟨h1, h2⟩
  rw [decide_eq_true h1, h2] at h
  cases h
theorem name_fine {l : List Tk} (hf : Fine l) (h : (decide ((hdT l).1 = 1) && !keyB (hdT l).2.1) = true) : Fine l.tail := by
  refine hf.tail ?_
  simp only [Bool.and_eq_true, decide_eq_true_eq] at h
  omega
set_option maxRecDepth 100000 in
theorem rname_any (h : Rdr w g l) : Calls Tryz.prog 151 #[.pointer (some ⟨g, 0, none⟩)] w (Post VStr w.heap.size w g (nameT l)) := by
  have f1 := tok_f1
  have ka := atName_any h
  cases hb : (decide ((hdT l).1 = 1) && !keyB (hdT l).2.1) with
  | false =>
    rw [name_no hb]
    rw [hb] at ka
    go_enter Tryz.func151, Tryz.ntmps151
    go_wp2_with (first
      | ((with_reducible refine ka.mono ?_); rintro e w1 ⟨rfl, hb⟩)
      | ((with_reducible refine (stop_any (h.below hb)).mono ?_); rintro e w2 ⟨rfl, hb2⟩))
    refine ⟨rfl, ?_⟩
    exact Post.bad ((Kp.of_below hb g).trans (Kp.of_below (hb2.mono hb.size) g)) _ _
  | true =>
    rw [name_yes hb]
    rw [hb] at ka
    have hf := name_fine h.fine hb
    clear hb
    have kf : ∀ W, Rdr W g l → _ := fun W H => first_any (w := W) H
    have kp : ∀ W, Rdr W g l → _ := fun W H => pass_any (w := W) H hf
    have HV : ∀ w', Rdr w' g l.tail → Kp g w.heap.size w w' → Hid (Post VStr w.heap.size w g (.ok ((hdT l).2.1, l.tail)) (.returned (.string (hdT l).2.1)) w') := fun w' h1 h2 => Lib.hid (Post.ok h2 rfl h1)
    generalize Post VStr w.heap.size w g (.ok ((hdT l).2.1, l.tail)) = R at *
    generalize (hdT l).2.1 = x at *
    go_enter Tryz.func151, Tryz.ntmps151
    go_wp2_with (first
      | ((with_reducible refine ka.mono ?_); rintro e w1 ⟨rfl, hb⟩)
      | ((with_reducible refine (kf _ (h.below hb)).mono ?_); rintro e w2 ⟨rfl, hb2⟩)
      | ((with_reducible refine (kp _ ((h.below hb).below hb2)).mono ?_); rintro e w3 ⟨rfl, h3, hk⟩))
    exact (HV _ h3 ((Kp.of_below (hb.trans (hb2.mono hb.size)) g).trans (hk.more (Nat.le_trans hb.size hb2.size)))).out
/-- Which operation a sign's text is. -/
def joinS (x : ByteArray) : Nat := if x = ⟨#[124]⟩ then 4 else if x = ⟨#[38]⟩ then 5 else if x = ⟨#[45]⟩ then 6 else 0
set_option maxHeartbeats 1000000 in
theorem joins_any (x : ByteArray) (w : World) : Calls Tryz.prog 201 #[.string x] w fun e w' => e = .returned (.tuple #[.int .i64 (joinS x), .bool (!decide (joinS x = 0))]) ∧ w' = w := by
  have e1 := list_dec x ⟨#[124]⟩
  have e2 := list_dec x ⟨#[38]⟩
  have e3 := list_dec x ⟨#[45]⟩
  rw [show (⟨#[124]⟩ : ByteArray).toList = [124] by decide +kernel] at e1
  rw [show (⟨#[38]⟩ : ByteArray).toList = [38] by decide +kernel] at e2
  rw [show (⟨#[45]⟩ : ByteArray).toList = [45] by decide +kernel] at e3
  have HJ : Hid (joinS x = if decide (x = ⟨#[124]⟩) = true then 4 else if decide (x = ⟨#[38]⟩) = true then 5 else if decide (x = ⟨#[45]⟩) = true then 6 else 0) := Lib.hid (by unfold joinS; simp only [decide_eq_true_eq])
  generalize decide (x = ⟨#[124]⟩) = d1 at *
  generalize decide (x = ⟨#[38]⟩) = d2 at *
  generalize decide (x = ⟨#[45]⟩) = d3 at *
  generalize joinS x = J at *
  go_enter Tryz.func201, Tryz.ntmps201
  cases d1 <;> cases d2 <;> cases d3
  all_goals go_wp2
  all_goals go_returns
  all_goals (refine ⟨?_, rfl⟩; rw [HJ.out]; rfl)
theorem join_op {l : List Tk} (hf : Fine l) : joinS (hdT l).2.1 = opT l := by
  have a1 : Ask (sg 124) := ⟨by decide, .inr ⟨124, by decide, rfl⟩⟩
  have a2 : Ask (sg 38) := ⟨by decide, .inr ⟨38, by decide, rfl⟩⟩
  have a3 : Ask (sg 45) := ⟨by decide, .inr ⟨45, by decide, rfl⟩⟩
  unfold opT joinS
  rw [hf.isT a1, hf.isT a2, hf.isT a3]
  show _ = if decide ((hdT l).2.1 = ⟨#[124]⟩) = true then 4 else if decide ((hdT l).2.1 = ⟨#[38]⟩) = true then 5 else if decide ((hdT l).2.1 = ⟨#[45]⟩) = true then 6 else 0
  by_cases e1 : (hdT l).2.1 = ⟨#[124]⟩
  · rw [if_pos e1, if_pos (decide_eq_true e1)]
  · rw [if_neg e1, if_neg (fun h => e1 (of_decide_eq_true h))]
    by_cases e2 : (hdT l).2.1 = ⟨#[38]⟩
    · rw [if_pos e2, if_pos (decide_eq_true e2)]
    · rw [if_neg e2, if_neg (fun h => e2 (of_decide_eq_true h))]
      by_cases e3 : (hdT l).2.1 = ⟨#[45]⟩
      · rw [if_pos e3, if_pos (decide_eq_true e3)]
      · rw [if_neg e3, if_neg (fun h => e3 (of_decide_eq_true h))]
end
end Go.Proofs.YteafdhpcnpfmkaaGreat
