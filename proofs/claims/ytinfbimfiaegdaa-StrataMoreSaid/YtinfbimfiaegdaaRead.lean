/- Layer 7: what memory holds of a reader of tokens, and how its calls end: with a value and the tokens that are left, or with a fault. Conditions: none. -/
import Derived.Recover
import Derived.Test.YtinfbimfiaegdaaKey
import Derived.Test.YtinfbimfiaegdaaParseP
namespace Go.Proofs.Ytinfbimfiaegdaa
open Go.RowKit

/-- Tokens up to the end, which is the last one alone; a word isn't a sign. -/
def Fine (l : List Tk) : Prop := l.length ≤ 1000000 ∧ ∃ init p, l = init ++ [(3, ⟨#[]⟩, p)] ∧ ∀ t ∈ init, t.1 = 2 ∨ (t.1 = 1 ∧ ∀ c : UInt8, signB c.toNat = true → t.2.1 ≠ sg c)
theorem Fine.cons {l : List Tk} (h : Fine l) : ∃ t r, l = t :: r := by
  obtain ⟨_, init, p, rfl, _⟩ := h
  cases init with
  | nil => exact ⟨_, _, rfl⟩
  | cons a r => exact ⟨_, _, rfl⟩
theorem Fine.tail {l : List Tk} (h : Fine l) (h3 : (hdT l).1 ≠ 3) : Fine l.tail := by
  obtain ⟨hl, init, p, rfl, hi⟩ := h
  cases init with
  | nil => exact absurd rfl h3
  | cons a r => exact ⟨by rw [List.length_tail]; omega, r, p, rfl, fun t ht => hi t (List.mem_cons_of_mem _ ht)⟩
theorem Fine.hd {l : List Tk} (h : Fine l) : (hdT l).1 = 2 ∨ ((hdT l).1 = 1 ∧ ∀ c : UInt8, signB c.toNat = true → (hdT l).2.1 ≠ sg c) ∨ ((hdT l).1 = 3 ∧ (hdT l).2.1 = ⟨#[]⟩) := by
  obtain ⟨_, init, p, rfl, hi⟩ := h
  cases init with
  | nil => exact .inr (.inr ⟨rfl, rfl⟩)
  | cons a r => rcases hi a (List.mem_cons_self) with h | h
                · exact .inl h
                · exact .inr (.inl h)
/-- What a reader may ask for: a key, or a sign. -/
def Ask (s : ByteArray) : Prop := 0 < s.size ∧ (keyB s = true ∨ ∃ c : UInt8, signB c.toNat = true ∧ s = sg c)
theorem Fine.isT {l : List Tk} (h : Fine l) {s : ByteArray} (hs : Ask s) : isT s l = decide ((hdT l).2.1 = s) := by
  unfold Go.Proofs.Ytinfbimfiaegdaa.isT
  by_cases e : (hdT l).2.1 = s
  · rw [decide_eq_true e]
    refine decide_eq_true ⟨e, ?_⟩
    rcases hs.2 with hk | ⟨c, hc, rfl⟩
    · exact .inr hk
    · rcases h.hd with h2 | ⟨_, h1⟩ | ⟨_, h3⟩
      · exact .inl h2
      · exact absurd e (h1 c hc)
      · rw [h3] at e
        have := congrArg ByteArray.size e
        rw [show (sg c).size = 1 from rfl, show (⟨#[]⟩ : ByteArray).size = 0 from rfl] at this
        omega
  · rw [decide_eq_false e]
    exact decide_eq_false fun h => e h.1
theorem Fine.next {l : List Tk} (h : Fine l) {s : ByteArray} (hs : 0 < s.size) (e : (hdT l).2.1 = s) : Fine l.tail := by
  refine h.tail fun h3 => ?_
  rcases h.hd with h2 | ⟨h1, _⟩ | ⟨_, h0⟩
  · omega
  · omega
  · rw [h0] at e
    subst e
    exact absurd hs (by decide)

/-- A reader, at the block g: the tokens l are left. -/
structure RdAt (w : World) (g : Nat) (l : List Tk) (A : Option Addr) (c : Nat) : Prop where
  cells : w.heap[g]? = some (.cells #[.slice A l.length c] 98 (0, 0))
  toks : Rd w g 3 A l.length c (tcells l)
  fine : Fine l
def Rdr (w : World) (g : Nat) (l : List Tk) : Prop := ∃ A c, RdAt w g l A c
section
variable {w w' : World} {g : Nat} {l : List Tk} {A : Option Addr} {c : Nat}
theorem RdAt.size (h : RdAt w g l A c) : g < w.heap.size := (Array.getElem?_eq_some_iff.1 h.cells).1
theorem Rdr.size (h : Rdr w g l) : g < w.heap.size := by obtain ⟨A, c, h⟩ := h; exact h.size
theorem Rdr.fine (h : Rdr w g l) : Fine l := by obtain ⟨A, c, h⟩ := h; exact h.fine
theorem RdAt.c0 (h : RdAt w g l A c) : w.cell? ⟨g, 0, none⟩ = some (.slice A l.length c) := by rw [cell_of_row _ _ _ _ _ _ h.cells]; rfl
theorem RdAt.fz (h : RdAt w g l A c) : w.frozen? ⟨g, 0, none⟩ = false := by simp [World.frozen?, h.cells]
theorem RdAt.first (h : RdAt w g l A c) : ∃ b o, A = some ⟨b, o, none⟩ ∧ 0 < l.length ∧ w.cell? ⟨b, o, none⟩ = some (.int .i64 (hdT l).1) ∧ w.cell? ⟨b, o + 1, none⟩ = some (.string (hdT l).2.1) ∧ w.cell? ⟨b, o + 2, none⟩ = some (.int .i64 (hdT l).2.2) := by
  obtain ⟨t, r, rfl⟩ := h.fine.cons
  obtain ⟨b, o, e, _, hc⟩ := h.toks.at_ (by simp)
  exact ⟨b, o, e, by simp, hc 0 _ rfl, hc 1 _ rfl, hc 2 _ rfl⟩
/-- What only touches new blocks, and others than the reader's. -/
theorem Rdr.keep (h : Rdr w g l) (hb : ∀ k, k ≤ g → w'.heap[k]? = w.heap[k]?) : Rdr w' g l := by
  obtain ⟨A, c, h⟩ := h
  refine ⟨A, c, (hb g (Nat.le_refl _)).trans h.cells, h.toks.keep fun p hp => ?_, h.fine⟩
  have := hb p.block (by omega)
  unfold World.cell?
  rw [this]
theorem Rdr.below (h : Rdr w g l) (hb : Below w.heap.size w w') : Rdr w' g l := h.keep fun k hk => hb.block k (by have := h.size; omega)
theorem Rdr.drew (h : Rdr w g l) : Rdr w.drew g l := h.keep fun _ _ => rfl
theorem RdAt.step (h : RdAt w g l A c) (hf : Fine l.tail) : Rdr (w.setCell ⟨g, 0, none⟩ (.slice (if c = 1 then A else A.map (·.add 3)) (l.length - 1) (c - 1))) g l.tail ∧ Kp g w.heap.size w (w.setCell ⟨g, 0, none⟩ (.slice (if c = 1 then A else A.map (·.add 3)) (l.length - 1) (c - 1))) := by
  have hl : 1 ≤ l.length := by obtain ⟨_, _, _, h1, _⟩ := h.first; exact h1
  have ht := h.toks.cut hl
  have e : (tcells l).drop (1 * 3) = tcells l.tail := by
    obtain ⟨t, r, rfl⟩ := h.fine.cons
    rfl
  rw [e] at ht
  have hll : l.tail.length = l.length - 1 := List.length_tail
  refine ⟨⟨if c = 1 then A else A.map (·.add 3), c - 1, ?_, ?_, hf⟩, ?_⟩
  · rw [hll]
    simp [World.setCell, Array.getElem?_modify, h.cells]
  · rw [hll]
    refine ht.keep fun p hp => ?_
    have := Below.heap_setCell w ⟨g, 0, none⟩ (.slice (if c = 1 then A else A.map (·.add 3)) (l.length - 1) (c - 1)) p.block (by show p.block ≠ g; omega)
    unfold World.cell?
    rw [this]
  · exact ⟨rfl, rfl, rfl, by simp [World.setCell], fun k _ hn => Below.heap_setCell _ _ _ _ hn⟩
end

/-- How many tokens are left, as memory tells it. -/
def left (w : World) (g : Nat) : Nat := match w.cell? ⟨g, 0, none⟩ with
  | some (.slice _ n _) => n
  | _ => 0
theorem Rdr.left {w : World} {g : Nat} {l : List Tk} (h : Rdr w g l) : left w g = l.length := by
  obtain ⟨A, c, h⟩ := h
  unfold Go.Proofs.Ytinfbimfiaegdaa.left
  rw [h.c0]
theorem Rdr.few {w : World} {g : Nat} {l : List Tk} (h : Rdr w g l) : l.length ≤ 1000000 := h.fine.1
/-- A fault, thrown. -/
abbrev faultE (c p : Nat) : Ending := .panicked [{ v := .iface 94 (.agg #[.int .i64 c, .int .i64 p]), recovered := false }]
/-- How a reader's call ends. -/
def Post {α : Type} (V : World → Value → α → Prop) (B : Nat) (w : World) (g : Nat) (r : Rs α) (e : Ending) (w' : World) : Prop :=
  Kp g B w w' ∧ match r with
    | .error c => e = faultE c.1 c.2
    | .ok a => ∃ v, e = .returned v ∧ V w' v a.1 ∧ Rdr w' g a.2
section
variable {α β : Type} {V : World → Value → α → Prop} {U : World → Value → β → Prop} {B B' : Nat} {w w1 w' : World} {g : Nat} {r : Rs α} {e : Ending}
theorem Post.ok {a : α} {l : List Tk} {v : Value} (hk : Kp g B w w') (hv : V w' v a) (hr : Rdr w' g l) : Post V B w g (.ok (a, l)) (.returned v) w' := ⟨hk, v, rfl, hv, hr⟩
theorem Post.bad (hk : Kp g B w w') (c p : Nat) : Post V B w g (.error (c, p)) (faultE c p) w' := ⟨hk, rfl⟩
theorem Post.from_ (h : Post V B w1 g r e w') (hk : Kp g B' w w1) (hB : B' ≤ B) : Post V B' w g r e w' := ⟨hk.trans (h.1.more hB), h.2⟩
theorem Post.cases_ (h : Post V B w g r e w') : Kp g B w w' ∧ ((∃ c p, r = .error (c, p) ∧ e = faultE c p) ∨ ∃ a l v, r = .ok (a, l) ∧ e = .returned v ∧ V w' v a ∧ Rdr w' g l) := by
  obtain ⟨hk, h⟩ := h
  refine ⟨hk, ?_⟩
  cases r with
  | error c => exact .inl ⟨c.1, c.2, rfl, h⟩
  | ok a => obtain ⟨v, h1, h2, h3⟩ := h; exact .inr ⟨a.1, a.2, v, rfl, h1, h2, h3⟩
end
/-- Nothing is handed back. -/
def VUnit (_ : World) (v : Value) (_ : Unit) : Prop := v = .tuple #[]
/-- A text. -/
def VStr (_ : World) (v : Value) (s : ByteArray) : Prop := v = .string s
end Go.Proofs.Ytinfbimfiaegdaa
