/- Layer 3: what memory holds of a disk, and what its small functions do: Len, Dead, Waiting, Arm, has, stops. Conditions: none. -/
import Derived.Test.YtgppaompcnllbaaSpec
import Derived.Test.YtgppaompcnllbaaProg
import Derived.Deep.QuietTactic
import Derived.BigQuiet
import Derived.RegionTactic
import Derived.Deep.MidRow
namespace Go.Proofs.Ytgppaompcnllbaa
open Go.RowKit

/-! memory beside a disk's own blocks -/

/-- Below lo, and from hi on, what was there is as it was. -/
structure Keeps (lo hi : Nat) (w w' : World) : Prop where
  low : Below lo w w'
  high : ∀ k, hi ≤ k → k < w.heap.size → w'.heap[k]? = w.heap[k]?
section
variable {lo hi lo' hi' : Nat} {w w' w'' : World}
theorem Keeps.refl (lo hi : Nat) (w : World) : Keeps lo hi w w := ⟨Below.refl _ _, fun _ _ _ => rfl⟩
theorem Keeps.trans (h : Keeps lo hi w w') (k : Keeps lo hi w' w'') : Keeps lo hi w w'' :=
  ⟨h.low.trans k.low, fun i hi hw => (k.high i hi (Nat.lt_of_lt_of_le hw h.low.size)).trans (h.high i hi hw)⟩
theorem Keeps.wide (h : Keeps lo hi w w') (hl : lo' ≤ lo) (hh : hi ≤ hi') : Keeps lo' hi' w w' :=
  ⟨h.low.mono hl, fun i hi2 hw => h.high i (Nat.le_trans hh hi2) hw⟩
theorem Keeps.of_below (h : Below hi w w') (hs : w.heap.size ≤ hi) (lo : Nat) (hl : lo ≤ hi) : Keeps lo hi w w' := ⟨h.mono hl, fun k h1 h2 => absurd h2 (by omega)⟩
theorem Keeps.all (h : Below w.heap.size w w') (hl : lo ≤ w.heap.size) : Keeps lo hi w w' := ⟨h.mono hl, fun k _ h2 => h.block k h2⟩
theorem Keeps.size (h : Keeps lo hi w w') : w.heap.size ≤ w'.heap.size := h.low.size
theorem Keeps.block (h : Keeps lo hi w w') {k : Nat} (hk : k < lo ∨ hi ≤ k) (hw : k < w.heap.size) : w'.heap[k]? = w.heap[k]? := by
  rcases hk with hk | hk
  · exact h.low.block k hk
  · exact h.high k hk hw
theorem Keeps.alloc (h : Keeps lo hi w w') (hl : lo ≤ w.heap.size) (o : Obj) : Keeps lo hi w (w'.alloc o) :=
  ⟨h.low.alloc (Nat.le_trans hl h.size) o, fun k h1 h2 => (Below.heap_alloc _ _ _ (Nat.lt_of_lt_of_le h2 h.size)).trans (h.high k h1 h2)⟩
theorem Keeps.drew (h : Keeps lo hi w w') : Keeps lo hi w w'.drew := ⟨h.low.drew, h.high⟩
/-- A store into a block of the disk's own, or into a new one. -/
theorem Keeps.setCell (h : Keeps lo hi w w') {p : Addr} (h1 : lo ≤ p.block) (h2 : p.block < hi ∨ w.heap.size ≤ p.block) (u : Value) : Keeps lo hi w (w'.setCell p u) :=
  ⟨h.low.setCell h1 u, fun k h3 h4 => (Below.heap_setCell _ _ _ _ (by omega)).trans (h.high k h3 h4)⟩
theorem Keeps.setCells (h : Keeps lo hi w w') {g : Nat} (h1 : lo ≤ g) (h2 : g < hi ∨ w.heap.size ≤ g) (o : Nat) (vs : List Value) : Keeps lo hi w (w'.setCells g o vs) := by
  obtain ⟨s1, s2, s3⟩ := setCells_streams g vs o w'
  exact ⟨h.low.trans ⟨s1, s2, s3, by rw [setCells_size]; exact Nat.le_refl _, fun k hk => setCells_heap_other g _ _ _ k (by omega)⟩,
    fun k h3 h4 => (setCells_heap_other g _ _ _ k (by omega)).trans (h.high k h3 h4)⟩
theorem Keeps.grown (h : Keeps lo hi w w') {row : Option Nat} (hg : w'.grownBy w'' row) (hl : lo ≤ w.heap.size) (hr : ∀ k, row = some k → lo ≤ k ∧ (k < hi ∨ w.heap.size ≤ k)) : Keeps lo hi w w'' :=
  ⟨h.low.grown hg (Nat.le_trans hl h.size) fun k hk => (hr k hk).1, fun k h3 h4 => (hg.block k (Nat.lt_of_lt_of_le h4 h.size) fun e => by have := hr k e.symm; omega).trans (h.high k h3 h4)⟩
/-- A slice that lies beside the disk. -/
theorem Keeps.rd (h : Keeps lo hi w w') {B size n c : Nat} {A : Option Addr} {xs : List Value} (hr : Rd w B size A n c xs) (ha : 0 < n → ∀ b o, A = some ⟨b, o, none⟩ → b < lo ∨ hi ≤ b) : Rd w' B size A n c xs :=
  ⟨hr.len, hr.cap, hr.capm, hr.nil, fun hn => by
    obtain ⟨b, o, e, hb, hc⟩ := hr.at_ hn
    refine ⟨b, o, e, hb, fun j u hj => ?_⟩
    have hx := hc j u hj
    have hlt := World.block_lt_of_cell? w _ hx
    exact (World.cell?_of_block (h.block (ha hn b o e) hlt)).trans hx⟩
/-- A row that lies beside it. -/
theorem own_same {w w' : World} {base : Nat} {e : TypeId} {size n : Nat} {v : Value} {xs : List Value} (h : w.ownsRow base e size v n xs) (hb : ∀ g, v.ownBlock = some g → w'.heap[g]? = w.heap[g]?) : w'.ownsRow base e size v n xs := by
  refine ⟨h.1, ?_⟩
  rcases h.2 with h2 | ⟨g, cap, cur, rfl, hg, hh, r⟩
  · exact .inl h2
  · exact .inr ⟨g, cap, cur, rfl, hg, (hb g rfl).trans hh, r⟩
end

/-- What was there is as it was, but for the blocks of S. -/
structure Ks (S : Nat → Prop) (w w' : World) : Prop where
  os : w'.os = w.os
  tape : w'.tape = w.tape
  output : w'.output = w.output
  size : w.heap.size ≤ w'.heap.size
  block : ∀ k, k < w.heap.size → ¬ S k → w'.heap[k]? = w.heap[k]?
section
variable {S T : Nat → Prop} {w w' w'' : World}
theorem Ks.refl (S : Nat → Prop) (w : World) : Ks S w w := ⟨rfl, rfl, rfl, Nat.le_refl _, fun _ _ _ => rfl⟩
theorem Ks.trans (h : Ks S w w') (k : Ks S w' w'') : Ks S w w'' :=
  ⟨k.os.trans h.os, k.tape.trans h.tape, k.output.trans h.output, Nat.le_trans h.size k.size, fun i hw hn => (k.block i (Nat.lt_of_lt_of_le hw h.size) hn).trans (h.block i hw hn)⟩
/-- A later step that may turn new blocks, too. -/
theorem Ks.then (h : Ks S w w') (k : Ks T w' w'') (hT : ∀ i, T i → S i ∨ w.heap.size ≤ i) : Ks S w w'' :=
  ⟨k.os.trans h.os, k.tape.trans h.tape, k.output.trans h.output, Nat.le_trans h.size k.size, fun i hw hn => (k.block i (Nat.lt_of_lt_of_le hw h.size) fun e => by rcases hT i e with e | e; exact hn e; omega).trans (h.block i hw hn)⟩
theorem Ks.more (h : Ks S w w') (hT : ∀ i, S i → T i) : Ks T w w' := ⟨h.os, h.tape, h.output, h.size, fun i hw hn => h.block i hw fun e => hn (hT i e)⟩
theorem Ks.all (h : Below w.heap.size w w') : Ks S w w' := ⟨h.os, h.tape, h.output, h.size, fun k h2 _ => h.block k h2⟩
theorem Ks.below (h : Ks S w w') {lo : Nat} (hS : ∀ k, S k → lo ≤ k) (hl : lo ≤ w.heap.size) : Below lo w w' :=
  ⟨h.os, h.tape, h.output, h.size, fun k hk => h.block k (Nat.lt_of_lt_of_le hk hl) fun e => by have := hS k e; omega⟩
theorem Ks.keeps {lo hi : Nat} (h : Ks S w w') (hS : ∀ k, S k → lo ≤ k ∧ k < hi) (hl : lo ≤ w.heap.size) : Keeps lo hi w w' :=
  ⟨h.below (fun k e => (hS k e).1) hl, fun k h1 h2 => h.block k h2 fun e => by have := hS k e; omega⟩
theorem Ks.drew (h : Ks S w w') : Ks S w w'.drew := ⟨h.os, h.tape, h.output, h.size, h.block⟩
theorem Ks.grown (h : Ks S w w') {row : Option Nat} (hg : w'.grownBy w'' row) (hr : ∀ k, row = some k → S k ∨ w.heap.size ≤ k) : Ks S w w'' :=
  ⟨hg.os.trans h.os, hg.tape.trans h.tape, hg.output.trans h.output, Nat.le_trans h.size hg.size, fun k h3 h4 => (hg.block k (Nat.lt_of_lt_of_le h3 h.size) fun e => by rcases hr k e.symm with e | e; exact h4 e; omega).trans (h.block k h3 h4)⟩
theorem Ks.alloc (h : Ks S w w') (o : Obj) : Ks S w (w'.alloc o) := h.grown (World.grownBy_alloc w' o none) fun k e => (by cases e)
theorem Ks.setCell (h : Ks S w w') {p : Addr} (h2 : S p.block ∨ w.heap.size ≤ p.block) (u : Value) : Ks S w (w'.setCell p u) :=
  ⟨h.os, h.tape, h.output, by simpa [World.setCell] using h.size, fun k h3 h4 => (Below.heap_setCell _ _ _ _ (fun e => by subst e; rcases h2 with e | e; exact h4 e; omega)).trans (h.block k h3 h4)⟩
theorem Ks.setCells (h : Ks S w w') {g : Nat} (h2 : S g ∨ w.heap.size ≤ g) (o : Nat) (vs : List Value) : Ks S w (w'.setCells g o vs) := by
  obtain ⟨s1, s2, s3⟩ := setCells_streams g vs o w'
  exact ⟨s1.trans h.os, s2.trans h.tape, s3.trans h.output, by rw [setCells_size]; exact h.size, fun k h3 h4 => (setCells_heap_other g _ _ _ k (fun e => by subst e; rcases h2 with e | e; exact h4 e; omega)).trans (h.block k h3 h4)⟩
/-- A slice that lies beside the disk. -/
theorem Ks.rd (h : Ks S w w') {B size n c : Nat} {A : Option Addr} {xs : List Value} (hr : Rd w B size A n c xs) (ha : 0 < n → ∀ b o, A = some ⟨b, o, none⟩ → ¬ S b) : Rd w' B size A n c xs :=
  ⟨hr.len, hr.cap, hr.capm, hr.nil, fun hn => by
    obtain ⟨b, o, e, hb, hc⟩ := hr.at_ hn
    refine ⟨b, o, e, hb, fun j u hj => ?_⟩
    have hx := hc j u hj
    have hlt := World.block_lt_of_cell? w _ hx
    exact (World.cell?_of_block (h.block b hlt (ha hn b o e))).trans hx⟩
end
/-- S, and what is new. -/
def Grow (S : Nat → Prop) (w w' : World) (k : Nat) : Prop := S k ∨ (w.heap.size ≤ k ∧ k < w'.heap.size)
def In (lo hi : Nat) (k : Nat) : Prop := lo ≤ k ∧ k < hi

/-! a disk in memory -/

structure DkAt (S : Nat → Prop) (w : World) (b : Nat) (s : St) (kb ck nb cn : Nat) (wv : Value) : Prop where
  ok : s.Ok
  size : ∀ k, S k → k < w.heap.size
  hb : S b
  hk : S kb
  hn : S nb
  hw : ∀ g, wv.ownBlock = some g → S g
  bk : b ≠ kb
  bn : b ≠ nb
  kn : kb ≠ nb
  wb : wv.ownBlock ≠ some b
  wk : wv.ownBlock ≠ some kb
  wn : wv.ownBlock ≠ some nb
  cells : w.heap[b]? = some (.cells #[.slice (some ⟨kb, 0, none⟩) s.kept.length ck, .slice (some ⟨nb, 0, none⟩) s.kept.length cn, wv, .int .i64 s.left, .bool s.dead] 61 (0, 0))
  kept : w.ownsRow 0 75 64 (.slice (some ⟨kb, 0, none⟩) s.kept.length ck) s.kept.length (scells s.kept)
  now : w.ownsRow 0 75 64 (.slice (some ⟨nb, 0, none⟩) s.kept.length cn) s.kept.length (scells s.now)
  waits : w.ownsRow 0 77 65 wv s.waits.length (wcells s.waits)
/-- Block b is a disk in state s; all that it has are blocks of S. -/
def Ds (S : Nat → Prop) (w : World) (b : Nat) (s : St) : Prop := ∃ kb ck nb cn wv, DkAt S w b s kb ck nb cn wv
/-- The same, all of it from lo on and below hi. -/
def Dk (lo hi : Nat) (w : World) (b : Nat) (s : St) : Prop := Ds (In lo hi) w b s ∧ hi ≤ w.heap.size

section
variable {S T : Nat → Prop} {w w' : World} {b : Nat} {s : St} {kb ck nb cn : Nat} {wv : Value}
/-- Where its own blocks are as they were, so is it. -/
theorem DkAt.same (h : DkAt S w b s kb ck nb cn wv) (hs : w.heap.size ≤ w'.heap.size) (hk : ∀ k, S k → w'.heap[k]? = w.heap[k]?) : DkAt S w' b s kb ck nb cn wv :=
  ⟨h.ok, fun k e => Nat.lt_of_lt_of_le (h.size k e) hs, h.hb, h.hk, h.hn, h.hw, h.bk, h.bn, h.kn, h.wb, h.wk, h.wn, (hk b h.hb).trans h.cells,
    own_same h.kept fun g e => by cases e; exact hk kb h.hk,
    own_same h.now fun g e => by cases e; exact hk nb h.hn,
    own_same h.waits fun g e => hk g (h.hw g e)⟩
theorem DkAt.wide (h : DkAt S w b s kb ck nb cn wv) (hS : ∀ k, S k → T k) (hT : ∀ k, T k → k < w.heap.size) : DkAt T w b s kb ck nb cn wv :=
  ⟨h.ok, hT, hS _ h.hb, hS _ h.hk, hS _ h.hn, fun g e => hS _ (h.hw g e), h.bk, h.bn, h.kn, h.wb, h.wk, h.wn, h.cells, h.kept, h.now, h.waits⟩
theorem DkAt.out (h : DkAt S w b s kb ck nb cn wv) : Ds S w b s := ⟨_, _, _, _, _, h⟩
theorem Ds.ok (h : Ds S w b s) : s.Ok := by obtain ⟨_, _, _, _, _, h⟩ := h; exact h.ok
theorem Ds.size (h : Ds S w b s) : ∀ k, S k → k < w.heap.size := by obtain ⟨_, _, _, _, _, h⟩ := h; exact h.size
theorem Ds.hb (h : Ds S w b s) : S b := by obtain ⟨_, _, _, _, _, h⟩ := h; exact h.hb
theorem Ds.same (h : Ds S w b s) (hs : w.heap.size ≤ w'.heap.size) (hk : ∀ k, S k → w'.heap[k]? = w.heap[k]?) : Ds S w' b s := by
  obtain ⟨_, _, _, _, _, h⟩ := h; exact (h.same hs hk).out
theorem Ds.wide (h : Ds S w b s) (hS : ∀ k, S k → T k) (hT : ∀ k, T k → k < w.heap.size) : Ds T w b s := by
  obtain ⟨_, _, _, _, _, h⟩ := h; exact (h.wide hS hT).out
theorem Ds.below (h : Ds S w b s) (hb : Below w.heap.size w w') : Ds S w' b s := h.same hb.size fun k hk => hb.block k (h.size k hk)
theorem Ds.keep (h : Ds S w b s) (hb : Ks T w w') (ha : ∀ k, S k → ¬ T k) : Ds S w' b s := h.same hb.size fun k hk => hb.block k (h.size k hk) (ha k hk)
theorem Ds.alloc (h : Ds S w b s) (o : Obj) : Ds S (w.alloc o) b s := h.below ((Below.refl _ _).alloc (Nat.le_refl _) o)
theorem DkAt.c0 (h : DkAt S w b s kb ck nb cn wv) : w.cell? ⟨b, 0, none⟩ = some (.slice (some ⟨kb, 0, none⟩) s.kept.length ck) := by rw [cell_of_row _ _ _ _ _ _ h.cells]; rfl
theorem DkAt.c1 (h : DkAt S w b s kb ck nb cn wv) : w.cell? ⟨b, 1, none⟩ = some (.slice (some ⟨nb, 0, none⟩) s.kept.length cn) := by rw [cell_of_row _ _ _ _ _ _ h.cells]; rfl
theorem DkAt.c2 (h : DkAt S w b s kb ck nb cn wv) : w.cell? ⟨b, 2, none⟩ = some wv := by rw [cell_of_row _ _ _ _ _ _ h.cells]; rfl
theorem DkAt.c3 (h : DkAt S w b s kb ck nb cn wv) : w.cell? ⟨b, 3, none⟩ = some (.int .i64 s.left) := by rw [cell_of_row _ _ _ _ _ _ h.cells]; rfl
theorem DkAt.c4 (h : DkAt S w b s kb ck nb cn wv) : w.cell? ⟨b, 4, none⟩ = some (.bool s.dead) := by rw [cell_of_row _ _ _ _ _ _ h.cells]; rfl
theorem DkAt.fz (h : DkAt S w b s kb ck nb cn wv) (i : Nat) : w.frozen? ⟨b, i, none⟩ = false := frozen_of_row _ _ _ _ _ h.cells
theorem DkAt.bs (h : DkAt S w b s kb ck nb cn wv) : b < w.heap.size := h.size b h.hb
theorem DkAt.ks (h : DkAt S w b s kb ck nb cn wv) : kb < w.heap.size := h.size kb h.hk
theorem DkAt.ns (h : DkAt S w b s kb ck nb cn wv) : nb < w.heap.size := h.size nb h.hn
/-- A world in which the disk's own block alone has turned. -/
theorem DkAt.turn (h : DkAt S w b s kb ck nb cn wv) {s' : St} (hok : s'.Ok) (hk : s'.kept = s.kept) (hws : s'.waits = s.waits) (hs : w.heap.size ≤ w'.heap.size)
    (hc : w'.heap[b]? = some (.cells #[.slice (some ⟨kb, 0, none⟩) s.kept.length ck, .slice (some ⟨nb, 0, none⟩) s.kept.length cn, wv, .int .i64 s'.left, .bool s'.dead] 61 (0, 0)))
    (ho : ∀ k, k < w.heap.size → k ≠ b → w'.heap[k]? = w.heap[k]?) : DkAt S w' b s' kb ck nb cn wv := by
  have hnow : s'.now = s.now := by simp [St.now, hk, hws]
  refine ⟨hok, fun k e => Nat.lt_of_lt_of_le (h.size k e) hs, h.hb, h.hk, h.hn, h.hw, h.bk, h.bn, h.kn, h.wb, h.wk, h.wn, by rw [hk]; exact hc, ?_, ?_, ?_⟩
  · rw [hk]; exact own_same h.kept fun g e => by cases e; exact ho kb h.ks (fun e => h.bk e.symm)
  · rw [hk, hnow]; exact own_same h.now fun g e => by cases e; exact ho nb h.ns (fun e => h.bn e.symm)
  · rw [hws]; exact own_same h.waits fun g e => ho g (h.size g (h.hw g e)) (fun e' => h.wb (by rw [e, e']))
end
section
variable {lo hi lo' hi' : Nat} {w w' : World} {b : Nat} {s : St}
theorem Dk.ok (h : Dk lo hi w b s) : s.Ok := h.1.ok
theorem Dk.size (h : Dk lo hi w b s) : hi ≤ w.heap.size := h.2
theorem Dk.lb (h : Dk lo hi w b s) : lo ≤ b := h.1.hb.1
theorem Dk.lt (h : Dk lo hi w b s) : b < hi := h.1.hb.2
theorem Dk.lw (h : Dk lo hi w b s) : lo ≤ w.heap.size := Nat.le_trans h.lb (Nat.le_of_lt (Nat.lt_of_lt_of_le h.lt h.size))
theorem Dk.same (h : Dk lo hi w b s) (hs : w.heap.size ≤ w'.heap.size) (hk : ∀ k, lo ≤ k → k < hi → w'.heap[k]? = w.heap[k]?) : Dk lo hi w' b s := ⟨h.1.same hs fun k e => hk k e.1 e.2, Nat.le_trans h.2 hs⟩
theorem Dk.below (h : Dk lo hi w b s) (hb : Below hi w w') : Dk lo hi w' b s := h.same hb.size fun k _ hk => hb.block k hk
theorem Dk.keep (h : Dk lo hi w b s) (hb : Keeps lo' hi' w w') (ha : hi ≤ lo' ∨ hi' ≤ lo) : Dk lo hi w' b s :=
  h.same hb.size fun k h1 h2 => hb.block (by omega) (Nat.lt_of_lt_of_le h2 h.size)
theorem Dk.alloc (h : Dk lo hi w b s) (o : Obj) : Dk lo hi (w.alloc o) b s := h.below ((Below.refl _ _).alloc h.size o)
end

/-! Len, Waiting, Dead, Arm, has, stops -/
section
variable {S : Nat → Prop} {lo hi : Nat} {w : World} {b : Nat} {s : St}
theorem len_s (h : Ds S w b s) : Calls Try.prog 29 #[.pointer (some ⟨b, 0, none⟩)] w fun e w' => e = .returned (.int .i64 s.kept.length) ∧ w' = w := by
  obtain ⟨kb, ck, nb, cn, wv, h⟩ := h
  have c0 := h.c0
  go_enter Try.func29, Try.ntmps29
  go_wp2
  go_ret
  exact ⟨rfl, rfl⟩
theorem len_nil (w : World) : Calls Try.prog 29 #[.pointer none] w fun e w' => e = .returned (.int .i64 0) ∧ w' = w := by
  go_enter Try.func29, Try.ntmps29
  go_wp2
  go_ret
  exact ⟨rfl, rfl⟩
theorem waiting_s (h : Ds S w b s) : Calls Try.prog 19 #[.pointer (some ⟨b, 0, none⟩)] w fun e w' => e = .returned (.int .i64 s.waits.length) ∧ w' = w := by
  obtain ⟨kb, ck, nb, cn, wv, h⟩ := h
  have c2 := h.c2
  obtain ⟨A, c, rfl, hr⟩ := Rd.own h.waits
  go_enter Try.func19, Try.ntmps19
  go_wp2
  go_ret
  exact ⟨rfl, rfl⟩
theorem waiting_nil (w : World) : Calls Try.prog 19 #[.pointer none] w fun e w' => e = .returned (.int .i64 0) ∧ w' = w := by
  go_enter Try.func19, Try.ntmps19
  go_wp2
  go_ret
  exact ⟨rfl, rfl⟩
theorem dead_s (h : Ds S w b s) : Calls Try.prog 24 #[.pointer (some ⟨b, 0, none⟩)] w fun e w' => e = .returned (.bool s.dead) ∧ w' = w := by
  obtain ⟨kb, ck, nb, cn, wv, h⟩ := h
  have c4 := h.c4
  go_enter Try.func24, Try.ntmps24
  go_wp2
  go_ret
  exact ⟨rfl, rfl⟩
theorem dead_nil (w : World) : Calls Try.prog 24 #[.pointer none] w fun e w' => e = .returned (.bool false) ∧ w' = w := by
  go_enter Try.func24, Try.ntmps24
  go_wp2
  go_ret
  exact ⟨rfl, rfl⟩
theorem arm_s (h : Ds S w b s) (n : Int) (h1 : -9223372036854775808 ≤ n) (h2 : n ≤ 9223372036854775807) : Calls Try.prog 23 #[.pointer (some ⟨b, 0, none⟩), .int .i64 n] w fun e w' => (∃ v, e = .returned v) ∧ Ds S w' b (s.arm n) ∧ Ks S w w' := by
  obtain ⟨kb, ck, nb, cn, wv, h⟩ := h
  have c4 := h.c4
  have c3 := h.c3
  have f3 := h.fz 3
  go_enter Try.func23, Try.ntmps23
  cases hd : s.dead with
  | true =>
    rw [hd] at c4
    go_wp2
    refine bodyPost_ret (results_none rfl _ _ _) rfl ?_
    exact ⟨⟨_, rfl⟩, by rw [St.arm, if_pos hd]; exact h.out, Ks.refl _ _⟩
  | false =>
    rw [hd] at c4
    go_wp2
    go_end0
    refine ⟨⟨_, rfl⟩, (h.turn (w' := w.setCell ⟨b, 3, none⟩ (.int .i64 n)) (h.ok.arm h1 h2) (by unfold St.arm; split <;> rfl) (by unfold St.arm; split <;> rfl) (by simp [World.setCell]) ?_ fun k _ hk => Below.heap_setCell _ _ _ _ hk).out, (Ks.refl _ _).setCell (.inl h.hb) _⟩
    rw [heap_setCell_same _ _ _ _ _ _ h.cells]
    simp [St.arm, hd]
theorem arm_nil (w : World) (n : Int) : Calls Try.prog 23 #[.pointer none, .int .i64 n] w fun e w' => (∃ v, e = .returned v) ∧ w' = w := by
  go_enter Try.func23, Try.ntmps23
  go_wp2
  refine bodyPost_ret (results_none rfl _ _ _) rfl ?_
  exact ⟨⟨_, rfl⟩, rfl⟩
theorem has_s (h : Ds S w b s) (i : Int) : Calls Try.prog 36 #[.pointer (some ⟨b, 0, none⟩), .int .i64 i] w fun e w' => e = .returned (.bool (s.has i)) ∧ w' = w := by
  have kl := fun W (h : Ds S W b s) => len_s h
  go_enter Try.func36, Try.ntmps36
  by_cases h0 : 0 ≤ i
  · go_wp2_with ((with_reducible refine (kl _ h).mono ?_); rintro e w1 ⟨rfl, rfl⟩)
    go_ret
    exact ⟨by simp [St.has, h0], rfl⟩
  · go_wp2_with fail
    go_ret
    exact ⟨by simp [St.has]; omega, rfl⟩
theorem has_nil (w : World) (i : Int) : Calls Try.prog 36 #[.pointer none, .int .i64 i] w fun e w' => e = .returned (.bool false) ∧ w' = w := by
  go_enter Try.func36, Try.ntmps36
  by_cases h0 : 0 ≤ i
  · go_wp2_with ((with_reducible refine (len_nil _).mono ?_); rintro e w1 ⟨rfl, rfl⟩)
    go_ret
    exact ⟨by simp; omega, rfl⟩
  · go_wp2_with fail
    go_ret
    exact ⟨by simp, rfl⟩
theorem stops_s (h : Ds S w b s) : Calls Try.prog 37 #[.pointer (some ⟨b, 0, none⟩)] w fun e w' => e = .returned (.bool s.count.dead) ∧ Ds S w' b s.count ∧ Ks S w w' := by
  obtain ⟨kb, ck, nb, cn, wv, h⟩ := h
  have c4 := h.c4
  have c3 := h.c3
  have f3 := h.fz 3
  have f4 := h.fz 4
  have hl := h.ok.lo
  have hh := h.ok.hi
  go_enter Try.func37, Try.ntmps37
  by_cases hp : 0 < s.left
  · go_wp2
    go_ret
    have e : s.count = { s with left := s.left - 1, dead := decide (s.left - 1 = 0) } := by unfold St.count; rw [if_pos hp]
    have hok := h.ok.count
    have ed : (s.left - 1 == 0) = decide (s.left - 1 = 0) := rfl
    rw [e] at hok ⊢
    refine ⟨rfl, (h.turn hok rfl rfl (by simp [World.setCell]) ?_ fun k _ hk => (Below.heap_setCell _ _ _ _ hk).trans (Below.heap_setCell _ _ _ _ hk)).out, ((Ks.refl _ _).setCell (.inl h.hb) _).setCell (.inl h.hb) _⟩
    rw [heap_setCell_same _ _ _ _ _ _ (heap_setCell_same _ _ _ _ _ _ h.cells), ed]
    rfl
  · go_wp2
    go_ret
    have e : s.count = s := by unfold St.count; rw [if_neg (by omega)]
    rw [e]
    exact ⟨rfl, h.out, Ks.refl _ _⟩
theorem len_any (h : Dk lo hi w b s) : Calls Try.prog 29 #[.pointer (some ⟨b, 0, none⟩)] w fun e w' => e = .returned (.int .i64 s.kept.length) ∧ w' = w := len_s h.1
theorem waiting_any (h : Dk lo hi w b s) : Calls Try.prog 19 #[.pointer (some ⟨b, 0, none⟩)] w fun e w' => e = .returned (.int .i64 s.waits.length) ∧ w' = w := waiting_s h.1
theorem dead_any (h : Dk lo hi w b s) : Calls Try.prog 24 #[.pointer (some ⟨b, 0, none⟩)] w fun e w' => e = .returned (.bool s.dead) ∧ w' = w := dead_s h.1
theorem arm_any (h : Dk lo hi w b s) (n : Int) (h1 : -9223372036854775808 ≤ n) (h2 : n ≤ 9223372036854775807) : Calls Try.prog 23 #[.pointer (some ⟨b, 0, none⟩), .int .i64 n] w fun e w' => (∃ v, e = .returned v) ∧ Dk lo hi w' b (s.arm n) ∧ Keeps lo hi w w' :=
  (arm_s h.1 n h1 h2).mono fun _ _ ⟨he, hd, hk⟩ => ⟨he, ⟨hd, Nat.le_trans h.2 hk.size⟩, hk.keeps (fun _ e => e) h.lw⟩
end
end Go.Proofs.Ytgppaompcnllbaa
