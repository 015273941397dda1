/- Layer 10: edges, and paths of relations, as keys of a map. Conditions: none. -/
import Derived.Maps.Own
import Derived.Maps.OwnOps
import Derived.Maps.OwnSet
import Derived.Maps.Views
import Derived.Test.YtinfbimfiaegdaaLevels
namespace Go.Proofs.Ytinfbimfiaegdaa
open Go.RowKit Go.Maps

theorem laidP : laidOutB Try.prog = true := by kernel_rfl
theorem rowE : (29 : TypeId) < Try.prog.types.size := of_decide_eq_true (by kernel_rfl)
theorem rowS : (101 : TypeId) < Try.prog.types.size := of_decide_eq_true (by kernel_rfl)
theorem keyAE : Try.prog.keyTypeAt 2 29 = true := by kernel_rfl
theorem keyAS : Try.prog.keyTypeAt 2 101 = true := by kernel_rfl
theorem lawE : WideMaps.KeyLaw Try.prog 29 := deep_law_laid laidP (m := 2) (by omega) rowE keyAE (by rw [Try.underlying29])
theorem lawS : WideMaps.KeyLaw Try.prog 101 := deep_law_laid laidP (m := 2) (by omega) rowS keyAS (by rw [Try.underlying101])
theorem keyedE : Keyed Try.prog 29 := Keyed.of_law lawE
theorem keyedS : Keyed Try.prog 101 := Keyed.of_law lawS
theorem keyTE : Try.prog.keyType 29 = true := by kernel_rfl
theorem keyTS : Try.prog.keyType 101 = true := by kernel_rfl
theorem cellsE : Try.prog.cellsOf 29 = 3 := by kernel_rfl
theorem cellsS : Try.prog.cellsOf 101 = 2 := by kernel_rfl
theorem cells1 : Try.prog.cellsOf 3 = 1 := by kernel_rfl
theorem cells1b : Try.prog.cellsOf 4 = 1 := by kernel_rfl
theorem cells1s : Try.prog.cellsOf 9 = 1 := by kernel_rfl
/-- An edge as a key. -/
def kE (e : Ed) : Lit := .string (keyBytes [.int .i64 e.1, .int .i64 e.2.1, .bool e.2.2])
/-- A path as a key. -/
def kS (s : ByteArray × ByteArray) : Lit := .string (keyBytes [.string s.1.data.toList, .string s.2.data.toList])
theorem lits_edge (n : Nat) {e : Ed} (h1 : (Lit.int .i64 e.1).wf = true) (h2 : (Lit.int .i64 e.2.1).wf = true) : Try.prog.keyLits (n + 2) 29 [.int .i64 e.1, .int .i64 e.2.1, .bool e.2.2] = some [.int .i64 e.1, .int .i64 e.2.1, .bool e.2.2] := by
  simp [Program.keyLits, Try.underlying29, cellsE, cells1, cells1b, Try.underlying3, Try.underlying4, h1, h2]
theorem lits_sub (n : Nat) {s : ByteArray × ByteArray} (h1 : s.1.size ≤ maxLen) (h2 : s.2.size ≤ maxLen) : Try.prog.keyLits (n + 2) 101 [.string s.1, .string s.2] = some [.string s.1.data.toList, .string s.2.data.toList] := by
  simp [Program.keyLits, Try.underlying101, cellsS, cells1s, Try.underlying9, h1, h2]
theorem formE (a b c : Value) : (Value.agg #[a, b, c]).formed Try.prog 29 = true := by simp [Value.formed, Try.underlying29, cellsE]
theorem formS (a b : Value) : (Value.agg #[a, b]).formed Try.prog 101 = true := by simp [Value.formed, Try.underlying101, cellsS]
theorem lits_big {t : TypeId} {cs : List Value} {r : List Lit} (h : ∀ n, Try.prog.keyLits (n + 2) t cs = some r) (ht : 0 < Try.prog.types.size) : Try.prog.keyLits (Try.prog.types.size + 1) t cs = some r := by
  obtain ⟨n, hn⟩ : ∃ n, Try.prog.types.size = n + 1 := ⟨Try.prog.types.size - 1, by omega⟩
  rw [hn]
  exact h n
theorem key_edge {e : Ed} (h1 : (Lit.int .i64 e.1).wf = true) (h2 : (Lit.int .i64 e.2.1).wf = true) : keyOf Try.prog 29 (.agg #[.int .i64 e.1, .int .i64 e.2.1, .bool e.2.2]) = some (kE e) := by
  have h3 := lits_big (fun n => lits_edge n h1 h2) (Nat.lt_of_le_of_lt (Nat.zero_le _) rowE)
  unfold keyOf
  simp only [Try.underlying29, keyTE, formE, Bool.and_self, if_true, Value.cells, List.toList_toArray]
  rw [h3]
  rfl
theorem key_sub {s : ByteArray × ByteArray} (h1 : s.1.size ≤ maxLen) (h2 : s.2.size ≤ maxLen) : keyOf Try.prog 101 (.agg #[.string s.1, .string s.2]) = some (kS s) := by
  have h3 := lits_big (fun n => lits_sub n h1 h2) (Nat.lt_of_le_of_lt (Nat.zero_le _) rowS)
  unfold keyOf
  simp only [Try.underlying101, keyTS, formS, Bool.and_self, if_true, Value.cells, List.toList_toArray]
  rw [h3]
  rfl
theorem kE_inj {e d : Ed} (h1 : (Lit.int .i64 e.1).wf = true) (h2 : (Lit.int .i64 e.2.1).wf = true) (h3 : (Lit.int .i64 d.1).wf = true) (h4 : (Lit.int .i64 d.2.1).wf = true) (h : kE e = kE d) : e = d := by
  have := keyedE.inj (key_edge h1 h2) (h ▸ key_edge h3 h4)
  simp at this
  obtain ⟨q1, q2, q3⟩ := this
  exact Prod.ext q1 (Prod.ext q2 q3)
theorem kS_inj {e d : ByteArray × ByteArray} (h1 : e.1.size ≤ maxLen) (h2 : e.2.size ≤ maxLen) (h3 : d.1.size ≤ maxLen) (h4 : d.2.size ≤ maxLen) (h : kS e = kS d) : e = d := by
  have := keyedS.inj (key_sub h1 h2) (h ▸ key_sub h3 h4)
  simp at this
  exact Prod.ext this.1 this.2
end Go.Proofs.Ytinfbimfiaegdaa
