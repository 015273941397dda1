/- Layer 10: edges, and paths of relations, as keys of a map. Conditions: none. -/
import Derived.Maps.Own
import Derived.Maps.OwnOps
import Derived.Maps.OwnSet
import Derived.Maps.Views
import Derived.Test.YteafdhpcnpfmkaaGreatLevels
namespace Go.Proofs.YteafdhpcnpfmkaaGreat
open Go.RowKit Go.Maps

theorem laidP : laidOutB Tryz.prog = true := by kernel_rfl
theorem rowE : (117 : TypeId) < Tryz.prog.types.size := of_decide_eq_true (by kernel_rfl)
theorem rowS : (104 : TypeId) < Tryz.prog.types.size := of_decide_eq_true (by kernel_rfl)
theorem keyAE : Tryz.prog.keyTypeAt 2 117 = true := by kernel_rfl
theorem keyAS : Tryz.prog.keyTypeAt 2 104 = true := by kernel_rfl
theorem lawE : WideMaps.KeyLaw Tryz.prog 117 := deep_law_laid laidP (m := 2) (by omega) rowE keyAE (by rw [Tryz.underlying117])
theorem lawS : WideMaps.KeyLaw Tryz.prog 104 := deep_law_laid laidP (m := 2) (by omega) rowS keyAS (by rw [Tryz.underlying104])
theorem keyedE : Keyed Tryz.prog 117 := Keyed.of_law lawE
theorem keyedS : Keyed Tryz.prog 104 := Keyed.of_law lawS
theorem keyTE : Tryz.prog.keyType 117 = true := by kernel_rfl
theorem keyTS : Tryz.prog.keyType 104 = true := by kernel_rfl
theorem cellsE : Tryz.prog.cellsOf 117 = 3 := by kernel_rfl
theorem cellsS : Tryz.prog.cellsOf 104 = 2 := by kernel_rfl
theorem cells1 : Tryz.prog.cellsOf 3 = 1 := by kernel_rfl
theorem cells1b : Tryz.prog.cellsOf 4 = 1 := by kernel_rfl
theorem cells1s : Tryz.prog.cellsOf 9 = 1 := by kernel_rfl
/-- An edge as a key. -/
def kE (e : Ed) : Lit := .string (keyBytes [.int .i64 e.1, .int .i64 e.2.1, .bool e.2.2])
/-- A path as a key. -/
def kS (s : ByteArray × ByteArray) : Lit := .string (keyBytes [.string s.1.data.toList, .string s.2.data.toList])
theorem lits_edge (n : Nat) {e : Ed} (h1 : (Lit.int .i64 e.1).wf = true) (h2 : (Lit.int .i64 e.2.1).wf = true) : Tryz.prog.keyLits (n + 2) 117 [.int .i64 e.1, .int .i64 e.2.1, .bool e.2.2] = some [.int .i64 e.1, .int .i64 e.2.1, .bool e.2.2] := by
  simp [Program.keyLits, Tryz.underlying117, cellsE, cells1, cells1b, Tryz.underlying3, Tryz.underlying4, h1, h2]
theorem lits_sub (n : Nat) {s : ByteArray × ByteArray} (h1 : s.1.size ≤ maxLen) (h2 : s.2.size ≤ maxLen) : Tryz.prog.keyLits (n + 2) 104 [.string s.1, .string s.2] = some [.string s.1.data.toList, .string s.2.data.toList] := by
  simp [Program.keyLits, Tryz.underlying104, cellsS, cells1s, Tryz.underlying9, h1, h2]
theorem formE (a b c : Value) : (Value.agg #[a, b, c]).formed Tryz.prog 117 = true := by simp [Value.formed, Tryz.underlying117, cellsE]
theorem formS (a b : Value) : (Value.agg #[a, b]).formed Tryz.prog 104 = true := by simp [Value.formed, Tryz.underlying104, cellsS]
theorem lits_big {t : TypeId} {cs : List Value} {r : List Lit} (h : ∀ n, Tryz.prog.keyLits (n + 2) t cs = some r) (ht : 0 < Tryz.prog.types.size) : Tryz.prog.keyLits (Tryz.prog.types.size + 1) t cs = some r := by
  obtain ⟨n, hn⟩ : ∃ n, Tryz.prog.types.size = n + 1 := ⟨Tryz.prog.types.size - 1, by omega⟩
  rw [hn]
  exact h n
theorem key_edge {e : Ed} (h1 : (Lit.int .i64 e.1).wf = true) (h2 : (Lit.int .i64 e.2.1).wf = true) : keyOf Tryz.prog 117 (.agg #[.int .i64 e.1, .int .i64 e.2.1, .bool e.2.2]) = some (kE e) := by
  have h3 := lits_big (fun n => lits_edge n h1 h2) (Nat.lt_of_le_of_lt (Nat.zero_le _) rowE)
  unfold keyOf
  simp only [Tryz.underlying117, keyTE, formE, Bool.and_self, if_true, Value.cells, List.toList_toArray]
  rw [h3]
  rfl
theorem key_sub {s : ByteArray × ByteArray} (h1 : s.1.size ≤ maxLen) (h2 : s.2.size ≤ maxLen) : keyOf Tryz.prog 104 (.agg #[.string s.1, .string s.2]) = some (kS s) := by
  have h3 := lits_big (fun n => lits_sub n h1 h2) (Nat.lt_of_le_of_lt (Nat.zero_le _) rowS)
  unfold keyOf
  simp only [Tryz.underlying104, keyTS, formS, Bool.and_self, if_true, Value.cells, List.toList_toArray]
  rw [h3]
  rfl
theorem kE_inj {e d : Ed} (h1 : (Lit.int .i64 e.1).wf = true) (h2 : (Lit.int .i64 e.2.1).wf = true) (h3 : (Lit.int .i64 d.1).wf = true) (h4 : (Lit.int .i64 d.2.1).wf = true) (h : kE e = kE d) : e = d := by
  have := keyedE.inj (key_edge h1 h2) (h ▸ key_edge h3 h4)
  simp at this
  obtain ⟨q1, q2, q3⟩ := this
  exact Prod.ext q1 (Prod.ext q2 q3)
theorem kS_inj {e d : ByteArray × ByteArray} (h1 : e.1.size ≤ maxLen) (h2 : e.2.size ≤ maxLen) (h3 : d.1.size ≤ maxLen) (h4 : d.2.size ≤ maxLen) (h : kS e = kS d) : e = d := by
  have := keyedS.inj (key_sub h1 h2) (h ▸ key_sub h3 h4)
  simp at this
  exact Prod.ext this.1 this.2
end Go.Proofs.YteafdhpcnpfmkaaGreat
