/- Layer 14: what the program's functions are asked to do, as one premise: the laws are walked against it; it is to be shown of the landed code. Conditions: none. -/
import Derived.Test.YtmdhollegemlhaaArgQ14
import Derived.Test.YtmdhollegemlhaaEvP14
import Derived.Test.YtmdhollegemlhaaRefE14
namespace Go.Proofs.Ytmdhollegemlhaa
open Go.RowKit

/-- From one world to another one only F's blocks changed, and F' is F with new ones. -/
structure Own14 (F F' : Nat → Prop) (w w' : World) : Prop where
  le : w.heap.size ≤ w'.heap.size
  old : ∀ b, b < w.heap.size → ¬ F b → w'.heap[b]? = w.heap[b]?
  grow : ∀ b, F' b → F b ∨ w.heap.size ≤ b
  rest : ∀ B, B ≤ w.heap.size → (∀ b, F b → B ≤ b) → Below B w w'
/-- Spans in memory: S w F g L last: block g's spans are L, last the last revision; all that they stand in is F. -/
structure SpK (S : World → (Nat → Prop) → Nat → List Sp → Int → Prop) : Prop where
  lt : ∀ {w F g L last}, S w F g L last → ∀ b, F b → b < w.heap.size
  keep : ∀ {w w' F g L last}, S w F g L last → (∀ b, F b → w'.heap[b]? = w.heap[b]?) → S w' F g L last
  new : ∀ w, Calls Try.prog 10 #[] w fun e w' => ∃ g F, e = .returned (.pointer (some ⟨g, 0, none⟩)) ∧ S w' F g [] 0 ∧ (∀ b, F b → w.heap.size ≤ b) ∧ Below w.heap.size w w'
  put : ∀ {w F g L last} (k : ByteArray) (r : Int), S w F g L last → FineS L last → L.length ≤ 100 → k.size ≤ 40 → r ≤ 1000000 → Calls Try.prog 11 #[.pointer (some ⟨g, 0, none⟩), .string k, .int .i64 r] w fun e w' => ∃ F', e = .returned (.bool (putP L last k r).isSome) ∧ S w' F' g ((putP L last k r).getD L) (if (putP L last k r).isSome then r else last) ∧ Own14 F F' w w'
  drop : ∀ {w F g L last} (k : ByteArray) (r : Int), S w F g L last → FineS L last → L.length ≤ 100 → k.size ≤ 40 → r ≤ 1000000 → Calls Try.prog 13 #[.pointer (some ⟨g, 0, none⟩), .string k, .int .i64 r] w fun e w' => ∃ F', e = .returned (.bool (dropP L last k r).isSome) ∧ S w' F' g ((dropP L last k r).getD L) (if (dropP L last k r).isSome then r else last) ∧ Own14 F F' w w'
  trim : ∀ {w F g L last} (r : Int), S w F g L last → FineS L last → L.length ≤ 100 → Calls Try.prog 15 #[.pointer (some ⟨g, 0, none⟩), .int .i64 r] w fun e w' => ∃ F', e = .returned (.int .i64 ((L.length : Int) - (trimP L r).length)) ∧ S w' F' g (trimP L r) last ∧ Own14 F F' w w'
  has : ∀ {w F g L last} (k : ByteArray) (r : Int), S w F g L last → FineS L last → L.length ≤ 100 → k.size ≤ maxLen → Calls Try.prog 19 #[.pointer (some ⟨g, 0, none⟩), .string k, .int .i64 r] w fun e w' => e = .returned (.bool (hasP L k r)) ∧ Below w.heap.size w w'
  next : ∀ {w F g L last} (r : Int) (lo hi : ByteArray), S w F g L last → FineS L last → L.length ≤ 100 → Calls Try.prog 17 #[.pointer (some ⟨g, 0, none⟩), .int .i64 r, .string lo, .string hi] w fun e w' => e = .returned (.tuple #[.string ((nextP L r lo hi).getD ⟨#[]⟩), .bool (nextP L r lo hi).isSome]) ∧ Below w.heap.size w w'
  count : ∀ {w F g L last} (r : Int), S w F g L last → FineS L last → L.length ≤ 100 → Calls Try.prog 21 #[.pointer (some ⟨g, 0, none⟩), .int .i64 r] w fun e w' => e = .returned (.int .i64 (countP L r)) ∧ Below w.heap.size w w'
  events : ∀ {w F g L last} (a b : Int), S w F g L last → FineS L last → L.length ≤ 100 → Calls Try.prog 23 #[.pointer (some ⟨g, 0, none⟩), .int .i64 a, .int .i64 b] w fun e w' => ∃ A c, e = .returned (.slice A (eventsP L a b).length c) ∧ Rd w' w'.heap.size 3 A (eventsP L a b).length c (ecs (eventsP L a b)) ∧ Below w.heap.size w w'
theorem FineS.putD {L : List Sp} {last r : Int} {k : ByteArray} (h : FineS L last) : FineS ((putP L last k r).getD L) (if (putP L last k r).isSome then r else last) := by
  cases e : putP L last k r with
  | none => exact h
  | some L' => exact h.put e
theorem FineS.dropD {L : List Sp} {last r : Int} {k : ByteArray} (h : FineS L last) : FineS ((dropP L last k r).getD L) (if (dropP L last k r).isSome then r else last) := by
  cases e : dropP L last k r with
  | none => exact h
  | some L' => exact h.drop e
theorem putP_lenD (L : List Sp) (last r : Int) (k : ByteArray) : ((putP L last k r).getD L).length ≤ L.length + 1 := by
  cases e : putP L last k r with
  | none => exact Nat.le_succ _
  | some L' =>
    obtain ⟨_, _, _, rfl⟩ := putP_some e
    simp
theorem dropP_lenD (L : List Sp) (last r : Int) (k : ByteArray) : ((dropP L last k r).getD L).length = L.length := by
  cases e : dropP L last k r with
  | none => rfl
  | some L' =>
    obtain ⟨i, x, _, _, _, _, _, _, rfl⟩ := dropP_some e
    simp
theorem fewA_at {l : List Ac} (h : fewA l = true) : l.length ≤ 60 ∧ ∀ (i : Nat) x, l[i]? = some x → x.2.1.size ≤ 40 ∧ x.2.2 ≤ 1000000 := by
  unfold fewA at h
  rw [Bool.and_eq_true, decide_eq_true_eq, List.all_eq_true] at h
  refine ⟨h.2, fun i x hx => ?_⟩
  have := h.1 x (List.mem_of_getElem? hx)
  rw [Bool.and_eq_true, decide_eq_true_eq, decide_eq_true_eq] at this
  exact this
end Go.Proofs.Ytmdhollegemlhaa
