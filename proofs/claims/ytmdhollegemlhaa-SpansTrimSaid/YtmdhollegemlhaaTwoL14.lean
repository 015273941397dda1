/- Layer 14: two of the program's spans side by side, one call after another, in one word for all that stays. Conditions: none. -/
import Derived.Test.YtmdhollegemlhaaSpL14
import Derived.Test.YtmdhollegemlhaaLeadP14
namespace Go.Proofs.Ytmdhollegemlhaa
open Go.RowKit

theorem keysP_trim {r k : Int} (h : r ≤ k) (L : List Sp) : keysP (trimP L r) k = keysP L k := by
  unfold keysP trimP
  rw [List.filter_filter]
  congr 2
  funext x
  cases q : keptB r x with
  | true => rw [Bool.and_true]
  | false => rw [holdsP_kept h q]; rfl

/-- Spans at block g and spans at block h, made since w0, apart; all else of w0 is as it was. -/
def Tx (S : World → (Nat → Prop) → Nat → List Sp → Int → Prop) (w0 w : World) (g : Nat) (L : List Sp) (last : Int) (h : Nat) (M : List Sp) (mast : Int) : Prop :=
  ∃ F G, S w F g L last ∧ FineS L last ∧ S w G h M mast ∧ FineS M mast ∧ (∀ b, F b → w0.heap.size ≤ b) ∧ (∀ b, G b → w0.heap.size ≤ b) ∧ (∀ b, F b → ¬ G b) ∧ Below w0.heap.size w0 w
section
variable {S : World → (Nat → Prop) → Nat → List Sp → Int → Prop} {w0 w : World} {g h : Nat} {L M : List Sp} {last mast : Int}
theorem Tx.swap (x : Tx S w0 w g L last h M mast) : Tx S w0 w h M mast g L last := by
  obtain ⟨F, G, h1, h2, h3, h4, h5, h6, h7, h8⟩ := x
  exact ⟨G, F, h3, h4, h1, h2, h6, h5, fun b p q => h7 b q p, h8⟩
theorem Tx.left (x : Tx S w0 w g L last h M mast) : Sx S w0 w g L last := by
  obtain ⟨F, G, h1, h2, h3, h4, h5, h6, h7, h8⟩ := x
  exact ⟨F, h1, h2, h5, h8⟩
theorem Tx.right (x : Tx S w0 w g L last h M mast) : Sx S w0 w h M mast := x.swap.left
theorem Tx.below (x : Tx S w0 w g L last h M mast) : Below w0.heap.size w0 w := x.left.below
theorem Tx.up (K : SpK S) (x : Tx S w0 w g L last h M mast) {w' : World} (hb : Below w.heap.size w w') : Tx S w0 w' g L last h M mast := by
  obtain ⟨F, G, h1, h2, h3, h4, h5, h6, h7, h8⟩ := x
  exact ⟨F, G, K.keep h1 fun b q => hb.block b (K.lt h1 b q), h2, K.keep h3 fun b q => hb.block b (K.lt h3 b q), h4, h5, h6, h7, h8.trans (hb.mono h8.size)⟩
theorem Tx.drew (K : SpK S) (x : Tx S w0 w g L last h M mast) : Tx S w0 w.drew g L last h M mast := x.up K ⟨rfl, rfl, rfl, Nat.le_refl _, fun _ _ => rfl⟩
theorem Tx.new (K : SpK S) (x : Sx S w0 w g L last) : Calls Try.prog 10 #[] w fun e w' => ∃ h, e = .returned (.pointer (some ⟨h, 0, none⟩)) ∧ Tx S w0 w' g L last h [] 0 := by
  obtain ⟨F, h1, h2, h3, h4⟩ := x
  exact (K.new w).mono fun _ _ ⟨h, G, e, q1, q2, q3⟩ => ⟨h, e, F, G, K.keep h1 fun b q => q3.block b (K.lt h1 b q), h2, q1, FineS.nil, h3, fun b q => Nat.le_trans h4.size (q2 b q), fun b p q => by
    have := K.lt h1 b p
    have := q2 b q
    omega, bthen h4 h4.size q3⟩
theorem Tx.put (K : SpK S) (k : ByteArray) (r : Int) (x : Tx S w0 w g L last h M mast) (hL : L.length ≤ 100) (hk : k.size ≤ 40) (hr : r ≤ 1000000) :
    Calls Try.prog 11 #[.pointer (some ⟨g, 0, none⟩), .string k, .int .i64 r] w fun e w' => e = .returned (.bool (putP L last k r).isSome) ∧ Tx S w0 w' g ((putP L last k r).getD L) (if (putP L last k r).isSome then r else last) h M mast := by
  obtain ⟨F, G, h1, h2, h3, h4, h5, h6, h7, h8⟩ := x
  exact (K.put k r h1 h2 hL hk hr).mono fun _ _ ⟨F', e, q1, q2⟩ => ⟨e, F', G, q1, h2.putD, K.keep h3 fun b q => q2.old b (K.lt h3 b q) fun p => h7 b p q, h4, fun b q => by
    rcases q2.grow b q with q | q
    · exact h5 b q
    · have := h8.size; omega, h6, fun b p q => by
    rcases q2.grow b p with p | p
    · exact h7 b p q
    · have := K.lt h3 b q; omega, h8.trans (q2.rest _ h8.size h5)⟩
theorem Tx.drop (K : SpK S) (k : ByteArray) (r : Int) (x : Tx S w0 w g L last h M mast) (hL : L.length ≤ 100) (hk : k.size ≤ 40) (hr : r ≤ 1000000) :
    Calls Try.prog 13 #[.pointer (some ⟨g, 0, none⟩), .string k, .int .i64 r] w fun e w' => e = .returned (.bool (dropP L last k r).isSome) ∧ Tx S w0 w' g ((dropP L last k r).getD L) (if (dropP L last k r).isSome then r else last) h M mast := by
  obtain ⟨F, G, h1, h2, h3, h4, h5, h6, h7, h8⟩ := x
  exact (K.drop k r h1 h2 hL hk hr).mono fun _ _ ⟨F', e, q1, q2⟩ => ⟨e, F', G, q1, h2.dropD, K.keep h3 fun b q => q2.old b (K.lt h3 b q) fun p => h7 b p q, h4, fun b q => by
    rcases q2.grow b q with q | q
    · exact h5 b q
    · have := h8.size; omega, h6, fun b p q => by
    rcases q2.grow b p with p | p
    · exact h7 b p q
    · have := K.lt h3 b q; omega, h8.trans (q2.rest _ h8.size h5)⟩
theorem Tx.trim (K : SpK S) (r : Int) (x : Tx S w0 w g L last h M mast) (hM : M.length ≤ 100) :
    Calls Try.prog 15 #[.pointer (some ⟨h, 0, none⟩), .int .i64 r] w fun e w' => e = .returned (.int .i64 ((M.length : Int) - (trimP M r).length)) ∧ Tx S w0 w' g L last h (trimP M r) mast := by
  obtain ⟨F, G, h1, h2, h3, h4, h5, h6, h7, h8⟩ := x
  exact (K.trim r h3 h4 hM).mono fun _ _ ⟨G', e, q1, q2⟩ => ⟨e, F, G', K.keep h1 fun b q => q2.old b (K.lt h1 b q) fun p => h7 b q p, h2, q1, h4.trim r, h5, fun b q => by
    rcases q2.grow b q with q | q
    · exact h6 b q
    · have := h8.size; omega, fun b p q => by
    rcases q2.grow b q with q | q
    · exact h7 b p q
    · have := K.lt h1 b p; omega, h8.trans (q2.rest _ h8.size h6)⟩
theorem Tx.put2 (K : SpK S) (k : ByteArray) (r : Int) (x : Tx S w0 w g L last h M mast) (hM : M.length ≤ 100) (hk : k.size ≤ 40) (hr : r ≤ 1000000) :
    Calls Try.prog 11 #[.pointer (some ⟨h, 0, none⟩), .string k, .int .i64 r] w fun e w' => e = .returned (.bool (putP M mast k r).isSome) ∧ Tx S w0 w' g L last h ((putP M mast k r).getD M) (if (putP M mast k r).isSome then r else mast) :=
  (x.swap.put K k r hM hk hr).mono fun _ _ ⟨e, q⟩ => ⟨e, q.swap⟩
theorem Tx.drop2 (K : SpK S) (k : ByteArray) (r : Int) (x : Tx S w0 w g L last h M mast) (hM : M.length ≤ 100) (hk : k.size ≤ 40) (hr : r ≤ 1000000) :
    Calls Try.prog 13 #[.pointer (some ⟨h, 0, none⟩), .string k, .int .i64 r] w fun e w' => e = .returned (.bool (dropP M mast k r).isSome) ∧ Tx S w0 w' g L last h ((dropP M mast k r).getD M) (if (dropP M mast k r).isSome then r else mast) :=
  (x.swap.drop K k r hM hk hr).mono fun _ _ ⟨e, q⟩ => ⟨e, q.swap⟩
end
end Go.Proofs.Ytmdhollegemlhaa
