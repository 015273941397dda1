/- Layer 14: the program's functions, one call after another, in one word for all that stays. Conditions: none. -/
import Derived.Test.YtmdhollegemlhaaSpK14
namespace Go.Proofs.Ytmdhollegemlhaa
open Go.RowKit

/-- Spans at block g, made since w0; all else of w0 is as it was. -/
def Sx (S : World → (Nat → Prop) → Nat → List Sp → Int → Prop) (w0 w : World) (g : Nat) (L : List Sp) (last : Int) : Prop :=
  ∃ F, S w F g L last ∧ FineS L last ∧ (∀ b, F b → w0.heap.size ≤ b) ∧ Below w0.heap.size w0 w
section
variable {S : World → (Nat → Prop) → Nat → List Sp → Int → Prop} {w0 w : World} {g : Nat} {L L' : List Sp} {last : Int}
theorem Sx.below (h : Sx S w0 w g L last) : Below w0.heap.size w0 w := by
  obtain ⟨_, _, _, _, h⟩ := h
  exact h
theorem Sx.fine (h : Sx S w0 w g L last) : FineS L last := by
  obtain ⟨_, _, h, _⟩ := h
  exact h
theorem Sx.own (K : SpK S) {F F' : Nat → Prop} {w' : World} {last' : Int} (hF : ∀ b, F b → w0.heap.size ≤ b) (hb : Below w0.heap.size w0 w) (hS : S w' F' g L' last') (hf : FineS L' last') (hO : Own14 F F' w w') : Sx S w0 w' g L' last' :=
  have _ := K
  ⟨F', hS, hf, fun b q => by
    rcases hO.grow b q with q | q
    · exact hF b q
    · have := hb.size; omega, hb.trans (hO.rest _ hb.size hF)⟩
theorem Sx.up (K : SpK S) (h : Sx S w0 w g L last) {w' : World} (hb : Below w.heap.size w w') : Sx S w0 w' g L last := by
  obtain ⟨F, h1, h2, h3, h4⟩ := h
  exact ⟨F, K.keep h1 fun b q => hb.block b (K.lt h1 b q), h2, h3, h4.trans (hb.mono h4.size)⟩
theorem Sx.drew (K : SpK S) (h : Sx S w0 w g L last) : Sx S w0 w.drew g L last := h.up K ⟨rfl, rfl, rfl, Nat.le_refl _, fun _ _ => rfl⟩
theorem Sx.new (K : SpK S) (w0 w : World) (hb : Below w0.heap.size w0 w) : Calls Try.prog 10 #[] w fun e w' => ∃ g, e = .returned (.pointer (some ⟨g, 0, none⟩)) ∧ Sx S w0 w' g [] 0 :=
  (K.new w).mono fun _ _ ⟨g, F, e, h1, h2, h3⟩ => ⟨g, e, F, h1, FineS.nil, fun b q => Nat.le_trans hb.size (h2 b q), bthen hb hb.size h3⟩
theorem Sx.putNo (K : SpK S) (k : ByteArray) (r : Int) (h : Sx S w0 w g L last) (hL : L.length ≤ 100) (hk : k.size ≤ 40) (hr : r ≤ 1000000) (e : putP L last k r = none) :
    Calls Try.prog 11 #[.pointer (some ⟨g, 0, none⟩), .string k, .int .i64 r] w fun e w' => e = .returned (.bool false) ∧ Sx S w0 w' g L last := by
  obtain ⟨F, h1, h2, h3, h4⟩ := h
  have k0 := K.put k r h1 h2 hL hk hr
  rw [e] at k0
  exact k0.mono fun _ _ ⟨F', e, q1, q2⟩ => ⟨e, Sx.own K h3 h4 q1 h2 q2⟩
theorem Sx.putYes (K : SpK S) (k : ByteArray) (r : Int) (h : Sx S w0 w g L last) (hL : L.length ≤ 100) (hk : k.size ≤ 40) (hr : r ≤ 1000000) (e : putP L last k r = some L') :
    Calls Try.prog 11 #[.pointer (some ⟨g, 0, none⟩), .string k, .int .i64 r] w fun e w' => e = .returned (.bool true) ∧ Sx S w0 w' g L' r := by
  obtain ⟨F, h1, h2, h3, h4⟩ := h
  have k0 := K.put k r h1 h2 hL hk hr
  rw [e] at k0
  exact k0.mono fun _ _ ⟨F', e', q1, q2⟩ => ⟨e', Sx.own K h3 h4 q1 (h2.put e) q2⟩
theorem Sx.dropNo (K : SpK S) (k : ByteArray) (r : Int) (h : Sx S w0 w g L last) (hL : L.length ≤ 100) (hk : k.size ≤ 40) (hr : r ≤ 1000000) (e : dropP L last k r = none) :
    Calls Try.prog 13 #[.pointer (some ⟨g, 0, none⟩), .string k, .int .i64 r] w fun e w' => e = .returned (.bool false) ∧ Sx S w0 w' g L last := by
  obtain ⟨F, h1, h2, h3, h4⟩ := h
  have k0 := K.drop k r h1 h2 hL hk hr
  rw [e] at k0
  exact k0.mono fun _ _ ⟨F', e, q1, q2⟩ => ⟨e, Sx.own K h3 h4 q1 h2 q2⟩
theorem Sx.dropYes (K : SpK S) (k : ByteArray) (r : Int) (h : Sx S w0 w g L last) (hL : L.length ≤ 100) (hk : k.size ≤ 40) (hr : r ≤ 1000000) (e : dropP L last k r = some L') :
    Calls Try.prog 13 #[.pointer (some ⟨g, 0, none⟩), .string k, .int .i64 r] w fun e w' => e = .returned (.bool true) ∧ Sx S w0 w' g L' r := by
  obtain ⟨F, h1, h2, h3, h4⟩ := h
  have k0 := K.drop k r h1 h2 hL hk hr
  rw [e] at k0
  exact k0.mono fun _ _ ⟨F', e', q1, q2⟩ => ⟨e', Sx.own K h3 h4 q1 (h2.drop e) q2⟩
theorem Sx.put (K : SpK S) (k : ByteArray) (r : Int) (h : Sx S w0 w g L last) (hL : L.length ≤ 100) (hk : k.size ≤ 40) (hr : r ≤ 1000000) :
    Calls Try.prog 11 #[.pointer (some ⟨g, 0, none⟩), .string k, .int .i64 r] w fun e w' => e = .returned (.bool (putP L last k r).isSome) ∧ Sx S w0 w' g ((putP L last k r).getD L) (if (putP L last k r).isSome then r else last) := by
  cases e : putP L last k r with
  | none => exact h.putNo K k r hL hk hr e
  | some L' => exact h.putYes K k r hL hk hr e
theorem Sx.drop (K : SpK S) (k : ByteArray) (r : Int) (h : Sx S w0 w g L last) (hL : L.length ≤ 100) (hk : k.size ≤ 40) (hr : r ≤ 1000000) :
    Calls Try.prog 13 #[.pointer (some ⟨g, 0, none⟩), .string k, .int .i64 r] w fun e w' => e = .returned (.bool (dropP L last k r).isSome) ∧ Sx S w0 w' g ((dropP L last k r).getD L) (if (dropP L last k r).isSome then r else last) := by
  cases e : dropP L last k r with
  | none => exact h.dropNo K k r hL hk hr e
  | some L' => exact h.dropYes K k r hL hk hr e
theorem Sx.trim (K : SpK S) (r : Int) (h : Sx S w0 w g L last) (hL : L.length ≤ 100) :
    Calls Try.prog 15 #[.pointer (some ⟨g, 0, none⟩), .int .i64 r] w fun e w' => e = .returned (.int .i64 ((L.length : Int) - (trimP L r).length)) ∧ Sx S w0 w' g (trimP L r) last := by
  obtain ⟨F, h1, h2, h3, h4⟩ := h
  exact (K.trim r h1 h2 hL).mono fun _ _ ⟨F', e', q1, q2⟩ => ⟨e', Sx.own K h3 h4 q1 (h2.trim r) q2⟩
theorem Sx.has (K : SpK S) (k : ByteArray) (r : Int) (h : Sx S w0 w g L last) (hL : L.length ≤ 100) (hk : k.size ≤ maxLen) :
    Calls Try.prog 19 #[.pointer (some ⟨g, 0, none⟩), .string k, .int .i64 r] w fun e w' => e = .returned (.bool (hasP L k r)) ∧ Sx S w0 w' g L last := by
  have h0 := h
  obtain ⟨F, h1, h2, h3, h4⟩ := h
  exact (K.has k r h1 h2 hL hk).mono fun _ _ ⟨e', q⟩ => ⟨e', h0.up K q⟩
theorem Sx.count (K : SpK S) (r : Int) (h : Sx S w0 w g L last) (hL : L.length ≤ 100) :
    Calls Try.prog 21 #[.pointer (some ⟨g, 0, none⟩), .int .i64 r] w fun e w' => e = .returned (.int .i64 (countP L r)) ∧ Sx S w0 w' g L last ∧ Below w.heap.size w w' := by
  have h0 := h
  obtain ⟨F, h1, h2, h3, h4⟩ := h
  exact (K.count r h1 h2 hL).mono fun _ _ ⟨e', q⟩ => ⟨e', h0.up K q, q⟩
theorem Sx.next (K : SpK S) (r : Int) (lo hi : ByteArray) (h : Sx S w0 w g L last) (hL : L.length ≤ 100) :
    Calls Try.prog 17 #[.pointer (some ⟨g, 0, none⟩), .int .i64 r, .string lo, .string hi] w fun e w' => e = .returned (.tuple #[.string ((nextP L r lo hi).getD ⟨#[]⟩), .bool (nextP L r lo hi).isSome]) ∧ Sx S w0 w' g L last ∧ Below w.heap.size w w' := by
  have h0 := h
  obtain ⟨F, h1, h2, h3, h4⟩ := h
  exact (K.next r lo hi h1 h2 hL).mono fun _ _ ⟨e', q⟩ => ⟨e', h0.up K q, q⟩
theorem Sx.events (K : SpK S) (a b : Int) (h : Sx S w0 w g L last) (hL : L.length ≤ 100) :
    Calls Try.prog 23 #[.pointer (some ⟨g, 0, none⟩), .int .i64 a, .int .i64 b] w fun e w' => ∃ A c, e = .returned (.slice A (eventsP L a b).length c) ∧ Rd w' w'.heap.size 3 A (eventsP L a b).length c (ecs (eventsP L a b)) ∧ Sx S w0 w' g L last ∧ Below w.heap.size w w' := by
  have h0 := h
  obtain ⟨F, h1, h2, h3, h4⟩ := h
  exact (K.events a b h1 h2 hL).mono fun _ _ ⟨A, c, e', q1, q2⟩ => ⟨A, c, e', q1, h0.up K q2, q2⟩
theorem Sx.hasB (K : SpK S) (k : ByteArray) (r : Int) (h : Sx S w0 w g L last) (hL : L.length ≤ 100) (hk : k.size ≤ maxLen) {z : Bool} (e : hasP L k r = z) :
    Calls Try.prog 19 #[.pointer (some ⟨g, 0, none⟩), .string k, .int .i64 r] w fun e w' => e = .returned (.bool z) ∧ Sx S w0 w' g L last ∧ Below w.heap.size w w' := by
  subst e
  have h0 := h
  obtain ⟨F, h1, h2, h3, h4⟩ := h
  exact (K.has k r h1 h2 hL hk).mono fun _ _ ⟨e', q⟩ => ⟨e', h0.up K q, q⟩
theorem Sx.hasIs (K : SpK S) (k : ByteArray) (r : Int) (h : Sx S w0 w g L last) (hL : L.length ≤ 100) (hk : k.size ≤ maxLen) {z : Bool} (e : hasP L k r = z) :
    Calls Try.prog 19 #[.pointer (some ⟨g, 0, none⟩), .string k, .int .i64 r] w fun e w' => e = .returned (.bool z) ∧ Sx S w0 w' g L last := by
  subst e
  exact h.has K k r hL hk
theorem Sx.countIs (K : SpK S) (r : Int) (h : Sx S w0 w g L last) (hL : L.length ≤ 100) {z : Int} (e : (countP L r : Int) = z) :
    Calls Try.prog 21 #[.pointer (some ⟨g, 0, none⟩), .int .i64 r] w fun e w' => e = .returned (.int .i64 z) ∧ Sx S w0 w' g L last := by
  subst e
  exact (h.count K r hL).mono fun _ _ ⟨q1, q2, _⟩ => ⟨q1, q2⟩
theorem Sx.trimIs (K : SpK S) (r : Int) (h : Sx S w0 w g L last) (hL : L.length ≤ 100) {z : Int} (e : trimP L r = L') (ez : (L.length : Int) - L'.length = z) :
    Calls Try.prog 15 #[.pointer (some ⟨g, 0, none⟩), .int .i64 r] w fun e w' => e = .returned (.int .i64 z) ∧ Sx S w0 w' g L' last := by
  subst e
  subst ez
  exact h.trim K r hL
end
end Go.Proofs.Ytmdhollegemlhaa
