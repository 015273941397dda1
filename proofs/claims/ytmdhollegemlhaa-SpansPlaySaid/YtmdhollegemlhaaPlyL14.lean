/- Layer 14: the program's spans beside the document's own, which lie in a box: one call after another, in one word for all that stays. Conditions: none. -/
import Derived.Test.YtmdhollegemlhaaMapW14
import Derived.Test.YtmdhollegemlhaaSpL14
import Derived.Test.YtmdhollegemlhaaRefD14
import Derived.Test.YtmdhollegemlhaaRefT14
import Derived.Test.YtmdhollegemlhaaRefN14
import Derived.Test.YtmdhollegemlhaaRefV14
namespace Go.Proofs.Ytmdhollegemlhaa
open Go.RowKit

theorem Rd.same {w w' : World} {B size n c : Nat} {A : Option Addr} {xs : List Value} (h : Rd w B size A n c xs) (hk : ∀ b o q, A = some ⟨b, o, q⟩ → 0 < n → b < B → w'.heap[b]? = w.heap[b]?) : Rd w' B size A n c xs :=
  ⟨h.len, h.cap, h.capm, h.nil, fun hn => by
    obtain ⟨b, o, e, hb, hc⟩ := h.at_ hn
    have hh := hk b o none e hn hb
    exact ⟨b, o, e, hb, fun j u hj => by
      have := hc j u hj
      unfold World.cell? at this ⊢
      dsimp only at this ⊢
      rw [hh]
      exact this⟩⟩

/-- The program's spans at block g; the document's box bw, which holds v; blocks H and slices R that nobody writes. -/
structure Px (S : World → (Nat → Prop) → Nat → List Sp → Int → Prop) (w0 w : World) (F : Nat → Prop) (g : Nat) (L : List Sp) (last : Int) (bw : Nat) (v : Array Value) (H : List (Nat × Array Value × TypeId)) (R : List (Option Addr × Nat × List Sp)) : Prop where
  sp : S w F g L last
  fine : FineS L last
  hF : ∀ b, F b → w0.heap.size ≤ b
  bx : w0.heap.size ≤ bw
  bF : ¬ F bw
  bo : Rk w bw v 30
  hd : ∀ h ∈ H, Rk w h.1 h.2.1 h.2.2 ∧ ¬ F h.1 ∧ h.1 ≠ bw
  rd : ∀ r ∈ R, Rd w w.heap.size 3 r.1 r.2.2.length r.2.1 (scs r.2.2) ∧ ∀ b o q, r.1 = some ⟨b, o, q⟩ → 0 < r.2.2.length → ¬ F b ∧ b ≠ bw
  be : Below w0.heap.size w0 w
def Py (S : World → (Nat → Prop) → Nat → List Sp → Int → Prop) (w0 w : World) (g : Nat) (L : List Sp) (last : Int) (bw : Nat) (v : Array Value) (H : List (Nat × Array Value × TypeId)) (R : List (Option Addr × Nat × List Sp)) : Prop := ∃ F, Px S w0 w F g L last bw v H R
section
variable {S : World → (Nat → Prop) → Nat → List Sp → Int → Prop} {w0 w w' : World} {F F' : Nat → Prop} {g bw : Nat} {L L' : List Sp} {last last' : Int} {v : Array Value} {H : List (Nat × Array Value × TypeId)} {R : List (Option Addr × Nat × List Sp)}
theorem Px.own (x : Px S w0 w F g L last bw v H R) (hO : Own14 F F' w w') (hS : S w' F' g L' last') (hf : FineS L' last') : Px S w0 w' F' g L' last' bw v H R where
  sp := hS
  fine := hf
  hF := fun b q => by
    rcases hO.grow b q with q | q
    · exact x.hF b q
    · have := x.be.size; omega
  bx := x.bx
  bF := fun q => by
    rcases hO.grow _ q with q | q
    · exact x.bF q
    · have := x.bo.lt; omega
  bo := x.bo.same (hO.old _ x.bo.lt x.bF)
  hd := fun h hh => by
    obtain ⟨h1, h2, h3⟩ := x.hd h hh
    refine ⟨h1.same (hO.old _ h1.lt h2), fun q => ?_, h3⟩
    rcases hO.grow _ q with q | q
    · exact h2 q
    · have := h1.lt; omega
  rd := fun r hr => by
    obtain ⟨h1, h2⟩ := x.rd r hr
    refine ⟨(h1.same fun b o q e hn hb => hO.old b hb (h2 b o q e hn).1).more hO.le, fun b o q e hn => ⟨fun f => ?_, (h2 b o q e hn).2⟩⟩
    rcases hO.grow b f with f | f
    · exact (h2 b o q e hn).1 f
    · obtain ⟨b', o', e', hb', _⟩ := h1.at_ hn
      rw [e] at e'
      injection e' with e'
      injection e' with e1
      omega
  be := x.be.trans (hO.rest _ x.be.size x.hF)
theorem Px.up (K : SpK S) (x : Px S w0 w F g L last bw v H R) (hb : Below w.heap.size w w') : Px S w0 w' F g L last bw v H R where
  sp := K.keep x.sp fun b q => hb.block b (K.lt x.sp b q)
  fine := x.fine
  hF := x.hF
  bx := x.bx
  bF := x.bF
  bo := x.bo.same (hb.block _ x.bo.lt)
  hd := fun h hh => by
    obtain ⟨h1, h2, h3⟩ := x.hd h hh
    exact ⟨h1.same (hb.block _ h1.lt), h2, h3⟩
  rd := fun r hr => by
    obtain ⟨h1, h2⟩ := x.rd r hr
    exact ⟨h1.up hb, h2⟩
  be := x.be.trans (hb.mono x.be.size)
theorem Px.hold (K : SpK S) (x : Px S w0 w F g L last bw v H R) (hb : Below w.heap.size w w') {b : Nat} {cs : Array Value} {t : TypeId} (hr : Rk w' b cs t) (hl : w.heap.size ≤ b) : Px S w0 w' F g L last bw v ((b, cs, t) :: H) R :=
  { x.up K hb with
    hd := fun h hh => by
      rcases List.mem_cons.1 hh with rfl | hh
      · exact ⟨hr, fun q => by have := K.lt x.sp _ q; dsimp only at this; omega, by have := x.bo.lt; dsimp only; omega⟩
      · exact (x.up K hb).hd h hh }
theorem Px.see (K : SpK S) (x : Px S w0 w F g L last bw v H R) (hb : Below w.heap.size w w') {A A' : Option Addr} {c c' : Nat} {M M' : List Sp} (hr : Rd w' w'.heap.size 3 A' M'.length c' (scs M')) (hA : (A, c, M) ∈ R) (hf : A' = A ∧ M' = M ∨ ∀ b o q, A' = some ⟨b, o, q⟩ → w.heap.size ≤ b) : Px S w0 w' F g L last bw v H [(A', c', M')] :=
  { x.up K hb with
    rd := fun r hh => by
      rw [List.mem_singleton] at hh
      subst hh
      refine ⟨hr, fun b o q e hn => ?_⟩
      rcases hf with ⟨rfl, rfl⟩ | hf
      · exact (x.rd _ hA).2 b o q e hn
      · have := hf b o q e
        exact ⟨fun f => by have := K.lt x.sp _ f; omega, by have := x.bo.lt; omega⟩ }
theorem Px.set (K : SpK S) {a b : Value} (x : Px S w0 w F g L last bw #[a, b] H R) (y z : Value) : Px S w0 ((w.setCell ⟨bw, 0, none⟩ y).setCell ⟨bw, 1, none⟩ z) F g L last bw #[y, z] H R :=
  have hs : ∀ k, k ≠ bw → ((w.setCell ⟨bw, 0, none⟩ y).setCell ⟨bw, 1, none⟩ z).heap[k]? = w.heap[k]? := fun k hk => (Below.heap_setCell _ _ _ _ hk).trans (Below.heap_setCell _ _ _ _ hk)
  { sp := K.keep x.sp fun b q => hs b fun e => x.bF (e ▸ q)
    fine := x.fine
    hF := x.hF
    bx := x.bx
    bF := x.bF
    bo := (x.bo.set 0 y).set 1 z
    hd := fun h hh => by
      obtain ⟨h1, h2, h3⟩ := x.hd h hh
      exact ⟨h1.same (hs _ h3), h2, h3⟩
    rd := fun r hr => by
      obtain ⟨h1, h2⟩ := x.rd r hr
      exact ⟨(h1.same fun b o q e hn hb => hs b (h2 b o q e hn).2).more (by simp [World.setCell]), h2⟩
    be := (x.be.setCell x.bx _).setCell x.bx _ }

/-- Begun: spans made since w0, and a new box of nothing. -/
theorem Py.start (K : SpK S) (x : Sx S w0 w g L last) : Py S w0 (w.alloc (.cells #[.slice none 0 0, .int .i64 0] 30)) g L last w.heap.size #[.slice none 0 0, .int .i64 0] [] [(none, 0, [])] := by
  obtain ⟨F, h1, h2, h3, h4⟩ := x
  exact ⟨F,
    { sp := K.keep h1 fun b q => Below.heap_alloc _ _ _ (K.lt h1 b q)
      fine := h2
      hF := h3
      bx := h4.size
      bF := fun q => Nat.lt_irrefl _ (K.lt h1 _ q)
      bo := Rk.new _ _ _
      hd := fun h hh => by cases hh
      rd := fun r hr => by
        rw [List.mem_singleton] at hr
        subst hr
        exact ⟨⟨rfl, Nat.le_refl _, Nat.zero_le _, fun _ => ⟨rfl, rfl⟩, fun h => absurd h (Nat.lt_irrefl _)⟩, fun b o q e => by cases e⟩
      be := h4.trans ((Below.refl _ _).alloc h4.size _) }⟩
theorem Py.sx (x : Py S w0 w g L last bw v H R) : Sx S w0 w g L last := by
  obtain ⟨F, x⟩ := x
  exact ⟨F, x.sp, x.fine, x.hF, x.be⟩
theorem Py.below (x : Py S w0 w g L last bw v H R) : Below w0.heap.size w0 w := x.sx.below
theorem Py.up (K : SpK S) (x : Py S w0 w g L last bw v H R) (hb : Below w.heap.size w w') : Py S w0 w' g L last bw v H R := by
  obtain ⟨F, x⟩ := x
  exact ⟨F, x.up K hb⟩
theorem Py.drew (K : SpK S) (x : Py S w0 w g L last bw v H R) : Py S w0 w.drew g L last bw v H R := x.up K ⟨rfl, rfl, rfl, Nat.le_refl _, fun _ _ => rfl⟩
theorem Py.hold (K : SpK S) (x : Py S w0 w g L last bw v H R) (hb : Below w.heap.size w w') {b : Nat} {cs : Array Value} {t : TypeId} (hr : Rk w' b cs t) (hl : w.heap.size ≤ b) : Py S w0 w' g L last bw v ((b, cs, t) :: H) R := by
  obtain ⟨F, x⟩ := x
  exact ⟨F, x.hold K hb hr hl⟩
theorem Py.forget (x : Py S w0 w g L last bw v H R) : Py S w0 w g L last bw v [] R := by
  obtain ⟨F, x⟩ := x
  exact ⟨F, { x with hd := fun h hh => by cases hh }⟩
theorem Py.see (K : SpK S) (x : Py S w0 w g L last bw v H R) (hb : Below w.heap.size w w') {A A' : Option Addr} {c c' : Nat} {M M' : List Sp} (hr : Rd w' w'.heap.size 3 A' M'.length c' (scs M')) (hA : (A, c, M) ∈ R) (hf : A' = A ∧ M' = M ∨ ∀ b o q, A' = some ⟨b, o, q⟩ → w.heap.size ≤ b) : Py S w0 w' g L last bw v H [(A', c', M')] := by
  obtain ⟨F, x⟩ := x
  exact ⟨F, x.see K hb hr hA hf⟩
theorem Py.set (K : SpK S) {a b : Value} (x : Py S w0 w g L last bw #[a, b] H R) (y z : Value) : Py S w0 ((w.setCell ⟨bw, 0, none⟩ y).setCell ⟨bw, 1, none⟩ z) g L last bw #[y, z] H R := by
  obtain ⟨F, x⟩ := x
  exact ⟨F, x.set K y z⟩
theorem Py.box {a b : Value} (x : Py S w0 w g L last bw #[a, b] H R) : w.cell? ⟨bw, 0, none⟩ = some a ∧ w.cell? ⟨bw, 1, none⟩ = some b ∧ w.frozen? ⟨bw, 0, none⟩ = false ∧ w.frozen? ⟨bw, 1, none⟩ = false := by
  obtain ⟨F, x⟩ := x
  exact ⟨x.bo.two.1, x.bo.two.2, x.bo.fz 0, x.bo.fz 1⟩
theorem Py.held (x : Py S w0 w g L last bw v H R) {h : Nat × Array Value × TypeId} (hh : h ∈ H) : Rk w h.1 h.2.1 h.2.2 := by
  obtain ⟨F, x⟩ := x
  exact (x.hd h hh).1
theorem Py.rd {A : Option Addr} {c : Nat} {M : List Sp} (x : Py S w0 w g L last bw v H [(A, c, M)]) : Rd w w.heap.size 3 A M.length c (scs M) := by
  obtain ⟨F, x⟩ := x
  exact (x.rd _ List.mem_cons_self).1
theorem Py.put (K : SpK S) (k : ByteArray) (r : Int) (x : Py S w0 w g L last bw v H R) (hL : L.length ≤ 100) (hk : k.size ≤ 40) (hr : r ≤ 1000000) :
    Calls Try.prog 11 #[.pointer (some ⟨g, 0, none⟩), .string k, .int .i64 r] w fun e w' => e = .returned (.bool (putP L last k r).isSome) ∧ Py S w0 w' g ((putP L last k r).getD L) (if (putP L last k r).isSome then r else last) bw v H R := by
  obtain ⟨F, x⟩ := x
  exact (K.put k r x.sp x.fine hL hk hr).mono fun _ _ ⟨F', e, q1, q2⟩ => ⟨e, F', x.own q2 q1 x.fine.putD⟩
theorem Py.drop (K : SpK S) (k : ByteArray) (r : Int) (x : Py S w0 w g L last bw v H R) (hL : L.length ≤ 100) (hk : k.size ≤ 40) (hr : r ≤ 1000000) :
    Calls Try.prog 13 #[.pointer (some ⟨g, 0, none⟩), .string k, .int .i64 r] w fun e w' => e = .returned (.bool (dropP L last k r).isSome) ∧ Py S w0 w' g ((dropP L last k r).getD L) (if (dropP L last k r).isSome then r else last) bw v H R := by
  obtain ⟨F, x⟩ := x
  exact (K.drop k r x.sp x.fine hL hk hr).mono fun _ _ ⟨F', e, q1, q2⟩ => ⟨e, F', x.own q2 q1 x.fine.dropD⟩
theorem Py.trim (K : SpK S) (r : Int) (x : Py S w0 w g L last bw v H R) (hL : L.length ≤ 100) :
    Calls Try.prog 15 #[.pointer (some ⟨g, 0, none⟩), .int .i64 r] w fun e w' => e = .returned (.int .i64 ((L.length : Int) - (trimP L r).length)) ∧ Py S w0 w' g (trimP L r) last bw v H R := by
  obtain ⟨F, x⟩ := x
  exact (K.trim r x.sp x.fine hL).mono fun _ _ ⟨F', e, q1, q2⟩ => ⟨e, F', x.own q2 q1 (x.fine.trim r)⟩
end
end Go.Proofs.Ytmdhollegemlhaa
