/- Layer 4: a region that draws its order, within a round of a range over a function; a disk's own blocks. Conditions: none. -/
import Derived.Test.YtgppaompcnllbaaParts
import Derived.Test.YtgppaompcnllbaaWHead
import Derived.Test.YtgppaompcnllbaaRegion
namespace Go.Proofs.Ytgppaompcnllbaa
open Go.RowKit Go.Shelf
attribute [local go_sem] Oper.semAt_some

/-- What is asked of a way out, where no way out but the end is taken. -/
def OnlyN (Q : Exit → Act → World → Prop) : Exit → Act → World → Prop
  | .normal, a, w => Q .normal a w
  | _, _, _ => False
section
variable {l0 n : Nat} {P : Program} {ops : Array Oper} {md : Region.Mode} {Q : Exit → Act → World → Prop}
theorem opIn_of_wp {o : Oper} {a : Act} {w : World} {K : Act → World → Prop} (hd : ∀ c, o.op ≠ .defer c) (h : o.wp P a w K (OnlyN Q)) : o.wpIn (Fence.wide.inRound l0) n P a w K Q := by
  have hlet : ¬ LetsOut (OnlyN Q) := fun ⟨_, _, h⟩ => h
  refine ⟨fun _ _ => trivial, ?_⟩
  rw [Oper.semAt_plain _ _ _ hd]
  unfold Oper.wp at h
  generalize (execOp a.eval o).run P w = r at *
  cases r with
  | ok x w' =>
    cases x <;> simp only [Oper.upon] at h <;> simp only [Oper.uponIn]
    case value => exact h
    case skip => exact h
    case defer => exact h
    case enter f args =>
      refine ⟨fun e => (by cases e), CallsIn.inRound l0 ((callsIn_wide.2 h).mono fun e w'' he => ?_)⟩
      cases e with
      | returned v => exact he
      | panicked c => exact (he : False).elim
      | outgrown => exact (hlet he).elim
    case row row args =>
      refine ⟨fun e => (by cases e), fun c cs _ => ?_⟩
      obtain ⟨v, w'', hr, hs⟩ := h c cs
      exact ⟨v, w'', hr, stepsIn_wide.2 hs⟩
  | halt x w' =>
    cases x <;> simp only [Oper.upon] at h
    case panic v => exact (h : False).elim
theorem wpAnyIn_of_any (hd : ∀ (j : Nat) (o : Oper) c, ops[j]? = some o → o.op ≠ .defer c) :
    ∀ (f : Nat) (listed : Array Bool) (a : Act) (w : World), wpAny P md ops (OnlyN Q) f listed a w → wpAnyIn (Fence.wide.inRound l0) n P md ops Q f listed a w
  | 0, listed, a, w, h => ⟨h.1, h.2⟩
  | f + 1, listed, a, w, h => by
    refine ⟨fun h0 => h.1 h0, fun i hi => ?_⟩
    have hi' := h.2 i hi
    unfold wpOp at hi'
    unfold wpOpIn
    split
    · rename_i ho; simp only [ho] at hi'; exact wpAnyIn_of_any hd f _ _ _ hi'
    · rename_i o ho
      simp only [ho] at hi'
      split
      · rename_i hw
        simp only [hw, if_true] at hi'
        rcases hi' with hi' | ⟨_, _, _, hx⟩
        · exact opIn_of_wp (fun c => hd i o c ho) (Oper.wp_mono (fun a' w' h' => wpAnyIn_of_any hd f _ a' w' h') hi')
        · exact (hx : False).elim
      · rename_i hw
        simp only [hw] at hi'
        exact ⟨fun _ _ => trivial, wpAnyIn_of_any hd f _ _ _ hi'⟩
/-- A region that draws its order, in a round: by a walk outside of rounds, with a fact on the world kept behind every operation. -/
theorem wpIn_region_outside {id : Nat} {a : Act} {w : World} {l : List Oper} (S : World → Prop) (hm : P.follows .mixedOrders = true) (hd : l.all (fun o => match o.op with | .defer _ => false | _ => true) = true)
    (h : wpAnyH P .any l.toArray (OnlyN Q) S l.toArray.size (Array.replicate l.toArray.size false) a w.drew) : (Code.region id l.toArray true).wpIn (Fence.wide.inRound l0) n P Q a w :=
  wpIn_region_any hm (wpAnyIn_of_any (fun j o c hj e => by
    have := List.all_eq_true.1 hd o (List.mem_of_getElem? (by simpa using hj))
    rw [e] at this
    cases this) _ _ _ _ (wpAny_of_held _ _ _ _ h))
end

/-- All blocks of the set are rows of cells. -/
def Tight (S : Nat → Prop) (w : World) : Prop := ∀ k, S k → ∃ cs t f, w.heap[k]? = some (.cells cs t f)
theorem own_cells {w : World} {base : Nat} {e : TypeId} {size n : Nat} {v : Value} {xs : List Value} (h : w.ownsRow base e size v n xs) {g : Nat} (hg : v.ownBlock = some g) : ∃ cs t f, w.heap[g]? = some (.cells cs t f) := by
  rcases h.2 with ⟨rfl, _⟩ | ⟨g1, c1, cur1, rfl, _, hh1, _⟩
  · cases hg
  · cases hg; exact ⟨_, _, _, hh1⟩
theorem Ds.tight {S : Nat → Prop} {w : World} {b : Nat} {s : St} (h : Ds S w b s) : ∃ T : Nat → Prop, (∀ k, T k → S k) ∧ Ds T w b s ∧ Tight T w := by
  obtain ⟨kb, ck, nb, cn, wv, h⟩ := h
  refine ⟨fun k => k = b ∨ k = kb ∨ k = nb ∨ wv.ownBlock = some k, fun k e => ?_, ⟨kb, ck, nb, cn, wv, ⟨h.ok, fun k e => ?_, .inl rfl, .inr (.inl rfl), .inr (.inr (.inl rfl)), fun g e => .inr (.inr (.inr e)), h.bk, h.bn, h.kn, h.wb, h.wk, h.wn, h.cells, h.kept, h.now, h.waits⟩⟩, fun k e => ?_⟩
  · rcases e with rfl | rfl | rfl | e
    · exact h.hb
    · exact h.hk
    · exact h.hn
    · exact h.hw k e
  · rcases e with rfl | rfl | rfl | e
    · exact h.bs
    · exact h.ks
    · exact h.ns
    · exact h.size k (h.hw k e)
  · rcases e with rfl | rfl | rfl | e
    · exact ⟨_, _, _, h.cells⟩
    · exact own_cells h.kept rfl
    · exact own_cells h.now rfl
    · exact own_cells h.waits e
theorem Tight.not {S : Nat → Prop} {w : World} (h : Tight S w) {k : Nat} {o : Obj} (hk : w.heap[k]? = some o) (ho : o.isCells = false) : ¬ S k := fun e => by
  obtain ⟨cs, t, f, h'⟩ := h k e
  rw [hk] at h'
  cases h'
  cases ho
/-- What a step that turns a disk's own blocks alone leaves of all that is no cells. -/
theorem Ks.others {S : Nat → Prop} {w w' : World} (h : Ks S w w') (ht : Tight S w) : KeepsOthers w w' :=
  ⟨h.size, fun k _ hk ho => (h.block k (Array.getElem?_eq_some_iff.1 hk).1 (ht.not hk ho)).trans hk⟩
theorem Tight.grown {S : Nat → Prop} {w w' : World} {row : Option Nat} (h : Tight S w) (hg : w.grownBy w' row) (hr : ∀ r, row = some r → ∃ o : Obj, w.heap[r]? = some o ∧ o.isCells = false) : Tight S w' ∧ ∀ k, S k → w'.heap[k]? = w.heap[k]? := by
  have key : ∀ k, S k → w'.heap[k]? = w.heap[k]? := fun k e => by
    obtain ⟨cs, t, f, hk⟩ := h k e
    refine hg.block k (Array.getElem?_eq_some_iff.1 hk).1 fun e2 => ?_
    obtain ⟨o, ho, hc⟩ := hr k e2.symm
    exact h.not ho hc e
  exact ⟨fun k e => by obtain ⟨cs, t, f, hk⟩ := h k e; exact ⟨cs, t, f, (key k e).trans hk⟩, key⟩
theorem cells_grown {w w' : World} {row : Option Nat} {k : Nat} {cs : Array Value} {t : TypeId} {f : Nat × Nat} (hk : w.heap[k]? = some (.cells cs t f)) (hg : w.grownBy w' row) (hr : ∀ r, row = some r → ∃ o : Obj, w.heap[r]? = some o ∧ o.isCells = false) : w'.heap[k]? = some (.cells cs t f) :=
  (hg.block k (Array.getElem?_eq_some_iff.1 hk).1 fun e2 => by
    obtain ⟨o, ho, hc⟩ := hr k e2.symm
    rw [hk] at ho
    cases ho
    cases hc).trans hk

/-! writes in a row, up to the first error -/
def wrF (s : St) : List (Nat × List UInt8) → St × Int
  | [] => (s, 0)
  | p :: r => if wrE s p.1 p.2 = 0 then wrF (wrS s p.1 p.2) r else (wrS s p.1 p.2, wrE s p.1 p.2)
theorem wrF_ok {s : St} {l r : List (Nat × List UInt8)} (h : (wrF s l).2 = 0) : wrF s (l ++ r) = wrF (wrF s l).1 r := by
  induction l generalizing s with
  | nil => rfl
  | cons p l ih =>
    simp only [wrF, List.cons_append] at h ⊢
    split at h
    · rename_i h0
      simp only [h0, ↓reduceIte]
      exact ih h
    · exact absurd h ‹_›
theorem wrF_bad {s : St} {l r : List (Nat × List UInt8)} (h : (wrF s l).2 ≠ 0) : wrF s (l ++ r) = wrF s l := by
  induction l generalizing s with
  | nil => exact absurd rfl h
  | cons p l ih =>
    simp only [wrF, List.cons_append] at h ⊢
    split at h
    · rename_i h0
      simp only [h0, ↓reduceIte]
      exact ih h
    · rename_i h0
      simp only [h0, ↓reduceIte]
theorem wrF_snoc {s : St} {l : List (Nat × List UInt8)} {p : Nat × List UInt8} (h : (wrF s l).2 = 0) : wrF s (l ++ [p]) = (wrS (wrF s l).1 p.1 p.2, wrE (wrF s l).1 p.1 p.2) := by
  rw [wrF_ok h]
  simp only [wrF]
  split
  · rename_i h0; rw [h0]
  · rfl
theorem wrF_waits (s : St) (l : List (Nat × List UInt8)) : (wrF s l).1.waits.length ≤ s.waits.length + l.length := by
  induction l generalizing s with
  | nil => simp [wrF]
  | cons p l ih =>
    have h1 := wrS_waits s p.1 p.2
    simp only [wrF, List.length_cons]
    split
    · have := ih (wrS s p.1 p.2); omega
    · simp only; omega
/-- The writes of a record's parts. -/
def wps (t : LSt) (b : List UInt8) (pre : List (Fin (pn b.length))) : List (Nat × List UInt8) := pre.zipIdx.map fun p => (t.next + 1 + p.2, partB b p.1.1)
theorem wps_snoc (t : LSt) (b : List UInt8) (pre : List (Fin (pn b.length))) (x : Fin (pn b.length)) : wps t b (pre ++ [x]) = wps t b pre ++ [(t.next + 1 + pre.length, partB b x.1)] := by
  simp [wps, List.zipIdx_append]
theorem wps_len (t : LSt) (b : List UInt8) (pre : List (Fin (pn b.length))) : (wps t b pre).length = pre.length := by simp [wps]
/-- The parts' writes, and the flush behind them: the disk, and the error. -/
def ptW (s : St) (t : LSt) (b : List UInt8) : St × Int := wrF s (wps t b (ptAll b.length))
def ptS (s : St) (t : LSt) (b : List UInt8) : St := if (ptW s t b).2 = 0 then (ptW s t b).1.flush else (ptW s t b).1
def ptE (s : St) (t : LSt) (b : List UInt8) : Int := if (ptW s t b).2 = 0 then (ptW s t b).1.err else (ptW s t b).2
end Go.Proofs.Ytgppaompcnllbaa
