/- Laws for a region that draws its order: an operation that reads memory is taken ahead of a call that leaves that memory as it is. Nothing of the program is named here; no condition. -/
import Derived.Test.YtmdhollegemlhaaBase
import Derived.OrdersHeld
import Derived.RegionTactic
import Derived.Deep.RegionWith
namespace Go.Proofs.Ytmdhollegemlhaa
open Go.RowKit

section
variable {P : Program} {ops : Array Oper} {Q : Exit → Act → World → Prop} {md : Region.Mode}

theorem ro_take (i : Nat) (d : Option Tmp) {oi : Oper} {v : Value} {fuel : Nat} {listed : Array Bool} {a : Act} {w : World} (hi : ops[i]? = some oi) (hd : oi.dst = d)
    (hs : Region.noSelect ops = true) (hf : Region.free md ops listed i = true) (hr : (Region.ready md ops listed).contains i = true)
    (hQ : ∀ c a w, Q (.panic c) (a.put oi.dst v) w → Q (.panic c) a w) (hw : Region.wanted oi (yielded ops a.tmps) = true) (hy : ∀ w, (execOp a.eval oi).run P w = .ok (.value v) w)
    (h : wpAny P md ops Q fuel (listed.setIfInBounds i true) (a.put d v) w) : wpAny P md ops Q (fuel + 1) listed a w := by
  subst hd
  exact wpAny_take hi hs hf hr hQ (.inl ⟨hw, hy⟩) h

theorem ro_skip (i : Nat) (d : Option Tmp) {oi : Oper} {fuel : Nat} {listed : Array Bool} {a : Act} {w : World} (hi : ops[i]? = some oi) (hd : oi.dst = d)
    (hs : Region.noSelect ops = true) (hf : Region.free md ops listed i = true) (hr : (Region.ready md ops listed).contains i = true)
    (hQ : ∀ c a w, Q (.panic c) (a.put oi.dst undef) w → Q (.panic c) a w) (hw : Region.wanted oi (yielded ops a.tmps) = false)
    (h : wpAny P md ops Q fuel (listed.setIfInBounds i true) (a.put d undef) w) : wpAny P md ops Q (fuel + 1) listed a w := by
  subst hd
  exact wpAny_take hi hs hf hr hQ (.inr ⟨hw, rfl⟩) h

theorem ro_swap (i j : Nat) (d : Option Tmp) (S : World → Prop) {oi oj : Oper} {v : Value} {fuel : Nat} {listed : Array Bool} {a : Act} {w : World} (hi : ops[i]? = some oi) (hj : ops[j]? = some oj) (hd : oi.dst = d)
    (hs : Region.noSelect ops = true) (hap : oi.apart ops oj = true) (hij : (i == j) = false)
    (h0 : (Region.ready md ops listed).all (fun k => k == i || k == j) = true) (h0' : (Region.ready md ops listed).contains i = true)
    (h1 : (Region.ready md ops (listed.setIfInBounds i true)).all (· == j) = true) (h1' : (Region.ready md ops (listed.setIfInBounds i true)).contains j = true)
    (h2 : (Region.ready md ops (listed.setIfInBounds j true)).all (· == i) = true) (h2' : (Region.ready md ops (listed.setIfInBounds j true)).contains i = true)
    (hQ : ∀ c a w, Q (.panic c) (a.put oi.dst v) w → Q (.panic c) a w) (hw : Region.wanted oi (yielded ops a.tmps) = true) (hy : ∀ w, S w → (execOp a.eval oi).run P w = .ok (.value v) w) (hS : S w)
    (h : ∀ K' : Act → World → Prop, (∀ a w, S w → wpAny P md ops Q fuel ((listed.setIfInBounds i true).setIfInBounds j true) a w → K' a w) →
      if Region.wanted oj (yielded ops (a.put d v).tmps) = true then Oper.wp P oj (a.put d v) w K' Q else K' ((a.put d v).put oj.dst undef) w) : wpAny P md ops Q (fuel + 2) listed a w := by
  subst hd
  have hY : YieldsIf P ops S oi v a := .inl ⟨hw, hy⟩
  have H : wpOp P ops Q j (fun a' w' => S w' ∧ wpAny P md ops Q fuel ((listed.setIfInBounds i true).setIfInBounds j true) a' w') (a.put oi.dst v) w :=
    wpOp_step hj fun K' hK' => h K' fun a w s x => hK' a w ⟨s, x⟩
  have hsel := Region.noSelect_spec hs
  have ne : ∀ {l : Array Bool} {k : Nat}, (Region.ready md ops l).contains k = true → Region.ready md ops l ≠ [] := fun hc e => by rw [e] at hc; simp at hc
  have hne : i ≠ j := by simpa using hij
  refine ⟨fun e => absurd e (ne h0'), fun k hk => ?_⟩
  have hk' := List.all_eq_true.1 h0 k hk
  simp at hk'
  rcases hk' with rfl | rfl
  · refine hY.wpOp hi hS ⟨fun e => absurd e (ne h1'), fun m hm => ?_⟩
    have hm' := List.all_eq_true.1 h1 m hm
    simp at hm'
    subst hm'
    exact wpOp_mono (fun _ _ x => x.2) H
  · refine wpOp_mono ?_ (wpOp_putIf hj hap (fun cs b => hsel i oi cs b hi) (fun cs b => hsel k oj cs b hj) hQ hY H)
    rintro a' w' ⟨hy', hS', h'⟩
    refine ⟨fun e => absurd e (ne h2'), fun m hm => ?_⟩
    have hm' := List.all_eq_true.1 h2 m hm
    simp at hm'
    subst hm'
    refine hy'.wpOp hi hS' ?_
    rw [Array.setIfInBounds_comm _ _ (Ne.symm hne)]
    exact h'

/-! the same where a fact on the world is kept behind every operation -/
theorem roH_take (i : Nat) (d : Option Tmp) {S : World → Prop} {oi : Oper} {v : Value} {fuel : Nat} {listed : Array Bool} {a : Act} {w : World} (hi : ops[i]? = some oi) (hd : oi.dst = d)
    (hs : Region.noSelect ops = true) (hf : Region.free md ops listed i = true) (hr : (Region.ready md ops listed).contains i = true)
    (hQ : ∀ c a w, Q (.panic c) (a.put oi.dst v) w → Q (.panic c) a w) (hw : Region.wanted oi (yielded ops a.tmps) = true) (hy : ∀ w, S w → (execOp a.eval oi).run P w = .ok (.value v) w) (hS : S w)
    (h : wpAnyH P md ops Q S fuel (listed.setIfInBounds i true) (a.put d v) w) : wpAnyH P md ops Q S (fuel + 1) listed a w := by
  subst hd
  exact wpAnyH_take hi hs hf hr hQ (.inl ⟨hw, hy⟩) hS h
theorem roH_skip (i : Nat) (d : Option Tmp) {S : World → Prop} {oi : Oper} {fuel : Nat} {listed : Array Bool} {a : Act} {w : World} (hi : ops[i]? = some oi) (hd : oi.dst = d)
    (hs : Region.noSelect ops = true) (hf : Region.free md ops listed i = true) (hr : (Region.ready md ops listed).contains i = true)
    (hQ : ∀ c a w, Q (.panic c) (a.put oi.dst undef) w → Q (.panic c) a w) (hw : Region.wanted oi (yielded ops a.tmps) = false) (hS : S w)
    (h : wpAnyH P md ops Q S fuel (listed.setIfInBounds i true) (a.put d undef) w) : wpAnyH P md ops Q S (fuel + 1) listed a w := by
  subst hd
  exact wpAnyH_take hi hs hf hr hQ (.inr ⟨hw, rfl⟩) hS h
theorem roH_one (i : Nat) {S : World → Prop} {oi : Oper} {fuel : Nat} {listed : Array Bool} {a : Act} {w : World} (hi : ops[i]? = some oi) (hr : Region.ready md ops listed = [i])
    (h : ∀ K' : Act → World → Prop, (∀ a w, S w → wpAnyH P md ops Q S fuel (listed.setIfInBounds i true) a w → K' a w) → if Region.wanted oi (yielded ops a.tmps) = true then Oper.wp P oi a w K' Q else K' (a.put oi.dst undef) w) :
    wpAnyH P md ops Q S (fuel + 1) listed a w :=
  wpAnyH_all hr (by simp) fun k hk => by
    simp at hk
    subst hk
    exact wpOp_step hi fun K' hK' => h K' fun a w s x => hK' a w ⟨s, x⟩
theorem roH_two (i j : Nat) {S : World → Prop} {oi oj : Oper} {fuel : Nat} {listed : Array Bool} {a : Act} {w : World} (hi : ops[i]? = some oi) (hj : ops[j]? = some oj) (hr : Region.ready md ops listed = [i, j])
    (h1 : ∀ K' : Act → World → Prop, (∀ a w, S w → wpAnyH P md ops Q S fuel (listed.setIfInBounds i true) a w → K' a w) → if Region.wanted oi (yielded ops a.tmps) = true then Oper.wp P oi a w K' Q else K' (a.put oi.dst undef) w)
    (h2 : ∀ K' : Act → World → Prop, (∀ a w, S w → wpAnyH P md ops Q S fuel (listed.setIfInBounds j true) a w → K' a w) → if Region.wanted oj (yielded ops a.tmps) = true then Oper.wp P oj a w K' Q else K' (a.put oj.dst undef) w) :
    wpAnyH P md ops Q S (fuel + 1) listed a w :=
  wpAnyH_all hr (by simp) fun k hk => by
    simp at hk
    rcases hk with rfl | rfl
    · exact wpOp_step hi fun K' hK' => h1 K' fun a w s x => hK' a w ⟨s, x⟩
    · exact wpOp_step hj fun K' hK' => h2 K' fun a w s x => hK' a w ⟨s, x⟩
end
end Go.Proofs.Ytmdhollegemlhaa
