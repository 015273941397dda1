/- Laws for a region that draws its order: a load ahead of a call and of what is built of its result; an append onto a row of the call's own. Nothing of the program is named here; no condition. -/
import Derived.Test.YtmdhollegemlhaaRegion
namespace Go.Proofs.Ytmdhollegemlhaa
open Go.RowKit

section
variable {P : Program} {ops : Array Oper} {Q : Exit → Act → World → Prop} {md : Region.Mode}
theorem ro_swap3 (i j k : Nat) (d : Option Tmp) (S : World → Prop) {oi oj ok : Oper} {v : Value} {fuel : Nat} {listed : Array Bool} {a : Act} {w : World} (hi : ops[i]? = some oi) (hj : ops[j]? = some oj) (hk : ops[k]? = some ok) (hd : oi.dst = d)
    (hs : Region.noSelect ops = true) (hap : oi.apart ops oj = true) (hap2 : oi.apart ops ok = true) (hij : (i == j) = false) (hik : (i == k) = false) (hjk : (j == k) = false)
    (h0 : (Region.ready md ops listed).all (fun m => m == i || m == j) = true) (h0' : (Region.ready md ops listed).contains i = true)
    (h1 : (Region.ready md ops (listed.setIfInBounds i true)).all (· == j) = true) (h1' : (Region.ready md ops (listed.setIfInBounds i true)).contains j = true)
    (h2 : (Region.ready md ops (listed.setIfInBounds j true)).all (fun m => m == i || m == k) = true) (h2' : (Region.ready md ops (listed.setIfInBounds j true)).contains i = true)
    (h3 : (Region.ready md ops ((listed.setIfInBounds i true).setIfInBounds j true)).all (· == k) = true) (h3' : (Region.ready md ops ((listed.setIfInBounds i true).setIfInBounds j true)).contains k = true)
    (h4 : (Region.ready md ops ((listed.setIfInBounds j true).setIfInBounds k true)).all (· == i) = true) (h4' : (Region.ready md ops ((listed.setIfInBounds j true).setIfInBounds k true)).contains i = true)
    (hQ : ∀ c a w, Q (.panic c) (a.put oi.dst v) w → Q (.panic c) a w) (hw : Region.wanted oi (yielded ops a.tmps) = true) (hy : ∀ w, S w → (execOp a.eval oi).run P w = .ok (.value v) w) (hS : S w)
    (h : ∀ K' : Act → World → Prop, (∀ a w, S w → wpOp P ops Q k (fun a w => S w ∧ wpAny P md ops Q fuel (((listed.setIfInBounds i true).setIfInBounds j true).setIfInBounds k true) a w) a w → K' a w) →
      if Region.wanted oj (yielded ops (a.put d v).tmps) = true then Oper.wp P oj (a.put d v) w K' Q else K' ((a.put d v).put oj.dst undef) w) : wpAny P md ops Q (fuel + 3) listed a w := by
  subst hd
  have hY : YieldsIf P ops S oi v a := .inl ⟨hw, hy⟩
  have H : wpOp P ops Q j (fun a' w' => S w' ∧ wpOp P ops Q k (fun a w => S w ∧ wpAny P md ops Q fuel (((listed.setIfInBounds i true).setIfInBounds j true).setIfInBounds k true) a w) a' w') (a.put oi.dst v) w :=
    wpOp_step hj fun K' hK' => h K' fun a w s x => hK' a w ⟨s, x⟩
  have hsel := Region.noSelect_spec hs
  have ne : ∀ {l : Array Bool} {k : Nat}, (Region.ready md ops l).contains k = true → Region.ready md ops l ≠ [] := fun hc e => by rw [e] at hc; simp at hc
  have hne : i ≠ j := by simpa using hij
  have hne2 : i ≠ k := by simpa using hik
  have hne3 : j ≠ k := by simpa using hjk
  refine ⟨fun e => absurd e (ne h0'), fun m hm => ?_⟩
  have hm' := List.all_eq_true.1 h0 m hm
  simp at hm'
  rcases hm' with rfl | rfl
  · refine hY.wpOp hi hS ⟨fun e => absurd e (ne h1'), fun n hn => ?_⟩
    have hn' := List.all_eq_true.1 h1 n hn
    simp at hn'
    subst hn'
    refine wpOp_mono (fun a' w' x => ?_) H
    refine ⟨fun e => absurd e (ne h3'), fun q hq => ?_⟩
    have hq' := List.all_eq_true.1 h3 q hq
    simp at hq'
    subst hq'
    exact wpOp_mono (fun _ _ y => y.2) x.2
  · refine wpOp_mono ?_ (wpOp_putIf hj hap (fun cs b => hsel i oi cs b hi) (fun cs b => hsel m oj cs b hj) hQ hY H)
    rintro a' w' ⟨hy', hS', h'⟩
    refine ⟨fun e => absurd e (ne h2'), fun n hn => ?_⟩
    have hn' := List.all_eq_true.1 h2 n hn
    simp at hn'
    rcases hn' with rfl | rfl
    · refine hy'.wpOp hi hS' ?_
      rw [Array.setIfInBounds_comm _ _ (Ne.symm hne)]
      refine ⟨fun e => absurd e (ne h3'), fun q hq => ?_⟩
      have hq' := List.all_eq_true.1 h3 q hq
      simp at hq'
      subst hq'
      exact wpOp_mono (fun _ _ y => y.2) h'
    · refine wpOp_mono ?_ (wpOp_putIf hk hap2 (fun cs b => hsel i oi cs b hi) (fun cs b => hsel n ok cs b hk) hQ hy' h')
      rintro a2 w2 ⟨hy2, hS2, h2x⟩
      refine ⟨fun e => absurd e (ne h4'), fun q hq => ?_⟩
      have hq' := List.all_eq_true.1 h4 q hq
      simp at hq'
      subst hq'
      refine hy2.wpOp hi hS2 ?_
      rw [Array.setIfInBounds_comm (i := n) (j := q) _ _ (Ne.symm hne2), Array.setIfInBounds_comm (i := m) (j := q) _ _ (Ne.symm hne)]
      exact h2x

/-- Whichever order is drawn; a fact on the world holds behind each operation but one, which waits for all that read it. -/
def wpAnyL (P : Program) (md : Region.Mode) (ops : Array Oper) (Q : Exit → Act → World → Prop) (S : World → Prop) (z : Nat) : Nat → Array Bool → Act → World → Prop
  | 0, l, a, w => Region.ready md ops l = [] ∧ Q .normal a w
  | n + 1, l, a, w => (Region.ready md ops l = [] → Q .normal a w) ∧ ∀ i ∈ Region.ready md ops l, wpOp P ops Q i (fun b u => (i ≠ z → S u) ∧ wpAnyL P md ops Q S z n (l.setIfInBounds i true) b u) a w
variable {S : World → Prop} {z : Nat}
theorem wpAnyL_any : ∀ (n : Nat) (l : Array Bool) (a : Act) (w : World), wpAnyL P md ops Q S z n l a w → wpAny P md ops Q n l a w
  | 0, _, _, _, h => h
  | n + 1, _, _, _, h => ⟨h.1, fun i hi => wpOp_mono (fun b u k => wpAnyL_any n _ b u k.2) (h.2 i hi)⟩
/-- Whether number z waits for number i. -/
def waitsB (md : Region.Mode) (ops : Array Oper) (z i : Nat) : Bool := match ops[z]? with
  | some o => o.after.any fun e => Region.binds md e && e.on == i
  | none => false
theorem waits_not {i j : Nat} {l : Array Bool} (h : waitsB md ops j i = true) (hi : i ∈ Region.ready md ops l) : j ∉ Region.ready md ops l := by
  intro hj
  obtain ⟨_, oj, hoj, hall⟩ := mem_ready.1 hj
  unfold waitsB at h
  rw [hoj] at h
  obtain ⟨k, hk, he⟩ := Array.any_eq_true.1 h
  simp only [Bool.and_eq_true, beq_iff_eq] at he
  have h1 := hall _ (Array.getElem_mem hk) he.1
  have h0 := (mem_ready.1 hi).1
  rw [he.2] at h1
  rcases Nat.lt_or_ge i l.size with h' | h'
  · simp [h'] at h0 h1
    rw [h0] at h1
    cases h1
  · simp [Array.getElem?_eq_none h'] at h1
theorem not_waits {i j : Nat} {oj : Oper} {l : Array Bool} (hoj : ops[j]? = some oj) (hi : i ∈ Region.ready md ops l) (hj : j ∈ Region.ready md ops l) : ∀ e ∈ oj.after, Region.binds md e = true → e.on ≠ i := by
  intro e he hb heq
  refine waits_not (i := i) (j := j) ?_ hi hj
  unfold waitsB
  rw [hoj]
  obtain ⟨k, hk, hke⟩ := Array.getElem_of_mem he
  exact Array.any_eq_true.2 ⟨k, hk, by rw [hke, hb, heq]; simp⟩
theorem wpAnyL_first {i : Nat} {oi : Oper} {v : Value} (hi : ops[i]? = some oi) (hz : waitsB md ops z i = true) (hiz : i ≠ z) (hs : Region.noSelect ops = true) (hQ : ∀ c a w, Q (.panic c) (a.put oi.dst v) w → Q (.panic c) a w) :
    ∀ (n : Nat) (l : Array Bool) (a : Act) (w : World),
      (∀ j oj, ops[j]? = some oj → j ≠ i → l.getD j true = false → (∀ e ∈ oj.after, Region.binds md e = true → e.on ≠ i) → oi.apart ops oj = true) →
      i ∈ Region.ready md ops l → YieldsIf P ops S oi v a → S w → wpAnyL P md ops Q S z n (l.setIfInBounds i true) (a.put oi.dst v) w → wpAnyL P md ops Q S z (n + 1) l a w := by
  have hsel := Region.noSelect_spec hs
  intro n
  induction n with
  | zero =>
    intro l a w _ hr hy hS H
    refine ⟨fun e => (by rw [e] at hr; cases hr), fun j hj => ?_⟩
    by_cases hji : j = i
    · subst hji
      exact hy.wpOp hi hS ⟨fun _ => hS, H⟩
    · have h1 := ready_mono hj hji
      rw [H.1] at h1
      cases h1
  | succ n ih =>
    intro l a w hfree hr hy hS H
    refine ⟨fun e => (by rw [e] at hr; cases hr), fun j hj => ?_⟩
    by_cases hji : j = i
    · subst hji
      exact hy.wpOp hi hS ⟨fun _ => hS, H⟩
    · have hjz : j ≠ z := fun e => waits_not (e ▸ hz) hr hj
      obtain ⟨hjun, oj, hoj, _⟩ := mem_ready.1 hj
      have h2 := wpOp_putIf hoj (hfree j oj hoj hji hjun (not_waits hoj hr hj)) (fun cs b => hsel i oi cs b hi) (fun cs b => hsel j oj cs b hoj) hQ hy (H.2 j (ready_mono hj hji))
      refine wpOp_mono (fun b u h3 => ⟨fun _ => h3.2.1 hjz, ih (l.setIfInBounds j true) b u (fun k ok hk hki hun hno => hfree k ok hk hki ?_ hno) (ready_mono hr (Ne.symm hji)) h3.1 (h3.2.1 hjz) ?_⟩) h2
      · by_cases hjk : j = k
        · subst hjk
          exact hjun
        · rw [getD_set_ne true hjk] at hun
          exact hun
      · rw [Array.setIfInBounds_comm _ _ hji]
        exact h3.2.2
theorem roL_begin (S : World → Prop) (z : Nat) {id : Nat} {a : Act} {w : World} (hm : P.follows .mixedOrders = true) (h : wpAnyL P .any ops Q S z ops.size (Array.replicate ops.size false) a (World.drew w)) : (Code.region id ops true).wp P Q a w :=
  wp_region_any hm (wpAnyL_any _ _ _ _ h)
theorem roL_take (i : Nat) (d : Option Tmp) {oi : Oper} {v : Value} {n : Nat} {l : Array Bool} {a : Act} {w : World} (hi : ops[i]? = some oi) (hd : oi.dst = d)
    (hz : waitsB md ops z i = true) (hiz : (i == z) = false) (hs : Region.noSelect ops = true) (hf : Region.free md ops l i = true) (hr : (Region.ready md ops l).contains i = true)
    (hQ : ∀ c a w, Q (.panic c) (a.put oi.dst v) w → Q (.panic c) a w) (hw : Region.wanted oi (yielded ops a.tmps) = true) (hy : ∀ w, S w → (execOp a.eval oi).run P w = .ok (.value v) w) (hS : S w)
    (h : wpAnyL P md ops Q S z n (l.setIfInBounds i true) (a.put d v) w) : wpAnyL P md ops Q S z (n + 1) l a w := by
  subst hd
  exact wpAnyL_first hi hz (by simpa using hiz) hs hQ n l a w (Region.free_spec hi hf) (by simpa using hr) (.inl ⟨hw, hy⟩) hS h
theorem roL_one (i : Nat) {oi : Oper} {n : Nat} {l : Array Bool} {a : Act} {w : World} (hi : ops[i]? = some oi) (hr : Region.ready md ops l = [i])
    (h : ∀ K' : Act → World → Prop, (∀ a w, (i ≠ z → S w) → wpAnyL P md ops Q S z n (l.setIfInBounds i true) a w → K' a w) → if Region.wanted oi (yielded ops a.tmps) = true then Oper.wp P oi a w K' Q else K' (a.put oi.dst undef) w) :
    wpAnyL P md ops Q S z (n + 1) l a w :=
  ⟨fun e => (by rw [hr] at e; cases e), fun k hk => by
    rw [hr] at hk
    simp at hk
    subst hk
    exact wpOp_step hi fun K' hK' => h K' fun a w s x => hK' a w ⟨s, x⟩⟩
theorem roL_done {l : Array Bool} {a : Act} {w : World} (hr : Region.ready md ops l = []) (h : Q .normal a w) : ∀ n, wpAnyL P md ops Q S z n l a w
  | 0 => ⟨hr, h⟩
  | _ + 1 => ⟨fun _ => h, by rw [hr]; simp⟩

/-- An append onto a row of the call's own, met by itself. -/
theorem op_append_src (w : World) {o : Oper} {a : Act} {K : Act → World → Prop} (d : Option Tmp) (hd : o.dst = d) (s x : Operand) (t tx : TypeId)
    (ho : o.op = .call { callee := .builtin .append, args := #[s, x], argTypes := #[t, tx] })
    (base : Nat) (e : TypeId) (i : TypeInfo) (z : Value) (size bytes : Nat) (ht : P.underlying t = some (.slice e)) (hi : P.info? e = some i) (hz : i.zero = some z)
    (hsize : i.size = size) (hby : i.bytes = bytes) (hzs : z.cells.size = size) (hsz : 0 < size)
    (v : Value) (n : Nat) (xs : List Value) (hv : a.eval s = v) (hown : w.ownsRow base e size v n xs) (y : Value) (m : Nat) (news : List Value) (hx : a.eval x = y) (hs : Src P size tx y m news w)
    (h63 : n + m ≤ maxLen) (hbytes : (n + m) * bytes ≤ 140737488355328) (hbase : base ≤ w.heap.size)
    (h : ∀ v' w', w'.ownsRow base e size v' (n + m) (xs ++ news) → w.grownBy w' v.ownBlock → K (a.put d v') w') :
    Oper.wp P o a w K Q := by
  subst hd
  obtain ⟨v', w', hr, h2, h3, h4⟩ := run_append_src (P := P) w base t tx o.type e i z size bytes ht hi hz hsize hby hzs hsz v n xs hown y m news hs h63 hbytes hbase
  unfold Oper.wp execOp
  simp only [ho, resolve, invoke, builtin, Sem.run_bind, Sem.run_pure, Result.andThen_ok, List.map_toArray, List.map_cons, List.map_nil, hv, hx, hr]
  exact h v' w' h2 h3
end
end Go.Proofs.Ytmdhollegemlhaa
