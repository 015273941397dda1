/- Steps that read or lay a whole array by value, where a region draws its order; a slice literal of one struct. Nothing of the program is named here; no condition. -/
import Derived.Test.YtgppaompcnllbaaBase
import Derived.Test.YtgppaompcnllbaaRegion
import Derived.Deep.WholeRow
import Derived.Deep.MidRow
import Derived.Deep.RegionLaw
import Derived.Laws.CopyOwn
import Derived.Great.BuildSlice
import Derived.StillTailTactics
namespace Go.Proofs.Ytgppaompcnllbaa
open Go.RowKit
section
variable {P : Program} {ops : Array Oper} {o : Oper} {a : Act} {w : World} {K : Act → World → Prop} {Q : Exit → Act → World → Prop} {E : Prop}
theorem step_wp (hgd : o.guard = none) (h : Oper.wp P o a w K Q) : if Region.wanted o (yielded ops a.tmps) = true then Oper.wp P o a w K Q else E := by
  have hw : Region.wanted o (yielded ops a.tmps) = true := by simp [Region.wanted, hgd]
  rw [if_pos hw]; exact h
theorem step_load (dst : Option Tmp) (hdst : o.dst = dst) (hgd : o.guard = none) (ty : TypeId) (x : Operand) (ho : o.op = .load ty x)
    (b off : Nat) (hx : a.eval x = .pointer (some ⟨b, off, none⟩)) (cs : List Value) (d : TypeDesc) (hc : w.rangeAt b off cs)
    (hu : P.underlying ty = some d) (hd : d.isRow = true) (hi : (P.info? ty).map (·.size) = some cs.length)
    (h : K (a.put dst (.agg cs.toArray)) w) : if Region.wanted o (yielded ops a.tmps) = true then Oper.wp P o a w K Q else E := by
  subst hdst
  exact step_wp hgd (wp_load_mid ty x ho b off hx cs d hc hu hd hi h)
theorem step_store (dst : Option Tmp) (hdst : o.dst = dst) (hgd : o.guard = none) (ty : TypeId) (x y : Operand) (ho : o.op = .store ty x y)
    (b off : Nat) (cells : Array Value) (hx : a.eval x = .pointer (some ⟨b, off, none⟩)) (hy : a.eval y = .agg cells)
    (ht : w.there b off cells.size) (hi : (P.info? ty).map (·.size) = some cells.size) (h1 : cells.all (·.oneCell') = true)
    (h : K (a.put dst undef) (w.setCells b off cells.toList)) : if Region.wanted o (yielded ops a.tmps) = true then Oper.wp P o a w K Q else E := by
  subst hdst
  exact step_wp hgd (wp_store_mid ty x y ho b off cells hx hy ht hi h1 h)
theorem step_append_src (dst : Option Tmp) (hdst : o.dst = dst) (hgd : o.guard = none) (s x : Operand) (t tx : TypeId)
    (ho : o.op = .call { callee := .builtin .append, args := #[s, x], argTypes := #[t, tx] })
    (base : Nat) (e : TypeId) (i : TypeInfo) (z : Value) (size bytes : Nat) (ht : P.underlying t = some (.slice e)) (hi : P.info? e = some i) (hz : i.zero = some z)
    (hsize : i.size = size) (hby : i.bytes = bytes) (hzs : z.cells.size = size) (hsz : 0 < size)
    (v : Value) (n : Nat) (xs : List Value) (hv : a.eval s = v) (hown : w.ownsRow base e size v n xs) (y : Value) (m : Nat) (news : List Value) (hx : a.eval x = y) (hs : Src P size tx y m news w)
    (h63 : n + m ≤ maxLen) (hbytes : (n + m) * bytes ≤ 140737488355328) (hbase : base ≤ w.heap.size)
    (h : ∀ v' w', w'.ownsRow base e size v' (n + m) (xs ++ news) → w.grownBy w' v.ownBlock → (v'.ownBlock = v.ownBlock ∨ v'.ownBlock = some w.heap.size) → K (a.put dst v') w') :
    if Region.wanted o (yielded ops a.tmps) = true then Oper.wp P o a w K Q else E := by
  subst hdst
  refine step_wp hgd ?_
  obtain ⟨v', w', hr, h2, h3, h4⟩ := run_append_src (P := P) w base t tx o.type e i z size bytes ht hi hz hsize hby hzs hsz v n xs hown y m news hs h63 hbytes hbase
  unfold Oper.wp execOp
  simp only [ho, resolve, invoke, builtin, Sem.run_bind, Sem.run_pure, Result.andThen_ok, List.map_toArray, List.map_cons, List.map_nil, hv, hx, hr]
  exact h v' w' h2 h3 h4
theorem any_as {md : Region.Mode} {fuel n : Nat} {listed l : Array Bool} (hl : listed = l) (hf : fuel = n) (h : wpAny P md ops Q n l a w) : wpAny P md ops Q fuel listed a w := by
  subst hl; subst hf; exact h
theorem still_load_mid {R : Act → Prop} {rest : List Oper} (dst : Option Tmp) (hdst : o.dst = dst) (hgd : o.guard = none) (ty : TypeId) (x : Operand) (ho : o.op = .load ty x)
    (b off : Nat) (hx : a.eval x = .pointer (some ⟨b, off, none⟩)) (cs : List Value) (d : TypeDesc) (hc : w.rangeAt b off cs)
    (hu : P.underlying ty = some d) (hd : d.isRow = true) (hi : (P.info? ty).map (·.size) = some cs.length)
    (h : wpStill P ops w R rest (a.put dst (.agg cs.toArray))) : wpStill P ops w R (o :: rest) a := by
  subst hdst
  have hw : Region.wanted o (yielded ops a.tmps) = true := by simp [Region.wanted, hgd]
  have hr : (execOp a.eval o).run P w = .ok (.value (.agg cs.toArray)) w := by
    unfold execOp
    simp only [ho, hx, Instr.loadAt, Instr.sureAddr, Sem.run_bind, Sem.run_pure, Result.andThen_ok, run_loadVar_mid w b off ty cs d hc hu hd hi]
  refine wpStill_step fun K hK => ?_
  rw [if_pos hw, Oper.still, hr]
  exact ⟨rfl, hK _ h⟩
end
/-- One element that fills its row. -/
theorem fill_fold (C : List Value) : ∀ (pre : List Value) (X : Array Value), X.size = pre.length + C.length → X.toList.take pre.length = pre →
    (C.zipIdx pre.length).foldl (fun (cs : Array Value) (p : Value × Nat) => cs.setIfInBounds (0 + p.2) p.1) X = (pre ++ C).toArray := by
  induction C with
  | nil =>
    intro pre X hs ht
    simp only [List.zipIdx_nil, List.foldl_nil, List.append_nil]
    have : X.toList = pre := by rw [← ht, List.take_of_length_le]; simp at hs ⊢; omega
    rw [← this]
  | cons c r ih =>
    intro pre X hs ht
    simp only [List.zipIdx_cons, List.foldl_cons, Nat.zero_add]
    have := ih (pre ++ [c]) (X.setIfInBounds pre.length c) (by simp at hs ⊢; omega) (by
      rw [Array.toList_setIfInBounds, List.length_append, List.length_singleton, List.take_set, List.take_succ_eq_append_getElem (by simp at hs ⊢; omega), ht, List.set_append_right _ _ (Nat.le_refl _)]
      simp)
    simp only [List.length_append, List.length_singleton, Nat.zero_add] at this
    rw [this]; simp
theorem fill_one (C : List Value) (n : Nat) (hn : C.length = n) (X : Array Value) (hX : X.size = n) :
    Instr.fill (fun i => some (i * n, n)) X [(0, .agg C.toArray)] = some C.toArray := by
  subst hn
  simp only [Instr.fill, Nat.zero_mul, Value.cells, List.size_toArray, hX, Nat.zero_add, ne_eq, not_true, decide_false, Nat.lt_irrefl, gt_iff_lt, Bool.or_self, Bool.false_eq_true, if_false, Nat.zero_add]
  have := fill_fold C [] X (by simp [hX]) rfl
  simp only [List.length_nil, List.nil_append, Nat.zero_add] at this
  congr 1
  have e : ∀ (L : Array (Value × Nat)), Array.foldl (fun (cs : Array Value) (x : Value × Nat) => cs.setIfInBounds x.2 x.1) X L = List.foldl (fun cs p => cs.setIfInBounds p.2 p.1) X L.toList := fun L => by rw [Array.foldl_toList]
  rw [e, Array.toList_zipIdx]
  exact this
/-- A slice literal of one struct. -/
theorem step_build1 {P : Program} {ops : Array Oper} {o : Oper} {a : Act} {w : World} {K : Act → World → Prop} {Q : Exit → Act → World → Prop} {E : Prop} (dst : Option Tmp) (hdst : o.dst = dst) (hgd : o.guard = none) (t e : TypeId) (x : Operand) (ho : o.op = .buildSlice t 1 #[(0, x)])
    (C : List Value) (n : Nat) (hn : C.length = n) (hpos : 0 < n) (hsm : n ≤ 16777216) (hx : a.eval x = .agg C.toArray) (ie : TypeInfo) (z : Value)
    (hu : P.underlying t = some (.slice e)) (hie : P.info? e = some ie) (hz : ie.zero = some z) (hs : ie.size = n)
    (h : K (a.put dst (.slice (some ⟨w.heap.size, 0, none⟩) 1 1)) (w.alloc (.cells C.toArray e))) : if Region.wanted o (yielded ops a.tmps) = true then Oper.wp P o a w K Q else E := by
  subst hdst
  subst hs
  refine step_wp hgd (wp_buildSlice t e 1 _ ho C.toArray ie z hu hie hz (by omega) (by omega) ?_ h)
  simp only [List.map_toArray, List.map_cons, List.map_nil, hx]
  exact fill_one C _ hn _ (by simp)
end Go.Proofs.Ytgppaompcnllbaa
