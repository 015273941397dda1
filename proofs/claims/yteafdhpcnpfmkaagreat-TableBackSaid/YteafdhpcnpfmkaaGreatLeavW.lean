/- Layer 10: edges put by where they begin. Conditions: none. -/
import Derived.Test.YteafdhpcnpfmkaaGreatRingsW
import Derived.Test.YteafdhpcnpfmkaaGreatRegion7
namespace Go.Proofs.YteafdhpcnpfmkaaGreat
open Go.RowKit

/-- Rows of edges, each in a block of its own. -/
structure LvO (w : World) (base g n : Nat) (l : List Ed) (vs : List Value) : Prop where
  blk : Bk w g vs.toArray 78
  len : vs.length = n
  rows : ∀ i, i < n → ∃ u, vs[i]? = some u ∧ w.ownsRow base 117 3 u (outE l i).length (ecells (outE l i))
  ap : ∀ (i j : Nat) (u v : Value) (b : Nat), i ≠ j → vs[i]? = some u → vs[j]? = some v → u.ownBlock = some b → v.ownBlock ≠ some b
theorem outE_snoc (l : List Ed) (e : Ed) (i : Nat) : outE (l ++ [e]) i = outE l i ++ if fr e = i then [e] else [] := by
  unfold outE
  rw [List.filter_append]
  by_cases h : fr e = i <;> simp [h]
section
variable {w w' : World} {base g n : Nat} {l : List Ed} {vs : List Value}
theorem LvO.same (h : LvO w base g n l vs) (hg : w'.heap[g]? = w.heap[g]?) (hb : ∀ v m xs, w.ownsRow base 117 3 v m xs → w'.ownsRow base 117 3 v m xs) : LvO w' base g n l vs :=
  ⟨hg.trans h.blk, h.len, fun i hi => by obtain ⟨u, hu, hr⟩ := h.rows i hi; exact ⟨u, hu, hb _ _ _ hr⟩, h.ap⟩
theorem LvO.alloc (h : LvO w base g n l vs) (o : Obj) : LvO (w.alloc o) base g n l vs := h.same (Below.heap_alloc _ _ _ h.blk.lt) fun _ _ _ hr => hr.alloc o
theorem LvO.drew (h : LvO w base g n l vs) : LvO w.drew base g n l vs := h.same rfl fun _ _ _ hr => own_drew hr
theorem LvO.start (n : Nat) (hw : w.heap[g]? = some (.cells (Array.replicate n (.slice none 0 0)) 78 (0, 0))) : LvO w base g n [] (List.replicate n (.slice none 0 0)) :=
  ⟨by rw [List.toArray_replicate]; exact hw, by simp, fun i hi => ⟨.slice none 0 0, by rw [List.getElem?_replicate]; simp [hi], World.ownsRow_nil _ _ _ _⟩, fun i j u v b _ hu hv e => by
    rw [List.getElem?_replicate] at hu
    split at hu
    · cases hu; simp [Value.ownBlock] at e
    · cases hu⟩
theorem LvO.cell (h : LvO w base g n l vs) {i : Nat} {u : Value} (hu : vs[i]? = some u) : w.cell? ⟨g, i, none⟩ = some u := by
  rw [h.blk.cell i]
  simpa using hu
theorem LvO.step {w8 : World} {e : Ed} {u v9 : Value} {o : Obj} (h : LvO w base g n l vs) (hu : vs[fr e]? = some u) (hr : w.ownsRow base 117 3 u (outE l (fr e)).length (ecells (outE l (fr e))))
    (hg : (w.alloc o).grownBy w8 u.ownBlock) (hown : w8.ownsRow base 117 3 v9 ((outE l (fr e)).length + 1) (ecells (outE l (fr e)) ++ ecell e)) (hat : v9.ownBlock = u.ownBlock ∨ v9.ownBlock = some (w.alloc o).heap.size) :
    Bk w8 g vs.toArray 78 ∧ LvO (w8.setCell ⟨g, fr e, none⟩ v9) base g n (l ++ [e]) (vs.set (fr e) v9) := by
  have hb8 : Bk w8 g vs.toArray 78 := bk_grown (h.blk.alloc o) (hr.alloc o) (by decide) hg
  have hset : ∀ {v : Value} {m : Nat} {xs : List Value}, w8.ownsRow base 117 3 v m xs → (w8.setCell ⟨g, fr e, none⟩ v9).ownsRow base 117 3 v m xs := fun q =>
    own_same q fun k hk => Below.heap_setCell _ _ _ _ fun e' => own_ne hb8 q (by decide) ((show k = g from e') ▸ hk)
  have hlt : fr e < vs.length := (List.getElem?_eq_some_iff.1 hu).1
  refine ⟨hb8, ?_, by rw [List.length_set]; exact h.len, fun i hi => ?_, fun i j x y b hne hx hy hb => ?_⟩
  · have := hb8.set (fr e) v9
    simpa using this
  · rw [outE_snoc]
    by_cases hie : fr e = i
    · subst hie
      refine ⟨v9, by rw [List.getElem?_set_self hlt], ?_⟩
      rw [if_pos rfl, List.length_append, ecells_app]
      have : ecells [e] = ecell e := by simp [ecells]
      rw [this]
      exact hset hown
    · obtain ⟨x, hx, hr2⟩ := h.rows i hi
      refine ⟨x, by rw [List.getElem?_set_ne hie]; exact hx, ?_⟩
      rw [if_neg hie, List.append_nil]
      refine hset (World.ownsRow.kept (hr2.alloc o) hg ?_)
      rcases hb : x.ownBlock with _ | b
      · exact .inl rfl
      · exact .inr fun e' => h.ap i (fr e) x u b (fun q => hie q.symm) hx hu hb e'.symm
  · have old : ∀ (k : Nat) (z : Value) (c : Nat), vs[k]? = some z → z.ownBlock = some c → c < w.heap.size := fun k z c hz hc => by
      have hk : k < n := by have := (List.getElem?_eq_some_iff.1 hz).1; rw [h.len] at this; exact this
      obtain ⟨z', hz', hr'⟩ := h.rows k hk
      rw [hz] at hz'
      cases hz'
      exact (hr'.lt c hc).2
    by_cases hie : fr e = i
    · subst hie
      rw [List.getElem?_set_self hlt] at hx
      cases hx
      rw [List.getElem?_set_ne hne] at hy
      rcases hat with ha | ha
      · rw [ha] at hb
        exact h.ap _ _ _ _ _ hne hu hy hb
      · rw [ha] at hb
        cases hb
        intro hc
        have := old j y _ hy hc
        simp at this
        omega
    · rw [List.getElem?_set_ne hie] at hx
      by_cases hje : fr e = j
      · subst hje
        rw [List.getElem?_set_self hlt] at hy
        cases hy
        intro hc
        rcases hat with ha | ha
        · rw [ha] at hc
          exact h.ap _ _ _ _ _ hne hx hu hb hc
        · rw [ha] at hc
          cases hc
          have := old i x _ hx hb
          simp at this
          omega
      · rw [List.getElem?_set_ne hje] at hy
        exact h.ap _ _ _ _ _ hne hx hy hb
/-- As it is handed back. -/
theorem LvO.gr (h : LvO w base g n l vs) (hi : InR n l) (hn : n ≤ 4096) : Gr w w.heap.size (some ⟨g, 0, none⟩) n n l := by
  refine ⟨⟨vs, ⟨by rw [h.len]; omega, Nat.le_refl _, by simp only [maxLen]; omega, fun e => (by cases e), fun _ => ⟨g, 0, rfl, h.blk.lt, fun j u hj => by rw [Nat.zero_add]; exact h.cell hj⟩⟩, fun i hi2 => ?_⟩, hi, hn⟩
  obtain ⟨u, hu, hr⟩ := h.rows i hi2
  obtain ⟨A, c, rfl, hR⟩ := Rd.own hr
  exact ⟨A, c, hu, hR⟩
end
theorem info_edge : (Tryz.prog.info? 117).map (fun i => (i.zero, i.size, i.bytes)) = some (some (.agg #[.int .i64 0, .int .i64 0, .bool false]), 3, 24) := by kernel_rfl
theorem info_edges : (Tryz.prog.info? 78).map (fun i => (i.zero, i.size, i.bytes)) = some (some (.slice none 0 0), 1, 24) := by kernel_rfl
/-- An append onto a row of the call's own, met by itself; where the row lies then is told. -/
theorem op_append_at {P : Program} (w : World) {Q : Exit → Act → World → Prop} {o : Oper} {a : Act} {K : Act → World → Prop} (d : Option Tmp) (hd : o.dst = d) (s x : Operand) (t tx : TypeId)
    (ho : o.op = .call { callee := .builtin .append, args := #[s, x], argTypes := #[t, tx] })
    (base : Nat) (e : TypeId) (i : TypeInfo) (z : Value) (size bytes : Nat) (ht : P.underlying t = some (.slice e)) (hi : P.info? e = some i) (hz : i.zero = some z)
    (hsize : i.size = size) (hby : i.bytes = bytes) (hzs : z.cells.size = size) (hsz : 0 < size)
    (v : Value) (n : Nat) (xs : List Value) (hv : a.eval s = v) (hown : w.ownsRow base e size v n xs) (y : Value) (m : Nat) (news : List Value) (hx : a.eval x = y) (hs : Src P size tx y m news w)
    (h63 : n + m ≤ maxLen) (hbytes : (n + m) * bytes ≤ 140737488355328) (hbase : base ≤ w.heap.size)
    (h : ∀ v' w', w'.ownsRow base e size v' (n + m) (xs ++ news) → w.grownBy w' v.ownBlock → (v'.ownBlock = v.ownBlock ∨ v'.ownBlock = some w.heap.size) → K (a.put d v') w') :
    Oper.wp P o a w K Q := by
  subst hd
  obtain ⟨v', w', hr, h2, h3, h4⟩ := run_append_src (P := P) w base t tx o.type e i z size bytes ht hi hz hsize hby hzs hsz v n xs hown y m news hs h63 hbytes hbase
  unfold Oper.wp execOp
  simp only [ho, resolve, invoke, builtin, Sem.run_bind, Sem.run_pure, Result.andThen_ok, List.map_toArray, List.map_cons, List.map_nil, hv, hx, hr]
  exact h v' w' h2 h3 h4
theorem outE_le (l : List Ed) (i : Nat) : (outE l i).length ≤ l.length := List.length_filter_le _ _
theorem made_nils (n : Nat) : madeCells #[.slice none 0 0] n = Array.replicate n (Value.slice none 0 0) := by
  apply Array.ext'
  rw [toList_madeCells_one, Array.toList_replicate]

set_option maxRecDepth 100000 in
set_option maxHeartbeats 2000000 in
theorem leaving_any {w : World} {n c : Nat} {A : Option Addr} {l : List Ed} (h : Rd w w.heap.size 3 A l.length c (ecells l)) (hi : InR n l) (hn : n ≤ 4096) (hl : l.length ≤ 1000000) :
    Calls Tryz.prog 49 #[.int .i64 (n : Int), .slice A l.length c] w fun e w' => e = .returned (.slice (some ⟨w.heap.size, 0, none⟩) n n) ∧ Gr w' w'.heap.size (some ⟨w.heap.size, 0, none⟩) n n l ∧ Below w.heap.size w w' := by
  obtain ⟨i1, hi1, hy0, hy1, hy2⟩ := info_parts info_edges
  obtain ⟨i0, hi0, hz0, hz1, hz2⟩ := info_parts info_edge
  have hmk : ∀ W : World, (Instr.makeSlice 118 (.int .i64 (n : Int)) (.int .i64 (n : Int))).run Tryz.prog W = .ok (.slice (some ⟨W.heap.size, 0, none⟩) n n) (W.alloc (.cells (Array.replicate n (.slice none 0 0)) 78)) := fun W => by
    have := run_make (P := Tryz.prog) W 118 78 i1 _ Tryz.underlying118 hi1 hy0 .i64 .i64 n n (by omega) (Int.le_refl _) (by rw [hy2]; omega) (by omega)
    rw [Int.toNat_natCast, hy1, Nat.mul_one] at this
    rw [← made_nils]
    exact this
  go_enter Tryz.func49, Tryz.ntmps49
  go_wp2_with fail
  have hb0 : Below w.heap.size w (w.alloc (.cells (Array.replicate n (.slice none 0 0)) 78)) := (Below.refl _ w).alloc (Nat.le_refl _) _
  have hO0 := LvO.start (w := w.alloc (.cells (Array.replicate n (.slice none 0 0)) 78)) (base := w.heap.size) (g := w.heap.size) n (heap_alloc_new w _)
  clear hmk
  generalize w.alloc (.cells (Array.replicate n (.slice none 0 0)) 78) = w0 at *
  go_loopw [12] (fun vi wx => ∃ (j : Nat) (vs : List Value), vi = .int .i64 j ∧ j ≤ l.length ∧ LvO wx w.heap.size w.heap.size n (l.take j) vs ∧ Below w.heap.size w wx) (fun vi _ => l.length - (intOf vi).toNat)
  case atStart => exact ⟨0, _, rfl, Nat.zero_le _, hO0, hb0⟩
  case round =>
    obtain ⟨j, vs, rfl, hj, hO, hbx⟩ := hrel
    by_cases hjl : j < l.length
    · have hdj : (j : Int) < (l.length : Int) := by omega
      obtain ⟨e, he⟩ : ∃ e, l[j]? = some e := ⟨_, List.getElem?_eq_getElem hjl⟩
      have hem := List.mem_of_getElem? he
      have hfe : e.1 = ((fr e : Nat) : Int) := by have := hi e hem; unfold fr; omega
      have hfn := hi.fr hem
      have hfi : ((fr e : Nat) : Int) < (n : Int) := by omega
      obtain ⟨b, o, rfl, hb, c0, c1, c2⟩ := rd_edge ((h.below hbx).more hbx.size) he
      rw [hfe] at c0
      obtain ⟨u, hu, hr⟩ := hO.rows (fr e) hfn
      have hub : ∀ b, u.ownBlock = some b → b < wr.heap.size := fun b e' => (hr.lt b e').2
      have hol := outE_le (l.take j) (fr e)
      rw [List.length_take] at hol
      go_upto_region 5 with (fail)
      have hO1 := (hO.alloc (.cells #[.int .i64 ((fr e : Nat) : Int), .int .i64 e.2.1, .bool e.2.2] 117)).drew
      have hr1 := own_drew (hr.alloc (.cells #[.int .i64 ((fr e : Nat) : Int), .int .i64 e.2.1, .bool e.2.2] 117))
      have hbx1 : Below w.heap.size w (World.drew (wr.alloc (.cells #[.int .i64 ((fr e : Nat) : Int), .int .i64 e.2.1, .bool e.2.2] 117))) := (hbx.alloc hbx.size _).drew
      have hx1 : Bk (World.drew (wr.alloc (.cells #[.int .i64 ((fr e : Nat) : Int), .int .i64 e.2.1, .bool e.2.2] 117))) wr.heap.size _ _ := Bk.new wr _ _
      have hws := hbx.size
      refine roL_begin (fun W => W.cell? ⟨wr.heap.size, 0, none⟩ = some (.int .i64 ((fr e : Nat) : Int)) ∧ W.cell? ⟨wr.heap.size, 1, none⟩ = some (.int .i64 e.2.1) ∧ W.cell? ⟨wr.heap.size, 2, none⟩ = some (.bool e.2.2) ∧ W.cell? ⟨w.heap.size, fr e, none⟩ = some u) 12 (by kernel_rfl) ?_
      change wpAnyL _ _ _ _ _ _ _ _ _ (World.drew _)
      clear hO hr c0 c1 c2 hbx
      generalize hdw : World.drew (wr.alloc (.cells #[.int .i64 ((fr e : Nat) : Int), .int .i64 e.2.1, .bool e.2.2] 117)) = wd at *
      have hzd : Hid (wd.heap.size = wr.heap.size + 1) := Lib.hid (by subst hdw; show (wr.alloc _).heap.size = _; simp)
      have HS : wd.cell? ⟨wr.heap.size, 0, none⟩ = some (.int .i64 ((fr e : Nat) : Int)) ∧ wd.cell? ⟨wr.heap.size, 1, none⟩ = some (.int .i64 e.2.1) ∧ wd.cell? ⟨wr.heap.size, 2, none⟩ = some (.bool e.2.2) ∧ wd.cell? ⟨w.heap.size, fr e, none⟩ = some u := ⟨hx1.cell 0, hx1.cell 1, hx1.cell 2, hO1.cell hu⟩
      clear hdw
      refine roL_take 0 (some 16) (v := ?v0r5) rfl rfl (by kernel_rfl) (by decide) (by kernel_rfl) (by kernel_rfl) (by kernel_rfl) (fun _ _ _ h => h) (by rfl) ?y0r5 HS ?r0r5
      case y0r5 => (intro w hS; (try dsimp only at hS); obtain ⟨q0, q1, q2, q3⟩ := hS; go_simp; try with_reducible rfl)
      simp only [Act.put, List.setIfInBounds_toArray, List.set_cons_zero, List.set_cons_succ]
      refine roL_take 1 (some 17) (v := ?v1r5) rfl rfl (by kernel_rfl) (by decide) (by kernel_rfl) (by kernel_rfl) (by kernel_rfl) (fun _ _ _ h => h) (by rfl) ?y1r5 HS ?r1r5
      case y1r5 => (intro w hS; (try dsimp only at hS); obtain ⟨q0, q1, q2, q3⟩ := hS; go_simp; try with_reducible rfl)
      simp only [Act.put, List.setIfInBounds_toArray, List.set_cons_zero, List.set_cons_succ]
      refine roL_take 2 (some 18) (v := ?v2r5) rfl rfl (by kernel_rfl) (by decide) (by kernel_rfl) (by kernel_rfl) (by kernel_rfl) (fun _ _ _ h => h) (by rfl) ?y2r5 HS ?r2r5
      case y2r5 => (intro w hS; (try dsimp only at hS); obtain ⟨q0, q1, q2, q3⟩ := hS; go_simp; try with_reducible rfl)
      simp only [Act.put, List.setIfInBounds_toArray, List.set_cons_zero, List.set_cons_succ]
      refine roL_take 3 (some 19) (v := ?v3r5) rfl rfl (by kernel_rfl) (by decide) (by kernel_rfl) (by kernel_rfl) (by kernel_rfl) (fun _ _ _ h => h) (by rfl) ?y3r5 HS ?r3r5
      case y3r5 => (intro w hS; (try dsimp only at hS); obtain ⟨q0, q1, q2, q3⟩ := hS; go_simp; try with_reducible rfl)
      simp only [Act.put, List.setIfInBounds_toArray, List.set_cons_zero, List.set_cons_succ]
      refine roL_take 4 (some 20) (v := ?v4r5) rfl rfl (by kernel_rfl) (by decide) (by kernel_rfl) (by kernel_rfl) (by kernel_rfl) (fun _ _ _ h => h) (by rfl) ?y4r5 HS ?r4r5
      case y4r5 => (intro w hS; (try dsimp only at hS); obtain ⟨q0, q1, q2, q3⟩ := hS; go_simp; try with_reducible rfl)
      simp only [Act.put, List.setIfInBounds_toArray, List.set_cons_zero, List.set_cons_succ]
      refine roL_take 5 (some 21) (v := ?v5r5) rfl rfl (by kernel_rfl) (by decide) (by kernel_rfl) (by kernel_rfl) (by kernel_rfl) (fun _ _ _ h => h) (by rfl) ?y5r5 HS ?r5r5
      case y5r5 => (intro w hS; (try dsimp only at hS); obtain ⟨q0, q1, q2, q3⟩ := hS; go_simp; try with_reducible rfl)
      simp only [Act.put, List.setIfInBounds_toArray, List.set_cons_zero, List.set_cons_succ]
      refine roL_take 6 (some 22) (v := ?v6r5) rfl rfl (by kernel_rfl) (by decide) (by kernel_rfl) (by kernel_rfl) (by kernel_rfl) (fun _ _ _ h => h) (by rfl) ?y6r5 HS ?r6r5
      case y6r5 => (intro w hS; (try dsimp only at hS); obtain ⟨q0, q1, q2, q3⟩ := hS; go_simp; try with_reducible rfl)
      simp only [Act.put, List.setIfInBounds_toArray, List.set_cons_zero, List.set_cons_succ]
      refine roL_take 7 (some 23) (v := ?v7r5) rfl rfl (by kernel_rfl) (by decide) (by kernel_rfl) (by kernel_rfl) (by kernel_rfl) (fun _ _ _ h => h) (by rfl) ?y7r5 HS ?r7r5
      case y7r5 => (intro w hS; (try dsimp only at hS); obtain ⟨q0, q1, q2, q3⟩ := hS; go_simp; try with_reducible rfl)
      simp only [Act.put, List.setIfInBounds_toArray, List.set_cons_zero, List.set_cons_succ]
      refine roL_take 8 (some 24) (v := ?v8r5) rfl rfl (by kernel_rfl) (by decide) (by kernel_rfl) (by kernel_rfl) (by kernel_rfl) (fun _ _ _ h => h) (by rfl) ?y8r5 HS ?r8r5
      case y8r5 => (intro w hS; (try dsimp only at hS); obtain ⟨q0, q1, q2, q3⟩ := hS; go_simp; try with_reducible rfl)
      simp only [Act.put, List.setIfInBounds_toArray, List.set_cons_zero, List.set_cons_succ]
      refine roL_one 9 rfl (by kernel_rfl) fun K hK' => ?_
      go_simp
      refine hK' _ _ (fun _ => ⟨cell_alloc HS.1 _, cell_alloc HS.2.1 _, cell_alloc HS.2.2.1 _, cell_alloc HS.2.2.2 _⟩) ?_
      clear hK' K
      refine roL_one 10 rfl (by kernel_rfl) fun K hK' => ?_
      rw [if_pos (by rfl)]
      refine op_append_at _ (some 26) rfl (.tmp 23) (.tmp 25) 78 78 rfl w.heap.size 117 i0 (.agg #[.int .i64 0, .int .i64 0, .bool false]) 3 24 Tryz.underlying78 hi0 hz0 hz1 hz2 rfl (by decide) u (outE (l.take j) (fr e)).length (ecells (outE (l.take j) (fr e))) rfl (World.ownsRow.alloc hr1 _) _ 1 [.int .i64 ((fr e : Nat) : Int), .int .i64 e.2.1, .bool e.2.2] rfl (Src.ofSlice _ Tryz.underlying78 _ 1 1 _ rfl (cells_new _ _ _ _ _) (by intro u hu; simp only [List.mem_cons, List.not_mem_nil, or_false] at hu; rcases hu with rfl | rfl | rfl <;> rfl)) (by simp only [maxLen]; omega) (by omega) (size_alloc (by have := hzd.out; omega)) ?_
      intro v9 w8 hown8 hg8 hat8
      rw [← hfe] at hown8
      obtain ⟨hb8, hO8⟩ := hO1.step hu hr1 hg8 hown8 hat8
      have hx8 : Bk w8 wr.heap.size _ _ := (hg8.block wr.heap.size (by have := hzd.out; simp; omega) fun e' => by have := hub _ e'.symm; omega).trans (hx1.alloc _)
      have HS8 : w8.cell? ⟨wr.heap.size, 0, none⟩ = some (.int .i64 ((fr e : Nat) : Int)) ∧ w8.cell? ⟨wr.heap.size, 1, none⟩ = some (.int .i64 e.2.1) ∧ w8.cell? ⟨wr.heap.size, 2, none⟩ = some (.bool e.2.2) ∧ w8.cell? ⟨w.heap.size, fr e, none⟩ = some u := ⟨hx8.cell 0, hx8.cell 1, hx8.cell 2, by rw [hb8.cell]; simpa using hu⟩
      have hbx8 : Below w.heap.size w w8 := below_of_own (hbx1.alloc hbx1.size _) hg8 (World.ownsRow.alloc hr1 _) (by have := hbx1.size; simp; omega) (Nat.le_refl _)
      refine hK' _ _ (fun _ => HS8) ?_
      clear hK' K HS hO1 hr1 hbx1 hx1 hg8 hat8
      simp only [Act.put, List.setIfInBounds_toArray, List.set_cons_zero, List.set_cons_succ]
      refine roL_take 11 (some 27) (v := ?v11r5) rfl rfl (by kernel_rfl) (by decide) (by kernel_rfl) (by kernel_rfl) (by kernel_rfl) (fun _ _ _ h => h) (by rfl) ?y11r5 HS8 ?r11r5
      case y11r5 => (intro w hS; (try dsimp only at hS); obtain ⟨q0, q1, q2, q3⟩ := hS; go_simp; try with_reducible rfl)
      simp only [Act.put, List.setIfInBounds_toArray, List.set_cons_zero, List.set_cons_succ]
      refine roL_one 12 rfl (by kernel_rfl) fun K hK' => ?_
      obtain ⟨A9, c9, rfl, _⟩ := Rd.own hown8
      have fz8 := hb8.fz (fr e)
      have q8 := HS8.2.2.2
      go_simp
      refine hK' _ _ (fun h => absurd rfl h) ?_
      clear hK' K
      refine roL_done (by kernel_rfl) ?_ _
      have hbx9 : Below w.heap.size w (w8.setCell ⟨w.heap.size, fr e, none⟩ (.slice A9 ((outE (l.take j) (fr e)).length + 1) c9)) := hbx8.setCell (Nat.le_refl _) _
      clear hx8 hb8 HS8 hbx8 hown8 fz8 q8
      generalize World.setCell w8 _ _ = w9 at *
      go_wp2_with fail
      have hO9 : LvO w9 w.heap.size w.heap.size n (l.take (j + 1)) (vs.set (fr e) (.slice A9 ((outE (l.take j) (fr e)).length + 1) c9)) := by
        rw [List.take_add_one, he]
        exact hO8
      exact ⟨⟨j + 1, _, by go_num, by omega, hO9, hbx9⟩, by simp [intOf]; omega⟩
    · obtain rfl : j = l.length := by omega
      have hdj : ¬ (((l.length : Nat) : Int) < (l.length : Int)) := by omega
      rw [List.take_length] at hO
      go_wp2_with fail
      go_ret
      exact ⟨rfl, hO.gr hi hn, hbx⟩
end Go.Proofs.YteafdhpcnpfmkaaGreat
