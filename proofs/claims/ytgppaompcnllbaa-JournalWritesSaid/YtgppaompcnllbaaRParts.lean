/- Layer 4: readParts, called. Conditions: the disk isn't dead; the record ends on it; at most 4096 bytes. -/
import Derived.Test.YtgppaompcnllbaaRound
import Derived.Test.YtgppaompcnllbaaAppend
import Derived.IntWalk
namespace Go.Proofs.Ytgppaompcnllbaa
open Go.RowKit Go.Shelf
attribute [local go_sem] Oper.semAt_some

/-- What has been read of a record's parts. -/
def accF (l : List Sec) (pos n : Nat) (pre : List (Fin (pn n))) : List UInt8 := pre.zipIdx.flatMap fun p => ((l.getD (pos + 1 + p.2) []).drop 1).take (ptTo n p.1.1 - 63 * p.1.1)
theorem accF_snoc (l : List Sec) (pos n : Nat) (pre : List (Fin (pn n))) (x : Fin (pn n)) : accF l pos n (pre ++ [x]) = accF l pos n pre ++ ((l.getD (pos + 1 + pre.length) []).drop 1).take (ptTo n x.1 - 63 * x.1) := by
  simp [accF, List.zipIdx_append]
theorem flat_le {α : Type} (f : α → List UInt8) (h : ∀ a, (f a).length ≤ 63) : ∀ q : List α, (q.flatMap f).length ≤ 63 * q.length
  | [] => by simp
  | a :: q => by have := flat_le f h q; have := h a; simp only [List.flatMap_cons, List.length_append, List.length_cons]; omega
theorem accF_le (l : List Sec) (pos n : Nat) (pre : List (Fin (pn n))) : (accF l pos n pre).length ≤ 63 * pre.length := by
  have := flat_le (fun p : Fin (pn n) × Nat => ((l.getD (pos + 1 + p.2) []).drop 1).take (ptTo n p.1.1 - 63 * p.1.1)) (fun p => by
    rw [List.length_take]; unfold ptTo; omega) pre.zipIdx
  simpa [accF] using this
theorem accF_all {l : List Sec} (h : ∀ b ∈ l, b.length = 64) {pos n : Nat} (hl : pos + 1 + pn n ≤ l.length) : ∀ k, k ≤ pn n → accF l pos n ((ptAll n).take k) = (bodyF l pos k).take n
  | 0, _ => by simp [accF, bodyF]
  | k + 1, hk => by
    have ih := accF_all h hl k (by omega)
    have hkn := pn_lt.1 (show k < pn n by omega)
    rw [ptAll_step n (by omega), accF_snoc, ih, bodyF_succ, List.length_take, ptAll_len, Nat.min_eq_left (by omega)]
    rw [List.take_append, bodyF_len h (by omega)]
    congr 1
    have hlen : ((l.getD (pos + 1 + k) []).drop 1).length = 63 := by
      rw [List.length_drop, List.getD_eq_getElem?_getD, List.getElem?_eq_getElem (by omega), Option.getD_some, h _ (List.getElem_mem _)]
    rw [List.take_eq_take_iff, hlen]
    unfold ptTo
    simp only
    omega
theorem partsAre_step (l : List Sec) (pos k : Nat) : partsAre l pos (k + 1) = (partsAre l pos k && ((l.getD (pos + 1 + k) []).head? == some 0)) := by
  simp [partsAre, List.range_succ, List.all_append]
theorem partsAre_less {l : List Sec} {pos k m : Nat} (h : partsAre l pos k = false) (hk : k ≤ m) : partsAre l pos m = false := by
  cases hm : partsAre l pos m with
  | false => rfl
  | true =>
    rw [partsAre_iff] at hm
    rw [partsAre_iff.2 fun j hj => hm j (by omega)] at h
    cases h
/-- What readParts tells. -/
def rdP (s : St) (t : LSt) (n : Nat) : Option (List UInt8) := if partsAre s.now t.next (pn n) = true then some ((bodyF s.now t.next (pn n)).take n) else none
/-- Between two parts that are read. -/
structure RpI (w w3 : World) (B4 B5 nx : Nat) (acc : List UInt8) (W : World) : Prop where
  b : Below w.heap.size w W
  s : w3.heap.size ≤ W.heap.size
  old : ∀ k, k < w3.heap.size → k ≠ B4 → k ≠ B5 → W.heap[k]? = w3.heap[k]?
  acc : ∃ v, W.heap[B4]? = some (.cells #[v] 36 (0, 0)) ∧ W.ownsRow w3.heap.size 5 1 v acc.length (bv acc)
  at_ : W.heap[B5]? = some (.cells #[.int .i64 nx] 3 (0, 0))
theorem RpI.grown {w w3 W W' : World} {B4 B5 nx : Nat} {acc : List UInt8} {row : Option Nat} (h : RpI w w3 B4 B5 nx acc W) (hb : w.heap.size ≤ w3.heap.size) (hg : W.grownBy W' row) (hr : ∀ r, row = some r → w3.heap.size ≤ r ∧ ∃ o : Obj, W.heap[r]? = some o ∧ o.isCells = false) : RpI w w3 B4 B5 nx acc W' := by
  obtain ⟨v, h1, h2⟩ := h.acc
  refine ⟨h.b.grown hg (Nat.le_trans hb h.s) fun k e => Nat.le_trans hb (hr k e).1, Nat.le_trans h.s hg.size, fun k h1 h2 h3 => (hg.block k (Nat.lt_of_lt_of_le h1 h.s) fun e => by have := (hr k e.symm).1; omega).trans (h.old k h1 h2 h3),
    ⟨v, cells_grown h1 hg fun r e => (hr r e).2, own_same h2 fun g e => ?_⟩, cells_grown h.at_ hg fun r e => (hr r e).2⟩
  obtain ⟨cs, tt, f, hk⟩ := own_cells h2 e
  exact (cells_grown hk hg fun r e => (hr r e).2).trans hk.symm
/-- Behind a part that isn't one. -/
structure RpX (w w3 : World) (W : World) (B1 B2 B3 : Nat) : Prop where
  b : Below w.heap.size w W
  r1 : W.heap[B1]? = some (.cells #[.slice none 0 0] 36 (0, 0))
  r2 : W.heap[B2]? = some (.cells #[.bool false] 4 (0, 0))
  r3 : W.heap[B3]? = some (.cells #[.int .i64 0] 27 (0, 0))
  s : w3.heap.size ≤ W.heap.size
theorem RpX.grown {w w3 W W' : World} {B1 B2 B3 : Nat} {row : Option Nat} (h : RpX w w3 W B1 B2 B3) (hb : w.heap.size ≤ w3.heap.size) (hg : W.grownBy W' row) (hr : ∀ r, row = some r → w3.heap.size ≤ r ∧ ∃ o : Obj, W.heap[r]? = some o ∧ o.isCells = false) : RpX w w3 W' B1 B2 B3 :=
  ⟨h.b.grown hg (Nat.le_trans hb h.s) fun k e => Nat.le_trans hb (hr k e).1, cells_grown h.r1 hg fun r e => (hr r e).2, cells_grown h.r2 hg fun r e => (hr r e).2, cells_grown h.r3 hg fun r e => (hr r e).2, Nat.le_trans h.s hg.size⟩

set_option maxRecDepth 100000 in
set_option maxHeartbeats 4000000 in
theorem rparts_in {S L : Nat → Prop} {w : World} {g b : Nat} {s : St} {t : LSt} (fu : Nat) (hn : 6 ≤ fu) (hD : Ds S w b s) (hdead : s.dead = false) (hL : Lg L w g b t) (n : Nat) (hl : n ≤ 4096) (hend : t.next + szN n ≤ s.kept.length) :
    CallsIn Fence.wide fu Try.prog 44 #[.pointer (some ⟨g, 0, none⟩), .int .i64 n] w fun e w' => ∃ A c, e = .returned (.tuple #[.slice A ((rdP s t n).getD []).length c, .bool (rdP s t n).isSome, .int .i64 0]) ∧ w'.ownsRow w.heap.size 5 1 (.slice A ((rdP s t n).getD []).length c) ((rdP s t n).getD []).length (bv ((rdP s t n).getD [])) ∧ Below w.heap.size w w' := by
  have kp := fun W => parts_any W n
  obtain ⟨rv, rows, hL⟩ := hL
  have c1 := hL.c1
  have hgs := hL.size g hL.hg
  have hle := hL.ok.le
  have hmo := hL.ok.most
  have c1V := fun (o1 o2 o3 o4 o5 : Obj) => (show (((((w.alloc o1).alloc o2).alloc o3).alloc o4).alloc o5).cell? ⟨g, 1, none⟩ = some (.int .i64 t.next) from by
    rw [World.cell?_alloc_lt _ _ _ (by simp; omega), World.cell?_alloc_lt _ _ _ (by simp; omega), World.cell?_alloc_lt _ _ _ (by simp; omega), World.cell?_alloc_lt _ _ _ (by simp; omega), World.cell?_alloc_lt _ _ _ hgs]; exact c1)
  clear c1
  refine callsIn_of_wp_marks Try.func44 rfl trivial ?_ rfl
  simp only [Try.ntmps44, List.size_toArray, List.length_cons, List.length_nil, Nat.reduceAdd, Nat.reduceSub, Array.replicate_succ, Array.replicate_zero, List.push_toArray, List.append_toArray, List.nil_append, List.cons_append]
  gi_wp2_with ((refine ⟨trivial, fun e => (by cases e), ?_⟩; (with_reducible refine (callsIn_wide.2 (kp _)).mono ?_); rintro e w3 ⟨rfl, hw3⟩))
  have s3 : w3.heap.size = w.heap.size + 1 + 1 + 1 + 1 + 1 + 1 + 1 := by rw [hw3]; simp
  have b3 : Below w.heap.size w w3 := by
    rw [hw3]
    exact (((((((Below.refl _ _).alloc (Nat.le_refl _) _).alloc (by simp) _).alloc (by simp; omega) _).alloc (by simp; omega) _).alloc (by simp; omega) _).alloc (by simp; omega) _).alloc (by simp; omega) _
  have h0 : w3.heap[w.heap.size]? = some (.cells #[.pointer (some ⟨g, 0, none⟩)] 30 (0, 0)) := by
    rw [hw3, Below.heap_alloc _ _ _ (by simp only [World.size_alloc]; omega), Below.heap_alloc _ _ _ (by simp only [World.size_alloc]; omega), Below.heap_alloc _ _ _ (by simp only [World.size_alloc]; omega), Below.heap_alloc _ _ _ (by simp only [World.size_alloc]; omega), Below.heap_alloc _ _ _ (by simp only [World.size_alloc]; omega), Below.heap_alloc _ _ _ (by simp only [World.size_alloc]; omega)]; exact heap_alloc_new _ _
  have h1 : w3.heap[w.heap.size + 1]? = some (.cells #[.slice none 0 0] 36 (0, 0)) := by
    rw [hw3, Below.heap_alloc _ _ _ (by simp only [World.size_alloc]; omega), Below.heap_alloc _ _ _ (by simp only [World.size_alloc]; omega), Below.heap_alloc _ _ _ (by simp only [World.size_alloc]; omega), Below.heap_alloc _ _ _ (by simp only [World.size_alloc]; omega), Below.heap_alloc _ _ _ (by simp only [World.size_alloc]; omega)]; simpa using heap_alloc_new (w.alloc _) _
  have h2 : w3.heap[w.heap.size + 1 + 1]? = some (.cells #[.bool false] 4 (0, 0)) := by
    rw [hw3, Below.heap_alloc _ _ _ (by simp only [World.size_alloc]; omega), Below.heap_alloc _ _ _ (by simp only [World.size_alloc]; omega), Below.heap_alloc _ _ _ (by simp only [World.size_alloc]; omega), Below.heap_alloc _ _ _ (by simp only [World.size_alloc]; omega)]; simpa using heap_alloc_new ((w.alloc _).alloc _) _
  have h3 : w3.heap[w.heap.size + 1 + 1 + 1]? = some (.cells #[.int .i64 0] 27 (0, 0)) := by
    rw [hw3, Below.heap_alloc _ _ _ (by simp only [World.size_alloc]; omega), Below.heap_alloc _ _ _ (by simp only [World.size_alloc]; omega), Below.heap_alloc _ _ _ (by simp only [World.size_alloc]; omega)]; simpa using heap_alloc_new (((w.alloc _).alloc _).alloc _) _
  have h4 : w3.heap[w.heap.size + 1 + 1 + 1 + 1]? = some (.cells #[.slice none 0 0] 36 (0, 0)) := by
    rw [hw3, Below.heap_alloc _ _ _ (by simp only [World.size_alloc]; omega), Below.heap_alloc _ _ _ (by simp only [World.size_alloc]; omega)]; simpa using heap_alloc_new ((((w.alloc _).alloc _).alloc _).alloc _) _
  have h5 : w3.heap[w.heap.size + 1 + 1 + 1 + 1 + 1]? = some (.cells #[.int .i64 t.next] 3 (0, 0)) := by
    rw [hw3, Below.heap_alloc _ _ _ (by simp only [World.size_alloc]; omega)]; simpa using heap_alloc_new (((((w.alloc _).alloc _).alloc _).alloc _).alloc _) _
  have h6 : w3.heap[w.heap.size + 1 + 1 + 1 + 1 + 1 + 1]? = some (.cells #[.int .i64 n] 3 (0, 0)) := by
    rw [hw3]; simpa using heap_alloc_new ((((((w.alloc _).alloc _).alloc _).alloc _).alloc _).alloc _) _
  rw [← hw3]
  clear hw3 kp c1V
  have hg3 : w3.heap[g]? = w.heap[g]? := b3.block g hgs
  have hws3 := b3.size
  have hseq := parts_stop (m := n) (fu - 1) (by omega) (by omega) (w.heap.size + 1 + 1 + 1 + 1 + 1 + 1) w3 ⟨by omega, by rw [cell_of_row _ _ _ _ _ _ h6]; rfl⟩
  refine wpIn_rangeFunc_ownH (w0 := w3) rfl (by omega) (gf := 54) (lb := #[.pointer (some ⟨w.heap.size + 1 + 1 + 1 + 1 + 1 + 1, 0, none⟩)]) rfl trivial (enters_of Try.func54 (by kernel_rfl) rfl)
    hseq (fun h k => h.trans k) (fun W l o o' h1 _ _ _ => KpB.putObj W l o' (by omega)) (Below.refl _ _) (fun _ => rfl)
    (fun pre W => partsAre s.now t.next pre.length = true ∧ RpI w w3 (w.heap.size + 1 + 1 + 1 + 1) (w.heap.size + 1 + 1 + 1 + 1 + 1) (t.next + pre.length) (accF s.now t.next n pre) W)
    (fun c pre W => c = .ret ∧ partsAre s.now t.next pre.length = false ∧ RpX w w3 W (w.heap.size + 1) (w.heap.size + 1 + 1) (w.heap.size + 1 + 1 + 1))
    (fun pre X Y row hI hg hr => ⟨hI.1, hI.2.grown hws3 hg hr⟩)
    (fun c pre X Y row hI hg hr => ⟨hI.1, hI.2.1, hI.2.2.grown hws3 hg hr⟩)
    ⟨rfl, ⟨b3, Nat.le_refl _, fun _ _ _ _ => rfl, ⟨_, h4, World.ownsRow_nil _ _ _ _⟩, h5⟩⟩
    (fun x a' _ => a' = { tmps := #[.pointer (some ⟨g, 0, none⟩), .int .i64 n, .pointer (some ⟨w.heap.size, 0, none⟩), undef, .pointer (some ⟨w.heap.size + 1, 0, none⟩), .pointer (some ⟨w.heap.size + 1 + 1, 0, none⟩), .pointer (some ⟨w.heap.size + 1 + 1 + 1, 0, none⟩), .pointer (some ⟨w.heap.size + 1 + 1 + 1 + 1, 0, none⟩), .pointer (some ⟨w.heap.size + 1 + 1 + 1 + 1 + 1, 0, none⟩), .int .i64 (63 * x.1 : Nat), .int .i64 (ptTo n x.1 : Nat), undef, undef, .pointer (some ⟨g, 0, none⟩), .pointer (some ⟨g, 0, none⟩), .pointer (some ⟨g, 1, none⟩), .int .i64 t.next, .int .i64 n, .func (.func 54) #[] #[.pointer (some ⟨w.heap.size + 1 + 1 + 1 + 1 + 1 + 1, 0, none⟩)], .int .i64 (63 * x.1 : Nat), .int .i64 (ptTo n x.1 : Nat), undef, undef, undef, undef, undef, undef, undef, undef, undef, undef, undef, undef, undef, undef, undef, undef, undef, undef, undef, undef, undef, undef, undef, undef, undef, undef, undef], defers := [] })
    (fun x a' _ X Y row hs _ _ => hs)
    ?assign ?body ?done ?stop
  case assign =>
    intro l0 pre x W K hI hK
    simp only [ptEnc]
    gi_wp2
    exact hK _ _ (KeepsFrom.refl _ _) (KpB.refl _ _) hI rfl
  case body =>
    rintro l0 pre x a' W hl2 ⟨r, hrr⟩ ⟨hok, hI⟩ rfl hlt
    obtain ⟨xj, hxj⟩ := x
    have hx63 := pn_lt.1 hxj
    obtain ⟨P, hP⟩ : ∃ P, t.next + pre.length = P := ⟨_, rfl⟩
    rw [hP] at hI
    have hpl := pn_le n
    have hPz : (P : Int) ≤ 70000 := by omega
    have hPk : P + 1 < s.kept.length := by unfold szN at hend; omega
    have HP := Lib.hid hP
    clear hP
    have c5 : W.cell? ⟨w.heap.size + 1 + 1 + 1 + 1 + 1, 0, none⟩ = some (.int .i64 P) := by rw [cell_of_row _ _ _ _ _ _ hI.at_]; rfl
    have f5 : W.frozen? ⟨w.heap.size + 1 + 1 + 1 + 1 + 1, 0, none⟩ = false := frozen_of_row _ _ _ _ _ hI.at_
    have hlt5 : w.heap.size + 1 + 1 + 1 + 1 + 1 < W.heap.size := by have := hI.s; omega
    obtain ⟨y, hy⟩ : ∃ y, ptTo n xj = y := ⟨_, rfl⟩
    have hy1 : 63 * xj < y := by rw [← hy]; unfold ptTo; omega
    have hy2 : y ≤ 63 * xj + 63 := by rw [← hy]; unfold ptTo; omega
    have hy3 : y ≤ n := by rw [← hy]; unfold ptTo; omega
    obtain ⟨m, hm⟩ : ∃ m, y - 63 * xj = m := ⟨_, rfl⟩
    rw [hy]
    have HY := Lib.hid hy
    clear hy
    gi_wp2
    obtain ⟨W1, hW1⟩ : ∃ W1, W.setCell ⟨w.heap.size + 1 + 1 + 1 + 1 + 1, 0, none⟩ (.int .i64 ((P : Int) + 1)) = W1 := ⟨_, rfl⟩
    rw [hW1]
    have hk1 : ∀ j, j < w3.heap.size → j ≠ w.heap.size + 1 + 1 + 1 + 1 → j ≠ w.heap.size + 1 + 1 + 1 + 1 + 1 → W1.heap[j]? = w3.heap[j]? := fun j a1 a3 a4 => by
      rw [← hW1]
      exact (Below.heap_setCell W ⟨w.heap.size + 1 + 1 + 1 + 1 + 1, 0, none⟩ _ j a4).trans (hI.old j a1 a3 a4)
    have h5W : W1.heap[w.heap.size + 1 + 1 + 1 + 1 + 1]? = some (.cells #[.int .i64 ((P : Int) + 1)] 3 (0, 0)) := by
      rw [← hW1]; exact heap_setCell_same W (w.heap.size + 1 + 1 + 1 + 1 + 1) 0 _ _ _ hI.at_
    have hs1 : w3.heap.size ≤ W1.heap.size := by rw [← hW1]; have := hI.s; simpa [World.setCell] using this
    have hb1 : Below w.heap.size w W1 := by rw [← hW1]; exact hI.b.setCell (by show w.heap.size ≤ w.heap.size + 1 + 1 + 1 + 1 + 1; omega) _
    have ko1 : KeepsOthers W W1 := by rw [← hW1]; exact KeepsOthers.setCell _ _ _
    have hacc1 : ∃ v, W1.heap[w.heap.size + 1 + 1 + 1 + 1]? = some (.cells #[v] 36 (0, 0)) ∧ W1.ownsRow w3.heap.size 5 1 v (accF s.now t.next n pre).length (bv (accF s.now t.next n pre)) := by
      obtain ⟨v, e1, e2⟩ := hI.acc
      refine ⟨v, ?_, own_same e2 fun q e => ?_⟩
      · rw [← hW1]; exact (Below.heap_setCell W ⟨w.heap.size + 1 + 1 + 1 + 1 + 1, 0, none⟩ _ (w.heap.size + 1 + 1 + 1 + 1) (by show w.heap.size + 1 + 1 + 1 + 1 ≠ w.heap.size + 1 + 1 + 1 + 1 + 1; omega)).trans e1
      · rw [← hW1]; refine Below.heap_setCell W ⟨w.heap.size + 1 + 1 + 1 + 1 + 1, 0, none⟩ _ q (fun e3 => ?_)
        have e4 : q = w.heap.size + 1 + 1 + 1 + 1 + 1 := e3
        have := (e2.lt q e).1
        omega
    have h64 : W1.heap[w.heap.size + 1 + 1 + 1 + 1 + 1 + 1]? = W.heap[w.heap.size + 1 + 1 + 1 + 1 + 1 + 1]? := by rw [← hW1]; exact Below.heap_setCell W ⟨w.heap.size + 1 + 1 + 1 + 1 + 1, 0, none⟩ _ (w.heap.size + 1 + 1 + 1 + 1 + 1 + 1) (by show w.heap.size + 1 + 1 + 1 + 1 + 1 + 1 ≠ w.heap.size + 1 + 1 + 1 + 1 + 1; omega)
    clear hW1 c5 f5
    have s0 : W1.drew.cell? ⟨w.heap.size, 0, none⟩ = some (.pointer (some ⟨g, 0, none⟩)) := (World.cell?_of_block (a := ⟨w.heap.size, 0, none⟩) (hk1 (w.heap.size) (by omega) (by omega) (by omega))).trans (by rw [cell_of_row _ _ _ _ _ _ h0]; rfl)
    have s2 : W1.drew.cell? ⟨g, 0, none⟩ = some (.pointer (some ⟨b, 0, none⟩)) := (World.cell?_of_block (a := ⟨g, 0, none⟩) ((hk1 g (by omega) (by omega) (by omega)).trans hg3)).trans hL.c0
    have s5 : W1.drew.cell? ⟨w.heap.size + 1 + 1 + 1 + 1 + 1, 0, none⟩ = some (.int .i64 ((P : Int) + 1)) := (by rw [cell_of_row _ _ _ _ _ _ (show W1.drew.heap[w.heap.size + 1 + 1 + 1 + 1 + 1]? = _ from h5W)]; rfl)
    have hD1 := drewDs (hD.below hb1)
    have hhas : s.has ((P : Int) + 1) = true := St.has_iff.2 ⟨by omega, by omega⟩
    have kR := read_s hD1 ((P : Int) + 1) hhas hdead
    have hsl := St.sect_len hD.ok hhas
    have hse : s.sect ((P : Int) + 1) = s.now.getD (t.next + 1 + pre.length) [] := by
      have := HP.out
      rw [St.sect, List.getD_eq_getElem?_getD, show ((P : Int) + 1).toNat = t.next + 1 + pre.length from by omega]
    obtain ⟨z, lr, hzl⟩ : ∃ z lr, s.sect ((P : Int) + 1) = z :: lr := by
      cases hh : s.sect ((P : Int) + 1) with
      | nil => rw [hh] at hsl; simp at hsl
      | cons z lr => exact ⟨z, lr, rfl⟩
    rw [hzl] at kR hsl hse
    have hlr : lr.length = 63 := by simpa using hsl
    have Hse := Lib.hid hse
    have Hlr := Lib.hid hlr
    have Hok := Lib.hid hok
    clear hzl hsl hse hhas hlr hok
    have hold : ∀ {W2 : World}, Below W1.drew.heap.size W1.drew W2 → ∀ j, j < w3.heap.size → W2.heap[j]? = W1.heap[j]? := fun {W2} hb j hj => hb.block j (by show j < W1.heap.size; omega)
    have e1W := (hk1 (w.heap.size + 1) (by omega) (by omega) (by omega)).trans h1
    have e2W := (hk1 (w.heap.size + 1 + 1) (by omega) (by omega) (by omega)).trans h2
    have e3W := (hk1 (w.heap.size + 1 + 1 + 1) (by omega) (by omega) (by omega)).trans h3
    by_cases hz : z = 0
    · have hzb : ((z.toNat : Int) != 0) = false := by rw [hz]; rfl
      have hS0 : Below W1.heap.size W1 W1.drew := (Below.refl _ _).drew
      refine wpIn_region_outside (Below W1.heap.size W1) (by kernel_rfl) (by kernel_rfl) ?_
      refine roH_take 0 (some 24) (v := ?vc0) rfl rfl (by kernel_rfl) (by kernel_rfl) (by kernel_rfl) (fun _ _ _ h => h) (by rfl) ?yc0 hS0 ?rc0
      case yc0 => (intro wq hSw; have s0 := (Below.cell hSw (p := ⟨w.heap.size, 0, none⟩) (by show w.heap.size < W1.heap.size; omega)).trans s0; have s2 := (Below.cell hSw (p := ⟨g, 0, none⟩) (by show g < W1.heap.size; omega)).trans s2; have s5 := (Below.cell hSw (p := ⟨w.heap.size + 1 + 1 + 1 + 1 + 1, 0, none⟩) (by show w.heap.size + 1 + 1 + 1 + 1 + 1 < W1.heap.size; omega)).trans s5; go_simp; try with_reducible rfl)
      simp only [Act.put, List.setIfInBounds_toArray, List.set_cons_zero, List.set_cons_succ]
      refine roH_take 1 (some 25) (v := ?vc1) rfl rfl (by kernel_rfl) (by kernel_rfl) (by kernel_rfl) (fun _ _ _ h => h) (by rfl) ?yc1 hS0 ?rc1
      case yc1 => (intro wq hSw; skip; go_simp; try with_reducible rfl)
      simp only [Act.put, List.setIfInBounds_toArray, List.set_cons_zero, List.set_cons_succ]
      refine roH_take 2 (some 26) (v := ?vc2) rfl rfl (by kernel_rfl) (by kernel_rfl) (by kernel_rfl) (fun _ _ _ h => h) (by rfl) ?yc2 hS0 ?rc2
      case yc2 => (intro wq hSw; skip; go_simp; try with_reducible rfl)
      simp only [Act.put, List.setIfInBounds_toArray, List.set_cons_zero, List.set_cons_succ]
      refine roH_take 3 (some 27) (v := ?vc3) rfl rfl (by kernel_rfl) (by kernel_rfl) (by kernel_rfl) (fun _ _ _ h => h) (by rfl) ?yc3 hS0 ?rc3
      case yc3 => (intro wq hSw; have s0 := (Below.cell hSw (p := ⟨w.heap.size, 0, none⟩) (by show w.heap.size < W1.heap.size; omega)).trans s0; have s2 := (Below.cell hSw (p := ⟨g, 0, none⟩) (by show g < W1.heap.size; omega)).trans s2; have s5 := (Below.cell hSw (p := ⟨w.heap.size + 1 + 1 + 1 + 1 + 1, 0, none⟩) (by show w.heap.size + 1 + 1 + 1 + 1 + 1 < W1.heap.size; omega)).trans s5; go_simp; try with_reducible rfl)
      simp only [Act.put, List.setIfInBounds_toArray, List.set_cons_zero, List.set_cons_succ]
      refine roH_take 4 (some 28) (v := ?vc4) rfl rfl (by kernel_rfl) (by kernel_rfl) (by kernel_rfl) (fun _ _ _ h => h) (by rfl) ?yc4 hS0 ?rc4
      case yc4 => (intro wq hSw; have s0 := (Below.cell hSw (p := ⟨w.heap.size, 0, none⟩) (by show w.heap.size < W1.heap.size; omega)).trans s0; have s2 := (Below.cell hSw (p := ⟨g, 0, none⟩) (by show g < W1.heap.size; omega)).trans s2; have s5 := (Below.cell hSw (p := ⟨w.heap.size + 1 + 1 + 1 + 1 + 1, 0, none⟩) (by show w.heap.size + 1 + 1 + 1 + 1 + 1 < W1.heap.size; omega)).trans s5; go_simp; try with_reducible rfl)
      simp only [Act.put, List.setIfInBounds_toArray, List.set_cons_zero, List.set_cons_succ]
      refine roH_one 5 rfl (by kernel_rfl) (fun K hK => ?_)
      go_simp
      (with_reducible refine kR.mono ?_)
      rintro e W2 ⟨v2, rfl, ho2, hb2⟩; obtain ⟨g2, c2, rfl, hg2, hg2'⟩ := own_pos ho2 (by omega); have cz : W2.cell? ⟨g2, 0, none⟩ = some (.int .u8 z.toNat) := (by rw [ho2.cellAt 0 (by omega)]; rfl)
      have hS2 : Below W1.heap.size W1 W2 := hS0.trans hb2
      refine hK _ _ hS2 ?_
      clear hK K
      refine roH_take 6 (some 23) (v := ?vc6) rfl rfl (by kernel_rfl) (by kernel_rfl) (by kernel_rfl) (fun _ _ _ h => h) (by rfl) ?yc6 hS2 ?rc6
      case yc6 => (intro wq hSw; skip; go_simp; try with_reducible rfl)
      simp only [Act.put, List.setIfInBounds_toArray, List.set_cons_zero, List.set_cons_succ]
      refine roH_take 7 (some 30) (v := ?vc7) rfl rfl (by kernel_rfl) (by kernel_rfl) (by kernel_rfl) (fun _ _ _ h => h) (by rfl) ?yc7 hS2 ?rc7
      case yc7 => (intro wq hSw; skip; go_simp; try with_reducible rfl)
      simp only [Act.put, List.setIfInBounds_toArray, List.set_cons_zero, List.set_cons_succ]
      refine roH_take 8 (some 31) (v := ?vc8) rfl rfl (by kernel_rfl) (by kernel_rfl) (by kernel_rfl) (fun _ _ _ h => h) (by rfl) ?yc8 hS2 ?rc8
      case yc8 => (intro wq hSw; skip; go_simp; try with_reducible rfl)
      simp only [Act.put, List.setIfInBounds_toArray, List.set_cons_zero, List.set_cons_succ]
      refine roH_take 9 (some 11) (v := ?vc9) rfl rfl (by kernel_rfl) (by kernel_rfl) (by kernel_rfl) (fun _ _ _ h => h) (by rfl) ?yc9 hS2 ?rc9
      case yc9 => (intro wq hSw; skip; go_simp; try with_reducible rfl)
      simp only [Act.put, List.setIfInBounds_toArray, List.set_cons_zero, List.set_cons_succ]
      refine roH_take 10 (some 12) (v := ?vc10) rfl rfl (by kernel_rfl) (by kernel_rfl) (by kernel_rfl) (fun _ _ _ h => h) (by rfl) ?yc10 hS2 ?rc10
      case yc10 => (intro wq hSw; skip; go_simp; try with_reducible rfl)
      simp only [Act.put, List.setIfInBounds_toArray, List.set_cons_zero, List.set_cons_succ]
      refine wpAnyH_done (by kernel_rfl) ?_ _
      simp only [OnlyN]
      gi_wp2
      obtain ⟨A2, c2', e2', hr2⟩ := Rd.own ho2
      cases e2'
      have hcap2 := hr2.cap
      have hcm2 := hr2.capm
      obtain ⟨v, hv4, hva⟩ := hacc1
      have hv2 := (hold hb2 (w.heap.size + 1 + 1 + 1 + 1) (by omega)).trans hv4
      have hva2 : W2.ownsRow w3.heap.size 5 1 v (accF s.now t.next n pre).length (bv (accF s.now t.next n pre)) := own_same hva fun q e => hb2.block q (by show q < W1.heap.size; exact (hva.lt q e).2)
      have hs2 := hb2.size
      obtain ⟨aA, ac, rfl, _⟩ := Rd.own hva
      have hsub := (hr2.cutN (k := 1) (by omega) (by omega)).pre (k := m) (by omega)
      rw [Nat.mul_one, show (Option.map (fun a => a.add 1) (some (⟨g2, 0, none⟩ : Addr))) = some ⟨g2, 1, none⟩ from by simp [Addr.add_lit]] at hsub
      have hsrc := Rd.src (P := Try.prog) Try.underlying36 hsub.drew (fun u hu => bv_one (z :: lr) u (List.mem_of_mem_drop (List.mem_of_mem_take hu)))
      have hnews : ((bv (z :: lr)).drop 1).take m = bv (((s.now.getD (t.next + 1 + pre.length) []).drop 1).take (ptTo n xj - 63 * xj)) := by
        rw [← Hse.out, HY.out, hm, bv_drop, bv_take]
      have hsn : accF s.now t.next n (pre ++ [⟨xj, hxj⟩]) = accF s.now t.next n pre ++ ((s.now.getD (t.next + 1 + pre.length) []).drop 1).take (ptTo n xj - 63 * xj) := accF_snoc _ _ _ _ _
      have hnl : (((s.now.getD (t.next + 1 + pre.length) []).drop 1).take (ptTo n xj - 63 * xj)).length = m := by
        have := congrArg List.length hnews
        rw [bv_length] at this
        rw [← this]
        have h3 := Hlr.out
        simp [bv_length]
        omega
      have hal : (accF s.now t.next n pre).length ≤ 4096 * 63 := by have := accF_le s.now t.next n pre; omega
      have m1 : ((1 : Int) + (y : Int) - 63 * (xj : Int)) = 1 + (m : Int) := by omega
      have m2 : (1 : Int) + (m : Int) ≤ 64 := by omega
      have m3 : (64 : Int) ≤ (c2 : Int) := by omega
      have m5 : ((1 : Int) + (m : Int)).toNat = 1 + m := by omega
      have m6 : ¬ c2 = 1 := by omega
      have hcz2 : (c2 : Int) ≤ 9223372036854775807 := by simp only [maxLen] at hcm2; omega
      have y1 : (y : Int) ≤ 4096 := by omega
      have y2 : 63 * (xj : Int) ≤ (y : Int) := by omega
      have y3 : 0 ≤ 63 * (xj : Int) := by omega
      have Hnews := Lib.hid hnews
      have Hsn := Lib.hid hsn
      have Hnl := Lib.hid hnl
      have Hm := Lib.hid hm
      clear hnews hsn hnl hm hcm2 hr2 hsub kR
      obtain ⟨i0, hi, hz0, hz1, hz2⟩ := info_parts infoF
      have hal2 : (accF s.now t.next n pre).length + m ≤ 1000000 := by omega
      have hws2 : w3.heap.size ≤ W2.heap.size := Nat.le_trans hs1 hs2
      have wr1 : IntKind.i64.wrap (1 + (y : Int)) = 1 + (y : Int) := IntWalk.i64_in _ (by omega)
      have wr2 : IntKind.i64.wrap (1 + (y : Int) - 63 * (xj : Int)) = 1 + (m : Int) := by
        rw [IntWalk.i64_in _ (by omega)]; exact m1
      have m7 : (0 : Int) ≤ 1 + (m : Int) := by clear wr1 wr2; omega
      have m8 : 1 + (m : Int) ≤ (c2 : Int) := by clear wr1 wr2; omega
      have m9 : (1 : Int) ≤ 1 + (m : Int) := by clear wr1 wr2; omega
      clear m1
      refine wpIn_region_outside (fun _ => True) (by kernel_rfl) (by kernel_rfl) ?_
      refine roH_take 1 (some 40) (v := ?vb1) rfl rfl (by kernel_rfl) (by kernel_rfl) (by kernel_rfl) (fun _ _ _ h => h) (by rfl) ?yb1 trivial ?rb1
      case yb1 => (intro wq hSw; skip; go_simp; try with_reducible rfl)
      simp only [Act.put, List.setIfInBounds_toArray, List.set_cons_zero, List.set_cons_succ]
      refine roH_take 2 (some 41) (v := ?vb2) rfl rfl (by kernel_rfl) (by kernel_rfl) (by kernel_rfl) (fun _ _ _ h => h) (by rfl) ?yb2 trivial ?rb2
      case yb2 => (intro wq hSw; skip; go_simp; try with_reducible rfl)
      simp only [Act.put, List.setIfInBounds_toArray, List.set_cons_zero, List.set_cons_succ]
      refine roH_take 3 (some 42) (v := ?vb3) rfl rfl (by kernel_rfl) (by kernel_rfl) (by kernel_rfl) (fun _ _ _ h => h) (by rfl) ?yb3 trivial ?rb3
      case yb3 => (intro wq hSw; skip; go_simp; try with_reducible rfl)
      simp only [Act.put, List.setIfInBounds_toArray, List.set_cons_zero, List.set_cons_succ]
      refine roH_take 4 (some 43) (v := ?vb4) rfl rfl (by kernel_rfl) (by kernel_rfl) (by kernel_rfl) (fun _ _ _ h => h) (by rfl) ?yb4 trivial ?rb4
      case yb4 => (intro wq hSw; skip; go_simp; try with_reducible rfl)
      simp only [Act.put, List.setIfInBounds_toArray, List.set_cons_zero, List.set_cons_succ]
      refine roH_take 5 (some 44) (v := ?vb5) rfl rfl (by kernel_rfl) (by kernel_rfl) (by kernel_rfl) (fun _ _ _ h => h) (by rfl) ?yb5 trivial ?rb5
      case yb5 => (intro wq hSw; skip; go_simp; try with_reducible rfl)
      simp only [Act.put, List.setIfInBounds_toArray, List.set_cons_zero, List.set_cons_succ]
      refine roH_take 6 (some 45) (v := ?vb6) rfl rfl (by kernel_rfl) (by kernel_rfl) (by kernel_rfl) (fun _ _ _ h => h) (by rfl) ?yb6 trivial ?rb6
      case yb6 => (intro wq hSw; skip; go_simp; try with_reducible rfl)
      simp only [Act.put, List.setIfInBounds_toArray, List.set_cons_zero, List.set_cons_succ]
      clear wr1 wr2
      have hcv : W2.drew.cell? ⟨w.heap.size + 1 + 1 + 1 + 1, 0, none⟩ = some (.slice aA (accF s.now t.next n pre).length ac) := by rw [cell_of_row _ _ _ _ _ _ (show W2.drew.heap[w.heap.size + 1 + 1 + 1 + 1]? = _ from hv2)]; rfl
      refine roH_one 0 rfl (by kernel_rfl) (fun K hK => ?_)
      go_simp
      refine hK _ _ trivial ?_
      clear hK K
      refine roH_one 7 rfl (by kernel_rfl) (fun K hK => ?_)
      refine step_append_src (some 46) rfl rfl (.tmp 39) (.tmp 45) 36 36 rfl w3.heap.size 5 i0 (.int .u8 0) 1 1 Try.underlying36 hi hz0 hz1 hz2 rfl (by decide) (.slice aA (accF s.now t.next n pre).length ac) (accF s.now t.next n pre).length _ rfl (own_same hva2 fun _ _ => rfl) _ m _ rfl hsrc (by simp only [maxLen]; omega) (by omega) hws2 ?_
      intro v4 w4 hown4 hg4 hat4
      simp only [Act.put, List.setIfInBounds_toArray, List.set_cons_zero, List.set_cons_succ]
      rw [Hnews.out, ← bv_append] at hown4
      have hlen4 : (accF s.now t.next n pre).length + m = (accF s.now t.next n (pre ++ [⟨xj, hxj⟩])).length := by rw [Hsn.out, List.length_append, Hnl.out]
      rw [hlen4, ← Hsn.out] at hown4
      have Hlen4 := Lib.hid hlen4
      clear hlen4
      obtain ⟨A4, c4, rfl, _⟩ := Rd.own hown4
      have h4B : w4.heap[w.heap.size + 1 + 1 + 1 + 1]? = some (.cells #[.slice aA (accF s.now t.next n pre).length ac] 36 (0, 0)) := (hg4.block (w.heap.size + 1 + 1 + 1 + 1) (by show w.heap.size + 1 + 1 + 1 + 1 < W2.heap.size; omega) fun e => by have := (hva2.lt _ e.symm).1; omega).trans hv2
      have c4B : w4.cell? ⟨w.heap.size + 1 + 1 + 1 + 1, 0, none⟩ = some (.slice aA (accF s.now t.next n pre).length ac) := by rw [cell_of_row _ _ _ _ _ _ h4B]; rfl
      have f4B : w4.frozen? ⟨w.heap.size + 1 + 1 + 1 + 1, 0, none⟩ = false := frozen_of_row _ _ _ _ _ h4B
      refine hK _ _ trivial ?_
      clear hK K
      refine roH_one 8 rfl (by kernel_rfl) (fun K hK => ?_)
      go_simp
      refine hK _ _ trivial ?_
      clear hK K
      refine wpAnyH_done (by kernel_rfl) ?_ _
      simp only [OnlyN]
      have hs4 : W2.heap.size ≤ w4.heap.size := hg4.size
      have hfar : ∀ j, j < w3.heap.size → j ≠ w.heap.size + 1 + 1 + 1 + 1 → (w4.setCell ⟨w.heap.size + 1 + 1 + 1 + 1, 0, none⟩ (.slice A4 (accF s.now t.next n (pre ++ [⟨xj, hxj⟩])).length c4)).heap[j]? = W1.heap[j]? := fun j a1 a2 =>
        (Below.heap_setCell w4 ⟨w.heap.size + 1 + 1 + 1 + 1, 0, none⟩ _ j a2).trans ((hg4.block j (by show j < W2.heap.size; omega) fun e => by have := (hva2.lt j e.symm).1; omega).trans (hold hb2 j a1))
      have hPn : t.next + (pre ++ [(⟨xj, hxj⟩ : Fin (pn n))]).length = P + 1 := by have := HP.out; simp; omega
      have hpa : partsAre s.now t.next (pre ++ [(⟨xj, hxj⟩ : Fin (pn n))]).length = true := by
        rw [List.length_append, List.length_singleton, partsAre_step, Hok.out, ← Hse.out, hz]; rfl
      have hgo : ∀ X : World, X = w4.setCell ⟨w.heap.size + 1 + 1 + 1 + 1, 0, none⟩ (.slice A4 (accF s.now t.next n (pre ++ [⟨xj, hxj⟩])).length c4) → KeepsFrom w3.heap.size W X ∧ KpB (w.heap.size + 1 + 1 + 1 + 1 + 1 + 1) W X ∧ partsAre s.now t.next (pre ++ [(⟨xj, hxj⟩ : Fin (pn n))]).length = true ∧ RpI w w3 (w.heap.size + 1 + 1 + 1 + 1) (w.heap.size + 1 + 1 + 1 + 1 + 1) (t.next + (pre ++ [(⟨xj, hxj⟩ : Fin (pn n))]).length) (accF s.now t.next n (pre ++ [⟨xj, hxj⟩])) X := by
        rintro X rfl
        have ko4 : KeepsOthers W (w4.setCell ⟨w.heap.size + 1 + 1 + 1 + 1, 0, none⟩ (.slice A4 (accF s.now t.next n (pre ++ [⟨xj, hxj⟩])).length c4)) := by
          refine ko1.trans (KeepsOthers.trans (B := W2) ⟨hs2, fun k o hk _ => (hb2.block k (Array.getElem?_eq_some_iff.1 hk).1).trans hk⟩ ((KeepsOthers.drew W2).trans (KeepsOthers.trans (KeepsOthers.of_grownBy hg4 fun j o e ho => ?_) (KeepsOthers.setCell _ _ _))))
          obtain ⟨cs, tt, f, hk⟩ := own_cells hva2 e.symm.symm
          have : W2.heap[j]? = some o := ho
          rw [hk] at this
          cases this
          rfl
        refine ⟨ko4.from _, ⟨ko4.size, (hfar (w.heap.size + 1 + 1 + 1 + 1 + 1 + 1) (by omega) (by omega)).trans h64⟩, hpa, ⟨?_, by simp [World.setCell]; omega, fun j a1 a2 a3 => (hfar j a1 a2).trans (hk1 j a1 a2 a3), ⟨_, heap_setCell_same w4 (w.heap.size + 1 + 1 + 1 + 1) 0 _ _ _ h4B, own_same hown4 fun q e => Below.heap_setCell w4 ⟨w.heap.size + 1 + 1 + 1 + 1, 0, none⟩ _ q fun e2 => ?_⟩, ?_⟩⟩
        · exact (((hb1.drew.trans (hb2.mono hb1.size)).drew).grown hg4 (by show w.heap.size ≤ W2.heap.size; omega) fun k e => by have := (hva2.lt k e).1; omega).setCell (by show w.heap.size ≤ w.heap.size + 1 + 1 + 1 + 1; omega) _
        · have e3 : q = w.heap.size + 1 + 1 + 1 + 1 := e2
          have := (hown4.lt q e).1
          omega
        · rw [hPn]; exact (hfar (w.heap.size + 1 + 1 + 1 + 1 + 1) (by omega) (by omega)).trans h5W
      have Hgo := Lib.hid hgo
      clear hgo hpa hPn hfar
      gi_wp2
      exact Hgo.out _ rfl
    · have hzb : ((z.toNat : Int) != 0) = true := by
        have : z.toNat ≠ 0 := fun e => hz (UInt8.toNat_inj.1 e)
        simp; omega
      have hS0 : Below W1.heap.size W1 W1.drew := (Below.refl _ _).drew
      refine wpIn_region_outside (Below W1.heap.size W1) (by kernel_rfl) (by kernel_rfl) ?_
      refine roH_take 0 (some 24) (v := ?vd0) rfl rfl (by kernel_rfl) (by kernel_rfl) (by kernel_rfl) (fun _ _ _ h => h) (by rfl) ?yd0 hS0 ?rd0
      case yd0 => (intro wq hSw; have s0 := (Below.cell hSw (p := ⟨w.heap.size, 0, none⟩) (by show w.heap.size < W1.heap.size; omega)).trans s0; have s2 := (Below.cell hSw (p := ⟨g, 0, none⟩) (by show g < W1.heap.size; omega)).trans s2; have s5 := (Below.cell hSw (p := ⟨w.heap.size + 1 + 1 + 1 + 1 + 1, 0, none⟩) (by show w.heap.size + 1 + 1 + 1 + 1 + 1 < W1.heap.size; omega)).trans s5; go_simp; try with_reducible rfl)
      simp only [Act.put, List.setIfInBounds_toArray, List.set_cons_zero, List.set_cons_succ]
      refine roH_take 1 (some 25) (v := ?vd1) rfl rfl (by kernel_rfl) (by kernel_rfl) (by kernel_rfl) (fun _ _ _ h => h) (by rfl) ?yd1 hS0 ?rd1
      case yd1 => (intro wq hSw; skip; go_simp; try with_reducible rfl)
      simp only [Act.put, List.setIfInBounds_toArray, List.set_cons_zero, List.set_cons_succ]
      refine roH_take 2 (some 26) (v := ?vd2) rfl rfl (by kernel_rfl) (by kernel_rfl) (by kernel_rfl) (fun _ _ _ h => h) (by rfl) ?yd2 hS0 ?rd2
      case yd2 => (intro wq hSw; skip; go_simp; try with_reducible rfl)
      simp only [Act.put, List.setIfInBounds_toArray, List.set_cons_zero, List.set_cons_succ]
      refine roH_take 3 (some 27) (v := ?vd3) rfl rfl (by kernel_rfl) (by kernel_rfl) (by kernel_rfl) (fun _ _ _ h => h) (by rfl) ?yd3 hS0 ?rd3
      case yd3 => (intro wq hSw; have s0 := (Below.cell hSw (p := ⟨w.heap.size, 0, none⟩) (by show w.heap.size < W1.heap.size; omega)).trans s0; have s2 := (Below.cell hSw (p := ⟨g, 0, none⟩) (by show g < W1.heap.size; omega)).trans s2; have s5 := (Below.cell hSw (p := ⟨w.heap.size + 1 + 1 + 1 + 1 + 1, 0, none⟩) (by show w.heap.size + 1 + 1 + 1 + 1 + 1 < W1.heap.size; omega)).trans s5; go_simp; try with_reducible rfl)
      simp only [Act.put, List.setIfInBounds_toArray, List.set_cons_zero, List.set_cons_succ]
      refine roH_take 4 (some 28) (v := ?vd4) rfl rfl (by kernel_rfl) (by kernel_rfl) (by kernel_rfl) (fun _ _ _ h => h) (by rfl) ?yd4 hS0 ?rd4
      case yd4 => (intro wq hSw; have s0 := (Below.cell hSw (p := ⟨w.heap.size, 0, none⟩) (by show w.heap.size < W1.heap.size; omega)).trans s0; have s2 := (Below.cell hSw (p := ⟨g, 0, none⟩) (by show g < W1.heap.size; omega)).trans s2; have s5 := (Below.cell hSw (p := ⟨w.heap.size + 1 + 1 + 1 + 1 + 1, 0, none⟩) (by show w.heap.size + 1 + 1 + 1 + 1 + 1 < W1.heap.size; omega)).trans s5; go_simp; try with_reducible rfl)
      simp only [Act.put, List.setIfInBounds_toArray, List.set_cons_zero, List.set_cons_succ]
      refine roH_one 5 rfl (by kernel_rfl) (fun K hK => ?_)
      go_simp
      (with_reducible refine kR.mono ?_)
      rintro e W2 ⟨v2, rfl, ho2, hb2⟩; obtain ⟨g2, c2, rfl, hg2, hg2'⟩ := own_pos ho2 (by omega); have cz : W2.cell? ⟨g2, 0, none⟩ = some (.int .u8 z.toNat) := (by rw [ho2.cellAt 0 (by omega)]; rfl); have e1V := (hold hb2 (w.heap.size + 1) (by omega)).trans e1W; have e2V := (hold hb2 (w.heap.size + 1 + 1) (by omega)).trans e2W; have e3V := (hold hb2 (w.heap.size + 1 + 1 + 1) (by omega)).trans e3W; have c1V : W2.cell? ⟨w.heap.size + 1, 0, none⟩ = some (.slice none 0 0) := (by rw [cell_of_row _ _ _ _ _ _ e1V]; rfl); have f1V : W2.frozen? ⟨w.heap.size + 1, 0, none⟩ = false := frozen_of_row _ _ _ _ _ e1V; have c2V : W2.cell? ⟨w.heap.size + 1 + 1, 0, none⟩ = some (.bool false) := (by rw [cell_of_row _ _ _ _ _ _ e2V]; rfl); have f2V : W2.frozen? ⟨w.heap.size + 1 + 1, 0, none⟩ = false := frozen_of_row _ _ _ _ _ e2V; have c3V : W2.cell? ⟨w.heap.size + 1 + 1 + 1, 0, none⟩ = some (.int .i64 0) := (by rw [cell_of_row _ _ _ _ _ _ e3V]; rfl); have f3V : W2.frozen? ⟨w.heap.size + 1 + 1 + 1, 0, none⟩ = false := frozen_of_row _ _ _ _ _ e3V
      have hS2 : Below W1.heap.size W1 W2 := hS0.trans hb2
      refine hK _ _ hS2 ?_
      clear hK K
      refine roH_take 6 (some 23) (v := ?vd6) rfl rfl (by kernel_rfl) (by kernel_rfl) (by kernel_rfl) (fun _ _ _ h => h) (by rfl) ?yd6 hS2 ?rd6
      case yd6 => (intro wq hSw; skip; go_simp; try with_reducible rfl)
      simp only [Act.put, List.setIfInBounds_toArray, List.set_cons_zero, List.set_cons_succ]
      refine roH_take 7 (some 30) (v := ?vd7) rfl rfl (by kernel_rfl) (by kernel_rfl) (by kernel_rfl) (fun _ _ _ h => h) (by rfl) ?yd7 hS2 ?rd7
      case yd7 => (intro wq hSw; skip; go_simp; try with_reducible rfl)
      simp only [Act.put, List.setIfInBounds_toArray, List.set_cons_zero, List.set_cons_succ]
      refine roH_take 8 (some 31) (v := ?vd8) rfl rfl (by kernel_rfl) (by kernel_rfl) (by kernel_rfl) (fun _ _ _ h => h) (by rfl) ?yd8 hS2 ?rd8
      case yd8 => (intro wq hSw; skip; go_simp; try with_reducible rfl)
      simp only [Act.put, List.setIfInBounds_toArray, List.set_cons_zero, List.set_cons_succ]
      refine roH_take 9 (some 11) (v := ?vd9) rfl rfl (by kernel_rfl) (by kernel_rfl) (by kernel_rfl) (fun _ _ _ h => h) (by rfl) ?yd9 hS2 ?rd9
      case yd9 => (intro wq hSw; skip; go_simp; try with_reducible rfl)
      simp only [Act.put, List.setIfInBounds_toArray, List.set_cons_zero, List.set_cons_succ]
      refine roH_take 10 (some 12) (v := ?vd10) rfl rfl (by kernel_rfl) (by kernel_rfl) (by kernel_rfl) (fun _ _ _ h => h) (by rfl) ?yd10 hS2 ?rd10
      case yd10 => (intro wq hSw; skip; go_simp; try with_reducible rfl)
      simp only [Act.put, List.setIfInBounds_toArray, List.set_cons_zero, List.set_cons_succ]
      refine wpAnyH_done (by kernel_rfl) ?_ _
      simp only [OnlyN]
      gi_wp2
      have hs2 := hb2.size
      have hfar : ∀ j, j ≠ w.heap.size + 1 → j ≠ w.heap.size + 1 + 1 → j ≠ w.heap.size + 1 + 1 + 1 → (((W2.setCell ⟨w.heap.size + 1, 0, none⟩ (.slice none 0 0)).setCell ⟨w.heap.size + 1 + 1, 0, none⟩ (.bool false)).setCell ⟨w.heap.size + 1 + 1 + 1, 0, none⟩ (.int .i64 0)).heap[j]? = W2.heap[j]? := fun j a1 a2 a3 =>
        (Below.heap_setCell _ ⟨w.heap.size + 1 + 1 + 1, 0, none⟩ _ j a3).trans ((Below.heap_setCell _ ⟨w.heap.size + 1 + 1, 0, none⟩ _ j a2).trans (Below.heap_setCell W2 ⟨w.heap.size + 1, 0, none⟩ _ j a1))
      have ko4 : KeepsOthers W (((W2.setCell ⟨w.heap.size + 1, 0, none⟩ (.slice none 0 0)).setCell ⟨w.heap.size + 1 + 1, 0, none⟩ (.bool false)).setCell ⟨w.heap.size + 1 + 1 + 1, 0, none⟩ (.int .i64 0)) :=
        ko1.trans (KeepsOthers.trans (B := W2) ⟨hs2, fun k o hk _ => (hb2.block k (Array.getElem?_eq_some_iff.1 hk).1).trans hk⟩ ((KeepsOthers.setCell _ _ _).trans ((KeepsOthers.setCell _ _ _).trans (KeepsOthers.setCell _ _ _))))
      refine ⟨ko4.from _, rfl, ?_, ⟨((((hb1.drew.trans (hb2.mono hb1.size)).setCell (by show w.heap.size ≤ w.heap.size + 1; omega) _).setCell (by show w.heap.size ≤ w.heap.size + 1 + 1; omega) _).setCell (by show w.heap.size ≤ w.heap.size + 1 + 1 + 1; omega) _), ?_, ?_, ?_, by have : W1.drew.heap.size ≤ W2.heap.size := hs2; have e : W1.drew.heap.size = W1.heap.size := rfl; simp [World.setCell]; omega⟩⟩
      · rw [List.length_append, List.length_singleton, partsAre_step, Hok.out, ← Hse.out]; simp [hz]
      · exact (Below.heap_setCell _ ⟨w.heap.size + 1 + 1 + 1, 0, none⟩ _ (w.heap.size + 1) (by show w.heap.size + 1 ≠ w.heap.size + 1 + 1 + 1; omega)).trans ((Below.heap_setCell _ ⟨w.heap.size + 1 + 1, 0, none⟩ _ (w.heap.size + 1) (by show w.heap.size + 1 ≠ w.heap.size + 1 + 1; omega)).trans (heap_setCell_same W2 (w.heap.size + 1) 0 _ _ _ e1V))
      · exact (Below.heap_setCell _ ⟨w.heap.size + 1 + 1 + 1, 0, none⟩ _ (w.heap.size + 1 + 1) (by show w.heap.size + 1 + 1 ≠ w.heap.size + 1 + 1 + 1; omega)).trans (heap_setCell_same _ (w.heap.size + 1 + 1) 0 _ _ _ ((Below.heap_setCell W2 ⟨w.heap.size + 1, 0, none⟩ _ (w.heap.size + 1 + 1) (by show w.heap.size + 1 + 1 ≠ w.heap.size + 1; omega)).trans e2V))
      · exact heap_setCell_same _ (w.heap.size + 1 + 1 + 1) 0 _ _ _ ((Below.heap_setCell _ ⟨w.heap.size + 1 + 1, 0, none⟩ _ (w.heap.size + 1 + 1 + 1) (by show w.heap.size + 1 + 1 + 1 ≠ w.heap.size + 1 + 1; omega)).trans ((Below.heap_setCell W2 ⟨w.heap.size + 1, 0, none⟩ _ (w.heap.size + 1 + 1 + 1) (by show w.heap.size + 1 + 1 + 1 ≠ w.heap.size + 1; omega)).trans e3V))
  case done =>
    rintro D ys W hD2 rfl ⟨hok, hI⟩ hK
    rw [ptAll_len] at hok
    have hno := hD.ok.nowSec
    have hnl := St.nowLen s
    have hall := accF_all (l := s.now) hno (pos := t.next) (n := n) (by rw [hnl]; unfold szN at hend; omega) (pn n) (Nat.le_refl _)
    rw [List.take_of_length_le (by rw [ptAll_len]; exact Nat.le_refl _)] at hall
    have hrd : rdP s t n = some (accF s.now t.next n (ptAll n)) := by rw [rdP, if_pos hok, hall]
    obtain ⟨v, hv4, hva⟩ := hI.acc
    have hs := hI.s
    have hDl : D < W.heap.size := (Array.getElem?_eq_some_iff.1 hK).1
    have e1 := (hI.old (w.heap.size + 1) (by omega) (by omega) (by omega)).trans h1
    have e2 := (hI.old (w.heap.size + 1 + 1) (by omega) (by omega) (by omega)).trans h2
    have e3 := (hI.old (w.heap.size + 1 + 1 + 1) (by omega) (by omega) (by omega)).trans h3
    have hvD : v.ownBlock ≠ some D := fun e => by
      obtain ⟨cs, tt, f, h⟩ := own_cells hva e
      rw [hK] at h
      cases h
    obtain ⟨A, c, rfl, _⟩ := Rd.own hva
    have c1 : W.cell? ⟨w.heap.size + 1, 0, none⟩ = some (.slice none 0 0) := by rw [cell_of_row _ _ _ _ _ _ e1]; rfl
    have c2 : W.cell? ⟨w.heap.size + 1 + 1, 0, none⟩ = some (.bool false) := by rw [cell_of_row _ _ _ _ _ _ e2]; rfl
    have c3 : W.cell? ⟨w.heap.size + 1 + 1 + 1, 0, none⟩ = some (.int .i64 0) := by rw [cell_of_row _ _ _ _ _ _ e3]; rfl
    have c4 : W.cell? ⟨w.heap.size + 1 + 1 + 1 + 1, 0, none⟩ = some (.slice A (accF s.now t.next n (ptAll n)).length c) := by rw [cell_of_row _ _ _ _ _ _ hv4]; rfl
    have f1 : W.frozen? ⟨w.heap.size + 1, 0, none⟩ = false := frozen_of_row _ _ _ _ _ e1
    have f2 : W.frozen? ⟨w.heap.size + 1 + 1, 0, none⟩ = false := frozen_of_row _ _ _ _ _ e2
    have f3 : W.frozen? ⟨w.heap.size + 1 + 1 + 1, 0, none⟩ = false := frozen_of_row _ _ _ _ _ e3
    have Hrd := Lib.hid hrd
    have Hb := Lib.hid hI.b
    clear hrd hall hok hno hnl
    generalize accF s.now t.next n (ptAll n) = acc at *
    gi_wp2
    have hw3 : W.heap.size = (((W.setCell ⟨w.heap.size + 1, 0, none⟩ (.slice A acc.length c)).setCell ⟨w.heap.size + 1 + 1, 0, none⟩ (.bool true)).setCell ⟨w.heap.size + 1 + 1 + 1, 0, none⟩ (.int .i64 0)).heap.size := by simp [World.setCell]
    have hfar : ∀ j, j ≠ w.heap.size + 1 → j ≠ w.heap.size + 1 + 1 → j ≠ w.heap.size + 1 + 1 + 1 → (((W.setCell ⟨w.heap.size + 1, 0, none⟩ (.slice A acc.length c)).setCell ⟨w.heap.size + 1 + 1, 0, none⟩ (.bool true)).setCell ⟨w.heap.size + 1 + 1 + 1, 0, none⟩ (.int .i64 0)).heap[j]? = W.heap[j]? := fun j a1 a2 a3 =>
      (Below.heap_setCell _ ⟨w.heap.size + 1 + 1 + 1, 0, none⟩ _ j a3).trans ((Below.heap_setCell _ ⟨w.heap.size + 1 + 1, 0, none⟩ _ j a2).trans (Below.heap_setCell W ⟨w.heap.size + 1, 0, none⟩ _ j a1))
    have hX1 : (((W.setCell ⟨w.heap.size + 1, 0, none⟩ (.slice A acc.length c)).setCell ⟨w.heap.size + 1 + 1, 0, none⟩ (.bool true)).setCell ⟨w.heap.size + 1 + 1 + 1, 0, none⟩ (.int .i64 0)).heap[w.heap.size + 1]? = some (.cells #[.slice A acc.length c] 36 (0, 0)) :=
      (Below.heap_setCell _ ⟨w.heap.size + 1 + 1 + 1, 0, none⟩ _ (w.heap.size + 1) (by show w.heap.size + 1 ≠ w.heap.size + 1 + 1 + 1; omega)).trans ((Below.heap_setCell _ ⟨w.heap.size + 1 + 1, 0, none⟩ _ (w.heap.size + 1) (by show w.heap.size + 1 ≠ w.heap.size + 1 + 1; omega)).trans (heap_setCell_same W (w.heap.size + 1) 0 _ _ _ e1))
    have hX2 : (((W.setCell ⟨w.heap.size + 1, 0, none⟩ (.slice A acc.length c)).setCell ⟨w.heap.size + 1 + 1, 0, none⟩ (.bool true)).setCell ⟨w.heap.size + 1 + 1 + 1, 0, none⟩ (.int .i64 0)).heap[w.heap.size + 1 + 1]? = some (.cells #[.bool true] 4 (0, 0)) :=
      (Below.heap_setCell _ ⟨w.heap.size + 1 + 1 + 1, 0, none⟩ _ (w.heap.size + 1 + 1) (by show w.heap.size + 1 + 1 ≠ w.heap.size + 1 + 1 + 1; omega)).trans (heap_setCell_same _ (w.heap.size + 1 + 1) 0 _ _ _ ((Below.heap_setCell W ⟨w.heap.size + 1, 0, none⟩ _ (w.heap.size + 1 + 1) (by show w.heap.size + 1 + 1 ≠ w.heap.size + 1; omega)).trans e2))
    have hX3 : (((W.setCell ⟨w.heap.size + 1, 0, none⟩ (.slice A acc.length c)).setCell ⟨w.heap.size + 1 + 1, 0, none⟩ (.bool true)).setCell ⟨w.heap.size + 1 + 1 + 1, 0, none⟩ (.int .i64 0)).heap[w.heap.size + 1 + 1 + 1]? = some (.cells #[.int .i64 0] 27 (0, 0)) :=
      heap_setCell_same _ (w.heap.size + 1 + 1 + 1) 0 _ _ _ ((Below.heap_setCell _ ⟨w.heap.size + 1 + 1, 0, none⟩ _ (w.heap.size + 1 + 1 + 1) (by show w.heap.size + 1 + 1 + 1 ≠ w.heap.size + 1 + 1; omega)).trans ((Below.heap_setCell W ⟨w.heap.size + 1, 0, none⟩ _ (w.heap.size + 1 + 1 + 1) (by show w.heap.size + 1 + 1 + 1 ≠ w.heap.size + 1; omega)).trans e3))
    have hbX : Below w.heap.size w (((W.setCell ⟨w.heap.size + 1, 0, none⟩ (.slice A acc.length c)).setCell ⟨w.heap.size + 1 + 1, 0, none⟩ (.bool true)).setCell ⟨w.heap.size + 1 + 1 + 1, 0, none⟩ (.int .i64 0)) := ((Hb.out.setCell (by show w.heap.size ≤ w.heap.size + 1; omega) _).setCell (by show w.heap.size ≤ w.heap.size + 1 + 1; omega) _).setCell (by show w.heap.size ≤ w.heap.size + 1 + 1 + 1; omega) _
    have hKX := (hfar D (by omega) (by omega) (by omega)).trans hK
    have hvX := own_same hva fun q e => hfar q (by have := (hva.lt q e).1; omega) (by have := (hva.lt q e).1; omega) (by have := (hva.lt q e).1; omega)
    generalize (((W.setCell ⟨w.heap.size + 1, 0, none⟩ (.slice A acc.length c)).setCell ⟨w.heap.size + 1 + 1, 0, none⟩ (.bool true)).setCell ⟨w.heap.size + 1 + 1 + 1, 0, none⟩ (.int .i64 0)) = X at *
    refine ⟨by simp, .inl ⟨_, _, rfl, run_takeDeferred hKX, ?_⟩⟩
    have hp : ∀ j, j ≠ D → (X.putObj D (.deferred none)).heap[j]? = X.heap[j]? := fun j h => World.putObj_heap_other h
    have r1 : (X.putObj D (.deferred none)).cell? ⟨w.heap.size + 1, 0, none⟩ = some (.slice A acc.length c) := by rw [cell_of_row _ _ _ _ _ _ ((hp (w.heap.size + 1) (by omega)).trans hX1)]; rfl
    have r2 : (X.putObj D (.deferred none)).cell? ⟨w.heap.size + 1 + 1, 0, none⟩ = some (.bool true) := by rw [cell_of_row _ _ _ _ _ _ ((hp (w.heap.size + 1 + 1) (by omega)).trans hX2)]; rfl
    have r3 : (X.putObj D (.deferred none)).cell? ⟨w.heap.size + 1 + 1 + 1, 0, none⟩ = some (.int .i64 0) := by rw [cell_of_row _ _ _ _ _ _ ((hp (w.heap.size + 1 + 1 + 1) (by omega)).trans hX3)]; rfl
    refine ⟨.tuple #[.slice A acc.length c, .bool true, .int .i64 0], by simp [results, Try.results44, go_sem, r1, r2, r3], A, c, by rw [Hrd.out]; rfl, ?_, ?_⟩
    · rw [Hrd.out]
      exact own_base (own_same hvX fun q e => hp q fun e2 => hvD (by rw [← e2]; exact e)) hws3
    · exact hbX.trans ⟨rfl, rfl, rfl, (grownBy_putObj' X D _).size, fun k hk => hp k (by omega)⟩
  case stop =>
    rintro D c pre W hD2 ⟨k, hk, rfl⟩ ⟨rfl, hbad, hX⟩ hK
    have hrd : rdP s t n = none := by
      have hb2 := partsAre_less (m := pn n) hbad (by rw [List.length_take, ptAll_len]; omega)
      rw [rdP, if_neg (by rw [hb2]; simp)]
    have hs := hX.s
    have hDl : D < W.heap.size := (Array.getElem?_eq_some_iff.1 hK).1
    gi_wp2
    refine ⟨by simp, .inl ⟨_, _, rfl, run_takeDeferred hK, ?_⟩⟩
    have hp : ∀ j, j ≠ D → (W.putObj D (.deferred none)).heap[j]? = W.heap[j]? := fun j h => World.putObj_heap_other h
    have r1 : (W.putObj D (.deferred none)).cell? ⟨w.heap.size + 1, 0, none⟩ = some (.slice none 0 0) := by rw [cell_of_row _ _ _ _ _ _ ((hp (w.heap.size + 1) (by omega)).trans hX.r1)]; rfl
    have r2 : (W.putObj D (.deferred none)).cell? ⟨w.heap.size + 1 + 1, 0, none⟩ = some (.bool false) := by rw [cell_of_row _ _ _ _ _ _ ((hp (w.heap.size + 1 + 1) (by omega)).trans hX.r2)]; rfl
    have r3 : (W.putObj D (.deferred none)).cell? ⟨w.heap.size + 1 + 1 + 1, 0, none⟩ = some (.int .i64 0) := by rw [cell_of_row _ _ _ _ _ _ ((hp (w.heap.size + 1 + 1 + 1) (by omega)).trans hX.r3)]; rfl
    refine ⟨.tuple #[.slice none 0 0, .bool false, .int .i64 0], by simp [results, Try.results44, go_sem, r1, r2, r3], none, 0, by rw [hrd]; rfl, ?_, ?_⟩
    · rw [hrd]
      exact World.ownsRow_nil _ _ _ _
    · exact hX.b.trans ⟨rfl, rfl, rfl, (grownBy_putObj' W D _).size, fun k hk => hp k (by omega)⟩
theorem rparts_any {S L : Nat → Prop} {w : World} {g b : Nat} {s : St} {t : LSt} (hD : Ds S w b s) (hdead : s.dead = false) (hL : Lg L w g b t) (n : Nat) (hl : n ≤ 4096) (hend : t.next + szN n ≤ s.kept.length) :
    Calls Try.prog 44 #[.pointer (some ⟨g, 0, none⟩), .int .i64 n] w fun e w' => ∃ A c, e = .returned (.tuple #[.slice A ((rdP s t n).getD []).length c, .bool (rdP s t n).isSome, .int .i64 0]) ∧ w'.ownsRow w.heap.size 5 1 (.slice A ((rdP s t n).getD []).length c) ((rdP s t n).getD []).length (bv ((rdP s t n).getD [])) ∧ Below w.heap.size w w' :=
  callsIn_wide.1 (rparts_in 6 (by omega) hD hdead hL n hl hend)
end Go.Proofs.Ytgppaompcnllbaa
