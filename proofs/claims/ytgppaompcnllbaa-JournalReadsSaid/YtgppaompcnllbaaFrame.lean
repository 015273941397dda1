/- Arguments opened to what a walk is told of them: a slice of integers or of bytes reads as a list. Conditions: none. -/
import Derived.Test.YtgppaompcnllbaaRows
import Derived.Test.YtgppaompcnllbaaBase
import Derived.ProofKit
import Derived.OpenShut
import Derived.ShutString
import Derived.ChangeOld
import Derived.ChangeMaps
import Derived.Deep.Slices
import Derived.Deep.Fields
namespace Go.Proofs.Ytgppaompcnllbaa
open Go.ChangeShapes Go.WideShapes Go.ChangeAt Go.RowKit

theorem own_ : ownKnob Try.prog.godebug = none := by kernel_rfl
theorem laidOut_ : laidOutB Try.prog = true := by kernel_rfl

theorem wf_i64 {z : Int} (h : (Lit.int .i64 z).wf = true) : -9223372036854775808 ≤ z ∧ z ≤ 9223372036854775807 := by
  simpa [Lit.wf, IntKind.min, IntKind.max, IntKind.signed, IntKind.bits] using h
theorem wf_u8 {z : Int} (h : (Lit.int .u8 z).wf = true) : 0 ≤ z ∧ z ≤ 255 := by
  simpa [Lit.wf, IntKind.min, IntKind.max, IntKind.signed, IntKind.bits] using h

section
variable {H : Type} {enc : TypeId × Value → H} {P : Program} {W : World} {base : Nat} {spare : Nat → Bool} {held : Bool}
theorem rd_ints {t e : TypeId} {k : IntKind} {v : Value} {d : DataW H} {p : List MemPlace} {r : Reach} {b0 : Nat} (ht : P.underlying t = some (.slice e)) (he : P.underlying e = some (.int k)) (hc : P.cellsOf e = 1)
    (hv : Value.okWide P W r b0 t v) (h : DataW.Trod enc P W base spare held t v d p) :
    ∃ (A : Option Addr) (n c : Nat) (zs : List Int), v = .slice A n c ∧ Rd W W.heap.size 1 A n c (zs.map (Value.int k)) ∧ ∀ z ∈ zs, (Lit.int k z).wf = true := by
  obtain ⟨a, n, c, rfl⟩ := okWide_slice ht hv
  obtain ⟨fuel, hf⟩ := h
  rcases open_ints ht he hc hf with ⟨hcs, _⟩ | ⟨x, l, c', zs, hcs, _, hl, hm, hz, _, hcell, hwz⟩
  · simp [Value.cells] at hcs
    obtain ⟨rfl, rfl, rfl⟩ := hcs
    exact ⟨none, 0, 0, [], rfl, Rd.none_ _ _ _, fun _ h => (by cases h)⟩
  · simp [Value.cells] at hcs
    obtain ⟨rfl, rfl, rfl⟩ := hcs
    have hlz : n ≤ zs.length := by rw [hz]; split <;> omega
    refine ⟨_, _, _, zs.take n, rfl, ?_, fun z hz => hwz z (List.mem_of_mem_take hz)⟩
    rcases Nat.eq_zero_or_pos n with h0 | h0
    · subst h0
      exact ⟨by simp, Nat.zero_le _, hm, fun e => (by cases e), fun h => absurd h (by omega)⟩
    · have hb : x.block < W.heap.size := by have := World.block_lt_of_cell? W (x.add 0) (hcell 0 (by omega)); simpa [Addr.add] using this
      refine Rd.of_cells (by simp; omega) (by omega) hl hm hb fun j u hj => ?_
      rw [List.getElem?_map, List.getElem?_take] at hj
      split at hj
      · rename_i hjn
        rw [List.getElem?_eq_getElem (show j < zs.length by omega)] at hj
        simp at hj
        rw [hcell j (by omega), List.getD_eq_getElem?_getD, List.getElem?_eq_getElem (show j < zs.length by omega)]
        simp [hj]
      · cases hj
theorem rd_bytes {t e : TypeId} {v : Value} {d : DataW H} {p : List MemPlace} {r : Reach} {b0 : Nat} (ht : P.underlying t = some (.slice e)) (he : P.underlying e = some (.int .u8)) (hc : P.cellsOf e = 1)
    (hv : Value.okWide P W r b0 t v) (h : DataW.Trod enc P W base spare held t v d p) :
    ∃ (A : Option Addr) (n c : Nat) (l : List UInt8), v = .slice A n c ∧ Rd W W.heap.size 1 A n c (bv l) := by
  obtain ⟨A, n, c, zs, hv, hr, hz⟩ := rd_ints ht he hc hv h
  refine ⟨A, n, c, zs.map fun z => UInt8.ofNat z.toNat, hv, ?_⟩
  have e : bv (zs.map fun z => UInt8.ofNat z.toNat) = zs.map (Value.int .u8) := by
    unfold bv
    rw [List.map_map]
    refine List.map_congr_left fun z hm => ?_
    have hw := hz z hm
    have hx : 0 ≤ z ∧ z ≤ 255 := by simpa [Lit.wf, IntKind.min, IntKind.max, IntKind.signed, IntKind.bits] using hw
    simp only [Function.comp]
    congr 1
    rw [UInt8.toNat_ofNat']
    omega
  rw [e]; exact hr

/-! slices whatever their elements -/
theorem map_of_all {α β : Type} {g : β → α} {Q : β → Prop} : ∀ {E : List α}, (∀ l ∈ E, ∃ b, l = g b ∧ Q b) → ∃ bs : List β, E = bs.map g ∧ ∀ b ∈ bs, Q b
  | [], _ => ⟨[], rfl, fun _ h => (by cases h)⟩
  | l :: r, h => by
    obtain ⟨b, rfl, hb⟩ := h l (List.mem_cons_self ..)
    obtain ⟨bs, rfl, hbs⟩ := map_of_all (E := r) fun x hx => h x (List.mem_cons_of_mem _ hx)
    exact ⟨b :: bs, rfl, fun x hx => by
      rcases List.mem_cons.1 hx with rfl | hx
      · exact hb
      · exact hbs x hx⟩
theorem flatten_at {α : Type} {sz : Nat} : ∀ {E : List (List α)}, (∀ l ∈ E, l.length = sz) → ∀ {i r : Nat} {l : List α}, E[i]? = some l → r < sz → E.flatten[i * sz + r]? = l[r]?
  | [], _, i, r, l, h, _ => by simp at h
  | c :: E, hE, i, r, l, h, hr => by
    have hc := hE c (List.mem_cons_self ..)
    rw [List.flatten_cons]
    cases i with
    | zero =>
      simp at h; subst h
      rw [Nat.zero_mul, Nat.zero_add, List.getElem?_append_left (by rw [hc]; exact hr)]
    | succ i =>
      rw [List.getElem?_append_right (by rw [hc, Nat.succ_mul]; omega), hc, show (i + 1) * sz + r - sz = i * sz + r from by rw [Nat.succ_mul]; omega]
      exact flatten_at (fun d hd => hE d (List.mem_cons_of_mem _ hd)) (by simpa using h) hr
theorem flatten_len {α : Type} {sz : Nat} : ∀ {E : List (List α)}, (∀ l ∈ E, l.length = sz) → E.flatten.length = E.length * sz
  | [], _ => by simp
  | c :: E, hE => by rw [List.flatten_cons, List.length_append, flatten_len (fun d hd => hE d (List.mem_cons_of_mem _ hd)), hE c (List.mem_cons_self ..), List.length_cons, Nat.succ_mul]; omega
/-- A slice opened: its elements' cells, each read. -/
theorem rd_slice {t e : TypeId} {sz fuel : Nat} {v : Value} {x : DataW H × List MemPlace} (ht : P.underlying t = some (.slice e)) (hc : P.cellsOf e = sz) (hpos : 0 < sz) (h : DataW.trod enc P W base spare held fuel t [v] = some x) :
    ∃ (A : Option Addr) (c : Nat) (E : List (List Value)), v = .slice A E.length c ∧ Rd W W.heap.size sz A E.length c E.flatten ∧ ∀ l ∈ E, l.length = sz ∧ ∃ fuel' y, DataW.trod enc P W base spare held fuel' e l = some y := by
  rcases Go.Deep.open_slice ht h with ⟨hcs, _⟩ | ⟨a, len, cap, m, n, D, Pl, hcs, _, hl, hm, hmm, _, hi⟩
  · simp at hcs
    subst hcs
    exact ⟨none, 0, [], rfl, Rd.none_ _ _ _, fun _ h => (by cases h)⟩
  · simp at hcs
    subst hcs
    rw [hc] at hi
    have hlm : len ≤ m := by rw [hmm]; split <;> omega
    have hch : ∀ i, ∃ l : List Value, i < m → W.cells? base (a.add (i * sz)) sz = some l ∧ DataW.trod enc P W base spare held n e l = some (D i, Pl i) := fun i => by
      by_cases him : i < m
      · obtain ⟨l, h1, h2⟩ := hi i him; exact ⟨l, fun _ => ⟨h1, h2⟩⟩
      · exact ⟨[], fun h => absurd h him⟩
    have hEq : ∃ f : Nat → List Value, ∀ i, i < m → W.cells? base (a.add (i * sz)) sz = some (f i) ∧ DataW.trod enc P W base spare held n e (f i) = some (D i, Pl i) := ⟨fun i => (hch i).choose, fun i hi => (hch i).choose_spec hi⟩
    obtain ⟨f, hf⟩ := hEq
    have hlen : ((List.range len).map f).length = len := by simp
    have hsz : ∀ l ∈ (List.range len).map f, l.length = sz := fun l hl => by
      obtain ⟨i, hi, rfl⟩ := List.mem_map.1 hl
      exact (World.cells?_some (hf i (by have := List.mem_range.1 hi; omega)).1).2.1
    refine ⟨some a, cap, (List.range len).map f, by rw [hlen], ?_, fun l hl => ⟨hsz l hl, ?_⟩⟩
    · rw [hlen]
      rcases Nat.eq_zero_or_pos len with h0 | h0
      · subst h0
        exact ⟨by simp, Nat.zero_le _, hm, fun e => (by cases e), fun h => absurd h (by omega)⟩
      · have hcell : ∀ i r, i < len → r < sz → W.cell? (a.add (i * sz + r)) = (f i)[r]? := fun i r hi' hr => by
          rw [← add_add']
          exact (World.cells?_some (hf i (by omega)).1).2.2 r hr
        have hb : a.block < W.heap.size := by
          have h00 := hcell 0 0 h0 hpos
          have hl0 : 0 < (f 0).length := by rw [hsz _ (List.mem_map.2 ⟨0, List.mem_range.2 h0, rfl⟩)]; exact hpos
          rw [List.getElem?_eq_getElem hl0] at h00
          have := World.block_lt_of_cell? W _ h00
          rwa [blk_add] at this
        refine Rd.of_cells (by rw [flatten_len hsz, hlen]) hpos hl hm hb fun j u hj => ?_
        have hjl : j < len * sz := by have := (List.getElem?_eq_some_iff.1 hj).1; rwa [flatten_len hsz, hlen] at this
        have hdiv : j / sz < len := (Nat.div_lt_iff_lt_mul hpos).2 hjl
        have hmod := Nat.mod_lt j hpos
        have hji : j / sz * sz + j % sz = j := by rw [Nat.mul_comm]; exact Nat.div_add_mod j sz
        rw [← hji] at hj ⊢
        rw [hcell _ _ hdiv hmod, ← hj]
        exact (flatten_at hsz (by rw [List.getElem?_map, List.getElem?_range hdiv]; rfl) hmod).symm
    · obtain ⟨i, hi, rfl⟩ := List.mem_map.1 hl
      exact ⟨n, _, (hf i (by have := List.mem_range.1 hi; omega)).2⟩
theorem flatten_one {α β : Type} (g : β → α) (l : List β) : (l.map fun b => [g b]).flatten = l.map g := by
  induction l with
  | nil => rfl
  | cons b r ih => simp [ih]
theorem in_bools {t e : TypeId} {fuel : Nat} {v : Value} {x : DataW H × List MemPlace} (ht : P.underlying t = some (.slice e)) (he : P.underlying e = some .bool) (hc : P.cellsOf e = 1) (h : DataW.trod enc P W base spare held fuel t [v] = some x) :
    ∃ (A : Option Addr) (c : Nat) (k : List Bool), v = .slice A k.length c ∧ Rd W W.heap.size 1 A k.length c (k.map Value.bool) := by
  obtain ⟨A, c, E, rfl, hr, hE⟩ := rd_slice ht hc (by omega) h
  obtain ⟨k, rfl, _⟩ := map_of_all (g := fun b => [Value.bool b]) (Q := fun _ => True) fun l hl => by
    obtain ⟨_, f', y, hy⟩ := hE l hl
    obtain ⟨b, hb, _⟩ := DataW.trod_bool he hy
    exact ⟨b, hb, trivial⟩
  rw [flatten_one] at hr
  simp only [List.length_map] at hr ⊢
  exact ⟨A, c, k, rfl, hr⟩
theorem in_bytes {t e : TypeId} {fuel : Nat} {v : Value} {x : DataW H × List MemPlace} (ht : P.underlying t = some (.slice e)) (he : P.underlying e = some (.int .u8)) (hc : P.cellsOf e = 1) (h : DataW.trod enc P W base spare held fuel t [v] = some x) :
    ∃ (A : Option Addr) (c : Nat) (l : List UInt8), v = .slice A l.length c ∧ Rd W W.heap.size 1 A l.length c (bv l) := by
  obtain ⟨A, c, E, rfl, hr, hE⟩ := rd_slice ht hc (by omega) h
  obtain ⟨k, rfl, _⟩ := map_of_all (g := fun b : UInt8 => [Value.int .u8 b.toNat]) (Q := fun _ => True) fun l hl => by
    obtain ⟨_, f', y, hy⟩ := hE l hl
    obtain ⟨z, hz, _, hw⟩ := DataW.trod_int he hy
    have hx := wf_u8 hw
    refine ⟨UInt8.ofNat z.toNat, ?_, trivial⟩
    rw [hz, UInt8.toNat_ofNat']
    congr 2
    omega
  rw [flatten_one (fun b : UInt8 => Value.int .u8 b.toNat)] at hr
  simp only [List.length_map] at hr ⊢
  exact ⟨A, c, k, rfl, hr⟩
/-- What the argument's value is, out of how it is read. -/
theorem rd_bools {t e : TypeId} {v : Value} {d : DataW H} {p : List MemPlace} {r : Reach} {b0 : Nat} (ht : P.underlying t = some (.slice e)) (he : P.underlying e = some .bool) (hc : P.cellsOf e = 1)
    (hv : Value.okWide P W r b0 t v) (h : DataW.Trod enc P W base spare held t v d p) :
    ∃ (A : Option Addr) (c : Nat) (k : List Bool), v = .slice A k.length c ∧ Rd W W.heap.size 1 A k.length c (k.map Value.bool) := by
  obtain ⟨a, n, c, rfl⟩ := okWide_slice ht hv
  obtain ⟨fuel, hf⟩ := h
  exact in_bools ht he hc (by simpa [Value.cells] using hf)
/-- A slice of bytes within a slice. -/
structure Rw where
  A : Option Addr
  c : Nat
  b : List UInt8
def rwCell (r : Rw) : Value := .slice r.A r.b.length r.c
def RwOk (W : World) (r : Rw) : Prop := Rd W W.heap.size 1 r.A r.b.length r.c (bv r.b)
theorem rd_rows {t e q : TypeId} {v : Value} {d : DataW H} {p : List MemPlace} {r : Reach} {b0 : Nat} (ht : P.underlying t = some (.slice e)) (he : P.underlying e = some (.slice q)) (hq : P.underlying q = some (.int .u8)) (hc : P.cellsOf e = 1) (hcq : P.cellsOf q = 1)
    (hv : Value.okWide P W r b0 t v) (h : DataW.Trod enc P W base spare held t v d p) :
    ∃ (A : Option Addr) (c : Nat) (l : List Rw), v = .slice A l.length c ∧ Rd W W.heap.size 1 A l.length c (l.map rwCell) ∧ ∀ r ∈ l, RwOk W r := by
  obtain ⟨a, n, c, rfl⟩ := okWide_slice ht hv
  obtain ⟨fuel, hf⟩ := h
  obtain ⟨A, c', E, hv', hr, hE⟩ := rd_slice ht hc (by omega) (v := .slice a n c) (by simpa [Value.cells] using hf)
  obtain ⟨k, rfl, hk⟩ := map_of_all (g := fun r : Rw => [rwCell r]) (Q := RwOk W) fun l hl => by
    obtain ⟨hl1, f', y, hy⟩ := hE l hl
    match l, hl1 with
    | [u], _ =>
      obtain ⟨A', c2, b, rfl, hb⟩ := in_bytes he hq hcq hy
      exact ⟨⟨A', c2, b⟩, rfl, hb⟩
  rw [flatten_one] at hr
  simp only [List.length_map] at hr hv'
  exact ⟨A, c', k, hv', hr, hk⟩
/-- Something that is done, as an argument bears it. -/
structure Ac where
  kind : Int
  at_ : Int
  A : Option Addr
  c : Nat
  b : List UInt8
  K : Option Addr
  e : Nat
  k : List Bool
def acCells (a : Ac) : List Value := [.int .u8 a.kind, .int .i64 a.at_, .slice a.A a.b.length a.c, .slice a.K a.k.length a.e]
structure AcOk (W : World) (a : Ac) : Prop where
  kind : 0 ≤ a.kind ∧ a.kind ≤ 255
  at_ : -9223372036854775808 ≤ a.at_ ∧ a.at_ ≤ 9223372036854775807
  b : Rd W W.heap.size 1 a.A a.b.length a.c (bv a.b)
  k : Rd W W.heap.size 1 a.K a.k.length a.e (a.k.map Value.bool)
theorem rd_acts {t e t0 t1 t2 t3 q2 q3 : TypeId} {f0 f1 f2 f3 : Field} {v : Value} {d : DataW H} {p : List MemPlace} {r : Reach} {b0 : Nat} (ht : P.underlying t = some (.slice e)) (he : P.underlying e = some (.struct #[f0, f1, f2, f3]))
    (hone : Go.Deep.oneCellFields P #[f0, f1, f2, f3] = true) (hc : P.cellsOf e = 4) (e0 : f0.type = t0) (e1 : f1.type = t1) (e2 : f2.type = t2) (e3 : f3.type = t3)
    (h0 : P.underlying t0 = some (.int .u8)) (h1 : P.underlying t1 = some (.int .i64)) (h2 : P.underlying t2 = some (.slice q2)) (h2' : P.underlying q2 = some (.int .u8)) (h3 : P.underlying t3 = some (.slice q3)) (h3' : P.underlying q3 = some .bool) (hq2 : P.cellsOf q2 = 1) (hq3 : P.cellsOf q3 = 1)
    (hv : Value.okWide P W r b0 t v) (h : DataW.Trod enc P W base spare held t v d p) :
    ∃ (A : Option Addr) (c : Nat) (l : List Ac), v = .slice A l.length c ∧ Rd W W.heap.size 4 A l.length c (l.flatMap acCells) ∧ ∀ a ∈ l, AcOk W a := by
  subst e0; subst e1; subst e2; subst e3
  obtain ⟨a, n, c, rfl⟩ := okWide_slice ht hv
  obtain ⟨fuel, hf⟩ := h
  obtain ⟨A, c', E, hv', hr, hE⟩ := rd_slice ht hc (by omega) (v := .slice a n c) (by simpa [Value.cells] using hf)
  obtain ⟨k, rfl, hk⟩ := map_of_all (g := acCells) (Q := AcOk W) fun l hl => by
    obtain ⟨hl1, f', y, hy⟩ := hE l hl
    obtain ⟨ys, n', _, _, _, hyl, hg⟩ := DataW.trod_struct he hy
    match l, hl1, ys, hyl with
    | [u0, u1, u2, u3], _, [y0, y1, y2, y3], _ =>
      obtain ⟨o0, k0⟩ := Go.Deep.hone_of hone 0 f0 rfl
      obtain ⟨o1, k1⟩ := Go.Deep.hone_of hone 1 f1 rfl
      obtain ⟨o2, k2⟩ := Go.Deep.hone_of hone 2 f2 rfl
      obtain ⟨o3, k3⟩ := Go.Deep.hone_of hone 3 f3 rfl
      have g0 := hg 0 f0 rfl
      have g1 := hg 1 f1 rfl
      have g2 := hg 2 f2 rfl
      have g3 := hg 3 f3 rfl
      rw [o0, k0] at g0
      rw [o1, k1] at g1
      rw [o2, k2] at g2
      rw [o3, k3] at g3
      obtain ⟨z0, hz0, _, w0⟩ := DataW.trod_int h0 (by simpa using g0)
      obtain ⟨z1, hz1, _, w1⟩ := DataW.trod_int h1 (by simpa using g1)
      obtain ⟨A2, c2, b2, hz2, r2⟩ := in_bytes h2 h2' hq2 (by simpa using g2)
      obtain ⟨A3, c3, b3, hz3, r3⟩ := in_bools h3 h3' hq3 (by simpa using g3)
      simp at hz0 hz1
      subst hz0; subst hz1; subst hz2; subst hz3
      exact ⟨⟨z0, z1, A2, c2, b2, A3, c3, b3⟩, rfl, wf_u8 w0, wf_i64 w1, r2, r3⟩
  simp only [List.length_map] at hr hv'
  exact ⟨A, c', k, hv', by rw [List.flatMap_def]; exact hr, hk⟩
end
end Go.Proofs.Ytgppaompcnllbaa
