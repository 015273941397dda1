/- Layer 9: a schema that comes in, opened: what is read of it, and how long its names are at most. Conditions: none. -/
import Derived.SizedLaws
import Derived.Deep.Slices
import Derived.Deep.Fields
import Derived.Test.YteafdhpcnpfmkaaGreatFrame
import Derived.Test.YteafdhpcnpfmkaaGreatChk
namespace Go.Proofs.YteafdhpcnpfmkaaGreat
open Go.ChangeShapes Go.WideShapes Go.ChangeAt Go.RowKit

theorem map_of_allA {α β : Type} {g : β → α} {Q : β → Prop} : ∀ {E : List α}, (∀ l ∈ E, ∃ b, l = g b ∧ Q b) → ∃ bs : List β, E = bs.map g ∧ ∀ b ∈ bs, Q b
  | [], _ => ⟨[], rfl, fun _ h => (by cases h)⟩
  | l :: r, h => by
    obtain ⟨b, rfl, hb⟩ := h l (List.mem_cons_self ..)
    obtain ⟨bs, rfl, hbs⟩ := map_of_allA (E := r) fun x hx => h x (List.mem_cons_of_mem _ hx)
    exact ⟨b :: bs, rfl, fun x hx => by
      rcases List.mem_cons.1 hx with rfl | hx
      · exact hb
      · exact hbs x hx⟩
theorem flatten_atA {α : Type} {sz : Nat} : ∀ {E : List (List α)}, (∀ l ∈ E, l.length = sz) → ∀ {i r : Nat} {l : List α}, E[i]? = some l → r < sz → E.flatten[i * sz + r]? = l[r]?
  | [], _, i, r, l, h, _ => by simp at h
  | c :: E, hE, i, r, l, h, hr => by
    have hc := hE c (List.mem_cons_self ..)
    rw [List.flatten_cons]
    cases i with
    | zero =>
      simp at h; subst h
      rw [Nat.zero_mul, Nat.zero_add, List.getElem?_append_left (by rw [hc]; exact hr)]
    | succ i =>
      rw [List.getElem?_append_right (by rw [hc, Nat.succ_mul]; omega), hc, show (i + 1) * sz + r - sz = i * sz + r from by rw [Nat.succ_mul]; omega]
      exact flatten_atA (fun d hd => hE d (List.mem_cons_of_mem _ hd)) (by simpa using h) hr
theorem flatten_lenA {α : Type} {sz : Nat} : ∀ {E : List (List α)}, (∀ l ∈ E, l.length = sz) → E.flatten.length = E.length * sz
  | [], _ => by simp
  | c :: E, hE => by rw [List.flatten_cons, List.length_append, flatten_lenA (fun d hd => hE d (List.mem_cons_of_mem _ hd)), hE c (List.mem_cons_self ..), List.length_cons, Nat.succ_mul]; omega

section
variable {H : Type} {enc : TypeId × Value → H} {P : Program} {W : World} {base : Nat} {spare : Nat → Bool} {held : Bool}
theorem mem_weightsAll {e : TypeId} {l : List (DataW H)} {d : DataW H} (h : d ∈ l) : ∀ k ∈ d.weights P e, k ∈ DataW.weightsAll P e l := by
  induction l with
  | nil => cases h
  | cons x r ih =>
    intro k hk
    show k ∈ DataW.weights P e x ++ DataW.weightsAll P e r
    rcases List.mem_cons.1 h with rfl | h
    · exact List.mem_append_left _ hk
    · exact List.mem_append_right _ (ih h k hk)
/-- Every length in a reading is at most this. -/
def Sz (P : Program) (R : Nat) (t : TypeId) (d : DataW H) : Prop := ∀ k ∈ d.weights P t, k ≤ R
/-- A slice opened: its elements' cells, each read. -/
theorem rd_sliceW {R : Nat} {t e : TypeId} {sz fuel : Nat} {v : Value} {x : DataW H × List MemPlace} (ht : P.underlying t = some (.slice e)) (hc : P.cellsOf e = sz) (hpos : 0 < sz) (h : DataW.trod enc P W base spare held fuel t [v] = some x) (hS : Sz P R t x.1) :
    ∃ (A : Option Addr) (c : Nat) (E : List (List Value)), v = .slice A E.length c ∧ E.length * P.bytesOf e ≤ R ∧ Rd W W.heap.size sz A E.length c E.flatten ∧ ∀ l ∈ E, l.length = sz ∧ ∃ fuel' y, DataW.trod enc P W base spare held fuel' e l = some y ∧ Sz P R e y.1 := by
  rcases Go.Deep.open_slice ht h with ⟨hcs, _⟩ | ⟨a, len, cap, m, n, D, Pl, hcs, _, hl, hm, hmm, hx, hi⟩
  · simp at hcs
    subst hcs
    exact ⟨none, 0, [], rfl, by simp, Rd.none_ _ _ _, fun _ h => (by cases h)⟩
  · simp at hcs
    subst hcs
    rw [hc] at hi
    have hlm : len ≤ m := by rw [hmm]; split <;> omega
    have hch : ∀ i, ∃ l : List Value, i < m → W.cells? base (a.add (i * sz)) sz = some l ∧ DataW.trod enc P W base spare held n e l = some (D i, Pl i) := fun i => by
      by_cases him : i < m
      · obtain ⟨l, h1, h2⟩ := hi i him; exact ⟨l, fun _ => ⟨h1, h2⟩⟩
      · exact ⟨[], fun h => absurd h him⟩
    have hEq : ∃ f : Nat → List Value, ∀ i, i < m → W.cells? base (a.add (i * sz)) sz = some (f i) ∧ DataW.trod enc P W base spare held n e (f i) = some (D i, Pl i) := ⟨fun i => (hch i).choose, fun i hi => (hch i).choose_spec hi⟩
    obtain ⟨f, hf⟩ := hEq
    have hlen : ((List.range len).map f).length = len := by simp
    have hsz : ∀ l ∈ (List.range len).map f, l.length = sz := fun l hl => by
      obtain ⟨i, hi, rfl⟩ := List.mem_map.1 hl
      exact (World.cells?_some (hf i (by have := List.mem_range.1 hi; omega)).1).2.1
    have hD : ∀ i, i < len → Sz P R e (D i) := fun i hi k hk => hS k (by
      subst hx
      dsimp only
      rw [DataW.weights, ht]
      exact List.mem_cons_of_mem _ (List.mem_append_left _ (mem_weightsAll (List.mem_map.2 ⟨i, List.mem_range.2 hi, rfl⟩) k hk)))
    have hW : len * P.bytesOf e ≤ R := by
      have := hS ((((List.range len).map D).length + ((List.range (m - len)).map fun j => D (len + j)).length) * P.bytesOf e) (by
        subst hx
        dsimp only
        rw [DataW.weights, ht]
        exact List.mem_cons_self)
      refine Nat.le_trans (Nat.mul_le_mul_right _ ?_) this
      rw [List.length_map, List.length_range]
      exact Nat.le_add_right _ _
    refine ⟨some a, cap, (List.range len).map f, by rw [hlen], by rw [hlen]; exact hW, ?_, fun l hl => ⟨hsz l hl, ?_⟩⟩
    · rw [hlen]
      rcases Nat.eq_zero_or_pos len with h0 | h0
      · subst h0
        exact ⟨by simp, Nat.zero_le _, hm, fun e => (by cases e), fun h => absurd h (by omega)⟩
      · have hcell : ∀ i r, i < len → r < sz → W.cell? (a.add (i * sz + r)) = (f i)[r]? := fun i r hi' hr => by
          rw [← add_add']
          exact (World.cells?_some (hf i (by omega)).1).2.2 r hr
        have hb : a.block < W.heap.size := by
          have h00 := hcell 0 0 h0 hpos
          have hl0 : 0 < (f 0).length := by rw [hsz _ (List.mem_map.2 ⟨0, List.mem_range.2 h0, rfl⟩)]; exact hpos
          rw [List.getElem?_eq_getElem hl0] at h00
          have := World.block_lt_of_cell? W _ h00
          rwa [blk_add] at this
        refine Rd.of_cells (by rw [flatten_lenA hsz, hlen]) hpos hl hm hb fun j u hj => ?_
        have hjl : j < len * sz := by have := (List.getElem?_eq_some_iff.1 hj).1; rwa [flatten_lenA hsz, hlen] at this
        have hdiv : j / sz < len := (Nat.div_lt_iff_lt_mul hpos).2 hjl
        have hmod := Nat.mod_lt j hpos
        have hji : j / sz * sz + j % sz = j := by rw [Nat.mul_comm]; exact Nat.div_add_mod j sz
        rw [← hji] at hj ⊢
        rw [hcell _ _ hdiv hmod, ← hj]
        exact (flatten_atA hsz (by rw [List.getElem?_map, List.getElem?_range hdiv]; rfl) hmod).symm
    · obtain ⟨i, hi, rfl⟩ := List.mem_map.1 hl
      have hi := List.mem_range.1 hi
      exact ⟨n, _, (hf i (by omega)).2, hD i hi⟩
/-- A struct of one-celled fields opened: each field, read. -/
theorem rd_structW {R : Nat} {e : TypeId} {fs : Array Field} {fuel : Nat} {l : List Value} {y : DataW H × List MemPlace} (he : P.underlying e = some (.struct fs)) (hone : Go.Deep.oneCellFields P fs = true) (h : DataW.trod enc P W base spare held fuel e l = some y) (hS : Sz P R e y.1) :
    ∀ (i : Nat) (f : Field), fs[i]? = some f → ∃ fuel' z, DataW.trod enc P W base spare held fuel' f.type ((l.drop i).take 1) = some z ∧ Sz P R f.type z.1 := by
  obtain ⟨ys, n', _, rfl, _, hyl, hg⟩ := DataW.trod_struct he h
  intro i f hi
  have g := hg i f hi
  obtain ⟨o, k⟩ := Go.Deep.hone_of hone i f hi
  rw [o, k] at g
  have hlt : i < ys.length := by rw [hyl]; exact (Array.getElem?_eq_some_iff.1 hi).1
  rw [List.getElem?_eq_getElem hlt] at g
  refine ⟨n', _, g, fun k hk => hS k ?_⟩
  dsimp only
  rw [DataW.weights, he]
  refine DataW.weights_mem_each (j := i) (t := f.type) (d := ys[i].1) ?_ ?_ k hk
  · rw [List.getElem?_map, Array.getElem?_toList, hi]
    rfl
  · rw [List.getElem?_map, List.getElem?_eq_getElem hlt]
    rfl
theorem rd_stringW {R : Nat} {t : TypeId} {fuel : Nat} {cs : List Value} {y : DataW H × List MemPlace} (ht : P.underlying t = some .string) (h : DataW.trod enc P W base spare held fuel t cs = some y) (hS : Sz P R t y.1) : ∃ s : ByteArray, cs = [.string s] ∧ s.size ≤ R := by
  obtain ⟨s, hs, rfl, _⟩ := DataW.trod_string ht h
  exact ⟨s, hs, hS _ (by simp [DataW.weights])⟩

def aSub (s : ByteArray × ByteArray) : List Value := [.string s.1, .string s.2]
def aOp (o : OpI) : List Value := [.int .i64 o.1, .string o.2.1, .string o.2.2]
theorem rd_subsW {R : Nat} {t e t0 t1 : TypeId} {f0 f1 : Field} {fuel : Nat} {v : Value} {x : DataW H × List MemPlace} (ht : P.underlying t = some (.slice e)) (he : P.underlying e = some (.struct #[f0, f1])) (hone : Go.Deep.oneCellFields P #[f0, f1] = true) (hc : P.cellsOf e = 2)
    (e0 : f0.type = t0) (e1 : f1.type = t1) (h0 : P.underlying t0 = some .string) (h1 : P.underlying t1 = some .string) (h : DataW.trod enc P W base spare held fuel t [v] = some x) (hS : Sz P R t x.1) :
    ∃ (A : Option Addr) (c : Nat) (l : List (ByteArray × ByteArray)), v = .slice A l.length c ∧ l.length * P.bytesOf e ≤ R ∧ Rd W W.heap.size 2 A l.length c (l.flatMap aSub) ∧ ∀ s ∈ l, s.1.size ≤ R ∧ s.2.size ≤ R := by
  subst e0; subst e1
  obtain ⟨A, c, E, rfl, hB, hr, hE⟩ := rd_sliceW ht hc (by omega) h hS
  obtain ⟨k, rfl, hk⟩ := map_of_allA (g := aSub) (Q := fun s => s.1.size ≤ R ∧ s.2.size ≤ R) fun l hl => by
    obtain ⟨hl1, f', y, hy, hy2⟩ := hE l hl
    have hg := rd_structW he hone hy hy2
    match l, hl1 with
    | [u0, u1], _ =>
      obtain ⟨_, z0, g0, k0⟩ := hg 0 f0 rfl
      obtain ⟨_, z1, g1, k1⟩ := hg 1 f1 rfl
      obtain ⟨s0, q0, b0⟩ := rd_stringW h0 (by simpa using g0) k0
      obtain ⟨s1, q1, b1⟩ := rd_stringW h1 (by simpa using g1) k1
      simp at q0 q1
      subst q0; subst q1
      exact ⟨(s0, s1), rfl, b0, b1⟩
  simp only [List.length_map] at hr hB ⊢
  exact ⟨A, c, k, rfl, hB, by rw [List.flatMap_def]; exact hr, hk⟩
theorem rd_opsW {R : Nat} {t e t0 t1 t2 : TypeId} {f0 f1 f2 : Field} {fuel : Nat} {v : Value} {x : DataW H × List MemPlace} (ht : P.underlying t = some (.slice e)) (he : P.underlying e = some (.struct #[f0, f1, f2])) (hone : Go.Deep.oneCellFields P #[f0, f1, f2] = true) (hc : P.cellsOf e = 3)
    (e0 : f0.type = t0) (e1 : f1.type = t1) (e2 : f2.type = t2) (h0 : P.underlying t0 = some (.int .i64)) (h1 : P.underlying t1 = some .string) (h2 : P.underlying t2 = some .string) (h : DataW.trod enc P W base spare held fuel t [v] = some x) (hS : Sz P R t x.1) :
    ∃ (A : Option Addr) (c : Nat) (l : List OpI), v = .slice A l.length c ∧ l.length * P.bytesOf e ≤ R ∧ Rd W W.heap.size 3 A l.length c (l.flatMap aOp) ∧ ∀ o ∈ l, (Lit.int .i64 o.1).wf = true ∧ o.2.1.size ≤ R ∧ o.2.2.size ≤ R := by
  subst e0; subst e1; subst e2
  obtain ⟨A, c, E, rfl, hB, hr, hE⟩ := rd_sliceW ht hc (by omega) h hS
  obtain ⟨k, rfl, hk⟩ := map_of_allA (g := aOp) (Q := fun o => (Lit.int .i64 o.1).wf = true ∧ o.2.1.size ≤ R ∧ o.2.2.size ≤ R) fun l hl => by
    obtain ⟨hl1, f', y, hy, hy2⟩ := hE l hl
    have hg := rd_structW he hone hy hy2
    match l, hl1 with
    | [u0, u1, u2], _ =>
      obtain ⟨_, z0, g0, k0⟩ := hg 0 f0 rfl
      obtain ⟨_, z1, g1, k1⟩ := hg 1 f1 rfl
      obtain ⟨_, z2, g2, k2⟩ := hg 2 f2 rfl
      obtain ⟨n0, q0, _, b0⟩ := DataW.trod_int h0 (by simpa using g0)
      obtain ⟨s1, q1, b1⟩ := rd_stringW h1 (by simpa using g1) k1
      obtain ⟨s2, q2, b2⟩ := rd_stringW h2 (by simpa using g2) k2
      simp at q0 q1 q2
      subst q0; subst q1; subst q2
      exact ⟨(n0, s1, s2), rfl, b0, b1, b2⟩
  simp only [List.length_map] at hr hB ⊢
  exact ⟨A, c, k, rfl, hB, by rw [List.flatMap_def]; exact hr, hk⟩
end

/-- A relation that came in: what it says, and where its lists lie. -/
structure RelA where
  name : ByteArray
  view : ByteArray
  edit : ByteArray
  check : ByteArray
  As : Option Addr
  cs : Nat
  subs : List (ByteArray × ByteArray)
  Ao : Option Addr
  co : Nat
  ops : List OpI
def RelA.cells (a : RelA) : List Value := [.string a.name, .string a.view, .string a.edit, .string a.check, .slice a.As a.subs.length a.cs, .slice a.Ao a.ops.length a.co]
def RelA.says (a : RelA) : RelI := ⟨a.name, a.view, a.edit, a.check, a.subs, a.ops⟩
structure RelA.ok (W : World) (R : Nat) (a : RelA) : Prop where
  name : a.name.size ≤ R
  view : a.view.size ≤ R
  edit : a.edit.size ≤ R
  check : a.check.size ≤ R
  subs : Rd W W.heap.size 2 a.As a.subs.length a.cs (a.subs.flatMap aSub)
  subn : a.subs.length * 32 ≤ R
  subz : ∀ s ∈ a.subs, s.1.size ≤ R ∧ s.2.size ≤ R
  ops : Rd W W.heap.size 3 a.Ao a.ops.length a.co (a.ops.flatMap aOp)
  opn : a.ops.length * 40 ≤ R
  opz : ∀ o ∈ a.ops, (Lit.int .i64 o.1).wf = true ∧ o.2.1.size ≤ R ∧ o.2.2.size ≤ R
structure TypA where
  name : ByteArray
  A : Option Addr
  c : Nat
  rels : List RelA
def TypA.cells (a : TypA) : List Value := [.string a.name, .slice a.A a.rels.length a.c]
def TypA.says (a : TypA) : TypI := ⟨a.name, a.rels.map RelA.says⟩
structure TypA.ok (W : World) (R : Nat) (a : TypA) : Prop where
  name : a.name.size ≤ R
  rels : Rd W W.heap.size 6 a.A a.rels.length a.c (a.rels.flatMap RelA.cells)
  reln : a.rels.length * 112 ≤ R
  relz : ∀ r ∈ a.rels, r.ok W R

section
variable {H : Type} {enc : TypeId × Value → H} {W : World} {base : Nat} {spare : Nat → Bool} {held : Bool}
theorem rd_relsW {R : Nat} {fuel : Nat} {v : Value} {x : DataW H × List MemPlace} (h : DataW.trod enc Tryz.prog W base spare held fuel 110 [v] = some x) (hS : Sz Tryz.prog R 110 x.1) :
    ∃ (A : Option Addr) (c : Nat) (l : List RelA), v = .slice A l.length c ∧ l.length * 112 ≤ R ∧ Rd W W.heap.size 6 A l.length c (l.flatMap RelA.cells) ∧ ∀ a ∈ l, a.ok W R := by
  obtain ⟨A, c, E, rfl, hB, hr, hE⟩ := rd_sliceW Tryz.underlying110 (sz := 6) (by kernel_rfl) (by omega) h hS
  obtain ⟨k, rfl, hk⟩ := map_of_allA (g := RelA.cells) (Q := RelA.ok W R) fun l hl => by
    obtain ⟨hl1, f', y, hy, hy2⟩ := hE l hl
    have hg := rd_structW Tryz.underlying115 (by kernel_rfl) hy hy2
    match l, hl1 with
    | [u0, u1, u2, u3, u4, u5], _ =>
      obtain ⟨_, z0, g0, k0⟩ := hg 0 _ rfl
      obtain ⟨_, z1, g1, k1⟩ := hg 1 _ rfl
      obtain ⟨_, z2, g2, k2⟩ := hg 2 _ rfl
      obtain ⟨_, z3, g3, k3⟩ := hg 3 _ rfl
      obtain ⟨_, z4, g4, k4⟩ := hg 4 _ rfl
      obtain ⟨_, z5, g5, k5⟩ := hg 5 _ rfl
      obtain ⟨s0, q0, b0⟩ := rd_stringW Tryz.underlying9 (by simpa using g0) k0
      obtain ⟨s1, q1, b1⟩ := rd_stringW Tryz.underlying9 (by simpa using g1) k1
      obtain ⟨s2, q2, b2⟩ := rd_stringW Tryz.underlying9 (by simpa using g2) k2
      obtain ⟨s3, q3, b3⟩ := rd_stringW Tryz.underlying9 (by simpa using g3) k3
      obtain ⟨A4, c4, l4, q4, n4, r4, b4⟩ := rd_subsW (v := u4) Tryz.underlying98 Tryz.underlying104 (by kernel_rfl) (by kernel_rfl) rfl rfl Tryz.underlying9 Tryz.underlying9 (by simpa using g4) k4
      obtain ⟨A5, c5, l5, q5, n5, r5, b5⟩ := rd_opsW (v := u5) Tryz.underlying113 Tryz.underlying132 (by kernel_rfl) (by kernel_rfl) rfl rfl rfl Tryz.underlying3 Tryz.underlying9 Tryz.underlying9 (by simpa using g5) k5
      simp at q0 q1 q2 q3
      subst q0; subst q1; subst q2; subst q3; subst q4; subst q5
      exact ⟨⟨s0, s1, s2, s3, A4, c4, l4, A5, c5, l5⟩, rfl, b0, b1, b2, b3, r4, (by rw [show Tryz.prog.bytesOf 104 = 32 by kernel_rfl] at n4; exact n4), b4, r5, (by rw [show Tryz.prog.bytesOf 132 = 40 by kernel_rfl] at n5; exact n5), b5⟩
  simp only [List.length_map] at hr hB ⊢
  rw [show Tryz.prog.bytesOf 115 = 112 by kernel_rfl] at hB
  exact ⟨A, c, k, rfl, hB, by rw [List.flatMap_def]; exact hr, hk⟩
theorem rd_typesW {R : Nat} {fuel : Nat} {v : Value} {x : DataW H × List MemPlace} (h : DataW.trod enc Tryz.prog W base spare held fuel 68 [v] = some x) (hS : Sz Tryz.prog R 68 x.1) :
    ∃ (A : Option Addr) (c : Nat) (l : List TypA), v = .slice A l.length c ∧ l.length * 40 ≤ R ∧ Rd W W.heap.size 2 A l.length c (l.flatMap TypA.cells) ∧ ∀ a ∈ l, a.ok W R := by
  obtain ⟨A, c, E, rfl, hB, hr, hE⟩ := rd_sliceW Tryz.underlying68 (sz := 2) (by kernel_rfl) (by omega) h hS
  obtain ⟨k, rfl, hk⟩ := map_of_allA (g := TypA.cells) (Q := TypA.ok W R) fun l hl => by
    obtain ⟨hl1, f', y, hy, hy2⟩ := hE l hl
    have hg := rd_structW Tryz.underlying112 (by kernel_rfl) hy hy2
    match l, hl1 with
    | [u0, u1], _ =>
      obtain ⟨_, z0, g0, k0⟩ := hg 0 _ rfl
      obtain ⟨_, z1, g1, k1⟩ := hg 1 _ rfl
      obtain ⟨s0, q0, b0⟩ := rd_stringW Tryz.underlying9 (by simpa using g0) k0
      obtain ⟨A1, c1, l1, q1, n1, r1, b1⟩ := rd_relsW (v := u1) (by simpa using g1) k1
      simp at q0
      subst q0; subst q1
      exact ⟨⟨s0, A1, c1, l1⟩, rfl, b0, r1, n1, b1⟩
  simp only [List.length_map] at hr hB ⊢
  rw [show Tryz.prog.bytesOf 112 = 40 by kernel_rfl] at hB
  exact ⟨A, c, k, rfl, hB, by rw [List.flatMap_def]; exact hr, hk⟩
set_option maxRecDepth 100000 in
/-- A schema that came in. -/
theorem rd_schema {R : Nat} {v : Value} {d : DataW H} {p : List MemPlace} {r : Reach} {b0 : Nat} (hv : Value.okWide Tryz.prog W r b0 70 v) (h : DataW.Trod enc Tryz.prog W base spare held 70 v d p) (hS : Sz Tryz.prog R 70 d) :
    ∃ (A : Option Addr) (c : Nat) (l : List TypA), v = .agg #[.slice A l.length c] ∧ l.length * 40 ≤ R ∧ Rd W W.heap.size 2 A l.length c (l.flatMap TypA.cells) ∧ ∀ a ∈ l, a.ok W R := by
  obtain ⟨cs, rfl, hc⟩ := okWide_struct Tryz.underlying70 hv
  obtain ⟨fuel, hf⟩ := h
  rw [show Tryz.prog.cellsOf 70 = 1 by kernel_rfl] at hc
  obtain ⟨u, rfl⟩ : ∃ u, cs = #[u] := by
    rcases cs with ⟨_ | ⟨u, _ | ⟨u2, q⟩⟩⟩
    · cases hc
    · exact ⟨u, rfl⟩
    · simp at hc
  have hg := rd_structW (y := (d, p)) (l := [u]) Tryz.underlying70 (by kernel_rfl) (by simpa [Value.cells] using hf) hS
  obtain ⟨_, z0, g0, k0⟩ := hg 0 _ rfl
  obtain ⟨A, c, l, rfl, hB, hr, hk⟩ := rd_typesW (v := u) (by simpa using g0) k0
  exact ⟨A, c, l, rfl, hB, hr, hk⟩
end
end Go.Proofs.YteafdhpcnpfmkaaGreat
