/- Arguments opened: slices of structs whose fields are of one cell, and how long their strings are at most. Conditions: none; nothing of the program is named here. -/
import Derived.SizedLaws
import Derived.Deep.Slices
import Derived.Deep.Fields
import Derived.Test.YtmdhollegemlhaaFrame
namespace Go.Proofs.Ytmdhollegemlhaa
open Go.ChangeShapes Go.WideShapes Go.ChangeAt Go.RowKit

theorem map_of_allA {α β : Type} {g : β → α} {Q : β → Prop} : ∀ {E : List α}, (∀ l ∈ E, ∃ b, l = g b ∧ Q b) → ∃ bs : List β, E = bs.map g ∧ ∀ b ∈ bs, Q b
  | [], _ => ⟨[], rfl, fun _ h => (by cases h)⟩
  | l :: r, h => by
    obtain ⟨b, rfl, hb⟩ := h l (List.mem_cons_self ..)
    obtain ⟨bs, rfl, hbs⟩ := map_of_allA (E := r) fun x hx => h x (List.mem_cons_of_mem _ hx)
    exact ⟨b :: bs, rfl, fun x hx => by
      rcases List.mem_cons.1 hx with rfl | hx
      · exact hb
      · exact hbs x hx⟩
theorem flatten_atA {α : Type} {sz : Nat} : ∀ {E : List (List α)}, (∀ l ∈ E, l.length = sz) → ∀ {i r : Nat} {l : List α}, E[i]? = some l → r < sz → E.flatten[i * sz + r]? = l[r]?
  | [], _, i, r, l, h, _ => by simp at h
  | c :: E, hE, i, r, l, h, hr => by
    have hc := hE c (List.mem_cons_self ..)
    rw [List.flatten_cons]
    cases i with
    | zero =>
      simp at h; subst h
      rw [Nat.zero_mul, Nat.zero_add, List.getElem?_append_left (by rw [hc]; exact hr)]
    | succ i =>
      rw [List.getElem?_append_right (by rw [hc, Nat.succ_mul]; omega), hc, show (i + 1) * sz + r - sz = i * sz + r from by rw [Nat.succ_mul]; omega]
      exact flatten_atA (fun d hd => hE d (List.mem_cons_of_mem _ hd)) (by simpa using h) hr
theorem flatten_lenA {α : Type} {sz : Nat} : ∀ {E : List (List α)}, (∀ l ∈ E, l.length = sz) → E.flatten.length = E.length * sz
  | [], _ => by simp
  | c :: E, hE => by rw [List.flatten_cons, List.length_append, flatten_lenA (fun d hd => hE d (List.mem_cons_of_mem _ hd)), hE c (List.mem_cons_self ..), List.length_cons, Nat.succ_mul]; omega

section
variable {H : Type} {enc : TypeId × Value → H} {P : Program} {W : World} {base : Nat} {spare : Nat → Bool} {held : Bool}
theorem mem_weightsAll {e : TypeId} {l : List (DataW H)} {d : DataW H} (h : d ∈ l) : ∀ k ∈ d.weights P e, k ∈ DataW.weightsAll P e l := by
  induction l with
  | nil => cases h
  | cons x r ih =>
    intro k hk
    show k ∈ DataW.weights P e x ++ DataW.weightsAll P e r
    rcases List.mem_cons.1 h with rfl | h
    · exact List.mem_append_left _ hk
    · exact List.mem_append_right _ (ih h k hk)
/-- Every length in a reading is at most this. -/
def Sz (P : Program) (R : Nat) (t : TypeId) (d : DataW H) : Prop := ∀ k ∈ d.weights P t, k ≤ R
/-- A slice opened: its elements' cells, each read. -/
theorem rd_sliceW {R : Nat} {t e : TypeId} {sz fuel : Nat} {v : Value} {x : DataW H × List MemPlace} (ht : P.underlying t = some (.slice e)) (hc : P.cellsOf e = sz) (hpos : 0 < sz) (h : DataW.trod enc P W base spare held fuel t [v] = some x) (hS : Sz P R t x.1) :
    ∃ (A : Option Addr) (c : Nat) (E : List (List Value)), v = .slice A E.length c ∧ E.length * P.bytesOf e ≤ R ∧ Rd W W.heap.size sz A E.length c E.flatten ∧ ∀ l ∈ E, l.length = sz ∧ ∃ fuel' y, DataW.trod enc P W base spare held fuel' e l = some y ∧ Sz P R e y.1 := by
  rcases Go.Deep.open_slice ht h with ⟨hcs, _⟩ | ⟨a, len, cap, m, n, D, Pl, hcs, _, hl, hm, hmm, hx, hi⟩
  · simp at hcs
    subst hcs
    exact ⟨none, 0, [], rfl, by simp, Rd.none_ _ _ _, fun _ h => (by cases h)⟩
  · simp at hcs
    subst hcs
    rw [hc] at hi
    have hlm : len ≤ m := by rw [hmm]; split <;> omega
    have hch : ∀ i, ∃ l : List Value, i < m → W.cells? base (a.add (i * sz)) sz = some l ∧ DataW.trod enc P W base spare held n e l = some (D i, Pl i) := fun i => by
      by_cases him : i < m
      · obtain ⟨l, h1, h2⟩ := hi i him; exact ⟨l, fun _ => ⟨h1, h2⟩⟩
      · exact ⟨[], fun h => absurd h him⟩
    have hEq : ∃ f : Nat → List Value, ∀ i, i < m → W.cells? base (a.add (i * sz)) sz = some (f i) ∧ DataW.trod enc P W base spare held n e (f i) = some (D i, Pl i) := ⟨fun i => (hch i).choose, fun i hi => (hch i).choose_spec hi⟩
    obtain ⟨f, hf⟩ := hEq
    have hlen : ((List.range len).map f).length = len := by simp
    have hsz : ∀ l ∈ (List.range len).map f, l.length = sz := fun l hl => by
      obtain ⟨i, hi, rfl⟩ := List.mem_map.1 hl
      exact (World.cells?_some (hf i (by have := List.mem_range.1 hi; omega)).1).2.1
    have hD : ∀ i, i < len → Sz P R e (D i) := fun i hi k hk => hS k (by
      subst hx
      dsimp only
      rw [DataW.weights, ht]
      exact List.mem_cons_of_mem _ (List.mem_append_left _ (mem_weightsAll (List.mem_map.2 ⟨i, List.mem_range.2 hi, rfl⟩) k hk)))
    have hW : len * P.bytesOf e ≤ R := by
      have := hS ((((List.range len).map D).length + ((List.range (m - len)).map fun j => D (len + j)).length) * P.bytesOf e) (by
        subst hx
        dsimp only
        rw [DataW.weights, ht]
        exact List.mem_cons_self)
      refine Nat.le_trans (Nat.mul_le_mul_right _ ?_) this
      rw [List.length_map, List.length_range]
      exact Nat.le_add_right _ _
    refine ⟨some a, cap, (List.range len).map f, by rw [hlen], by rw [hlen]; exact hW, ?_, fun l hl => ⟨hsz l hl, ?_⟩⟩
    · rw [hlen]
      rcases Nat.eq_zero_or_pos len with h0 | h0
      · subst h0
        exact ⟨by simp, Nat.zero_le _, hm, fun e => (by cases e), fun h => absurd h (by omega)⟩
      · have hcell : ∀ i r, i < len → r < sz → W.cell? (a.add (i * sz + r)) = (f i)[r]? := fun i r hi' hr => by
          rw [← add_add']
          exact (World.cells?_some (hf i (by omega)).1).2.2 r hr
        have hb : a.block < W.heap.size := by
          have h00 := hcell 0 0 h0 hpos
          have hl0 : 0 < (f 0).length := by rw [hsz _ (List.mem_map.2 ⟨0, List.mem_range.2 h0, rfl⟩)]; exact hpos
          rw [List.getElem?_eq_getElem hl0] at h00
          have := World.block_lt_of_cell? W _ h00
          rwa [blk_add] at this
        refine Rd.of_cells (by rw [flatten_lenA hsz, hlen]) hpos hl hm hb fun j u hj => ?_
        have hjl : j < len * sz := by have := (List.getElem?_eq_some_iff.1 hj).1; rwa [flatten_lenA hsz, hlen] at this
        have hdiv : j / sz < len := (Nat.div_lt_iff_lt_mul hpos).2 hjl
        have hmod := Nat.mod_lt j hpos
        have hji : j / sz * sz + j % sz = j := by rw [Nat.mul_comm]; exact Nat.div_add_mod j sz
        rw [← hji] at hj ⊢
        rw [hcell _ _ hdiv hmod, ← hj]
        exact (flatten_atA hsz (by rw [List.getElem?_map, List.getElem?_range hdiv]; rfl) hmod).symm
    · obtain ⟨i, hi, rfl⟩ := List.mem_map.1 hl
      have hi := List.mem_range.1 hi
      exact ⟨n, _, (hf i (by omega)).2, hD i hi⟩
/-- A struct of one-celled fields opened: each field, read. -/
theorem rd_structW {R : Nat} {e : TypeId} {fs : Array Field} {fuel : Nat} {l : List Value} {y : DataW H × List MemPlace} (he : P.underlying e = some (.struct fs)) (hone : Go.Deep.oneCellFields P fs = true) (h : DataW.trod enc P W base spare held fuel e l = some y) (hS : Sz P R e y.1) :
    ∀ (i : Nat) (f : Field), fs[i]? = some f → ∃ fuel' z, DataW.trod enc P W base spare held fuel' f.type ((l.drop i).take 1) = some z ∧ Sz P R f.type z.1 := by
  obtain ⟨ys, n', _, rfl, _, hyl, hg⟩ := DataW.trod_struct he h
  intro i f hi
  have g := hg i f hi
  obtain ⟨o, k⟩ := Go.Deep.hone_of hone i f hi
  rw [o, k] at g
  have hlt : i < ys.length := by rw [hyl]; exact (Array.getElem?_eq_some_iff.1 hi).1
  rw [List.getElem?_eq_getElem hlt] at g
  refine ⟨n', _, g, fun k hk => hS k ?_⟩
  dsimp only
  rw [DataW.weights, he]
  refine DataW.weights_mem_each (j := i) (t := f.type) (d := ys[i].1) ?_ ?_ k hk
  · rw [List.getElem?_map, Array.getElem?_toList, hi]
    rfl
  · rw [List.getElem?_map, List.getElem?_eq_getElem hlt]
    rfl
theorem rd_stringW {R : Nat} {t : TypeId} {fuel : Nat} {cs : List Value} {y : DataW H × List MemPlace} (ht : P.underlying t = some .string) (h : DataW.trod enc P W base spare held fuel t cs = some y) (hS : Sz P R t y.1) : ∃ s : ByteArray, cs = [.string s] ∧ s.size ≤ R := by
  obtain ⟨s, hs, rfl, _⟩ := DataW.trod_string ht h
  exact ⟨s, hs, hS _ (by simp [DataW.weights])⟩
end
end Go.Proofs.Ytmdhollegemlhaa
