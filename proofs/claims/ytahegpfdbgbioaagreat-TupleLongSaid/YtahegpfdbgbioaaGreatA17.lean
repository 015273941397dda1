import Derived.Shelf.SlSortCmp.WholeK
import Derived.Shelf.SlicesG.Cmp
import Derived.Shelf.Small.Bits
import Derived.Shelf.Bits.Mul64
import Derived.Test.YtahegpfdbgbioaaGreatA16
set_option maxRecDepth 100000
set_option maxHeartbeats 4000000
namespace Go.Proofs.YtahegpfdbgbioaaGreat
abbrev Path := ByteArray × ByteArray
def lastIx (ps : List Path) (q : Path) : Option Nat := ps.zipIdx.foldl (fun a p => if p.1 = q then some p.2 else a) none
theorem lastIx_snoc (ps : List Path) (p q : Path) : lastIx (ps ++ [p]) q = if p = q then some ps.length else lastIx ps q := by
 unfold lastIx
 rw [List.zipIdx_append, List.foldl_append]
 simp
theorem lastIx_lt {ps : List Path} {q : Path} {i : Nat} (h : lastIx ps q = some i) : ps[i]? = some q := by
 suffices H : ∀ n (ps : List Path), ps.length = n → ∀ i, lastIx ps q = some i → ps[i]? = some q from H _ ps rfl i h
 intro n
 induction n with
 | zero => intro ps hn i h; rw [List.eq_nil_of_length_eq_zero hn] at h; simp [lastIx] at h
 | succ n ih =>
  intro ps hn i h
  rcases List.eq_nil_or_concat ps with rfl | ⟨ps', p, rfl⟩
  · simp at hn
  · rw [List.concat_eq_append] at *
    rw [lastIx_snoc] at h
    by_cases e : p = q
    · rw [if_pos e] at h; cases h; subst e; simp
    · rw [if_neg e] at h
      have := ih ps' (by simpa using hn) i h
      have hl := (List.getElem?_eq_some_iff.1 this).1
      rw [List.getElem?_append_left hl]; exact this
theorem lastIx_mem {ps : List Path} {q : Path} (h : q ∈ ps) : ∃ i, lastIx ps q = some i := by
 suffices H : ∀ n (ps : List Path), ps.length = n → q ∈ ps → ∃ i, lastIx ps q = some i from H _ ps rfl h
 intro n
 induction n with
 | zero => intro ps hn h; rw [List.eq_nil_of_length_eq_zero hn] at h; cases h
 | succ n ih =>
  intro ps hn h
  rcases List.eq_nil_or_concat ps with rfl | ⟨ps', p, rfl⟩
  · cases h
  · rw [List.concat_eq_append] at *
    rw [lastIx_snoc]
    by_cases e : p = q
    · exact ⟨_, if_pos e⟩
    · rw [if_neg e]
      rcases List.mem_append.1 h with h | h
      · exact ih ps' (by simpa using hn) h
      · exact absurd (List.mem_singleton.1 h).symm e
def relsOf (l : List TypI) : List (TypI × RelI) := l.flatMap fun t => t.rels.map fun r => (t, r)
def pathsOf (l : List TypI) : List Path := (relsOf l).map fun x => (x.1.name, x.2.name)
def setsP (l : List Path) : List Path := l.filter fun s => !decide (s.2 = ⟨#[]⟩)
def nextsP (l : List Path) (n : ByteArray) : List Path := (l.filter fun s => decide (s.2 = ⟨#[]⟩)).map fun s => (s.1, n)
def pathsP (ps : List Path) (rs : List RelI) (tn : ByteArray) (subs : List Path) (o : OpI) : List Path :=
 if o.1 = 1 then setsP subs
 else if o.1 = 2 then [(tn, o.2.1)]
 else if o.1 = 3 then (match lastIx ps (tn, o.2.1) with
  | some i => (match rs[i]? with
   | some x => nextsP x.subs o.2.2
   | none => [])
  | none => [])
 else []
def namedP (ps : List Path) (rs : List RelI) (tn : ByteArray) (subs : List Path) (o : OpI) : List Nat := (pathsP ps rs tn subs o).filterMap (lastIx ps)
def addAt (m : List Int) (i : Nat) (d : Int) : List Int := m.set i (m.getD i 0 + d)
def mstep (s : List Int × List Nat) (i : Nat) (k : Int) : List Int × List Nat :=
 if k = 1 ∨ k = 2 ∨ k = 3 then (s.1, s.2 ++ [i])
 else if k = 4 ∨ k = 5 ∨ k = 6 then
  (if s.2.length < 2 then s
   else (if k = 6 then addAt (addAt s.1 (s.2.getD (s.2.length - 1) 0) 1) i (-1) else s.1, s.2.take (s.2.length - 1)))
 else s
def mrun (s : List Int × List Nat) (i : Nat) : List OpI → List Int × List Nat
 | [] => s
 | o :: r => mrun (mstep s i o.1) (i + 1) r
theorem mrun_snoc (s : List Int × List Nat) (i : Nat) (l : List OpI) (o : OpI) : mrun s i (l ++ [o]) = mstep (mrun s i l) (i + l.length) o.1 := by
 induction l generalizing s i with
 | nil => rfl
 | cons a t ih => rw [List.cons_append, mrun, ih, mrun, List.length_cons, Nat.add_right_comm, ← Nat.add_assoc]
def psum (m : List Int) : Nat → List Int
 | 0 => m
 | j + 1 => (psum m j).set (j + 1) ((psum m j).getD (j + 1) 0 + (psum m j).getD j 0)
def moreP (l : List OpI) : List Int := (mrun (List.replicate (l.length + 1) 0, []) 0 l).1
def behindP (l : List OpI) (i : Nat) : Bool := decide (0 < (psum (moreP l) l.length).getD i 0)
theorem addAt_len (m : List Int) (i : Nat) (d : Int) : (addAt m i d).length = m.length := by unfold addAt; rw [List.length_set]
theorem mstep_len (s : List Int × List Nat) (i : Nat) (k : Int) : (mstep s i k).1.length = s.1.length := by
 unfold mstep
 split
 · rfl
 · split
   · split
     · rfl
     · split
       · rw [addAt_len, addAt_len]
       · rfl
   · rfl
theorem mrun_len (s : List Int × List Nat) (i : Nat) (l : List OpI) : (mrun s i l).1.length = s.1.length := by
 induction l generalizing s i with
 | nil => rfl
 | cons a t ih => rw [mrun, ih, mstep_len]
theorem psum_len (m : List Int) (j : Nat) : (psum m j).length = m.length := by
 induction j with
 | zero => rfl
 | succ j ih => rw [psum, List.length_set, ih]
theorem mrun_beg (l : List OpI) : ∀ (s : List Int × List Nat) (i : Nat), (mrun s i l).2.length ≤ s.2.length + l.length := by
 induction l with
 | nil => intro s i; exact Nat.le_refl _
 | cons o r ih =>
  intro s i
  have h1 := ih (mstep s i o.1) (i + 1)
  have h2 : (mstep s i o.1).2.length ≤ s.2.length + 1 := by
   unfold mstep
   split
   · simp
   · split
     · split
       · omega
       · rw [List.length_take]; omega
     · omega
  rw [mrun, List.length_cons]
  omega
theorem mrun_lt (l : List OpI) : ∀ (s : List Int × List Nat) (i : Nat), (∀ b ∈ s.2, b < i) → ∀ b ∈ (mrun s i l).2, b < i + l.length := by
 induction l with
 | nil => intro s i h b hb; exact h b hb
 | cons o r ih =>
  intro s i h b hb
  have := ih (mstep s i o.1) (i + 1) (fun c hc => by
   unfold mstep at hc
   split at hc
   · rcases List.mem_append.1 hc with q | q
     · have := h c q; omega
     · rw [List.mem_singleton.1 q]; omega
   · split at hc
     · split at hc
       · have := h c hc; omega
       · have := h c (List.mem_of_mem_take hc); omega
     · have := h c hc; omega) b hb
  rw [List.length_cons]
  omega
def Small (m : List Int) (k : Int) : Prop := ∀ x ∈ m, -k ≤ x ∧ x ≤ k
theorem addAt_small {m : List Int} {k : Int} (h : Small m k) (i : Nat) (d : Int) (hk : 0 ≤ k) (hd : -1 ≤ d ∧ d ≤ 1) : Small (addAt m i d) (k + 1) := by
 intro x hx
 unfold addAt at hx
 rcases List.mem_or_eq_of_mem_set hx with hx | rfl
 · have := h x hx; omega
 · rw [List.getD_eq_getElem?_getD]
   cases hi : m[i]? with
   | none => simp; omega
   | some y => have := h y (List.mem_of_getElem? hi); simp; omega
theorem mstep_small {s : List Int × List Nat} {k : Int} (h : Small s.1 k) (i : Nat) (o : Int) (hk : 0 ≤ k) : Small (mstep s i o).1 (k + 2) := by
 have up : ∀ {m : List Int}, Small m k → Small m (k + 2) := fun q x hx => by have := q x hx; omega
 unfold mstep
 split
 · exact up h
 · split
   · split
     · exact up h
     · split
       · have := addAt_small (addAt_small h (s.2.getD (s.2.length - 1) 0) 1 hk (by omega)) i (-1) (by omega) (by omega)
         rw [Int.add_assoc] at this
         exact this
       · exact up h
   · exact up h
theorem mrun_small (l : List OpI) : ∀ (s : List Int × List Nat) (i : Nat) (k : Int), 0 ≤ k → Small s.1 k → Small (mrun s i l).1 (k + 2 * l.length) := by
 induction l with
 | nil => intro s i k _ h; simpa [mrun] using h
 | cons o r ih =>
  intro s i k hk h
  have := ih (mstep s i o.1) (i + 1) (k + 2) (by omega) (mstep_small h i o.1 hk)
  rw [List.length_cons]
  intro x hx
  have := this x hx
  omega
theorem psum_small {m : List Int} {k : Int} (h : Small m k) (hk : 0 ≤ k) (j : Nat) : Small (psum m j) (k * (j + 1)) ∧ (∀ i, j < i → (psum m j).getD i 0 = m.getD i 0) := by
 induction j with
 | zero => exact ⟨by simpa [psum] using h, fun _ _ => rfl⟩
 | succ j ih =>
  obtain ⟨h1, h2⟩ := ih
  have g : ∀ (m' : List Int) (b : Int), 0 ≤ b → Small m' b → ∀ i, -b ≤ m'.getD i 0 ∧ m'.getD i 0 ≤ b := fun m' b hb hs i => by
   rw [List.getD_eq_getElem?_getD]
   cases hi : m'[i]? with
   | none => simp; omega
   | some y => have := hs y (List.mem_of_getElem? hi); simpa using this
  have hkj : 0 ≤ k * (j : Int) := Int.mul_nonneg hk (by omega)
  have e1 : k * ((j : Int) + 1) = k * j + k := by rw [Int.mul_add, Int.mul_one]
  have e2 : k * (((j + 1 : Nat) : Int) + 1) = k * j + k + k := by rw [Int.natCast_add, Int.mul_add, Int.mul_add]; simp
  refine ⟨fun x hx => ?_, fun i hi => ?_⟩
  · rw [psum] at hx
    rw [e2]
    rcases List.mem_or_eq_of_mem_set hx with hx | rfl
    · have := h1 x hx; rw [e1] at this; omega
    · rw [h2 (j + 1) (by omega)]
      have a1 := g m k hk h (j + 1)
      have a2 := g _ _ (by rw [e1]; omega) h1 j
      rw [e1] at a2
      omega
  · rw [psum, List.getD_eq_getElem?_getD, List.getElem?_set_ne (by omega), ← List.getD_eq_getElem?_getD]
    exact h2 i (by omega)
def opsE (ps : List Path) (rs : List RelI) (tn : ByteArray) (r : RelI) (from_ : Nat) (i : Nat) (o : OpI) : List Ed := (namedP ps rs tn r.subs o).map fun to' => ((from_ : Int), ((to' : Nat) : Int), behindP r.ops i)
def relE (ps : List Path) (rs : List RelI) (tn : ByteArray) (r : RelI) (from_ : Nat) : List Ed := (r.ops.zipIdx).flatMap fun x => opsE ps rs tn r from_ x.2 x.1
def edgesP (l : List TypI) : List Ed := ((relsOf l).zipIdx).flatMap fun x => relE (pathsOf l) ((relsOf l).map (·.2)) x.1.1.name x.1.2 x.2
end Go.Proofs.YtahegpfdbgbioaaGreat
namespace Go.Proofs.YtahegpfdbgbioaaGreat
open Go.Shelf Go.RowKit Go.Lib Go.Sort
def lays212_ren : Go.Shelf.Ren := ⟨fun | 212 => 129 | 263 => 175 | 264 => 176 | n => n, fun | 46 => 228 | 51 => 268 | 146 => 269 | 53 => 271 | 148 => 272 | n => n, fun | n => n⟩
theorem lays212 : Go.Proofs.Lays.n212 Tryz.prog lays212_ren := {
 mixed := by kernel_rfl
 f212 := Tryz.func129.trans (congrArg some (by kernel_rfl))
 f263 := Tryz.func175.trans (congrArg some (by kernel_rfl))
 f264 := Tryz.func176.trans (congrArg some (by kernel_rfl))
 t46 := Tryz.underlying228
 a46 := Tryz.isAgg228
 z46 := Tryz.sizeOf228
 v46 := Tryz.zeroValue228
 t51 := Tryz.underlying268
 a51 := Tryz.isAgg268
 z51 := Tryz.sizeOf268
 v51 := Tryz.zeroValue268
 t53 := Tryz.underlying271
 a53 := Tryz.isAgg271
 z53 := Tryz.sizeOf271
 v53 := Tryz.zeroValue271
 t146 := Tryz.underlying269
 a146 := Tryz.isAgg269
 z146 := Tryz.sizeOf269
 v146 := Tryz.zeroValue269
 t148 := Tryz.underlying272
 a148 := Tryz.isAgg272
 z148 := Tryz.sizeOf272
 v148 := Tryz.zeroValue272 }
def laysCmp_ren : Go.Shelf.Ren := ⟨fun | 5 => 142 | 7 => 181 | n => n, fun | 22 => 3 | 3 => 3 | 4 => 4 | n => n, fun | n => n⟩
theorem laysCmp : Go.Proofs.SlLaysC2.n5 Tryz.prog laysCmp_ren := {
 mixed := by kernel_rfl
 f5 := ⟨Tryz.f142.name, by decide, Tryz.func142.trans (congrArg some (by kernel_rfl))⟩
 f7 := ⟨Tryz.f181.name, by decide, Tryz.func181.trans (congrArg some (by kernel_rfl))⟩
 t3 := Tryz.underlying3
 a3 := Tryz.isAgg3
 z3 := Tryz.sizeOf3
 v3 := Tryz.zeroValue3
 t4 := Tryz.underlying4
 a4 := Tryz.isAgg4
 z4 := Tryz.sizeOf4
 v4 := Tryz.zeroValue4
 t22 := Tryz.underlying3
 a22 := Tryz.isAgg3
 z22 := Tryz.sizeOf3
 v22 := Tryz.zeroValue3 }
def laysSort_ren : Go.Shelf.Ren := ⟨fun | 6 => 139 | 15 => 180 | 14 => 179 | 28 => 207 | 29 => 208 | 20 => 199 | 21 => 200 | 22 => 201 | 23 => 202 | 24 => 203 | 25 => 204 | 26 => 205 | 27 => 206 | 46 => 226 | 47 => 227 | 48 => 228 | 49 => 229 | 50 => 230 | 57 => 235 | n => n, fun | 22 => 100 | 24 => 151 | 25 => 173 | 3 => 3 | 39 => 228 | 0 => 0 | 53 => 268 | 55 => 271 | 4 => 4 | 46 => 297 | 45 => 296 | 50 => 65 | 5 => 5 | 9 => 9 | 66 => 310 | 70 => 314 | 76 => 321 | 77 => 322 | n => n, fun | n => n⟩
theorem laysSort : Go.Proofs.SlLaysF0.n6 Tryz.prog laysSort_ren := {
 mixed := by kernel_rfl
 f6 := ⟨Tryz.f139.name, by decide, Tryz.func139.trans (congrArg some (by kernel_rfl))⟩
 f14 := ⟨Tryz.f179.name, by decide, Tryz.func179.trans (congrArg some (by kernel_rfl))⟩
 f15 := Tryz.func180.trans (congrArg some (by kernel_rfl))
 f20 := ⟨Tryz.f199.name, by decide, Tryz.func199.trans (congrArg some (by kernel_rfl))⟩
 f21 := ⟨Tryz.f200.name, by decide, Tryz.func200.trans (congrArg some (by kernel_rfl))⟩
 f22 := ⟨Tryz.f201.name, by decide, Tryz.func201.trans (congrArg some (by kernel_rfl))⟩
 f23 := ⟨Tryz.f202.name, by decide, Tryz.func202.trans (congrArg some (by kernel_rfl))⟩
 f24 := ⟨Tryz.f203.name, by decide, Tryz.func203.trans (congrArg some (by kernel_rfl))⟩
 f25 := ⟨Tryz.f204.name, by decide, Tryz.func204.trans (congrArg some (by kernel_rfl))⟩
 f26 := ⟨Tryz.f205.name, by decide, Tryz.func205.trans (congrArg some (by kernel_rfl))⟩
 f27 := ⟨Tryz.f206.name, by decide, Tryz.func206.trans (congrArg some (by kernel_rfl))⟩
 f28 := Tryz.func207.trans (congrArg some (by kernel_rfl))
 f29 := Tryz.func208.trans (congrArg some (by kernel_rfl))
 f46 := ⟨Tryz.f226.name, by decide, Tryz.func226.trans (congrArg some (by kernel_rfl))⟩
 f47 := Tryz.func227.trans (congrArg some (by kernel_rfl))
 f48 := Tryz.func228.trans (congrArg some (by kernel_rfl))
 f49 := ⟨Tryz.f229.name, by decide, Tryz.func229.trans (congrArg some (by kernel_rfl))⟩
 f50 := ⟨Tryz.f230.name, by decide, Tryz.func230.trans (congrArg some (by kernel_rfl))⟩
 f57 := ⟨Tryz.f235.name, by decide, Tryz.func235.trans (congrArg some (by kernel_rfl))⟩
 t0 := Tryz.underlying0
 a0 := Tryz.isAgg0
 z0 := Tryz.sizeOf0
 v0 := Tryz.zeroValue0
 t3 := Tryz.underlying3
 a3 := Tryz.isAgg3
 z3 := Tryz.sizeOf3
 v3 := Tryz.zeroValue3
 t4 := Tryz.underlying4
 a4 := Tryz.isAgg4
 z4 := Tryz.sizeOf4
 v4 := Tryz.zeroValue4
 t5 := Tryz.underlying5
 a5 := Tryz.isAgg5
 z5 := Tryz.sizeOf5
 v5 := Tryz.zeroValue5
 t9 := Tryz.underlying9
 a9 := Tryz.isAgg9
 z9 := Tryz.sizeOf9
 v9 := Tryz.zeroValue9
 t22 := Tryz.underlying100
 a22 := Tryz.isAgg100
 z22 := Tryz.sizeOf100
 v22 := Tryz.zeroValue100
 t25 := Tryz.underlying173
 a25 := Tryz.isAgg173
 z25 := Tryz.sizeOf173
 v25 := Tryz.zeroValue173
 t39 := Tryz.underlying228
 a39 := Tryz.isAgg228
 z39 := Tryz.sizeOf228
 v39 := Tryz.zeroValue228
 t45 := Tryz.underlying296
 a45 := Tryz.isAgg296
 z45 := Tryz.sizeOf296
 v45 := Tryz.zeroValue296
 t46 := Tryz.underlying297
 a46 := Tryz.isAgg297
 z46 := Tryz.sizeOf297
 v46 := Tryz.zeroValue297
 t50 := Tryz.underlying65
 a50 := Tryz.isAgg65
 z50 := Tryz.sizeOf65
 v50 := Tryz.zeroValue65
 t53 := Tryz.underlying268
 a53 := Tryz.isAgg268
 z53 := Tryz.sizeOf268
 v53 := Tryz.zeroValue268
 t55 := Tryz.underlying271
 a55 := Tryz.isAgg271
 z55 := Tryz.sizeOf271
 v55 := Tryz.zeroValue271
 t66 := Tryz.underlying310
 a66 := Tryz.isAgg310
 z66 := Tryz.sizeOf310
 v66 := Tryz.zeroValue310
 t70 := Tryz.underlying314
 a70 := Tryz.isAgg314
 z70 := Tryz.sizeOf314
 v70 := Tryz.zeroValue314
 t76 := Tryz.underlying321
 a76 := Tryz.isAgg321
 z76 := Tryz.sizeOf321
 v76 := Tryz.zeroValue321
 t77 := Tryz.underlying322
 a77 := Tryz.isAgg322
 z77 := Tryz.sizeOf322
 v77 := Tryz.zeroValue322 }
end Go.Proofs.YtahegpfdbgbioaaGreat
namespace Go.Proofs.YtahegpfdbgbioaaGreat
open Go.RowKit
open Go.RowKit
def ecell (e : Ed) : List Value := [.int .i64 e.1, .int .i64 e.2.1, .bool e.2.2]
def ecells (l : List Ed) : List Value := l.flatMap ecell
def ints (L : List Nat) : List Value := L.map fun (k : Nat) => Value.int .i64 (k : Int)
def bools (s : List Bool) : Array Value := (s.map Value.bool).toArray
theorem ints_app (a b : List Nat) : ints (a ++ b) = ints a ++ ints b := List.map_append
theorem ints_one (L : List Nat) : ∀ u ∈ ints L, u.oneCell' = true := by
 intro u hu
 obtain ⟨k, _, rfl⟩ := List.mem_map.1 hu
 rfl
theorem ecell_one (e : Ed) : ∀ u ∈ ecell e, u.oneCell' = true := by
 intro u hu
 simp only [ecell, List.mem_cons, List.not_mem_nil, or_false] at hu
 rcases hu with rfl | rfl | rfl <;> rfl
theorem ecells_len (l : List Ed) : (ecells l).length = l.length * 3 := by
 induction l with
 | nil => rfl
 | cons a t ih => rw [ecells, List.flatMap_cons, List.length_append, ← ecells, ih]; simp [ecell]; omega
theorem ecells_app (a b : List Ed) : ecells (a ++ b) = ecells a ++ ecells b := List.flatMap_append
theorem ecells_get {l : List Ed} {i : Nat} {e : Ed} (h : l[i]? = some e) : (ecells l)[i * 3]? = some (.int .i64 e.1) ∧ (ecells l)[i * 3 + 1]? = some (.int .i64 e.2.1) ∧ (ecells l)[i * 3 + 2]? = some (.bool e.2.2) := by
 induction l generalizing i with
 | nil => simp at h
 | cons a t ih =>
  rw [ecells, List.flatMap_cons, ← ecells]
  cases i with
  | zero =>
   simp only [List.getElem?_cons_zero, Option.some.injEq] at h
   subst h
   exact ⟨rfl, rfl, rfl⟩
  | succ i =>
   obtain ⟨h1, h2, h3⟩ := ih (by simpa using h)
   have e1 : (i + 1) * 3 = i * 3 + 3 := by omega
   have e0 : (ecell a).length = 3 := rfl
   rw [e1]
   refine ⟨?_, ?_, ?_⟩
   · rw [List.getElem?_append_right (by omega), e0, ← h1]; rfl
   · rw [List.getElem?_append_right (by omega), e0, ← h2]; congr 1
   · rw [List.getElem?_append_right (by omega), e0, ← h3]; congr 1
structure Gr (w : World) (B : Nat) (A : Option Addr) (c n : Nat) (l : List Ed) : Prop where
 one : ∃ vs, Rd w B 1 A n c vs ∧ ∀ i, i < n → ∃ Ai ci, vs[i]? = some (.slice Ai (outE l i).length ci) ∧ Rd w B 3 Ai (outE l i).length ci (ecells (outE l i))
 inr : InR n l
 few : n ≤ 4096
theorem Gr.below {w w' : World} {B n c : Nat} {A : Option Addr} {l : List Ed} (h : Gr w B A c n l) (hb : Below B w w') : Gr w' B A c n l := by
 obtain ⟨⟨vs, h1, h2⟩, h3, h4⟩ := h
 exact ⟨⟨vs, h1.below hb, fun i hi => by obtain ⟨Ai, ci, e, r⟩ := h2 i hi; exact ⟨Ai, ci, e, r.below hb⟩⟩, h3, h4⟩
theorem Gr.more {w : World} {B B' n c : Nat} {A : Option Addr} {l : List Ed} (h : Gr w B A c n l) (hb : B ≤ B') : Gr w B' A c n l := by
 obtain ⟨⟨vs, h1, h2⟩, h3, h4⟩ := h
 exact ⟨⟨vs, h1.more hb, fun i hi => by obtain ⟨Ai, ci, e, r⟩ := h2 i hi; exact ⟨Ai, ci, e, r.more hb⟩⟩, h3, h4⟩
structure Od (w : World) (M go : Nat) (L : List Nat) : Prop where
 one : ∃ v, Bk w go #[v] 32 ∧ w.ownsRow M 3 1 v L.length (ints L)
 ge : M ≤ go
theorem info_int : (Tryz.prog.info? 3).map (fun i => (i.zero, i.size, i.bytes)) = some (some (.int .i64 0), 1, 8) := by kernel_rfl
theorem cells_new1 (w : World) (a : Value) (t : TypeId) : ∀ j u, [a][j]? = some u → (w.alloc (.cells #[a] t)).cell? ((⟨w.heap.size, 0, none⟩ : Addr).add j) = some u := by
 intro j u hj
 rw [Addr.add_lit, cell_of_row _ _ _ _ _ _ (heap_alloc_new w _), Nat.zero_add]
 simpa using hj
def Bt (w w' : World) : Prop := ∀ t b cs, t ≠ 3 → t ≠ 32 → Bk w b cs t → Bk w' b cs t
def Bw (w w' : World) : Prop := ∀ t b cs, t ≠ 3 → t ≠ 32 → t ≠ 4 → Bk w b cs t → Bk w' b cs t
theorem Bt.bw {w w' : World} (h : Bt w w') : Bw w w' := fun t b cs h1 h2 _ hb => h t b cs h1 h2 hb
theorem Bw.refl (w : World) : Bw w w := fun _ _ _ _ _ _ h => h
theorem Bw.trans {w w' w'' : World} (h : Bw w w') (k : Bw w' w'') : Bw w w'' := fun t b cs h1 h2 h3 hb => k t b cs h1 h2 h3 (h t b cs h1 h2 h3 hb)
theorem Bw.alloc {w w' : World} (h : Bw w w') (o : Obj) : Bw w (w'.alloc o) := fun t b cs h1 h2 h3 hb => (h t b cs h1 h2 h3 hb).alloc o
theorem own_ne {w : World} {B2 b : Nat} {cs : Array Value} {t e2 : TypeId} {s2 n2 : Nat} {u : Value} {ys : List Value} (h : Bk w b cs t) (hu : w.ownsRow B2 e2 s2 u n2 ys) (hne : t ≠ e2) : u.ownBlock ≠ some b := fun hk2 => by
 rcases hu.2 with ⟨rfl, _⟩ | ⟨g2, cap2, cur2, rfl, _, hh2, _⟩
 · simp [Value.ownBlock] at hk2
 simp only [Value.ownBlock, Option.some.injEq] at hk2
 subst hk2
 rw [show w.heap[g2]? = _ from h] at hh2
 injection hh2 with hh2
 injection hh2 with _ h3 _
 exact hne h3
theorem bk_grown {w w' : World} {B2 b : Nat} {cs : Array Value} {t e2 : TypeId} {s2 n2 : Nat} {u : Value} {ys : List Value} (h : Bk w b cs t) (hu : w.ownsRow B2 e2 s2 u n2 ys) (hne : t ≠ e2) (hg : w.grownBy w' u.ownBlock) : Bk w' b cs t :=
 (hg.block b h.lt fun hk2 => own_ne h hu hne hk2.symm).trans h
section
variable {w : World} {M go : Nat} {L : List Nat}
theorem leave_done {w1 : World} {v v1 : Value} {k : Nat} {o : Obj} (hv : Bk w go #[v] 32) (hr : w.ownsRow M 3 1 v L.length (ints L)) (hM : M ≤ go) (hg1 : (w.alloc o).grownBy w1 v.ownBlock) (hown1 : w1.ownsRow M 3 1 v1 (L.length + 1) (ints L ++ [.int .i64 (k : Int)])) :
 Bk w1 go #[v] 32 ∧ Od (w1.setCell ⟨go, 0, none⟩ v1) M go (L ++ [k]) ∧ Below M w (w1.setCell ⟨go, 0, none⟩ v1) ∧ Bt w (w1.setCell ⟨go, 0, none⟩ v1) := by
 have hr' := World.ownsRow.alloc hr o
 have hb1 : Bk w1 go #[v] 32 := bk_grown (hv.alloc o) hr' (by decide) hg1
 have hlt := hv.lt
 have hbw : Below M w w1 := below_of_own (((Below.refl _ w)).alloc (by omega) o) hg1 hr' (by simp; omega) (Nat.le_refl _)
 refine ⟨hb1, ⟨⟨v1, ?_, ?_⟩, hM⟩, hbw.setCell hM _, fun t b cs ht1 ht2 hb => ?_⟩
 · have := hb1.set 0 v1; simpa using this
 · rw [List.length_append, ints_app]
   refine own_same (n := L.length + 1) (xs := ints L ++ [.int .i64 (k : Int)]) hown1 fun g hg => ?_
   have hne : g ≠ go := fun e => own_ne hb1 hown1 (by decide) (e ▸ hg)
   exact Below.heap_setCell _ _ _ _ hne
 · have h2 := bk_grown (hb.alloc o) hr' ht1 hg1
   refine h2.other (a := ⟨go, 0, none⟩) (fun e => ?_) _
   have e' : b = go := e
   subst e'
   have := hb.symm.trans hv
   injection this with this
   injection this with _ h3 _
   exact ht2 h3
theorem leave1_any (h : Od w M go L) (k : Nat) (hl : L.length < 1000000) :
 Calls Tryz.prog 131 #[.int .i64 (k : Int), .pointer (some ⟨go, 0, none⟩)] w fun e w' => e = .returned (.tuple #[]) ∧ Od w' M go (L ++ [k]) ∧ Below M w w' ∧ Bt w w' := by
 obtain ⟨⟨v, hv, hr⟩, hM⟩ := h
 have c0 := hv.cell 0
 have fz := hv.fz 0
 have hg := hv.lt
 obtain ⟨i0, hi, hz0, hz1, hz2⟩ := info_parts info_int
 obtain ⟨A, c, rfl, _⟩ := Rd.own hr
 have H := Lib.hid hr
 have V := Lib.hid hv
 clear hr hv
 go_enter Tryz.func131, Tryz.ntmps131
 go_wp2_with (first
  | (at_builtin; go_loud (refine wpList_append_src _ rfl (.tmp 3) (.tmp 5) 32 32 rfl M 3 i0 (.int .i64 0) 1 8 Tryz.underlying32 hi hz0 hz1 hz2 rfl (by decide) _ L.length (ints L) rfl (H.out.alloc _) _ 1 [.int .i64 (k : Int)] rfl (Src.ofSlice _ Tryz.underlying32 _ 1 1 _ rfl (cells_new1 _ _ _) (ints_one [k])) (by simp only [maxLen]; omega) (by omega) (size_alloc (by omega)) ?_; intro v1 w1 hown1 hg1 hat1; obtain ⟨A1, c1, rfl, _⟩ := Rd.own hown1; have hcg := (leave_done V.out H.out hM hg1 hown1).1; have cg := hcg.cell 0; have fg := hcg.fz 0)))
 go_end0
 exact ⟨rfl, (leave_done V.out H.out hM hg1 hown1).2⟩
theorem leave2_any (h : Od w M go L) (k : Nat) (hl : L.length < 1000000) :
 Calls Tryz.prog 133 #[.int .i64 (k : Int), .pointer (some ⟨go, 0, none⟩)] w fun e w' => e = .returned (.tuple #[]) ∧ Od w' M go (L ++ [k]) ∧ Below M w w' ∧ Bt w w' := by
 obtain ⟨⟨v, hv, hr⟩, hM⟩ := h
 have c0 := hv.cell 0
 have fz := hv.fz 0
 have hg := hv.lt
 obtain ⟨i0, hi, hz0, hz1, hz2⟩ := info_parts info_int
 obtain ⟨A, c, rfl, _⟩ := Rd.own hr
 have H := Lib.hid hr
 have V := Lib.hid hv
 clear hr hv
 go_enter Tryz.func133, Tryz.ntmps133
 go_wp2_with (first
  | (at_builtin; go_loud (refine wpList_append_src _ rfl (.tmp 3) (.tmp 5) 32 32 rfl M 3 i0 (.int .i64 0) 1 8 Tryz.underlying32 hi hz0 hz1 hz2 rfl (by decide) _ L.length (ints L) rfl (H.out.alloc _) _ 1 [.int .i64 (k : Int)] rfl (Src.ofSlice _ Tryz.underlying32 _ 1 1 _ rfl (cells_new1 _ _ _) (ints_one [k])) (by simp only [maxLen]; omega) (by omega) (size_alloc (by omega)) ?_; intro v1 w1 hown1 hg1 hat1; obtain ⟨A1, c1, rfl, _⟩ := Rd.own hown1; have hcg := (leave_done V.out H.out hM hg1 hown1).1; have cg := hcg.cell 0; have fg := hcg.fz 0)))
 go_end0
 exact ⟨rfl, (leave_done V.out H.out hM hg1 hown1).2⟩
end
structure Sw (w : World) (M gs go n : Nat) (s : List Bool) (L : List Nat) : Prop where
 seen : Bk w gs (bools s) 4
 od : Od w M go L
 len : s.length = n
theorem Gr.row {w : World} {B n c : Nat} {A : Option Addr} {l : List Ed} (h : Gr w B A c n l) {i : Nat} (hi : i < n) :
 ∃ b o Ai ci, A = some ⟨b, o, none⟩ ∧ b < B ∧ w.cell? ⟨b, o + i, none⟩ = some (.slice Ai (outE l i).length ci) ∧ Rd w B 3 Ai (outE l i).length ci (ecells (outE l i)) := by
 obtain ⟨⟨vs, h1, h2⟩, _, _⟩ := h
 obtain ⟨Ai, ci, e, r⟩ := h2 i hi
 obtain ⟨b, o, u, rfl, hb, hu, hc⟩ := h1.get hi
 rw [e] at hu
 cases hu
 exact ⟨b, o, Ai, ci, rfl, hb, hc, r⟩
theorem rd_edge {w : World} {B n c : Nat} {A : Option Addr} {l : List Ed} (h : Rd w B 3 A n c (ecells l)) {i : Nat} {e : Ed} (hi : l[i]? = some e) :
 ∃ b o, A = some ⟨b, o, none⟩ ∧ b < B ∧ w.cell? ⟨b, o + i * 3, none⟩ = some (.int .i64 e.1) ∧ w.cell? ⟨b, o + i * 3 + 1, none⟩ = some (.int .i64 e.2.1) ∧ w.cell? ⟨b, o + i * 3 + 2, none⟩ = some (.bool e.2.2) := by
 have hn : 0 < n := by
  have h1 := h.len
  have h2 := ecells_len l
  have h3 := (List.getElem?_eq_some_iff.1 hi).1
  omega
 obtain ⟨b, o, e', hb, hc⟩ := h.at_ hn
 obtain ⟨g0, g1, g2⟩ := ecells_get hi
 exact ⟨b, o, e', hb, hc _ _ g0, by rw [Nat.add_assoc]; exact hc _ _ g1, by rw [Nat.add_assoc]; exact hc _ _ g2⟩
theorem bools_set (s : List Bool) (a : Nat) : (bools s).setIfInBounds a (.bool true) = bools (s.set a true) := by
 unfold bools
 apply Array.ext'
 simp [List.map_set]
theorem bools_get (s : List Bool) (a : Nat) : (bools s)[a]? = s[a]?.map Value.bool := by simp [bools]
theorem bools_size (s : List Bool) : (bools s).size = s.length := by simp [bools]
theorem walk_any {n M0 M gs go c cs : Nat} {A : Option Addr} {l : List Ed} (fl : Nat) (hM : M0 ≤ M) (hgs : M0 ≤ gs) (hgg : gs ≠ go)
 (eg : ∀ args w, (callFunc fl args).run Tryz.prog w = .ok (.enter fl args) w)
 (hL : ∀ (w : World) (L : List Nat) (k : Nat), Od w M go L → L.length < 1000000 → Calls Tryz.prog fl #[.int .i64 (k : Int), .pointer (some ⟨go, 0, none⟩)] w fun e w' => e = .returned (.tuple #[]) ∧ Od w' M go (L ++ [k]) ∧ Below M w w' ∧ Bt w w') (k : Nat) :
 ∀ {w : World} {s : List Bool} {L : List Nat} {a : Nat}, s.count false ≤ k → a < n → Gr w M0 A c n l → Sw w M gs go n s L → L.length + s.count false ≤ 4096 →
  Calls Tryz.prog 130 #[.slice A n c, .slice (some ⟨gs, 0, none⟩) n cs, .int .i64 (a : Int), .func (.func fl) #[] #[.pointer (some ⟨go, 0, none⟩)]] w fun e w' =>
   e = .returned (.tuple #[]) ∧ ∃ s' L', Walks (goE l) s [a] s' L' ∧ Sw w' M gs go n s' (L ++ L') ∧ Kp gs M w w' ∧ Bw w w' := by
 induction k with
 | zero =>
  intro w s L a hk ha hG hS _
  have hsa : s[a]? = some true := by
   have hlt : a < s.length := by rw [hS.len]; exact ha
   rw [List.getElem?_eq_getElem hlt]
   cases hb : s[a] with
   | true => rfl
   | false =>
    have := List.count_pos_iff.2 (hb ▸ List.getElem_mem hlt)
    omega
  have c0 := hS.seen.cell a
  rw [bools_get, hsa] at c0
  have ha' : (a : Int) < (n : Int) := by omega
  go_enter Tryz.func130, Tryz.ntmps130
  go_wp2_with fail
  refine bodyPost_ret (results_none rfl _ _ _) rfl ?_
  exact ⟨rfl, s, [], .old hsa (.nil s), by rw [List.append_nil]; exact hS, Kp.refl _ _ _, Bw.refl _⟩
 | succ k ih =>
  intro w s L a hk ha hG hS hf
  have hlt : a < s.length := by rw [hS.len]; exact ha
  have ha' : (a : Int) < (n : Int) := by omega
  have c0 := hS.seen.cell a
  have fz := hS.seen.fz a
  have hgl := hS.seen.lt
  rw [bools_get] at c0
  cases hsa : s[a]? with
  | none => rw [List.getElem?_eq_none_iff] at hsa; omega
  | some b =>
  cases b with
  | true =>
   rw [hsa] at c0
   go_enter Tryz.func130, Tryz.ntmps130
   go_wp2_with fail
   refine bodyPost_ret (results_none rfl _ _ _) rfl ?_
   exact ⟨rfl, s, [], .old hsa (.nil s), by rw [List.append_nil]; exact hS, Kp.refl _ _ _, Bw.refl _⟩
  | false =>
   rw [hsa] at c0
   go_enter Tryz.func130, Tryz.ntmps130
   go_upto_region 2 with (fail)
   have hcs := count_set hsa
   have hB0 : Below M0 w (w.setCell ⟨gs, a, none⟩ (.bool true)) := (Below.refl M0 w).setCell hgs _
   have hS1 : Sw (w.setCell ⟨gs, a, none⟩ (.bool true)) M gs go n (s.set a true) L := by
    refine ⟨?_, ⟨?_, hS.od.ge⟩, by rw [List.length_set]; exact hS.len⟩
    · have := hS.seen.set a (.bool true)
      rwa [bools_set] at this
    · obtain ⟨v, hv, hr⟩ := hS.od.one
      refine ⟨v, hv.other (a := ⟨gs, a, none⟩) (fun e => hgg e.symm) _, own_same hr fun g hg => Below.heap_setCell _ _ _ _ ?_⟩
      exact fun e => own_ne hS.seen hr (by decide) ((show g = gs from e) ▸ hg)
   have hK1 : Kp gs M w (w.setCell ⟨gs, a, none⟩ (.bool true)) := ⟨rfl, rfl, rfl, by simp [World.setCell], fun g _ hg => Below.heap_setCell _ _ _ _ hg⟩
   have hW1 : Bw w (w.setCell ⟨gs, a, none⟩ (.bool true)) := fun t b cs _ _ ht hb => hb.other (a := ⟨gs, a, none⟩) (fun e => by
    have e' : b = gs := e
    subst e'
    have := hb.symm.trans hS.seen
    injection this with this
    injection this with _ h3 _
    exact ht h3) _
   have hG1 := hG.below hB0
   clear hG hS c0 fz hgl
   generalize w.setCell ⟨gs, a, none⟩ (.bool true) = w1 at *
   obtain ⟨b, o, Ai, ci, rfl, hb, hc, hR⟩ := hG1.row ha
   have hlE : ((outE l a).length : Int) ≤ 9223372036854775807 := by have := hR.cap; have := hR.capm; simp only [maxLen] at this; omega
   go_wp2_with fail
   go_loopw [22] (fun vi wx => ∃ (j : Nat) (s' : List Bool) (L' : List Nat), vi = .int .i64 j ∧ j ≤ (outE l a).length ∧ Walks (goE l) (s.set a true) ((goE l a).take j) s' L' ∧ Sw wx M gs go n s' (L ++ L') ∧ Kp gs M w1 wx ∧ Bw w1 wx) (fun vi _ => (outE l a).length - (intOf vi).toNat)
   case atStart => exact ⟨0, _, [], rfl, Nat.zero_le _, .nil _, by rw [List.append_nil]; exact hS1, Kp.refl _ _ _, Bw.refl _⟩
   case round =>
    obtain ⟨j, s', L', rfl, hj, hW, hS, hK, hV⟩ := hrel
    have hcf := hW.cf
    have hGr := hG1.below (hK.below hM hgs)
    by_cases hlt2 : j < (outE l a).length
    · have hj' : (j : Int) < ((outE l a).length : Int) := by omega
      obtain ⟨e, he⟩ : ∃ e, (outE l a)[j]? = some e := ⟨_, List.getElem?_eq_getElem hlt2⟩
      have hel := (mem_outE.1 (List.mem_of_getElem? he)).1
      have hte : e.2.1 = ((tt e : Nat) : Int) := by have := hG1.inr e hel; unfold tt; omega
      have htn := hG1.inr.tt hel
      have hgo : (goE l a)[j]? = some (tt e) := by unfold goE; rw [List.getElem?_map, he]; rfl
      obtain ⟨b2, o2, rfl, hb2, c0, c1, c2⟩ := rd_edge (hR.below (hK.below hM hgs)) he
      rw [hte] at c1
      have hwl : M0 ≤ wr.heap.size := by have := hK.size; have := hS.od.ge; obtain ⟨v, hv, _⟩ := hS.od.one; have := hv.lt; omega
      go_upto_region 5 with (fail)
      have hS2 : Sw (wr.alloc (.cells #[.int .i64 e.1, .int .i64 ((tt e : Nat) : Int), .bool e.2.2] 151)) M gs go n s' (L ++ L') := by
       obtain ⟨v, hv, hr⟩ := hS.od.one
       exact ⟨hS.seen.alloc _, ⟨⟨v, hv.alloc _, hr.alloc _⟩, hS.od.ge⟩, hS.len⟩
      have hMw : M ≤ wr.heap.size := by obtain ⟨v, hv, _⟩ := hS.od.one; have := hv.lt; have := hS.od.ge; omega
      have hK2 := hK.alloc hMw (.cells #[.int .i64 e.1, .int .i64 ((tt e : Nat) : Int), .bool e.2.2] 151)
      have hV2 := hV.alloc (.cells #[.int .i64 e.1, .int .i64 ((tt e : Nat) : Int), .bool e.2.2] 151)
      have hGr2 := hG1.below (hK2.below hM hgs)
      have d1 := (Bk.new wr #[.int .i64 e.1, .int .i64 ((tt e : Nat) : Int), .bool e.2.2] 151).cell 1
      clear hS hK hV hGr c0 c1 c2
      generalize wr.alloc (.cells #[.int .i64 e.1, .int .i64 ((tt e : Nat) : Int), .bool e.2.2] 151) = w2 at *
      have kI := ih (w := w2) (s := s') (L := L ++ L') (a := tt e) (by omega) htn hGr2 hS2 (by rw [List.length_append]; omega)
      go_wp2_with fail
      refine kI.mono ?_
      rintro e' w3 ⟨rfl, s3, L3, hW3, hS3, hK3, hV3⟩
      go_wp2
      go_roundw
      case rel =>
       refine ⟨j + 1, s3, L' ++ L3, by simp, by omega, ?_, by rw [← List.append_assoc]; exact hS3, hK2.trans hK3, hV2.trans hV3⟩
       rw [List.take_add_one, hgo]
       exact hW.app hW3
      case measure => simp [intOf]; omega
    · obtain rfl : j = (outE l a).length := by omega
      have hj' : ¬ ((((outE l a).length : Nat) : Int) < ((outE l a).length : Int)) := by omega
      have hall : (goE l a).take (outE l a).length = goE l a := List.take_of_length_le (by unfold goE; simp)
      rw [hall] at hW
      have kL := hL wr (L ++ L') a hS.od (by rw [List.length_append]; omega)
      have kE := eg #[.int .i64 (a : Int), .pointer (some ⟨go, 0, none⟩)] wr
      go_wp2_with fail
      refine kL.mono ?_
      rintro e' w3 ⟨rfl, hO, hBw, hBt⟩
      go_wp2
      go_end0
      refine ⟨rfl, s', L' ++ [a], ?_, ⟨hBt _ _ _ (by decide) (by decide) hS.seen, by rw [← List.append_assoc]; exact hO, hS.len⟩, hK1.trans (hK.trans (Kp.of_below hBw _)), hW1.trans (hV.trans hBt.bw)⟩
      exact .new hsa hW (.nil _)
end Go.Proofs.YtahegpfdbgbioaaGreat
