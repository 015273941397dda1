/- Layer 14: the program's spans in memory: a map of rows, a row a key. Conditions: none. -/
import Derived.Maps.OwnSet
import Derived.Maps.Range
import Derived.Maps.Views
import Derived.Deep.AppendLies
import Derived.Test.YtmdhollegemlhaaSpK14
import Derived.Test.YtmdhollegemlhaaGrpP14
namespace Go.Proofs.Ytmdhollegemlhaa
open Go.RowKit

/-- A block of cells. -/
def Rk (w : World) (b : Nat) (cs : Array Value) (t : TypeId) : Prop := w.heap[b]? = some (.cells cs t (0, 0))
section
variable {w w' : World} {b : Nat} {cs : Array Value} {t : TypeId}
theorem Rk.lt (h : Rk w b cs t) : b < w.heap.size := (Array.getElem?_eq_some_iff.1 h).1
theorem Rk.cell (h : Rk w b cs t) (i : Nat) : w.cell? ⟨b, i, none⟩ = cs[i]? := by rw [cell_of_row _ _ _ _ _ _ h]
theorem Rk.fz (h : Rk w b cs t) (i : Nat) : w.frozen? ⟨b, i, none⟩ = false := by simp [World.frozen?, show w.heap[b]? = some (.cells cs t (0, 0)) from h]
theorem Rk.same (h : Rk w b cs t) (hs : w'.heap[b]? = w.heap[b]?) : Rk w' b cs t := hs.trans h
theorem Rk.new (w : World) (cs : Array Value) (t : TypeId) : Rk (w.alloc (.cells cs t)) w.heap.size cs t := heap_alloc_new w _
theorem Rk.alloc (h : Rk w b cs t) (o : Obj) : Rk (w.alloc o) b cs t := h.same (Below.heap_alloc _ _ _ h.lt)
theorem Rk.one {x : Value} (h : Rk w b #[x] t) : w.cell? ⟨b, 0, none⟩ = some x := h.cell 0
theorem Rk.two {x y : Value} (h : Rk w b #[x, y] t) : w.cell? ⟨b, 0, none⟩ = some x ∧ w.cell? ⟨b, 1, none⟩ = some y := ⟨h.cell 0, h.cell 1⟩
theorem Rk.set (h : Rk w b cs t) (i : Nat) (v : Value) : Rk (w.setCell ⟨b, i, none⟩ v) b (cs.setIfInBounds i v) t := by
  have e : w.heap[b]? = some (.cells cs t (0, 0)) := h
  simp [Rk, World.setCell, Array.getElem?_modify, e]
theorem Rk.other (h : Rk w b cs t) {a : Addr} (ha : b ≠ a.block) (v : Value) : Rk (w.setCell a v) b cs t := h.same (Below.heap_setCell _ _ _ _ ha)
/-- A row of another type lies elsewhere. -/
theorem Rk.apart {e : TypeId} {base size n : Nat} {v : Value} {xs : List Value} (h : Rk w b cs t) (hu : w.ownsRow base e size v n xs) (hne : t ≠ e) : v.ownBlock ≠ some b := fun hk => by
  rcases hu.2 with ⟨rfl, _⟩ | ⟨g2, cap2, cur2, rfl, _, hh2, _⟩
  · simp [Value.ownBlock] at hk
  simp only [Value.ownBlock, Option.some.injEq] at hk
  subst hk
  rw [show w.heap[g2]? = _ from h] at hh2
  injection hh2 with hh2
  injection hh2 with _ h2 _
  exact hne h2
theorem own_keep {e : TypeId} {base size n : Nat} {v : Value} {xs : List Value} (h : w.ownsRow base e size v n xs) (hk : ∀ j, v.ownBlock = some j → w'.heap[j]? = w.heap[j]?) : w'.ownsRow base e size v n xs := by
  refine ⟨h.1, ?_⟩
  rcases h.2 with h2 | ⟨g, cap, cur, rfl, hg, hh, r⟩
  · exact .inl h2
  · exact .inr ⟨g, cap, cur, rfl, hg, (hk g rfl).trans hh, r⟩
theorem own_lt {e : TypeId} {base size n : Nat} {v : Value} {xs : List Value} (h : w.ownsRow base e size v n xs) {j : Nat} (hj : v.ownBlock = some j) : base ≤ j ∧ j < w.heap.size := h.lt j hj
end

/-- A key's spans as cells. -/
def icell (y : Iv) : List Value := [.int .i64 y.1, .int .i64 y.2]
def ics (l : List Iv) : List Value := l.flatMap icell
theorem ics_len (l : List Iv) : (ics l).length = l.length * 2 := by
  induction l with
  | nil => rfl
  | cons a t ih => rw [ics, List.flatMap_cons, List.length_append, ← ics, ih]; simp [icell]; omega
theorem ics_app (a b : List Iv) : ics (a ++ b) = ics a ++ ics b := List.flatMap_append
theorem ics_sing (y : Iv) : ics [y] = icell y := by simp [ics]
theorem icell_one (y : Iv) : ∀ u ∈ icell y, u.oneCell' = true := by
  intro u hu
  simp only [icell, List.mem_cons, List.not_mem_nil, or_false] at hu
  rcases hu with rfl | rfl <;> rfl
theorem ics_get {l : List Iv} {i : Nat} {y : Iv} (h : l[i]? = some y) : (ics l)[i * 2]? = some (.int .i64 y.1) ∧ (ics l)[i * 2 + 1]? = some (.int .i64 y.2) := by
  induction l generalizing i with
  | nil => simp at h
  | cons a t ih =>
    rw [ics, List.flatMap_cons, ← ics]
    cases i with
    | zero =>
      simp at h
      subst h
      exact ⟨rfl, rfl⟩
    | succ i =>
      obtain ⟨h1, h2⟩ := ih (by simpa using h)
      rw [List.getElem?_append_right (by simp [icell]; omega), List.getElem?_append_right (by simp [icell]; omega)]
      simp only [icell, List.length_cons, List.length_nil]
      rw [show (i + 1) * 2 - (0 + 1 + 1) = i * 2 by omega, show (i + 1) * 2 + 1 - (0 + 1 + 1) = i * 2 + 1 by omega]
      exact ⟨h1, h2⟩
theorem rd_iv {w : World} {B n c : Nat} {A : Option Addr} {l : List Iv} (h : Rd w B 2 A n c (ics l)) {i : Nat} {y : Iv} (hi : l[i]? = some y) :
    ∃ b o, A = some ⟨b, o, none⟩ ∧ b < B ∧ w.cell? ⟨b, o + i * 2, none⟩ = some (.int .i64 y.1) ∧ w.cell? ⟨b, o + i * 2 + 1, none⟩ = some (.int .i64 y.2) := by
  have hn : 0 < n := by
    have h1 := h.len
    have h2 := ics_len l
    have h3 := lt_at hi
    omega
  obtain ⟨b, o, e, hb, hc⟩ := h.at_ hn
  obtain ⟨h1, h2⟩ := ics_get hi
  exact ⟨b, o, e, hb, hc _ _ h1, by rw [Nat.add_assoc]; exact hc _ _ h2⟩

/-- A key as the map has it. -/
def kL (k : ByteArray) : Lit := .string k.data.toList
theorem kL_inj {a b : ByteArray} (h : kL a = kL b) : a = b := ByteArray.ext (Array.toList_inj.1 (Lit.string.inj h))
theorem kL_same (a b : ByteArray) : (kL a).sameKey (kL b) = decide (a = b) := by
  by_cases h : a = b
  · subst h
    rw [decide_eq_true rfl]
    simp [kL, Lit.sameKey]
  · rw [decide_eq_false h]
    simp only [kL, Lit.sameKey, beq_eq_false_iff_ne]
    exact fun e => h (ByteArray.ext (Array.toList_inj.1 e))
theorem keyed14 : Maps.Keyed Try.prog 9 := Maps.string_keyed Try.underlying9
theorem key14 {k : ByteArray} (h : k.size ≤ maxLen) : keyOf Try.prog 9 (.string k) = some (kL k) := by
  simp [keyOf, Try.underlying9, mapKey, h, kL]
/-- An element is read as it is. -/
def rawE : Value → Option (DataW Value × List MemPlace) := fun v => some (.held v, [])
abbrev nilS : Value := .slice none 0 0
theorem zeroS (w : World) : (zeroValue 62).run Try.prog w = .ok nilS w := Try.zeroValue62 w

/-- Block b is a map: key k's slice is V k, and the row that it owns is G k; n stores at most; rows from block B on, no two in one. -/
structure MapS (w : World) (B b n : Nat) (G : ByteArray → List Iv) (V : ByteArray → Value) : Prop where
  own : ∃ D : DataW Value, w.ownsMap Try.prog 9 rawE b n D ∧ (∀ k : ByteArray, k.size ≤ maxLen → D.atKey (kL k) (.held nilS) = .held (V k)) ∧ ∀ k : ByteArray, k.size ≤ maxLen → Maps.has D (kL k) = !(G k).isEmpty
  row : ∀ k, w.ownsRow B 64 2 (V k) (G k).length (ics (G k))
  two : ∀ k c j, (V k).ownBlock = some j → (V c).ownBlock = some j → k = c
theorem own_map {w w' : World} {b n : Nat} {D : DataW Value} (h : w.ownsMap Try.prog 9 rawE b n D) (hs : w'.heap[b]? = w.heap[b]?) : w'.ownsMap Try.prog 9 rawE b n D := by
  obtain ⟨es, clock, hb, r⟩ := h
  exact ⟨es, clock, hs.trans hb, r⟩
section
variable {w w' : World} {B b n : Nat} {G : ByteArray → List Iv} {V : ByteArray → Value}
theorem MapS.lt (h : MapS w B b n G V) : b < w.heap.size := by
  obtain ⟨D, h1, _⟩ := h.own
  exact h1.lt
theorem MapS.same (h : MapS w B b n G V) (hb : w'.heap[b]? = w.heap[b]?) (hr : ∀ k j, (V k).ownBlock = some j → w'.heap[j]? = w.heap[j]?) : MapS w' B b n G V := by
  obtain ⟨D, h1, h2, h3⟩ := h.own
  exact ⟨⟨D, own_map h1 hb, h2, h3⟩, fun k => own_keep (h.row k) (hr k), h.two⟩
theorem MapS.congr {G' : ByteArray → List Iv} (h : MapS w B b n G V) (e : ∀ k, G k = G' k) : MapS w B b n G' V := by
  rw [← funext e]
  exact h
theorem MapS.base {B' : Nat} (h : MapS w B b n G V) (hB : B' ≤ B) : MapS w B' b n G V := ⟨h.own, fun k => own_base (h.row k) hB, h.two⟩
/-- No row is a map's block. -/
theorem MapS.ne (h : MapS w B b n G V) {k : ByteArray} {j : Nat} (hj : (V k).ownBlock = some j) : j ≠ b := fun e => by
  obtain ⟨D, ⟨es, clock, hb, _⟩, _⟩ := h.own
  rcases (h.row k).2 with ⟨e0, _⟩ | ⟨g2, cap2, cur2, e0, _, hh2, _⟩
  · rw [e0] at hj; simp [Value.ownBlock] at hj
  · rw [e0] at hj
    simp only [Value.ownBlock, Option.some.injEq] at hj
    subst hj
    subst e
    rw [hh2] at hb
    cases hb
theorem MapS.look (h : MapS w B b n G V) {k : ByteArray} (hk : k.size ≤ maxLen) (W : World) (hW : W.heap[b]? = w.heap[b]?) : (Instr.lookup 58 (.map (some b)) (.string k) false).run Try.prog W = .ok (V k) W := by
  obtain ⟨D, h1, h2, _⟩ := h.own
  obtain ⟨v, ps, hr, hv⟩ := (own_map h1 hW).lookup keyed14 Try.underlying58 (zeroS W) (zd := .held nilS) (zp := []) rfl (key14 hk)
  rw [h2 k hk] at hv
  simp only [rawE, Option.some.injEq, Prod.mk.injEq, DataW.held.injEq] at hv
  rw [hr, hv.1]
/-- No key yet. -/
theorem MapS.made (w : World) : MapS (w.alloc (.map #[] 0)) w.heap.size w.heap.size 0 (fun _ => []) (fun _ => nilS) :=
  ⟨⟨_, World.ownsMap_made w Try.prog 9 rawE, fun _ _ => rfl, fun _ _ => rfl⟩, fun _ => World.ownsRow_nil _ _ _ _, fun k c j h => by simp [Value.ownBlock] at h⟩
/-- One span more at a key. -/
def pushG (G : ByteArray → List Iv) (k : ByteArray) (y : Iv) : ByteArray → List Iv := fun c => if c = k then G k ++ [y] else G c
theorem info_span : (Try.prog.info? 64).map (fun i => (i.zero, i.size, i.bytes)) = some (some (.agg #[.int .i64 0, .int .i64 0]), 2, 16) := by kernel_rfl
/-- 'm[k] = append(m[k], y)': the two steps. -/
theorem MapS.push (h : MapS w B b n G V) {k : ByteArray} (hk : k.size ≤ maxLen) (y : Iv) (hn : n ≤ 1000000) (hG : (G k).length ≤ 1000000) (hB : B ≤ w.heap.size) (ad : Addr) (had : ∀ j u, (icell y)[j]? = some u → w.cell? (ad.add j) = some u) (ty : TypeId) :
    ∃ g cap w1 w2 V', (Builtin.append_ #[62, 62] ty #[V k, .slice (some ad) 1 1]).run Try.prog w = .ok (.slice (some ⟨g, 0, none⟩) ((G k).length + 1) cap) w1 ∧
      (Instr.mapUpdate 58 (.map (some b)) (.string k) (.slice (some ⟨g, 0, none⟩) ((G k).length + 1) cap)).run Try.prog w1 = .ok () w2 ∧
      MapS w2 B b (n + 1) (pushG G k y) V' ∧ w.grownBy w1 (V k).ownBlock ∧ w1.grownBy w2 (some b) ∧ (∀ c j, (V' c).ownBlock = some j → (V c).ownBlock = some j ∨ (c = k ∧ j = w.heap.size)) := by
  obtain ⟨i0, hi0, hz0, hz1, hz2⟩ := info_parts info_span
  obtain ⟨g, cap, w1, hr1, ho1, hg1, hat, hlt⟩ := run_append_lies (P := Try.prog) w 62 ty B 64 i0 _ 2 16 Try.underlying62 hi0 hz0 hz1 hz2 rfl (by decide) (V k) (G k).length (ics (G k)) (h.row k) ad 1 1 (icell y) rfl had (icell_one y) (by decide) (by simp only [maxLen]; omega) (by omega) hB w.heap.size rfl
  have hb1 : w1.heap[b]? = w.heap[b]? := hg1.block b h.lt fun e => h.ne e.symm rfl
  obtain ⟨D, h1, h2, h3⟩ := h.own
  obtain ⟨w2, hr2, ho2, ht2⟩ := (own_map h1 hb1).store keyed14 Try.underlying58 (by simp only [maxLen]; omega) (key := .string k) (val := .slice (some ⟨g, 0, none⟩) ((G k).length + 1) cap) (d := .held (.slice (some ⟨g, 0, none⟩) ((G k).length + 1) cap)) (ps := []) (key14 hk) rfl
  have hg2 := ht2.grown
  have hbm : ∀ j : Nat, j < w1.heap.size → j ≠ b → w2.heap[j]? = w1.heap[j]? := fun j hj hne => hg2.block j hj fun e => hne (by cases e; rfl)
  have hgb : g ≠ b := fun e => by
    rcases hat with q | q
    · exact h.ne q e
    · have := h.lt; omega
  -- the other keys' rows
  have hoth : ∀ c : ByteArray, c ≠ k → ∀ j, (V c).ownBlock = some j → w2.heap[j]? = w.heap[j]? := fun c hc j hj => by
    have hj2 := (own_lt (h.row c) hj).2
    have e1 : w1.heap[j]? = w.heap[j]? := hg1.block j hj2 fun e => hc (h.two c k j hj e.symm)
    exact (hbm j (Nat.lt_of_lt_of_le hj2 hg1.size) (h.ne hj)).trans e1
  refine ⟨g, cap, w1, w2, fun c => if c = k then .slice (some ⟨g, 0, none⟩) ((G k).length + 1) cap else V c, hr1, hr2, ⟨⟨_, ho2, fun c hc => ?_, fun c hc => ?_⟩, fun c => ?_, fun c d j hc hd => ?_⟩, hg1, hg2, fun c j hj => ?_⟩
  · by_cases e : c = k
    · subst e
      rw [if_pos rfl, Maps.atKey_put_same (h1.isMap) (by trivial)]
    · rw [if_neg e, Maps.atKey_put_other fun q => e (kL_inj q), h2 c hc]
  · unfold pushG
    by_cases e : c = k
    · subst e
      rw [if_pos rfl, Maps.has_put_same h1.isMap (by trivial)]
      cases G c <;> rfl
    · rw [if_neg e, Maps.has_put_other fun q => e (kL_inj q), h3 c hc]
  · unfold pushG
    by_cases e : c = k
    · subst e
      rw [if_pos rfl, if_pos rfl, List.length_append, ics_app, ics_sing]
      exact own_keep ho1 fun j hj => hbm j (ho1.lt j hj).2 (by simp [Value.ownBlock] at hj; omega)
    · rw [if_neg e, if_neg e]
      exact own_keep (h.row c) (hoth c e)
  · by_cases e : c = k
    · by_cases q : d = k
      · rw [e, q]
      · rw [if_pos e] at hc
        rw [if_neg q] at hd
        simp only [Value.ownBlock, Option.some.injEq] at hc
        subst hc
        rcases hat with z | z
        · exact absurd (h.two d k g hd z) q
        · have := (own_lt (h.row d) hd).2; omega
    · rw [if_neg e] at hc
      by_cases q : d = k
      · rw [if_pos q] at hd
        simp only [Value.ownBlock, Option.some.injEq] at hd
        subst hd
        rcases hat with z | z
        · exact absurd (h.two c k g hc z) e
        · have := (own_lt (h.row c) hc).2; omega
      · rw [if_neg q] at hd
        exact h.two c d j hc hd
  · dsimp only at hj
    by_cases e : c = k
    · rw [if_pos e] at hj
      simp only [Value.ownBlock, Option.some.injEq] at hj
      subst hj
      rcases hat with z | z
      · exact Or.inl (by rw [e]; exact z)
      · exact Or.inr ⟨e, z⟩
    · rw [if_neg e] at hj
      exact Or.inl hj
end

/-- The program's spans: block g is the struct, b its map; all that they stand in is F. -/
def Sk (w : World) (F : Nat → Prop) (g : Nat) (L : List Sp) (last : Int) : Prop :=
  ∃ b V, (∀ j, F j ↔ j = g ∨ j = b ∨ ∃ k, (V k).ownBlock = some j) ∧ Rk w g #[.map (some b), .int .i64 last] 60 ∧ MapS w 0 b L.length (ofK L) V ∧ ∀ x ∈ L, x.1.size ≤ 40
theorem Sk.lt {w : World} {F : Nat → Prop} {g : Nat} {L : List Sp} {last : Int} (h : Sk w F g L last) : ∀ b, F b → b < w.heap.size := by
  obtain ⟨b, V, h1, h2, h3, _⟩ := h
  intro j hj
  rcases (h1 j).1 hj with rfl | rfl | ⟨k, hk⟩
  · exact h2.lt
  · exact h3.lt
  · exact (own_lt (h3.row k) hk).2
theorem Sk.keep {w w' : World} {F : Nat → Prop} {g : Nat} {L : List Sp} {last : Int} (h : Sk w F g L last) (hk : ∀ b, F b → w'.heap[b]? = w.heap[b]?) : Sk w' F g L last := by
  obtain ⟨b, V, h1, h2, h3, h4⟩ := h
  exact ⟨b, V, h1, h2.same (hk g ((h1 g).2 (.inl rfl))), h3.same (hk b ((h1 b).2 (.inr (.inl rfl)))) fun k j hj => hk j ((h1 j).2 (.inr (.inr ⟨k, hj⟩))), h4⟩

/-- Only F's blocks changed. -/
structure OnlyF (F : Nat → Prop) (w w' : World) : Prop where
  os : w'.os = w.os
  tape : w'.tape = w.tape
  output : w'.output = w.output
  le : w.heap.size ≤ w'.heap.size
  old : ∀ b, b < w.heap.size → ¬ F b → w'.heap[b]? = w.heap[b]?
theorem OnlyF.refl (F : Nat → Prop) (w : World) : OnlyF F w w := ⟨rfl, rfl, rfl, Nat.le_refl _, fun _ _ _ => rfl⟩
theorem OnlyF.grown {F : Nat → Prop} {w w1 w2 : World} {row : Option Nat} (h : OnlyF F w w1) (hg : w1.grownBy w2 row) (hr : ∀ r, row = some r → F r ∨ w.heap.size ≤ r) : OnlyF F w w2 :=
  ⟨hg.os.trans h.os, hg.tape.trans h.tape, hg.output.trans h.output, Nat.le_trans h.le hg.size, fun b hb hF => (hg.block b (Nat.lt_of_lt_of_le hb h.le) fun e => by
    rcases hr b e.symm with q | q
    · exact hF q
    · omega).trans (h.old b hb hF)⟩
theorem OnlyF.below {F : Nat → Prop} {w w1 w2 : World} (h : OnlyF F w w1) (hb : Below w1.heap.size w1 w2) : OnlyF F w w2 :=
  h.grown (row := none) ⟨hb.os, hb.tape, hb.output, hb.size, fun k hk _ => hb.block k hk⟩ fun r e => by cases e
theorem OnlyF.drew {F : Nat → Prop} {w w1 : World} (h : OnlyF F w w1) : OnlyF F w w1.drew := ⟨h.os, h.tape, h.output, h.le, h.old⟩
theorem OnlyF.set {F : Nat → Prop} {w w1 : World} (h : OnlyF F w w1) {a : Addr} (ha : F a.block ∨ w.heap.size ≤ a.block) (v : Value) : OnlyF F w (w1.setCell a v) :=
  ⟨h.os, h.tape, h.output, by simpa [World.setCell] using h.le, fun b hb hF => (Below.heap_setCell _ _ _ _ fun e => by
    rcases ha with q | q
    · exact hF (e ▸ q)
    · omega).trans (h.old b hb hF)⟩
theorem OnlyF.own {F F' : Nat → Prop} {w w' : World} (h : OnlyF F w w') (hF : ∀ b, F' b → F b ∨ w.heap.size ≤ b) : Own14 F F' w w' :=
  ⟨h.le, h.old, hF, fun B hB hB2 => ⟨h.os, h.tape, h.output, h.le, fun k hk => h.old k (Nat.lt_of_lt_of_le hk hB) fun q => by have := hB2 k q; omega⟩⟩
end Go.Proofs.Ytmdhollegemlhaa
