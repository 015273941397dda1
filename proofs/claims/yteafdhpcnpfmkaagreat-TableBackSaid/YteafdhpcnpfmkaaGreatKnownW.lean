/- Layer 10: who may stand in a relation's tuples: relations' members, and what objects' relations are next. Conditions: lists shorter than a hundred thousand. -/
import Derived.BigQuiet
import Derived.Deep.QuietTactic
import Derived.Deep.Cut
import Derived.Test.YteafdhpcnpfmkaaGreatKeyW
import Derived.Test.YteafdhpcnpfmkaaGreatEdgeP
import Derived.Test.YteafdhpcnpfmkaaGreatSchW
namespace Go.Proofs.YteafdhpcnpfmkaaGreat
open Go.RowKit

def acells (l : List Path) : List Value := l.flatMap aSub
theorem acells_app (a b : List Path) : acells (a ++ b) = acells a ++ acells b := List.flatMap_append
theorem acells_one (l : List Path) : ∀ u ∈ acells l, u.oneCell' = true := by
  intro u hu
  obtain ⟨s, _, hs⟩ := List.mem_flatMap.1 hu
  simp only [aSub, List.mem_cons, List.not_mem_nil, or_false] at hs
  rcases hs with rfl | rfl <;> rfl
theorem acells_at {w : World} {B c n : Nat} {A : Option Addr} {l : List Path} (h : Rd w B 2 A n c (acells l)) {i : Nat} {s : Path} (hi : l[i]? = some s) (hn : n = l.length) :
    ∃ b o, A = some ⟨b, o, none⟩ ∧ b < B ∧ w.cell? ⟨b, o + i * 2, none⟩ = some (.string s.1) ∧ w.cell? ⟨b, o + i * 2 + 1, none⟩ = some (.string s.2) := by
  subst hn
  obtain ⟨b, o, e, hb, hc⟩ := h.at_ (lt_get hi)
  have g := fun k (hk : k < 2) => flat_get aSub (sz := 2) (fun _ => rfl) hi (k := k) hk
  exact ⟨b, o, e, hb, hc _ _ (g 0 (by omega)), by rw [Nat.add_assoc]; exact hc _ _ (g 1 (by omega))⟩
theorem empty_is (x : ByteArray) : x.toList.isEmpty = decide (x = ⟨#[]⟩) := by
  have : x.toList.isEmpty = (x.toList == (⟨#[]⟩ : ByteArray).toList) := by
    have e : (⟨#[]⟩ : ByteArray).toList = [] := by decide +kernel
    rw [e]
    cases x.toList <;> rfl
  rw [this]
  exact toList_inj
theorem setsP_snoc {l : List Path} {i : Nat} {s : Path} (h : l[i]? = some s) : setsP (l.take (i + 1)) = setsP (l.take i) ++ if s.2 = ⟨#[]⟩ then [] else [s] := by
  unfold setsP
  rw [List.take_add_one, h, Option.toList_some, List.filter_append]
  by_cases e : s.2 = ⟨#[]⟩ <;> simp [e]
theorem nextsP_snoc {l : List Path} {n : ByteArray} {i : Nat} {s : Path} (h : l[i]? = some s) : nextsP (l.take (i + 1)) n = nextsP (l.take i) n ++ if s.2 = ⟨#[]⟩ then [(s.1, n)] else [] := by
  unfold nextsP
  rw [List.take_add_one, h, Option.toList_some, List.filter_append, List.map_append]
  by_cases e : s.2 = ⟨#[]⟩ <;> simp [e]
theorem setsP_le (l : List Path) (i : Nat) : (setsP (l.take i)).length ≤ i := Nat.le_trans (List.length_filter_le _ _) (by rw [List.length_take]; omega)
theorem nextsP_le (l : List Path) (n : ByteArray) (i : Nat) : (nextsP (l.take i) n).length ≤ i := by
  unfold nextsP
  rw [List.length_map]
  exact Nat.le_trans (List.length_filter_le _ _) (by rw [List.length_take]; omega)

set_option maxRecDepth 100000 in
set_option maxHeartbeats 1000000 in
theorem sets_any {w : World} {As : Option Addr} {cs : Nat} {l : List Path} {nm vi ed ch : ByteArray} {vo : Value} (hvo : ∃ Ao no co, vo = .slice Ao no co) (h : Rd w w.heap.size 2 As l.length cs (acells l)) (hl : l.length ≤ 100000) :
    Calls Tryz.prog 96 #[.agg #[.string nm, .string vi, .string ed, .string ch, .slice As l.length cs, vo]] w fun e w' => (∃ A' c', e = .returned (.slice A' (setsP l).length c') ∧ w'.ownsRow w.heap.size 104 2 (.slice A' (setsP l).length c') (setsP l).length (acells (setsP l))) ∧ Below w.heap.size w w' := by
  obtain ⟨Ao, no, co, rfl⟩ := hvo
  obtain ⟨i0, hi0, hz0, hz1, hz2⟩ := info_parts info_sub
  go_enter Tryz.func96, Tryz.ntmps96
  go_wp2_with fail
  have hb0 : Below w.heap.size w (w.alloc (.cells #[.string nm, .string vi, .string ed, .string ch, .slice As l.length cs, .slice Ao no co] 115)) := (Below.refl _ w).alloc (Nat.le_refl _) _
  generalize w.alloc (.cells #[.string nm, .string vi, .string ed, .string ch, .slice As l.length cs, .slice Ao no co] 115) = w0 at *
  go_loopw [3, 9] (fun v vi wx => ∃ j : Nat, vi = .int .i64 j ∧ j ≤ l.length ∧ wx.ownsRow w.heap.size 104 2 v (setsP (l.take j)).length (acells (setsP (l.take j))) ∧ Below w.heap.size w wx) (fun _ vi _ => l.length - (intOf vi).toNat)
  case atStart => exact ⟨0, rfl, Nat.zero_le _, World.ownsRow_nil _ _ _ _, hb0⟩
  case round =>
    obtain ⟨j, rfl, hj, hO, hbx⟩ := hrel
    by_cases hjl : j < l.length
    · have hdj : (j : Int) < (l.length : Int) := by omega
      obtain ⟨s, hs⟩ : ∃ s, l[j]? = some s := ⟨_, List.getElem?_eq_getElem hjl⟩
      obtain ⟨b, o, rfl, hb, c0, c1⟩ := acells_at (h.below hbx) hs rfl
      have hle := setsP_le l j
      have hsn := Lib.hid (setsP_snoc hs)
      obtain ⟨A3, c3, rfl, _⟩ := Rd.own hO
      have hws := hbx.size
      have hO1 := hO.alloc (.cells #[.string s.1, .string s.2] 104)
      have hb1 := hbx.alloc hws (.cells #[.string s.1, .string s.2] 104)
      have x1 := Bk.new wr #[.string s.1, .string s.2] 104
      go_upto_region 5 with (fail)
      have y0 := x1.cell 0
      have y1 := x1.cell 1
      clear c0 c1 x1 hO hbx
      generalize wr.alloc (.cells #[.string s.1, .string s.2] 104) = w1 at *
      have hq := empty_is s.2
      cases he : decide (s.2 = (⟨#[]⟩ : ByteArray)) with
      | true =>
        rw [he] at hq
        go_wp2_with fail
        have he' := of_decide_eq_true he
        refine ⟨⟨j + 1, by go_num, by omega, ?_, hb1⟩, by simp [intOf]; omega⟩
        rw [hsn.out, if_pos he', List.append_nil]
        exact hO1
      | false =>
        rw [he] at hq
        go_wp2_with (at_builtin; go_loud (refine wpList_append_src _ rfl (.tmp 16) (.tmp 18) 98 98 rfl w.heap.size 104 i0 (.agg #[.string .empty, .string .empty]) 2 32 Tryz.underlying98 hi0 hz0 hz1 hz2 rfl (by decide) (.slice A3 (setsP (l.take j)).length c3) (setsP (l.take j)).length (acells (setsP (l.take j))) rfl (hO1.alloc _) _ 1 [.string s.1, .string s.2] rfl (Src.ofSlice _ Tryz.underlying98 _ 1 1 _ rfl (cells_new2 _ _ _ _) (scell_one s)) (by simp only [maxLen]; omega) (by omega) (size_alloc hb1.size) ?_; intro v9 w8 hown8 hg8 hat8))
        have he' := of_decide_eq_false he
        refine ⟨⟨j + 1, by go_num, by omega, ?_, below_of_own (hb1.alloc hb1.size _) hg8 (hO1.alloc _) (size_alloc hb1.size) (Nat.le_refl _)⟩, by simp [intOf]; omega⟩
        rw [hsn.out, if_neg he', List.length_append, acells_app]
        exact hown8
    · obtain rfl : j = l.length := by omega
      have hdj : ¬ (((l.length : Nat) : Int) < (l.length : Int)) := by omega
      rw [List.take_length] at hO
      obtain ⟨A3, c3, rfl, hR⟩ := Rd.own hO
      go_wp2_with fail
      go_ret
      exact ⟨⟨A3, c3, rfl, hO⟩, hbx⟩

set_option maxRecDepth 100000 in
set_option maxHeartbeats 1000000 in
theorem nexts_any {w : World} {As : Option Addr} {cs : Nat} {l : List Path} {nm vi ed ch : ByteArray} {vo : Value} (n : ByteArray) (hvo : ∃ Ao no co, vo = .slice Ao no co) (h : Rd w w.heap.size 2 As l.length cs (acells l)) (hl : l.length ≤ 100000) :
    Calls Tryz.prog 97 #[.agg #[.string nm, .string vi, .string ed, .string ch, .slice As l.length cs, vo], .string n] w fun e w' => (∃ A' c', e = .returned (.slice A' (nextsP l n).length c') ∧ w'.ownsRow w.heap.size 104 2 (.slice A' (nextsP l n).length c') (nextsP l n).length (acells (nextsP l n))) ∧ Below w.heap.size w w' := by
  obtain ⟨Ao, no, co, rfl⟩ := hvo
  obtain ⟨i0, hi0, hz0, hz1, hz2⟩ := info_parts info_sub
  go_enter Tryz.func97, Tryz.ntmps97
  go_wp2_with fail
  have hb0 : Below w.heap.size w (w.alloc (.cells #[.string nm, .string vi, .string ed, .string ch, .slice As l.length cs, .slice Ao no co] 115)) := (Below.refl _ w).alloc (Nat.le_refl _) _
  generalize w.alloc (.cells #[.string nm, .string vi, .string ed, .string ch, .slice As l.length cs, .slice Ao no co] 115) = w0 at *
  go_loopw [5, 11] (fun v vi wx => ∃ j : Nat, vi = .int .i64 j ∧ j ≤ l.length ∧ wx.ownsRow w.heap.size 104 2 v (nextsP (l.take j) n).length (acells (nextsP (l.take j) n)) ∧ Below w.heap.size w wx) (fun _ vi _ => l.length - (intOf vi).toNat)
  case atStart => exact ⟨0, rfl, Nat.zero_le _, World.ownsRow_nil _ _ _ _, hb0⟩
  case round =>
    obtain ⟨j, rfl, hj, hO, hbx⟩ := hrel
    by_cases hjl : j < l.length
    · have hdj : (j : Int) < (l.length : Int) := by omega
      obtain ⟨s, hs⟩ : ∃ s, l[j]? = some s := ⟨_, List.getElem?_eq_getElem hjl⟩
      obtain ⟨b, o, rfl, hb, c0, c1⟩ := acells_at (h.below hbx) hs rfl
      have hle := nextsP_le l n j
      have hsn := Lib.hid (nextsP_snoc (n := n) hs)
      obtain ⟨A3, c3, rfl, _⟩ := Rd.own hO
      have hws := hbx.size
      have hO1 := hO.alloc (.cells #[.string s.1, .string s.2] 104)
      have hb1 := hbx.alloc hws (.cells #[.string s.1, .string s.2] 104)
      have x1 := Bk.new wr #[.string s.1, .string s.2] 104
      go_upto_region 5 with (fail)
      have y0 := x1.cell 0
      have y1 := x1.cell 1
      clear c0 c1 x1 hO hbx
      generalize wr.alloc (.cells #[.string s.1, .string s.2] 104) = w1 at *
      have hq := empty_is s.2
      cases he : decide (s.2 = (⟨#[]⟩ : ByteArray)) with
      | false =>
        rw [he] at hq
        go_wp2_with fail
        have he' := of_decide_eq_false he
        refine ⟨⟨j + 1, by go_num, by omega, ?_, hb1⟩, by simp [intOf]; omega⟩
        rw [hsn.out, if_neg he', List.append_nil]
        exact hO1
      | true =>
        rw [he] at hq
        go_wp2_with (at_builtin; go_loud (refine wpList_append_src _ rfl (.tmp 18) (.tmp 23) 98 98 rfl w.heap.size 104 i0 (.agg #[.string .empty, .string .empty]) 2 32 Tryz.underlying98 hi0 hz0 hz1 hz2 rfl (by decide) (.slice A3 (nextsP (l.take j) n).length c3) (nextsP (l.take j) n).length (acells (nextsP (l.take j) n)) rfl (hO1.alloc _) _ 1 [.string s.1, .string n] rfl (Src.ofSlice _ Tryz.underlying98 _ 1 1 _ rfl (cells_new2 _ _ _ _) (scell_one (s.1, n))) (by simp only [maxLen]; omega) (by omega) (size_alloc hb1.size) ?_; intro v9 w8 hown8 hg8 hat8))
        have he' := of_decide_eq_true he
        refine ⟨⟨j + 1, by go_num, by omega, ?_, below_of_own (hb1.alloc hb1.size _) hg8 (hO1.alloc _) (size_alloc hb1.size) (Nat.le_refl _)⟩, by simp [intOf]; omega⟩
        rw [hsn.out, if_pos he', List.length_append, acells_app]
        exact hown8
    · obtain rfl : j = l.length := by omega
      have hdj : ¬ (((l.length : Nat) : Int) < (l.length : Int)) := by omega
      rw [List.take_length] at hO
      obtain ⟨A3, c3, rfl, hR⟩ := Rd.own hO
      go_wp2_with fail
      go_ret
      exact ⟨⟨A3, c3, rfl, hO⟩, hbx⟩
end Go.Proofs.YteafdhpcnpfmkaaGreat
/- Layer 10: a schema's relations by their numbers, and their numbers by their paths. Conditions: no more than a hundred thousand relations. -/
namespace Go.Proofs.YteafdhpcnpfmkaaGreat
open Go.RowKit Go.Maps

/-- Numbers of paths as a map's datum. -/
def numsD (ps : List Path) : DataW Unit := ps.zipIdx.foldl (fun D p => D.put (kS p.1) (.lit (.int .i64 (p.2 : Int)))) (.map [])
theorem numsD_snoc (ps : List Path) (p : Path) : numsD (ps ++ [p]) = (numsD ps).put (kS p) (.lit (.int .i64 (ps.length : Int))) := by
  unfold numsD
  rw [List.zipIdx_append, List.foldl_append]
  simp
def SmP (p : Path) : Prop := p.1.size ≤ maxLen ∧ p.2.size ≤ maxLen
theorem kS_lit {p : Path} (h : SmP p) : WideAt.IsKeyLit (kS p) := keyedS.key (key_sub h.1 h.2)
theorem numsD_isMap (ps : List Path) : IsMap (numsD ps) := by
  suffices H : ∀ (l : List (Path × Nat)) (D : DataW Unit), IsMap D → IsMap (l.foldl (fun D p => D.put (kS p.1) (.lit (.int .i64 (p.2 : Int)))) D) from H _ _ isMap_empty
  intro l
  induction l with
  | nil => intro D h; exact h
  | cons a t ih => intro D h; exact ih _ (h.put _ _)
theorem numsD_look {ps : List Path} (hs : ∀ p ∈ ps, SmP p) {q : Path} (hq : SmP q) : Maps.has (numsD ps) (kS q) = (lastIx ps q).isSome ∧ ∀ z, (numsD ps).atKey (kS q) z = match lastIx ps q with | some i => .lit (.int .i64 (i : Int)) | none => z := by
  suffices H : ∀ n (ps : List Path), ps.length = n → (∀ p ∈ ps, SmP p) → Maps.has (numsD ps) (kS q) = (lastIx ps q).isSome ∧ ∀ z, (numsD ps).atKey (kS q) z = match lastIx ps q with | some i => .lit (.int .i64 (i : Int)) | none => z from H _ ps rfl hs
  intro n
  induction n with
  | zero =>
    intro ps hn _
    rw [List.eq_nil_of_length_eq_zero hn]
    exact ⟨rfl, fun z => rfl⟩
  | succ n ih =>
    intro ps hn hs
    rcases List.eq_nil_or_concat ps with rfl | ⟨ps', p, rfl⟩
    · simp at hn
    · rw [List.concat_eq_append] at *
      have hp := hs p (by simp)
      obtain ⟨h1, h2⟩ := ih ps' (by simpa using hn) fun x hx => hs x (by simp [hx])
      rw [numsD_snoc, lastIx_snoc]
      by_cases e : p = q
      · subst e
        rw [if_pos rfl, has_put_same (numsD_isMap _) (kS_lit hp)]
        exact ⟨rfl, fun z => atKey_put_same (numsD_isMap _) (kS_lit hp) _ z⟩
      · have hne : kS q ≠ kS p := fun e' => e (kS_inj hp.1 hp.2 hq.1 hq.2 e'.symm)
        rw [if_neg e, has_put_other hne]
        exact ⟨h1, fun z => (atKey_put_other hne _ z).trans (h2 z)⟩

/-- The map of all numbers. -/
def MapS (w : World) (b : Nat) (ps : List Path) : Prop := w.ownsMap Tryz.prog 104 (plainElem Tryz.prog 3) b ps.length (numsD ps) ∧ ∀ p ∈ ps, SmP p
theorem MapS.same {w w' : World} {b : Nat} {ps : List Path} (h : MapS w b ps) (hb : w'.heap[b]? = w.heap[b]?) : MapS w' b ps := by
  obtain ⟨⟨es, clock, h1, h2⟩, h3⟩ := h
  exact ⟨⟨es, clock, hb.trans h1, h2⟩, h3⟩
theorem MapS.lt {w : World} {b : Nat} {ps : List Path} (h : MapS w b ps) : b < w.heap.size := h.1.lt
theorem MapS.below {w w' : World} {b : Nat} {ps : List Path} (h : MapS w b ps) (hb : Below w.heap.size w w') : MapS w' b ps := h.same (hb.block b h.lt)

def relsA (l : List TypA) : List (TypA × RelA) := l.flatMap fun t => t.rels.map fun r => (t, r)
def pathsA (k : List (TypA × RelA)) : List Path := k.map fun x => (x.1.name, x.2.name)
def rcells (k : List (TypA × RelA)) : List Value := k.flatMap fun x => x.2.cells
theorem rcells_app (a b : List (TypA × RelA)) : rcells (a ++ b) = rcells a ++ rcells b := List.flatMap_append
theorem relsA_snoc {l : List TypA} {i : Nat} {t : TypA} (h : l[i]? = some t) : relsA (l.take (i + 1)) = relsA (l.take i) ++ t.rels.map fun r => (t, r) := by
  unfold relsA
  rw [List.take_add_one, h, Option.toList_some, List.flatMap_append, List.flatMap_singleton]
theorem relsA_le {l : List TypA} (i : Nat) : (relsA (l.take i)).length ≤ (relsA l).length := by
  conv => rhs; rw [← List.take_append_drop i l]
  unfold relsA
  rw [List.flatMap_append, List.length_append]
  omega

/-- What is known so far. -/
structure KI (w wx : World) (done : List (TypA × RelA)) : Prop where
  one : ∃ v, Bk wx (w.heap.size + 1 + 1 + 1) #[v, .map (some (w.heap.size + 1 + 1))] 127 ∧ wx.ownsRow (w.heap.size + 4) 115 6 v done.length (rcells done)
  map : MapS wx (w.heap.size + 1 + 1) (pathsA done)
  res : Bk wx (w.heap.size + 1) #[.slice none 0 0, .map none] 127
  below : Below w.heap.size w wx
theorem KI.alloc {w wx : World} {done : List (TypA × RelA)} (h : KI w wx done) (o : Obj) : KI w (wx.alloc o) done := by
  obtain ⟨⟨v, h1, h2⟩, h3, h4, h5⟩ := h
  exact ⟨⟨v, h1.alloc o, h2.alloc o⟩, h3.below ((Below.refl _ wx).alloc (Nat.le_refl _) o), h4.alloc o, h5.alloc h5.size o⟩
theorem rel_cells_one (x : RelA) : ∀ u ∈ x.cells, u.oneCell' = true := rcell_one _ _ _ _ _ _ _ _ _ _
theorem wf_nat {n : Nat} (h : n ≤ 100000) : (Lit.int .i64 (n : Int)).wf = true := WalkArith.wf_i64 (by omega)

set_option maxRecDepth 100000 in
set_option maxHeartbeats 2000000 in
theorem knownOf_any {w : World} {R c : Nat} {A : Option Addr} {l : List TypA} (h : SchA w R A c l) (hR : R ≤ 140737488351232) (hl : (relsA l).length ≤ 100000) :
    Calls Tryz.prog 54 #[.agg #[.slice A l.length c]] w fun e w' => (∃ A' c' b, e = .returned (.agg #[.slice A' (relsA l).length c', .map (some b)]) ∧ w.heap.size ≤ b ∧
      w'.ownsRow w.heap.size 115 6 (.slice A' (relsA l).length c') (relsA l).length (rcells (relsA l)) ∧ MapS w' b (pathsA (relsA l))) ∧ Below w.heap.size w w' := by
  have hmm := @run_makeMap Tryz.prog
  have hll : (l.length : Int) ≤ 9223372036854775807 := by have := h.rows.cap; have := h.rows.capm; simp only [maxLen] at this; omega
  obtain ⟨i0, hi0, hz0, hz1, hz2⟩ := info_parts info_rel
  go_enter Tryz.func54, Tryz.ntmps54
  go_wp2_with fail
  have d0 := ((Bk.new w #[.slice A l.length c] 70).alloc (.cells #[.slice none 0 0, .map none] 127)).alloc (.map #[] 0) |>.alloc (.cells #[.slice none 0 0, .map (some (w.heap.size + 1 + 1))] 127)
  have d1 := ((Bk.new (w.alloc (.cells #[.slice A l.length c] 70)) #[.slice none 0 0, .map none] 127).alloc (.map #[] 0)).alloc (.cells #[.slice none 0 0, .map (some (w.heap.size + 1 + 1))] 127)
  have d2 : MapS (((w.alloc (.cells #[.slice A l.length c] 70)).alloc (.cells #[.slice none 0 0, .map none] 127)).alloc (.map #[] 0)) ((w.alloc (.cells #[.slice A l.length c] 70)).alloc (.cells #[.slice none 0 0, .map none] 127)).heap.size (pathsA []) := ⟨World.ownsMap_made _ _ _ _, fun p hp => by cases hp⟩
  have d3 := Bk.new (((w.alloc (.cells #[.slice A l.length c] 70)).alloc (.cells #[.slice none 0 0, .map none] 127)).alloc (.map #[] 0)) #[.slice none 0 0, .map (some (w.heap.size + 1 + 1))] 127
  replace d2 := d2.below ((Below.refl _ _).alloc (Nat.le_refl _) (.cells #[.slice none 0 0, .map (some (w.heap.size + 1 + 1))] 127))
  simp only [World.size_alloc] at d1 d2 d3
  have hB0 : Below w.heap.size w ((((w.alloc (.cells #[.slice A l.length c] 70)).alloc (.cells #[.slice none 0 0, .map none] 127)).alloc (.map #[] 0)).alloc (.cells #[.slice none 0 0, .map (some (w.heap.size + 1 + 1))] 127)) := ((((Below.refl _ w).alloc (Nat.le_refl _) _).alloc (by simp) _).alloc (by simp; omega) _).alloc (by simp; omega) _
  generalize (((w.alloc (.cells #[.slice A l.length c] 70)).alloc (.cells #[.slice none 0 0, .map none] 127)).alloc (.map #[] 0)).alloc (.cells #[.slice none 0 0, .map (some (w.heap.size + 1 + 1))] 127) = w0 at *
  have hK0 : KI w w0 (relsA (l.take 0)) := ⟨⟨_, d3, World.ownsRow_nil _ _ _ _⟩, d2, d1, hB0⟩
  clear hmm d0 d1 d2 d3 hB0
  go_loopw [13] (fun vi wx => ∃ i : Nat, vi = .int .i64 i ∧ i ≤ l.length ∧ KI w wx (relsA (l.take i))) (fun vi _ => l.length - (intOf vi).toNat)
  case atStart => exact ⟨0, rfl, Nat.zero_le _, hK0⟩
  case round =>
    obtain ⟨i, rfl, hi, hK⟩ := hrel
    by_cases hil : i < l.length
    · have hdi : (i : Int) < (l.length : Int) := by omega
      obtain ⟨t, ht⟩ : ∃ t, l[i]? = some t := ⟨_, List.getElem?_eq_getElem hil⟩
      obtain ⟨b, o, rfl, t0, t1, htok⟩ := h.get ht
      replace t0 := cell_unde t0 hK.below
      replace t1 := cell_unde t1 hK.below
      have hrs := htok.rels
      have htl : (t.rels.length : Int) ≤ 9223372036854775807 := by have := hrs.cap; have := hrs.capm; simp only [maxLen] at this; omega
      have hsn := relsA_snoc ht
      have hle := relsA_le (l := l) (i + 1)
      rw [hsn, List.length_append, List.length_map] at hle
      have hK1 := hK.alloc (.cells #[.string t.name, .slice t.A t.rels.length t.c] 112)
      have x1 := Bk.new wr #[.string t.name, .slice t.A t.rels.length t.c] 112
      have hwl := hK.below.size
      have hwl4 : w.heap.size + 4 ≤ wr.heap.size := by obtain ⟨v, q, _⟩ := hK.one; have := q.lt; omega
      go_upto_region 5 with (fail)
      clear t0 t1
      generalize hq5 : wr.heap.size = q5 at *
      generalize wr.alloc (.cells #[.string t.name, .slice t.A t.rels.length t.c] 112) = w1 at *
      have y0 := x1.cell 0
      have y1 := x1.cell 1
      go_wp2_with fail
      go_loopw [20] (fun vi wx => ∃ j : Nat, vi = .int .i64 j ∧ j ≤ t.rels.length ∧ KI w wx (relsA (l.take i) ++ (t.rels.take j).map fun r => (t, r)) ∧ Bk wx q5 #[.string t.name, .slice t.A t.rels.length t.c] 112) (fun vi _ => t.rels.length - (intOf vi).toNat)
      case atStart => exact ⟨0, rfl, Nat.zero_le _, by simpa using hK1, x1⟩
      case round =>
        obtain ⟨j, rfl, hj, hKj, hX5⟩ := hrel
        by_cases hjl : j < t.rels.length
        · have hdj : (j : Int) < (t.rels.length : Int) := by omega
          obtain ⟨x, hx⟩ : ∃ x, t.rels[j]? = some x := ⟨_, List.getElem?_eq_getElem hjl⟩
          obtain ⟨g, k, e5, g0, g1, g2, g3, g4, g5, hxok⟩ := (htok.up hKj.below).get hx
          have htn := htok.name
          have hxn := hxok.name
          obtain ⟨dn, hdn⟩ : ∃ dn, relsA (l.take i) ++ (t.rels.take j).map (fun r => (t, r)) = dn := ⟨_, rfl⟩
          have hdl : dn.length ≤ 99999 := by rw [← hdn, List.length_append, List.length_map, List.length_take]; omega
          have hnx : Hid (relsA (l.take i) ++ (t.rels.take (j + 1)).map (fun r => (t, r)) = dn ++ [(t, x)]) := Lib.hid (by rw [List.take_add_one, hx, Option.toList_some, List.map_append, ← List.append_assoc, hdn]; rfl)
          rw [hdn] at hKj
          have hdn := Lib.hid hdn
          have hwl2 : w.heap.size + 4 ≤ wr.heap.size := by obtain ⟨v, q, _⟩ := hKj.one; have := q.lt; omega
          have hK2 := hKj.alloc (.cells x.cells.toArray 115)
          have hX52 := hX5.alloc (.cells x.cells.toArray 115)
          have x7 := Bk.new wr x.cells.toArray 115
          have hq7 : wr.heap.size < (wr.alloc (.cells x.cells.toArray 115)).heap.size := by simp
          have hq5l := hX5.lt
          have hxc : x.cells.toArray = #[.string x.name, .string x.view, .string x.edit, .string x.check, .slice x.As x.subs.length x.cs, .slice x.Ao x.ops.length x.co] := rfl
          rw [hxc] at hK2 hX52 x7 hq7
          rw [e5] at *
          go_upto_region 8 with (fail)
          clear g0 g1 g2 g3 g4 g5 hKj hX5
          generalize hq7e : wr.heap.size = q7 at *
          generalize wr.alloc (.cells #[.string x.name, .string x.view, .string x.edit, .string x.check, .slice x.As x.subs.length x.cs, .slice x.Ao x.ops.length x.co] 115) = w2 at *
          obtain ⟨v, hk1, hk2⟩ := hK2.one
          obtain ⟨A3, c3, rfl, hR3⟩ := Rd.own hk2
          have z0 := hk1.cell 0
          have z1 := hk1.cell 1
          have z5 := hX52.cell 0
          have z7 := x7.cell 0
          have hmap := hK2.map
          have hkey : keyOf Tryz.prog 104 (.agg #[.string t.name, .string x.name]) = some (kS (t.name, x.name)) := key_sub (s := (t.name, x.name)) (by simp only [maxLen]; omega) (by simp only [maxLen]; omega)
          have hpl : (pathsA dn).length = dn.length := by simp [pathsA]
          have hm1 := hmap.1
          rw [hpl] at hm1
          have hmb := hmap.lt
          go_upto_region 9 with (at_mapUpdate; refine wpList_mapUpdate_own _ rfl _ _ _ 125 rfl 104 3 keyedS Tryz.underlying125 _ (w.heap.size + 1 + 1) dn.length _ rfl hm1 (by unfold maxLen; omega) _ _ _ rfl rfl hkey _ [] (plainElem_int Tryz.underlying3 (wf_nat (by omega))) ?_; intro w3 hm3 hg3)
          have o3 : ∀ g', g' < w2.heap.size → g' ≠ w.heap.size + 1 + 1 → w3.heap[g']? = w2.heap[g']? := fun g' h1 h2 => hg3.block g' h1 fun e' => h2 (Option.some.inj e')
          have k3 : Bk w3 (w.heap.size + 1 + 1 + 1) _ _ := (o3 _ hk1.lt (by omega)).trans hk1
          have own3 : w3.ownsRow (w.heap.size + 4) 115 6 (.slice A3 dn.length c3) dn.length (rcells dn) := own_same hk2 fun g' h1 => o3 g' (hk2.lt g' h1).2 (by have := (hk2.lt g' h1).1; omega)
          have res3 : Bk w3 (w.heap.size + 1) _ _ := (o3 _ hK2.res.lt (by omega)).trans hK2.res
          have x53 : Bk w3 q5 _ _ := (o3 _ hX52.lt (by omega)).trans hX52
          have x73 : Bk w3 q7 _ _ := (o3 _ hq7 (by omega)).trans x7
          have bl3 : Below w.heap.size w w3 := hK2.below.grown hg3 hK2.below.size fun r e' => by cases e'; omega
          have hpn : pathsA (dn ++ [(t, x)]) = pathsA dn ++ [(t.name, x.name)] := by simp [pathsA]
          have hm4 : MapS w3 (w.heap.size + 1 + 1) (pathsA (dn ++ [(t, x)])) := by
            refine ⟨?_, fun q hq => ?_⟩
            · rw [hpn, numsD_snoc, hpl, List.length_append, hpl]
              exact hm3
            · rw [hpn, List.mem_append, List.mem_singleton] at hq
              rcases hq with hq | rfl
              · exact hmap.2 q hq
              · exact ⟨by simp only [maxLen]; omega, by simp only [maxLen]; omega⟩
          clear hm3 hmap hm1 hK2 hk1 hk2 hX52 x7 z0 z1 z5 z7 hg3 o3
          have z0 := k3.cell 0
          have zf := k3.fz 0
          obtain ⟨s0, s1, s2, s3, s4, s5⟩ : w3.cell? ⟨q7, 0, none⟩ = some (.string x.name) ∧ w3.cell? ⟨q7, 1, none⟩ = some (.string x.view) ∧ w3.cell? ⟨q7, 2, none⟩ = some (.string x.edit) ∧ w3.cell? ⟨q7, 3, none⟩ = some (.string x.check) ∧ w3.cell? ⟨q7, 4, none⟩ = some (.slice x.As x.subs.length x.cs) ∧ w3.cell? ⟨q7, 5, none⟩ = some (.slice x.Ao x.ops.length x.co) := ⟨x73.cell 0, x73.cell 1, x73.cell 2, x73.cell 3, x73.cell 4, x73.cell 5⟩
          have hk3l := k3.lt
          go_wp2_with (at_builtin; go_loud (refine wpList_append_src _ rfl (.tmp 35) (.tmp 37) 110 110 rfl (w.heap.size + 4) 115 i0 _ 6 112 Tryz.underlying110 hi0 hz0 hz1 hz2 rfl (by decide) (.slice A3 dn.length c3) dn.length (rcells dn) rfl (own3.alloc _) _ 1 x.cells rfl (Src.ofSlice _ Tryz.underlying110 _ 1 1 _ rfl (cells_new6 _ _ _ _ _ _ _ _) (rel_cells_one x)) (by simp only [maxLen]; omega) (by omega) (size_alloc (by omega)) ?_; intro v9 w8 hown8 hg8 hat8; obtain ⟨A9, c9, rfl, _⟩ := Rd.own hown8; have k8 := bk_grown (k3.alloc _) (own3.alloc _) (by decide) hg8; have y8 := k8.cell 0; have yf8 := k8.fz 0))
          have hsz8 := hg8.size
          simp only [World.size_alloc] at hsz8
          have o8 : ∀ g', g' < w3.heap.size → g' < w.heap.size + 4 → g' ≠ w.heap.size + 1 + 1 + 1 → (w8.setCell ⟨w.heap.size + 1 + 1 + 1, 0, none⟩ (.slice A9 (dn.length + 1) c9)).heap[g']? = w3.heap[g']? := fun g' h1 h2 h3 =>
            ((Below.heap_setCell _ _ _ _ h3).trans (hg8.block g' (by simp; omega) fun e' => by have := (own3.lt g' e'.symm).1; omega)).trans (Below.heap_alloc _ _ _ h1)
          have hX9 : Bk (w8.setCell ⟨w.heap.size + 1 + 1 + 1, 0, none⟩ (.slice A9 (dn.length + 1) c9)) q5 _ _ := (bk_grown (x53.alloc _) (own3.alloc _) (by decide) hg8).other (a := ⟨w.heap.size + 1 + 1 + 1, 0, none⟩) (by show q5 ≠ w.heap.size + 1 + 1 + 1; omega) _
          have hb9 : Below w.heap.size w (w8.setCell ⟨w.heap.size + 1 + 1 + 1, 0, none⟩ (.slice A9 (dn.length + 1) c9)) := (below_of_own (bl3.alloc bl3.size _) hg8 (own3.alloc _) (size_alloc bl3.size) (by omega)).setCell (by show w.heap.size ≤ w.heap.size + 1 + 1 + 1; omega) _
          refine ⟨⟨j + 1, by go_num, by omega, ?_, hX9⟩, by simp [intOf]; omega⟩
          rw [hnx.out]
          refine ⟨⟨_, by simpa using k8.set 0 (.slice A9 (dn.length + 1) c9), ?_⟩, hm4.same (o8 _ hm4.lt (by omega) (by omega)), (o8 _ res3.lt (by omega) (by omega)).trans res3, hb9⟩
          rw [List.length_append, rcells_app]
          have e9 : rcells [(t, x)] = x.cells := by simp [rcells]
          rw [e9]
          exact own_set hown8 (by show w.heap.size + 1 + 1 + 1 < _; omega) _
        · obtain rfl : j = t.rels.length := by omega
          have hdj : ¬ (((t.rels.length : Nat) : Int) < (t.rels.length : Int)) := by omega
          rw [List.take_length, ← hsn] at hKj
          go_wp2_with fail
          exact ⟨⟨i + 1, by go_num, by omega, hKj⟩, by simp [intOf]; omega⟩
    · obtain rfl : i = l.length := by omega
      have hdi : ¬ (((l.length : Nat) : Int) < (l.length : Int)) := by omega
      rw [List.take_length] at hK
      obtain ⟨v, hk1, hk2⟩ := hK.one
      obtain ⟨A3, c3, rfl, hR3⟩ := Rd.own hk2
      have z0 := hk1.cell 0
      have z1 := hk1.cell 1
      have r0 := hK.res.cell 0
      have r1 := hK.res.cell 1
      have rf0 := hK.res.fz 0
      have rf1 := hK.res.fz 1
      go_wp2_with fail
      have hw := (hK.res.set 0 (.slice A3 (relsA l).length c3)).set 1 (.map (some (w.heap.size + 1 + 1)))
      obtain ⟨y0, y1⟩ := Bk.c2 hw
      refine bodyPost_ret (v := .agg #[.slice A3 (relsA l).length c3, .map (some (w.heap.size + 1 + 1))]) (by simp [results, Tryz.results54, go_sem, y0, y1]; try rfl) rfl ?_
      refine ⟨⟨A3, c3, w.heap.size + 1 + 1, rfl, by omega, own_base (own_set (own_set hk2 (by show w.heap.size + 1 < _; omega) _) (by show w.heap.size + 1 < _; omega) _) (by omega), (hK.map.same ?_)⟩, (hK.below.setCell (by show w.heap.size ≤ w.heap.size + 1; omega) _).setCell (by show w.heap.size ≤ w.heap.size + 1; omega) _⟩
      exact (Below.heap_setCell _ _ _ _ (by show w.heap.size + 1 + 1 ≠ w.heap.size + 1; omega)).trans (Below.heap_setCell _ _ _ _ (by show w.heap.size + 1 + 1 ≠ w.heap.size + 1; omega))
end Go.Proofs.YteafdhpcnpfmkaaGreat
