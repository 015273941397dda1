import Derived.Shelf.AbstractIn
import Derived.Test.YtahegpfdbgbioaaGreatA19
set_option maxRecDepth 100000
set_option maxHeartbeats 4000000
namespace Go.Proofs.YtahegpfdbgbioaaGreat
open Go.RowKit
open Go.RowKit Go.Maps
def acells (l : List Path) : List Value := l.flatMap aSub
theorem acells_app (a b : List Path) : acells (a ++ b) = acells a ++ acells b := List.flatMap_append
theorem acells_at {w : World} {B c n : Nat} {A : Option Addr} {l : List Path} (h : Rd w B 2 A n c (acells l)) {i : Nat} {s : Path} (hi : l[i]? = some s) (hn : n = l.length) :
 ∃ b o, A = some ⟨b, o, none⟩ ∧ b < B ∧ w.cell? ⟨b, o + i * 2, none⟩ = some (.string s.1) ∧ w.cell? ⟨b, o + i * 2 + 1, none⟩ = some (.string s.2) := by
 subst hn
 obtain ⟨b, o, e, hb, hc⟩ := h.at_ (lt_get hi)
 have g := fun k (hk : k < 2) => flat_get aSub (sz := 2) (fun _ => rfl) hi (k := k) hk
 exact ⟨b, o, e, hb, hc _ _ (g 0 (by omega)), by rw [Nat.add_assoc]; exact hc _ _ (g 1 (by omega))⟩
theorem empty_is (x : ByteArray) : x.toList.isEmpty = decide (x = ⟨#[]⟩) := by
 have : x.toList.isEmpty = (x.toList == (⟨#[]⟩ : ByteArray).toList) := by
  have e : (⟨#[]⟩ : ByteArray).toList = [] := by decide +kernel
  rw [e]
  cases x.toList <;> rfl
 rw [this]
 exact toList_inj
theorem setsP_snoc {l : List Path} {i : Nat} {s : Path} (h : l[i]? = some s) : setsP (l.take (i + 1)) = setsP (l.take i) ++ if s.2 = ⟨#[]⟩ then [] else [s] := by
 unfold setsP
 rw [List.take_add_one, h, Option.toList_some, List.filter_append]
 by_cases e : s.2 = ⟨#[]⟩ <;> simp [e]
theorem nextsP_snoc {l : List Path} {n : ByteArray} {i : Nat} {s : Path} (h : l[i]? = some s) : nextsP (l.take (i + 1)) n = nextsP (l.take i) n ++ if s.2 = ⟨#[]⟩ then [(s.1, n)] else [] := by
 unfold nextsP
 rw [List.take_add_one, h, Option.toList_some, List.filter_append, List.map_append]
 by_cases e : s.2 = ⟨#[]⟩ <;> simp [e]
theorem setsP_le (l : List Path) (i : Nat) : (setsP (l.take i)).length ≤ i := Nat.le_trans (List.length_filter_le _ _) (by rw [List.length_take]; omega)
theorem nextsP_le (l : List Path) (n : ByteArray) (i : Nat) : (nextsP (l.take i) n).length ≤ i := by
 unfold nextsP
 rw [List.length_map]
 exact Nat.le_trans (List.length_filter_le _ _) (by rw [List.length_take]; omega)
theorem sets_any {w : World} {As : Option Addr} {cs : Nat} {l : List Path} {nm vi ed ch : ByteArray} {vo : Value} (hvo : ∃ Ao no co, vo = .slice Ao no co) (h : Rd w w.heap.size 2 As l.length cs (acells l)) (hl : l.length ≤ 100000) :
 Calls Tryz.prog 136 #[.agg #[.string nm, .string vi, .string ed, .string ch, .slice As l.length cs, vo]] w fun e w' => (∃ A' c', e = .returned (.slice A' (setsP l).length c') ∧ w'.ownsRow w.heap.size 126 2 (.slice A' (setsP l).length c') (setsP l).length (acells (setsP l))) ∧ Below w.heap.size w w' := by
 obtain ⟨Ao, no, co, rfl⟩ := hvo
 obtain ⟨i0, hi0, hz0, hz1, hz2⟩ := info_parts info_sub
 go_enter Tryz.func136, Tryz.ntmps136
 go_wp2_with fail
 have hb0 : Below w.heap.size w (w.alloc (.cells #[.string nm, .string vi, .string ed, .string ch, .slice As l.length cs, .slice Ao no co] 149)) := (Below.refl _ w).alloc (Nat.le_refl _) _
 generalize w.alloc (.cells #[.string nm, .string vi, .string ed, .string ch, .slice As l.length cs, .slice Ao no co] 149) = w0 at *
 go_loopw [3, 9] (fun v vi wx => ∃ j : Nat, vi = .int .i64 j ∧ j ≤ l.length ∧ wx.ownsRow w.heap.size 126 2 v (setsP (l.take j)).length (acells (setsP (l.take j))) ∧ Below w.heap.size w wx) (fun _ vi _ => l.length - (intOf vi).toNat)
 case atStart => exact ⟨0, rfl, Nat.zero_le _, World.ownsRow_nil _ _ _ _, hb0⟩
 case round =>
  obtain ⟨j, rfl, hj, hO, hbx⟩ := hrel
  by_cases hjl : j < l.length
  · have hdj : (j : Int) < (l.length : Int) := by omega
    obtain ⟨s, hs⟩ : ∃ s, l[j]? = some s := ⟨_, List.getElem?_eq_getElem hjl⟩
    obtain ⟨b, o, rfl, hb, c0, c1⟩ := acells_at (h.below hbx) hs rfl
    have hle := setsP_le l j
    have hsn := Lib.hid (setsP_snoc hs)
    obtain ⟨A3, c3, rfl, _⟩ := Rd.own hO
    have hws := hbx.size
    have hO1 := hO.alloc (.cells #[.string s.1, .string s.2] 126)
    have hb1 := hbx.alloc hws (.cells #[.string s.1, .string s.2] 126)
    have x1 := Bk.new wr #[.string s.1, .string s.2] 126
    go_upto_region 5 with (fail)
    have y0 := x1.cell 0
    have y1 := x1.cell 1
    clear c0 c1 x1 hO hbx
    generalize wr.alloc (.cells #[.string s.1, .string s.2] 126) = w1 at *
    have hq := empty_is s.2
    cases he : decide (s.2 = (⟨#[]⟩ : ByteArray)) with
    | true =>
     rw [he] at hq
     go_wp2_with fail
     have he' := of_decide_eq_true he
     refine ⟨⟨j + 1, by go_num, by omega, ?_, hb1⟩, by simp [intOf]; omega⟩
     rw [hsn.out, if_pos he', List.append_nil]
     exact hO1
    | false =>
     rw [he] at hq
     go_wp2_with (at_builtin; go_loud (refine wpList_append_src _ rfl (.tmp 16) (.tmp 18) 120 120 rfl w.heap.size 126 i0 (.agg #[.string .empty, .string .empty]) 2 32 Tryz.underlying120 hi0 hz0 hz1 hz2 rfl (by decide) (.slice A3 (setsP (l.take j)).length c3) (setsP (l.take j)).length (acells (setsP (l.take j))) rfl (hO1.alloc _) _ 1 [.string s.1, .string s.2] rfl (Src.ofSlice _ Tryz.underlying120 _ 1 1 _ rfl (cells_new2 _ _ _ _) (scell_one s)) (by simp only [maxLen]; omega) (by omega) (size_alloc hb1.size) ?_; intro v9 w8 hown8 hg8 hat8))
     have he' := of_decide_eq_false he
     refine ⟨⟨j + 1, by go_num, by omega, ?_, below_of_own (hb1.alloc hb1.size _) hg8 (hO1.alloc _) (size_alloc hb1.size) (Nat.le_refl _)⟩, by simp [intOf]; omega⟩
     rw [hsn.out, if_neg he', List.length_append, acells_app]
     exact hown8
  · obtain rfl : j = l.length := by omega
    have hdj : ¬ (((l.length : Nat) : Int) < (l.length : Int)) := by omega
    rw [List.take_length] at hO
    obtain ⟨A3, c3, rfl, hR⟩ := Rd.own hO
    go_wp2_with fail
    go_ret
    exact ⟨⟨A3, c3, rfl, hO⟩, hbx⟩
theorem nexts_any {w : World} {As : Option Addr} {cs : Nat} {l : List Path} {nm vi ed ch : ByteArray} {vo : Value} (n : ByteArray) (hvo : ∃ Ao no co, vo = .slice Ao no co) (h : Rd w w.heap.size 2 As l.length cs (acells l)) (hl : l.length ≤ 100000) :
 Calls Tryz.prog 137 #[.agg #[.string nm, .string vi, .string ed, .string ch, .slice As l.length cs, vo], .string n] w fun e w' => (∃ A' c', e = .returned (.slice A' (nextsP l n).length c') ∧ w'.ownsRow w.heap.size 126 2 (.slice A' (nextsP l n).length c') (nextsP l n).length (acells (nextsP l n))) ∧ Below w.heap.size w w' := by
 obtain ⟨Ao, no, co, rfl⟩ := hvo
 obtain ⟨i0, hi0, hz0, hz1, hz2⟩ := info_parts info_sub
 go_enter Tryz.func137, Tryz.ntmps137
 go_wp2_with fail
 have hb0 : Below w.heap.size w (w.alloc (.cells #[.string nm, .string vi, .string ed, .string ch, .slice As l.length cs, .slice Ao no co] 149)) := (Below.refl _ w).alloc (Nat.le_refl _) _
 generalize w.alloc (.cells #[.string nm, .string vi, .string ed, .string ch, .slice As l.length cs, .slice Ao no co] 149) = w0 at *
 go_loopw [5, 11] (fun v vi wx => ∃ j : Nat, vi = .int .i64 j ∧ j ≤ l.length ∧ wx.ownsRow w.heap.size 126 2 v (nextsP (l.take j) n).length (acells (nextsP (l.take j) n)) ∧ Below w.heap.size w wx) (fun _ vi _ => l.length - (intOf vi).toNat)
 case atStart => exact ⟨0, rfl, Nat.zero_le _, World.ownsRow_nil _ _ _ _, hb0⟩
 case round =>
  obtain ⟨j, rfl, hj, hO, hbx⟩ := hrel
  by_cases hjl : j < l.length
  · have hdj : (j : Int) < (l.length : Int) := by omega
    obtain ⟨s, hs⟩ : ∃ s, l[j]? = some s := ⟨_, List.getElem?_eq_getElem hjl⟩
    obtain ⟨b, o, rfl, hb, c0, c1⟩ := acells_at (h.below hbx) hs rfl
    have hle := nextsP_le l n j
    have hsn := Lib.hid (nextsP_snoc (n := n) hs)
    obtain ⟨A3, c3, rfl, _⟩ := Rd.own hO
    have hws := hbx.size
    have hO1 := hO.alloc (.cells #[.string s.1, .string s.2] 126)
    have hb1 := hbx.alloc hws (.cells #[.string s.1, .string s.2] 126)
    have x1 := Bk.new wr #[.string s.1, .string s.2] 126
    go_upto_region 5 with (fail)
    have y0 := x1.cell 0
    have y1 := x1.cell 1
    clear c0 c1 x1 hO hbx
    generalize wr.alloc (.cells #[.string s.1, .string s.2] 126) = w1 at *
    have hq := empty_is s.2
    cases he : decide (s.2 = (⟨#[]⟩ : ByteArray)) with
    | false =>
     rw [he] at hq
     go_wp2_with fail
     have he' := of_decide_eq_false he
     refine ⟨⟨j + 1, by go_num, by omega, ?_, hb1⟩, by simp [intOf]; omega⟩
     rw [hsn.out, if_neg he', List.append_nil]
     exact hO1
    | true =>
     rw [he] at hq
     go_wp2_with (at_builtin; go_loud (refine wpList_append_src _ rfl (.tmp 18) (.tmp 23) 120 120 rfl w.heap.size 126 i0 (.agg #[.string .empty, .string .empty]) 2 32 Tryz.underlying120 hi0 hz0 hz1 hz2 rfl (by decide) (.slice A3 (nextsP (l.take j) n).length c3) (nextsP (l.take j) n).length (acells (nextsP (l.take j) n)) rfl (hO1.alloc _) _ 1 [.string s.1, .string n] rfl (Src.ofSlice _ Tryz.underlying120 _ 1 1 _ rfl (cells_new2 _ _ _ _) (scell_one (s.1, n))) (by simp only [maxLen]; omega) (by omega) (size_alloc hb1.size) ?_; intro v9 w8 hown8 hg8 hat8))
     have he' := of_decide_eq_true he
     refine ⟨⟨j + 1, by go_num, by omega, ?_, below_of_own (hb1.alloc hb1.size _) hg8 (hO1.alloc _) (size_alloc hb1.size) (Nat.le_refl _)⟩, by simp [intOf]; omega⟩
     rw [hsn.out, if_pos he', List.length_append, acells_app]
     exact hown8
  · obtain rfl : j = l.length := by omega
    have hdj : ¬ (((l.length : Nat) : Int) < (l.length : Int)) := by omega
    rw [List.take_length] at hO
    obtain ⟨A3, c3, rfl, hR⟩ := Rd.own hO
    go_wp2_with fail
    go_ret
    exact ⟨⟨A3, c3, rfl, hO⟩, hbx⟩
def numsD (ps : List Path) : DataW Unit := ps.zipIdx.foldl (fun D p => D.put (kS p.1) (.lit (.int .i64 (p.2 : Int)))) (.map [])
theorem numsD_snoc (ps : List Path) (p : Path) : numsD (ps ++ [p]) = (numsD ps).put (kS p) (.lit (.int .i64 (ps.length : Int))) := by
 unfold numsD
 rw [List.zipIdx_append, List.foldl_append]
 simp
def SmP (p : Path) : Prop := p.1.size ≤ maxLen ∧ p.2.size ≤ maxLen
theorem kS_lit {p : Path} (h : SmP p) : WideAt.IsKeyLit (kS p) := keyedS.key (key_sub h.1 h.2)
theorem numsD_isMap (ps : List Path) : IsMap (numsD ps) := by
 suffices H : ∀ (l : List (Path × Nat)) (D : DataW Unit), IsMap D → IsMap (l.foldl (fun D p => D.put (kS p.1) (.lit (.int .i64 (p.2 : Int)))) D) from H _ _ isMap_empty
 intro l
 induction l with
 | nil => intro D h; exact h
 | cons a t ih => intro D h; exact ih _ (h.put _ _)
theorem numsD_look {ps : List Path} (hs : ∀ p ∈ ps, SmP p) {q : Path} (hq : SmP q) : Maps.has (numsD ps) (kS q) = (lastIx ps q).isSome ∧ ∀ z, (numsD ps).atKey (kS q) z = match lastIx ps q with | some i => .lit (.int .i64 (i : Int)) | none => z := by
 suffices H : ∀ n (ps : List Path), ps.length = n → (∀ p ∈ ps, SmP p) → Maps.has (numsD ps) (kS q) = (lastIx ps q).isSome ∧ ∀ z, (numsD ps).atKey (kS q) z = match lastIx ps q with | some i => .lit (.int .i64 (i : Int)) | none => z from H _ ps rfl hs
 intro n
 induction n with
 | zero =>
  intro ps hn _
  rw [List.eq_nil_of_length_eq_zero hn]
  exact ⟨rfl, fun z => rfl⟩
 | succ n ih =>
  intro ps hn hs
  rcases List.eq_nil_or_concat ps with rfl | ⟨ps', p, rfl⟩
  · simp at hn
  · rw [List.concat_eq_append] at *
    have hp := hs p (by simp)
    obtain ⟨h1, h2⟩ := ih ps' (by simpa using hn) fun x hx => hs x (by simp [hx])
    rw [numsD_snoc, lastIx_snoc]
    by_cases e : p = q
    · subst e
      rw [if_pos rfl, has_put_same (numsD_isMap _) (kS_lit hp)]
      exact ⟨rfl, fun z => atKey_put_same (numsD_isMap _) (kS_lit hp) _ z⟩
    · have hne : kS q ≠ kS p := fun e' => e (kS_inj hp.1 hp.2 hq.1 hq.2 e'.symm)
      rw [if_neg e, has_put_other hne]
      exact ⟨h1, fun z => (atKey_put_other hne _ z).trans (h2 z)⟩
def MapS (w : World) (b : Nat) (ps : List Path) : Prop := w.ownsMap Tryz.prog 126 (plainElem Tryz.prog 3) b ps.length (numsD ps) ∧ ∀ p ∈ ps, SmP p
theorem MapS.same {w w' : World} {b : Nat} {ps : List Path} (h : MapS w b ps) (hb : w'.heap[b]? = w.heap[b]?) : MapS w' b ps := by
 obtain ⟨⟨es, clock, h1, h2⟩, h3⟩ := h
 exact ⟨⟨es, clock, hb.trans h1, h2⟩, h3⟩
theorem MapS.lt {w : World} {b : Nat} {ps : List Path} (h : MapS w b ps) : b < w.heap.size := h.1.lt
theorem MapS.below {w w' : World} {b : Nat} {ps : List Path} (h : MapS w b ps) (hb : Below w.heap.size w w') : MapS w' b ps := h.same (hb.block b h.lt)
def relsA (l : List TypA) : List (TypA × RelA) := l.flatMap fun t => t.rels.map fun r => (t, r)
def pathsA (k : List (TypA × RelA)) : List Path := k.map fun x => (x.1.name, x.2.name)
def rcells (k : List (TypA × RelA)) : List Value := k.flatMap fun x => x.2.cells
theorem rcells_app (a b : List (TypA × RelA)) : rcells (a ++ b) = rcells a ++ rcells b := List.flatMap_append
theorem relsA_snoc {l : List TypA} {i : Nat} {t : TypA} (h : l[i]? = some t) : relsA (l.take (i + 1)) = relsA (l.take i) ++ t.rels.map fun r => (t, r) := by
 unfold relsA
 rw [List.take_add_one, h, Option.toList_some, List.flatMap_append, List.flatMap_singleton]
theorem relsA_le {l : List TypA} (i : Nat) : (relsA (l.take i)).length ≤ (relsA l).length := by
 conv => rhs; rw [← List.take_append_drop i l]
 unfold relsA
 rw [List.flatMap_append, List.length_append]
 omega
structure KI (w wx : World) (done : List (TypA × RelA)) : Prop where
 one : ∃ v, Bk wx (w.heap.size + 1 + 1 + 1) #[v, .map (some (w.heap.size + 1 + 1))] 161 ∧ wx.ownsRow (w.heap.size + 4) 149 6 v done.length (rcells done)
 map : MapS wx (w.heap.size + 1 + 1) (pathsA done)
 res : Bk wx (w.heap.size + 1) #[.slice none 0 0, .map none] 161
 below : Below w.heap.size w wx
theorem KI.alloc {w wx : World} {done : List (TypA × RelA)} (h : KI w wx done) (o : Obj) : KI w (wx.alloc o) done := by
 obtain ⟨⟨v, h1, h2⟩, h3, h4, h5⟩ := h
 exact ⟨⟨v, h1.alloc o, h2.alloc o⟩, h3.below ((Below.refl _ wx).alloc (Nat.le_refl _) o), h4.alloc o, h5.alloc h5.size o⟩
theorem rel_cells_one (x : RelA) : ∀ u ∈ x.cells, u.oneCell' = true := rcell_one _ _ _ _ _ _ _ _ _ _
theorem wf_nat {n : Nat} (h : n ≤ 100000) : (Lit.int .i64 (n : Int)).wf = true := WalkArith.wf_i64 (by omega)
theorem knownOf_any {w : World} {R c : Nat} {A : Option Addr} {l : List TypA} (h : SchA w R A c l) (hR : R ≤ 140737488351232) (hl : (relsA l).length ≤ 100000) :
 Calls Tryz.prog 87 #[.agg #[.slice A l.length c]] w fun e w' => (∃ A' c' b, e = .returned (.agg #[.slice A' (relsA l).length c', .map (some b)]) ∧ w.heap.size ≤ b ∧
  w'.ownsRow w.heap.size 149 6 (.slice A' (relsA l).length c') (relsA l).length (rcells (relsA l)) ∧ MapS w' b (pathsA (relsA l))) ∧ Below w.heap.size w w' := by
 have hmm := @run_makeMap Tryz.prog
 have hll : (l.length : Int) ≤ 9223372036854775807 := by have := h.rows.cap; have := h.rows.capm; simp only [maxLen] at this; omega
 obtain ⟨i0, hi0, hz0, hz1, hz2⟩ := info_parts info_rel
 go_enter Tryz.func87, Tryz.ntmps87
 go_wp2_with fail
 have d0 := ((Bk.new w #[.slice A l.length c] 92).alloc (.cells #[.slice none 0 0, .map none] 161)).alloc (.map #[] 0) |>.alloc (.cells #[.slice none 0 0, .map (some (w.heap.size + 1 + 1))] 161)
 have d1 := ((Bk.new (w.alloc (.cells #[.slice A l.length c] 92)) #[.slice none 0 0, .map none] 161).alloc (.map #[] 0)).alloc (.cells #[.slice none 0 0, .map (some (w.heap.size + 1 + 1))] 161)
 have d2 : MapS (((w.alloc (.cells #[.slice A l.length c] 92)).alloc (.cells #[.slice none 0 0, .map none] 161)).alloc (.map #[] 0)) ((w.alloc (.cells #[.slice A l.length c] 92)).alloc (.cells #[.slice none 0 0, .map none] 161)).heap.size (pathsA []) := ⟨World.ownsMap_made _ _ _ _, fun p hp => by cases hp⟩
 have d3 := Bk.new (((w.alloc (.cells #[.slice A l.length c] 92)).alloc (.cells #[.slice none 0 0, .map none] 161)).alloc (.map #[] 0)) #[.slice none 0 0, .map (some (w.heap.size + 1 + 1))] 161
 replace d2 := d2.below ((Below.refl _ _).alloc (Nat.le_refl _) (.cells #[.slice none 0 0, .map (some (w.heap.size + 1 + 1))] 161))
 simp only [World.size_alloc] at d1 d2 d3
 have hB0 : Below w.heap.size w ((((w.alloc (.cells #[.slice A l.length c] 92)).alloc (.cells #[.slice none 0 0, .map none] 161)).alloc (.map #[] 0)).alloc (.cells #[.slice none 0 0, .map (some (w.heap.size + 1 + 1))] 161)) := ((((Below.refl _ w).alloc (Nat.le_refl _) _).alloc (by simp) _).alloc (by simp; omega) _).alloc (by simp; omega) _
 generalize (((w.alloc (.cells #[.slice A l.length c] 92)).alloc (.cells #[.slice none 0 0, .map none] 161)).alloc (.map #[] 0)).alloc (.cells #[.slice none 0 0, .map (some (w.heap.size + 1 + 1))] 161) = w0 at *
 have hK0 : KI w w0 (relsA (l.take 0)) := ⟨⟨_, d3, World.ownsRow_nil _ _ _ _⟩, d2, d1, hB0⟩
 clear hmm d0 d1 d2 d3 hB0
 go_loopw [13] (fun vi wx => ∃ i : Nat, vi = .int .i64 i ∧ i ≤ l.length ∧ KI w wx (relsA (l.take i))) (fun vi _ => l.length - (intOf vi).toNat)
 case atStart => exact ⟨0, rfl, Nat.zero_le _, hK0⟩
 case round =>
  obtain ⟨i, rfl, hi, hK⟩ := hrel
  by_cases hil : i < l.length
  · have hdi : (i : Int) < (l.length : Int) := by omega
    obtain ⟨t, ht⟩ : ∃ t, l[i]? = some t := ⟨_, List.getElem?_eq_getElem hil⟩
    obtain ⟨b, o, rfl, t0, t1, htok⟩ := h.get ht
    replace t0 := cell_unde t0 hK.below
    replace t1 := cell_unde t1 hK.below
    have hrs := htok.rels
    have htl : (t.rels.length : Int) ≤ 9223372036854775807 := by have := hrs.cap; have := hrs.capm; simp only [maxLen] at this; omega
    have hsn := relsA_snoc ht
    have hle := relsA_le (l := l) (i + 1)
    rw [hsn, List.length_append, List.length_map] at hle
    have hK1 := hK.alloc (.cells #[.string t.name, .slice t.A t.rels.length t.c] 146)
    have x1 := Bk.new wr #[.string t.name, .slice t.A t.rels.length t.c] 146
    have hwl := hK.below.size
    have hwl4 : w.heap.size + 4 ≤ wr.heap.size := by obtain ⟨v, q, _⟩ := hK.one; have := q.lt; omega
    go_upto_region 5 with (fail)
    clear t0 t1
    generalize hq5 : wr.heap.size = q5 at *
    generalize wr.alloc (.cells #[.string t.name, .slice t.A t.rels.length t.c] 146) = w1 at *
    have y0 := x1.cell 0
    have y1 := x1.cell 1
    go_wp2_with fail
    go_loopw [20] (fun vi wx => ∃ j : Nat, vi = .int .i64 j ∧ j ≤ t.rels.length ∧ KI w wx (relsA (l.take i) ++ (t.rels.take j).map fun r => (t, r)) ∧ Bk wx q5 #[.string t.name, .slice t.A t.rels.length t.c] 146) (fun vi _ => t.rels.length - (intOf vi).toNat)
    case atStart => exact ⟨0, rfl, Nat.zero_le _, by simpa using hK1, x1⟩
    case round =>
     obtain ⟨j, rfl, hj, hKj, hX5⟩ := hrel
     by_cases hjl : j < t.rels.length
     · have hdj : (j : Int) < (t.rels.length : Int) := by omega
       obtain ⟨x, hx⟩ : ∃ x, t.rels[j]? = some x := ⟨_, List.getElem?_eq_getElem hjl⟩
       obtain ⟨g, k, e5, g0, g1, g2, g3, g4, g5, hxok⟩ := (htok.up hKj.below).get hx
       have htn := htok.name
       have hxn := hxok.name
       obtain ⟨dn, hdn⟩ : ∃ dn, relsA (l.take i) ++ (t.rels.take j).map (fun r => (t, r)) = dn := ⟨_, rfl⟩
       have hdl : dn.length ≤ 99999 := by rw [← hdn, List.length_append, List.length_map, List.length_take]; omega
       have hnx : Hid (relsA (l.take i) ++ (t.rels.take (j + 1)).map (fun r => (t, r)) = dn ++ [(t, x)]) := Lib.hid (by rw [List.take_add_one, hx, Option.toList_some, List.map_append, ← List.append_assoc, hdn]; rfl)
       rw [hdn] at hKj
       have hdn := Lib.hid hdn
       have hwl2 : w.heap.size + 4 ≤ wr.heap.size := by obtain ⟨v, q, _⟩ := hKj.one; have := q.lt; omega
       have hK2 := hKj.alloc (.cells x.cells.toArray 149)
       have hX52 := hX5.alloc (.cells x.cells.toArray 149)
       have x7 := Bk.new wr x.cells.toArray 149
       have hq7 : wr.heap.size < (wr.alloc (.cells x.cells.toArray 149)).heap.size := by simp
       have hq5l := hX5.lt
       have hxc : x.cells.toArray = #[.string x.name, .string x.view, .string x.edit, .string x.check, .slice x.As x.subs.length x.cs, .slice x.Ao x.ops.length x.co] := rfl
       rw [hxc] at hK2 hX52 x7 hq7
       rw [e5] at *
       go_upto_region 8 with (fail)
       clear g0 g1 g2 g3 g4 g5 hKj hX5
       generalize hq7e : wr.heap.size = q7 at *
       generalize wr.alloc (.cells #[.string x.name, .string x.view, .string x.edit, .string x.check, .slice x.As x.subs.length x.cs, .slice x.Ao x.ops.length x.co] 149) = w2 at *
       obtain ⟨v, hk1, hk2⟩ := hK2.one
       obtain ⟨A3, c3, rfl, hR3⟩ := Rd.own hk2
       have z0 := hk1.cell 0
       have z1 := hk1.cell 1
       have z5 := hX52.cell 0
       have z7 := x7.cell 0
       have hmap := hK2.map
       have hkey : keyOf Tryz.prog 126 (.agg #[.string t.name, .string x.name]) = some (kS (t.name, x.name)) := key_sub (s := (t.name, x.name)) (by simp only [maxLen]; omega) (by simp only [maxLen]; omega)
       have hpl : (pathsA dn).length = dn.length := by simp [pathsA]
       have hm1 := hmap.1
       rw [hpl] at hm1
       have hmb := hmap.lt
       go_upto_region 9 with (at_mapUpdate; refine wpList_mapUpdate_own _ rfl _ _ _ 159 rfl 126 3 keyedS Tryz.underlying159 _ (w.heap.size + 1 + 1) dn.length _ rfl hm1 (by unfold maxLen; omega) _ _ _ rfl rfl hkey _ [] (plainElem_int Tryz.underlying3 (wf_nat (by omega))) ?_; intro w3 hm3 hg3)
       have o3 : ∀ g', g' < w2.heap.size → g' ≠ w.heap.size + 1 + 1 → w3.heap[g']? = w2.heap[g']? := fun g' h1 h2 => hg3.block g' h1 fun e' => h2 (Option.some.inj e')
       have k3 : Bk w3 (w.heap.size + 1 + 1 + 1) _ _ := (o3 _ hk1.lt (by omega)).trans hk1
       have own3 : w3.ownsRow (w.heap.size + 4) 149 6 (.slice A3 dn.length c3) dn.length (rcells dn) := own_same hk2 fun g' h1 => o3 g' (hk2.lt g' h1).2 (by have := (hk2.lt g' h1).1; omega)
       have res3 : Bk w3 (w.heap.size + 1) _ _ := (o3 _ hK2.res.lt (by omega)).trans hK2.res
       have x53 : Bk w3 q5 _ _ := (o3 _ hX52.lt (by omega)).trans hX52
       have x73 : Bk w3 q7 _ _ := (o3 _ hq7 (by omega)).trans x7
       have bl3 : Below w.heap.size w w3 := hK2.below.grown hg3 hK2.below.size fun r e' => by cases e'; omega
       have hpn : pathsA (dn ++ [(t, x)]) = pathsA dn ++ [(t.name, x.name)] := by simp [pathsA]
       have hm4 : MapS w3 (w.heap.size + 1 + 1) (pathsA (dn ++ [(t, x)])) := by
        refine ⟨?_, fun q hq => ?_⟩
        · rw [hpn, numsD_snoc, hpl, List.length_append, hpl]
          exact hm3
        · rw [hpn, List.mem_append, List.mem_singleton] at hq
          rcases hq with hq | rfl
          · exact hmap.2 q hq
          · exact ⟨by simp only [maxLen]; omega, by simp only [maxLen]; omega⟩
       clear hm3 hmap hm1 hK2 hk1 hk2 hX52 x7 z0 z1 z5 z7 hg3 o3
       have z0 := k3.cell 0
       have zf := k3.fz 0
       obtain ⟨s0, s1, s2, s3, s4, s5⟩ : w3.cell? ⟨q7, 0, none⟩ = some (.string x.name) ∧ w3.cell? ⟨q7, 1, none⟩ = some (.string x.view) ∧ w3.cell? ⟨q7, 2, none⟩ = some (.string x.edit) ∧ w3.cell? ⟨q7, 3, none⟩ = some (.string x.check) ∧ w3.cell? ⟨q7, 4, none⟩ = some (.slice x.As x.subs.length x.cs) ∧ w3.cell? ⟨q7, 5, none⟩ = some (.slice x.Ao x.ops.length x.co) := ⟨x73.cell 0, x73.cell 1, x73.cell 2, x73.cell 3, x73.cell 4, x73.cell 5⟩
       have hk3l := k3.lt
       go_wp2_with (at_builtin; go_loud (refine wpList_append_src _ rfl (.tmp 35) (.tmp 37) 144 144 rfl (w.heap.size + 4) 149 i0 _ 6 112 Tryz.underlying144 hi0 hz0 hz1 hz2 rfl (by decide) (.slice A3 dn.length c3) dn.length (rcells dn) rfl (own3.alloc _) _ 1 x.cells rfl (Src.ofSlice _ Tryz.underlying144 _ 1 1 _ rfl (cells_new6 _ _ _ _ _ _ _ _) (rel_cells_one x)) (by simp only [maxLen]; omega) (by omega) (size_alloc (by omega)) ?_; intro v9 w8 hown8 hg8 hat8; obtain ⟨A9, c9, rfl, _⟩ := Rd.own hown8; have k8 := bk_grown (k3.alloc _) (own3.alloc _) (by decide) hg8; have y8 := k8.cell 0; have yf8 := k8.fz 0))
       have hsz8 := hg8.size
       simp only [World.size_alloc] at hsz8
       have o8 : ∀ g', g' < w3.heap.size → g' < w.heap.size + 4 → g' ≠ w.heap.size + 1 + 1 + 1 → (w8.setCell ⟨w.heap.size + 1 + 1 + 1, 0, none⟩ (.slice A9 (dn.length + 1) c9)).heap[g']? = w3.heap[g']? := fun g' h1 h2 h3 =>
        ((Below.heap_setCell _ _ _ _ h3).trans (hg8.block g' (by simp; omega) fun e' => by have := (own3.lt g' e'.symm).1; omega)).trans (Below.heap_alloc _ _ _ h1)
       have hX9 : Bk (w8.setCell ⟨w.heap.size + 1 + 1 + 1, 0, none⟩ (.slice A9 (dn.length + 1) c9)) q5 _ _ := (bk_grown (x53.alloc _) (own3.alloc _) (by decide) hg8).other (a := ⟨w.heap.size + 1 + 1 + 1, 0, none⟩) (by show q5 ≠ w.heap.size + 1 + 1 + 1; omega) _
       have hb9 : Below w.heap.size w (w8.setCell ⟨w.heap.size + 1 + 1 + 1, 0, none⟩ (.slice A9 (dn.length + 1) c9)) := (below_of_own (bl3.alloc bl3.size _) hg8 (own3.alloc _) (size_alloc bl3.size) (by omega)).setCell (by show w.heap.size ≤ w.heap.size + 1 + 1 + 1; omega) _
       refine ⟨⟨j + 1, by go_num, by omega, ?_, hX9⟩, by simp [intOf]; omega⟩
       rw [hnx.out]
       refine ⟨⟨_, by simpa using k8.set 0 (.slice A9 (dn.length + 1) c9), ?_⟩, hm4.same (o8 _ hm4.lt (by omega) (by omega)), (o8 _ res3.lt (by omega) (by omega)).trans res3, hb9⟩
       rw [List.length_append, rcells_app]
       have e9 : rcells [(t, x)] = x.cells := by simp [rcells]
       rw [e9]
       exact own_set hown8 (by show w.heap.size + 1 + 1 + 1 < _; omega) _
     · obtain rfl : j = t.rels.length := by omega
       have hdj : ¬ (((t.rels.length : Nat) : Int) < (t.rels.length : Int)) := by omega
       rw [List.take_length, ← hsn] at hKj
       go_wp2_with fail
       exact ⟨⟨i + 1, by go_num, by omega, hKj⟩, by simp [intOf]; omega⟩
  · obtain rfl : i = l.length := by omega
    have hdi : ¬ (((l.length : Nat) : Int) < (l.length : Int)) := by omega
    rw [List.take_length] at hK
    obtain ⟨v, hk1, hk2⟩ := hK.one
    obtain ⟨A3, c3, rfl, hR3⟩ := Rd.own hk2
    have z0 := hk1.cell 0
    have z1 := hk1.cell 1
    have r0 := hK.res.cell 0
    have r1 := hK.res.cell 1
    have rf0 := hK.res.fz 0
    have rf1 := hK.res.fz 1
    go_wp2_with fail
    have hw := (hK.res.set 0 (.slice A3 (relsA l).length c3)).set 1 (.map (some (w.heap.size + 1 + 1)))
    obtain ⟨y0, y1⟩ := Bk.c2 hw
    refine bodyPost_ret (v := .agg #[.slice A3 (relsA l).length c3, .map (some (w.heap.size + 1 + 1))]) (by simp [results, Tryz.results87, go_sem, y0, y1]; try rfl) rfl ?_
    refine ⟨⟨A3, c3, w.heap.size + 1 + 1, rfl, by omega, own_base (own_set (own_set hk2 (by show w.heap.size + 1 < _; omega) _) (by show w.heap.size + 1 < _; omega) _) (by omega), (hK.map.same ?_)⟩, (hK.below.setCell (by show w.heap.size ≤ w.heap.size + 1; omega) _).setCell (by show w.heap.size ≤ w.heap.size + 1; omega) _⟩
    exact (Below.heap_setCell _ _ _ _ (by show w.heap.size + 1 + 1 ≠ w.heap.size + 1; omega)).trans (Below.heap_setCell _ _ _ _ (by show w.heap.size + 1 + 1 ≠ w.heap.size + 1; omega))
end Go.Proofs.YtahegpfdbgbioaaGreat
namespace Go.Proofs.YtahegpfdbgbioaaGreat
open Go.Shelf Go.RowKit Go.Lib Go.Sort
open Go.RowKit Go.Shelf Go.Maps Go.Sort
structure Far (w w' : World) : Prop where
 out : ∃ q os, w' = grow (w.drewN q) os
theorem Far.refl (w : World) : Far w w := ⟨0, #[], by rw [grow_empty]; rfl⟩
theorem Far.drew {w w' : World} (h : Far w w') : Far w w'.drew := by
 obtain ⟨q, os, rfl⟩ := h
 exact ⟨q + 1, os, rfl⟩
theorem Far.alloc {w w' : World} (h : Far w w') (o : Obj) : Far w (w'.alloc o) := by
 obtain ⟨q, os, rfl⟩ := h
 exact ⟨q, os ++ #[o], by rw [alloc_eq_grow, grow_grow]⟩
theorem Far.trans {a b c : World} (h : Far a b) (k : Far b c) : Far a c := by
 obtain ⟨q, os, rfl⟩ := h
 obtain ⟨r, os2, rfl⟩ := k
 exact ⟨q + r, os ++ os2, by rw [← grow_grow, ← World.drewN_drewN]; rfl⟩
theorem Far.cell {w w' : World} (h : Far w w') {a : Addr} {v : Value} (hc : w.cell? a = some v) : w'.cell? a = some v := by
 obtain ⟨q, os, rfl⟩ := h
 rw [cell?_grow _ _ _ (by exact World.block_lt_of_cell? w a hc)]
 exact hc
theorem rise_is (e : Ed) (w : World) : Calls Tryz.prog 134 #[.agg (ecell e).toArray] w fun r w' => r = .returned (.int .i64 (if e.2.2 then 1 else 0)) ∧ w' = w.alloc (.cells (ecell e).toArray 151) := by
 obtain ⟨x, y, b⟩ := e
 simp only [ecell]
 go_enter Tryz.func134, Tryz.ntmps134
 cases b
 · go_wp2
   go_ret
   exact ⟨rfl, rfl⟩
 · go_wp2
   go_ret
   exact ⟨rfl, rfl⟩
theorem lt_some {α : Type} {l : List α} {i : Nat} {x : α} (h : l[i]? = some x) : i < l.length := (List.getElem?_eq_some_iff.1 h).1
def orI : List Int → Int
 | [] => 0
 | x :: l => if x = 0 then orI l else x
theorem or_zeros {l : List Int} {j : Nat} (h : ∀ i, i < j → l[i]? = some 0) : orI l = orI (l.drop j) := by
 induction j with
 | zero => rfl
 | succ j ih =>
  rw [ih fun i hi => h i (by omega)]
  have hj := h j (by omega)
  rw [List.drop_eq_getElem_cons (lt_some hj), orI, if_pos]
  exact Option.some.inj ((List.getElem?_eq_getElem _).symm.trans hj)
theorem or_is {w : World} {b n c : Nat} {l : List Int} (hn : l.length = n) (hb : n ≤ 1000000) (h : ∀ i x, l[i]? = some x → w.cell? ⟨b, i, none⟩ = some (.int .i64 x)) :
 Calls Tryz.prog 141 #[.slice (some ⟨b, 0, none⟩) n c] w fun e w' => e = .returned (.int .i64 (orI l)) ∧ w' = w := by
 go_enter Tryz.func141, Tryz.ntmps141
 go_wp2_with fail
 go_loopw [8] (fun vi wx => ∃ j : Nat, vi = .int .i64 j ∧ j ≤ n ∧ wx = w ∧ ∀ i, i < j → l[i]? = some 0) (fun vi _ => n - (intOf vi).toNat)
 case atStart => exact ⟨0, rfl, Nat.zero_le _, rfl, fun i hi => by omega⟩
 case round =>
  obtain ⟨j, rfl, hj, rfl, hz⟩ := hrel
  by_cases hjn : j < n
  · have hjn' : (j : Int) < (n : Int) := by omega
    obtain ⟨x, hx⟩ : ∃ x, l[j]? = some x := ⟨_, List.getElem?_eq_getElem (by omega)⟩
    have c0 := h j x hx
    by_cases h0 : x = 0
    · subst h0
      have hz' : ∀ i, i < j + 1 → l[i]? = some 0 := fun i hi => by
       by_cases e : i = j
       · rw [e, hx]
       · exact hz i (by omega)
      clear hz hx h
      go_wp2_with fail
      exact ⟨⟨j + 1, by go_num, by omega, trivial, hz'⟩, by simp [intOf]; omega⟩
    · have h0' : (x != 0) = true := by simpa using h0
      have ho : Hid (orI l = x) := Lib.hid (by
       rw [or_zeros hz, List.drop_eq_getElem_cons (lt_some hx), orI]
       have e : l[j]'(lt_some hx) = x := Option.some.inj ((List.getElem?_eq_getElem _).symm.trans hx)
       rw [if_neg (by rw [e]; exact h0), e])
      clear hz hx h
      go_wp2_with fail
      go_ret
      rw [ho.out]
      exact ⟨rfl, rfl⟩
  · obtain rfl : j = n := by omega
    have hjn' : ¬ (((j : Nat) : Int) < (j : Int)) := by omega
    have ho : Hid (orI l = 0) := Lib.hid (by rw [or_zeros hz, List.drop_eq_nil_of_le (by omega)]; rfl)
    clear hz h
    go_wp2_with fail
    go_ret
    rw [ho.out]
    exact ⟨rfl, rfl⟩
def riI (e : Ed) : Int := if e.2.2 then 1 else 0
def cfE (a b : Ed) : Int := orI [compareInt a.1 b.1, compareInt a.2.1 b.2.1, compareInt (riI a) (riI b)]
theorem cfE_neg (a b : Ed) : cfE a b < 0 ↔ a.1 < b.1 ∨ (a.1 = b.1 ∧ (a.2.1 < b.2.1 ∨ (a.2.1 = b.2.1 ∧ riI a < riI b))) := by
 have h1 : ∀ x y : Int, compareInt x y = 0 ↔ x = y := fun x y => by unfold compareInt; split <;> first | omega | (split <;> omega)
 have h2 : ∀ x y : Int, compareInt x y < 0 ↔ x < y := fun x y => by unfold compareInt; split <;> first | omega | (split <;> omega)
 simp only [cfE, orI]
 by_cases e1 : a.1 = b.1
 · rw [if_pos ((h1 _ _).2 e1)]
   by_cases e2 : a.2.1 = b.2.1
   · rw [if_pos ((h1 _ _).2 e2)]
     by_cases e3 : riI a = riI b
     · rw [if_pos ((h1 _ _).2 e3)]
       omega
     · rw [if_neg fun e => e3 ((h1 _ _).1 e), h2]
       omega
   · rw [if_neg fun e => e2 ((h1 _ _).1 e), h2]
     omega
 · rw [if_neg fun e => e1 ((h1 _ _).1 e), h2]
   omega
theorem swoE : SWO (ltOf cfE) := by
 refine ⟨fun x => ?_, fun x y z h1 h2 => ?_, fun x y z h1 h2 => ?_⟩
 · simp only [ltOf, decide_eq_false_iff_not, cfE_neg]
   omega
 · simp only [ltOf, decide_eq_true_eq, cfE_neg] at *
   omega
 · simp only [ltOf, decide_eq_false_iff_not, cfE_neg] at *
   omega
theorem compare_any (a b : Ed) (w : World) : Calls Tryz.prog 92 #[.agg (ecell a).toArray, .agg (ecell b).toArray] w fun e w' => e = .returned (.int .i64 (cfE a b)) ∧ Far w w' := by
 have hri := rise_is a
 have hrb := rise_is b
 obtain ⟨a1, a2, a3⟩ := a
 obtain ⟨b1, b2, b3⟩ := b
 simp only [ecell] at *
 obtain ⟨r1, hr1⟩ : ∃ r : Int, (if a3 then 1 else 0) = r := ⟨_, rfl⟩
 obtain ⟨r2, hr2⟩ : ∃ r : Int, (if b3 then 1 else 0) = r := ⟨_, rfl⟩
 have hcf : Hid (cfE (a1, a2, a3) (b1, b2, b3) = orI [compareInt a1 b1, compareInt a2 b2, compareInt r1 r2]) := Lib.hid (by subst hr1 hr2; rfl)
 simp only [hr1] at hri
 simp only [hr2] at hrb
 clear hr1 hr2
 have x1 := Bk.new w #[.int .i64 a1, .int .i64 a2, .bool a3] 151
 replace x1 := x1.alloc (.cells #[.int .i64 b1, .int .i64 b2, .bool b3] 151)
 have x2 := Bk.new (w.alloc (.cells #[.int .i64 a1, .int .i64 a2, .bool a3] 151)) #[.int .i64 b1, .int .i64 b2, .bool b3] 151
 have hF : Far w ((w.alloc (.cells #[.int .i64 a1, .int .i64 a2, .bool a3] 151)).alloc (.cells #[.int .i64 b1, .int .i64 b2, .bool b3] 151)) := ((Far.refl w).alloc _).alloc _
 simp only [World.size_alloc] at x2
 have cm := fun x y => AnyG.cmp_Compare_int laysCmp x y
 go_enter Tryz.func92, Tryz.ntmps92
 go_upto_region 1 with (fail)
 obtain ⟨w1, hw1⟩ : ∃ w1, (w.alloc (.cells #[.int .i64 a1, .int .i64 a2, .bool a3] 151)).alloc (.cells #[.int .i64 b1, .int .i64 b2, .bool b3] 151) = w1 := ⟨_, rfl⟩
 rw [hw1] at x1 x2 hF ⊢
 clear hw1
 have p0 := x1.cell 0
 have p1 := x1.cell 1
 have p2 := x1.cell 2
 have q0 := x2.cell 0
 have q1 := x2.cell 1
 have q2 := x2.cell 2
 simp only [List.getElem?_toArray, List.getElem?_cons_zero, List.getElem?_cons_succ] at p0 p1 p2 q0 q1 q2
 have hS : ∀ W, Far w1 W → (W.cell? ⟨w.heap.size, 0, none⟩ = some (.int .i64 a1) ∧ W.cell? ⟨w.heap.size, 1, none⟩ = some (.int .i64 a2) ∧ W.cell? ⟨w.heap.size, 2, none⟩ = some (.bool a3) ∧ W.cell? ⟨w.heap.size + 1, 0, none⟩ = some (.int .i64 b1) ∧ W.cell? ⟨w.heap.size + 1, 1, none⟩ = some (.int .i64 b2) ∧ W.cell? ⟨w.heap.size + 1, 2, none⟩ = some (.bool b3) ∧ Far w1 W) :=
  fun W h => ⟨h.cell p0, h.cell p1, h.cell p2, h.cell q0, h.cell q1, h.cell q2, h⟩
 have hor : ∀ (W : World) (bb : Nat) (x y z : Int), bb = W.heap.size → Calls Tryz.prog 141 #[.slice (some ⟨bb, 0, none⟩) 3 3] (W.alloc (.cells #[.int .i64 x, .int .i64 y, .int .i64 z] 3)).drew fun e w' => e = .returned (.int .i64 (orI [x, y, z])) ∧ w' = (W.alloc (.cells #[.int .i64 x, .int .i64 y, .int .i64 z] 3)).drew := fun W bb x y z hbb => hbb ▸
  or_is rfl (by omega) fun i u hi => by
   show (W.alloc (.cells #[.int .i64 x, .int .i64 y, .int .i64 z] 3)).cell? _ = _
   rw [(Bk.new W #[.int .i64 x, .int .i64 y, .int .i64 z] 3).cell i]
   rcases i with _ | _ | _ | i <;> simp at hi ⊢ <;> exact hi
 clear x1 x2 p0 p1 p2 q0 q1 q2
 go_region_held3 (fun w' => w'.cell? ⟨w.heap.size, 0, none⟩ = some (.int .i64 a1) ∧ w'.cell? ⟨w.heap.size, 1, none⟩ = some (.int .i64 a2) ∧ w'.cell? ⟨w.heap.size, 2, none⟩ = some (.bool a3) ∧ w'.cell? ⟨w.heap.size + 1, 0, none⟩ = some (.int .i64 b1) ∧ w'.cell? ⟨w.heap.size + 1, 1, none⟩ = some (.int .i64 b2) ∧ w'.cell? ⟨w.heap.size + 1, 2, none⟩ = some (.bool b3) ∧ Far w1 w')
  (first | assumption | exact hS _ (Far.refl _).drew | exact hS _ ((Far.refl _).drew.alloc _) | exact hS _ (((Far.refl _).drew.alloc _).alloc _) | exact hS _ ((((Far.refl _).drew.alloc _).alloc _).alloc _) | fail)
  (first | (go_at_call 142; refine (cm _ _ _).mono ?_; rintro e w' ⟨rfl, rfl⟩) | (go_at_call 134; refine (hri _).mono ?_; rintro e w' ⟨rfl, rfl⟩) | (go_at_call 134; refine (hrb _).mono ?_; rintro e w' ⟨rfl, rfl⟩) | (go_at_call 141; refine (hor _ _ _ _ _ (by simp)).mono ?_; rintro e w' ⟨rfl, rfl⟩) | fail)
 go_wp2_with fail
 go_ret
 rw [hcf.out]
 exact ⟨rfl, (((hF.alloc _).alloc _).alloc _).drew⟩
theorem collect_in (m : Nat) (hm : 6 ≤ m) {H : Type} {R : Value → Option (DataW H × List MemPlace)} {D0 : DataW H} {L : List Ed} (hK : KeysAre D0 L) (hL : L.length ≤ 1000000) (Bm b nn : Nat) (w : World)
 (hmm : w.cell? ⟨Bm, 0, none⟩ = some (.map (some b))) (hown : w.ownsMap Tryz.prog 151 R b nn D0) :
 CallsIn Fence.wide m Tryz.prog 138 #[.func (.func 140) #[] #[.pointer (some ⟨Bm, 0, none⟩)]] w fun e w' =>
  ∃ v ys, e = .returned v ∧ ys.Perm L ∧ w'.ownsRow w.heap.size 151 3 v ys.length (ecells ys) ∧ Below w.heap.size w w' := by
 refine callsIn_of_wp Tryz.func138 rfl trivial ?_ rfl
 simp only [Tryz.ntmps138, List.size_toArray, List.length_cons, List.length_nil, Nat.reduceAdd, Nat.reduceSub, Array.replicate_succ, Array.replicate_zero, List.push_toArray, List.append_toArray, List.nil_append, List.cons_append]
 have h1 : 1 ≤ m := by omega
 gi_wp2
 refine ⟨trivial, (appendSeq_in (m - 1) (by omega) hK hL Bm b nn _ hmm hown).mono ?_⟩
 rintro e w' ⟨v, ys, rfl, hp, hrow, hb⟩
 gi_wp2
 go_ret
 exact ⟨v, ys, rfl, hp, hrow, hb⟩
theorem flat_div {ys : List Ed} {t : Nat} (h : t < ys.length * 3) : (ecells ys)[t]? = some (flatK ecell 3 ys.toArray)[t]! := by
 have hi : t / 3 < ys.length := by omega
 have e := flat_get ecell (sz := 3) (fun _ => rfl) (l := ys) (i := t / 3) (k := t % 3) (a := ys[t / 3]) (List.getElem?_eq_getElem hi) (by omega)
 rw [show t / 3 * 3 + t % 3 = t by omega] at e
 rw [get_flatK _ _ _ _ (by simpa using h)]
 show (ys.flatMap ecell)[t]? = _
 rw [e]
 have e2 : ys.toArray[t / 3]! = ys[t / 3] := by simp [hi]
 rw [e2, List.getElem?_eq_getElem (by show t % 3 < 3; omega), getElem!_pos _ _ (by show t % 3 < 3; omega)]
theorem holds_own {w : World} {B g cap : Nat} {ys : List Ed} (h : w.ownsRow B 151 3 (.slice (some ⟨g, 0, none⟩) ys.length cap) ys.length (ecells ys)) : HoldsK ecell 3 w g 0 ys.toArray := fun j hj => by
 rw [size_flatK, List.size_toArray] at hj
 rcases h.2 with ⟨e, _⟩ | ⟨g2, cap2, cur, e, _, hh, _, _, _, ht⟩
 · cases e
 injection e with e _ _
 injection e with e
 injection e with e _ _
 subst e
 refine ⟨?_, Bk.fz hh _⟩
 rw [Nat.zero_add, Bk.cell hh j, ← Array.getElem?_toList, id_eq, ← flat_div hj, ← ht, List.getElem?_take_of_lt hj]
theorem rd_holds {w : World} {g cap : Nat} {d : Array Ed} (h : HoldsK ecell 3 w g 0 d) (hg : g < w.heap.size) (hc : d.size ≤ cap) (hm : cap ≤ maxLen) : Rd w w.heap.size 3 (some ⟨g, 0, none⟩) d.size cap (ecells d.toList) := by
 refine ⟨by rw [ecells_len]; simp, hc, hm, fun e => (by cases e), fun _ => ⟨g, 0, rfl, hg, fun j u hj => ?_⟩⟩
 have hj2 : j < d.size * 3 := by
  have := (List.getElem?_eq_some_iff.1 hj).1
  rwa [ecells_len] at this
 rw [flat_div (by simpa using hj2)] at hj
 have := (h j (by rw [size_flatK]; exact hj2)).1
 rw [this]
 simpa using hj
theorem grown_sort {w : World} {g n : Nat} {os : Array Obj} {d : Array Ed} : w.grownBy (sortWorldK ecell 3 w g 0 n d os) (some g) := by
 refine ⟨rfl, rfl, rfl, size_sortWorldK_c ecell 3 w g 0 n d os, fun k hk hne => ?_⟩
 have : g ≠ k := fun e => hne (by rw [e])
 rw [sortWorldK, heap_grow_old _ _ (by simpa [putRowK, putRow, mapBlock, Sort.ahead] using hk)]
 simp [putRowK, putRow, mapBlock, Sort.ahead, Array.getElem?_modify, this]
def Rising (l : List Ed) : Prop := l.Pairwise fun a b => cfE a b < 0
theorem cfE_ne {a b : Ed} (h : a ≠ b) (h2 : ¬ cfE b a < 0) : cfE a b < 0 := by
 rw [cfE_neg] at *
 have h3 : ¬ (a.1 = b.1 ∧ a.2.1 = b.2.1 ∧ riI a = riI b) := fun ⟨e1, e2, e3⟩ => h (by
  refine Prod.ext e1 (Prod.ext e2 ?_)
  unfold riI at e3
  cases ha : a.2.2 <;> cases hb : b.2.2 <;> simp [ha, hb] at e3 ⊢)
 omega
theorem rising_of {d : Array Ed} (hs : SortedIn (ltOf cfE) 0 d.size d) (hn : d.toList.Nodup) : Rising d.toList := by
 refine List.pairwise_iff_getElem.2 fun i j hi hj hij => ?_
 simp only [Array.length_toList] at hi hj
 have := hs i j (Nat.zero_le _) hij hj
 simp only [ltOf, decide_eq_false_iff_not] at this
 rw [getElem!_pos d i hi, getElem!_pos d j hj] at this
 simp only [Array.getElem_toList]
 refine cfE_ne (fun e => ?_) this
 exact absurd (List.pairwise_iff_getElem.1 hn i j (by simpa using hi) (by simpa using hj) hij) (by simpa using e)
theorem aggE (w : World) : (isAgg 151).run Tryz.prog w = .ok true w := Tryz.isAgg151 w
theorem sizeE (w : World) : (Go.sizeOf 151).run Tryz.prog w = .ok 3 w := Tryz.sizeOf151 w
theorem sort_any {w : World} {B g cap : Nat} {ys : List Ed} (h : w.ownsRow B 151 3 (.slice (some ⟨g, 0, none⟩) ys.length cap) ys.length (ecells ys)) (hn : ys.Nodup) (h0 : 0 < ys.length) (hl : ys.length ≤ 1000000) :
 Calls Tryz.prog 139 #[.slice (some ⟨g, 0, none⟩) ys.length cap, .func (.func 92) #[] #[]] w fun e w' => e = .returned (.tuple #[]) ∧ ∃ zs : List Ed, zs.Perm ys ∧ Rising zs ∧
  Rd w' w'.heap.size 3 (some ⟨g, 0, none⟩) ys.length cap (ecells zs) ∧ w.grownBy w' (some g) := by
 have hg := (h.lt g rfl).2
 have hH := holds_own h
 have hcap : ys.length ≤ cap ∧ cap ≤ maxLen := by
  obtain ⟨A, c, e, hr⟩ := Rd.own h
  injection e with _ _ e
  subst e
  exact ⟨hr.cap, hr.capm⟩
 have hc : CmpLays Tryz.prog 92 #[] ecell 3 cfE g 0 ys.toArray.size w := fun m os dk _ x y => (compare_any x y _).mono fun _ _ ⟨h1, h2⟩ => ⟨h1, h2.out⟩
 have := AnyQ.slices_SortFunc laysSort 3 aggE sizeE ecell (fun _ => rfl) ecell_one cfE swoE 92 #[] g 0 cap ys.toArray w (enters_of Tryz.func92 (by kernel_rfl) rfl) hc hH hg (by simp; omega)
 rw [List.size_toArray] at this
 refine this.mono ?_
 rintro e w' ⟨rfl, d', n, os, hp, hs, rfl⟩
 have hsz : d'.size = ys.length := by simpa using hp.1
 have hpp : d'.toList.Perm ys := by
  have := hp.2.2
  have e : d'.toList.take ys.length = d'.toList := List.take_of_length_le (by simp [hsz])
  simpa [e, hsz] using this
 refine ⟨rfl, d'.toList, hpp, rising_of (by rw [hsz]; exact hs) (hpp.nodup_iff.2 hn), ?_, grown_sort⟩
 have hh := holdsK_sortWorldK_c ecell 3 w g 0 ys.toArray d' n os hH hg (by simpa using hsz)
 have := rd_holds (cap := cap) hh (lt_sortWorldK ecell 3 w g 0 n d' os hg) (by omega) hcap.2
 rwa [hsz] at this
theorem insertion_none (p : Option Addr) (cap : Nat) (fv : Value) (w : World) : Calls Tryz.prog 199 #[.slice p 0 cap, .int .i64 0, .int .i64 0, fv] w fun e w' => e = .returned (.tuple #[]) ∧ w' = w := by
 go_enter Tryz.func199, Tryz.ntmps199
 go_wp2_with fail
 refine wp_loop_rounds 1 ?_
 rw [rounds_succ]
 go_wp2_with fail
 go_end0
 exact ⟨rfl, rfl⟩
theorem pdq_none (p : Option Addr) (cap : Nat) (lim : Int) (fv : Value) (w : World) : Calls Tryz.prog 179 #[.slice p 0 cap, .int .i64 0, .int .i64 0, .int .i64 lim, fv] w fun e w' => e = .returned (.tuple #[]) ∧ w' = w := by
 have hi := fun W => insertion_none p cap fv W
 go_enter Tryz.func179, Tryz.ntmps179
 go_wp2_with fail
 refine wp_loop_rounds 1 ?_
 rw [rounds_succ]
 go_wp2_with (go_at_call 199; refine (hi _).mono ?_; rintro e w' ⟨rfl, rfl⟩)
 (try simp only [Exit.inBlock, Exit.then])
 refine bodyPost_ret (results_none rfl _ _ _) rfl ?_
 exact ⟨rfl, rfl⟩
theorem sort_none (p : Option Addr) (cap : Nat) (fv : Value) (w : World) : Calls Tryz.prog 139 #[.slice p 0 cap, fv] w fun e w' => e = .returned (.tuple #[]) ∧ w' = w := by
 have hp := fun lim W => pdq_none p cap lim fv W
 have hl : ∀ W, Calls Tryz.prog 180 #[.int .u64 0] W fun e w' => e = .returned (.int .i64 (Lib.bitLen 0 : Nat)) ∧ w' = W := fun W => by
  have h := Any.bits_Len (SlLaysF0.n15.bits (P := Tryz.prog) (ρ := laysSort_ren) { laysSort with }) 0 W (by omega) (by omega)
  exact h
 go_enter Tryz.func139, Tryz.ntmps139
 go_wp2_with (first | (go_at_call 180; refine (hl _).mono ?_; rintro e w' ⟨rfl, rfl⟩) | (go_at_call 179; refine (hp _ _).mono ?_; rintro e w' ⟨rfl, rfl⟩))
 go_end0
 exact ⟨rfl, rfl⟩
theorem sortedFunc_any {H : Type} {R : Value → Option (DataW H × List MemPlace)} {D0 : DataW H} {L : List Ed} (hK : KeysAre D0 L) (hL : L.length ≤ 1000000) (Bm b nn : Nat) (w : World)
 (hmm : w.cell? ⟨Bm, 0, none⟩ = some (.map (some b))) (hown : w.ownsMap Tryz.prog 151 R b nn D0) :
 Calls Tryz.prog 90 #[.func (.func 140) #[] #[.pointer (some ⟨Bm, 0, none⟩)], .func (.func 92) #[] #[]] w fun e w' =>
  ∃ A c zs, e = .returned (.slice A L.length c) ∧ zs.Perm L ∧ Rising zs ∧ Rd w' w'.heap.size 3 A L.length c (ecells zs) ∧ Below w.heap.size w w' := by
 have kc := callsIn_wide.1 (collect_in 6 (Nat.le_refl _) hK hL Bm b nn w hmm hown)
 go_enter Tryz.func90, Tryz.ntmps90
 go_wp2_with (go_at_call 138; refine kc.mono ?_; rintro e w1 ⟨v, ys, rfl, hp, hrow, hb⟩)
 have hl := hp.length_eq
 rcases Nat.eq_zero_or_pos ys.length with h0 | h0
 · obtain ⟨A, c, rfl, hr⟩ := Rd.own hrow
   obtain rfl : ys = [] := List.eq_nil_of_length_eq_zero h0
   obtain rfl : L = [] := hp.nil_eq.symm
   have hr := Lib.hid hr
   clear hrow hp hl h0
   go_wp2_with (go_at_call 139; refine (sort_none _ _ _ _).mono ?_; rintro e w' ⟨rfl, hw2⟩)
   subst hw2
   go_ret
   exact ⟨A, c, [], rfl, List.Perm.refl _, List.Pairwise.nil, hr.out, hb⟩
 · have hc : ∃ g c, v = .slice (some ⟨g, 0, none⟩) ys.length c := by
    rcases hrow.2 with ⟨_, h1⟩ | ⟨g, cap, _, h1, _⟩
    · omega
    · exact ⟨g, cap, h1⟩
   obtain ⟨g, c, rfl⟩ := hc
   have ks := sort_any hrow (hp.nodup_iff.2 hK.nodup) h0 (by omega)
   have hg := (hrow.lt g rfl).1
   go_wp2_with (go_at_call 139; refine ks.mono ?_; rintro e w2 ⟨rfl, zs, hz, hs, hR, hgr⟩)
   go_ret
   rw [← hl]
   exact ⟨_, _, zs, rfl, hz.trans hp, hs, hR, hb.grown hgr hb.size fun k e => by cases e; exact hg⟩
end Go.Proofs.YtahegpfdbgbioaaGreat
namespace Go.Proofs.YtahegpfdbgbioaaGreat
theorem plc_le4 (s : ByteArray) : ∀ k, plc s k ≤ 4 * k
 | 0 => Nat.le_refl _
 | k + 1 => by
  have ih := plc_le4 s k
  by_cases h : plc s k < s.size
  · rw [plc_succ h]; have := wd_le4 h; omega
  · rw [plc_stay h]; omega
theorem name_size {x : ByteArray} (h : nameS x = true) : x.size ≤ 96 := by
 have h1 := (nameS_iff.1 h).2.1
 have h2 := plc_le4 x (cnt x)
 rw [(cnt_spec x).1] at h2
 omega
end Go.Proofs.YtahegpfdbgbioaaGreat
