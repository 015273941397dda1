/- Layer 7: Parse, called: what a text says, or the error and its place, are the document's. Conditions: the text is a string of Go's. -/
import Derived.Test.YteafdhpcnpfmkaaGreatReadW
import Derived.Test.YteafdhpcnpfmkaaGreatParseP
import Derived.Test.YteafdhpcnpfmkaaGreatAllW
namespace Go.Proofs.YteafdhpcnpfmkaaGreat
open Go.RowKit

theorem scan_few (n : Nat) : ∀ (u : ByteArray) (off : Nat), u.size ≤ n → (scan u off).1.length ≤ u.size + 1 := by
  induction n with
  | zero =>
    intro u off hn
    rw [scan_nil (by omega)]
    show 1 ≤ _
    omega
  | succ n ih =>
    intro u off hn
    rcases Nat.eq_zero_or_pos u.size with h | h
    · rw [scan_nil h]
      show 1 ≤ _
      omega
    by_cases h3 : 3 ≤ kd u
    · rw [scan_err h h3]
      show 0 ≤ _
      omega
    · have hl := cutB_lt h (by omega)
      rw [scan_go h (by omega)]
      have := ih (cutB u (ln u)) (off + plc u (ln u)) (by omega)
      rw [List.length_append]
      have h1 : ∀ (p : Prop) [Decidable p] (t : Tk), (if p then ([] : List Tk) else [t]).length ≤ 1 := fun p _ t => by split <;> simp
      have := h1 (kd u = 0) (kd u, cutA u (ln u), off)
      omega
theorem sign_name {x : ByteArray} (h : nameS x = true) (c : UInt8) (hc : signB c.toNat = true) : x ≠ sg c := by
  rintro rfl
  obtain ⟨h1, _, h3⟩ := nameS_iff.1 h
  have h4 := h3 0 h1
  have h5 := (may_not (u := sg c) (sg_size c) h4).2.1
  have h6 : bt (sg c) 0 = c.toNat := rfl
  rw [h6, hc] at h5
  cases h5
theorem all_fine {s : ByteArray} (hz : s.size ≤ 2048) (h0 : (allS s).2.1 = 0) : Fine (allS s).1 := by
  obtain ⟨v, e0, eA⟩ := all_zero hz h0
  obtain ⟨init, e, hi⟩ := scan_init _ s 0 (Nat.le_refl _) e0
  have hf := scan_few _ s 0 (Nat.le_refl _)
  rw [eA]
  refine ⟨by omega, init, 0 + s.size, e, fun t ht => ?_⟩
  rcases hi t ht with ⟨h1, h2⟩ | ⟨h1, _⟩
  · exact .inr ⟨h1, fun c hc => sign_name h2 c hc⟩
  · exact .inl h1
theorem all_long {s : ByteArray} (h0 : (allS s).2.1 = 0) : s.size ≤ 2048 := by
  rcases Nat.lt_or_ge 2048 s.size with h | h
  · unfold allS at h0
    rw [if_pos h] at h0
    exact absurd h0 (by decide)
  · exact h
set_option maxRecDepth 100000 in
set_option maxHeartbeats 1000000 in
theorem parse_any (s : ByteArray) (w : World) (f0 : s.size ≤ maxLen) : Calls Tryz.prog 26 #[.string s] w (SPost (parseS s) w) := by
  have ka := all_any s (w.alloc (.cells #[.slice none 0 0] 70)) f0
  unfold AllPost at ka
  have hB : Below w.heap.size w (w.alloc (.cells #[.slice none 0 0] 70)) := (Below.refl _ w).alloc (Nat.le_refl _) _
  have hb := Bk.new w #[.slice none 0 0] 70
  have hz := hb.lt
  by_cases h0 : (allS s).2.1 = 0
  · have hp : parseS s = outS (schemaF (allS s).1) := by unfold parseS; rw [if_pos h0]
    have hf := all_fine (all_long h0) h0
    rw [hp]
    rw [h0] at ka
    have HR : ∀ w1 A c, Toks w1 A c (allS s).1 → _ := fun w1 A c ht => read_any (w := w1) (A := A) (c := c) ht hf
    clear hf h0 hp
    generalize (allS s).1 = l at *
    generalize (allS s).2.2 = q at *
    generalize outS (schemaF l) = o at *
    clear f0
    go_enter Tryz.func26, Tryz.ntmps26
    go_wp2_with fail
    generalize w.alloc (.cells #[.slice none 0 0] 70) = W at *
    refine ka.mono ?_
    rintro e W1 ⟨⟨A, c, rfl, ht⟩, hbw⟩
    replace hB := hB.trans (hbw.mono hB.size)
    replace hb := hb.below hbw
    have hz1 := hb.lt
    clear ka hbw
    go_wp2_with fail
    refine (HR _ _ _ ht).mono ?_
    rintro e W2 ⟨vt, rfl, hv, hbw⟩
    replace hB := hB.trans (hbw.mono hB.size)
    replace hb := hb.below hbw
    obtain ⟨xs, h1, h2⟩ := hv
    obtain ⟨A2, c2, rfl, _⟩ := Rd.own h1
    have q0 := hb.c1
    have fz := hb.fz
    clear HR ht hbw
    go_wp2_with fail
    refine bodyPost_ret (v := .tuple #[.agg #[.slice A2 o.1.length c2], .int .i64 o.2.1, .int .i64 o.2.2]) (by simp [results, Tryz.results26, go_sem, q0]; try rfl) rfl ?_
    refine ⟨.slice A2 o.1.length c2, rfl, ⟨xs, ?_, ?_⟩, ?_⟩
    · refine own_base (own_set h1 ?_ _) (show w.heap.size ≤ W1.heap.size by omega)
      dsimp only; omega
    · exact TypsC.base (show w.heap.size ≤ W1.heap.size by omega) (h2.keep (keeps3_set (a := ⟨w.heap.size, 0, none⟩) (by dsimp only; omega) _))
    · refine Below.setCell hB ?_ _
      exact Nat.le_refl _
  · have hp : parseS s = ([], (allS s).2) := by unfold parseS; rw [if_neg h0]
    rw [hp]
    have d0 : ((((allS s).2.1 : Nat) : Int) == 0) = false := by rw [beq_eq_false_iff_ne]; omega
    clear h0 hp f0
    generalize (allS s).2 = q at *
    generalize (allS s).1 = l at *
    go_enter Tryz.func26, Tryz.ntmps26
    go_wp2_with fail
    generalize w.alloc (.cells #[.slice none 0 0] 70) = W at *
    refine ka.mono ?_
    rintro e W1 ⟨⟨A, c, rfl, ht⟩, hbw⟩
    replace hB := hB.trans (hbw.mono hB.size)
    replace hb := hb.below hbw
    have q0 := hb.c1
    have fz := hb.fz
    clear ka hbw
    go_wp2_with fail
    refine bodyPost_ret (v := .tuple #[.agg #[.slice none 0 0], .int .i64 q.1, .int .i64 q.2]) (by simp [results, Tryz.results26, go_sem, q0]; try rfl) rfl ?_
    refine ⟨.slice none 0 0, rfl, ⟨[], World.ownsRow_nil _ _ _ _, rfl⟩, ?_⟩
    refine Below.setCell hB ?_ _
    exact Nat.le_refl _
end Go.Proofs.YteafdhpcnpfmkaaGreat
/- Layer 7: what a schema in memory reads as, cell by cell. Conditions: none. -/
namespace Go.Proofs.YteafdhpcnpfmkaaGreat
open Go.RowKit

theorem TypsC.get {w : World} {B : Nat} : ∀ {l : List TypP} {xs : List Value} {i : Nat} {t : TypP}, TypsC w B l xs → l[i]? = some t → ∃ vr, VRels B w vr t.rels ∧ xs[i * 2]? = some (.string t.name) ∧ xs[i * 2 + 1]? = some vr
  | [], _, _, _, _, h => by simp at h
  | x :: r, xs, 0, t, h, hi => by
    simp only [List.getElem?_cons_zero, Option.some.injEq] at hi
    subst hi
    obtain ⟨ys, zs, rfl, ⟨vr, rfl, h1⟩, _⟩ := h
    exact ⟨vr, h1, rfl, rfl⟩
  | x :: r, xs, i + 1, t, h, hi => by
    simp only [List.getElem?_cons_succ] at hi
    obtain ⟨ys, zs, rfl, ⟨vr, rfl, _⟩, h2⟩ := h
    obtain ⟨v2, a, b, c⟩ := TypsC.get h2 hi
    refine ⟨v2, a, ?_, ?_⟩
    · rw [List.getElem?_append_right (by simp; omega), ← b]
      congr 1
      simp
      omega
    · rw [List.getElem?_append_right (by simp; omega), ← c]
      congr 1
      simp
      omega
theorem RelsC.get {w : World} {B : Nat} : ∀ {l : List RelP} {xs : List Value} {i : Nat} {x : RelP}, RelsC w B l xs → l[i]? = some x → ∃ vs vo, VSubs B w vs x.subs ∧ VOps B w vo x.ops ∧ xs[i * 6]? = some (.string x.name) ∧ xs[i * 6 + 1]? = some (.string x.view) ∧ xs[i * 6 + 2]? = some (.string x.edit) ∧ xs[i * 6 + 3]? = some (.string x.check) ∧ xs[i * 6 + 4]? = some vs ∧ xs[i * 6 + 5]? = some vo
  | [], _, _, _, _, h => by simp at h
  | y :: r, xs, 0, x, h, hi => by
    simp only [List.getElem?_cons_zero, Option.some.injEq] at hi
    subst hi
    obtain ⟨ys, zs, rfl, ⟨vs, vo, rfl, h1, h2⟩, _⟩ := h
    exact ⟨vs, vo, h1, h2, rfl, rfl, rfl, rfl, rfl, rfl⟩
  | y :: r, xs, i + 1, x, h, hi => by
    simp only [List.getElem?_cons_succ] at hi
    obtain ⟨ys, zs, rfl, ⟨vs, vo, rfl, _, _⟩, h2⟩ := h
    obtain ⟨v2, v3, a1, a2, b0, b1, b2, b3, b4, b5⟩ := RelsC.get h2 hi
    have key : ∀ (k : Nat) (u : Value), zs[i * 6 + k]? = some u → ([.string y.name, .string y.view, .string y.edit, .string y.check, vs, vo] ++ zs)[(i + 1) * 6 + k]? = some u := fun k u hk => by
      rw [List.getElem?_append_right (by simp; omega), ← hk]
      congr 1
      simp
      omega
    exact ⟨v2, v3, a1, a2, key 0 _ b0, key 1 _ b1, key 2 _ b2, key 3 _ b3, key 4 _ b4, key 5 _ b5⟩
theorem ocells_at : ∀ (l : List OpP) (i : Nat) (o : OpP), l[i]? = some o → (ocells l)[i * 3]? = some (.int .i64 o.1) ∧ (ocells l)[i * 3 + 1]? = some (.string o.2.1) ∧ (ocells l)[i * 3 + 2]? = some (.string o.2.2)
  | [], _, _, h => by simp at h
  | y :: r, 0, o, hi => by
    simp only [List.getElem?_cons_zero, Option.some.injEq] at hi
    subst hi
    exact ⟨rfl, rfl, rfl⟩
  | y :: r, i + 1, o, hi => by
    simp only [List.getElem?_cons_succ] at hi
    obtain ⟨b0, b1, b2⟩ := ocells_at r i o hi
    have key : ∀ (k : Nat) (u : Value), (ocells r)[i * 3 + k]? = some u → (ocells (y :: r))[(i + 1) * 3 + k]? = some u := fun k u hk => by
      show (ocell y ++ ocells r)[_]? = _
      rw [List.getElem?_append_right (by simp [ocell]; omega), ← hk]
      congr 1
      simp [ocell]
      omega
    exact ⟨key 0 _ b0, key 1 _ b1, key 2 _ b2⟩
theorem scells_at : ∀ (l : List SubP) (i : Nat) (s : SubP), l[i]? = some s → (scells l)[i * 2]? = some (.string s.1) ∧ (scells l)[i * 2 + 1]? = some (.string s.2)
  | [], _, _, h => by simp at h
  | y :: r, 0, o, hi => by
    simp only [List.getElem?_cons_zero, Option.some.injEq] at hi
    subst hi
    exact ⟨rfl, rfl⟩
  | y :: r, i + 1, o, hi => by
    simp only [List.getElem?_cons_succ] at hi
    obtain ⟨b0, b1⟩ := scells_at r i o hi
    have key : ∀ (k : Nat) (u : Value), (scells r)[i * 2 + k]? = some u → (scells (y :: r))[(i + 1) * 2 + k]? = some u := fun k u hk => by
      show (scell y ++ scells r)[_]? = _
      rw [List.getElem?_append_right (by simp [scell]; omega), ← hk]
      congr 1
      simp [scell]
      omega
    exact ⟨key 0 _ b0, key 1 _ b1⟩
/-- A row of the call's own that isn't empty: where it lies. -/
theorem own_at {w : World} {B : Nat} {e : TypeId} {size n : Nat} {v : Value} {xs : List Value} (h : w.ownsRow B e size v n xs) (hn : 0 < n) : ∃ g c, v = .slice (some ⟨g, 0, none⟩) n c ∧ n ≤ c ∧ g < w.heap.size ∧ ∀ j u, xs[j]? = some u → w.cell? ⟨g, j, none⟩ = some u := by
  obtain ⟨A, c, rfl, hr⟩ := Rd.own h
  rcases h.2 with ⟨he, hx⟩ | ⟨g, cap, cur, he, _⟩
  · omega
  · obtain ⟨b, o, h1, h2, h3⟩ := hr.at_ hn
    injection he with e1 e2 e3
    rw [e1] at h1
    injection h1 with h1
    injection h1 with h4 h5 _
    subst h4
    subst h5
    refine ⟨g, c, by rw [e1], hr.cap, h2, fun j u hj => ?_⟩
    have := h3 j u hj
    rwa [Nat.zero_add] at this
/-- What is read of the type at place i. -/
theorem VTyps.get {w : World} {B : Nat} {v : Value} {l : List TypP} (h : VTyps B w v l) {i : Nat} {t : TypP} (hi : l[i]? = some t) :
    ∃ g c vr, v = .slice (some ⟨g, 0, none⟩) l.length c ∧ VRels B w vr t.rels ∧ w.cell? ⟨g, i * 2, none⟩ = some (.string t.name) ∧ w.cell? ⟨g, i * 2 + 1, none⟩ = some vr := by
  obtain ⟨xs, h1, h2⟩ := h
  have hl : i < l.length := (List.getElem?_eq_some_iff.1 hi).1
  obtain ⟨vr, hr, a, b⟩ := h2.get hi
  obtain ⟨g, c, e, _, _, hc⟩ := own_at h1 (by omega)
  exact ⟨g, c, vr, e, hr, hc _ _ a, hc _ _ b⟩
theorem VRels.get {w : World} {B : Nat} {v : Value} {l : List RelP} (h : VRels B w v l) {i : Nat} {x : RelP} (hi : l[i]? = some x) :
    ∃ g c vs vo, v = .slice (some ⟨g, 0, none⟩) l.length c ∧ VSubs B w vs x.subs ∧ VOps B w vo x.ops ∧ w.cell? ⟨g, i * 6, none⟩ = some (.string x.name) ∧ w.cell? ⟨g, i * 6 + 1, none⟩ = some (.string x.view) ∧ w.cell? ⟨g, i * 6 + 2, none⟩ = some (.string x.edit) ∧ w.cell? ⟨g, i * 6 + 3, none⟩ = some (.string x.check) ∧ w.cell? ⟨g, i * 6 + 4, none⟩ = some vs ∧ w.cell? ⟨g, i * 6 + 5, none⟩ = some vo := by
  obtain ⟨xs, h1, h2⟩ := h
  have hl : i < l.length := (List.getElem?_eq_some_iff.1 hi).1
  obtain ⟨vs, vo, hs, ho, b0, b1, b2, b3, b4, b5⟩ := h2.get hi
  obtain ⟨g, c, e, _, _, hc⟩ := own_at h1 (by omega)
  exact ⟨g, c, vs, vo, e, hs, ho, hc _ _ b0, hc _ _ b1, hc _ _ b2, hc _ _ b3, hc _ _ b4, hc _ _ b5⟩
theorem VOps.get {w : World} {B : Nat} {v : Value} {l : List OpP} (h : VOps B w v l) {i : Nat} {o : OpP} (hi : l[i]? = some o) :
    ∃ g c, v = .slice (some ⟨g, 0, none⟩) l.length c ∧ w.cell? ⟨g, i * 3, none⟩ = some (.int .i64 o.1) ∧ w.cell? ⟨g, i * 3 + 1, none⟩ = some (.string o.2.1) ∧ w.cell? ⟨g, i * 3 + 2, none⟩ = some (.string o.2.2) := by
  have hl : i < l.length := (List.getElem?_eq_some_iff.1 hi).1
  obtain ⟨b0, b1, b2⟩ := ocells_at l i o hi
  obtain ⟨g, c, e, _, _, hc⟩ := own_at h (by omega)
  exact ⟨g, c, e, hc _ _ b0, hc _ _ b1, hc _ _ b2⟩
theorem VSubs.get {w : World} {B : Nat} {v : Value} {l : List SubP} (h : VSubs B w v l) {i : Nat} {o : SubP} (hi : l[i]? = some o) :
    ∃ g c, v = .slice (some ⟨g, 0, none⟩) l.length c ∧ w.cell? ⟨g, i * 2, none⟩ = some (.string o.1) ∧ w.cell? ⟨g, i * 2 + 1, none⟩ = some (.string o.2) := by
  have hl : i < l.length := (List.getElem?_eq_some_iff.1 hi).1
  obtain ⟨b0, b1⟩ := scells_at l i o hi
  obtain ⟨g, c, e, _, _, hc⟩ := own_at h (by omega)
  exact ⟨g, c, e, hc _ _ b0, hc _ _ b1⟩
theorem VTyps.below {w w' : World} {B : Nat} {v : Value} {l : List TypP} (h : VTyps B w v l) (hb : Below w.heap.size w w') : VTyps B w' v l := by
  obtain ⟨xs, h1, h2⟩ := h
  exact ⟨xs, own_below h1 hb, h2.keep (keeps3_below hb)⟩
/-- Parse as a contract for the walks: its answers by name. -/
theorem parse_named (s : ByteArray) (hz : s.size ≤ 1000000) {l : List TypP} {e p : Nat} (h : parseS s = (l, e, p)) (W : World) :
    Calls Tryz.prog 26 #[.string s] W fun r w' => (∃ A c, r = .returned (.tuple #[.agg #[.slice A l.length c], .int .i64 e, .int .i64 p]) ∧ VTyps W.heap.size w' (.slice A l.length c) l) ∧ Below W.heap.size W w' := by
  have k := parse_any s W (by unfold maxLen; omega)
  rw [h] at k
  refine k.mono fun r w' ⟨vt, h1, h2, h3⟩ => ?_
  obtain ⟨A, c, rfl, _⟩ := Rd.own h2.choose_spec.1
  exact ⟨⟨A, c, h1, h2⟩, h3⟩
end Go.Proofs.YteafdhpcnpfmkaaGreat
