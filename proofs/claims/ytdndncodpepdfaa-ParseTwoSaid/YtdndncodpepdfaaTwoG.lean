/- Two texts that say something, one behind the other, say both. Conditions: texts of at most 900 bytes. -/
import Derived.Test.YtdndncodpepdfaaTwoF
namespace Go.Proofs.Ytdndncodpepdfaa

/-! the same tokens at other places -/
section
variable {d : Nat}
theorem hdT_map (l : List Tk) : (hdT (l.map (shT d))).1 = (hdT l).1 ∧ (hdT (l.map (shT d))).2.1 = (hdT l).2.1 := by cases l <;> exact ⟨rfl, rfl⟩
theorem isT_map (s : ByteArray) (l : List Tk) : isT s (l.map (shT d)) = isT s l := by
  obtain ⟨h1, h2⟩ := hdT_map (d := d) l
  unfold isT
  rw [h1, h2]
theorem opT_map (l : List Tk) : opT (l.map (shT d)) = opT l := by unfold opT; rw [isT_map, isT_map, isT_map]
def Mp {α : Type} (d : Nat) (r r' : Rs α) : Prop := ∀ o m, r = .ok (o, m) → r' = .ok (o, m.map (shT d))
theorem Mp.and {α β : Type} {r r' : Rs α} {k k' : α → List Tk → Rs β} (h : Mp d r r') (hk : ∀ a l, Mp d (k a l) (k' a (l.map (shT d)))) : Mp d (andT r k) (andT r' k') := by
  intro o m he
  obtain ⟨a, m1, e1, e2⟩ := andT_inv he
  rw [h a m1 e1, andT_ok]
  exact hk a m1 o m e2
theorem Mp.ok {α : Type} (a : α) (l : List Tk) : Mp d (.ok (a, l) : Rs α) (.ok (a, l.map (shT d))) := fun o m h => by cases h; rfl
theorem Mp.tl {α : Type} (a : α) (l : List Tk) : Mp d (.ok (a, l.tail) : Rs α) (.ok (a, (l.map (shT d)).tail)) := fun o m h => by cases h; rw [List.map_tail]
theorem Mp.bad {α : Type} {c : Nat} {l : List Tk} (r' : Rs α) : Mp d (badT c l : Rs α) r' := fun _ _ h => by cases h
theorem Mp.name (l : List Tk) : Mp d (nameT l) (nameT (l.map (shT d))) := by
  obtain ⟨h1, h2⟩ := hdT_map (d := d) l
  unfold nameT
  rw [h1, h2]
  split
  · exact Mp.tl _ _
  · exact Mp.bad _
theorem Mp.need (s : ByteArray) (l : List Tk) : Mp d (needT s l) (needT s (l.map (shT d))) := by
  unfold needT
  rw [isT_map]
  split
  · exact Mp.tl _ _
  · exact Mp.bad _
theorem Mp.parts : ∀ f : Nat, (∀ n l, Mp d (partF f n l) (partF f n (l.map (shT d)))) ∧ (∀ n acc l, Mp d (moreF f n acc l) (moreF f n acc (l.map (shT d))))
  | 0 => ⟨fun n l => (by unfold partF; exact Mp.bad _), fun n acc l => (by unfold moreF; exact Mp.bad _)⟩
  | f + 1 => by
    obtain ⟨ih1, ih2⟩ := Mp.parts f
    constructor
    · intro n l
      unfold partF
      rw [isT_map, isT_map, ← List.map_tail]
      split
      · exact Mp.ok _ _
      · split
        · split
          · exact Mp.bad _
          · exact (ih1 _ _).and fun a l => (ih2 _ _ _).and fun a l => (Mp.need _ _).and fun a l => Mp.ok _ _
        · refine (Mp.name _).and fun a l => ?_
          rw [isT_map, ← List.map_tail]
          split
          · exact (Mp.name _).and fun a l => Mp.ok _ _
          · exact Mp.ok _ _
    · intro n acc l
      unfold moreF
      rw [opT_map, ← List.map_tail]
      split
      · exact Mp.ok _ _
      · exact (ih1 _ _).and fun a l => ih2 _ _ _
theorem Mp.who : ∀ (f : Nat) (acc : List SubP) (l : List Tk), Mp d (whoF f acc l) (whoF f acc (l.map (shT d)))
  | 0, acc, l => by unfold whoF; exact Mp.bad _
  | f + 1, acc, l => by
    unfold whoF
    refine (Mp.name _).and fun n l => Mp.and ?_ fun m l => ?_
    · rw [isT_map, ← List.map_tail]
      split
      · exact Mp.name _
      · exact Mp.ok _ _
    · rw [isT_map, ← List.map_tail]
      split
      · exact Mp.who f _ _
      · exact Mp.ok _ _
theorem Mp.rel (f : Nat) (l : List Tk) : Mp d (relF f l) (relF f (l.map (shT d))) := by
  unfold relF
  refine (Mp.name _).and fun _ l => (Mp.need _ _).and fun _ l => (Mp.name _).and fun _ l => (Mp.need _ _).and fun _ l => (Mp.name _).and fun _ l => (Mp.need _ _).and fun _ l => (Mp.name _).and fun _ l => (Mp.need _ _).and fun _ l => (Mp.need _ _).and fun _ l => Mp.and ?_ fun _ l => Mp.and ?_ fun _ l => (Mp.need _ _).and fun _ l => Mp.ok _ _
  · rw [isT_map, isT_map]
    split
    · exact Mp.ok _ _
    · exact Mp.who f _ _
  · rw [isT_map, ← List.map_tail]
    split
    · unfold rewF
      exact ((Mp.parts f).1 _ _).and fun a l => (Mp.parts f).2 _ _ _
    · exact Mp.ok _ _
theorem Mp.rels : ∀ (g f : Nat) (acc : List RelP) (l : List Tk), Mp d (relsF f g acc l) (relsF f g acc (l.map (shT d)))
  | 0, f, acc, l => by unfold relsF; exact Mp.bad _
  | g + 1, f, acc, l => by
    unfold relsF
    rw [isT_map, ← List.map_tail]
    split
    · exact (Mp.rel f _).and fun _ l => Mp.rels g f _ _
    · exact Mp.ok _ _
theorem Mp.types : ∀ (g f : Nat) (acc : List TypP) (l : List Tk), Mp d (typesF f g acc l) (typesF f g acc (l.map (shT d)))
  | 0, f, acc, l => by unfold typesF; exact Mp.bad _
  | g + 1, f, acc, l => by
    unfold typesF
    rw [isT_map, ← List.map_tail]
    split
    · exact (Mp.name _).and fun _ l => (Mp.need _ _).and fun _ l => (Mp.rels f f _ _).and fun _ l => (Mp.need _ _).and fun _ l => Mp.types g f _ _
    · exact Mp.ok _ _
theorem typesT_map {acc o : List TypP} {l r : List Tk} (h : typesT acc l = .ok (o, r)) : typesT acc (l.map (shT d)) = .ok (o, r.map (shT d)) := by
  have := Mp.types (d := d) _ _ _ _ _ _ h
  unfold typesT
  rw [List.length_map]
  exact this
end
/-! more types ahead -/
theorem typesF_acc : ∀ (g f : Nat) (a acc : List TypP) (l : List Tk) (o : List TypP) (r : List Tk), typesF f g acc l = .ok (o, r) → typesF f g (a ++ acc) l = .ok (a ++ o, r)
  | 0, f, a, acc, l, o, r, h => by unfold typesF at h; cases h
  | g + 1, f, a, acc, l, o, r, h => by
    unfold typesF at h ⊢
    by_cases hc : isT sType l = true
    · rw [if_pos hc] at h ⊢
      obtain ⟨x1, m1, e1, h⟩ := andT_inv h
      obtain ⟨x2, m2, e2, h⟩ := andT_inv h
      obtain ⟨x3, m3, e3, h⟩ := andT_inv h
      obtain ⟨x4, m4, e4, h⟩ := andT_inv h
      rw [e1, andT_ok, e2, andT_ok, e3, andT_ok, e4, andT_ok, List.append_assoc]
      exact typesF_acc g f a _ _ _ _ h
    · rw [if_neg hc] at h ⊢
      cases h
      rfl
section
variable {p : Nat} {l2 : List Tk}
theorem need_end {s : ByteArray} (hs : 0 < s.size) {u : Unit} {m : List Tk} : ¬ needT s ([] ++ [enT p]) = .ok (u, m) := by
  unfold needT
  rw [List.nil_append, isT_end hs]
  intro h
  cases h
theorem need_cons {s : ByteArray} {b : Tk} {t : List Tk} {u : Unit} {m : List Tk} (l l' : List Tk) (h : needT s (b :: t ++ l) = .ok (u, m)) : m = t ++ l ∧ needT s (b :: t ++ l') = .ok ((), t ++ l') := by
  unfold needT at h ⊢
  rw [isT_app l' l]
  by_cases hc : isT s (b :: t ++ l) = true
  · rw [if_pos hc] at h ⊢
    cases h
    exact ⟨rfl, rfl⟩
  · rw [if_neg hc] at h
    cases h
theorem two_types : ∀ (g F : Nat) (acc : List TypP) (x : List Tk) (o : List TypP) (m : List Tk), typesF F g acc (x ++ [enT p]) = .ok (o, m) → (hdT m).1 = 3 → (∀ t ∈ x, t.1 ≠ 3) → (x ++ l2).length < F → typesT acc (x ++ l2) = typesT o l2
  | 0, F, acc, x, o, m, h, _, _, _ => by unfold typesF at h; cases h
  | g + 1, F, acc, [], o, m, h, _, _, _ => by
    unfold typesF at h
    rw [List.nil_append, isT_end sType_size, if_neg (by decide)] at h
    cases h
    rfl
  | g + 1, F, acc, b :: t, o, m, h, h3, hx, hF => by
    unfold typesF at h
    rw [typesT_eq]
    by_cases hc : isT sType (b :: t ++ [enT p]) = true
    · have hc2 : isT sType (b :: t ++ l2) = true := hc
      rw [if_pos hc] at h
      rw [if_pos hc2]
      have hlen : t.length + l2.length + 1 < F := by simpa [Nat.add_comm, Nat.add_left_comm, Nat.add_assoc] using hF
      obtain ⟨n, m1, e1, h⟩ := andT_inv h
      obtain ⟨y1, hy1, ⟨hl1, hs1⟩, r1⟩ := Pf.name (l2 := l2) t n m1 e1
      subst hy1
      obtain ⟨u2, m2, e2, h⟩ := andT_inv h
      obtain ⟨rs, m3, e3, h⟩ := andT_inv h
      obtain ⟨u4, m4, e4, h⟩ := andT_inv h
      cases y1 with
      | nil => exact absurd e2 (need_end (sg_size _))
      | cons c1 z1 =>
        obtain ⟨hm2, e2'⟩ := need_cons [enT p] l2 e2
        subst hm2
        obtain ⟨y3, hy3, ⟨hl3, hs3⟩, r3⟩ := Pf.rels (l2 := l2) F F [] z1 rs m3 e3
        subst hy3
        cases y3 with
        | nil => exact absurd e4 (need_end (sg_size _))
        | cons c3 z3 =>
          obtain ⟨hm4, e4'⟩ := need_cons [enT p] l2 e4
          subst hm4
          have hsub : ∀ q ∈ z3, q.1 ≠ 3 := by
            intro q hq
            exact hx q (List.mem_cons_of_mem _ (hs1 q (List.mem_cons_of_mem _ (hs3 q (List.mem_cons_of_mem _ hq)))))
          have ih := two_types g F (acc ++ [⟨n, rs⟩]) z3 o m h h3 hsub (by simp only [List.length_append, List.length_cons] at *; omega)
          have hR : relsT [] (z1 ++ l2) = .ok (rs, c3 :: z3 ++ l2) := by
            rw [← r3 (by simp)]
            exact relsF_fuel _ _ _ _ _ _ (by simp only [List.length_append, List.length_cons] at *; omega) (by simp only [List.length_append, List.length_cons] at *; omega) (by simp only [List.length_append, List.length_cons] at *; omega) (by simp only [List.length_append, List.length_cons] at *; omega)
          show andT (nameT (t ++ l2)) _ = _
          rw [r1 (by simp), andT_ok, e2', andT_ok, hR, andT_ok, e4', andT_ok]
          exact ih
    · rw [if_neg hc] at h
      cases h
      exact absurd h3 (hx b (List.mem_cons_self ..))
end

/-! an error is no 0 -/
def Cd {α : Type} : Rs α → Prop
  | .error e => e.1 ≠ 0
  | .ok _ => True
theorem Cd.and {α β : Type} {r : Rs α} {k : α → List Tk → Rs β} (h : Cd r) (hk : ∀ a l, Cd (k a l)) : Cd (andT r k) := by
  cases r with
  | error e => exact h
  | ok p => exact hk p.1 p.2
theorem Cd.name (l : List Tk) : Cd (nameT l) := by
  unfold nameT
  split
  · trivial
  · show 30 ≠ 0; omega
theorem Cd.need (s : ByteArray) (l : List Tk) : Cd (needT s l) := by
  unfold needT
  split
  · trivial
  · show 30 ≠ 0; omega
theorem Cd.bad {α : Type} (l : List Tk) : Cd (badT 30 l : Rs α) := by show 30 ≠ 0; omega
theorem Cd.parts : ∀ f : Nat, (∀ n l, Cd (partF f n l)) ∧ (∀ n acc l, Cd (moreF f n acc l))
  | 0 => ⟨fun n l => (by unfold partF; exact Cd.bad l), fun n acc l => (by unfold moreF; exact Cd.bad l)⟩
  | f + 1 => by
    obtain ⟨ih1, ih2⟩ := Cd.parts f
    constructor
    · intro n l
      unfold partF
      split
      · trivial
      · split
        · split
          · show 13 ≠ 0; omega
          · exact (ih1 _ _).and fun a l => (ih2 _ _ _).and fun a l => (Cd.need _ _).and fun a l => trivial
        · refine (Cd.name _).and fun a l => ?_
          split
          · exact (Cd.name _).and fun a l => trivial
          · trivial
    · intro n acc l
      unfold moreF
      split
      · trivial
      · exact (ih1 _ _).and fun a l => ih2 _ _ _
theorem Cd.who : ∀ (f : Nat) (acc : List SubP) (l : List Tk), Cd (whoF f acc l)
  | 0, acc, l => by unfold whoF; exact Cd.bad l
  | f + 1, acc, l => by
    unfold whoF
    refine (Cd.name _).and fun n l => Cd.and ?_ fun m l => ?_
    · split
      · exact Cd.name _
      · trivial
    · split
      · exact Cd.who f _ _
      · trivial
theorem Cd.rel (f : Nat) (l : List Tk) : Cd (relF f l) := by
  unfold relF
  refine (Cd.name _).and fun _ l => (Cd.need _ _).and fun _ l => (Cd.name _).and fun _ l => (Cd.need _ _).and fun _ l => (Cd.name _).and fun _ l => (Cd.need _ _).and fun _ l => (Cd.name _).and fun _ l => (Cd.need _ _).and fun _ l => (Cd.need _ _).and fun _ l => Cd.and ?_ fun _ l => Cd.and ?_ fun _ l => (Cd.need _ _).and fun _ l => trivial
  · split
    · trivial
    · exact Cd.who f _ _
  · split
    · unfold rewF
      exact ((Cd.parts f).1 _ _).and fun a l => (Cd.parts f).2 _ _ _
    · trivial
theorem Cd.rels : ∀ (g f : Nat) (acc : List RelP) (l : List Tk), Cd (relsF f g acc l)
  | 0, f, acc, l => by unfold relsF; exact Cd.bad l
  | g + 1, f, acc, l => by
    unfold relsF
    split
    · exact (Cd.rel f _).and fun _ l => Cd.rels g f _ _
    · trivial
theorem Cd.types : ∀ (g f : Nat) (acc : List TypP) (l : List Tk), Cd (typesF f g acc l)
  | 0, f, acc, l => by unfold typesF; exact Cd.bad l
  | g + 1, f, acc, l => by
    unfold typesF
    split
    · exact (Cd.name _).and fun _ l => (Cd.need _ _).and fun _ l => (Cd.rels f f _ _).and fun _ l => (Cd.need _ _).and fun _ l => Cd.types g f _ _
    · trivial
theorem typesT_code {acc : List TypP} {l : List Tk} {e : Nat × Nat} (h : typesT acc l = .error e) : e.1 ≠ 0 := by
  have := Cd.types (l.length + 1) (l.length + 1) acc l
  unfold typesT at h
  rw [h] at this
  exact this

theorem schema_ok {s : ByteArray} (hz : s.size ≤ 2048) (h : (parseS s).2.1 = 0) : ∃ init r, allS s = (init ++ [enT s.size], 0, 0) ∧ (∀ t ∈ init, TkOK t) ∧ typesT [] (init ++ [enT s.size]) = .ok ((parseS s).1, r) ∧ (hdT r).1 = 3 := by
  by_cases h0 : (allS s).2.1 = 0
  · obtain ⟨v, e0, eA⟩ := all_zero hz h0
    obtain ⟨init, e, hi⟩ := scan_init _ s 0 (Nat.le_refl _) e0
    rw [Nat.zero_add] at e
    have e2 := scan_zero e0
    have eA2 : allS s = (init ++ [enT s.size], 0, 0) := by rw [eA]; exact Prod.ext e e2
    have eP : parseS s = outS (schemaF (allS s).1) := by unfold parseS; rw [if_pos h0]
    rw [eP] at h ⊢
    rw [eA2] at h ⊢
    dsimp only at h ⊢
    rw [schemaF_eq] at h ⊢
    cases hT : typesT [] (init ++ [enT s.size]) with
    | error e3 =>
      rw [hT] at h
      exfalso
      exact typesT_code hT h
    | ok q =>
      rw [hT] at h
      rw [andT_ok] at h ⊢
      by_cases h3 : (hdT q.2).1 = 3
      · rw [if_pos h3]
        exact ⟨init, q.2, rfl, hi, hT, h3⟩
      · rw [if_neg h3] at h
        have h' : (30 : Nat) = 0 := h
        omega
  · have eP : parseS s = ([], (allS s).2) := by unfold parseS; rw [if_neg h0]
    rw [eP] at h
    exact absurd h h0

/-- Both said, one behind the other. -/
theorem parse_two {a b : ByteArray} (ha : a.size ≤ 900) (hb : b.size ≤ 900) (h1 : (parseS a).2.1 = 0) (h2 : (parseS b).2.1 = 0) : parseS (a ++ ⟨#[10]⟩ ++ b) = ((parseS a).1 ++ (parseS b).1, 0, 0) := by
  obtain ⟨ia, ra, eA, _, tA, kA⟩ := schema_ok (by omega) h1
  obtain ⟨ib, rb, eB, okB, tB, kB⟩ := schema_ok (by omega) h2
  have hzb : (allS b).2.1 = 0 := by rw [eB]
  obtain ⟨vb, sb, eBs⟩ := all_zero (by omega) hzb
  have hs10 := sep_valid (b := b) (sOne_valid (n := 10) (by omega))
  have hv : validS (sOne 10 ++ b) = true := by rw [sep_validS hs10, sOne_valid (by omega), vb]; rfl
  have hsz : (sOne 10 ++ b).size = b.size + 1 := by rw [size_app, sOne_size]; omega
  obtain ⟨_, g2⟩ := all_sep (s := a) (b := sOne 10 ++ b) (by omega) (ascii_first (by omega)) hv (by omega)
  have hza : (allS a).2.1 = 0 := by rw [eA]
  obtain ⟨init, e1, hi, e2, _⟩ := g2 hza
  have hia : init = ia := by
    rw [eA] at e1
    have := congrArg Prod.fst e1
    exact (List.append_inj_left' this rfl).symm
  subst hia
  obtain ⟨q1, q2⟩ := scan_shift _ b 0 (a.size + 1) (Nat.le_refl _)
  rw [Nat.zero_add] at q1 q2
  have hE : scan (sOne 10 ++ b) a.size = scan b (a.size + 1) := scan_blank1 rfl
  rw [hE, q1, q2, sb] at e2
  have e3 := e2 rfl
  have hbt : (scan b 0).1 = ib ++ [enT b.size] := by rw [← eBs, eB]
  rw [hbt] at e3
  have hT2 := typesT_map (d := a.size + 1) tB
  have hA := two_types (p := a.size) (l2 := (ib ++ [enT b.size]).map (shT (a.size + 1))) ((init ++ (ib ++ [enT b.size]).map (shT (a.size + 1))).length + init.length + 5) ((init ++ (ib ++ [enT b.size]).map (shT (a.size + 1))).length + init.length + 5) [] init (parseS a).1 ra
    (by rw [← tA]; exact typesF_fuel _ _ _ _ _ _ (by simp; omega) (by simp) (by simp; omega) (by simp)) kA
    (fun t ht h3 => by rcases hi t ht with ⟨h, _⟩ | ⟨h, _⟩ <;> omega) (by omega)
  have hB := typesF_acc _ _ (parseS a).1 [] _ _ _ hT2
  rw [List.append_nil] at hB
  have hF : typesT [] (init ++ (ib ++ [enT b.size]).map (shT (a.size + 1))) = .ok ((parseS a).1 ++ (parseS b).1, rb.map (shT (a.size + 1))) := by
    rw [hA]; exact hB
  have hab : a ++ ⟨#[10]⟩ ++ b = a ++ (sOne 10 ++ b) := by rw [app_assoc]; rfl
  rw [hab]
  have eP : parseS (a ++ (sOne 10 ++ b)) = outS (schemaF (allS (a ++ (sOne 10 ++ b))).1) := by unfold parseS; rw [if_pos (by rw [e3])]
  rw [eP, e3]
  show outS (schemaF (init ++ (ib ++ [enT b.size]).map (shT (a.size + 1)))) = _
  rw [schemaF_eq, hF, andT_ok, if_pos (by rw [(hdT_map rb).1]; exact kB)]
  rfl
end Go.Proofs.Ytdndncodpepdfaa
