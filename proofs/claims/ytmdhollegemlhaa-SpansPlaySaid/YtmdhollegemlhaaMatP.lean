/- Layer 13, plainly: sets of keys that rise, what changes of them come to, differences. Conditions: none; nothing of the program is named here. -/
import GoSem.Op.String
import Derived.Laws.Strings
import Derived.Lib.SlicesCompact
namespace Go.Proofs.Ytmdhollegemlhaa

/-! how texts stand -/
theorem bl_iff : ∀ (x y : List UInt8), Op.bytesLess x y = decide (x < y)
  | [], [] => by simp [Op.bytesLess]
  | _ :: _, [] => by simp [Op.bytesLess]
  | [], _ :: _ => by simp [Op.bytesLess]
  | c :: x, d :: y => by
    rw [Op.bytesLess, bl_iff x y]
    simp only [List.cons_lt_cons_iff]
    by_cases h1 : c < d <;> by_cases h2 : c = d <;> by_cases h3 : x < y <;> simp [h1, h2, h3]
/-- Is one key below another one? -/
def kl (a b : ByteArray) : Bool := Op.bytesLess a.toList b.toList
theorem kl_iff {a b : ByteArray} : kl a b = true ↔ a.toList < b.toList := by
  unfold kl
  rw [bl_iff, decide_eq_true_eq]
theorem kl_not {a b : ByteArray} : kl a b = false ↔ b.toList ≤ a.toList := by
  unfold kl
  rw [bl_iff, decide_eq_false_iff_not]
  exact Iff.rfl
theorem tl_inj {a b : ByteArray} (h : a.toList = b.toList) : a = b := by
  rw [ByteArray.toList_eq, ByteArray.toList_eq] at h
  exact ByteArray.ext (Array.toList_inj.1 h)
theorem tl_eq (a b : ByteArray) : (a.toList == b.toList) = decide (a = b) := by
  by_cases h : a = b
  · subst h; simp
  · rw [decide_eq_false h, beq_eq_false_iff_ne]
    exact fun e => h (tl_inj e)
theorem kl_irr (a : ByteArray) : kl a a = false := kl_not.2 (List.le_refl _)
theorem kl_trans {a b c : ByteArray} (h : kl a b = true) (k : kl b c = true) : kl a c = true := kl_iff.2 (List.lt_trans (kl_iff.1 h) (kl_iff.1 k))
theorem kl_asym {a b : ByteArray} (h : kl a b = true) : kl b a = false := kl_not.2 (List.le_of_lt (kl_iff.1 h))
theorem kl_tri {a b : ByteArray} (h : kl a b = false) (k : kl b a = false) : a = b := tl_inj (List.le_antisymm (kl_not.1 k) (kl_not.1 h))
theorem kl_ne {a b : ByteArray} (h : kl a b = true) : a ≠ b := fun e => by subst e; rw [kl_irr] at h; cases h
theorem kl_up {a b : ByteArray} (h : a ≠ b) (k : kl a b = false) : kl b a = true := by
  cases e : kl b a
  · exact absurd (kl_tri k e) h
  · rfl

/-! sets: keys that rise -/
/-- Keys that rise, each once. -/
def Rises (l : List ByteArray) : Prop := l.Pairwise fun a b => kl a b = true
theorem Rises.nodup {l : List ByteArray} (h : Rises l) : l.Nodup := h.imp fun hab => kl_ne hab
theorem rises_eq {a b : List ByteArray} (ha : Rises a) (hb : Rises b) (h : ∀ k, k ∈ a ↔ k ∈ b) : a = b :=
  List.Perm.eq_of_pairwise (le := fun a b => kl a b = true) (fun x y _ _ h1 h2 => by rw [kl_asym h1] at h2; cases h2) ha hb ((List.perm_ext_iff_of_nodup ha.nodup hb.nodup).2 h)
theorem Rises.filter {l : List ByteArray} (h : Rises l) (p : ByteArray → Bool) : Rises (l.filter p) := List.Pairwise.filter p h
theorem nodup_len : ∀ {l m : List ByteArray}, l.Nodup → (∀ x ∈ l, x ∈ m) → l.length ≤ m.length
  | [], _, _, _ => Nat.zero_le _
  | a :: l, m, h, k => by
    obtain ⟨h1, h2⟩ := List.nodup_cons.1 h
    obtain ⟨p, q, rfl⟩ := List.append_of_mem (k a (List.mem_cons_self ..))
    have := nodup_len (m := p ++ q) h2 fun x hx => by
      have := k x (List.mem_cons_of_mem _ hx)
      simp only [List.mem_append, List.mem_cons] at this ⊢
      rcases this with h | h | h
      · exact .inl h
      · subst h; exact absurd hx h1
      · exact .inr h
    simp only [List.length_append, List.length_cons] at *
    omega
theorem Rises.len {l m : List ByteArray} (h : Rises l) (k : ∀ x ∈ l, x ∈ m) : l.length ≤ m.length := nodup_len h.nodup k
theorem Rises.at_ {l : List ByteArray} (h : Rises l) {i j : Nat} {a b : ByteArray} (ha : l[i]? = some a) (hb : l[j]? = some b) (hij : i < j) : kl a b = true := by
  obtain ⟨h1, rfl⟩ := List.getElem?_eq_some_iff.1 ha
  obtain ⟨h2, rfl⟩ := List.getElem?_eq_some_iff.1 hb
  exact List.pairwise_iff_getElem.1 h i j h1 h2 hij
/-- Is a key in a set? -/
def hasK (l : List ByteArray) (k : ByteArray) : Bool := l.any fun a => decide (k = a)
theorem hasK_iff {l : List ByteArray} {k : ByteArray} : hasK l k = true ↔ k ∈ l := by simp [hasK]
theorem hasK_not {l : List ByteArray} {k : ByteArray} : hasK l k = false ↔ k ∉ l := by rw [← hasK_iff, Bool.not_eq_true]
theorem hasK_nil (k : ByteArray) : hasK [] k = false := rfl
theorem hasK_cons (a : ByteArray) (l : List ByteArray) (k : ByteArray) : hasK (a :: l) k = (decide (k = a) || hasK l k) := rfl

/-- A set with a key put in. -/
def putS : List ByteArray → ByteArray → List ByteArray
  | [], k => [k]
  | a :: l, k => if kl a k then a :: putS l k else k :: a :: l
/-- A set with a key taken out. -/
def outS (l : List ByteArray) (k : ByteArray) : List ByteArray := l.filter fun a => !decide (a = k)
theorem putS_mem : ∀ {l : List ByteArray} {k x : ByteArray}, x ∈ putS l k ↔ x = k ∨ x ∈ l
  | [], k, x => by simp [putS]
  | a :: l, k, x => by
    unfold putS
    split
    · rw [List.mem_cons, putS_mem, List.mem_cons]
      constructor
      · rintro (h | h | h)
        · exact .inr (.inl h)
        · exact .inl h
        · exact .inr (.inr h)
      · rintro (h | h | h)
        · exact .inr (.inl h)
        · exact .inl h
        · exact .inr (.inr h)
    · rw [List.mem_cons]
theorem putS_rises : ∀ {l : List ByteArray} {k : ByteArray}, Rises l → k ∉ l → Rises (putS l k)
  | [], k, _, _ => by simp [putS, Rises]
  | a :: l, k, h, hk => by
    obtain ⟨h1, h2⟩ := List.pairwise_cons.1 h
    unfold putS
    split
    · rename_i q
      refine List.pairwise_cons.2 ⟨fun x hx => ?_, putS_rises h2 fun e => hk (List.mem_cons_of_mem _ e)⟩
      rcases putS_mem.1 hx with rfl | hx
      · exact q
      · exact h1 x hx
    · rename_i q
      have hka : kl k a = true := kl_up (fun e => hk (by rw [← e]; exact List.mem_cons_self ..)) (by simpa using q)
      refine List.pairwise_cons.2 ⟨fun x hx => ?_, h⟩
      rcases List.mem_cons.1 hx with rfl | hx
      · exact hka
      · exact kl_trans hka (h1 x hx)
theorem putS_len : ∀ (l : List ByteArray) (k : ByteArray), (putS l k).length = l.length + 1
  | [], k => rfl
  | a :: l, k => by
    unfold putS
    split
    · rw [List.length_cons, putS_len, List.length_cons]
    · rfl
/-- Put in where it belongs. -/
theorem putS_at : ∀ {l : List ByteArray} {k : ByteArray} {i : Nat}, i ≤ l.length → (∀ (j : Nat) a, j < i → l[j]? = some a → kl a k = true) → (∀ a, l[i]? = some a → kl a k = false) → putS l k = l.take i ++ k :: l.drop i
  | [], k, i, hi, _, _ => by
    have : i = 0 := by simpa using hi
    subst this; rfl
  | a :: l, k, 0, _, _, h => by
    unfold putS
    rw [h a rfl, if_neg (by decide)]
    rfl
  | a :: l, k, i + 1, hi, h1, h2 => by
    unfold putS
    rw [h1 0 a (by omega) rfl, if_pos rfl, putS_at (by simpa using hi) (fun j b hj hb => h1 (j + 1) b (by omega) (by simpa using hb)) fun b hb => h2 b (by simpa using hb)]
    rfl
theorem outS_mem {l : List ByteArray} {k x : ByteArray} : x ∈ outS l k ↔ x ∈ l ∧ x ≠ k := by simp [outS]
theorem outS_rises {l : List ByteArray} {k : ByteArray} (h : Rises l) : Rises (outS l k) := h.filter _
theorem outS_len (l : List ByteArray) (k : ByteArray) : (outS l k).length ≤ l.length := List.length_filter_le _ _

/-! what is asked and changed -/
/-- The first of what is asked that isn't so. -/
def preS (s : List ByteArray) : List (ByteArray × Bool) → Option Nat
  | [] => none
  | p :: r => if hasK s p.1 = p.2 then (preS s r).map (· + 1) else some 0
/-- Changes done one by one, from the place i on: the set, the error, the place. -/
def chgS : List ByteArray → List (ByteArray × Bool) → Nat → List ByteArray × Nat × Nat
  | t, [], _ => (t, 0, 0)
  | t, c :: r, i => if hasK t c.1 then (if c.2 then ([], 32, i) else chgS (outS t c.1) r (i + 1)) else (if c.2 then chgS (putS t c.1) r (i + 1) else ([], 41, i))
/-- A set with changes. -/
def appS (s : List ByteArray) (p c : List (ByteArray × Bool)) : List ByteArray × Nat × Nat := match preS s p with
  | some i => ([], 41, i)
  | none => chgS s c p.length
/-- One change. -/
def oneS (t : List ByteArray) (c : ByteArray × Bool) : List ByteArray := if c.2 then putS t c.1 else outS t c.1
theorem chgS_ok {t : List ByteArray} {c : ByteArray × Bool} {r : List (ByteArray × Bool)} {i : Nat} (h : hasK t c.1 = !c.2) : chgS t (c :: r) i = chgS (oneS t c) r (i + 1) := by
  obtain ⟨k, b⟩ := c
  cases b <;> simp_all [chgS, oneS]
theorem chgS_bad {t : List ByteArray} {c : ByteArray × Bool} {r : List (ByteArray × Bool)} {i : Nat} (h : hasK t c.1 = c.2) : chgS t (c :: r) i = ([], if c.2 then 32 else 41, i) := by
  obtain ⟨k, b⟩ := c
  cases b <;> simp_all [chgS]
theorem oneS_rises {t : List ByteArray} {c : ByteArray × Bool} (h : Rises t) (k : hasK t c.1 = !c.2) : Rises (oneS t c) := by
  unfold oneS
  split
  · rename_i q
    rw [q] at k
    exact putS_rises h (hasK_not.1 k)
  · exact outS_rises h
theorem oneS_has {t : List ByteArray} {c : ByteArray × Bool} (k : hasK t c.1 = !c.2) (x : ByteArray) : hasK (oneS t c) x = if x = c.1 then c.2 else hasK t x := by
  obtain ⟨y, b⟩ := c
  dsimp only at *
  cases b
  · unfold oneS
    by_cases e : x = y
    · rw [if_pos e]
      exact hasK_not.2 fun h => (outS_mem.1 h).2 e
    · rw [if_neg e, Bool.eq_iff_iff, hasK_iff, hasK_iff]
      exact ⟨fun h => (outS_mem.1 h).1, fun h => outS_mem.2 ⟨h, e⟩⟩
  · unfold oneS
    by_cases e : x = y
    · rw [if_pos e]
      exact hasK_iff.2 (putS_mem.2 (.inl e))
    · rw [if_neg e, Bool.eq_iff_iff, hasK_iff, hasK_iff]
      exact ⟨fun h => (putS_mem.1 h).resolve_left e, fun h => putS_mem.2 (.inr h)⟩
theorem oneS_len (t : List ByteArray) (c : ByteArray × Bool) : (oneS t c).length ≤ t.length + 1 := by
  unfold oneS
  split
  · rw [putS_len]; exact Nat.le_refl _
  · exact Nat.le_trans (outS_len _ _) (Nat.le_succ _)
theorem chgS_len : ∀ (c : List (ByteArray × Bool)) (t : List ByteArray) (i : Nat), (chgS t c i).1.length ≤ t.length + c.length
  | [], t, i => Nat.le_refl _
  | c :: r, t, i => by
    by_cases h : hasK t c.1 = !c.2
    · rw [chgS_ok h]
      have := chgS_len r (oneS t c) (i + 1)
      have := oneS_len t c
      simp only [List.length_cons]
      omega
    · rw [chgS_bad (by cases q : c.2 <;> simp_all)]
      exact Nat.zero_le _
theorem chgS_rises : ∀ {c : List (ByteArray × Bool)} {t : List ByteArray} {i : Nat}, Rises t → Rises (chgS t c i).1
  | [], t, i, h => h
  | c :: r, t, i, h => by
    by_cases k : hasK t c.1 = !c.2
    · rw [chgS_ok k]
      exact chgS_rises (oneS_rises h k)
    · rw [chgS_bad (by cases q : c.2 <;> simp_all)]
      exact List.Pairwise.nil
theorem preS_none {s : List ByteArray} : ∀ {p : List (ByteArray × Bool)}, (∀ x ∈ p, hasK s x.1 = x.2) → preS s p = none
  | [], _ => rfl
  | x :: r, h => by
    unfold preS
    rw [if_pos (h x (List.mem_cons_self ..)), preS_none fun y hy => h y (List.mem_cons_of_mem _ hy)]
    rfl
theorem preS_some {s : List ByteArray} : ∀ {p : List (ByteArray × Bool)} {i : Nat} {x : ByteArray × Bool}, (∀ (j : Nat) y, j < i → p[j]? = some y → hasK s y.1 = y.2) → p[i]? = some x → hasK s x.1 ≠ x.2 → preS s p = some i
  | [], i, x, _, h, _ => by simp at h
  | y :: r, 0, x, _, h, k => by
    simp at h
    subst h
    unfold preS
    rw [if_neg k]
  | y :: r, i + 1, x, g, h, k => by
    unfold preS
    rw [if_pos (g 0 y (by omega) rfl), preS_some (i := i) (x := x) (fun j z hj hz => g (j + 1) z (by omega) (by simpa using hz)) (by simpa using h) k]
    rfl

/-! differences -/
/-- The changes that lead from a row to another one. -/
def difS (s t : List ByteArray) : List (ByteArray × Bool) := match s, t with
  | [], [] => []
  | a :: s, [] => (a, false) :: difS s []
  | [], b :: t => (b, true) :: difS [] t
  | a :: s, b :: t => if kl a b then (a, false) :: difS s (b :: t) else if kl b a then (b, true) :: difS (a :: s) t else difS s t
termination_by s.length + t.length
theorem difS_nil : difS [] [] = [] := by rw [difS]
theorem difS_left {a : ByteArray} {s t : List ByteArray} (h : ∀ b, t.head? = some b → kl a b = true) : difS (a :: s) t = (a, false) :: difS s t := by
  cases t with
  | nil => rw [difS]
  | cons b t => rw [difS, if_pos (h b rfl)]
theorem difS_right {b : ByteArray} {s t : List ByteArray} (h : ∀ a, s.head? = some a → kl a b = false ∧ kl b a = true) : difS s (b :: t) = (b, true) :: difS s t := by
  cases s with
  | nil => rw [difS]
  | cons a s => rw [difS, if_neg (by rw [(h a rfl).1]; decide), if_pos (h a rfl).2]
theorem difS_both {a b : ByteArray} {s t : List ByteArray} (h : kl a b = false) (k : kl b a = false) : difS (a :: s) (b :: t) = difS s t := by
  rw [difS, if_neg (by rw [h]; decide), if_neg (by rw [k]; decide)]
theorem difS_len (s t : List ByteArray) : (difS s t).length ≤ s.length + t.length := by
  induction s, t using difS.induct with
  | case1 => rw [difS]; exact Nat.zero_le _
  | case2 a s ih => rw [difS]; simp only [List.length_cons]; omega
  | case3 b t ih => rw [difS]; simp only [List.length_cons]; omega
  | case4 a s b t h ih => rw [difS, if_pos h]; simp only [List.length_cons] at *; omega
  | case5 a s b t h k ih => rw [difS, if_neg h, if_pos k]; simp only [List.length_cons] at *; omega
  | case6 a s b t h k ih => rw [difS, if_neg h, if_neg k]; simp only [List.length_cons] at *; omega
/-- Just the keys that one of the two has, each as the other one's or not. -/
theorem difS_mem {s t : List ByteArray} (hs : Rises s) (ht : Rises t) (x : ByteArray) (e : Bool) : (x, e) ∈ difS s t ↔ hasK t x = e ∧ hasK s x = !e := by
  induction s, t using difS.induct with
  | case1 => rw [difS, hasK_nil]; cases e <;> simp
  | case2 a s ih =>
    obtain ⟨h1, h2⟩ := List.pairwise_cons.1 hs
    have na : hasK s a = false := hasK_not.2 fun q => kl_ne (h1 a q) rfl
    rw [difS, List.mem_cons, ih h2 ht, hasK_cons, hasK_nil]
    by_cases q : x = a
    · subst q; cases e <;> simp [na]
    · cases e <;> simp [q]
  | case3 b t ih =>
    obtain ⟨h1, h2⟩ := List.pairwise_cons.1 ht
    have nb : hasK t b = false := hasK_not.2 fun q => kl_ne (h1 b q) rfl
    rw [difS, List.mem_cons, ih hs h2, hasK_cons, hasK_nil]
    by_cases q : x = b
    · subst q; cases e <;> simp [nb]
    · cases e <;> simp [q]
  | case4 a s b t h ih =>
    obtain ⟨h1, h2⟩ := List.pairwise_cons.1 hs
    obtain ⟨h3, h4⟩ := List.pairwise_cons.1 ht
    have nb : hasK (b :: t) a = false := hasK_not.2 fun q => by
      rcases List.mem_cons.1 q with q | q
      · exact kl_ne h q
      · exact kl_ne (kl_trans h (h3 a q)) rfl
    have na : hasK s a = false := hasK_not.2 fun q => kl_ne (h1 a q) rfl
    rw [difS, if_pos h, List.mem_cons, ih h2 ht, hasK_cons a]
    by_cases q : x = a
    · subst q; cases e <;> simp [na, nb]
    · cases e <;> simp [q]
  | case5 a s b t h k ih =>
    obtain ⟨h1, h2⟩ := List.pairwise_cons.1 hs
    obtain ⟨h3, h4⟩ := List.pairwise_cons.1 ht
    have nb : hasK (a :: s) b = false := hasK_not.2 fun q => by
      rcases List.mem_cons.1 q with q | q
      · exact kl_ne k q
      · exact kl_ne (kl_trans k (h1 b q)) rfl
    have na : hasK t b = false := hasK_not.2 fun q => kl_ne (h3 b q) rfl
    rw [difS, if_neg h, if_pos k, List.mem_cons, ih hs h4, hasK_cons b]
    by_cases q : x = b
    · subst q; cases e <;> simp [na, nb]
    · cases e <;> simp [q]
  | case6 a s b t h k ih =>
    obtain ⟨h1, h2⟩ := List.pairwise_cons.1 hs
    obtain ⟨h3, h4⟩ := List.pairwise_cons.1 ht
    have hab : a = b := kl_tri (by simpa using h) (by simpa using k)
    subst hab
    have n1 : hasK s a = false := hasK_not.2 fun q => kl_ne (h1 a q) rfl
    have n2 : hasK t a = false := hasK_not.2 fun q => kl_ne (h3 a q) rfl
    rw [difS, if_neg h, if_neg k, ih h2 h4, hasK_cons, hasK_cons]
    by_cases q : x = a
    · subst q; cases e <;> simp [n1, n2]
    · cases e <;> simp [q]
theorem difS_keys {s t : List ByteArray} {x : ByteArray × Bool} (h : x ∈ difS s t) : x.1 ∈ s ∨ x.1 ∈ t := by
  induction s, t using difS.induct with
  | case1 => rw [difS] at h; cases h
  | case2 a s ih =>
    rw [difS] at h
    rcases List.mem_cons.1 h with rfl | h
    · exact .inl (List.mem_cons_self ..)
    · exact (ih h).imp (List.mem_cons_of_mem _) id
  | case3 b t ih =>
    rw [difS] at h
    rcases List.mem_cons.1 h with rfl | h
    · exact .inr (List.mem_cons_self ..)
    · exact (ih h).imp id (List.mem_cons_of_mem _)
  | case4 a s b t q ih =>
    rw [difS, if_pos q] at h
    rcases List.mem_cons.1 h with rfl | h
    · exact .inl (List.mem_cons_self ..)
    · exact (ih h).imp (List.mem_cons_of_mem _) id
  | case5 a s b t q k ih =>
    rw [difS, if_neg q, if_pos k] at h
    rcases List.mem_cons.1 h with rfl | h
    · exact .inr (List.mem_cons_self ..)
    · exact (ih h).imp id (List.mem_cons_of_mem _)
  | case6 a s b t q k ih =>
    rw [difS, if_neg q, if_neg k] at h
    exact (ih h).imp (List.mem_cons_of_mem _) (List.mem_cons_of_mem _)
theorem difS_rises {s t : List ByteArray} (hs : Rises s) (ht : Rises t) : (difS s t).Pairwise fun a b => kl a.1 b.1 = true := by
  induction s, t using difS.induct with
  | case1 => rw [difS]; exact List.Pairwise.nil
  | case2 a s ih =>
    obtain ⟨h1, h2⟩ := List.pairwise_cons.1 hs
    rw [difS]
    refine List.pairwise_cons.2 ⟨fun x hx => ?_, ih h2 ht⟩
    rcases difS_keys hx with q | q
    · exact h1 _ q
    · cases q
  | case3 b t ih =>
    obtain ⟨h1, h2⟩ := List.pairwise_cons.1 ht
    rw [difS]
    refine List.pairwise_cons.2 ⟨fun x hx => ?_, ih hs h2⟩
    rcases difS_keys hx with q | q
    · cases q
    · exact h1 _ q
  | case4 a s b t h ih =>
    obtain ⟨h1, h2⟩ := List.pairwise_cons.1 hs
    obtain ⟨h3, h4⟩ := List.pairwise_cons.1 ht
    rw [difS, if_pos h]
    refine List.pairwise_cons.2 ⟨fun x hx => ?_, ih h2 ht⟩
    rcases difS_keys hx with q | q
    · exact h1 _ q
    · rcases List.mem_cons.1 q with q | q
      · rw [q]; exact h
      · exact kl_trans h (h3 _ q)
  | case5 a s b t h k ih =>
    obtain ⟨h1, h2⟩ := List.pairwise_cons.1 hs
    obtain ⟨h3, h4⟩ := List.pairwise_cons.1 ht
    rw [difS, if_neg h, if_pos k]
    refine List.pairwise_cons.2 ⟨fun x hx => ?_, ih hs h4⟩
    rcases difS_keys hx with q | q
    · rcases List.mem_cons.1 q with q | q
      · rw [q]; exact k
      · exact kl_trans k (h1 _ q)
    · exact h3 _ q
  | case6 a s b t h k ih =>
    rw [difS, if_neg h, if_neg k]
    exact ih (List.pairwise_cons.1 hs).2 (List.pairwise_cons.1 ht).2
/-- The keys of the differences, as a set: those that just one of the two has. -/
theorem dif_fst {s t : List ByteArray} (hs : Rises s) (ht : Rises t) : Rises ((difS s t).map Prod.fst) ∧ ∀ k, hasK ((difS s t).map Prod.fst) k = (hasK s k != hasK t k) := by
  refine ⟨List.pairwise_map.2 (difS_rises hs ht), fun k => ?_⟩
  rw [Bool.eq_iff_iff, hasK_iff, List.mem_map]
  constructor
  · rintro ⟨⟨x, e⟩, hx, rfl⟩
    obtain ⟨h1, h2⟩ := (difS_mem hs ht x e).1 hx
    simp [h1, h2]
  · intro q
    refine ⟨(k, hasK t k), (difS_mem hs ht k _).2 ⟨rfl, ?_⟩, rfl⟩
    cases q1 : hasK s k <;> cases q2 : hasK t k <;> simp_all
/-- Bytes as a key. -/
def keyB (l : List UInt8) : ByteArray := ⟨l.toArray⟩
theorem keyB_list (l : List UInt8) : (keyB l).toList = l := by rw [ByteArray.toList_eq]; simp [keyB]
theorem keyB_of (s : ByteArray) : keyB s.data.toList = s := by simp [keyB]
theorem keyB_inj {a b : List UInt8} (h : keyB a = keyB b) : a = b := by rw [← keyB_list a, h, keyB_list]
/-- Sorted, of what has none twice. -/
theorem sorted_nodup {l : List (List UInt8)} (h : l.Nodup) : Rises ((l.mergeSort fun x y => decide (x ≤ y)).map keyB) ∧ ∀ k : ByteArray, k ∈ (l.mergeSort fun x y => decide (x ≤ y)).map keyB ↔ k.data.toList ∈ l := by
  have hp : (l.mergeSort fun x y => decide (x ≤ y)).Pairwise fun a b => decide (a ≤ b) = true :=
    List.pairwise_mergeSort (le := fun x y => decide (x ≤ y)) (fun a b c h1 h2 => decide_eq_true (List.le_trans (of_decide_eq_true h1) (of_decide_eq_true h2))) (fun a b => by simpa using List.le_total a b) l
  have hm := List.mergeSort_perm l fun x y => decide (x ≤ y)
  have hn : (l.mergeSort fun x y => decide (x ≤ y)).Nodup := hm.nodup_iff.2 h
  refine ⟨List.pairwise_map.2 ((hp.and hn).imp fun {a b} hab => ?_), fun k => ?_⟩
  · rw [kl_iff, keyB_list, keyB_list]
    have h1 := of_decide_eq_true hab.1
    rcases Decidable.em (a < b) with q | q
    · exact q
    · exact absurd (List.le_antisymm h1 q) hab.2
  · rw [List.mem_map]
    constructor
    · rintro ⟨x, hx, rfl⟩
      have := hm.mem_iff.1 hx
      simpa [keyB] using this
    · intro hk
      exact ⟨_, hm.mem_iff.2 hk, by simp [keyB]⟩

/-! keys sorted, each once -/
theorem compact_rises (d : Array (List UInt8)) (hs : ∀ i j, i < j → j < d.size → d[i]! ≤ d[j]!) : ∀ m, m ≤ d.size →
    (Lib.compactUpTo d m).Pairwise (fun a b => a < b) ∧ ∀ x, x ∈ Lib.compactUpTo d m ↔ ∃ i, i < m ∧ d[i]! = x
  | 0, _ => by
    refine ⟨List.Pairwise.nil, fun x => ⟨fun h => (by cases h), fun ⟨i, hi, _⟩ => (by omega)⟩⟩
  | m + 1, hm => by
    obtain ⟨h1, h2⟩ := compact_rises d hs m (by omega)
    rw [Lib.compactUpTo_succ]
    by_cases hk : Lib.keeps d m = true
    · rw [if_pos hk]
      refine ⟨List.pairwise_append.2 ⟨h1, List.pairwise_singleton _ _, fun a ha b hb => ?_⟩, fun x => ?_⟩
      · rw [List.mem_singleton.1 hb]
        obtain ⟨i, hi, rfl⟩ := (h2 a).1 ha
        have hne : d[m]! ≠ d[m - 1]! := by
          have := of_decide_eq_true hk
          rcases this with q | q
          · omega
          · exact q
        have h3 : d[i]! ≤ d[m - 1]! := by
          by_cases q : i = m - 1
          · rw [q]; exact List.le_refl _
          · exact hs i (m - 1) (by omega) (by omega)
        have h4 : d[m - 1]! ≤ d[m]! := hs (m - 1) m (by omega) (by omega)
        refine List.lt_of_le_of_lt h3 ?_
        rcases Decidable.em (d[m - 1]! < d[m]!) with q | q
        · exact q
        · exact absurd (List.le_antisymm q h4) hne
      · rw [List.mem_append, h2 x, List.mem_singleton]
        constructor
        · rintro (⟨i, hi, h⟩ | h)
          · exact ⟨i, by omega, h⟩
          · exact ⟨m, by omega, h.symm⟩
        · rintro ⟨i, hi, h⟩
          by_cases q : i = m
          · subst q; exact .inr h.symm
          · exact .inl ⟨i, by omega, h⟩
    · rw [if_neg hk, List.append_nil]
      refine ⟨h1, fun x => ?_⟩
      rw [h2 x]
      have hq : m ≠ 0 ∧ d[m]! = d[m - 1]! := by
        have : Lib.keeps d m = false := by simpa using hk
        have := of_decide_eq_false this
        constructor
        · exact fun q => this (.inl q)
        · exact Classical.byContradiction fun q => this (.inr q)
      constructor
      · rintro ⟨i, hi, h⟩
        exact ⟨i, by omega, h⟩
      · rintro ⟨i, hi, h⟩
        by_cases q : i = m
        · subst q
          exact ⟨i - 1, by omega, by rw [← h]; exact hq.2.symm⟩
        · exact ⟨i, by omega, h⟩
theorem rises_keyB {l : List (List UInt8)} (h : l.Pairwise fun a b => a < b) : Rises (l.map keyB) :=
  List.pairwise_map.2 (h.imp fun {a b} hab => by rw [kl_iff, keyB_list, keyB_list]; exact hab)
/-- Sorted, and each once: a set of just those. -/
theorem sorted_set (zs : List (List UInt8)) : Rises ((Lib.compact (zs.mergeSort fun x y => decide (x ≤ y))).map keyB) ∧ ∀ k, k ∈ (Lib.compact (zs.mergeSort fun x y => decide (x ≤ y))).map keyB ↔ k ∈ zs.map keyB := by
  have hp : (zs.mergeSort fun x y => decide (x ≤ y)).Pairwise fun a b => decide (a ≤ b) = true :=
    List.pairwise_mergeSort (le := fun x y => decide (x ≤ y)) (fun a b c h1 h2 => decide_eq_true (List.le_trans (of_decide_eq_true h1) (of_decide_eq_true h2))) (fun a b => by simpa using List.le_total a b) zs
  have hm := List.mergeSort_perm zs fun x y => decide (x ≤ y)
  obtain ⟨m, hmm⟩ : ∃ m, (zs.mergeSort fun x y => decide (x ≤ y)) = m := ⟨_, rfl⟩
  rw [hmm] at hp hm ⊢
  have hs : ∀ i j, i < j → j < m.toArray.size → m.toArray[i]! ≤ m.toArray[j]! := fun i j hij hj => by
    have hj' : j < m.length := by simpa using hj
    have := List.pairwise_iff_getElem.1 hp i j (by omega) hj' hij
    simp only [List.getElem!_toArray]
    rw [getElem!_pos m i (by omega), getElem!_pos m j hj']
    exact of_decide_eq_true this
  obtain ⟨h1, h2⟩ := compact_rises m.toArray hs m.toArray.size (Nat.le_refl _)
  have e : Lib.compact m = Lib.compactUpTo m.toArray m.toArray.size := by simp [Lib.compact]
  rw [e]
  refine ⟨rises_keyB h1, fun k => ?_⟩
  rw [List.mem_map, List.mem_map]
  have hx : ∀ x, x ∈ Lib.compactUpTo m.toArray m.toArray.size ↔ x ∈ zs := fun x => by
    rw [h2 x, ← hm.mem_iff]
    constructor
    · rintro ⟨i, hi, rfl⟩
      have hi' : i < m.length := by simpa using hi
      rw [List.getElem!_toArray, getElem!_pos m i hi']
      exact List.getElem_mem hi'
    · intro h
      obtain ⟨i, hi, rfl⟩ := List.getElem_of_mem h
      exact ⟨i, by simpa using hi, by rw [List.getElem!_toArray, getElem!_pos m i hi]⟩
  exact ⟨fun ⟨x, hx1, hx2⟩ => ⟨x, (hx x).1 hx1, hx2⟩, fun ⟨x, hx1, hx2⟩ => ⟨x, (hx x).2 hx1, hx2⟩⟩
end Go.Proofs.Ytmdhollegemlhaa
