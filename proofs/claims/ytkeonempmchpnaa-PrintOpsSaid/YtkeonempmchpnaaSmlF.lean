/- Layer 8: what a text says isn't too long to be shown. Conditions: none; nothing of the program is named here but for its model's words. -/
import Derived.Test.YtkeonempmchpnaaGoodF
import Derived.Test.YtkeonempmchpnaaWordsF
import Derived.Test.YtkeonempmchpnaaShowR
namespace Go.Proofs.Ytkeonempmchpnaa

theorem scan_few8 (n : Nat) : ∀ (u : ByteArray) (off : Nat), u.size ≤ n → (scan u off).1.length ≤ u.size + 1 := scan_few n
theorem few8 (s : ByteArray) : Few 2049 (parseS s).1 := by
  by_cases h0 : (allS s).2.1 = 0
  · have hz := all_long h0
    obtain ⟨v, e0, eA⟩ := all_zero hz h0
    refine parse_few ?_
    rw [eA]
    have := scan_few _ s 0 (Nat.le_refl _)
    omega
  · unfold parseS
    rw [if_neg h0]
    exact ⟨Nat.zero_le _, fun t ht => by cases ht⟩
theorem NmW.size {n : ByteArray} (h : NmW n) : n.size ≤ 1000 := Nat.le_trans (name_size h.1) (by decide)
theorem ops_sml : ∀ t : Ex, t.nm → t.sml ∧ ∀ o ∈ t.ops, o.2.1.size ≤ 1000 ∧ o.2.2.size ≤ 1000
  | .this, _ => ⟨trivial, fun o ho => by rw [List.mem_singleton.1 ho]; exact ⟨Nat.zero_le _, Nat.zero_le _⟩⟩
  | .same n, h => by
    have h2 : NmW n := h
    exact ⟨h2.size, fun o ho => by rw [List.mem_singleton.1 ho]; exact ⟨h2.size, Nat.zero_le _⟩⟩
  | .via n m, h => ⟨⟨h.1.size, h.2.size⟩, fun o ho => by rw [List.mem_singleton.1 ho]; exact ⟨h.1.size, h.2.size⟩⟩
  | .bin k a b, h => by
    obtain ⟨a1, a2⟩ := ops_sml a h.1
    obtain ⟨b1, b2⟩ := ops_sml b h.2
    refine ⟨⟨a1, b1⟩, fun o ho => ?_⟩
    rcases List.mem_append.1 ho with ho | ho
    · rcases List.mem_append.1 ho with ho | ho
      · exact a2 o ho
      · exact b2 o ho
    · rw [List.mem_singleton.1 ho]; exact ⟨Nat.zero_le _, Nat.zero_le _⟩
theorem sml_rel {x : RelP} (g : RelG x) (f : FewR 2049 x) : Sml x ∧ TreeR x ∧ (lineS x).size ≤ 10300000 := by
  obtain ⟨t, h1, h2, h3, h4⟩ := g.ops
  obtain ⟨s1, s2⟩ := ops_sml t h3
  have hs : Sml x := ⟨g.name.size, g.view.size, g.edit.size, g.check.size, ⟨Nat.le_trans f.1 (by decide), fun s hs => ⟨(g.subs s hs).1.size, by
    rcases (g.subs s hs).2 with e | e
    · rw [e]; exact Nat.zero_le _
    · exact e.size⟩⟩, ⟨Nat.le_trans f.2 (by decide), fun o ho => by rw [h1] at ho; exact s2 o ho⟩⟩
  refine ⟨hs, ⟨t, h1, h2, s1⟩, ?_⟩
  have w := (who_size hs).2
  have r := rew_size hs.ops.2
  have f1 := f.1
  have f2 := f.2
  have : (relS x).size ≤ (whoS x).size + 4 + (rewS x.ops).size + 1 := by
    unfold relS
    rw [size_app]
    split
    · show _ + 1 ≤ _; omega
    · rw [size_app, size_app]; show _ + (4 + _) + 1 ≤ _; omega
  unfold lineS
  rw [size_app, size_app]
  show 1 + _ + 1 ≤ _
  omega
theorem cat_size {α : Type} (f : α → ByteArray) (N : Nat) : ∀ l : List α, (∀ x ∈ l, (f x).size ≤ N) → (catL (l.map f)).size ≤ l.length * N
  | [], _ => Nat.zero_le _
  | x :: r, h => by
    have h1 := h x List.mem_cons_self
    have h2 := cat_size f N r fun y hy => h y (List.mem_cons_of_mem _ hy)
    show (f x ++ catL (r.map f)).size ≤ _
    rw [size_app, List.length_cons, Nat.succ_mul]
    omega
/-- What a text says is short enough to be shown. -/
structure Shw (T : List TypP) : Prop where
  len : T.length ≤ 1000000
  few : Few 1000000 T
  sml : ∀ t ∈ T, SmlT t
  tree : ∀ t ∈ T, ∀ x ∈ t.rels, TreeR x
  size : (showS T).size ≤ 90000000000000
theorem says_shw (s : ByteArray) : Shw (parseS s).1 := by
  have hf := few8 s
  have hg := parse_goodT s
  generalize (parseS s).1 = T at *
  have hr : ∀ t ∈ T, ∀ x ∈ t.rels, Sml x ∧ TreeR x ∧ (lineS x).size ≤ 10300000 := fun t ht x hx => sml_rel ((hg t ht).rels x hx) ((hf.2 t ht).2 x hx)
  refine ⟨Nat.le_trans hf.1 (by decide), ⟨Nat.le_trans hf.1 (by decide), fun t ht => ⟨Nat.le_trans (hf.2 t ht).1 (by decide), fun x hx => ((hf.2 t ht).2 x hx).up (by decide)⟩⟩, fun t ht => ⟨(hg t ht).name.size, Nat.le_trans (hf.2 t ht).1 (by decide), fun x hx => (hr t ht x hx).1⟩, fun t ht x hx => (hr t ht x hx).2.1, ?_⟩
  have h1 : ∀ t ∈ T, (typS t).size ≤ 21200000000 := fun t ht => by
    have h2 := cat_size lineS 10300000 t.rels fun x hx => (hr t ht x hx).2.2
    have h3 := (hf.2 t ht).1
    have h4 := (hg t ht).name.size
    have h5 : t.rels.length * 10300000 ≤ 2049 * 10300000 := Nat.mul_le_mul_right _ h3
    unfold typS topS
    rw [size_app, size_app, size_app, size_app]
    show 5 + _ + 3 + _ + 2 ≤ _
    omega
  have h2 := cat_size typS 21200000000 T h1
  have h3 : T.length * 21200000000 ≤ 2049 * 21200000000 := Nat.mul_le_mul_right _ hf.1
  show (catL (T.map typS)).size ≤ _
  omega
end Go.Proofs.Ytkeonempmchpnaa
