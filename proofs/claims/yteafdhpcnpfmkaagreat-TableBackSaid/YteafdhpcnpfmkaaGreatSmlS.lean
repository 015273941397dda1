/- Layer 11: what a text says isn't too long to be shown; how many relations and edges a schema that is right has. Conditions: none. -/
import Derived.Test.YteafdhpcnpfmkaaGreatSaidP
import Derived.Test.YteafdhpcnpfmkaaGreatLvK
import Derived.Test.YteafdhpcnpfmkaaGreatShowW
namespace Go.Proofs.YteafdhpcnpfmkaaGreat
open Go.RowKit

theorem NmW.sizeS {n : ByteArray} (h : NmW n) : n.size ≤ 1000 := Nat.le_trans (name_size h.1) (by decide)
theorem ops_smlS : ∀ t : Ex, t.nm → ∀ o ∈ t.ops, o.2.1.size ≤ 1000 ∧ o.2.2.size ≤ 1000
  | .this, _ => fun o ho => by rw [List.mem_singleton.1 ho]; exact ⟨Nat.zero_le _, Nat.zero_le _⟩
  | .same n, h => by
    have h2 : NmW n := h
    exact fun o ho => by rw [List.mem_singleton.1 ho]; exact ⟨h2.sizeS, Nat.zero_le _⟩
  | .via n m, h => fun o ho => by rw [List.mem_singleton.1 ho]; exact ⟨h.1.sizeS, h.2.sizeS⟩
  | .bin k a b, h => fun o ho => by
    rcases List.mem_append.1 ho with ho | ho
    · rcases List.mem_append.1 ho with ho | ho
      · exact ops_smlS a h.1 o ho
      · exact ops_smlS b h.2 o ho
    · rw [List.mem_singleton.1 ho]; exact ⟨Nat.zero_le _, Nat.zero_le _⟩
theorem sml_relS {x : RelP} (g : RelG x) (f : FewR 2049 x) : Sml x ∧ (lineS x).size ≤ 10300000 := by
  obtain ⟨t, h1, h2, h3, h4⟩ := g.ops
  have s2 := ops_smlS t h3
  have hs : Sml x := ⟨g.name.sizeS, g.view.sizeS, g.edit.sizeS, g.check.sizeS, ⟨Nat.le_trans f.1 (by decide), fun s hs => ⟨(g.subs s hs).1.sizeS, by
    rcases (g.subs s hs).2 with e | e
    · rw [e]; exact Nat.zero_le _
    · exact e.sizeS⟩⟩, ⟨Nat.le_trans f.2 (by decide), fun o ho => by rw [h1] at ho; exact s2 o ho⟩⟩
  refine ⟨hs, ?_⟩
  have w := (who_size hs).2
  have r := rew_size hs.ops.2
  have f1 := f.1
  have f2 := f.2
  have : (relS x).size ≤ (whoS x).size + 4 + (rewS x.ops).size + 1 := by
    unfold relS
    rw [size_app]
    split
    · show _ + 1 ≤ _; omega
    · rw [size_app, size_app]; show _ + (4 + _) + 1 ≤ _; omega
  unfold lineS
  rw [size_app, size_app]
  show 1 + _ + 1 ≤ _
  omega
theorem cat_sizeS {α : Type} (f : α → ByteArray) (N : Nat) : ∀ l : List α, (∀ x ∈ l, (f x).size ≤ N) → (catL (l.map f)).size ≤ l.length * N
  | [], _ => Nat.zero_le _
  | x :: r, h => by
    have h1 := h x List.mem_cons_self
    have h2 := cat_sizeS f N r fun y hy => h y (List.mem_cons_of_mem _ hy)
    show (f x ++ catL (r.map f)).size ≤ _
    rw [size_app, List.length_cons, Nat.succ_mul]
    omega
/-- What a text says is short enough to be shown. -/
theorem says_sml (s : ByteArray) : (parseS s).1.length ≤ 1000000 ∧ (∀ t ∈ (parseS s).1, SmlT t) ∧ (showS (parseS s).1).size ≤ 90000000000000 := by
  have hf := few10 s
  have hg := parse_goodT s
  generalize (parseS s).1 = T at *
  have hr : ∀ t ∈ T, ∀ x ∈ t.rels, Sml x ∧ (lineS x).size ≤ 10300000 := fun t ht x hx => sml_relS ((hg t ht).rels x hx) ((hf.2 t ht).2 x hx)
  refine ⟨Nat.le_trans hf.1 (by decide), fun t ht => ⟨(hg t ht).name.sizeS, Nat.le_trans (hf.2 t ht).1 (by decide), fun x hx => (hr t ht x hx).1⟩, ?_⟩
  have h1 : ∀ t ∈ T, (typS t).size ≤ 21200000000 := fun t ht => by
    have h2 := cat_sizeS lineS 10300000 t.rels fun x hx => (hr t ht x hx).2
    have h3 := (hf.2 t ht).1
    have h4 := (hg t ht).name.sizeS
    have h5 : t.rels.length * 10300000 ≤ 2049 * 10300000 := Nat.mul_le_mul_right _ h3
    unfold typS topS
    rw [size_app, size_app, size_app, size_app]
    show 5 + _ + 3 + _ + 2 ≤ _
    omega
  have h2 := cat_sizeS typS 21200000000 T h1
  have h3 : T.length * 21200000000 ≤ 2049 * 21200000000 := Nat.mul_le_mul_right _ hf.1
  show (catL (T.map typS)).size ≤ _
  omega
theorem relsA_few {l : List TypA} (h : Right (l.map TypA.says)) : (relsA l).length ≤ 96 := by
  have := h.rels_le
  rw [← relsA_says, List.length_map] at this
  exact this
theorem edges_in {l : List TypA} {e : Ed} (h : e ∈ edgesP (l.map TypA.says)) : 0 ≤ e.1 ∧ e.1 < (relsA l).length ∧ 0 ≤ e.2.1 ∧ e.2.1 < (relsA l).length ∧ e ∈ pairsE (relsA l).length := by
  rw [edgesP_is] at h
  obtain ⟨a, b, ha, hb, e1, e2⟩ := mem_relsD h
  have hb : b < (relsA l).length := by simpa [pathsA] using hb
  exact ⟨by omega, by omega, by omega, by omega, mem_pairs ha hb e1 e2⟩
/-- How many edges there may be. -/
theorem edges_few {l : List TypA} {zs : List Ed} (hR : Right (l.map TypA.says)) (h1 : Rising zs) (h2 : ∀ e, e ∈ zs ↔ e ∈ edgesP (l.map TypA.says)) : zs.length ≤ 18432 := by
  have h3 := nodup_sub_len (rising_nodup h1) fun e he => (edges_in ((h2 e).1 he)).2.2.2.2
  rw [pairsE_len] at h3
  have h4 := relsA_few hR
  have h5 : (relsA l).length * ((relsA l).length * 2) ≤ 96 * (96 * 2) := Nat.mul_le_mul h4 (Nat.mul_le_mul h4 (Nat.le_refl _))
  omega
theorem said_relsA {s : ByteArray} {l : List TypA} (hl : l.map TypA.says = (parseS s).1.map typI) (hR : Right (l.map TypA.says)) : (relsA l).length ≤ 600 ∧ ∀ x ∈ relsA l, x.2.subs.length ≤ 100000 ∧ x.2.ops.length ≤ 100000 :=
  few_of (Nat.le_trans hR.rels_le (by decide)) fun x hx => by
    unfold relsOf at hx
    obtain ⟨t, ht, hx⟩ := List.mem_flatMap.1 hx
    obtain ⟨r, hr, rfl⟩ := List.mem_map.1 hx
    obtain ⟨_, _, _, h1, h2⟩ := said_tree (hl ▸ ht) hr
    exact ⟨Nat.le_trans h2 (by decide), Nat.le_trans h1 (by decide)⟩

theorem pathsA_of (l : List TypA) : pathsOf (l.map TypA.says) = pathsA (relsA l) := by
  unfold pathsOf pathsA
  rw [← relsA_says, List.map_map]
  rfl
end Go.Proofs.YteafdhpcnpfmkaaGreat
