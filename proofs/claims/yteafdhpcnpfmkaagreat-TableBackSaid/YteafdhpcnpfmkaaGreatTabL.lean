/- Layer 11: what is told of a table that there is, number by number. Conditions: none. -/
import Derived.Test.YteafdhpcnpfmkaaGreatCompP
import Derived.IntWalk
namespace Go.Proofs.YteafdhpcnpfmkaaGreat
open Go.RowKit

theorem TabOk.at_ {s tx : ByteArray} {ty : List ByteArray} {ps : List Path} {v : List Int} {K : List TabR} (h : TabOk s tx ty ps (K.map (·.r)) v) {i : Nat} (hi : i < K.length) :
    ∃ x, (relsOf ((parseS s).1.map typI))[i]? = some x ∧ (atK K i).r = relT11 ps (lvAt v i) x := by
  obtain ⟨k, hk⟩ : ∃ k, K[i]? = some k := ⟨_, List.getElem?_eq_getElem hi⟩
  have h1 : (K.map (·.r))[i]? = some k.r := by rw [List.getElem?_map, hk]; rfl
  rw [h.rels] at h1
  unfold relsTT at h1
  rw [List.getElem?_map, List.getElem?_zipIdx] at h1
  cases e : (relsOf ((parseS s).1.map typI))[i]? with
  | none => rw [e] at h1; cases h1
  | some x =>
    rw [e] at h1
    refine ⟨x, rfl, ?_⟩
    rw [atK_in hk, h.paths]
    have := Option.some.inj h1
    rw [← this]
    simp
theorem TabOk.lenK {s tx : ByteArray} {ty : List ByteArray} {ps : List Path} {v : List Int} {K : List TabR} (h : TabOk s tx ty ps (K.map (·.r)) v) : K.length = (relsOf ((parseS s).1.map typI)).length := by
  have := congrArg List.length h.rels
  rw [List.length_map] at this
  unfold relsTT at this
  rw [List.length_map, List.length_zipIdx] at this
  exact this
theorem TabOk.few {s tx : ByteArray} {ty : List ByteArray} {ps : List Path} {v : List Int} {K : List TabR} (h : TabOk s tx ty ps (K.map (·.r)) v) : K.length ≤ 96 := by
  rw [h.lenK]
  exact h.right.rels_le
/-- A path of the schema's is a number's. -/
theorem TabOk.path {s tx : ByteArray} {ty : List ByteArray} {ps : List Path} {v : List Int} {K : List TabR} (h : TabOk s tx ty ps (K.map (·.r)) v) {q : Path} (hq : q ∈ ps) : ixP ps q < K.length ∧ (atK K (ixP ps q : Nat)).r.tn = q.1 ∧ (atK K (ixP ps q : Nat)).r.rn = q.2 := by
  have hl := ix_lt hq
  have hg := ix_get hq
  have hK : ixP ps q < K.length := by rw [h.lenK, ← relsOf_len, ← h.paths]; exact hl
  obtain ⟨x, hx, e⟩ := h.at_ hK
  have := path_at hx
  rw [← h.paths, hg] at this
  have := Option.some.inj this
  rw [e]
  exact ⟨hK, by rw [this]; rfl, by rw [this]; rfl⟩
theorem wf11 {n : Nat} (h : n ≤ 96) : (Lit.int .i64 (n : Int)).wf = true := WalkArith.wf_i64 (by omega)
theorem TabOk.metas {s tx : ByteArray} {ty : List ByteArray} {ps : List Path} {v : List Int} {K : List TabR} (h : TabOk s tx ty ps (K.map (·.r)) v) {i : Nat} (hi : i < K.length) :
    ∃ (tn : ByteArray) (a b c : Nat), (atK K i).r.tn = tn ∧ (atK K i).r.view = a ∧ (atK K i).r.edit = b ∧ (atK K i).r.check = c ∧ a < K.length ∧ b < K.length ∧ c < K.length ∧ (atK K a).r.tn = tn ∧ (atK K b).r.tn = tn ∧ (atK K c).r.tn = tn := by
  obtain ⟨x, hx, e⟩ := h.at_ hi
  obtain ⟨m1, m2, m3⟩ := h.right.metas (List.mem_of_getElem? hx)
  rw [← h.paths] at m1 m2 m3
  have k1 := h.path m1
  have k2 := h.path m2
  have k3 := h.path m3
  exact ⟨x.1.name, ixP ps (x.1.name, x.2.view), ixP ps (x.1.name, x.2.edit), ixP ps (x.1.name, x.2.check), by rw [e]; rfl, by rw [e]; rfl, by rw [e]; rfl, by rw [e]; rfl, k1.1, k2.1, k3.1, k1.2.1, k2.2.1, k3.2.1⟩
theorem TabOk.may {s tx : ByteArray} {ty : List ByteArray} {ps : List Path} {v : List Int} {K : List TabR} (h : TabOk s tx ty ps (K.map (·.r)) v) {i : Nat} (hi : i < K.length) (q : Path) (hq : ((atK K i).r.subs.any fun y => decide (y = q)) = true) :
    (ty.any fun y => decide (y = q.1)) = true ∧ (q.2 = ⟨#[]⟩ ∨ (lastIx ps q).isSome = true) := by
  obtain ⟨x, hx, e⟩ := h.at_ hi
  rw [e] at hq
  obtain ⟨y, hy, hd⟩ := List.any_eq_true.1 hq
  have hd := of_decide_eq_true hd
  subst hd
  obtain ⟨⟨t, ht, e1⟩, h2⟩ := h.right.subPath (List.mem_of_getElem? hx) hy
  obtain ⟨t0, ht0, rfl⟩ := List.mem_map.1 ht
  refine ⟨?_, ?_⟩
  · rw [h.types]
    exact List.any_eq_true.2 ⟨t0.name, List.mem_map.2 ⟨t0, ht0, rfl⟩, decide_eq_true e1⟩
  · by_cases hz : y.2 = ⟨#[]⟩
    · exact .inl hz
    · exact .inr (lastIx_is.2 (by rw [h.paths]; exact h2 hz))
theorem TabOk.lev {s tx : ByteArray} {ty : List ByteArray} {ps : List Path} {v : List Int} {K : List TabR} (h : TabOk s tx ty ps (K.map (·.r)) v) {i : Nat} (hi : i < K.length) :
    (atK K i).r.level = lvAt v i ∧ 0 ≤ lvAt v i ∧ lvAt v i < K.length := by
  obtain ⟨x, hx, e⟩ := h.at_ hi
  have hlen : K.length = v.length := by rw [h.lenK, h.len]
  have h1 := h.least.1.1 i (by omega)
  have h2 := h.least.below h.inr (i := i) (by omega)
  exact ⟨by rw [e]; rfl, h1, by rw [hlen]; exact h2⟩
theorem TabOk.same {s tx : ByteArray} {ty : List ByteArray} {ps : List Path} {v : List Int} {K : List TabR} (h : TabOk s tx ty ps (K.map (·.r)) v) {i j : Nat} (hi : i < K.length) {k r : Int} {nx : ByteArray} (ho : (atK K i).r.ops[j]? = some (k, r, nx)) (hk : k = 2) :
    ∃ a : Nat, r = a ∧ a < K.length ∧ lvAt v a ≤ lvAt v i ∧ (j = 1 → (atK K i).r.ops.length = 3 → (∃ q, (atK K i).r.ops[2]? = some (6, q)) → lvAt v a < lvAt v i) := by
  obtain ⟨x, hx, e⟩ := h.at_ hi
  rw [e] at ho ⊢
  have ho2 : (x.2.ops.map (opT11 ps x.1.name))[j]? = some (k, r, nx) := ho
  rw [List.getElem?_map] at ho2
  cases e1 : x.2.ops[j]? with
  | none => rw [e1] at ho2; cases ho2
  | some o =>
    rw [e1] at ho2
    have e2 : opT11 ps x.1.name o = (k, r, nx) := Option.some.inj ho2
    have k1 : o.1 = 2 := (congrArg (·.1) e2).trans hk
    have k2 : (ixP ps (x.1.name, o.2.1) : Int) = r := by
      have := congrArg (·.2.1) e2
      unfold opT11 at this
      simp only [k1, true_or, if_true] at this
      exact this
    have hm := h.right.opPath (List.mem_of_getElem? hx) (List.mem_of_getElem? e1) (.inl k1)
    rw [← h.paths] at hm
    have hs := same_level h.right h.least.1 hx e1 k1
    rw [← h.paths] at hs
    refine ⟨ixP ps (x.1.name, o.2.1), k2.symm, (h.path hm).1, hs.1, fun hj hl ⟨q, hq⟩ => hs.2 ?_⟩
    subst hj
    obtain ⟨q1, q2⟩ := rel_mem (List.mem_of_getElem? hx)
    obtain ⟨t, ht, hg, _, _⟩ := said_tree q1 q2
    have hl3 : t.len = 3 := by
      have h1 : (x.2.ops.map (opT11 ps x.1.name)).length = 3 := hl
      rw [List.length_map, ht, List.length_map] at h1
      exact h1
    have h6 : t.kd 2 = 6 := by
      have h1 : (x.2.ops.map (opT11 ps x.1.name))[2]? = some (6, q) := hq
      rw [ht, List.getElem?_map, List.getElem?_map] at h1
      have hlt : 2 < t.ops.length := by unfold Ex.len at hl3; omega
      rw [List.getElem?_eq_getElem hlt] at h1
      have h2 := congrArg (·.1) (Option.some.inj h1)
      unfold Ex.kd
      rw [List.getD_eq_getElem?_getD, List.getElem?_eq_getElem hlt]
      have h3 : ((t.ops[2].1 : Nat) : Int) = 6 := h2
      show t.ops[2].1 = 6
      omega
    rw [ht]
    exact not_behind hg hl3 h6
theorem otcells_at {w : World} {B c n : Nat} {A : Option Addr} {l : List OpT} (h : Rd w B 3 A n c (otcells l)) {i : Nat} {o : OpT} (hi : l[i]? = some o) (hn : n = l.length) :
    ∃ b k, A = some ⟨b, k, none⟩ ∧ b < B ∧ w.cell? ⟨b, k + i * 3, none⟩ = some (.int .i64 o.1) ∧ w.cell? ⟨b, k + i * 3 + 1, none⟩ = some (.int .i64 o.2.1) ∧ w.cell? ⟨b, k + i * 3 + 2, none⟩ = some (.string o.2.2) := by
  subst hn
  obtain ⟨b, k, e, hb, hc⟩ := h.at_ (lt_get hi)
  have g := fun j (hj : j < 3) => flat_get otcell (sz := 3) (fun _ => rfl) hi (k := j) hj
  exact ⟨b, k, e, hb, hc _ _ (g 0 (by omega)), by rw [Nat.add_assoc]; exact hc _ _ (g 1 (by omega)), by rw [Nat.add_assoc]; exact hc _ _ (g 2 (by omega))⟩
end Go.Proofs.YteafdhpcnpfmkaaGreat
