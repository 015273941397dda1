/- Layer 10: what Levels answers, in one form; edges that rise. Conditions: none. -/
import Derived.Test.YteafdhpcnpfmkaaGreatEdgesW
import Derived.Test.YteafdhpcnpfmkaaGreatLevP
namespace Go.Proofs.YteafdhpcnpfmkaaGreat
open Go.RowKit

theorem rising_nodup {l : List Ed} (h : Rising l) : l.Nodup := h.imp fun {a b} hab e => by subst e; rw [cfE_neg] at hab; omega
theorem rising_eq {a b : List Ed} (ha : Rising a) (hb : Rising b) (h : ∀ e, e ∈ a ↔ e ∈ b) : a = b :=
  List.Perm.eq_of_pairwise (le := fun a b => cfE a b < 0) (fun x y _ _ h1 h2 => by rw [cfE_neg] at *; omega) ha hb ((List.perm_ext_iff_of_nodup (rising_nodup ha) (rising_nodup hb)).2 h)
theorem bthenZ {B : Nat} {w w1 w2 : World} (h : Below B w w1) (hB : B ≤ w1.heap.size) (k : Below w1.heap.size w1 w2) : Below B w w2 := h.trans (k.mono hB)
theorem bnewZ (w : World) (o : Obj) : Below w.heap.size w (w.alloc o) := (Below.refl _ w).alloc (Nat.le_refl _) o
theorem few_of {l : List TypA} {m n : Nat} (h1 : (relsOf (l.map TypA.says)).length ≤ m) (h2 : ∀ x ∈ relsOf (l.map TypA.says), x.2.subs.length ≤ n ∧ x.2.ops.length ≤ n) : (relsA l).length ≤ m ∧ ∀ x ∈ relsA l, x.2.subs.length ≤ n ∧ x.2.ops.length ≤ n := by
  rw [← relsA_says] at h1 h2
  rw [List.length_map] at h1
  exact ⟨h1, fun x hx => h2 _ (List.mem_map.2 ⟨x, hx, rfl⟩)⟩

/-- An edge's cells. -/
theorem edge_at {w : World} {B n c : Nat} {A : Option Addr} {l : List Ed} (h : Rd w B 3 A n c (ecells l)) {i : Nat} {e : Ed} (hi : l[i]? = some e) (hn : n = l.length) :
    ∃ b k, A = some ⟨b, k, none⟩ ∧ b < B ∧ w.cell? ⟨b, k + i * 3, none⟩ = some (.int .i64 e.1) ∧ w.cell? ⟨b, k + i * 3 + 1, none⟩ = some (.int .i64 e.2.1) ∧ w.cell? ⟨b, k + i * 3 + 2, none⟩ = some (.bool e.2.2) := by
  subst hn
  obtain ⟨b, k, e2, hb, hc⟩ := h.at_ (lt_get hi)
  obtain ⟨g0, g1, g2⟩ := ecells_get hi
  exact ⟨b, k, e2, hb, hc _ _ g0, by rw [Nat.add_assoc]; exact hc _ _ g1, by rw [Nat.add_assoc]; exact hc _ _ g2⟩
theorem notsOf_snoc (l : List Ed) (e : Ed) : notsOf (l ++ [e]) = notsOf l + (if e.2.2 then 1 else 0) := by
  unfold notsOf
  rw [List.filter_append, List.length_append]
  cases h : e.2.2 <;> simp [h]

/-- What Levels answers: ErrArg, ErrCycle, or the least levels. -/
inductive LvIs (n : Nat) (l : List Ed) : List Int → Int → Prop
  | arg (hi : ¬ InR n l) : LvIs n l [] 1
  | cyc (hi : InR n l) (hc : Cyc l) : LvIs n l [] 33
  | ok (hi : InR n l) (v : List Int) (hv : v.length = n) (hL : Least n l (lvAt v)) (hb : ∀ x ∈ v, 0 ≤ x ∧ x ≤ 4096) : LvIs n l v 0
theorem levels_res {w : World} {n c : Nat} {A : Option Addr} {l : List Ed} (h : Rd w w.heap.size 3 A l.length c (ecells l)) (hl : l.length ≤ 100000) (hn : n ≤ 4096) :
    Calls Tryz.prog 29 #[.int .i64 (n : Int), .slice A l.length c] w fun e w' => (∃ A' c' v s, e = .returned (.tuple #[.slice A' v.length c', .int .i64 s]) ∧ Rd w' w'.heap.size 1 A' v.length c' (lvs v) ∧ LvIs n l v s) ∧ Below w.heap.size w w' :=
  (levels_any (n := (n : Int)) h hl).mono fun e w' ⟨h1, h2⟩ => ⟨by
    cases h1 with
    | arg h =>
      rcases h with h | h | h
      · omega
      · omega
      · exact ⟨none, 0, [], 1, rfl, Rd.none_ _ _ _, .arg h⟩
    | cyc _ _ hi hc => exact ⟨none, 0, [], 33, rfl, Rd.none_ _ _ _, .cyc hi hc⟩
    | ok _ _ hi v A c hr hv hL hb =>
      rw [Int.toNat_natCast] at *
      subst hv
      exact ⟨A, c, v, 0, rfl, hr, .ok hi v rfl hL hb⟩, h2⟩
theorem lv_cell {v : List Int} {i : Nat} (hi : i < v.length) : (lvs v)[i]? = some (.int .i64 (lvAt v i)) := by
  simp only [lvs, List.getElem?_map, List.getElem?_eq_getElem hi, Option.map_some]
  simp [lvAt, hi]
/-- The same edges have the same answer. -/
theorem LvIs.same {n : Nat} {l m : List Ed} {v u : List Int} {s r : Int} (h : LvIs n l v s) (k : LvIs n m u r) (hs : ∀ e, e ∈ l ↔ e ∈ m) : v = u ∧ s = r := by
  have hi : InR n l ↔ InR n m := ⟨fun h e he => h e ((hs e).2 he), fun h e he => h e ((hs e).1 he)⟩
  have h1 : ∀ e ∈ l, e ∈ m := fun e he => (hs e).1 he
  have h2 : ∀ e ∈ m, e ∈ l := fun e he => (hs e).2 he
  cases h with
  | arg hl =>
    cases k with
    | arg => exact ⟨rfl, rfl⟩
    | cyc hm => exact absurd (hi.2 hm) hl
    | ok hm => exact absurd (hi.2 hm) hl
  | cyc hl hc =>
    cases k with
    | arg hm => exact absurd (hi.1 hl) hm
    | cyc => exact ⟨rfl, rfl⟩
    | ok _ _ _ hL => exact (Cyc.none (hc.sub h1) hL.1).elim
  | ok hl v hv hL =>
    cases k with
    | arg hm => exact absurd (hi.1 hl) hm
    | cyc _ hc => exact (Cyc.none (hc.sub h2) hL.1).elim
    | ok _ u hu hM =>
      refine ⟨List.ext_getElem (by omega) fun i h3 h4 => ?_, rfl⟩
      have := (hL.congr hs).same hM (i := i) (by omega)
      simpa [lvAt, h3, h4] using this
end Go.Proofs.YteafdhpcnpfmkaaGreat
