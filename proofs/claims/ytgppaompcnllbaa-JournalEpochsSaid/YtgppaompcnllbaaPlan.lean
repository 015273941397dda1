/- Layer 4 as plain functions: a record's sectors, what is a head, which records sectors tell. Conditions: none; nothing of the program is named here but what a reader of numbers holds. -/
import Derived.Test.YtgppaompcnllbaaNums
import Derived.Test.YtgppaompcnllbaaSpec
namespace Go.Proofs.Ytgppaompcnllbaa
open Go.RowKit

/-- How many sectors a record of n bytes has behind its head. -/
def pn (n : Nat) : Nat := (n + 62) / 63
/-- How many it takes. -/
def szN (n : Nat) : Nat := 1 + pn n
theorem pn_zero : pn 0 = 0 := rfl
theorem pn_lt {n j : Nat} : j < pn n ↔ 63 * j < n := by unfold pn; omega
theorem pn_le (n : Nat) : pn n ≤ n := by unfold pn; omega
theorem pn_bd (n : Nat) : n ≤ 63 * pn n ∧ 63 * pn n < n + 63 := by unfold pn; omega
theorem szN_pos (n : Nat) : 0 < szN n := by unfold szN; omega
/-- A record's bytes in its j-th part. -/
def chunk (l : List UInt8) (j : Nat) : List UInt8 := (l.drop (63 * j)).take 63
theorem chunk_len (l : List UInt8) (j : Nat) : (chunk l j).length = min 63 (l.length - 63 * j) := by simp [chunk]
theorem chunk_le (l : List UInt8) (j : Nat) : (chunk l j).length ≤ 63 := by rw [chunk_len]; omega
def partB (l : List UInt8) (j : Nat) : List UInt8 := 0 :: chunk l j
theorem partB_le (l : List UInt8) (j : Nat) : (partB l j).length ≤ 64 := by have := chunk_le l j; simp [partB]; omega
def headB (e k n : Nat) : List UInt8 := 1 :: (num e ++ (num k ++ num n))
theorem headB_le {e k n : Nat} (he : e < 2 ^ 64) (hk : k < 2 ^ 64) (hn : n < 2 ^ 64) : (headB e k n).length ≤ 64 := by
  have h1 := nb_le8 he
  have h2 := nb_le8 hk
  have h3 := nb_le8 hn
  simp [headB, num_length]
  omega
/-- A record's sectors. -/
def headS (e k n : Nat) : Sec := pad (headB e k n)
def partS (l : List UInt8) (j : Nat) : Sec := pad (partB l j)

/-! what a head tells -/
def hdA (r : List UInt8) : Nat × RSt := rnum (r, 0)
def hdB (r : List UInt8) : Nat × RSt := rnum (hdA r).2
def hdC (r : List UInt8) : Nat × RSt := rnum (hdB r).2
/-- The size that a sector tells, if it is the head of the k-th record of epoch e. -/
def headIs (s : Sec) (e k : Nat) : Option Nat :=
  if s.head? = some 1 ∧ (hdC (s.drop 1)).2.2 = 0 ∧ (hdC (s.drop 1)).1 ≤ 4096 ∧ (hdA (s.drop 1)).1 = e ∧ (hdB (s.drop 1)).1 = k then some (hdC (s.drop 1)).1 else none
theorem headIs_some {s : Sec} {e k n : Nat} (h : headIs s e k = some n) : s.head? = some 1 ∧ (hdC (s.drop 1)).2.2 = 0 ∧ n ≤ 4096 ∧ (hdA (s.drop 1)).1 = e ∧ (hdB (s.drop 1)).1 = k ∧ (hdC (s.drop 1)).1 = n := by
  unfold headIs at h
  split at h
  · rename_i hh
    obtain rfl := Option.some.inj h
    exact ⟨hh.1, hh.2.1, hh.2.2.1, hh.2.2.2.1, hh.2.2.2.2, rfl⟩
  · cases h
theorem headIs_sign {s : Sec} (h : s.head? ≠ some 1) (e k : Nat) : headIs s e k = none := by
  unfold headIs
  rw [if_neg (fun hh => h hh.1)]
theorem rnum_num (x : Nat) (hx : x < 2 ^ 64) (r : List UInt8) : rnum (num x ++ r, 0) = (x, (r, 0)) := by
  have ht := take_num x hx r
  have hl := num_length x
  unfold rnum
  rw [if_neg (by simp), ht]
  simp only [ne_eq, not_true_eq_false, ↓reduceIte]
  rw [← hl, List.drop_left]
theorem headS_tells {e k n : Nat} (he : e < 2 ^ 64) (hk : k < 2 ^ 64) (hn : n < 2 ^ 64) : (headS e k n).head? = some 1 ∧ (hdA ((headS e k n).drop 1)).1 = e ∧ (hdB ((headS e k n).drop 1)).1 = k ∧ (hdC ((headS e k n).drop 1)).1 = n ∧ (hdC ((headS e k n).drop 1)).2.2 = 0 := by
  have e1 : (headS e k n).drop 1 = num e ++ (num k ++ (num n ++ List.replicate (64 - (headB e k n).length) 0)) := by
    simp [headS, pad, headB]
  have a := rnum_num e he (num k ++ (num n ++ List.replicate (64 - (headB e k n).length) 0))
  have b := rnum_num k hk (num n ++ List.replicate (64 - (headB e k n).length) 0)
  have c := rnum_num n hn (List.replicate (64 - (headB e k n).length) 0)
  have hA : hdA ((headS e k n).drop 1) = (e, (num k ++ (num n ++ List.replicate (64 - (headB e k n).length) 0), 0)) := by rw [hdA, e1, a]
  have hB : hdB ((headS e k n).drop 1) = (k, (num n ++ List.replicate (64 - (headB e k n).length) 0, 0)) := by rw [hdB, hA]; exact b
  have hC : hdC ((headS e k n).drop 1) = (n, (List.replicate (64 - (headB e k n).length) 0, 0)) := by rw [hdC, hB]; exact c
  refine ⟨rfl, by rw [hA], by rw [hB], by rw [hC], by rw [hC]⟩
theorem headIs_own {e k n : Nat} (he : e < 2 ^ 64) (hk : k < 2 ^ 64) (hn : n ≤ 4096) : headIs (headS e k n) e k = some n := by
  obtain ⟨h0, h1, h2, h3, h4⟩ := headS_tells he hk (show n < 2 ^ 64 by omega)
  unfold headIs
  rw [if_pos ⟨h0, h4, by omega, h1, h2⟩, h3]
theorem headIs_other {e k n : Nat} (he : e < 2 ^ 64) (hk : k < 2 ^ 64) (hn : n < 2 ^ 64) {e' : Nat} (h : e ≠ e') (k' : Nat) : headIs (headS e k n) e' k' = none := by
  obtain ⟨h0, h1, h2, h3, h4⟩ := headS_tells he hk hn
  unfold headIs
  rw [if_neg (fun hh => h (h1.symm.trans hh.2.2.2.1))]
theorem headIs_part (l : List UInt8) (j e k : Nat) : headIs (partS l j) e k = none := headIs_sign (by simp [partS, partB, pad]) e k
theorem headIs_zero (e k : Nat) : headIs (List.replicate 64 0) e k = none := headIs_sign (by simp [List.replicate]) e k
theorem headIs_nil (e k : Nat) : headIs [] e k = none := headIs_sign (by simp) e k

/-! which record sectors tell -/
def bodyF (l : List Sec) (pos m : Nat) : List UInt8 := (List.range m).flatMap fun j => (l.getD (pos + 1 + j) []).drop 1
theorem bodyF_zero (l : List Sec) (pos : Nat) : bodyF l pos 0 = [] := rfl
theorem bodyF_succ (l : List Sec) (pos m : Nat) : bodyF l pos (m + 1) = bodyF l pos m ++ (l.getD (pos + 1 + m) []).drop 1 := by simp [bodyF, List.range_succ, List.flatMap_append]
theorem bodyF_len {l : List Sec} (h : ∀ b ∈ l, b.length = 64) {pos m : Nat} (hm : pos + 1 + m ≤ l.length) : (bodyF l pos m).length = 63 * m := by
  induction m with
  | zero => rfl
  | succ m ih =>
    rw [bodyF_succ, List.length_append, ih (by omega), List.length_drop, List.getD_eq_getElem?_getD, List.getElem?_eq_getElem (by omega), Option.getD_some, h _ (List.getElem_mem _)]
    omega
def partsAre (l : List Sec) (pos m : Nat) : Bool := (List.range m).all fun j => (l.getD (pos + 1 + j) []).head? == some 0
theorem partsAre_iff {l : List Sec} {pos m : Nat} : partsAre l pos m = true ↔ ∀ j, j < m → (l.getD (pos + 1 + j) []).head? = some 0 := by
  simp [partsAre]
/-- The k-th record of epoch e, if it is at pos and ends by to. -/
def recAt (l : List Sec) (e k pos to : Nat) : Option (List UInt8) :=
  if pos < to then
    (headIs (l.getD pos []) e k).bind fun n => if pos + szN n ≤ to ∧ partsAre l pos (pn n) = true then some ((bodyF l pos (pn n)).take n) else none
  else none
theorem recAt_out {l : List Sec} {e k pos to : Nat} (h : to ≤ pos) : recAt l e k pos to = none := by
  unfold recAt
  rw [if_neg (by omega)]
theorem recAt_head {l : List Sec} {e k pos to : Nat} (h : headIs (l.getD pos []) e k = none) : recAt l e k pos to = none := by
  unfold recAt
  split
  · rw [h]; rfl
  · rfl
theorem recAt_room {l : List Sec} {e k pos to n : Nat} (h : headIs (l.getD pos []) e k = some n) (hn : to < pos + szN n) : recAt l e k pos to = none := by
  unfold recAt
  split
  · rw [h, Option.bind_some, if_neg (by omega)]
  · rfl
theorem recAt_parts {l : List Sec} {e k pos to n : Nat} (h : headIs (l.getD pos []) e k = some n) (hn : partsAre l pos (pn n) = false) : recAt l e k pos to = none := by
  unfold recAt
  split
  · rw [h, Option.bind_some, if_neg (by rw [hn]; simp)]
  · rfl
theorem recAt_ok {l : List Sec} {e k pos to n : Nat} (h : headIs (l.getD pos []) e k = some n) (h1 : pos < to) (h2 : pos + szN n ≤ to) (h3 : partsAre l pos (pn n) = true) : recAt l e k pos to = some ((bodyF l pos (pn n)).take n) := by
  unfold recAt
  rw [if_pos h1, h, Option.bind_some, if_pos ⟨h2, h3⟩]
theorem recAt_some {l : List Sec} (hs : ∀ b ∈ l, b.length = 64) {e k pos to : Nat} (hto : to ≤ l.length) {b : List UInt8} (h : recAt l e k pos to = some b) : pos < to ∧ headIs (l.getD pos []) e k = some b.length ∧ pos + szN b.length ≤ to ∧ partsAre l pos (pn b.length) = true ∧ b = (bodyF l pos (pn b.length)).take b.length := by
  unfold recAt at h
  split at h
  · rename_i h1
    cases hh : headIs (l.getD pos []) e k with
    | none => rw [hh] at h; cases h
    | some n =>
      rw [hh, Option.bind_some] at h
      split at h
      · rename_i h2
        have hb := Option.some.inj h
        have hl : b.length = n := by
          have h3 := pn_bd n
          rw [← hb, List.length_take, bodyF_len hs (by have := h2.1; unfold szN at this; omega)]
          omega
        rw [hl]
        exact ⟨h1, rfl, h2.1, h2.2, hb.symm⟩
      · cases h
  · cases h
/-- Up to pos those records have been told. -/
inductive Upto (l : List Sec) (e to from_ : Nat) : List (List UInt8) → Nat → Prop
  | nil : Upto l e to from_ [] from_
  | snoc {acc : List (List UInt8)} {pos : Nat} {b : List UInt8} : Upto l e to from_ acc pos → recAt l e acc.length pos to = some b → Upto l e to from_ (acc ++ [b]) (pos + szN b.length)
/-- Those, and no more, are told. -/
structure Reads (l : List Sec) (e to from_ : Nat) (acc : List (List UInt8)) (pos : Nat) : Prop where
  up : Upto l e to from_ acc pos
  fin : recAt l e acc.length pos to = none
theorem Upto.pre {l : List Sec} {e to from_ : Nat} {acc : List (List UInt8)} {pos : Nat} (h : Upto l e to from_ acc pos) : ∀ n, n < acc.length → ∃ p b, Upto l e to from_ (acc.take n) p ∧ recAt l e n p to = some b := by
  induction h with
  | nil => intro n hn; simp at hn
  | @snoc acc pos b h hr ih =>
    intro n hn
    simp at hn
    by_cases h1 : n < acc.length
    · obtain ⟨p, c, h2, h3⟩ := ih n h1
      exact ⟨p, c, by rwa [List.take_append_of_le_length (by omega)], h3⟩
    · obtain rfl : n = acc.length := by omega
      exact ⟨pos, b, by rwa [List.take_left], hr⟩
theorem Upto.one {l : List Sec} {e to from_ : Nat} {acc : List (List UInt8)} {pos : Nat} (h : Upto l e to from_ acc pos) : ∀ {acc' : List (List UInt8)} {pos' : Nat}, Upto l e to from_ acc' pos' → acc'.length = acc.length → acc' = acc ∧ pos' = pos := by
  induction h with
  | nil =>
    intro acc' pos' h' hl
    cases h' with
    | nil => exact ⟨rfl, rfl⟩
    | snoc => simp at hl
  | @snoc acc pos b h hr ih =>
    intro acc' pos' h' hl
    cases h' with
    | nil => simp at hl
    | snoc h2 hr2 =>
      obtain ⟨rfl, rfl⟩ := ih h2 (by simpa using hl)
      rw [hr] at hr2
      cases hr2
      exact ⟨rfl, rfl⟩
theorem Reads.one {l : List Sec} {e to from_ : Nat} {acc acc' : List (List UInt8)} {pos pos' : Nat} (h : Reads l e to from_ acc pos) (h' : Reads l e to from_ acc' pos') : acc' = acc ∧ pos' = pos := by
  have key : ∀ {a a' : List (List UInt8)} {p p' : Nat}, Reads l e to from_ a p → Upto l e to from_ a' p' → a'.length ≤ a.length := by
    intro a a' p p' hA hB
    rcases Nat.lt_or_ge a.length a'.length with hlt | hge
    · obtain ⟨q, b, h1, h2⟩ := hB.pre a.length hlt
      obtain ⟨h3, h4⟩ := hA.up.one h1 (by simp; omega)
      rw [h4, hA.fin] at h2
      cases h2
    · exact hge
  exact h.up.one h'.up (Nat.le_antisymm (key h h'.up) (key h' h.up))
theorem Upto.pos {l : List Sec} (hs : ∀ b ∈ l, b.length = 64) {e to from_ : Nat} (hto : to ≤ l.length) (hf : from_ ≤ to) {acc : List (List UInt8)} {pos : Nat} (h : Upto l e to from_ acc pos) : from_ ≤ pos ∧ pos ≤ to ∧ from_ + acc.length ≤ pos := by
  induction h with
  | nil => exact ⟨Nat.le_refl _, hf, by simp⟩
  | @snoc acc pos b h hr ih =>
    obtain ⟨_, _, h3, _⟩ := recAt_some hs hto hr
    have := szN_pos b.length
    rw [List.length_append, List.length_singleton]
    omega

/-! where records are laid -/
/-- The k-th record of epoch e lies at pos. -/
structure SecsAt (l : List Sec) (e k pos : Nat) (b : List UInt8) : Prop where
  head : l[pos]? = some (headS e k b.length)
  part : ∀ j, j < pn b.length → l[pos + 1 + j]? = some (partS b j)
theorem chunk_flat (b : List UInt8) : ∀ m, ((List.range m).flatMap fun j => (partS b j).drop 1).take (min (63 * m) b.length) = b.take (63 * m)
  | 0 => by simp
  | m + 1 => by
    have ih := chunk_flat b m
    have hlen : ((List.range m).flatMap fun j => (partS b j).drop 1).length = 63 * m := by
      clear ih
      induction m with
      | zero => rfl
      | succ m ih => rw [List.range_succ, List.flatMap_append, List.length_append, ih]; simp [partS, pad_length (partB_le b m)]; omega
    rw [List.range_succ, List.flatMap_append, List.flatMap_singleton]
    by_cases h : 63 * m ≤ b.length
    · rw [Nat.min_eq_left h] at ih
      rw [List.take_append, hlen, List.take_of_length_le (by rw [hlen]; omega)]
      rw [List.take_of_length_le (by rw [hlen]; exact Nat.le_refl _)] at ih
      rw [ih, show 63 * (m + 1) = 63 * m + 63 from by omega, List.take_add]
      congr 1
      have e1 : (partS b m).drop 1 = chunk b m ++ List.replicate (63 - (chunk b m).length) 0 := by simp [partS, pad, partB]
      have e2 := chunk_len b m
      rw [e1, List.take_append_of_le_length (by omega), List.take_of_length_le (by omega)]
      rfl
    · rw [Nat.min_eq_right (by omega)] at ih
      rw [List.take_append_of_le_length (by rw [hlen]; omega), Nat.min_eq_right (by omega), ih, List.take_of_length_le (by omega), List.take_of_length_le (by omega)]
theorem SecsAt.reads {l : List Sec} {e k pos to : Nat} {b : List UInt8} (h : SecsAt l e k pos b) (he : e < 2 ^ 64) (hk : k < 2 ^ 64) (hb : b.length ≤ 4096) (hto : pos + szN b.length ≤ to) : recAt l e k pos to = some b := by
  have hp := szN_pos b.length
  have hg : ∀ j, j < pn b.length → l.getD (pos + 1 + j) [] = partS b j := fun j hj => by rw [List.getD_eq_getElem?_getD, h.part j hj]; rfl
  rw [recAt_ok (n := b.length) (by rw [List.getD_eq_getElem?_getD, h.head]; exact headIs_own he hk hb) (by omega) hto (partsAre_iff.2 fun j hj => by rw [hg j hj]; rfl)]
  have e1 : bodyF l pos (pn b.length) = (List.range (pn b.length)).flatMap fun j => (partS b j).drop 1 := by
    unfold bodyF
    rw [List.flatMap_def, List.flatMap_def]
    congr 1
    exact List.map_congr_left fun j hj => by rw [hg j (List.mem_range.1 hj)]
  have e2 := chunk_flat b (pn b.length)
  have e3 := pn_bd b.length
  rw [Nat.min_eq_right e3.1, List.take_of_length_le (l := b) e3.1] at e2
  rw [e1, e2]
/-- Those records lie from from_ on, up to pos. -/
inductive Laid (l : List Sec) (e from_ : Nat) : List (List UInt8) → Nat → Prop
  | nil : Laid l e from_ [] from_
  | snoc {acc : List (List UInt8)} {pos : Nat} {b : List UInt8} : Laid l e from_ acc pos → SecsAt l e acc.length pos b → Laid l e from_ (acc ++ [b]) (pos + szN b.length)
theorem Laid.le {l : List Sec} {e from_ : Nat} {acc : List (List UInt8)} {pos : Nat} (h : Laid l e from_ acc pos) : from_ + acc.length ≤ pos := by
  induction h with
  | nil => simp
  | @snoc acc pos b h _ ih => have := szN_pos b.length; rw [List.length_append, List.length_singleton]; omega
theorem Laid.upto {l : List Sec} {e from_ to : Nat} {acc : List (List UInt8)} {pos : Nat} (h : Laid l e from_ acc pos) (he : e < 2 ^ 64) (hto : pos ≤ to) (hl : to < 2 ^ 64) (hb : ∀ b ∈ acc, b.length ≤ 4096) : Upto l e to from_ acc pos := by
  induction h with
  | nil => exact .nil
  | @snoc acc pos b h hs ih =>
    have hp := szN_pos b.length
    have hle := h.le
    exact (ih (by omega) (fun c hc => hb c (by simp [hc]))).snoc (hs.reads he (by omega) (hb b (by simp)) hto)
/-- The same in other sectors that are alike up to pos. -/
theorem Laid.same {l l' : List Sec} {e from_ : Nat} {acc : List (List UInt8)} {pos : Nat} (h : Laid l e from_ acc pos) (hs : ∀ i, from_ ≤ i → i < pos → l'[i]? = l[i]?) : Laid l' e from_ acc pos := by
  induction h with
  | nil => exact .nil
  | @snoc acc pos b h hsec ih =>
    have hp := szN_pos b.length
    have hle := h.le
    refine .snoc (ih fun i h1 h2 => hs i h1 (by omega)) ⟨?_, fun j hj => ?_⟩
    · rw [hs pos (by omega) (by omega)]; exact hsec.head
    · rw [hs (pos + 1 + j) (by omega) (by unfold szN; omega)]; exact hsec.part j hj
/-- No head of epoch e is there from pos on, up to to. -/
def Clean (l : List Sec) (e pos to : Nat) : Prop := ∀ i, pos ≤ i → i < to → ∀ k, headIs (l.getD i []) e k = none
theorem Laid.reads {l : List Sec} {e from_ to : Nat} {acc : List (List UInt8)} {pos : Nat} (h : Laid l e from_ acc pos) (hc : Clean l e pos to) (he : e < 2 ^ 64) (hto : pos ≤ to) (hl : to < 2 ^ 64) (hb : ∀ b ∈ acc, b.length ≤ 4096) : Reads l e to from_ acc pos :=
  ⟨h.upto he hto hl hb, by
    by_cases h1 : pos < to
    · exact recAt_head (hc pos (Nat.le_refl _) h1 _)
    · exact recAt_out (by omega)⟩
end Go.Proofs.Ytgppaompcnllbaa
