/- Layer 6: All, called: a text's tokens, or the error and its place, are the document's. Conditions: the text is a string of Go's. -/
import Derived.Test.YteafdhpcnpfmkaaGreatLook
namespace Go.Proofs.YteafdhpcnpfmkaaGreat
open Go.RowKit Go.ChangeMaps

/-- What holds ahead of each rune: the tokens so far, and what is left, are the whole. -/
structure Al (w0 : World) (g m i B : Nat) (s : ByteArray) (wr : World) (k j : Nat) (l : List Tk) : Prop where
  kj : k ≤ j
  jc : j ≤ cnt s
  it : wr.heap[i]? = some (.stringIter s (plc s k))
  mp : wr.heap[m]? = some (.map (ents g (blE 3)) (blE 3).length)
  sc : Sc B wr g s l 0
  bel : Below w0.heap.size w0 wr
  big : B ≤ wr.heap.size
  toks : l ++ (scan (cutB s j) (plc s j)).1 = (scan s 0).1
  code : (scan (cutB s j) (plc s j)).2 = (scan s 0).2
  few : l.length ≤ j
  lo : w0.heap.size ≤ g
  li : w0.heap.size ≤ i
  gi : g ≠ i
  gm : g ≠ m
  mi : m ≠ i
  iB : i < B
  mB : m < B
section
variable {w0 wr w3 : World} {g m i B : Nat} {s : ByteArray} {k j : Nat} {l : List Tk}
theorem Al.next (h : Al w0 g m i B s wr k j l) (hk : plc s k < s.size) : (wr.iterAt i s (plc s k + (Utf8.decode s (plc s k)).2)).heap[i]? = some (.stringIter s (plc s (k + 1))) := by
  rw [plc_succ hk]; exact Lib.iterAt_heap wr i s _ _ h.it
theorem iterAt_block (w : World) (i : Nat) (s : ByteArray) (p : Nat) {q : Nat} (h : q ≠ i) : (w.iterAt i s p).heap[q]? = w.heap[q]? := Lib.iterAt_other w i q s p h
theorem Sc.at_iter (h : Sc B wr g s l 0) {t : ByteArray} {p q : Nat} (hi : wr.heap[i]? = some (.stringIter t p)) (hg : g ≠ i) : Sc B (wr.iterAt i t q) g s l 0 := by
  obtain ⟨v, h⟩ := h
  refine ⟨v, (iterAt_block _ _ _ _ hg).trans h.cells, own_same h.row fun y hy => iterAt_block _ _ _ _ ?_, h.lt⟩
  rintro rfl
  rcases h.row.2 with ⟨e, _⟩ | ⟨b, cap, cur, e, _, hh, _⟩
  · rw [e] at hy; simp [Value.ownBlock] at hy
  · rw [e] at hy
    simp only [Value.ownBlock, Option.some.injEq] at hy
    rw [hy, hi] at hh; cases hh
theorem Al.sc2 (h : Al w0 g m i B s wr k j l) (q : Nat) : Sc B (wr.iterAt i s q) g s l 0 := h.sc.at_iter h.it h.gi
theorem Al.bel2 (h : Al w0 g m i B s wr k j l) (q : Nat) : Below w0.heap.size w0 (wr.iterAt i s q) := Lib.below_iterAt h.bel h.li s q
theorem Al.mp2 (h : Al w0 g m i B s wr k j l) (q : Nat) : (wr.iterAt i s q).heap[m]? = some (.map (ents g (blE 3)) (blE 3).length) := (iterAt_block _ _ _ _ h.mi).trans h.mp
theorem Al.big2 (h : Al w0 g m i B s wr k j l) (q : Nat) : B ≤ (wr.iterAt i s q).heap.size := by rw [Lib.iterAt_size]; exact h.big
/-- A rune that lies in what was taken in. -/
theorem Al.skip (h : Al w0 g m i B s wr k j l) (hk : plc s k < s.size) (hj : k < j) : Al w0 g m i B s (wr.iterAt i s (plc s k + (Utf8.decode s (plc s k)).2)) (k + 1) j l :=
  ⟨hj, h.jc, h.next hk, h.mp2 _, h.sc2 _, h.bel2 _, h.big2 _, h.toks, h.code, h.few, h.lo, h.li, h.gi, h.gm, h.mi, h.iB, h.mB⟩
theorem cutB_pos {s : ByteArray} {k : Nat} (hk : plc s k < s.size) : 0 < (cutB s k).size := by have := cutB_size s k; omega
theorem Al.scan_err (h : Al w0 g m i B s wr k k l) (hk : plc s k < s.size) (h3 : 3 ≤ kd (cutB s k)) : (scan s 0).2 = (kd (cutB s k), plc s k) := by
  have e := Go.Proofs.YteafdhpcnpfmkaaGreat.scan_err (off := plc s k) (cutB_pos hk) h3
  have hc := h.code
  rw [e] at hc
  exact hc.symm
/-- A rune at which something is taken in. -/
theorem Al.step (h : Al w0 g m i B s wr k k l) (hk : plc s k < s.size) (h3 : kd (cutB s k) < 3) (hp : Kp g B (wr.iterAt i s (plc s k + (Utf8.decode s (plc s k)).2)) w3) (hs : Sc B w3 g s (l ++ stepT (cutB s k) (plc s k)) 0) :
    Al w0 g m i B s w3 (k + 1) (k + ln (cutB s k)) (l ++ stepT (cutB s k) (plc s k)) := by
  have hz := cutB_pos hk
  have h1 := ln_pos hz h3
  have h2 := ln_le hz
  rw [cnt_cutB] at h2
  have hE := scan_go (off := plc s k) hz h3
  have h4 := plc_cutB s k (ln (cutB s k))
  rw [cutB_cutB, h4] at hE
  have ht := h.toks
  have hc := h.code
  obtain ⟨r, hr⟩ : ∃ r, scan (cutB s (k + ln (cutB s k))) (plc s (k + ln (cutB s k))) = r := ⟨_, rfl⟩
  rw [hr] at hE
  generalize scan (cutB s k) (plc s k) = r0 at *
  subst hE
  dsimp only at ht hc
  refine ⟨by omega, by have := h.jc; omega, (hp.block i h.iB (Ne.symm h.gi)).trans (h.next hk), (hp.block m h.mB (Ne.symm h.gm)).trans (h.mp2 _), hs, (h.bel2 (plc s k + (Utf8.decode s (plc s k)).2)).trans (hp.below (by have := h.iB; have := h.li; omega) h.lo), Nat.le_trans (h.big2 _) hp.size, ?_, by rw [hr]; exact hc, ?_, h.lo, h.li, h.gi, h.gm, h.mi, h.iB, h.mB⟩
  · rw [hr, List.append_assoc]
    exact ht
  · rw [List.length_append]
    have := h.few
    have : (stepT (cutB s k) (plc s k)).length ≤ 1 := by unfold stepT; split <;> simp
    omega
theorem Al.fin (h : Al w0 g m i B s wr k j l) (hk : ¬ plc s k < s.size) : plc s j = s.size ∧ (scan s 0).2 = (0, 0) ∧ (scan s 0).1 = l ++ [(3, ⟨#[]⟩, s.size)] := by
  have h1 := plc_le s j
  have h2 := plc_mono s h.kj
  have hj : plc s j = s.size := by omega
  have hz := cutB_size s j
  have e := scan_nil (u := cutB s j) (off := plc s j) (by omega)
  have ht := h.toks
  have hc := h.code
  rw [e, hj] at ht
  rw [e] at hc
  exact ⟨hj, hc.symm, ht.symm⟩
end

/-- What All answers: the tokens read as a list. -/
def Toks (w : World) (A : Option Addr) (c : Nat) (l : List Tk) : Prop := Rd w w.heap.size 3 A l.length c (tcells l)
theorem Toks.below {w w' : World} {A : Option Addr} {c : Nat} {l : List Tk} (h : Toks w A c l) (hb : Below w.heap.size w w') : Toks w' A c l := (Rd.below h hb).more hb.size
def AllPost (s : ByteArray) (w : World) (e : Ending) (w' : World) : Prop :=
  (∃ A c, e = .returned (.tuple #[.slice A (allS s).1.length c, .int .i64 (allS s).2.1, .int .i64 (allS s).2.2]) ∧ Toks w' A c (allS s).1) ∧ Below w.heap.size w w'
theorem AllPost.empty {s : ByteArray} {w w' : World} {e p : Nat} (h : allS s = ([], e, p)) (hb : Below w.heap.size w w') : AllPost s w (.returned (.tuple #[.slice none 0 0, .int .i64 e, .int .i64 p])) w' := by
  refine ⟨⟨none, 0, by rw [h]; rfl, ?_⟩, hb⟩
  rw [h]; exact Rd.none_ _ _ _
end Go.Proofs.YteafdhpcnpfmkaaGreat
