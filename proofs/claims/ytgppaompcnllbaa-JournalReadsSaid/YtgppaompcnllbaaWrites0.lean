/- Layer 4, for JournalWrites: texts that a law writes into, beside a log, its disk and other texts. Conditions: none. -/
import Derived.Test.YtgppaompcnllbaaRefS
namespace Go.Proofs.Ytgppaompcnllbaa
open Go.RowKit

structure Wnt (M : Nat) (T : Nat → Prop) (w : World) (v : Value) (gw cw N : Nat) (W : List (List UInt8)) : Prop where
  row : w.ownsRow M 9 1 (.slice (some ⟨gw, 0, none⟩) N cw) N (tcs W)
  far : ¬ T gw
  ne : v.ownBlock ≠ some gw
section
variable {M : Nat} {T : Nat → Prop} {w w' w3 : World} {v v' : Value} {gw cw N : Nat} {W xs : List (List UInt8)}
theorem Wnt.lt (h : Wnt M T w v gw cw N W) : M ≤ gw ∧ gw < w.heap.size := h.row.lt gw rfl
theorem Wnt.len (h : Wnt M T w v gw cw N W) : W.length = N := by have := h.row.1; rw [tcs_len] at this; omega
theorem Wnt.below (h : Wnt M T w v gw cw N W) (hb : Below w.heap.size w w') : Wnt M T w' v gw cw N W := ⟨own_below h.row hb, h.far, h.ne⟩
theorem Wnt.ks (h : Wnt M T w v gw cw N W) (hk : Ks T w w') : Wnt M (Grow T w w') w' v gw cw N W :=
  ⟨own_same h.row fun g e => (by cases e; exact hk.block gw h.lt.2 h.far), fun e => by
    rcases e with e | e
    · exact h.far e
    · have := h.lt; have := e.1; omega, h.ne⟩
theorem Wnt.put (h : Wnt M T w v gw cw N W) {o : Obj} (hg : (w.alloc o).grownBy w3 v.ownBlock) (hat : v'.ownBlock = v.ownBlock ∨ v'.ownBlock = some (w.alloc o).heap.size) : Wnt M T w3 v' gw cw N W := by
  have hl := h.lt.2
  have hs2 : (w.alloc o).heap.size = w.heap.size + 1 := by simp
  refine ⟨(h.row.alloc o).kept hg (.inr fun e => h.ne e.symm), h.far, ?_⟩
  rcases hat with e | e
  · rw [e]; exact h.ne
  · rw [e]; intro e2; cases e2; omega
theorem Wnt.cell (h : Wnt M T w v gw cw N W) {j : Nat} {b : List UInt8} (hj : W[j]? = some b) : w.cell? ⟨gw, j, none⟩ = some (.string (strOf b)) := by
  have hlt := (List.getElem?_eq_some_iff.1 hj).1
  rw [h.len] at hlt
  rw [h.row.cellAt j (by omega), tcs_get, hj]
  rfl
theorem Wnt.frz (h : Wnt M T w v gw cw N W) (j : Nat) : w.frozen? ⟨gw, j, none⟩ = false := h.row.frozenAt j
theorem Wnt.set (h : Wnt M T w v gw cw N W) (j : Nat) (b : List UInt8) : Wnt M T (w.setCell ⟨gw, j, none⟩ (.string (strOf b))) v gw cw N (W.set j b) ∧ Ks (fun k => k = gw) w (w.setCell ⟨gw, j, none⟩ (.string (strOf b))) := by
  obtain ⟨h1, hg⟩ := h.row.stored j (.string (strOf b))
  refine ⟨⟨?_, h.far, h.ne⟩, Ks.setCell (Ks.refl (fun k => k = gw) w) (p := ⟨gw, j, none⟩) (.inl rfl) _⟩
  have : tcs (W.set j b) = (tcs W).set j (.string (strOf b)) := by simp [tcs, List.map_set]
  rw [this]
  exact h1
theorem Beside.keep {U : Nat → Prop} (h : Beside M T w v xs) (hk : Ks U w w') (hv : ∀ q, v.ownBlock = some q → ¬ U q) : Beside M T w' v xs :=
  ⟨Nat.le_trans h.lo hk.size, h.above, fun k e => Nat.lt_of_lt_of_le (h.size k e) hk.size, own_same h.row fun g e => hk.block g (h.row.lt g e).2 (hv g e), h.far⟩
end
/-- Sectors W are K, but the first j of ss from at on. -/
def Laying (K : List (List UInt8)) (at_ : Nat) (ss : List (List UInt8)) (j : Nat) (W : List (List UInt8)) : Prop :=
  W.length = K.length ∧ ∀ i, W[i]? = if at_ ≤ i ∧ i < at_ + j then ss[i - at_]? else K[i]?
theorem Laying.zero (K : List (List UInt8)) (at_ : Nat) (ss : List (List UInt8)) : Laying K at_ ss 0 K := ⟨rfl, fun i => by rw [if_neg (by omega)]⟩
theorem Laying.step {K : List (List UInt8)} {at_ : Nat} {ss : List (List UInt8)} {j : Nat} {W : List (List UInt8)} (h : Laying K at_ ss j W) {b : List UInt8} (hb : ss[j]? = some b) (hj : at_ + j < K.length) : Laying K at_ ss (j + 1) (W.set (at_ + j) b) := by
  refine ⟨by rw [List.length_set]; exact h.1, fun i => ?_⟩
  by_cases hi : at_ + j = i
  · subst hi
    rw [List.getElem?_set_self (by rw [h.1]; exact hj), if_pos (by omega), show at_ + j - at_ = j from by omega, hb]
  · rw [List.getElem?_set_ne hi, h.2 i]
    by_cases h1 : at_ ≤ i ∧ i < at_ + j
    · rw [if_pos h1, if_pos (by omega)]
    · rw [if_neg h1, if_neg (by omega)]
theorem Laying.done {K : List Sec} {t : LSt} {l : List UInt8} {W : List (List UInt8)} (h : Laying K t.next (secsOf t.epoch t.recs.length l) (szN l.length) W) (hto : t.next + szN l.length ≤ K.length) : W = laidK K t l := by
  have hs := laid_secs hto
  refine List.ext_getElem? fun i => ?_
  rw [h.2 i]
  by_cases h1 : t.next ≤ i ∧ i < t.next + szN l.length
  · rw [if_pos h1]
    cases hk : i - t.next with
    | zero => rw [show i = t.next from by omega, hs.head]; rfl
    | succ j => rw [secsOf_succ _ _ _ (by unfold szN at h1; omega), show i = t.next + 1 + j from by omega, hs.part j (by unfold szN at h1; omega)]
  · rw [if_neg h1, laid_far (by omega)]
theorem sectorsL {T : Nat → Prop} {w : World} {g b p N : Nat} {K : List Sec} {t : LSt} (h : Live T w g b p K t) (hN : K.length = N) :
    Calls Try.prog 12 #[.pointer (some ⟨b, 0, none⟩)] w fun e w' => ∃ v, e = .returned v ∧ w'.ownsRow w.heap.size 9 1 v N (tcs K) ∧ Below w.heap.size w w' := by
  obtain ⟨s, hj, hk, hc⟩ := h.jr
  have := sectors_any hj.ds hc.dead
  rw [hc.now, hk, hN] at this
  exact this
theorem waitingL {T : Nat → Prop} {w : World} {g b p : Nat} {K : List Sec} {t : LSt} (h : Live T w g b p K t) : Calls Try.prog 19 #[.pointer (some ⟨b, 0, none⟩)] w fun e w' => e = .returned (.int .i64 0) ∧ w' = w := by
  obtain ⟨s, hj, hk, hc⟩ := h.jr
  have := waiting_s hj.ds
  rw [hc.waits] at this
  exact this
end Go.Proofs.Ytgppaompcnllbaa
