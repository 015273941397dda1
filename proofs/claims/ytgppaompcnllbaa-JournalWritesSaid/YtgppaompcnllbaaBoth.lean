/- What a call on a disk tells, with both outcomes in one contract. Condition: fewer than a million writes wait. -/
import Derived.Test.YtgppaompcnllbaaRestart
namespace Go.Proofs.Ytgppaompcnllbaa
open Go.RowKit
def okW (s : St) (i : Int) (l : List UInt8) : Bool := s.has i && decide (l.length ≤ 64)
def wrS (s : St) (i : Int) (l : List UInt8) : St := if okW s i l then s.write i l else s
def wrE (s : St) (i : Int) (l : List UInt8) : Int := if okW s i l then s.err else 1
def rdB (s : St) (i : Int) : List UInt8 := if s.has i && !s.dead then s.sect i else []
def rdE (s : St) (i : Int) : Int := if s.has i then (if s.dead then 20 else 0) else 1
theorem okW_iff {s : St} {i : Int} {l : List UInt8} : okW s i l = true ↔ (0 ≤ i ∧ i < s.kept.length) ∧ l.length ≤ 64 := by simp [okW, St.has]
theorem grow_wide {S : Nat → Prop} {w w' : World} {b : Nat} {s : St} (h : Ds S w' b s) : Ds (Grow S w w') w' b s := h.wide (fun _ e => .inl e) fun g e => by
  rcases e with e | e
  · exact h.size g e
  · exact e.2

section
variable {S : Nat → Prop} {w : World} {b : Nat} {s : St}
theorem dWrite (h : Ds S w b s) (i : Int) {A : Option Addr} {c : Nat} {l : List UInt8} (hr : Rd w w.heap.size 1 A l.length c (bv l)) (ha : 0 < l.length → ∀ b o, A = some ⟨b, o, none⟩ → ¬ S b) (hw : s.waits.length < 1000000) :
    Calls Try.prog 21 #[.pointer (some ⟨b, 0, none⟩), .int .i64 i, .slice A l.length c] w fun e w' => e = .returned (.int .i64 (wrE s i l)) ∧ Ds (Grow S w w') w' b (wrS s i l) ∧ Ks S w w' := by
  cases ho : okW s i l with
  | true =>
    have h2 : s.has i = true ∧ l.length ≤ 64 := by simpa [okW] using ho
    have e1 : wrS s i l = s.write i l := by rw [wrS, if_pos ho]
    have e2 : wrE s i l = s.err := by rw [wrE, if_pos ho]
    rw [e1, e2]
    cases hd : s.count.dead with
    | true =>
      refine (write_dead_s h i A l.length c h2.1 h2.2 hd).mono fun e w' ⟨he, hD, hk⟩ => ⟨?_, ?_, hk⟩
      · rw [he, St.err, if_pos hd]
      · rw [St.write, if_pos hd]; exact grow_wide hD
    | false =>
      have hd' : ¬ s.count.dead = true := by rw [hd]; simp
      refine (write_s h i hr ha h2.1 h2.2 hd hw).mono fun e w' ⟨he, hD, hk⟩ => ⟨?_, ?_, hk⟩
      · rw [he, St.err, if_neg hd']
      · rw [St.write, if_neg hd']; exact hD
  | false =>
    have e1 : wrS s i l = s := by rw [wrS, if_neg (by rw [ho]; simp)]
    have e2 : wrE s i l = 1 := by rw [wrE, if_neg (by rw [ho]; simp)]
    rw [e1, e2]
    refine (write_bad_s h i A l.length c ?_).mono fun e' w' ⟨he, hw'⟩ => ?_
    · cases hh : s.has i with
      | false => exact .inl rfl
      | true => simp [okW, hh] at ho; exact .inr ho
    · subst hw'
      exact ⟨he, grow_wide h, Ks.refl _ _⟩
theorem dFlush (h : Ds S w b s) (hw : s.waits.length ≤ 1000000) :
    Calls Try.prog 46 #[.pointer (some ⟨b, 0, none⟩)] w fun e w' => e = .returned (.int .i64 s.err) ∧ Ds S w' b s.flush ∧ Ks S w w' := by
  cases hd : s.count.dead with
  | true =>
    rw [St.err, if_pos hd, St.flush, if_pos hd]
    exact flush_dead_s h hd
  | false =>
    have hd' : ¬ s.count.dead = true := by rw [hd]; simp
    rw [St.err, if_neg hd', St.flush, if_neg hd']
    exact flush_s h hd hw
theorem dRead (h : Ds S w b s) (i : Int) :
    Calls Try.prog 30 #[.pointer (some ⟨b, 0, none⟩), .int .i64 i] w fun e w' => ∃ A c, e = .returned (.tuple #[.slice A (rdB s i).length c, .int .i64 (rdE s i)]) ∧ w'.ownsRow w.heap.size 5 1 (.slice A (rdB s i).length c) (rdB s i).length (bv (rdB s i)) ∧ Below w.heap.size w w' := by
  cases hh : s.has i with
  | false =>
    have e1 : rdB s i = [] := by simp [rdB, hh]
    have e2 : rdE s i = 1 := by simp [rdE, hh]
    rw [e1, e2]
    refine (read_bad_s h i hh).mono ?_
    rintro e w' ⟨rfl, rfl⟩
    exact ⟨none, 0, rfl, World.ownsRow_nil _ _ _ _, Below.refl _ _⟩
  | true =>
    cases hd : s.dead with
    | true =>
      have e1 : rdB s i = [] := by simp [rdB, hd]
      have e2 : rdE s i = 20 := by simp [rdE, hh, hd]
      rw [e1, e2]
      refine (read_dead_s h i hh hd).mono ?_
      rintro e w' ⟨rfl, rfl⟩
      exact ⟨none, 0, rfl, World.ownsRow_nil _ _ _ _, Below.refl _ _⟩
    | false =>
      have e1 : rdB s i = s.sect i := by simp [rdB, hh, hd]
      have e2 : rdE s i = 0 := by simp [rdE, hh, hd]
      have hl := St.sect_len h.ok hh
      rw [e1, e2, hl]
      refine (read_s h i hh hd).mono ?_
      rintro e w' ⟨v, rfl, ho, hb⟩
      obtain ⟨A, c, rfl, _⟩ := Rd.own ho
      exact ⟨A, c, rfl, ho, hb⟩
end
end Go.Proofs.Ytgppaompcnllbaa
