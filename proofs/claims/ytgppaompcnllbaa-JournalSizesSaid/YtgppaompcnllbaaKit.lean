/- Small laws on memory, a disk and writes that wait. Conditions: none. -/
import Derived.Test.YtgppaompcnllbaaBoth
import Derived.Test.YtgppaompcnllbaaFrame
namespace Go.Proofs.Ytgppaompcnllbaa
open Go.RowKit

theorem own_ne {w : World} {b1 b2 : Nat} {e1 e2 : TypeId} {z1 z2 n1 n2 : Nat} {v1 v2 : Value} {x1 x2 : List Value} (h1 : w.ownsRow b1 e1 z1 v1 n1 x1) (h2 : w.ownsRow b2 e2 z2 v2 n2 x2) (he : e1 ≠ e2) {g : Nat} (hg : v1.ownBlock = some g) : v2.ownBlock ≠ some g := by
  intro hg2
  rcases h1.2 with ⟨rfl, _⟩ | ⟨g1, c1, cur1, rfl, _, hh1, _⟩
  · cases hg
  · rcases h2.2 with ⟨rfl, _⟩ | ⟨g2, c2, cur2, rfl, _, hh2, _⟩
    · cases hg2
    · cases hg
      cases hg2
      have := hh1.symm.trans hh2
      simp at this
      exact he this.2
theorem in_bb {A : Option Addr} {w : World} {B size n c : Nat} {xs : List Value} (h : Rd w B size A n c xs) {S : Nat → Prop} (hS : ∀ k, S k → B ≤ k) : 0 < n → ∀ b o, A = some ⟨b, o, none⟩ → ¬ S b := fun hn b o e hs => by
  obtain ⟨b', o', e', hb, _⟩ := h.at_ hn
  rw [e] at e'
  cases e'
  have := hS b hs
  omega
theorem own_below {w w' : World} {base : Nat} {e : TypeId} {size n : Nat} {v : Value} {xs : List Value} (h : w.ownsRow base e size v n xs) (hb : Below w.heap.size w w') : w'.ownsRow base e size v n xs := own_same h fun g e => hb.block g (h.lt g e).2
theorem info_bytes : (Try.prog.info? 36).map (fun i => (i.zero, i.size, i.bytes)) = some (some (.slice none 0 0), 1, 24) := by kernel_rfl
theorem drewDs {S : Nat → Prop} {w : World} {b : Nat} {s : St} (h : Ds S w b s) : Ds S w.drew b s := h.same (Nat.le_refl _) fun _ _ => rfl
theorem drewKs {S : Nat → Prop} {w w' : World} (h : Ks S w.drew w') : Ks S w w' := ⟨h.os, h.tape, h.output, h.size, h.block⟩

theorem puts_other (ps : List (Nat × Sec)) (k : Nat) : ∀ (l : List Sec), (∀ p ∈ ps, p.1 ≠ k) → (puts l ps)[k]? = l[k]? := by
  induction ps with
  | nil => intro l _; rfl
  | cons p r ih =>
    intro l h
    show (puts (put1 l p) r)[k]? = _
    rw [ih _ fun q hq => h q (List.mem_cons_of_mem _ hq), put1, List.getElem?_set_ne (h p (List.mem_cons_self ..))]
theorem pick_every {α : Type} {f : Nat → Bool} {ws : List α} (h : ∀ j, j < ws.length → f j = true) : pick f ws = ws := by
  have : ws.zipIdx.filter (fun p => f p.2) = ws.zipIdx := List.filter_eq_self.2 fun p hp => by
    obtain ⟨q, i⟩ := p
    have := List.mem_zipIdx hp
    exact h i (by omega)
  rw [pick, this]; exact List.zipIdx_map_fst 0 ws
theorem pick_none {α : Type} (ws : List α) : pick (fun n => ([] : List Bool).getD n false) ws = [] := by
  have : ws.zipIdx.filter (fun p => (fun n => ([] : List Bool).getD n false) p.2) = [] := List.filter_eq_nil_iff.2 fun p hp => by simp
  rw [pick, this]; rfl
theorem restart_n {S : Nat → Prop} {w : World} {b m : Nat} {s : St} (h : Ds S w b s) (hw : s.waits.length ≤ 1000000) {A : Option Addr} {c C : Nat} {keep : List Bool} (hm : keep.length = m) (hr : Rd w C 1 A m c (keep.map Value.bool)) (hC : C ≤ w.heap.size) :
    Calls Try.prog 25 #[.pointer (some ⟨b, 0, none⟩), .slice A m c] w fun e w' => ∃ b', e = .returned (.pointer (some ⟨b', 0, none⟩)) ∧ Ds (In w.heap.size w'.heap.size) w' b' (s.restart keep) ∧ Below w.heap.size w w' := by
  subst hm
  exact restart_s h hw hr hC
theorem Rd.convN {w : World} {B n c : Nat} {A : Option Addr} {l : List UInt8} (h : Rd w B 1 A n c (bv l)) (m : Nat) : (convert 36 9 (.slice A n c)).run Try.prog (w.drewN m) = .ok (.string (strOf l)) (w.drewN m) :=
  (show Rd (w.drewN m) B 1 A n c (bv l) from h.keep fun _ _ => rfl).conv (P := Try.prog) 36 9 5 Try.underlying36 Try.underlying5 Try.underlying9
theorem own_at {w : World} {base : Nat} {e : TypeId} {size n c : Nat} {A : Option Addr} {xs : List Value} (h : w.ownsRow base e size (.slice A n c) n xs) : ∀ b o, A = some ⟨b, o, none⟩ → base ≤ b := fun b o e => by
  subst e
  rcases h.2 with ⟨h', _⟩ | ⟨g, cap, cur, h', hb, _⟩
  · cases h'
  · cases h'; exact hb
end Go.Proofs.Ytgppaompcnllbaa
