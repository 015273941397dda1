/- Layer 4: a log whose disk isn't armed, its sectors told: what Open and Append make of it. Conditions: records of at most 4096 bytes that fit. -/
import Derived.Test.YtgppaompcnllbaaStates
import Derived.Test.YtgppaompcnllbaaJOpen
import Derived.Test.YtgppaompcnllbaaSame
namespace Go.Proofs.Ytgppaompcnllbaa
open Go.RowKit

/-- It isn't dead, nothing waits, and it isn't armed. -/
structure Calm (s : St) : Prop where
  dead : s.dead = false
  waits : s.waits = []
  left : s.left ≤ 0
theorem Calm.fresh (n : Nat) : Calm (St.fresh n) := ⟨rfl, rfl, Int.le_refl _⟩
theorem Calm.now {s : St} (h : Calm s) : s.now = s.kept := now_kept h.waits
/-- A disk that is calm, with those sectors. -/
def Rest (S : Nat → Prop) (w : World) (b : Nat) (K : List Sec) : Prop := ∃ s, Ds S w b s ∧ s.kept = K ∧ Calm s
/-- A log on a disk that is calm; its records lie there, and no others behind them. -/
def Live (T : Nat → Prop) (w : World) (g b p : Nat) (K : List Sec) (t : LSt) : Prop := ∃ s, Jr T w g b s t ∧ s.kept = K ∧ Calm s ∧ Good K t.epoch p t.recs t.next t.to ∧ t.to ≤ K.length
section
variable {S T U : Nat → Prop} {w w' : World} {g b p : Nat} {K : List Sec} {t : LSt}
theorem Rest.below (h : Rest S w b K) (hb : Below w.heap.size w w') : Rest S w' b K := by obtain ⟨s, h1, h2, h3⟩ := h; exact ⟨s, h1.below hb, h2, h3⟩
theorem Rest.size (h : Rest S w b K) : ∀ k, S k → k < w.heap.size := by obtain ⟨s, h1, h2, h3⟩ := h; exact h1.size
theorem Rest.wide (h : Rest S w b K) (hT : ∀ k, S k → U k) (hU : ∀ k, U k → k < w.heap.size) : Rest U w b K := by obtain ⟨s, h1, h2, h3⟩ := h; exact ⟨s, h1.wide hT hU, h2, h3⟩
theorem Live.below (h : Live T w g b p K t) (hb : Below w.heap.size w w') : Live T w' g b p K t := by obtain ⟨s, h1, h2⟩ := h; exact ⟨s, h1.below hb, h2⟩
theorem Live.size (h : Live T w g b p K t) : ∀ k, T k → k < w.heap.size := by obtain ⟨s, h1, h2⟩ := h; exact h1.size
theorem Live.keep (h : Live T w g b p K t) (hb : Ks U w w') (ha : ∀ k, T k → ¬ U k) : Live T w' g b p K t := by obtain ⟨s, h1, h2⟩ := h; exact ⟨s, h1.keep hb ha, h2⟩
theorem Live.wide (h : Live T w g b p K t) (hT : ∀ k, T k → U k) (hU : ∀ k, U k → k < w.heap.size) : Live U w g b p K t := by obtain ⟨s, h1, h2⟩ := h; exact ⟨s, h1.wide hT hU, h2⟩
theorem Live.rest (h : Live T w g b p K t) : Rest T w b K := by obtain ⟨s, h1, h2, h3, _⟩ := h; exact ⟨s, h1.ds, h2, h3⟩
theorem Live.lg (h : Live T w g b p K t) : Lg T w g b t := by obtain ⟨s, h1, _⟩ := h; exact h1.lg
theorem Live.tok (h : Live T w g b p K t) : t.Ok := h.lg.ok
theorem Live.good (h : Live T w g b p K t) : Good K t.epoch p t.recs t.next t.to := by obtain ⟨s, _, _, _, h, _⟩ := h; exact h
theorem Live.len (h : Live T w g b p K t) : t.to ≤ K.length := by obtain ⟨s, _, _, _, _, h⟩ := h; exact h
theorem rest_new (w : World) (n : Nat) (h1 : 1 ≤ n) (h2 : n ≤ 65536) : Calls Try.prog 10 #[.int .i64 n] w fun e w' => ∃ b, e = .returned (.tuple #[.pointer (some ⟨b, 0, none⟩), .int .i64 0]) ∧ Rest (In w.heap.size w'.heap.size) w' b (St.fresh n).kept ∧ Below w.heap.size w w' :=
  (new_any w n h1 h2).mono fun _ _ ⟨b, he, hd, hb⟩ => ⟨b, he, ⟨_, hd.1, rfl, Calm.fresh n⟩, hb⟩
/-- Open, where what lies there is known. -/
theorem open_live (h : Rest S w b K) {p to e : Nat} {acc : List (List UInt8)} {pos : Nat} (hg : Good K e p acc pos to) (h1 : p ≤ to) (h2 : to ≤ K.length) (h3 : e < 2 ^ 64) :
    Calls Try.prog 11 #[.pointer (some ⟨b, 0, none⟩), .int .i64 p, .int .i64 to, .int .u64 e] w fun en w' => ∃ g, en = .returned (.tuple #[.pointer (some ⟨g, 0, none⟩), .int .i64 0]) ∧ Live (Grow S w w') w' g b p K ⟨pos, to, e, acc⟩ ∧ Lg (In w.heap.size w'.heap.size) w' g b ⟨pos, to, e, acc⟩ ∧ Below w.heap.size w w' := by
  obtain ⟨s, hD, rfl, hc⟩ := h
  have hmost := hD.ok.most
  refine (jopen_any hD hc.dead p to e h1 h2 h3).mono fun en w' h => ?_
  obtain ⟨g, acc', pos', he, hr, hL, hb⟩ := h
  rw [hc.now] at hr
  obtain ⟨rfl, rfl⟩ := (hg.reads h3 (by omega)).one hr
  have hsz := hD.size
  have hs := hb.size
  exact ⟨g, he, ⟨s, ⟨S, In w.heap.size w'.heap.size, hD.below hb, hL, fun k e e2 => by have := hsz k e; have := e2.1; omega, fun k e => .inl e, fun k e => .inr e, fun k e => by
    rcases e with e | e
    · have := hsz k e; omega
    · exact e.2⟩, rfl, hc, hg, h2⟩, hL, hb⟩
/-- Append, where it fits. -/
theorem live_append (h : Live T w g b p K t) {A : Option Addr} {c : Nat} {l : List UInt8} (hr : Rd w w.heap.size 1 A l.length c (bv l)) (hA : 0 < l.length → ∀ q o, A = some ⟨q, o, none⟩ → ¬ T q) (hl : l.length ≤ 4096) (hf : t.next + szN l.length ≤ t.to) :
    Calls Try.prog 14 #[.pointer (some ⟨g, 0, none⟩), .slice A l.length c] w fun e w' => e = .returned (.int .i64 0) ∧ Live (Grow T w w') w' g b p (laidK K t l) (t.add l) ∧ Ks T w w' := by
  obtain ⟨s, hJ, rfl, hc, hg, hto⟩ := h
  rcases ap_spec hJ.tok hl hc.dead hc.waits (by omega) with ⟨h1, h2, h3, h4, h5⟩ | ⟨_, _, h3, _⟩
  · have := append_any hJ hr hA hl hf (by rw [hc.waits]; simp)
    rw [apT, if_pos h1, h1] at this
    refine this.mono fun e w' ⟨he, hj, hk⟩ => ⟨he, ⟨_, hj, h2, ⟨h4, h3, Int.le_trans h5 hc.left⟩, hg.add hl hf hto, by rw [laidK_len]; exact hto⟩, hk⟩
  · have := hc.left
    omega
theorem live_append0 (h : Live T w g b p K t) (hf : t.next + 1 ≤ t.to) :
    Calls Try.prog 14 #[.pointer (some ⟨g, 0, none⟩), .slice none 0 0] w fun e w' => e = .returned (.int .i64 0) ∧ Live (Grow T w w') w' g b p (laidK K t []) (t.add []) ∧ Ks T w w' :=
  live_append h (A := none) (c := 0) (l := []) (Rd.none_ _ _ _) (fun h => absurd h (by simp)) (by simp) hf
end
end Go.Proofs.Ytgppaompcnllbaa
