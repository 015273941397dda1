/- Layer 4, for JournalCrash: a log whose disk may stop; what is there behind a restart. Conditions: none. -/
import Derived.Test.YtgppaompcnllbaaWants
namespace Go.Proofs.Ytgppaompcnllbaa
open Go.RowKit

structure Cr (dd : Bool) (k : Nat) (R : List (List UInt8)) (inn : List UInt8) (s : St) (t : LSt) : Prop where
  epoch : t.epoch = 9
  to : t.to = 200
  next : t.next ≤ 3 + 6 * k
  recs : t.recs = R
  dead : s.dead = dd
  disk : ∃ K, Good K 9 3 R t.next 200 ∧ K.length = 200 ∧ ((dd = false ∧ s.kept = K ∧ s.waits = []) ∨ (dd = true ∧ inn.length ≤ 300 ∧ Torn K t inn s.kept s.waits))
theorem Cr.any {k : Nat} {R : List (List UInt8)} {inn : List UInt8} {s : St} {t : LSt} (h : Cr false k R inn s t) (inn' : List UInt8) : Cr false k R inn' s t := ⟨h.epoch, h.to, h.next, h.recs, h.dead, by
  obtain ⟨K, h1, h2, h3 | h3⟩ := h.disk
  · exact ⟨K, h1, h2, .inl h3⟩
  · cases h3.1⟩
theorem apS_zero {s : St} {t : LSt} {l : List UInt8} (h : apE s t l = 0) : apT s t l = t.add l := by rw [apT, if_pos h]
theorem apS_bad {s : St} {t : LSt} {l : List UInt8} (h : apE s t l = 20) : apT s t l = t := by rw [apT, if_neg (by rw [h]; decide)]
theorem Cr.append {M : Nat} {T : Nat → Prop} {w : World} {v : Value} {k : Nat} {R : List (List UInt8)} {inn : List UInt8} {g b : Nat} {s : St} {t : LSt} (hC : Cr false k R inn s t) (h : Jr T w g b s t) (hB : Beside M T w v R) {w0 : World} {a : Rw} (hr : RwOk w0 a) (hM : w0.heap.size = M) (hb : Below w0.heap.size w0 w) (hl : a.b.length ≤ 300) (hk : k < 12) :
    (∃ s', Calls Try.prog 14 #[.pointer (some ⟨g, 0, none⟩), .slice a.A a.b.length a.c] w fun e w' => e = .returned (.int .i64 0) ∧ Jr (Grow T w w') w' g b s' (t.add a.b) ∧ Cr false (k + 1) (R ++ [a.b]) [] s' (t.add a.b) ∧ Beside M (Grow T w w') w' v R ∧ Below M w w') ∨
    (∃ s', Calls Try.prog 14 #[.pointer (some ⟨g, 0, none⟩), .slice a.A a.b.length a.c] w fun e w' => e = .returned (.int .i64 20) ∧ Jr (Grow T w w') w' g b s' t ∧ Cr true (k + 1) R a.b s' t ∧ Beside M (Grow T w w') w' v R ∧ Below M w w') := by
  subst hM
  obtain ⟨K, hG, hK, hd⟩ := hC.disk
  rcases hd with ⟨_, hk1, hw1⟩ | ⟨h1, _⟩
  case inr => cases h1
  have hz := szN_300 hl
  have h1 := hC.next
  have h2 := hC.to
  have hf : t.next + szN a.b.length ≤ t.to := by omega
  have key := append_any h (hr.below hb) (fun hn q o e e2 => (by
    have hr' : Rd w0 w0.heap.size 1 a.A a.b.length a.c (bv a.b) := hr
    obtain ⟨q', o', e', hq, _⟩ := hr'.at_ hn
    rw [e] at e'
    cases e'
    have := hB.above q e2
    omega)) (by omega) hf (by rw [hw1]; simp)
  have hL : t.next + szN a.b.length ≤ s.kept.length := by rw [hk1]; omega
  rcases ap_spec h.tok (l := a.b) (by omega) hC.dead hw1 hL with ⟨e1, e2, e3, e4, _⟩ | ⟨e1, e2, _, e3⟩
  · rw [e1, apS_zero e1] at key
    refine .inl ⟨_, key.mono fun e w' ⟨he, hj, hk⟩ => ⟨he, hj, ⟨hC.epoch, hC.to, by show t.next + szN a.b.length ≤ _; omega, by show t.recs ++ [a.b] = _; rw [hC.recs], e4, ?_⟩, hB.ks hk, hk.below hB.above hB.lo⟩⟩
    refine ⟨laidK K t a.b, ?_, by rw [laidK_len]; exact hK, .inl ⟨rfl, by rw [e2, hk1], e3⟩⟩
    have hG' : Good K t.epoch 3 t.recs t.next 200 := by rw [hC.epoch, hC.recs]; exact hG
    have hA := hG'.add (l := a.b) (by omega) (by omega) (by omega)
    have e5 : t.epoch = 9 := hC.epoch
    have e6 : t.recs = R := hC.recs
    rw [e5, e6] at hA
    exact hA
  · rw [e1, apS_bad e1] at key
    refine .inr ⟨_, key.mono fun e w' ⟨he, hj, hk⟩ => ⟨he, hj, ⟨hC.epoch, hC.to, by omega, hC.recs, e2, K, hG, hK, .inr ⟨rfl, hl, by rw [hk1] at e3; exact e3⟩⟩, hB.ks hk, hk.below hB.above hB.lo⟩⟩
theorem Torn.kept {K Kx : List Sec} {Wx : List (Nat × Sec)} {t : LSt} {l : List UInt8} (h : Torn K t l Kx Wx) : Kx.length = K.length ∧ Wx.length ≤ l.length + 1 := by
  have hp := pn_le l.length
  rcases h with ⟨rfl, m, hm, rfl⟩ | ⟨rfl, rfl | rfl⟩
  · exact ⟨rfl, by rw [pw_len]; omega⟩
  · exact ⟨puts_length _ _, by simp⟩
  · exact ⟨puts_length _ _, by simp⟩
theorem Cr.waits {dd : Bool} {k : Nat} {R : List (List UInt8)} {inn : List UInt8} {s : St} {t : LSt} (h : Cr dd k R inn s t) : s.waits.length ≤ 1000000 := by
  obtain ⟨K, _, _, ⟨_, _, hw⟩ | ⟨_, hl, ht⟩⟩ := h.disk
  · rw [hw]; simp
  · have := ht.kept.2
    omega
theorem restart_calm (s : St) (keep : List Bool) : Calm (s.restart keep) := ⟨rfl, rfl, Int.le_refl _⟩
/-- What there is behind a restart. -/
theorem Cr.restart {dd : Bool} {k : Nat} {R : List (List UInt8)} {inn : List UInt8} {s : St} {t : LSt} (h : Cr dd k R inn s t) (hk : k ≤ 12) (keep : List Bool) :
    (s.restart keep).kept.length = 200 ∧ ((∃ nx, nx ≤ 100 ∧ Good (s.restart keep).kept 9 3 R nx 200) ∨ (dd = true ∧ ∃ nx, nx ≤ 100 ∧ Good (s.restart keep).kept 9 3 (R ++ [inn]) nx 200)) := by
  obtain ⟨K, hG, hK, hd⟩ := h.disk
  have hn := h.next
  have e1 : (s.restart keep).kept = puts s.kept (pick (fun n => keep.getD n false) s.waits) := rfl
  rw [e1, puts_length]
  rcases hd with ⟨_, hk1, hw⟩ | ⟨hdd, hl, ht⟩
  · rw [hw, pick_nil, puts_nil, hk1]
    exact ⟨hK, .inl ⟨_, by omega, hG⟩⟩
  · refine ⟨ht.kept.1.trans hK, ?_⟩
    have hz := szN_300 hl
    have hG' : Good K t.epoch 3 t.recs t.next 200 := by rw [h.epoch, h.recs]; exact hG
    rcases torn_reads hG' (by omega) (by omega) (by omega) ht (fun n => keep.getD n false) with h1 | h1
    · rw [h.epoch, h.recs] at h1
      exact .inl ⟨_, by omega, h1⟩
    · rw [h.epoch, h.recs] at h1
      exact .inr ⟨hdd, _, by omega, h1⟩
/-- Restart, and a log opened on what is there. -/
theorem Cr.restarted {dd : Bool} {k : Nat} {R : List (List UInt8)} {inn : List UInt8} {s : St} {t : LSt} {T : Nat → Prop} {w : World} {g b M : Nat} {v : Value} (h : Cr dd k R inn s t) (hJ : Jr T w g b s t) (hB : Beside M T w v R) {keep : List Bool} {A : Option Addr} {c m : Nat} (hm : keep.length = m) (hr : Rd w w.heap.size 1 A m c (keep.map Value.bool)) :
    Calls Try.prog 25 #[.pointer (some ⟨b, 0, none⟩), .slice A m c] w fun e w' => ∃ b', e = .returned (.pointer (some ⟨b', 0, none⟩)) ∧ Rest (In w.heap.size w'.heap.size) w' b' (s.restart keep).kept ∧ Beside M (In w.heap.size w'.heap.size) w' v R ∧ Below w.heap.size w w' :=
  (restart_n hJ.ds h.waits hm hr (Nat.le_refl _)).mono fun _ _ ⟨b', he, hd, hb⟩ => ⟨b', he, ⟨_, hd, rfl, restart_calm s keep⟩, hB.fresh hb fun _ e => e, hb⟩
theorem open200 {T : Nat → Prop} {w : World} {b M : Nat} {K : List Sec} {v : Value} {xs : List (List UInt8)} (h : Rest T w b K) (hB : Beside M T w v xs) {acc : List (List UInt8)} {pos : Nat} (hg : Good K 9 3 acc pos 200) (hK : K.length = 200) :
    Calls Try.prog 11 #[.pointer (some ⟨b, 0, none⟩), .int .i64 3, .int .i64 200, .int .u64 9] w fun en w' => ∃ g U, en = .returned (.tuple #[.pointer (some ⟨g, 0, none⟩), .int .i64 0]) ∧ Live U w' g b 3 K ⟨pos, 200, 9, acc⟩ ∧ Beside M U w' v xs ∧ Below w.heap.size w w' :=
  (open_live h hg (by omega) (by rw [hK]; exact Nat.le_refl _) (by decide)).mono fun en w' ⟨g, he, hL, _, hb⟩ => ⟨g, _, he, hL, hB.ks (Ks.all hb), hb⟩
theorem new200 (w : World) : Calls Try.prog 10 #[.int .i64 200] w fun e w' => ∃ b, e = .returned (.tuple #[.pointer (some ⟨b, 0, none⟩), .int .i64 0]) ∧ Rest (In w.heap.size w'.heap.size) w' b (St.fresh 200).kept ∧ Below w.heap.size w w' := rest_new w 200 (by omega) (by omega)
theorem fresh_len (n : Nat) : (St.fresh n).kept.length = n := by simp [St.fresh]
theorem Cr.first {T : Nat → Prop} {w : World} {g b : Nat} (h : Live T w g b 3 (St.fresh 200).kept ⟨3, 200, 9, []⟩) : ∃ s, Jr T w g b s ⟨3, 200, 9, []⟩ ∧ ∀ n : Int, Cr false 0 [] [] (s.arm n) ⟨3, 200, 9, []⟩ := by
  obtain ⟨s, hj, hk, hc⟩ := h.jr
  refine ⟨s, hj, fun n => ⟨rfl, rfl, Nat.le_refl _, rfl, ?_, (St.fresh 200).kept, Good.new (clean_fresh 200 9 3 200) (by omega), fresh_len 200, .inl ⟨rfl, ?_, ?_⟩⟩⟩
  · unfold St.arm; rw [if_neg (by rw [hc.dead]; decide)]; exact hc.dead
  · unfold St.arm; rw [if_neg (by rw [hc.dead]; decide)]; exact hk
  · unfold St.arm; rw [if_neg (by rw [hc.dead]; decide)]; exact hc.waits
theorem dead_at {T : Nat → Prop} {w : World} {g b k : Nat} {dd : Bool} {R : List (List UInt8)} {inn : List UInt8} {s : St} {t : LSt} (h : Jr T w g b s t) (hC : Cr dd k R inn s t) : Calls Try.prog 24 #[.pointer (some ⟨b, 0, none⟩)] w fun e w' => e = .returned (.bool dd) ∧ w' = w := by
  have := dead_s h.ds
  rw [hC.dead] at this
  exact this
/-- The append behind a restart. -/
theorem more_any {M : Nat} {T : Nat → Prop} {w : World} {v : Value} {g b nx : Nat} {K : List Sec} {R : List (List UInt8)} (h : Live T w g b 3 K ⟨nx, 200, 9, R⟩) (hK : K.length = 200) (hB : Beside M T w v R) {w0 : World} {a : Rw} (hr : RwOk w0 a) (hM : w0.heap.size = M) (hb : Below w0.heap.size w0 w) (hl : a.b.length ≤ 300) (hn : nx ≤ 100) :
    Calls Try.prog 14 #[.pointer (some ⟨g, 0, none⟩), .slice a.A a.b.length a.c] w fun e w' => ∃ U K', e = .returned (.int .i64 0) ∧ Rest U w' b K' ∧ K'.length = 200 ∧ Good K' 9 3 (R ++ [a.b]) (nx + szN a.b.length) 200 ∧ Beside M U w' v R ∧ Below M w w' := by
  have hz := szN_300 hl
  refine (live_appendW h hB hr hM hb (by omega) (by show nx + szN a.b.length ≤ 200; omega)).mono fun e w' ⟨he, hL, hS, hb2⟩ => ⟨_, _, he, hL.rest, by rw [laidK_len]; exact hK, hL.good, hS, hb2⟩
end Go.Proofs.Ytgppaompcnllbaa
