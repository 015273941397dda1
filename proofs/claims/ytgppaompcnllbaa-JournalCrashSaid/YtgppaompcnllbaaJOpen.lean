/- Layer 4: Open, called. Conditions: the disk isn't dead; the log's sectors are the disk's. -/
import Derived.Test.YtgppaompcnllbaaFind
namespace Go.Proofs.Ytgppaompcnllbaa
open Go.RowKit

theorem jnew_nil (w : World) (x y e : Int) : Calls Try.prog 26 #[.pointer none, .int .i64 x, .int .i64 y, .int .u64 e] w fun e w' => e = .returned (.tuple #[.pointer none, .int .i64 1]) ∧ w' = w := by
  go_enter Try.func26, Try.ntmps26
  go_wp2
  go_ret2
  exact ⟨rfl, rfl⟩
theorem jopen_nil (w : World) (x y e : Int) : Calls Try.prog 11 #[.pointer none, .int .i64 x, .int .i64 y, .int .u64 e] w fun e w' => e = .returned (.tuple #[.pointer none, .int .i64 1]) ∧ w' = w := by
  have kn := jnew_nil w x y e
  go_enter Try.func11, Try.ntmps11
  go_wp2_with ((with_reducible refine kn.mono ?_); rintro e' w ⟨rfl, rfl⟩)
  go_ret2
  exact ⟨rfl, rfl⟩
/-- A log that has just been laid. -/
theorem lg_new (w : World) (b p to e : Nat) (h1 : p ≤ to) (h2 : to ≤ 65536) (h3 : e < 2 ^ 64) : Lg (In w.heap.size (w.alloc (.cells #[.pointer (some ⟨b, 0, none⟩), .int .i64 p, .int .i64 to, .int .u64 e, .slice none 0 0] 71)).heap.size) (w.alloc (.cells #[.pointer (some ⟨b, 0, none⟩), .int .i64 p, .int .i64 to, .int .u64 e, .slice none 0 0] 71)) w.heap.size b ⟨p, to, e, []⟩ :=
  ⟨.slice none 0 0, [], ⟨⟨h1, h2, h3, Nat.zero_le _, fun _ h => (by cases h)⟩, fun k h => h.2, ⟨Nat.le_refl _, by simp⟩, fun q e => (by cases e), fun e => (by cases e), heap_alloc_new _ _, World.ownsRow_nil _ _ _ _, rfl, fun _ h => (by cases h), fun _ h => (by cases h)⟩⟩
/-- What New tells of a disk's own sectors: a new log, whatever stands there. -/
theorem jnew_any {S : Nat → Prop} {w : World} {b : Nat} {s : St} (hD : Ds S w b s) (p to e : Nat) (h1 : p ≤ to) (h2 : to ≤ s.kept.length) :
    Calls Try.prog 26 #[.pointer (some ⟨b, 0, none⟩), .int .i64 p, .int .i64 to, .int .u64 e] w fun en w' => en = .returned (.tuple #[.pointer (some ⟨w.heap.size, 0, none⟩), .int .i64 0]) ∧ w' = w.alloc (.cells #[.pointer (some ⟨b, 0, none⟩), .int .i64 p, .int .i64 to, .int .u64 e, .slice none 0 0] 71) := by
  have kl := len_s hD
  have hmost := hD.ok.most
  have z1 : ((p : Int) ≤ (to : Int)) := by omega
  have z2 : ((to : Int) ≤ (s.kept.length : Int)) := by omega
  have z0 : decide ((p : Int) < 0) = false := decide_eq_false (by omega)
  have z3 : decide (to < p) = false := by simp; omega
  have z4 : decide (s.kept.length < to) = false := by simp; omega
  go_enter Try.func26, Try.ntmps26
  go_wp2_with ((with_reducible refine kl.mono ?_); rintro e' w ⟨rfl, rfl⟩)
  go_ret2
  exact ⟨rfl, rfl⟩
def nxtOf (g : Nat) (W : World) : Nat := match W.cell? ⟨g, 1, none⟩ with | some (.int _ n) => n.toNat | _ => 0
theorem nxtOf_lg {L : Nat → Prop} {W : World} {g b : Nat} {t : LSt} (h : Lg L W g b t) : nxtOf g W = t.next := by
  obtain ⟨rv, rows, h⟩ := h
  unfold nxtOf
  rw [h.c1]
  simp
theorem find_none {S L : Nat → Prop} {w : World} {g b : Nat} {s : St} {t : LSt} (hD : Ds S w b s) (hdead : s.dead = false) (hL : Lg L w g b t) (hto : t.to ≤ s.kept.length) (hr : recAt s.now t.epoch t.recs.length t.next t.to = none) :
    Calls Try.prog 27 #[.pointer (some ⟨g, 0, none⟩)] w fun e w' => ∃ A c, e = .returned (.tuple #[.slice A 0 c, .bool false, .int .i64 0]) ∧ Below w.heap.size w w' := by
  have := find_any hD hdead hL hto
  rw [hr] at this
  exact this.mono fun e w' ⟨A, c, he, _, hb⟩ => ⟨A, c, he, hb⟩
theorem find_some {S L : Nat → Prop} {w : World} {g b : Nat} {s : St} {t : LSt} (hD : Ds S w b s) (hdead : s.dead = false) (hL : Lg L w g b t) (hto : t.to ≤ s.kept.length) {x : List UInt8} (hr : recAt s.now t.epoch t.recs.length t.next t.to = some x) :
    Calls Try.prog 27 #[.pointer (some ⟨g, 0, none⟩)] w fun e w' => ∃ A c, e = .returned (.tuple #[.slice A x.length c, .bool true, .int .i64 0]) ∧ w'.ownsRow w.heap.size 5 1 (.slice A x.length c) x.length (bv x) ∧ Below w.heap.size w w' := by
  have := find_any hD hdead hL hto
  rw [hr] at this
  exact this
/-- What Open tells of sectors that can be read. -/
def OpenSays (w : World) (b : Nat) (s : St) (p to e : Nat) (en : Ending) (w' : World) : Prop :=
  ∃ g acc pos, en = .returned (.tuple #[.pointer (some ⟨g, 0, none⟩), .int .i64 0]) ∧ Reads s.now e to p acc pos ∧ Lg (In w.heap.size w'.heap.size) w' g b ⟨pos, to, e, acc⟩ ∧ Below w.heap.size w w'
set_option maxRecDepth 100000 in
set_option maxHeartbeats 4000000 in
theorem jopen_any {S : Nat → Prop} {w : World} {b : Nat} {s : St} (hD : Ds S w b s) (hdead : s.dead = false) (p to e : Nat) (h1 : p ≤ to) (h2 : to ≤ s.kept.length) (h3 : e < 2 ^ 64) :
    Calls Try.prog 11 #[.pointer (some ⟨b, 0, none⟩), .int .i64 p, .int .i64 to, .int .u64 e] w fun en w' => OpenSays w b s p to e en w' := by
  have kl := jnew_any hD p to e h1 h2
  have hmost := hD.ok.most
  have hn := lg_new w b p to e h1 (by omega) h3
  have hno := hD.ok.nowSec
  have hnl := St.nowLen s
  have H3 := Lib.hid h3
  have Hno := Lib.hid hno
  have Hnl := Lib.hid hnl
  clear h3 hno hnl
  go_enter Try.func11, Try.ntmps11
  go_wp2_with ((with_reducible refine kl.mono ?_); rintro e' w ⟨rfl, rfl⟩)
  obtain ⟨V, hV⟩ : ∃ V, w.alloc (.cells #[.pointer (some ⟨b, 0, none⟩), .int .i64 p, .int .i64 to, .int .u64 e, .slice none 0 0] 71) = V := ⟨_, rfl⟩
  rw [hV] at hn ⊢
  have hbV : Below w.heap.size w V := by rw [← hV]; exact (Below.refl _ _).alloc (Nat.le_refl _) _
  clear hV kl
  generalize hG : w.heap.size = G at *
  go_loopw [12] (fun _ wr => ∃ acc pos, Upto s.now e to p acc pos ∧ Lg (In G wr.heap.size) wr G b ⟨pos, to, e, acc⟩ ∧ Below G w wr) (fun _ wr => to - nxtOf G wr)
  case atStart => exact ⟨[], p, .nil, hn, hbV⟩
  case round =>
    obtain ⟨acc, pos, hup, hL, hb⟩ := hrel
    have hpos := hup.pos Hno.out (by rw [Hnl.out]; exact h2) h1
    have hDw := hD.below (hG ▸ hb)
    cases hr : recAt s.now e acc.length pos to with
    | none =>
      have kf := find_none hDw hdead hL h2 hr
      have Hr := Lib.hid hr
      have Hup := Lib.hid hup
      have Hb := Lib.hid hb
      clear hr hup hb hn hbV
      go_wp2_with ((with_reducible refine kf.mono ?_); rintro e' w2 ⟨A, c, rfl, hb2⟩)
      go_ret2
      have hs2 := hb2.size
      have hsz := Hb.out.size
      exact ⟨G, acc, pos, rfl, ⟨Hup.out, Hr.out⟩, by rw [hG]; exact (hL.below hb2).wide (fun k e => ⟨e.1, by have := e.2; omega⟩) (fun k e => e.2), by rw [hG]; exact Hb.out.trans (hb2.mono (by omega))⟩
    | some x =>
      have kf := find_some hDw hdead hL h2 hr
      obtain ⟨q1, q2, q3, q4, q5⟩ := recAt_some Hno.out (by rw [Hnl.out]; exact h2) hr
      have hx := (headIs_some q2).2.2.1
      have hup2 := hup.snoc hr
      have Hup := Lib.hid hup2
      have Hb := Lib.hid hb
      have hnx := Lib.hid (nxtOf_lg hL)
      clear hr hup hup2 hb hn hbV q2 q4 q5
      go_wp2_with (first
        | ((with_reducible refine kf.mono ?_); rintro e' w2 ⟨A, c, rfl, ho, hb2⟩; have ka := add_copy hL ho hb2 hx q3)
        | ((with_reducible refine ka.mono ?_); rintro e' w3 ⟨⟨_, rfl⟩, hL3, hk3⟩))
      have hs2 := hb2.size
      have hs3 := hk3.size
      have hsz := Hb.out.size
      go_roundw
      case rel =>
        refine ⟨acc ++ [x], pos + szN x.length, Hup.out, hL3.wide (fun k a => ?_) (fun k a => a.2), ?_⟩
        · rcases a with a | a
          · exact ⟨a.1, by have := a.2; omega⟩
          · exact ⟨by omega, a.2⟩
        · refine (Hb.out.trans (hb2.mono (by omega))).trans (hk3.below (fun k a => ?_) (by omega))
          rcases a with a | a
          · exact a.1
          · omega
      case measure =>
        have e3 := nxtOf_lg hL3
        have e2 := hnx.out
        have := szN_pos x.length
        rw [e3, e2]
        show to - (pos + szN x.length) < to - pos
        omega
end Go.Proofs.Ytgppaompcnllbaa
