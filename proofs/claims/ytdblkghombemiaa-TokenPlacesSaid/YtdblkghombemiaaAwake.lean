/- Layer 6: Key, called; the document's example holds: awake answers true. Conditions: none. -/
import Derived.Test.YtdblkghombemiaaAllW
namespace Go.Proofs.Ytdblkghombemiaa
open Go.RowKit

theorem list_dec (x y : ByteArray) : (x.toList == y.toList) = decide (x = y) := toList_inj
set_option maxHeartbeats 1000000 in
theorem key_any (s : ByteArray) (w : World) : Calls Try.prog 12 #[.string s] w fun e w' => e = .returned (.bool (keyB s)) ∧ w' = w := by
  have e1 := list_dec s ⟨#[116, 121, 112, 101]⟩
  have e2 := list_dec s ⟨#[114, 101, 108]⟩
  have e3 := list_dec s ⟨#[105, 115]⟩
  have e4 := list_dec s ⟨#[116, 104, 105, 115]⟩
  rw [show (⟨#[116, 121, 112, 101]⟩ : ByteArray).toList = [116, 121, 112, 101] by decide +kernel] at e1
  rw [show (⟨#[114, 101, 108]⟩ : ByteArray).toList = [114, 101, 108] by decide +kernel] at e2
  rw [show (⟨#[105, 115]⟩ : ByteArray).toList = [105, 115] by decide +kernel] at e3
  rw [show (⟨#[116, 104, 105, 115]⟩ : ByteArray).toList = [116, 104, 105, 115] by decide +kernel] at e4
  have HK : Hid (keyB s = (decide (s = ⟨#[116, 121, 112, 101]⟩) || decide (s = ⟨#[114, 101, 108]⟩) || decide (s = ⟨#[105, 115]⟩) || decide (s = ⟨#[116, 104, 105, 115]⟩))) := Lib.hid (by unfold keyB; rw [Bool.eq_iff_iff]; simp [or_assoc])
  generalize decide (s = ⟨#[116, 121, 112, 101]⟩) = d1 at *
  generalize decide (s = ⟨#[114, 101, 108]⟩) = d2 at *
  generalize decide (s = ⟨#[105, 115]⟩) = d3 at *
  generalize decide (s = ⟨#[116, 104, 105, 115]⟩) = d4 at *
  go_enter Try.func12, Try.ntmps12
  cases d1 <;> cases d2 <;> cases d3 <;> cases d4
  all_goals go_wp2
  all_goals go_ret
  all_goals (refine ⟨?_, rfl⟩; rw [HK.out]; rfl)

theorem chain {B : Nat} {w w1 w2 : World} (h : Hid (Below B w w1)) (hB : B ≤ w1.heap.size) (k : Below w1.heap.size w1 w2) : Hid (Below B w w2) ∧ B ≤ w2.heap.size :=
  ⟨Lib.hid (h.out.trans (k.mono hB)), Nat.le_trans hB k.size⟩
/-- The cells of the token at place i. -/
theorem Toks.get {w : World} {A : Option Addr} {c : Nat} {l : List Tk} (h : Toks w A c l) {i : Nat} {t : Tk} (hi : l[i]? = some t) :
    ∃ b o, A = some ⟨b, o, none⟩ ∧ b < w.heap.size ∧ w.cell? ⟨b, o + i * 3, none⟩ = some (.int .i64 t.1) ∧ w.cell? ⟨b, o + i * 3 + 1, none⟩ = some (.string t.2.1) ∧ w.cell? ⟨b, o + i * 3 + 2, none⟩ = some (.int .i64 t.2.2) := by
  have hl : i < l.length := (List.getElem?_eq_some_iff.1 hi).1
  obtain ⟨b, o, e, hb, hc⟩ := Rd.at_ h (by omega)
  refine ⟨b, o, e, hb, ?_, ?_, ?_⟩
  · have := hc (i * 3 + 0) _ (tcells_at l i t hi 0 _ rfl)
    exact this
  · have := hc (i * 3 + 1) _ (tcells_at l i t hi 1 _ rfl)
    rwa [← Nat.add_assoc] at this
  · have := hc (i * 3 + 2) _ (tcells_at l i t hi 2 _ rfl)
    rwa [← Nat.add_assoc] at this

def exA : ByteArray := ⟨#[97, 58, 195, 169, 32, 47, 47, 32, 98]⟩
def exT : List Tk := [(1, ⟨#[97]⟩, 0), (2, ⟨#[58]⟩, 1), (1, ⟨#[195, 169]⟩, 2), (3, ⟨#[]⟩, 9)]
theorem exA_all : allS exA = (exT, 0, 0) := by decide +kernel
def exB : ByteArray := ⟨#[97, 32, 36]⟩
theorem exB_all : allS exB = ([], 30, 2) := by decide +kernel
theorem call_exA (w : World) : Calls Try.prog 10 #[.string ⟨#[97, 58, 195, 169, 32, 47, 47, 32, 98]⟩] w fun e w' => (∃ A c, e = .returned (.tuple #[.slice A 4 c, .int .i64 0, .int .i64 0]) ∧ Toks w' A c exT) ∧ Below w.heap.size w w' := by
  have h := all_any exA w (by decide +kernel)
  unfold AllPost at h
  rw [exA_all] at h
  exact h
theorem call_exB (w : World) : Calls Try.prog 10 #[.string ⟨#[97, 32, 36]⟩] w fun e w' => (∃ A c, e = .returned (.tuple #[.slice A 0 c, .int .i64 30, .int .i64 2])) ∧ Below w.heap.size w w' := by
  have h := all_any exB w (by decide +kernel)
  unfold AllPost at h
  rw [exB_all] at h
  exact h.mono fun e w' ⟨⟨A, c, h1, _⟩, h2⟩ => ⟨⟨A, c, h1⟩, h2⟩
theorem key_this (w : World) : Calls Try.prog 12 #[.string ⟨#[116, 104, 105, 115]⟩] w fun e w' => e = .returned (.bool true) ∧ w' = w := key_any _ w
theorem key_a (w : World) : Calls Try.prog 12 #[.string ⟨#[97]⟩] w fun e w' => e = .returned (.bool false) ∧ w' = w := key_any _ w

set_option maxRecDepth 100000 in
set_option maxHeartbeats 4000000 in
theorem awake_any (w : World) : Calls Try.prog 9 #[] w fun e w' => e = .returned (.bool true) ∧ Below w.heap.size w w' := by
  go_enter Try.func9, Try.ntmps9
  go_wp2_with (first
    | ((with_reducible refine (call_exA _).mono ?_); rintro e w1 ⟨⟨A, c, rfl, ht⟩, hb1⟩)
    | ((with_reducible refine (call_exB _).mono ?_); rintro e w2 ⟨⟨A2, c2, rfl⟩, hb2⟩; have ht2 := ht.below hb2; clear ht; obtain ⟨b, o, rfl, hlt, x0, x1, x2⟩ := ht2.get (i := 0) rfl; obtain ⟨_, _, e1, _, y0, y1, y2⟩ := ht2.get (i := 1) rfl; cases e1; obtain ⟨_, _, e1, _, z0, z1, z2⟩ := ht2.get (i := 2) rfl; cases e1; obtain ⟨_, _, e1, _, q0, q1, q2⟩ := ht2.get (i := 3) rfl; cases e1; dsimp only at x0 x1 x2 y0 y1 y2 z0 z1 z2 q0 q1 q2; simp only [Nat.zero_mul, Nat.add_zero, Nat.add_assoc, Nat.reduceMul, Nat.reduceAdd] at x0 x1 x2 y0 y1 y2 z0 z1 z2 q0 q1 q2; clear ht2)
    | ((with_reducible refine (key_this _).mono ?_); rintro e w' ⟨rfl, rfl⟩)
    | ((with_reducible refine (key_a _).mono ?_); rintro e w' ⟨rfl, rfl⟩))
  go_ret
  exact ⟨rfl, hb1.trans (hb2.mono hb1.size)⟩
end Go.Proofs.Ytdblkghombemiaa
