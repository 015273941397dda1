/- The document's examples of layer 2 hold: awake answers true. -/
import Derived.Test.YtfikloeeljgelaaGlyphs
namespace Go.Proofs.Ytfikloeeljgelaa
open Go.RowKit

def sA : ByteArray := ⟨#[97, 10, 195, 169, 98]⟩
def sB : ByteArray := ⟨#[195, 169, 98, 99]⟩
def sC : ByteArray := ⟨#[97, 195, 169]⟩
def sD : ByteArray := ⟨#[97, 195]⟩
def sE : ByteArray := ⟨#[97, 45, 98]⟩
def sF : ByteArray := ⟨#[]⟩
theorem ex_where : whrS sA (bef sA 4) = (2, 2) := by decide +kernel
theorem ex_cutA : cutA sB (2 : Int).toNat = ⟨#[195, 169, 98]⟩ := by decide +kernel
theorem ex_cutB : cutB sB (2 : Int).toNat = ⟨#[99]⟩ := by decide +kernel
theorem ex_validC : validS sC = true := by decide +kernel
theorem ex_validD : validS sD = false := by decide +kernel
theorem ex_count : cnt sC = 2 := by decide +kernel
theorem ex_nameC : nameS sC = true := by decide +kernel
theorem ex_nameE : nameS sE = false := by decide +kernel
theorem ex_nameF : nameS sF = false := by decide +kernel

section
variable (w : World)
theorem ex1 : Calls Try.prog 12 #[.string ⟨#[97, 10, 195, 169, 98]⟩, .int .i64 4] w fun e w' => e = .returned (.tuple #[.int .i64 2, .int .i64 2]) ∧ Below w.heap.size w w' := by
  have h := where_any sA 4 w (by decide)
  rw [ex_where] at h
  exact h
theorem ex2 : Calls Try.prog 10 #[.string ⟨#[195, 169, 98, 99]⟩, .int .i64 2] w fun e w' => e = .returned (.tuple #[.string ⟨#[195, 169, 98]⟩, .string ⟨#[99]⟩]) ∧ Below w.heap.size w w' := by
  have h := cut_any sB 2 w (by decide) (by omega) (by omega)
  rw [ex_cutA, ex_cutB] at h
  exact h
theorem ex3 : Calls Try.prog 14 #[.string ⟨#[97, 195, 169]⟩] w fun e w' => e = .returned (.bool true) ∧ Below w.heap.size w w' := by
  have h := valid_any sC w (by decide)
  rw [ex_validC] at h
  exact h
theorem ex4 : Calls Try.prog 14 #[.string ⟨#[97, 195]⟩] w fun e w' => e = .returned (.bool false) ∧ Below w.heap.size w w' := by
  have h := valid_any sD w (by decide)
  rw [ex_validD] at h
  exact h
theorem ex5 : Calls Try.prog 16 #[.string ⟨#[97, 195, 169]⟩] w fun e w' => e = .returned (.int .i64 2) ∧ Below w.heap.size w w' := by
  have h := count_any sC w (by decide)
  rw [ex_count] at h
  exact h
theorem ex6 : Calls Try.prog 18 #[.string ⟨#[97, 195, 169]⟩] w fun e w' => e = .returned (.bool true) ∧ Below w.heap.size w w' := by
  have h := name_any sC w (by decide)
  rw [ex_nameC] at h
  exact h
theorem ex7 : Calls Try.prog 18 #[.string ⟨#[97, 45, 98]⟩] w fun e w' => e = .returned (.bool false) ∧ Below w.heap.size w w' := by
  have h := name_any sE w (by decide)
  rw [ex_nameE] at h
  exact h
theorem ex8 : Calls Try.prog 18 #[.string ⟨#[]⟩] w fun e w' => e = .returned (.bool false) ∧ Below w.heap.size w w' := by
  have h := name_any sF w (by decide)
  rw [ex_nameF] at h
  exact h
end

theorem chain {B : Nat} {w w1 w2 : World} (h : Hid (Below B w w1)) (hB : B ≤ w1.heap.size) (k : Below w1.heap.size w1 w2) : Hid (Below B w w2) ∧ B ≤ w2.heap.size :=
  ⟨Lib.hid (h.out.trans (k.mono hB)), Nat.le_trans hB k.size⟩

set_option maxRecDepth 100000 in
set_option maxHeartbeats 2000000 in
theorem awake_any (w : World) : Calls Try.prog 9 #[] w fun e w' => e = .returned (.bool true) ∧ Below w.heap.size w w' := by
  have Hb := Lib.hid (Below.refl w.heap.size w)
  have hB : w.heap.size ≤ w.heap.size := Nat.le_refl _
  go_enter Try.func9, Try.ntmps9
  go_wp2_with (first
    | ((with_reducible refine (ex1 _).mono ?_); rintro e w1 ⟨rfl, hb⟩; obtain ⟨Hb, hB⟩ := chain Hb hB hb; clear hb)
    | ((with_reducible refine (ex2 _).mono ?_); rintro e w2 ⟨rfl, hb⟩; obtain ⟨Hb, hB⟩ := chain Hb hB hb; clear hb)
    | ((with_reducible refine (ex3 _).mono ?_); rintro e w3 ⟨rfl, hb⟩; obtain ⟨Hb, hB⟩ := chain Hb hB hb; clear hb)
    | ((with_reducible refine (ex4 _).mono ?_); rintro e w4 ⟨rfl, hb⟩; obtain ⟨Hb, hB⟩ := chain Hb hB hb; clear hb)
    | ((with_reducible refine (ex5 _).mono ?_); rintro e w5 ⟨rfl, hb⟩; obtain ⟨Hb, hB⟩ := chain Hb hB hb; clear hb)
    | ((with_reducible refine (ex6 _).mono ?_); rintro e w6 ⟨rfl, hb⟩; obtain ⟨Hb, hB⟩ := chain Hb hB hb; clear hb)
    | ((with_reducible refine (ex7 _).mono ?_); rintro e w7 ⟨rfl, hb⟩; obtain ⟨Hb, hB⟩ := chain Hb hB hb; clear hb)
    | ((with_reducible refine (ex8 _).mono ?_); rintro e w8 ⟨rfl, hb⟩; obtain ⟨Hb, hB⟩ := chain Hb hB hb; clear hb))
  go_ret
  exact ⟨rfl, Hb.out⟩
end Go.Proofs.Ytfikloeeljgelaa
