/- Layer 6: what is found in the map of what comes of each rune. Conditions: none. -/
import Derived.Deep.WholeRow
import Derived.Test.YtinfbimfiaegdaaActs
namespace Go.Proofs.Ytinfbimfiaegdaa
open Go.RowKit Go.ChangeMaps

theorem act_sign : ∀ c ∈ sgs, ((blE 3).zipIdx 0).find? (fun q => decide ((q.1.1 : Int) = (c : Nat))) |>.map (fun q => q.1.2) |>.any (· == 49) := by decide +kernel
theorem act_blank : ∀ c ∈ bls, ((blE 3).zipIdx 0).find? (fun q => decide ((q.1.1 : Int) = (c : Nat))) |>.map (fun q => q.1.2) |>.any (· == 50) := by decide +kernel
theorem act_all : ∀ q ∈ (blE 3).zipIdx 0, q.1.1 = 47 ∨ signB q.1.1 = true ∨ blankB q.1.1 = true := by decide +kernel
theorem sgs_mem {c : Nat} (h : signB c = true) : c ∈ sgs := by
  have := signB_iff.1 h
  simp only [sgs, List.mem_cons, List.not_mem_nil, or_false]; omega
theorem bls_mem {c : Nat} (h : blankB c = true) : c ∈ bls := by
  have := blankB_iff.1 h
  simp only [bls, List.mem_cons, List.not_mem_nil, or_false]; omega

section
variable (W : World) {m g clk : Nat} (hb : W.heap[m]? = some (.map (ents g (blE 3)) clk))
include hb
theorem look_hit (r f : Nat) (i : Nat) (hf : Instr.findNow (.int .i32) (.int .i32 (r : Int)) (ents g (blE 3)).toList 0 = some (some (i, meth f g))) :
    (Instr.lookup 88 (.map (some m)) (.int .i32 (r : Int)) true).run Try.prog W = .ok (.tuple #[.func (.func f) #[.pointer (some ⟨g, 0, none⟩)] #[], .bool true]) W := by
  simp [Instr.lookup, Instr.findKey, run_underlying Try.underlying88, run_underlying Try.underlying21, MapKept.run_getObj_map hb, check_i32, hf, Result.andThen, meth]
theorem look_f (r f : Nat) (h : (((blE 3).zipIdx 0).find? (fun q => decide ((q.1.1 : Int) = (r : Nat))) |>.map (fun q => q.1.2) |>.any (· == f)) = true) :
    (Instr.lookup 88 (.map (some m)) (.int .i32 (r : Int)) true).run Try.prog W = .ok (.tuple #[.func (.func f) #[.pointer (some ⟨g, 0, none⟩)] #[], .bool true]) W := by
  have h1 := find_ents g (r : Int) (blE 3)
  cases hq : ((blE 3).zipIdx 0).find? (fun q => decide ((q.1.1 : Int) = (r : Int))) with
  | none => rw [hq] at h; simp at h
  | some q =>
    rw [hq] at h h1
    simp only [Option.map_some, Option.any_some, beq_iff_eq] at h h1
    rw [h] at h1
    exact look_hit W hb r f q.2 h1
theorem look_note : (Instr.lookup 88 (.map (some m)) (.int .i32 ((47 : Nat) : Int)) true).run Try.prog W = .ok (.tuple #[.func (.func 48) #[.pointer (some ⟨g, 0, none⟩)] #[], .bool true]) W :=
  look_f W hb 47 _ (by decide +kernel)
theorem look_sign {r : Nat} (h : signB r = true) : (Instr.lookup 88 (.map (some m)) (.int .i32 (r : Int)) true).run Try.prog W = .ok (.tuple #[.func (.func 49) #[.pointer (some ⟨g, 0, none⟩)] #[], .bool true]) W :=
  look_f W hb r _ (act_sign r (sgs_mem h))
theorem look_blank {r : Nat} (h : blankB r = true) : (Instr.lookup 88 (.map (some m)) (.int .i32 (r : Int)) true).run Try.prog W = .ok (.tuple #[.func (.func 50) #[.pointer (some ⟨g, 0, none⟩)] #[], .bool true]) W :=
  look_f W hb r _ (act_blank r (bls_mem h))
theorem look_none {r : Nat} (h1 : r ≠ 47) (h2 : signB r = false) (h3 : blankB r = false) : (Instr.lookup 88 (.map (some m)) (.int .i32 (r : Int)) true).run Try.prog W = .ok (.tuple #[.nilFunc, .bool false]) W := by
  have hz : ∀ W, (zeroValue 90).run Try.prog W = .ok .nilFunc W := (zero_of_info (P := Try.prog) (t := 90) (v := .nilFunc) (n := 1) (by kernel_rfl)).1
  have hn : ((blE 3).zipIdx 0).find? (fun q => decide ((q.1.1 : Int) = (r : Int))) = none := by
    rw [List.find?_eq_none]
    intro q hq
    have := act_all q hq
    simp only [decide_eq_true_eq]
    intro e
    have e' : q.1.1 = r := by omega
    rw [e', h2, h3] at this
    simp at this
    exact h1 this
  have h4 := find_ents g (r : Int) (blE 3)
  rw [hn] at h4
  simp [Instr.lookup, Instr.findKey, run_underlying Try.underlying88, run_underlying Try.underlying21, MapKept.run_getObj_map hb, check_i32, h4, hz, Result.andThen]
end
end Go.Proofs.Ytinfbimfiaegdaa
