/- Layer 6: the map of what comes of each rune, how it is filled, and what is found in it. Conditions: none. -/
import Derived.Maps.Own
import Derived.LoopN
import Derived.Test.YteafdhpcnpfmkaaGreatMeth
import Derived.Deep.WholeRow
namespace Go.Proofs.YteafdhpcnpfmkaaGreat
open Go.RowKit Go.ChangeMaps

/-- A bound method of the text at the block g. -/
def meth (f g : Nat) : Value := .func (.func f) #[.pointer (some ⟨g, 0, none⟩)] #[]
def ent (g : Nat) (i : Nat) (p : Nat × Nat) : MapEntry := ⟨.int .i32 p.1, meth p.2 g, i⟩
def ents (g : Nat) (l : List (Nat × Nat)) : Array MapEntry := (l.mapIdx (ent g)).toArray
theorem ents_push (g : Nat) (l : List (Nat × Nat)) (p : Nat × Nat) : ents g (l ++ [p]) = (ents g l).push (ent g l.length p) := by
  unfold ents
  rw [List.mapIdx_append]
  simp
def sgs : List Nat := [123, 125, 40, 41, 58, 44, 59, 124, 38, 45, 46, 35]
def bls : List Nat := [32, 9, 10]
def sgE (j : Nat) : List (Nat × Nat) := (47, 119) :: (sgs.take j).map fun c => (c, 120)
def blE (j : Nat) : List (Nat × Nat) := sgE 12 ++ (bls.take j).map fun c => (c, 121)

theorem findNow_ents (g : Nat) (z : Int) : ∀ (l : List (Nat × Nat)) (i k : Nat), Instr.findNow (.int .i32) (.int .i32 z) (l.mapIdx fun j p => ent g (j + k) p) i = some ((l.zipIdx i).find? (fun q => decide ((q.1.1 : Int) = z)) |>.map fun q => (q.2, meth q.1.2 g))
  | [], _, _ => rfl
  | p :: r, i, k => by
    rw [List.mapIdx_cons]
    show Instr.findNow (.int .i32) (.int .i32 z) (ent g (0 + k) p :: _) i = _
    have ih := findNow_ents g z r (i + 1) (k + 1)
    unfold Instr.findNow
    rw [List.zipIdx_cons, List.find?_cons]
    by_cases h : (p.1 : Int) = z
    · have : Instr.sameNow (.int .i32) (.int .i32 z) (ent g (0 + k) p).key = some true := by simp [Instr.sameNow, ent, h]
      rw [this]
      simp [h, ent]
    · have h' : ¬ z = (p.1 : Int) := fun e => h e.symm
      have : Instr.sameNow (.int .i32) (.int .i32 z) (ent g (0 + k) p).key = some false := by simp [Instr.sameNow, ent, h']
      rw [this]
      simp only [h, decide_false]
      rw [← ih]
      congr 2
      funext j q
      rw [show j + 1 + k = j + (k + 1) by omega]
theorem find_ents (g : Nat) (z : Int) (l : List (Nat × Nat)) : Instr.findNow (.int .i32) (.int .i32 z) (ents g l).toList 0 = some ((l.zipIdx 0).find? (fun q => decide ((q.1.1 : Int) = z)) |>.map fun q => (q.2, meth q.1.2 g)) := by
  have := findNow_ents g z l 0 0
  simpa [ents] using this

theorem check_i32 (b : Bool) (z : Int) (W : World) : (Instr.checkKey b 10000 21 (.int .i32 z)).run Tryz.prog W = .ok () W := by
  unfold Instr.checkKey
  simp [run_underlying Tryz.underlying21]
theorem run_upd (W : World) {b g clk : Nat} {l : List (Nat × Nat)} (hb : W.heap[b]? = some (.map (ents g l) clk)) (hc : clk = l.length) (z f : Nat) (hf : (l.zipIdx 0).find? (fun q => decide ((q.1.1 : Int) = (z : Int))) = none) :
    (Instr.mapUpdate 176 (.map (some b)) (.int .i32 z) (meth f g)).run Tryz.prog W = .ok () (setBlock W b (.map (ents g (l ++ [(z, f)])) (l ++ [(z, f)]).length)) := by
  subst hc
  rw [ents_push]
  have h1 := find_ents g z l
  rw [hf] at h1
  simp [Instr.mapUpdate, Instr.findKey, run_underlying Tryz.underlying176, run_underlying Tryz.underlying21, MapKept.run_getObj_map hb, check_i32, h1, MapKept.run_setObj_map _ hb, Result.andThen, setBlock, ent]
/-- All but one block is as it was. -/
structure Kb (b : Nat) (w w' : World) : Prop where
  os : w'.os = w.os
  tape : w'.tape = w.tape
  output : w'.output = w.output
  size : w'.heap.size = w.heap.size
  block : ∀ k, k ≠ b → w'.heap[k]? = w.heap[k]?
theorem Kb.below {b B : Nat} {w0 w w' : World} (h : Kb b w w') (hb : Below B w0 w) (hB : B ≤ b) : Below B w0 w' :=
  hb.trans ⟨h.os, h.tape, h.output, by rw [h.size]; exact Nat.le_refl _, fun k hk => h.block k (by omega)⟩
theorem kb_set (W : World) (b : Nat) (o : Obj) : Kb b W (setBlock W b o) :=
  ⟨rfl, rfl, rfl, by simp [setBlock], fun k hk => by simp only [setBlock]; rw [Array.getElem?_setIfInBounds, if_neg (by omega)]⟩
theorem upd_ex (W : World) {b g clk : Nat} {l l' : List (Nat × Nat)} (hb : W.heap[b]? = some (.map (ents g l) clk)) (hc : clk = l.length) (z : Int) (c f : Nat) (hz : z = (c : Int)) (hl : l' = l ++ [(c, f)]) (hf : (l.zipIdx 0).find? (fun q => decide ((q.1.1 : Int) = (c : Int))) = none) :
    ∃ W', (Instr.mapUpdate 176 (.map (some b)) (.int .i32 z) (.func (.func f) #[.pointer (some ⟨g, 0, none⟩)] #[])).run Tryz.prog W = .ok () W' ∧ W'.heap[b]? = some (.map (ents g l') l'.length) ∧ Kb b W W' := by
  subst hl hz
  refine ⟨_, run_upd W hb hc c f hf, ?_, kb_set _ _ _⟩
  have : b < W.heap.size := (Array.getElem?_eq_some_iff.1 hb).1
  simp [setBlock, this]

def sgS : ByteArray := ⟨#[123, 125, 40, 41, 58, 44, 59, 124, 38, 45, 46, 35]⟩
def blS : ByteArray := ⟨#[32, 9, 10]⟩
theorem sg_dec : ∀ k, k < 12 → Utf8.decode sgS k = (sgs.getD k 0, 1) := by decide +kernel
theorem sg_new : ∀ k, k < 12 → sgE (k + 1) = sgE k ++ [(sgs.getD k 0, 120)] ∧ (((sgE k).zipIdx 0).find? (fun q => decide ((q.1.1 : Int) = (sgs.getD k 0 : Nat)))).isNone = true := by decide +kernel
theorem bl_dec : ∀ k, k < 3 → Utf8.decode blS k = (bls.getD k 0, 1) := by decide +kernel
theorem bl_new : ∀ k, k < 3 → blE (k + 1) = blE k ++ [(bls.getD k 0, 121)] ∧ (((blE k).zipIdx 0).find? (fun q => decide ((q.1.1 : Int) = (bls.getD k 0 : Nat)))).isNone = true := by decide +kernel

set_option maxHeartbeats 2000000 in
theorem acts_any (w : World) (g : Nat) :
    Calls Tryz.prog 80 #[.pointer (some ⟨g, 0, none⟩)] w fun e w' => e = .returned (.map (some w.heap.size)) ∧ w'.heap[w.heap.size]? = some (.map (ents g (blE 3)) (blE 3).length) ∧ Below w.heap.size w w' := by
  have hmm := @run_makeMap Tryz.prog
  have h0 : (w.alloc (.map #[] 0)).heap[w.heap.size]? = some (.map (ents g []) 0) := heap_alloc_new w _
  obtain ⟨W1, hu, hW1, hk1⟩ := upd_ex (w.alloc (.map #[] 0)) h0 rfl 47 47 119 rfl (l' := sgE 0) rfl rfl
  have hs1 : W1.heap.size = w.heap.size + 1 := by rw [hk1.size]; simp
  have Hb1 : Hid (Below w.heap.size w W1) := Lib.hid (hk1.below ((Below.refl _ w).alloc (Nat.le_refl _) _) (Nat.le_refl _))
  have HW1 := Lib.hid hW1
  clear hW1 hk1 h0
  go_enter Tryz.func80, Tryz.ntmps80
  go_wp2
  have hs2 : (W1.iter sgS 0).heap.size = w.heap.size + 2 := by simp [World.iter]; omega
  go_loopw [] (fun wr => ∃ k : Nat, k ≤ 12 ∧ wr.heap[w.heap.size + 1]? = some (.stringIter sgS k) ∧ wr.heap[w.heap.size]? = some (.map (ents g (sgE k)) (sgE k).length) ∧ Below w.heap.size w wr ∧ wr.heap.size = w.heap.size + 2) (fun wr => 12 - wr.iterPos (w.heap.size + 1))
  case atStart => 
    refine ⟨0, by omega, ?_, ?_, Hb1.out.trans ((it_below W1 sgS).mono (by omega)), hs2⟩
    · rw [← hs1]; exact it_start W1 sgS
    · exact ((it_below W1 sgS).block w.heap.size (by omega)).trans HW1.out
  case round =>
    obtain ⟨k, hk, hit, hmp, hbw, hsz⟩ := hrel
    have Hit := Lib.hid hit
    have Hmp := Lib.hid hmp
    have Hbw := Lib.hid hbw
    have Hsz := Lib.hid hsz
    by_cases h : k < 12
    · have hnx := fun ty => Lib.run_next_any_at (P := Tryz.prog) wr (w.heap.size + 1) sgS k ty hit h
      have hi2 := Lib.iterAt_heap wr (w.heap.size + 1) sgS k (k + 1) hit
      have hb2 : Below (w.heap.size + 1) wr (wr.iterAt (w.heap.size + 1) sgS (k + 1)) := Lib.below_iterAt (Below.refl _ _) (Nat.le_refl _) sgS (k + 1)
      rw [sg_dec k h] at hnx
      dsimp only at hnx
      have hmp2 : (wr.iterAt (w.heap.size + 1) sgS (k + 1)).heap[w.heap.size]? = some (.map (ents g (sgE k)) (sgE k).length) := by rw [hb2.block _ (by omega)]; exact hmp
      obtain ⟨W2, hu2, hW2, hk2⟩ := upd_ex _ hmp2 rfl ((sgs.getD k 0 : Nat) : Int) (sgs.getD k 0) 120 rfl (sg_new k h).1 (by simpa using (sg_new k h).2)
      have HS : Hid (W2.heap.size = w.heap.size + 2) := Lib.hid (by rw [hk2.size]; have := hb2.size; simp [World.iterAt]; omega)
      have HI : Hid (W2.heap[w.heap.size + 1]? = some (.stringIter sgS (k + 1))) := Lib.hid (by rw [hk2.block _ (by omega)]; exact hi2)
      have HM := Lib.hid hW2
      have HB : Hid (Below w.heap.size w W2) := Lib.hid (hk2.below (hbw.trans (hb2.mono (by omega))) (Nat.le_refl _))
      clear hit hmp hbw hsz hi2 hb2 hmp2 hW2 hk2
      generalize sgs.getD k 0 = c at *
      go_wp2
      go_roundw
      case rel => exact ⟨k + 1, by omega, HI.out, HM.out, HB.out, HS.out⟩
      case measure =>
        have e1 : wr.iterPos (w.heap.size + 1) = k := by simp only [World.iterPos, Hit.out]
        have e2 : W2.iterPos (w.heap.size + 1) = k + 1 := by simp only [World.iterPos, HI.out]
        rw [e1, e2]; omega
    · obtain rfl : k = 12 := by omega
      have hnx := fun ty => Lib.run_next_end_at (P := Tryz.prog) wr (w.heap.size + 1) sgS 12 ty hit h
      clear hit hmp hbw
      go_wp2
      have hs3 : (wr.iter blS 0).heap.size = w.heap.size + 3 := by simp [World.iter]; omega
      go_loopw [] (fun wr => ∃ k : Nat, k ≤ 3 ∧ wr.heap[w.heap.size + 2]? = some (.stringIter blS k) ∧ wr.heap[w.heap.size]? = some (.map (ents g (blE k)) (blE k).length) ∧ Below w.heap.size w wr ∧ wr.heap.size = w.heap.size + 3) (fun wr => 3 - wr.iterPos (w.heap.size + 2))
      case atStart =>
        refine ⟨0, by omega, ?_, ?_, Hbw.out.trans ((it_below wr blS).mono (by omega)), hs3⟩
        · rw [← hsz]; exact it_start wr blS
        · exact ((it_below wr blS).block w.heap.size (by omega)).trans Hmp.out
      case round =>
        clear hs3 hnx hsz Hit Hmp Hbw Hsz
        obtain ⟨k, hk, hit, hmp, hbw, hsz⟩ := hrel
        have Hit := Lib.hid hit
        have Hmp := Lib.hid hmp
        have Hbw := Lib.hid hbw
        by_cases h : k < 3
        · have hnx := fun ty => Lib.run_next_any_at (P := Tryz.prog) wr (w.heap.size + 2) blS k ty hit h
          have hi2 := Lib.iterAt_heap wr (w.heap.size + 2) blS k (k + 1) hit
          have hb2 : Below (w.heap.size + 2) wr (wr.iterAt (w.heap.size + 2) blS (k + 1)) := Lib.below_iterAt (Below.refl _ _) (Nat.le_refl _) blS (k + 1)
          rw [bl_dec k h] at hnx
          dsimp only at hnx
          have hmp2 : (wr.iterAt (w.heap.size + 2) blS (k + 1)).heap[w.heap.size]? = some (.map (ents g (blE k)) (blE k).length) := by rw [hb2.block _ (by omega)]; exact hmp
          obtain ⟨W2, hu2, hW2, hk2⟩ := upd_ex _ hmp2 rfl ((bls.getD k 0 : Nat) : Int) (bls.getD k 0) 121 rfl (bl_new k h).1 (by simpa using (bl_new k h).2)
          have HS : Hid (W2.heap.size = w.heap.size + 3) := Lib.hid (by rw [hk2.size]; simp [World.iterAt]; omega)
          have HI : Hid (W2.heap[w.heap.size + 2]? = some (.stringIter blS (k + 1))) := Lib.hid (by rw [hk2.block _ (by omega)]; exact hi2)
          have HM := Lib.hid hW2
          have HB : Hid (Below w.heap.size w W2) := Lib.hid (hk2.below (hbw.trans (hb2.mono (by omega))) (Nat.le_refl _))
          clear hit hmp hbw hsz hi2 hb2 hmp2 hW2 hk2
          generalize bls.getD k 0 = c at *
          go_wp2
          go_roundw
          case rel => exact ⟨k + 1, by omega, HI.out, HM.out, HB.out, HS.out⟩
          case measure =>
            have e1 : wr.iterPos (w.heap.size + 2) = k := by simp only [World.iterPos, Hit.out]
            have e2 : W2.iterPos (w.heap.size + 2) = k + 1 := by simp only [World.iterPos, HI.out]
            rw [e1, e2]; omega
        · obtain rfl : k = 3 := by omega
          have hnx := fun ty => Lib.run_next_end_at (P := Tryz.prog) wr (w.heap.size + 2) blS 3 ty hit h
          clear hit hmp hbw hsz
          go_wp2
          go_ret
          exact ⟨rfl, Hmp.out, Hbw.out⟩
end Go.Proofs.YteafdhpcnpfmkaaGreat
/- Layer 6: what is found in the map of what comes of each rune. Conditions: none. -/
namespace Go.Proofs.YteafdhpcnpfmkaaGreat
open Go.RowKit Go.ChangeMaps

theorem act_sign : ∀ c ∈ sgs, ((blE 3).zipIdx 0).find? (fun q => decide ((q.1.1 : Int) = (c : Nat))) |>.map (fun q => q.1.2) |>.any (· == 120) := by decide +kernel
theorem act_blank : ∀ c ∈ bls, ((blE 3).zipIdx 0).find? (fun q => decide ((q.1.1 : Int) = (c : Nat))) |>.map (fun q => q.1.2) |>.any (· == 121) := by decide +kernel
theorem act_all : ∀ q ∈ (blE 3).zipIdx 0, q.1.1 = 47 ∨ signB q.1.1 = true ∨ blankB q.1.1 = true := by decide +kernel
theorem sgs_mem {c : Nat} (h : signB c = true) : c ∈ sgs := by
  have := signB_iff.1 h
  simp only [sgs, List.mem_cons, List.not_mem_nil, or_false]; omega
theorem bls_mem {c : Nat} (h : blankB c = true) : c ∈ bls := by
  have := blankB_iff.1 h
  simp only [bls, List.mem_cons, List.not_mem_nil, or_false]; omega

section
variable (W : World) {m g clk : Nat} (hb : W.heap[m]? = some (.map (ents g (blE 3)) clk))
include hb
theorem look_hit (r f : Nat) (i : Nat) (hf : Instr.findNow (.int .i32) (.int .i32 (r : Int)) (ents g (blE 3)).toList 0 = some (some (i, meth f g))) :
    (Instr.lookup 176 (.map (some m)) (.int .i32 (r : Int)) true).run Tryz.prog W = .ok (.tuple #[.func (.func f) #[.pointer (some ⟨g, 0, none⟩)] #[], .bool true]) W := by
  simp [Instr.lookup, Instr.findKey, run_underlying Tryz.underlying176, run_underlying Tryz.underlying21, MapKept.run_getObj_map hb, check_i32, hf, Result.andThen, meth]
theorem look_f (r f : Nat) (h : (((blE 3).zipIdx 0).find? (fun q => decide ((q.1.1 : Int) = (r : Nat))) |>.map (fun q => q.1.2) |>.any (· == f)) = true) :
    (Instr.lookup 176 (.map (some m)) (.int .i32 (r : Int)) true).run Tryz.prog W = .ok (.tuple #[.func (.func f) #[.pointer (some ⟨g, 0, none⟩)] #[], .bool true]) W := by
  have h1 := find_ents g (r : Int) (blE 3)
  cases hq : ((blE 3).zipIdx 0).find? (fun q => decide ((q.1.1 : Int) = (r : Int))) with
  | none => rw [hq] at h; simp at h
  | some q =>
    rw [hq] at h h1
    simp only [Option.map_some, Option.any_some, beq_iff_eq] at h h1
    rw [h] at h1
    exact look_hit W hb r f q.2 h1
theorem look_note : (Instr.lookup 176 (.map (some m)) (.int .i32 ((47 : Nat) : Int)) true).run Tryz.prog W = .ok (.tuple #[.func (.func 119) #[.pointer (some ⟨g, 0, none⟩)] #[], .bool true]) W :=
  look_f W hb 47 _ (by decide +kernel)
theorem look_sign {r : Nat} (h : signB r = true) : (Instr.lookup 176 (.map (some m)) (.int .i32 (r : Int)) true).run Tryz.prog W = .ok (.tuple #[.func (.func 120) #[.pointer (some ⟨g, 0, none⟩)] #[], .bool true]) W :=
  look_f W hb r _ (act_sign r (sgs_mem h))
theorem look_blank {r : Nat} (h : blankB r = true) : (Instr.lookup 176 (.map (some m)) (.int .i32 (r : Int)) true).run Tryz.prog W = .ok (.tuple #[.func (.func 121) #[.pointer (some ⟨g, 0, none⟩)] #[], .bool true]) W :=
  look_f W hb r _ (act_blank r (bls_mem h))
theorem look_none {r : Nat} (h1 : r ≠ 47) (h2 : signB r = false) (h3 : blankB r = false) : (Instr.lookup 176 (.map (some m)) (.int .i32 (r : Int)) true).run Tryz.prog W = .ok (.tuple #[.nilFunc, .bool false]) W := by
  have hz : ∀ W, (zeroValue 57).run Tryz.prog W = .ok .nilFunc W := (zero_of_info (P := Tryz.prog) (t := 57) (v := .nilFunc) (n := 1) (by kernel_rfl)).1
  have hn : ((blE 3).zipIdx 0).find? (fun q => decide ((q.1.1 : Int) = (r : Int))) = none := by
    rw [List.find?_eq_none]
    intro q hq
    have := act_all q hq
    simp only [decide_eq_true_eq]
    intro e
    have e' : q.1.1 = r := by omega
    rw [e', h2, h3] at this
    simp at this
    exact h1 this
  have h4 := find_ents g (r : Int) (blE 3)
  rw [hn] at h4
  simp [Instr.lookup, Instr.findKey, run_underlying Tryz.underlying176, run_underlying Tryz.underlying21, MapKept.run_getObj_map hb, check_i32, h4, hz, Result.andThen]
end
end Go.Proofs.YteafdhpcnpfmkaaGreat
