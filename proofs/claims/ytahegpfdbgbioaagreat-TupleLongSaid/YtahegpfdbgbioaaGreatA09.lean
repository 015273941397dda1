import Derived.Maps.Own
import Derived.LoopN
import Derived.Deep.WholeRow
import Derived.Test.YtahegpfdbgbioaaGreatA08
set_option maxRecDepth 100000
set_option maxHeartbeats 4000000
namespace Go.Proofs.YtahegpfdbgbioaaGreat
open Go.RowKit Go.ChangeMaps
open Go.RowKit Go.ChangeMaps
def meth (f g : Nat) : Value := .func (.func f) #[.pointer (some ⟨g, 0, none⟩)] #[]
def ent (g : Nat) (i : Nat) (p : Nat × Nat) : MapEntry := ⟨.int .i32 p.1, meth p.2 g, i⟩
def ents (g : Nat) (l : List (Nat × Nat)) : Array MapEntry := (l.mapIdx (ent g)).toArray
theorem ents_push (g : Nat) (l : List (Nat × Nat)) (p : Nat × Nat) : ents g (l ++ [p]) = (ents g l).push (ent g l.length p) := by
 unfold ents
 rw [List.mapIdx_append]
 simp
def sgs : List Nat := [123, 125, 40, 41, 58, 44, 59, 124, 38, 45, 46, 35]
def bls : List Nat := [32, 9, 10]
def sgE (j : Nat) : List (Nat × Nat) := (47, 162) :: (sgs.take j).map fun c => (c, 163)
def blE (j : Nat) : List (Nat × Nat) := sgE 12 ++ (bls.take j).map fun c => (c, 164)
theorem findNow_ents (g : Nat) (z : Int) : ∀ (l : List (Nat × Nat)) (i k : Nat), Instr.findNow (.int .i32) (.int .i32 z) (l.mapIdx fun j p => ent g (j + k) p) i = some ((l.zipIdx i).find? (fun q => decide ((q.1.1 : Int) = z)) |>.map fun q => (q.2, meth q.1.2 g))
 | [], _, _ => rfl
 | p :: r, i, k => by
  rw [List.mapIdx_cons]
  show Instr.findNow (.int .i32) (.int .i32 z) (ent g (0 + k) p :: _) i = _
  have ih := findNow_ents g z r (i + 1) (k + 1)
  unfold Instr.findNow
  rw [List.zipIdx_cons, List.find?_cons]
  by_cases h : (p.1 : Int) = z
  · have : Instr.sameNow (.int .i32) (.int .i32 z) (ent g (0 + k) p).key = some true := by simp [Instr.sameNow, ent, h]
    rw [this]
    simp [h, ent]
  · have h' : ¬ z = (p.1 : Int) := fun e => h e.symm
    have : Instr.sameNow (.int .i32) (.int .i32 z) (ent g (0 + k) p).key = some false := by simp [Instr.sameNow, ent, h']
    rw [this]
    simp only [h, decide_false]
    rw [← ih]
    congr 2
    funext j q
    rw [show j + 1 + k = j + (k + 1) by omega]
theorem find_ents (g : Nat) (z : Int) (l : List (Nat × Nat)) : Instr.findNow (.int .i32) (.int .i32 z) (ents g l).toList 0 = some ((l.zipIdx 0).find? (fun q => decide ((q.1.1 : Int) = z)) |>.map fun q => (q.2, meth q.1.2 g)) := by
 have := findNow_ents g z l 0 0
 simpa [ents] using this
theorem check_i32 (b : Bool) (z : Int) (W : World) : (Instr.checkKey b 10000 21 (.int .i32 z)).run Tryz.prog W = .ok () W := by
 unfold Instr.checkKey
 simp [run_underlying Tryz.underlying21]
theorem run_upd (W : World) {b g clk : Nat} {l : List (Nat × Nat)} (hb : W.heap[b]? = some (.map (ents g l) clk)) (hc : clk = l.length) (z f : Nat) (hf : (l.zipIdx 0).find? (fun q => decide ((q.1.1 : Int) = (z : Int))) = none) :
 (Instr.mapUpdate 213 (.map (some b)) (.int .i32 z) (meth f g)).run Tryz.prog W = .ok () (setBlock W b (.map (ents g (l ++ [(z, f)])) (l ++ [(z, f)]).length)) := by
 subst hc
 rw [ents_push]
 have h1 := find_ents g z l
 rw [hf] at h1
 simp [Instr.mapUpdate, Instr.findKey, run_underlying Tryz.underlying213, run_underlying Tryz.underlying21, MapKept.run_getObj_map hb, check_i32, h1, MapKept.run_setObj_map _ hb, Result.andThen, setBlock, ent]
structure Kb (b : Nat) (w w' : World) : Prop where
 os : w'.os = w.os
 tape : w'.tape = w.tape
 output : w'.output = w.output
 size : w'.heap.size = w.heap.size
 block : ∀ k, k ≠ b → w'.heap[k]? = w.heap[k]?
theorem Kb.below {b B : Nat} {w0 w w' : World} (h : Kb b w w') (hb : Below B w0 w) (hB : B ≤ b) : Below B w0 w' :=
 hb.trans ⟨h.os, h.tape, h.output, by rw [h.size]; exact Nat.le_refl _, fun k hk => h.block k (by omega)⟩
theorem kb_set (W : World) (b : Nat) (o : Obj) : Kb b W (setBlock W b o) :=
 ⟨rfl, rfl, rfl, by simp [setBlock], fun k hk => by simp only [setBlock]; rw [Array.getElem?_setIfInBounds, if_neg (by omega)]⟩
theorem upd_ex (W : World) {b g clk : Nat} {l l' : List (Nat × Nat)} (hb : W.heap[b]? = some (.map (ents g l) clk)) (hc : clk = l.length) (z : Int) (c f : Nat) (hz : z = (c : Int)) (hl : l' = l ++ [(c, f)]) (hf : (l.zipIdx 0).find? (fun q => decide ((q.1.1 : Int) = (c : Int))) = none) :
 ∃ W', (Instr.mapUpdate 213 (.map (some b)) (.int .i32 z) (.func (.func f) #[.pointer (some ⟨g, 0, none⟩)] #[])).run Tryz.prog W = .ok () W' ∧ W'.heap[b]? = some (.map (ents g l') l'.length) ∧ Kb b W W' := by
 subst hl hz
 refine ⟨_, run_upd W hb hc c f hf, ?_, kb_set _ _ _⟩
 have : b < W.heap.size := (Array.getElem?_eq_some_iff.1 hb).1
 simp [setBlock, this]
def sgS : ByteArray := ⟨#[123, 125, 40, 41, 58, 44, 59, 124, 38, 45, 46, 35]⟩
def blS : ByteArray := ⟨#[32, 9, 10]⟩
theorem sg_dec : ∀ k, k < 12 → Utf8.decode sgS k = (sgs.getD k 0, 1) := by decide +kernel
theorem sg_new : ∀ k, k < 12 → sgE (k + 1) = sgE k ++ [(sgs.getD k 0, 163)] ∧ (((sgE k).zipIdx 0).find? (fun q => decide ((q.1.1 : Int) = (sgs.getD k 0 : Nat)))).isNone = true := by decide +kernel
theorem bl_dec : ∀ k, k < 3 → Utf8.decode blS k = (bls.getD k 0, 1) := by decide +kernel
theorem bl_new : ∀ k, k < 3 → blE (k + 1) = blE k ++ [(bls.getD k 0, 164)] ∧ (((blE k).zipIdx 0).find? (fun q => decide ((q.1.1 : Int) = (bls.getD k 0 : Nat)))).isNone = true := by decide +kernel
theorem acts_any (w : World) (g : Nat) :
 Calls Tryz.prog 120 #[.pointer (some ⟨g, 0, none⟩)] w fun e w' => e = .returned (.map (some w.heap.size)) ∧ w'.heap[w.heap.size]? = some (.map (ents g (blE 3)) (blE 3).length) ∧ Below w.heap.size w w' := by
 have hmm := @run_makeMap Tryz.prog
 have h0 : (w.alloc (.map #[] 0)).heap[w.heap.size]? = some (.map (ents g []) 0) := heap_alloc_new w _
 obtain ⟨W1, hu, hW1, hk1⟩ := upd_ex (w.alloc (.map #[] 0)) h0 rfl 47 47 162 rfl (l' := sgE 0) rfl rfl
 have hs1 : W1.heap.size = w.heap.size + 1 := by rw [hk1.size]; simp
 have Hb1 : Hid (Below w.heap.size w W1) := Lib.hid (hk1.below ((Below.refl _ w).alloc (Nat.le_refl _) _) (Nat.le_refl _))
 have HW1 := Lib.hid hW1
 clear hW1 hk1 h0
 go_enter Tryz.func120, Tryz.ntmps120
 go_wp2
 have hs2 : (W1.iter sgS 0).heap.size = w.heap.size + 2 := by simp [World.iter]; omega
 go_loopw [] (fun wr => ∃ k : Nat, k ≤ 12 ∧ wr.heap[w.heap.size + 1]? = some (.stringIter sgS k) ∧ wr.heap[w.heap.size]? = some (.map (ents g (sgE k)) (sgE k).length) ∧ Below w.heap.size w wr ∧ wr.heap.size = w.heap.size + 2) (fun wr => 12 - wr.iterPos (w.heap.size + 1))
 case atStart =>
  refine ⟨0, by omega, ?_, ?_, Hb1.out.trans ((it_below W1 sgS).mono (by omega)), hs2⟩
  · rw [← hs1]; exact it_start W1 sgS
  · exact ((it_below W1 sgS).block w.heap.size (by omega)).trans HW1.out
 case round =>
  obtain ⟨k, hk, hit, hmp, hbw, hsz⟩ := hrel
  have Hit := Lib.hid hit
  have Hmp := Lib.hid hmp
  have Hbw := Lib.hid hbw
  have Hsz := Lib.hid hsz
  by_cases h : k < 12
  · have hnx := fun ty => Lib.run_next_any_at (P := Tryz.prog) wr (w.heap.size + 1) sgS k ty hit h
    have hi2 := Lib.iterAt_heap wr (w.heap.size + 1) sgS k (k + 1) hit
    have hb2 : Below (w.heap.size + 1) wr (wr.iterAt (w.heap.size + 1) sgS (k + 1)) := Lib.below_iterAt (Below.refl _ _) (Nat.le_refl _) sgS (k + 1)
    rw [sg_dec k h] at hnx
    dsimp only at hnx
    have hmp2 : (wr.iterAt (w.heap.size + 1) sgS (k + 1)).heap[w.heap.size]? = some (.map (ents g (sgE k)) (sgE k).length) := by rw [hb2.block _ (by omega)]; exact hmp
    obtain ⟨W2, hu2, hW2, hk2⟩ := upd_ex _ hmp2 rfl ((sgs.getD k 0 : Nat) : Int) (sgs.getD k 0) 163 rfl (sg_new k h).1 (by simpa using (sg_new k h).2)
    have HS : Hid (W2.heap.size = w.heap.size + 2) := Lib.hid (by rw [hk2.size]; have := hb2.size; simp [World.iterAt]; omega)
    have HI : Hid (W2.heap[w.heap.size + 1]? = some (.stringIter sgS (k + 1))) := Lib.hid (by rw [hk2.block _ (by omega)]; exact hi2)
    have HM := Lib.hid hW2
    have HB : Hid (Below w.heap.size w W2) := Lib.hid (hk2.below (hbw.trans (hb2.mono (by omega))) (Nat.le_refl _))
    clear hit hmp hbw hsz hi2 hb2 hmp2 hW2 hk2
    generalize sgs.getD k 0 = c at *
    go_wp2
    go_roundw
    case rel => exact ⟨k + 1, by omega, HI.out, HM.out, HB.out, HS.out⟩
    case measure =>
     have e1 : wr.iterPos (w.heap.size + 1) = k := by simp only [World.iterPos, Hit.out]
     have e2 : W2.iterPos (w.heap.size + 1) = k + 1 := by simp only [World.iterPos, HI.out]
     rw [e1, e2]; omega
  · obtain rfl : k = 12 := by omega
    have hnx := fun ty => Lib.run_next_end_at (P := Tryz.prog) wr (w.heap.size + 1) sgS 12 ty hit h
    clear hit hmp hbw
    go_wp2
    have hs3 : (wr.iter blS 0).heap.size = w.heap.size + 3 := by simp [World.iter]; omega
    go_loopw [] (fun wr => ∃ k : Nat, k ≤ 3 ∧ wr.heap[w.heap.size + 2]? = some (.stringIter blS k) ∧ wr.heap[w.heap.size]? = some (.map (ents g (blE k)) (blE k).length) ∧ Below w.heap.size w wr ∧ wr.heap.size = w.heap.size + 3) (fun wr => 3 - wr.iterPos (w.heap.size + 2))
    case atStart =>
     refine ⟨0, by omega, ?_, ?_, Hbw.out.trans ((it_below wr blS).mono (by omega)), hs3⟩
     · rw [← hsz]; exact it_start wr blS
     · exact ((it_below wr blS).block w.heap.size (by omega)).trans Hmp.out
    case round =>
     clear hs3 hnx hsz Hit Hmp Hbw Hsz
     obtain ⟨k, hk, hit, hmp, hbw, hsz⟩ := hrel
     have Hit := Lib.hid hit
     have Hmp := Lib.hid hmp
     have Hbw := Lib.hid hbw
     by_cases h : k < 3
     · have hnx := fun ty => Lib.run_next_any_at (P := Tryz.prog) wr (w.heap.size + 2) blS k ty hit h
       have hi2 := Lib.iterAt_heap wr (w.heap.size + 2) blS k (k + 1) hit
       have hb2 : Below (w.heap.size + 2) wr (wr.iterAt (w.heap.size + 2) blS (k + 1)) := Lib.below_iterAt (Below.refl _ _) (Nat.le_refl _) blS (k + 1)
       rw [bl_dec k h] at hnx
       dsimp only at hnx
       have hmp2 : (wr.iterAt (w.heap.size + 2) blS (k + 1)).heap[w.heap.size]? = some (.map (ents g (blE k)) (blE k).length) := by rw [hb2.block _ (by omega)]; exact hmp
       obtain ⟨W2, hu2, hW2, hk2⟩ := upd_ex _ hmp2 rfl ((bls.getD k 0 : Nat) : Int) (bls.getD k 0) 164 rfl (bl_new k h).1 (by simpa using (bl_new k h).2)
       have HS : Hid (W2.heap.size = w.heap.size + 3) := Lib.hid (by rw [hk2.size]; simp [World.iterAt]; omega)
       have HI : Hid (W2.heap[w.heap.size + 2]? = some (.stringIter blS (k + 1))) := Lib.hid (by rw [hk2.block _ (by omega)]; exact hi2)
       have HM := Lib.hid hW2
       have HB : Hid (Below w.heap.size w W2) := Lib.hid (hk2.below (hbw.trans (hb2.mono (by omega))) (Nat.le_refl _))
       clear hit hmp hbw hsz hi2 hb2 hmp2 hW2 hk2
       generalize bls.getD k 0 = c at *
       go_wp2
       go_roundw
       case rel => exact ⟨k + 1, by omega, HI.out, HM.out, HB.out, HS.out⟩
       case measure =>
        have e1 : wr.iterPos (w.heap.size + 2) = k := by simp only [World.iterPos, Hit.out]
        have e2 : W2.iterPos (w.heap.size + 2) = k + 1 := by simp only [World.iterPos, HI.out]
        rw [e1, e2]; omega
     · obtain rfl : k = 3 := by omega
       have hnx := fun ty => Lib.run_next_end_at (P := Tryz.prog) wr (w.heap.size + 2) blS 3 ty hit h
       clear hit hmp hbw hsz
       go_wp2
       go_ret
       exact ⟨rfl, Hmp.out, Hbw.out⟩
theorem act_sign : ∀ c ∈ sgs, ((blE 3).zipIdx 0).find? (fun q => decide ((q.1.1 : Int) = (c : Nat))) |>.map (fun q => q.1.2) |>.any (· == 163) := by decide +kernel
theorem act_blank : ∀ c ∈ bls, ((blE 3).zipIdx 0).find? (fun q => decide ((q.1.1 : Int) = (c : Nat))) |>.map (fun q => q.1.2) |>.any (· == 164) := by decide +kernel
theorem act_all : ∀ q ∈ (blE 3).zipIdx 0, q.1.1 = 47 ∨ signB q.1.1 = true ∨ blankB q.1.1 = true := by decide +kernel
theorem sgs_mem {c : Nat} (h : signB c = true) : c ∈ sgs := by
 have := signB_iff.1 h
 simp only [sgs, List.mem_cons, List.not_mem_nil, or_false]; omega
theorem bls_mem {c : Nat} (h : blankB c = true) : c ∈ bls := by
 have := blankB_iff.1 h
 simp only [bls, List.mem_cons, List.not_mem_nil, or_false]; omega
section
variable (W : World) {m g clk : Nat} (hb : W.heap[m]? = some (.map (ents g (blE 3)) clk))
include hb
theorem look_hit (r f : Nat) (i : Nat) (hf : Instr.findNow (.int .i32) (.int .i32 (r : Int)) (ents g (blE 3)).toList 0 = some (some (i, meth f g))) :
 (Instr.lookup 213 (.map (some m)) (.int .i32 (r : Int)) true).run Tryz.prog W = .ok (.tuple #[.func (.func f) #[.pointer (some ⟨g, 0, none⟩)] #[], .bool true]) W := by
 simp [Instr.lookup, Instr.findKey, run_underlying Tryz.underlying213, run_underlying Tryz.underlying21, MapKept.run_getObj_map hb, check_i32, hf, Result.andThen, meth]
theorem look_f (r f : Nat) (h : (((blE 3).zipIdx 0).find? (fun q => decide ((q.1.1 : Int) = (r : Nat))) |>.map (fun q => q.1.2) |>.any (· == f)) = true) :
 (Instr.lookup 213 (.map (some m)) (.int .i32 (r : Int)) true).run Tryz.prog W = .ok (.tuple #[.func (.func f) #[.pointer (some ⟨g, 0, none⟩)] #[], .bool true]) W := by
 have h1 := find_ents g (r : Int) (blE 3)
 cases hq : ((blE 3).zipIdx 0).find? (fun q => decide ((q.1.1 : Int) = (r : Int))) with
 | none => rw [hq] at h; simp at h
 | some q =>
  rw [hq] at h h1
  simp only [Option.map_some, Option.any_some, beq_iff_eq] at h h1
  rw [h] at h1
  exact look_hit W hb r f q.2 h1
theorem look_sign {r : Nat} (h : signB r = true) : (Instr.lookup 213 (.map (some m)) (.int .i32 (r : Int)) true).run Tryz.prog W = .ok (.tuple #[.func (.func 163) #[.pointer (some ⟨g, 0, none⟩)] #[], .bool true]) W :=
 look_f W hb r _ (act_sign r (sgs_mem h))
theorem look_blank {r : Nat} (h : blankB r = true) : (Instr.lookup 213 (.map (some m)) (.int .i32 (r : Int)) true).run Tryz.prog W = .ok (.tuple #[.func (.func 164) #[.pointer (some ⟨g, 0, none⟩)] #[], .bool true]) W :=
 look_f W hb r _ (act_blank r (bls_mem h))
theorem look_none {r : Nat} (h1 : r ≠ 47) (h2 : signB r = false) (h3 : blankB r = false) : (Instr.lookup 213 (.map (some m)) (.int .i32 (r : Int)) true).run Tryz.prog W = .ok (.tuple #[.nilFunc, .bool false]) W := by
 have hz : ∀ W, (zeroValue 57).run Tryz.prog W = .ok .nilFunc W := (zero_of_info (P := Tryz.prog) (t := 57) (v := .nilFunc) (n := 1) (by kernel_rfl)).1
 have hn : ((blE 3).zipIdx 0).find? (fun q => decide ((q.1.1 : Int) = (r : Int))) = none := by
  rw [List.find?_eq_none]
  intro q hq
  have := act_all q hq
  simp only [decide_eq_true_eq]
  intro e
  have e' : q.1.1 = r := by omega
  rw [e', h2, h3] at this
  simp at this
  exact h1 this
 have h4 := find_ents g (r : Int) (blE 3)
 rw [hn] at h4
 simp [Instr.lookup, Instr.findKey, run_underlying Tryz.underlying213, run_underlying Tryz.underlying21, MapKept.run_getObj_map hb, check_i32, h4, hz, Result.andThen]
end
end Go.Proofs.YtahegpfdbgbioaaGreat
namespace Go.Proofs.YtahegpfdbgbioaaGreat
open Go.RowKit Go.ChangeMaps
structure Al (w0 : World) (g m i B : Nat) (s : ByteArray) (wr : World) (k j : Nat) (l : List Tk) : Prop where
 kj : k ≤ j
 jc : j ≤ cnt s
 it : wr.heap[i]? = some (.stringIter s (plc s k))
 mp : wr.heap[m]? = some (.map (ents g (blE 3)) (blE 3).length)
 sc : Sc B wr g s l 0
 bel : Below w0.heap.size w0 wr
 big : B ≤ wr.heap.size
 toks : l ++ (scan (cutB s j) (plc s j)).1 = (scan s 0).1
 code : (scan (cutB s j) (plc s j)).2 = (scan s 0).2
 few : l.length ≤ j
 lo : w0.heap.size ≤ g
 li : w0.heap.size ≤ i
 gi : g ≠ i
 gm : g ≠ m
 mi : m ≠ i
 iB : i < B
 mB : m < B
section
variable {w0 wr w3 : World} {g m i B : Nat} {s : ByteArray} {k j : Nat} {l : List Tk}
theorem Al.next (h : Al w0 g m i B s wr k j l) (hk : plc s k < s.size) : (wr.iterAt i s (plc s k + (Utf8.decode s (plc s k)).2)).heap[i]? = some (.stringIter s (plc s (k + 1))) := by
 rw [plc_succ hk]; exact Lib.iterAt_heap wr i s _ _ h.it
theorem iterAt_block (w : World) (i : Nat) (s : ByteArray) (p : Nat) {q : Nat} (h : q ≠ i) : (w.iterAt i s p).heap[q]? = w.heap[q]? := Lib.iterAt_other w i q s p h
theorem Sc.at_iter (h : Sc B wr g s l 0) {t : ByteArray} {p q : Nat} (hi : wr.heap[i]? = some (.stringIter t p)) (hg : g ≠ i) : Sc B (wr.iterAt i t q) g s l 0 := by
 obtain ⟨v, h⟩ := h
 refine ⟨v, (iterAt_block _ _ _ _ hg).trans h.cells, own_same h.row fun y hy => iterAt_block _ _ _ _ ?_, h.lt⟩
 rintro rfl
 rcases h.row.2 with ⟨e, _⟩ | ⟨b, cap, cur, e, _, hh, _⟩
 · rw [e] at hy; simp [Value.ownBlock] at hy
 · rw [e] at hy
   simp only [Value.ownBlock, Option.some.injEq] at hy
   rw [hy, hi] at hh; cases hh
theorem Al.sc2 (h : Al w0 g m i B s wr k j l) (q : Nat) : Sc B (wr.iterAt i s q) g s l 0 := h.sc.at_iter h.it h.gi
theorem Al.bel2 (h : Al w0 g m i B s wr k j l) (q : Nat) : Below w0.heap.size w0 (wr.iterAt i s q) := Lib.below_iterAt h.bel h.li s q
theorem Al.mp2 (h : Al w0 g m i B s wr k j l) (q : Nat) : (wr.iterAt i s q).heap[m]? = some (.map (ents g (blE 3)) (blE 3).length) := (iterAt_block _ _ _ _ h.mi).trans h.mp
theorem Al.big2 (h : Al w0 g m i B s wr k j l) (q : Nat) : B ≤ (wr.iterAt i s q).heap.size := by rw [Lib.iterAt_size]; exact h.big
theorem Al.skip (h : Al w0 g m i B s wr k j l) (hk : plc s k < s.size) (hj : k < j) : Al w0 g m i B s (wr.iterAt i s (plc s k + (Utf8.decode s (plc s k)).2)) (k + 1) j l :=
 ⟨hj, h.jc, h.next hk, h.mp2 _, h.sc2 _, h.bel2 _, h.big2 _, h.toks, h.code, h.few, h.lo, h.li, h.gi, h.gm, h.mi, h.iB, h.mB⟩
theorem cutB_pos {s : ByteArray} {k : Nat} (hk : plc s k < s.size) : 0 < (cutB s k).size := by have := cutB_size s k; omega
theorem Al.scan_err (h : Al w0 g m i B s wr k k l) (hk : plc s k < s.size) (h3 : 3 ≤ kd (cutB s k)) : (scan s 0).2 = (kd (cutB s k), plc s k) := by
 have e := Go.Proofs.YtahegpfdbgbioaaGreat.scan_err (off := plc s k) (cutB_pos hk) h3
 have hc := h.code
 rw [e] at hc
 exact hc.symm
theorem Al.step (h : Al w0 g m i B s wr k k l) (hk : plc s k < s.size) (h3 : kd (cutB s k) < 3) (hp : Kp g B (wr.iterAt i s (plc s k + (Utf8.decode s (plc s k)).2)) w3) (hs : Sc B w3 g s (l ++ stepT (cutB s k) (plc s k)) 0) :
 Al w0 g m i B s w3 (k + 1) (k + ln (cutB s k)) (l ++ stepT (cutB s k) (plc s k)) := by
 have hz := cutB_pos hk
 have h1 := ln_pos hz h3
 have h2 := ln_le hz
 rw [cnt_cutB] at h2
 have hE := scan_go (off := plc s k) hz h3
 have h4 := plc_cutB s k (ln (cutB s k))
 rw [cutB_cutB, h4] at hE
 have ht := h.toks
 have hc := h.code
 obtain ⟨r, hr⟩ : ∃ r, scan (cutB s (k + ln (cutB s k))) (plc s (k + ln (cutB s k))) = r := ⟨_, rfl⟩
 rw [hr] at hE
 generalize scan (cutB s k) (plc s k) = r0 at *
 subst hE
 dsimp only at ht hc
 refine ⟨by omega, by have := h.jc; omega, (hp.block i h.iB (Ne.symm h.gi)).trans (h.next hk), (hp.block m h.mB (Ne.symm h.gm)).trans (h.mp2 _), hs, (h.bel2 (plc s k + (Utf8.decode s (plc s k)).2)).trans (hp.below (by have := h.iB; have := h.li; omega) h.lo), Nat.le_trans (h.big2 _) hp.size, ?_, by rw [hr]; exact hc, ?_, h.lo, h.li, h.gi, h.gm, h.mi, h.iB, h.mB⟩
 · rw [hr, List.append_assoc]
   exact ht
 · rw [List.length_append]
   have := h.few
   have : (stepT (cutB s k) (plc s k)).length ≤ 1 := by unfold stepT; split <;> simp
   omega
theorem Al.fin (h : Al w0 g m i B s wr k j l) (hk : ¬ plc s k < s.size) : plc s j = s.size ∧ (scan s 0).2 = (0, 0) ∧ (scan s 0).1 = l ++ [(3, ⟨#[]⟩, s.size)] := by
 have h1 := plc_le s j
 have h2 := plc_mono s h.kj
 have hj : plc s j = s.size := by omega
 have hz := cutB_size s j
 have e := scan_nil (u := cutB s j) (off := plc s j) (by omega)
 have ht := h.toks
 have hc := h.code
 rw [e, hj] at ht
 rw [e] at hc
 exact ⟨hj, hc.symm, ht.symm⟩
end
def Toks (w : World) (A : Option Addr) (c : Nat) (l : List Tk) : Prop := Rd w w.heap.size 3 A l.length c (tcells l)
theorem Toks.below {w w' : World} {A : Option Addr} {c : Nat} {l : List Tk} (h : Toks w A c l) (hb : Below w.heap.size w w') : Toks w' A c l := (Rd.below h hb).more hb.size
def AllPost (s : ByteArray) (w : World) (e : Ending) (w' : World) : Prop :=
 (∃ A c, e = .returned (.tuple #[.slice A (allS s).1.length c, .int .i64 (allS s).2.1, .int .i64 (allS s).2.2]) ∧ Toks w' A c (allS s).1) ∧ Below w.heap.size w w'
theorem AllPost.empty {s : ByteArray} {w w' : World} {e p : Nat} (h : allS s = ([], e, p)) (hb : Below w.heap.size w w') : AllPost s w (.returned (.tuple #[.slice none 0 0, .int .i64 e, .int .i64 p])) w' := by
 refine ⟨⟨none, 0, by rw [h]; rfl, ?_⟩, hb⟩
 rw [h]; exact Rd.none_ _ _ _
end Go.Proofs.YtahegpfdbgbioaaGreat
namespace Go.Proofs.YtahegpfdbgbioaaGreat
open Go.RowKit Go.ChangeMaps
theorem Stepped.ok {B g : Nat} {s : ByteArray} {k : Nat} {l : List Tk} {w : World} {e : Ending} {w' : World} (h : Stepped B g s k l w e w') (h3 : kd (cutB s k) < 3) :
 e = .returned (.int .i64 (plc s (k + ln (cutB s k)) : Nat)) ∧ Kp g B w w' ∧ Sc B w' g s (l ++ stepT (cutB s k) (plc s k)) 0 := by
 rcases h with ⟨a, ⟨_, b, c⟩ | ⟨b, _⟩⟩
 · exact ⟨b, a, c⟩
 · omega
theorem Stepped.bad {B g : Nat} {s : ByteArray} {k : Nat} {l : List Tk} {w : World} {e : Ending} {w' : World} (h : Stepped B g s k l w e w') (h3 : 3 ≤ kd (cutB s k)) :
 e = .returned (.int .i64 (plc s k : Nat)) ∧ Kp g B w w' ∧ Sc B w' g s l (kd (cutB s k)) := by
 rcases h with ⟨a, ⟨b, _⟩ | ⟨_, b, c⟩⟩
 · omega
 · exact ⟨b, a, c⟩
theorem Sc.c2 {B g : Nat} {s : ByteArray} {l : List Tk} {e : Nat} {w : World} (h : Sc B w g s l e) : w.cell? ⟨g, 2, none⟩ = some (.int .i64 e) := by obtain ⟨v, h⟩ := h; exact h.c2
theorem all_any (s : ByteArray) (w : World) (f0 : s.size ≤ maxLen) :
 Calls Tryz.prog 78 #[.string s] w (AllPost s w) := by
 unfold maxLen at f0
 by_cases hlong : 2048 < s.size
 · have hA : allS s = ([], 13, 0) := by unfold allS; rw [if_pos hlong]
   have HX : Hid (AllPost s w (.returned (.tuple #[.slice none 0 0, .int .i64 13, .int .i64 0])) w) := Lib.hid (AllPost.empty hA (Below.refl _ _))
   clear hA
   go_enter Tryz.func78, Tryz.ntmps78
   go_wp2
   go_ret3
   exact HX.out
 have kb : ∀ W, _ := fun W => broken_at s W (by omega)
 have hs : s.size ≤ 2048 := by omega
 clear f0
 by_cases hbad : plc s (badN s) < s.size
 · have hA : allS s = ([], 11, plc s (badN s)) := by unfold allS; rw [if_neg hlong, if_pos hbad]
   have hz : badZ s = (plc s (badN s) : Int) := if_pos hbad
   rw [hz] at kb
   have HX : ∀ W, Below w.heap.size w W → Hid (AllPost s w (.returned (.tuple #[.slice none 0 0, .int .i64 11, .int .i64 (plc s (badN s) : Nat)])) W) := fun W hb => Lib.hid (AllPost.empty hA hb)
   clear hA hz hbad
   generalize plc s (badN s) = p at *
   go_enter Tryz.func78, Tryz.ntmps78
   go_wp2_with ((with_reducible refine (kb _).mono ?_); rintro e w1 ⟨rfl, hb1⟩)
   go_ret3
   exact (HX _ hb1).out
 have hv := badN_valid.2 hbad
 have hz : badZ s = -1 := if_neg hbad
 rw [hz] at kb
 have HA : Hid (allS s = if (scan s 0).2.1 = 0 then scan s 0 else ([], (scan s 0).2)) := Lib.hid (by unfold allS; rw [if_neg hlong, if_neg hbad])
 clear hz hbad hlong
 go_enter Tryz.func78, Tryz.ntmps78
 go_wp2_with (first
  | ((with_reducible refine (kb _).mono ?_); rintro e w1 ⟨rfl, hb1⟩)
  | ((refine (acts_any _ w1.heap.size).mono ?_); rintro e w2 ⟨rfl, hm2, hb2⟩))
 have hg1 : (w1.alloc (.cells #[.string s, .slice none 0 0, .int .i64 0] 212)).heap.size = w1.heap.size + 1 := by simp
 have hgc : w2.heap[w1.heap.size]? = some (.cells #[.string s, .slice none 0 0, .int .i64 0] 212 (0, 0)) := by
  rw [hb2.block _ (by omega)]; exact heap_alloc_new w1 _
 have hws : w1.heap.size + 1 < w2.heap.size := by rw [← hg1]; exact (Array.getElem?_eq_some_iff.1 hm2).1
 rw [hg1] at hm2
 have hbw : Below w.heap.size w w2 := hb1.trans (((Below.refl _ w1).alloc hb1.size _).trans (hb2.mono (by have := hb1.size; omega)))
 have hw1 := hb1.size
 have hit := it_start w2 s
 have hbi := it_below w2 s
 have hsi : (w2.iter s 0).heap.size = w2.heap.size + 1 := by simp [World.iter]
 have HS : Hid (Al w w1.heap.size (w1.heap.size + 1) w2.heap.size (w2.heap.size + 1) s (w2.iter s 0) 0 0 []) := Lib.hid
  ⟨Nat.le_refl _, Nat.zero_le _, hit, (hbi.block _ hws).trans hm2,
   ⟨.slice none 0 0, (hbi.block _ (by omega)).trans hgc, World.ownsRow_nil _ _ _ _, by omega⟩,
   hbw.trans (hbi.mono (by omega)), by omega, by rw [cutB_zero]; rfl, by rw [cutB_zero]; rfl, Nat.le_refl _, hw1, by omega, by omega, by omega, by omega, by omega, by omega⟩
 clear hgc hws hm2 hbw hw1 hit hbi hsi hb1 hb2 hg1
 generalize w1.heap.size = g at *
 go_loopw [8] (fun nx wr => ∃ k j l, nx = .int .i64 (plc s j : Nat) ∧ Al w g (g + 1) w2.heap.size (w2.heap.size + 1) s wr k j l) (fun _ wr => s.size - wr.iterPos w2.heap.size)
 case atStart => exact ⟨0, 0, [], rfl, HS.out⟩
 case round =>
  clear HS
  obtain ⟨k, j, l, rfl, hal⟩ := hrel
  have HAl := Lib.hid hal
  have hit := hal.it
  have hlk := plc_le s k
  have hlj := plc_le s j
  have hip : wr.iterPos w2.heap.size = plc s k := by simp only [World.iterPos, hit]
  by_cases h : plc s k < s.size
  · have hk2 := lt_cnt.2 h
    have hw := wd_pos h
    have hps := plc_succ h
    have hnx : ∀ ty, _ := fun ty => Lib.run_next_any_at (P := Tryz.prog) wr w2.heap.size s (plc s k) ty hit h
    by_cases hkj : k < j
    · have hpj : plc s k < plc s j := Nat.lt_of_lt_of_le (plc_lt_succ h) (plc_mono s hkj)
      have HN := Lib.hid (hal.skip h hkj)
      have hdj : (plc s k : Int) < (plc s j : Nat) := by omega
      clear hal hit hkj hip
      go_wp2
      go_roundw
      case rel => exact ⟨k + 1, j, l, rfl, HN.out⟩
      case measure =>
       have e1 : wr.iterPos w2.heap.size = plc s k := by simp only [World.iterPos, HAl.out.it]
       have e2 : (wr.iterAt w2.heap.size s (plc s k + (Utf8.decode s (plc s k)).2)).iterPos w2.heap.size = plc s (k + 1) := by simp only [World.iterPos, HN.out.it]
       rw [e1, e2, hps]; omega
    · obtain rfl : j = k := by have := hal.kj; omega
      have hdj : ¬ ((plc s j : Int) < (plc s j : Nat)) := by omega
      have hmp := hal.mp2 (plc s j + (Utf8.decode s (plc s j)).2)
      have hsc := hal.sc2 (plc s j + (Utf8.decode s (plc s j)).2)
      have hbig := hal.big2 (plc s j + (Utf8.decode s (plc s j)).2)
      have HST := fun w3 => Lib.hid (hal.step (w3 := w3) h)
      have HER := Lib.hid (hal.scan_err h)
      have HB2 := Lib.hid (hal.bel2 (plc s j + (Utf8.decode s (plc s j)).2))
      have hll : l.length < 1000000 := by have := hal.few; have := hal.jc; have := cnt_le s; omega
      have hrn : ((Utf8.decode s (plc s j)).1 : Int) = (rn s (plc s j) : Nat) := rfl
      have hr128 : bt s (plc s j) < 128 → rn s (plc s j) = bt s (plc s j) := fun hh => (dec_low h hh).1
      have hr128' : 128 ≤ bt s (plc s j) → 128 ≤ rn s (plc s j) := rn_high h
      have HLO : Hid (w.heap.size ≤ g ∧ w.heap.size ≤ w2.heap.size) := Lib.hid ⟨hal.lo, hal.li⟩
      obtain ⟨W2, hW2⟩ : ∃ W2, W2 = wr.iterAt w2.heap.size s (plc s j + (Utf8.decode s (plc s j)).2) := ⟨_, rfl⟩
      rw [← hW2] at hnx hmp hsc hbig HB2
      simp only [← hW2] at HST
      rw [hrn] at hnx
      have HIP := Lib.hid hip
      clear hal hit hkj hip hW2 hrn HAl
      have ksB : ∀ hcl : blankB (bt s (plc s j)) = true, _ := fun hcl => blank_any hsc hs h hcl (some ⟨g, 0, none⟩)
      have ksS : ∀ hcl : signB (bt s (plc s j)) = true, _ := fun hcl => sign_any hsc hbig hs hll h hcl
      have ksN : ∀ hcl : bt s (plc s j) = 47, _ := fun hcl => note_any hsc hbig hs h hcl
      have ksW : ∀ (h1 : blankB (bt s (plc s j)) = false) (h2 : signB (bt s (plc s j)) = false) (h3 : bt s (plc s j) ≠ 47), _ := fun h1 h2 h3 => word_any hsc hbig hs hv hll h h1 h2 h3
      by_cases cB : blankB (bt s (plc s j)) = true
      · have hrb : rn s (plc s j) = bt s (plc s j) := hr128 (by have := blankB_iff.1 cB; omega)
        have hlook := look_blank W2 hmp (r := rn s (plc s j)) (by rw [hrb]; exact cB)
        have ks := ksB cB
        clear ksB ksS ksN ksW hmp hr128 hr128' hrb
        generalize rn s (plc s j) = z at *
        by_cases hkd : kd (cutB s j) < 3
        · have hz3 : (((0 : Nat) : Int) == 0) = true := rfl
          go_wp2_with ((with_reducible refine ks.mono ?_); intro e w3 hst; obtain ⟨rfl, hkp, hsc3⟩ := hst.ok hkd; have c23 := hsc3.c2)
          go_roundw
          case rel => exact ⟨j + 1, j + ln (cutB s j), l ++ stepT (cutB s j) (plc s j), rfl, (HST w3).out hkd hkp hsc3⟩
          case measure =>
           have e2 : w3.iterPos w2.heap.size = plc s (j + 1) := by simp only [World.iterPos, ((HST w3).out hkd hkp hsc3).it]
           rw [HIP.out, e2, hps]; omega
        · replace hkd : 3 ≤ kd (cutB s j) := by omega
          have hz3 : (((kd (cutB s j) : Nat) : Int) == 0) = false := by simp; omega
          go_wp2_with ((with_reducible refine ks.mono ?_); intro e w3 hst; obtain ⟨rfl, hkp, hsc3⟩ := hst.bad hkd; have c23 := hsc3.c2)
          go_quiet (fail)
          go_wp2
          go_ret3
          have hE := HER.out hkd
          have hA := HA.out
          rw [if_neg (by rw [hE]; dsimp only; omega), hE] at hA
          refine AllPost.empty hA (HB2.out.trans ?_)
          exact Below.trans (hkp.below (Nat.le_succ_of_le HLO.out.2) HLO.out.1) ⟨rfl, rfl, rfl, Nat.le_refl _, fun _ _ => rfl⟩
      by_cases cS : signB (bt s (plc s j)) = true
      · have hrb : rn s (plc s j) = bt s (plc s j) := hr128 (by have := signB_iff.1 cS; omega)
        have hlook := look_sign W2 hmp (r := rn s (plc s j)) (by rw [hrb]; exact cS)
        have ks := ksS cS
        clear ksB ksS ksN ksW hmp hr128 hr128' hrb
        generalize rn s (plc s j) = z at *
        by_cases hkd : kd (cutB s j) < 3
        · have hz3 : (((0 : Nat) : Int) == 0) = true := rfl
          go_wp2_with ((with_reducible refine ks.mono ?_); intro e w3 hst; obtain ⟨rfl, hkp, hsc3⟩ := hst.ok hkd; have c23 := hsc3.c2)
          go_roundw
          case rel => exact ⟨j + 1, j + ln (cutB s j), l ++ stepT (cutB s j) (plc s j), rfl, (HST w3).out hkd hkp hsc3⟩
          case measure =>
           have e2 : w3.iterPos w2.heap.size = plc s (j + 1) := by simp only [World.iterPos, ((HST w3).out hkd hkp hsc3).it]
           rw [HIP.out, e2, hps]; omega
        · replace hkd : 3 ≤ kd (cutB s j) := by omega
          have hz3 : (((kd (cutB s j) : Nat) : Int) == 0) = false := by simp; omega
          go_wp2_with ((with_reducible refine ks.mono ?_); intro e w3 hst; obtain ⟨rfl, hkp, hsc3⟩ := hst.bad hkd; have c23 := hsc3.c2)
          go_quiet (fail)
          go_wp2
          go_ret3
          have hE := HER.out hkd
          have hA := HA.out
          rw [if_neg (by rw [hE]; dsimp only; omega), hE] at hA
          refine AllPost.empty hA (HB2.out.trans ?_)
          exact Below.trans (hkp.below (Nat.le_succ_of_le HLO.out.2) HLO.out.1) ⟨rfl, rfl, rfl, Nat.le_refl _, fun _ _ => rfl⟩
      by_cases cN : bt s (plc s j) = 47
      · have hrb : rn s (plc s j) = 47 := (hr128 (by omega)).trans cN
        have hlook := look_f W2 hmp (rn s (plc s j)) 162 (by rw [hrb]; decide +kernel)
        have ks := ksN cN
        clear ksB ksS ksN ksW hmp hr128 hr128' hrb
        generalize rn s (plc s j) = z at *
        by_cases hkd : kd (cutB s j) < 3
        · have hz3 : (((0 : Nat) : Int) == 0) = true := rfl
          go_wp2_with ((with_reducible refine ks.mono ?_); intro e w3 hst; obtain ⟨rfl, hkp, hsc3⟩ := hst.ok hkd; have c23 := hsc3.c2)
          go_roundw
          case rel => exact ⟨j + 1, j + ln (cutB s j), l ++ stepT (cutB s j) (plc s j), rfl, (HST w3).out hkd hkp hsc3⟩
          case measure =>
           have e2 : w3.iterPos w2.heap.size = plc s (j + 1) := by simp only [World.iterPos, ((HST w3).out hkd hkp hsc3).it]
           rw [HIP.out, e2, hps]; omega
        · replace hkd : 3 ≤ kd (cutB s j) := by omega
          have hz3 : (((kd (cutB s j) : Nat) : Int) == 0) = false := by simp; omega
          go_wp2_with ((with_reducible refine ks.mono ?_); intro e w3 hst; obtain ⟨rfl, hkp, hsc3⟩ := hst.bad hkd; have c23 := hsc3.c2)
          go_quiet (fail)
          go_wp2
          go_ret3
          have hE := HER.out hkd
          have hA := HA.out
          rw [if_neg (by rw [hE]; dsimp only; omega), hE] at hA
          refine AllPost.empty hA (HB2.out.trans ?_)
          exact Below.trans (hkp.below (Nat.le_succ_of_le HLO.out.2) HLO.out.1) ⟨rfl, rfl, rfl, Nat.le_refl _, fun _ _ => rfl⟩
      rw [Bool.not_eq_true] at cB cS
      · have hro : rn s (plc s j) ≠ 47 ∧ signB (rn s (plc s j)) = false ∧ blankB (rn s (plc s j)) = false := by
         by_cases hlo : bt s (plc s j) < 128
         · rw [hr128 hlo]; exact ⟨cN, cS, cB⟩
         · have := hr128' (by omega)
           refine ⟨by omega, ?_, ?_⟩
           · rw [Bool.eq_false_iff]; intro e; have := signB_iff.1 e; omega
           · rw [Bool.eq_false_iff]; intro e; have := blankB_iff.1 e; omega
        have hlook := look_none W2 hmp hro.1 hro.2.1 hro.2.2
        have ks := ksW cB cS cN
        clear ksB ksS ksN ksW hmp hr128 hr128' hro
        generalize rn s (plc s j) = z at *
        by_cases hkd : kd (cutB s j) < 3
        · have hz3 : (((0 : Nat) : Int) == 0) = true := rfl
          go_wp2_with ((with_reducible refine ks.mono ?_); intro e w3 hst; obtain ⟨rfl, hkp, hsc3⟩ := hst.ok hkd; have c23 := hsc3.c2)
          go_roundw
          case rel => exact ⟨j + 1, j + ln (cutB s j), l ++ stepT (cutB s j) (plc s j), rfl, (HST w3).out hkd hkp hsc3⟩
          case measure =>
           have e2 : w3.iterPos w2.heap.size = plc s (j + 1) := by simp only [World.iterPos, ((HST w3).out hkd hkp hsc3).it]
           rw [HIP.out, e2, hps]; omega
        · replace hkd : 3 ≤ kd (cutB s j) := by omega
          have hz3 : (((kd (cutB s j) : Nat) : Int) == 0) = false := by simp; omega
          go_wp2_with ((with_reducible refine ks.mono ?_); intro e w3 hst; obtain ⟨rfl, hkp, hsc3⟩ := hst.bad hkd; have c23 := hsc3.c2)
          go_quiet (fail)
          go_wp2
          go_ret3
          have hE := HER.out hkd
          have hA := HA.out
          rw [if_neg (by rw [hE]; dsimp only; omega), hE] at hA
          refine AllPost.empty hA (HB2.out.trans ?_)
          exact Below.trans (hkp.below (Nat.le_succ_of_le HLO.out.2) HLO.out.1) ⟨rfl, rfl, rfl, Nat.le_refl _, fun _ _ => rfl⟩
  · have hnx : ∀ ty, _ := fun ty => Lib.run_next_end_at (P := Tryz.prog) wr w2.heap.size s (plc s k) ty hit h
    obtain ⟨hpj, hcode, htoks⟩ := hal.fin h
    have hl6 : l.length < 1000000 := by have := hal.few; have := hal.jc; have := cnt_le s; omega
    have ka : ∀ W, W = wr → _ := fun W (e : W = wr) => add_any (k := 3) (t := ⟨#[]⟩) (p := s.size) (w := W) (e ▸ hal.sc) (e ▸ hal.big) hl6 (by omega) (by show 0 ≤ _; omega)
    have ka := ka wr rfl
    have HB : Hid (Below w.heap.size w wr) := Lib.hid hal.bel
    have hlo := hal.lo
    have hli := hal.li
    have hA := HA.out
    rw [if_pos (by rw [hcode])] at hA
    have HC := Lib.hid hcode
    have HT := Lib.hid htoks
    have HF := Lib.hid hA
    clear hal hit hip hcode htoks hA HA
    go_wp2_with ((refine ka.mono ?_); rintro e w3 ⟨rfl, ⟨v, hsc⟩, hkp⟩; have c1 := hsc.c1)
    obtain ⟨A3, c3, rfl, hr3⟩ := Rd.own hsc.row
    have Hr3 := Lib.hid hr3
    have HP := Lib.hid (HB.out.trans (hkp.below (by omega) hlo))
    clear hr3 hsc hkp
    go_wp2
    go_ret3
    have hF := HF.out
    have hT := HT.out
    refine ⟨⟨A3, c3, ?_, ?_⟩, HP.out⟩
    · rw [hF, HC.out, hT]; rfl
    · unfold Toks
      rw [hF, hT]; exact Hr3.out
end Go.Proofs.YtahegpfdbgbioaaGreat
namespace Go.Proofs.YtahegpfdbgbioaaGreat
open Go.RowKit
open Go.RowKit
theorem scan_few (n : Nat) : ∀ (u : ByteArray) (off : Nat), u.size ≤ n → (scan u off).1.length ≤ u.size + 1 := by
 induction n with
 | zero =>
  intro u off hn
  rw [scan_nil (by omega)]
  show 1 ≤ _
  omega
 | succ n ih =>
  intro u off hn
  rcases Nat.eq_zero_or_pos u.size with h | h
  · rw [scan_nil h]
    show 1 ≤ _
    omega
  by_cases h3 : 3 ≤ kd u
  · rw [scan_err h h3]
    show 0 ≤ _
    omega
  · have hl := cutB_lt h (by omega)
    rw [scan_go h (by omega)]
    have := ih (cutB u (ln u)) (off + plc u (ln u)) (by omega)
    rw [List.length_append]
    have h1 : ∀ (p : Prop) [Decidable p] (t : Tk), (if p then ([] : List Tk) else [t]).length ≤ 1 := fun p _ t => by split <;> simp
    have := h1 (kd u = 0) (kd u, cutA u (ln u), off)
    omega
theorem sign_name {x : ByteArray} (h : nameS x = true) (c : UInt8) (hc : signB c.toNat = true) : x ≠ sg c := by
 rintro rfl
 obtain ⟨h1, _, h3⟩ := nameS_iff.1 h
 have h4 := h3 0 h1
 have h5 := (may_not (u := sg c) (sg_size c) h4).2.1
 have h6 : bt (sg c) 0 = c.toNat := rfl
 rw [h6, hc] at h5
 cases h5
theorem all_fine {s : ByteArray} (hz : s.size ≤ 2048) (h0 : (allS s).2.1 = 0) : Fine (allS s).1 := by
 obtain ⟨v, e0, eA⟩ := all_zero hz h0
 obtain ⟨init, e, hi⟩ := scan_init _ s 0 (Nat.le_refl _) e0
 have hf := scan_few _ s 0 (Nat.le_refl _)
 rw [eA]
 refine ⟨by omega, init, 0 + s.size, e, fun t ht => ?_⟩
 rcases hi t ht with ⟨h1, h2⟩ | ⟨h1, _⟩
 · exact .inr ⟨h1, fun c hc => sign_name h2 c hc⟩
 · exact .inl h1
theorem all_long {s : ByteArray} (h0 : (allS s).2.1 = 0) : s.size ≤ 2048 := by
 rcases Nat.lt_or_ge 2048 s.size with h | h
 · unfold allS at h0
   rw [if_pos h] at h0
   exact absurd h0 (by decide)
 · exact h
theorem parse_any (s : ByteArray) (w : World) (f0 : s.size ≤ maxLen) : Calls Tryz.prog 47 #[.string s] w (SPost (parseS s) w) := by
 have ka := all_any s (w.alloc (.cells #[.slice none 0 0] 92)) f0
 unfold AllPost at ka
 have hB : Below w.heap.size w (w.alloc (.cells #[.slice none 0 0] 92)) := (Below.refl _ w).alloc (Nat.le_refl _) _
 have hb := Bk.new w #[.slice none 0 0] 92
 have hz := hb.lt
 by_cases h0 : (allS s).2.1 = 0
 · have hp : parseS s = outS (schemaF (allS s).1) := by unfold parseS; rw [if_pos h0]
   have hf := all_fine (all_long h0) h0
   rw [hp]
   rw [h0] at ka
   have HR : ∀ w1 A c, Toks w1 A c (allS s).1 → _ := fun w1 A c ht => read_any (w := w1) (A := A) (c := c) ht hf
   clear hf h0 hp
   generalize (allS s).1 = l at *
   generalize (allS s).2.2 = q at *
   generalize outS (schemaF l) = o at *
   clear f0
   go_enter Tryz.func47, Tryz.ntmps47
   go_wp2_with fail
   generalize w.alloc (.cells #[.slice none 0 0] 92) = W at *
   refine ka.mono ?_
   rintro e W1 ⟨⟨A, c, rfl, ht⟩, hbw⟩
   replace hB := hB.trans (hbw.mono hB.size)
   replace hb := hb.below hbw
   have hz1 := hb.lt
   clear ka hbw
   go_wp2_with fail
   refine (HR _ _ _ ht).mono ?_
   rintro e W2 ⟨vt, rfl, hv, hbw⟩
   replace hB := hB.trans (hbw.mono hB.size)
   replace hb := hb.below hbw
   obtain ⟨xs, h1, h2⟩ := hv
   obtain ⟨A2, c2, rfl, _⟩ := Rd.own h1
   have q0 := hb.c1
   have fz := hb.fz
   clear HR ht hbw
   go_wp2_with fail
   refine bodyPost_ret (v := .tuple #[.agg #[.slice A2 o.1.length c2], .int .i64 o.2.1, .int .i64 o.2.2]) (by simp [results, Tryz.results47, go_sem, q0]; try rfl) rfl ?_
   refine ⟨.slice A2 o.1.length c2, rfl, ⟨xs, ?_, ?_⟩, ?_⟩
   · refine own_base (own_set h1 ?_ _) (show w.heap.size ≤ W1.heap.size by omega)
     dsimp only; omega
   · exact TypsC.base (show w.heap.size ≤ W1.heap.size by omega) (h2.keep (keeps3_set (a := ⟨w.heap.size, 0, none⟩) (by dsimp only; omega) _))
   · refine Below.setCell hB ?_ _
     exact Nat.le_refl _
 · have hp : parseS s = ([], (allS s).2) := by unfold parseS; rw [if_neg h0]
   rw [hp]
   have d0 : ((((allS s).2.1 : Nat) : Int) == 0) = false := by rw [beq_eq_false_iff_ne]; omega
   clear h0 hp f0
   generalize (allS s).2 = q at *
   generalize (allS s).1 = l at *
   go_enter Tryz.func47, Tryz.ntmps47
   go_wp2_with fail
   generalize w.alloc (.cells #[.slice none 0 0] 92) = W at *
   refine ka.mono ?_
   rintro e W1 ⟨⟨A, c, rfl, ht⟩, hbw⟩
   replace hB := hB.trans (hbw.mono hB.size)
   replace hb := hb.below hbw
   have q0 := hb.c1
   have fz := hb.fz
   clear ka hbw
   go_wp2_with fail
   refine bodyPost_ret (v := .tuple #[.agg #[.slice none 0 0], .int .i64 q.1, .int .i64 q.2]) (by simp [results, Tryz.results47, go_sem, q0]; try rfl) rfl ?_
   refine ⟨.slice none 0 0, rfl, ⟨[], World.ownsRow_nil _ _ _ _, rfl⟩, ?_⟩
   refine Below.setCell hB ?_ _
   exact Nat.le_refl _
theorem TypsC.get {w : World} {B : Nat} : ∀ {l : List TypP} {xs : List Value} {i : Nat} {t : TypP}, TypsC w B l xs → l[i]? = some t → ∃ vr, VRels B w vr t.rels ∧ xs[i * 2]? = some (.string t.name) ∧ xs[i * 2 + 1]? = some vr
 | [], _, _, _, _, h => by simp at h
 | x :: r, xs, 0, t, h, hi => by
  simp only [List.getElem?_cons_zero, Option.some.injEq] at hi
  subst hi
  obtain ⟨ys, zs, rfl, ⟨vr, rfl, h1⟩, _⟩ := h
  exact ⟨vr, h1, rfl, rfl⟩
 | x :: r, xs, i + 1, t, h, hi => by
  simp only [List.getElem?_cons_succ] at hi
  obtain ⟨ys, zs, rfl, ⟨vr, rfl, _⟩, h2⟩ := h
  obtain ⟨v2, a, b, c⟩ := TypsC.get h2 hi
  refine ⟨v2, a, ?_, ?_⟩
  · rw [List.getElem?_append_right (by simp; omega), ← b]
    congr 1
    simp
    omega
  · rw [List.getElem?_append_right (by simp; omega), ← c]
    congr 1
    simp
    omega
theorem RelsC.get {w : World} {B : Nat} : ∀ {l : List RelP} {xs : List Value} {i : Nat} {x : RelP}, RelsC w B l xs → l[i]? = some x → ∃ vs vo, VSubs B w vs x.subs ∧ VOps B w vo x.ops ∧ xs[i * 6]? = some (.string x.name) ∧ xs[i * 6 + 1]? = some (.string x.view) ∧ xs[i * 6 + 2]? = some (.string x.edit) ∧ xs[i * 6 + 3]? = some (.string x.check) ∧ xs[i * 6 + 4]? = some vs ∧ xs[i * 6 + 5]? = some vo
 | [], _, _, _, _, h => by simp at h
 | y :: r, xs, 0, x, h, hi => by
  simp only [List.getElem?_cons_zero, Option.some.injEq] at hi
  subst hi
  obtain ⟨ys, zs, rfl, ⟨vs, vo, rfl, h1, h2⟩, _⟩ := h
  exact ⟨vs, vo, h1, h2, rfl, rfl, rfl, rfl, rfl, rfl⟩
 | y :: r, xs, i + 1, x, h, hi => by
  simp only [List.getElem?_cons_succ] at hi
  obtain ⟨ys, zs, rfl, ⟨vs, vo, rfl, _, _⟩, h2⟩ := h
  obtain ⟨v2, v3, a1, a2, b0, b1, b2, b3, b4, b5⟩ := RelsC.get h2 hi
  have key : ∀ (k : Nat) (u : Value), zs[i * 6 + k]? = some u → ([.string y.name, .string y.view, .string y.edit, .string y.check, vs, vo] ++ zs)[(i + 1) * 6 + k]? = some u := fun k u hk => by
   rw [List.getElem?_append_right (by simp; omega), ← hk]
   congr 1
   simp
   omega
  exact ⟨v2, v3, a1, a2, key 0 _ b0, key 1 _ b1, key 2 _ b2, key 3 _ b3, key 4 _ b4, key 5 _ b5⟩
theorem ocells_at : ∀ (l : List OpP) (i : Nat) (o : OpP), l[i]? = some o → (ocells l)[i * 3]? = some (.int .i64 o.1) ∧ (ocells l)[i * 3 + 1]? = some (.string o.2.1) ∧ (ocells l)[i * 3 + 2]? = some (.string o.2.2)
 | [], _, _, h => by simp at h
 | y :: r, 0, o, hi => by
  simp only [List.getElem?_cons_zero, Option.some.injEq] at hi
  subst hi
  exact ⟨rfl, rfl, rfl⟩
 | y :: r, i + 1, o, hi => by
  simp only [List.getElem?_cons_succ] at hi
  obtain ⟨b0, b1, b2⟩ := ocells_at r i o hi
  have key : ∀ (k : Nat) (u : Value), (ocells r)[i * 3 + k]? = some u → (ocells (y :: r))[(i + 1) * 3 + k]? = some u := fun k u hk => by
   show (ocell y ++ ocells r)[_]? = _
   rw [List.getElem?_append_right (by simp [ocell]; omega), ← hk]
   congr 1
   simp [ocell]
   omega
  exact ⟨key 0 _ b0, key 1 _ b1, key 2 _ b2⟩
theorem scells_at : ∀ (l : List SubP) (i : Nat) (s : SubP), l[i]? = some s → (scells l)[i * 2]? = some (.string s.1) ∧ (scells l)[i * 2 + 1]? = some (.string s.2)
 | [], _, _, h => by simp at h
 | y :: r, 0, o, hi => by
  simp only [List.getElem?_cons_zero, Option.some.injEq] at hi
  subst hi
  exact ⟨rfl, rfl⟩
 | y :: r, i + 1, o, hi => by
  simp only [List.getElem?_cons_succ] at hi
  obtain ⟨b0, b1⟩ := scells_at r i o hi
  have key : ∀ (k : Nat) (u : Value), (scells r)[i * 2 + k]? = some u → (scells (y :: r))[(i + 1) * 2 + k]? = some u := fun k u hk => by
   show (scell y ++ scells r)[_]? = _
   rw [List.getElem?_append_right (by simp [scell]; omega), ← hk]
   congr 1
   simp [scell]
   omega
  exact ⟨key 0 _ b0, key 1 _ b1⟩
theorem own_at {w : World} {B : Nat} {e : TypeId} {size n : Nat} {v : Value} {xs : List Value} (h : w.ownsRow B e size v n xs) (hn : 0 < n) : ∃ g c, v = .slice (some ⟨g, 0, none⟩) n c ∧ n ≤ c ∧ g < w.heap.size ∧ ∀ j u, xs[j]? = some u → w.cell? ⟨g, j, none⟩ = some u := by
 obtain ⟨A, c, rfl, hr⟩ := Rd.own h
 rcases h.2 with ⟨he, hx⟩ | ⟨g, cap, cur, he, _⟩
 · omega
 · obtain ⟨b, o, h1, h2, h3⟩ := hr.at_ hn
   injection he with e1 e2 e3
   rw [e1] at h1
   injection h1 with h1
   injection h1 with h4 h5 _
   subst h4
   subst h5
   refine ⟨g, c, by rw [e1], hr.cap, h2, fun j u hj => ?_⟩
   have := h3 j u hj
   rwa [Nat.zero_add] at this
theorem VTyps.get {w : World} {B : Nat} {v : Value} {l : List TypP} (h : VTyps B w v l) {i : Nat} {t : TypP} (hi : l[i]? = some t) :
 ∃ g c vr, v = .slice (some ⟨g, 0, none⟩) l.length c ∧ VRels B w vr t.rels ∧ w.cell? ⟨g, i * 2, none⟩ = some (.string t.name) ∧ w.cell? ⟨g, i * 2 + 1, none⟩ = some vr := by
 obtain ⟨xs, h1, h2⟩ := h
 have hl : i < l.length := (List.getElem?_eq_some_iff.1 hi).1
 obtain ⟨vr, hr, a, b⟩ := h2.get hi
 obtain ⟨g, c, e, _, _, hc⟩ := own_at h1 (by omega)
 exact ⟨g, c, vr, e, hr, hc _ _ a, hc _ _ b⟩
theorem VRels.get {w : World} {B : Nat} {v : Value} {l : List RelP} (h : VRels B w v l) {i : Nat} {x : RelP} (hi : l[i]? = some x) :
 ∃ g c vs vo, v = .slice (some ⟨g, 0, none⟩) l.length c ∧ VSubs B w vs x.subs ∧ VOps B w vo x.ops ∧ w.cell? ⟨g, i * 6, none⟩ = some (.string x.name) ∧ w.cell? ⟨g, i * 6 + 1, none⟩ = some (.string x.view) ∧ w.cell? ⟨g, i * 6 + 2, none⟩ = some (.string x.edit) ∧ w.cell? ⟨g, i * 6 + 3, none⟩ = some (.string x.check) ∧ w.cell? ⟨g, i * 6 + 4, none⟩ = some vs ∧ w.cell? ⟨g, i * 6 + 5, none⟩ = some vo := by
 obtain ⟨xs, h1, h2⟩ := h
 have hl : i < l.length := (List.getElem?_eq_some_iff.1 hi).1
 obtain ⟨vs, vo, hs, ho, b0, b1, b2, b3, b4, b5⟩ := h2.get hi
 obtain ⟨g, c, e, _, _, hc⟩ := own_at h1 (by omega)
 exact ⟨g, c, vs, vo, e, hs, ho, hc _ _ b0, hc _ _ b1, hc _ _ b2, hc _ _ b3, hc _ _ b4, hc _ _ b5⟩
theorem VOps.get {w : World} {B : Nat} {v : Value} {l : List OpP} (h : VOps B w v l) {i : Nat} {o : OpP} (hi : l[i]? = some o) :
 ∃ g c, v = .slice (some ⟨g, 0, none⟩) l.length c ∧ w.cell? ⟨g, i * 3, none⟩ = some (.int .i64 o.1) ∧ w.cell? ⟨g, i * 3 + 1, none⟩ = some (.string o.2.1) ∧ w.cell? ⟨g, i * 3 + 2, none⟩ = some (.string o.2.2) := by
 have hl : i < l.length := (List.getElem?_eq_some_iff.1 hi).1
 obtain ⟨b0, b1, b2⟩ := ocells_at l i o hi
 obtain ⟨g, c, e, _, _, hc⟩ := own_at h (by omega)
 exact ⟨g, c, e, hc _ _ b0, hc _ _ b1, hc _ _ b2⟩
theorem VSubs.get {w : World} {B : Nat} {v : Value} {l : List SubP} (h : VSubs B w v l) {i : Nat} {o : SubP} (hi : l[i]? = some o) :
 ∃ g c, v = .slice (some ⟨g, 0, none⟩) l.length c ∧ w.cell? ⟨g, i * 2, none⟩ = some (.string o.1) ∧ w.cell? ⟨g, i * 2 + 1, none⟩ = some (.string o.2) := by
 have hl : i < l.length := (List.getElem?_eq_some_iff.1 hi).1
 obtain ⟨b0, b1⟩ := scells_at l i o hi
 obtain ⟨g, c, e, _, _, hc⟩ := own_at h (by omega)
 exact ⟨g, c, e, hc _ _ b0, hc _ _ b1⟩
theorem VTyps.below {w w' : World} {B : Nat} {v : Value} {l : List TypP} (h : VTyps B w v l) (hb : Below w.heap.size w w') : VTyps B w' v l := by
 obtain ⟨xs, h1, h2⟩ := h
 exact ⟨xs, own_below h1 hb, h2.keep (keeps3_below hb)⟩
theorem parse_named (s : ByteArray) (hz : s.size ≤ 1000000) {l : List TypP} {e p : Nat} (h : parseS s = (l, e, p)) (W : World) :
 Calls Tryz.prog 47 #[.string s] W fun r w' => (∃ A c, r = .returned (.tuple #[.agg #[.slice A l.length c], .int .i64 e, .int .i64 p]) ∧ VTyps W.heap.size w' (.slice A l.length c) l) ∧ Below W.heap.size W w' := by
 have k := parse_any s W (by unfold maxLen; omega)
 rw [h] at k
 refine k.mono fun r w' ⟨vt, h1, h2, h3⟩ => ?_
 obtain ⟨A, c, rfl, _⟩ := Rd.own h2.choose_spec.1
 exact ⟨⟨A, c, h1, h2⟩, h3⟩
end Go.Proofs.YtahegpfdbgbioaaGreat
