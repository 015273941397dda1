/- Layer 14: the law's example. Conditions: none. -/
import Derived.Test.YtmdhollegemlhaaSpkW14
import Derived.Test.YtmdhollegemlhaaAwP14
namespace Go.Proofs.Ytmdhollegemlhaa
open Go.RowKit

theorem lit_qa : (⟨#[97]⟩ : ByteArray) = qa := rfl
theorem lit_qb : (⟨#[98]⟩ : ByteArray) = qb := rfl
set_option maxRecDepth 100000 in
set_option maxHeartbeats 4000000 in
theorem awake14_any (w : World) : Calls Try.prog 8 #[] w fun e w' => e = .returned (.bool true) ∧ Below w.heap.size w w' := by
  have K := spk14
  have kn := K.new w
  go_enter Try.func8, Try.ntmps8
  go_upto_region 2 with (go_at_call 10; refine kn.mono ?_; rintro e1 w1 ⟨g, F1, rfl, hS1, hF1, hb1⟩)
  clear kn
  have hup : ∀ {X Y : World} {F F' : Nat → Prop}, Below w.heap.size w X → (∀ b, F b → w.heap.size ≤ b) → Own14 F F' X Y → Below w.heap.size w Y ∧ ∀ b, F' b → w.heap.size ≤ b := fun hX hF hO => ⟨hX.trans (hO.rest _ hX.size hF), fun b hb => by
    rcases hO.grow b hb with q | q
    · exact hF b q
    · have := hX.size; omega⟩
  have f1 : FineS [] 0 := FineS.nil
  have k1 := K.put ⟨#[97]⟩ 1 hS1 f1 (by simp) (by decide) (by omega)
  simp only [lit_qa, aw_put, Option.isSome_some, Option.getD_some, if_true] at k1
  rw [← lit_qa] at k1
  go_upto_region 3 with (go_at_call 11; refine k1.mono ?_; rintro e2 w2 ⟨F2, rfl, hS2, hO2⟩)
  have f2 : FineS [((⟨#[97]⟩ : ByteArray), (1 : Int), (0 : Int))] 1 := f1.put (show putP [] 0 ⟨#[97]⟩ 1 = some _ from aw_put)
  obtain ⟨hb2, hF2⟩ := hup hb1 hF1 hO2
  have k2 := K.drop ⟨#[97]⟩ 3 hS2 f2 (by simp) (by decide) (by omega)
  simp only [lit_qa, aw_drop, Option.isSome_some, Option.getD_some, if_true] at k2
  rw [← lit_qa] at k2
  clear k1
  go_upto_region 4 with (go_at_call 13; refine k2.mono ?_; rintro e3 w3 ⟨F3, rfl, hS3, hO3⟩)
  have f3 : FineS [((⟨#[97]⟩ : ByteArray), (1 : Int), (3 : Int))] 3 := f2.drop (show dropP [(⟨#[97]⟩, 1, 0)] 1 ⟨#[97]⟩ 3 = some _ from aw_drop)
  obtain ⟨hb3, hF3⟩ := hup hb2 hF2 hO3
  have k3 := K.put ⟨#[98]⟩ 3 hS3 f3 (by simp) (by decide) (by omega)
  simp only [lit_qa, lit_qb, aw_put2, Option.isSome_some, Option.getD_some, if_true] at k3
  rw [← lit_qa, ← lit_qb] at k3
  clear k2
  go_upto_region 5 with (go_at_call 11; refine k3.mono ?_; rintro e4 w4 ⟨F4, rfl, hS4, hO4⟩)
  have f4 : FineS [((⟨#[97]⟩ : ByteArray), (1 : Int), (3 : Int)), (⟨#[98]⟩, 3, 0)] 3 := f3.put (show putP [(⟨#[97]⟩, 1, 3)] 3 ⟨#[98]⟩ 3 = some _ from aw_put2)
  obtain ⟨hb4, hF4⟩ := hup hb3 hF3 hO4
  have hkeep : ∀ W, Below w4.heap.size w4 W → Sk W F4 g [((⟨#[97]⟩ : ByteArray), (1 : Int), (3 : Int)), (⟨#[98]⟩, 3, 0)] 3 := fun W h => K.keep hS4 fun b hb => h.block b (K.lt hS4 b hb)
  have kx := K.next 3 ⟨#[]⟩ ⟨#[]⟩ hS4 f4 (by simp)
  simp only [lit_qa, lit_qb, aw_next, Option.isSome_some, Option.getD_some] at kx
  rw [← lit_qb] at kx
  clear k3
  go_upto_region 6 with (go_at_call 17; refine kx.mono ?_; rintro e5 w5 ⟨rfl, hb5⟩)
  have ke := K.events 1 3 (hkeep w5 hb5) f4 (by simp)
  simp only [lit_qa, lit_qb, aw_events] at ke
  rw [← lit_qa, ← lit_qb] at ke
  simp only [List.length_cons, List.length_nil, Nat.zero_add, Nat.reduceAdd] at ke
  clear kx
  go_upto_region 7 with (go_at_call 23; refine ke.mono ?_; rintro e6 w6 ⟨A6, c6, rfl, hR6, hb6⟩)
  have hb46 := bthen hb5 hb5.size hb6
  have kh1 := fun W h => K.has ⟨#[97]⟩ 1 (hkeep W h) f4 (by simp) (by decide)
  have kh2 := fun W h => K.has ⟨#[97]⟩ 2 (hkeep W h) f4 (by simp) (by decide)
  have kh3 := fun W h => K.has ⟨#[97]⟩ 3 (hkeep W h) f4 (by simp) (by decide)
  have kc := fun W h => K.count 2 (hkeep W h) f4 (by simp)
  have kt := fun W h => K.trim 3 (hkeep W h) f4 (by simp)
  simp only [lit_qa, lit_qb, aw_has1] at kh1
  simp only [lit_qa, lit_qb, aw_has2] at kh2
  simp only [lit_qa, lit_qb, aw_has3] at kh3
  simp only [lit_qa, lit_qb, aw_count] at kc
  simp only [lit_qa, lit_qb, aw_trim] at kt
  rw [← lit_qa] at kh1 kh2 kh3
  simp only [List.length_cons, List.length_nil, Nat.zero_add, Nat.reduceAdd] at kt
  simp only [show ((1 : Nat) : Int) = 1 from rfl] at kc
  simp only [show ((2 : Nat) : Int) - ((1 : Nat) : Int) = 1 from rfl] at kt
  rw [← lit_qb] at kt
  have kg := fun W F (h : Sk W F g [((⟨#[98]⟩ : ByteArray), (3 : Int), (0 : Int))] 3) => K.has ⟨#[97]⟩ 2 h (f4.trim 3 : FineS [((⟨#[98]⟩ : ByteArray), (3 : Int), (0 : Int))] 3) (by simp) (by decide)
  simp only [lit_qa, lit_qb, aw_gone] at kg
  rw [← lit_qa, ← lit_qb] at kg
  obtain ⟨b6, o6, rfl, hlb, d0, d1, d2⟩ := rd_ev hR6 (i := 0) (x := (3, ⟨#[97]⟩, false)) rfl
  obtain ⟨_, _, e6, _, d3, d4, d5⟩ := rd_ev hR6 (i := 1) (x := (3, ⟨#[98]⟩, true)) rfl
  injection e6 with e6
  injection e6 with e6 e7
  subst e6 e7
  dsimp only at d0 d1 d2 d5
  simp only [Nat.zero_mul, Nat.one_mul, Nat.add_zero] at d0 d1 d2 d5
  have hcl : ∀ W, Below w6.heap.size w6 W → W.cell? ⟨b6, o6, none⟩ = some (.int .i64 3) ∧ W.cell? ⟨b6, o6 + 1, none⟩ = some (.string ⟨#[97]⟩) ∧ W.cell? ⟨b6, o6 + 2, none⟩ = some (.bool false) ∧ W.cell? ⟨b6, o6 + 3 + 2, none⟩ = some (.bool true) := fun W h => ⟨(h.cell (p := ⟨b6, o6, none⟩) hlb).trans d0, (h.cell (p := ⟨b6, o6 + 1, none⟩) hlb).trans d1, (h.cell (p := ⟨b6, o6 + 2, none⟩) hlb).trans d2, (h.cell (p := ⟨b6, o6 + 3 + 2, none⟩) hlb).trans d5⟩
  clear ke hR6 d0 d1 d2 d3 d4 d5 hkeep hS4 f4 hS1 hS2 hS3 f1 f2 f3 hO2 hO3 hO4
  go_wp2_with (first
    | (go_at_call 19; with_reducible refine (kh1 _ hb46).mono ?_; rintro e7 w7 ⟨rfl, hb7⟩; have hb47 := bthen hb46 hb46.size hb7; clear kh1)
    | (go_at_call 19; with_reducible refine (kh2 _ hb47).mono ?_; rintro e8 w8 ⟨rfl, hb8⟩; have hb48 := bthen hb47 hb47.size hb8; clear kh2)
    | (go_at_call 19; with_reducible refine (kh3 _ hb48).mono ?_; rintro e9 w9 ⟨rfl, hb9⟩; have hb49 := bthen hb48 hb48.size hb9; clear kh3)
    | (go_at_call 21; with_reducible refine (kc _ hb49).mono ?_; rintro e10 w10 ⟨rfl, hb10⟩; have hb410 := bthen hb49 hb49.size hb10; obtain ⟨z0, z1, z2, z3⟩ := hcl w10 (bthen (bthen (bthen hb7 hb7.size hb8) (bthen hb7 hb7.size hb8).size hb9) (bthen (bthen hb7 hb7.size hb8) (bthen hb7 hb7.size hb8).size hb9).size hb10); clear kc)
    | (go_at_call 15; with_reducible refine (kt _ hb410).mono ?_; rintro e11 w11 ⟨F11, rfl, hS11, hO11⟩; clear kt)
    | (go_at_call 19; with_reducible refine (kg _ _ hS11).mono ?_; rintro e12 w12 ⟨rfl, hb12⟩; clear kg)
    | fail)
  go_ret
  have hb := (hup (hb4.trans (hb410.mono hb4.size)) hF4 hO11).1
  exact ⟨rfl, bthen hb hb.size hb12⟩
end Go.Proofs.Ytmdhollegemlhaa
