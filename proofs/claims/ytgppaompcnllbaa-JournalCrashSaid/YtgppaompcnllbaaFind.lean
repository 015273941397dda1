/- Layer 4: find, called. Conditions: the disk isn't dead; the log ends on it. -/
import Derived.Test.YtgppaompcnllbaaSizeIn
import Derived.Test.YtgppaompcnllbaaRParts
namespace Go.Proofs.Ytgppaompcnllbaa
open Go.RowKit

theorem recAt_eq {s : St} {t : LSt} {m : Nat} (h : headIs (s.now.getD t.next []) t.epoch t.recs.length = some m) (h1 : t.next < t.to) (h2 : t.next + szN m ≤ t.to) : recAt s.now t.epoch t.recs.length t.next t.to = rdP s t m := by
  unfold recAt rdP
  rw [if_pos h1, h, Option.bind_some]
  by_cases hp : partsAre s.now t.next (pn m) = true
  · rw [if_pos hp, if_pos ⟨h2, hp⟩]
  · rw [if_neg hp, if_neg (fun h => hp h.2)]
/-- What find tells. -/
def FindSays (w : World) (o : Option (List UInt8)) (e : Ending) (w' : World) : Prop :=
  ∃ A c, e = .returned (.tuple #[.slice A (o.getD []).length c, .bool o.isSome, .int .i64 0]) ∧ w'.ownsRow w.heap.size 5 1 (.slice A (o.getD []).length c) (o.getD []).length (bv (o.getD [])) ∧ Below w.heap.size w w'
set_option maxRecDepth 100000 in
set_option maxHeartbeats 4000000 in
theorem find_any {S L : Nat → Prop} {w : World} {g b : Nat} {s : St} {t : LSt} (hD : Ds S w b s) (hdead : s.dead = false) (hL : Lg L w g b t) (hto : t.to ≤ s.kept.length) :
    Calls Try.prog 27 #[.pointer (some ⟨g, 0, none⟩)] w fun e w' => FindSays w (recAt s.now t.epoch t.recs.length t.next t.to) e w' := by
  have kr := fun W (h : Lg L W g b t) => room_any h
  have hle := hL.ok.le
  have hmo := hL.ok.most
  by_cases h0 : t.to - t.next = 0
  · have ho : recAt s.now t.epoch t.recs.length t.next t.to = none := recAt_out (by omega)
    have Ho := Lib.hid ho
    rw [h0] at kr
    clear ho h0
    go_enter Try.func27, Try.ntmps27
    go_wp2_with ((with_reducible refine (kr _ hL).mono ?_); rintro e w1 ⟨rfl, hb1⟩)
    go_ret3
    rw [Ho.out]
    exact ⟨none, 0, rfl, World.ownsRow_nil _ _ _ _, hb1⟩
  · have hlt : t.next < t.to := by omega
    have hrz : (((t.to - t.next : Nat) : Int) == 0) = false := by simp; omega
    have hhas : s.has (t.next : Int) = true := St.has_iff.2 ⟨by omega, by omega⟩
    have hsl := St.sect_len hD.ok hhas
    have hse : s.sect (t.next : Int) = s.now.getD t.next [] := by rw [St.sect, List.getD_eq_getElem?_getD, Int.toNat_natCast]
    obtain ⟨z, lr, hzl⟩ : ∃ z lr, s.sect (t.next : Int) = z :: lr := by
      cases hh : s.sect (t.next : Int) with
      | nil => rw [hh] at hsl; simp at hsl
      | cons z lr => exact ⟨z, lr, rfl⟩
    have hdx : ∀ W, Below w.heap.size w W → Calls Try.prog 30 #[.pointer (some ⟨b, 0, none⟩), .int .i64 t.next] W.drew fun e w' => ∃ v, e = .returned (.tuple #[v, .int .i64 0]) ∧ w'.ownsRow W.drew.heap.size 5 1 v 64 (bv (z :: lr)) ∧ Below W.drew.heap.size W.drew w' := fun W hb => by
      have := read_s (drewDs (hD.below hb)) (t.next : Int) hhas hdead
      rw [hzl] at this
      exact this
    rw [hzl] at hse
    have Hse := Lib.hid hse
    have hgs := hL.size g hL.hg
    have hcc : ∀ W, Below w.heap.size w W → W.cell? ⟨g, 0, none⟩ = some (.pointer (some ⟨b, 0, none⟩)) ∧ W.cell? ⟨g, 1, none⟩ = some (.int .i64 t.next) := fun W hb => by
      obtain ⟨rv, rows, h⟩ := hL
      exact ⟨(hb.cell (p := ⟨g, 0, none⟩) hgs).trans h.c0, (hb.cell (p := ⟨g, 1, none⟩) hgs).trans h.c1⟩
    have hrm : ((t.to - t.next : Nat) : Int) ≤ 65536 := by omega
    clear hse hzl hsl hhas
    have Hlt := Lib.hid hlt
    have Hto := Lib.hid hto
    clear hlt hto h0
    go_enter Try.func27, Try.ntmps27
    go_wp2_with ((with_reducible refine (kr _ hL).mono ?_); rintro e W ⟨rfl, hbW⟩; have HbW := Lib.hid hbW)
    have kR := hdx _ HbW.out
    have hwW := HbW.out.size
    obtain ⟨c0, c1⟩ := hcc _ HbW.out
    have hgs1 : g < W.heap.size := by omega
    clear hdx hcc
    have hS0 : Below W.heap.size W W.drew := (Below.refl _ _).drew
    refine wp_region_held (S := Below W.heap.size W) (by kernel_rfl) ?_
    change wpAnyH _ _ _ _ _ _ _ _ (World.drew _)
    refine roH_take 0 (some 13) (v := ?va0) rfl rfl (by kernel_rfl) (by kernel_rfl) (by kernel_rfl) (fun _ _ _ h => h) (by rfl) ?ya0 hS0 ?ra0
    case ya0 => (intro wq hSw; skip; go_simp; try with_reducible rfl)
    simp only [Act.put, List.setIfInBounds_toArray, List.set_cons_zero, List.set_cons_succ]
    refine roH_take 1 (some 14) (v := ?va1) rfl rfl (by kernel_rfl) (by kernel_rfl) (by kernel_rfl) (fun _ _ _ h => h) (by rfl) ?ya1 hS0 ?ra1
    case ya1 => (intro wq hSw; skip; go_simp; try with_reducible rfl)
    simp only [Act.put, List.setIfInBounds_toArray, List.set_cons_zero, List.set_cons_succ]
    refine roH_take 2 (some 15) (v := ?va2) rfl rfl (by kernel_rfl) (by kernel_rfl) (by kernel_rfl) (fun _ _ _ h => h) (by rfl) ?ya2 hS0 ?ra2
    case ya2 => (intro wq hSw; skip; go_simp; try with_reducible rfl)
    simp only [Act.put, List.setIfInBounds_toArray, List.set_cons_zero, List.set_cons_succ]
    refine roH_take 3 (some 16) (v := ?va3) rfl rfl (by kernel_rfl) (by kernel_rfl) (by kernel_rfl) (fun _ _ _ h => h) (by rfl) ?ya3 hS0 ?ra3
    case ya3 => (intro wq hSw; have q0 := (Below.cell hSw (p := ⟨g, 0, none⟩) hgs1).trans c0; have q1 := (Below.cell hSw (p := ⟨g, 1, none⟩) hgs1).trans c1; go_simp; try with_reducible rfl)
    simp only [Act.put, List.setIfInBounds_toArray, List.set_cons_zero, List.set_cons_succ]
    refine roH_take 4 (some 17) (v := ?va4) rfl rfl (by kernel_rfl) (by kernel_rfl) (by kernel_rfl) (fun _ _ _ h => h) (by rfl) ?ya4 hS0 ?ra4
    case ya4 => (intro wq hSw; skip; go_simp; try with_reducible rfl)
    simp only [Act.put, List.setIfInBounds_toArray, List.set_cons_zero, List.set_cons_succ]
    refine roH_take 5 (some 18) (v := ?va5) rfl rfl (by kernel_rfl) (by kernel_rfl) (by kernel_rfl) (fun _ _ _ h => h) (by rfl) ?ya5 hS0 ?ra5
    case ya5 => (intro wq hSw; skip; go_simp; try with_reducible rfl)
    simp only [Act.put, List.setIfInBounds_toArray, List.set_cons_zero, List.set_cons_succ]
    refine roH_take 6 (some 19) (v := ?va6) rfl rfl (by kernel_rfl) (by kernel_rfl) (by kernel_rfl) (fun _ _ _ h => h) (by rfl) ?ya6 hS0 ?ra6
    case ya6 => (intro wq hSw; skip; go_simp; try with_reducible rfl)
    simp only [Act.put, List.setIfInBounds_toArray, List.set_cons_zero, List.set_cons_succ]
    refine roH_take 7 (some 20) (v := ?va7) rfl rfl (by kernel_rfl) (by kernel_rfl) (by kernel_rfl) (fun _ _ _ h => h) (by rfl) ?ya7 hS0 ?ra7
    case ya7 => (intro wq hSw; have q0 := (Below.cell hSw (p := ⟨g, 0, none⟩) hgs1).trans c0; have q1 := (Below.cell hSw (p := ⟨g, 1, none⟩) hgs1).trans c1; go_simp; try with_reducible rfl)
    simp only [Act.put, List.setIfInBounds_toArray, List.set_cons_zero, List.set_cons_succ]
    refine roH_one 8 rfl (by kernel_rfl) (fun K hK => ?_)
    go_simp
    (with_reducible refine kR.mono ?_)
    rintro e W2 ⟨v2, rfl, ho2, hb2⟩
    obtain ⟨g2, c2, rfl, hg2, hg2'⟩ := own_pos ho2 (by omega)
    obtain ⟨A2, c2', e2', hr2⟩ := Rd.own ho2
    cases e2'
    have hS2 : Below W.heap.size W W2 := hS0.trans hb2
    refine hK _ _ hS2 ?_
    clear hK K
    refine roH_take 9 (some 12) (v := ?va9) rfl rfl (by kernel_rfl) (by kernel_rfl) (by kernel_rfl) (fun _ _ _ h => h) (by rfl) ?ya9 hS2 ?ra9
    case ya9 => (intro wq hSw; skip; go_simp; try with_reducible rfl)
    simp only [Act.put, List.setIfInBounds_toArray, List.set_cons_zero, List.set_cons_succ]
    refine roH_take 10 (some 22) (v := ?va10) rfl rfl (by kernel_rfl) (by kernel_rfl) (by kernel_rfl) (fun _ _ _ h => h) (by rfl) ?ya10 hS2 ?ra10
    case ya10 => (intro wq hSw; skip; go_simp; try with_reducible rfl)
    simp only [Act.put, List.setIfInBounds_toArray, List.set_cons_zero, List.set_cons_succ]
    refine roH_take 11 (some 23) (v := ?va11) rfl rfl (by kernel_rfl) (by kernel_rfl) (by kernel_rfl) (fun _ _ _ h => h) (by rfl) ?ya11 hS2 ?ra11
    case ya11 => (intro wq hSw; skip; go_simp; try with_reducible rfl)
    simp only [Act.put, List.setIfInBounds_toArray, List.set_cons_zero, List.set_cons_succ]
    refine roH_take 12 (some 5) (v := ?va12) rfl rfl (by kernel_rfl) (by kernel_rfl) (by kernel_rfl) (fun _ _ _ h => h) (by rfl) ?ya12 hS2 ?ra12
    case ya12 => (intro wq hSw; skip; go_simp; try with_reducible rfl)
    simp only [Act.put, List.setIfInBounds_toArray, List.set_cons_zero, List.set_cons_succ]
    refine roH_take 13 (some 6) (v := ?va13) rfl rfl (by kernel_rfl) (by kernel_rfl) (by kernel_rfl) (fun _ _ _ h => h) (by rfl) ?ya13 hS2 ?ra13
    case ya13 => (intro wq hSw; skip; go_simp; try with_reducible rfl)
    simp only [Act.put, List.setIfInBounds_toArray, List.set_cons_zero, List.set_cons_succ]
    refine wpAnyH_done (by kernel_rfl) ?_ _
    have hb2w := Lib.hid (HbW.out.trans (hS2.mono hwW))
    have hL2 := hL.below hb2w.out
    have kS := sizeIn_any hL2 hr2
    rw [Hse.out] at kS
    cases hh : headIs (s.now.getD t.next []) t.epoch t.recs.length with
    | none =>
      have ho : recAt s.now t.epoch t.recs.length t.next t.to = none := recAt_head hh
      rw [hh] at kS
      have Ho := Lib.hid ho
      simp only [szI] at kS
      clear ho hh kR hS0 hS2 hb2
      go_wp2_with ((with_reducible refine kS.mono ?_); rintro e W3 ⟨rfl, hb3⟩)
      go_ret3
      rw [Ho.out]
      exact ⟨none, 0, rfl, World.ownsRow_nil _ _ _ _, hb2w.out.trans (hb3.mono hb2w.out.size)⟩
    | some m =>
      rw [hh] at kS
      simp only [szI] at kS
      have hm := (headIs_some hh).2.2.1
      have ks := fun X => size_any X m (by omega)
      by_cases hsz : t.to - t.next < szN m
      · have ho : recAt s.now t.epoch t.recs.length t.next t.to = none := recAt_room hh (by omega)
        have hz : ((t.to - t.next : Nat) : Int) < (szN m : Int) := by omega
        have Ho := Lib.hid ho
        generalize t.to - t.next = rm at *
        generalize szN m = sz at *
        clear ho hh kR hS0 hS2 hb2
        go_wp2_with (first
          | ((with_reducible refine kS.mono ?_); rintro e W3 ⟨rfl, hb3⟩; have hL3 := hL2.below hb3)
          | ((with_reducible refine (ks _).mono ?_); rintro e W4 ⟨rfl, hW4⟩; subst hW4)
          | ((with_reducible refine (kr _ hL3).mono ?_); rintro e W5 ⟨rfl, hb5⟩))
        go_ret3
        rw [Ho.out]
        exact ⟨none, 0, rfl, World.ownsRow_nil _ _ _ _, hb2w.out.trans ((hb3.mono hb2w.out.size).trans (hb5.mono (Nat.le_trans hb2w.out.size hb3.size)))⟩
      · have hlt2 := Hlt.out
        have hto2 := Hto.out
        have ho := recAt_eq hh hlt2 (by omega)
        have hz : (szN m : Int) ≤ ((t.to - t.next : Nat) : Int) := by omega
        have kP := fun X (h : Below w.heap.size w X) => rparts_any (hD.below h) hdead (hL.below h) m hm (by omega)
        have Ho := Lib.hid ho
        generalize t.to - t.next = rm at *
        generalize szN m = sz at *
        clear ho hh kR hS0 hS2 hb2 hlt2 hto2
        go_wp2_with (first
          | ((with_reducible refine kS.mono ?_); rintro e W3 ⟨rfl, hb3⟩; have hL3 := hL2.below hb3)
          | ((with_reducible refine (ks _).mono ?_); rintro e W4 ⟨rfl, hW4⟩; subst hW4)
          | ((with_reducible refine (kr _ hL3).mono ?_); rintro e W5 ⟨rfl, hb5⟩; have hb5w := Lib.hid (hb2w.out.trans ((hb3.mono hb2w.out.size).trans (hb5.mono (Nat.le_trans hb2w.out.size hb3.size)))); have kP5 := kP _ hb5w.out)
          | ((with_reducible refine kP5.mono ?_); rintro e W6 ⟨A6, c6, rfl, ho6, hb6⟩))
        go_ret3
        rw [Ho.out]
        exact ⟨A6, c6, rfl, own_base ho6 hb5w.out.size, hb5w.out.trans (hb6.mono hb5w.out.size)⟩
end Go.Proofs.Ytgppaompcnllbaa
