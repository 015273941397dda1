/- Layer 4: sizeIn, called. Condition: the sector has 64 bytes. -/
import Derived.Test.YtgppaompcnllbaaHead
import Derived.Test.YtgppaompcnllbaaRnum
import Derived.Test.YtgppaompcnllbaaRegion
import Derived.IntWalk
namespace Go.Proofs.Ytgppaompcnllbaa
open Go.RowKit

/-- What sizeIn tells. -/
def szI (o : Option Nat) : Value := match o with | some n => .tuple #[.int .i64 n, .bool true] | none => .tuple #[.int .i64 0, .bool false]
theorem rnum_lt {l : List UInt8} : (rnum (l, 0)).1 < 2 ^ 64 := by
  unfold rnum
  split
  · simp
  · split
    · simp
    · exact (take_ok (l := l) rfl).2.1
theorem rnum_lt' (st : RSt) : (rnum st).1 < 2 ^ 64 := by
  unfold rnum
  split
  · simp
  · split
    · simp
    · exact (take_ok (l := st.1) rfl).2.1
set_option maxRecDepth 100000 in
set_option maxHeartbeats 4000000 in
theorem sizeIn_any {L : Nat → Prop} {w : World} {g b : Nat} {t : LSt} (hL : Lg L w g b t) {A : Option Addr} {c : Nat} {z : UInt8} {l : List UInt8} (hr : Rd w w.heap.size 1 A 64 c (bv (z :: l))) :
    Calls Try.prog 43 #[.pointer (some ⟨g, 0, none⟩), .slice A 64 c] w fun e w' => e = .returned (szI (headIs (z :: l) t.epoch t.recs.length)) ∧ Below w.heap.size w w' := by
  obtain ⟨q, o, u, rfl, hq, hx, hc0⟩ := hr.get (k := 0) (by omega)
  simp [bv] at hx
  subst hx
  have c0 : w.cell? ⟨q, o, none⟩ = some (.int .u8 z.toNat) := by simpa using hc0
  have hcap := hr.cap
  have hcm := hr.capm
  have hc1 : ¬ c = 1 := by omega
  have hcz : (c : Int) ≤ 9223372036854775807 := by simp only [maxLen] at hcm; omega
  have hcz2 : (64 : Int) ≤ (c : Int) := by omega
  clear hc0 hcm
  by_cases hz : z = 1
  · subst hz
    have hrc := (hr.cutN (k := 1) (by omega) hc1)
    rw [bv_drop, show (Option.map (fun a => a.add 1) (some (⟨q, o, none⟩ : Addr))) = some ⟨q, o + 1, none⟩ from by simp [Addr.add_lit]] at hrc
    simp only [List.drop_succ_cons, List.drop_zero] at hrc
    have ko := fun W (h : Rd W W.heap.size 1 (some ⟨q, o + 1, none⟩) 63 (c - 1) (bv l)) => open_any _ 63 (c - 1) l W h (by omega)
    obtain ⟨E, stA, hA⟩ : ∃ E stA, rnum (l, 0) = (E, stA) := ⟨_, _, rfl⟩
    obtain ⟨K, stB, hB⟩ : ∃ K stB, rnum stA = (K, stB) := ⟨_, _, rfl⟩
    obtain ⟨N, ⟨lC, f⟩, hC⟩ : ∃ N stC, rnum stB = (N, stC) := ⟨_, _, rfl⟩
    have hN64 : N < 2 ^ 64 := by have := rnum_lt' stB; rw [hC] at this; exact this
    have hdef : headIs (1 :: l) t.epoch t.recs.length = if f = 0 ∧ N ≤ 4096 ∧ E = t.epoch ∧ K = t.recs.length then some N else none := by
      have a1 : hdA l = (E, stA) := hA
      have a2 : hdB l = (K, stB) := by rw [hdB, a1]; exact hB
      have a3 : hdC l = (N, (lC, f)) := by rw [hdC, a2]; exact hC
      unfold headIs
      simp [a1, a2, a3]
    have kn1 : ∀ W gr, IsR W gr (l, 0) → Calls Try.prog 52 #[.pointer (some ⟨gr, 0, none⟩)] W fun e w' => e = .returned (.int .u64 E) ∧ IsR w' gr stA ∧ W.grownBy w' (some gr) := fun W gr h => by
      have := num_any gr _ W h; rw [hA] at this; exact this
    have kn2 : ∀ W gr, IsR W gr stA → Calls Try.prog 52 #[.pointer (some ⟨gr, 0, none⟩)] W fun e w' => e = .returned (.int .u64 K) ∧ IsR w' gr stB ∧ W.grownBy w' (some gr) := fun W gr h => by
      have := num_any gr _ W h; rw [hB] at this; exact this
    have kn3 : ∀ W gr, IsR W gr stB → Calls Try.prog 52 #[.pointer (some ⟨gr, 0, none⟩)] W fun e w' => e = .returned (.int .u64 N) ∧ IsR w' gr (lC, f) ∧ W.grownBy w' (some gr) := fun W gr h => by
      have := num_any gr _ W h; rw [hC] at this; exact this
    have e1 : (1 : UInt8).toNat = 1 := rfl
    have Hdef := Lib.hid hdef
    have HN := Lib.hid hN64
    rw [e1] at c0
    clear hA hB hC hdef e1 hN64
    go_enter Try.func43, Try.ntmps43
    go_wp2_with (first
      | ((with_reducible refine (ko _ hrc).mono ?_); rintro e w1 ⟨gr, rfl, hgr, hR, hb1⟩; have hs1 := hb1.size; replace hb1 := Lib.hid hb1)
      | ((with_reducible refine (kn1 _ _ hR).mono ?_); rintro e w2 ⟨rfl, hR2, hg2⟩; have hs2 := hg2.size; have hb2 := Lib.hid (hb1.out.grown hg2 hs1 fun k e => by cases e; exact hgr); clear hg2 hR)
      | ((with_reducible refine (kn2 _ _ hR2).mono ?_); rintro e w3 ⟨rfl, hR3, hg3⟩; have hs3 := hg3.size; have hb3 := Lib.hid (hb2.out.grown hg3 (by omega) fun k e => by cases e; exact hgr); clear hg3 hR2)
      | ((with_reducible refine (kn3 _ _ hR3).mono ?_); rintro e w4 ⟨rfl, hR4, hg4⟩; have hs4 := hg4.size; have hb4 := Lib.hid (hb3.out.grown hg4 (by omega) fun k e => by cases e; exact hgr); clear hg4 hR3))
    have hR5 : IsR (w4.alloc (.cells #[.int .u64 E, .int .u64 K, .int .u64 N] 94)) gr (lC, f) := hR4.below ((Below.refl _ _).alloc (Nat.le_refl _) _) hR4.lt
    have hH : (w4.alloc (.cells #[.int .u64 E, .int .u64 K, .int .u64 N] 94)).heap[w4.heap.size]? = some (.cells #[.int .u64 E, .int .u64 K, .int .u64 N] 94 (0, 0)) := heap_alloc_new _ _
    have hb5 := Lib.hid (hb4.out.alloc (by omega) (.cells #[.int .u64 E, .int .u64 K, .int .u64 N] 94))
    have hs5 : w4.heap.size < (w4.alloc (.cells #[.int .u64 E, .int .u64 K, .int .u64 N] 94)).heap.size := by simp
    generalize w4.alloc (.cells #[.int .u64 E, .int .u64 K, .int .u64 N] 94) = W at *
    generalize w4.heap.size = H at *
    have h0 : W.cell? ⟨H, 0, none⟩ = some (.int .u64 E) := by rw [cell_of_row _ _ _ _ _ _ hH]; rfl
    have h1 : W.cell? ⟨H, 1, none⟩ = some (.int .u64 K) := by rw [cell_of_row _ _ _ _ _ _ hH]; rfl
    have h2 : W.cell? ⟨H, 2, none⟩ = some (.int .u64 N) := by rw [cell_of_row _ _ _ _ _ _ hH]; rfl
    have ke : ∀ m, Calls Try.prog 53 #[.pointer (some ⟨gr, 0, none⟩)] (W.drewN m) fun e w' => e = .returned (.int .i64 f) ∧ w' = W.drewN m := fun m =>
      (err_any gr (lC, f) (W.drewN m) (hR5.below (below_drewN (Below.refl _ _) m) hR5.lt)).mono fun _ _ ⟨a, b⟩ => ⟨a, b.symm⟩
    clear hR4
    by_cases hf : f = 0
    · subst hf
      have hf0 : ((((0 : Nat) : Int) != 0)) = false := rfl
      by_cases hN : N ≤ 4096
      · have hNz : (N : Int) ≤ 4096 := by omega
        have hNb : decide ((4096 : Int) < (N : Int)) = false := by simp; omega
        have hLW : Lg L W g b t := hL.below hb5.out
        have kh := fun X (h : Below W.heap.size W X) => head_any (hLW.below h) N (by omega)
        have kE := fun X (h : Below W.heap.size W X) => (err_any gr (lC, 0) X (hR5.below h hR5.lt))
        have hwN : IntKind.i64.wrap (N : Int) = (N : Int) := IntWalk.i64_in _ (by omega)
        have hS : Below W.heap.size W W.drew := (Below.refl _ _).drew
        clear hr hrc ko kn1 kn2 kn3 ke c0
        refine wp_region_held (S := Below W.heap.size W) (by kernel_rfl) ?_
        change wpAnyH _ _ _ _ _ _ _ _ (World.drew _)
        refine roH_take 0 (some 22) (v := ?va0) rfl rfl (by kernel_rfl) (by kernel_rfl) (by kernel_rfl) (fun _ _ _ h => h) (by rfl) ?ya0 hS ?ra0
        case ya0 => (intro w hSw; skip; go_simp; try with_reducible rfl)
        simp only [Act.put, List.setIfInBounds_toArray, List.set_cons_zero, List.set_cons_succ]
        refine roH_one 1 rfl (by kernel_rfl) (fun K' hK => ?_)
        go_simp
        (with_reducible refine (kE _ hS).mono ?_)
        rintro e w6 ⟨rfl, rfl⟩
        refine hK _ _ hS ?_
        clear hK K'
        refine roH_take 2 (some 24) (v := ?va2) rfl rfl (by kernel_rfl) (by kernel_rfl) (by kernel_rfl) (fun _ _ _ h => h) (by rfl) ?ya2 hS ?ra2
        case ya2 => (intro w hSw; skip; go_simp; try with_reducible rfl)
        simp only [Act.put, List.setIfInBounds_toArray, List.set_cons_zero, List.set_cons_succ]
        refine roH_take 3 (some 25) (v := ?va3) rfl rfl (by kernel_rfl) (by kernel_rfl) (by kernel_rfl) (fun _ _ _ h => h) (by rfl) ?ya3 hS ?ra3
        case ya3 => (intro w hSw; skip; go_simp; try with_reducible rfl)
        simp only [Act.put, List.setIfInBounds_toArray, List.set_cons_zero, List.set_cons_succ]
        refine roH_take 4 (some 26) (v := ?va4) rfl rfl (by kernel_rfl) (by kernel_rfl) (by kernel_rfl) (fun _ _ _ h => h) (by rfl) ?ya4 hS ?ra4
        case ya4 => (intro w hSw; skip; go_simp; try with_reducible rfl)
        simp only [Act.put, List.setIfInBounds_toArray, List.set_cons_zero, List.set_cons_succ]
        refine roH_take 5 (some 27) (v := ?va5) rfl rfl (by kernel_rfl) (by kernel_rfl) (by kernel_rfl) (fun _ _ _ h => h) (by rfl) ?ya5 hS ?ra5
        case ya5 => (intro w hSw; have s0 := (Below.cell hSw (p := ⟨H, 0, none⟩) hs5).trans h0; have s1 := (Below.cell hSw (p := ⟨H, 1, none⟩) hs5).trans h1; have s2 := (Below.cell hSw (p := ⟨H, 2, none⟩) hs5).trans h2; go_simp; try with_reducible rfl)
        simp only [Act.put, List.setIfInBounds_toArray, List.set_cons_zero, List.set_cons_succ]
        refine roH_take 6 (some 28) (v := ?va6) rfl rfl (by kernel_rfl) (by kernel_rfl) (by kernel_rfl) (fun _ _ _ h => h) (by rfl) ?ya6 hS ?ra6
        case ya6 => (intro w hSw; skip; go_simp; try with_reducible rfl)
        simp only [Act.put, List.setIfInBounds_toArray, List.set_cons_zero, List.set_cons_succ]
        refine roH_take 7 (some 29) (v := ?va7) rfl rfl (by kernel_rfl) (by kernel_rfl) (by kernel_rfl) (fun _ _ _ h => h) (by rfl) ?ya7 hS ?ra7
        case ya7 => (intro w hSw; skip; go_simp; try with_reducible rfl)
        simp only [Act.put, List.setIfInBounds_toArray, List.set_cons_zero, List.set_cons_succ]
        refine roH_take 8 (some 30) (v := ?va8) rfl rfl (by kernel_rfl) (by kernel_rfl) (by kernel_rfl) (fun _ _ _ h => h) (by rfl) ?ya8 hS ?ra8
        case ya8 => (intro w hSw; skip; go_simp; try with_reducible rfl)
        simp only [Act.put, List.setIfInBounds_toArray, List.set_cons_zero, List.set_cons_succ]
        refine roH_take 10 (some 32) (v := ?va10) rfl rfl (by kernel_rfl) (by kernel_rfl) (by kernel_rfl) (fun _ _ _ h => h) (by rfl) ?ya10 hS ?ra10
        case ya10 => (intro w hSw; skip; go_simp; try with_reducible rfl)
        simp only [Act.put, List.setIfInBounds_toArray, List.set_cons_zero, List.set_cons_succ]
        refine roH_take 11 (some 33) (v := ?va11) rfl rfl (by kernel_rfl) (by kernel_rfl) (by kernel_rfl) (fun _ _ _ h => h) (by rfl) ?ya11 hS ?ra11
        case ya11 => (intro w hSw; skip; go_simp; try with_reducible rfl)
        simp only [Act.put, List.setIfInBounds_toArray, List.set_cons_zero, List.set_cons_succ]
        refine roH_take 12 (some 34) (v := ?va12) rfl rfl (by kernel_rfl) (by kernel_rfl) (by kernel_rfl) (fun _ _ _ h => h) (by rfl) ?ya12 hS ?ra12
        case ya12 => (intro w hSw; have s0 := (Below.cell hSw (p := ⟨H, 0, none⟩) hs5).trans h0; have s1 := (Below.cell hSw (p := ⟨H, 1, none⟩) hs5).trans h1; have s2 := (Below.cell hSw (p := ⟨H, 2, none⟩) hs5).trans h2; go_simp; try with_reducible rfl)
        simp only [Act.put, List.setIfInBounds_toArray, List.set_cons_zero, List.set_cons_succ]
        refine roH_take 13 (some 35) (v := ?va13) rfl rfl (by kernel_rfl) (by kernel_rfl) (by kernel_rfl) (fun _ _ _ h => h) (by rfl) ?ya13 hS ?ra13
        case ya13 => (intro w hSw; skip; go_simp; try with_reducible rfl)
        simp only [Act.put, List.setIfInBounds_toArray, List.set_cons_zero, List.set_cons_succ]
        refine roH_take 9 (some 31) (v := ?va9) rfl rfl (by kernel_rfl) (by kernel_rfl) (by kernel_rfl) (fun _ _ _ h => h) (by rfl) ?ya9 hS ?ra9
        case ya9 => (intro w hSw; have s0 := (Below.cell hSw (p := ⟨H, 0, none⟩) hs5).trans h0; have s1 := (Below.cell hSw (p := ⟨H, 1, none⟩) hs5).trans h1; have s2 := (Below.cell hSw (p := ⟨H, 2, none⟩) hs5).trans h2; go_simp; try with_reducible rfl)
        simp only [Act.put, List.setIfInBounds_toArray, List.set_cons_zero, List.set_cons_succ]
        refine roH_one 14 rfl (by kernel_rfl) (fun K' hK => ?_)
        go_simp
        (with_reducible refine (kh _ hS).mono ?_)
        rintro e w7 ⟨rfl, hb7⟩
        have hS7 : Below W.heap.size W w7 := hS.trans (hb7.mono hS.size)
        refine hK _ _ hS7 ?_
        clear hK K'
        clear hwN
        obtain ⟨B, hB⟩ : ∃ B : Bool, (!(decide ((E : Int) = (t.epoch : Int)) && decide ((K : Int) = (t.recs.length : Int)))) = B := ⟨_, rfl⟩
        replace hB := Lib.hid hB
        refine roH_take 15 (some 37) (v := .bool B) rfl rfl (by kernel_rfl) (by kernel_rfl) (by kernel_rfl) (fun _ _ _ h => h) (by rfl) ?ya15 hS7 ?ra15
        case ya15 => (intro w hSw; skip; go_simp; rw [← hB.out]; by_cases a1 : (E : Int) = (t.epoch : Int) <;> by_cases a2 : (K : Int) = (t.recs.length : Int) <;> simp [a1, a2])
        simp only [Act.put, List.setIfInBounds_toArray, List.set_cons_zero, List.set_cons_succ]
        refine roH_take 16 (some 38) (v := ?va16) rfl rfl (by kernel_rfl) (by kernel_rfl) (by kernel_rfl) (fun _ _ _ h => h) (by rfl) ?ya16 hS7 ?ra16
        case ya16 => (intro w hSw; skip; go_simp; try with_reducible rfl)
        simp only [Act.put, List.setIfInBounds_toArray, List.set_cons_zero, List.set_cons_succ]
        refine wpAnyH_done (by kernel_rfl) ?_ _
        have hb7' := Lib.hid (hb5.out.trans (hS7.mono hb5.out.size))
        have h27 : w7.cell? ⟨H, 2, none⟩ = some (.int .u64 N) := (hS7.cell (p := ⟨H, 2, none⟩) hs5).trans h2
        clear hS hS7 hb7
        cases B with
        | false =>
          have hyes : headIs (1 :: l) t.epoch t.recs.length = some N := by
            have h := hB.out
            simp at h
            rw [Hdef.out, if_pos ⟨rfl, hN, by omega, by omega⟩]
          have Hyes := Lib.hid hyes
          clear hyes
          go_wp2
          go_ret2
          exact ⟨by rw [Hyes.out]; rfl, hb7'.out⟩
        | true =>
          have hno : headIs (1 :: l) t.epoch t.recs.length = none := by
            have h := hB.out
            simp at h
            rw [Hdef.out, if_neg (fun h' => by omega)]
          have Hno := Lib.hid hno
          clear hno
          go_wp2
          go_ret2
          exact ⟨by rw [Hno.out]; rfl, hb7'.out⟩
      · have hNz : (4096 : Int) < (N : Int) := by omega
        have hNb : decide ((4096 : Int) < (N : Int)) = true := by simp; omega
        have hno : headIs (1 :: l) t.epoch t.recs.length = none := by rw [Hdef.out, if_neg (fun h => hN h.2.1)]
        have Hno := Lib.hid hno
        clear hno
        go_quiet ((go_at_call 53; exact Calls.quiet_of_same (ke _)))
        go_wp2
        go_ret2
        exact ⟨by rw [Hno.out]; rfl, below_drewN hb5.out _⟩
    · have hfb : ((f : Int) != 0) = true := by simp [hf]
      have hno : headIs (1 :: l) t.epoch t.recs.length = none := by rw [Hdef.out, if_neg (fun h => hf h.1)]
      have Hno := Lib.hid hno
      clear hno
      go_quiet ((go_at_call 53; exact Calls.quiet_of_same (ke _)))
      go_wp2
      go_ret2
      exact ⟨by rw [Hno.out]; rfl, below_drewN hb5.out _⟩
  · have hzb : ((z.toNat : Int) != 1) = true := by
      have : z.toNat ≠ 1 := fun e => hz (UInt8.toNat_inj.1 e)
      simp; omega
    have hno : headIs (z :: l) t.epoch t.recs.length = none := headIs_sign (by simp [hz]) _ _
    have Hno := Lib.hid hno
    clear hno
    go_enter Try.func43, Try.ntmps43
    go_wp2
    go_ret2
    exact ⟨by rw [Hno.out]; rfl, Below.refl _ _⟩
end Go.Proofs.Ytgppaompcnllbaa
