/- Layer 7: the document's own parser, walked whole: for every string it answers what the grammar tells, or the error and its place. Conditions: the text is a string of Go's. -/
import Derived.Test.YtkeonempmchpnaaRefQ
import Derived.Test.YtkeonempmchpnaaParseP
import Derived.Test.YtkeonempmchpnaaRAllW
import Derived.Test.YtkeonempmchpnaaParseW
namespace Go.Proofs.Ytkeonempmchpnaa
open Go.RowKit

theorem len_who : ∀ (f : Nat) (acc : List SubP) (q : St), lenU (whoU f acc q).2 ≤ lenU q
  | 0, acc, q => by unfold whoU; exact len_fail
  | f + 1, acc, q => by
    unfold whoU
    have a := @len_name q
    have b := @len_up (nameU q).2
    have c := @len_name (upU (nameU q).2)
    by_cases h : isU (sg 35) (nameU q).2 = true
    · simp only [andU, if_pos h]
      split
      · refine Nat.le_trans (len_who f _ _) ?_
        have := @len_up (nameU (upU (nameU q).2)).2
        omega
      · show lenU (nameU (upU (nameU q).2)).2 ≤ _
        omega
    · simp only [andU, if_neg h]
      split
      · refine Nat.le_trans (len_who f _ _) ?_
        omega
      · exact a
theorem len_rew {f d : Nat} {q : St} : lenU (rewU f d q).2 ≤ lenU q := by
  have a := ((lens_parts f).1 d q).2
  have b := ((lens_parts f).2 d (partU f d q).1 (partU f d q).2).2
  show lenU (moreU f d (partU f d q).1 (partU f d q).2).2 ≤ _
  omega
theorem len_tail (f : Nat) (n v e c : ByteArray) (q : St) : lenU (tailU f n v e c q).2 ≤ lenU q := by
  show lenU (needU (sg 59) (if isU sIs (if goodU q && !isU sIs q && !isU (sg 59) q then whoU f [] q else ([], q)).2 = true then rewU f 0 (upU (if goodU q && !isU sIs q && !isU (sg 59) q then whoU f [] q else ([], q)).2) else ([(1, ⟨#[]⟩, ⟨#[]⟩)], (if goodU q && !isU sIs q && !isU (sg 59) q then whoU f [] q else ([], q)).2)).2) ≤ _
  refine Nat.le_trans len_need ?_
  have h1 : lenU (if goodU q && !isU sIs q && !isU (sg 59) q then whoU f [] q else ([], q)).2 ≤ lenU q := by
    split
    · exact len_who f _ _
    · exact Nat.le_refl _
  generalize (if goodU q && !isU sIs q && !isU (sg 59) q then whoU f [] q else ([], q)).2 = m at *
  split
  · refine Nat.le_trans len_rew ?_
    have := @len_up m
    omega
  · exact h1
theorem len_rel {f : Nat} {q : St} : lenU (relU f q).2 ≤ lenU q := by
  have a1 := @len_name q
  have a2 := @len_need (sg 40) (nameU q).2
  generalize hv : nameU (needU (sg 40) (nameU q).2) = nv
  have a3 := @len_name (needU (sg 40) (nameU q).2)
  rw [hv] at a3
  have a4 := @len_need (sg 44) nv.2
  generalize he : nameU (needU (sg 44) nv.2) = ne
  have a5 := @len_name (needU (sg 44) nv.2)
  rw [he] at a5
  have a6 := @len_need (sg 44) ne.2
  generalize hc : nameU (needU (sg 44) ne.2) = nc
  have a7 := @len_name (needU (sg 44) ne.2)
  rw [hc] at a7
  have a8 := @len_need (sg 41) nc.2
  have a9 := @len_need (sg 58) (needU (sg 41) nc.2)
  have h : relU f q = tailU f (nameU q).1 nv.1 ne.1 nc.1 (needU (sg 58) (needU (sg 41) nc.2)) := by
    unfold relU
    simp only [andU, hv, he, hc]
    rfl
  rw [h]
  have := len_tail f (nameU q).1 nv.1 ne.1 nc.1 (needU (sg 58) (needU (sg 41) nc.2))
  omega
/-- How the document's own parser ends: its types read as the answer's. -/
def RPost (o : List TypP × Nat × Nat) (w : World) (e : Ending) (w' : World) : Prop :=
  ∃ v, e = .returned (.tuple #[v, .int .i64 o.2.1, .int .i64 o.2.2]) ∧ DVTyps w.heap.size w' v o.1 ∧ Below w.heap.size w w'
theorem dvtyps_nil (B : Nat) (w : World) : DVTyps B w (.slice none 0 0) [] := ⟨[], World.ownsRow_nil _ _ _ _, rfl⟩
theorem need_ok {s : ByteArray} {q : St} : lenU (needU s q) ≤ lenU q := len_need
set_option maxRecDepth 100000 in
set_option maxHeartbeats 4000000 in
theorem rparse_any (s : ByteArray) (w : World) (f0 : s.size ≤ maxLen) : Calls Try.prog 10 #[.string s] w (RPost (parseS s) w) := by
  have ka := rall_any s w f0
  unfold AllPost at ka
  by_cases h0 : (allS s).2.1 = 0
  · have hp : parseS s = tellU (typesU (2 * (allS s).1.length + 2) (2 * (allS s).1.length + 2) [] (.ok (allS s).1)) := by unfold parseS; rw [if_pos h0]; exact schema_tells
    have hf := all_fine (all_long h0) h0
    rw [hp]
    rw [h0] at ka
    clear h0 hp f0
    generalize (allS s).1 = T at *
    generalize (allS s).2.2 = p0 at *
    have hT := hf.1
    obtain ⟨F, hF⟩ : ∃ F, 2 * T.length + 2 = F := ⟨_, rfl⟩
    rw [hF]
    obtain ⟨R, hR⟩ : ∃ R, typesU F F [] (.ok T) = R := ⟨_, rfl⟩
    rw [hR]
    go_enter Try.func10, Try.ntmps10
    go_wp2_with fail
    refine ka.mono ?_
    rintro e W1 ⟨⟨A, c, rfl, ht⟩, hB⟩
    clear ka
    go_wp2_with fail
    have hS : PSt (W1.alloc (.cells #[.slice A T.length c, .int .i64 0, .int .i64 0, .int .i64 0] 71)) W1.heap.size (.ok T) :=
      ⟨A, c, T, 0, 0, 0, ⟨Bk.new W1 _ _, Rd.below ht ((Below.refl _ W1).alloc (Nat.le_refl _) _), hf, hT⟩, rfl, rfl⟩
    have hK : Kp W1.heap.size w.heap.size w (W1.alloc (.cells #[.slice A T.length c, .int .i64 0, .int .i64 0, .int .i64 0] 71)) := Kp.of_below (hB.alloc hB.size _) _
    have hgB : w.heap.size ≤ W1.heap.size := hB.size
    clear ht hB
    generalize W1.alloc (.cells #[.slice A T.length c, .int .i64 0, .int .i64 0, .int .i64 0] 71) = W2 at *
    generalize W1.heap.size = g at *
    go_loopw [9] (fun vo wr => ∃ acc q n, PSt wr g q ∧ Kp g w.heap.size w wr ∧ DVTyps (g + 1) wr vo acc ∧ lenU q < n ∧ typesU F n acc q = R ∧ acc.length + lenU q ≤ 1000000 ∧ lenU q < F) (fun _ wr => leftU wr g)
    case atStart => exact ⟨[], .ok T, F, hS, hK, dvtyps_nil _ _, (show T.length < F by omega), hR, (by show 0 + T.length ≤ _; omega), (show T.length < F by omega)⟩
    case round =>
      clear hS hK hR
      obtain ⟨acc, q, n, hS, hK, hv, hn, hM, hl, hlF⟩ := hrel
      obtain ⟨n, rfl⟩ : ∃ m, n = m + 1 := ⟨n - 1, by omega⟩
      unfold typesU at hM
      have hlf := hS.left
      have k := ris_any hS sType
      obtain ⟨xs, hv1, hv2⟩ := hv
      obtain ⟨Ao, co, rfl, _⟩ := Rd.own hv1
      cases hi : isU sType q with
      | true =>
        rw [hi] at k
        rw [if_pos hi] at hM
        go_wp2_with fail
        refine k.mono ?_
        rintro e X0 ⟨rfl, hx⟩
        obtain ⟨l, rfl, he⟩ := isU_ok hi
        have hl1 := len_is (show 0 < sType.size by decide) hi
        replace hS := hS.below hx
        replace hv1 := own_below hv1 hx
        replace hv2 := hv2.keep (dkeeps3_below hx)
        replace hK := hK.trans ((Kp.of_below hx g).more hK.size)
        clear k hx
        obtain ⟨A2, c2, T2, i, e, p, hP, rfl, rfl⟩ := hS
        have hf2 := hP.fine.next (show 0 < sType.size by decide) he
        obtain ⟨_, _, _, hiT, _⟩ := hP.get
        have hmT := hP.few
        have u1 : X0.cell? ⟨g, 1, none⟩ = some (.int .i64 i) := hP.cells.cell 1
        have z1 := hP.cells.fz 1
        have lt1 := hP.cells.lt
        go_wp2_with fail
        have hS := hP.up hf2
        replace hK := hK.trans (kp_at g w.heap.size X0 1 (.int .i64 ((i : Int) + 1)))
        replace hv2 := hv2.keep (dkeeps3_set (a := ⟨g, 1, none⟩) (show g < g + 1 by omega) (.int .i64 ((i : Int) + 1)))
        replace hv1 := own_set (a := ⟨g, 1, none⟩) hv1 (show g < g + 1 by omega) (.int .i64 ((i : Int) + 1))
        clear hP u1 z1 lt1
        generalize X0.setCell ⟨g, 1, none⟩ (.int .i64 ((i : Int) + 1)) = X1 at *
        generalize hq1 : upU (.ok (T2.drop i)) = q1 at *
        obtain ⟨na, hna⟩ : ∃ r, nameU q1 = r := ⟨_, rfl⟩
        have hl2 := @len_name q1
        rw [hna] at hl2
        refine (pname_any hS).mono ?_
        rw [hna]
        rintro e X2 ⟨hk, ⟨v, rfl, hvs⟩, hS2⟩
        obtain rfl : v = .string na.1 := hvs
        replace hv1 := own_kp hv1 hk (by omega)
        replace hv2 := hv2.keep (dkeeps3_kp hk (by omega))
        replace hK := hK.trans (hk.more hK.size)
        clear hS hk
        go_wp2_with fail
        have hgX := hS2.size
        have hBT : w.heap.size ≤ X2.heap.size := hK.size
        have hb := Bk.new X2 #[.string na.1, .slice none 0 0] 37
        have hS := hS2.alloc (.cells #[.string na.1, .slice none 0 0] 37)
        have hX : Kp g X2.heap.size X2 (X2.alloc (.cells #[.string na.1, .slice none 0 0] 37)) := (Kp.refl g X2.heap.size X2).alloc (Nat.le_refl _) _
        clear hS2
        obtain ⟨BT, hBTe⟩ : ∃ b, X2.heap.size = b := ⟨_, rfl⟩
        rw [hBTe] at hgX hBT hb hX ⊢
        generalize X2.alloc (.cells #[.string na.1, .slice none 0 0] 37) = X3 at *
        refine (rneed_any hS (sg_size 123)).mono ?_
        rintro e X4 ⟨hk, ⟨v, rfl, rfl⟩, hS2⟩
        have hl3 := @len_need (sg 123) na.2
        replace hX := hX.trans (hk.more (by have := hX.size; omega))
        replace hb := hb.kp hk (by omega)
        clear hS hk
        obtain ⟨q2, hq2⟩ : ∃ r, needU (sg 123) na.2 = r := ⟨_, rfl⟩
        rw [hq2] at hS2 hl3
        obtain ⟨R2, hR2⟩ : ∃ r, relsU F F [] q2 = r := ⟨_, rfl⟩
        have hM2 : typesU F n (acc ++ [⟨na.1, R2.1⟩]) (needU (sg 125) R2.2) = R := by
          rw [← hM]
          simp only [andU, hna, hq2, hR2]
        have HM := Lib.hid hM2
        clear hM hM2 hna hq2 hi he hq1
        have hS := hS2
        clear hS2
        go_wp2_with fail
        go_loopw [] (fun wx => ∃ acc2 q3 vr n2, Bk wx BT #[.string na.1, vr] 37 ∧ DVRels (BT + 1) wx vr acc2 ∧ PSt wx g q3 ∧ Kp g BT X2 wx ∧ lenU q3 < n2 ∧ relsU F n2 acc2 q3 = R2 ∧ acc2.length + lenU q3 ≤ 1000000 ∧ lenU q3 ≤ lenU q2) (fun wx => leftU wx g)
        case atStart => exact ⟨[], q2, _, F, hb, ⟨[], World.ownsRow_nil _ _ _ _, rfl⟩, hS, hX, by omega, hR2, by have := hS.few; simp only [List.length_nil]; omega, Nat.le_refl _⟩
        case round =>
          clear hb hS hX hR2
          obtain ⟨acc2, q3, vr, n2, hb, hvr, hS, hX, hn2, hM2, hl4, hl5⟩ := hrel
          obtain ⟨n2, rfl⟩ : ∃ m, n2 = m + 1 := ⟨n2 - 1, by omega⟩
          unfold relsU at hM2
          have hlf2 := hS.left
          have k := ris_any hS sRel
          obtain ⟨ys, hr1, hr2⟩ := hvr
          obtain ⟨Ar, cr, rfl, _⟩ := Rd.own hr1
          cases hi : isU sRel q3 with
          | true =>
            rw [hi] at k
            rw [if_pos hi] at hM2
            go_wp2_with fail
            refine k.mono ?_
            rintro e Y0 ⟨rfl, hx⟩
            clear HM
            obtain ⟨l3, rfl, he⟩ := isU_ok hi
            have hl6 := len_is (show 0 < sRel.size by decide) hi
            replace hS := hS.below hx
            replace hr1 := own_below hr1 hx
            replace hr2 := hr2.keep ⟨fun _ _ _ h => own_below h hx, fun _ _ _ h => own_below h hx⟩
            replace hb := hb.below hx
            have hXz : BT ≤ wr.heap.size := by have := hX.size; omega
            replace hX := hX.trans ((Kp.of_below hx g).more hXz)
            clear k hx hXz
            obtain ⟨A3, c3, T3, i3, e3, p3, hP, rfl, rfl⟩ := hS
            have hf3 := hP.fine.next (show 0 < sRel.size by decide) he
            obtain ⟨_, _, _, hiT3, _⟩ := hP.get
            have hmT3 := hP.few
            have u1 : Y0.cell? ⟨g, 1, none⟩ = some (.int .i64 i3) := hP.cells.cell 1
            have z1 := hP.cells.fz 1
            have lt1 := hP.cells.lt
            go_wp2_with fail
            have hS := (hP.up hf3).drew
            replace hX := (hX.trans (kp_at g BT Y0 1 (.int .i64 ((i3 : Int) + 1)))).drew
            replace hb : Bk _ BT #[.string na.1, .slice Ar acc2.length cr] 37 := hb.other (a := ⟨g, 1, none⟩) (by dsimp only; omega) (.int .i64 ((i3 : Int) + 1))
            replace hr2 := (hr2.keep (dkeeps_set (a := ⟨g, 1, none⟩) (show g < BT + 1 by omega) (.int .i64 ((i3 : Int) + 1)))).keep (dkeeps_drew _ (BT + 1))
            replace hr1 := own_drew (own_set (a := ⟨g, 1, none⟩) hr1 (show g < BT + 1 by omega) (.int .i64 ((i3 : Int) + 1)))
            replace hb : Bk (Y0.setCell ⟨g, 1, none⟩ (.int .i64 ((i3 : Int) + 1))).drew BT #[.string na.1, .slice Ar acc2.length cr] 37 := hb
            clear hP u1 z1 lt1
            refine wp_region_any (by kernel_rfl) ?_
            change wpAny _ _ _ _ _ _ _ (World.drew _)
            generalize (Y0.setCell ⟨g, 1, none⟩ (.int .i64 ((i3 : Int) + 1))).drew = W6 at *
            generalize hq4 : upU (.ok (T3.drop i3)) = q4 at *
            -- 0 fieldAddr
            refine ro_take 0 (some 47) (v := ?v0) rfl rfl (by kernel_rfl) (by kernel_rfl) (by kernel_rfl) (fun _ _ _ h => h) (by rfl) ?y0 ?r0
            case y0 => (intro w; go_simp; try with_reducible rfl)
            simp only [Act.put, List.setIfInBounds_toArray, List.set_cons_zero, List.set_cons_succ]
            -- 2 move
            refine ro_take 2 (some 49) (v := ?v2) rfl rfl (by kernel_rfl) (by kernel_rfl) (by kernel_rfl) (fun _ _ _ h => h) (by rfl) ?y2 ?r2
            case y2 => (intro w; go_simp; try with_reducible rfl)
            simp only [Act.put, List.setIfInBounds_toArray, List.set_cons_zero, List.set_cons_succ]
            refine ro_swap3 1 3 4 (some 48) (fun W => W.cell? ⟨BT, 1, none⟩ = some (.slice Ar acc2.length cr)) (v := ?v1) rfl rfl rfl rfl (by kernel_rfl) (by kernel_rfl) (by kernel_rfl) (by decide) (by decide) (by decide) (by kernel_rfl) (by kernel_rfl) (by kernel_rfl) (by kernel_rfl) (by kernel_rfl) (by kernel_rfl) (by kernel_rfl) (by kernel_rfl) (by kernel_rfl) (by kernel_rfl) (fun _ _ _ h => h) (by rfl) ?y1 (hb.cell 1) ?r1
            case y1 => (intro w hS; (try dsimp only at hS); go_simp; try with_reducible rfl)
            simp only [Act.put, List.setIfInBounds_toArray, List.set_cons_zero, List.set_cons_succ]
            intro K hK'
            go_simp
            obtain ⟨xr, hxr⟩ : ∃ r, relU F q4 = r := ⟨_, rfl⟩
            have hl8 : lenU xr.2 ≤ lenU q4 := by rw [← hxr]; exact len_rel
            refine (rrel_any (f := F) hS (by omega)).mono ?_
            rw [hxr]
            rintro e W7 ⟨hk, ⟨v, rfl, vs, vo, rfl, hs1, hs2⟩, hS7⟩
            have hlt := hb.lt
            have hM3 : relsU F n2 (acc2 ++ [xr.1]) xr.2 = R2 := by rw [← hM2]; simp only [andU, hxr]
            clear hM2 hxr hi he hq4
            replace hX := hX.trans (hk.more (by have := hX.size; omega))
            replace hb := hb.kp hk (by omega)
            replace hr2 := hr2.keep (dkeeps_kp hk (by omega))
            replace hr1 := own_kp hr1 hk (by omega)
            have hs1' : DVSubs (BT + 1) W7 vs xr.1.subs := own_base hs1 (by omega)
            have hs2' : DVOps (BT + 1) W7 vo xr.1.ops := own_base hs2 (by omega)
            obtain ⟨As, cS, rfl, _⟩ := Rd.own hs1'
            obtain ⟨Ap, cP, rfl, _⟩ := Rd.own hs2'
            clear hs1 hs2 hk hS
            refine hK' _ _ (hb.cell 1) ?_
            clear hK' K
            refine wpOp_step rfl fun K2 hK2 => ?_
            go_simp
            refine hK2 _ _ ⟨cell_alloc (hb.cell 1) _, ?_⟩
            clear hK2 K2
            have hz7 : BT + 1 ≤ W7.heap.size := hb.lt
            obtain ⟨i0, hi0, hz0, hz1, hz2⟩ := info_parts dinfo_rel
            refine wpAny_ready (rs := [5]) (by kernel_rfl) (by simp) ?_
            refine AllReady.cons rfl (fun K hK' => ?_) AllReady.nil
            rw [if_pos (by rfl)]
            refine op_append_src _ (some 52) rfl (.tmp 48) (.tmp 51) 35 35 rfl (BT + 1) 50 i0 (.agg #[.string .empty, .string .empty, .string .empty, .string .empty, .slice none 0 0, .slice none 0 0]) 6 112 Try.underlying35 hi0 hz0 hz1 hz2 rfl (by decide) (.slice Ar acc2.length cr) acc2.length ys rfl (World.ownsRow.alloc hr1 _) _ 1 [.string xr.1.name, .string xr.1.view, .string xr.1.edit, .string xr.1.check, .slice As xr.1.subs.length cS, .slice Ap xr.1.ops.length cP] rfl (Src.ofSlice _ Try.underlying35 _ 1 1 _ rfl (cells_new6 _ _ _ _ _ _ _ _) (rcell_one _ _ _ _ _ _ _ _ _ _)) (by simp only [maxLen]; omega) (by omega) (size_alloc hz7) ?_
            intro v8 W8 hown8 hg8
            refine hK' _ _ ?_
            clear hK' K
            simp only [Act.put, List.setIfInBounds_toArray, List.set_cons_zero, List.set_cons_succ]
            have hS8 := hS7.grown (v := .slice Ar acc2.length cr) hg8 hr1 (by omega)
            have hX8 := kp_grown (v := .slice Ar acc2.length cr) hX hg8 hr1 (by omega) (by omega)
            have hb8 := hb.grown (v := .slice Ar acc2.length cr) hg8 hr1 (by omega)
            have hkp := dkeeps_grown (B := BT + 1) (u := .slice Ar acc2.length cr) hr1 (by decide) (by decide) hg8
            have hr8 := DRelsC.snoc (y := xr.1) ⟨_, _, rfl, hkp.1 _ _ _ hs1', hkp.2 _ _ _ hs2'⟩ (hr2.keep hkp)
            clear hg8 hkp hr2 hr1 hs1' hs2' hb hX hS7
            obtain ⟨A8, c8, rfl, _⟩ := Rd.own hown8
            -- 6 fieldAddr
            refine ro_take 6 (some 53) (v := ?v6) rfl rfl (by kernel_rfl) (by kernel_rfl) (by kernel_rfl) (fun _ _ _ h => h) (by rfl) ?y6 ?r6
            case y6 => (intro w; go_simp; try with_reducible rfl)
            simp only [Act.put, List.setIfInBounds_toArray, List.set_cons_zero, List.set_cons_succ]
            -- 7 store
            obtain ⟨x0, x1⟩ := hb8.c2
            have fx := hb8.fz
            refine wpAny_ready (rs := [7]) (by kernel_rfl) (by simp) ?_
            refine AllReady.cons rfl (fun K hK' => ?_) AllReady.nil
            go_simp
            refine hK' _ _ ?_
            clear hK' K
            refine wpAny_done (by kernel_rfl) ?_ _
            have hS9 := hS8.set (a := ⟨BT, 1, none⟩) (show g < BT by omega) (.slice A8 (acc2.length + 1) c8)
            have hX9 := hX8.set (a := ⟨BT, 1, none⟩) (show BT ≤ BT by omega) (.slice A8 (acc2.length + 1) c8)
            have hb9 : Bk _ BT #[.string na.1, .slice A8 (acc2.length + 1) c8] 37 := hb8.set 1 (.slice A8 (acc2.length + 1) c8)
            have hr9 := hr8.keep (dkeeps_set (a := ⟨BT, 1, none⟩) (show BT < BT + 1 by omega) (.slice A8 (acc2.length + 1) c8))
            have ho9 := own_set (a := ⟨BT, 1, none⟩) hown8 (show BT < BT + 1 by omega) (.slice A8 (acc2.length + 1) c8)
            clear hS8 hX8 hb8 hr8 hown8 x0 x1 fx
            generalize W8.setCell ⟨BT, 1, none⟩ (.slice A8 (acc2.length + 1) c8) = W9 at *
            go_wp2_with fail
            refine ⟨⟨acc2 ++ [xr.1], xr.2, _, n2, hb9, ⟨_, ?_, hr9⟩, hS9, hX9, by omega, hM3, ?_, by omega⟩, ?_⟩
            · rw [List.length_append]
              exact ho9
            · rw [List.length_append, List.length_singleton]
              omega
            · rw [hS9.left, hlf2]
              omega
          | false =>
            rw [hi] at k
            rw [if_neg (by rw [hi]; decide)] at hM2
            subst hM2
            have hM3 : typesU F n (acc ++ [⟨na.1, acc2⟩]) (needU (sg 125) q3) = R := HM.out
            go_wp2_with fail
            refine k.mono ?_
            rintro e Y0 ⟨rfl, hx⟩
            replace hS := hS.below hx
            replace hr1 := own_below hr1 hx
            replace hr2 := hr2.keep ⟨fun _ _ _ h => own_below h hx, fun _ _ _ h => own_below h hx⟩
            replace hb := hb.below hx
            have hXz : BT ≤ wr.heap.size := by have := hX.size; omega
            replace hX := hX.trans ((Kp.of_below hx g).more hXz)
            clear k hx hXz HM hi
            go_wp2_with fail
            refine (rneed_any hS (sg_size 125)).mono ?_
            rintro e Y1 ⟨hk, ⟨v, rfl, rfl⟩, hS2⟩
            have hl7 := @len_need (sg 125) q3
            replace hb := hb.kp hk (by omega)
            replace hr1 := own_kp hr1 hk (by omega)
            replace hr2 := hr2.keep (dkeeps_kp hk (by omega))
            replace hX := hX.trans (hk.more (by have := hX.size; omega))
            clear hS hk
            have hX' : Kp g X2.heap.size X2 Y1 := by rw [hBTe]; exact hX
            replace hv1 := own_kp hv1 hX' (by omega)
            replace hv2 := hv2.keep (dkeeps3_kp hX' (by omega))
            replace hK := hK.trans (hX.more hBT)
            have b0 : Y1.cell? ⟨BT, 0, none⟩ = some (.string na.1) := hb.cell 0
            have b1 : Y1.cell? ⟨BT, 1, none⟩ = some (.slice Ar acc2.length cr) := hb.cell 1
            have lb := hb.lt
            have hgz : g + 1 ≤ Y1.heap.size := by omega
            obtain ⟨i0, hi0, hz0, hz1, hz2⟩ := info_parts dinfo_typ
            have hlT : T2.length ≤ 1000000 := hmT
            have hacc : acc.length + 1 ≤ 1000001 := by omega
            go_wp2_with (at_builtin; refine wpList_append_src _ rfl (.tmp 56) (.tmp 58) 29 29 rfl (g + 1) 37 i0 (.agg #[.string .empty, .slice none 0 0]) 2 40 Try.underlying29 hi0 hz0 hz1 hz2 rfl (by decide) _ acc.length xs rfl (World.ownsRow.alloc hv1 _) _ 1 [.string na.1, .slice Ar acc2.length cr] rfl (Src.ofSlice _ Try.underlying29 _ 1 1 _ rfl (cells_new2 _ _ _ _) (dtcell_one _ _ _ _)) (by simp only [maxLen]; omega) (by omega) (size_alloc hgz) ?_; intro v8 W8 hown8 hg8 hat8; obtain ⟨A8, c8, rfl, _⟩ := Rd.own hown8)
            have hS8 := hS2.grown (v := .slice Ao acc.length co) hg8 hv1 (by omega)
            have hK8 := kp_grown (v := .slice Ao acc.length co) hK hg8 hv1 hK.size (by omega)
            have hkp := dkeeps3_grown (B := g + 1) (u := .slice Ao acc.length co) hv1 (by decide) (by decide) (by decide) hg8
            have hvr8 : DVRels (g + 1) W8 (.slice Ar acc2.length cr) acc2 := DVRels.keep hkp (DVRels.base (show g + 1 ≤ BT + 1 by omega) ⟨ys, hr1, hr2⟩)
            have hv8 := DTypsC.snoc (y := ⟨na.1, acc2⟩) ⟨_, rfl, hvr8⟩ (hv2.keep hkp)
            refine ⟨⟨acc ++ [⟨na.1, acc2⟩], needU (sg 125) q3, n, hS8, hK8, ⟨_, ?_, hv8⟩, by omega, hM3, ?_, by omega⟩, ?_⟩
            · rw [List.length_append]
              exact hown8
            · rw [List.length_append, List.length_singleton]
              omega
            · rw [hS8.left, hlf]
              omega
      | false =>
        rw [hi] at k
        rw [if_neg (by rw [hi]; decide)] at hM
        subst hM
        go_wp2_with fail
        refine k.mono ?_
        rintro e X0 ⟨rfl, hx⟩
        replace hS := hS.below hx
        replace hv1 := own_below hv1 hx
        replace hv2 := hv2.keep (dkeeps3_below hx)
        replace hK := hK.trans ((Kp.of_below hx g).more hK.size)
        clear k hx hi
        have hq := hS
        obtain ⟨A2, c2, T2, i, e, p, hP, hs⟩ := hS
        obtain ⟨b, o, rfl, hiT, hbg, s0, _, _⟩ := hP.get
        have hmT := hP.few
        have u0 : X0.cell? ⟨g, 0, none⟩ = some (.slice (some ⟨b, o, none⟩) T2.length c2) := hP.cells.cell 0
        have u1 : X0.cell? ⟨g, 1, none⟩ = some (.int .i64 i) := hP.cells.cell 1
        have hi2 : (i : Int) < (T2.length : Nat) := by omega
        go_wp2
        go_quiet (fail)
        have hbq : Below X0.heap.size X0 (X0.drewN nq) := ⟨rfl, rfl, rfl, Nat.le_refl _, fun _ _ => rfl⟩
        replace hq := hq.below hbq
        replace hP := hP.below hbq
        replace hv1 := own_below hv1 hbq
        replace hv2 := hv2.keep (dkeeps3_below hbq)
        replace hK := hK.trans ((Kp.of_below hbq g).more hK.size)
        clear hbq s0 u0 u1
        generalize X0.drewN nq = X1 at *
        have u2 : X1.cell? ⟨g, 2, none⟩ = some (.int .i64 e) := hP.cells.cell 2
        have u3 : X1.cell? ⟨g, 3, none⟩ = some (.int .i64 p) := hP.cells.cell 3
        obtain ⟨kk, hkk⟩ : ∃ k, (hdT (T2.drop i)).1 = k := ⟨_, rfl⟩
        rw [hkk]
        cases q with
        | error x =>
          obtain ⟨rfl, hx, rfl⟩ := hs
          have d0 : (((x.1 : Nat) : Int) == 0) = false := by rw [beq_eq_false_iff_ne]; omega
          have HR : Hid (tellU (acc, .error x) = ([], x)) := Lib.hid rfl
          by_cases h3 : kk = 3
          · subst h3
            go_wp2
            go_quiet (fail)
            have hbq : Below X1.heap.size X1 (X1.drewN nq) := ⟨rfl, rfl, rfl, Nat.le_refl _, fun _ _ => rfl⟩
            go_wp2_with fail
            go_returns
            unfold RPost
            rw [HR.out]
            exact ⟨_, rfl, dvtyps_nil _ _, (hK.trans ((Kp.of_below hbq g).more hK.size)).belowG hgB⟩
          · have d3 : (((kk : Nat) : Int) == 3) = false := by rw [beq_eq_false_iff_ne]; omega
            go_wp2_with fail
            refine (rfail30 hq).mono ?_
            rintro e5 X2 ⟨hk, ⟨v, rfl, hvu⟩, hS2⟩
            obtain rfl := hvu
            have hK2 := hK.trans (hk.more hK.size)
            clear hk hq hP u2 u3
            obtain ⟨A5, c5, T5, i5, e5, p5, hP, hs5⟩ := hS2
            obtain ⟨rfl, hx5, rfl⟩ := hs5
            have u2 : X2.cell? ⟨g, 2, none⟩ = some (.int .i64 _) := hP.cells.cell 2
            have u3 : X2.cell? ⟨g, 3, none⟩ = some (.int .i64 _) := hP.cells.cell 3
            go_wp2
            go_quiet (fail)
            have hbq : Below X2.heap.size X2 (X2.drewN nq) := ⟨rfl, rfl, rfl, Nat.le_refl _, fun _ _ => rfl⟩
            go_wp2_with fail
            go_returns
            unfold RPost
            rw [HR.out]
            exact ⟨_, rfl, dvtyps_nil _ _, (hK2.trans ((Kp.of_below hbq g).more hK2.size)).belowG hgB⟩
        | ok l =>
          obtain ⟨rfl, rfl⟩ := hs
          by_cases h3 : kk = 3
          · subst h3
            have hR : tellU (acc, .ok (T2.drop i)) = (acc, 0, 0) := by unfold tellU endU; dsimp only; rw [if_pos hkk]
            have HR := Lib.hid hR
            clear hR
            go_wp2_with fail
            go_returns
            unfold RPost
            rw [HR.out]
            exact ⟨_, rfl, ⟨xs, own_base hv1 (by omega), DTypsC.base (show w.heap.size ≤ g + 1 by omega) hv2⟩, hK.belowG hgB⟩
          · have d3 : (((kk : Nat) : Int) == 3) = false := by rw [beq_eq_false_iff_ne]; omega
            have hR : tellU (acc, .ok (T2.drop i)) = ([], 30, (hdT (T2.drop i)).2.2) := by unfold tellU endU; dsimp only; rw [if_neg (by rw [hkk]; exact h3)]; rfl
            have HR := Lib.hid hR
            clear hR
            go_wp2_with fail
            refine (rfail30 hq).mono ?_
            rintro e5 X2 ⟨hk, ⟨v, rfl, hvu⟩, hS2⟩
            obtain rfl := hvu
            have hK2 := hK.trans (hk.more hK.size)
            clear hk hq hP u2 u3
            obtain ⟨A5, c5, T5, i5, e5, p5, hP, hs5⟩ := hS2
            obtain ⟨rfl, hx5, rfl⟩ := hs5
            have u2 : X2.cell? ⟨g, 2, none⟩ = some (.int .i64 _) := hP.cells.cell 2
            have u3 : X2.cell? ⟨g, 3, none⟩ = some (.int .i64 _) := hP.cells.cell 3
            go_wp2
            go_quiet (fail)
            have hbq : Below X2.heap.size X2 (X2.drewN nq) := ⟨rfl, rfl, rfl, Nat.le_refl _, fun _ _ => rfl⟩
            go_wp2_with fail
            go_returns
            unfold RPost
            rw [HR.out]
            exact ⟨_, rfl, dvtyps_nil _ _, (hK2.trans ((Kp.of_below hbq g).more hK2.size)).belowG hgB⟩
  · have hp : parseS s = ([], (allS s).2) := by unfold parseS; rw [if_neg h0]
    rw [hp]
    have d0 : ((((allS s).2.1 : Nat) : Int) == 0) = false := by rw [beq_eq_false_iff_ne]; omega
    clear h0 hp f0
    generalize (allS s).2 = q at *
    generalize (allS s).1 = l at *
    go_enter Try.func10, Try.ntmps10
    go_wp2_with fail
    refine ka.mono ?_
    rintro e W1 ⟨⟨A, c, rfl, ht⟩, hbw⟩
    go_wp2_with fail
    go_returns
    exact ⟨_, rfl, dvtyps_nil _ _, hbw⟩
end Go.Proofs.Ytkeonempmchpnaa
