/- Layer 7: the document's own parser: a relation. Conditions: none. -/
import Derived.Deep.DeepCutAuto
import Derived.Test.YtkeonempmchpnaaRefR
namespace Go.Proofs.Ytkeonempmchpnaa
open Go.RowKit

def DVRel (B : Nat) (w : World) (v : Value) (x : RelP) : Prop := ∃ vs vo, v = .agg #[.string x.name, .string x.view, .string x.edit, .string x.check, vs, vo] ∧ DVSubs B w vs x.subs ∧ DVOps B w vo x.ops
set_option maxRecDepth 100000 in
set_option maxHeartbeats 4000000 in
theorem rrel_any {w : World} {g f : Nat} {q : St} (h : PSt w g q) (hl : lenU q < f) : Calls Try.prog 26 #[.pointer (some ⟨g, 0, none⟩)] w (UPost (DVRel w.heap.size) w g (relU f q)) := by
  have hg := h.size
  go_enter Try.func26, Try.ntmps26
  go_wp2_with fail
  have hS := (h.alloc (.cells #[.string ⟨#[]⟩, .string ⟨#[]⟩, .string ⟨#[]⟩, .string ⟨#[]⟩, .slice none 0 0, .slice none 0 0] 50)).alloc (.cells #[.string ⟨#[]⟩, .string ⟨#[]⟩, .string ⟨#[]⟩, .string ⟨#[]⟩, .slice none 0 0, .slice none 0 0] 50)
  have hB := Bk.new2 w (.cells #[.string ⟨#[]⟩, .string ⟨#[]⟩, .string ⟨#[]⟩, .string ⟨#[]⟩, .slice none 0 0, .slice none 0 0] 50) #[.string ⟨#[]⟩, .string ⟨#[]⟩, .string ⟨#[]⟩, .string ⟨#[]⟩, .slice none 0 0, .slice none 0 0] 50
  have hZ := (Bk.new w #[.string ⟨#[]⟩, .string ⟨#[]⟩, .string ⟨#[]⟩, .string ⟨#[]⟩, .slice none 0 0, .slice none 0 0] 50).alloc (.cells #[.string ⟨#[]⟩, .string ⟨#[]⟩, .string ⟨#[]⟩, .string ⟨#[]⟩, .slice none 0 0, .slice none 0 0] 50)
  have hK : Kp g w.heap.size w ((w.alloc (.cells #[.string ⟨#[]⟩, .string ⟨#[]⟩, .string ⟨#[]⟩, .string ⟨#[]⟩, .slice none 0 0, .slice none 0 0] 50)).alloc (.cells #[.string ⟨#[]⟩, .string ⟨#[]⟩, .string ⟨#[]⟩, .string ⟨#[]⟩, .slice none 0 0, .slice none 0 0] 50)) := ((Kp.refl g w.heap.size w).alloc (Nat.le_refl _) _).alloc (size_alloc (Nat.le_refl _)) _
  clear h
  generalize (w.alloc (.cells #[.string ⟨#[]⟩, .string ⟨#[]⟩, .string ⟨#[]⟩, .string ⟨#[]⟩, .slice none 0 0, .slice none 0 0] 50)).alloc (.cells #[.string ⟨#[]⟩, .string ⟨#[]⟩, .string ⟨#[]⟩, .string ⟨#[]⟩, .slice none 0 0, .slice none 0 0] 50) = wA at *
  obtain ⟨na, hna⟩ : ∃ r, nameU q = r := ⟨_, rfl⟩
  refine (pname_any hS).mono ?_
  rw [hna]
  rintro e v1 ⟨hk, ⟨v, rfl, hvs⟩, hS2⟩
  obtain rfl : v = .string na.1 := hvs
  replace hK := hK.trans (hk.more hK.size)
  replace hB := hB.kp hk (by omega)
  replace hZ := hZ.kp hk (by omega)
  have q1 := hB.cell 0
  have zz := hB.fz 0
  have ll := hB.lt
  clear hS hk
  go_wp2_with fail
  have hS := hS2.set (a := ⟨w.heap.size + 1, 0, none⟩) (by dsimp only; omega) (.string na.1)
  replace hB : Bk _ (w.heap.size + 1) #[.string na.1, .string ⟨#[]⟩, .string ⟨#[]⟩, .string ⟨#[]⟩, .slice none 0 0, .slice none 0 0] 50 := hB.set 0 (.string na.1)
  replace hZ := hZ.other (a := ⟨w.heap.size + 1, 0, none⟩) (by dsimp only; omega) (.string na.1)
  replace hK := hK.set (a := ⟨w.heap.size + 1, 0, none⟩) (by dsimp only; omega) (.string na.1)
  clear hS2 zz ll q1
  generalize v1.setCell ⟨w.heap.size + 1, 0, none⟩ (.string na.1) = W1 at *
  refine (rneed_any hS (sg_size 40)).mono ?_
  rintro e W2 ⟨hk, ⟨v, rfl, rfl⟩, hS2⟩
  replace hK := hK.trans (hk.more hK.size)
  replace hB := hB.kp hk (by omega)
  replace hZ := hZ.kp hk (by omega)
  clear hS hk
  have hS := hS2
  clear hS2
  go_wp2_with fail
  obtain ⟨nv, hnv⟩ : ∃ r, nameU (needU (sg 40) na.2) = r := ⟨_, rfl⟩
  refine (pname_any hS).mono ?_
  rw [hnv]
  rintro e v3 ⟨hk, ⟨v, rfl, hvs⟩, hS2⟩
  obtain rfl : v = .string nv.1 := hvs
  replace hK := hK.trans (hk.more hK.size)
  replace hB := hB.kp hk (by omega)
  replace hZ := hZ.kp hk (by omega)
  have q3 := hB.cell 1
  have zz := hB.fz 1
  have ll := hB.lt
  clear hS hk
  go_wp2_with fail
  have hS := hS2.set (a := ⟨w.heap.size + 1, 1, none⟩) (by dsimp only; omega) (.string nv.1)
  replace hB : Bk _ (w.heap.size + 1) #[.string na.1, .string nv.1, .string ⟨#[]⟩, .string ⟨#[]⟩, .slice none 0 0, .slice none 0 0] 50 := hB.set 1 (.string nv.1)
  replace hZ := hZ.other (a := ⟨w.heap.size + 1, 1, none⟩) (by dsimp only; omega) (.string nv.1)
  replace hK := hK.set (a := ⟨w.heap.size + 1, 1, none⟩) (by dsimp only; omega) (.string nv.1)
  clear hS2 zz ll q3
  generalize v3.setCell ⟨w.heap.size + 1, 1, none⟩ (.string nv.1) = W3 at *
  refine (rneed_any hS (sg_size 44)).mono ?_
  rintro e W4 ⟨hk, ⟨v, rfl, rfl⟩, hS2⟩
  replace hK := hK.trans (hk.more hK.size)
  replace hB := hB.kp hk (by omega)
  replace hZ := hZ.kp hk (by omega)
  clear hS hk
  have hS := hS2
  clear hS2
  go_wp2_with fail
  obtain ⟨ne, hne⟩ : ∃ r, nameU (needU (sg 44) nv.2) = r := ⟨_, rfl⟩
  refine (pname_any hS).mono ?_
  rw [hne]
  rintro e v5 ⟨hk, ⟨v, rfl, hvs⟩, hS2⟩
  obtain rfl : v = .string ne.1 := hvs
  replace hK := hK.trans (hk.more hK.size)
  replace hB := hB.kp hk (by omega)
  replace hZ := hZ.kp hk (by omega)
  have q5 := hB.cell 2
  have zz := hB.fz 2
  have ll := hB.lt
  clear hS hk
  go_wp2_with fail
  have hS := hS2.set (a := ⟨w.heap.size + 1, 2, none⟩) (by dsimp only; omega) (.string ne.1)
  replace hB : Bk _ (w.heap.size + 1) #[.string na.1, .string nv.1, .string ne.1, .string ⟨#[]⟩, .slice none 0 0, .slice none 0 0] 50 := hB.set 2 (.string ne.1)
  replace hZ := hZ.other (a := ⟨w.heap.size + 1, 2, none⟩) (by dsimp only; omega) (.string ne.1)
  replace hK := hK.set (a := ⟨w.heap.size + 1, 2, none⟩) (by dsimp only; omega) (.string ne.1)
  clear hS2 zz ll q5
  generalize v5.setCell ⟨w.heap.size + 1, 2, none⟩ (.string ne.1) = W5 at *
  refine (rneed_any hS (sg_size 44)).mono ?_
  rintro e W6 ⟨hk, ⟨v, rfl, rfl⟩, hS2⟩
  replace hK := hK.trans (hk.more hK.size)
  replace hB := hB.kp hk (by omega)
  replace hZ := hZ.kp hk (by omega)
  clear hS hk
  have hS := hS2
  clear hS2
  go_wp2_with fail
  obtain ⟨nc, hnc⟩ : ∃ r, nameU (needU (sg 44) ne.2) = r := ⟨_, rfl⟩
  refine (pname_any hS).mono ?_
  rw [hnc]
  rintro e v7 ⟨hk, ⟨v, rfl, hvs⟩, hS2⟩
  obtain rfl : v = .string nc.1 := hvs
  replace hK := hK.trans (hk.more hK.size)
  replace hB := hB.kp hk (by omega)
  replace hZ := hZ.kp hk (by omega)
  have q7 := hB.cell 3
  have zz := hB.fz 3
  have ll := hB.lt
  clear hS hk
  go_wp2_with fail
  have hS := hS2.set (a := ⟨w.heap.size + 1, 3, none⟩) (by dsimp only; omega) (.string nc.1)
  replace hB : Bk _ (w.heap.size + 1) #[.string na.1, .string nv.1, .string ne.1, .string nc.1, .slice none 0 0, .slice none 0 0] 50 := hB.set 3 (.string nc.1)
  replace hZ := hZ.other (a := ⟨w.heap.size + 1, 3, none⟩) (by dsimp only; omega) (.string nc.1)
  replace hK := hK.set (a := ⟨w.heap.size + 1, 3, none⟩) (by dsimp only; omega) (.string nc.1)
  clear hS2 zz ll q7
  generalize v7.setCell ⟨w.heap.size + 1, 3, none⟩ (.string nc.1) = W7 at *
  refine (rneed_any hS (sg_size 41)).mono ?_
  rintro e W8 ⟨hk, ⟨v, rfl, rfl⟩, hS2⟩
  replace hK := hK.trans (hk.more hK.size)
  replace hB := hB.kp hk (by omega)
  replace hZ := hZ.kp hk (by omega)
  clear hS hk
  have hS := hS2
  clear hS2
  go_wp2_with fail
  refine (rneed_any hS (sg_size 58)).mono ?_
  rintro e W9 ⟨hk, ⟨v, rfl, rfl⟩, hS2⟩
  replace hK := hK.trans (hk.more hK.size)
  replace hB := hB.kp hk (by omega)
  replace hZ := hZ.kp hk (by omega)
  clear hS hk
  have hS := hS2
  clear hS2
  obtain ⟨q9, h9⟩ : ∃ r, needU (sg 58) (needU (sg 41) nc.2) = r := ⟨_, rfl⟩
  rw [h9] at hS
  obtain ⟨bb, hbb⟩ : ∃ b, (goodU q9 && !isU sIs q9 && !isU (sg 59) q9) = b := ⟨_, rfl⟩
  have ks := fun W H => ris_any (w := W) (g := g) (q := q9) H sIs
  have kc := fun W H => ris_any (w := W) (g := g) (q := q9) H (sg 59)
  go_upto_region 11 with (fail)
  go_cut [4] from 29 to 43 (fun vm wc => vm = .bool bb ∧ Below W9.heap.size W9 wc)
  case first =>
    as_aux_lemma =>
      obtain ⟨A, c, T, i, e, p, hP, hs⟩ := id hS
      have u2 : W9.cell? ⟨g, 2, none⟩ = some (.int .i64 e) := hP.cells.cell 2
      cases q9 with
      | error x =>
        obtain ⟨rfl, hx, rfl⟩ := hs
        have d0 : (((x.1 : Nat) : Int) == 0) = false := by rw [beq_eq_false_iff_ne]; omega
        obtain rfl : bb = false := hbb.symm
        go_wp2
        go_meet
        exact ⟨rfl, Below.refl _ _⟩
      | ok l =>
        obtain ⟨rfl, rfl⟩ := hs
        cases b1 : isU sIs (.ok (T.drop i)) with
        | true =>
          rw [b1] at ks
          obtain rfl : bb = false := by rw [← hbb, b1]; rfl
          go_wp2_with fail
          refine (ks _ hS).mono ?_
          rintro e x0 ⟨rfl, hx⟩
          go_wp2_with fail
          go_meet
          exact ⟨rfl, hx⟩
        | false =>
          rw [b1] at ks
          have hb2 : (!isU (sg 59) (.ok (T.drop i))) = bb := by rw [← hbb, b1]; rfl
          subst hb2
          go_wp2_with fail
          refine (ks _ hS).mono ?_
          rintro e x0 ⟨rfl, hx⟩
          have g0 := hS.below hx
          go_wp2_with fail
          refine (kc _ g0).mono ?_
          rintro e x1 ⟨rfl, hx1⟩
          go_wp2_with fail
          go_meet
          exact ⟨rfl, hx.trans (hx1.mono hx.size)⟩
  case rest =>
  obtain ⟨rfl, hb⟩ := hcut
  replace hS := hS.below hb
  replace hB := hB.below hb
  replace hZ := hZ.below hb
  replace hK := hK.trans ((Kp.of_below hb g).more hK.size)
  clear ks kc hb
  obtain ⟨R, hR⟩ : ∃ r, (if bb = true then whoU f [] q9 else ([], q9)) = r := ⟨_, rfl⟩
  have hl9 : lenU q9 ≤ lenU q := by
    have a1 := @len_name q
    have a2 := @len_need (sg 40) na.2
    have a3 := @len_name (needU (sg 40) na.2)
    have a4 := @len_need (sg 44) nv.2
    have a5 := @len_name (needU (sg 44) nv.2)
    have a6 := @len_need (sg 44) ne.2
    have a7 := @len_name (needU (sg 44) ne.2)
    have a8 := @len_need (sg 41) nc.2
    have a9 := @len_need (sg 58) (needU (sg 41) nc.2)
    rw [hna] at a1
    rw [hnv] at a3
    rw [hne] at a5
    rw [hnc] at a7
    rw [h9] at a9
    omega
  have hU : relU f q = (⟨na.1, nv.1, ne.1, nc.1, R.1, (if isU sIs R.2 = true then rewU f 0 (upU R.2) else ([(1, ⟨#[]⟩, ⟨#[]⟩)], R.2)).1⟩, needU (sg 59) (if isU sIs R.2 = true then rewU f 0 (upU R.2) else ([(1, ⟨#[]⟩, ⟨#[]⟩)], R.2)).2) := by
    unfold relU
    simp only [andU, hna, hnv, hne, hnc, h9, hbb, hR]
  have HU := Lib.hid hU
  have hf9 := hS.few
  clear hU hna hnv hne hnc h9 hbb
  go_wp2
  go_loopw [4] (fun vm wx => ∃ b acc q2 vs, vm = .bool b ∧ PSt wx g q2 ∧ Kp g w.heap.size w wx ∧ Bk wx (w.heap.size + 1) #[.string na.1, .string nv.1, .string ne.1, .string nc.1, vs, .slice none 0 0] 50 ∧ Bk wx w.heap.size #[.string ⟨#[]⟩, .string ⟨#[]⟩, .string ⟨#[]⟩, .string ⟨#[]⟩, .slice none 0 0, .slice none 0 0] 50 ∧ DVSubs (w.heap.size + 2) wx vs acc ∧ ((b = true ∧ ∃ f2, lenU q2 < f2 ∧ whoU f2 acc q2 = R) ∨ (b = false ∧ (acc, q2) = R)) ∧ lenU q2 ≤ lenU q ∧ (b = true → acc.length + 2 * lenU q2 ≤ 2000002)) (fun vm wx => match vm with
    | .bool true => leftU wx g + 1
    | _ => 0)
  case atStart =>
    refine ⟨bb, [], q9, .slice none 0 0, rfl, hS, hK, hB, hZ, World.ownsRow_nil _ _ _ _, ?_, hl9, ?_⟩
    · cases bb with
      | true => exact .inl ⟨rfl, f, by omega, hR⟩
      | false => exact .inr ⟨rfl, hR⟩
    · intro _
      simp only [List.length_nil]
      omega
  case round =>
    clear hS hK hB hZ hR hl9 hf9
    obtain ⟨b, acc, q2, vs, rfl, hS, hK, hB, hZ, hv, hM, hl2, hacc⟩ := hrel
    rcases hM with ⟨rfl, f2, hf2, hM⟩ | ⟨rfl, hM⟩
    · obtain ⟨As, cS, rfl, _⟩ := Rd.own hv
      have hlf := hS.left
      have hfw := hS.few
      replace hacc := hacc rfl
      clear HU
      obtain ⟨n, rfl⟩ : ∃ n, f2 = n + 1 := ⟨f2 - 1, by omega⟩
      obtain ⟨xa, hxa⟩ : ∃ r, nameU q2 = r := ⟨_, rfl⟩
      have hlx := @len_name q2
      unfold whoU at hM
      rw [hxa] at hM hlx
      go_wp2_with fail
      refine (pname_any hS).mono ?_
      rw [hxa]
      rintro e w1 ⟨hk, ⟨v, rfl, hvs⟩, hS1⟩
      obtain rfl : v = .string xa.1 := hvs
      replace hK := hK.trans (hk.more hK.size)
      replace hB := hB.kp hk (by omega)
      replace hZ := hZ.kp hk (by omega)
      replace hv := own_kp hv hk (by omega)
      clear hS hk hxa
      have hlb := hB.lt
      have hal : Below w1.heap.size w1 (w1.alloc (.cells #[.string xa.1, .string ⟨#[]⟩] 79)) := (Below.refl _ w1).alloc (Nat.le_refl _) _
      have bS0 := Bk.new w1 #[.string xa.1, .string ⟨#[]⟩] 79
      have hS2 := hS1.below hal
      have hv1 := hv
      have KB := (Kp.refl g w1.heap.size w1).alloc (Nat.le_refl _) (.cells #[.string xa.1, .string ⟨#[]⟩] 79)
      replace hB := hB.below hal
      replace hZ := hZ.below hal
      replace hv := own_below hv hal
      replace hK := hK.trans ((Kp.of_below hal g).more hK.size)
      clear hal hS1
      have kd := fun W' H => ris_any (w := W') (g := g) (q := xa.2) H (sg 35)
      go_wp2_with fail
      generalize w1.alloc (.cells #[.string xa.1, .string ⟨#[]⟩] 79) = W1x at *
      generalize hbs : w1.heap.size = bs at *
      refine (kd _ hS2).mono ?_
      rintro e W ⟨rfl, hx⟩
      have hS := hS2.below hx
      have bS := bS0.below hx
      replace hB := hB.below hx
      replace hZ := hZ.below hx
      replace hv := own_below hv hx
      replace hK := hK.trans ((Kp.of_below hx g).more hK.size)
      replace KB := KB.trans ((Kp.of_below hx g).more (by rw [← hbs]; exact KB.size))
      clear hx hS2 bS0 kd
      cases hdd : isU (sg 35) xa.2 with
      | false =>
        have hlq : lenU xa.2 ≤ lenU q2 := hlx
        simp only [andU, hdd, Bool.false_eq_true, ↓reduceIte] at hM
        have c0 : W.cell? ⟨bs, 0, none⟩ = some (.string xa.1) := bS.cell 0
        have c1 : W.cell? ⟨bs, 1, none⟩ = some (.string (⟨#[]⟩ : ByteArray)) := bS.cell 1
        have ls := bS.lt
        have x4 : W.cell? ⟨w.heap.size + 1, 4, none⟩ = some (.slice As acc.length cS) := hB.cell 4
        have lb := hB.lt
        obtain ⟨i0, hi0, hz0, hz1, hz2⟩ := info_parts dinfo_sub
        have kcm := fun W' H => ris_any (w := W') (g := g) (q := xa.2) H (sg 44)
        go_wp2_with (at_builtin; refine wpList_append_src _ rfl (.tmp 61) (.tmp 63) 47 47 rfl (w.heap.size + 2) 79 i0 (.agg #[.string .empty, .string .empty]) 2 32 Try.underlying47 hi0 hz0 hz1 hz2 rfl (by decide) _ acc.length (scells acc) rfl (World.ownsRow.alloc hv _) _ 1 [.string xa.1, .string (⟨#[]⟩ : ByteArray)] rfl (Src.ofSlice _ Try.underlying47 _ 1 1 _ rfl (cells_new2 _ _ _ _) (scell_one (xa.1, (⟨#[]⟩ : ByteArray)))) (by simp only [maxLen]; omega) (by omega) (size_alloc (by omega)) ?_; intro v1 Y hown1 hg1 hat1; obtain ⟨Ay, cy, rfl, _⟩ := Rd.own hown1; have hB6 := hB.grown (v := .slice As acc.length cS) hg1 hv (by omega); have x6 := hB6.cell 4; have fz := hB6.fz 4; have lb6 := hB6.lt)
        have hS2 := hS.grown (v := .slice As acc.length cS) hg1 hv (by omega)
        have hZ6 := hZ.grown (v := .slice As acc.length cS) hg1 hv (by omega)
        have hK6 := kp_grown (v := .slice As acc.length cS) hK hg1 hv hK.size (by omega)
        have hS := hS2.set (a := ⟨w.heap.size + 1, 4, none⟩) (by dsimp only; omega) (.slice Ay (acc.length + 1) cy)
        have hB : Bk _ (w.heap.size + 1) #[.string na.1, .string nv.1, .string ne.1, .string nc.1, .slice Ay (acc.length + 1) cy, .slice none 0 0] 50 := hB6.set 4 (.slice Ay (acc.length + 1) cy)
        have hZ := hZ6.other (a := ⟨w.heap.size + 1, 4, none⟩) (by dsimp only; omega) (.slice Ay (acc.length + 1) cy)
        have hK := hK6.set (a := ⟨w.heap.size + 1, 4, none⟩) (by dsimp only; omega) (.slice Ay (acc.length + 1) cy)
        have hv7 := own_set (a := ⟨w.heap.size + 1, 4, none⟩) hown1 (by dsimp only; omega) (.slice Ay (acc.length + 1) cy)
        have hv8 : DVSubs (w.heap.size + 2) (Y.setCell ⟨w.heap.size + 1, 4, none⟩ (.slice Ay (acc.length + 1) cy)) (.slice Ay (acc.length + 1) cy) (acc ++ [(xa.1, (⟨#[]⟩ : ByteArray))]) := by
          unfold DVSubs
          rw [List.length_append, scells_app]
          exact hv7
        clear hS2 hZ6 hB6 hK6 hv7 hown1 hg1 hat1 x6 fz lb6 c0 c1 x4 bS
        generalize Y.setCell ⟨w.heap.size + 1, 4, none⟩ (.slice Ay (acc.length + 1) cy) = Y2 at *
        refine (kcm _ hS).mono ?_
        rintro e Y3 ⟨rfl, hx⟩
        have hS9 := hS.below hx
        replace hB := hB.below hx
        replace hZ := hZ.below hx
        have hv9 : DVSubs (w.heap.size + 2) _ (.slice Ay (acc.length + 1) cy) (acc ++ [(xa.1, (⟨#[]⟩ : ByteArray))]) := own_below hv8 hx
        replace hK := hK.trans ((Kp.of_below hx g).more hK.size)
        clear hS hx kcm hv8
        cases hcm : isU (sg 44) xa.2 with
        | false =>
          rw [hcm, if_neg (by decide)] at hM
          go_wp2_with fail
          refine ⟨⟨false, acc ++ [(xa.1, (⟨#[]⟩ : ByteArray))], xa.2, _, rfl, hS9, hK, hB, hZ, hv9, .inr ⟨rfl, hM⟩, by omega, fun hh => by cases hh⟩, ?_⟩
          · show 0 < leftU _ _ + 1
            omega
        | true =>
          rw [hcm, if_pos rfl] at hM
          have hlc := len_is (sg_size 44) hcm
          obtain ⟨lc, hqm, he⟩ := isU_ok hcm
          rw [hqm] at hS9 hM hlc hlq
          obtain ⟨A, c, T, i, e, p, hP, rfl, rfl⟩ := hS9
          have hf := hP.fine.next (sg_size 44) he
          obtain ⟨_, _, _, hiT, _⟩ := hP.get
          have hmT := hP.few
          have u1 : Y3.cell? ⟨g, 1, none⟩ = some (.int .i64 i) := hP.cells.cell 1
          have z1 := hP.cells.fz 1
          have lt1 := hP.cells.lt
          go_wp2_with fail
          have h3 := hP.up hf
          refine ⟨⟨true, acc ++ [(xa.1, (⟨#[]⟩ : ByteArray))], _, _, rfl, h3, hK.trans (kp_at g w.heap.size Y3 1 _), hB.other (a := ⟨g, 1, none⟩) (by dsimp only; omega) _, hZ.other (a := ⟨g, 1, none⟩) (by dsimp only; omega) _, own_set (a := ⟨g, 1, none⟩) hv9 (by dsimp only; omega) _, .inl ⟨rfl, n, by omega, hM⟩, by omega, ?_⟩, ?_⟩
          · intro _
            rw [List.length_append, List.length_singleton]
            omega
          · show leftU _ _ + 1 < leftU _ _ + 1
            rw [h3.left, hlf]
            omega
      | true =>
        obtain ⟨xm, hxm⟩ : ∃ r, nameU (upU xa.2) = r := ⟨_, rfl⟩
        have hlm := @len_name (upU xa.2)
        have hlp := @len_up xa.2
        rw [hxm] at hlm
        have hlq : lenU xm.2 ≤ lenU q2 := by omega
        simp only [andU, hdd, ↓reduceIte, hxm] at hM
        obtain ⟨ld, hqd, he⟩ := isU_ok hdd
        rw [hqd] at hS hxm
        obtain ⟨A, c, T, i, e, p, hP, rfl, rfl⟩ := hS
        have hf := hP.fine.next (sg_size 35) he
        obtain ⟨_, _, _, hiT, _⟩ := hP.get
        have hmT := hP.few
        have u1 : W.cell? ⟨g, 1, none⟩ = some (.int .i64 i) := hP.cells.cell 1
        have z1 := hP.cells.fz 1
        have lt1 := hP.cells.lt
        have hbg : g < bs := by omega
        go_wp2_with fail
        have h3 := hP.up hf
        replace hK := hK.trans (kp_at g w.heap.size W 1 (.int .i64 ((i : Int) + 1)))
        replace hB := hB.other (a := ⟨g, 1, none⟩) (by dsimp only; omega) (.int .i64 ((i : Int) + 1))
        replace hZ := hZ.other (a := ⟨g, 1, none⟩) (by dsimp only; omega) (.int .i64 ((i : Int) + 1))
        replace bS := bS.other (a := ⟨g, 1, none⟩) (by dsimp only; omega) (.int .i64 ((i : Int) + 1))
        replace hv := own_set (a := ⟨g, 1, none⟩) hv (by dsimp only; omega) (.int .i64 ((i : Int) + 1))
        replace KB := KB.trans (kp_at g bs W 1 (.int .i64 ((i : Int) + 1)))
        clear hP u1 z1 lt1
        generalize W.setCell ⟨g, 1, none⟩ (.int .i64 ((i : Int) + 1)) = Wi at *
        refine (pname_any h3).mono ?_
        rw [hxm]
        rintro e Wj ⟨hk, ⟨v, rfl, hvs⟩, hS4⟩
        obtain rfl : v = .string xm.1 := hvs
        replace hK := hK.trans (hk.more hK.size)
        replace hB := hB.kp hk (by omega)
        replace hZ := hZ.kp hk (by omega)
        replace bS := bS.kp hk (by omega)
        replace hv := own_kp hv hk (by omega)
        have b1 := bS.cell 1
        have fb := bS.fz 1
        have lbs := bS.lt
        replace KB := KB.trans (hk.more (by rw [← hbs]; exact KB.size))
        clear h3 hk
        go_upto_region 17 with (fail)
        have hS := hS4.set (a := ⟨bs, 1, none⟩) (by dsimp only; omega) (.string xm.1)
        replace bS : Bk _ bs #[.string xa.1, .string xm.1] 79 := bS.set 1 (.string xm.1)
        replace hB := hB.other (a := ⟨bs, 1, none⟩) (by dsimp only; omega) (.string xm.1)
        replace hZ := hZ.other (a := ⟨bs, 1, none⟩) (by dsimp only; omega) (.string xm.1)
        replace hK := hK.set (a := ⟨bs, 1, none⟩) (by dsimp only; omega) (.string xm.1)
        replace KB := KB.set (a := ⟨bs, 1, none⟩) (Nat.le_refl _) (.string xm.1)
        subst hbs
        replace hv := own_kp hv1 KB (by omega)
        clear hS4 KB hv1 b1 fb lbs
        generalize hbs : w1.heap.size = bs at *
        generalize Wj.setCell ⟨bs, 1, none⟩ (.string xm.1) = W at *
        have c0 : W.cell? ⟨bs, 0, none⟩ = some (.string xa.1) := bS.cell 0
        have c1 : W.cell? ⟨bs, 1, none⟩ = some (.string xm.1) := bS.cell 1
        have ls := bS.lt
        have x4 : W.cell? ⟨w.heap.size + 1, 4, none⟩ = some (.slice As acc.length cS) := hB.cell 4
        have lb := hB.lt
        obtain ⟨i0, hi0, hz0, hz1, hz2⟩ := info_parts dinfo_sub
        have kcm := fun W' H => ris_any (w := W') (g := g) (q := xm.2) H (sg 44)
        go_wp2_with (at_builtin; refine wpList_append_src _ rfl (.tmp 61) (.tmp 63) 47 47 rfl (w.heap.size + 2) 79 i0 (.agg #[.string .empty, .string .empty]) 2 32 Try.underlying47 hi0 hz0 hz1 hz2 rfl (by decide) _ acc.length (scells acc) rfl (World.ownsRow.alloc hv _) _ 1 [.string xa.1, .string xm.1] rfl (Src.ofSlice _ Try.underlying47 _ 1 1 _ rfl (cells_new2 _ _ _ _) (scell_one (xa.1, xm.1))) (by simp only [maxLen]; omega) (by omega) (size_alloc (by omega)) ?_; intro v1 Y hown1 hg1 hat1; obtain ⟨Ay, cy, rfl, _⟩ := Rd.own hown1; have hB6 := hB.grown (v := .slice As acc.length cS) hg1 hv (by omega); have x6 := hB6.cell 4; have fz := hB6.fz 4; have lb6 := hB6.lt)
        have hS2 := hS.grown (v := .slice As acc.length cS) hg1 hv (by omega)
        have hZ6 := hZ.grown (v := .slice As acc.length cS) hg1 hv (by omega)
        have hK6 := kp_grown (v := .slice As acc.length cS) hK hg1 hv hK.size (by omega)
        have hS := hS2.set (a := ⟨w.heap.size + 1, 4, none⟩) (by dsimp only; omega) (.slice Ay (acc.length + 1) cy)
        have hB : Bk _ (w.heap.size + 1) #[.string na.1, .string nv.1, .string ne.1, .string nc.1, .slice Ay (acc.length + 1) cy, .slice none 0 0] 50 := hB6.set 4 (.slice Ay (acc.length + 1) cy)
        have hZ := hZ6.other (a := ⟨w.heap.size + 1, 4, none⟩) (by dsimp only; omega) (.slice Ay (acc.length + 1) cy)
        have hK := hK6.set (a := ⟨w.heap.size + 1, 4, none⟩) (by dsimp only; omega) (.slice Ay (acc.length + 1) cy)
        have hv7 := own_set (a := ⟨w.heap.size + 1, 4, none⟩) hown1 (by dsimp only; omega) (.slice Ay (acc.length + 1) cy)
        have hv8 : DVSubs (w.heap.size + 2) (Y.setCell ⟨w.heap.size + 1, 4, none⟩ (.slice Ay (acc.length + 1) cy)) (.slice Ay (acc.length + 1) cy) (acc ++ [(xa.1, xm.1)]) := by
          unfold DVSubs
          rw [List.length_append, scells_app]
          exact hv7
        clear hS2 hZ6 hB6 hK6 hv7 hown1 hg1 hat1 x6 fz lb6 c0 c1 x4 bS
        generalize Y.setCell ⟨w.heap.size + 1, 4, none⟩ (.slice Ay (acc.length + 1) cy) = Y2 at *
        refine (kcm _ hS).mono ?_
        rintro e Y3 ⟨rfl, hx⟩
        have hS9 := hS.below hx
        replace hB := hB.below hx
        replace hZ := hZ.below hx
        have hv9 : DVSubs (w.heap.size + 2) _ (.slice Ay (acc.length + 1) cy) (acc ++ [(xa.1, xm.1)]) := own_below hv8 hx
        replace hK := hK.trans ((Kp.of_below hx g).more hK.size)
        clear hS hx kcm hv8
        cases hcm : isU (sg 44) xm.2 with
        | false =>
          rw [hcm, if_neg (by decide)] at hM
          go_wp2_with fail
          refine ⟨⟨false, acc ++ [(xa.1, xm.1)], xm.2, _, rfl, hS9, hK, hB, hZ, hv9, .inr ⟨rfl, hM⟩, by omega, fun hh => by cases hh⟩, ?_⟩
          · show 0 < leftU _ _ + 1
            omega
        | true =>
          rw [hcm, if_pos rfl] at hM
          have hlc := len_is (sg_size 44) hcm
          obtain ⟨lc, hqm, he⟩ := isU_ok hcm
          rw [hqm] at hS9 hM hlc hlq
          obtain ⟨A, c, T, i, e, p, hP, rfl, rfl⟩ := hS9
          have hf := hP.fine.next (sg_size 44) he
          obtain ⟨_, _, _, hiT, _⟩ := hP.get
          have hmT := hP.few
          have u1 : Y3.cell? ⟨g, 1, none⟩ = some (.int .i64 i) := hP.cells.cell 1
          have z1 := hP.cells.fz 1
          have lt1 := hP.cells.lt
          go_wp2_with fail
          have h3 := hP.up hf
          refine ⟨⟨true, acc ++ [(xa.1, xm.1)], _, _, rfl, h3, hK.trans (kp_at g w.heap.size Y3 1 _), hB.other (a := ⟨g, 1, none⟩) (by dsimp only; omega) _, hZ.other (a := ⟨g, 1, none⟩) (by dsimp only; omega) _, own_set (a := ⟨g, 1, none⟩) hv9 (by dsimp only; omega) _, .inl ⟨rfl, n, by omega, hM⟩, by omega, ?_⟩, ?_⟩
          · intro _
            rw [List.length_append, List.length_singleton]
            omega
          · show leftU _ _ + 1 < leftU _ _ + 1
            rw [h3.left, hlf]
            omega
    · subst hM
      obtain ⟨As, cS, rfl, _⟩ := Rd.own hv
      dsimp only at HU
      have ks := ris_any hS sIs
      go_wp2_with fail
      refine ks.mono ?_
      rintro e x0 ⟨rfl, hx⟩
      have hq := hS.below hx
      replace hB := hB.below hx
      replace hZ := hZ.below hx
      replace hv := own_below hv hx
      replace hK := hK.trans ((Kp.of_below hx g).more hK.size)
      clear hS hx
      cases hi : isU sIs q2 with
      | true =>
        obtain ⟨oo, hoo⟩ : ∃ o, (rewU f 0 (upU q2)).1 = o := ⟨_, rfl⟩
        obtain ⟨qq, hqq⟩ : ∃ o, (rewU f 0 (upU q2)).2 = o := ⟨_, rfl⟩
        have hU2 : relU f q = (⟨na.1, nv.1, ne.1, nc.1, acc, oo⟩, needU (sg 59) qq) := by rw [HU.out, if_pos hi, hoo, hqq]
        have HU2 := Lib.hid hU2
        have hlu := @len_up q2
        obtain ⟨l, rfl, he⟩ := isU_ok hi
        obtain ⟨A, c, T, i, e, p, hP, rfl, rfl⟩ := hq
        have hf := hP.fine.next (show 0 < sIs.size by decide) he
        obtain ⟨_, _, _, hiT, _⟩ := hP.get
        have hmT := hP.few
        have u1 : x0.cell? ⟨g, 1, none⟩ = some (.int .i64 i) := hP.cells.cell 1
        have z1 := hP.cells.fz 1
        have lt1 := hP.cells.lt
        have kr := fun W H => (rparts_all f).2 W g (upU (.ok (T.drop i))) 0 H (by omega) (Nat.zero_le _)
        unfold UPost at kr
        rw [hoo, hqq] at kr
        clear hU2 HU hoo hqq hi ks
        go_wp2_with fail
        have h3 := hP.up hf
        have hzl := hZ.lt
        replace hK := hK.trans (kp_at g w.heap.size x0 1 (.int .i64 ((i : Int) + 1)))
        replace hB := hB.other (a := ⟨g, 1, none⟩) (by dsimp only; omega) (.int .i64 ((i : Int) + 1))
        replace hZ := hZ.other (a := ⟨g, 1, none⟩) (by dsimp only; omega) (.int .i64 ((i : Int) + 1))
        replace hv := own_set (a := ⟨g, 1, none⟩) hv (by dsimp only; omega) (.int .i64 ((i : Int) + 1))
        clear hP u1 z1 lt1
        generalize x0.setCell ⟨g, 1, none⟩ (.int .i64 ((i : Int) + 1)) = W at *
        refine (kr W h3).mono ?_
        rintro e W2 ⟨hk, ⟨v, rfl, ho⟩, hS2⟩
        have hbl := hB.lt
        replace hK := hK.trans (hk.more hK.size)
        replace hB := hB.kp hk (by omega)
        replace hZ := hZ.kp hk (by omega)
        replace hv := own_kp hv hk (by omega)
        replace ho : DVOps (w.heap.size + 2) W2 v oo := own_base ho (by omega)
        obtain ⟨Ao, cO, rfl, _⟩ := Rd.own ho
        have x5 := hB.cell 5
        have fz := hB.fz 5
        have lb2 := hB.lt
        clear kr hk h3
        go_wp2_with fail
        have hS := hS2.set (a := ⟨w.heap.size + 1, 5, none⟩) (by dsimp only; omega) (.slice Ao oo.length cO)
        replace hB : Bk _ (w.heap.size + 1) #[.string na.1, .string nv.1, .string ne.1, .string nc.1, .slice As acc.length cS, .slice Ao oo.length cO] 50 := hB.set 5 (.slice Ao oo.length cO)
        replace hZ := hZ.other (a := ⟨w.heap.size + 1, 5, none⟩) (by dsimp only; omega) (.slice Ao oo.length cO)
        replace hK := hK.set (a := ⟨w.heap.size + 1, 5, none⟩) (by dsimp only; omega) (.slice Ao oo.length cO)
        replace hv := own_set (a := ⟨w.heap.size + 1, 5, none⟩) hv (by dsimp only; omega) (.slice Ao oo.length cO)
        replace ho := own_set (a := ⟨w.heap.size + 1, 5, none⟩) ho (by dsimp only; omega) (.slice Ao oo.length cO)
        clear hS2 x5 fz lb2 hbl hzl
        generalize W2.setCell ⟨w.heap.size + 1, 5, none⟩ (.slice Ao oo.length cO) = W3 at *
        refine (rneed_any hS (sg_size 59)).mono ?_
        rintro e W7 ⟨hk, ⟨v, rfl, rfl⟩, hS7⟩
        replace hK := hK.trans (hk.more hK.size)
        replace hB := hB.kp hk (by omega)
        replace hZ := hZ.kp hk (by omega)
        replace hv := own_kp hv hk (by omega)
        replace ho := own_kp ho hk (by omega)
        clear hS hk
        have x0 : W7.cell? ⟨w.heap.size + 1, 0, none⟩ = some (.string na.1) := hB.cell 0
        have y0 : W7.cell? ⟨w.heap.size, 0, none⟩ = some (.string ⟨#[]⟩) := hZ.cell 0
        have x1 : W7.cell? ⟨w.heap.size + 1, 1, none⟩ = some (.string nv.1) := hB.cell 1
        have y1 : W7.cell? ⟨w.heap.size, 1, none⟩ = some (.string ⟨#[]⟩) := hZ.cell 1
        have x2 : W7.cell? ⟨w.heap.size + 1, 2, none⟩ = some (.string ne.1) := hB.cell 2
        have y2 : W7.cell? ⟨w.heap.size, 2, none⟩ = some (.string ⟨#[]⟩) := hZ.cell 2
        have x3 : W7.cell? ⟨w.heap.size + 1, 3, none⟩ = some (.string nc.1) := hB.cell 3
        have y3 : W7.cell? ⟨w.heap.size, 3, none⟩ = some (.string ⟨#[]⟩) := hZ.cell 3
        have x4 : W7.cell? ⟨w.heap.size + 1, 4, none⟩ = some (.slice As acc.length cS) := hB.cell 4
        have y4 : W7.cell? ⟨w.heap.size, 4, none⟩ = some (.slice none 0 0) := hZ.cell 4
        have x5 : W7.cell? ⟨w.heap.size + 1, 5, none⟩ = some (.slice Ao oo.length cO) := hB.cell 5
        have y5 : W7.cell? ⟨w.heap.size, 5, none⟩ = some (.slice none 0 0) := hZ.cell 5
        have fy := hZ.fz
        have hne1 : ¬ w.heap.size + 1 = w.heap.size := by omega
        have hne2 : ¬ w.heap.size = w.heap.size + 1 := by omega
        have lz := hZ.lt
        have lb := hB.lt
        go_wp2_with fail
        refine bodyPost_ret (v := .agg #[.string na.1, .string nv.1, .string ne.1, .string nc.1, .slice As acc.length cS, .slice Ao oo.length cO]) (by simp [results, Try.results26, go_sem, y0, y1, y2, y3, y4, y5]; try rfl) rfl ?_
        unfold UPost
        rw [HU2.out]
        refine ⟨?_, ⟨_, rfl, _, _, rfl, ?_, ?_⟩, ?_⟩
        · refine Kp.set (Kp.set (Kp.set (Kp.set (Kp.set (Kp.set hK ?_ _) ?_ _) ?_ _) ?_ _) ?_ _) ?_ _ <;> exact Nat.le_refl _
        · refine own_base (own_set (own_set (own_set (own_set (own_set (own_set hv ?_ _) ?_ _) ?_ _) ?_ _) ?_ _) ?_ _) (show w.heap.size ≤ w.heap.size + 2 by omega) <;> (show w.heap.size < w.heap.size + 2; omega)
        · refine own_base (own_set (own_set (own_set (own_set (own_set (own_set ho ?_ _) ?_ _) ?_ _) ?_ _) ?_ _) ?_ _) (show w.heap.size ≤ w.heap.size + 2 by omega) <;> (show w.heap.size < w.heap.size + 2; omega)
        · refine PSt.set (PSt.set (PSt.set (PSt.set (PSt.set (PSt.set hS7 ?_ _) ?_ _) ?_ _) ?_ _) ?_ _) ?_ _ <;> exact hg
      | false =>
        obtain ⟨oo, hoo⟩ : ∃ o : List OpP, [(1, ⟨#[]⟩, ⟨#[]⟩)] = o := ⟨_, rfl⟩
        have hU2 : relU f q = (⟨na.1, nv.1, ne.1, nc.1, acc, oo⟩, needU (sg 59) q2) := by rw [HU.out, if_neg (by rw [hi]; decide), ← hoo]
        have HU2 := Lib.hid hU2
        have hl1 : oo.length = 1 := by rw [← hoo]; rfl
        have hcl : ocells oo = [.int .i64 (1 : Nat), .string ⟨#[]⟩, .string ⟨#[]⟩] := by rw [← hoo]; rfl
        clear hU2 HU hi ks hoo
        obtain ⟨i0, hi0, hz0, hz1, hz2⟩ := info_parts dinfo_op
        have x5 : x0.cell? ⟨w.heap.size + 1, 5, none⟩ = some (.slice none 0 0) := hB.cell 5
        have lb2 := hB.lt
        have hn0 : x0.ownsRow (w.heap.size + 2) 80 3 (.slice none 0 0) 0 [] := World.ownsRow_nil _ _ _ _
        go_wp2_with (at_builtin; refine wpList_append_src _ rfl (.tmp 89) (.tmp 91) 48 48 rfl (w.heap.size + 2) 80 i0 (.agg #[.int .i64 0, .string .empty, .string .empty]) 3 40 Try.underlying48 hi0 hz0 hz1 hz2 rfl (by decide) _ 0 [] rfl (World.ownsRow_nil _ _ _ _) _ 1 [.int .i64 (1 : Nat), .string ⟨#[]⟩, .string ⟨#[]⟩] rfl (Src.ofSlice _ Try.underlying48 _ 1 1 _ rfl (cells_new3 _ _ _ _ _) (ocell_one (1, ⟨#[]⟩, ⟨#[]⟩))) (by simp only [maxLen]; omega) (by omega) (size_alloc (by omega)) ?_; intro v1 W2 hown1 hg1 hat1; obtain ⟨Ao, cO, rfl, _⟩ := Rd.own hown1; have hB6 := hB.grown (v := .slice none 0 0) hg1 hn0 (by omega); have x6 := hB6.cell 5; have fz := hB6.fz 5; have lb6 := hB6.lt)
        have hS2 := hq.grown (v := .slice none 0 0) hg1 hn0 (by omega)
        have hZ6 := hZ.grown (v := .slice none 0 0) hg1 hn0 (by omega)
        have hK6 := kp_grown (v := .slice none 0 0) hK hg1 hn0 hK.size (by omega)
        have hv6 := own_grown (World.ownsRow.alloc hv (.cells #[.int .i64 1, .string ⟨#[]⟩, .string ⟨#[]⟩] 80)) (World.ownsRow.alloc hn0 _) (by decide) hg1
        have ho6 : DVOps (w.heap.size + 2) W2 (.slice Ao oo.length cO) oo := by
          unfold DVOps
          rw [hl1, hcl]
          exact hown1
        clear hown1 hg1 hat1 hB hZ hK hv hq hn0 x5
        have hS := hS2.set (a := ⟨w.heap.size + 1, 5, none⟩) (by dsimp only; omega) (.slice Ao oo.length cO)
        have hB : Bk _ (w.heap.size + 1) #[.string na.1, .string nv.1, .string ne.1, .string nc.1, .slice As acc.length cS, .slice Ao oo.length cO] 50 := hB6.set 5 (.slice Ao oo.length cO)
        have hZ := hZ6.other (a := ⟨w.heap.size + 1, 5, none⟩) (by dsimp only; omega) (.slice Ao oo.length cO)
        have hK := hK6.set (a := ⟨w.heap.size + 1, 5, none⟩) (by dsimp only; omega) (.slice Ao oo.length cO)
        have hv := own_set (a := ⟨w.heap.size + 1, 5, none⟩) hv6 (by dsimp only; omega) (.slice Ao oo.length cO)
        have ho := own_set (a := ⟨w.heap.size + 1, 5, none⟩) ho6 (by dsimp only; omega) (.slice Ao oo.length cO)
        clear hS2 x6 fz lb2 lb6 hZ6 hB6 hK6 hv6 ho6
        rw [hl1] at hS hB hZ hK hv ho
        generalize W2.setCell ⟨w.heap.size + 1, 5, none⟩ (.slice Ao 1 cO) = W3 at *
        refine (rneed_any hS (sg_size 59)).mono ?_
        rintro e W7 ⟨hk, ⟨v, rfl, rfl⟩, hS7⟩
        replace hK := hK.trans (hk.more hK.size)
        replace hB := hB.kp hk (by omega)
        replace hZ := hZ.kp hk (by omega)
        replace hv := own_kp hv hk (by omega)
        replace ho := own_kp ho hk (by omega)
        clear hS hk
        have x0 : W7.cell? ⟨w.heap.size + 1, 0, none⟩ = some (.string na.1) := hB.cell 0
        have y0 : W7.cell? ⟨w.heap.size, 0, none⟩ = some (.string ⟨#[]⟩) := hZ.cell 0
        have x1 : W7.cell? ⟨w.heap.size + 1, 1, none⟩ = some (.string nv.1) := hB.cell 1
        have y1 : W7.cell? ⟨w.heap.size, 1, none⟩ = some (.string ⟨#[]⟩) := hZ.cell 1
        have x2 : W7.cell? ⟨w.heap.size + 1, 2, none⟩ = some (.string ne.1) := hB.cell 2
        have y2 : W7.cell? ⟨w.heap.size, 2, none⟩ = some (.string ⟨#[]⟩) := hZ.cell 2
        have x3 : W7.cell? ⟨w.heap.size + 1, 3, none⟩ = some (.string nc.1) := hB.cell 3
        have y3 : W7.cell? ⟨w.heap.size, 3, none⟩ = some (.string ⟨#[]⟩) := hZ.cell 3
        have x4 : W7.cell? ⟨w.heap.size + 1, 4, none⟩ = some (.slice As acc.length cS) := hB.cell 4
        have y4 : W7.cell? ⟨w.heap.size, 4, none⟩ = some (.slice none 0 0) := hZ.cell 4
        have x5 : W7.cell? ⟨w.heap.size + 1, 5, none⟩ = some (.slice Ao 1 cO) := hB.cell 5
        have y5 : W7.cell? ⟨w.heap.size, 5, none⟩ = some (.slice none 0 0) := hZ.cell 5
        have fy := hZ.fz
        have hne1 : ¬ w.heap.size + 1 = w.heap.size := by omega
        have hne2 : ¬ w.heap.size = w.heap.size + 1 := by omega
        have lz := hZ.lt
        have lb := hB.lt
        go_wp2_with fail
        refine bodyPost_ret (v := .agg #[.string na.1, .string nv.1, .string ne.1, .string nc.1, .slice As acc.length cS, .slice Ao 1 cO]) (by simp [results, Try.results26, go_sem, y0, y1, y2, y3, y4, y5]; try rfl) rfl ?_
        unfold UPost
        rw [HU2.out]
        refine ⟨?_, ⟨_, rfl, _, _, rfl, ?_, ?_⟩, ?_⟩
        · refine Kp.set (Kp.set (Kp.set (Kp.set (Kp.set (Kp.set hK ?_ _) ?_ _) ?_ _) ?_ _) ?_ _) ?_ _ <;> exact Nat.le_refl _
        · refine own_base (own_set (own_set (own_set (own_set (own_set (own_set hv ?_ _) ?_ _) ?_ _) ?_ _) ?_ _) ?_ _) (show w.heap.size ≤ w.heap.size + 2 by omega) <;> (show w.heap.size < w.heap.size + 2; omega)
        · dsimp only; unfold DVOps; rw [hl1]; refine own_base (own_set (own_set (own_set (own_set (own_set (own_set ho ?_ _) ?_ _) ?_ _) ?_ _) ?_ _) ?_ _) (show w.heap.size ≤ w.heap.size + 2 by omega) <;> (show w.heap.size < w.heap.size + 2; omega)
        · refine PSt.set (PSt.set (PSt.set (PSt.set (PSt.set (PSt.set hS7 ?_ _) ?_ _) ?_ _) ?_ _) ?_ _) ?_ _ <;> exact hg
end Go.Proofs.Ytkeonempmchpnaa
