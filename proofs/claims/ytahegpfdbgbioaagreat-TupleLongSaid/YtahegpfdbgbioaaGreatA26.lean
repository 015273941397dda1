import Derived.Test.YtahegpfdbgbioaaGreatA24
import Derived.Test.YtahegpfdbgbioaaGreatA25
set_option maxRecDepth 100000
set_option maxHeartbeats 4000000
namespace Go.Proofs.YtahegpfdbgbioaaGreat
open Go.RowKit Go.Maps
def relsTT (T : List TypI) (v : List Int) : List RelT := (relsOf T).zipIdx.map fun x => relT11 (pathsOf T) (lvAt v x.2) x.1
theorem relsK_T (l : List TypA) (v : List Int) : relsK (pathsA (relsA l)) v (relsA l) = relsTT (l.map TypA.says) v := by
 unfold relsK relsTT
 rw [pathsA_of, ← relsA_says, List.zipIdx_map, List.map_map]
 rfl
inductive CompIs (s : ByteArray) : Nat → ByteArray → List ByteArray → List Path → List RelT → Prop
 | parse (e : Nat) (h : (parseS s).2.1 = e) (h0 : e ≠ 0) : CompIs s e ⟨#[]⟩ [] [] []
 | check (e : Nat) (h1 : (parseS s).2.1 = 0) (h : (checkE ((parseS s).1.map typI)).1 = e) (h0 : e ≠ 0) : CompIs s e ⟨#[]⟩ [] [] []
 | cyc (h1 : (parseS s).2.1 = 0) (hR : Right ((parseS s).1.map typI)) (hc : Cyc (edgesP ((parseS s).1.map typI))) : CompIs s 33 ⟨#[]⟩ [] [] []
 | long (h1 : (parseS s).2.1 = 0) (hR : Right ((parseS s).1.map typI)) (hc : ¬ Cyc (edgesP ((parseS s).1.map typI))) (hz : 2048 < (showS (parseS s).1).size) : CompIs s 13 ⟨#[]⟩ [] [] []
 | ok (h1 : (parseS s).2.1 = 0) (hR : Right ((parseS s).1.map typI)) (v : List Int) (hv : v.length = (relsOf ((parseS s).1.map typI)).length) (hi : InR v.length (edgesP ((parseS s).1.map typI))) (hL : Least v.length (edgesP ((parseS s).1.map typI)) (lvAt v)) (hz : (showS (parseS s).1).size ≤ 2048) :
  CompIs s 0 (showS (parseS s).1) ((parseS s).1.map (·.name)) (pathsOf ((parseS s).1.map typI)) (relsTT ((parseS s).1.map typI) v)
structure TabA (w : World) (Ay : Option Addr) (cy : Nat) (ty : List ByteArray) (mb : Option Nat) (ps : List Path) (Ar : Option Addr) (cr : Nat) (K : List TabR) : Prop where
 types : Rd w w.heap.size 1 Ay ty.length cy (ty.map Value.string)
 ids : MapO w mb ps
 rels : TabK w Ar cr K
theorem TabA.up {w w' : World} {Ay : Option Addr} {cy : Nat} {ty : List ByteArray} {mb : Option Nat} {ps : List Path} {Ar : Option Addr} {cr : Nat} {K : List TabR} (h : TabA w Ay cy ty mb ps Ar cr K) (hb : Below w.heap.size w w') : TabA w' Ay cy ty mb ps Ar cr K := ⟨h.types.up hb, h.ids.up hb, h.rels.up hb⟩
theorem TabA.none_ (w : World) : TabA w none 0 [] none [] none 0 [] := ⟨Rd.none_ _ _ _, .inl ⟨rfl, rfl⟩, ⟨Rd.none_ _ _ _, fun x hx => by cases hx⟩⟩
def CompPost (s : ByteArray) (w : World) (e : Ending) (w' : World) : Prop :=
 (∃ tx Ay cy ty mb ps Ar cr K, ∃ err : Nat, e = .returned (.tuple #[.agg #[.string tx, .slice Ay ty.length cy, .map mb, .slice Ar K.length cr], .int .i64 err]) ∧ TabA w' Ay cy ty mb ps Ar cr K ∧ CompIs s err tx ty ps (K.map (·.r))) ∧ Below w.heap.size w w'
theorem set4 {w w0 : World} {B b : Nat} {t : TypeId} {x0 x1 x2 x3 : Value} (h : Bk w0 b #[x0, x1, x2, x3] t) (hb : Below B w w0) (hB : B ≤ b) (v0 v1 v2 v3 : Value) :
 Bk ((((w0.setCell ⟨b, 0, none⟩ v0).setCell ⟨b, 1, none⟩ v1).setCell ⟨b, 2, none⟩ v2).setCell ⟨b, 3, none⟩ v3) b #[v0, v1, v2, v3] t ∧
 Below B w ((((w0.setCell ⟨b, 0, none⟩ v0).setCell ⟨b, 1, none⟩ v1).setCell ⟨b, 2, none⟩ v2).setCell ⟨b, 3, none⟩ v3) :=
 ⟨by
  have hw := (((h.set 0 v0).set 1 v1).set 2 v2).set 3 v3
  simp only [List.setIfInBounds_toArray, List.set_cons_zero, List.set_cons_succ] at hw
  exact hw, (((hb.setCell hB _).setCell hB _).setCell hB _).setCell hB _⟩
theorem Bk.c4 {w : World} {b : Nat} {t : TypeId} {x0 x1 x2 x3 : Value} (h : Bk w b #[x0, x1, x2, x3] t) : w.cell? ⟨b, 0, none⟩ = some x0 ∧ w.cell? ⟨b, 1, none⟩ = some x1 ∧ w.cell? ⟨b, 2, none⟩ = some x2 ∧ w.cell? ⟨b, 3, none⟩ = some x3 := ⟨h.cell 0, h.cell 1, h.cell 2, h.cell 3⟩
theorem sub_rows {w : World} {B R c : Nat} {A : Option Addr} {l : List TypA} {T : List TypP} (hv : VTyps B w (.slice A T.length c) T) (hs : SchA w R A c l) (hl : l.map TypA.says = T.map typI) :
 ∀ y ∈ relsA l, w.ownsRow B 126 2 (.slice y.2.As y.2.subs.length y.2.cs) y.2.subs.length (y.2.subs.flatMap aSub) := by
 intro y hy
 unfold relsA at hy
 obtain ⟨t, ht, hy⟩ := List.mem_flatMap.1 hy
 obtain ⟨r, hr, rfl⟩ := List.mem_map.1 hy
 obtain ⟨i, hi⟩ := List.getElem?_of_mem ht
 obtain ⟨j, hj⟩ := List.getElem?_of_mem hr
 have h1 : (T.map typI)[i]? = some t.says := by rw [← hl, List.getElem?_map, hi]; rfl
 rw [List.getElem?_map] at h1
 obtain ⟨t0, ht0, e0⟩ := Option.map_eq_some_iff.1 h1
 obtain ⟨g, c2, vr, e1, hvr, k0, k1⟩ := hv.get ht0
 obtain ⟨b, o, e2, m0, m1, hok⟩ := hs.get hi
 injection e1 with e1 _ _
 rw [e1] at e2
 injection e2 with e2
 injection e2 with e3 e4 _
 subst e3
 subst e4
 rw [Nat.zero_add] at m1
 rw [m1] at k1
 obtain rfl := Option.some.inj k1
 have h2 : (t0.rels.map relI)[j]? = some r.says := by
  have : t0.rels.map relI = t.rels.map RelA.says := congrArg TypI.rels e0
  rw [this, List.getElem?_map, hj]
  rfl
 rw [List.getElem?_map] at h2
 obtain ⟨x0, hx0, e5⟩ := Option.map_eq_some_iff.1 h2
 obtain ⟨g2, c3, vs, vo, e6, hvs, _, _, _, _, _, q4, _⟩ := hvr.get hx0
 obtain ⟨b2, o2, e7, _, _, _, _, n4, _, _⟩ := hok.get hj
 injection e6 with e6 _ _
 rw [e6] at e7
 injection e7 with e7
 injection e7 with e8 e9 _
 subst e8
 subst e9
 rw [Nat.zero_add] at n4
 rw [n4] at q4
 obtain rfl := Option.some.inj q4
 have e10 : x0.subs = r.subs := congrArg RelI.subs e5
 have h3 : w.ownsRow B 126 2 (.slice r.As r.subs.length r.cs) x0.subs.length (x0.subs.flatMap aSub) := hvs
 rw [e10] at h3
 exact h3
theorem compile_any (s : ByteArray) (hs : s.size ≤ 1000000) (w : World) : Calls Tryz.prog 11 #[.string s] w (CompPost s w) := by
 obtain ⟨T, ea, pa, ha⟩ : ∃ T e p, parseS s = (T, e, p) := ⟨_, _, _, rfl⟩
 have kp := fun W => parse_named s hs ha W
 have hT : (parseS s).1 = T := by rw [ha]
 have hE1 : (parseS s).2.1 = ea := by rw [ha]
 have hsm := said_small s
 have hsf := said_few s
 have hss := says_sml s
 rw [hT] at hsm hsf hss
 replace hT := Lib.hid hT
 replace hE1 := Lib.hid hE1
 clear ha
 have hbr := bnewZ w (.cells #[.string ⟨#[]⟩, .slice none 0 0, .map none, .slice none 0 0] 27)
 have hres := Bk.new w #[.string ⟨#[]⟩, .slice none 0 0, .map none, .slice none 0 0] 27
 go_enter Tryz.func11, Tryz.ntmps11
 go_upto_region 1 with (fail)
 generalize w.alloc (.cells #[.string ⟨#[]⟩, .slice none 0 0, .map none, .slice none 0 0] 27) = w0 at *
 go_upto_region 2 with (go_at_call 47; refine (kp _).mono ?_; rintro e w2 ⟨⟨A, c, rfl, hv⟩, hb1⟩)
 obtain ⟨l, hl, hsc⟩ := hv.sch (R := 140737488351232) hsf hsm
 have hn : l.length = T.length := by have := congrArg List.length hl; rwa [List.length_map, List.length_map] at this
 have hb := bthenZ hbr hbr.size hb1
 have hgs : w.heap.size < w2.heap.size := Nat.lt_of_lt_of_le hres.lt hb1.size
 have hlt0 : w.heap.size < w0.heap.size := hres.lt
 replace hres := hres.below hb1
 have hbn := bnewZ w2 (.cells #[.slice A T.length c] 92)
 replace hsc := hsc.up hbn
 replace hv := hv.below hbn
 replace hres := hres.below hbn
 replace hb := bthenZ hb hb.size hbn
 have d0 := Bk.new w2 #[.slice A T.length c] 92
 clear hbn hbr hb1 kp
 generalize w2.alloc (.cells #[.slice A T.length c] 92) = w3 at *
 rw [← hn] at d0 ⊢
 replace hn := Lib.hid hn
 replace hl := Lib.hid hl
 have hE1' := hE1.out
 by_cases he : ea = 0
 · subst he
   have x0 := d0.c1
   have xl := d0.lt
   have kc := check_any hsc (Nat.le_refl _)
   obtain ⟨E, hE⟩ : ∃ E, checkE (l.map TypA.says) = E := ⟨_, rfl⟩
   rw [hE] at kc
   replace hE := Lib.hid hE
   go_upto_region 5 with (go_at_call 48; refine kc.mono ?_; rintro e w4 ⟨rfl, hb1⟩)
   replace hsc := hsc.up hb1
   replace hv := hv.below hb1
   replace hres := hres.below hb1
   replace d0 := d0.below hb1
   replace hb := bthenZ hb hb.size hb1
   clear hb1 x0 xl kc
   obtain ⟨E1, E2⟩ := E
   simp only
   by_cases hf : E1 = 0
   · subst hf
     have hR : Right (l.map TypA.says) := (checkE_ok _).1.1 (by rw [hE.out])
     have hlT : l.map TypA.says = (parseS s).1.map typI := by rw [hT.out]; exact hl.out
     have hn96 := relsA_few hR
     obtain ⟨hr6, hro⟩ := said_relsA (s := s) hlT hR
     have hnd : (pathsA (relsA l)).Nodup := by rw [← pathsA_of]; exact hR.paths
     replace hR := Lib.hid hR
     replace hnd := Lib.hid hnd
     have x0 := d0.c1
     have xl := d0.lt
     have ki := idsOf_any hsc (Nat.le_refl _) (by omega) hnd.out
     go_upto_region 8 with (go_at_call 49; refine ki.mono ?_; rintro e w5 ⟨⟨b, rfl, hm⟩, hb1⟩)
     replace hsc := hsc.up hb1
     replace hv := hv.below hb1
     replace hres := hres.below hb1
     replace d0 := d0.below hb1
     replace hb := bthenZ hb hb.size hb1
     clear hb1 x0 xl ki
     have hpl : (pathsA (relsA l)).length = (relsA l).length := by simp [pathsA]
     have hsz : Maps.size (numsD (pathsA (relsA l))) = (relsA l).length := by rw [(nums_size hm.2 hnd.out).2, hpl]
     have hlen : ∀ ty, (Builtin.len_ #[24] ty #[.map (some b)]).run Tryz.prog w5 = .ok (.int .i64 ((relsA l).length : Nat)) w5 := fun ty => by have := hm.1.len Tryz.underlying24 ty; rw [hsz] at this; exact this
     replace hsz := Lib.hid hsz
     replace hpl := Lib.hid hpl
     have x0 := d0.c1
     have xl := d0.lt
     have ke := edges_any hsc (Nat.le_refl _) hr6 hro
     obtain ⟨n, hnN⟩ : ∃ n, (relsA l).length = n := ⟨_, rfl⟩
     rw [hnN] at hlen hn96
     replace hnN := Lib.hid hnN
     have hlg : ∀ (zs : List Ed), (∀ e, e ∈ zs ↔ e ∈ edgesP (l.map TypA.says)) → InR n zs := fun zs h2 e he => by
      have := edges_in ((h2 e).1 he)
      rw [hnN.out] at this
      exact ⟨this.1, this.2.1, this.2.2.1, this.2.2.2.1⟩
     go_upto_region 9 with (first
      | (go_at_call 51; refine ke.mono ?_; rintro e w6 ⟨A2, c2, zs, rfl, hz1, hz2, hz3, hb1⟩; have kl := levels_res (n := n) hz3 (by have := edges_few hR.out hz1 hz2; omega) (by omega))
      | (go_at_call 50; refine kl.mono ?_; rintro e w7 ⟨⟨A7, c7, v, sn, rfl, hlv, hans⟩, hb7⟩))
     have hb17 : Below w5.heap.size w5 w7 := bthenZ hb1 hb1.size hb7
     replace hsc := hsc.up hb17
     replace hv := hv.below hb17
     replace hres := hres.below hb17
     replace d0 := d0.below hb17
     replace hb := bthenZ hb hb.size hb17
     replace hm := hm.below hb17
     clear hb1 hb7 hb17 x0 xl ke kl hlen hz3
     have hT' : (parseS s).1.map typI = l.map TypA.says := hlT.symm
     have hTe : (parseS s).2.1 = 0 := hE1.out
     cases hans with
     | arg hi => exact absurd (hlg zs hz2) hi
     | cyc hi hc =>
      have hc2 : Cyc (edgesP ((parseS s).1.map typI)) := by rw [hT']; exact hc.sub fun e he => (hz2 e).1 he
      have hR2 : Right ((parseS s).1.map typI) := by rw [hT']; exact hR.out
      clear hc
      replace hc2 := Lib.hid hc2
      obtain ⟨r0, r1, r2, r3⟩ := hres.c4
      have rf := hres.fz
      have rl := hres.lt
      go_wp2_with fail
      obtain ⟨hw, hbz⟩ := set4 hres hb (Nat.le_refl _) (.string ⟨#[]⟩) (.slice none 0 0) (.map none) (.slice none 0 0)
      obtain ⟨y0, y1, y2, y3⟩ := hw.c4
      refine bodyPost_ret (v := .tuple #[.agg #[.string ⟨#[]⟩, .slice none 0 0, .map none, .slice none 0 0], .int .i64 33]) (by simp [results, Tryz.results11, go_sem, y0, y1, y2, y3]; try rfl) rfl ?_
      exact ⟨⟨⟨#[]⟩, none, 0, [], none, [], none, 0, [], 33, rfl, TabA.none_ _, .cyc hTe hR2 hc2.out⟩, hbz⟩
     | ok hi v hvl hL hbd =>
      have hL2 : Hid (Least v.length (edgesP ((parseS s).1.map typI)) (lvAt v)) := Lib.hid (by rw [hvl, hT']; exact hL.congr hz2)
      have hi2 : Hid (InR v.length (edgesP ((parseS s).1.map typI))) := Lib.hid (by rw [hvl, hT']; exact fun e he => hi e ((hz2 e).2 he))
      have hnc : Hid (¬ Cyc (edgesP ((parseS s).1.map typI))) := Lib.hid fun hc => Cyc.none hc hL2.out.1
      have hv2 : Hid (v.length = (relsOf ((parseS s).1.map typI)).length) := Lib.hid (by rw [hvl, hT', ← relsA_says, List.length_map]; exact hnN.out.symm)
      have hR2 : Hid (Right ((parseS s).1.map typI)) := Lib.hid (by rw [hT']; exact hR.out)
      have hsub : Hid (∀ y ∈ relsA l, w7.ownsRow w0.heap.size 126 2 (.slice y.2.As y.2.subs.length y.2.cs) y.2.subs.length (y.2.subs.flatMap aSub)) := Lib.hid (sub_rows hv hsc hl.out)
      have h8 : l.length ≤ 8 := by have := hR.out.few; rwa [List.length_map] at this
      clear hL hbd hi hz2 hz1 hlg hT'
      have x0 := d0.c1
      have xl := d0.lt
      obtain ⟨tx, htx⟩ : ∃ tx, showS T = tx := ⟨_, rfl⟩
      have ks := show_any8 hv hss.1 hss.2.1 hss.2.2
      have hz9 := hss.2.2
      rw [htx] at ks hz9
      rw [← hn.out] at ks
      replace htx := Lib.hid htx
      clear hss hsm hsf
      go_upto_region 12 with (go_at_call 52; refine ks.mono ?_; rintro e w8 ⟨rfl, hb1⟩)
      replace hsc := hsc.up hb1
      replace hv := hv.below hb1
      replace hres := hres.below hb1
      replace d0 := d0.below hb1
      replace hb := bthenZ hb hb.size hb1
      replace hm := hm.below hb1
      replace hlv := hlv.up hb1
      replace hsub := Lib.hid fun y hy => own_below (hsub.out y hy) hb1
      clear hb1 x0 xl ks
      by_cases hz : 2048 < tx.size
      · have hz' : (tx.size : Int) > 2048 := by omega
        have hzs : Hid (2048 < (showS (parseS s).1).size) := Lib.hid (by rw [hT.out, htx.out]; exact hz)
        obtain ⟨r0, r1, r2, r3⟩ := hres.c4
        have rf := hres.fz
        have rl := hres.lt
        go_wp2_with fail
        obtain ⟨hw, hbz⟩ := set4 hres hb (Nat.le_refl _) (.string ⟨#[]⟩) (.slice none 0 0) (.map none) (.slice none 0 0)
        obtain ⟨y0, y1, y2, y3⟩ := hw.c4
        refine bodyPost_ret (v := .tuple #[.agg #[.string ⟨#[]⟩, .slice none 0 0, .map none, .slice none 0 0], .int .i64 13]) (by simp [results, Tryz.results11, go_sem, y0, y1, y2, y3]; try rfl) rfl ?_
        exact ⟨⟨⟨#[]⟩, none, 0, [], none, [], none, 0, [], 13, rfl, TabA.none_ _, .long hTe hR2.out hnc.out hzs.out⟩, hbz⟩
      · have hz' : ¬ (tx.size : Int) > 2048 := by omega
        go_upto_region 14 with (fail)
        refine wp_region_any (by kernel_rfl) ?_
        change wpAny _ _ _ _ _ _ _ (World.drew _)
        generalize hdw : World.drew w8 = wz at *
        have hbd : Below w8.heap.size w8 wz := by subst hdw; exact ⟨rfl, rfl, rfl, Nat.le_refl _, fun _ _ => rfl⟩
        replace hsc := hsc.up hbd
        replace hv := hv.below hbd
        replace hres := hres.below hbd
        replace d0 := d0.below hbd
        replace hb := bthenZ hb hb.size hbd
        replace hm := hm.below hbd
        replace hlv := hlv.up hbd
        replace hsub := Lib.hid fun y hy => own_below (hsub.out y hy) hbd
        clear hdw hbd
        have kt := fun (W : World) (hb : Below wz.heap.size wz W) => typesOf_any (hsc.up hb) (by omega)
        have kr := fun (W : World) (hb : Below wz.heap.size wz W) => relsOf_any (hsc.up hb) (Nat.le_refl _) (hm.below hb) (by have := hnN.out; omega) (hlv.up hb) (hvl.trans hnN.out.symm) (fun x hx => (hro x hx).2)
        rw [hvl] at kr
        have hSk : ∀ W, Below wz.heap.size wz W → W.cell? ⟨w2.heap.size, 0, none⟩ = some (.slice A l.length c) := fun W hb => (d0.below hb).cell 0
        have hb0 := Below.refl wz.heap.size wz
        have HS := hSk _ hb0
        refine wpAny_of_held (S := fun W => W.cell? ⟨w2.heap.size, 0, none⟩ = some (.slice A l.length c)) _ _ _ _ ?_
        refine roH_take 0 (some 51) (v := ?v0z) rfl rfl (by kernel_rfl) (by kernel_rfl) (by kernel_rfl) (fun _ _ _ h => h) (by rfl) ?y0z HS ?r0z
        case y0z => (intro W hS; go_simp; try with_reducible rfl)
        simp only [Act.put, List.setIfInBounds_toArray, List.set_cons_zero, List.set_cons_succ]
        refine roH_take 1 (some 52) (v := ?v1z) rfl rfl (by kernel_rfl) (by kernel_rfl) (by kernel_rfl) (fun _ _ _ h => h) (by rfl) ?y1z HS ?r1z
        case y1z => (intro W hS; go_simp; try with_reducible rfl)
        simp only [Act.put, List.setIfInBounds_toArray, List.set_cons_zero, List.set_cons_succ]
        refine roH_take 3 (some 54) (v := ?v3z) rfl rfl (by kernel_rfl) (by kernel_rfl) (by kernel_rfl) (fun _ _ _ h => h) (by rfl) ?y3z HS ?r3z
        case y3z => (intro W hS; go_simp; try with_reducible rfl)
        simp only [Act.put, List.setIfInBounds_toArray, List.set_cons_zero, List.set_cons_succ]
        refine roH_take 4 (some 55) (v := ?v4z) rfl rfl (by kernel_rfl) (by kernel_rfl) (by kernel_rfl) (fun _ _ _ h => h) (by rfl) ?y4z HS ?r4z
        case y4z => (intro W hS; go_simp; try with_reducible rfl)
        simp only [Act.put, List.setIfInBounds_toArray, List.set_cons_zero, List.set_cons_succ]
        refine roH_take 5 (some 56) (v := ?v5z) rfl rfl (by kernel_rfl) (by kernel_rfl) (by kernel_rfl) (fun _ _ _ h => h) (by rfl) ?y5z HS ?r5z
        case y5z => (intro W hS; go_simp; try with_reducible rfl)
        simp only [Act.put, List.setIfInBounds_toArray, List.set_cons_zero, List.set_cons_succ]
        refine roH_take 6 (some 57) (v := ?v6z) rfl rfl (by kernel_rfl) (by kernel_rfl) (by kernel_rfl) (fun _ _ _ h => h) (by rfl) ?y6z HS ?r6z
        case y6z => (intro W hS; go_simp; try with_reducible rfl)
        simp only [Act.put, List.setIfInBounds_toArray, List.set_cons_zero, List.set_cons_succ]
        refine roH_one 2 rfl (by kernel_rfl) ?_
        intro Kf hKf
        go_simp
        refine (kt _ hb0).mono ?_
        rintro e W1 ⟨⟨Ay, cy, rfl, hty⟩, hc1⟩
        replace HS := hSk _ hc1
        refine hKf _ _ HS ?_
        clear hKf Kf
        refine roH_one 7 rfl (by kernel_rfl) ?_
        intro Kf hKf
        go_simp
        with_reducible refine (kr _ hc1).mono ?_
        rintro e W2 ⟨⟨Ar, cr, rfl, K, hK1, hK2, hK3, hK4⟩, hc2⟩
        have hb2 : Below wz.heap.size wz W2 := bthenZ hc1 hc1.size hc2
        replace HS := hSk _ hb2
        refine hKf _ _ HS ?_
        clear hKf Kf
        refine roH_take 8 (some 59) (v := ?v8z) rfl rfl (by kernel_rfl) (by kernel_rfl) (by kernel_rfl) (fun _ _ _ h => h) (by rfl) ?y8z HS ?r8z
        case y8z => (intro W hS; go_simp; try with_reducible rfl)
        simp only [Act.put, List.setIfInBounds_toArray, List.set_cons_zero, List.set_cons_succ]
        have hres2 := hres.below hb2
        obtain ⟨r0, r1, r2, r3⟩ := hres2.c4
        have rf := hres2.fz
        have rl := hres2.lt
        refine roH_one 9 rfl (by kernel_rfl) ?_
        intro Kf hKf
        go_simp
        obtain ⟨hw, hbz⟩ := set4 hres2 (bthenZ hb hb.size hb2) (Nat.le_refl _) (.string tx) (.slice Ay l.length cy) (.map (some b)) (.slice Ar (relsA l).length cr)
        have hne1 : w2.heap.size ≠ w.heap.size := by omega
        have HS3 : ((((W2.setCell ⟨w.heap.size, 0, none⟩ (.string tx)).setCell ⟨w.heap.size, 1, none⟩ (.slice Ay l.length cy)).setCell ⟨w.heap.size, 2, none⟩ (.map (some b))).setCell ⟨w.heap.size, 3, none⟩ (.slice Ar (relsA l).length cr)).cell? ⟨w2.heap.size, 0, none⟩ = some (.slice A l.length c) :=
         ((((d0.below hb2).other (a := ⟨w.heap.size, 0, none⟩) hne1 _).other (a := ⟨w.heap.size, 1, none⟩) hne1 _).other (a := ⟨w.heap.size, 2, none⟩) hne1 _).other (a := ⟨w.heap.size, 3, none⟩) hne1 _ |>.cell 0
        have hset : ∀ {base : Nat} {e : TypeId} {sz m : Nat} {u : Value} {ys : List Value}, W2.ownsRow base e sz u m ys → w.heap.size < base → ((((W2.setCell ⟨w.heap.size, 0, none⟩ (.string tx)).setCell ⟨w.heap.size, 1, none⟩ (.slice Ay l.length cy)).setCell ⟨w.heap.size, 2, none⟩ (.map (some b))).setCell ⟨w.heap.size, 3, none⟩ (.slice Ar (relsA l).length cr)).ownsRow base e sz u m ys := fun h hlt =>
         own_set (own_set (own_set (own_set h (a := ⟨w.heap.size, 0, none⟩) hlt _) (a := ⟨w.heap.size, 1, none⟩) hlt _) (a := ⟨w.heap.size, 2, none⟩) hlt _) (a := ⟨w.heap.size, 3, none⟩) hlt _
        have hmb : b ≠ w.heap.size := by
         intro e
         obtain ⟨⟨es, clock, q1, _⟩, _⟩ := hm
         rw [e, show wz.heap[w.heap.size]? = _ from hres] at q1
         cases q1
        have hmz : MapT ((((W2.setCell ⟨w.heap.size, 0, none⟩ (.string tx)).setCell ⟨w.heap.size, 1, none⟩ (.slice Ay l.length cy)).setCell ⟨w.heap.size, 2, none⟩ (.map (some b))).setCell ⟨w.heap.size, 3, none⟩ (.slice Ar (relsA l).length cr)) b (pathsA (relsA l)) := (hm.below hb2).same ((Below.heap_setCell _ _ _ _ hmb).trans ((Below.heap_setCell _ _ _ _ hmb).trans ((Below.heap_setCell _ _ _ _ hmb).trans (Below.heap_setCell _ _ _ _ hmb))))
        have hgz : w.heap.size < wz.heap.size := hres.lt
        have hty3 := hset (own_below hty hc2) hgz
        have hK33 := hset hK3 (Nat.lt_of_lt_of_le hgz hc1.size)
        have hK43 : ∀ x ∈ K, x.ok ((((W2.setCell ⟨w.heap.size, 0, none⟩ (.string tx)).setCell ⟨w.heap.size, 1, none⟩ (.slice Ay l.length cy)).setCell ⟨w.heap.size, 2, none⟩ (.map (some b))).setCell ⟨w.heap.size, 3, none⟩ (.slice Ar (relsA l).length cr)) := fun x hx => by
         obtain ⟨⟨y, hy, a1, a2, a3⟩, o2, o3⟩ := hK4 x hx
         have s1 := hset (own_below (hsub.out y hy) hb2) hlt0
         have s2 := hset o2 (Nat.lt_of_lt_of_le hgz hc1.size)
         obtain ⟨A4, c4, e4, r4⟩ := Rd.own s1
         obtain ⟨A5, c5, e5, r5⟩ := Rd.own s2
         cases e4
         cases e5
         refine ⟨?_, r5, o3⟩
         rw [a1, a2, a3]
         exact r4
        refine hKf _ _ HS3 ?_
        clear hKf Kf r0 r1 r2 r3 rf rl HS hset hSk kt kr
        refine roH_take 10 (some 3) (v := ?v10z) rfl rfl (by kernel_rfl) (by kernel_rfl) (by kernel_rfl) (fun _ _ _ h => h) (by rfl) ?y10z HS3 ?r10z
        case y10z => (intro W hS; go_simp; try with_reducible rfl)
        simp only [Act.put, List.setIfInBounds_toArray, List.set_cons_zero, List.set_cons_succ]
        refine wpAnyH_done (by kernel_rfl) ?_ _
        obtain ⟨y0, y1, y2, y3⟩ := hw.c4
        generalize (((W2.setCell ⟨w.heap.size, 0, none⟩ (.string tx)).setCell ⟨w.heap.size, 1, none⟩ (.slice Ay l.length cy)).setCell ⟨w.heap.size, 2, none⟩ (.map (some b))).setCell ⟨w.heap.size, 3, none⟩ (.slice Ar (relsA l).length cr) = W3 at *
        go_wp2_with fail
        refine bodyPost_ret (v := .tuple #[.agg #[.string tx, .slice Ay l.length cy, .map (some b), .slice Ar (relsA l).length cr], .int .i64 0]) (by simp [results, Tryz.results11, go_sem, y0, y1, y2, y3]; try rfl) rfl ?_
        have hln : (l.map (·.name)).length = l.length := List.length_map _
        obtain ⟨A6, c6, e6, r6⟩ := Rd.own hty3
        obtain ⟨A7', c7', e7, r7⟩ := Rd.own hK33
        cases e6
        cases e7
        refine ⟨⟨tx, Ay, cy, l.map (·.name), some b, pathsA (relsA l), Ar, cr, K, 0, by rw [hln, hK1]; rfl, ⟨?_, .inr ⟨b, rfl, hmz⟩, ⟨by rw [hK1]; exact r7, hK43⟩⟩, ?_⟩, hbz⟩
        · rw [hln, List.map_map]
          exact r6
        · have hTn : l.map (·.name) = (parseS s).1.map (·.name) := by
           have := congrArg (List.map TypI.name) hlT
           rw [List.map_map, List.map_map] at this
           exact this
          have hps : pathsA (relsA l) = pathsOf ((parseS s).1.map typI) := by rw [← hlT, pathsA_of]
          have hRR : K.map (·.r) = relsTT ((parseS s).1.map typI) v := by rw [hK2, ← hlT, relsK_T]
          rw [hTn, hps, hRR, ← htx.out, ← hT.out]
          exact .ok hTe hR2.out v hv2.out hi2.out hL2.out (by rw [hT.out, htx.out]; omega)
   · have hf' : ¬ ((E1 : Int) = 0) := by omega
     have hcs : (checkE ((parseS s).1.map typI)).1 = E1 := by rw [hT.out, ← hl.out, hE.out]
     obtain ⟨r0, r1, r2, r3⟩ := hres.c4
     have rf := hres.fz
     have rl := hres.lt
     go_wp2_with fail
     obtain ⟨hw, hbz⟩ := set4 hres hb (Nat.le_refl _) (.string ⟨#[]⟩) (.slice none 0 0) (.map none) (.slice none 0 0)
     obtain ⟨y0, y1, y2, y3⟩ := hw.c4
     refine bodyPost_ret (v := .tuple #[.agg #[.string ⟨#[]⟩, .slice none 0 0, .map none, .slice none 0 0], .int .i64 (E1 : Nat)]) (by simp [results, Tryz.results11, go_sem, y0, y1, y2, y3]; try rfl) rfl ?_
     exact ⟨⟨⟨#[]⟩, none, 0, [], none, [], none, 0, [], E1, rfl, TabA.none_ _, .check E1 hE1' hcs hf⟩, hbz⟩
 · have he' : ¬ ((ea : Int) = 0) := by omega
   obtain ⟨r0, r1, r2, r3⟩ := hres.c4
   have rf := hres.fz
   have rl := hres.lt
   go_wp2_with fail
   obtain ⟨hw, hbz⟩ := set4 hres hb (Nat.le_refl _) (.string ⟨#[]⟩) (.slice none 0 0) (.map none) (.slice none 0 0)
   obtain ⟨y0, y1, y2, y3⟩ := hw.c4
   refine bodyPost_ret (v := .tuple #[.agg #[.string ⟨#[]⟩, .slice none 0 0, .map none, .slice none 0 0], .int .i64 (ea : Nat)]) (by simp [results, Tryz.results11, go_sem, y0, y1, y2, y3]; try rfl) rfl ?_
   exact ⟨⟨⟨#[]⟩, none, 0, [], none, [], none, 0, [], ea, rfl, TabA.none_ _, .parse ea hE1' he⟩, hbz⟩
end Go.Proofs.YtahegpfdbgbioaaGreat
namespace Go.Proofs.YtahegpfdbgbioaaGreat
theorem ix_some {ps : List Path} {q : Path} (h : q ∈ ps) : lastIx ps q = some (ixP ps q) := by
 obtain ⟨i, hi⟩ := lastIx_mem h
 unfold ixP
 rw [hi]
 rfl
theorem ix_get {ps : List Path} {q : Path} (h : q ∈ ps) : ps[ixP ps q]? = some q := lastIx_lt (ix_some h)
theorem ix_lt {ps : List Path} {q : Path} (h : q ∈ ps) : ixP ps q < ps.length := (List.getElem?_eq_some_iff.1 (ix_get h)).1
theorem relsOf_len (l : List TypI) : (pathsOf l).length = (relsOf l).length := List.length_map _
theorem rel_mem {l : List TypI} {x : TypI × RelI} (h : x ∈ relsOf l) : x.1 ∈ l ∧ x.2 ∈ x.1.rels := by
 unfold relsOf at h
 obtain ⟨t, ht, h⟩ := List.mem_flatMap.1 h
 obtain ⟨r, hr, rfl⟩ := List.mem_map.1 h
 exact ⟨ht, hr⟩
theorem path_at {l : List TypI} {i : Nat} {x : TypI × RelI} (h : (relsOf l)[i]? = some x) : (pathsOf l)[i]? = some (x.1.name, x.2.name) := by
 unfold pathsOf
 rw [List.getElem?_map, h]
 rfl
theorem hasR_mem {t : TypI} {n : ByteArray} (h : hasR t n = true) : ∃ r ∈ t.rels, r.name = n := by
 unfold hasR at h
 cases e : firstR t n with
 | none => rw [e] at h; cases h
 | some r =>
  obtain ⟨a, b⟩ := find_some9 e
  exact ⟨r, a, of_decide_eq_true b⟩
theorem hasR_path {l : List TypI} {t : TypI} (ht : t ∈ l) {n : ByteArray} (h : hasR t n = true) : (t.name, n) ∈ pathsOf l := by
 obtain ⟨r, hr, rfl⟩ := hasR_mem h
 exact mem_paths.2 ⟨t, ht, r, hr, rfl, rfl⟩
theorem Right.opPath {l : List TypI} (h : Right l) {x : TypI × RelI} (hx : x ∈ relsOf l) {o : OpI} (ho : o ∈ x.2.ops) (hk : o.1 = 2 ∨ o.1 = 3) : (x.1.name, o.2.1) ∈ pathsOf l := by
 obtain ⟨h1, h2⟩ := rel_mem hx
 have k := (h.all h1 h2).ops o ho
 unfold opOk at k
 rcases hk with e | e
 · rw [if_pos e] at k
   exact hasR_path h1 k
 · rw [if_neg (by omega), if_pos e] at k
   refine hasR_path h1 ?_
   unfold hasR
   cases e2 : firstR x.1 o.2.1 with
   | none => rw [e2] at k; cases k
   | some r => rfl
theorem same_edge {l : List TypI} (h : Right l) {i j : Nat} {x : TypI × RelI} (hx : (relsOf l)[i]? = some x) {o : OpI} (ho : x.2.ops[j]? = some o) (hk : o.1 = 2) :
 ((i : Int), ((ixP (pathsOf l) (x.1.name, o.2.1) : Nat) : Int), behindP x.2.ops j) ∈ edgesP l := by
 have hm := h.opPath (List.mem_of_getElem? hx) (List.mem_of_getElem? ho) (.inl hk)
 unfold edgesP relE opsE
 simp only [List.mem_flatMap, List.mem_map]
 refine ⟨(x, i), List.mk_mem_zipIdx_iff_getElem?.2 hx, (o, j), List.mk_mem_zipIdx_iff_getElem?.2 ho, ixP (pathsOf l) (x.1.name, o.2.1), ?_, rfl⟩
 unfold namedP pathsP
 rw [if_neg (by simp only; omega), if_pos (by simp only; exact hk)]
 simp only [List.filterMap_cons, ix_some hm, List.filterMap_nil, List.mem_singleton]
theorem same_level {n : Nat} {l : List TypI} {v : Nat → Int} (h : Right l) (hL : Sol n (edgesP l) v) {i j : Nat} {x : TypI × RelI} (hx : (relsOf l)[i]? = some x) {o : OpI} (ho : x.2.ops[j]? = some o) (hk : o.1 = 2) :
 v (ixP (pathsOf l) (x.1.name, o.2.1)) ≤ v i ∧ (behindP x.2.ops j = true → v (ixP (pathsOf l) (x.1.name, o.2.1)) < v i) := by
 have := hL.2 _ (same_edge h hx ho hk)
 simp only [fr, tt, rise, Int.toNat_natCast] at this
 refine ⟨by split at this <;> omega, fun hb => ?_⟩
 rw [if_pos hb] at this
 omega
theorem not_behind {t : Ex} (hg : t.good) (h3 : t.len = 3) (h6 : t.kd 2 = 6) : behindP (t.ops.map opZ) 1 = true := by
 rw [behind_tree hg (by omega)]
 cases t with
 | this => simp [Ex.len, Ex.ops] at h3
 | same n => simp [Ex.len, Ex.ops] at h3
 | via n m => simp [Ex.len, Ex.ops] at h3
 | bin k a b =>
  have hl := Ex.len_bin k a b
  have pa := a.len_pos
  have pb := b.len_pos
  have ea : a.len = 1 := by omega
  have eb : b.len = 1 := by omega
  have hk : k = 6 := by have := Ex.kd_o (k := k) (a := a) (b := b); rw [ea, eb] at this; exact this.symm.trans h6
  have : (Ex.bin k a b).cnt 1 = b.cnt 0 + 1 := by
   show (if 1 < a.len then a.cnt 1 else if 1 < a.len + b.len then b.cnt (1 - a.len) + (if k = 6 then 1 else 0) else 0) = _
   rw [if_neg (by omega), if_pos (by omega), if_pos hk, ea]
  rw [this]
  exact decide_eq_true (by omega)
theorem Least.below {n : Nat} {l : List Ed} {v : Nat → Int} (hi : InR n l) (h : Least n l v) {i : Nat} (hin : i < n) : v i < n := by
 have h0 := h.1.1 i hin
 have key : ∀ c : Nat, (c : Int) ≤ v i → ∃ k, k < n ∧ v k = c := by
  intro c hc
  rcases Nat.eq_zero_or_pos c with rfl | hp
  · by_cases hz : v i = 0
    · exact ⟨i, hin, hz⟩
    · obtain ⟨e, he, h1, h2⟩ := h.nots hin (c := 1) (by omega) (by omega)
      have h3 := h.1.2 e he
      have h4 := h.1.1 (tt e) (hi.tt he)
      have h5 : rise e = 1 := by unfold rise; rw [if_pos h1]
      exact ⟨tt e, hi.tt he, by simp only [Int.natCast_zero]; omega⟩
  · obtain ⟨e, he, h1, h2⟩ := h.nots hin (c := c) (by omega) hc
    exact ⟨fr e, hi.fr he, h2⟩
 obtain ⟨m, hm⟩ : ∃ m : Nat, v i = m := ⟨(v i).toNat, by omega⟩
 rw [hm] at key ⊢
 suffices H : ∀ c : Nat, c ≤ m → ∃ L : List Nat, L.Nodup ∧ (∀ k ∈ L, k < n ∧ v k ≤ c) ∧ L.length = c + 1 by
  obtain ⟨L, h1, h2, h3⟩ := H m (Nat.le_refl _)
  have := nodup_le h1 fun k hk => (h2 k hk).1
  omega
 intro c
 induction c with
 | zero =>
  intro _
  obtain ⟨k, hk, e⟩ := key 0 (by omega)
  exact ⟨[k], by simp, fun q hq => by rw [List.mem_singleton.1 hq]; exact ⟨hk, by omega⟩, rfl⟩
 | succ c ih =>
  intro hc
  obtain ⟨L, h1, h2, h3⟩ := ih (by omega)
  obtain ⟨k, hk, e⟩ := key (c + 1) (by omega)
  refine ⟨k :: L, List.nodup_cons.2 ⟨fun hm => ?_, h1⟩, fun q hq => ?_, by rw [List.length_cons, h3]⟩
  · have := (h2 k hm).2; omega
  · rcases List.mem_cons.1 hq with rfl | hq
    · exact ⟨hk, by omega⟩
    · have := h2 q hq; exact ⟨this.1, by omega⟩
structure TabOk (s : ByteArray) (tx : ByteArray) (ty : List ByteArray) (ps : List Path) (R : List RelT) (v : List Int) : Prop where
 says : (parseS s).2.1 = 0
 right : Right ((parseS s).1.map typI)
 len : v.length = (relsOf ((parseS s).1.map typI)).length
 inr : InR v.length (edgesP ((parseS s).1.map typI))
 least : Least v.length (edgesP ((parseS s).1.map typI)) (lvAt v)
 size : (showS (parseS s).1).size ≤ 2048
 text : tx = showS (parseS s).1
 types : ty = (parseS s).1.map (·.name)
 paths : ps = pathsOf ((parseS s).1.map typI)
 rels : R = relsTT ((parseS s).1.map typI) v
theorem levels_one {n : Nat} {l : List Ed} {v u : List Int} (h1 : v.length = n) (h2 : u.length = n) (a : Least n l (lvAt v)) (b : Least n l (lvAt u)) : v = u :=
 List.ext_getElem (by omega) fun i h3 h4 => by
  have := a.same b (i := i) (by omega)
  simpa [lvAt, h3, h4] using this
theorem CompIs.one {s : ByteArray} {e f : Nat} {tx ux : ByteArray} {ty uy : List ByteArray} {ps qs : List Path} {R Q : List RelT} (h : CompIs s e tx ty ps R) (k : CompIs s f ux uy qs Q) : e = f ∧ tx = ux ∧ ty = uy ∧ ps = qs ∧ R = Q := by
 have hck : Right ((parseS s).1.map typI) → (checkE ((parseS s).1.map typI)).1 = 0 := fun h => (checkE_ok _).1.2 h
 cases h with
 | parse e h h0 =>
  cases k with
  | parse f k k0 => exact ⟨h.symm.trans k, rfl, rfl, rfl, rfl⟩
  | check f a => exact absurd (h.symm.trans a) h0
  | cyc a => exact absurd (h.symm.trans a) h0
  | long a => exact absurd (h.symm.trans a) h0
  | ok a => exact absurd (h.symm.trans a) h0
 | check e a h h0 =>
  cases k with
  | parse f k k0 => exact absurd (k.symm.trans a) k0
  | check f b k k0 => exact ⟨h.symm.trans k, rfl, rfl, rfl, rfl⟩
  | cyc b hR => exact absurd (h.symm.trans (hck hR)) h0
  | long b hR => exact absurd (h.symm.trans (hck hR)) h0
  | ok b hR => exact absurd (h.symm.trans (hck hR)) h0
 | cyc a hR hc =>
  cases k with
  | parse f k k0 => exact absurd (k.symm.trans a) k0
  | check f b k k0 => exact absurd (k.symm.trans (hck hR)) k0
  | cyc => exact ⟨rfl, rfl, rfl, rfl, rfl⟩
  | long _ _ hn => exact absurd hc hn
  | ok _ _ v _ _ hL => exact (Cyc.none hc hL.1).elim
 | long a hR hn hz =>
  cases k with
  | parse f k k0 => exact absurd (k.symm.trans a) k0
  | check f b k k0 => exact absurd (k.symm.trans (hck hR)) k0
  | cyc _ _ hc => exact absurd hc hn
  | long => exact ⟨rfl, rfl, rfl, rfl, rfl⟩
  | ok _ _ v _ _ _ hz2 => omega
 | ok a hR v hv hi hL hz =>
  cases k with
  | parse f k k0 => exact absurd (k.symm.trans a) k0
  | check f b k k0 => exact absurd (k.symm.trans (hck hR)) k0
  | cyc _ _ hc => exact (Cyc.none hc hL.1).elim
  | long _ _ _ hz2 => omega
  | ok _ _ u hu _ hM =>
   rw [hv] at hL
   rw [hu] at hM
   have := levels_one hv hu hL hM
   subst this
   exact ⟨rfl, rfl, rfl, rfl, rfl⟩
end Go.Proofs.YtahegpfdbgbioaaGreat
namespace Go.Proofs.YtahegpfdbgbioaaGreat
open Go.RowKit
theorem TabOk.at_ {s tx : ByteArray} {ty : List ByteArray} {ps : List Path} {v : List Int} {K : List TabR} (h : TabOk s tx ty ps (K.map (·.r)) v) {i : Nat} (hi : i < K.length) :
 ∃ x, (relsOf ((parseS s).1.map typI))[i]? = some x ∧ (atK K i).r = relT11 ps (lvAt v i) x := by
 obtain ⟨k, hk⟩ : ∃ k, K[i]? = some k := ⟨_, List.getElem?_eq_getElem hi⟩
 have h1 : (K.map (·.r))[i]? = some k.r := by rw [List.getElem?_map, hk]; rfl
 rw [h.rels] at h1
 unfold relsTT at h1
 rw [List.getElem?_map, List.getElem?_zipIdx] at h1
 cases e : (relsOf ((parseS s).1.map typI))[i]? with
 | none => rw [e] at h1; cases h1
 | some x =>
  rw [e] at h1
  refine ⟨x, rfl, ?_⟩
  rw [atK_in hk, h.paths]
  have := Option.some.inj h1
  rw [← this]
  simp
theorem TabOk.lenK {s tx : ByteArray} {ty : List ByteArray} {ps : List Path} {v : List Int} {K : List TabR} (h : TabOk s tx ty ps (K.map (·.r)) v) : K.length = (relsOf ((parseS s).1.map typI)).length := by
 have := congrArg List.length h.rels
 rw [List.length_map] at this
 unfold relsTT at this
 rw [List.length_map, List.length_zipIdx] at this
 exact this
theorem TabOk.few {s tx : ByteArray} {ty : List ByteArray} {ps : List Path} {v : List Int} {K : List TabR} (h : TabOk s tx ty ps (K.map (·.r)) v) : K.length ≤ 96 := by
 rw [h.lenK]
 exact h.right.rels_le
theorem TabOk.path {s tx : ByteArray} {ty : List ByteArray} {ps : List Path} {v : List Int} {K : List TabR} (h : TabOk s tx ty ps (K.map (·.r)) v) {q : Path} (hq : q ∈ ps) : ixP ps q < K.length ∧ (atK K (ixP ps q : Nat)).r.tn = q.1 ∧ (atK K (ixP ps q : Nat)).r.rn = q.2 := by
 have hl := ix_lt hq
 have hg := ix_get hq
 have hK : ixP ps q < K.length := by rw [h.lenK, ← relsOf_len, ← h.paths]; exact hl
 obtain ⟨x, hx, e⟩ := h.at_ hK
 have := path_at hx
 rw [← h.paths, hg] at this
 have := Option.some.inj this
 rw [e]
 exact ⟨hK, by rw [this]; rfl, by rw [this]; rfl⟩
theorem wf11 {n : Nat} (h : n ≤ 96) : (Lit.int .i64 (n : Int)).wf = true := WalkArith.wf_i64 (by omega)
theorem TabOk.lev {s tx : ByteArray} {ty : List ByteArray} {ps : List Path} {v : List Int} {K : List TabR} (h : TabOk s tx ty ps (K.map (·.r)) v) {i : Nat} (hi : i < K.length) :
 (atK K i).r.level = lvAt v i ∧ 0 ≤ lvAt v i ∧ lvAt v i < K.length := by
 obtain ⟨x, hx, e⟩ := h.at_ hi
 have hlen : K.length = v.length := by rw [h.lenK, h.len]
 have h1 := h.least.1.1 i (by omega)
 have h2 := h.least.below h.inr (i := i) (by omega)
 exact ⟨by rw [e]; rfl, h1, by rw [hlen]; exact h2⟩
theorem TabOk.same {s tx : ByteArray} {ty : List ByteArray} {ps : List Path} {v : List Int} {K : List TabR} (h : TabOk s tx ty ps (K.map (·.r)) v) {i j : Nat} (hi : i < K.length) {k r : Int} {nx : ByteArray} (ho : (atK K i).r.ops[j]? = some (k, r, nx)) (hk : k = 2) :
 ∃ a : Nat, r = a ∧ a < K.length ∧ lvAt v a ≤ lvAt v i ∧ (j = 1 → (atK K i).r.ops.length = 3 → (∃ q, (atK K i).r.ops[2]? = some (6, q)) → lvAt v a < lvAt v i) := by
 obtain ⟨x, hx, e⟩ := h.at_ hi
 rw [e] at ho ⊢
 have ho2 : (x.2.ops.map (opT11 ps x.1.name))[j]? = some (k, r, nx) := ho
 rw [List.getElem?_map] at ho2
 cases e1 : x.2.ops[j]? with
 | none => rw [e1] at ho2; cases ho2
 | some o =>
  rw [e1] at ho2
  have e2 : opT11 ps x.1.name o = (k, r, nx) := Option.some.inj ho2
  have k1 : o.1 = 2 := (congrArg (·.1) e2).trans hk
  have k2 : (ixP ps (x.1.name, o.2.1) : Int) = r := by
   have := congrArg (·.2.1) e2
   unfold opT11 at this
   simp only [k1, true_or, if_true] at this
   exact this
  have hm := h.right.opPath (List.mem_of_getElem? hx) (List.mem_of_getElem? e1) (.inl k1)
  rw [← h.paths] at hm
  have hs := same_level h.right h.least.1 hx e1 k1
  rw [← h.paths] at hs
  refine ⟨ixP ps (x.1.name, o.2.1), k2.symm, (h.path hm).1, hs.1, fun hj hl ⟨q, hq⟩ => hs.2 ?_⟩
  subst hj
  obtain ⟨q1, q2⟩ := rel_mem (List.mem_of_getElem? hx)
  obtain ⟨t, ht, hg, _, _⟩ := said_tree q1 q2
  have hl3 : t.len = 3 := by
   have h1 : (x.2.ops.map (opT11 ps x.1.name)).length = 3 := hl
   rw [List.length_map, ht, List.length_map] at h1
   exact h1
  have h6 : t.kd 2 = 6 := by
   have h1 : (x.2.ops.map (opT11 ps x.1.name))[2]? = some (6, q) := hq
   rw [ht, List.getElem?_map, List.getElem?_map] at h1
   have hlt : 2 < t.ops.length := by unfold Ex.len at hl3; omega
   rw [List.getElem?_eq_getElem hlt] at h1
   have h2 := congrArg (·.1) (Option.some.inj h1)
   unfold Ex.kd
   rw [List.getD_eq_getElem?_getD, List.getElem?_eq_getElem hlt]
   have h3 : ((t.ops[2].1 : Nat) : Int) = 6 := h2
   show t.ops[2].1 = 6
   omega
  rw [ht]
  exact not_behind hg hl3 h6
end Go.Proofs.YtahegpfdbgbioaaGreat
namespace Go.Proofs.YtahegpfdbgbioaaGreat
open Go.RowKit
def knowT (ty : List ByteArray) (ps : List Path) (a c : ByteArray) : Bool := if c = ⟨#[]⟩ then ty.any fun y => decide (y = a) else (lastIx ps (a, c)).isSome
def mayT (K : List TabR) (ps : List Path) (t : TuP) : Bool := (atK K (ixP ps (t.1.1, t.1.2.2) : Nat)).r.subs.any fun y => decide (y = (t.2.1, t.2.2.2))
def rightT (ty : List ByteArray) (ps : List Path) (K : List TabR) (t : TuP) : Int :=
 if fmdT t = true ∧ (lastIx ps (t.1.1, t.1.2.2)).isSome = true ∧ knowT ty ps t.2.1 t.2.2.2 = true then if mayT K ps t = true then 0 else 40 else 31
theorem ix_small {ps : List Path} (h : ps.length ≤ 96) (q : Path) : ixP ps q ≤ 96 := by
 unfold ixP
 cases e : lastIx ps q with
 | none => exact Nat.zero_le _
 | some i =>
  have := (List.getElem?_eq_some_iff.1 (lastIx_lt e)).1
  show i ≤ 96
  omega
section
variable {w : World} {tx : ByteArray} {Ay : Option Addr} {cy : Nat} {ty : List ByteArray} {mb : Option Nat} {ps : List Path} {Ar : Option Addr} {cr : Nat} {K : List TabR}
theorem knows_any (h : TabA w Ay cy ty mb ps Ar cr K) (a b c : ByteArray) (ha : a.size ≤ 100000) (hc : c.size ≤ 100000) :
 Calls Tryz.prog 76 #[.agg #[.string tx, .slice Ay ty.length cy, .map mb, .slice Ar K.length cr], .agg #[.string a, .string b, .string c]] w fun e w' => e = .returned (.bool (knowT ty ps a c)) ∧ Below w.heap.size w w' := by
 have hk := (Bk.new w #[.string tx, .slice Ay ty.length cy, .map mb, .slice Ar K.length cr] 27).alloc (.cells #[.string a, .string b, .string c] 69)
 have hl := Bk.new2 w (.cells #[.string tx, .slice Ay ty.length cy, .map mb, .slice Ar K.length cr] 27) #[.string a, .string b, .string c] 69
 have hB : Below w.heap.size w ((w.alloc (.cells #[.string tx, .slice Ay ty.length cy, .map mb, .slice Ar K.length cr] 27)).alloc (.cells #[.string a, .string b, .string c] 69)) := ((Below.refl _ w).alloc (Nat.le_refl _) _).alloc (size_alloc (Nat.le_refl _)) _
 have hT := h.up hB
 have ki := tid_any (tx := tx) (Ay := Ay) (ny := ty.length) (cy := cy) (Ar := Ar) (cr := cr) (nr := K.length) hT.ids a c (by simp only [maxLen]; omega) (by simp only [maxLen]; omega)
 have kh := thas_any (tx := tx) (mb := mb) (Ar := Ar) (cr := cr) (nr := K.length) hT.types a
 unfold knowT
 by_cases he : c = ⟨#[]⟩
 · rw [if_pos he]
   have d := emp_yes he
   clear he ki
   generalize (ty.any fun y => decide (y = a)) = q at *
   go_enter Tryz.func76, Tryz.ntmps76
   go_upto_region 1 with (fail)
   generalize (w.alloc (.cells #[.string tx, .slice Ay ty.length cy, .map mb, .slice Ar K.length cr] 27)).alloc (.cells #[.string a, .string b, .string c] 69) = w1 at *
   obtain ⟨k0, k1, k2, k3⟩ := hk.c4
   have kl := hk.lt
   obtain ⟨l0, l1, l2⟩ := hl.c3
   have ll := hl.lt
   go_wp2_with (go_at_call 17; refine kh.mono ?_; rintro e w2 ⟨rfl, hb⟩)
   go_ret
   exact ⟨rfl, bthen hB hB.size hb⟩
 · rw [if_neg he]
   have d := emp_no he
   clear he kh
   generalize (lastIx ps (a, c)).isSome = q at *
   generalize ixP ps (a, c) = i at *
   go_enter Tryz.func76, Tryz.ntmps76
   go_upto_region 1 with (fail)
   generalize (w.alloc (.cells #[.string tx, .slice Ay ty.length cy, .map mb, .slice Ar K.length cr] 27)).alloc (.cells #[.string a, .string b, .string c] 69) = w1 at *
   obtain ⟨k0, k1, k2, k3⟩ := hk.c4
   have kl := hk.lt
   obtain ⟨l0, l1, l2⟩ := hl.c3
   have ll := hl.lt
   go_wp2_with (go_at_call 27; refine ki.mono ?_; rintro e w2 ⟨rfl, hb⟩)
   go_ret
   exact ⟨rfl, bthen hB hB.size hb⟩
theorem right_any12 (h : TabA w Ay cy ty mb ps Ar cr K) (hps : ps.length ≤ 96) (a b c x y z : ByteArray) (ha : a.size ≤ 100000) (hb : b.size ≤ 100000) (hc : c.size ≤ 100000) (hx : x.size ≤ 100000) (hy : y.size ≤ 100000) (hz : z.size ≤ 100000) :
 Calls Tryz.prog 45 #[.agg #[.string tx, .slice Ay ty.length cy, .map mb, .slice Ar K.length cr], .agg #[.string a, .string b, .string c, .string x, .string y, .string z]] w fun e w' => e = .returned (.int .i64 (rightT ty ps K ((a, b, c), (x, y, z)))) ∧ Below w.heap.size w w' := by
 obtain ⟨R, hRd⟩ : ∃ R, Hid (rightT ty ps K ((a, b, c), (x, y, z)) = R) := ⟨_, Lib.hid rfl⟩
 rw [hRd.out]
 unfold rightT mayT at hRd
 dsimp only at hRd
 have hk := (Bk.new w #[.string tx, .slice Ay ty.length cy, .map mb, .slice Ar K.length cr] 27).alloc (.cells #[.string a, .string b, .string c, .string x, .string y, .string z] 71)
 have hl := Bk.new2 w (.cells #[.string tx, .slice Ay ty.length cy, .map mb, .slice Ar K.length cr] 27) #[.string a, .string b, .string c, .string x, .string y, .string z] 71
 have hB : Below w.heap.size w ((w.alloc (.cells #[.string tx, .slice Ay ty.length cy, .map mb, .slice Ar K.length cr] 27)).alloc (.cells #[.string a, .string b, .string c, .string x, .string y, .string z] 71)) := ((Below.refl _ w).alloc (Nat.le_refl _) _).alloc (size_alloc (Nat.le_refl _)) _
 replace h := h.up hB
 go_enter Tryz.func45, Tryz.ntmps45
 go_upto_region 1 with (fail)
 generalize (w.alloc (.cells #[.string tx, .slice Ay ty.length cy, .map mb, .slice Ar K.length cr] 27)).alloc (.cells #[.string a, .string b, .string c, .string x, .string y, .string z] 71) = w1 at *
 have ki := tid_any (tx := tx) (Ay := Ay) (ny := ty.length) (cy := cy) (Ar := Ar) (cr := cr) (nr := K.length) h.ids a c (by simp only [maxLen]; omega) (by simp only [maxLen]; omega)
 obtain ⟨k0, k1, k2, k3⟩ := hk.c4
 have kl := hk.lt
 obtain ⟨l0, l1, l2, l3, l4, l5⟩ := hl.c6
 have ll := hl.lt
 go_upto_region 2 with (go_at_call 27; refine ki.mono ?_; rintro e w2 ⟨rfl, hb2⟩)
 replace h := h.up hb2
 replace hk := hk.below hb2
 replace hl := hl.below hb2
 replace hB := bthen hB hB.size hb2
 clear hb2 ki k0 k1 k2 k3 kl l0 l1 l2 l3 l4 l5 ll
 obtain ⟨k0, k1, k2, k3⟩ := hk.c4
 have kl := hk.lt
 obtain ⟨l0, l1, l2, l3, l4, l5⟩ := hl.c6
 have ll := hl.lt
 have hix := ix_small hps (a, c)
 generalize ixP ps (a, c) = i at *
 obtain ⟨p, hp⟩ : ∃ p, Hid (fmdT ((a, b, c), (x, y, z)) = p) := ⟨_, Lib.hid rfl⟩
 have kf := fun W => fmd_is hp.out ha hb hc hx hy hz W
 cases p with
 | false =>
  obtain rfl : R = 31 := by rw [← hRd.out, if_neg fun q => by rw [hp.out] at q; cases q.1]
  clear hRd
  go_wp2_with (go_at_call 70; refine (kf _).mono ?_; rintro e w3 ⟨rfl, hb3⟩)
  go_ret
  exact ⟨rfl, bthen hB hB.size hb3⟩
 | true =>
  obtain ⟨q, hq⟩ : ∃ q, Hid ((lastIx ps (a, c)).isSome = q) := ⟨_, Lib.hid rfl⟩
  rw [hq.out]
  cases q with
  | false =>
   obtain rfl : R = 31 := by rw [← hRd.out, if_neg fun r => by rw [hq.out] at r; cases r.2.1]
   clear hRd
   go_wp2_with (go_at_call 70; refine (kf _).mono ?_; rintro e w3 ⟨rfl, hb3⟩)
   go_ret
   exact ⟨rfl, bthen hB hB.size hb3⟩
  | true =>
   obtain ⟨r, hr⟩ : ∃ r, Hid (knowT ty ps x z = r) := ⟨_, Lib.hid rfl⟩
   cases r with
   | false =>
    obtain rfl : R = 31 := by rw [← hRd.out, if_neg fun s => by rw [hr.out] at s; cases s.2.2]
    clear hRd
    go_wp2_with (first
     | (go_at_call 70; refine (kf _).mono ?_; rintro e w3 ⟨rfl, hb3⟩; have h3 := h.up hb3; have hk3 := hk.below hb3; have hl3 := hl.below hb3; have hB3 := bthen hB hB.size hb3; obtain ⟨m0, m1, m2, m3⟩ := hk3.c4; have ml := hk3.lt; obtain ⟨n0, n1, n2, n3, n4, n5⟩ := hl3.c6; have nl := hl3.lt; have kk := knows_any (tx := tx) h3 x y z hx hz; rw [hr.out] at kk)
     | (go_at_call 76; refine kk.mono ?_; rintro e w4 ⟨rfl, hb4⟩))
    go_ret
    exact ⟨rfl, bthen hB3 hB3.size hb4⟩
   | true =>
    obtain ⟨m, hm⟩ : ∃ m, Hid (((atK K (i : Nat)).r.subs.any fun u => decide (u = (x, z))) = m) := ⟨_, Lib.hid rfl⟩
    obtain rfl : R = if m = true then 0 else 40 := by rw [← hRd.out, if_pos ⟨hp.out, hq.out, hr.out⟩, hm.out]
    clear hRd
    go_wp2_with (first
     | (go_at_call 70; refine (kf _).mono ?_; rintro e w3 ⟨rfl, hb3⟩; have h3 := h.up hb3; have hk3 := hk.below hb3; have hl3 := hl.below hb3; have hB3 := bthen hB hB.size hb3; obtain ⟨m0, m1, m2, m3⟩ := hk3.c4; have ml := hk3.lt; obtain ⟨n0, n1, n2, n3, n4, n5⟩ := hl3.c6; have nl := hl3.lt; have kk := knows_any (tx := tx) h3 x y z hx hz; rw [hr.out] at kk)
     | (go_at_call 76; refine kk.mono ?_; rintro e w4 ⟨rfl, hb4⟩; have h4 := h3.up hb4; have hk4 := hk3.below hb4; have hl4 := hl3.below hb4; have hB4 := bthen hB3 hB3.size hb4; obtain ⟨o0, o1, o2, o3⟩ := hk4.c4; have ol := hk4.lt; obtain ⟨q0, q1, q2, q3, q4, q5⟩ := hl4.c6; have ql := hl4.lt; have km := tmay_any (tx := tx) (Ay := Ay) (ny := ty.length) (cy := cy) (mb := mb) h4.rels (i : Nat) (wf11 hix) x z; rw [hm.out] at km)
     | (go_at_call 23; refine km.mono ?_; rintro e w5 ⟨rfl, hb5⟩))
    all_goals (cases m <;> first | contradiction | skip)
    all_goals go_ret
    all_goals exact ⟨rfl, bthen hB4 hB4.size hb5⟩
end
end Go.Proofs.YtahegpfdbgbioaaGreat
