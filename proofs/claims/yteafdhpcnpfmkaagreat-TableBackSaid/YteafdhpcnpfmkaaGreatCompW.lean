/- Layer 11: Compile: a text as a table, or what is wrong with it. Conditions: a text of up to a million bytes. -/
import Derived.BigQuiet
import Derived.Deep.QuietTactic
import Derived.Deep.Cut
import Derived.Test.YteafdhpcnpfmkaaGreatRelsW
import Derived.Test.YteafdhpcnpfmkaaGreatSmlS
import Derived.Test.YteafdhpcnpfmkaaGreatCheckW
namespace Go.Proofs.YteafdhpcnpfmkaaGreat
open Go.RowKit Go.Maps

/-- What a table tells of each relation. -/
def relsTT (T : List TypI) (v : List Int) : List RelT := (relsOf T).zipIdx.map fun x => relT11 (pathsOf T) (lvAt v x.2) x.1
theorem relsK_T (l : List TypA) (v : List Int) : relsK (pathsA (relsA l)) v (relsA l) = relsTT (l.map TypA.says) v := by
  unfold relsK relsTT
  rw [pathsA_of, ← relsA_says, List.zipIdx_map, List.map_map]
  rfl
/-- What Compile answers: the error's number, the text, types, paths, relations. -/
inductive CompIs (s : ByteArray) : Nat → ByteArray → List ByteArray → List Path → List RelT → Prop
  | parse (e : Nat) (h : (parseS s).2.1 = e) (h0 : e ≠ 0) : CompIs s e ⟨#[]⟩ [] [] []
  | check (e : Nat) (h1 : (parseS s).2.1 = 0) (h : (checkE ((parseS s).1.map typI)).1 = e) (h0 : e ≠ 0) : CompIs s e ⟨#[]⟩ [] [] []
  | cyc (h1 : (parseS s).2.1 = 0) (hR : Right ((parseS s).1.map typI)) (hc : Cyc (edgesP ((parseS s).1.map typI))) : CompIs s 33 ⟨#[]⟩ [] [] []
  | long (h1 : (parseS s).2.1 = 0) (hR : Right ((parseS s).1.map typI)) (hc : ¬ Cyc (edgesP ((parseS s).1.map typI))) (hz : 2048 < (showS (parseS s).1).size) : CompIs s 13 ⟨#[]⟩ [] [] []
  | ok (h1 : (parseS s).2.1 = 0) (hR : Right ((parseS s).1.map typI)) (v : List Int) (hv : v.length = (relsOf ((parseS s).1.map typI)).length) (hi : InR v.length (edgesP ((parseS s).1.map typI))) (hL : Least v.length (edgesP ((parseS s).1.map typI)) (lvAt v)) (hz : (showS (parseS s).1).size ≤ 2048) :
      CompIs s 0 (showS (parseS s).1) ((parseS s).1.map (·.name)) (pathsOf ((parseS s).1.map typI)) (relsTT ((parseS s).1.map typI) v)
/-- A table in memory. -/
structure TabA (w : World) (Ay : Option Addr) (cy : Nat) (ty : List ByteArray) (mb : Option Nat) (ps : List Path) (Ar : Option Addr) (cr : Nat) (K : List TabR) : Prop where
  types : Rd w w.heap.size 1 Ay ty.length cy (ty.map Value.string)
  ids : MapO w mb ps
  rels : TabK w Ar cr K
theorem TabA.up {w w' : World} {Ay : Option Addr} {cy : Nat} {ty : List ByteArray} {mb : Option Nat} {ps : List Path} {Ar : Option Addr} {cr : Nat} {K : List TabR} (h : TabA w Ay cy ty mb ps Ar cr K) (hb : Below w.heap.size w w') : TabA w' Ay cy ty mb ps Ar cr K := ⟨h.types.up hb, h.ids.up hb, h.rels.up hb⟩
theorem TabA.none_ (w : World) : TabA w none 0 [] none [] none 0 [] := ⟨Rd.none_ _ _ _, .inl ⟨rfl, rfl⟩, ⟨Rd.none_ _ _ _, fun x hx => by cases hx⟩⟩
def CompPost (s : ByteArray) (w : World) (e : Ending) (w' : World) : Prop :=
  (∃ tx Ay cy ty mb ps Ar cr K, ∃ err : Nat, e = .returned (.tuple #[.agg #[.string tx, .slice Ay ty.length cy, .map mb, .slice Ar K.length cr], .int .i64 err]) ∧ TabA w' Ay cy ty mb ps Ar cr K ∧ CompIs s err tx ty ps (K.map (·.r))) ∧ Below w.heap.size w w'
theorem set4 {w w0 : World} {B b : Nat} {t : TypeId} {x0 x1 x2 x3 : Value} (h : Bk w0 b #[x0, x1, x2, x3] t) (hb : Below B w w0) (hB : B ≤ b) (v0 v1 v2 v3 : Value) :
    Bk ((((w0.setCell ⟨b, 0, none⟩ v0).setCell ⟨b, 1, none⟩ v1).setCell ⟨b, 2, none⟩ v2).setCell ⟨b, 3, none⟩ v3) b #[v0, v1, v2, v3] t ∧
    Below B w ((((w0.setCell ⟨b, 0, none⟩ v0).setCell ⟨b, 1, none⟩ v1).setCell ⟨b, 2, none⟩ v2).setCell ⟨b, 3, none⟩ v3) :=
  ⟨by
    have hw := (((h.set 0 v0).set 1 v1).set 2 v2).set 3 v3
    simp only [List.setIfInBounds_toArray, List.set_cons_zero, List.set_cons_succ] at hw
    exact hw, (((hb.setCell hB _).setCell hB _).setCell hB _).setCell hB _⟩
theorem Bk.c4 {w : World} {b : Nat} {t : TypeId} {x0 x1 x2 x3 : Value} (h : Bk w b #[x0, x1, x2, x3] t) : w.cell? ⟨b, 0, none⟩ = some x0 ∧ w.cell? ⟨b, 1, none⟩ = some x1 ∧ w.cell? ⟨b, 2, none⟩ = some x2 ∧ w.cell? ⟨b, 3, none⟩ = some x3 := ⟨h.cell 0, h.cell 1, h.cell 2, h.cell 3⟩
/-- Who may stand there lies in rows of Parse's own. -/
theorem sub_rows {w : World} {B R c : Nat} {A : Option Addr} {l : List TypA} {T : List TypP} (hv : VTyps B w (.slice A T.length c) T) (hs : SchA w R A c l) (hl : l.map TypA.says = T.map typI) :
    ∀ y ∈ relsA l, w.ownsRow B 104 2 (.slice y.2.As y.2.subs.length y.2.cs) y.2.subs.length (y.2.subs.flatMap aSub) := by
  intro y hy
  unfold relsA at hy
  obtain ⟨t, ht, hy⟩ := List.mem_flatMap.1 hy
  obtain ⟨r, hr, rfl⟩ := List.mem_map.1 hy
  obtain ⟨i, hi⟩ := List.getElem?_of_mem ht
  obtain ⟨j, hj⟩ := List.getElem?_of_mem hr
  have h1 : (T.map typI)[i]? = some t.says := by rw [← hl, List.getElem?_map, hi]; rfl
  rw [List.getElem?_map] at h1
  obtain ⟨t0, ht0, e0⟩ := Option.map_eq_some_iff.1 h1
  obtain ⟨g, c2, vr, e1, hvr, k0, k1⟩ := hv.get ht0
  obtain ⟨b, o, e2, m0, m1, hok⟩ := hs.get hi
  injection e1 with e1 _ _
  rw [e1] at e2
  injection e2 with e2
  injection e2 with e3 e4 _
  subst e3
  subst e4
  rw [Nat.zero_add] at m1
  rw [m1] at k1
  obtain rfl := Option.some.inj k1
  have h2 : (t0.rels.map relI)[j]? = some r.says := by
    have : t0.rels.map relI = t.rels.map RelA.says := congrArg TypI.rels e0
    rw [this, List.getElem?_map, hj]
    rfl
  rw [List.getElem?_map] at h2
  obtain ⟨x0, hx0, e5⟩ := Option.map_eq_some_iff.1 h2
  obtain ⟨g2, c3, vs, vo, e6, hvs, _, _, _, _, _, q4, _⟩ := hvr.get hx0
  obtain ⟨b2, o2, e7, _, _, _, _, n4, _, _⟩ := hok.get hj
  injection e6 with e6 _ _
  rw [e6] at e7
  injection e7 with e7
  injection e7 with e8 e9 _
  subst e8
  subst e9
  rw [Nat.zero_add] at n4
  rw [n4] at q4
  obtain rfl := Option.some.inj q4
  have e10 : x0.subs = r.subs := congrArg RelI.subs e5
  have h3 : w.ownsRow B 104 2 (.slice r.As r.subs.length r.cs) x0.subs.length (x0.subs.flatMap aSub) := hvs
  rw [e10] at h3
  exact h3
set_option maxRecDepth 100000 in
set_option maxHeartbeats 1600000 in
theorem compile_any (s : ByteArray) (hs : s.size ≤ 1000000) (w : World) : Calls Tryz.prog 9 #[.string s] w (CompPost s w) := by
  obtain ⟨T, ea, pa, ha⟩ : ∃ T e p, parseS s = (T, e, p) := ⟨_, _, _, rfl⟩
  have kp := fun W => parse_named s hs ha W
  have hT : (parseS s).1 = T := by rw [ha]
  have hE1 : (parseS s).2.1 = ea := by rw [ha]
  have hsm := said_small s
  have hsf := said_few s
  have hss := says_sml s
  rw [hT] at hsm hsf hss
  replace hT := Lib.hid hT
  replace hE1 := Lib.hid hE1
  clear ha
  have hbr := bnewZ w (.cells #[.string ⟨#[]⟩, .slice none 0 0, .map none, .slice none 0 0] 27)
  have hres := Bk.new w #[.string ⟨#[]⟩, .slice none 0 0, .map none, .slice none 0 0] 27
  go_enter Tryz.func9, Tryz.ntmps9
  go_upto_region 1 with (fail)
  generalize w.alloc (.cells #[.string ⟨#[]⟩, .slice none 0 0, .map none, .slice none 0 0] 27) = w0 at *
  go_upto_region 2 with (go_at_call 26; refine (kp _).mono ?_; rintro e w2 ⟨⟨A, c, rfl, hv⟩, hb1⟩)
  obtain ⟨l, hl, hsc⟩ := hv.sch (R := 140737488351232) hsf hsm
  have hn : l.length = T.length := by have := congrArg List.length hl; rwa [List.length_map, List.length_map] at this
  have hb := bthenZ hbr hbr.size hb1
  have hgs : w.heap.size < w2.heap.size := Nat.lt_of_lt_of_le hres.lt hb1.size
  have hlt0 : w.heap.size < w0.heap.size := hres.lt
  replace hres := hres.below hb1
  have hbn := bnewZ w2 (.cells #[.slice A T.length c] 70)
  replace hsc := hsc.up hbn
  replace hv := hv.below hbn
  replace hres := hres.below hbn
  replace hb := bthenZ hb hb.size hbn
  have d0 := Bk.new w2 #[.slice A T.length c] 70
  clear hbn hbr hb1 kp
  generalize w2.alloc (.cells #[.slice A T.length c] 70) = w3 at *
  rw [← hn] at d0 ⊢
  replace hn := Lib.hid hn
  replace hl := Lib.hid hl
  have hE1' := hE1.out
  by_cases he : ea = 0
  · subst he
    have x0 := d0.c1
    have xl := d0.lt
    have kc := check_any hsc (Nat.le_refl _)
    obtain ⟨E, hE⟩ : ∃ E, checkE (l.map TypA.says) = E := ⟨_, rfl⟩
    rw [hE] at kc
    replace hE := Lib.hid hE
    go_upto_region 5 with (go_at_call 27; refine kc.mono ?_; rintro e w4 ⟨rfl, hb1⟩)
    replace hsc := hsc.up hb1
    replace hv := hv.below hb1
    replace hres := hres.below hb1
    replace d0 := d0.below hb1
    replace hb := bthenZ hb hb.size hb1
    clear hb1 x0 xl kc
    obtain ⟨E1, E2⟩ := E
    simp only
    by_cases hf : E1 = 0
    · subst hf
      have hR : Right (l.map TypA.says) := (checkE_ok _).1.1 (by rw [hE.out])
      have hlT : l.map TypA.says = (parseS s).1.map typI := by rw [hT.out]; exact hl.out
      have hn96 := relsA_few hR
      obtain ⟨hr6, hro⟩ := said_relsA (s := s) hlT hR
      have hnd : (pathsA (relsA l)).Nodup := by rw [← pathsA_of]; exact hR.paths
      replace hR := Lib.hid hR
      replace hnd := Lib.hid hnd
      have x0 := d0.c1
      have xl := d0.lt
      have ki := idsOf_any hsc (Nat.le_refl _) (by omega) hnd.out
      go_upto_region 8 with (go_at_call 28; refine ki.mono ?_; rintro e w5 ⟨⟨b, rfl, hm⟩, hb1⟩)
      replace hsc := hsc.up hb1
      replace hv := hv.below hb1
      replace hres := hres.below hb1
      replace d0 := d0.below hb1
      replace hb := bthenZ hb hb.size hb1
      clear hb1 x0 xl ki
      have hpl : (pathsA (relsA l)).length = (relsA l).length := by simp [pathsA]
      have hsz : Maps.size (numsD (pathsA (relsA l))) = (relsA l).length := by rw [(nums_size hm.2 hnd.out).2, hpl]
      have hlen : ∀ ty, (Builtin.len_ #[24] ty #[.map (some b)]).run Tryz.prog w5 = .ok (.int .i64 ((relsA l).length : Nat)) w5 := fun ty => by have := hm.1.len Tryz.underlying24 ty; rw [hsz] at this; exact this
      replace hsz := Lib.hid hsz
      replace hpl := Lib.hid hpl
      have x0 := d0.c1
      have xl := d0.lt
      have ke := edges_any hsc (Nat.le_refl _) hr6 hro
      obtain ⟨n, hnN⟩ : ∃ n, (relsA l).length = n := ⟨_, rfl⟩
      rw [hnN] at hlen hn96
      replace hnN := Lib.hid hnN
      have hlg : ∀ (zs : List Ed), (∀ e, e ∈ zs ↔ e ∈ edgesP (l.map TypA.says)) → InR n zs := fun zs h2 e he => by
        have := edges_in ((h2 e).1 he)
        rw [hnN.out] at this
        exact ⟨this.1, this.2.1, this.2.2.1, this.2.2.2.1⟩
      go_upto_region 9 with (first
        | (go_at_call 30; refine ke.mono ?_; rintro e w6 ⟨A2, c2, zs, rfl, hz1, hz2, hz3, hb1⟩; have kl := levels_res (n := n) hz3 (by have := edges_few hR.out hz1 hz2; omega) (by omega))
        | (go_at_call 29; refine kl.mono ?_; rintro e w7 ⟨⟨A7, c7, v, sn, rfl, hlv, hans⟩, hb7⟩))
      have hb17 : Below w5.heap.size w5 w7 := bthenZ hb1 hb1.size hb7
      replace hsc := hsc.up hb17
      replace hv := hv.below hb17
      replace hres := hres.below hb17
      replace d0 := d0.below hb17
      replace hb := bthenZ hb hb.size hb17
      replace hm := hm.below hb17
      clear hb1 hb7 hb17 x0 xl ke kl hlen hz3
      have hT' : (parseS s).1.map typI = l.map TypA.says := hlT.symm
      have hTe : (parseS s).2.1 = 0 := hE1.out
      cases hans with
      | arg hi => exact absurd (hlg zs hz2) hi
      | cyc hi hc =>
        have hc2 : Cyc (edgesP ((parseS s).1.map typI)) := by rw [hT']; exact hc.sub fun e he => (hz2 e).1 he
        have hR2 : Right ((parseS s).1.map typI) := by rw [hT']; exact hR.out
        clear hc
        replace hc2 := Lib.hid hc2
        obtain ⟨r0, r1, r2, r3⟩ := hres.c4
        have rf := hres.fz
        have rl := hres.lt
        go_wp2_with fail
        obtain ⟨hw, hbz⟩ := set4 hres hb (Nat.le_refl _) (.string ⟨#[]⟩) (.slice none 0 0) (.map none) (.slice none 0 0)
        obtain ⟨y0, y1, y2, y3⟩ := hw.c4
        refine bodyPost_ret (v := .tuple #[.agg #[.string ⟨#[]⟩, .slice none 0 0, .map none, .slice none 0 0], .int .i64 33]) (by simp [results, Tryz.results9, go_sem, y0, y1, y2, y3]; try rfl) rfl ?_
        exact ⟨⟨⟨#[]⟩, none, 0, [], none, [], none, 0, [], 33, rfl, TabA.none_ _, .cyc hTe hR2 hc2.out⟩, hbz⟩
      | ok hi v hvl hL hbd =>
        have hL2 : Hid (Least v.length (edgesP ((parseS s).1.map typI)) (lvAt v)) := Lib.hid (by rw [hvl, hT']; exact hL.congr hz2)
        have hi2 : Hid (InR v.length (edgesP ((parseS s).1.map typI))) := Lib.hid (by rw [hvl, hT']; exact fun e he => hi e ((hz2 e).2 he))
        have hnc : Hid (¬ Cyc (edgesP ((parseS s).1.map typI))) := Lib.hid fun hc => Cyc.none hc hL2.out.1
        have hv2 : Hid (v.length = (relsOf ((parseS s).1.map typI)).length) := Lib.hid (by rw [hvl, hT', ← relsA_says, List.length_map]; exact hnN.out.symm)
        have hR2 : Hid (Right ((parseS s).1.map typI)) := Lib.hid (by rw [hT']; exact hR.out)
        have hsub : Hid (∀ y ∈ relsA l, w7.ownsRow w0.heap.size 104 2 (.slice y.2.As y.2.subs.length y.2.cs) y.2.subs.length (y.2.subs.flatMap aSub)) := Lib.hid (sub_rows hv hsc hl.out)
        have h8 : l.length ≤ 8 := by have := hR.out.few; rwa [List.length_map] at this
        clear hL hbd hi hz2 hz1 hlg hT'
        have x0 := d0.c1
        have xl := d0.lt
        obtain ⟨tx, htx⟩ : ∃ tx, showS T = tx := ⟨_, rfl⟩
        have ks := show_any8 hv hss.1 hss.2.1 hss.2.2
        have hz9 := hss.2.2
        rw [htx] at ks hz9
        rw [← hn.out] at ks
        replace htx := Lib.hid htx
        clear hss hsm hsf
        go_upto_region 12 with (go_at_call 31; refine ks.mono ?_; rintro e w8 ⟨rfl, hb1⟩)
        replace hsc := hsc.up hb1
        replace hv := hv.below hb1
        replace hres := hres.below hb1
        replace d0 := d0.below hb1
        replace hb := bthenZ hb hb.size hb1
        replace hm := hm.below hb1
        replace hlv := hlv.up hb1
        replace hsub := Lib.hid fun y hy => own_below (hsub.out y hy) hb1
        clear hb1 x0 xl ks
        by_cases hz : 2048 < tx.size
        · have hz' : (tx.size : Int) > 2048 := by omega
          have hzs : Hid (2048 < (showS (parseS s).1).size) := Lib.hid (by rw [hT.out, htx.out]; exact hz)
          obtain ⟨r0, r1, r2, r3⟩ := hres.c4
          have rf := hres.fz
          have rl := hres.lt
          go_wp2_with fail
          obtain ⟨hw, hbz⟩ := set4 hres hb (Nat.le_refl _) (.string ⟨#[]⟩) (.slice none 0 0) (.map none) (.slice none 0 0)
          obtain ⟨y0, y1, y2, y3⟩ := hw.c4
          refine bodyPost_ret (v := .tuple #[.agg #[.string ⟨#[]⟩, .slice none 0 0, .map none, .slice none 0 0], .int .i64 13]) (by simp [results, Tryz.results9, go_sem, y0, y1, y2, y3]; try rfl) rfl ?_
          exact ⟨⟨⟨#[]⟩, none, 0, [], none, [], none, 0, [], 13, rfl, TabA.none_ _, .long hTe hR2.out hnc.out hzs.out⟩, hbz⟩
        · have hz' : ¬ (tx.size : Int) > 2048 := by omega
          go_upto_region 14 with (fail)
          refine wp_region_any (by kernel_rfl) ?_
          change wpAny _ _ _ _ _ _ _ (World.drew _)
          generalize hdw : World.drew w8 = wz at *
          have hbd : Below w8.heap.size w8 wz := by subst hdw; exact ⟨rfl, rfl, rfl, Nat.le_refl _, fun _ _ => rfl⟩
          replace hsc := hsc.up hbd
          replace hv := hv.below hbd
          replace hres := hres.below hbd
          replace d0 := d0.below hbd
          replace hb := bthenZ hb hb.size hbd
          replace hm := hm.below hbd
          replace hlv := hlv.up hbd
          replace hsub := Lib.hid fun y hy => own_below (hsub.out y hy) hbd
          clear hdw hbd
          have kt := fun (W : World) (hb : Below wz.heap.size wz W) => typesOf_any (hsc.up hb) (by omega)
          have kr := fun (W : World) (hb : Below wz.heap.size wz W) => relsOf_any (hsc.up hb) (Nat.le_refl _) (hm.below hb) (by have := hnN.out; omega) (hlv.up hb) (hvl.trans hnN.out.symm) (fun x hx => (hro x hx).2)
          rw [hvl] at kr
          have hSk : ∀ W, Below wz.heap.size wz W → W.cell? ⟨w2.heap.size, 0, none⟩ = some (.slice A l.length c) := fun W hb => (d0.below hb).cell 0
          have hb0 := Below.refl wz.heap.size wz
          have HS := hSk _ hb0
          refine wpAny_of_held (S := fun W => W.cell? ⟨w2.heap.size, 0, none⟩ = some (.slice A l.length c)) _ _ _ _ ?_
          refine roH_take 0 (some 51) (v := ?v0z) rfl rfl (by kernel_rfl) (by kernel_rfl) (by kernel_rfl) (fun _ _ _ h => h) (by rfl) ?y0z HS ?r0z
          case y0z => (intro W hS; go_simp; try with_reducible rfl)
          simp only [Act.put, List.setIfInBounds_toArray, List.set_cons_zero, List.set_cons_succ]
          refine roH_take 1 (some 52) (v := ?v1z) rfl rfl (by kernel_rfl) (by kernel_rfl) (by kernel_rfl) (fun _ _ _ h => h) (by rfl) ?y1z HS ?r1z
          case y1z => (intro W hS; go_simp; try with_reducible rfl)
          simp only [Act.put, List.setIfInBounds_toArray, List.set_cons_zero, List.set_cons_succ]
          refine roH_take 3 (some 54) (v := ?v3z) rfl rfl (by kernel_rfl) (by kernel_rfl) (by kernel_rfl) (fun _ _ _ h => h) (by rfl) ?y3z HS ?r3z
          case y3z => (intro W hS; go_simp; try with_reducible rfl)
          simp only [Act.put, List.setIfInBounds_toArray, List.set_cons_zero, List.set_cons_succ]
          refine roH_take 4 (some 55) (v := ?v4z) rfl rfl (by kernel_rfl) (by kernel_rfl) (by kernel_rfl) (fun _ _ _ h => h) (by rfl) ?y4z HS ?r4z
          case y4z => (intro W hS; go_simp; try with_reducible rfl)
          simp only [Act.put, List.setIfInBounds_toArray, List.set_cons_zero, List.set_cons_succ]
          refine roH_take 5 (some 56) (v := ?v5z) rfl rfl (by kernel_rfl) (by kernel_rfl) (by kernel_rfl) (fun _ _ _ h => h) (by rfl) ?y5z HS ?r5z
          case y5z => (intro W hS; go_simp; try with_reducible rfl)
          simp only [Act.put, List.setIfInBounds_toArray, List.set_cons_zero, List.set_cons_succ]
          refine roH_take 6 (some 57) (v := ?v6z) rfl rfl (by kernel_rfl) (by kernel_rfl) (by kernel_rfl) (fun _ _ _ h => h) (by rfl) ?y6z HS ?r6z
          case y6z => (intro W hS; go_simp; try with_reducible rfl)
          simp only [Act.put, List.setIfInBounds_toArray, List.set_cons_zero, List.set_cons_succ]
          refine roH_one 2 rfl (by kernel_rfl) ?_
          intro Kf hKf
          go_simp
          refine (kt _ hb0).mono ?_
          rintro e W1 ⟨⟨Ay, cy, rfl, hty⟩, hc1⟩
          replace HS := hSk _ hc1
          refine hKf _ _ HS ?_
          clear hKf Kf
          refine roH_one 7 rfl (by kernel_rfl) ?_
          intro Kf hKf
          go_simp
          with_reducible refine (kr _ hc1).mono ?_
          rintro e W2 ⟨⟨Ar, cr, rfl, K, hK1, hK2, hK3, hK4⟩, hc2⟩
          have hb2 : Below wz.heap.size wz W2 := bthenZ hc1 hc1.size hc2
          replace HS := hSk _ hb2
          refine hKf _ _ HS ?_
          clear hKf Kf
          refine roH_take 8 (some 59) (v := ?v8z) rfl rfl (by kernel_rfl) (by kernel_rfl) (by kernel_rfl) (fun _ _ _ h => h) (by rfl) ?y8z HS ?r8z
          case y8z => (intro W hS; go_simp; try with_reducible rfl)
          simp only [Act.put, List.setIfInBounds_toArray, List.set_cons_zero, List.set_cons_succ]
          have hres2 := hres.below hb2
          obtain ⟨r0, r1, r2, r3⟩ := hres2.c4
          have rf := hres2.fz
          have rl := hres2.lt
          refine roH_one 9 rfl (by kernel_rfl) ?_
          intro Kf hKf
          go_simp
          obtain ⟨hw, hbz⟩ := set4 hres2 (bthenZ hb hb.size hb2) (Nat.le_refl _) (.string tx) (.slice Ay l.length cy) (.map (some b)) (.slice Ar (relsA l).length cr)
          have hne1 : w2.heap.size ≠ w.heap.size := by omega
          have HS3 : ((((W2.setCell ⟨w.heap.size, 0, none⟩ (.string tx)).setCell ⟨w.heap.size, 1, none⟩ (.slice Ay l.length cy)).setCell ⟨w.heap.size, 2, none⟩ (.map (some b))).setCell ⟨w.heap.size, 3, none⟩ (.slice Ar (relsA l).length cr)).cell? ⟨w2.heap.size, 0, none⟩ = some (.slice A l.length c) :=
            ((((d0.below hb2).other (a := ⟨w.heap.size, 0, none⟩) hne1 _).other (a := ⟨w.heap.size, 1, none⟩) hne1 _).other (a := ⟨w.heap.size, 2, none⟩) hne1 _).other (a := ⟨w.heap.size, 3, none⟩) hne1 _ |>.cell 0
          have hset : ∀ {base : Nat} {e : TypeId} {sz m : Nat} {u : Value} {ys : List Value}, W2.ownsRow base e sz u m ys → w.heap.size < base → ((((W2.setCell ⟨w.heap.size, 0, none⟩ (.string tx)).setCell ⟨w.heap.size, 1, none⟩ (.slice Ay l.length cy)).setCell ⟨w.heap.size, 2, none⟩ (.map (some b))).setCell ⟨w.heap.size, 3, none⟩ (.slice Ar (relsA l).length cr)).ownsRow base e sz u m ys := fun h hlt =>
            own_set (own_set (own_set (own_set h (a := ⟨w.heap.size, 0, none⟩) hlt _) (a := ⟨w.heap.size, 1, none⟩) hlt _) (a := ⟨w.heap.size, 2, none⟩) hlt _) (a := ⟨w.heap.size, 3, none⟩) hlt _
          have hmb : b ≠ w.heap.size := by
            intro e
            obtain ⟨⟨es, clock, q1, _⟩, _⟩ := hm
            rw [e, show wz.heap[w.heap.size]? = _ from hres] at q1
            cases q1
          have hmz : MapT ((((W2.setCell ⟨w.heap.size, 0, none⟩ (.string tx)).setCell ⟨w.heap.size, 1, none⟩ (.slice Ay l.length cy)).setCell ⟨w.heap.size, 2, none⟩ (.map (some b))).setCell ⟨w.heap.size, 3, none⟩ (.slice Ar (relsA l).length cr)) b (pathsA (relsA l)) := (hm.below hb2).same ((Below.heap_setCell _ _ _ _ hmb).trans ((Below.heap_setCell _ _ _ _ hmb).trans ((Below.heap_setCell _ _ _ _ hmb).trans (Below.heap_setCell _ _ _ _ hmb))))
          have hgz : w.heap.size < wz.heap.size := hres.lt
          have hty3 := hset (own_below hty hc2) hgz
          have hK33 := hset hK3 (Nat.lt_of_lt_of_le hgz hc1.size)
          have hK43 : ∀ x ∈ K, x.ok ((((W2.setCell ⟨w.heap.size, 0, none⟩ (.string tx)).setCell ⟨w.heap.size, 1, none⟩ (.slice Ay l.length cy)).setCell ⟨w.heap.size, 2, none⟩ (.map (some b))).setCell ⟨w.heap.size, 3, none⟩ (.slice Ar (relsA l).length cr)) := fun x hx => by
            obtain ⟨⟨y, hy, a1, a2, a3⟩, o2, o3⟩ := hK4 x hx
            have s1 := hset (own_below (hsub.out y hy) hb2) hlt0
            have s2 := hset o2 (Nat.lt_of_lt_of_le hgz hc1.size)
            obtain ⟨A4, c4, e4, r4⟩ := Rd.own s1
            obtain ⟨A5, c5, e5, r5⟩ := Rd.own s2
            cases e4
            cases e5
            refine ⟨?_, r5, o3⟩
            rw [a1, a2, a3]
            exact r4
          refine hKf _ _ HS3 ?_
          clear hKf Kf r0 r1 r2 r3 rf rl HS hset hSk kt kr
          refine roH_take 10 (some 3) (v := ?v10z) rfl rfl (by kernel_rfl) (by kernel_rfl) (by kernel_rfl) (fun _ _ _ h => h) (by rfl) ?y10z HS3 ?r10z
          case y10z => (intro W hS; go_simp; try with_reducible rfl)
          simp only [Act.put, List.setIfInBounds_toArray, List.set_cons_zero, List.set_cons_succ]
          refine wpAnyH_done (by kernel_rfl) ?_ _
          obtain ⟨y0, y1, y2, y3⟩ := hw.c4
          generalize (((W2.setCell ⟨w.heap.size, 0, none⟩ (.string tx)).setCell ⟨w.heap.size, 1, none⟩ (.slice Ay l.length cy)).setCell ⟨w.heap.size, 2, none⟩ (.map (some b))).setCell ⟨w.heap.size, 3, none⟩ (.slice Ar (relsA l).length cr) = W3 at *
          go_wp2_with fail
          refine bodyPost_ret (v := .tuple #[.agg #[.string tx, .slice Ay l.length cy, .map (some b), .slice Ar (relsA l).length cr], .int .i64 0]) (by simp [results, Tryz.results9, go_sem, y0, y1, y2, y3]; try rfl) rfl ?_
          have hln : (l.map (·.name)).length = l.length := List.length_map _
          obtain ⟨A6, c6, e6, r6⟩ := Rd.own hty3
          obtain ⟨A7', c7', e7, r7⟩ := Rd.own hK33
          cases e6
          cases e7
          refine ⟨⟨tx, Ay, cy, l.map (·.name), some b, pathsA (relsA l), Ar, cr, K, 0, by rw [hln, hK1]; rfl, ⟨?_, .inr ⟨b, rfl, hmz⟩, ⟨by rw [hK1]; exact r7, hK43⟩⟩, ?_⟩, hbz⟩
          · rw [hln, List.map_map]
            exact r6
          · have hTn : l.map (·.name) = (parseS s).1.map (·.name) := by
              have := congrArg (List.map TypI.name) hlT
              rw [List.map_map, List.map_map] at this
              exact this
            have hps : pathsA (relsA l) = pathsOf ((parseS s).1.map typI) := by rw [← hlT, pathsA_of]
            have hRR : K.map (·.r) = relsTT ((parseS s).1.map typI) v := by rw [hK2, ← hlT, relsK_T]
            rw [hTn, hps, hRR, ← htx.out, ← hT.out]
            exact .ok hTe hR2.out v hv2.out hi2.out hL2.out (by rw [hT.out, htx.out]; omega)
    · have hf' : ¬ ((E1 : Int) = 0) := by omega
      have hcs : (checkE ((parseS s).1.map typI)).1 = E1 := by rw [hT.out, ← hl.out, hE.out]
      obtain ⟨r0, r1, r2, r3⟩ := hres.c4
      have rf := hres.fz
      have rl := hres.lt
      go_wp2_with fail
      obtain ⟨hw, hbz⟩ := set4 hres hb (Nat.le_refl _) (.string ⟨#[]⟩) (.slice none 0 0) (.map none) (.slice none 0 0)
      obtain ⟨y0, y1, y2, y3⟩ := hw.c4
      refine bodyPost_ret (v := .tuple #[.agg #[.string ⟨#[]⟩, .slice none 0 0, .map none, .slice none 0 0], .int .i64 (E1 : Nat)]) (by simp [results, Tryz.results9, go_sem, y0, y1, y2, y3]; try rfl) rfl ?_
      exact ⟨⟨⟨#[]⟩, none, 0, [], none, [], none, 0, [], E1, rfl, TabA.none_ _, .check E1 hE1' hcs hf⟩, hbz⟩
  · have he' : ¬ ((ea : Int) = 0) := by omega
    obtain ⟨r0, r1, r2, r3⟩ := hres.c4
    have rf := hres.fz
    have rl := hres.lt
    go_wp2_with fail
    obtain ⟨hw, hbz⟩ := set4 hres hb (Nat.le_refl _) (.string ⟨#[]⟩) (.slice none 0 0) (.map none) (.slice none 0 0)
    obtain ⟨y0, y1, y2, y3⟩ := hw.c4
    refine bodyPost_ret (v := .tuple #[.agg #[.string ⟨#[]⟩, .slice none 0 0, .map none, .slice none 0 0], .int .i64 (ea : Nat)]) (by simp [results, Tryz.results9, go_sem, y0, y1, y2, y3]; try rfl) rfl ?_
    exact ⟨⟨⟨#[]⟩, none, 0, [], none, [], none, 0, [], ea, rfl, TabA.none_ _, .parse ea hE1' he⟩, hbz⟩
end Go.Proofs.YteafdhpcnpfmkaaGreat
