import Derived.Test.YtiepddmagfmllaaGreatT22
import Derived.Test.YtiepddmagfmllaaGreatT26
set_option maxRecDepth 100000
set_option maxHeartbeats 4000000
namespace Go.Proofs.YtiepddmagfmllaaGreat
open Go.RowKit Go.Maps
def ze9 (T:List TypI) (v:List Int):List RelT:=(zaz T).zipIdx.map fun x=>zcB (zap T) (zaL v x.2) x.1
theorem relsK_T (l:List TypA) (v:List Int):zhn (zao (relsA l)) v (relsA l)=ze9 (l.map TypA.says) v:=by
 unfold zhn ze9;rw [zf0,←zaO,List.zipIdx_map,List.map_map];rfl
inductive CompIs (s:ByteArray):Nat→ByteArray→List ByteArray→List Path→List RelT→Prop
 | parse (e:Nat) (h:(zaf s).2.1=e) (h0:e≠0):CompIs s e ⟨#[]⟩ [] [] []
 | check (e:Nat) (h1:(zaf s).2.1=0) (h:(zbb ((zaf s).1.map za5)).1=e) (h0:e≠0):CompIs s e ⟨#[]⟩ [] [] []
 | cyc (h1:(zaf s).2.1=0) (hR:Right ((zaf s).1.map za5)) (hc:Cyc (zaN ((zaf s).1.map za5))):CompIs s 33 ⟨#[]⟩ [] [] []
 | long (h1:(zaf s).2.1=0) (hR:Right ((zaf s).1.map za5)) (hc:¬Cyc (zaN ((zaf s).1.map za5))) (hz:2048<(zbN (zaf s).1).size):CompIs s 13 ⟨#[]⟩ [] [] []
 | ok (h1:(zaf s).2.1=0) (hR:Right ((zaf s).1.map za5)) (v:List Int) (hv:v.length=(zaz ((zaf s).1.map za5)).length) (hi:InR v.length (zaN ((zaf s).1.map za5))) (hL:Least v.length (zaN ((zaf s).1.map za5)) (zaL v)) (hz:(zbN (zaf s).1).size≤2048) :
  CompIs s 0 (zbN (zaf s).1) ((zaf s).1.map (·.name)) (zap ((zaf s).1.map za5)) (ze9 ((zaf s).1.map za5) v)
structure TabA (w:World) (Ay:Option Addr) (cy:Nat) (ty:List ByteArray) (mb:Option Nat) (ps:List Path) (Ar:Option Addr) (cr:Nat) (K:List TabR):Prop where
 types:Rd w w.heap.size 1 Ay ty.length cy (ty.map Value.string)
 ids:MapO w mb ps
 rels:TabK w Ar cr K
theorem TabA.up {w w':World} {Ay:Option Addr} {cy:Nat} {ty:List ByteArray} {mb:Option Nat} {ps:List Path} {Ar:Option Addr} {cr:Nat} {K:List TabR} (h:TabA w Ay cy ty mb ps Ar cr K) (hb:Below w.heap.size w w'):TabA w' Ay cy ty mb ps Ar cr K:=⟨h.types.up hb,h.ids.up hb,h.rels.up hb⟩
theorem TabA.none_ (w:World):TabA w none 0 [] none [] none 0 []:=⟨Rd.none_ _ _ _,.inl ⟨rfl,rfl⟩,⟨Rd.none_ _ _ _,fun x hx=>by cases hx⟩⟩
def CompPost (s:ByteArray) (w:World) (e:Ending) (w':World):Prop :=
 (∃tx Ay cy ty mb ps Ar cr K,∃err:Nat,e = .returned (.tuple #[.agg #[.string tx,.slice Ay ty.length cy,.map mb,.slice Ar K.length cr],.int .i64 err])∧TabA w' Ay cy ty mb ps Ar cr K∧CompIs s err tx ty ps (K.map (·.r)))∧Below w.heap.size w w'
theorem set4 {w w0:World} {B b:Nat} {t:TypeId} {x0 x1 x2 x3:Value} (h:Bk w0 b #[x0,x1,x2,x3] t) (hb:Below B w w0) (hB:B≤b) (v0 v1 v2 v3:Value) :
 Bk ((((w0.setCell ⟨b,0,none⟩ v0).setCell ⟨b,1,none⟩ v1).setCell ⟨b,2,none⟩ v2).setCell ⟨b,3,none⟩ v3) b #[v0,v1,v2,v3] t ∧
 Below B w ((((w0.setCell ⟨b,0,none⟩ v0).setCell ⟨b,1,none⟩ v1).setCell ⟨b,2,none⟩ v2).setCell ⟨b,3,none⟩ v3) :=
 ⟨by
  have hw:=(((h.set 0 v0).set 1 v1).set 2 v2).set 3 v3;simp only [List.setIfInBounds_toArray,List.set_cons_zero,List.set_cons_succ] at hw;exact hw,(((hb.setCell hB _).setCell hB _).setCell hB _).setCell hB _⟩
theorem Bk.c4 {w:World} {b:Nat} {t:TypeId} {x0 x1 x2 x3:Value} (h:Bk w b #[x0,x1,x2,x3] t):w.cell? ⟨b,0,none⟩=some x0∧w.cell? ⟨b,1,none⟩=some x1∧w.cell? ⟨b,2,none⟩=some x2∧w.cell? ⟨b,3,none⟩=some x3:=⟨h.cell 0,h.cell 1,h.cell 2,h.cell 3⟩
theorem sub_rows {w:World} {B R c:Nat} {A:Option Addr} {l:List TypA} {T:List TypP} (hv:VTyps B w (.slice A T.length c) T) (hs:SchA w R A c l) (hl:l.map TypA.says=T.map za5) :
 ∀y ∈ relsA l,w.ownsRow B 104 2 (.slice y.2.As y.2.subs.length y.2.cs) y.2.subs.length (y.2.subs.flatMap ziu):=by
 intro y hy;unfold relsA at hy;obtain ⟨t,ht,hy⟩:=List.mem_flatMap.1 hy;obtain ⟨r,hr,rfl⟩:=List.mem_map.1 hy;obtain ⟨i,hi⟩:=List.getElem?_of_mem ht;obtain ⟨j,hj⟩:=List.getElem?_of_mem hr;have h1:(T.map za5)[i]? = some t.says:=by rw [←hl,List.getElem?_map,hi];rfl
 rw [List.getElem?_map] at h1;obtain ⟨t0,ht0,e0⟩:=Option.map_eq_some_iff.1 h1;obtain ⟨g,c2,vr,e1,hvr,k0,k1⟩:=hv.get ht0;obtain ⟨b,o,e2,m0,m1,hok⟩:=hs.get hi;injection e1 with e1 _ _
 rw [e1] at e2;injection e2 with e2
 injection e2 with e3 e4 _
 subst e3;subst e4;rw [Nat.zero_add] at m1;rw [m1] at k1;obtain rfl:=Option.some.inj k1;have h2:(t0.rels.map relI)[j]? = some r.says:=by
  have:t0.rels.map relI=t.rels.map RelA.says:=congrArg TypI.rels e0;rw [this,List.getElem?_map,hj];rfl
 rw [List.getElem?_map] at h2;obtain ⟨x0,hx0,e5⟩:=Option.map_eq_some_iff.1 h2;obtain ⟨g2,c3,vs,vo,e6,hvs,_,_,_,_,_,q4,_⟩:=hvr.get hx0;obtain ⟨b2,o2,e7,_,_,_,_,n4,_,_⟩:=hok.get hj;injection e6 with e6 _ _
 rw [e6] at e7;injection e7 with e7
 injection e7 with e8 e9 _
 subst e8;subst e9;rw [Nat.zero_add] at n4;rw [n4] at q4;obtain rfl:=Option.some.inj q4;have e10:x0.subs=r.subs:=congrArg RelI.subs e5;have h3:w.ownsRow B 104 2 (.slice r.As r.subs.length r.cs) x0.subs.length (x0.subs.flatMap ziu):=hvs;rw [e10] at h3;exact h3
theorem compile_any (s:ByteArray) (hs:s.size≤1000000) (w:World):Calls Tryz.prog 5 #[.string s] w (CompPost s w):=by
 obtain ⟨T,ea,pa,ha⟩:∃T e p,zaf s=(T,e,p):=⟨_,_,_,rfl⟩;have kp:=fun W=>zi3 s hs ha W;have hT:(zaf s).1=T:=by rw [ha]
 have hE1:(zaf s).2.1=ea:=by rw [ha]
 have hsm:=zeW s;have hsf:=zhv s;have hss:=zjY s;rw [hT] at hsm hsf hss;replace hT:=Lib.hid hT;replace hE1:=Lib.hid hE1;clear ha;have hbr:=zfb w (.cells #[.string ⟨#[]⟩,.slice none 0 0,.map none,.slice none 0 0] 27);have hres:=Bk.new w #[.string ⟨#[]⟩,.slice none 0 0,.map none,.slice none 0 0] 27;go_enter Tryz.func5,Tryz.ntmps5
 go_upto_region 1 with (fail)
 generalize w.alloc (.cells #[.string ⟨#[]⟩,.slice none 0 0,.map none,.slice none 0 0] 27)=w0 at *
 go_upto_region 2 with (go_at_call 22;refine (kp _).mono ?_;rintro e w2 ⟨⟨A,c,rfl,hv⟩,hb1⟩)
 obtain ⟨l,hl,hsc⟩:=hv.sch (R:=140737488351232) hsf hsm;have hn:l.length=T.length:=by have:=congrArg List.length hl;rwa [List.length_map,List.length_map] at this
 have hb:=zah hbr hbr.size hb1;have hgs:w.heap.size<w2.heap.size:=Nat.lt_of_lt_of_le hres.lt hb1.size;have hlt0:w.heap.size<w0.heap.size:=hres.lt;replace hres:=hres.below hb1;have hbn:=zfb w2 (.cells #[.slice A T.length c] 70);replace hsc:=hsc.up hbn;replace hv:=hv.below hbn;replace hres:=hres.below hbn;replace hb:=zah hb hb.size hbn;have d0:=Bk.new w2 #[.slice A T.length c] 70;clear hbn hbr hb1 kp;generalize w2.alloc (.cells #[.slice A T.length c] 70)=w3 at *
 rw [←hn] at d0 ⊢;replace hn:=Lib.hid hn;replace hl:=Lib.hid hl;have hE1':=hE1.out;by_cases he:ea=0
 · subst he;have x0:=d0.c1;have xl:=d0.lt;have kc:=check_any hsc (Nat.le_refl _);obtain ⟨E,hE⟩:∃E,zbb (l.map TypA.says)=E:=⟨_,rfl⟩;rw [hE] at kc;replace hE:=Lib.hid hE;go_upto_region 5 with (go_at_call 23;refine kc.mono ?_;rintro e w4 ⟨rfl,hb1⟩)
   replace hsc:=hsc.up hb1;replace hv:=hv.below hb1;replace hres:=hres.below hb1;replace d0:=d0.below hb1;replace hb:=zah hb hb.size hb1;clear hb1 x0 xl kc;obtain ⟨E1,E2⟩:=E;simp only;by_cases hf:E1=0
   · subst hf;have hR:Right (l.map TypA.says):=(zdo _).1.1 (by rw [hE.out]);have hlT:l.map TypA.says=(zaf s).1.map za5:=by rw [hT.out];exact hl.out
     have hn96:=zew hR;obtain ⟨hr6,hro⟩:=zkR (s:=s) hlT hR;have hnd:(zao (relsA l)).Nodup:=by rw [←zf0];exact hR.paths
     replace hR:=Lib.hid hR;replace hnd:=Lib.hid hnd;have x0:=d0.c1;have xl:=d0.lt;have ki:=idsOf_any hsc (Nat.le_refl _) (by omega) hnd.out;go_upto_region 8 with (go_at_call 24;refine ki.mono ?_;rintro e w5 ⟨⟨b,rfl,hm⟩,hb1⟩)
     replace hsc:=hsc.up hb1;replace hv:=hv.below hb1;replace hres:=hres.below hb1;replace d0:=d0.below hb1;replace hb:=zah hb hb.size hb1;clear hb1 x0 xl ki;have hpl:(zao (relsA l)).length=(relsA l).length:=by simp [zao]
     have hsz:Maps.size (zdf (zao (relsA l)))=(relsA l).length:=by rw [(zh1 hm.2 hnd.out).2,hpl]
     have hlen:∀ty,(Builtin.len_ #[24] ty #[.map (some b)]).run Tryz.prog w5 = .ok (.int .i64 ((relsA l).length:Nat)) w5:=fun ty=>by have:=hm.1.len Tryz.underlying24 ty;rw [hsz] at this;exact this
     replace hsz:=Lib.hid hsz;replace hpl:=Lib.hid hpl;have x0:=d0.c1;have xl:=d0.lt;have ke:=edges_any hsc (Nat.le_refl _) hr6 hro;obtain ⟨n,hnN⟩:∃n,(relsA l).length=n:=⟨_,rfl⟩;rw [hnN] at hlen hn96;replace hnN:=Lib.hid hnN;have hlg:∀(zs:List Ed),(∀e,e ∈ zs↔e ∈ zaN (l.map TypA.says))→InR n zs:=fun zs h2 e he=>by
      have:=zfl ((h2 e).1 he);rw [hnN.out] at this;exact ⟨this.1,this.2.1,this.2.2.1,this.2.2.2.1⟩
     go_upto_region 9 with (first
      | (go_at_call 26;refine ke.mono ?_;rintro e w6 ⟨A2,c2,zs,rfl,hz1,hz2,hz3,hb1⟩;have kl:=zkx (n:=n) hz3 (by have:=zlq hR.out hz1 hz2;omega) (by omega))
      | (go_at_call 25;refine kl.mono ?_;rintro e w7 ⟨⟨A7,c7,v,sn,rfl,hlv,hans⟩,hb7⟩))
     have hb17:Below w5.heap.size w5 w7:=zah hb1 hb1.size hb7;replace hsc:=hsc.up hb17;replace hv:=hv.below hb17;replace hres:=hres.below hb17;replace d0:=d0.below hb17;replace hb:=zah hb hb.size hb17;replace hm:=hm.below hb17;clear hb1 hb7 hb17 x0 xl ke kl hlen hz3;have hT':(zaf s).1.map za5=l.map TypA.says:=hlT.symm;have hTe:(zaf s).2.1=0:=hE1.out;cases hans with
     | arg hi=>exact absurd (hlg zs hz2) hi
     | cyc hi hc =>
      have hc2:Cyc (zaN ((zaf s).1.map za5)):=by rw [hT'];exact hc.sub fun e he=>(hz2 e).1 he
      have hR2:Right ((zaf s).1.map za5):=by rw [hT'];exact hR.out
      clear hc;replace hc2:=Lib.hid hc2;obtain ⟨r0,r1,r2,r3⟩:=hres.c4;have rf:=hres.fz;have rl:=hres.lt;go_wp2_with fail
      obtain ⟨hw,hbz⟩:=set4 hres hb (Nat.le_refl _) (.string ⟨#[]⟩) (.slice none 0 0) (.map none) (.slice none 0 0);obtain ⟨y0,y1,y2,y3⟩:=hw.c4;refine bodyPost_ret (v:=.tuple #[.agg #[.string ⟨#[]⟩,.slice none 0 0,.map none,.slice none 0 0],.int .i64 33]) (by simp [results,Tryz.results5,go_sem,y0,y1,y2,y3];try rfl) rfl ?_;exact ⟨⟨⟨#[]⟩,none,0,[],none,[],none,0,[],33,rfl,TabA.none_ _,.cyc hTe hR2 hc2.out⟩,hbz⟩
     | ok hi v hvl hL hbd =>
      have hL2:Hid (Least v.length (zaN ((zaf s).1.map za5)) (zaL v)):=Lib.hid (by rw [hvl,hT'];exact hL.congr hz2);have hi2:Hid (InR v.length (zaN ((zaf s).1.map za5))):=Lib.hid (by rw [hvl,hT'];exact fun e he=>hi e ((hz2 e).2 he));have hnc:Hid (¬Cyc (zaN ((zaf s).1.map za5))):=Lib.hid fun hc=>Cyc.none hc hL2.out.1;have hv2:Hid (v.length=(zaz ((zaf s).1.map za5)).length):=Lib.hid (by rw [hvl,hT',←zaO,List.length_map];exact hnN.out.symm);have hR2:Hid (Right ((zaf s).1.map za5)):=Lib.hid (by rw [hT'];exact hR.out);have hsub:Hid (∀y ∈ relsA l,w7.ownsRow w0.heap.size 104 2 (.slice y.2.As y.2.subs.length y.2.cs) y.2.subs.length (y.2.subs.flatMap ziu)):=Lib.hid (sub_rows hv hsc hl.out);have h8:l.length≤8:=by have:=hR.out.few;rwa [List.length_map] at this
      clear hL hbd hi hz2 hz1 hlg hT';have x0:=d0.c1;have xl:=d0.lt;obtain ⟨tx,htx⟩:∃tx,zbN T=tx:=⟨_,rfl⟩;have ks:=show_any8 hv hss.1 hss.2.1 hss.2.2;have hz9:=hss.2.2;rw [htx] at ks hz9;rw [←hn.out] at ks;replace htx:=Lib.hid htx;clear hss hsm hsf;go_upto_region 12 with (go_at_call 27;refine ks.mono ?_;rintro e w8 ⟨rfl,hb1⟩)
      replace hsc:=hsc.up hb1;replace hv:=hv.below hb1;replace hres:=hres.below hb1;replace d0:=d0.below hb1;replace hb:=zah hb hb.size hb1;replace hm:=hm.below hb1;replace hlv:=hlv.up hb1;replace hsub:=Lib.hid fun y hy=>zag (hsub.out y hy) hb1;clear hb1 x0 xl ks;by_cases hz:2048<tx.size
      · have hz':(tx.size:Int) > 2048:=by omega
        have hzs:Hid (2048<(zbN (zaf s).1).size):=Lib.hid (by rw [hT.out,htx.out];exact hz);obtain ⟨r0,r1,r2,r3⟩:=hres.c4;have rf:=hres.fz;have rl:=hres.lt;go_wp2_with fail
        obtain ⟨hw,hbz⟩:=set4 hres hb (Nat.le_refl _) (.string ⟨#[]⟩) (.slice none 0 0) (.map none) (.slice none 0 0);obtain ⟨y0,y1,y2,y3⟩:=hw.c4;refine bodyPost_ret (v:=.tuple #[.agg #[.string ⟨#[]⟩,.slice none 0 0,.map none,.slice none 0 0],.int .i64 13]) (by simp [results,Tryz.results5,go_sem,y0,y1,y2,y3];try rfl) rfl ?_;exact ⟨⟨⟨#[]⟩,none,0,[],none,[],none,0,[],13,rfl,TabA.none_ _,.long hTe hR2.out hnc.out hzs.out⟩,hbz⟩
      · have hz':¬(tx.size:Int) > 2048:=by omega
        go_upto_region 14 with (fail)
        refine wp_region_any (by kernel_rfl) ?_;change wpAny _ _ _ _ _ _ _ (World.drew _);generalize hdw:World.drew w8=wz at *
        have hbd:Below w8.heap.size w8 wz:=by subst hdw;exact ⟨rfl,rfl,rfl,Nat.le_refl _,fun _ _=>rfl⟩
        replace hsc:=hsc.up hbd;replace hv:=hv.below hbd;replace hres:=hres.below hbd;replace d0:=d0.below hbd;replace hb:=zah hb hb.size hbd;replace hm:=hm.below hbd;replace hlv:=hlv.up hbd;replace hsub:=Lib.hid fun y hy=>zag (hsub.out y hy) hbd;clear hdw hbd;have kt:=fun (W:World) (hb:Below wz.heap.size wz W)=>typesOf_any (hsc.up hb) (by omega);have kr:=fun (W:World) (hb:Below wz.heap.size wz W)=>relsOf_any (hsc.up hb) (Nat.le_refl _) (hm.below hb) (by have:=hnN.out;omega) (hlv.up hb) (hvl.trans hnN.out.symm) (fun x hx=>(hro x hx).2);rw [hvl] at kr;have hSk:∀W,Below wz.heap.size wz W→W.cell? ⟨w2.heap.size,0,none⟩=some (.slice A l.length c):=fun W hb=>(d0.below hb).cell 0;have hb0:=Below.refl wz.heap.size wz;have HS:=hSk _ hb0;refine wpAny_of_held (S:=fun W=>W.cell? ⟨w2.heap.size,0,none⟩=some (.slice A l.length c)) _ _ _ _ ?_;refine zaa 0 (some 51) (v:=?v0z) rfl rfl (by kernel_rfl) (by kernel_rfl) (by kernel_rfl) (fun _ _ _ h=>h) (by rfl) ?y0z HS ?r0z;case y0z=>(intro W hS;go_simp;try with_reducible rfl)
        simp only [Act.put,List.setIfInBounds_toArray,List.set_cons_zero,List.set_cons_succ];refine zaa 1 (some 52) (v:=?v1z) rfl rfl (by kernel_rfl) (by kernel_rfl) (by kernel_rfl) (fun _ _ _ h=>h) (by rfl) ?y1z HS ?r1z;case y1z=>(intro W hS;go_simp;try with_reducible rfl)
        simp only [Act.put,List.setIfInBounds_toArray,List.set_cons_zero,List.set_cons_succ];refine zaa 3 (some 54) (v:=?v3z) rfl rfl (by kernel_rfl) (by kernel_rfl) (by kernel_rfl) (fun _ _ _ h=>h) (by rfl) ?y3z HS ?r3z;case y3z=>(intro W hS;go_simp;try with_reducible rfl)
        simp only [Act.put,List.setIfInBounds_toArray,List.set_cons_zero,List.set_cons_succ];refine zaa 4 (some 55) (v:=?v4z) rfl rfl (by kernel_rfl) (by kernel_rfl) (by kernel_rfl) (fun _ _ _ h=>h) (by rfl) ?y4z HS ?r4z;case y4z=>(intro W hS;go_simp;try with_reducible rfl)
        simp only [Act.put,List.setIfInBounds_toArray,List.set_cons_zero,List.set_cons_succ];refine zaa 5 (some 56) (v:=?v5z) rfl rfl (by kernel_rfl) (by kernel_rfl) (by kernel_rfl) (fun _ _ _ h=>h) (by rfl) ?y5z HS ?r5z;case y5z=>(intro W hS;go_simp;try with_reducible rfl)
        simp only [Act.put,List.setIfInBounds_toArray,List.set_cons_zero,List.set_cons_succ];refine zaa 6 (some 57) (v:=?v6z) rfl rfl (by kernel_rfl) (by kernel_rfl) (by kernel_rfl) (fun _ _ _ h=>h) (by rfl) ?y6z HS ?r6z;case y6z=>(intro W hS;go_simp;try with_reducible rfl)
        simp only [Act.put,List.setIfInBounds_toArray,List.set_cons_zero,List.set_cons_succ];refine zaB 2 rfl (by kernel_rfl) ?_;intro Kf hKf;go_simp;refine (kt _ hb0).mono ?_;rintro e W1 ⟨⟨Ay,cy,rfl,hty⟩,hc1⟩;replace HS:=hSk _ hc1;refine hKf _ _ HS ?_;clear hKf Kf;refine zaB 7 rfl (by kernel_rfl) ?_;intro Kf hKf;go_simp;with_reducible refine (kr _ hc1).mono ?_
        rintro e W2 ⟨⟨Ar,cr,rfl,K,hK1,hK2,hK3,hK4⟩,hc2⟩;have hb2:Below wz.heap.size wz W2:=zah hc1 hc1.size hc2;replace HS:=hSk _ hb2;refine hKf _ _ HS ?_;clear hKf Kf;refine zaa 8 (some 59) (v:=?v8z) rfl rfl (by kernel_rfl) (by kernel_rfl) (by kernel_rfl) (fun _ _ _ h=>h) (by rfl) ?y8z HS ?r8z;case y8z=>(intro W hS;go_simp;try with_reducible rfl)
        simp only [Act.put,List.setIfInBounds_toArray,List.set_cons_zero,List.set_cons_succ];have hres2:=hres.below hb2;obtain ⟨r0,r1,r2,r3⟩:=hres2.c4;have rf:=hres2.fz;have rl:=hres2.lt;refine zaB 9 rfl (by kernel_rfl) ?_;intro Kf hKf;go_simp;obtain ⟨hw,hbz⟩:=set4 hres2 (zah hb hb.size hb2) (Nat.le_refl _) (.string tx) (.slice Ay l.length cy) (.map (some b)) (.slice Ar (relsA l).length cr);have hne1:w2.heap.size≠w.heap.size:=by omega
        have HS3:((((W2.setCell ⟨w.heap.size,0,none⟩ (.string tx)).setCell ⟨w.heap.size,1,none⟩ (.slice Ay l.length cy)).setCell ⟨w.heap.size,2,none⟩ (.map (some b))).setCell ⟨w.heap.size,3,none⟩ (.slice Ar (relsA l).length cr)).cell? ⟨w2.heap.size,0,none⟩=some (.slice A l.length c) :=
         ((((d0.below hb2).other (a:=⟨w.heap.size,0,none⟩) hne1 _).other (a:=⟨w.heap.size,1,none⟩) hne1 _).other (a:=⟨w.heap.size,2,none⟩) hne1 _).other (a:=⟨w.heap.size,3,none⟩) hne1 _ |>.cell 0
        have hset:∀{base:Nat} {e:TypeId} {sz m:Nat} {u:Value} {ys:List Value},W2.ownsRow base e sz u m ys→w.heap.size<base→((((W2.setCell ⟨w.heap.size,0,none⟩ (.string tx)).setCell ⟨w.heap.size,1,none⟩ (.slice Ay l.length cy)).setCell ⟨w.heap.size,2,none⟩ (.map (some b))).setCell ⟨w.heap.size,3,none⟩ (.slice Ar (relsA l).length cr)).ownsRow base e sz u m ys:=fun h hlt =>
         zai (zai (zai (zai h (a:=⟨w.heap.size,0,none⟩) hlt _) (a:=⟨w.heap.size,1,none⟩) hlt _) (a:=⟨w.heap.size,2,none⟩) hlt _) (a:=⟨w.heap.size,3,none⟩) hlt _
        have hmb:b≠w.heap.size:=by
         intro e;obtain ⟨⟨es,clock,q1,_⟩,_⟩:=hm;rw [e,show wz.heap[w.heap.size]? = _ from hres] at q1;cases q1
        have hmz:MapT ((((W2.setCell ⟨w.heap.size,0,none⟩ (.string tx)).setCell ⟨w.heap.size,1,none⟩ (.slice Ay l.length cy)).setCell ⟨w.heap.size,2,none⟩ (.map (some b))).setCell ⟨w.heap.size,3,none⟩ (.slice Ar (relsA l).length cr)) b (zao (relsA l)):=(hm.below hb2).same ((Below.heap_setCell _ _ _ _ hmb).trans ((Below.heap_setCell _ _ _ _ hmb).trans ((Below.heap_setCell _ _ _ _ hmb).trans (Below.heap_setCell _ _ _ _ hmb))));have hgz:w.heap.size<wz.heap.size:=hres.lt;have hty3:=hset (zag hty hc2) hgz;have hK33:=hset hK3 (Nat.lt_of_lt_of_le hgz hc1.size);have hK43:∀x ∈ K,x.ok ((((W2.setCell ⟨w.heap.size,0,none⟩ (.string tx)).setCell ⟨w.heap.size,1,none⟩ (.slice Ay l.length cy)).setCell ⟨w.heap.size,2,none⟩ (.map (some b))).setCell ⟨w.heap.size,3,none⟩ (.slice Ar (relsA l).length cr)):=fun x hx=>by
         obtain ⟨⟨y,hy,a1,a2,a3⟩,o2,o3⟩:=hK4 x hx;have s1:=hset (zag (hsub.out y hy) hb2) hlt0;have s2:=hset o2 (Nat.lt_of_lt_of_le hgz hc1.size);obtain ⟨A4,c4,e4,r4⟩:=Rd.own s1;obtain ⟨A5,c5,e5,r5⟩:=Rd.own s2;cases e4;cases e5;refine ⟨?_,r5,o3⟩;rw [a1,a2,a3];exact r4
        refine hKf _ _ HS3 ?_;clear hKf Kf r0 r1 r2 r3 rf rl HS hset hSk kt kr;refine zaa 10 (some 3) (v:=?v10z) rfl rfl (by kernel_rfl) (by kernel_rfl) (by kernel_rfl) (fun _ _ _ h=>h) (by rfl) ?y10z HS3 ?r10z;case y10z=>(intro W hS;go_simp;try with_reducible rfl)
        simp only [Act.put,List.setIfInBounds_toArray,List.set_cons_zero,List.set_cons_succ];refine wpAnyH_done (by kernel_rfl) ?_ _;obtain ⟨y0,y1,y2,y3⟩:=hw.c4;generalize (((W2.setCell ⟨w.heap.size,0,none⟩ (.string tx)).setCell ⟨w.heap.size,1,none⟩ (.slice Ay l.length cy)).setCell ⟨w.heap.size,2,none⟩ (.map (some b))).setCell ⟨w.heap.size,3,none⟩ (.slice Ar (relsA l).length cr)=W3 at *
        go_wp2_with fail
        refine bodyPost_ret (v:=.tuple #[.agg #[.string tx,.slice Ay l.length cy,.map (some b),.slice Ar (relsA l).length cr],.int .i64 0]) (by simp [results,Tryz.results5,go_sem,y0,y1,y2,y3];try rfl) rfl ?_;have hln:(l.map (·.name)).length=l.length:=List.length_map _;obtain ⟨A6,c6,e6,r6⟩:=Rd.own hty3;obtain ⟨A7',c7',e7,r7⟩:=Rd.own hK33;cases e6;cases e7;refine ⟨⟨tx,Ay,cy,l.map (·.name),some b,zao (relsA l),Ar,cr,K,0,by rw [hln,hK1];rfl,⟨?_,.inr ⟨b,rfl,hmz⟩,⟨by rw [hK1];exact r7,hK43⟩⟩,?_⟩,hbz⟩
        · rw [hln,List.map_map];exact r6
        · have hTn:l.map (·.name)=(zaf s).1.map (·.name):=by
           have:=congrArg (List.map TypI.name) hlT;rw [List.map_map,List.map_map] at this;exact this
          have hps:zao (relsA l)=zap ((zaf s).1.map za5):=by rw [←hlT,zf0]
          have hRR:K.map (·.r)=ze9 ((zaf s).1.map za5) v:=by rw [hK2,←hlT,relsK_T]
          rw [hTn,hps,hRR,←htx.out,←hT.out];exact .ok hTe hR2.out v hv2.out hi2.out hL2.out (by rw [hT.out,htx.out];omega)
   · have hf':¬((E1:Int)=0):=by omega
     have hcs:(zbb ((zaf s).1.map za5)).1=E1:=by rw [hT.out,←hl.out,hE.out]
     obtain ⟨r0,r1,r2,r3⟩:=hres.c4;have rf:=hres.fz;have rl:=hres.lt;go_wp2_with fail
     obtain ⟨hw,hbz⟩:=set4 hres hb (Nat.le_refl _) (.string ⟨#[]⟩) (.slice none 0 0) (.map none) (.slice none 0 0);obtain ⟨y0,y1,y2,y3⟩:=hw.c4;refine bodyPost_ret (v:=.tuple #[.agg #[.string ⟨#[]⟩,.slice none 0 0,.map none,.slice none 0 0],.int .i64 (E1:Nat)]) (by simp [results,Tryz.results5,go_sem,y0,y1,y2,y3];try rfl) rfl ?_;exact ⟨⟨⟨#[]⟩,none,0,[],none,[],none,0,[],E1,rfl,TabA.none_ _,.check E1 hE1' hcs hf⟩,hbz⟩
 · have he':¬((ea:Int)=0):=by omega
   obtain ⟨r0,r1,r2,r3⟩:=hres.c4;have rf:=hres.fz;have rl:=hres.lt;go_wp2_with fail
   obtain ⟨hw,hbz⟩:=set4 hres hb (Nat.le_refl _) (.string ⟨#[]⟩) (.slice none 0 0) (.map none) (.slice none 0 0);obtain ⟨y0,y1,y2,y3⟩:=hw.c4;refine bodyPost_ret (v:=.tuple #[.agg #[.string ⟨#[]⟩,.slice none 0 0,.map none,.slice none 0 0],.int .i64 (ea:Nat)]) (by simp [results,Tryz.results5,go_sem,y0,y1,y2,y3];try rfl) rfl ?_;exact ⟨⟨⟨#[]⟩,none,0,[],none,[],none,0,[],ea,rfl,TabA.none_ _,.parse ea hE1' he⟩,hbz⟩
end Go.Proofs.YtiepddmagfmllaaGreat
namespace Go.Proofs.YtiepddmagfmllaaGreat
open Go.RowKit
theorem ret_bool {a b:Bool} (h:a=b):Ending.returned (.bool a) = .returned (.bool b):=by rw [h]
theorem zja {k:IntKind} {a b:Int} (h:a=b):Ending.returned (.int k a) = .returned (.int k b):=by rw [h]
theorem in_any (s:ByteArray) (z l u:Int) (i lo hi:Nat) (w:World) (hz:z=i) (hl:l=lo) (hu:u=hi) :
 Calls Tryz.prog 139 #[.string s,.int .i64 z,.int .u8 l,.int .u8 u] w fun e w'=>e = .returned (.bool (inB s i lo hi))∧w=w':=by
 subst hz hl hu;by_cases h:i<s.size
 · have hb:=zdm s i h;go_enter Tryz.func139,Tryz.ntmps139
   go_wp2
   all_goals go_ret
   all_goals (refine ⟨ret_bool ?_,rfl⟩;unfold inB;simp [*])
 · go_enter Tryz.func139,Tryz.ntmps139
   go_wp2
   go_ret
   refine ⟨ret_bool ?_,rfl⟩;unfold inB;simp [h]
theorem lng_wd (s:ByteArray) (i:Nat):lng s i=0∧wd s i=1∨lng s i=wd s i:=by
 unfold lng;by_cases hb:brk s i=true
 · refine .inl ⟨by rw [if_pos hb],?_⟩;unfold brk at hb;exact (of_decide_eq_true hb).2
 · exact .inr (if_neg hb)
theorem long_any (s:ByteArray) (i:Nat) (w:World) (hs:s.size≤1000000) (h:i<s.size) :
 Calls Tryz.prog 104 #[.string s,.int .i64 i] w fun e w'=>e = .returned (.int .i64 (lng s i))∧w=w':=by
 have HE:=Lib.hid (lng_eq h);have hb:=zdm s i h;have HB:=Lib.hid hb;clear hb;go_enter Tryz.func104,Tryz.ntmps104
 go_wp2_with (first
  | ((with_reducible refine (in_any _ _ 128 191 (i + 1) _ _ _ (by omega) rfl rfl).mono ?_);rintro e w' ⟨rfl,rfl⟩)
  | ((with_reducible refine (in_any _ _ 160 191 (i + 1) _ _ _ (by omega) rfl rfl).mono ?_);rintro e w' ⟨rfl,rfl⟩)
  | ((with_reducible refine (in_any _ _ 128 159 (i + 1) _ _ _ (by omega) rfl rfl).mono ?_);rintro e w' ⟨rfl,rfl⟩)
  | ((with_reducible refine (in_any _ _ 144 191 (i + 1) _ _ _ (by omega) rfl rfl).mono ?_);rintro e w' ⟨rfl,rfl⟩)
  | ((with_reducible refine (in_any _ _ 128 143 (i + 1) _ _ _ (by omega) rfl rfl).mono ?_);rintro e w' ⟨rfl,rfl⟩)
  | ((with_reducible refine (in_any _ _ 128 191 (i + 2) _ _ _ (by omega) rfl rfl).mono ?_);rintro e w' ⟨rfl,rfl⟩)
  | ((with_reducible refine (in_any _ _ 128 191 (i + 3) _ _ _ (by omega) rfl rfl).mono ?_);rintro e w' ⟨rfl,rfl⟩))
 all_goals go_ret
 all_goals (refine ⟨zja ?_,rfl⟩;rw [HE.out,HB.out];clear HE HB;generalize s[i].toNat=b at *;try simp only [beq_iff_eq,beq_eq_false_iff_ne,ne_eq,Bool.not_eq_true] at *)
 all_goals (repeat' split)
 all_goals (first | rfl | (exfalso;omega) | (exfalso;simp_all;done) | (exfalso;simp_all;omega))
theorem step_any (s:ByteArray) (z:Int) (i:Nat) (w:World) (hz:z=i) (hs:s.size≤1000000) (h:i<s.size) :
 Calls Tryz.prog 103 #[.string s,.int .i64 z] w fun e w'=>e = .returned (.int .i64 ((i + wd s i:Nat):Int))∧w=w':=by
 subst hz;have h1:=zde h;have h2:=wd_le h;have hl:(0:Int)≤lng s i:=by omega
 rcases lng_wd s i with ⟨e,e'⟩ | e
 · have hd:(((lng s i:Nat):Int) == 0)=true:=by simp [e]
   have E':=Lib.hid e';clear e e';go_enter Tryz.func103,Tryz.ntmps103
   go_wp2_with ((with_reducible refine (long_any _ _ _ hs h).mono ?_);rintro e w' ⟨rfl,rfl⟩)
   go_ret
   exact ⟨zja (by have:=E'.out;omega),rfl⟩
 · have hd:(((lng s i:Nat):Int) == 0)=false:=by simp;omega
   have hq:(lng s i:Int)≤1000000:=by omega
   have E':=Lib.hid e;clear e;go_enter Tryz.func103,Tryz.ntmps103
   go_wp2_with ((with_reducible refine (long_any _ _ _ hs h).mono ?_);rintro e w' ⟨rfl,rfl⟩)
   go_ret
   exact ⟨zja (by have:=E'.out;omega),rfl⟩
theorem rmay_any (s:ByteArray) (i:Nat) (w:World) (hs:s.size≤1000000) (h:i<s.size) :
 Calls Tryz.prog 106 #[.string s,.int .i64 i] w fun e w'=>e = .returned (.bool (zci s i))∧w=w':=by
 have E:=Lib.hid (zlY h);have hb:=zdm s i h;have hl:=lng_le h;by_cases h1:lng s i=1
 · have hd:(((lng s i:Nat):Int) == 1)=true:=by simp [h1]
   have HB:=Lib.hid hb;have H1:=Lib.hid h1;clear hb h1;go_enter Tryz.func106,Tryz.ntmps106
   go_wp2_with ((with_reducible refine (long_any s i _ hs h).mono ?_);rintro e w' ⟨rfl,rfl⟩)
   all_goals go_ret
   all_goals (refine ⟨ret_bool ?_,rfl⟩;rw [E.out,if_pos H1.out,HB.out];unfold zgN;try simp only [beq_iff_eq] at *)
   all_goals first
    | (symm;exact decide_eq_true (by omega))
    | (rw [Bool.eq_iff_iff];simp only [decide_eq_true_eq,beq_iff_eq,Bool.or_eq_true];omega)
 · have hd:(((lng s i:Nat):Int) == 1)=false:=by simp;omega
   have HB:=Lib.hid hb;have H1:=Lib.hid h1;clear hb h1;by_cases h2:1<lng s i
   · have hn:=lng_next h h2;have HB1:=Lib.hid (zdm s (i + 1) hn);have hd2:(1:Int)<lng s i:=by omega
     go_enter Tryz.func106,Tryz.ntmps106
     go_wp2_with ((with_reducible refine (long_any s i _ hs h).mono ?_);rintro e w' ⟨rfl,rfl⟩)
     all_goals go_ret
     all_goals (refine ⟨ret_bool ?_,rfl⟩;rw [E.out,if_neg H1.out,HB.out,HB1.out,decide_eq_true h2,Bool.eq_iff_iff];simp only [Bool.true_and,Bool.or_eq_true,Bool.not_eq_true',decide_eq_true_eq,decide_eq_false_iff_not];first | omega | (simp only [true_iff];omega))
   · have hd2:¬(1:Int)<lng s i:=by omega
     go_enter Tryz.func106,Tryz.ntmps106
     go_wp2_with ((with_reducible refine (long_any s i _ hs h).mono ?_);rintro e w' ⟨rfl,rfl⟩)
     go_ret
     exact ⟨ret_bool (by rw [E.out,if_neg H1.out,decide_eq_false h2];rfl),rfl⟩
theorem Toks.get {w:World} {A:Option Addr} {c:Nat} {l:List Tk} (h:Toks w A c l) {i:Nat} {t:Tk} (hi:l[i]? = some t) :
 ∃b o,A=some ⟨b,o,none⟩∧b<w.heap.size∧w.cell? ⟨b,o + i * 3,none⟩=some (.int .i64 t.1)∧w.cell? ⟨b,o + i * 3 + 1,none⟩=some (.string t.2.1)∧w.cell? ⟨b,o + i * 3 + 2,none⟩=some (.int .i64 t.2.2):=by
 have hl:i<l.length:=(List.getElem?_eq_some_iff.1 hi).1;obtain ⟨b,o,e,hb,hc⟩:=Rd.at_ h (by omega);refine ⟨b,o,e,hb,?_,?_,?_⟩
 · have:=hc (i * 3 + 0) _ (tcells_at l i t hi 0 _ rfl);exact this
 · have:=hc (i * 3 + 1) _ (tcells_at l i t hi 1 _ rfl);rwa [←Nat.add_assoc] at this
 · have:=hc (i * 3 + 2) _ (tcells_at l i t hi 2 _ rfl);rwa [←Nat.add_assoc] at this
theorem zjW (s:ByteArray) (w:World):Calls Tryz.prog 107 #[.string s] w fun e w'=>e = .returned (.bool (keyB s))∧w'=w:=by
 have e1:=zaE s ⟨#[116,121,112,101]⟩;have e2:=zaE s ⟨#[114,101,108]⟩;have e3:=zaE s ⟨#[105,115]⟩;have e4:=zaE s ⟨#[116,104,105,115]⟩;rw [show (⟨#[116,121,112,101]⟩:ByteArray).toList=[116,121,112,101] by decide +kernel] at e1;rw [show (⟨#[114,101,108]⟩:ByteArray).toList=[114,101,108] by decide +kernel] at e2;rw [show (⟨#[105,115]⟩:ByteArray).toList=[105,115] by decide +kernel] at e3;rw [show (⟨#[116,104,105,115]⟩:ByteArray).toList=[116,104,105,115] by decide +kernel] at e4;have HK:Hid (keyB s=(decide (s=⟨#[116,121,112,101]⟩) || decide (s=⟨#[114,101,108]⟩) || decide (s=⟨#[105,115]⟩) || decide (s=⟨#[116,104,105,115]⟩))):=Lib.hid (by unfold keyB;rw [Bool.eq_iff_iff];simp [or_assoc]);generalize decide (s=⟨#[116,121,112,101]⟩)=d1 at *
 generalize decide (s=⟨#[114,101,108]⟩)=d2 at *
 generalize decide (s=⟨#[105,115]⟩)=d3 at *
 generalize decide (s=⟨#[116,104,105,115]⟩)=d4 at *
 go_enter Tryz.func107,Tryz.ntmps107
 cases d1 <;> cases d2 <;> cases d3 <;> cases d4;all_goals go_wp2
 all_goals go_ret
 all_goals (refine ⟨?_,rfl⟩;rw [HK.out];rfl)
theorem sgS_bt:∀k,k<12→bt sgS k=sgs.getD k 0:=by decide +kernel
theorem sgs_sign:∀k,k<12→za9 (sgs.getD k 0)=true:=by decide +kernel
theorem sgs_all (c:Nat) (h:∀k,k<12→sgs.getD k 0≠c):za9 c=false:=by
 rw [Bool.eq_false_iff];intro hs;have:=zmF hs;simp only [sgs,List.mem_cons,List.not_mem_nil,or_false] at this;have h0:=h 0 (by omega);have h1:=h 1 (by omega);have h2:=h 2 (by omega);have h3:=h 3 (by omega);have h4:=h 4 (by omega);have h5:=h 5 (by omega);have h6:=h 6 (by omega);have h7:=h 7 (by omega);have h8:=h 8 (by omega);have h9:=h 9 (by omega);have h10:=h 10 (by omega);have h11:=h 11 (by omega);simp [sgs] at h0 h1 h2 h3 h4 h5 h6 h7 h8 h9 h10 h11;omega
theorem rsign_any (z:Int) (c:Nat) (w:World) (hz:z=c):Calls Tryz.prog 105 #[.int .u8 z] w fun e w'=>e = .returned (.bool (za9 c))∧w'=w:=by
 subst hz;go_enter Tryz.func105,Tryz.ntmps105
 go_wp2
 go_loopw [4] (fun vi wr=>∃k:Nat,k≤12∧vi = .int .i64 k∧wr=w∧∀j,j<k→sgs.getD j 0≠c) (fun vi _=>12-(intOf vi).toNat)
 case atStart=>exact ⟨0,by omega,rfl,rfl,fun j hj=>by omega⟩
 case round =>
  obtain ⟨k,hk,rfl,rfl,hall⟩:=hrel;have Hall:=Lib.hid hall;clear hall;by_cases h:k<12
  · have hd:(k:Int)<12:=by omega
    have hb:=zdm sgS k h;rw [sgS_bt k h] at hb;have hx:∀h',((⟨#[123,125,40,41,58,44,59,124,38,45,46,35]⟩:ByteArray)[k]'h').toNat=sgs.getD k 0:=fun h'=>hb.symm;have HS:=Lib.hid (sgs_sign k h);clear hb;generalize hq:sgs.getD k 0=q at *
    by_cases hc:q=c
    · have hd2:((q:Int) == (c:Int))=true:=by simp [hc]
      have HC:=Lib.hid hc;clear hc hq;go_wp2
      go_ret
      exact ⟨by rw [←HC.out,HS.out];rfl,by first | rfl | trivial⟩
    · have hd2:((q:Int) == (c:Int))=false:=by simp;omega
      have HC:=Lib.hid hc;have HQ:=Lib.hid hq;clear hc hq;go_wp2
      go_roundw
      case rel=>exact ⟨k + 1,by omega,by go_num,by first | rfl | trivial,fun j hj=>by
       by_cases e:j=k
       · subst e;rw [HQ.out];exact HC.out
       · exact Hall.out j (by omega)⟩
      case measure=>simp [intOf];omega
  · obtain rfl:k=12:=by omega
    go_wp2
    go_ret
    exact ⟨by rw [sgs_all c Hall.out];rfl,by first | rfl | trivial⟩
end Go.Proofs.YtiepddmagfmllaaGreat
namespace Go.Proofs.YtiepddmagfmllaaGreat
open Go.RowKit
structure PAt (w:World) (g:Nat) (A:Option Addr) (c:Nat) (T:List Tk) (i e p:Nat):Prop where
 cells:Bk w g #[.slice A T.length c,.int .i64 i,.int .i64 e,.int .i64 p] 156
 row:Rd w g 3 A T.length c (tcells T)
 fine:Fine (T.drop i)
 few:T.length≤1000000
def Says (T:List Tk) (i e p:Nat):St→Prop
 | .ok l=>e=0∧l=T.drop i
 | .error x=>e=x.1∧x.1≠0∧p=x.2
def PSt (w:World) (g:Nat) (q:St):Prop:=∃A c T i e p,PAt w g A c T i e p∧Says T i e p q
section
variable {w w':World} {g i e p c:Nat} {A:Option Addr} {T:List Tk} {q:St}
theorem PAt.get (h:PAt w g A c T i e p):∃b o,A=some ⟨b,o,none⟩∧i<T.length∧b<g∧w.cell? ⟨b,o + i * 3,none⟩=some (.int .i64 (hdT (T.drop i)).1)∧w.cell? ⟨b,o + i * 3 + 1,none⟩=some (.string (hdT (T.drop i)).2.1)∧w.cell? ⟨b,o + i * 3 + 2,none⟩=some (.int .i64 (hdT (T.drop i)).2.2):=by
 obtain ⟨t,r,ht⟩:=h.fine.cons;have hi:i<T.length:=by
  have:=congrArg List.length ht;rw [List.length_drop,List.length_cons] at this;omega
 have hti:T[i]? = some t:=by
  have:=congrArg (fun l:List Tk=>l[0]?) ht;simpa using this
 obtain ⟨b,o,e,hb,hc⟩:=h.row.at_ (by omega);refine ⟨b,o,e,hi,hb,?_,?_,?_⟩
 · rw [ht];exact hc _ _ (tcells_at T i t hti 0 _ rfl)
 · rw [ht];exact hc _ _ (tcells_at T i t hti 1 _ rfl)
 · rw [ht];exact hc _ _ (tcells_at T i t hti 2 _ rfl)
theorem PAt.keep (h:PAt w g A c T i e p) (hb:∀k,k≤g→w'.heap[k]? = w.heap[k]?):PAt w' g A c T i e p:=by
 refine ⟨(hb g (Nat.le_refl _)).trans h.cells,h.row.keep fun p hp=>?_,h.fine,h.few⟩;have:=hb p.block (by omega);unfold World.cell?;rw [this]
theorem PAt.below (h:PAt w g A c T i e p) (hb:Below w.heap.size w w'):PAt w' g A c T i e p:=h.keep fun k hk=>hb.block k (by have:=h.cells.lt;omega)
theorem PSt.keep (h:PSt w g q) (hb:∀k,k≤g→w'.heap[k]? = w.heap[k]?):PSt w' g q:=by
 obtain ⟨A,c,T,i,e,p,h,hs⟩:=h;exact ⟨A,c,T,i,e,p,h.keep hb,hs⟩
theorem PSt.size (h:PSt w g q):g<w.heap.size:=by obtain ⟨A,c,T,i,e,p,h,hs⟩:=h;exact h.cells.lt
theorem PSt.below (h:PSt w g q) (hb:Below w.heap.size w w'):PSt w' g q:=h.keep fun k hk=>hb.block k (by have:=h.size;omega)
theorem PSt.drew (h:PSt w g q):PSt w.drew g q:=h.keep fun _ _=>rfl
theorem PSt.set (h:PSt w g q) {a:Addr} (ha:g<a.block) (v:Value):PSt (w.setCell a v) g q:=h.keep fun k hk=>Below.heap_setCell _ _ _ _ (by omega)
theorem PSt.alloc (h:PSt w g q) (o:Obj):PSt (w.alloc o) g q:=h.below ((Below.refl _ w).alloc (Nat.le_refl _) o)
theorem PSt.grown {base:Nat} {t:TypeId} {size n:Nat} {v:Value} {xs:List Value} {o:Obj} (h:PSt w g q) (hg:(w.alloc o).grownBy w' v.ownBlock) (hown:w.ownsRow base t size v n xs) (hle:g<base):PSt w' g q:=by
 refine h.keep fun k hk=>?_;have hs:=h.size;refine (hg.block k (by simp;omega) fun e=>?_).trans (Below.heap_alloc _ _ _ (by omega));have:=(hown.lt k e.symm).1;omega
theorem PSt.grown0 {base:Nat} {t:TypeId} {size n:Nat} {v:Value} {xs:List Value} (h:PSt w g q) (hg:w.grownBy w' v.ownBlock) (hown:w.ownsRow base t size v n xs) (hle:g<base):PSt w' g q:=by
 refine h.keep fun k hk=>?_;have hs:=h.size;refine hg.block k (by omega) fun e=>?_;have:=(hown.lt k e.symm).1;omega
theorem PAt.step (h:PAt w g A c T i e p) (hf:Fine (T.drop i).tail):PAt (w.setCell ⟨g,1,none⟩ (.int .i64 ((i + 1:Nat):Int))) g A c T (i + 1) e p:=by
 refine ⟨h.cells.set 1 _,h.row.keep fun p hp=>?_,by rw [←List.tail_drop];exact hf,h.few⟩;have:=Below.heap_setCell w ⟨g,1,none⟩ (.int .i64 ((i + 1:Nat):Int)) p.block (by dsimp only;omega);unfold World.cell?;rw [this]
theorem PAt.set2 (h:PAt w g A c T i e p) (e':Nat):PAt (w.setCell ⟨g,2,none⟩ (.int .i64 e')) g A c T i e' p:=by
 refine ⟨h.cells.set 2 _,h.row.keep fun p hp=>?_,h.fine,h.few⟩;have:=Below.heap_setCell w ⟨g,2,none⟩ (.int .i64 e') p.block (by dsimp only;omega);unfold World.cell?;rw [this]
theorem PAt.set3 (h:PAt w g A c T i e p) (p':Nat):PAt (w.setCell ⟨g,3,none⟩ (.int .i64 p')) g A c T i e p':=by
 refine ⟨h.cells.set 3 _,h.row.keep fun p hp=>?_,h.fine,h.few⟩;have:=Below.heap_setCell w ⟨g,3,none⟩ (.int .i64 p') p.block (by dsimp only;omega);unfold World.cell?;rw [this]
theorem zdu (g B:Nat) (w:World) (k:Nat) (v:Value):Kp g B w (w.setCell ⟨g,k,none⟩ v):=⟨rfl,rfl,rfl,by simp [World.setCell],fun _ _ hn=>Below.heap_setCell _ _ _ _ hn⟩
theorem PAt.up (h:PAt w g A c T i 0 p) (hf:Fine (T.drop i).tail):PSt (w.setCell ⟨g,1,none⟩ (.int .i64 ((i:Int) + 1))) g (upU (.ok (T.drop i))) :=
 ⟨_,_,_,_,_,_,h.step hf,rfl,by rw [←List.tail_drop]⟩
theorem zcN {s:ByteArray} {q:St} (h:isU s q=true):∃l,q = .ok l∧(hdT l).2.1=s:=by
 cases q with
 | error x=>cases h
 | ok l=>exact ⟨l,rfl,(of_decide_eq_true h).1⟩
end
def zdZ {α:Type} (V:World→Value→α→Prop) (w:World) (g:Nat) (u:α × St) (e:Ending) (w':World):Prop :=
 Kp g w.heap.size w w'∧(∃v,e = .returned v∧V w' v u.1)∧PSt w' g u.2
end Go.Proofs.YtiepddmagfmllaaGreat
