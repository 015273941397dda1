import Derived.Lib.CutLaws
import Derived.Shelf.Small.Strs
import Derived.Shelf.Strings.Search1
import Derived.IntWalk
import Derived.BigGuard
import Derived.BigCall
import Derived.Laws.Strings3
import Derived.Shelf.RegionOpenPlain
import Derived.Test.YtmblgnddgmfkhaaGreatQ20
import Derived.Test.YtmblgnddgmfkhaaGreatQ23
set_option maxRecDepth 100000
set_option maxHeartbeats 4000000
namespace Go.Proofs.YtmblgnddgmfkhaaGreat
section
open Go.RowKit Go.Maps
variable {w:World}
def zix (T:List TypI) (v:List Int):List RelT:=(zbc T).zipIdx.map fun x=>zem (za4 T) (zb5 v x.2) x.1
theorem relsK_T (l:List TypA) (v:List Int):zjp (zaj (relsA l)) v (relsA l)=zix (l.map TypA.says) v:=by
 unfold zjp zix;rw [zhe,←zcu,List.zipIdx_map,ybn];rfl
inductive CompIs (s:ByteArray):Nat→ByteArray→List ByteArray→List Path→List RelT→Prop
 | parse (e:Nat) (h:(zak s).2.1=e) (h0:e≠0):CompIs s e ⟨#[]⟩ [] [] []
 | check (e:Nat) (h1:(zak s).2.1=0) (h:(zcV ((zak s).1.map zcv)).1=e) (h0:e≠0):CompIs s e ⟨#[]⟩ [] [] []
 | cyc (h1:(zak s).2.1=0) (hR:Right ((zak s).1.map zcv)) (hc:Cyc (zbq ((zak s).1.map zcv))):CompIs s 33 ⟨#[]⟩ [] [] []
 | long (h1:(zak s).2.1=0) (hR:Right ((zak s).1.map zcv)) (hc:¬Cyc (zbq ((zak s).1.map zcv))) (hz:2048<(zdu (zak s).1).size):CompIs s 13 ⟨#[]⟩ [] [] []
 | ok (h1:(zak s).2.1=0) (hR:Right ((zak s).1.map zcv)) (v:List Int) (hv:v.length=(zbc ((zak s).1.map zcv)).length) (hi:InR v.length (zbq ((zak s).1.map zcv))) (hL:Least v.length (zbq ((zak s).1.map zcv)) (zb5 v)) (hz:(zdu (zak s).1).size≤2048) :
  CompIs s 0 (zdu (zak s).1) ((zak s).1.map (·.name)) (za4 ((zak s).1.map zcv)) (zix ((zak s).1.map zcv) v)
structure TabA (w:World) (Ay:Option Addr) (cy:Nat) (ty:List ByteArray) (mb:Option Nat) (ps:List Path) (Ar:Option Addr) (cr:Nat) (K:List TabR):Prop where
 types:Rd w w.heap.size 1 Ay ty.length cy (ty.map Value.string)
 ids:MapO w mb ps
 rels:TabK w Ar cr K
theorem TabA.up {w':World} {Ay:Option Addr} {cy:Nat} {ty:List ByteArray} {mb:Option Nat} {ps:List Path} {Ar:Option Addr} {cr:Nat} {K:List TabR} (h:TabA w Ay cy ty mb ps Ar cr K) (hb:Below w.heap.size w w'):TabA w' Ay cy ty mb ps Ar cr K:=⟨h.types.up hb,h.ids.up hb,h.rels.up hb⟩
theorem TabA.none_ (w:World):TabA w none 0 [] none [] none 0 []:=⟨Rd.none_ _ _ _,.inl ⟨rfl,rfl⟩,⟨Rd.none_ _ _ _,fun x b=>by cases b⟩⟩
def TabX (X:Nat→Prop) (w:World) (Ay:Option Addr) (cy:Nat) (ty:List ByteArray) (mb:Option Nat) (ps:List Path) (Ar:Option Addr) (cr:Nat) (K:List TabR):Prop:=∀w',Stay X w w'→TabA w' Ay cy ty mb ps Ar cr K
theorem TabX.none_ (X:Nat→Prop) (w:World):TabX X w none 0 [] none [] none 0 []:=fun _ _=>TabA.none_ _
def ziD (s:ByteArray) (w:World) (e:Ending) (w':World):Prop :=
 (∃tx Ay cy ty mb ps Ar cr K,∃err:Nat,e = .returned (.tuple #[.agg #[.string tx,.slice Ay ty.length cy,.map mb,.slice Ar K.length cr],.int .i64 err])∧TabX (·<w.heap.size) w' Ay cy ty mb ps Ar cr K∧CompIs s err tx ty ps (K.map (·.r)))∧Below w.heap.size w w'
theorem set4 {w0:World} {B b:Nat} {t:TypeId} {x0 x1 x2 x3:Value} (h:Bk w0 b #[x0,x1,x2,x3] t) (hb:Below B w w0) (hB:B≤b) (v0 v1 v2 v3:Value) :
 Bk ((((w0.setCell ⟨b,0,none⟩ v0).setCell ⟨b,1,none⟩ v1).setCell ⟨b,2,none⟩ v2).setCell ⟨b,3,none⟩ v3) b #[v0,v1,v2,v3] t ∧
 Below B w ((((w0.setCell ⟨b,0,none⟩ v0).setCell ⟨b,1,none⟩ v1).setCell ⟨b,2,none⟩ v2).setCell ⟨b,3,none⟩ v3) :=
 ⟨by
  have d:=(((h.set 0 v0).set 1 v1).set 2 v2).set 3 v3;simp only [yaE,yaU,yaV] at d;exact d,(((hb.setCell hB _).setCell hB _).setCell hB _).setCell hB _⟩
theorem Bk.c4 {b:Nat} {t:TypeId} {x0 x1 x2 x3:Value} (h:Bk w b #[x0,x1,x2,x3] t):w.cell? ⟨b,0,none⟩=some x0∧w.cell? ⟨b,1,none⟩=some x1∧w.cell? ⟨b,2,none⟩=some x2∧w.cell? ⟨b,3,none⟩=some x3:=⟨h.cell 0,h.cell 1,h.cell 2,h.cell 3⟩
theorem sub_rows {B R c:Nat} {A:Option Addr} {l:List TypA} {T:List TypP} (hv:VTyps B w (.slice A T.length c) T) (hs:SchA w R A c l) (hl:l.map TypA.says=T.map zcv) :
 ∀y ∈ relsA l,w.ownsRow B 246 2 (.slice y.2.As y.2.subs.length y.2.cs) y.2.subs.length (y.2.subs.flatMap zoH):=by
 intro y d;unfold relsA at d;obtain ⟨t,L,d⟩:=ybz.1 d;obtain ⟨r,M,rfl⟩:=yaN.1 d;obtain ⟨i,hi⟩:=List.getElem?_of_mem L;obtain ⟨j,D⟩:=List.getElem?_of_mem M;have E:(T.map zcv)[i]? = some t.says:=by rw [←hl,ya0,hi];rfl
 rw [ya0] at E;obtain ⟨t0,m,N⟩:=Option.map_eq_some_iff.1 E;obtain ⟨g,X,Y,n,p,Z,F⟩:=hv.get m;obtain ⟨b,o,f,m0,G,q⟩:=hs.get hi;injection n with n _ _
 rw [n] at f;injection f with f
 injection f with O P _
 subst O;subst P;rw [yaG] at G;rw [G] at F;obtain rfl:=yaX F;have H:(t0.rels.map relI)[j]? = some r.says:=by
  have:t0.rels.map relI=t.rels.map RelA.says:=congrArg TypI.rels N;rw [this,ya0,D];rfl
 rw [ya0] at H;obtain ⟨s,u,Q⟩:=Option.map_eq_some_iff.1 H;obtain ⟨g2,c3,vs,vo,x,z,_,_,_,_,_,I,_⟩:=p.get u;obtain ⟨b2,o2,k,_,_,_,_,J,_,_⟩:=q.get D;injection x with x _ _
 rw [x] at k;injection k with k
 injection k with U V _
 subst U;subst V;rw [yaG] at J;rw [J] at I;obtain rfl:=yaX I;have C:s.subs=r.subs:=congrArg RelI.subs Q;have K:w.ownsRow B 246 2 (.slice r.As r.subs.length r.cs) s.subs.length (s.subs.flatMap zoH):=z;rw [C] at K;exact K
theorem compile_any (s:ByteArray) (hs:s.size≤1000000) (w:World):Calls Tryz.prog 43 #[.string s] w (ziD s w):=by
 obtain ⟨T,ea,pa,ha⟩:∃T e p,zak s=(T,e,p):=⟨_,_,_,rfl⟩;have kp:=fun W=>zlP s hs ha W;have hT:(zak s).1=T:=by rw [ha]
 have aa:(zak s).2.1=ea:=by rw [ha]
 have aj:=zom s;have ak:=said_few s;have M:=says_sml s;rw [hT] at aj ak M;replace hT:=Lib.hid hT;replace aa:=Lib.hid aa;clear ha;have al:=bnewZ w (.cells #[.string ⟨#[]⟩,.slice none 0 0,.map none,.slice none 0 0] 61);have d:=Bk.new w #[.string ⟨#[]⟩,.slice none 0 0,.map none,.slice none 0 0] 61;go_enter Tryz.func43,Tryz.ntmps43
 go_upto_region 1 with (fail)
 generalize w.alloc (.cells #[.string ⟨#[]⟩,.slice none 0 0,.map none,.slice none 0 0] 61)=w0 at *
 go_upto_region 2 with (go_at_call 73;refine (kp _).mono ?_;rintro e w2 ⟨⟨A,c,rfl,H⟩,f⟩)
 obtain ⟨l,hl,g⟩:=H.sch (R:=140737488351232) ak aj;have hn:l.length=T.length:=by have:=congrArg List.length hl;rwa [yay,yay] at this
 have hb:=zcx al al.size f;have bq:w.heap.size<w2.heap.size:=yaw d.lt f.size;have ag:w.heap.size<w0.heap.size:=d.lt;replace d:=d.below f;have X:=bnewZ w2 (.cells #[.slice A T.length c] 140);replace g:=g.up X;replace H:=H.below X;replace d:=d.below X;replace hb:=zcx hb hb.size X;have o:=Bk.new w2 #[.slice A T.length c] 140;clear X al f kp;generalize w2.alloc (.cells #[.slice A T.length c] 140)=w3 at *
 rw [←hn] at o ⊢;replace hn:=Lib.hid hn;replace hl:=Lib.hid hl;have ah:=aa.out;by_cases he:ea=0
 · subst he;have x0:=o.c1;have xl:=o.lt;have kc:=check_any g (yaj _);obtain ⟨E,hE⟩:∃E,zcV (l.map TypA.says)=E:=⟨_,rfl⟩;rw [hE] at kc;replace hE:=Lib.hid hE;go_upto_region 5 with (go_at_call 74;refine kc.mono ?_;rintro e w4 ⟨rfl,f⟩)
   replace g:=g.up f;replace H:=H.below f;replace d:=d.below f;replace o:=o.below f;replace hb:=zcx hb hb.size f;clear f x0 xl kc;obtain ⟨E1,E2⟩:=E;simp only;by_cases hf:E1=0
   · subst hf;have hR:Right (l.map TypA.says):=(zgG _).1.1 (by rw [hE.out]);have Y:l.map TypA.says=(zak s).1.map zcv:=by rw [hT.out];exact hl.out
     have aq:=zkO hR;obtain ⟨b8,ar⟩:=zol (s:=s) Y hR;have ab:(zaj (relsA l)).Nodup:=by rw [←zhe];exact hR.paths
     replace hR:=Lib.hid hR;replace ab:=Lib.hid ab;have x0:=o.c1;have xl:=o.lt;have ki:=idsOf_any g (yaj _) yab ab.out;go_upto_region 8 with (go_at_call 75;refine ki.mono ?_;rintro e w5 ⟨⟨b,rfl,Z,a6⟩,f⟩)
     replace a6:=yax hb.size a6;replace a6:=Lib.hid a6;replace g:=g.up f;replace H:=H.below f;replace d:=d.below f;replace o:=o.below f;replace hb:=zcx hb hb.size f;clear f x0 xl ki;have am:(zaj (relsA l)).length=(relsA l).length:=by simp [zaj]
     have an:Maps.size (zdt (zaj (relsA l)))=(relsA l).length:=by rw [(zku Z.2 ab.out).2,am]
     have ai:∀ty,(Builtin.len_ #[58] ty #[.map (some b)]).run Tryz.prog w5 = .ok (.int .i64 ((relsA l).length:Nat)) w5:=fun ty=>by have:=Z.1.len Tryz.underlying58 ty;rw [an] at this;exact this
     replace an:=Lib.hid an;replace am:=Lib.hid am;have x0:=o.c1;have xl:=o.lt;have ke:=edges_any g (yaj _) b8 ar;obtain ⟨n,I⟩:∃n,(relsA l).length=n:=⟨_,rfl⟩;rw [I] at ai aq;replace I:=Lib.hid I;have au:∀(zs:List Ed),(∀e,e ∈ zs↔e ∈ zbq (l.map TypA.says))→InR n zs:=fun zs h2 e he=>by
      have:=zmo ((h2 e).1 he);rw [I.out] at this;exact ⟨this.1,this.2.1,this.2.2.1,this.2.2.2.1⟩
     go_upto_region 9 with (first
      | (go_at_call 77;refine ke.mono ?_;rintro e w6 ⟨A2,c2,zs,rfl,av,N,aw,f⟩;have kl:=znV (n:=n) aw (by have:=zo9 hR.out av N;omega) yab)
      | (go_at_call 76;refine kl.mono ?_;rintro e w7 ⟨⟨A7,c7,v,sn,rfl,a7,ax⟩,ay⟩))
     have j:Below w5.heap.size w5 w7:=zcx f f.size ay;replace g:=g.up j;replace H:=H.below j;replace d:=d.below j;replace o:=o.below j;replace hb:=zcx hb hb.size j;replace Z:=Z.below j;clear f ay j x0 xl ke kl ai aw;have J:(zak s).1.map zcv=l.map TypA.says:=Y.symm;have ao:(zak s).2.1=0:=aa.out;cases ax with
     | arg hi=>exact absurd (au zs N) hi
     | cyc hi hc =>
      have O:Cyc (zbq ((zak s).1.map zcv)):=by rw [J];exact hc.sub fun e he=>(N e).1 he
      have ac:Right ((zak s).1.map zcv):=by rw [J];exact hR.out
      clear hc;replace O:=Lib.hid O;obtain ⟨r0,r1,r2,r3⟩:=d.c4;have rf:=d.fz;have rl:=d.lt;go_wp2_with fail
      obtain ⟨hw,z⟩:=set4 d hb (yaj _) (.string ⟨#[]⟩) (.slice none 0 0) (.map none) (.slice none 0 0);obtain ⟨y0,y1,y2,y3⟩:=hw.c4;refine bodyPost_ret (v:=.tuple #[.agg #[.string ⟨#[]⟩,.slice none 0 0,.map none,.slice none 0 0],.int .i64 33]) (by simp [results,Tryz.results43,go_sem,y0,y1,y2,y3];try rfl) rfl ?_;exact ⟨⟨⟨#[]⟩,none,0,[],none,[],none,0,[],33,rfl,TabX.none_ _ _,.cyc ao ac O.out⟩,z⟩
     | ok hi v a8 hL k =>
      have az:Hid (Least v.length (zbq ((zak s).1.map zcv)) (zb5 v)):=Lib.hid (by rw [a8,J];exact hL.congr N);have b9:Hid (InR v.length (zbq ((zak s).1.map zcv))):=Lib.hid (by rw [a8,J];exact fun e he=>hi e ((N e).2 he));have ba:Hid (¬Cyc (zbq ((zak s).1.map zcv))):=Lib.hid fun hc=>Cyc.none hc az.out.1;have bb:Hid (v.length=(zbc ((zak s).1.map zcv)).length):=Lib.hid (by rw [a8,J,←zcu,yay];exact I.out.symm);have ac:Hid (Right ((zak s).1.map zcv)):=Lib.hid (by rw [J];exact hR.out);have C:Hid (∀y ∈ relsA l,w7.ownsRow w0.heap.size 246 2 (.slice y.2.As y.2.subs.length y.2.cs) y.2.subs.length (y.2.subs.flatMap zoH)):=Lib.hid (sub_rows H g hl.out);have h8:l.length≤8:=by have:=hR.out.few;rwa [yay] at this
      clear hL k hi N av au J;have x0:=o.c1;have xl:=o.lt;obtain ⟨tx,P⟩:∃tx,zdu T=tx:=⟨_,rfl⟩;have ks:=show_any8 H M.1 M.2.1 M.2.2;have bc:=M.2.2;rw [P] at ks bc;rw [←hn.out] at ks;replace P:=Lib.hid P;clear M aj ak;go_upto_region 12 with (go_at_call 78;refine ks.mono ?_;rintro e w8 ⟨rfl,f⟩)
      replace g:=g.up f;replace H:=H.below f;replace d:=d.below f;replace o:=o.below f;replace hb:=zcx hb hb.size f;replace Z:=Z.below f;replace a7:=a7.up f;replace C:=Lib.hid fun y hy=>zan (C.out y hy) f;clear f x0 xl ks;by_cases hz:2048<tx.size
      · have bd:(tx.size:Int) > 2048:=by omega
        have bf:Hid (2048<(zdu (zak s).1).size):=Lib.hid (by rw [hT.out,P.out];exact hz);obtain ⟨r0,r1,r2,r3⟩:=d.c4;have rf:=d.fz;have rl:=d.lt;go_wp2_with fail
        obtain ⟨hw,z⟩:=set4 d hb (yaj _) (.string ⟨#[]⟩) (.slice none 0 0) (.map none) (.slice none 0 0);obtain ⟨y0,y1,y2,y3⟩:=hw.c4;refine bodyPost_ret (v:=.tuple #[.agg #[.string ⟨#[]⟩,.slice none 0 0,.map none,.slice none 0 0],.int .i64 13]) (by simp [results,Tryz.results43,go_sem,y0,y1,y2,y3];try rfl) rfl ?_;exact ⟨⟨⟨#[]⟩,none,0,[],none,[],none,0,[],13,rfl,TabX.none_ _ _,.long ao ac.out ba.out bf.out⟩,z⟩
      · have bd:¬(tx.size:Int) > 2048:=by omega
        go_upto_region 14 with (fail)
        refine wp_region_any yaa ?_;change wpAny _ _ _ _ _ _ _ (World.drew _);generalize hdw:World.drew w8=wz at *
        have k:Below w8.heap.size w8 wz:=by subst hdw;exact ⟨rfl,rfl,rfl,yaj _,fun _ _=>rfl⟩
        replace g:=g.up k;replace H:=H.below k;replace d:=d.below k;replace o:=o.below k;replace hb:=zcx hb hb.size k;replace Z:=Z.below k;replace a7:=a7.up k;replace C:=Lib.hid fun y hy=>zan (C.out y hy) k;clear hdw k;have kt:=fun (W:World) (hb:Below wz.heap.size wz W)=>typesOf_any (g.up hb) yab;have kr:=fun (W:World) (hb:Below wz.heap.size wz W)=>relsOf_any (g.up hb) (yaj _) (Z.below hb) (by have:=I.out;omega) (a7.up hb) (a8.trans I.out.symm) (fun x hx=>(ar x hx).2);rw [a8] at kr;have ad:∀W,Below wz.heap.size wz W→W.cell? ⟨w2.heap.size,0,none⟩=some (.slice A l.length c):=fun W hb=>(o.below hb).cell 0;have b0:=Below.refl wz.heap.size wz;have V:=ad _ b0;refine wpAny_of_held (S:=fun W=>W.cell? ⟨w2.heap.size,0,none⟩=some (.slice A l.length c)) _ _ _ _ ?_;refine zaa 0 (some 51) V ?_;refine zaa 1 (some 52) V ?_;refine zaa 3 (some 54) V ?_;refine zaa 4 (some 55) V ?_;refine zaa 5 (some 56) V ?_;refine zaa 6 (some 57) V ?_;refine zaP 2 rfl yaa ?_;intro Kf D;go_simp;refine (kt _ b0).mono ?_;rintro e W1 ⟨⟨Ay,cy,rfl,bg⟩,F⟩;replace V:=ad _ F;refine D _ _ V ?_;clear D Kf;refine zaP 7 rfl yaa ?_;intro Kf D;go_simp;with_reducible refine (kr _ F).mono ?_
        rintro e W2 ⟨⟨Ar,cr,rfl,K,b1,bh,bi,bj⟩,O⟩;have Q:Below wz.heap.size wz W2:=zcx F F.size O;replace V:=ad _ Q;refine D _ _ V ?_;clear D Kf;refine zaa 8 (some 59) V ?_;have B:=d.below Q;obtain ⟨r0,r1,r2,r3⟩:=B.c4;have rf:=B.fz;have rl:=B.lt;refine zaP 9 rfl yaa ?_;intro Kf D;go_simp;obtain ⟨hw,z⟩:=set4 B (zcx hb hb.size Q) (yaj _) (.string tx) (.slice Ay l.length cy) (.map (some b)) (.slice Ar (relsA l).length cr);have L:w2.heap.size≠w.heap.size:=by omega
        have b2:((((W2.setCell ⟨w.heap.size,0,none⟩ (.string tx)).setCell ⟨w.heap.size,1,none⟩ (.slice Ay l.length cy)).setCell ⟨w.heap.size,2,none⟩ (.map (some b))).setCell ⟨w.heap.size,3,none⟩ (.slice Ar (relsA l).length cr)).cell? ⟨w2.heap.size,0,none⟩=some (.slice A l.length c) :=
         ((((o.below Q).other (a:=⟨w.heap.size,0,none⟩) L _).other (a:=⟨w.heap.size,1,none⟩) L _).other (a:=⟨w.heap.size,2,none⟩) L _).other (a:=⟨w.heap.size,3,none⟩) L _ |>.cell 0
        have G:∀{base:Nat} {e:TypeId} {sz m:Nat} {u:Value} {ys:List Value},W2.ownsRow base e sz u m ys→w.heap.size<base→((((W2.setCell ⟨w.heap.size,0,none⟩ (.string tx)).setCell ⟨w.heap.size,1,none⟩ (.slice Ay l.length cy)).setCell ⟨w.heap.size,2,none⟩ (.map (some b))).setCell ⟨w.heap.size,3,none⟩ (.slice Ar (relsA l).length cr)).ownsRow base e sz u m ys:=fun h ae =>
         own_set (own_set (own_set (own_set h (a:=⟨w.heap.size,0,none⟩) ae _) (a:=⟨w.heap.size,1,none⟩) ae _) (a:=⟨w.heap.size,2,none⟩) ae _) (a:=⟨w.heap.size,3,none⟩) ae _
        have af:b≠w.heap.size:=by
         intro e;obtain ⟨⟨es,bl,q1,_⟩,_⟩:=Z;rw [e,show wz.heap[w.heap.size]? = _ from d] at q1;cases q1
        have b3:MapT ((((W2.setCell ⟨w.heap.size,0,none⟩ (.string tx)).setCell ⟨w.heap.size,1,none⟩ (.slice Ay l.length cy)).setCell ⟨w.heap.size,2,none⟩ (.map (some b))).setCell ⟨w.heap.size,3,none⟩ (.slice Ar (relsA l).length cr)) b (zaj (relsA l)):=(Z.below Q).same ((Below.heap_setCell _ _ _ _ af).trans ((Below.heap_setCell _ _ _ _ af).trans ((Below.heap_setCell _ _ _ _ af).trans (Below.heap_setCell _ _ _ _ af))));have U:w.heap.size<wz.heap.size:=d.lt;have b4:=G (zan bg O) U;have b5:=G bi (yaw U F.size);have b6:∀W,Stay (·<w.heap.size) ((((W2.setCell ⟨w.heap.size,0,none⟩ (.string tx)).setCell ⟨w.heap.size,1,none⟩ (.slice Ay l.length cy)).setCell ⟨w.heap.size,2,none⟩ (.map (some b))).setCell ⟨w.heap.size,3,none⟩ (.slice Ar (relsA l).length cr)) W→∀x ∈ K,x.ok W:=fun W hW x hx=>by
         obtain ⟨⟨y,hy,a1,a2,a3⟩,o2,o3⟩:=bj x hx;have s1:=hW.row (G (zan (C.out y hy) Q) ag) fun _ q=>ycd q ag;have s2:=hW.row (G o2 (yaw U F.size)) fun _ q=>ycd q (yaw U F.size);obtain ⟨A4,c4,e4,r4⟩:=Rd.own s1;obtain ⟨A5,c5,e5,r5⟩:=Rd.own s2;cases e4;cases e5;refine ⟨?_,r5,o3⟩;rw [a1,a2,a3];exact r4
        refine D _ _ b2 ?_;clear D Kf r0 r1 r2 r3 rf rl V G ad kt kr;refine zaa 10 (some 3) b2 ?_;refine wpAnyH_done yaa ?_ _;obtain ⟨y0,y1,y2,y3⟩:=hw.c4;generalize (((W2.setCell ⟨w.heap.size,0,none⟩ (.string tx)).setCell ⟨w.heap.size,1,none⟩ (.slice Ay l.length cy)).setCell ⟨w.heap.size,2,none⟩ (.map (some b))).setCell ⟨w.heap.size,3,none⟩ (.slice Ar (relsA l).length cr)=W3 at *
        go_wp2_with fail
        refine bodyPost_ret (v:=.tuple #[.agg #[.string tx,.slice Ay l.length cy,.map (some b),.slice Ar (relsA l).length cr],.int .i64 0]) (by simp [results,Tryz.results43,go_sem,y0,y1,y2,y3];try rfl) rfl ?_;have b7:(l.map (·.name)).length=l.length:=yay _;refine ⟨⟨tx,Ay,cy,l.map (·.name),some b,zaj (relsA l),Ar,cr,K,0,by rw [b7,b1];rfl,fun W hW=>?_,?_⟩,z⟩
        · obtain ⟨A6,c6,e6,r6⟩:=Rd.own (hW.row b4 fun _ q=>ycd q U);obtain ⟨br,bs,e7,r7⟩:=Rd.own (hW.row b5 fun _ q=>ycd q (yaw U F.size));cases e6;cases e7;refine ⟨?_,.inr ⟨b,rfl,b3.same (hW.2 b b3.lt fun q=>?_)⟩,⟨by rw [b1];exact r7,b6 W hW⟩⟩
          · rw [b7,ybn];exact r6
          · have:=a6.out;have q:b<w.heap.size:=q;omega
        · have bm:l.map (·.name)=(zak s).1.map (·.name):=by
           have:=congrArg (List.map TypI.name) Y;rw [ybn,ybn] at this;exact this
          have bn:zaj (relsA l)=za4 ((zak s).1.map zcv):=by rw [←Y,zhe]
          have bo:K.map (·.r)=zix ((zak s).1.map zcv) v:=by rw [bh,←Y,relsK_T]
          rw [bm,bn,bo,←P.out,←hT.out];exact .ok ao ac.out v bb.out b9.out az.out (by rw [hT.out,P.out];omega)
   · have bu:¬((E1:Int)=0):=by omega
     have bp:(zcV ((zak s).1.map zcv)).1=E1:=by rw [hT.out,←hl.out,hE.out]
     obtain ⟨r0,r1,r2,r3⟩:=d.c4;have rf:=d.fz;have rl:=d.lt;go_wp2_with fail
     obtain ⟨hw,z⟩:=set4 d hb (yaj _) (.string ⟨#[]⟩) (.slice none 0 0) (.map none) (.slice none 0 0);obtain ⟨y0,y1,y2,y3⟩:=hw.c4;refine bodyPost_ret (v:=.tuple #[.agg #[.string ⟨#[]⟩,.slice none 0 0,.map none,.slice none 0 0],.int .i64 (E1:Nat)]) (by simp [results,Tryz.results43,go_sem,y0,y1,y2,y3];try rfl) rfl ?_;exact ⟨⟨⟨#[]⟩,none,0,[],none,[],none,0,[],E1,rfl,TabX.none_ _ _,.check E1 ah bp hf⟩,z⟩
 · have bw:¬((ea:Int)=0):=by omega
   obtain ⟨r0,r1,r2,r3⟩:=d.c4;have rf:=d.fz;have rl:=d.lt;go_wp2_with fail
   obtain ⟨hw,z⟩:=set4 d hb (yaj _) (.string ⟨#[]⟩) (.slice none 0 0) (.map none) (.slice none 0 0);obtain ⟨y0,y1,y2,y3⟩:=hw.c4;refine bodyPost_ret (v:=.tuple #[.agg #[.string ⟨#[]⟩,.slice none 0 0,.map none,.slice none 0 0],.int .i64 (ea:Nat)]) (by simp [results,Tryz.results43,go_sem,y0,y1,y2,y3];try rfl) rfl ?_;exact ⟨⟨⟨#[]⟩,none,0,[],none,[],none,0,[],ea,rfl,TabX.none_ _ _,.parse ea ah he⟩,z⟩
end
section
variable {c e:Nat} {s a tx:ByteArray} {ty:List ByteArray} {ps:List Path} {R:List RelT}
theorem zog (l:List TypI):(za4 l).length=(zbc l).length:=yay _
theorem CompIs.move {t:ByteArray} (h1:(zak s).1=(zak t).1) (h2:(zak s).2.1=(zak t).2.1) (h:CompIs t e tx ty ps R):CompIs s e tx ty ps R:=by
 cases h with
 | parse e h f=>exact .parse e (h2.trans h) f
 | check e a h f=>exact .check e (h2.trans a) (by rw [h1];exact h) f
 | cyc a b g=>exact .cyc (h2.trans a) (by rw [h1];exact b) (by rw [h1];exact g)
 | long a b g d=>exact .long (h2.trans a) (by rw [h1];exact b) (by rw [h1];exact g) (by rw [h1];exact d)
 | ok a b v j hi k d =>
  rw [←h1] at b j hi k d ⊢;exact .ok (h2.trans a) b v j hi k d
structure TabOk (s:ByteArray) (tx:ByteArray) (ty:List ByteArray) (ps:List Path) (R:List RelT) (v:List Int):Prop where
 says:(zak s).2.1=0
 right:Right ((zak s).1.map zcv)
 len:v.length=(zbc ((zak s).1.map zcv)).length
 inr:InR v.length (zbq ((zak s).1.map zcv))
 least:Least v.length (zbq ((zak s).1.map zcv)) (zb5 v)
 size:(zdu (zak s).1).size≤2048
 text:tx=zdu (zak s).1
 types:ty=(zak s).1.map (·.name)
 paths:ps=za4 ((zak s).1.map zcv)
 rels:R=zix ((zak s).1.map zcv) v
theorem CompIs.yes (h:CompIs s e tx ty ps R):(e≠0∧tx=⟨#[]⟩∧ty=[]∧ps=[]∧R=[])∨(e=0∧∃v,TabOk s tx ty ps R v):=by
 cases h with
 | parse e h b=>exact .inl ⟨b,rfl,rfl,rfl,rfl⟩
 | check e a h b=>exact .inl ⟨b,rfl,rfl,rfl,rfl⟩
 | cyc a d g=>exact .inl ⟨by decide,rfl,rfl,rfl,rfl⟩
 | long a d g f=>exact .inl ⟨by decide,rfl,rfl,rfl,rfl⟩
 | ok a d v j hi k f=>exact .inr ⟨rfl,v,⟨a,d,j,hi,k,f,rfl,rfl,rfl,rfl⟩⟩
theorem znU {n:Nat} {l:List Ed} {v u:List Int} (h1:v.length=n) (h2:u.length=n) (a:Least n l (zb5 v)) (b:Least n l (zb5 u)):v=u :=
 List.ext_getElem yab fun i d f=>by
  have:=a.same b (i:=i) yab;simpa [zb5,d,f] using this
theorem CompIs.one {f:Nat} {ux:ByteArray} {uy:List ByteArray} {qs:List Path} {Q:List RelT} (h:CompIs s e tx ty ps R) (k:CompIs s f ux uy qs Q):e=f∧tx=ux∧ty=uy∧ps=qs∧R=Q:=by
 have g:Right ((zak s).1.map zcv)→(zcV ((zak s).1.map zcv)).1=0:=fun h=>(zgG _).1.2 h;cases h with
 | parse e h m =>
  cases k with
  | parse f k d=>exact ⟨h.symm.trans k,rfl,rfl,rfl,rfl⟩
  | check f a=>exact absurd (h.symm.trans a) m
  | cyc a=>exact absurd (h.symm.trans a) m
  | long a=>exact absurd (h.symm.trans a) m
  | ok a=>exact absurd (h.symm.trans a) m
 | check e a h m =>
  cases k with
  | parse f k d=>exact absurd (k.symm.trans a) d
  | check f b k d=>exact ⟨h.symm.trans k,rfl,rfl,rfl,rfl⟩
  | cyc b j=>exact absurd (h.symm.trans (g j)) m
  | long b j=>exact absurd (h.symm.trans (g j)) m
  | ok b j=>exact absurd (h.symm.trans (g j)) m
 | cyc a j n =>
  cases k with
  | parse f k d=>exact absurd (k.symm.trans a) d
  | check f b k d=>exact absurd (k.symm.trans (g j)) d
  | cyc=>exact ⟨rfl,rfl,rfl,rfl,rfl⟩
  | long _ _ p=>exact absurd n p
  | ok _ _ v _ _ o=>exact (Cyc.none n o.1).elim
 | long a j p A =>
  cases k with
  | parse f k d=>exact absurd (k.symm.trans a) d
  | check f b k d=>exact absurd (k.symm.trans (g j)) d
  | cyc _ _ n=>exact absurd n p
  | long=>exact ⟨rfl,rfl,rfl,rfl,rfl⟩
  | ok _ _ v _ _ _ q=>omega
 | ok a j v x hi o A =>
  cases k with
  | parse f k d=>exact absurd (k.symm.trans a) d
  | check f b k d=>exact absurd (k.symm.trans (g j)) d
  | cyc _ _ n=>exact (Cyc.none n o.1).elim
  | long _ _ _ q=>omega
  | ok _ _ u y _ z =>
   rw [x] at o;rw [y] at z;have:=znU x y o z;subst this;exact ⟨rfl,rfl,rfl,rfl,rfl⟩
def NoB (c:Nat) (s:ByteArray):Prop:=∀k,k<s.size→bt s k≠c
theorem NoB.nil (c:Nat):NoB c ⟨#[]⟩:=fun _ hk=>absurd hk (ybb _)
theorem NoB.name (h:nameS s=true) (hc:c<128) (hb:zhI c=false):NoB c s:=fun k hk f=>by
 obtain ⟨_,_,g⟩:=zbr.1 h;obtain ⟨j,m,d⟩:=zlZ (cnt s) (by rw [(zcf s).1];exact hk);have b:plc s j<s.size:=by omega
 rw [zaF b] at d;rcases Nat.eq_or_lt_of_le m with e | e
 · have:=g j (zaX.2 b);rw [e,zlG hk yab,f,hb] at this;cases this
 · have:=zid b e d;omega
def zeg (s:ByteArray) (c:Nat):Nat:=least (fun k=>decide (bt s k=c) || decide (s.size≤k)) s.size 0
theorem zgR (s:ByteArray) (c:Nat):zeg s c≤s.size∧(zeg s c<s.size→bt s (zeg s c)=c)∧∀j,j<zeg s c→bt s j≠c:=by
 obtain ⟨f,_,d⟩:=zc1 (fun k=>decide (bt s k=c) || decide (s.size≤k)) s.size 0 ⟨s.size,by omega,by omega,by simp⟩;have b:zeg s c≤s.size:=by
  rcases ybH s.size (zeg s c) with h | h
  · have:=d s.size yab h;simp at this
  · exact h
 refine ⟨b,fun h=>?_,fun j g m=>?_⟩
 · have:(decide (bt s (zeg s c)=c) || decide (s.size≤zeg s c))=true:=f;rw [yaH (show ¬s.size≤zeg s c by omega),Bool.or_false] at this;exact yaQ this
 · have:=d j yab g;simp [m] at this
theorem ziR {k:Nat} (h:bt s k=c∨k=s.size) (hk:k≤s.size) (hn:∀j,j<k→bt s j≠c):zeg s c=k :=
 least_eq (by rcases h with h | h <;> simp [h]) (fun j b=>by
  have:=hn j b;simp [this];omega) hk
def zef (s:ByteArray) (c:Nat):ByteArray × ByteArray:=(s.extract 0 (zeg s c),s.extract (zeg s c + 1) s.size)
theorem zo6 (s:ByteArray) (c:Nat):(zef s c).1.size=zeg s c:=by
 have:=(zgR s c).1;unfold zef;rw [zaB];omega
theorem znB (s:ByteArray) (c:Nat):(zef s c).2.size≤s.size:=by
 unfold zef;rw [zaB];omega
theorem zml (h:¬zeg s c<s.size):zef s c=(s,⟨#[]⟩):=by
 have b:zeg s c=s.size:=by have:=(zgR s c).1;omega
 unfold zef;rw [b,ziP];congr 1
 exact zja (by rw [zaB];omega)
theorem fstC_hit {b:ByteArray} (hc:c<256) (h:NoB c a):zeg (a ++ zck c ++ b) c=a.size:=by
 refine ziR (.inl ?_) (by rw [size_app,size_app];omega) fun j d=>?_
 · rw [zaL _ _ _ (by rw [size_app,zbe];omega)];have:=zaW a (zck c) 0 (by rw [zbe];omega);rw [ybP] at this;rw [this,zhr hc]
 · rw [zaL _ _ _ (by rw [size_app];omega),zaL _ _ _ d];exact h j d
theorem zj9 (h:NoB c a):zeg a c=a.size:=ziR (.inr rfl) (yaj _) h
theorem cutC_hit {b:ByteArray} (hc:c<256) (h:NoB c a):zef (a ++ zck c ++ b) c=(a,b):=by
 unfold zef;rw [fstC_hit hc h];congr 1
 · refine zcH (by rw [zaB,size_app,size_app];omega) fun k hk=>?_;rw [zaB] at hk;rw [zbf _ _ _ _ yab,yaG,zaL _ _ _ (by rw [size_app];omega),zaL _ _ _ (by omega)]
 · have:=app_right (a ++ zck c) b;rw [size_app a,zbe] at this;exact this
theorem zo5 (h:NoB c a):zef a c=(a,⟨#[]⟩):=zml (by rw [zj9 h];omega)
abbrev NdP:=ByteArray × ByteArray × ByteArray
def zoI (n:NdP):Bool:=nameS n.1 && nameS n.2.1 && (decide (n.2.2=⟨#[]⟩) || nameS n.2.2)
theorem fmdN_iff {n:NdP}:zoI n=true↔nameS n.1=true∧nameS n.2.1=true∧(n.2.2=⟨#[]⟩∨nameS n.2.2=true):=by
 unfold zoI;rw [ya9,ya9,ycw,ybA,and_assoc]
theorem zpj {n:NdP} (h:zoI n=true) (hc:c<128) (hb:zhI c=false):NoB c n.1∧NoB c n.2.1∧NoB c n.2.2:=by
 obtain ⟨d,f,b⟩:=fmdN_iff.1 h;refine ⟨.name d hc hb,.name f hc hb,?_⟩;rcases b with b | b
 · rw [b];exact .nil c
 · exact .name b hc hb
def cutN (s:ByteArray):NdP:=((zef (zef s 35).1 58).1,(zef (zef s 35).1 58).2,(zef s 35).2)
abbrev TuP:=NdP × NdP
def zmx (t:TuP):Bool:=!decide (t.1.2.2=⟨#[]⟩) && zoI t.1 && zoI t.2
theorem fmdT_iff {t:TuP}:zmx t=true↔t.1.2.2≠⟨#[]⟩∧zoI t.1=true∧zoI t.2=true:=by
 unfold zmx;rw [ya9,ya9,ycR,ybD,and_assoc]
def zaE (t:TuP):List ByteArray:=[t.1.1,t.1.2.1,t.1.2.2,t.2.1,t.2.2.1,t.2.2.2]
def keyL:List ByteArray→ByteArray
 | []=>⟨#[]⟩
 | [x]=>x
 | x::y::r=>x ++ zck 0 ++ keyL (y::r)
def zbu (t:TuP):ByteArray:=keyL (zaE t)
def cutL:Nat→ByteArray→List ByteArray
 | 0,_=>[]
 | n + 1,s=>(zef s 0).1::cutL n (zef s 0).2
def tupL (l:List ByteArray):TuP:=((l.getD 0 ⟨#[]⟩,l.getD 1 ⟨#[]⟩,l.getD 2 ⟨#[]⟩),(l.getD 3 ⟨#[]⟩,l.getD 4 ⟨#[]⟩,l.getD 5 ⟨#[]⟩))
theorem zoB (t:TuP):tupL (zaE t)=t:=rfl
def zds (s:ByteArray):Option TuP:=if zmx (tupL (cutL 6 s))=true∧zbu (tupL (cutL 6 s))=s then some (tupL (cutL 6 s)) else none
theorem fmdT_no {t:TuP} (h:zmx t=true):∀x ∈ zaE t,NoB 0 x:=by
 obtain ⟨_,d,f⟩:=fmdT_iff.1 h;obtain ⟨g,j,a3⟩:=zpj d (c:=0) yab yac;obtain ⟨k,m,n⟩:=zpj f (c:=0) yab yac;intro x b;simp only [zaE,yav,ya1,ybw] at b;rcases b with rfl | rfl | rfl | rfl | rfl | rfl <;> assumption
theorem zo7:∀l:List ByteArray,(∀x ∈ l,NoB 0 x)→cutL l.length (keyL l)=l
 | [],_=>rfl
 | [x],h=>by
  show (zef x 0).1::[]=[x];rw [zo5 (h x (yat ..))]
 | x::y::r,h=>by
  show (zef (x ++ zck 0 ++ keyL (y::r)) 0).1::cutL (y::r).length (zef (x ++ zck 0 ++ keyL (y::r)) 0).2=_;rw [cutC_hit yab (h x (yat ..))];dsimp only;rw [zo7 (y::r) fun z b=>h z (yau _ b)]
theorem from_key {t:TuP} (h:zmx t=true):zds (zbu t)=some t:=by
 have b:cutL 6 (zbu t)=zaE t:=zo7 (zaE t) (fmdT_no h);unfold zds;rw [b,zoB,yan ⟨h,rfl⟩]
theorem zj8 {t:TuP} (h:zds s=some t):zmx t=true∧zbu t=s:=by
 unfold zds at h;split at h
 · rename_i b
   cases h;exact b
 · cases h
def zfF:Nat→ByteArray→ByteArray
 | 0,s=>s
 | n + 1,s=>zfF n (zef s 0).2
end
section
open Go.Shelf Go.RowKit
def zlC:Go.Shelf.Ren:=⟨fun | 217=>264 | 266=>281 | n=>n,fun | 3=>3 | 5=>5 | 9=>9 | n=>n,fun | n=>n⟩
theorem lays217:Go.Proofs.Lays.n217 Tryz.prog zlC:={
 mixed:=by kernel_rfl
 f217:=Tryz.func264.trans (congrArg some yaa)
 f266:=Tryz.func281.trans (congrArg some yaa)
 t3:=Tryz.underlying3
 a3:=Tryz.isAgg3
 z3:=Tryz.sizeOf3
 v3:=Tryz.zeroValue3
 t5:=Tryz.underlying5
 a5:=Tryz.isAgg5
 z5:=Tryz.sizeOf5
 v5:=Tryz.zeroValue5
 t9:=Tryz.underlying9
 a9:=Tryz.isAgg9
 z9:=Tryz.sizeOf9
 v9:=Tryz.zeroValue9 }
theorem ixb (c:UInt8):∀l:List UInt8,(Lib.indexByte l c = -1∧∀j:Nat,l[j]?≠some c)∨∃i:Nat,Lib.indexByte l c=i∧l[i]? = some c∧∀j,j<i→l[j]?≠some c
 | []=>.inl ⟨rfl,fun j=>by simp⟩
 | b::l=>by
  show (if (b == c)=true then (0:Int) else if (Lib.indexByte l c == -1)=true then -1 else Lib.indexByte l c + 1) = -1∧_∨∃i:Nat,(if (b == c)=true then (0:Int) else if (Lib.indexByte l c == -1)=true then -1 else Lib.indexByte l c + 1)=i∧_;by_cases hb:b=c
  · subst hb;exact .inr ⟨0,by simp,by simp,fun j m=>absurd m (ybb _)⟩
  · have n:(b == c)=false:=ybc.2 hb;have g:∀j,(∀k,k<j→l[k]?≠some c)→∀k,k<j + 1→(b::l)[k]?≠some c:=fun j h k hk=>by
     cases k with
     | zero=>simpa using hb
     | succ k=>rw [ybe];exact h k yab
    rw [n];rcases ixb c l with ⟨d,f⟩ | ⟨i,d,f,o⟩
    · rw [d];refine .inl ⟨by simp,fun j=>g j (fun k _=>f k) j (ycs _)⟩
    · rw [d];refine .inr ⟨i + 1,?_,by rw [ybe];exact f,g i o⟩;rw [show ((i:Int) == -1)=false from ybc.2 (by omega)];simp
theorem bt_is {s:ByteArray} {c:UInt8} {k:Nat} (h:k<s.size):s.data.toList[k]? = some c↔bt s k=c.toNat:=by
 rw [bt_list s k h];have:=zf4 s k;constructor
 · intro e;have:=congrArg UInt8.toNat (yaX e);simp at this;omega
 · intro e;rw [e];simp
theorem ix_fst (s:ByteArray) (c:UInt8):Lib.indexByte s.data.toList c=if zeg s c.toNat<s.size then (zeg s c.toNat:Int) else -1:=by
 rcases ixb c s.data.toList with ⟨d,b⟩ | ⟨i,d,b,m⟩
 · have:zeg s c.toNat=s.size:=zj9 fun k hk f=>b k ((bt_is hk).2 f);rw [d,this,yak (Nat.lt_irrefl _)]
 · have hi:i<s.size:=by
    have:=(yao.1 b).1;simpa using this
   have:zeg s c.toNat=i:=ziR (.inl ((bt_is hi).1 b)) (ya2 hi) fun j g f=>m j g ((bt_is (ycd g hi)).2 f);rw [d,this,yan hi]
theorem idx1_any (s:ByteArray) (c:UInt8) (w:World):Calls Tryz.prog 233 #[.string s,.string ⟨#[c]⟩] w fun e w'=>e = .returned (.int .i64 (if zeg s c.toNat<s.size then (zeg s c.toNat:Int) else -1))∧w'=w:=by
 have k:=fun W=>Any.stringslite_IndexByte lays217 s (c.toNat:Int) W;rw [show (c.toNat:Int).toNat.toUInt8=c from by simp,ix_fst] at k;by_cases b:(⟨#[c]⟩:ByteArray)=s
 · have d:([c] == s.toList)=true:=by have h:=zen b;rwa [ByteArray.toList_eq ⟨#[c]⟩] at h
   have f:zeg s c.toNat=0:=ziR (.inl (by rw [←b];rfl)) (yap _) fun j g=>absurd g (ybb _);have m:0<s.size:=by rw [←b];exact Nat.one_pos
   rw [f,yan m];clear b k;go_enter Tryz.func233,Tryz.ntmps233
   go_wp2_with fail
   go_ret
   exact ⟨rfl,rfl⟩
 · have d:([c] == s.toList)=false:=by have h:=zhy b;rwa [ByteArray.toList_eq ⟨#[c]⟩] at h
   clear b;generalize (if zeg s c.toNat<s.size then (zeg s c.toNat:Int) else -1)=z at k ⊢;go_enter Tryz.func233,Tryz.ntmps233
   go_wp2_with (go_at_call 264;refine (k _).mono ?_;rintro e w' ⟨rfl,rfl⟩)
   go_ret
   exact ⟨rfl,rfl⟩
theorem slcut_any (s:ByteArray) (c:UInt8) (w:World) (hs:s.size≤maxLen):Calls Tryz.prog 186 #[.string s,.string ⟨#[c]⟩] w fun e w'=>e = .returned (.tuple #[.string (zef s c.toNat).1,.string (zef s c.toNat).2,.bool (decide (zeg s c.toNat<s.size))])∧Below w.heap.size w w':=by
 have k:=fun W=>idx1_any s c W;have b:(s.size:Int)≤9223372036854775807:=by simp only [maxLen] at hs;omega
 by_cases h:zeg s c.toNat<s.size
 · rw [yan h] at k;rw [yaD h];unfold zef;generalize zeg s c.toNat=i at *
   have d:(0:Int)≤(i:Int):=by omega
   have f:(i:Int)≤(s.size:Int):=by omega
   have g:(0:Int)≤(i:Int) + 1:=by omega
   have j:(i:Int) + 1≤(s.size:Int):=by omega
   have m:IntKind.i64.wrap ((i:Int) + 1)=(i:Int) + 1:=IntWalk.i64_in _ yab;go_enter Tryz.func186,Tryz.ntmps186
   go_wp2_with (go_at_call 233;refine (k _).mono ?_;rintro e w' ⟨rfl,rfl⟩)
   go_quiet (fail)
   go_wp2_with fail
   go_returns
   exact ⟨rfl,rfl,rfl,rfl,yaj _,fun _ _=>rfl⟩
 · rw [yak h] at k;rw [zml h,yaH h];go_enter Tryz.func186,Tryz.ntmps186
   go_wp2_with (go_at_call 233;refine (k _).mono ?_;rintro e w' ⟨rfl,rfl⟩)
   go_returns
   exact ⟨rfl,Below.refl _ _⟩
theorem cut_any12 (s:ByteArray) (c:UInt8) (w:World) (hs:s.size≤maxLen):Calls Tryz.prog 141 #[.string s,.string ⟨#[c]⟩] w fun e w'=>e = .returned (.tuple #[.string (zef s c.toNat).1,.string (zef s c.toNat).2,.bool (decide (zeg s c.toNat<s.size))])∧Below w.heap.size w w':=by
 have k:=fun W=>slcut_any s c W hs;generalize (zef s c.toNat).1=a at *
 generalize (zef s c.toNat).2=b at *
 generalize decide (zeg s c.toNat<s.size)=t at *
 go_enter Tryz.func141,Tryz.ntmps141
 go_wp2_with (go_at_call 186;refine (k _).mono ?_;rintro e w' ⟨rfl,hb⟩)
 go_returns
 exact ⟨rfl,hb⟩
theorem cut00 (s:ByteArray) (w:World) (hs:s.size≤maxLen):Calls Tryz.prog 141 #[.string s,.string ⟨#[0]⟩] w fun e w'=>e = .returned (.tuple #[.string (zef s 0).1,.string (zef s 0).2,.bool (decide (zeg s 0<s.size))])∧Below w.heap.size w w':=cut_any12 s 0 w hs
end
section
open Go.RowKit
variable {s:ByteArray}
theorem Bk.c3 {w:World} {b:Nat} {t:TypeId} {x0 x1 x2:Value} (h:Bk w b #[x0,x1,x2] t):w.cell? ⟨b,0,none⟩=some x0∧w.cell? ⟨b,1,none⟩=some x1∧w.cell? ⟨b,2,none⟩=some x2:=⟨h.cell 0,h.cell 1,h.cell 2⟩
theorem zln (h:s=⟨#[]⟩):s.toList.isEmpty=true:=by rw [h];decide +kernel
theorem zpa (h:¬s=⟨#[]⟩):s.toList.isEmpty=false:=zi8 (by
 rcases ybh s.size with g | g
 · exact absurd (zja g) h
 · exact g)
section
variable {w:World}
theorem zg7 {b:Bool} (h:nameS s=b) (hs:s.size≤100000) (W:World):Calls Tryz.prog 182 #[.string s] W fun e w'=>e = .returned (.bool b)∧Below W.heap.size W w':=by
 have k:=name_any s W yab;rwa [h] at k
theorem nfmd_any (a b c:ByteArray) (ha:a.size≤100000) (hb:b.size≤100000) (hc:c.size≤100000) :
 Calls Tryz.prog 132 #[.agg #[.string a,.string b,.string c]] w fun e w'=>e = .returned (.bool (zoI (a,b,c)))∧Below w.heap.size w w':=by
 have hk:=Bk.new w #[.string a,.string b,.string c] 31;obtain ⟨K,L,M⟩:=hk.c3;have N:=hk.lt;have o:=zdy w (.cells #[.string a,.string b,.string c] 31);unfold zoI;dsimp only;cases z:nameS a with
 | false =>
  have k:=zg7 z ha;go_enter Tryz.func132,Tryz.ntmps132
  go_wp2_with (go_at_call 182;refine (k _).mono ?_;rintro e u ⟨rfl,f⟩)
  go_returns
  exact ⟨rfl,zam o o.size f⟩
 | true =>
  have k:=zg7 z ha;cases A:nameS b with
  | false =>
   have s:=zg7 A hb;go_enter Tryz.func132,Tryz.ntmps132
   go_wp2_with (first
    | (go_at_call 182;with_reducible refine (k _).mono ?_;rintro e u ⟨rfl,f⟩;have j:=hk.below f;obtain ⟨B,C,D⟩:=j.c3;have g:=zam o o.size f)
    | (go_at_call 182;with_reducible refine (s _).mono ?_;rintro e E ⟨rfl,m⟩))
   go_returns
   exact ⟨rfl,zam g g.size m⟩
  | true =>
   have s:=zg7 A hb;by_cases q:c=⟨#[]⟩
   · have d:=zln q;rw [yaD q];clear q;go_enter Tryz.func132,Tryz.ntmps132
     go_wp2_with (first
      | (go_at_call 182;with_reducible refine (k _).mono ?_;rintro e u ⟨rfl,f⟩;have j:=hk.below f;obtain ⟨B,C,D⟩:=j.c3;have g:=zam o o.size f)
      | (go_at_call 182;with_reducible refine (s _).mono ?_;rintro e E ⟨rfl,m⟩;have p:=j.below m;obtain ⟨G,H,I⟩:=p.c3;have n:=zam g g.size m))
     go_returns
     exact ⟨rfl,n⟩
   · have d:=zpa q;rw [yaH q];clear q;obtain ⟨x,F⟩:∃x,nameS c=x:=⟨_,rfl⟩;have J:=zg7 F hc;rw [F];go_enter Tryz.func132,Tryz.ntmps132
     go_wp2_with (first
      | (go_at_call 182;with_reducible refine (k _).mono ?_;rintro e u ⟨rfl,f⟩;have j:=hk.below f;obtain ⟨B,C,D⟩:=j.c3;have g:=zam o o.size f)
      | (go_at_call 182;with_reducible refine (s _).mono ?_;rintro e E ⟨rfl,m⟩;have p:=j.below m;obtain ⟨G,H,I⟩:=p.c3;have n:=zam g g.size m)
      | (go_at_call 182;with_reducible refine (J _).mono ?_;rintro e O ⟨rfl,y⟩))
     go_returns
     exact ⟨by simp,zam n n.size y⟩
theorem zqg {n:NdP} {b:Bool} (h:zoI n=b) (h0:n.1.size≤100000) (h1:n.2.1.size≤100000) (h2:n.2.2.size≤100000) (W:World):Calls Tryz.prog 132 #[.agg #[.string n.1,.string n.2.1,.string n.2.2]] W fun e w'=>e = .returned (.bool b)∧Below W.heap.size W w':=by
 rw [←h];exact nfmd_any _ _ _ h0 h1 h2
theorem fmd_any (a b c x y z:ByteArray) (ha:a.size≤100000) (hb:b.size≤100000) (hc:c.size≤100000) (hx:x.size≤100000) (hy:y.size≤100000) (hz:z.size≤100000) :
 Calls Tryz.prog 82 #[.agg #[.string a,.string b,.string c,.string x,.string y,.string z]] w fun e w'=>e = .returned (.bool (zmx ((a,b,c),(x,y,z))))∧Below w.heap.size w w':=by
 have hk:=Bk.new w #[.string a,.string b,.string c,.string x,.string y,.string z] 51;obtain ⟨C,D,E,F,G,H⟩:=hk.c6;have I:=hk.lt;have j:=zdy w (.cells #[.string a,.string b,.string c,.string x,.string y,.string z] 51);unfold zmx;dsimp only;by_cases g:c=⟨#[]⟩
 · have d:=zln g;rw [yaD g];clear g;go_enter Tryz.func82,Tryz.ntmps82
   go_wp2_with fail
   go_returns
   exact ⟨by simp,j⟩
 · have d:=zpa g;rw [yaH g];clear g;obtain ⟨p,s⟩:∃p,zoI (a,b,c)=p:=⟨_,rfl⟩;obtain ⟨q,u⟩:∃q,zoI (x,y,z)=q:=⟨_,rfl⟩;have k:=fun W=>zqg s ha hb hc W;have A:=fun W=>zqg u hx hy hz W;dsimp only at k A;rw [s,u];cases p with
   | false =>
    go_enter Tryz.func82,Tryz.ntmps82
    go_wp2_with (go_at_call 132;with_reducible refine (k _).mono ?_;rintro e B ⟨rfl,f⟩)
    go_returns
    exact ⟨by simp,zam j j.size f⟩
   | true =>
    go_enter Tryz.func82,Tryz.ntmps82
    go_wp2_with (first
     | (go_at_call 132;with_reducible refine (k _).mono ?_;rintro e B ⟨rfl,f⟩;have n:=hk.below f;obtain ⟨J,K,L,M,N,O⟩:=n.c6;have m:=zam j j.size f)
     | (go_at_call 132;with_reducible refine (A _).mono ?_;rintro e P ⟨rfl,o⟩))
    go_returns
    exact ⟨by simp,zam m m.size o⟩
end
end
section
open Go.RowKit
def tupO (o:Option TuP):TuP:=o.getD ((⟨#[]⟩,⟨#[]⟩,⟨#[]⟩),(⟨#[]⟩,⟨#[]⟩,⟨#[]⟩))
theorem set6 {w w0:World} {B b:Nat} {t:TypeId} {x0 x1 x2 x3 x4 x5:Value} (h:Bk w0 b #[x0,x1,x2,x3,x4,x5] t) (hb:Below B w w0) (hB:B≤b) (v0 v1 v2 v3 v4 v5:Value) :
 Bk ((((((w0.setCell ⟨b,0,none⟩ v0).setCell ⟨b,1,none⟩ v1).setCell ⟨b,2,none⟩ v2).setCell ⟨b,3,none⟩ v3).setCell ⟨b,4,none⟩ v4).setCell ⟨b,5,none⟩ v5) b #[v0,v1,v2,v3,v4,v5] t∧Below B w ((((((w0.setCell ⟨b,0,none⟩ v0).setCell ⟨b,1,none⟩ v1).setCell ⟨b,2,none⟩ v2).setCell ⟨b,3,none⟩ v3).setCell ⟨b,4,none⟩ v4).setCell ⟨b,5,none⟩ v5) :=
 ⟨by
  have d:=(((((h.set 0 v0).set 1 v1).set 2 v2).set 3 v3).set 4 v4).set 5 v5;simp only [yaE,yaU,yaV] at d;exact d,(((((hb.setCell hB _).setCell hB _).setCell hB _).setCell hB _).setCell hB _).setCell hB _⟩
section
variable {w:World}
end
end
section
open Go.RowKit
section
variable {w:World}
theorem fmd_is {a b c x y z:ByteArray} {q:Bool} (h:zmx ((a,b,c),(x,y,z))=q) (ha:a.size≤100000) (hb:b.size≤100000) (hc:c.size≤100000) (hx:x.size≤100000) (hy:y.size≤100000) (hz:z.size≤100000) (W:World) :
 Calls Tryz.prog 82 #[.agg #[.string a,.string b,.string c,.string x,.string y,.string z]] W fun e w'=>e = .returned (.bool q)∧Below W.heap.size W w':=by
 rw [←h];exact fmd_any a b c x y z ha hb hc hx hy hz
end
end
end Go.Proofs.YtmblgnddgmfkhaaGreat
