import Derived.Test.YtmblgnddgmfkhaaGreatK15
import Derived.Test.YtmblgnddgmfkhaaGreatK24
import Derived.Test.YtmblgnddgmfkhaaGreatK25
set_option maxRecDepth 100000
set_option maxHeartbeats 4000000
namespace Go.Proofs.YtmblgnddgmfkhaaGreat
section
open Go.RowKit Go.Maps
variable {w:World}
def zhU (T:List TypI) (v:List Int):List RelT:=(zbb T).zipIdx.map fun x=>zdL (zaZ T) (zcg v x.2) x.1
theorem relsK_T (l:List TypA) (v:List Int):zj1 (zal (relsA l)) v (relsA l)=zhU (l.map TypA.says) v:=by
 unfold zj1 zhU;rw [zhN,←zcK,List.zipIdx_map,ybp];rfl
inductive CompIs (s:ByteArray):Nat→ByteArray→List ByteArray→List Path→List RelT→Prop
 | parse (e:Nat) (h:(zak s).2.1=e) (h0:e≠0):CompIs s e ⟨#[]⟩ [] [] []
 | check (e:Nat) (h1:(zak s).2.1=0) (h:(zcY ((zak s).1.map zbY)).1=e) (h0:e≠0):CompIs s e ⟨#[]⟩ [] [] []
 | cyc (h1:(zak s).2.1=0) (hR:Right ((zak s).1.map zbY)) (hc:Cyc (zbr ((zak s).1.map zbY))):CompIs s 33 ⟨#[]⟩ [] [] []
 | long (h1:(zak s).2.1=0) (hR:Right ((zak s).1.map zbY)) (hc:¬Cyc (zbr ((zak s).1.map zbY))) (hz:2048<(zdE (zak s).1).size):CompIs s 13 ⟨#[]⟩ [] [] []
 | ok (h1:(zak s).2.1=0) (hR:Right ((zak s).1.map zbY)) (v:List Int) (hv:v.length=(zbb ((zak s).1.map zbY)).length) (hi:InR v.length (zbr ((zak s).1.map zbY))) (hL:Least v.length (zbr ((zak s).1.map zbY)) (zcg v)) (hz:(zdE (zak s).1).size≤2048) :
  CompIs s 0 (zdE (zak s).1) ((zak s).1.map (·.name)) (zaZ ((zak s).1.map zbY)) (zhU ((zak s).1.map zbY) v)
structure TabA (w:World) (Ay:Option Addr) (cy:Nat) (ty:List ByteArray) (mb:Option Nat) (ps:List Path) (Ar:Option Addr) (cr:Nat) (K:List TabR):Prop where
 types:Rd w w.heap.size 1 Ay ty.length cy (ty.map Value.string)
 ids:MapO w mb ps
 rels:TabK w Ar cr K
theorem TabA.up {w':World} {Ay:Option Addr} {cy:Nat} {ty:List ByteArray} {mb:Option Nat} {ps:List Path} {Ar:Option Addr} {cr:Nat} {K:List TabR} (h:TabA w Ay cy ty mb ps Ar cr K) (hb:Below w.heap.size w w'):TabA w' Ay cy ty mb ps Ar cr K:=⟨h.types.up hb,h.ids.up hb,h.rels.up hb⟩
theorem TabA.none_ (w:World):TabA w none 0 [] none [] none 0 []:=⟨Rd.none_ _ _ _,.inl ⟨rfl,rfl⟩,⟨Rd.none_ _ _ _,fun x b=>by cases b⟩⟩
def TabX (X:Nat→Prop) (w:World) (Ay:Option Addr) (cy:Nat) (ty:List ByteArray) (mb:Option Nat) (ps:List Path) (Ar:Option Addr) (cr:Nat) (K:List TabR):Prop:=∀w',Stay X w w'→TabA w' Ay cy ty mb ps Ar cr K
theorem TabX.none_ (X:Nat→Prop) (w:World):TabX X w none 0 [] none [] none 0 []:=fun _ _=>TabA.none_ _
def zjh (s:ByteArray) (w:World) (e:Ending) (w':World):Prop :=
 (∃tx Ay cy ty mb ps Ar cr K,∃err:Nat,e = .returned (.tuple #[.agg #[.string tx,.slice Ay ty.length cy,.map mb,.slice Ar K.length cr],.int .i64 err])∧TabX (·<w.heap.size) w' Ay cy ty mb ps Ar cr K∧CompIs s err tx ty ps (K.map (·.r)))∧Below w.heap.size w w'
theorem set4 {w0:World} {B b:Nat} {t:TypeId} {x0 x1 x2 x3:Value} (h:Bk w0 b #[x0,x1,x2,x3] t) (hb:Below B w w0) (hB:B≤b) (v0 v1 v2 v3:Value) :
 Bk ((((w0.setCell ⟨b,0,none⟩ v0).setCell ⟨b,1,none⟩ v1).setCell ⟨b,2,none⟩ v2).setCell ⟨b,3,none⟩ v3) b #[v0,v1,v2,v3] t ∧
 Below B w ((((w0.setCell ⟨b,0,none⟩ v0).setCell ⟨b,1,none⟩ v1).setCell ⟨b,2,none⟩ v2).setCell ⟨b,3,none⟩ v3) :=
 ⟨by
  have f:=(((h.set 0 v0).set 1 v1).set 2 v2).set 3 v3;simp only [yaG,yaV,yaW] at f;exact f,(((hb.setCell hB _).setCell hB _).setCell hB _).setCell hB _⟩
theorem Bk.c4 {b:Nat} {t:TypeId} {x0 x1 x2 x3:Value} (h:Bk w b #[x0,x1,x2,x3] t):w.cell? ⟨b,0,none⟩=some x0∧w.cell? ⟨b,1,none⟩=some x1∧w.cell? ⟨b,2,none⟩=some x2∧w.cell? ⟨b,3,none⟩=some x3:=⟨h.cell 0,h.cell 1,h.cell 2,h.cell 3⟩
theorem sub_rows {B R c:Nat} {A:Option Addr} {l:List TypA} {T:List TypP} (hv:VTyps B w (.slice A T.length c) T) (hs:SchA w R A c l) (hl:l.map TypA.says=T.map zbY) :
 ∀y ∈ relsA l,w.ownsRow B 246 2 (.slice y.2.As y.2.subs.length y.2.cs) y.2.subs.length (y.2.subs.flatMap zpt):=by
 intro y f;unfold relsA at f;obtain ⟨t,N,f⟩:=ybz.1 f;obtain ⟨r,O,rfl⟩:=yaH.1 f;obtain ⟨i,hi⟩:=List.getElem?_of_mem N;obtain ⟨j,F⟩:=List.getElem?_of_mem O;have G:(T.map zbY)[i]? = some t.says:=by rw [←hl,yaY,hi];rfl
 rw [yaY] at G;obtain ⟨t0,n,P⟩:=Option.map_eq_some_iff.1 G;obtain ⟨g,Z,vr,q,s,k0,H⟩:=hv.get n;obtain ⟨b,o,k,m0,I,u⟩:=hs.get hi;injection q with q _ _
 rw [q] at k;injection k with k
 injection k with Q U _
 subst Q;subst U;rw [yaI] at I;rw [I] at H;obtain rfl:=yaZ H;have J:(t0.rels.map relI)[j]? = some r.says:=by
  have:t0.rels.map relI=t.rels.map RelA.says:=congrArg TypI.rels P;rw [this,yaY,F];rfl
 rw [yaY] at J;obtain ⟨x,z,V⟩:=Option.map_eq_some_iff.1 J;obtain ⟨g2,c3,vs,vo,C,D,_,_,_,_,_,K,_⟩:=s.get z;obtain ⟨b2,o2,m,_,_,_,_,L,_,_⟩:=u.get F;injection C with C _ _
 rw [C] at m;injection m with m
 injection m with X Y _
 subst X;subst Y;rw [yaI] at L;rw [L] at K;obtain rfl:=yaZ K;have E:x.subs=r.subs:=congrArg RelI.subs V;have M:w.ownsRow B 246 2 (.slice r.As r.subs.length r.cs) x.subs.length (x.subs.flatMap zpt):=D;rw [E] at M;exact M
theorem compile_any (s:ByteArray) (hs:s.size≤1000000) (w:World):Calls Tryz.prog 43 #[.string s] w (zjh s w):=by
 obtain ⟨T,ea,pa,ha⟩:∃T e p,zak s=(T,e,p):=⟨_,_,_,rfl⟩;have kp:=fun W=>zmw s hs ha W;have hT:(zak s).1=T:=by rw [ha]
 have aa:(zak s).2.1=ea:=by rw [ha]
 have aj:=zo8 s;have ak:=said_few s;have N:=says_sml s;rw [hT] at aj ak N;replace hT:=Lib.hid hT;replace aa:=Lib.hid aa;clear ha;have al:=bnewZ w (.cells #[.string ⟨#[]⟩,.slice none 0 0,.map none,.slice none 0 0] 61);have f:=Bk.new w #[.string ⟨#[]⟩,.slice none 0 0,.map none,.slice none 0 0] 61;go_enter Tryz.func43,Tryz.ntmps43
 go_upto_region 1 with (fail)
 generalize w.alloc (.cells #[.string ⟨#[]⟩,.slice none 0 0,.map none,.slice none 0 0] 61)=w0 at *
 go_upto_region 2 with (go_at_call 73;refine (kp _).mono ?_;rintro e w2 ⟨⟨A,c,rfl,I⟩,g⟩)
 obtain ⟨l,hl,j⟩:=I.sch (R:=140737488351232) ak aj;have hn:l.length=T.length:=by have:=congrArg List.length hl;rwa [yax,yax] at this
 have hb:=zcN al al.size g;have bq:w.heap.size<w2.heap.size:=yas f.lt g.size;have ag:w.heap.size<w0.heap.size:=f.lt;replace f:=f.below g;have Y:=bnewZ w2 (.cells #[.slice A T.length c] 140);replace j:=j.up Y;replace I:=I.below Y;replace f:=f.below Y;replace hb:=zcN hb hb.size Y;have z:=Bk.new w2 #[.slice A T.length c] 140;clear Y al g kp;generalize w2.alloc (.cells #[.slice A T.length c] 140)=w3 at *
 rw [←hn] at z ⊢;replace hn:=Lib.hid hn;replace hl:=Lib.hid hl;have ah:=aa.out;by_cases he:ea=0
 · subst he;have x0:=z.c1;have xl:=z.lt;have kc:=check_any j (yaj _);obtain ⟨E,hE⟩:∃E,zcY (l.map TypA.says)=E:=⟨_,rfl⟩;rw [hE] at kc;replace hE:=Lib.hid hE;go_upto_region 5 with (go_at_call 74;refine kc.mono ?_;rintro e w4 ⟨rfl,g⟩)
   replace j:=j.up g;replace I:=I.below g;replace f:=f.below g;replace z:=z.below g;replace hb:=zcN hb hb.size g;clear g x0 xl kc;obtain ⟨E1,E2⟩:=E;simp only;by_cases hf:E1=0
   · subst hf;have hR:Right (l.map TypA.says):=(zfi _).1.1 (by rw [hE.out]);have Z:l.map TypA.says=(zak s).1.map zbY:=by rw [hT.out];exact hl.out
     have aq:=zln hR;obtain ⟨b8,ar⟩:=zo7 (s:=s) Z hR;have ab:(zal (relsA l)).Nodup:=by rw [←zhN];exact hR.paths
     replace hR:=Lib.hid hR;replace ab:=Lib.hid ab;have x0:=z.c1;have xl:=z.lt;have ki:=idsOf_any j (yaj _) yab ab.out;go_upto_region 8 with (go_at_call 75;refine ki.mono ?_;rintro e w5 ⟨⟨b,rfl,hm,a6⟩,g⟩)
     replace a6:=yay hb.size a6;replace a6:=Lib.hid a6;replace j:=j.up g;replace I:=I.below g;replace f:=f.below g;replace z:=z.below g;replace hb:=zcN hb hb.size g;clear g x0 xl ki;have am:(zal (relsA l)).length=(relsA l).length:=by simp [zal]
     have an:Maps.size (zdQ (zal (relsA l)))=(relsA l).length:=by rw [(zk3 hm.2 ab.out).2,am]
     have ai:∀ty,(Builtin.len_ #[58] ty #[.map (some b)]).run Tryz.prog w5 = .ok (.int .i64 ((relsA l).length:Nat)) w5:=fun ty=>by have:=hm.1.len Tryz.underlying58 ty;rw [an] at this;exact this
     replace an:=Lib.hid an;replace am:=Lib.hid am;have x0:=z.c1;have xl:=z.lt;have ke:=edges_any j (yaj _) b8 ar;obtain ⟨n,J⟩:∃n,(relsA l).length=n:=⟨_,rfl⟩;rw [J] at ai aq;replace J:=Lib.hid J;have au:∀(zs:List Ed),(∀e,e ∈ zs↔e ∈ zbr (l.map TypA.says))→InR n zs:=fun zs h2 e he=>by
      have:=zm7 ((h2 e).1 he);rw [J.out] at this;exact ⟨this.1,this.2.1,this.2.2.1,this.2.2.2.1⟩
     go_upto_region 9 with (first
      | (go_at_call 77;refine ke.mono ?_;rintro e w6 ⟨A2,c2,zs,rfl,av,O,aw,g⟩;have kl:=zoH (n:=n) aw (by have:=zpX hR.out av O;omega) yab)
      | (go_at_call 76;refine kl.mono ?_;rintro e w7 ⟨⟨A7,c7,v,sn,rfl,a7,ax⟩,ay⟩))
     have k:Below w5.heap.size w5 w7:=zcN g g.size ay;replace j:=j.up k;replace I:=I.below k;replace f:=f.below k;replace z:=z.below k;replace hb:=zcN hb hb.size k;replace hm:=hm.below k;clear g ay k x0 xl ke kl ai aw;have L:(zak s).1.map zbY=l.map TypA.says:=Z.symm;have ao:(zak s).2.1=0:=aa.out;cases ax with
     | arg hi=>exact absurd (au zs O) hi
     | cyc hi hc =>
      have P:Cyc (zbr ((zak s).1.map zbY)):=by rw [L];exact hc.sub fun e he=>(O e).1 he
      have ac:Right ((zak s).1.map zbY):=by rw [L];exact hR.out
      clear hc;replace P:=Lib.hid P;obtain ⟨r0,r1,r2,r3⟩:=f.c4;have rf:=f.fz;have rl:=f.lt;go_wp2_with fail
      obtain ⟨hw,B⟩:=set4 f hb (yaj _) (.string ⟨#[]⟩) (.slice none 0 0) (.map none) (.slice none 0 0);obtain ⟨y0,y1,y2,y3⟩:=hw.c4;refine bodyPost_ret (v:=.tuple #[.agg #[.string ⟨#[]⟩,.slice none 0 0,.map none,.slice none 0 0],.int .i64 33]) (by simp [results,Tryz.results43,go_sem,y0,y1,y2,y3];try rfl) rfl ?_;exact ⟨⟨⟨#[]⟩,none,0,[],none,[],none,0,[],33,rfl,TabX.none_ _ _,.cyc ao ac P.out⟩,B⟩
     | ok hi v a8 hL o =>
      have az:Hid (Least v.length (zbr ((zak s).1.map zbY)) (zcg v)):=Lib.hid (by rw [a8,L];exact hL.congr O);have b9:Hid (InR v.length (zbr ((zak s).1.map zbY))):=Lib.hid (by rw [a8,L];exact fun e he=>hi e ((O e).2 he));have ba:Hid (¬Cyc (zbr ((zak s).1.map zbY))):=Lib.hid fun hc=>Cyc.none hc az.out.1;have bb:Hid (v.length=(zbb ((zak s).1.map zbY)).length):=Lib.hid (by rw [a8,L,←zcK,yax];exact J.out.symm);have ac:Hid (Right ((zak s).1.map zbY)):=Lib.hid (by rw [L];exact hR.out);have D:Hid (∀y ∈ relsA l,w7.ownsRow w0.heap.size 246 2 (.slice y.2.As y.2.subs.length y.2.cs) y.2.subs.length (y.2.subs.flatMap zpt)):=Lib.hid (sub_rows I j hl.out);have h8:l.length≤8:=by have:=hR.out.few;rwa [yax] at this
      clear hL o hi O av au L;have x0:=z.c1;have xl:=z.lt;obtain ⟨tx,Q⟩:∃tx,zdE T=tx:=⟨_,rfl⟩;have ks:=show_any8 I N.1 N.2.1 N.2.2;have bc:=N.2.2;rw [Q] at ks bc;rw [←hn.out] at ks;replace Q:=Lib.hid Q;clear N aj ak;go_upto_region 12 with (go_at_call 78;refine ks.mono ?_;rintro e w8 ⟨rfl,g⟩)
      replace j:=j.up g;replace I:=I.below g;replace f:=f.below g;replace z:=z.below g;replace hb:=zcN hb hb.size g;replace hm:=hm.below g;replace a7:=a7.up g;replace D:=Lib.hid fun y hy=>zao (D.out y hy) g;clear g x0 xl ks;by_cases hz:2048<tx.size
      · have bd:(tx.size:Int) > 2048:=by omega
        have bf:Hid (2048<(zdE (zak s).1).size):=Lib.hid (by rw [hT.out,Q.out];exact hz);obtain ⟨r0,r1,r2,r3⟩:=f.c4;have rf:=f.fz;have rl:=f.lt;go_wp2_with fail
        obtain ⟨hw,B⟩:=set4 f hb (yaj _) (.string ⟨#[]⟩) (.slice none 0 0) (.map none) (.slice none 0 0);obtain ⟨y0,y1,y2,y3⟩:=hw.c4;refine bodyPost_ret (v:=.tuple #[.agg #[.string ⟨#[]⟩,.slice none 0 0,.map none,.slice none 0 0],.int .i64 13]) (by simp [results,Tryz.results43,go_sem,y0,y1,y2,y3];try rfl) rfl ?_;exact ⟨⟨⟨#[]⟩,none,0,[],none,[],none,0,[],13,rfl,TabX.none_ _ _,.long ao ac.out ba.out bf.out⟩,B⟩
      · have bd:¬(tx.size:Int) > 2048:=by omega
        go_upto_region 14 with (fail)
        refine wp_region_any yaa ?_;change wpAny _ _ _ _ _ _ _ (World.drew _);generalize hdw:World.drew w8=wz at *
        have o:Below w8.heap.size w8 wz:=by subst hdw;exact ⟨rfl,rfl,rfl,yaj _,fun _ _=>rfl⟩
        replace j:=j.up o;replace I:=I.below o;replace f:=f.below o;replace z:=z.below o;replace hb:=zcN hb hb.size o;replace hm:=hm.below o;replace a7:=a7.up o;replace D:=Lib.hid fun y hy=>zao (D.out y hy) o;clear hdw o;have kt:=fun (W:World) (hb:Below wz.heap.size wz W)=>typesOf_any (j.up hb) yab;have kr:=fun (W:World) (hb:Below wz.heap.size wz W)=>relsOf_any (j.up hb) (yaj _) (hm.below hb) (by have:=J.out;omega) (a7.up hb) (a8.trans J.out.symm) (fun x hx=>(ar x hx).2);rw [a8] at kr;have ad:∀W,Below wz.heap.size wz W→W.cell? ⟨w2.heap.size,0,none⟩=some (.slice A l.length c):=fun W hb=>(z.below hb).cell 0;have b0:=Below.refl wz.heap.size wz;have X:=ad _ b0;refine wpAny_of_held (S:=fun W=>W.cell? ⟨w2.heap.size,0,none⟩=some (.slice A l.length c)) _ _ _ _ ?_;refine zaa 0 (some 51) X ?_;refine zaa 1 (some 52) X ?_;refine zaa 3 (some 54) X ?_;refine zaa 4 (some 55) X ?_;refine zaa 5 (some 56) X ?_;refine zaa 6 (some 57) X ?_;refine zaS 2 rfl yaa ?_;intro Kf F;go_simp;refine (kt _ b0).mono ?_;rintro e W1 ⟨⟨Ay,cy,rfl,bg⟩,G⟩;replace X:=ad _ G;refine F _ _ X ?_;clear F Kf;refine zaS 7 rfl yaa ?_;intro Kf F;go_simp;with_reducible refine (kr _ G).mono ?_
        rintro e W2 ⟨⟨Ar,cr,rfl,K,b1,bh,bi,bj⟩,P⟩;have U:Below wz.heap.size wz W2:=zcN G G.size P;replace X:=ad _ U;refine F _ _ X ?_;clear F Kf;refine zaa 8 (some 59) X ?_;have C:=f.below U;obtain ⟨r0,r1,r2,r3⟩:=C.c4;have rf:=C.fz;have rl:=C.lt;refine zaS 9 rfl yaa ?_;intro Kf F;go_simp;obtain ⟨hw,B⟩:=set4 C (zcN hb hb.size U) (yaj _) (.string tx) (.slice Ay l.length cy) (.map (some b)) (.slice Ar (relsA l).length cr);have M:w2.heap.size≠w.heap.size:=by omega
        have b2:((((W2.setCell ⟨w.heap.size,0,none⟩ (.string tx)).setCell ⟨w.heap.size,1,none⟩ (.slice Ay l.length cy)).setCell ⟨w.heap.size,2,none⟩ (.map (some b))).setCell ⟨w.heap.size,3,none⟩ (.slice Ar (relsA l).length cr)).cell? ⟨w2.heap.size,0,none⟩=some (.slice A l.length c) :=
         ((((z.below U).other (a:=⟨w.heap.size,0,none⟩) M _).other (a:=⟨w.heap.size,1,none⟩) M _).other (a:=⟨w.heap.size,2,none⟩) M _).other (a:=⟨w.heap.size,3,none⟩) M _ |>.cell 0
        have H:∀{base:Nat} {e:TypeId} {sz m:Nat} {u:Value} {ys:List Value},W2.ownsRow base e sz u m ys→w.heap.size<base→((((W2.setCell ⟨w.heap.size,0,none⟩ (.string tx)).setCell ⟨w.heap.size,1,none⟩ (.slice Ay l.length cy)).setCell ⟨w.heap.size,2,none⟩ (.map (some b))).setCell ⟨w.heap.size,3,none⟩ (.slice Ar (relsA l).length cr)).ownsRow base e sz u m ys:=fun h ae =>
         own_set (own_set (own_set (own_set h (a:=⟨w.heap.size,0,none⟩) ae _) (a:=⟨w.heap.size,1,none⟩) ae _) (a:=⟨w.heap.size,2,none⟩) ae _) (a:=⟨w.heap.size,3,none⟩) ae _
        have af:b≠w.heap.size:=by
         intro e;obtain ⟨⟨es,bl,q1,_⟩,_⟩:=hm;rw [e,show wz.heap[w.heap.size]? = _ from f] at q1;cases q1
        have b3:MapT ((((W2.setCell ⟨w.heap.size,0,none⟩ (.string tx)).setCell ⟨w.heap.size,1,none⟩ (.slice Ay l.length cy)).setCell ⟨w.heap.size,2,none⟩ (.map (some b))).setCell ⟨w.heap.size,3,none⟩ (.slice Ar (relsA l).length cr)) b (zal (relsA l)):=(hm.below U).same ((Below.heap_setCell _ _ _ _ af).trans ((Below.heap_setCell _ _ _ _ af).trans ((Below.heap_setCell _ _ _ _ af).trans (Below.heap_setCell _ _ _ _ af))));have V:w.heap.size<wz.heap.size:=f.lt;have b4:=H (zao bg P) V;have b5:=H bi (yas V G.size);have b6:∀W,Stay (·<w.heap.size) ((((W2.setCell ⟨w.heap.size,0,none⟩ (.string tx)).setCell ⟨w.heap.size,1,none⟩ (.slice Ay l.length cy)).setCell ⟨w.heap.size,2,none⟩ (.map (some b))).setCell ⟨w.heap.size,3,none⟩ (.slice Ar (relsA l).length cr)) W→∀x ∈ K,x.ok W:=fun W hW x hx=>by
         obtain ⟨⟨y,hy,a1,a2,a3⟩,o2,o3⟩:=bj x hx;have s1:=hW.row (H (zao (D.out y hy) U) ag) fun _ q=>ych q ag;have s2:=hW.row (H o2 (yas V G.size)) fun _ q=>ych q (yas V G.size);obtain ⟨A4,c4,e4,r4⟩:=Rd.own s1;obtain ⟨A5,c5,e5,r5⟩:=Rd.own s2;cases e4;cases e5;refine ⟨?_,r5,o3⟩;rw [a1,a2,a3];exact r4
        refine F _ _ b2 ?_;clear F Kf r0 r1 r2 r3 rf rl X H ad kt kr;refine zaa 10 (some 3) b2 ?_;refine wpAnyH_done yaa ?_ _;obtain ⟨y0,y1,y2,y3⟩:=hw.c4;generalize (((W2.setCell ⟨w.heap.size,0,none⟩ (.string tx)).setCell ⟨w.heap.size,1,none⟩ (.slice Ay l.length cy)).setCell ⟨w.heap.size,2,none⟩ (.map (some b))).setCell ⟨w.heap.size,3,none⟩ (.slice Ar (relsA l).length cr)=W3 at *
        go_wp2_with fail
        refine bodyPost_ret (v:=.tuple #[.agg #[.string tx,.slice Ay l.length cy,.map (some b),.slice Ar (relsA l).length cr],.int .i64 0]) (by simp [results,Tryz.results43,go_sem,y0,y1,y2,y3];try rfl) rfl ?_;have b7:(l.map (·.name)).length=l.length:=yax _;refine ⟨⟨tx,Ay,cy,l.map (·.name),some b,zal (relsA l),Ar,cr,K,0,by rw [b7,b1];rfl,fun W hW=>?_,?_⟩,B⟩
        · obtain ⟨A6,c6,e6,r6⟩:=Rd.own (hW.row b4 fun _ q=>ych q V);obtain ⟨br,bs,e7,r7⟩:=Rd.own (hW.row b5 fun _ q=>ych q (yas V G.size));cases e6;cases e7;refine ⟨?_,.inr ⟨b,rfl,b3.same (hW.2 b b3.lt fun q=>?_)⟩,⟨by rw [b1];exact r7,b6 W hW⟩⟩
          · rw [b7,ybp];exact r6
          · have:=a6.out;have q:b<w.heap.size:=q;omega
        · have bm:l.map (·.name)=(zak s).1.map (·.name):=by
           have:=congrArg (List.map TypI.name) Z;rw [ybp,ybp] at this;exact this
          have bn:zal (relsA l)=zaZ ((zak s).1.map zbY):=by rw [←Z,zhN]
          have bo:K.map (·.r)=zhU ((zak s).1.map zbY) v:=by rw [bh,←Z,relsK_T]
          rw [bm,bn,bo,←Q.out,←hT.out];exact .ok ao ac.out v bb.out b9.out az.out (by rw [hT.out,Q.out];omega)
   · have bu:¬((E1:Int)=0):=by omega
     have bp:(zcY ((zak s).1.map zbY)).1=E1:=by rw [hT.out,←hl.out,hE.out]
     obtain ⟨r0,r1,r2,r3⟩:=f.c4;have rf:=f.fz;have rl:=f.lt;go_wp2_with fail
     obtain ⟨hw,B⟩:=set4 f hb (yaj _) (.string ⟨#[]⟩) (.slice none 0 0) (.map none) (.slice none 0 0);obtain ⟨y0,y1,y2,y3⟩:=hw.c4;refine bodyPost_ret (v:=.tuple #[.agg #[.string ⟨#[]⟩,.slice none 0 0,.map none,.slice none 0 0],.int .i64 (E1:Nat)]) (by simp [results,Tryz.results43,go_sem,y0,y1,y2,y3];try rfl) rfl ?_;exact ⟨⟨⟨#[]⟩,none,0,[],none,[],none,0,[],E1,rfl,TabX.none_ _ _,.check E1 ah bp hf⟩,B⟩
 · have bw:¬((ea:Int)=0):=by omega
   obtain ⟨r0,r1,r2,r3⟩:=f.c4;have rf:=f.fz;have rl:=f.lt;go_wp2_with fail
   obtain ⟨hw,B⟩:=set4 f hb (yaj _) (.string ⟨#[]⟩) (.slice none 0 0) (.map none) (.slice none 0 0);obtain ⟨y0,y1,y2,y3⟩:=hw.c4;refine bodyPost_ret (v:=.tuple #[.agg #[.string ⟨#[]⟩,.slice none 0 0,.map none,.slice none 0 0],.int .i64 (ea:Nat)]) (by simp [results,Tryz.results43,go_sem,y0,y1,y2,y3];try rfl) rfl ?_;exact ⟨⟨⟨#[]⟩,none,0,[],none,[],none,0,[],ea,rfl,TabX.none_ _ _,.parse ea ah he⟩,B⟩
end
section
variable {s tx:ByteArray} {e:Nat} {ty:List ByteArray} {ps:List Path} {R:List RelT}
theorem zo1 (l:List TypI):(zaZ l).length=(zbb l).length:=yax _
theorem CompIs.move {t:ByteArray} (h1:(zak s).1=(zak t).1) (h2:(zak s).2.1=(zak t).2.1) (h:CompIs t e tx ty ps R):CompIs s e tx ty ps R:=by
 cases h with
 | parse e h g=>exact .parse e (h2.trans h) g
 | check e a h g=>exact .check e (h2.trans a) (by rw [h1];exact h) g
 | cyc a b j=>exact .cyc (h2.trans a) (by rw [h1];exact b) (by rw [h1];exact j)
 | long a b j f=>exact .long (h2.trans a) (by rw [h1];exact b) (by rw [h1];exact j) (by rw [h1];exact f)
 | ok a b v k hi m f =>
  rw [←h1] at b k hi m f ⊢;exact .ok (h2.trans a) b v k hi m f
structure TabOk (s:ByteArray) (tx:ByteArray) (ty:List ByteArray) (ps:List Path) (R:List RelT) (v:List Int):Prop where
 says:(zak s).2.1=0
 right:Right ((zak s).1.map zbY)
 len:v.length=(zbb ((zak s).1.map zbY)).length
 inr:InR v.length (zbr ((zak s).1.map zbY))
 least:Least v.length (zbr ((zak s).1.map zbY)) (zcg v)
 size:(zdE (zak s).1).size≤2048
 text:tx=zdE (zak s).1
 types:ty=(zak s).1.map (·.name)
 paths:ps=zaZ ((zak s).1.map zbY)
 rels:R=zhU ((zak s).1.map zbY) v
theorem CompIs.yes (h:CompIs s e tx ty ps R):(e≠0∧tx=⟨#[]⟩∧ty=[]∧ps=[]∧R=[])∨(e=0∧∃v,TabOk s tx ty ps R v):=by
 cases h with
 | parse e h b=>exact .inl ⟨b,rfl,rfl,rfl,rfl⟩
 | check e a h b=>exact .inl ⟨b,rfl,rfl,rfl,rfl⟩
 | cyc a f j=>exact .inl ⟨by decide,rfl,rfl,rfl,rfl⟩
 | long a f j g=>exact .inl ⟨by decide,rfl,rfl,rfl,rfl⟩
 | ok a f v k hi m g=>exact .inr ⟨rfl,v,⟨a,f,k,hi,m,g,rfl,rfl,rfl,rfl⟩⟩
theorem zoG {n:Nat} {l:List Ed} {v u:List Int} (h1:v.length=n) (h2:u.length=n) (a:Least n l (zcg v)) (b:Least n l (zcg u)):v=u :=
 List.ext_getElem yab fun i f g=>by
  have:=a.same b (i:=i) yab;simpa [zcg,f,g] using this
theorem CompIs.one {f:Nat} {ux:ByteArray} {uy:List ByteArray} {qs:List Path} {Q:List RelT} (h:CompIs s e tx ty ps R) (k:CompIs s f ux uy qs Q):e=f∧tx=ux∧ty=uy∧ps=qs∧R=Q:=by
 have j:Right ((zak s).1.map zbY)→(zcY ((zak s).1.map zbY)).1=0:=fun h=>(zfi _).1.2 h;cases h with
 | parse e h n =>
  cases k with
  | parse f k g=>exact ⟨h.symm.trans k,rfl,rfl,rfl,rfl⟩
  | check f a=>exact absurd (h.symm.trans a) n
  | cyc a=>exact absurd (h.symm.trans a) n
  | long a=>exact absurd (h.symm.trans a) n
  | ok a=>exact absurd (h.symm.trans a) n
 | check e a h n =>
  cases k with
  | parse f k g=>exact absurd (k.symm.trans a) g
  | check f b k g=>exact ⟨h.symm.trans k,rfl,rfl,rfl,rfl⟩
  | cyc b m=>exact absurd (h.symm.trans (j m)) n
  | long b m=>exact absurd (h.symm.trans (j m)) n
  | ok b m=>exact absurd (h.symm.trans (j m)) n
 | cyc a m o =>
  cases k with
  | parse f k g=>exact absurd (k.symm.trans a) g
  | check f b k g=>exact absurd (k.symm.trans (j m)) g
  | cyc=>exact ⟨rfl,rfl,rfl,rfl,rfl⟩
  | long _ _ x=>exact absurd o x
  | ok _ _ v _ _ q=>exact (Cyc.none o q.1).elim
 | long a m x C =>
  cases k with
  | parse f k g=>exact absurd (k.symm.trans a) g
  | check f b k g=>exact absurd (k.symm.trans (j m)) g
  | cyc _ _ o=>exact absurd o x
  | long=>exact ⟨rfl,rfl,rfl,rfl,rfl⟩
  | ok _ _ v _ _ _ y=>omega
 | ok a m v z hi q C =>
  cases k with
  | parse f k g=>exact absurd (k.symm.trans a) g
  | check f b k g=>exact absurd (k.symm.trans (j m)) g
  | cyc _ _ o=>exact (Cyc.none o q.1).elim
  | long _ _ _ y=>omega
  | ok _ _ u A _ B =>
   rw [z] at q;rw [A] at B;have:=zoG z A q B;subst this;exact ⟨rfl,rfl,rfl,rfl,rfl⟩
end
section
open Go.RowKit
theorem wf11 {n:Nat} (h:n≤96):(Lit.int .i64 (n:Int)).wf=true:=WalkArith.wf_i64 yab
end
section
open Go.RowKit
def zqD (ty:List ByteArray) (ps:List Path) (a c:ByteArray):Bool:=if c=⟨#[]⟩ then ty.any fun y=>decide (y=a) else (zat ps (a,c)).isSome
def mayT (K:List TabR) (ps:List Path) (t:TuP):Bool:=(atK K (ixP ps (t.1.1,t.1.2.2):Nat)).r.subs.any fun y=>decide (y=(t.2.1,t.2.2.2))
def zeg (ty:List ByteArray) (ps:List Path) (K:List TabR) (t:TuP):Int :=
 if zl5 t=true∧(zat ps (t.1.1,t.1.2.2)).isSome=true∧zqD ty ps t.2.1 t.2.2.2=true then if mayT K ps t=true then 0 else 40 else 31
theorem ix_small {ps:List Path} (h:ps.length≤96) (q:Path):ixP ps q≤96:=by
 unfold ixP;cases e:zat ps q with
 | none=>exact yao _
 | some i =>
  have:=(yap.1 (zcf e)).1;show i≤96;omega
section
variable {w:World} {tx:ByteArray} {Ay:Option Addr} {cy:Nat} {ty:List ByteArray} {mb:Option Nat} {ps:List Path} {Ar:Option Addr} {cr:Nat} {K:List TabR}
theorem knows_any (h:TabA w Ay cy ty mb ps Ar cr K) (a b c:ByteArray) (ha:a.size≤100000) (hc:c.size≤100000) :
 Calls Tryz.prog 83 #[.agg #[.string tx,.slice Ay ty.length cy,.map mb,.slice Ar K.length cr],.agg #[.string a,.string b,.string c]] w fun e w'=>e = .returned (.bool (zqD ty ps a c))∧Below w.heap.size w w':=by
 have hk:=(Bk.new w #[.string tx,.slice Ay ty.length cy,.map mb,.slice Ar K.length cr] 61).alloc (.cells #[.string a,.string b,.string c] 31);have j:=Bk.new2 w (.cells #[.string tx,.slice Ay ty.length cy,.map mb,.slice Ar K.length cr] 61) #[.string a,.string b,.string c] 31;have g:Below w.heap.size w ((w.alloc (.cells #[.string tx,.slice Ay ty.length cy,.map mb,.slice Ar K.length cr] 61)).alloc (.cells #[.string a,.string b,.string c] 31)):=((Below.refl _ w).alloc (yaj _) _).alloc (size_alloc (yaj _)) _;have k:=h.up g;have m:=tid_any (tx:=tx) (Ay:=Ay) (ny:=ty.length) (cy:=cy) (Ar:=Ar) (cr:=cr) (nr:=K.length) k.ids a c yad yad;have n:=thas_any (tx:=tx) (mb:=mb) (Ar:=Ar) (cr:=cr) (nr:=K.length) k.types a;unfold zqD;by_cases f:c=⟨#[]⟩
 · rw [yan f];have d:=zlZ f;clear f m;generalize (ty.any fun y=>decide (y=a))=q at *
   go_enter Tryz.func83,Tryz.ntmps83
   go_upto_region 1 with (fail)
   generalize (w.alloc (.cells #[.string tx,.slice Ay ty.length cy,.map mb,.slice Ar K.length cr] 61)).alloc (.cells #[.string a,.string b,.string c] 31)=o at *
   obtain ⟨s,u,x,z⟩:=hk.c4;have kl:=hk.lt;obtain ⟨A,B,C⟩:=j.c3;have D:=j.lt;go_wp2_with (go_at_call 133;refine n.mono ?_;rintro e E ⟨rfl,hb⟩)
   go_ret
   exact ⟨rfl,zan g g.size hb⟩
 · rw [yak f];have d:=zpY f;clear f n;generalize (zat ps (a,c)).isSome=q at *
   generalize ixP ps (a,c)=i at *
   go_enter Tryz.func83,Tryz.ntmps83
   go_upto_region 1 with (fail)
   generalize (w.alloc (.cells #[.string tx,.slice Ay ty.length cy,.map mb,.slice Ar K.length cr] 61)).alloc (.cells #[.string a,.string b,.string c] 31)=o at *
   obtain ⟨s,u,x,z⟩:=hk.c4;have kl:=hk.lt;obtain ⟨A,B,C⟩:=j.c3;have D:=j.lt;go_wp2_with (go_at_call 81;refine m.mono ?_;rintro e E ⟨rfl,hb⟩)
   go_ret
   exact ⟨rfl,zan g g.size hb⟩
theorem right_any12 (h:TabA w Ay cy ty mb ps Ar cr K) (hps:ps.length≤96) (a b c x y z:ByteArray) (ha:a.size≤100000) (hb:b.size≤100000) (hc:c.size≤100000) (hx:x.size≤100000) (hy:y.size≤100000) (hz:z.size≤100000) :
 Calls Tryz.prog 44 #[.agg #[.string tx,.slice Ay ty.length cy,.map mb,.slice Ar K.length cr],.agg #[.string a,.string b,.string c,.string x,.string y,.string z]] w fun e w'=>e = .returned (.int .i64 (zeg ty ps K ((a,b,c),(x,y,z))))∧Below w.heap.size w w':=by
 obtain ⟨R,g⟩:∃R,Hid (zeg ty ps K ((a,b,c),(x,y,z))=R):=⟨_,Lib.hid rfl⟩;rw [g.out];unfold zeg mayT at g;dsimp only at g;have hk:=(Bk.new w #[.string tx,.slice Ay ty.length cy,.map mb,.slice Ar K.length cr] 61).alloc (.cells #[.string a,.string b,.string c,.string x,.string y,.string z] 51);have C:=Bk.new2 w (.cells #[.string tx,.slice Ay ty.length cy,.map mb,.slice Ar K.length cr] 61) #[.string a,.string b,.string c,.string x,.string y,.string z] 51;have o:Below w.heap.size w ((w.alloc (.cells #[.string tx,.slice Ay ty.length cy,.map mb,.slice Ar K.length cr] 61)).alloc (.cells #[.string a,.string b,.string c,.string x,.string y,.string z] 51)):=((Below.refl _ w).alloc (yaj _) _).alloc (size_alloc (yaj _)) _;replace h:=h.up o;go_enter Tryz.func44,Tryz.ntmps44
 go_upto_region 1 with (fail)
 generalize (w.alloc (.cells #[.string tx,.slice Ay ty.length cy,.map mb,.slice Ar K.length cr] 61)).alloc (.cells #[.string a,.string b,.string c,.string x,.string y,.string z] 51)=w1 at *
 have Q:=tid_any (tx:=tx) (Ay:=Ay) (ny:=ty.length) (cy:=cy) (Ar:=Ar) (cr:=cr) (nr:=K.length) h.ids a c yad yad;obtain ⟨T,U,V,X⟩:=hk.c4;have kl:=hk.lt;obtain ⟨Y,Z,l2,l3,l4,l5⟩:=C.c6;have ll:=C.lt;go_upto_region 2 with (go_at_call 81;refine Q.mono ?_;rintro e w2 ⟨rfl,A⟩)
 replace h:=h.up A;replace hk:=hk.below A;replace C:=C.below A;replace o:=zan o o.size A;clear A Q T U V X kl Y Z l2 l3 l4 l5 ll;obtain ⟨T,U,V,X⟩:=hk.c4;have kl:=hk.lt;obtain ⟨Y,Z,l2,l3,l4,l5⟩:=C.c6;have ll:=C.lt;have L:=ix_small hps (a,c);generalize ixP ps (a,c)=i at *
 obtain ⟨p,M⟩:∃p,Hid (zl5 ((a,b,c),(x,y,z))=p):=⟨_,Lib.hid rfl⟩;have H:=fun W=>fmd_is M.out ha hb hc hx hy hz W;cases p with
 | false =>
  obtain rfl:R=31:=by rw [←g.out,yak fun q=>by rw [M.out] at q;cases q.1]
  clear g;go_wp2_with (go_at_call 82;refine (H _).mono ?_;rintro e N ⟨rfl,f⟩)
  go_ret
  exact ⟨rfl,zan o o.size f⟩
 | true =>
  obtain ⟨q,O⟩:∃q,Hid ((zat ps (a,c)).isSome=q):=⟨_,Lib.hid rfl⟩;rw [O.out];cases q with
  | false =>
   obtain rfl:R=31:=by rw [←g.out,yak fun r=>by rw [O.out] at r;cases r.2.1]
   clear g;go_wp2_with (go_at_call 82;refine (H _).mono ?_;rintro e N ⟨rfl,f⟩)
   go_ret
   exact ⟨rfl,zan o o.size f⟩
  | true =>
   obtain ⟨r,I⟩:∃r,Hid (zqD ty ps x z=r):=⟨_,Lib.hid rfl⟩;cases r with
   | false =>
    obtain rfl:R=31:=by rw [←g.out,yak fun s=>by rw [I.out] at s;cases s.2.2]
    clear g;go_wp2_with (first
     | (go_at_call 82;refine (H _).mono ?_;rintro e N ⟨rfl,f⟩;have J:=h.up f;have j:=hk.below f;have k:=C.below f;have B:=zan o o.size f;obtain ⟨m0,m1,m2,m3⟩:=j.c4;have ml:=j.lt;obtain ⟨n0,n1,n2,n3,n4,n5⟩:=k.c6;have nl:=k.lt;have D:=knows_any (tx:=tx) J x y z hx hz;rw [I.out] at D)
     | (go_at_call 83;refine D.mono ?_;rintro e w4 ⟨rfl,n⟩))
    go_ret
    exact ⟨rfl,zan B B.size n⟩
   | true =>
    obtain ⟨m,hm⟩:∃m,Hid (((atK K (i:Nat)).r.subs.any fun u=>decide (u=(x,z)))=m):=⟨_,Lib.hid rfl⟩;obtain rfl:R=if m=true then 0 else 40:=by rw [←g.out,yan ⟨M.out,O.out,I.out⟩,hm.out]
    clear g;go_wp2_with (first
     | (go_at_call 82;refine (H _).mono ?_;rintro e N ⟨rfl,f⟩;have J:=h.up f;have j:=hk.below f;have k:=C.below f;have B:=zan o o.size f;obtain ⟨m0,m1,m2,m3⟩:=j.c4;have ml:=j.lt;obtain ⟨n0,n1,n2,n3,n4,n5⟩:=k.c6;have nl:=k.lt;have D:=knows_any (tx:=tx) J x y z hx hz;rw [I.out] at D)
     | (go_at_call 83;refine D.mono ?_;rintro e w4 ⟨rfl,n⟩;have h4:=J.up n;have E:=j.below n;have F:=k.below n;have G:=zan B B.size n;obtain ⟨o0,o1,o2,o3⟩:=E.c4;have ol:=E.lt;obtain ⟨q0,q1,q2,q3,q4,q5⟩:=F.c6;have ql:=F.lt;have km:=tmay_any (tx:=tx) (Ay:=Ay) (ny:=ty.length) (cy:=cy) (mb:=mb) h4.rels (i:Nat) (wf11 L) x z;rw [hm.out] at km)
     | (go_at_call 84;refine km.mono ?_;rintro e w5 ⟨rfl,P⟩))
    all_goals (cases m <;> first | contradiction | skip)
    all_goals go_ret
    all_goals exact ⟨rfl,zan G G.size P⟩
end
end
section
open Go.RowKit
variable {i B:Nat} {w:World}
def zke:List TypP:=[⟨⟨#[117,115,101,114]⟩,[]⟩,⟨⟨#[100,111,99]⟩,[⟨⟨#[114,101,97,100]⟩,⟨#[114,101,97,100]⟩,⟨#[114,101,97,100]⟩,⟨#[114,101,97,100]⟩,[(⟨#[117,115,101,114]⟩,⟨#[]⟩)],[(1,⟨#[]⟩,⟨#[]⟩)]⟩]⟩]
theorem zes:zak ⟨#[116,121,112,101,32,117,115,101,114,32,123,125,32,116,121,112,101,32,100,111,99,32,123,32,114,101,108,32,114,101,97,100,32,40,114,101,97,100,44,32,114,101,97,100,44,32,114,101,97,100,41,58,32,117,115,101,114,59,32,125]⟩=(zke,0,0):=by decide +kernel
theorem zhi:zbr (zke.map zbY)=[]:=by decide +kernel
theorem zkE:(zcY (zke.map zbY)).1=0:=by decide +kernel
theorem exR_sol:Sol 1 (zbr (zke.map zbY)) (fun _=>0):=by
 rw [zhi];exact ⟨fun i _=>by dsimp only;omega,fun e b=>by cases b⟩
theorem zna:¬2048<(zdE zke).size:=by decide +kernel
theorem exR_rels (v:List Int):zhU (zke.map zbY) v=[zdL (zaZ (zke.map zbY)) (zcg v 0) ((zbb (zke.map zbY)).getD 0 (⟨⟨#[]⟩,[]⟩,⟨⟨#[]⟩,⟨#[]⟩,⟨#[]⟩,⟨#[]⟩,[],[]⟩))]:=rfl
theorem exR_subs (lv:Int):(zdL (zaZ (zke.map zbY)) lv ((zbb (zke.map zbY)).getD 0 (⟨⟨#[]⟩,[]⟩,⟨⟨#[]⟩,⟨#[]⟩,⟨#[]⟩,⟨#[]⟩,[],[]⟩))).subs=[(⟨#[117,115,101,114]⟩,⟨#[]⟩)]:=by kernel_rfl
theorem compR {err:Nat} {tx:ByteArray} {ty:List ByteArray} {ps:List Path} {Q:List RelT} (h:CompIs ⟨#[116,121,112,101,32,117,115,101,114,32,123,125,32,116,121,112,101,32,100,111,99,32,123,32,114,101,108,32,114,101,97,100,32,40,114,101,97,100,44,32,114,101,97,100,44,32,114,101,97,100,41,58,32,117,115,101,114,59,32,125]⟩ err tx ty ps Q):err=0∧ty=[⟨#[117,115,101,114]⟩,⟨#[100,111,99]⟩]∧ps=[(⟨#[100,111,99]⟩,⟨#[114,101,97,100]⟩)]∧∃r,Q=[r]∧r.subs=[(⟨#[117,115,101,114]⟩,⟨#[]⟩)]:=by
 have f:(zak ⟨#[116,121,112,101,32,117,115,101,114,32,123,125,32,116,121,112,101,32,100,111,99,32,123,32,114,101,108,32,114,101,97,100,32,40,114,101,97,100,44,32,114,101,97,100,44,32,114,101,97,100,41,58,32,117,115,101,114,59,32,125]⟩).1=zke:=by rw [zes]
 have n:(zak ⟨#[116,121,112,101,32,117,115,101,114,32,123,125,32,116,121,112,101,32,100,111,99,32,123,32,114,101,108,32,114,101,97,100,32,40,114,101,97,100,44,32,114,101,97,100,44,32,114,101,97,100,41,58,32,117,115,101,114,59,32,125]⟩).2.1=0:=by rw [zes]
 have o:¬Cyc (zbr (zke.map zbY)):=fun b=>Cyc.none b exR_sol;cases h with
 | parse e h g=>exact absurd (h.symm.trans n) g
 | check e j h g=>rw [f] at h;exact absurd (h.symm.trans zkE) g
 | cyc j m b=>rw [f] at b;exact absurd b o
 | long j m b k=>rw [f] at k;exact absurd k zna
 | ok j m v q hi s k =>
  rw [f];refine ⟨rfl,rfl,by decide +kernel,_,exR_rels v,exR_subs _⟩
theorem exR_yes {K:List TabR} {r:RelT} (h:K.map (·.r)=[r]) (hs:r.subs=[(⟨#[117,115,101,114]⟩,⟨#[]⟩)]):zeg [⟨#[117,115,101,114]⟩,⟨#[100,111,99]⟩] [(⟨#[100,111,99]⟩,⟨#[114,101,97,100]⟩)] K ((⟨#[100,111,99]⟩,⟨#[49]⟩,⟨#[114,101,97,100]⟩),(⟨#[117,115,101,114]⟩,⟨#[97]⟩,⟨#[]⟩))=0:=by
 unfold zeg;rw [yan ⟨by decide +kernel,by decide +kernel,by decide +kernel⟩];have b:mayT K [(⟨#[100,111,99]⟩,⟨#[114,101,97,100]⟩)] ((⟨#[100,111,99]⟩,⟨#[49]⟩,⟨#[114,101,97,100]⟩),(⟨#[117,115,101,114]⟩,⟨#[97]⟩,⟨#[]⟩))=true:=by
  unfold mayT;match K,h with
  | [k],h =>
   have hk:k.r=r:=by simpa using h
   rw [show ixP [((⟨#[100,111,99]⟩:ByteArray),(⟨#[114,101,97,100]⟩:ByteArray))] (⟨#[100,111,99]⟩,⟨#[114,101,97,100]⟩)=0 from by decide +kernel,zpF (i:=0) rfl,hk,hs];decide +kernel
 rw [yan b]
def ks (s:List ByteArray):List Value:=s.map Value.string
theorem znq (s:List ByteArray):(ks s).length=s.length:=by simp [ks]
theorem zfw (s:List ByteArray):∀u ∈ ks s,u.oneCell'=true:=by
 intro u b;obtain ⟨_,_,rfl⟩:=yaH.1 b;rfl
theorem znp {s:List ByteArray} {k:ByteArray} (h:s[i]? = some k):(ks s)[i]? = some (.string k):=by simp [ks,h]
theorem zno (a b:List ByteArray):ks (a ++ b)=ks a ++ ks b:=by simp [ks]
theorem zgB {α:Type} {l:List α} {x:α} (h:l[i]? = some x):i<l.length:=(yap.1 h).1
theorem zac {w1 w2:World} (h:Below B w w1) (hB:B≤w1.heap.size) (k:Below w1.heap.size w1 w2):Below B w w2:=h.trans (k.mono hB)
theorem zam (w:World) (B q:Nat):Below B w (w.drewN q):=⟨rfl,rfl,rfl,yaj _,fun _ _=>rfl⟩
theorem zaI (w:World) (o:Obj):Below w.heap.size w (w.alloc o):=(Below.refl _ w).alloc (yaj _) o
def zlg (p:ByteArray × Bool):List Value:=[.string p.1,.bool p.2]
def pcs (l:List (ByteArray × Bool)):List Value:=l.flatMap zlg
theorem zey (p:ByteArray × Bool):∀u ∈ zlg p,u.oneCell'=true:=by
 intro u b;simp only [zlg,yaw,ya1,ybA] at b;rcases b with rfl | rfl <;> rfl
theorem pcs_len (l:List (ByteArray × Bool)):(pcs l).length=l.length * 2:=by
 induction l with
 | nil=>rfl
 | cons a t ih=>rw [pcs,yaS,yam,←pcs,ih];simp [zlg];omega
theorem pcs_app (a b:List (ByteArray × Bool)):pcs (a ++ b)=pcs a ++ pcs b:=ya0
theorem zez (l:List (ByteArray × Bool)) (k:ByteArray) (b:Bool):pcs (l ++ [(k,b)])=pcs l ++ [.string k,.bool b]:=by rw [pcs_app];simp [pcs,zlg]
theorem pcs_get {l:List (ByteArray × Bool)} {p:ByteArray × Bool} (h:l[i]? = some p):(pcs l)[i * 2]? = some (.string p.1)∧(pcs l)[i * 2 + 1]? = some (.bool p.2):=by
 induction l generalizing i with
 | nil=>simp at h
 | cons a t ih =>
  rw [pcs,yaS,←pcs];cases i with
  | zero =>
   simp at h;subst h;exact ⟨rfl,rfl⟩
  | succ i =>
   obtain ⟨b,f⟩:=ih (by simpa using h);rw [yaJ (by simp [zlg];omega),yaJ (by simp [zlg];omega)];simp only [zlg,yat,yaE];rw [show (i + 1) * 2-(0 + 1 + 1)=i * 2 by omega,show (i + 1) * 2 + 1-(0 + 1 + 1)=i * 2 + 1 by omega];exact ⟨b,f⟩
theorem zf9 {n c:Nat} {A:Option Addr} {l:List (ByteArray × Bool)} (h:Rd w B 2 A n c (pcs l)) {p:ByteArray × Bool} (hi:l[i]? = some p) :
 ∃b o,A=some ⟨b,o,none⟩∧b<B∧w.cell? ⟨b,o + i * 2,none⟩=some (.string p.1)∧w.cell? ⟨b,o + i * 2 + 1,none⟩=some (.bool p.2):=by
 have k:0<n:=by
  have f:=h.len;have g:=pcs_len l;have m:=zgB hi;omega
 obtain ⟨b,o,e,hb,j⟩:=h.at_ k;obtain ⟨f,g⟩:=pcs_get hi;exact ⟨b,o,e,hb,j _ _ f,by rw [ya7];exact j _ _ g⟩
theorem zee {n c:Nat} {A:Option Addr} {l:List ByteArray} (h:Rd w B 1 A n c (ks l)) {k:ByteArray} (hi:l[i]? = some k) :
 ∃b o,A=some ⟨b,o,none⟩∧b<B∧w.cell? ⟨b,o + i,none⟩=some (.string k):=by
 have f:0<n:=by
  have j:=h.len;have m:=znq l;have q:=zgB hi;omega
 obtain ⟨b,o,e,hb,g⟩:=h.at_ f;exact ⟨b,o,e,hb,g _ _ (znp hi)⟩
theorem zbI (w:World) (cs:Array Value) (t:TypeId) (j:Nat) (u:Value) (h:cs.toList[j]? = some u):(w.alloc (.cells cs t)).cell? ((⟨w.heap.size,0,none⟩:Addr).add j)=some u:=by
 rw [Addr.add_lit,cell_of_row _ _ _ _ _ _ (heap_alloc_new w _),yaI];simpa using h
theorem cells_at (w:World) (cs:Array Value) (t:TypeId) (bb:Nat) (hb:bb=w.heap.size) (j:Nat) (u:Value) (h:cs.toList[j]? = some u):(w.alloc (.cells cs t)).cell? ((⟨bb,0,none⟩:Addr).add j)=some u:=by
 subst hb;exact zbI w cs t j u h
theorem zad {o:Obj} (h:B≤w.heap.size):B≤(w.alloc o).heap.size:=by simp;omega
theorem zc3 {α:Type} {l:List α} {x:α} (h:l[i]? = some x):l.drop i=x::l.drop (i + 1):=by
 obtain ⟨b,f⟩:=yap.1 h;rw [ya8 b,f]
theorem _root_.Go.World.grownBy.weak {w':World} (h:w.grownBy w' none) (row:Option Nat):w.grownBy w' row:=by
 obtain ⟨b,f,g,j,m⟩:=h;exact ⟨b,f,g,j,fun k hk _=>m k hk yaf⟩
theorem box2 (w:World) (x y:Value) (t:TypeId):(w.alloc (.cells #[x,y] t)).cell? ⟨w.heap.size,0,none⟩=some x∧(w.alloc (.cells #[x,y] t)).cell? ⟨w.heap.size,1,none⟩=some y:=by
 constructor
 · rw [cell_of_row _ _ _ _ _ _ (heap_alloc_new w _)];rfl
 · rw [cell_of_row _ _ _ _ _ _ (heap_alloc_new w _)];rfl
theorem ziE {W:World} {x y:Value} {t:TypeId} (h:(w.alloc (.cells #[x,y] t)).grownBy W none):W.cell? ⟨w.heap.size,0,none⟩=some x∧W.cell? ⟨w.heap.size,1,none⟩=some y:=by
 obtain ⟨b,f⟩:=box2 w x y t;exact ⟨h.cell b yaf,h.cell f yaf⟩
end
end Go.Proofs.YtmblgnddgmfkhaaGreat
