import Derived.Test.YtmblgnddgmfkhaaGreatQ34
set_option maxRecDepth 100000
set_option maxHeartbeats 4000000
namespace Go.Proofs.YtmblgnddgmfkhaaGreat
section
open Go.RowKit
variable {z:Sto Tb Nd15}
section
variable {S:SpW} {f:CoF} {X X' Y F F':Nat→Prop} {w w':World} {g gr:Nat} {L:List Sp} {last:Int} {m:Mm}
theorem StR.begun (K:SpK S) {fl:Int} {x:ByteArray} {l:List ByteArray} (h:StR S X w F g z [] 0 m) (hz:z.L.length=1) {t:Tm} (ht:t.ok X w) (h1:t.tx=(f x).2.1) (h2:t.tb=(f x).2.2) (h0:0≤fl) (hmax:fl≤9223372036854775807)
 (hb:Rk w' g #[.pointer (some ⟨m.gs,0,none⟩),.int .i64 z.quota,.int .i64 fl,.string t.tx,.slice t.Ay t.ty.length t.cy,.map t.mb,.slice t.Ar t.K.length t.cr,.slice m.A m.l.length m.c] 80)
 (ho:OnlyF (fun j=>j=g) w w'):StR S X w' F g (zhU (p15 f) z.quota fl x l) [] 0 { m with t:=t }∧Mv X F w X F w':=by
 have d:F g:=(h.own g).2 (.inl rfl);have k:m.l=[]:=by
  obtain ⟨u,e,_⟩:=h.head;rw [e,yaq,yay] at hz;exact List.length_eq_zero_iff.1 yab
 have n:Stay X w w':=⟨ho.le,fun b hb C=>ho.old b hb fun e=>C (e ▸ h.sub g d)⟩;refine ⟨?_,⟨⟨ho.le,fun b hb o=>ho.old b hb fun e=>o (e ▸ d),fun _ q=>.inl q,fun B D o=>⟨ho.os,ho.tape,ho.output,ho.le,fun b hb=>ho.old b (yaw hb D) fun e=>by have:=o g d;omega⟩⟩,fun _ q=>q,fun _ q=>.inl q⟩⟩;exact
  {box:=hb
   sp:=K.keep h.sp fun b q=>ho.old b (K.lt h.sp b q) fun e=>h.g0 (e ▸ q)
   row:=zau h.row fun j p=>ho.old j (h.row.lt j p).2 fun e=>Rk.apart h.box h.row yac (by rw [p,e])
   own:=h.own
   g0:=h.g0
   r0:=h.r0
   sub:=h.sub
   lt:=fun j q=>yaw (h.lt j q) ho.le
   head:=⟨_,by dsimp only;rw [k];rfl,by rw [h1];show ((p15 f).comp x).2.1=_;rw [zbh],by rw [h2];show ((p15 f).comp x).2.2=_;rw [zbh]⟩
   first:=ht.step n fun _ q=>.inl q
   each:=fun y s=>by rw [k] at s;cases s
   revs:=fun i y hi=>by rw [k] at hi;cases hi
   fl0:=h0
   most:=by rw [zcT];exact hmax
   few:=h.few
   keys:=h.keys
   len:=h.len
   fine:=h.fine }
def BegOut (S:SpW) (f:CoF) (X F:Nat→Prop) (w:World) (g:Nat) (D:Option (Sto Tb Nd15)) (n:Nat) (w':World):Prop:=∃X' F',Mv X F w X' F' w'∧∀s',D=some s'→∃L' last' m',StM S f X' w' F' g s' L' last' m'∧L'.length≤n
theorem BegOut.no {D:Option (Sto Tb Nd15)} (hD:D=none) (hM:Mv X F w X' F' w') {n:Nat}:BegOut S f X F w g D n w':=⟨X',F',hM,fun b e=>by rw [hD] at e;cases e⟩
theorem turn_d15 {F0'':Nat→Prop} {w6 w7:World} {gx:Nat} {a:ByteArray} {b c d:Value} (h:StR S X w F g z L last m) (hp:Rk w gx #[.string a,b,c,d] 61) (hb:Below w.heap.size w w6) (ho:Own14 m.F0 F0'' w6 w7) (hx:¬F gx) :
 w7.cell? ⟨gx,0,none⟩=some (.string a)∧w7.cell? ⟨gx,1,none⟩=some b∧w7.cell? ⟨gx,2,none⟩=some c∧w7.cell? ⟨gx,3,none⟩=some d∧w7.cell? ⟨g,0,none⟩=some (.pointer (some ⟨m.gs,0,none⟩)):=by
 have j:=h.box.same (hb.block _ h.box.lt);have n:=j.same (ho.old g j.lt h.g0);have k:=hp.same (hb.block _ hp.lt);have f:=k.same (ho.old gx k.lt fun q=>hx ((h.own gx).2 (.inr (.inl q))));exact ⟨f.cell 0,f.cell 1,f.cell 2,f.cell 3,n.cell 0⟩
theorem begin_any (K:SpK S) (hF:zoJ f) {fl:Nat} {x:ByteArray} {A:Option Addr} {c:Nat} {l:List ByteArray} (h:StM S f X w F g z [] 0 m) (hz:z.L.length=1) (hR:KeyX X w A c l) (hq0:0≤z.quota) (hq:z.quota≤40000) (hfl:(fl:Int)≤9223372036854775807) (hx:x.size≤1000000) (hl:l.length≤100000) (hk:∀k ∈ l,k.size≤100000) :
 Calls Tryz.prog 93 #[.pointer (some ⟨g,0,none⟩),.int .i64 fl,.string x,.slice A l.length c] w fun e w'=>e = .returned (.bool (zcU (p15 f) z.quota fl x l).isSome)∧BegOut S f X F w g (zcU (p15 f) z.quota fl x l) l.length w':=by
 obtain ⟨D,hD⟩:∃D,Hid (zcU (p15 f) z.quota fl x l=D):=⟨_,Lib.hid rfl⟩;rw [hD.out];have kc:=compile_any x hx w;have bd:∀b,X b→b<w.heap.size:=h.lt;have ao:∀b,F b→X b:=h.sub;go_enter Tryz.func93,Tryz.ntmps93
 unfold ziD at kc;go_upto_region 2 with (go_at_call 43;refine kc.mono ?_;rintro e w2 ⟨⟨tx,P,cy,ty,mb,ps,Q,cr,y,aq,rfl,hT,hC⟩,I⟩)
 have R:=hF hC;have ar:=hC.few;have au:Tm.ok X w2 ⟨tx,P,cy,ty,mb,ps,Q,cr,y⟩:=⟨hT.weak bd,ar⟩;have ad:=zaM w2 (.cells #[.string tx,.slice P ty.length cy,.map mb,.slice Q y.length cr] 61);have ae:=au.step (Stay.below ad) fun _ q=>.inl q;have U:=Rk.new w2 #[.string tx,.slice P ty.length cy,.map mb,.slice Q y.length cr] 61;have a7:=zad I I.size ad;have J:=h.up K a7;have af:¬F w2.heap.size:=fun q=>by have:=h.lt _ (h.sub _ q);have:=I.size;omega
 have bf:KeyX X w A c l:=hR;generalize w2.alloc (.cells #[.string tx,.slice P ty.length cy,.map mb,.slice Q y.length cr] 61)=w3 at *
 generalize w2.heap.size=gt at *
 clear kc hT hC I ad au;replace R:=Lib.hid R;obtain ⟨c0,c1,c2,c3,c4,c5,c6,c7⟩:=J.cs;obtain ⟨t0,t1,t2,t3⟩:=U.c4x;have tl:=U.lt;have gl:=J.box.lt;have gf:=J.box.fz;have o:D=none→∀W,Below w3.heap.size w3 W→Hid (D.isSome=false∧BegOut S f X F w g D l.length W):=fun e W hW=>Lib.hid ⟨by rw [e];rfl,BegOut.no e (Mv.below (zad a7 a7.size hW))⟩;have n:=hD.out;unfold zcU at n;rw [zbh,R.out] at n;dsimp only at n;by_cases he:aq=0
 · subst he;by_cases T:(fl:Int)=0∧x≠⟨#[]⟩
   · rw [yan (.inr (.inl T))] at n;have o:=o n.symm;have O:((fl:Int) == 0)=true:=by simpa using T.1
     have d2:x.toList.isEmpty=false:=by rw [zge];exact yaH T.2
     clear hD n T R;go_wp2_with fail
     go_ret
     have:=(o w3 (Below.refl _ _)).out;exact ⟨by rw [this.1];rfl,this.2⟩
   · have B:(((fl:Int) == 0)=false)∨(((fl:Int) == 0)=true∧x.toList.isEmpty=true):=by
      by_cases e:(fl:Int)=0
      · have ex:x=⟨#[]⟩:=Decidable.byContradiction fun q=>T ⟨e,q⟩;exact .inr ⟨by simpa using e,by rw [zge];exact yaD ex⟩
      · exact .inl (by simpa using e)
     have bm:(l.length:Int)≤9223372036854775807:=by omega
     by_cases h2:z.quota<(l.length:Int)
     · rw [yan (.inr (.inr h2))] at n;have o:=o n.symm;clear hD n T R;rcases B with O | ⟨O,d2⟩;all_goals (
        go_wp2_with fail
        go_ret
        have:=(o w3 (Below.refl _ _)).out;exact ⟨by rw [this.1];rfl,this.2⟩)
     · rw [yak (by
        rintro (a | a | a)
        · exact a rfl
        · exact T a
        · exact h2 a)] at n
       by_cases h3:0<l.length∧(fl:Int)≤(((l.length + 15) / 16:Nat):Int)
       · rw [yan h3] at n;have o:=o n.symm;have d3:(0:Int)<(l.length:Int):=by omega
         have d4:(fl:Int)≤((l.length:Int) + 16-1) / 16:=by omega
         clear hD n T R;rcases B with O | ⟨O,d2⟩;all_goals (
          go_wp2_with fail
          go_ret
          have:=(o w3 (Below.refl _ _)).out;exact ⟨by rw [this.1];rfl,this.2⟩)
       · rw [yak h3] at n;have ag:((((fl:Int) == 0)=false)∧¬(0:Int)<(l.length:Int))∨((((fl:Int) == 0)=false)∧(0:Int)<(l.length:Int)∧¬(fl:Int)≤((l.length:Int) + 16-1) / 16)∨(((fl:Int) == 0)=true∧x.toList.isEmpty=true∧¬(0:Int)<(l.length:Int)):=by
          rcases ybh l.length with e | e
          · rcases B with d | ⟨O,d2⟩
            · exact .inl ⟨d,by omega⟩
            · exact .inr (.inr ⟨O,d2,by omega⟩)
          · have hq:¬(fl:Int)≤(((l.length + 15) / 16:Nat):Int):=fun q=>h3 ⟨e,q⟩;rcases B with d | ⟨O,d2⟩
            · exact .inr (.inl ⟨d,by omega,by omega⟩)
            · have:(fl:Int)=0:=by simpa using O
              omega
         have V:0<l.length→1≤(fl:Int):=fun e=>by
          have hq:¬(fl:Int)≤(((l.length + 15) / 16:Nat):Int):=fun q=>h3 ⟨e,q⟩;omega
         replace V:=Lib.hid V;have bn:l.length≤40000:=by omega
         clear T h3 B;rcases ag with ⟨O,d2⟩ | ⟨O,d2,d3⟩ | ⟨O,d2,d3⟩;all_goals (
          go_upto_region 7 with (fail)
          clear O d2;go_upto_region 8 with (fail)
          clear c0 c1 c2 c3 c4 c5 c6 c7 t0 t1 t2 t3 tl gl gf;have ah:=((((J.box.set 3 (.string tx)).set 4 (.slice P ty.length cy)).set 5 (.map mb)).set 6 (.slice Q y.length cr)).set 2 (.int .i64 fl);simp only [boxC,yaE,yaU,yaV] at ah;have ai:=(((((OnlyF.refl (fun j=>j=g) w3).set (a:=⟨g,3,none⟩) (.inl rfl) (.string tx)).set (a:=⟨g,4,none⟩) (.inl rfl) (.slice P ty.length cy)).set (a:=⟨g,5,none⟩) (.inl rfl) (.map mb)).set (a:=⟨g,6,none⟩) (.inl rfl) (.slice Q y.length cr)).set (a:=⟨g,2,none⟩) (.inl rfl) (.int .i64 fl);generalize ((((w3.setCell ⟨g,3,none⟩ (.string tx)).setCell ⟨g,4,none⟩ (.slice P ty.length cy)).setCell ⟨g,5,none⟩ (.map mb)).setCell ⟨g,6,none⟩ (.slice Q y.length cr)).setCell ⟨g,2,none⟩ (.int .i64 fl)=w4 at *
          obtain ⟨av,aw⟩:=StR.begun (f:=f) K (x:=x) (l:=l) J.toStR hz (t:=⟨tx,P,cy,ty,mb,ps,Q,cr,y⟩) ae (by rw [R.out]) (by rw [R.out];rfl) (Int.natCast_nonneg fl) hfl ah ai;have bo:=ae.step (aw.stay J.sub) fun _ q=>.inl q;have Y:=(Mv.below a7).trans aw;have aj:=U.same (ai.old gt U.lt fun e=>af (e ▸ (J.own g).2 (.inl rfl)));obtain ⟨s0,Z⟩:∃s0,zhU (p15 f) z.quota (fl:Int) x l=s0:=⟨_,rfl⟩;rw [Z] at av;have ax:s0=⟨(fl:Int),[⟨tx,(ty,ps,y.map (·.r)),zoq l,default,false,[]⟩],z.quota⟩:=by
           rw [←Z];unfold zhU;rw [zbh,R.out]
          have ak:Hid ((if zbL (p15 f) (ty,ps,y.map (·.r)) l=0∧l.Nodup then some s0 else none)=D):=Lib.hid (by rw [ax];exact n);have C:¬(zbL (p15 f) (ty,ps,y.map (·.r)) l=0∧l.Nodup)→D=none:=fun q=>by rw [←ak.out,yak q]
          have a1:zbL (p15 f) (ty,ps,y.map (·.r)) l=0→l.Nodup→∀H last',zcn (fl:Int) ([],0) (zeT l)=(H,last')→D=some s0∧SpB H last' s0∧OkB (p15 f) s0:=fun T h2 H last' e=>by
           refine ⟨by rw [←ak.out,yan ⟨T,h2⟩],?_,?_⟩
           · rw [←Z];rcases ybh l.length with q | q
             · obtain rfl:=yaY q;obtain ⟨rfl,rfl⟩:[]=H∧0=last':=by cases e;exact ⟨rfl,rfl⟩
               exact znt (Int.natCast_nonneg fl)
             · have hT:=zhV (V.out q) h2;rw [e] at hT;exact zoT hT
           · rw [←Z];exact begS_ok (Int.natCast_nonneg fl) hq0 yab (by rw [zbh,R.out];exact T)
          replace C:=Lib.hid C;replace a1:=Lib.hid a1;clear ah ai hD n ak o ax Z R J U ae h2;go_wp2_with fail
          go_loopw [60] (fun vi wx=>∃(i:Nat) (X' F' ay:Nat→Prop) (H:List Sp) (last':Int),vi = .int .i64 i∧i≤l.length∧StR S X' wx F' g s0 H last' { m with t:=⟨tx,P,cy,ty,mb,ps,Q,cr,y⟩,F0:=ay }∧Mv X F w4 X' F' wx∧Hid (zcn (fl:Int) ([],0) (zeT (l.take i))=(H,last'))∧(l.take i).Nodup∧Hid (zbL (p15 f) (ty,ps,y.map (·.r)) (l.take i)=0)∧H.length≤i) (fun vi _=>l.length-(intOf vi).toNat)
          case atStart=>exact ⟨0,X,F,m.F0,[],0,rfl,yap _,av,Mv.below (Below.refl _ _),Lib.hid rfl,ycO,Lib.hid rfl,yaj _⟩
          case round =>
           obtain ⟨i,X',F',ay,H,last',rfl,hi,hs,hM,a8,aa,a2,az⟩:=hrel;have b0:=Y.trans hM;by_cases bg:i<l.length
           · have di:(i:Int)<(l.length:Int):=by omega
             obtain ⟨k,N⟩:∃k,l[i]? = some k:=⟨_,yal bg⟩;have b1:=hk k (yar N);obtain ⟨b3,o3,rfl,bp,g0⟩:=zhk (bf wr (b0.stay ao)) N;have b2:=aj.same (hM.own.old gt aj.lt af);have b4:¬F' gt:=fun q=>by
              rcases hM.own.grow gt q with q | q
              · exact af q
              · have:=aj.lt;omega
             have hT:=zhV (V.out yab) aa;rw [a8.out] at hT;have ab:=zoU hT (V.out yab) k;have hd:=hs.up K (zbj wr);have E:Rk wr.drew gt _ _:=b2;have kr:=fun W (hb:Below wr.drew.heap.size wr.drew W)=>Tm.right (hd.first.step (Stay.below hb) fun _ q=>.inl q) (ofT k) (zkx b1);simp only [Tm.val,zf0,Tm.tb] at kr;have ko:=fun W=>zg9 k b1 W;unfold zf0 at ko;have kp:=fun W (hb:Below wr.drew.heap.size wr.drew W)=>K.put k fl (hd.up K hb).sp hd.fine (by have:=hd.len;omega) yab;dsimp only at kp;rw [ab] at kp;have al:turn1 (fl:Int) (H,last') (k,true)=((zgm H last' k fl).getD H,if (!hasK (l.take i) k)=true then (fl:Int) else last'):=by
              rw [←ab];rfl
             have ac:=ins_snoc (fl:=fl) N;rw [a8.out] at ac;have am:zbL (p15 f) (ty,ps,y.map (·.r)) (l.take (i + 1))=0↔zaR (ty,ps,y.map (·.r)) (ofT k)=0:=by
              rw [zbZ,yaC,N,yaR,zbs,zhd];have:=zbZ.1 a2.out;rw [zbs,zhd] at this;exact ⟨fun q=>q k yaf,fun q a ha=>by
               rcases yaz.1 ha with ha | ha
               · exact this a ha
               · rw [yas.1 ha];exact q⟩
             have b5:zaR (ty,ps,y.map (·.r)) (ofT k)≠0→¬(zbL (p15 f) (ty,ps,y.map (·.r)) l=0∧l.Nodup):=fun q z=>by
              have:=zbZ.1 z.1 k (yar N);rw [zbs,zhd] at this;exact q this
             have b6:hasK (l.take i) k=true→¬(zbL (p15 f) (ty,ps,y.map (·.r)) l=0∧l.Nodup):=fun q z=>zqk N q z.2;have b7:=znM N aa;generalize ofT k=u at *
             generalize zaR (ty,ps,y.map (·.r)) u=zr at *
             generalize hasK (l.take i) k=bh at *
             have p:=fun W (hb:Below wr.drew.heap.size wr.drew W)=>(⟨(E.same (hb.block _ E.lt)).cell 0,(E.same (hb.block _ E.lt)).cell 1,(E.same (hb.block _ E.lt)).cell 2,(E.same (hb.block _ E.lt)).cell 3,(hd.up K hb).cs.1⟩:W.cell? ⟨gt,0,none⟩=some (.string tx)∧W.cell? ⟨gt,1,none⟩=some (.slice P ty.length cy)∧W.cell? ⟨gt,2,none⟩=some (.map mb)∧W.cell? ⟨gt,3,none⟩=some (.slice Q y.length cr)∧W.cell? ⟨g,0,none⟩=some (.pointer (some ⟨m.gs,0,none⟩)));obtain ⟨y0,y1,y2,y3,y4⟩:=p _ (Below.refl _ _);have tl:=b2.lt;have gl:=hs.box.lt;replace am:=Lib.hid am;replace ab:=Lib.hid ab;replace al:=Lib.hid al;replace ac:=Lib.hid ac;go_upto_region 11 with (fail)
             by_cases an:zr=0
             · subst an;go_region_held3 (fun W=>W.cell? ⟨gt,0,none⟩=some (.string tx)∧W.cell? ⟨gt,1,none⟩=some (.slice P ty.length cy)∧W.cell? ⟨gt,2,none⟩=some (.map mb)∧W.cell? ⟨gt,3,none⟩=some (.slice Q y.length cr)∧W.cell? ⟨g,0,none⟩=some (.pointer (some ⟨m.gs,0,none⟩)))
                (first | exact b8 | exact b9 | exact bb | go_keep | fail)
                ((first
                 | ((with_reducible refine (ko _).mono ?_);rintro e1 v1 ⟨rfl,G⟩;have b8:=p v1 G)
                 | ((with_reducible refine (kr _ G).mono ?_);rintro e2 v2 ⟨rfl,I⟩;have s:=zad G G.size I;have b9:=p v2 s)
                 | ((with_reducible refine (kp _ s).mono ?_);rintro e3 v3 ⟨F3,rfl,bi,ba⟩;have bb:=turn_d15 hd E s ba b4)
                 | fail))
               have bq:turn1 (fl:Int) (H,last') (k,true)=((turn1 (fl:Int) (H,last') (k,true)).1,(turn1 (fl:Int) (H,last') (k,true)).2):=rfl;obtain ⟨X7,F7,bj,bl⟩:=StR.turn1 K (hd.up K s) (r:=(fl:Int)) (x:=(k,true)) yah yab (by rw [al.out];exact bi) ba;have bc:=(hM.trans (Mv.below (zad (zbj wr) (yaj _) s))).trans bl;have br:=(zee (r:=(fl:Int)) (L:=H) (last:=last') (x:=(k,true)) hs.keys yah).2;cases bh with
               | true =>
                go_wp2_with fail
                go_ret
                have hn:=C.out (b6 yaf);exact ⟨by rw [hn];rfl,BegOut.no hn (Y.trans bc)⟩
               | false =>
                go_wp2_with fail
                exact ⟨⟨i + 1,X7,F7,F3,_,_,by go_num,by omega,bj,bc,Lib.hid (by rw [ac.out]),b7 yaf,Lib.hid (am.out.2 yaf),by omega⟩,by simp [intOf];omega⟩
             · have bs:(zr != 0)=true:=by simpa using an
               have M:=p _ (Below.refl _ _);refine wp_region_any yaa ?_;change wpAny _ _ _ _ _ _ _ (World.drew _);refine wpAny_of_held (S:=(fun W=>W.cell? ⟨gt,0,none⟩=some (.string tx)∧W.cell? ⟨gt,1,none⟩=some (.slice P ty.length cy)∧W.cell? ⟨gt,2,none⟩=some (.map mb)∧W.cell? ⟨gt,3,none⟩=some (.slice Q y.length cr)∧W.cell? ⟨g,0,none⟩=some (.pointer (some ⟨m.gs,0,none⟩)))) _ _ _ _ ?_;refine zaa 0 (some 64) M ?_ (hy:=zy5);refine zaa 1 (some 65) M ?_;refine zaP 2 rfl yaa ?_;intro Kf a6;go_simp;refine (ko _).mono ?_;rintro e1 v1 ⟨rfl,G⟩;replace M:=p v1 G;refine a6 _ _ M ?_;clear a6 Kf;refine zaP 3 rfl yaa ?_;intro Kf a6;go_simp;refine (kr _ G).mono ?_;rintro e2 v2 ⟨rfl,I⟩;have s:=zad G G.size I;replace M:=p v2 s;refine a6 _ _ M ?_;clear a6 Kf;refine zaa 4 (some 68) M ?_;refine zaa 5 (some 69) M ?_;refine zb2 6 (some 70) M ?_;refine zb2 7 (some 71) M ?_;refine zb2 8 (some 72) M ?_;refine zb2 9 (some 73) M ?_;refine zb2 10 (some 74) M ?_;refine zb2 11 (some 75) M ?_;refine zb2 12 (some 76) M ?_;refine zb2 13 (some 77) M ?_;refine zaa 14 (some 78) M ?_;refine wpAnyH_done yaa ?_ _;go_wp2_with fail
               go_ret
               have hn:=C.out (b5 an);exact ⟨by rw [hn];rfl,BegOut.no hn (Y.trans (hM.trans (Mv.below (zad (zbj wr) (yaj _) s))))⟩
           · obtain rfl:i=l.length:=by omega
             have di:¬(((l.length:Nat):Int)<(l.length:Int)):=by omega
             rw [yaA] at a8 aa a2;go_wp2_with fail
             go_ret
             obtain ⟨h5,h6,h7⟩:=a1.out a2.out aa H last' a8.out;exact ⟨by rw [h5];rfl,X',F',b0,fun s' e=>by
              obtain rfl:s0=s':=by rw [h5] at e;exact yaX e
              exact ⟨H,last',_,⟨hs,h6,h7⟩,az⟩⟩)
 · rw [yan (.inl yab)] at n;have o:=o n.symm;have O:((aq:Int) == 0)=false:=by simpa using he
   clear hD n R;go_wp2_with fail
   go_ret
   have:=(o w3 (Below.refl _ _)).out;exact ⟨by rw [this.1];rfl,this.2⟩
end
end
section
open Go.RowKit
variable {n b:Nat} {k:ByteArray} {T:ByteArray→Nat}
structure ShortA (st:RSt):Prop where
 text:(zbx (zei st).2).1≠0→(zaV (zbx (zei st).2).2).1.length≤1000000
 list:(zbx (zei st).2).1=0→∀t ∈ (zcQ (zbx (zei st).2).2 100000).1,t.length≤100000
section
variable {S:SpW} {f:CoF} {X Y F F':Nat→Prop} {w w':World} {g gr:Nat} {s:Sto Tb Nd15} {L:List Sp} {last:Int} {m:Mm}
theorem zbS (hg:w.grownBy w' (some gr)) (h:gr<w.heap.size):Below gr w w':=⟨hg.os,hg.tape,hg.output,hg.size,fun b hb=>hg.block b (ycd hb h) fun e=>by have:=yaX e;omega⟩
theorem znK (w:World) (B:Nat):Below B w w.drew:=⟨rfl,rfl,rfl,yaj _,fun _ _=>rfl⟩
theorem zri (l t:List ByteArray):(zgb t l).length=l.length:=by have:=congrArg List.length (zhA l t);rwa [yay] at this
theorem zhw:∀(k:Nat) (st:RSt),(steps k st).1.length≤k
 | 0,_=>yaj _
 | k + 1,st=>by
  have:=zhw k st;unfold steps;dsimp only;rw [yam];simp;omega
theorem zhn (st:RSt) (n:Nat):(zcQ st n).1.length≤n:=by
 unfold zcQ;split
 · exact yap _
 · split
   · exact yap _
   · split
     · exact yap _
     · exact yax (zhw _ _) yab
theorem keyT_ofT (hk:k.size≤100000):(zbu (ofT k)).size≤100000:=by
 unfold ofT;cases e:zds k with
 | none=>rw [Option.getD_none];decide +kernel
 | some t=>rw [Option.getD_some,(zj8 e).2];exact hk
theorem chgK {l t:List ByteArray} (h:∀k ∈ l,k.size≤100000):∀x ∈ (zgb t l).map fun c=>(ofT c.1,c.2),(zbu x.1).size≤100000:=by
 intro x b;obtain ⟨c,d,e⟩:=yaN.1 b;have f:x.1=ofT c.1:=by rw [←e]
 rw [f];refine keyT_ofT (h c.1 ?_);rw [←zhA l t];exact ybj d
theorem wf_nat15 (h:n≤1000000):(Lit.int .i64 (n:Int)).wf=true:=WalkArith.wf_i64 yab
theorem cnt_succ {l:List ByteArray} {i:Nat} {q:ByteArray} (h:l[i]? = some k):((l.take (i + 1)).filter fun x=>decide (x=q)).length=((l.take i).filter fun x=>decide (x=q)).length + if k=q then 1 else 0:=by
 rw [yaC,h,yaR,yb2,yam];congr 1
 by_cases e:k=q
 · simp [e]
 · simp [e]
def MapN (w:World) (b n:Nat) (T:ByteArray→Nat):Prop:=∃D:DataW Unit,w.ownsMap Tryz.prog 9 (plainElem Tryz.prog 3) b n D∧∀k:ByteArray,k.size≤maxLen→D.atKey (kB k) (.lit (.int .i64 0)) = .lit (.int .i64 (T k))
theorem MapN.kept {row:Option Nat} (h:MapN w b n T) (hg:w.grownBy w' row) (hne:some b≠row):MapN w' b n T:=by
 obtain ⟨D,d,f⟩:=h;exact ⟨D,d.kept hg hne,f⟩
theorem MapN.below (h:MapN w b n T) (hb:Below w.heap.size w w'):MapN w' b n T:=h.kept (row:=none) ⟨hb.os,hb.tape,hb.output,hb.size,fun k hk _=>hb.block k hk⟩ yaf
theorem MapN.lookup (h:MapN w b n T) (hk:k.size≤maxLen):(Instr.lookup 252 (.map (some b)) (.string k) false).run Tryz.prog w = .ok (.int .i64 (T k)) w:=by
 obtain ⟨D,f,g⟩:=h;obtain ⟨c,j,d,_⟩:=f.lookup_int (t:=252) zbv Tryz.underlying252 Tryz.underlying3 (Tryz.zeroValue3 w) (zgY hk);rw [g k hk] at d;simp only [DataW.lit.injEq,Lit.int.injEq,true_and] at d;rw [d];exact j
theorem MapN.made (w:World):MapN (w.alloc (.map #[] 0)) w.heap.size 0 fun _=>0:=⟨.map [],World.ownsMap_made w _ _ _,fun _ _=>rfl⟩
def AgOut (S:SpW) (f:CoF) (gr:Nat) (w:World) (g:Nat) (s':Sto Tb Nd15) (st':RSt) (n:Nat) (w':World):Prop:=∃X F L last m,StX S f gr w' g s' st' n X F L last m∧Below gr w w'
theorem again_any (K:SpK S) (hF:zoJ f) {st:RSt} (h:StX S f gr w g s st n X F L last m) (hsh:ShortA st) (hmax:revB s + 1≤9223372036854775807) (hn:n + 16≤50000) :
 Calls Tryz.prog 96 #[.pointer (some ⟨g,0,none⟩),.pointer (some ⟨gr,0,none⟩)] w fun e w'=>e = .returned (.bool (zbp (p15 f) s st).1)∧AgOut S f gr w g (zbp (p15 f) s st).2.1 (zbp (p15 f) s st).2.2 (n + 16) w':=by
 obtain ⟨D,H⟩:∃D,zbp (p15 f) s st=D:=⟨_,rfl⟩;have d:=hsh.text;have o:=hsh.list;unfold zbp zei zgw at H;unfold zei at d o;have b8:=H;unfold zbp zei zgw;rw [b8];clear b8 hsh;dsimp only at H d o;obtain ⟨⟨t1,s1⟩,e1⟩:∃q,zaV st=q:=⟨_,rfl⟩;have k1:=text_any gr st w h.rd;rw [e1] at H d o k1;dsimp only at H d o k1;obtain ⟨⟨t2,s2⟩,e2⟩:∃q,zaV s1=q:=⟨_,rfl⟩;have k2:=fun W hr=>text_any gr s1 W hr;rw [e2] at H d o;simp only [e2] at k2;dsimp only at H d o;obtain ⟨⟨t3,s3⟩,e3⟩:∃q,zaV s2=q:=⟨_,rfl⟩;have k3:=fun W hr=>text_any gr s2 W hr;rw [e3] at H d o;simp only [e3] at k3;dsimp only at H d o;obtain ⟨⟨kk,s4⟩,e4⟩:∃q,zbx s3=q:=⟨_,rfl⟩;have k4:=fun W hr=>num_any gr s3 W hr;rw [e4] at H d o;simp only [e4] at k4;dsimp only at H d o;clear e1 e2 e3 e4;generalize strOf t1=b1 at *
 generalize strOf t2=b2 at *
 generalize strOf t3=b3 at *
 replace H:=Lib.hid H;go_enter Tryz.func96,Tryz.ntmps96
 go_upto_region 2 with (first
  | (with_reducible refine k1.mono ?_;rintro e w1 ⟨rfl,ai,aj⟩;have h1:=h.read K aj ai)
  | (with_reducible refine (k2 _ ai).mono ?_;rintro e w2 ⟨rfl,ak,al⟩;have h2:=h1.read K al ak)
  | (with_reducible refine (k3 _ ak).mono ?_;rintro e w3 ⟨rfl,b9,am⟩;have h3:=h2.read K am b9)
  | fail)
 have ca:=h.rd.lt;have I:=((zbS aj ca).trans (zbS al h1.rd.lt)).trans (zbS am h2.rd.lt);have hy:=Rk.new w3 #[.string b1,.string b2,.string b3] 31;have an:=zaM w3 (.cells #[.string b1,.string b2,.string b3] 31);have h4:=h3.up K an;have ba:=I.trans (an.mono (ya2 h3.rd.lt));have cb:¬F w3.heap.size:=fun q=>by have:=h3.sto.lt _ (h3.sto.sub _ q);omega
 generalize w3.alloc (.cells #[.string b1,.string b2,.string b3] 31)=w4 at *
 have ao:w3.heap.size≠gr:=by have:=h3.rd.lt;omega
 generalize w3.heap.size=gy at *
 clear k1 k2 k3 ai ak b9 aj al am h1 h2 h3 I an;go_upto_region 3 with (fail)
 with_reducible refine (k4 _ h4.rd).mono ?_
 rintro e R ⟨rfl,bb,J⟩;have T:=h4.read K J bb;have aq:=hy.same (J.block _ hy.lt fun e=>ao (yaX e));have ar:=ba.trans (zbS J h4.rd.lt);clear k4 hy h4 bb J ba;by_cases M:kk=0
 · have cc:((kk:Int) == 0)=true:=by simpa using M
   have y:=H.out;rw [yak (fun q=>q M)] at y;have a1:=o M;obtain ⟨⟨l0,s5⟩,e5⟩:∃q,zcQ s4 100000=q:=⟨_,rfl⟩;have k6:=fun W hr=>list_any gr s4 100000 yac yac W hr;have ae:(100000:Int).toNat=100000:=rfl;simp only [ae,e5] at k6;have U:=zhn s4 100000;rw [e5] at y a1 U;dsimp only at a1 U;unfold zjJ chgL at y;dsimp only at y;rw [zhd] at y;obtain ⟨ls,V⟩:∃ls,l0.map strOf=ls:=⟨_,rfl⟩;have bc:∀k ∈ ls,k.size≤100000:=fun k hk=>by
    rw [←V] at hk;obtain ⟨q,hq,rfl⟩:=yaN.1 hk;rw [zc9];exact a1 q hq
   have bd:tv l0=ks ls:=by rw [←V];unfold tv ks;rw [ybn];rfl
   have au:l0.length=ls.length:=by rw [←V,yay]
   rw [V] at y;rw [au] at U;simp only [bd,au] at k6;obtain ⟨C,hC⟩:∃C,((zgb (zai s).keys ls).map fun c=>(ofT c.1,c.2))=C:=⟨_,rfl⟩;rw [hC] at y;have bf:C.length=ls.length:=by rw [←hC,yay,←zri ls (zai s).keys]
   have Y:∀(i:Nat) k,ls[i]? = some k→C[i]? = some (ofT k,!(hasK (zai s).keys k != oddL (ls.take i) k)):=fun i k hk=>by
    rw [←hC,ya0,zni hk];rfl
   have bg:=chgK (t:=(zai s).keys) bc;rw [hC] at bg;replace y:=Lib.hid y;clear H d o a1 e5 bd au V hC M ae;have cd:=@run_makeMap Tryz.prog;go_upto_region 6 with (fail)
   clear cd;have av:=MapN.made R;have aw:=zaM R (.map #[] 0);have h6:=T.up K aw;have N:=aq.alloc (.map #[] 0);have a2:(R.alloc (.map #[] 0)).heap.size=R.heap.size + 1:=by simp
   have ce:=T.rd.lt;have cf:=aq.lt;generalize R.alloc (.map #[] 0)=w6 at *
   obtain ⟨bm,a6⟩:∃bm,R.heap.size=bm:=⟨_,rfl⟩;rw [a6] at av a2 ce cf ⊢;have d7:=Nat.le_of_eq a6;have d8:=Nat.le_of_eq a6.symm;have d9:=Nat.le_of_eq a2;have da:=Nat.le_of_eq a2.symm;clear a6 a2;have k7:=k6 _ h6.rd;clear k6;generalize hP:ls.length=nl at *
   replace hP:=Lib.hid hP;go_upto_region 7 with ((with_reducible refine k7.mono ?_);rintro e w7 ⟨v7,rfl,a7,cg,P⟩;obtain ⟨A7,c7,rfl,_⟩:=Rd.own a7)
   have Z:=av.kept P (fun e=>by have:=yaX e;omega);have bh:=N.same (P.block _ N.lt fun e=>ao (yaX e));have bi:∀b,b<R.heap.size→b≠gr→w7.heap[b]? = R.heap[b]?:=fun b hb ax=>(P.block b yab fun e=>ax (yaX e)).trans (aw.block b hb);have ch:=(ar.trans (aw.mono yab)).trans (zbS P h6.rd.lt);have bj:=P.size;have c8:(nl:Int)≤9223372036854775807:=by omega
   clear k7 av P N ar;go_loopw [7,33] (fun vo vi wx=>∃i:Nat,vi = .int .i64 i∧i≤nl∧wx.ownsRow w7.heap.size 54 7 vo i ((C.take i).flatMap zco)∧MapN wx bm i (fun k=>((ls.take i).filter fun x=>decide (x=k)).length)∧OnlyF (fun b=>b=bm) w7 wx) (fun _ vi _=>nl-(intOf vi).toNat)
   case atStart=>exact ⟨0,rfl,yap _,World.ownsRow_nil _ _ _ _,Z,OnlyF.refl _ _⟩
   case round =>
    obtain ⟨i,rfl,hi,hO,hM,A⟩:=hrel;have db:=A.le;have B:=T.sto.off K (w':=wr) yab (fun b hb ax=>(A.old b yab yab).trans (bi b hb ax)) T.inX T.notF;by_cases de:i<nl
    · have di:(i:Int)<(nl:Int):=by omega
      have df:(0:Int)≤(i:Int):=by omega
      obtain ⟨k,hk⟩:∃k,ls[i]? = some k:=⟨_,yal (by have:=hP.out;omega)⟩;have ci:=bc k (yar hk);have af:=zau a7 fun j hj=>A.old j (a7.lt j hj).2 (show j≠bm from by have:=(a7.lt j hj).1;omega);have ay:=zqx af;have az:=hP.out;rw [←az] at ay;obtain ⟨bq,oq,rfl,_,g0⟩:=zhk ay hk;have a8:=Y i k hk;obtain ⟨A5,c5,rfl,_⟩:=Rd.own hO;have hd:=B.up K (zbj wr);have bl:=hM.below (zbj wr);have k1:=zcP hd.toStR;have bn:s.floor≤revB s:=by have:=B.rev_eq;omega
      have ht:=B.spb.tell (revB s) bn (ybp _) k;rw [za5 B.ok.has] at ht;have kx:k.size≤maxLen:=by simp only [maxLen];omega
      have k2:=fun W (hb:Below wr.drew.heap.size wr.drew W)=>K.has k (revB s) (hd.up K hb).sp B.spb.fine (by have:=B.len;omega) kx;rw [ht] at k2;obtain ⟨c,hc⟩:∃c,((ls.take i).filter fun x=>decide (x=k)).length=c:=⟨_,rfl⟩;have dg:c≤100000:=by
       rw [←hc];exact yax (ybf _ _) (yax (ycJ _ _) yab)
      have G:=fun W (hb:Below wr.drew.heap.size wr.drew W)=>(⟨(hd.up K hb).cs.1,by rw [←hc];exact (bl.below hb).lookup kx⟩:W.cell? ⟨g,0,none⟩=some (.pointer (some ⟨m.gs,0,none⟩))∧(Instr.lookup 252 (.map (some bm)) (.string k) false).run Tryz.prog W = .ok (.int .i64 c) W);obtain ⟨x0,x1⟩:=G _ (Below.refl _ _);have lt:=B.box.lt;have hz:(!(hasK (zai s).keys k != oddL (ls.take i) k))=(!(hasK (zai s).keys k != decide (c % 2=1))):=by unfold oddL;rw [hc]
      rw [hz] at a8;obtain ⟨aa,bo⟩:∃h0,hasK (zai s).keys k=h0:=⟨_,rfl⟩;rw [bo] at k2 a8;clear hz ht bo bn ay af;replace az:=Lib.hid az;obtain ⟨D7,dh,dc⟩:=id hM;have bp:∀z,C[i]? = some (ofT k,z)→(C.take (i + 1)).flatMap zco=(C.take i).flatMap zco ++ zco (ofT k,z):=fun z hz=>by rw [yaC,hz];simp
      have O:=bp _ a8;have ko:=fun W=>zg9 k ci W;unfold zf0 at ko;clear a8 bp Y;obtain ⟨i0,cj,cl,cm,cn⟩:=info_parts zps;go_upto_region 9 with (fail)
      go_region_held3 (fun W=>W.cell? ⟨g,0,none⟩=some (.pointer (some ⟨m.gs,0,none⟩))∧(Instr.lookup 252 (.map (some bm)) (.string k) false).run Tryz.prog W = .ok (.int .i64 c) W)
       (first | exact ag | exact ah | go_keep | fail)
       ((first
        | ((with_reducible refine k1.mono ?_);rintro e1 v1 ⟨rfl,Q⟩;have ag:=G v1 Q)
        | ((with_reducible refine (k2 _ Q).mono ?_);rintro e2 v2 ⟨rfl,br⟩;have ah:=G v2 (zad Q Q.size br))
        | fail))
      all_goals (
       have bs:=zad (zad (zbj wr) (yaj _) Q) (zad (zbj wr) (yaj _) Q).size br;clear k1 k2 G x0 x1 ag ah hd bl lt;go_upto_region 10 with (fail)
       have bu:(!(aa != decide (c % 2=1)))=(aa == ((c:Int) % 2 == 1)):=by
        have:((c:Int) % 2 == 1)=decide (c % 2=1):=by
         by_cases q:c % 2=1
         · rw [yaD q];exact ybS.2 yab
         · rw [yaH q];exact ybc.2 yab
        rw [this];cases aa <;> cases decide (c % 2=1) <;> rfl
       rw [bu] at O;clear bu;obtain ⟨zz,bw⟩:∃zz,(aa == ((c:Int) % 2 == 1))=zz:=⟨_,rfl⟩;rw [bw] at O;generalize ofT k=u at *
       go_upto_region 11 with (first
        | (go_at_call 57;refine (ko v2).mono ?_;rintro e v3 ⟨rfl,cp⟩;have I:=zad bs bs.size cp;have cq:=zau hO fun j hj=>I.block j (hO.lt j hj).2)
        | (at_builtin;go_loud (refine zab _ rfl (.tmp 51) (.tmp 57) 33 33 rfl w7.heap.size 54 i0 _ 7 104 Tryz.underlying33 cj cl cm cn rfl yac (.slice A5 i c5) i _ rfl (cq.alloc _) _ 1 (zco (u,zz)) rfl (Src.ofSlice _ Tryz.underlying33 _ 1 1 _ rfl (cells_at _ #[.string u.1.1,.string u.1.2.1,.string u.1.2.2,.string u.2.1,.string u.2.2.1,.string u.2.2.2,.bool zz] _ _ yaf) (by simp [zco,Value.oneCell'])) yad yab (by have:=I.size;simp;omega) ?_;intro v9 v4 b0 bx dd))
        | fail)
       obtain ⟨A4,c4,rfl,_⟩:=Rd.own b0;have b4:v4.ownsRow w7.heap.size 54 7 (.slice A4 (i + 1) c4) (i + 1) ((C.take (i + 1)).flatMap zco):=by rw [O];exact b0
       have dj:w7.heap.size≤wr.heap.size:=A.le;have ct:=((A.below I).below (zaM v3 (.cells #[.string u.1.1,.string u.1.2.1,.string u.1.2.2,.string u.2.1,.string u.2.2.1,.string u.2.2.2,.bool zz] 54))).grown bx fun r e=>.inr (hO.lt r e).1;have cu:(Value.slice A5 i c5).ownBlock≠some bm:=fun e=>by have:=(hO.lt bm e).1;omega
       have bz:=((hM.below I).kept (World.grownBy_alloc v3 (.cells #[.string u.1.1,.string u.1.2.1,.string u.1.2.2,.string u.2.1,.string u.2.2.1,.string u.2.2.2,.bool zz] 54) none) yaf).kept bx (Ne.symm cu);have cv:=bz.lookup kx;rw [hc] at cv;obtain ⟨D4,c0,b5⟩:=bz;have ew:IntKind.i64.wrap ((c:Int) + 1)=((c + 1:Nat):Int):=by rw [show (c:Int) + 1=((c + 1:Nat):Int) by omega];exact IntWalk.i64_in _ ⟨by omega,by omega⟩
       clear bw O b0 Z;go_wp2_with (at_mapUpdate;go_loud (refine wpList_mapUpdate_own _ rfl _ _ _ 252 rfl 9 3 zbv Tryz.underlying252 _ bm i D4 rfl c0 yad _ _ _ rfl rfl (zgY kx) _ [] (plainElem_int Tryz.underlying3 (wf_nat15 (n:=c + 1) yab)) ?_;intro v5 cw J))
       refine ⟨⟨i + 1,by go_num,by omega,zau b4 fun j hj=>J.block j (b4.lt j hj).2 fun e=>by have:=(b4.lt j hj).1;have:=yaX e;omega,⟨_,cw,fun q hq=>?_⟩,ct.grown J fun r e=>.inl (yaX e).symm⟩,by simp [intOf];omega⟩;have ab:=cnt_succ (q:=q) hk;show _=DataW.lit (Lit.int .i64 ((((ls.take (i + 1)).filter fun x=>decide (x=q)).length:Nat):Int));by_cases eq:q=k
       · subst eq;rw [yan rfl,hc] at ab;rw [ab,Maps.atKey_put_same c0.isMap (by trivial)];rfl
       · rw [yak (fun e=>eq e.symm)] at ab;rw [ab,Maps.atKey_put_other (fun e=>eq (zpE e))];exact b5 q hq)
    · obtain rfl:i=nl:=by omega
      have di:¬(((i:Nat):Int)<(i:Int)):=by omega
      have c1:Below (gr + 1) w7 wr:=⟨A.os,A.tape,A.output,A.le,fun b hb=>A.old b yab yab⟩;have cx:StX S f gr wr g s s5 n X F L last m:=⟨B,cg.below c1 (ycs _),T.inX,T.ahead,T.len⟩;have c2:=bh.same (A.old _ bh.lt yab);obtain ⟨y0,y1,y2⟩:=c2.c3y;have yl:=c2.lt;rw [ybi (by omega)] at hO;obtain ⟨A9,c9,rfl,b6⟩:=Rd.own hO;rw [←bf] at b6;have kw:=write_any K B (p:=[]) b1 b2 b3 (Rd.none_ wr _ 7) b6 (fun _ q=>absurd q yaf) bg hmax (by have:=T.len;omega);rw [bf] at kw;simp only [yaI] at kw;obtain ⟨E,hE⟩:∃E,zaA (p15 f) s (b1,b2,b3) [] C=E:=⟨_,rfl⟩;have ac:=y.out;rw [hE] at kw ac;replace ac:=Lib.hid ac;clear hE y Y hO hM b6;go_wp2_with (go_at_call 12;refine kw.mono ?_;rintro e dk ⟨rfl,c3⟩)
      go_ret
      obtain ⟨X9,F9,L9,l9,m9,cz,d0,dl⟩:=c3;obtain ⟨d1,c6⟩:=cx.moved cz d0 (n':=n + 16) (by have:=T.len;omega);rw [←ac.out];exact ⟨by simp [Bool.beq_eq_decide_eq],X9,F9,_,_,_,d1,(ch.trans (c1.mono (ya8 _))).trans (c6.mono (ya8 _))⟩
 · have cc:((kk:Int) == 0)=false:=by simpa using M
   have y:=H.out;rw [yan M] at y;have hx:=d M;have hd:=T.up K (zbj R);obtain ⟨⟨t5,s5⟩,e5⟩:∃q,zaV s4=q:=⟨_,rfl⟩;have k5:=text_any gr s4 R.drew hd.rd;rw [e5] at y hx k5;dsimp only at hx k5;have d2:(strOf t5).size≤1000000:=by rw [zc9];exact hx
   unfold zjI at y;dsimp only at y;generalize strOf t5=x5 at *
   replace y:=Lib.hid y;have ad:Rk R.drew gy _ _:=aq;obtain ⟨y0,y1,y2⟩:=ad.c3y;have yl:=ad.lt;clear d o H hx e5;go_upto_region 3 with (fail)
   go_region_held3 (fun W=>W.cell? ⟨gy,0,none⟩=some (.string b1)∧W.cell? ⟨gy,1,none⟩=some (.string b2)∧W.cell? ⟨gy,2,none⟩=some (.string b3))
    (first | exact d5 | exact d4 | go_keep | fail)
    ((first
     | ((with_reducible refine k5.mono ?_);rintro e6 w6 ⟨rfl,d3,b7⟩;have h6:=hd.read K b7 d3;have N:=ad.same (b7.block _ ad.lt fun e=>ao (yaX e));have d4:=N.c3y;have kd:=define_any K hF h6.sto b1 b2 b3 x5 d2 hmax)
     | ((with_reducible refine kd.mono ?_);rintro e7 w7 ⟨rfl,X7,F7,m7,bj,Z⟩;have d5:=(N.same (Z.own.old _ N.lt cb)).c3y)
     | fail))
   go_wp2_with fail
   go_ret
   obtain ⟨h7,d6⟩:=h6.moved bj Z (yax h6.len (Nat.le_add_right n 16));rw [←y.out];exact ⟨by simp [Bool.beq_eq_decide_eq],X7,F7,_,_,_,h7,((ar.trans (znK R gr)).trans (zbS b7 hd.rd.lt)).trans (d6.mono (ya8 _))⟩
end
end
end Go.Proofs.YtmblgnddgmfkhaaGreat
