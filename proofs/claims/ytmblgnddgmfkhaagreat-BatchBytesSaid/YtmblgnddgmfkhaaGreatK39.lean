import Derived.Test.YtmblgnddgmfkhaaGreatK38
set_option maxRecDepth 100000
set_option maxHeartbeats 4000000
namespace Go.Proofs.YtmblgnddgmfkhaaGreat
section
open Go.RowKit
variable {z:Sto Tb Nd15}
section
variable {S:SpW} {f:CoF} {X X' Y F F':Nat→Prop} {w w':World} {g gr:Nat} {L:List Sp} {last:Int} {m:Mm}
theorem StR.begun (K:SpK S) {fl:Int} {x:ByteArray} {l:List ByteArray} (h:StR S X w F g z [] 0 m) (hz:z.L.length=1) {t:Tm} (ht:t.ok X w) (h1:t.tx=(f x).2.1) (h2:t.tb=(f x).2.2) (h0:0≤fl) (hmax:fl≤9223372036854775807)
 (hb:Rk w' g #[.pointer (some ⟨m.gs,0,none⟩),.int .i64 z.quota,.int .i64 fl,.string t.tx,.slice t.Ay t.ty.length t.cy,.map t.mb,.slice t.Ar t.K.length t.cr,.slice m.A m.l.length m.c] 80)
 (ho:OnlyF (fun j=>j=g) w w'):StR S X w' F g (ziz (p15 f) z.quota fl x l) [] 0 { m with t:=t }∧Mv X F w X F w':=by
 have k:F g:=(h.own g).2 (.inl rfl);have n:m.l=[]:=by
  obtain ⟨u,e,_⟩:=h.head;rw [e,yat,yax] at hz;exact List.length_eq_zero_iff.1 yab
 have o:Stay X w w':=⟨ho.le,fun b hb E=>ho.old b hb fun e=>E (e ▸ h.sub g k)⟩;refine ⟨?_,⟨⟨ho.le,fun b hb s=>ho.old b hb fun e=>s (e ▸ k),fun _ q=>.inl q,fun B G s=>⟨ho.os,ho.tape,ho.output,ho.le,fun b hb=>ho.old b (yas hb G) fun e=>by have:=s g k;omega⟩⟩,fun _ q=>q,fun _ q=>.inl q⟩⟩;exact
  {box:=hb
   sp:=K.keep h.sp fun b q=>ho.old b (K.lt h.sp b q) fun e=>h.g0 (e ▸ q)
   row:=zau h.row fun j C=>ho.old j (h.row.lt j C).2 fun e=>Rk.apart h.box h.row yac (by rw [C,e])
   own:=h.own
   g0:=h.g0
   r0:=h.r0
   sub:=h.sub
   lt:=fun j q=>yas (h.lt j q) ho.le
   head:=⟨_,by dsimp only;rw [n];rfl,by rw [h1];show ((p15 f).comp x).2.1=_;rw [zbh],by rw [h2];show ((p15 f).comp x).2.2=_;rw [zbh]⟩
   first:=ht.step o fun _ q=>.inl q
   each:=fun y D=>by rw [n] at D;cases D
   revs:=fun i y hi=>by rw [n] at hi;cases hi
   fl0:=h0
   most:=by rw [zc9];exact hmax
   few:=h.few
   keys:=h.keys
   len:=h.len
   fine:=h.fine }
def BegOut (S:SpW) (f:CoF) (X F:Nat→Prop) (w:World) (g:Nat) (D:Option (Sto Tb Nd15)) (n:Nat) (w':World):Prop:=∃X' F',Mv X F w X' F' w'∧∀s',D=some s'→∃L' last' m',StM S f X' w' F' g s' L' last' m'∧L'.length≤n
theorem BegOut.no {D:Option (Sto Tb Nd15)} (hD:D=none) (hM:Mv X F w X' F' w') {n:Nat}:BegOut S f X F w g D n w':=⟨X',F',hM,fun b e=>by rw [hD] at e;cases e⟩
theorem turn_d15 {F0'':Nat→Prop} {w6 w7:World} {gx:Nat} {a:ByteArray} {b c d:Value} (h:StR S X w F g z L last m) (hp:Rk w gx #[.string a,b,c,d] 61) (hb:Below w.heap.size w w6) (ho:Own14 m.F0 F0'' w6 w7) (hx:¬F gx) :
 w7.cell? ⟨gx,0,none⟩=some (.string a)∧w7.cell? ⟨gx,1,none⟩=some b∧w7.cell? ⟨gx,2,none⟩=some c∧w7.cell? ⟨gx,3,none⟩=some d∧w7.cell? ⟨g,0,none⟩=some (.pointer (some ⟨m.gs,0,none⟩)):=by
 have j:=h.box.same (hb.block _ h.box.lt);have n:=j.same (ho.old g j.lt h.g0);have k:=hp.same (hb.block _ hp.lt);have f:=k.same (ho.old gx k.lt fun q=>hx ((h.own gx).2 (.inr (.inl q))));exact ⟨f.cell 0,f.cell 1,f.cell 2,f.cell 3,n.cell 0⟩
theorem begin_any (K:SpK S) (hF:zpv f) {fl:Nat} {x:ByteArray} {A:Option Addr} {c:Nat} {l:List ByteArray} (h:StM S f X w F g z [] 0 m) (hz:z.L.length=1) (hR:KeyX X w A c l) (hq0:0≤z.quota) (hq:z.quota≤40000) (hfl:(fl:Int)≤9223372036854775807) (hx:x.size≤1000000) (hl:l.length≤100000) (hk:∀k ∈ l,k.size≤100000) :
 Calls Tryz.prog 93 #[.pointer (some ⟨g,0,none⟩),.int .i64 fl,.string x,.slice A l.length c] w fun e w'=>e = .returned (.bool (zda (p15 f) z.quota fl x l).isSome)∧BegOut S f X F w g (zda (p15 f) z.quota fl x l) l.length w':=by
 obtain ⟨D,hD⟩:∃D,Hid (zda (p15 f) z.quota fl x l=D):=⟨_,Lib.hid rfl⟩;rw [hD.out];have kc:=compile_any x hx w;have bf:∀b,X b→b<w.heap.size:=h.lt;have aq:∀b,F b→X b:=h.sub;go_enter Tryz.func93,Tryz.ntmps93
 unfold zjh at kc;go_upto_region 2 with (go_at_call 43;refine kc.mono ?_;rintro e w2 ⟨⟨tx,Q,cy,ty,mb,ps,R,cr,B,ar,rfl,hT,hC⟩,J⟩)
 have T:=hF hC;have au:=hC.few;have av:Tm.ok X w2 ⟨tx,Q,cy,ty,mb,ps,R,cr,B⟩:=⟨hT.weak bf,au⟩;have ae:=zaI w2 (.cells #[.string tx,.slice Q ty.length cy,.map mb,.slice R B.length cr] 61);have af:=av.step (Stay.below ae) fun _ q=>.inl q;have V:=Rk.new w2 #[.string tx,.slice Q ty.length cy,.map mb,.slice R B.length cr] 61;have a8:=zac J J.size ae;have M:=h.up K a8;have ag:¬F w2.heap.size:=fun q=>by have:=h.lt _ (h.sub _ q);have:=J.size;omega
 have bg:KeyX X w A c l:=hR;generalize w2.alloc (.cells #[.string tx,.slice Q ty.length cy,.map mb,.slice R B.length cr] 61)=w3 at *
 generalize w2.heap.size=gt at *
 clear kc hT hC J ae av;replace T:=Lib.hid T;obtain ⟨c0,c1,c2,c3,c4,c5,c6,c7⟩:=M.cs;obtain ⟨t0,t1,t2,t3⟩:=V.c4x;have tl:=V.lt;have gl:=M.box.lt;have gf:=M.box.fz;have o:D=none→∀W,Below w3.heap.size w3 W→Hid (D.isSome=false∧BegOut S f X F w g D l.length W):=fun e W hW=>Lib.hid ⟨by rw [e];rfl,BegOut.no e (Mv.below (zac a8 a8.size hW))⟩;have n:=hD.out;unfold zda at n;rw [zbh,T.out] at n;dsimp only at n;by_cases he:ar=0
 · subst he;by_cases U:(fl:Int)=0∧x≠⟨#[]⟩
   · rw [yan (.inr (.inl U))] at n;have o:=o n.symm;have P:((fl:Int) == 0)=true:=by simpa using U.1
     have d2:x.toList.isEmpty=false:=by rw [zgK];exact yaF U.2
     clear hD n U T;go_wp2_with fail
     go_ret
     have:=(o w3 (Below.refl _ _)).out;exact ⟨by rw [this.1];rfl,this.2⟩
   · have C:(((fl:Int) == 0)=false)∨(((fl:Int) == 0)=true∧x.toList.isEmpty=true):=by
      by_cases e:(fl:Int)=0
      · have ex:x=⟨#[]⟩:=Decidable.byContradiction fun q=>U ⟨e,q⟩;exact .inr ⟨by simpa using e,by rw [zgK];exact yaB ex⟩
      · exact .inl (by simpa using e)
     have bn:(l.length:Int)≤9223372036854775807:=by omega
     by_cases h2:z.quota<(l.length:Int)
     · rw [yan (.inr (.inr h2))] at n;have o:=o n.symm;clear hD n U T;rcases C with P | ⟨P,d2⟩;all_goals (
        go_wp2_with fail
        go_ret
        have:=(o w3 (Below.refl _ _)).out;exact ⟨by rw [this.1];rfl,this.2⟩)
     · rw [yak (by
        rintro (a | a | a)
        · exact a rfl
        · exact U a
        · exact h2 a)] at n
       by_cases h3:0<l.length∧(fl:Int)≤(((l.length + 15) / 16:Nat):Int)
       · rw [yan h3] at n;have o:=o n.symm;have d3:(0:Int)<(l.length:Int):=by omega
         have d4:(fl:Int)≤((l.length:Int) + 16-1) / 16:=by omega
         clear hD n U T;rcases C with P | ⟨P,d2⟩;all_goals (
          go_wp2_with fail
          go_ret
          have:=(o w3 (Below.refl _ _)).out;exact ⟨by rw [this.1];rfl,this.2⟩)
       · rw [yak h3] at n;have ah:((((fl:Int) == 0)=false)∧¬(0:Int)<(l.length:Int))∨((((fl:Int) == 0)=false)∧(0:Int)<(l.length:Int)∧¬(fl:Int)≤((l.length:Int) + 16-1) / 16)∨(((fl:Int) == 0)=true∧x.toList.isEmpty=true∧¬(0:Int)<(l.length:Int)):=by
          rcases ybg l.length with e | e
          · rcases C with d | ⟨P,d2⟩
            · exact .inl ⟨d,by omega⟩
            · exact .inr (.inr ⟨P,d2,by omega⟩)
          · have hq:¬(fl:Int)≤(((l.length + 15) / 16:Nat):Int):=fun q=>h3 ⟨e,q⟩;rcases C with d | ⟨P,d2⟩
            · exact .inr (.inl ⟨d,by omega,by omega⟩)
            · have:(fl:Int)=0:=by simpa using P
              omega
         have Y:0<l.length→1≤(fl:Int):=fun e=>by
          have hq:¬(fl:Int)≤(((l.length + 15) / 16:Nat):Int):=fun q=>h3 ⟨e,q⟩;omega
         replace Y:=Lib.hid Y;have bo:l.length≤40000:=by omega
         clear U h3 C;rcases ah with ⟨P,d2⟩ | ⟨P,d2,d3⟩ | ⟨P,d2,d3⟩;all_goals (
          go_upto_region 7 with (fail)
          clear P d2;go_upto_region 8 with (fail)
          clear c0 c1 c2 c3 c4 c5 c6 c7 t0 t1 t2 t3 tl gl gf;have ai:=((((M.box.set 3 (.string tx)).set 4 (.slice Q ty.length cy)).set 5 (.map mb)).set 6 (.slice R B.length cr)).set 2 (.int .i64 fl);simp only [boxC,yaG,yaV,yaW] at ai;have aj:=(((((OnlyF.refl (fun j=>j=g) w3).set (a:=⟨g,3,none⟩) (.inl rfl) (.string tx)).set (a:=⟨g,4,none⟩) (.inl rfl) (.slice Q ty.length cy)).set (a:=⟨g,5,none⟩) (.inl rfl) (.map mb)).set (a:=⟨g,6,none⟩) (.inl rfl) (.slice R B.length cr)).set (a:=⟨g,2,none⟩) (.inl rfl) (.int .i64 fl);generalize ((((w3.setCell ⟨g,3,none⟩ (.string tx)).setCell ⟨g,4,none⟩ (.slice Q ty.length cy)).setCell ⟨g,5,none⟩ (.map mb)).setCell ⟨g,6,none⟩ (.slice R B.length cr)).setCell ⟨g,2,none⟩ (.int .i64 fl)=w4 at *
          obtain ⟨aw,ax⟩:=StR.begun (f:=f) K (x:=x) (l:=l) M.toStR hz (t:=⟨tx,Q,cy,ty,mb,ps,R,cr,B⟩) af (by rw [T.out]) (by rw [T.out];rfl) (Int.natCast_nonneg fl) hfl ai aj;have bp:=af.step (ax.stay M.sub) fun _ q=>.inl q;have Z:=(Mv.below a8).trans ax;have ak:=V.same (aj.old gt V.lt fun e=>ag (e ▸ (M.own g).2 (.inl rfl)));obtain ⟨s0,a1⟩:∃s0,ziz (p15 f) z.quota (fl:Int) x l=s0:=⟨_,rfl⟩;rw [a1] at aw;have ay:s0=⟨(fl:Int),[⟨tx,(ty,ps,B.map (·.r)),zpc l,default,false,[]⟩],z.quota⟩:=by
           rw [←a1];unfold ziz;rw [zbh,T.out]
          have al:Hid ((if zbW (p15 f) (ty,ps,B.map (·.r)) l=0∧l.Nodup then some s0 else none)=D):=Lib.hid (by rw [ay];exact n);have E:¬(zbW (p15 f) (ty,ps,B.map (·.r)) l=0∧l.Nodup)→D=none:=fun q=>by rw [←al.out,yak q]
          have a2:zbW (p15 f) (ty,ps,B.map (·.r)) l=0→l.Nodup→∀I last',zcE (fl:Int) ([],0) (zfq l)=(I,last')→D=some s0∧SpB I last' s0∧OkB (p15 f) s0:=fun U h2 I last' e=>by
           refine ⟨by rw [←al.out,yan ⟨U,h2⟩],?_,?_⟩
           · rw [←a1];rcases ybg l.length with q | q
             · obtain rfl:=yaU q;obtain ⟨rfl,rfl⟩:[]=I∧0=last':=by cases e;exact ⟨rfl,rfl⟩
               exact zof (Int.natCast_nonneg fl)
             · have hT:=ziA (Y.out q) h2;rw [e] at hT;exact zpI hT
           · rw [←a1];exact begS_ok (Int.natCast_nonneg fl) hq0 yab (by rw [zbh,T.out];exact U)
          replace E:=Lib.hid E;replace a2:=Lib.hid a2;clear ai aj hD n al o ay a1 T M V af h2;go_wp2_with fail
          go_loopw [60] (fun vi wx=>∃(i:Nat) (X' F' az:Nat→Prop) (I:List Sp) (last':Int),vi = .int .i64 i∧i≤l.length∧StR S X' wx F' g s0 I last' { m with t:=⟨tx,Q,cy,ty,mb,ps,R,cr,B⟩,F0:=az }∧Mv X F w4 X' F' wx∧Hid (zcE (fl:Int) ([],0) (zfq (l.take i))=(I,last'))∧(l.take i).Nodup∧Hid (zbW (p15 f) (ty,ps,B.map (·.r)) (l.take i)=0)∧I.length≤i) (fun vi _=>l.length-(intOf vi).toNat)
          case atStart=>exact ⟨0,X,F,m.F0,[],0,rfl,yao _,aw,Mv.below (Below.refl _ _),Lib.hid rfl,ycT,Lib.hid rfl,yaj _⟩
          case round =>
           obtain ⟨i,X',F',az,I,last',rfl,hi,hs,hM,aa,ab,a6,b0⟩:=hrel;have b1:=Z.trans hM;by_cases bh:i<l.length
           · have di:(i:Int)<(l.length:Int):=by omega
             obtain ⟨k,O⟩:∃k,l[i]? = some k:=⟨_,yal bh⟩;have b2:=hk k (yaq O);obtain ⟨b3,o3,rfl,bq,g0⟩:=zee (bg wr (b1.stay aq)) O;have b4:=ak.same (hM.own.old gt ak.lt ag);have b5:¬F' gt:=fun q=>by
              rcases hM.own.grow gt q with q | q
              · exact ag q
              · have:=ak.lt;omega
             have hT:=ziA (Y.out yab) ab;rw [aa.out] at hT;have ac:=zpJ hT (Y.out yab) k;have hd:=hs.up K (za1 wr);have G:Rk wr.drew gt _ _:=b4;have kr:=fun W (hb:Below wr.drew.heap.size wr.drew W)=>Tm.right (hd.first.step (Stay.below hb) fun _ q=>.inl q) (ofT k) (zk6 b2);simp only [Tm.val,zgF,Tm.tb] at kr;have ko:=fun W=>zfC k b2 W;unfold zgF at ko;have kp:=fun W (hb:Below wr.drew.heap.size wr.drew W)=>K.put k fl (hd.up K hb).sp hd.fine (by have:=hd.len;omega) yab;dsimp only at kp;rw [ac] at kp;have am:turn1 (fl:Int) (I,last') (k,true)=((zgS I last' k fl).getD I,if (!hasK (l.take i) k)=true then (fl:Int) else last'):=by
              rw [←ac];rfl
             have ad:=ins_snoc (fl:=fl) O;rw [aa.out] at ad;have an:zbW (p15 f) (ty,ps,B.map (·.r)) (l.take (i + 1))=0↔zaR (ty,ps,B.map (·.r)) (ofT k)=0:=by
              rw [zce,yaC,O,yaO,zbz,zhM];have:=zce.1 a6.out;rw [zbz,zhM] at this;exact ⟨fun q=>q k yaf,fun q a ha=>by
               rcases yaA.1 ha with ha | ha
               · exact this a ha
               · rw [yav.1 ha];exact q⟩
             have b6:zaR (ty,ps,B.map (·.r)) (ofT k)≠0→¬(zbW (p15 f) (ty,ps,B.map (·.r)) l=0∧l.Nodup):=fun q z=>by
              have:=zce.1 z.1 k (yaq O);rw [zbz,zhM] at this;exact q this
             have b7:hasK (l.take i) k=true→¬(zbW (p15 f) (ty,ps,B.map (·.r)) l=0∧l.Nodup):=fun q z=>zq8 O q z.2;have b8:=zoy O ab;generalize ofT k=u at *
             generalize zaR (ty,ps,B.map (·.r)) u=zr at *
             generalize hasK (l.take i) k=bi at *
             have s:=fun W (hb:Below wr.drew.heap.size wr.drew W)=>(⟨(G.same (hb.block _ G.lt)).cell 0,(G.same (hb.block _ G.lt)).cell 1,(G.same (hb.block _ G.lt)).cell 2,(G.same (hb.block _ G.lt)).cell 3,(hd.up K hb).cs.1⟩:W.cell? ⟨gt,0,none⟩=some (.string tx)∧W.cell? ⟨gt,1,none⟩=some (.slice Q ty.length cy)∧W.cell? ⟨gt,2,none⟩=some (.map mb)∧W.cell? ⟨gt,3,none⟩=some (.slice R B.length cr)∧W.cell? ⟨g,0,none⟩=some (.pointer (some ⟨m.gs,0,none⟩)));obtain ⟨y0,y1,y2,y3,y4⟩:=s _ (Below.refl _ _);have tl:=b4.lt;have gl:=hs.box.lt;replace an:=Lib.hid an;replace ac:=Lib.hid ac;replace am:=Lib.hid am;replace ad:=Lib.hid ad;go_upto_region 11 with (fail)
             by_cases ao:zr=0
             · subst ao;go_region_held3 (fun W=>W.cell? ⟨gt,0,none⟩=some (.string tx)∧W.cell? ⟨gt,1,none⟩=some (.slice Q ty.length cy)∧W.cell? ⟨gt,2,none⟩=some (.map mb)∧W.cell? ⟨gt,3,none⟩=some (.slice R B.length cr)∧W.cell? ⟨g,0,none⟩=some (.pointer (some ⟨m.gs,0,none⟩)))
                (first | exact b9 | exact ba | exact bc | go_keep | fail)
                ((first
                 | ((with_reducible refine (ko _).mono ?_);rintro e1 v1 ⟨rfl,H⟩;have b9:=s v1 H)
                 | ((with_reducible refine (kr _ H).mono ?_);rintro e2 v2 ⟨rfl,J⟩;have y:=zac H H.size J;have ba:=s v2 y)
                 | ((with_reducible refine (kp _ y).mono ?_);rintro e3 v3 ⟨F3,rfl,bj,bb⟩;have bc:=turn_d15 hd G y bb b5)
                 | fail))
               have br:turn1 (fl:Int) (I,last') (k,true)=((turn1 (fl:Int) (I,last') (k,true)).1,(turn1 (fl:Int) (I,last') (k,true)).2):=rfl;obtain ⟨X7,F7,bl,bm⟩:=StR.turn1 K (hd.up K y) (r:=(fl:Int)) (x:=(k,true)) yah yab (by rw [am.out];exact bj) bb;have bd:=(hM.trans (Mv.below (zac (za1 wr) (yaj _) y))).trans bm;have bs:=(zeP (r:=(fl:Int)) (L:=I) (last:=last') (x:=(k,true)) hs.keys yah).2;cases bi with
               | true =>
                go_wp2_with fail
                go_ret
                have hn:=E.out (b7 yaf);exact ⟨by rw [hn];rfl,BegOut.no hn (Z.trans bd)⟩
               | false =>
                go_wp2_with fail
                exact ⟨⟨i + 1,X7,F7,F3,_,_,by go_num,by omega,bl,bd,Lib.hid (by rw [ad.out]),b8 yaf,Lib.hid (an.out.2 yaf),by omega⟩,by simp [intOf];omega⟩
             · have bu:(zr != 0)=true:=by simpa using ao
               have N:=s _ (Below.refl _ _);refine wp_region_any yaa ?_;change wpAny _ _ _ _ _ _ _ (World.drew _);refine wpAny_of_held (S:=(fun W=>W.cell? ⟨gt,0,none⟩=some (.string tx)∧W.cell? ⟨gt,1,none⟩=some (.slice Q ty.length cy)∧W.cell? ⟨gt,2,none⟩=some (.map mb)∧W.cell? ⟨gt,3,none⟩=some (.slice R B.length cr)∧W.cell? ⟨g,0,none⟩=some (.pointer (some ⟨m.gs,0,none⟩)))) _ _ _ _ ?_;refine zaa 0 (some 64) N ?_ (hy:=zy5);refine zaa 1 (some 65) N ?_;refine zaS 2 rfl yaa ?_;intro Kf a7;go_simp;refine (ko _).mono ?_;rintro e1 v1 ⟨rfl,H⟩;replace N:=s v1 H;refine a7 _ _ N ?_;clear a7 Kf;refine zaS 3 rfl yaa ?_;intro Kf a7;go_simp;refine (kr _ H).mono ?_;rintro e2 v2 ⟨rfl,J⟩;have y:=zac H H.size J;replace N:=s v2 y;refine a7 _ _ N ?_;clear a7 Kf;refine zaa 4 (some 68) N ?_;refine zaa 5 (some 69) N ?_;refine zci 6 (some 70) N ?_;refine zci 7 (some 71) N ?_;refine zci 8 (some 72) N ?_;refine zci 9 (some 73) N ?_;refine zci 10 (some 74) N ?_;refine zci 11 (some 75) N ?_;refine zci 12 (some 76) N ?_;refine zci 13 (some 77) N ?_;refine zaa 14 (some 78) N ?_;refine wpAnyH_done yaa ?_ _;go_wp2_with fail
               go_ret
               have hn:=E.out (b6 ao);exact ⟨by rw [hn];rfl,BegOut.no hn (Z.trans (hM.trans (Mv.below (zac (za1 wr) (yaj _) y))))⟩
           · obtain rfl:i=l.length:=by omega
             have di:¬(((l.length:Nat):Int)<(l.length:Int)):=by omega
             rw [yaz] at aa ab a6;go_wp2_with fail
             go_ret
             obtain ⟨h5,h6,h7⟩:=a2.out a6.out ab I last' aa.out;exact ⟨by rw [h5];rfl,X',F',b1,fun s' e=>by
              obtain rfl:s0=s':=by rw [h5] at e;exact yaZ e
              exact ⟨I,last',_,⟨hs,h6,h7⟩,b0⟩⟩)
 · rw [yan (.inl yab)] at n;have o:=o n.symm;have P:((ar:Int) == 0)=false:=by simpa using he
   clear hD n T;go_wp2_with fail
   go_ret
   have:=(o w3 (Below.refl _ _)).out;exact ⟨by rw [this.1];rfl,this.2⟩
end
end
section
open Go.RowKit
variable {n b:Nat} {k:ByteArray} {T:ByteArray→Nat}
structure ShortA (st:RSt):Prop where
 text:(zbn (zdR st).2).1≠0→(zaX (zbn (zdR st).2).2).1.length≤1000000
 list:(zbn (zdR st).2).1=0→∀t ∈ (zcA (zbn (zdR st).2).2 100000).1,t.length≤100000
section
variable {S:SpW} {f:CoF} {X Y F F':Nat→Prop} {w w':World} {g gr:Nat} {s:Sto Tb Nd15} {L:List Sp} {last:Int} {m:Mm}
theorem zb8 (hg:w.grownBy w' (some gr)) (h:gr<w.heap.size):Below gr w w':=⟨hg.os,hg.tape,hg.output,hg.size,fun b hb=>hg.block b (ych hb h) fun e=>by have:=yaZ e;omega⟩
theorem zow (w:World) (B:Nat):Below B w w.drew:=⟨rfl,rfl,rfl,yaj _,fun _ _=>rfl⟩
theorem zr8 (l t:List ByteArray):(zgG t l).length=l.length:=by have:=congrArg List.length (zh9 l t);rwa [yax] at this
theorem zh4:∀(k:Nat) (st:RSt),(steps k st).1.length≤k
 | 0,_=>yaj _
 | k + 1,st=>by
  have:=zh4 k st;unfold steps;dsimp only;rw [yam];simp;omega
theorem zhX (st:RSt) (n:Nat):(zcA st n).1.length≤n:=by
 unfold zcA;split
 · exact yao _
 · split
   · exact yao _
   · split
     · exact yao _
     · exact yay (zh4 _ _) yab
theorem keyT_ofT (hk:k.size≤100000):(za4 (ofT k)).size≤100000:=by
 unfold ofT;cases e:zdP k with
 | none=>rw [Option.getD_none];decide +kernel
 | some t=>rw [Option.getD_some,(from_some e).2];exact hk
theorem chgK {l t:List ByteArray} (h:∀k ∈ l,k.size≤100000):∀x ∈ (zgG t l).map fun c=>(ofT c.1,c.2),(za4 x.1).size≤100000:=by
 intro x b;obtain ⟨c,f,e⟩:=yaH.1 b;have g:x.1=ofT c.1:=by rw [←e]
 rw [g];refine keyT_ofT (h c.1 ?_);rw [←zh9 l t];exact ybi f
theorem wf_nat15 (h:n≤1000000):(Lit.int .i64 (n:Int)).wf=true:=WalkArith.wf_i64 yab
theorem cnt_succ {l:List ByteArray} {i:Nat} {q:ByteArray} (h:l[i]? = some k):((l.take (i + 1)).filter fun x=>decide (x=q)).length=((l.take i).filter fun x=>decide (x=q)).length + if k=q then 1 else 0:=by
 rw [yaC,h,yaO,ybv,yam];congr 1
 by_cases e:k=q
 · simp [e]
 · simp [e]
def MapN (w:World) (b n:Nat) (T:ByteArray→Nat):Prop:=∃D:DataW Unit,w.ownsMap Tryz.prog 9 (plainElem Tryz.prog 3) b n D∧∀k:ByteArray,k.size≤maxLen→D.atKey (kB k) (.lit (.int .i64 0)) = .lit (.int .i64 (T k))
theorem MapN.kept {row:Option Nat} (h:MapN w b n T) (hg:w.grownBy w' row) (hne:some b≠row):MapN w' b n T:=by
 obtain ⟨D,f,g⟩:=h;exact ⟨D,f.kept hg hne,g⟩
theorem MapN.below (h:MapN w b n T) (hb:Below w.heap.size w w'):MapN w' b n T:=h.kept (row:=none) ⟨hb.os,hb.tape,hb.output,hb.size,fun k hk _=>hb.block k hk⟩ yaf
theorem MapN.lookup (h:MapN w b n T) (hk:k.size≤maxLen):(Instr.lookup 252 (.map (some b)) (.string k) false).run Tryz.prog w = .ok (.int .i64 (T k)) w:=by
 obtain ⟨D,g,j⟩:=h;obtain ⟨c,m,f,_⟩:=g.lookup_int (t:=252) zbC Tryz.underlying252 Tryz.underlying3 (Tryz.zeroValue3 w) (zhv hk);rw [j k hk] at f;simp only [DataW.lit.injEq,Lit.int.injEq,true_and] at f;rw [f];exact m
theorem MapN.made (w:World):MapN (w.alloc (.map #[] 0)) w.heap.size 0 fun _=>0:=⟨.map [],World.ownsMap_made w _ _ _,fun _ _=>rfl⟩
def AgOut (S:SpW) (f:CoF) (gr:Nat) (w:World) (g:Nat) (s':Sto Tb Nd15) (st':RSt) (n:Nat) (w':World):Prop:=∃X F L last m,StX S f gr w' g s' st' n X F L last m∧Below gr w w'
theorem again_any (K:SpK S) (hF:zpv f) {st:RSt} (h:StX S f gr w g s st n X F L last m) (hsh:ShortA st) (hmax:revB s + 1≤9223372036854775807) (hn:n + 16≤50000) :
 Calls Tryz.prog 96 #[.pointer (some ⟨g,0,none⟩),.pointer (some ⟨gr,0,none⟩)] w fun e w'=>e = .returned (.bool (zbk (p15 f) s st).1)∧AgOut S f gr w g (zbk (p15 f) s st).2.1 (zbk (p15 f) s st).2.2 (n + 16) w':=by
 obtain ⟨D,I⟩:∃D,zbk (p15 f) s st=D:=⟨_,rfl⟩;have o:=hsh.text;have y:=hsh.list;unfold zbk zdR zgl at I;unfold zdR at o y;have b9:=I;unfold zbk zdR zgl;rw [b9];clear b9 hsh;dsimp only at I o y;obtain ⟨⟨t1,s1⟩,e1⟩:∃q,zaX st=q:=⟨_,rfl⟩;have k1:=text_any gr st w h.rd;rw [e1] at I o y k1;dsimp only at I o y k1;obtain ⟨⟨t2,s2⟩,e2⟩:∃q,zaX s1=q:=⟨_,rfl⟩;have k2:=fun W hr=>text_any gr s1 W hr;rw [e2] at I o y;simp only [e2] at k2;dsimp only at I o y;obtain ⟨⟨t3,s3⟩,e3⟩:∃q,zaX s2=q:=⟨_,rfl⟩;have k3:=fun W hr=>text_any gr s2 W hr;rw [e3] at I o y;simp only [e3] at k3;dsimp only at I o y;obtain ⟨⟨kk,s4⟩,e4⟩:∃q,zbn s3=q:=⟨_,rfl⟩;have k4:=fun W hr=>num_any gr s3 W hr;rw [e4] at I o y;simp only [e4] at k4;dsimp only at I o y;clear e1 e2 e3 e4;generalize strOf t1=b1 at *
 generalize strOf t2=b2 at *
 generalize strOf t3=b3 at *
 replace I:=Lib.hid I;go_enter Tryz.func96,Tryz.ntmps96
 go_upto_region 2 with (first
  | (with_reducible refine k1.mono ?_;rintro e w1 ⟨rfl,aj,ak⟩;have h1:=h.read K ak aj)
  | (with_reducible refine (k2 _ aj).mono ?_;rintro e w2 ⟨rfl,al,am⟩;have h2:=h1.read K am al)
  | (with_reducible refine (k3 _ al).mono ?_;rintro e w3 ⟨rfl,ba,an⟩;have h3:=h2.read K an ba)
  | fail)
 have cb:=h.rd.lt;have J:=((zb8 ak cb).trans (zb8 am h1.rd.lt)).trans (zb8 an h2.rd.lt);have hy:=Rk.new w3 #[.string b1,.string b2,.string b3] 31;have ao:=zaI w3 (.cells #[.string b1,.string b2,.string b3] 31);have h4:=h3.up K ao;have bb:=J.trans (ao.mono (ya5 h3.rd.lt));have cc:¬F w3.heap.size:=fun q=>by have:=h3.sto.lt _ (h3.sto.sub _ q);omega
 generalize w3.alloc (.cells #[.string b1,.string b2,.string b3] 31)=w4 at *
 have aq:w3.heap.size≠gr:=by have:=h3.rd.lt;omega
 generalize w3.heap.size=gy at *
 clear k1 k2 k3 aj al ba ak am an h1 h2 h3 J ao;go_upto_region 3 with (fail)
 with_reducible refine (k4 _ h4.rd).mono ?_
 rintro e T ⟨rfl,bc,M⟩;have U:=h4.read K M bc;have ar:=hy.same (M.block _ hy.lt fun e=>aq (yaZ e));have au:=bb.trans (zb8 M h4.rd.lt);clear k4 hy h4 bc M bb;by_cases N:kk=0
 · have ce:((kk:Int) == 0)=true:=by simpa using N
   have A:=I.out;rw [yak (fun q=>q N)] at A;have a2:=y N;obtain ⟨⟨l0,s5⟩,e5⟩:∃q,zcA s4 100000=q:=⟨_,rfl⟩;have k6:=fun W hr=>list_any gr s4 100000 yac yac W hr;have af:(100000:Int).toNat=100000:=rfl;simp only [af,e5] at k6;have V:=zhX s4 100000;rw [e5] at A a2 V;dsimp only at a2 V;unfold zg2 chgL at A;dsimp only at A;rw [zhM] at A;obtain ⟨ls,Y⟩:∃ls,l0.map strOf=ls:=⟨_,rfl⟩;have bd:∀k ∈ ls,k.size≤100000:=fun k hk=>by
    rw [←Y] at hk;obtain ⟨q,hq,rfl⟩:=yaH.1 hk;rw [zdm];exact a2 q hq
   have bf:tv l0=ks ls:=by rw [←Y];unfold tv ks;rw [ybp];rfl
   have av:l0.length=ls.length:=by rw [←Y,yax]
   rw [Y] at A;rw [av] at V;simp only [bf,av] at k6;obtain ⟨C,hC⟩:∃C,((zgG (zah s).keys ls).map fun c=>(ofT c.1,c.2))=C:=⟨_,rfl⟩;rw [hC] at A;have bg:C.length=ls.length:=by rw [←hC,yax,←zr8 ls (zah s).keys]
   have Z:∀(i:Nat) k,ls[i]? = some k→C[i]? = some (ofT k,!(hasK (zah s).keys k != oddL (ls.take i) k)):=fun i k hk=>by
    rw [←hC,yaY,zn5 hk];rfl
   have bh:=chgK (t:=(zah s).keys) bd;rw [hC] at bh;replace A:=Lib.hid A;clear I o y a2 e5 bf av Y hC N af;have cf:=@run_makeMap Tryz.prog;go_upto_region 6 with (fail)
   clear cf;have aw:=MapN.made T;have ax:=zaI T (.map #[] 0);have h6:=U.up K ax;have O:=ar.alloc (.map #[] 0);have a6:(T.alloc (.map #[] 0)).heap.size=T.heap.size + 1:=by simp
   have cg:=U.rd.lt;have ch:=ar.lt;generalize T.alloc (.map #[] 0)=w6 at *
   obtain ⟨bm,a7⟩:∃bm,T.heap.size=bm:=⟨_,rfl⟩;rw [a7] at aw a6 cg ch ⊢;have da:=Nat.le_of_eq a7;have db:=Nat.le_of_eq a7.symm;have dc:=Nat.le_of_eq a6;have dd:=Nat.le_of_eq a6.symm;clear a7 a6;have k7:=k6 _ h6.rd;clear k6;generalize hP:ls.length=nl at *
   replace hP:=Lib.hid hP;go_upto_region 7 with ((with_reducible refine k7.mono ?_);rintro e w7 ⟨v7,rfl,a8,ci,Q⟩;obtain ⟨A7,c7,rfl,_⟩:=Rd.own a8)
   have a1:=aw.kept Q (fun e=>by have:=yaZ e;omega);have bi:=O.same (Q.block _ O.lt fun e=>aq (yaZ e));have bj:∀b,b<T.heap.size→b≠gr→w7.heap[b]? = T.heap[b]?:=fun b hb ay=>(Q.block b yab fun e=>ay (yaZ e)).trans (ax.block b hb);have cj:=(au.trans (ax.mono yab)).trans (zb8 Q h6.rd.lt);have bl:=Q.size;have ca:(nl:Int)≤9223372036854775807:=by omega
   clear k7 aw Q O au;go_loopw [7,33] (fun vo vi wx=>∃i:Nat,vi = .int .i64 i∧i≤nl∧wx.ownsRow w7.heap.size 54 7 vo i ((C.take i).flatMap za5)∧MapN wx bm i (fun k=>((ls.take i).filter fun x=>decide (x=k)).length)∧OnlyF (fun b=>b=bm) w7 wx) (fun _ vi _=>nl-(intOf vi).toNat)
   case atStart=>exact ⟨0,rfl,yao _,World.ownsRow_nil _ _ _ _,a1,OnlyF.refl _ _⟩
   case round =>
    obtain ⟨i,rfl,hi,hO,hM,B⟩:=hrel;have de:=B.le;have G:=U.sto.off K (w':=wr) yab (fun b hb ay=>(B.old b yab yab).trans (bj b hb ay)) U.inX U.notF;by_cases dh:i<nl
    · have di:(i:Int)<(nl:Int):=by omega
      have dj:(0:Int)≤(i:Int):=by omega
      obtain ⟨k,hk⟩:∃k,ls[i]? = some k:=⟨_,yal (by have:=hP.out;omega)⟩;have cl:=bd k (yaq hk);have ag:=zau a8 fun j hj=>B.old j (a8.lt j hj).2 (show j≠bm from by have:=(a8.lt j hj).1;omega);have az:=zla ag;have b0:=hP.out;rw [←b0] at az;obtain ⟨bq,oq,rfl,_,g0⟩:=zee az hk;have aa:=Z i k hk;obtain ⟨A5,c5,rfl,_⟩:=Rd.own hO;have hd:=G.up K (za1 wr);have bn:=hM.below (za1 wr);have k1:=zc6 hd.toStR;have bo:s.floor≤revB s:=by have:=G.rev_eq;omega
      have ht:=G.spb.tell (revB s) bo (ybf _) k;rw [zbA G.ok.has] at ht;have kx:k.size≤maxLen:=by simp only [maxLen];omega
      have k2:=fun W (hb:Below wr.drew.heap.size wr.drew W)=>K.has k (revB s) (hd.up K hb).sp G.spb.fine (by have:=G.len;omega) kx;rw [ht] at k2;obtain ⟨c,hc⟩:∃c,((ls.take i).filter fun x=>decide (x=k)).length=c:=⟨_,rfl⟩;have dk:c≤100000:=by
       rw [←hc];exact yay (yba _ _) (yay (ycP _ _) yab)
      have H:=fun W (hb:Below wr.drew.heap.size wr.drew W)=>(⟨(hd.up K hb).cs.1,by rw [←hc];exact (bn.below hb).lookup kx⟩:W.cell? ⟨g,0,none⟩=some (.pointer (some ⟨m.gs,0,none⟩))∧(Instr.lookup 252 (.map (some bm)) (.string k) false).run Tryz.prog W = .ok (.int .i64 c) W);obtain ⟨x0,x1⟩:=H _ (Below.refl _ _);have lt:=G.box.lt;have hz:(!(hasK (zah s).keys k != oddL (ls.take i) k))=(!(hasK (zah s).keys k != decide (c % 2=1))):=by unfold oddL;rw [hc]
      rw [hz] at aa;obtain ⟨ab,bp⟩:∃h0,hasK (zah s).keys k=h0:=⟨_,rfl⟩;rw [bp] at k2 aa;clear hz ht bp bo az ag;replace b0:=Lib.hid b0;obtain ⟨D7,dl,df⟩:=id hM;have br:∀z,C[i]? = some (ofT k,z)→(C.take (i + 1)).flatMap za5=(C.take i).flatMap za5 ++ za5 (ofT k,z):=fun z hz=>by rw [yaC,hz];simp
      have P:=br _ aa;have ko:=fun W=>zfC k cl W;unfold zgF at ko;clear aa br Z;obtain ⟨i0,cm,cn,cq,ct⟩:=info_parts zkM;go_upto_region 9 with (fail)
      go_region_held3 (fun W=>W.cell? ⟨g,0,none⟩=some (.pointer (some ⟨m.gs,0,none⟩))∧(Instr.lookup 252 (.map (some bm)) (.string k) false).run Tryz.prog W = .ok (.int .i64 c) W)
       (first | exact ah | exact ai | go_keep | fail)
       ((first
        | ((with_reducible refine k1.mono ?_);rintro e1 v1 ⟨rfl,R⟩;have ah:=H v1 R)
        | ((with_reducible refine (k2 _ R).mono ?_);rintro e2 v2 ⟨rfl,bs⟩;have ai:=H v2 (zac R R.size bs))
        | fail))
      all_goals (
       have bu:=zac (zac (za1 wr) (yaj _) R) (zac (za1 wr) (yaj _) R).size bs;clear k1 k2 H x0 x1 ah ai hd bn lt;go_upto_region 10 with (fail)
       have bw:(!(ab != decide (c % 2=1)))=(ab == ((c:Int) % 2 == 1)):=by
        have:((c:Int) % 2 == 1)=decide (c % 2=1):=by
         by_cases q:c % 2=1
         · rw [yaB q];exact ybY.2 yab
         · rw [yaF q];exact ybh.2 yab
        rw [this];cases ab <;> cases decide (c % 2=1) <;> rfl
       rw [bw] at P;clear bw;obtain ⟨zz,bx⟩:∃zz,(ab == ((c:Int) % 2 == 1))=zz:=⟨_,rfl⟩;rw [bx] at P;generalize ofT k=u at *
       go_upto_region 11 with (first
        | (go_at_call 57;refine (ko v2).mono ?_;rintro e v3 ⟨rfl,cu⟩;have J:=zac bu bu.size cu;have cv:=zau hO fun j hj=>J.block j (hO.lt j hj).2)
        | (at_builtin;go_loud (refine zab _ rfl (.tmp 51) (.tmp 57) 33 33 rfl w7.heap.size 54 i0 _ 7 104 Tryz.underlying33 cm cn cq ct rfl yac (.slice A5 i c5) i _ rfl (cv.alloc _) _ 1 (za5 (u,zz)) rfl (Src.ofSlice _ Tryz.underlying33 _ 1 1 _ rfl (cells_at _ #[.string u.1.1,.string u.1.2.1,.string u.1.2.2,.string u.2.1,.string u.2.2.1,.string u.2.2.2,.bool zz] _ _ yaf) (by simp [za5,Value.oneCell'])) yad yab (by have:=J.size;simp;omega) ?_;intro v9 v4 b4 bz dg))
        | fail)
       obtain ⟨A4,c4,rfl,_⟩:=Rd.own b4;have b5:v4.ownsRow w7.heap.size 54 7 (.slice A4 (i + 1) c4) (i + 1) ((C.take (i + 1)).flatMap za5):=by rw [P];exact b4
       have dm:w7.heap.size≤wr.heap.size:=B.le;have cw:=((B.below J).below (zaI v3 (.cells #[.string u.1.1,.string u.1.2.1,.string u.1.2.2,.string u.2.1,.string u.2.2.1,.string u.2.2.2,.bool zz] 54))).grown bz fun r e=>.inr (hO.lt r e).1;have cx:(Value.slice A5 i c5).ownBlock≠some bm:=fun e=>by have:=(hO.lt bm e).1;omega
       have c0:=((hM.below J).kept (World.grownBy_alloc v3 (.cells #[.string u.1.1,.string u.1.2.1,.string u.1.2.2,.string u.2.1,.string u.2.2.1,.string u.2.2.2,.bool zz] 54) none) yaf).kept bz (Ne.symm cx);have cz:=c0.lookup kx;rw [hc] at cz;obtain ⟨D4,c1,b6⟩:=c0;have ew:IntKind.i64.wrap ((c:Int) + 1)=((c + 1:Nat):Int):=by rw [show (c:Int) + 1=((c + 1:Nat):Int) by omega];exact IntWalk.i64_in _ ⟨by omega,by omega⟩
       clear bx P b4 a1;go_wp2_with (at_mapUpdate;go_loud (refine wpList_mapUpdate_own _ rfl _ _ _ 252 rfl 9 3 zbC Tryz.underlying252 _ bm i D4 rfl c1 yad _ _ _ rfl rfl (zhv kx) _ [] (plainElem_int Tryz.underlying3 (wf_nat15 (n:=c + 1) yab)) ?_;intro v5 d0 M))
       refine ⟨⟨i + 1,by go_num,by omega,zau b5 fun j hj=>M.block j (b5.lt j hj).2 fun e=>by have:=(b5.lt j hj).1;have:=yaZ e;omega,⟨_,d0,fun q hq=>?_⟩,cw.grown M fun r e=>.inl (yaZ e).symm⟩,by simp [intOf];omega⟩;have ac:=cnt_succ (q:=q) hk;show _=DataW.lit (Lit.int .i64 ((((ls.take (i + 1)).filter fun x=>decide (x=q)).length:Nat):Int));by_cases eq:q=k
       · subst eq;rw [yan rfl,hc] at ac;rw [ac,Maps.atKey_put_same c1.isMap (by trivial)];rfl
       · rw [yak (fun e=>eq e.symm)] at ac;rw [ac,Maps.atKey_put_other (fun e=>eq (zqt e))];exact b6 q hq)
    · obtain rfl:i=nl:=by omega
      have di:¬(((i:Nat):Int)<(i:Int)):=by omega
      have c2:Below (gr + 1) w7 wr:=⟨B.os,B.tape,B.output,B.le,fun b hb=>B.old b yab yab⟩;have d1:StX S f gr wr g s s5 n X F L last m:=⟨G,ci.below c2 (ycv _),U.inX,U.ahead,U.len⟩;have c3:=bi.same (B.old _ bi.lt yab);obtain ⟨y0,y1,y2⟩:=c3.c3y;have yl:=c3.lt;rw [ybl (by omega)] at hO;obtain ⟨A9,c9,rfl,b7⟩:=Rd.own hO;rw [←bg] at b7;have kw:=write_any K G (p:=[]) b1 b2 b3 (Rd.none_ wr _ 7) b7 (fun _ q=>absurd q yaf) bh hmax (by have:=U.len;omega);rw [bg] at kw;simp only [yaE] at kw;obtain ⟨E,hE⟩:∃E,zaE (p15 f) s (b1,b2,b3) [] C=E:=⟨_,rfl⟩;have ad:=A.out;rw [hE] at kw ad;replace ad:=Lib.hid ad;clear hE A Z hO hM b7;go_wp2_with (go_at_call 12;refine kw.mono ?_;rintro e dn ⟨rfl,c6⟩)
      go_ret
      obtain ⟨X9,F9,L9,l9,m9,d2,d3,dp⟩:=c6;obtain ⟨d4,c8⟩:=d1.moved d2 d3 (n':=n + 16) (by have:=U.len;omega);rw [←ad.out];exact ⟨by simp [Bool.beq_eq_decide_eq],X9,F9,_,_,_,d4,(cj.trans (c2.mono (ybd _))).trans (c8.mono (ybd _))⟩
 · have ce:((kk:Int) == 0)=false:=by simpa using N
   have A:=I.out;rw [yan N] at A;have hx:=o N;have hd:=U.up K (za1 T);obtain ⟨⟨t5,s5⟩,e5⟩:∃q,zaX s4=q:=⟨_,rfl⟩;have k5:=text_any gr s4 T.drew hd.rd;rw [e5] at A hx k5;dsimp only at hx k5;have d5:(strOf t5).size≤1000000:=by rw [zdm];exact hx
   unfold zg1 at A;dsimp only at A;generalize strOf t5=x5 at *
   replace A:=Lib.hid A;have ae:Rk T.drew gy _ _:=ar;obtain ⟨y0,y1,y2⟩:=ae.c3y;have yl:=ae.lt;clear o y I hx e5;go_upto_region 3 with (fail)
   go_region_held3 (fun W=>W.cell? ⟨gy,0,none⟩=some (.string b1)∧W.cell? ⟨gy,1,none⟩=some (.string b2)∧W.cell? ⟨gy,2,none⟩=some (.string b3))
    (first | exact d8 | exact d7 | go_keep | fail)
    ((first
     | ((with_reducible refine k5.mono ?_);rintro e6 w6 ⟨rfl,d6,b8⟩;have h6:=hd.read K b8 d6;have O:=ae.same (b8.block _ ae.lt fun e=>aq (yaZ e));have d7:=O.c3y;have kd:=define_any K hF h6.sto b1 b2 b3 x5 d5 hmax)
     | ((with_reducible refine kd.mono ?_);rintro e7 w7 ⟨rfl,X7,F7,m7,bl,a1⟩;have d8:=(O.same (a1.own.old _ O.lt cc)).c3y)
     | fail))
   go_wp2_with fail
   go_ret
   obtain ⟨h7,d9⟩:=h6.moved bl a1 (yay h6.len (Nat.le_add_right n 16));rw [←A.out];exact ⟨by simp [Bool.beq_eq_decide_eq],X7,F7,_,_,_,h7,((au.trans (zow T gr)).trans (zb8 b8 hd.rd.lt)).trans (d9.mono (ybd _))⟩
end
end
end Go.Proofs.YtmblgnddgmfkhaaGreat
