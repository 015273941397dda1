import Derived.Lib.Tables
import Derived.Test.YtmblgnddgmfkhaaGreatK34
set_option maxRecDepth 100000
set_option maxHeartbeats 4000000
namespace Go.Proofs.YtmblgnddgmfkhaaGreat
section
open Go.RowKit
section
variable {S:SpW} {f:CoF} {X Y F F':Nat→Prop} {w w':World} {g:Nat} {s:Sto Tb Nd15} {L:List Sp} {last:Int} {m:Mm}
theorem zqy (l:List (TuP × Bool)):keyed (p15 f) l=zeS l:=by unfold keyed zeS;rw [zf8]
theorem ziX {l:List (TuP × Bool)} (h:∀x ∈ l,(za4 x.1).size≤100000):∀x ∈ zeS l,x.1.size≤100000:=fun x b=>by
 unfold zeS at b;obtain ⟨y,f,rfl⟩:=yaH.1 b;exact h y f
theorem zla {w:World} {base:Nat} {e:TypeId} {n size c:Nat} {A:Option Addr} {xs:List Value} (h:w.ownsRow base e size (.slice A n c) n xs):Rd w w.heap.size size A n c xs:=by
 obtain ⟨_,_,j,b⟩:=Rd.own h;injection j with f _ g
 subst f g;exact b
theorem Rk.c3y {w:World} {b:Nat} {t:TypeId} {x0 x1 x2:Value} (h:Rk w b #[x0,x1,x2] t):w.cell? ⟨b,0,none⟩=some x0∧w.cell? ⟨b,1,none⟩=some x1∧w.cell? ⟨b,2,none⟩=some x2:=⟨h.cell 0,h.cell 1,h.cell 2⟩
theorem appd_len {s:List ByteArray} {p c:List (ByteArray × Bool)} (hs:Rises s) (h:(zcm s p c).2.1=0):(zaO s (zcm s p c).1).length≤c.length∧∀x ∈ zaO s (zcm s p c).1,x.1 ∈ c.map Prod.fst:=by
 obtain ⟨_,f,m,_⟩:=zpD hs h;obtain ⟨n,o⟩:=zjs hs m;have g:=(zhe (c:=c) (i:=0) hs hs fun _ _=>rfl).2 (by rw [f]);rw [f] at g;have j:∀x ∈ (zaO s (zcm s p c).1).map Prod.fst,x ∈ c.map Prod.fst:=fun x b=>by
  by_cases q:x ∈ c.map Prod.fst
  · exact q
  · have k:=o x;rw [zar.2 b,(g.2 x q).1] at k;simp at k
 exact ⟨by simpa using n.len j,fun x b=>j _ (ybi b)⟩
theorem zsf {n:Nd15} {p d:List (TuP × Bool)} {D:Sto Tb Nd15 × Int × Nat} (h:zaE (p15 f) s n p d=D) :
 (d.length=0→D=(s,1,0))∧(d.length≠0→(16<p.length∨16<d.length)→D=(s,13,0))∧(d.length≠0→¬(16<p.length∨16<d.length) →
  ((zaW (p15 f) (zah s).T ((p ++ d).map Prod.fst) 0).1≠0→D=(s,zaW (p15 f) (zah s).T ((p ++ d).map Prod.fst) 0))∧((zaW (p15 f) (zah s).T ((p ++ d).map Prod.fst) 0).1=0 →
   ((zcm (zah s).keys (zeS p) (zeS d)).2.1≠0→D=(s,(((zcm (zah s).keys (zeS p) (zeS d)).2.1:Nat):Int),(zcm (zah s).keys (zeS p) (zeS d)).2.2)) ∧
   ((zcm (zah s).keys (zeS p) (zeS d)).2.1=0→((s.quota<((zcm (zah s).keys (zeS p) (zeS d)).1.length:Int)∨63<s.L.length)→D=(s,42,0)) ∧
    (¬(s.quota<((zcm (zah s).keys (zeS p) (zeS d)).1.length:Int)∨63<s.L.length)→D=(zaV s ⟨(zah s).text,(zah s).T,(zcm (zah s).keys (zeS p) (zeS d)).1,n,false,(zeS d).map Prod.fst⟩,0,0))))):=by
 unfold zaE at h;rw [zqy,zqy] at h;refine ⟨fun a=>?_,fun a b=>?_,fun a b=>⟨fun c=>?_,fun c=>⟨fun e=>?_,fun e=>⟨fun k=>?_,fun k=>?_⟩⟩⟩⟩
 · rw [yan a] at h;exact h.symm
 · rw [yak a,yan b] at h;exact h.symm
 · rw [yak a,yak b,yan c] at h;exact h.symm
 · rw [yak a,yak b,yak (by simpa using c),yan e] at h;exact h.symm
 · rw [yak a,yak b,yak (by simpa using c),yak (by simpa using e),yan k] at h;exact h.symm
 · rw [yak a,yak b,yak (by simpa using c),yak (by simpa using e),yak k] at h;exact h.symm
def zpx (S:SpW) (f:CoF) (X F:Nat→Prop) (w:World) (g:Nat) (s':Sto Tb Nd15) (n:Nat) (w':World):Prop:=∃X' F' L' last' m',StM S f X' w' F' g s' L' last' m'∧Mv X F w X' F' w'∧L'.length≤n
theorem write_any (K:SpK S) (h:StM S f X w F g s L last m) {A1 A2:Option Addr} {c1 c2:Nat} {p d:List (TuP × Bool)} (b1 b2 b3:ByteArray) (h1:Rd w w.heap.size 7 A1 p.length c1 (p.flatMap za5)) (h2:Rd w w.heap.size 7 A2 d.length c2 (d.flatMap za5)) (hkp:∀x ∈ p,(za4 x.1).size≤100000) (hkd:∀x ∈ d,(za4 x.1).size≤100000) (hmax:revB s + 1≤9223372036854775807) (hL:L.length + 16≤50000) :
 Calls Tryz.prog 12 #[.pointer (some ⟨g,0,none⟩),.agg #[.string b1,.string b2,.string b3],.slice A1 p.length c1,.slice A2 d.length c2] w fun e w'=>e = .returned (.tuple #[.int .i64 (zaE (p15 f) s (b1,b2,b3) p d).2.1,.int .i64 ((zaE (p15 f) s (b1,b2,b3) p d).2.2:Nat)])∧zpx S f X F w g (zaE (p15 f) s (b1,b2,b3) p d).1 (L.length + 16) w':=by
 obtain ⟨D,hD⟩:∃D,zaE (p15 f) s (b1,b2,b3) p d=D:=⟨_,rfl⟩;obtain ⟨D0,D1,D2⟩:=zsf hD;have bp:OkB (p15 f) D.1:=by rw [←hD];exact h.ok.write (zrl f) _ _ _
 rw [hD];clear hD;have dr:(p.length:Int)≤9223372036854775807:=by have:=h1.cap;have:=h1.capm;simp only [maxLen] at this;omega
 have ds:(d.length:Int)≤9223372036854775807:=by have:=h2.cap;have:=h2.capm;simp only [maxLen] at this;omega
 have bq:=Rk.new w #[.string b1,.string b2,.string b3] 31;have ae:=zaI w (.cells #[.string b1,.string b2,.string b3] 31);have O:=h.up K ae;have az:=h1.up ae;have b0:=h2.up ae;go_enter Tryz.func12,Tryz.ntmps12
 go_upto_region 1 with (fail)
 generalize w.alloc (.cells #[.string b1,.string b2,.string b3] 31)=w1 at *
 have br:∀(e:Int) (i:Nat),D=(s,e,i)→∀W,Below w1.heap.size w1 W→D.2.1=e∧D.2.2=i∧zpx S f X F w g D.1 (L.length + 16) W:=fun e i hd W hW=>by
  rw [hd];exact ⟨rfl,rfl,X,F,L,last,m,O.up K hW,Mv.below (zac ae ae.size hW),Nat.le_add_right _ _⟩
 have Q:∀(e:Int) (i:Nat),D=(s,e,i)→∀W,Below w1.heap.size w1 W→∀E:Ending,E = .returned (.tuple #[.int .i64 e,.int .i64 (i:Nat)])→E = .returned (.tuple #[.int .i64 D.2.1,.int .i64 (D.2.2:Nat)])∧zpx S f X F w g D.1 (L.length + 16) W:=fun e i hd W hW E hE=>by
  obtain ⟨q1,q2,q3⟩:=br e i hd W hW;rw [q1,q2];exact ⟨hE,q3⟩
 clear br h1 h2;by_cases c0:d.length=0
 · have bs:((d.length:Int) == 0)=true:=by simpa using c0
   replace D0:=Lib.hid (D0 c0);clear D1 D2 c0;go_wp2_with fail
   refine bodyPost_ret (v:=.tuple #[.int .i64 1,.int .i64 0]) (by simp [results,Tryz.results12,go_sem]) rfl ?_;exact Q _ _ D0.out _ (Below.refl _ _) _ rfl
 · have bs:((d.length:Int) == 0)=false:=by simpa using c0
   by_cases b4:16<p.length∨16<d.length
   · replace D1:=Lib.hid (D1 c0 b4);clear D0 D2;by_cases dt:16<p.length
     · have e1:(p.length:Int) > 16:=by omega
       go_wp2_with fail
       refine bodyPost_ret (v:=.tuple #[.int .i64 13,.int .i64 0]) (by simp [results,Tryz.results12,go_sem]) rfl ?_;exact Q _ _ D1.out _ (Below.refl _ _) _ rfl
     · have e1:¬(p.length:Int) > 16:=by omega
       have e2:(d.length:Int) > 16:=by omega
       go_wp2_with fail
       refine bodyPost_ret (v:=.tuple #[.int .i64 13,.int .i64 0]) (by simp [results,Tryz.results12,go_sem]) rfl ?_;exact Q _ _ D1.out _ (Below.refl _ _) _ rfl
   · obtain ⟨D3,D4⟩:=D2 c0 b4;have dp:p.length≤16:=by omega
     have dq:d.length≤16:=by omega
     have e1:¬(p.length:Int) > 16:=by omega
     have e2:¬(d.length:Int) > 16:=by omega
     clear D0 D1 D2 b4;have kt:=tuplesOf_any az b0 yab yab;have b5:((p ++ d).map Prod.fst).length=p.length + d.length:=by simp
     have kr:=fun W (hb:Below w1.heap.size w1 W) A c (hR:Rd W W.heap.size 6 A ((p ++ d).map Prod.fst).length c (((p ++ d).map Prod.fst).flatMap zeT))=>right15_any K (O.up K hb) hR yab (fun u hu x hx=>by
      obtain ⟨y,hy,rfl⟩:=yaH.1 hu;have:=zf4 y.1 x hx;rcases yaA.1 hy with hy | hy
      · have:=hkp y hy;omega
      · have:=hkd y hy;omega)
     rw [b5] at kr;replace b5:=Lib.hid b5;obtain ⟨R,hR⟩:∃R,zaW (p15 f) (zah s).T ((p ++ d).map Prod.fst) 0=R:=⟨_,rfl⟩;rw [hR] at kr D3 D4;obtain ⟨n,hn⟩:∃n,p.length + d.length=n:=⟨_,rfl⟩;rw [hn] at kr kt;replace hn:=Lib.hid hn;go_upto_region 6 with (first
      | (go_at_call 34;refine kt.mono ?_;rintro e w2 ⟨A3,c3,rfl,bu,al⟩)
      | (go_at_call 33;refine (kr _ al _ _ bu).mono ?_;rintro e w3 ⟨rfl,bw⟩))
     have a2:=zac al al.size bw;clear kt kr bu al bw;by_cases am:R.1=0
     · obtain ⟨D5,D6⟩:=D4 am;have d9:(R.1 == 0)=true:=by simpa using am
       clear D3 D4;have kk:=ofKeys_any (az.up a2) (b0.up a2) yab yab hkp hkd;rw [←zgO p,←zgO d] at kk;obtain ⟨P,hP⟩:∃P,zeS p=P:=⟨_,rfl⟩;obtain ⟨C,hC⟩:∃C,zeS d=C:=⟨_,rfl⟩;have da:∀x ∈ P,x.1.size≤100000:=by rw [←hP];exact ziX hkp
       have b6:∀x ∈ C,x.1.size≤100000:=by rw [←hC];exact ziX hkd
       have b7:P.length=p.length:=by rw [←hP,zgO]
       have af:C.length=d.length:=by rw [←hC,zgO]
       rw [hP,hC] at kk D5 D6;have b8:=fun W (hb:Below w1.heap.size w1 W) A1 c1 A2 c2 (h1:Rd W W.heap.size 2 A1 P.length c1 (pcs P)) (h2:Rd W W.heap.size 2 A2 C.length c2 (pcs C))=>touched_any K (O.up K hb) h1 h2 yab yab da b6;rw [b7,af] at kk b8;clear e1 e2 bs;go_upto_region 9 with (go_at_call 35;refine kk.mono ?_;rintro e w4 ⟨⟨B1,d1,B2,d2,rfl,b9,ba⟩,ag⟩)
       have an:=zac a2 a2.size ag;have bx:=b8 _ an _ _ _ _ b9 ba;clear kk b8 a2 ag az b0;go_upto_region 10 with (go_at_call 36;refine bx.mono ?_;rintro e w5 ⟨⟨A5,c5,u,rfl,bb,bc,bz⟩,ab⟩)
       have bd:=zac an an.size ab;have ah:=bz.weak an.size;obtain ⟨c4,db⟩:=O.small (revB s);rw [zbA O.ok.has] at c4 db;have bf:=O.ok.rise _ (zde O.ok.has);obtain ⟨T1,T2⟩:=touch bf bb bc;have du:u.length≤(zah s).keys.length:=bb.len fun x hx=>((bc x).1 hx).1;have dc:∀k ∈ u,k.size≤100000:=fun k hk=>c4 k ((bc k).1 hk).1;have ar:Rd w5 w5.heap.size 2 B1 P.length d1 (pcs P):=by rw [b7];exact b9.up ab
       have ai:Rd w5 w5.heap.size 2 B2 C.length d2 (pcs C):=by rw [af];exact ba.up ab
       have ka:=apply_any (p:=P) (ch:=C) (ah w5 (Stay.refl _ _)) bb (fun k hk=>yay (dc k hk) yac) yab ar yab ai yab (fun x hx=>yay (b6 x hx) yac);rw [b7,af] at ka;unfold AppO at ka;obtain ⟨⟨U,z,j⟩,hU⟩:∃r,zcm u P C=r:=⟨_,rfl⟩;obtain ⟨⟨G,fz,fj⟩,hG⟩:∃r,zcm (zah s).keys P C=r:=⟨_,rfl⟩;rw [hU] at ka T1 T2;rw [hG] at T1 T2 D5 D6;dsimp only at T1 T2 D5 D6 ka;injection T1 with t1 t2
       subst t1 t2;clear bx b9 ba ar bz ab;go_upto_region 11 with (go_at_call 37;refine ka.mono ?_;rintro e w6 ⟨A6,c6,rfl,a8,aa⟩)
       have H:=zac bd bd.size aa;clear ka;by_cases B:z=0
       · obtain ⟨D7,D8⟩:=D6 B;obtain ⟨T3,T4,T5,T6⟩:=T2 B;subst B;have I:=O.up K H;obtain ⟨_,_,e9,dv⟩:=Rd.own a8;injection e9 with de _ df
         subst de df;obtain ⟨bg,bh⟩:=appd_len (p:=P) (c:=C) bf (by rw [hG]);rw [hG] at bg bh;dsimp only at bg bh;have dw:G.length≤(zah s).keys.length + (zaO (zah s).keys G).length:=by
          have:=zlX (zah s).keys G;have:=yba (fun c:ByteArray × Bool=>c.2) (zaO (zah s).keys G);omega
         have e3:IntKind.i64.wrap (((zah s).keys.length:Int)-(u.length:Int))=((zah s).keys.length:Int)-(u.length:Int):=IntWalk.i64_in _ ⟨by omega,by omega⟩;have e4:IntKind.i64.wrap (((zah s).keys.length:Int)-(u.length:Int) + (U.length:Int))=(G.length:Int):=by rw [T4];exact IntWalk.i64_in _ ⟨by omega,by omega⟩
         have dx:U.length≤200000:=by omega
         replace T4:=Lib.hid T4;clear D5 D6 T2;go_upto_region 13 with (fail)
         by_cases cq:s.quota<(G.length:Int)
         · have e5:(G.length:Int) > s.quota:=cq;have D9:=Lib.hid (D7 (.inl cq));clear D7 D8;refine wp_region_any yaa ?_;change wpAny _ _ _ _ _ _ _ (World.drew _);generalize hdw:World.drew w6=wz at *
           have J:Below w6.heap.size w6 wz:=by subst hdw;exact ⟨rfl,rfl,rfl,yaj _,fun _ _=>rfl⟩
           replace I:=I.up K J;replace H:=zac H H.size J;have kl:=fun (W:World) (hb:Below wz.heap.size wz W)=>live15_any K (I.up K hb);clear hdw J;have a1:∀W,Below wz.heap.size wz W→(W.cell? ⟨g,1,none⟩=some (.int .i64 s.quota)):=fun W hb=>(I.up K hb).cs.2.1;have B:=Below.refl wz.heap.size wz;have o:=a1 _ B;refine wpAny_of_held (S:=fun W=>W.cell? ⟨g,1,none⟩=some (.int .i64 s.quota)) _ _ _ _ ?_;refine zaa 0 (some 67) o ?_;refine zaa 2 (some 69) o ?_;refine zaa 3 (some 70) o ?_;refine zaa 5 (some 72) o ?_;refine zaa 6 (some 73) o ?_;refine zaa 8 (some 75) o ?_;refine zaa 9 (some 76) o ?_;refine zaa 10 (some 77) o ?_;refine zaa 11 (some 78) o ?_ (hy:=zy1);refine zaS 1 rfl yaa ?_;intro Kf M;go_simp;refine (kl _ B).mono ?_;rintro e W1a ⟨rfl,c9⟩;have au:Below wz.heap.size wz W1a:=zcN B B.size c9;replace o:=a1 _ au;refine M _ _ o ?_;clear M Kf;refine zaa 4 (some 71) o ?_;refine zaa 7 (some 74) o ?_;refine zaa 12 (some 79) o ?_;refine zaa 13 (some 80) o ?_;refine zgU 14 (some 81) rfl rfl yaa yaa yaa (fun _ _ _ h=>h) yae o ?_;simp only [Act.put,yaG,yaV,yaW];refine zgU 15 (some 82) rfl rfl yaa yaa yaa (fun _ _ _ h=>h) yae o ?_;simp only [Act.put,yaG,yaV,yaW]
           refine zgU 16 (some 83) rfl rfl yaa yaa yaa (fun _ _ _ h=>h) yae o ?_;simp only [Act.put,yaG,yaV,yaW];refine zaa 17 (some 84) o ?_;refine wpAnyH_done yaa ?_ _;go_wp2_with fail
           refine bodyPost_ret (v:=.tuple #[.int .i64 42,.int .i64 0]) (by simp [results,Tryz.results12,go_sem]) rfl ?_;exact Q _ _ D9.out _ (zac H H.size au) _ rfl
         · have e5:¬(G.length:Int) > s.quota:=cq;by_cases cr:63<s.L.length
           · have e6:decide (s.L.length≤63)=false:=yaF yab;have D9:=Lib.hid (D7 (.inr cr));clear D7 D8;refine wp_region_any yaa ?_;change wpAny _ _ _ _ _ _ _ (World.drew _);generalize hdw:World.drew w6=wz at *
             have J:Below w6.heap.size w6 wz:=by subst hdw;exact ⟨rfl,rfl,rfl,yaj _,fun _ _=>rfl⟩
             replace I:=I.up K J;replace H:=zac H H.size J;have kl:=fun (W:World) (hb:Below wz.heap.size wz W)=>live15_any K (I.up K hb);have kr:=fun (W:World) (hb:Below wz.heap.size wz W)=>zj3 K (I.up K hb);rw [e6] at kr;replace a8:=zau a8 fun j hj=>J.block j (a8.lt j hj).2;replace aa:=zac aa aa.size J;clear hdw J;have a1:∀W,Below wz.heap.size wz W→(W.cell? ⟨g,1,none⟩=some (.int .i64 s.quota)):=fun W hb=>(I.up K hb).cs.2.1;have B:=Below.refl wz.heap.size wz;have o:=a1 _ B;refine wpAny_of_held (S:=fun W=>W.cell? ⟨g,1,none⟩=some (.int .i64 s.quota)) _ _ _ _ ?_;refine zaa 0 (some 67) o ?_;refine zaa 2 (some 69) o ?_;refine zaa 3 (some 70) o ?_;refine zaa 5 (some 72) o ?_;refine zaa 6 (some 73) o ?_;refine zaa 8 (some 75) o ?_;refine zaa 9 (some 76) o ?_;refine zaa 10 (some 77) o ?_;refine zaa 11 (some 78) o ?_ (hy:=zy1);refine zaS 1 rfl yaa ?_;intro Kf M;go_simp;refine (kl _ B).mono ?_;rintro e W1b ⟨rfl,cb⟩;have ac:Below wz.heap.size wz W1b:=zcN B B.size cb;replace o:=a1 _ ac;refine M _ _ o ?_;clear M Kf;refine zaa 4 (some 71) o ?_;refine zaa 7 (some 74) o ?_;refine zaa 12 (some 79) o ?_;refine zaa 13 (some 80) o ?_;refine zaa 14 (some 81) o ?_;refine zaS 15 rfl yaa ?_;intro Kf M;go_simp;refine (kr _ ac).mono ?_;rintro e W2b ⟨rfl,cc⟩;have av:Below wz.heap.size wz W2b:=zcN ac ac.size cc
             replace o:=a1 _ av;refine M _ _ o ?_;clear M Kf;refine zaa 16 (some 83) o ?_;refine zaa 17 (some 84) o ?_;refine wpAnyH_done yaa ?_ _;go_wp2_with fail
             refine bodyPost_ret (v:=.tuple #[.int .i64 42,.int .i64 0]) (by simp [results,Tryz.results12,go_sem]) rfl ?_;exact Q _ _ D9.out _ (zac H H.size av) _ rfl
           · have e6:decide (s.L.length≤63)=true:=yaB yab;have D9:=Lib.hid (D8 (fun q=>q.elim cq cr));clear D7 D8;refine wp_region_any yaa ?_;change wpAny _ _ _ _ _ _ _ (World.drew _);generalize hdw:World.drew w6=wz at *
             have J:Below w6.heap.size w6 wz:=by subst hdw;exact ⟨rfl,rfl,rfl,yaj _,fun _ _=>rfl⟩
             replace I:=I.up K J;replace H:=zac H H.size J;have kl:=fun (W:World) (hb:Below wz.heap.size wz W)=>live15_any K (I.up K hb);have kr:=fun (W:World) (hb:Below wz.heap.size wz W)=>zj3 K (I.up K hb);rw [e6] at kr;replace a8:=zau a8 fun j hj=>J.block j (a8.lt j hj).2;replace aa:=zac aa aa.size J;clear hdw J;have a1:∀W,Below wz.heap.size wz W→(W.cell? ⟨g,1,none⟩=some (.int .i64 s.quota)):=fun W hb=>(I.up K hb).cs.2.1;have B:=Below.refl wz.heap.size wz;have o:=a1 _ B;refine wpAny_of_held (S:=fun W=>W.cell? ⟨g,1,none⟩=some (.int .i64 s.quota)) _ _ _ _ ?_;refine zaa 0 (some 67) o ?_;refine zaa 2 (some 69) o ?_;refine zaa 3 (some 70) o ?_;refine zaa 5 (some 72) o ?_;refine zaa 6 (some 73) o ?_;refine zaa 8 (some 75) o ?_;refine zaa 9 (some 76) o ?_;refine zaa 10 (some 77) o ?_;refine zaa 11 (some 78) o ?_ (hy:=zy1);refine zaS 1 rfl yaa ?_;intro Kf M;go_simp;refine (kl _ B).mono ?_;rintro e W1c ⟨rfl,ce⟩;have ad:Below wz.heap.size wz W1c:=zcN B B.size ce;replace o:=a1 _ ad;refine M _ _ o ?_;clear M Kf;refine zaa 4 (some 71) o ?_;refine zaa 7 (some 74) o ?_;refine zaa 12 (some 79) o ?_;refine zaa 13 (some 80) o ?_;refine zaa 14 (some 81) o ?_;refine zaS 15 rfl yaa ?_;intro Kf M;go_simp;refine (kr _ ad).mono ?_;rintro e W2c ⟨rfl,cf⟩;have V:Below wz.heap.size wz W2c:=zcN ad ad.size cf
             replace o:=a1 _ V;refine M _ _ o ?_;clear M Kf;refine zaa 16 (some 83) o ?_;refine zaa 17 (some 84) o ?_;refine wpAnyH_done yaa ?_ _;go_upto_region 15 with (fail)
             have a6:=zac aa aa.size V;have aj:=zac H H.size V;have bi:=I.up K V;have dg:m.l.length<63:=by have:=bi.len_eq;omega
             have cg:=ai.up (zac a6 a6.size (za1 W2c));have hd:=bi.up K (za1 W2c);have Y:Rk W2c.drew w.heap.size _ _:=bq.same (aj.block _ bq.lt);have Z:=fun W (hb:Below W2c.drew.heap.size W2c.drew W)=>(Y.same (hb.block _ Y.lt)).c3y;obtain ⟨y0,y1,y2⟩:=Z _ (Below.refl _ _);have yl:=Y.lt;have k1:=zc6 hd.toStR;have k2:=fun W (hb:Below W2c.drew.heap.size W2c.drew W)=>schema15_any K (hd.up K hb) (revB s);rw [zbA I.ok.has] at k2;simp only [Tm.val] at k2;have k3:=fun W (hb:Below W2c.drew.heap.size W2c.drew W)=>keysOf_any (cg.up hb) yab;rw [af] at k3;have dh:¬(w.heap.size=g∨m.row.ownBlock=some w.heap.size):=fun q=>by
              rcases q with q | q
              · have:=h.box.lt;omega
              · have:=(h.row.lt _ q).2;omega
             clear hkp hkd bi ai kl kr;go_region_held3 (fun W=>W.cell? ⟨w.heap.size,0,none⟩=some (.string b1)∧W.cell? ⟨w.heap.size,1,none⟩=some (.string b2)∧W.cell? ⟨w.heap.size,2,none⟩=some (.string b3))
              (first | exact cv | exact ct | exact cm | exact ci | go_keep | fail)
              ((first
               | (with_reducible refine k1.mono ?_;rintro e1 v1 ⟨rfl,ak⟩;have ci:=Z v1 ak)
               | (with_reducible refine (k2 _ ak).mono ?_;rintro e2 v2 ⟨⟨t,rfl,ht,cj,di⟩,cl⟩;have a7:=zac ak ak.size cl;have cm:=Z v2 a7)
               | (with_reducible refine (k3 _ a7).mono ?_;rintro e3 v3 ⟨A7,c7,rfl,cn,bj⟩;have N:=zac a7 a7.size bj;have ct:=Z v3 N)
               | (with_reducible refine (badd_any K (hd.up K N).toStR _ _ _ _ _ _ _ _ _ _ _ _ _ _ _ _ hmax yab).mono ?_;rintro e4 v4 ⟨rfl,ga,ca,cu,ag,aw,bl⟩;have cv:=((Y.same (N.block _ Y.lt)).same (bl.old _ (yas Y.lt N.size) dh)).c3y)
               | fail))
             have ho:=hd.up K N;have cw:(C.map Prod.fst).length=d.length:=by rw [yax,af]
             have cx:KeyX X v3 A7 c7 (C.map Prod.fst):=fun w' h'=>by
              obtain ⟨_,_,e8,ao⟩:=Rd.own (h'.row cn fun b q=>(hd.up K a7).lt b q);injection e8 with bm _ bn
              subst bm bn;rw [cw];exact ao
             have cz:=ht.step (Stay.below (X:=X) bj) fun _ q=>.inl q;have d0:Rm.cells ⟨⟨(zah s).text,(zah s).T,G,(b1,b2,b3),false,C.map Prod.fst⟩,t,revB s + 1,A7,c7⟩=[.int .i64 (revB s + 1),.string b1,.string b2,.string b3,.bool false,.slice A7 d.length c7,.string (zah s).text,.slice t.Ay t.ty.length t.cy,.map t.mb,.slice t.Ar t.K.length t.cr]:=by
              unfold Rm.cells;dsimp only;rw [cw,cj]
             obtain ⟨vv,aq⟩:∃vv:Rv Tb Nd15,vv=⟨(zah s).text,(zah s).T,G,(b1,b2,b3),false,C.map Prod.fst⟩:=⟨_,rfl⟩;obtain ⟨X1,F1,d3,d4⟩:∃X' F',StR S X' v4 F' g (zaV s vv) L last { m with A:=some ⟨ga,0,none⟩,c:=ca,l:=m.l ++ [⟨vv,t,revB s + 1,A7,c7⟩] }∧Mv X F v3 X' F' v4:=by
              subst aq;exact StR.added K ho.toStR cz cj.symm di.symm cx hmax dg (by rw [d0];exact cu) ag aw bl
             have bo:Stay X v3 v4:=d4.stay hd.sub;have ax:=zac (zac a6 a6.size (za1 W2c)) (zac a6 a6.size (za1 W2c)).size N;have d5:=ah v4 ((Stay.below ax).trans bo fun b q=>.inl (O.lt b q));have ay:=zac (zac V V.size (za1 W2c)) (zac V V.size (za1 W2c)).size N;obtain ⟨_,_,e8,ao⟩:=Rd.own (((Stay.below (X:=(·<w5.heap.size)) ay).trans bo fun b q=>.inl (yas (O.lt b q) bd.size)).row a8 fun _ q=>q);injection e8 with bm _ bn
             subst bm bn;have kd:=diff_own d5 ao yab yab;rw [T3] at kd;have hkd:∀x ∈ zaO (zah s).keys G,x.1.size≤100000:=fun x hx=>by
              obtain ⟨y,hy,e⟩:=yaH.1 (bh x hx);rw [←e];exact b6 y hy
             have dj:=zac (zac aj aj.size (za1 W2c)) (zac aj aj.size (za1 W2c)).size N;clear d0 hd Z k1 k2 k3 ci cm ct cv cg Y y0 y1 y2 yl ho cx cz cu ag aw bl bo ax ay d5 ao a8 cn ah ak cl bj a7 N Q;obtain ⟨dd,d6⟩:∃dd,zaO (zah s).keys G=dd:=⟨_,rfl⟩;rw [d6] at kd hkd bg;go_wp2_with (first
              | (go_at_call 42;refine kd.mono ?_;rintro e5 v5 ⟨A8,c8,rfl,dk,ab⟩;have kt:=turn_any K (d3.up K ab) (A:=A8) (c:=c8) (d:=dd) (fun w' h'=>zla (h'.row dk fun b q=>d3.lt b q)) yab hkd)
              | (go_at_call 41;refine kt.mono ?_;rintro e6 v6 ⟨rfl,X2,F2,dy,d7,dl⟩)
              | fail)
             refine bodyPost_ret (v:=.tuple #[.int .i64 0,.int .i64 0]) (by simp [results,Tryz.results12,go_sem]) rfl ?_;have d8:=D9.out;rw [←aq] at d8;rw [d8] at bp ⊢;have dm:Rises vv.keys:=by rw [aq];exact T6
             obtain ⟨n1,n2⟩:=O.spb.next (v:=vv) O.ok.has O.fl0 bf dm;have dn:zaO (zah s).keys vv.keys=dd:=by rw [aq];exact d6
             rw [dn] at n1 n2;rw [za0] at d7;exact ⟨rfl,X2,F2,_,_,_,⟨d7,n1,bp⟩,((((Mv.below ae).trans (Mv.below dj)).trans d4).trans (Mv.below ab)).trans dl,by have:=n2.len;omega⟩
       · have dz:(((z:Nat):Int) == 0)=false:=by simpa using B
         have D9:=Lib.hid (D5 B);clear D5 D6 T2;go_wp2_with fail
         refine bodyPost_ret (v:=.tuple #[.int .i64 (z:Nat),.int .i64 (j:Nat)]) (by simp [results,Tryz.results12,go_sem]) rfl ?_;exact Q _ _ D9.out _ H _ rfl
     · have hD:=D3 am;replace hD:=Lib.hid hD;have d9:(R.1 == 0)=false:=by simpa using am
       clear D3 D4;go_wp2_with fail
       refine bodyPost_ret (v:=.tuple #[.int .i64 R.1,.int .i64 (R.2:Nat)]) (by simp [results,Tryz.results12,go_sem]) rfl ?_;exact Q _ _ hD.out _ a2 _ rfl
end
end
section
open Go.RowKit
theorem zoW (l:List Rm):∀u ∈ l.flatMap Rm.cells,u.oneCell'=true:=by
 intro u f;obtain ⟨s,_,b⟩:=ybz.1 f;simp only [Rm.cells,yaw,ya1,ybA] at b;rcases b with rfl | rfl | rfl | rfl | rfl | rfl | rfl | rfl | rfl | rfl <;> rfl
theorem cloneR_any {w:World} {A:Option Addr} {c n:Nat} {l:List Rm} (h:Rd w w.heap.size 10 A n c (l.flatMap Rm.cells)) (hl:n≤100000) :
 Calls Tryz.prog 45 #[.slice A n c] w fun e w'=>(∃A' c',e = .returned (.slice A' n c')∧w'.ownsRow w.heap.size 100 10 (.slice A' n c') n (l.flatMap Rm.cells))∧Below w.heap.size w w':=by
 have f:=zaI w (.cells #[] 100);have g:=zhK w #[] 100 0 10 w.heap.size rfl (by simp [maxLen]) (yaj _);have x:=zoW l;obtain ⟨xs,j⟩:∃xs,l.flatMap Rm.cells=xs:=⟨_,rfl⟩;rw [j] at h x ⊢;clear j;go_enter Tryz.func45,Tryz.ntmps45
 cases A with
 | none =>
  obtain ⟨z,rfl⟩:=h.nil rfl;subst z;obtain rfl:xs=[]:=yaU (by rw [h.len]);have B:(binOp .eql 78 (.slice none 0 0) (.slice none 0 0)).run Tryz.prog w = .ok (.bool true) w:=zlr w 78 100 none 0 0 Tryz.underlying78;go_wp2
  go_ret
  exact ⟨⟨none,0,rfl,World.ownsRow_nil _ _ _ _⟩,Below.refl _ _⟩
 | some a =>
  have B:(binOp .eql 78 (.slice (some a) n c) (.slice none 0 0)).run Tryz.prog w = .ok (.bool false) w:=zlr w 78 100 (some a) n c Tryz.underlying78;have k:=rdsrc11 (h.up f);obtain ⟨C,m,o,q,s⟩:=info_parts znj;go_wp2_with (at_builtin;refine zab _ rfl (.tmp 5) (.tmp 6) 78 78 rfl w.heap.size 100 C _ 10 160 Tryz.underlying78 m o q s rfl yac (.slice (some ⟨w.heap.size,0,none⟩) 0 0) 0 [] rfl g _ n xs rfl (Src.ofSlice _ Tryz.underlying78 _ _ _ _ h.len k x) yad yab yaf ?_;intro D E b u y;rw [yaI,ya6] at b;obtain ⟨F,G,rfl,_⟩:=Rd.own b)
  go_ret
  exact ⟨⟨_,_,rfl,b⟩,zae (v:=.slice (some ⟨w.heap.size,0,none⟩) 0 0) f u g f.size (yaj _)⟩
section
variable {S:SpW} {f:CoF} {X Y F F':Nat→Prop} {w w':World} {g:Nat} {s:Sto Tb Nd15} {L:List Sp} {last:Int} {m:Mm}
theorem StR.cutoff (K:SpK S) (h:StR S X w F g s L last m) {r:Int} {i:Nat} (hr:r=s.floor + i) (hk:zaw s r=true) {t:Tm} (ht:t.ok X w) (htx:t.tx=(atB s r).text) (htb:t.tb=(atB s r).T) {Ag:Option Addr} {ca:Nat}
 (hrow:w'.ownsRow 0 100 10 (.slice Ag (m.l.length-i) ca) (m.l.length-i) ((m.l.drop i).flatMap Rm.cells)) (hnew:∀j,(Value.slice Ag (m.l.length-i) ca).ownBlock=some j→w.heap.size≤j)
 (hb:Rk w' g #[.pointer (some ⟨m.gs,0,none⟩),.int .i64 s.quota,.int .i64 r,.string t.tx,.slice t.Ay t.ty.length t.cy,.map t.mb,.slice t.Ar t.K.length t.cr,.slice Ag (m.l.length-i) ca] 80)
 (ho:OnlyF (fun j=>j=g) w w') :
 ∃X' F',StR S X' w' F' g (zbq s r).1 L last { m with t:=t,A:=Ag,c:=ca,l:=m.l.drop i }∧Mv X F w X' F' w':=by
 have H:=h.box.lt;obtain ⟨I,J⟩:=zay.1 hk;have G:=h.rev_eq;have M:=h.len_eq;have o:∀j,j=g→F j:=fun j q=>(h.own j).2 (.inl q);have z:Stay X w w':=⟨ho.le,fun b hb C=>ho.old b hb fun q=>C (h.sub b (o b q))⟩;have D:∀b,(X b∨(Value.slice Ag (m.l.length-i) ca).ownBlock=some b)→X b∨w.heap.size≤b:=fun b q=>q.imp_right (hnew b);have f:(m.l.drop i).length=m.l.length-i:=ycL;obtain ⟨N,U,z3⟩:=zgI (s:=s) (r:=r) (k:=r) hk (ybf _);have O:(r-s.floor).toNat=i:=by omega
 have n:(zbq s r).1={ s with floor:=r,L:=s.L.drop i }:=by unfold zbq;rw [yan hk,O]
 have hi:i<s.L.length:=by omega
 refine ⟨fun b=>X b∨(Value.slice Ag (m.l.length-i) ca).ownBlock=some b,fun j=>j=g∨m.F0 j∨(Value.slice Ag (m.l.length-i) ca).ownBlock=some j,?_,⟨⟨ho.le,fun b hb E=>ho.old b hb fun q=>E (o b q),fun b q=>?_,fun B P E=>⟨ho.os,ho.tape,ho.output,ho.le,fun b hb=>ho.old b (yas hb P) fun q=>by have:=E b (o b q);omega⟩⟩,fun _ q=>.inl q,D⟩⟩
 · exact
    {box:=by
      unfold boxC;dsimp only;rw [f,n];exact hb
     sp:=K.keep h.sp fun b q=>ho.old b (K.lt h.sp b q) fun e=>h.g0 (e ▸ q)
     row:=by
      unfold Mm.row;dsimp only;rw [f];exact hrow
     own:=fun j=>by unfold Mm.row;dsimp only;rw [f]
     g0:=h.g0
     r0:=fun j y q=>by
      unfold Mm.row at y;dsimp only at y;rw [f] at y;have:=hnew j y;have:=K.lt h.sp _ q;omega
     sub:=fun j q=>by
      rcases q with q | q | q
      · exact .inl (h.sub j ((h.own j).2 (.inl q)))
      · exact .inl (h.sub j ((h.own j).2 (.inr (.inl q))))
      · exact .inr q
     lt:=fun j q=>by
      rcases q with q | q
      · exact yas (h.lt j q) ho.le
      · exact (hrow.lt j q).2
     head:=by
      obtain ⟨u,Q,V,Y⟩:=h.head;have R:s.L[i]? = some (atB s r):=by rw [hr,zeU (yal hi)];exact yal hi
      refine ⟨atB s r,?_,htx.symm,htb.symm⟩;rw [n];dsimp only;rw [zc3 R,List.map_drop];congr 1
      rw [Q,List.drop_succ_cons]
     first:=ht.step z D
     each:=fun x C=>(h.each x (yb1 C)).step z D
     revs:=fun j x y=>by
      rw [ycC] at y;rw [h.revs _ x y,n];dsimp only;omega
     fl0:=by rw [n];dsimp only;have:=h.fl0;omega
     most:=by rw [N];exact h.most
     few:=by dsimp only;rw [f];have:=h.few;omega
     keys:=h.keys
     len:=h.len
     fine:=h.fine }
 · rcases q with q | q | q
   · exact .inl ((h.own b).2 (.inl q))
   · exact .inl ((h.own b).2 (.inr (.inl q)))
   · exact .inr (hnew b q)
theorem zhm:∀(i:Nat) (l:List Rm),(l.flatMap Rm.cells).drop (i * 10)=(l.drop i).flatMap Rm.cells
 | 0,l=>by simp
 | i + 1,[]=>by simp
 | i + 1,x::l=>by
  rw [yaS,List.drop_succ_cons,←zhm i l,List.drop_append,List.drop_of_length_le (by rw [zeC];omega),ya6,zeC];congr 1
  omega
theorem zrL {A:Option Addr} {n c i:Nat} (hi:i≤n) (W:World):(Instr.slice 78 (.slice A n c) (some (.int .i64 (i:Int))) none none).run Tryz.prog W = .ok (.slice (if c=i then A else A.map (·.add (i * 10))) (n-i) (c-i)) W:=by
 have f:=Tryz.underlying78;have b:Tryz.prog.underlying 78=some (.slice (Tryz.prog.elem 78)):=by simp [Program.elem,f]
 have g:Tryz.prog.elem 78=100:=by simp [Program.elem,f]
 rw [run_slice_l W 78 _ _ _ b .i64 _ yab yab,g,Tryz.sizeOf100];simp [Result.andThen,sliced]
theorem trim15_any (KT:SpKT S) (h:StM S f X w F g s L last m) (r:Int) :
 Calls Tryz.prog 14 #[.pointer (some ⟨g,0,none⟩),.int .i64 r] w fun e w'=>e = .returned (.int .i64 (zbq s r).2)∧zpx S f X F w g (zbq s r).1 L.length w':=by
 have K:=KT.toSpK;obtain ⟨D,hD⟩:∃D,zbq s r=D:=⟨_,rfl⟩;have a1:=Lib.hid hD;rw [hD];clear hD;have k1:=zft h r;cases hk:zaw s r with
 | false =>
  rw [hk] at k1;have hd:Hid (D=(s,1)):=Lib.hid (by rw [←a1.out];unfold zbq;rw [hk];rfl);go_enter Tryz.func14,Tryz.ntmps14
  go_wp2_with (go_at_call 30;refine k1.mono ?_;rintro e w1 ⟨rfl,u⟩)
  go_ret
  rw [hd.out];exact ⟨rfl,X,F,L,last,m,h.up K u,Mv.below u,yaj _⟩
 | true =>
  rw [hk] at k1;obtain ⟨an,aa⟩:=zay.1 hk;have J:=h.rev_eq;obtain ⟨i,hi⟩:∃i:Nat,r=s.floor + i:=⟨(r-s.floor).toNat,by omega⟩;have a2:i≤m.l.length:=by omega
  have ao:=h.floor0;have ab:=h.most;have al:=h.few;have k2:=fun W (hb:Below w.heap.size w W)=>schema15_any K (h.up K hb) r;simp only [Tm.val] at k2;have aq:=h.box.lt;replace hi:=Lib.hid hi;replace J:=Lib.hid J;clear aa;go_enter Tryz.func14,Tryz.ntmps14
  go_upto_region 3 with (go_at_call 30;refine k1.mono ?_;rintro e w1 ⟨rfl,u⟩)
  go_upto_region 4 with (go_at_call 26;refine (k2 _ u).mono ?_;rintro e w2 ⟨⟨t,rfl,ht,O,P⟩,ac⟩;replace O:=Lib.hid O;replace P:=Lib.hid P;have a6:=zac u u.size ac;have E:=h.up K a6;obtain ⟨c0,c1,c2,c3,c4,Z,c6,c7⟩:=E.cs;have gf:=E.box.fz;have gl:=E.box.lt)
  have Q:=(((E.box.set 3 (.string t.tx)).set 4 (.slice t.Ay t.ty.length t.cy)).set 5 (.map t.mb)).set 6 (.slice t.Ar t.K.length t.cr);simp only [boxC,yaG,yaV,yaW] at Q;have G:=((((OnlyF.refl (fun j=>j=g) w2).set (a:=⟨g,3,none⟩) (.inl rfl) (.string t.tx)).set (a:=⟨g,4,none⟩) (.inl rfl) (.slice t.Ay t.ty.length t.cy)).set (a:=⟨g,5,none⟩) (.inl rfl) (.map t.mb)).set (a:=⟨g,6,none⟩) (.inl rfl) (.slice t.Ar t.K.length t.cr);generalize (((w2.setCell ⟨g,3,none⟩ (.string t.tx)).setCell ⟨g,4,none⟩ (.slice t.Ay t.ty.length t.cy)).setCell ⟨g,5,none⟩ (.map t.mb)).setCell ⟨g,6,none⟩ (.slice t.Ar t.K.length t.cr)=w3 at *
  have R:=zau E.row fun j M=>G.old j (E.row.lt j M).2 fun e=>Rk.apart E.box E.row yac (by rw [M,e]);unfold Mm.row at R;have H:=(zla R).cut a2;rw [zhm] at H;have N:=zrL (A:=m.A) (n:=m.l.length) (c:=m.c) a2;obtain ⟨A9,T⟩:∃A9,(if m.c=i then m.A else m.A.map (·.add (i * 10)))=A9:=⟨_,rfl⟩;rw [T] at H;simp only [T] at N;clear T;have k:Rk w3.drew g _ _:=Q;have kc:=cloneR_any (l:=m.l.drop i) (H.up (za1 w3)) yab;have q:=fun W (hb:Below w3.drew.heap.size w3.drew W)=>(⟨(k.same (hb.block _ k.lt)).cell 7,(k.same (hb.block _ k.lt)).cell 2⟩:W.cell? ⟨g,7,none⟩=some (.slice m.A m.l.length m.c)∧W.cell? ⟨g,2,none⟩=some (.int .i64 s.floor));have b:=q _ (Below.refl _ _);have ad:IntKind.i64.wrap (r-s.floor)=(i:Int):=by rw [show r-s.floor=(i:Int) by have:=hi.out;omega];exact IntWalk.i64_in _ ⟨by omega,by omega⟩
  clear k1 k2 c0 c1 c2 c3 c4 Z c6 c7 gf gl H R;refine zeh (fun W=>W.cell? ⟨g,7,none⟩=some (.slice m.A m.l.length m.c)∧W.cell? ⟨g,2,none⟩=some (.int .i64 s.floor)) 15 yaa ?_;refine zag 0 (some 15) b ?_ (hy:=zy2);refine zag 1 (some 16) b ?_ (hy:=zy2);refine zag 2 (some 17) b ?_ (hy:=zy2);refine zag 3 (some 18) b ?_ (hy:=zy2);refine zag 4 (some 19) b ?_ (hy:=zy2);refine zag 5 (some 20) b ?_ (hy:=zy2);refine zag 6 (some 21) b ?_ (hy:=zy2);refine zag 7 (some 22) b ?_ (hy:=zy2);refine zag 8 (some 23) b ?_ (hy:=zy2);refine zag 9 (some 24) b ?_ (hy:=zy2);refine zag 10 (some 25) b ?_ (hy:=zy2);refine zag 11 (some 26) b ?_ (hy:=zy2);refine zbE 12 rfl yaa fun K9 o=>?_;go_simp;refine kc.mono ?_;rintro e w5 ⟨⟨A5,Z,rfl,U⟩,y⟩;have B:=q w5 y;refine o _ _ (fun _=>B) ?_;clear o K9;refine zbE 13 rfl yaa fun K9 o=>?_;go_simp;refine o _ _ (fun _=>B) ?_;clear o K9;refine zag 14 (some 29) B ?_ (hy:=zy2);have ae:=(k.same (y.block g k.lt)).lt;have af:=(k.same (y.block g k.lt)).fz;have s5:=B.1;refine zbE 15 rfl yaa fun K9 o=>?_;go_simp;refine o _ _ (fun h=>absurd rfl h) ?_;clear o K9;refine zeL yaa ?_ _;have z:=(k.same (y.block g k.lt)).set 7 (.slice A5 (m.l.length-i) Z);simp only [yaG,yaV,yaW] at z;have a7:=(G.drew.below y).set (a:=⟨g,7,none⟩) (.inl rfl) (.slice A5 (m.l.length-i) Z)
  have am:=k.lt;have V:=zau (w':=w5.setCell ⟨g,7,none⟩ (.slice A5 (m.l.length-i) Z)) U fun j M=>Below.heap_setCell _ _ _ _ (show j≠g from by have:=(U.lt j M).1;omega);generalize w5.setCell ⟨g,7,none⟩ (.slice A5 (m.l.length-i) Z)=w6 at *
  have x2:=z.cell 2;have xf:=z.fz;have xl:=z.lt;clear b B kc q s5 af ae ad N y U;go_upto_region 6 with (fail)
  have C:=z.set 2 (.int .i64 r);simp only [yaG,yaV,yaW] at C;have a8:=a7.set (a:=⟨g,2,none⟩) (.inl rfl) (.int .i64 r);have Y:=zau (w':=w6.setCell ⟨g,2,none⟩ (.int .i64 r)) V fun j M=>Below.heap_setCell _ _ _ _ (show j≠g from by have:=(V.lt j M).1;omega);generalize w6.setCell ⟨g,2,none⟩ (.int .i64 r)=w7 at *
  obtain ⟨X1,F1,I,ag⟩:=StR.cutoff K E.toStR hi.out hk ht O.out P.out (zaA Y (yao _)) (fun j M=>yay G.le (Y.lt j M).1) C a8;have y0:=C.cell 0;have yl:=C.lt;have kt:=KT.trim r I.sp I.fine (by have:=h.len;omega);clear C a8 Y V a7 z G Q k x2 xf xl;go_wp2_with (go_at_call 46;refine kt.mono ?_;rintro e8 w8 ⟨F8,rfl,ah,ai⟩)
  go_ret
  obtain ⟨X2,F2,aj,ak⟩:=StR.spanned K I ai ah (I.fine.trim r) (fun x hx=>h.keys x (ya4.1 hx).1) (yay (yba _ _) h.len);have hz:(zbq s r).2=0:=by unfold zbq;rw [yan hk]
  rw [←a1.out,hz];exact ⟨rfl,X2,F2,_,_,_,⟨aj,h.spb.trim hk,h.ok.trim r⟩,((Mv.below a6).trans ag).trans ak,yba _ _⟩
end
end
section
open Go.RowKit
abbrev zlG:ByteArray:=Lib.len8tab
theorem zlw:zlG.size=256:=by decide +kernel
theorem tab8_ok:∀i:Fin 256,zlG.data.toList[i.val]?.getD 9≤8∧(zlG.data.toList[i.val]?.getD 9=0↔i.val=0):=by decide +kernel
theorem tab8_at (i:Nat) (h:i<256) (h':i<zlG.size):zlG[i].toNat≤8∧(zlG[i].toNat=0↔i=0):=by
 have H:=tab8_ok ⟨i,h⟩;have e:zlG.data.toList[i]?.getD 9=zlG[i]:=by
  rw [yal (by rw [ybo];exact h')];rfl
 simp only [e] at H;refine ⟨UInt8.le_iff_toNat_le.1 H.1,?_⟩;constructor
 · intro e;exact H.2.1 (UInt8.toNat_inj.1 e)
 · intro e;rw [H.2.2 e];rfl
theorem nb_small {n:Nat} (h:n<256):nb n=if n=0 then 0 else 1:=by
 by_cases b:n=0
 · subst b;rw [ze6];rfl
 · rw [zi7 yab,yak b,show n / 256=0 from by omega,ze6]
theorem nb_of (n k t:Nat) (hn:n / 2 ^ (8 * k)<256) (hp:0<n / 2 ^ (8 * k)∨k=0) (ht:t≤8∧(t=0↔n / 2 ^ (8 * k)=0)):(8 * k + t + 7) / 8=nb n:=by
 induction k generalizing n with
 | zero =>
  simp at hn ht ⊢;rw [nb_small hn];split <;> omega
 | succ k ih =>
  have e:n / 2 ^ (8 * (k + 1))=(n / 256) / 2 ^ (8 * k):=by
   rw [Nat.div_div_eq_div_mul,show 2 ^ (8 * (k + 1))=256 * 2 ^ (8 * k) from by rw [show 8 * (k + 1)=8 + 8 * k from by omega,Nat.pow_add]]
  rw [e] at hn ht hp;have b:0<n / 256:=by
   rcases hp with hp | hp
   · exact Nat.pos_of_ne_zero (fun h=>by rw [h] at hp;simp at hp)
   · omega
  have:=ih (n / 256) hn (.inl (by rcases hp with hp | hp <;> omega)) ht;rw [zi7 (by omega)];omega
theorem zd7 (w:World) (x i:Int) (k:Nat) (c:Int) (hc:c=8 * k) (h0:0≤i) (h1:i<256) (hp:0<i∨k=0) (hk:k≤7) (hx:i=x / (2 ^ (8 * k):Nat)) (hx0:0≤x) (h':i.toNat<zlG.size) :
 ∃K:Nat,Ending.returned (.int .i64 (wrap64 (c + wrap64 (zlG[i.toNat].toNat:Int)))) = .returned (.int .i64 K)∧K≤64∧(K + 7) / 8=nb x.toNat∧w=w:=by
 have b:=tab8_at i.toNat yab h';generalize zlG[i.toNat].toNat=t at b;have e:x.toNat / 2 ^ (8 * k)=i.toNat:=by
  rw [hx];obtain ⟨n,rfl⟩:=Int.eq_ofNat_of_zero_le hx0;rw [←Int.natCast_ediv,ybn,ybn]
 refine ⟨8 * k + t,?_,by omega,?_,rfl⟩
 · congr 2
   unfold wrap64;omega
 · refine nb_of x.toNat k t yab yab ?_;rw [e];exact b
theorem len_fin0 (w:World) (x:Int) (h0:0≤x) (h1:x<256) (h':x.toNat<zlG.size) :
 ∃K:Nat,Ending.returned (.int .i64 (wrap64 (wrap64 (zlG[x.toNat].toNat:Int)))) = .returned (.int .i64 K)∧K≤64∧(K + 7) / 8=nb x.toNat∧w=w:=by
 have:=zd7 w x x 0 0 rfl h0 h1 (.inr rfl) yab yaf h0 h';rwa [Int.zero_add] at this
theorem zr0 (i:Int) (h:i.toNat<zlG.size):((zlG[i.toNat]'h).toNat:Int)=Lib.len8 i:=by
 unfold Lib.len8;rw [getElem?_pos zlG i.toNat h];rfl
theorem mod_gone {x:Int} (h:x<2 ^ 64):x / 4294967296 / 65536 / 256<256:=by omega
theorem len64_any (x:Int) (h0:0≤x) (h1:x<2 ^ 64) (w:World) :
 Calls Tryz.prog 137 #[.int .u64 x] w fun e w'=>∃k:Nat,e = .returned (.int .i64 k)∧k≤64∧(k + 7) / 8=nb x.toNat∧w=w':=by
 have f:=Lib.hid h1;clear h1;have b:=Lib.hid zlw;have g:Lib.len8tab.size=256:=zlw;go_enter Tryz.func137,Tryz.ntmps137
 go_wp2
 all_goals go_ret
 · have:=mod_gone f.out;have t:=zd7 w x (x / 4294967296 / 65536 / 256 % 256) 7 56 rfl yab yab yab yab yab h0 (by rw [b.out];omega);rw [zr0] at t;exact t
 · exact zd7 w x (x / 4294967296 / 65536) 6 48 rfl yab yab yab yab yab h0 (by rw [b.out];omega)
 · exact zd7 w x (x / 4294967296 / 256) 5 40 rfl yab yab yab yab yab h0 (by rw [b.out];omega)
 · exact zd7 w x (x / 4294967296) 4 32 rfl yab yab yab yab yab h0 (by rw [b.out];omega)
 · exact zd7 w x (x / 65536 / 256) 3 24 rfl yab yab yab yab yab h0 (by rw [b.out];omega)
 · exact zd7 w x (x / 65536) 2 16 rfl yab yab yab yab yab h0 (by rw [b.out];omega)
 · exact zd7 w x (x / 256) 1 8 rfl yab yab yab yab yab h0 (by rw [b.out];omega)
 · exact len_fin0 w x h0 yab (by rw [b.out];omega)
theorem zjD:(Tryz.prog.info? 5).map (fun i=>(i.zero,i.size,i.bytes))=some (some (.int .u8 0),1,1):=by kernel_rfl
theorem be_step {n:Int} {m j:Nat} (h0:0≤n) (hm:m=nb n.toNat) (hj:j<m) :
 bv ((be n.toNat).take (j + 1))=bv ((be n.toNat).take j) ++ [Value.int .u8 (n / 2 ^ (8 * (m-1-j)) % 256)]:=by
 obtain ⟨x,rfl⟩:=Int.eq_ofNat_of_zero_le h0;rw [ybn] at hm ⊢;have b:=be_get x j yab;rw [←hm] at b;obtain ⟨f,g⟩:=yap.1 b;rw [ybI f,za6,g];congr 1
 simp only [bv,yaX,ycw];congr 2
 rw [show (256:Nat) ^ (m-1-j)=2 ^ (8 * (m-1-j)) from by rw [show (256:Nat)=2 ^ 8 from rfl,←Nat.pow_mul]];rw [UInt8.toNat_ofNat'];generalize 8 * (m-1-j)=s;have e:((2:Int) ^ s)=((2 ^ s:Nat):Int):=by simp
 rw [e,←Int.natCast_ediv];omega
theorem num_fin {w:World} {B:Nat} {e:TypeId} {v:Value} {k m x:Nat} {xs:List Value} (hm:m=nb x) (h8:m≤8)
 (h:w.ownsRow B e 1 v (k + 1 + m) (xs ++ [Value.int .u8 m] ++ bv ((be x).take m))):w.ownsRow B e 1 v (k + (nb x + 1)) (xs ++ bv (num x)):=by
 have b:bv (num x)=[Value.int .u8 m] ++ bv ((be x).take m):=by
  rw [ybl (by rw [zca];omega),num,←hm];simp [bv,Nat.mod_eq_of_lt (show m<256 from by omega)]
 rw [b,←hm,←yaD,show k + (m + 1)=k + 1 + m from by omega];exact h
theorem addNumber_any (B:Nat) (v:Value) (k:Nat) (xs:List Value) (n:Int) (h0:0≤n) (h1:n<2 ^ 64) (w:World) (hown:w.ownsRow B 5 1 v k xs) (hB:B≤w.heap.size) (hk:k≤100000000000) :
 Calls Tryz.prog 87 #[v,.int .u64 n] w fun e w'=>∃v',e = .returned v'∧w'.ownsRow B 5 1 v' (k + (nb n.toNat + 1)) (xs ++ bv (num n.toNat))∧Below B w w':=by
 obtain ⟨O,hi,q,s,x⟩:=info_parts zjD;obtain ⟨m,F⟩:∃m,m=nb n.toNat:=⟨_,rfl⟩;have G:m≤8:=by rw [F];exact zi6 yab
 have H:=Lib.hid F;have Q:=Lib.hid h1;have P:=Lib.hid hown;clear h1 F hown;go_enter Tryz.func87,Tryz.ntmps87
 go_wp2_with fail
 refine (len64_any _ h0 Q.out _).mono ?_;rintro e w' ⟨K,rfl,R,I,rfl⟩;have J:((K:Int) + 7) / 8=(m:Int):=by have:=H.out;omega
 clear I;go_wp2_with (at_builtin;go_must (refine zab _ rfl (.tmp 11) (.tmp 14) 24 24 rfl B 5 O (.int .u8 0) 1 1 Tryz.underlying24 hi q s x rfl yac v k xs rfl (P.out.alloc _) _ 1 [_] rfl (Src.ofSlice _ Tryz.underlying24 _ 1 1 _ rfl (cell_one_new _ _ _) (fun u y=>by simp at y;subst y;rfl)) yad yab yag ?_);intro U w1 b z A)
 have C:Below B w w1:=zae ((Below.refl _ _).alloc hB _) z (P.out.alloc _) yag (yaj _);clear z A;go_loopw [0,17] (fun v i wr=>∃j:Nat,j≤m∧i = .int .i64 j∧wr.ownsRow B 5 1 v (k + 1 + j) (xs ++ [Value.int .u8 m] ++ bv ((be n.toNat).take j))∧Below B w wr) (fun _ i _=>m-(intOf i).toNat)
 case atStart=>exact ⟨0,yao _,rfl,by simpa [bv] using b,C⟩
 case round =>
  obtain ⟨j,V,rfl,f,g⟩:=hrel;have L:=Lib.hid f;have T:=g.size;clear f b C;by_cases M:j<m
  · go_wp2_with (at_builtin;go_must (refine zab _ rfl (.tmp 20) (.tmp 29) 24 24 rfl B 5 O (.int .u8 0) 1 1 Tryz.underlying24 hi q s x rfl yac _ (k + 1 + j) _ rfl (L.out.alloc _) _ 1 [_] rfl (Src.ofSlice _ Tryz.underlying24 _ 1 1 _ rfl (cell_one_new _ _ _) (fun u y=>by simp at y;subst y;rfl)) yad yab yag ?_);intro X w2 o D E)
    have N:Below B w w2:=zae (g.alloc yab _) D (L.out.alloc _) yag (yaj _);clear D E;refine ⟨⟨j + 1,by omega,by go_num,?_,N⟩,by simp [intOf];omega⟩;rw [be_step h0 H.out M,←yaD];exact o
  · have e:j=m:=by omega
    subst e;clear J;go_wp2
    go_ret
    exact ⟨_,rfl,num_fin H.out G L.out,g⟩
end
end Go.Proofs.YtmblgnddgmfkhaaGreat
