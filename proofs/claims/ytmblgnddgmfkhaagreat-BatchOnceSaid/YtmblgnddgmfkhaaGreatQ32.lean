import Derived.Test.YtmblgnddgmfkhaaGreatQ31
set_option maxRecDepth 100000
set_option maxHeartbeats 4000000
namespace Go.Proofs.YtmblgnddgmfkhaaGreat
section
open Go.RowKit
section
variable {S:SpW} {f:CoF} {X Y F F':Nat→Prop} {w w':World} {g:Nat} {s:Sto Tb Nd15} {L:List Sp} {last:Int} {m:Mm}
theorem zpJ (l:List (TuP × Bool)):keyed (p15 f) l=zeh l:=by unfold keyed zeh;rw [zfA]
theorem zih {l:List (TuP × Bool)} (h:∀x ∈ l,(zbu x.1).size≤100000):∀x ∈ zeh l,x.1.size≤100000:=fun x b=>by
 unfold zeh at b;obtain ⟨y,d,rfl⟩:=yaN.1 b;exact h y d
theorem zqx {w:World} {base:Nat} {e:TypeId} {n size c:Nat} {A:Option Addr} {xs:List Value} (h:w.ownsRow base e size (.slice A n c) n xs):Rd w w.heap.size size A n c xs:=by
 obtain ⟨_,_,g,b⟩:=Rd.own h;injection g with d _ f
 subst d f;exact b
theorem Rk.c3y {w:World} {b:Nat} {t:TypeId} {x0 x1 x2:Value} (h:Rk w b #[x0,x1,x2] t):w.cell? ⟨b,0,none⟩=some x0∧w.cell? ⟨b,1,none⟩=some x1∧w.cell? ⟨b,2,none⟩=some x2:=⟨h.cell 0,h.cell 1,h.cell 2⟩
theorem appd_len {s:List ByteArray} {p c:List (ByteArray × Bool)} (hs:Rises s) (h:(zcb s p c).2.1=0):(zaN s (zcb s p c).1).length≤c.length∧∀x ∈ zaN s (zcb s p c).1,x.1 ∈ c.map Prod.fst:=by
 obtain ⟨_,d,k,_⟩:=zoP hs h;obtain ⟨m,n⟩:=zlk hs k;have f:=(zgJ (c:=c) (i:=0) hs hs fun _ _=>rfl).2 (by rw [d]);rw [d] at f;have g:∀x ∈ (zaN s (zcb s p c).1).map Prod.fst,x ∈ c.map Prod.fst:=fun x b=>by
  by_cases q:x ∈ c.map Prod.fst
  · exact q
  · have j:=n x;rw [zas.2 b,(f.2 x q).1] at j;simp at j
 exact ⟨by simpa using m.len g,fun x b=>g _ (ybj b)⟩
theorem zrp {n:Nd15} {p d:List (TuP × Bool)} {D:Sto Tb Nd15 × Int × Nat} (h:zaA (p15 f) s n p d=D) :
 (d.length=0→D=(s,1,0))∧(d.length≠0→(16<p.length∨16<d.length)→D=(s,13,0))∧(d.length≠0→¬(16<p.length∨16<d.length) →
  ((zaU (p15 f) (zai s).T ((p ++ d).map Prod.fst) 0).1≠0→D=(s,zaU (p15 f) (zai s).T ((p ++ d).map Prod.fst) 0))∧((zaU (p15 f) (zai s).T ((p ++ d).map Prod.fst) 0).1=0 →
   ((zcb (zai s).keys (zeh p) (zeh d)).2.1≠0→D=(s,(((zcb (zai s).keys (zeh p) (zeh d)).2.1:Nat):Int),(zcb (zai s).keys (zeh p) (zeh d)).2.2)) ∧
   ((zcb (zai s).keys (zeh p) (zeh d)).2.1=0→((s.quota<((zcb (zai s).keys (zeh p) (zeh d)).1.length:Int)∨63<s.L.length)→D=(s,42,0)) ∧
    (¬(s.quota<((zcb (zai s).keys (zeh p) (zeh d)).1.length:Int)∨63<s.L.length)→D=(zaQ s ⟨(zai s).text,(zai s).T,(zcb (zai s).keys (zeh p) (zeh d)).1,n,false,(zeh d).map Prod.fst⟩,0,0))))):=by
 unfold zaA at h;rw [zpJ,zpJ] at h;refine ⟨fun a=>?_,fun a b=>?_,fun a b=>⟨fun c=>?_,fun c=>⟨fun e=>?_,fun e=>⟨fun k=>?_,fun k=>?_⟩⟩⟩⟩
 · rw [yan a] at h;exact h.symm
 · rw [yak a,yan b] at h;exact h.symm
 · rw [yak a,yak b,yan c] at h;exact h.symm
 · rw [yak a,yak b,yak (by simpa using c),yan e] at h;exact h.symm
 · rw [yak a,yak b,yak (by simpa using c),yak (by simpa using e),yan k] at h;exact h.symm
 · rw [yak a,yak b,yak (by simpa using c),yak (by simpa using e),yak k] at h;exact h.symm
def Wrote (S:SpW) (f:CoF) (X F:Nat→Prop) (w:World) (g:Nat) (s':Sto Tb Nd15) (n:Nat) (w':World):Prop:=∃X' F' L' last' m',StM S f X' w' F' g s' L' last' m'∧Mv X F w X' F' w'∧L'.length≤n
theorem write_any (K:SpK S) (h:StM S f X w F g s L last m) {A1 A2:Option Addr} {c1 c2:Nat} {p d:List (TuP × Bool)} (b1 b2 b3:ByteArray) (h1:Rd w w.heap.size 7 A1 p.length c1 (p.flatMap zco)) (h2:Rd w w.heap.size 7 A2 d.length c2 (d.flatMap zco)) (hkp:∀x ∈ p,(zbu x.1).size≤100000) (hkd:∀x ∈ d,(zbu x.1).size≤100000) (hmax:revB s + 1≤9223372036854775807) (hL:L.length + 16≤50000) :
 Calls Tryz.prog 12 #[.pointer (some ⟨g,0,none⟩),.agg #[.string b1,.string b2,.string b3],.slice A1 p.length c1,.slice A2 d.length c2] w fun e w'=>e = .returned (.tuple #[.int .i64 (zaA (p15 f) s (b1,b2,b3) p d).2.1,.int .i64 ((zaA (p15 f) s (b1,b2,b3) p d).2.2:Nat)])∧Wrote S f X F w g (zaA (p15 f) s (b1,b2,b3) p d).1 (L.length + 16) w':=by
 obtain ⟨D,hD⟩:∃D,zaA (p15 f) s (b1,b2,b3) p d=D:=⟨_,rfl⟩;obtain ⟨D0,D1,D2⟩:=zrp hD;have bp:OkB (p15 f) D.1:=by rw [←hD];exact h.ok.write (zqz f) _ _ _
 rw [hD];clear hD;have dp:(p.length:Int)≤9223372036854775807:=by have:=h1.cap;have:=h1.capm;simp only [maxLen] at this;omega
 have dq:(d.length:Int)≤9223372036854775807:=by have:=h2.cap;have:=h2.capm;simp only [maxLen] at this;omega
 have bq:=Rk.new w #[.string b1,.string b2,.string b3] 31;have ae:=zaM w (.cells #[.string b1,.string b2,.string b3] 31);have O:=h.up K ae;have az:=h1.up ae;have b0:=h2.up ae;go_enter Tryz.func12,Tryz.ntmps12
 go_upto_region 1 with (fail)
 generalize w.alloc (.cells #[.string b1,.string b2,.string b3] 31)=w1 at *
 have br:∀(e:Int) (i:Nat),D=(s,e,i)→∀W,Below w1.heap.size w1 W→D.2.1=e∧D.2.2=i∧Wrote S f X F w g D.1 (L.length + 16) W:=fun e i hd W hW=>by
  rw [hd];exact ⟨rfl,rfl,X,F,L,last,m,O.up K hW,Mv.below (zad ae ae.size hW),Nat.le_add_right _ _⟩
 have Q:∀(e:Int) (i:Nat),D=(s,e,i)→∀W,Below w1.heap.size w1 W→∀E:Ending,E = .returned (.tuple #[.int .i64 e,.int .i64 (i:Nat)])→E = .returned (.tuple #[.int .i64 D.2.1,.int .i64 (D.2.2:Nat)])∧Wrote S f X F w g D.1 (L.length + 16) W:=fun e i hd W hW E hE=>by
  obtain ⟨q1,q2,q3⟩:=br e i hd W hW;rw [q1,q2];exact ⟨hE,q3⟩
 clear br h1 h2;by_cases c0:d.length=0
 · have bs:((d.length:Int) == 0)=true:=by simpa using c0
   replace D0:=Lib.hid (D0 c0);clear D1 D2 c0;go_wp2_with fail
   refine bodyPost_ret (v:=.tuple #[.int .i64 1,.int .i64 0]) (by simp [results,Tryz.results12,go_sem]) rfl ?_;exact Q _ _ D0.out _ (Below.refl _ _) _ rfl
 · have bs:((d.length:Int) == 0)=false:=by simpa using c0
   by_cases b4:16<p.length∨16<d.length
   · replace D1:=Lib.hid (D1 c0 b4);clear D0 D2;by_cases dr:16<p.length
     · have e1:(p.length:Int) > 16:=by omega
       go_wp2_with fail
       refine bodyPost_ret (v:=.tuple #[.int .i64 13,.int .i64 0]) (by simp [results,Tryz.results12,go_sem]) rfl ?_;exact Q _ _ D1.out _ (Below.refl _ _) _ rfl
     · have e1:¬(p.length:Int) > 16:=by omega
       have e2:(d.length:Int) > 16:=by omega
       go_wp2_with fail
       refine bodyPost_ret (v:=.tuple #[.int .i64 13,.int .i64 0]) (by simp [results,Tryz.results12,go_sem]) rfl ?_;exact Q _ _ D1.out _ (Below.refl _ _) _ rfl
   · obtain ⟨D3,D4⟩:=D2 c0 b4;have dm:p.length≤16:=by omega
     have dn:d.length≤16:=by omega
     have e1:¬(p.length:Int) > 16:=by omega
     have e2:¬(d.length:Int) > 16:=by omega
     clear D0 D1 D2 b4;have kt:=tuplesOf_any az b0 yab yab;have b5:((p ++ d).map Prod.fst).length=p.length + d.length:=by simp
     have kr:=fun W (hb:Below w1.heap.size w1 W) A c (hR:Rd W W.heap.size 6 A ((p ++ d).map Prod.fst).length c (((p ++ d).map Prod.fst).flatMap zeE))=>right15_any K (O.up K hb) hR yab (fun u hu x hx=>by
      obtain ⟨y,hy,rfl⟩:=yaN.1 hu;have:=zfx y.1 x hx;rcases yaz.1 hy with hy | hy
      · have:=hkp y hy;omega
      · have:=hkd y hy;omega)
     rw [b5] at kr;replace b5:=Lib.hid b5;obtain ⟨R,hR⟩:∃R,zaU (p15 f) (zai s).T ((p ++ d).map Prod.fst) 0=R:=⟨_,rfl⟩;rw [hR] at kr D3 D4;obtain ⟨n,hn⟩:∃n,p.length + d.length=n:=⟨_,rfl⟩;rw [hn] at kr kt;replace hn:=Lib.hid hn;go_upto_region 6 with (first
      | (go_at_call 34;refine kt.mono ?_;rintro e w2 ⟨A3,c3,rfl,bu,al⟩)
      | (go_at_call 33;refine (kr _ al _ _ bu).mono ?_;rintro e w3 ⟨rfl,bw⟩))
     have a2:=zad al al.size bw;clear kt kr bu al bw;by_cases am:R.1=0
     · obtain ⟨D5,D6⟩:=D4 am;have d7:(R.1 == 0)=true:=by simpa using am
       clear D3 D4;have kk:=ofKeys_any (az.up a2) (b0.up a2) yab yab hkp hkd;rw [←zgi p,←zgi d] at kk;obtain ⟨P,hP⟩:∃P,zeh p=P:=⟨_,rfl⟩;obtain ⟨C,hC⟩:∃C,zeh d=C:=⟨_,rfl⟩;have d8:∀x ∈ P,x.1.size≤100000:=by rw [←hP];exact zih hkp
       have b6:∀x ∈ C,x.1.size≤100000:=by rw [←hC];exact zih hkd
       have b7:P.length=p.length:=by rw [←hP,zgi]
       have af:C.length=d.length:=by rw [←hC,zgi]
       rw [hP,hC] at kk D5 D6;have b8:=fun W (hb:Below w1.heap.size w1 W) A1 c1 A2 c2 (h1:Rd W W.heap.size 2 A1 P.length c1 (pcs P)) (h2:Rd W W.heap.size 2 A2 C.length c2 (pcs C))=>touched_any K (O.up K hb) h1 h2 yab yab d8 b6;rw [b7,af] at kk b8;clear e1 e2 bs;go_upto_region 9 with (go_at_call 35;refine kk.mono ?_;rintro e w4 ⟨⟨B1,d1,B2,d2,rfl,b9,ba⟩,ag⟩)
       have an:=zad a2 a2.size ag;have bx:=b8 _ an _ _ _ _ b9 ba;clear kk b8 a2 ag az b0;go_upto_region 10 with (go_at_call 36;refine bx.mono ?_;rintro e w5 ⟨⟨A5,c5,u,rfl,bb,bc,bz⟩,ab⟩)
       have bd:=zad an an.size ab;have ah:=bz.weak an.size;obtain ⟨c4,d9⟩:=O.small (revB s);rw [za5 O.ok.has] at c4 d9;have bf:=O.ok.rise _ (zcZ O.ok.has);obtain ⟨T1,T2⟩:=touch bf bb bc;have ds:u.length≤(zai s).keys.length:=bb.len fun x hx=>((bc x).1 hx).1;have da:∀k ∈ u,k.size≤100000:=fun k hk=>c4 k ((bc k).1 hk).1;have ar:Rd w5 w5.heap.size 2 B1 P.length d1 (pcs P):=by rw [b7];exact b9.up ab
       have ai:Rd w5 w5.heap.size 2 B2 C.length d2 (pcs C):=by rw [af];exact ba.up ab
       have ka:=apply_any (p:=P) (ch:=C) (ah w5 (Stay.refl _ _)) bb (fun k hk=>yax (da k hk) yac) yab ar yab ai yab (fun x hx=>yax (b6 x hx) yac);rw [b7,af] at ka;unfold AppO at ka;obtain ⟨⟨U,z,j⟩,hU⟩:∃r,zcb u P C=r:=⟨_,rfl⟩;obtain ⟨⟨G,fz,fj⟩,hG⟩:∃r,zcb (zai s).keys P C=r:=⟨_,rfl⟩;rw [hU] at ka T1 T2;rw [hG] at T1 T2 D5 D6;dsimp only at T1 T2 D5 D6 ka;injection T1 with t1 t2
       subst t1 t2;clear bx b9 ba ar bz ab;go_upto_region 11 with (go_at_call 37;refine ka.mono ?_;rintro e w6 ⟨A6,c6,rfl,a8,aa⟩)
       have H:=zad bd bd.size aa;clear ka;by_cases B:z=0
       · obtain ⟨D7,D8⟩:=D6 B;obtain ⟨T3,T4,T5,T6⟩:=T2 B;subst B;have I:=O.up K H;obtain ⟨_,_,e9,dt⟩:=Rd.own a8;injection e9 with db _ dc
         subst db dc;obtain ⟨bg,bh⟩:=appd_len (p:=P) (c:=C) bf (by rw [hG]);rw [hG] at bg bh;dsimp only at bg bh;have du:G.length≤(zai s).keys.length + (zaN (zai s).keys G).length:=by
          have:=zll (zai s).keys G;have:=ybf (fun c:ByteArray × Bool=>c.2) (zaN (zai s).keys G);omega
         have e3:IntKind.i64.wrap (((zai s).keys.length:Int)-(u.length:Int))=((zai s).keys.length:Int)-(u.length:Int):=IntWalk.i64_in _ ⟨by omega,by omega⟩;have e4:IntKind.i64.wrap (((zai s).keys.length:Int)-(u.length:Int) + (U.length:Int))=(G.length:Int):=by rw [T4];exact IntWalk.i64_in _ ⟨by omega,by omega⟩
         have dv:U.length≤200000:=by omega
         replace T4:=Lib.hid T4;clear D5 D6 T2;go_upto_region 13 with (fail)
         by_cases cq:s.quota<(G.length:Int)
         · have e5:(G.length:Int) > s.quota:=cq;have D9:=Lib.hid (D7 (.inl cq));clear D7 D8;refine wp_region_any yaa ?_;change wpAny _ _ _ _ _ _ _ (World.drew _);generalize hdw:World.drew w6=wz at *
           have J:Below w6.heap.size w6 wz:=by subst hdw;exact ⟨rfl,rfl,rfl,yaj _,fun _ _=>rfl⟩
           replace I:=I.up K J;replace H:=zad H H.size J;have kl:=fun (W:World) (hb:Below wz.heap.size wz W)=>live15_any K (I.up K hb);clear hdw J;have a1:∀W,Below wz.heap.size wz W→(W.cell? ⟨g,1,none⟩=some (.int .i64 s.quota)):=fun W hb=>(I.up K hb).cs.2.1;have B:=Below.refl wz.heap.size wz;have o:=a1 _ B;refine wpAny_of_held (S:=fun W=>W.cell? ⟨g,1,none⟩=some (.int .i64 s.quota)) _ _ _ _ ?_;refine zaa 0 (some 67) o ?_;refine zaa 2 (some 69) o ?_;refine zaa 3 (some 70) o ?_;refine zaa 5 (some 72) o ?_;refine zaa 6 (some 73) o ?_;refine zaa 8 (some 75) o ?_;refine zaa 9 (some 76) o ?_;refine zaa 10 (some 77) o ?_;refine zaa 11 (some 78) o ?_ (hy:=zy1);refine zaP 1 rfl yaa ?_;intro Kf M;go_simp;refine (kl _ B).mono ?_;rintro e W1a ⟨rfl,c9⟩;have au:Below wz.heap.size wz W1a:=zcx B B.size c9;replace o:=a1 _ au;refine M _ _ o ?_;clear M Kf;refine zaa 4 (some 71) o ?_;refine zaa 7 (some 74) o ?_;refine zaa 12 (some 79) o ?_;refine zaa 13 (some 80) o ?_;refine zgo 14 (some 81) rfl rfl yaa yaa yaa (fun _ _ _ h=>h) yae o ?_;simp only [Act.put,yaE,yaU,yaV];refine zgo 15 (some 82) rfl rfl yaa yaa yaa (fun _ _ _ h=>h) yae o ?_;simp only [Act.put,yaE,yaU,yaV]
           refine zgo 16 (some 83) rfl rfl yaa yaa yaa (fun _ _ _ h=>h) yae o ?_;simp only [Act.put,yaE,yaU,yaV];refine zaa 17 (some 84) o ?_;refine wpAnyH_done yaa ?_ _;go_wp2_with fail
           refine bodyPost_ret (v:=.tuple #[.int .i64 42,.int .i64 0]) (by simp [results,Tryz.results12,go_sem]) rfl ?_;exact Q _ _ D9.out _ (zad H H.size au) _ rfl
         · have e5:¬(G.length:Int) > s.quota:=cq;by_cases cr:63<s.L.length
           · have e6:decide (s.L.length≤63)=false:=yaH yab;have D9:=Lib.hid (D7 (.inr cr));clear D7 D8;refine wp_region_any yaa ?_;change wpAny _ _ _ _ _ _ _ (World.drew _);generalize hdw:World.drew w6=wz at *
             have J:Below w6.heap.size w6 wz:=by subst hdw;exact ⟨rfl,rfl,rfl,yaj _,fun _ _=>rfl⟩
             replace I:=I.up K J;replace H:=zad H H.size J;have kl:=fun (W:World) (hb:Below wz.heap.size wz W)=>live15_any K (I.up K hb);have kr:=fun (W:World) (hb:Below wz.heap.size wz W)=>zjr K (I.up K hb);rw [e6] at kr;replace a8:=zau a8 fun j hj=>J.block j (a8.lt j hj).2;replace aa:=zad aa aa.size J;clear hdw J;have a1:∀W,Below wz.heap.size wz W→(W.cell? ⟨g,1,none⟩=some (.int .i64 s.quota)):=fun W hb=>(I.up K hb).cs.2.1;have B:=Below.refl wz.heap.size wz;have o:=a1 _ B;refine wpAny_of_held (S:=fun W=>W.cell? ⟨g,1,none⟩=some (.int .i64 s.quota)) _ _ _ _ ?_;refine zaa 0 (some 67) o ?_;refine zaa 2 (some 69) o ?_;refine zaa 3 (some 70) o ?_;refine zaa 5 (some 72) o ?_;refine zaa 6 (some 73) o ?_;refine zaa 8 (some 75) o ?_;refine zaa 9 (some 76) o ?_;refine zaa 10 (some 77) o ?_;refine zaa 11 (some 78) o ?_ (hy:=zy1);refine zaP 1 rfl yaa ?_;intro Kf M;go_simp;refine (kl _ B).mono ?_;rintro e W1b ⟨rfl,cb⟩;have ac:Below wz.heap.size wz W1b:=zcx B B.size cb;replace o:=a1 _ ac;refine M _ _ o ?_;clear M Kf;refine zaa 4 (some 71) o ?_;refine zaa 7 (some 74) o ?_;refine zaa 12 (some 79) o ?_;refine zaa 13 (some 80) o ?_;refine zaa 14 (some 81) o ?_;refine zaP 15 rfl yaa ?_;intro Kf M;go_simp;refine (kr _ ac).mono ?_;rintro e W2b ⟨rfl,cc⟩;have av:Below wz.heap.size wz W2b:=zcx ac ac.size cc
             replace o:=a1 _ av;refine M _ _ o ?_;clear M Kf;refine zaa 16 (some 83) o ?_;refine zaa 17 (some 84) o ?_;refine wpAnyH_done yaa ?_ _;go_wp2_with fail
             refine bodyPost_ret (v:=.tuple #[.int .i64 42,.int .i64 0]) (by simp [results,Tryz.results12,go_sem]) rfl ?_;exact Q _ _ D9.out _ (zad H H.size av) _ rfl
           · have e6:decide (s.L.length≤63)=true:=yaD yab;have D9:=Lib.hid (D8 (fun q=>q.elim cq cr));clear D7 D8;refine wp_region_any yaa ?_;change wpAny _ _ _ _ _ _ _ (World.drew _);generalize hdw:World.drew w6=wz at *
             have J:Below w6.heap.size w6 wz:=by subst hdw;exact ⟨rfl,rfl,rfl,yaj _,fun _ _=>rfl⟩
             replace I:=I.up K J;replace H:=zad H H.size J;have kl:=fun (W:World) (hb:Below wz.heap.size wz W)=>live15_any K (I.up K hb);have kr:=fun (W:World) (hb:Below wz.heap.size wz W)=>zjr K (I.up K hb);rw [e6] at kr;replace a8:=zau a8 fun j hj=>J.block j (a8.lt j hj).2;replace aa:=zad aa aa.size J;clear hdw J;have a1:∀W,Below wz.heap.size wz W→(W.cell? ⟨g,1,none⟩=some (.int .i64 s.quota)):=fun W hb=>(I.up K hb).cs.2.1;have B:=Below.refl wz.heap.size wz;have o:=a1 _ B;refine wpAny_of_held (S:=fun W=>W.cell? ⟨g,1,none⟩=some (.int .i64 s.quota)) _ _ _ _ ?_;refine zaa 0 (some 67) o ?_;refine zaa 2 (some 69) o ?_;refine zaa 3 (some 70) o ?_;refine zaa 5 (some 72) o ?_;refine zaa 6 (some 73) o ?_;refine zaa 8 (some 75) o ?_;refine zaa 9 (some 76) o ?_;refine zaa 10 (some 77) o ?_;refine zaa 11 (some 78) o ?_ (hy:=zy1);refine zaP 1 rfl yaa ?_;intro Kf M;go_simp;refine (kl _ B).mono ?_;rintro e W1c ⟨rfl,cd⟩;have ad:Below wz.heap.size wz W1c:=zcx B B.size cd;replace o:=a1 _ ad;refine M _ _ o ?_;clear M Kf;refine zaa 4 (some 71) o ?_;refine zaa 7 (some 74) o ?_;refine zaa 12 (some 79) o ?_;refine zaa 13 (some 80) o ?_;refine zaa 14 (some 81) o ?_;refine zaP 15 rfl yaa ?_;intro Kf M;go_simp;refine (kr _ ad).mono ?_;rintro e W2c ⟨rfl,ce⟩;have V:Below wz.heap.size wz W2c:=zcx ad ad.size ce
             replace o:=a1 _ V;refine M _ _ o ?_;clear M Kf;refine zaa 16 (some 83) o ?_;refine zaa 17 (some 84) o ?_;refine wpAnyH_done yaa ?_ _;go_upto_region 15 with (fail)
             have a6:=zad aa aa.size V;have aj:=zad H H.size V;have bi:=I.up K V;have de:m.l.length<63:=by have:=bi.len_eq;omega
             have cf:=ai.up (zad a6 a6.size (zbj W2c));have hd:=bi.up K (zbj W2c);have Y:Rk W2c.drew w.heap.size _ _:=bq.same (aj.block _ bq.lt);have Z:=fun W (hb:Below W2c.drew.heap.size W2c.drew W)=>(Y.same (hb.block _ Y.lt)).c3y;obtain ⟨y0,y1,y2⟩:=Z _ (Below.refl _ _);have yl:=Y.lt;have k1:=zcP hd.toStR;have k2:=fun W (hb:Below W2c.drew.heap.size W2c.drew W)=>schema15_any K (hd.up K hb) (revB s);rw [za5 I.ok.has] at k2;simp only [Tm.val] at k2;have k3:=fun W (hb:Below W2c.drew.heap.size W2c.drew W)=>keysOf_any (cf.up hb) yab;rw [af] at k3;have df:¬(w.heap.size=g∨m.row.ownBlock=some w.heap.size):=fun q=>by
              rcases q with q | q
              · have:=h.box.lt;omega
              · have:=(h.row.lt _ q).2;omega
             clear hkp hkd bi ai kl kr;go_region_held3 (fun W=>W.cell? ⟨w.heap.size,0,none⟩=some (.string b1)∧W.cell? ⟨w.heap.size,1,none⟩=some (.string b2)∧W.cell? ⟨w.heap.size,2,none⟩=some (.string b3))
              (first | exact ct | exact cn | exact cl | exact cg | go_keep | fail)
              ((first
               | (with_reducible refine k1.mono ?_;rintro e1 v1 ⟨rfl,ak⟩;have cg:=Z v1 ak)
               | (with_reducible refine (k2 _ ak).mono ?_;rintro e2 v2 ⟨⟨t,rfl,ht,ci,dg⟩,cj⟩;have a7:=zad ak ak.size cj;have cl:=Z v2 a7)
               | (with_reducible refine (k3 _ a7).mono ?_;rintro e3 v3 ⟨A7,c7,rfl,cm,bj⟩;have N:=zad a7 a7.size bj;have cn:=Z v3 N)
               | (with_reducible refine (badd_any K (hd.up K N).toStR _ _ _ _ _ _ _ _ _ _ _ _ _ _ _ _ hmax yab).mono ?_;rintro e4 v4 ⟨rfl,ga,ca,cp,ag,aw,bl⟩;have ct:=((Y.same (N.block _ Y.lt)).same (bl.old _ (yaw Y.lt N.size) df)).c3y)
               | fail))
             have ho:=hd.up K N;have cu:(C.map Prod.fst).length=d.length:=by rw [yay,af]
             have cv:KeyX X v3 A7 c7 (C.map Prod.fst):=fun w' h'=>by
              obtain ⟨_,_,e8,ao⟩:=Rd.own (h'.row cm fun b q=>(hd.up K a7).lt b q);injection e8 with bm _ bn
              subst bm bn;rw [cu];exact ao
             have cw:=ht.step (Stay.below (X:=X) bj) fun _ q=>.inl q;have cx:Rm.cells ⟨⟨(zai s).text,(zai s).T,G,(b1,b2,b3),false,C.map Prod.fst⟩,t,revB s + 1,A7,c7⟩=[.int .i64 (revB s + 1),.string b1,.string b2,.string b3,.bool false,.slice A7 d.length c7,.string (zai s).text,.slice t.Ay t.ty.length t.cy,.map t.mb,.slice t.Ar t.K.length t.cr]:=by
              unfold Rm.cells;dsimp only;rw [cu,ci]
             obtain ⟨vv,aq⟩:∃vv:Rv Tb Nd15,vv=⟨(zai s).text,(zai s).T,G,(b1,b2,b3),false,C.map Prod.fst⟩:=⟨_,rfl⟩;obtain ⟨X1,F1,cz,d0⟩:∃X' F',StR S X' v4 F' g (zaQ s vv) L last { m with A:=some ⟨ga,0,none⟩,c:=ca,l:=m.l ++ [⟨vv,t,revB s + 1,A7,c7⟩] }∧Mv X F v3 X' F' v4:=by
              subst aq;exact StR.added K ho.toStR cw ci.symm dg.symm cv hmax de (by rw [cx];exact cp) ag aw bl
             have bo:Stay X v3 v4:=d0.stay hd.sub;have ax:=zad (zad a6 a6.size (zbj W2c)) (zad a6 a6.size (zbj W2c)).size N;have d3:=ah v4 ((Stay.below ax).trans bo fun b q=>.inl (O.lt b q));have ay:=zad (zad V V.size (zbj W2c)) (zad V V.size (zbj W2c)).size N;obtain ⟨_,_,e8,ao⟩:=Rd.own (((Stay.below (X:=(·<w5.heap.size)) ay).trans bo fun b q=>.inl (yaw (O.lt b q) bd.size)).row a8 fun _ q=>q);injection e8 with bm _ bn
             subst bm bn;have kd:=diff_own d3 ao yab yab;rw [T3] at kd;have hkd:∀x ∈ zaN (zai s).keys G,x.1.size≤100000:=fun x hx=>by
              obtain ⟨y,hy,e⟩:=yaN.1 (bh x hx);rw [←e];exact b6 y hy
             have dh:=zad (zad aj aj.size (zbj W2c)) (zad aj aj.size (zbj W2c)).size N;clear cx hd Z k1 k2 k3 cg cl cn ct cf Y y0 y1 y2 yl ho cv cw cp ag aw bl bo ax ay d3 ao a8 cm ah ak cj bj a7 N Q;obtain ⟨dd,d4⟩:∃dd,zaN (zai s).keys G=dd:=⟨_,rfl⟩;rw [d4] at kd hkd bg;go_wp2_with (first
              | (go_at_call 42;refine kd.mono ?_;rintro e5 v5 ⟨A8,c8,rfl,di,ab⟩;have kt:=turn_any K (cz.up K ab) (A:=A8) (c:=c8) (d:=dd) (fun w' h'=>zqx (h'.row di fun b q=>cz.lt b q)) yab hkd)
              | (go_at_call 41;refine kt.mono ?_;rintro e6 v6 ⟨rfl,X2,F2,dw,d5,dj⟩)
              | fail)
             refine bodyPost_ret (v:=.tuple #[.int .i64 0,.int .i64 0]) (by simp [results,Tryz.results12,go_sem]) rfl ?_;have d6:=D9.out;rw [←aq] at d6;rw [d6] at bp ⊢;have dk:Rises vv.keys:=by rw [aq];exact T6
             obtain ⟨n1,n2⟩:=O.spb.next (v:=vv) O.ok.has O.fl0 bf dk;have dl:zaN (zai s).keys vv.keys=dd:=by rw [aq];exact d4
             rw [dl] at n1 n2;rw [zbd] at d5;exact ⟨rfl,X2,F2,_,_,_,⟨d5,n1,bp⟩,((((Mv.below ae).trans (Mv.below dh)).trans d0).trans (Mv.below ab)).trans dj,by have:=n2.len;omega⟩
       · have dx:(((z:Nat):Int) == 0)=false:=by simpa using B
         have D9:=Lib.hid (D5 B);clear D5 D6 T2;go_wp2_with fail
         refine bodyPost_ret (v:=.tuple #[.int .i64 (z:Nat),.int .i64 (j:Nat)]) (by simp [results,Tryz.results12,go_sem]) rfl ?_;exact Q _ _ D9.out _ H _ rfl
     · have hD:=D3 am;replace hD:=Lib.hid hD;have d7:(R.1 == 0)=false:=by simpa using am
       clear D3 D4;go_wp2_with fail
       refine bodyPost_ret (v:=.tuple #[.int .i64 R.1,.int .i64 (R.2:Nat)]) (by simp [results,Tryz.results12,go_sem]) rfl ?_;exact Q _ _ hD.out _ a2 _ rfl
end
end
section
open Go.RowKit
variable {n B k:Nat} {w:World}
abbrev zow:=Lib.len8tab
theorem zrb:zow.size=256:=by decide +kernel
theorem tab8_ok:∀i:Fin 256,zow.data.toList[i.val]?.getD 9≤8∧(zow.data.toList[i.val]?.getD 9=0↔i.val=0):=by decide +kernel
theorem tab8_at (i:Nat) (h:i<256) (h':i<zow.size):zow[i].toNat≤8∧(zow[i].toNat=0↔i=0):=by
 have H:=tab8_ok ⟨i,h⟩;have e:zow.data.toList[i]?.getD 9=zow[i]:=by
  rw [yal (by rw [ybm];exact h')];rfl
 simp only [e] at H;refine ⟨UInt8.le_iff_toNat_le.1 H.1,?_⟩;constructor
 · intro e;exact H.2.1 (UInt8.toNat_inj.1 e)
 · intro e;rw [H.2.2 e];rfl
theorem nb_small (h:n<256):nb n=if n=0 then 0 else 1:=by
 by_cases b:n=0
 · subst b;rw [zew];rfl
 · rw [zis yab,yak b,show n / 256=0 from by omega,zew]
theorem nb_of (n k t:Nat) (hn:n / 2 ^ (8 * k)<256) (hp:0<n / 2 ^ (8 * k)∨k=0) (ht:t≤8∧(t=0↔n / 2 ^ (8 * k)=0)):(8 * k + t + 7) / 8=nb n:=by
 induction k generalizing n with
 | zero =>
  simp at hn ht ⊢;rw [nb_small hn];split <;> omega
 | succ k ih =>
  have e:n / 2 ^ (8 * (k + 1))=(n / 256) / 2 ^ (8 * k):=by
   rw [Nat.div_div_eq_div_mul,show 2 ^ (8 * (k + 1))=256 * 2 ^ (8 * k) from by rw [show 8 * (k + 1)=8 + 8 * k from by omega,Nat.pow_add]]
  rw [e] at hn ht hp;have b:0<n / 256:=by
   rcases hp with hp | hp
   · exact Nat.pos_of_ne_zero (fun h=>by rw [h] at hp;simp at hp)
   · omega
  have:=ih (n / 256) hn (.inl (by rcases hp with hp | hp <;> omega)) ht;rw [zis (by omega)];omega
theorem zdH (w:World) (x i:Int) (k:Nat) (c:Int) (hc:c=8 * k) (h0:0≤i) (h1:i<256) (hp:0<i∨k=0) (hk:k≤7) (hx:i=x / (2 ^ (8 * k):Nat)) (hx0:0≤x) (h':i.toNat<zow.size) :
 ∃K:Nat,Ending.returned (.int .i64 (wrap64 (c + wrap64 (zow[i.toNat].toNat:Int)))) = .returned (.int .i64 K)∧K≤64∧(K + 7) / 8=nb x.toNat∧w=w:=by
 have b:=tab8_at i.toNat yab h';generalize zow[i.toNat].toNat=t at b;have e:x.toNat / 2 ^ (8 * k)=i.toNat:=by
  rw [hx];obtain ⟨n,rfl⟩:=Int.eq_ofNat_of_zero_le hx0;rw [←Int.natCast_ediv,ybk,ybk]
 refine ⟨8 * k + t,?_,by omega,?_,rfl⟩
 · congr 2
   unfold wrap64;omega
 · refine nb_of x.toNat k t yab yab ?_;rw [e];exact b
theorem len_fin0 (w:World) (x:Int) (h0:0≤x) (h1:x<256) (h':x.toNat<zow.size) :
 ∃K:Nat,Ending.returned (.int .i64 (wrap64 (wrap64 (zow[x.toNat].toNat:Int)))) = .returned (.int .i64 K)∧K≤64∧(K + 7) / 8=nb x.toNat∧w=w:=by
 have:=zdH w x x 0 0 rfl h0 h1 (.inr rfl) yab yaf h0 h';rwa [Int.zero_add] at this
theorem zow8 (i:Int) (h:i.toNat<zow.size):((zow[i.toNat]'h).toNat:Int)=Lib.len8 i:=by
 unfold Lib.len8;rw [getElem?_pos zow i.toNat h];rfl
theorem mod_gone {x:Int} (h:x<2 ^ 64):x / 4294967296 / 65536 / 256<256:=by omega
theorem len64_any (x:Int) (h0:0≤x) (h1:x<2 ^ 64) (w:World) :
 Calls Tryz.prog 137 #[.int .u64 x] w fun e w'=>∃k:Nat,e = .returned (.int .i64 k)∧k≤64∧(k + 7) / 8=nb x.toNat∧w=w':=by
 have d:=Lib.hid h1;clear h1;have b:=Lib.hid zrb;have hs:Lib.len8tab.size=256:=zrb;go_enter Tryz.func137,Tryz.ntmps137
 go_wp2
 all_goals go_ret
 · have:=mod_gone d.out;have t:=zdH w x (x / 4294967296 / 65536 / 256 % 256) 7 56 rfl yab yab yab yab yab h0 (by rw [b.out];omega);rw [zow8] at t;exact t
 · exact zdH w x (x / 4294967296 / 65536) 6 48 rfl yab yab yab yab yab h0 (by rw [b.out];omega)
 · exact zdH w x (x / 4294967296 / 256) 5 40 rfl yab yab yab yab yab h0 (by rw [b.out];omega)
 · exact zdH w x (x / 4294967296) 4 32 rfl yab yab yab yab yab h0 (by rw [b.out];omega)
 · exact zdH w x (x / 65536 / 256) 3 24 rfl yab yab yab yab yab h0 (by rw [b.out];omega)
 · exact zdH w x (x / 65536) 2 16 rfl yab yab yab yab yab h0 (by rw [b.out];omega)
 · exact zdH w x (x / 256) 1 8 rfl yab yab yab yab yab h0 (by rw [b.out];omega)
 · exact len_fin0 w x h0 yab (by rw [b.out];omega)
theorem ziY:(Tryz.prog.info? 5).map (fun i=>(i.zero,i.size,i.bytes))=some (some (.int .u8 0),1,1):=by kernel_rfl
theorem be_step {n:Int} {m j:Nat} (h0:0≤n) (hm:m=nb n.toNat) (hj:j<m) :
 bv ((be n.toNat).take (j + 1))=bv ((be n.toNat).take j) ++ [Value.int .u8 (n / 2 ^ (8 * (m-1-j)) % 256)]:=by
 obtain ⟨x,rfl⟩:=Int.eq_ofNat_of_zero_le h0;rw [ybk] at hm ⊢;have b:=be_get x j yab;rw [←hm] at b;obtain ⟨d,f⟩:=yao.1 b;rw [ybB d,zaY,f];congr 1
 simp only [bv,yaW,ycC];congr 2
 rw [show (256:Nat) ^ (m-1-j)=2 ^ (8 * (m-1-j)) from by rw [show (256:Nat)=2 ^ 8 from rfl,←Nat.pow_mul]];rw [UInt8.toNat_ofNat'];generalize 8 * (m-1-j)=s;have e:((2:Int) ^ s)=((2 ^ s:Nat):Int):=by simp
 rw [e,←Int.natCast_ediv];omega
theorem num_fin {e:TypeId} {v:Value} {m x:Nat} {xs:List Value} (hm:m=nb x) (h8:m≤8)
 (h:w.ownsRow B e 1 v (k + 1 + m) (xs ++ [Value.int .u8 m] ++ bv ((be x).take m))):w.ownsRow B e 1 v (k + (nb x + 1)) (xs ++ bv (num x)):=by
 have b:bv (num x)=[Value.int .u8 m] ++ bv ((be x).take m):=by
  rw [ybi (by rw [zbV];omega),num,←hm];simp [bv,Nat.mod_eq_of_lt (show m<256 from by omega)]
 rw [b,←hm,←yaB,show k + (m + 1)=k + 1 + m from by omega];exact h
theorem addNumber_any (B:Nat) (v:Value) (k:Nat) (xs:List Value) (n:Int) (h0:0≤n) (h1:n<2 ^ 64) (w:World) (hown:w.ownsRow B 5 1 v k xs) (hB:B≤w.heap.size) (hk:k≤100000000000) :
 Calls Tryz.prog 87 #[v,.int .u64 n] w fun e w'=>∃v',e = .returned v'∧w'.ownsRow B 5 1 v' (k + (nb n.toNat + 1)) (xs ++ bv (num n.toNat))∧Below B w w':=by
 obtain ⟨M,hi,o,p,q⟩:=info_parts ziY;obtain ⟨m,D⟩:∃m,m=nb n.toNat:=⟨_,rfl⟩;have E:m≤8:=by rw [D];exact zir yab
 have F:=Lib.hid D;have O:=Lib.hid h1;have N:=Lib.hid hown;clear h1 D hown;go_enter Tryz.func87,Tryz.ntmps87
 go_wp2_with fail
 refine (len64_any _ h0 O.out _).mono ?_;rintro e w' ⟨K,rfl,P,G,rfl⟩;have H:((K:Int) + 7) / 8=(m:Int):=by have:=F.out;omega
 clear G;go_wp2_with (at_builtin;go_must (refine zab _ rfl (.tmp 11) (.tmp 14) 24 24 rfl B 5 M (.int .u8 0) 1 1 Tryz.underlying24 hi o p q rfl yac v k xs rfl (N.out.alloc _) _ 1 [_] rfl (Src.ofSlice _ Tryz.underlying24 _ 1 1 _ rfl (cell_one_new _ _ _) (fun u s=>by simp at s;subst s;rfl)) yad yab yag ?_);intro R w1 b x y)
 have z:Below B w w1:=zaf ((Below.refl _ _).alloc hB _) x (N.out.alloc _) yag (yaj _);clear x y;go_loopw [0,17] (fun v i wr=>∃j:Nat,j≤m∧i = .int .i64 j∧wr.ownsRow B 5 1 v (k + 1 + j) (xs ++ [Value.int .u8 m] ++ bv ((be n.toNat).take j))∧Below B w wr) (fun _ i _=>m-(intOf i).toNat)
 case atStart=>exact ⟨0,yap _,rfl,by simpa [bv] using b,z⟩
 case round =>
  obtain ⟨j,T,rfl,d,f⟩:=hrel;have I:=Lib.hid d;have Q:=f.size;clear d b z;by_cases J:j<m
  · go_wp2_with (at_builtin;go_must (refine zab _ rfl (.tmp 20) (.tmp 29) 24 24 rfl B 5 M (.int .u8 0) 1 1 Tryz.underlying24 hi o p q rfl yac _ (k + 1 + j) _ rfl (I.out.alloc _) _ 1 [_] rfl (Src.ofSlice _ Tryz.underlying24 _ 1 1 _ rfl (cell_one_new _ _ _) (fun u s=>by simp at s;subst s;rfl)) yad yab yag ?_);intro U w2 g A C)
    have L:Below B w w2:=zaf (f.alloc yab _) A (I.out.alloc _) yag (yaj _);clear A C;refine ⟨⟨j + 1,by omega,by go_num,?_,L⟩,by simp [intOf];omega⟩;rw [be_step h0 F.out J,←yaB];exact g
  · have e:j=m:=by omega
    subst e;clear H;go_wp2
    go_ret
    exact ⟨_,rfl,num_fin F.out E I.out,f⟩
def zcO (us:List Int):List UInt8:=us.flatMap fun u=>num u.toNat
theorem zqo (us:List Int) (k:Nat) (u:Int) (h:us[k]? = some u):zcO (us.take (k + 1))=zcO (us.take k) ++ num u.toNat:=by
 obtain ⟨b,d⟩:=yao.1 h;rw [zcO,ybB b,yaZ,d];simp [zcO]
theorem nums_le (us:List Int) (h:∀u ∈ us,0≤u∧u<2 ^ 64):(zcO us).length≤9 * us.length:=by
 induction us with
 | nil=>simp [zcO]
 | cons u r ih =>
  have b:=ih fun x d=>h x (yau _ d);have f:=h u (yat ..);have g:=zir (n:=u.toNat) yab;simp only [zcO,yaS,yam,zcs,yaq] at b ⊢;omega
theorem zkv (us:List Int) (h:∀u ∈ us,0≤u∧u<2 ^ 64) (k:Nat):(zcO (us.take k)).length≤9 * k:=by
 have:=nums_le (us.take k) fun u b=>h u (yb4 b);have d:(us.take k).length≤k:=ycJ _ _;omega
theorem Rd.getInt {c:Nat} {A:Option Addr} {kd:IntKind} {us:List Int} (h:Rd w B 1 A n c (us.map (Value.int kd))) (hk:k<n) :
 ∃b o u,A=some ⟨b,o,none⟩∧b<B∧us[k]? = some u∧w.cell? ⟨b,o + k,none⟩=some (.int kd u):=by
 obtain ⟨b,o,v,e,hb,d,g⟩:=h.get hk;rw [ya0] at d;cases f:us[k]? with
 | none=>rw [f] at d;cases d
 | some u=>rw [f] at d;simp at d;subst d;exact ⟨b,o,u,e,hb,rfl,g⟩
theorem put_any1 (A:Option Addr) (n c:Nat) (us:List Int) (w:World) (hr:Rd w w.heap.size 1 A n c (us.map (Value.int .u64))) (hu:∀u ∈ us,0≤u∧u<2 ^ 64) (hn:n≤1000000000) :
 Calls Tryz.prog 47 #[.slice A n c] w fun e w'=>∃v',e = .returned v'∧w'.ownsRow w.heap.size 5 1 v' (zcO us).length (bv (zcO us))∧Below w.heap.size w w':=by
 have x:=Lib.hid hr;have y:=Lib.hid hu;clear hr hu;go_enter Tryz.func47,Tryz.ntmps47
 go_wp2
 go_loopw [3,8] (fun v i wr=>∃k:Nat,k≤n∧i = .int .i64 k∧wr.ownsRow w.heap.size 5 1 v (zcO (us.take k)).length (bv (zcO (us.take k)))∧Below w.heap.size w wr) (fun _ i _=>n-(intOf i).toNat)
 case atStart=>exact ⟨0,yap _,rfl,World.ownsRow_nil _ _ _ _,Below.refl _ _⟩
 case round =>
  obtain ⟨k,hk,rfl,d,hb⟩:=hrel;have z:=Lib.hid d;have m:=Lib.hid hb;have p:=hb.size;clear d hb;by_cases q:k<n
  · obtain ⟨b,o,u,rfl,_,B,D⟩:=(x.out.below m.out).getInt q;have C:=Lib.hid B;clear B;have g:=y.out u (yar C.out);have j:=Lib.hid g;clear g;go_wp2_with fail
    refine (addNumber_any w.heap.size _ _ _ u j.out.1 j.out.2 wr z.out p (by have:=zkv us y.out k;omega)).mono ?_;rintro e w' ⟨v',rfl,f,s⟩;go_wp2
    refine ⟨⟨k + 1,by omega,by go_num,?_,m.out.trans s⟩,by simp [intOf];omega⟩;rw [zqo us k u C.out,zaY,yam,zcs];exact f
  · have e:k=n:=by omega
    subst e;go_wp2
    go_ret
    have h:=z.out;rw [ybi (by have:=x.out.len;simp at this;omega)] at h;exact ⟨_,rfl,h,m.out⟩
def text (s:ByteArray):List UInt8:=num s.size ++ s.data.toList
def texts (ss:List ByteArray):List UInt8:=ss.flatMap text
theorem size_eq (s:ByteArray):s.data.toList.length=s.size:=by rw [ybm];rfl
theorem zeD (s:ByteArray):(text s).length=nb s.size + 1 + s.size:=by simp [text,zcs]
theorem zoz (ss:List ByteArray) (k:Nat) (s:ByteArray) (h:ss[k]? = some s):texts (ss.take (k + 1))=texts (ss.take k) ++ text s:=by
 obtain ⟨b,d⟩:=yao.1 h;rw [texts,ybB b,yaZ,d];simp [texts]
theorem zjv (ss:List ByteArray) (k:Nat):(texts (ss.take k)).length≤(texts ss).length:=by
 have:texts ss=texts (ss.take k) ++ texts (ss.drop k):=by rw [texts,texts,texts,←yaZ,ybg]
 rw [this,yam];omega
theorem Rd.getStr {c:Nat} {A:Option Addr} {ss:List ByteArray} (h:Rd w B 1 A n c (ss.map Value.string)) (hk:k<n) :
 ∃b o s,A=some ⟨b,o,none⟩∧b<B∧ss[k]? = some s∧w.cell? ⟨b,o + k,none⟩=some (.string s):=by
 obtain ⟨b,o,v,e,hb,d,g⟩:=h.get hk;rw [ya0] at d;cases f:ss[k]? with
 | none=>rw [f] at d;cases d
 | some u=>rw [f] at d;simp at d;subst d;exact ⟨b,o,u,e,hb,rfl,g⟩
theorem zjQ (s:ByteArray):byteCells s=bv s.data.toList:=rfl
theorem addTexts_any (B:Nat) (v:Value) (m:Nat) (xs:List Value) (A:Option Addr) (n c:Nat) (ss:List ByteArray) (w:World) (hown:w.ownsRow B 5 1 v m xs) (hB:B≤w.heap.size)
 (hr:Rd w B 1 A n c (ss.map Value.string)) (hm:m + (texts ss).length≤100000000000) :
 Calls Tryz.prog 88 #[v,.slice A n c] w fun e w'=>∃v',e = .returned v'∧w'.ownsRow B 5 1 v' (m + (texts ss).length) (xs ++ bv (texts ss))∧Below B w w':=by
 obtain ⟨R,hi,C,D,E⟩:=info_parts ziY;have M:=Lib.hid hr;have p:=Lib.hid hown;have N:n≤9223372036854775807:=by have:=hr.capm;have:=hr.cap;unfold maxLen at *;omega
 clear hr hown;go_enter Tryz.func88,Tryz.ntmps88
 go_wp2
 go_loopw [0,9] (fun u i wr=>∃k:Nat,k≤n∧i = .int .i64 k∧wr.ownsRow B 5 1 u (m + (texts (ss.take k)).length) (xs ++ bv (texts (ss.take k)))∧Below B w wr) (fun _ i _=>n-(intOf i).toNat)
 case atStart=>exact ⟨0,yap _,rfl,by simpa [texts,bv] using p.out,Below.refl _ _⟩
 case round =>
  obtain ⟨k,hk,rfl,d,hb⟩:=hrel;have O:=Lib.hid d;have F:=Lib.hid hb;have T:=hb.size;clear d hb;by_cases G:k<n
  · obtain ⟨b,o,s,rfl,_,H,Z⟩:=(M.out.below F.out).getStr G;have Hx:=Lib.hid H;have x:m + (texts (ss.take (k + 1))).length≤100000000000:=by have:=zjv ss (k + 1);omega
    have g:=zoz ss k s H;rw [g,yam,zeD] at x;have y:=Lib.hid g;clear H g;obtain ⟨q,I⟩:∃q,q=(texts (ss.take k)).length:=⟨_,rfl⟩;rw [←I] at x;have J:=Lib.hid I;clear I;have U:s.size≤100000000000:=by omega
    go_wp2_with fail
    refine (addNumber_any B _ _ _ s.size yab yab wr O.out yab (by have:=J.out;omega)).mono ?_;rintro e w1 ⟨V,rfl,f,z⟩;have P:=z.size;go_wp2_with (at_builtin;go_must (refine zab _ rfl (.tmp 18) (.tmp 19) 24 9 rfl B 5 R (.int .u8 0) 1 1 Tryz.underlying24 hi C D E rfl yac V _ _ rfl f _ s.size (byteCells s) rfl (Src.ofString _ Tryz.underlying9 s) (by have:=J.out;simp only [maxLen,ybk];omega) (by have:=J.out;simp only [ybk];omega) yab ?_);intro v2 w2 j K Q)
    have L:Below B w w2:=zaf (F.out.trans z) K f yab (yaj _);refine ⟨⟨k + 1,by omega,by go_num,?_,L⟩,by simp [intOf];omega⟩;have X:xs ++ bv (texts (ss.take (k + 1)))=xs ++ bv (texts (ss.take k)) ++ bv (num s.size) ++ byteCells s:=by
     rw [y.out,zjQ];simp [zaY,text]
    have Y:m + (texts (ss.take (k + 1))).length=m + (texts (ss.take k)).length + (nb s.size + 1) + s.size:=by
     rw [y.out,yam,zeD];omega
    rw [X,Y];exact j
  · have e:k=n:=by omega
    subst e;go_wp2
    go_ret
    have h:=O.out;rw [ybi (by have:=M.out.len;simp at this;omega)] at h;exact ⟨_,rfl,h,F.out⟩
theorem texts_any (A:Option Addr) (n c:Nat) (ss:List ByteArray) (w:World) (hr:Rd w w.heap.size 1 A n c (ss.map Value.string)) (hm:(texts ss).length≤100000000000) :
 Calls Tryz.prog 48 #[.slice A n c] w fun e w'=>∃v',e = .returned v'∧w'.ownsRow w.heap.size 5 1 v' (texts ss).length (bv (texts ss))∧Below w.heap.size w w':=by
 have f:=Lib.hid hr;clear hr;go_enter Tryz.func48,Tryz.ntmps48
 go_wp2_with fail
 refine (addTexts_any w.heap.size _ 0 [] A n c ss w (World.ownsRow_nil _ _ _ _) (yaj _) f.out yab).mono ?_;rintro e g ⟨j,rfl,b,d⟩;rw [yaG,yba] at b;go_wp2
 go_ret
 exact ⟨_,rfl,b,d⟩
theorem lists_any (A:Option Addr) (n c:Nat) (ss:List ByteArray) (w:World) (hr:Rd w w.heap.size 1 A n c (ss.map Value.string)) (hm:(texts ss).length≤10000000000) (hn:n≤10000000000) :
 Calls Tryz.prog 49 #[.slice A n c] w fun e w'=>∃v',e = .returned v'∧w'.ownsRow w.heap.size 5 1 v' (num n ++ texts ss).length (bv (num n ++ texts ss))∧Below w.heap.size w w':=by
 have q:=Lib.hid hr;clear hr;go_enter Tryz.func49,Tryz.ntmps49
 have m:n≤9223372036854775807:=by omega
 go_wp2_with fail
 refine (put_any1 _ 1 1 [(n:Int)] _ (by simpa using Rd.lit w #[.int .u64 n] _ 1 1 rfl (by simp [maxLen])) (fun u o=>by simp at o;subst o;omega) yab).mono ?_;rintro e s ⟨y,rfl,b,d⟩;have p:zcO [(n:Int)]=num n:=by simp [zcO]
 rw [p] at b;simp only [World.size_alloc] at b d;have x:=Lib.hid b;have f:=d.size;simp only [World.size_alloc] at f;have j:=Lib.hid d;clear b p d;go_wp2_with fail
 refine (addTexts_any (w.heap.size + 1) _ _ _ A n c ss s x.out f (((q.out.alloc (yaj _) _).more (ya8 _)).below j.out) (by have:=zir (n:=n) yab;rw [zcs];omega)).mono ?_;rintro e z ⟨B,rfl,g,k⟩;go_wp2
 go_ret
 refine ⟨_,rfl,?_,((Below.refl _ _).alloc (yaj _) _).trans ((j.out.trans k).mono yab)⟩;rw [zaY,yam];exact zax g yab
end
end Go.Proofs.YtmblgnddgmfkhaaGreat
