import Derived.Test.YtmblgnddgmfkhaaGreatK14
set_option maxRecDepth 100000
set_option maxHeartbeats 4000000
namespace Go.Proofs.YtmblgnddgmfkhaaGreat
section
open Go.RowKit
section
variable {w:World}
theorem names_any12 (a b c x y z:ByteArray) :
 Calls Tryz.prog 103 #[.agg #[.string a,.string b,.string c,.string x,.string y,.string z]] w fun e w'=>e = .returned (.agg #[.string a,.string b,.string c,.string x,.string y,.string z])∧Below w.heap.size w w':=by
 have g:=Bk.new w #[.string a,.string b,.string c,.string x,.string y,.string z] 51;have f:=Bk.new2 w (.cells #[.string a,.string b,.string c,.string x,.string y,.string z] 51) #[.string ⟨#[]⟩,.string ⟨#[]⟩,.string ⟨#[]⟩,.string ⟨#[]⟩,.string ⟨#[]⟩,.string ⟨#[]⟩] 185;have j:Below w.heap.size w ((w.alloc (.cells #[.string a,.string b,.string c,.string x,.string y,.string z] 51)).alloc (.cells #[.string ⟨#[]⟩,.string ⟨#[]⟩,.string ⟨#[]⟩,.string ⟨#[]⟩,.string ⟨#[]⟩,.string ⟨#[]⟩] 185)):=((Below.refl _ w).alloc (yaj _) _).alloc (size_alloc (yaj _)) _;have k:=g.alloc (.cells #[.string ⟨#[]⟩,.string ⟨#[]⟩,.string ⟨#[]⟩,.string ⟨#[]⟩,.string ⟨#[]⟩,.string ⟨#[]⟩] 185);go_enter Tryz.func103,Tryz.ntmps103
 go_upto_region 1 with (fail)
 generalize (w.alloc (.cells #[.string a,.string b,.string c,.string x,.string y,.string z] 51)).alloc (.cells #[.string ⟨#[]⟩,.string ⟨#[]⟩,.string ⟨#[]⟩,.string ⟨#[]⟩,.string ⟨#[]⟩,.string ⟨#[]⟩] 185)=B at *
 obtain ⟨t0,C,D,t3,t4,t5⟩:=k.c6;have E:=k.lt;obtain ⟨z0,F,G,z3,z4,z5⟩:=f.c6;have H:=f.lt;have I:=f.fz;go_wp2_with fail
 obtain ⟨m,hb⟩:=set6 f j (ybd _) (.string a) (.string b) (.string c) (.string x) (.string y) (.string z);obtain ⟨n,o,q,s,u,A⟩:=m.c6;refine bodyPost_ret (v:=.agg #[.string a,.string b,.string c,.string x,.string y,.string z]) (by simp [results,Tryz.results103,go_sem,n,o,q,s,u,A];try rfl) rfl ?_;exact ⟨rfl,hb⟩
theorem tupleOf_any12 (a b c x y z:ByteArray) :
 Calls Tryz.prog 142 #[.agg #[.string a,.string b,.string c,.string x,.string y,.string z]] w fun e w'=>e = .returned (.agg #[.string a,.string b,.string c,.string x,.string y,.string z])∧Below w.heap.size w w':=by
 have g:=Bk.new w #[.string a,.string b,.string c,.string x,.string y,.string z] 185;have f:=Bk.new2 w (.cells #[.string a,.string b,.string c,.string x,.string y,.string z] 185) #[.string ⟨#[]⟩,.string ⟨#[]⟩,.string ⟨#[]⟩,.string ⟨#[]⟩,.string ⟨#[]⟩,.string ⟨#[]⟩] 51;have j:Below w.heap.size w ((w.alloc (.cells #[.string a,.string b,.string c,.string x,.string y,.string z] 185)).alloc (.cells #[.string ⟨#[]⟩,.string ⟨#[]⟩,.string ⟨#[]⟩,.string ⟨#[]⟩,.string ⟨#[]⟩,.string ⟨#[]⟩] 51)):=((Below.refl _ w).alloc (yaj _) _).alloc (size_alloc (yaj _)) _;have k:=g.alloc (.cells #[.string ⟨#[]⟩,.string ⟨#[]⟩,.string ⟨#[]⟩,.string ⟨#[]⟩,.string ⟨#[]⟩,.string ⟨#[]⟩] 51);go_enter Tryz.func142,Tryz.ntmps142
 go_upto_region 1 with (fail)
 generalize (w.alloc (.cells #[.string a,.string b,.string c,.string x,.string y,.string z] 185)).alloc (.cells #[.string ⟨#[]⟩,.string ⟨#[]⟩,.string ⟨#[]⟩,.string ⟨#[]⟩,.string ⟨#[]⟩,.string ⟨#[]⟩] 51)=B at *
 obtain ⟨t0,C,D,t3,t4,t5⟩:=k.c6;have E:=k.lt;obtain ⟨z0,F,G,z3,z4,z5⟩:=f.c6;have H:=f.lt;have I:=f.fz;go_wp2_with fail
 obtain ⟨m,hb⟩:=set6 f j (ybd _) (.string a) (.string b) (.string c) (.string x) (.string y) (.string z);obtain ⟨n,o,q,s,u,A⟩:=m.c6;refine bodyPost_ret (v:=.agg #[.string a,.string b,.string c,.string x,.string y,.string z]) (by simp [results,Tryz.results142,go_sem,n,o,q,s,u,A];try rfl) rfl ?_;exact ⟨rfl,hb⟩
end
theorem znm:∀(r:List ByteArray) (x:ByteArray),x ++ zit ⟨#[0]⟩ r=keyL (x::r)
 | [],x=>by
  show x ++ ⟨#[]⟩=x;exact ByteArray.append_empty
 | y::r,x=>by
  show x ++ ((⟨#[0]⟩:ByteArray) ++ y ++ zit ⟨#[0]⟩ r)=x ++ zcB 0 ++ keyL (y::r);rw [←znm r y,show zcB 0=⟨#[0]⟩ from rfl];simp only [ByteArray.append_assoc]
theorem key_size (a b c x y z:ByteArray):(za4 ((a,b,c),(x,y,z))).size=a.size + 1 + (b.size + 1 + (c.size + 1 + (x.size + 1 + (y.size + 1 + z.size)))):=by
 show (a ++ zcB 0 ++ (b ++ zcB 0 ++ (c ++ zcB 0 ++ (x ++ zcB 0 ++ (y ++ zcB 0 ++ z))))).size=_;simp only [size_app,zbm]
section
variable {w:World}
theorem join6 {g:Nat} {t:TypeId} {a b c x y z:ByteArray} (h:Bk w g #[.string a,.string b,.string c,.string x,.string y,.string z] t) (ha:a.size≤100000) (hb:b.size≤100000) (hc:c.size≤100000) (hx:x.size≤100000) (hy:y.size≤100000) (hz:z.size≤100000) :
 Calls Tryz.prog 104 #[.slice (some ⟨g,0,none⟩) 6 6,.string ⟨#[0]⟩] w fun e w'=>e = .returned (.string (za4 ((a,b,c),(x,y,z))))∧Below w.heap.size w w':=by
 have f:zoD ⟨#[0]⟩ [a,b,c,x,y,z]=za4 ((a,b,c),(x,y,z)):=znm _ _;have hk:=key_size a b c x y z;refine (zhr g 0 6 [a,b,c,x,y,z] ⟨#[0]⟩ w (fun j u f=>?_) h.lt yaf yaf ?_).mono fun e w' ⟨k,m⟩=>⟨?_,m⟩
 · rw [yaI,h.cell j];rcases j with _ | _ | _ | _ | _ | _ | j;all_goals simp at f ⊢
   all_goals exact f
 · rw [zgM,ybo,f];show (za4 ((a,b,c),(x,y,z))).size≤_;omega
 · rw [k,zgM,f]
theorem key_any12 (a b c x y z:ByteArray) (ha:a.size≤100000) (hb:b.size≤100000) (hc:c.size≤100000) (hx:x.size≤100000) (hy:y.size≤100000) (hz:z.size≤100000) :
 Calls Tryz.prog 63 #[.agg #[.string a,.string b,.string c,.string x,.string y,.string z]] w fun e w'=>e = .returned (.string (za4 ((a,b,c),(x,y,z))))∧Below w.heap.size w w':=by
 obtain ⟨K,n⟩:∃K,Hid (za4 ((a,b,c),(x,y,z))=K):=⟨_,Lib.hid rfl⟩;rw [n.out];have hk:=Bk.new w #[.string a,.string b,.string c,.string x,.string y,.string z] 51;have f:=zdS w (.cells #[.string a,.string b,.string c,.string x,.string y,.string z] 51);obtain ⟨q,s,u,A,B,C⟩:=hk.c6;have F:=hk.lt;go_enter Tryz.func63,Tryz.ntmps63
 go_upto_region 1 with (fail)
 generalize w.alloc (.cells #[.string a,.string b,.string c,.string x,.string y,.string z] 51)=D at *
 have o:=names_any12 (w:=D) a b c x y z;go_upto_region 2 with (go_at_call 103;refine o.mono ?_;rintro e k ⟨rfl,j⟩)
 have E:=Bk.new k #[.string a,.string b,.string c,.string x,.string y,.string z] 185;replace f:=(zan f f.size j).alloc (zan f f.size j).size (.cells #[.string a,.string b,.string c,.string x,.string y,.string z] 185);clear j o q s u A B C;generalize k.alloc (.cells #[.string a,.string b,.string c,.string x,.string y,.string z] 185)=G at *
 generalize k.heap.size=g at *
 have kj:=join6 E ha hb hc hx hy hz;rw [n.out] at kj;go_wp2_with (go_at_call 104;refine kj.mono ?_;rintro e H ⟨rfl,m⟩)
 go_ret
 exact ⟨rfl,zan f f.size m⟩
end
theorem zlp:∀(i:Nat) (s:ByteArray),zgb (i + 1) s=(zeQ (zgb i s) 0).2
 | 0,_=>rfl
 | i + 1,s=>zlp i (zeQ s 0).2
theorem ze8:∀(i:Nat) (s:ByteArray),(zgb i s).size≤s.size
 | 0,_=>yaj _
 | i + 1,s=>yay (ze8 i _) (zom s 0)
theorem zb3 (i:Nat) (s:ByteArray):(zeQ (zgb i s) 0).1.size≤s.size:=by
 have b:=zpU (zgb i s) 0;have f:=(zhn (zgb i s) 0).1;have g:=ze8 i s;omega
def nmB (s:ByteArray) (i:Nat):ByteArray:=(zeQ (zgb i s) 0).1
def zkp (s:ByteArray) (i:Nat):Array Value:=#[.string (if 0<i then nmB s 0 else ⟨#[]⟩),.string (if 1<i then nmB s 1 else ⟨#[]⟩),.string (if 2<i then nmB s 2 else ⟨#[]⟩),.string (if 3<i then nmB s 3 else ⟨#[]⟩),.string (if 4<i then nmB s 4 else ⟨#[]⟩),.string (if 5<i then nmB s 5 else ⟨#[]⟩)]
theorem zoh (s:ByteArray) {i:Nat} (h:i<6):(zkp s i).setIfInBounds i (.string (nmB s i))=zkp s (i + 1):=by
 obtain rfl | rfl | rfl | rfl | rfl | rfl:i=0∨i=1∨i=2∨i=3∨i=4∨i=5:=by omega
 all_goals rfl
theorem zpO (s:ByteArray) {i:Nat} (h:i<6):∃v,(zkp s i)[i]? = some v:=by
 obtain rfl | rfl | rfl | rfl | rfl | rfl:i=0∨i=1∨i=2∨i=3∨i=4∨i=5:=by omega
 all_goals exact ⟨_,rfl⟩
section
variable {w:World}
theorem from_any12 (s:ByteArray) (hs:s.size≤100000) :
 Calls Tryz.prog 98 #[.string s] w fun e w'=>e = .returned (.tuple #[.agg #[.string (tupO (zdP s)).1.1,.string (tupO (zdP s)).1.2.1,.string (tupO (zdP s)).1.2.2,.string (tupO (zdP s)).2.1,.string (tupO (zdP s)).2.2.1,.string (tupO (zdP s)).2.2.2],.bool (zdP s).isSome])∧Below w.heap.size w w':=by
 obtain ⟨R,k⟩:∃R,Hid (zdP s=R):=⟨_,Lib.hid rfl⟩;rw [k.out];have m:=Bk.new w #[.string ⟨#[]⟩,.string ⟨#[]⟩,.string ⟨#[]⟩,.string ⟨#[]⟩,.string ⟨#[]⟩,.string ⟨#[]⟩] 51;have j:=zdS w (.cells #[.string ⟨#[]⟩,.string ⟨#[]⟩,.string ⟨#[]⟩,.string ⟨#[]⟩,.string ⟨#[]⟩,.string ⟨#[]⟩] 51);go_enter Tryz.func98,Tryz.ntmps98
 go_upto_region 1 with (fail)
 generalize w.alloc (.cells #[.string ⟨#[]⟩,.string ⟨#[]⟩,.string ⟨#[]⟩,.string ⟨#[]⟩,.string ⟨#[]⟩,.string ⟨#[]⟩] 51)=U at *
 have B:Bk _ U.heap.size (zkp s 0) 185:=Bk.new U #[.string ⟨#[]⟩,.string ⟨#[]⟩,.string ⟨#[]⟩,.string ⟨#[]⟩,.string ⟨#[]⟩,.string ⟨#[]⟩] 185;go_upto_region 2 with (fail)
 have X:=m.lt;replace m:=m.alloc (.cells #[.string ⟨#[]⟩,.string ⟨#[]⟩,.string ⟨#[]⟩,.string ⟨#[]⟩,.string ⟨#[]⟩,.string ⟨#[]⟩] 185);replace j:=j.alloc j.size (.cells #[.string ⟨#[]⟩,.string ⟨#[]⟩,.string ⟨#[]⟩,.string ⟨#[]⟩,.string ⟨#[]⟩,.string ⟨#[]⟩] 185);generalize U.alloc (.cells #[.string ⟨#[]⟩,.string ⟨#[]⟩,.string ⟨#[]⟩,.string ⟨#[]⟩,.string ⟨#[]⟩,.string ⟨#[]⟩] 185)=w2 at *
 generalize U.heap.size=g at *
 go_wp2_with fail
 go_loopw [5,9] (fun vr Y Z=>∃i:Nat,Y = .int .i64 i∧i≤6∧vr = .string (zgb i s)∧Bk Z g (zkp s i) 185∧Bk Z w.heap.size #[.string ⟨#[]⟩,.string ⟨#[]⟩,.string ⟨#[]⟩,.string ⟨#[]⟩,.string ⟨#[]⟩,.string ⟨#[]⟩] 51∧Below w.heap.size w Z) (fun _ Y _=>6-(intOf Y).toNat)
 case atStart=>exact ⟨0,rfl,by omega,rfl,B,m,j⟩
 case round =>
  obtain ⟨i,rfl,hi,rfl,B,m,j⟩:=hrel;by_cases G:i<6
  · have ac:(i:Int)<6:=by omega
    have zr:=ze8 i s;have C:=fun W=>cut00 (zgb i s) W yad;rw [←zlp i s] at C;change ∀W,Calls _ _ _ W fun e w'=>e = .returned (.tuple #[.string (nmB s i),_,_])∧_ at C;have a1:=zoh s G;obtain ⟨v0,a2⟩:=zpO s G;generalize nmB s i=nm at *
    obtain ⟨rs,H⟩:∃rs,Hid (zgb (i + 1) s=rs):=⟨_,Lib.hid rfl⟩;rw [H.out] at C;generalize decide (zeR (zgb i s) 0<(zgb i s).size)=g1 at C;go_upto_region 6 with (fail)
    go_upto_region 7 with (go_at_call 141;refine (C _).mono ?_;rintro e I ⟨rfl,hb⟩;have u:=B.below hb;have a6:=m.below hb;have a7:=zan j j.size hb;have q0:I.cell? ⟨g,i,none⟩=some v0:=(u.cell i).trans a2;have q1:=u.fz i;have q2:=u.lt)
    have J:=u.set i (.string nm);rw [a1] at J;have a8:=a6.other (a:=⟨g,i,none⟩) yah (.string nm);have aa:=a7.setCell (p:=⟨g,i,none⟩) (ya5 X) (.string nm);go_wp2_with fail
    refine ⟨⟨i + 1,by go_num,by omega,by rw [H.out],J,a8,aa⟩,?_⟩;simp [intOf];omega
  · obtain rfl:i=6:=by omega
    have z0:(nmB s 0).size≤s.size:=zb3 0 s;have z1:(nmB s 1).size≤s.size:=zb3 1 s;have z2:(nmB s 2).size≤s.size:=zb3 2 s;have z3:(nmB s 3).size≤s.size:=zb3 3 s;have z4:(nmB s 4).size≤s.size:=zb3 4 s;have z5:(nmB s 5).size≤s.size:=zb3 5 s;have B:Bk wr g #[.string (nmB s 0),.string (nmB s 1),.string (nmB s 2),.string (nmB s 3),.string (nmB s 4),.string (nmB s 5)] 185:=B;have E:Hid (zdP s=if zl5 ((nmB s 0,nmB s 1,nmB s 2),(nmB s 3,nmB s 4,nmB s 5))=true∧za4 ((nmB s 0,nmB s 1,nmB s 2),(nmB s 3,nmB s 4,nmB s 5))=s then some ((nmB s 0,nmB s 1,nmB s 2),(nmB s 3,nmB s 4,nmB s 5)) else none):=Lib.hid rfl;generalize nmB s 0=a at *
    generalize nmB s 1=b at *
    generalize nmB s 2=c at *
    generalize nmB s 3=x at *
    generalize nmB s 4=y at *
    generalize nmB s 5=z at *
    have C:=tupleOf_any12 a b c x y z (w:=wr);obtain ⟨t0,t1,t2,t3,t4,t5⟩:=B.c6;have tl:=B.lt;go_upto_region 9 with (go_at_call 142;refine C.mono ?_;rintro e I ⟨rfl,hb⟩)
    have V:=Bk.new I #[.string a,.string b,.string c,.string x,.string y,.string z] 51;replace m:=(m.below hb).alloc (.cells #[.string a,.string b,.string c,.string x,.string y,.string z] 51);replace j:=(zan j j.size hb).alloc (zan j j.size hb).size (.cells #[.string a,.string b,.string c,.string x,.string y,.string z] 51);clear hb C B t0 t1 t2 t3 t4 t5 tl;generalize I.alloc (.cells #[.string a,.string b,.string c,.string x,.string y,.string z] 51)=w6 at *
    generalize I.heap.size=gt at *
    obtain ⟨t0,t1,t2,t3,t4,t5⟩:=V.c6;have tl:=V.lt;obtain ⟨p,hp⟩:∃p,Hid (zl5 ((a,b,c),(x,y,z))=p):=⟨_,Lib.hid rfl⟩;have kf:=fun W=>fmd_is hp.out yab yab yab yab yab yab W;cases p with
    | false =>
     obtain rfl:R=none:=by rw [←k.out,E.out,yak fun h=>by rw [hp.out] at h;cases h.1]
     clear k E;go_wp2_with (go_at_call 82;refine (kf _).mono ?_;rintro e w8 ⟨rfl,hb⟩;have f:=m.below hb;have n:=zan j j.size hb;obtain ⟨r0,r1,r2,r3,r4,r5⟩:=f.c6;have rl:=f.lt;have rf:=f.fz)
     obtain ⟨L,o⟩:=set6 f n (yaj _) (.string ⟨#[]⟩) (.string ⟨#[]⟩) (.string ⟨#[]⟩) (.string ⟨#[]⟩) (.string ⟨#[]⟩) (.string ⟨#[]⟩);obtain ⟨M,N,O,P,Q,T⟩:=L.c6;refine bodyPost_ret (v:=.tuple #[.agg #[.string ⟨#[]⟩,.string ⟨#[]⟩,.string ⟨#[]⟩,.string ⟨#[]⟩,.string ⟨#[]⟩,.string ⟨#[]⟩],.bool false]) (by simp [results,Tryz.results98,go_sem,M,N,O,P,Q,T];try rfl) rfl ?_;exact ⟨rfl,o⟩
    | true =>
     have kk:=fun W=>key_any12 (w:=W) a b c x y z yab yab yab yab yab yab;obtain ⟨K,hK⟩:∃K,Hid (za4 ((a,b,c),(x,y,z))=K):=⟨_,Lib.hid rfl⟩;rw [hK.out] at kk;by_cases F:K=s
     · obtain rfl:R=some ((a,b,c),(x,y,z)):=by rw [←k.out,E.out,yan ⟨hp.out,by rw [hK.out,F]⟩]
       have d:(K.toList == s.toList)=true:=zeY F;clear k E F;go_wp2_with (first
        | (go_at_call 82;refine (kf _).mono ?_;rintro e w8 ⟨rfl,hb⟩;have A:=V.below hb;have D:=m.below hb;have q:=zan j j.size hb;obtain ⟨s0,s1,s2,s3,s4,s5⟩:=A.c6)
        | (go_at_call 63;refine (kk _).mono ?_;rintro e w9 ⟨rfl,hb⟩;have ab:=A.below hb;obtain ⟨u0,u1,u2,u3,u4,u5⟩:=ab.c6;have f:=D.below hb;have n:=zan q q.size hb;obtain ⟨r0,r1,r2,r3,r4,r5⟩:=f.c6;have rl:=f.lt;have rf:=f.fz))
       obtain ⟨L,o⟩:=set6 f n (yaj _) (.string a) (.string b) (.string c) (.string x) (.string y) (.string z);obtain ⟨M,N,O,P,Q,T⟩:=L.c6;refine bodyPost_ret (v:=.tuple #[.agg #[.string a,.string b,.string c,.string x,.string y,.string z],.bool true]) (by simp [results,Tryz.results98,go_sem,M,N,O,P,Q,T];try rfl) rfl ?_;exact ⟨rfl,o⟩
     · obtain rfl:R=none:=by rw [←k.out,E.out,yak fun h=>F (by rw [←hK.out];exact h.2)]
       have d:(K.toList == s.toList)=false:=zh7 F;clear k E F;go_wp2_with (first
        | (go_at_call 82;refine (kf _).mono ?_;rintro e w8 ⟨rfl,hb⟩;have A:=V.below hb;have D:=m.below hb;have q:=zan j j.size hb;obtain ⟨s0,s1,s2,s3,s4,s5⟩:=A.c6)
        | (go_at_call 63;refine (kk _).mono ?_;rintro e w9 ⟨rfl,hb⟩;have f:=D.below hb;have n:=zan q q.size hb;obtain ⟨r0,r1,r2,r3,r4,r5⟩:=f.c6;have rl:=f.lt;have rf:=f.fz))
       obtain ⟨L,o⟩:=set6 f n (yaj _) (.string ⟨#[]⟩) (.string ⟨#[]⟩) (.string ⟨#[]⟩) (.string ⟨#[]⟩) (.string ⟨#[]⟩) (.string ⟨#[]⟩);obtain ⟨M,N,O,P,Q,T⟩:=L.c6;refine bodyPost_ret (v:=.tuple #[.agg #[.string ⟨#[]⟩,.string ⟨#[]⟩,.string ⟨#[]⟩,.string ⟨#[]⟩,.string ⟨#[]⟩,.string ⟨#[]⟩],.bool false]) (by simp [results,Tryz.results98,go_sem,M,N,O,P,Q,T];try rfl) rfl ?_;exact ⟨rfl,o⟩
end
end
section
open Go.RowKit
def zrb (a b c x y z:ByteArray) (i:Nat):ByteArray:=[a,b,c,x,y,z].getD i ⟨#[]⟩
theorem at6 (a b c x y z:ByteArray) {i:Nat} (h:i<6):(#[.string a,.string b,.string c,.string x,.string y,.string z]:Array Value)[i]? = some (.string (zrb a b c x y z i))∧[a,b,c,x,y,z][i]? = some (zrb a b c x y z i):=by
 obtain rfl | rfl | rfl | rfl | rfl | rfl:i=0∨i=1∨i=2∨i=3∨i=4∨i=5:=by omega
 all_goals exact ⟨rfl,rfl⟩
section
variable {w:World}
end
end
end Go.Proofs.YtmblgnddgmfkhaaGreat
