import Derived.Test.YtmblgnddgmfkhaaGreatQ02
import Derived.Test.YtmblgnddgmfkhaaGreatQ24
set_option maxRecDepth 100000
set_option maxHeartbeats 4000000
namespace Go.Proofs.YtmblgnddgmfkhaaGreat
section
open Go.RowKit
section
variable {w:World}
theorem names_any12 (a b c x y z:ByteArray) :
 Calls Tryz.prog 103 #[.agg #[.string a,.string b,.string c,.string x,.string y,.string z]] w fun e w'=>e = .returned (.agg #[.string a,.string b,.string c,.string x,.string y,.string z])∧Below w.heap.size w w':=by
 have f:=Bk.new w #[.string a,.string b,.string c,.string x,.string y,.string z] 51;have d:=Bk.new2 w (.cells #[.string a,.string b,.string c,.string x,.string y,.string z] 51) #[.string ⟨#[]⟩,.string ⟨#[]⟩,.string ⟨#[]⟩,.string ⟨#[]⟩,.string ⟨#[]⟩,.string ⟨#[]⟩] 185;have g:Below w.heap.size w ((w.alloc (.cells #[.string a,.string b,.string c,.string x,.string y,.string z] 51)).alloc (.cells #[.string ⟨#[]⟩,.string ⟨#[]⟩,.string ⟨#[]⟩,.string ⟨#[]⟩,.string ⟨#[]⟩,.string ⟨#[]⟩] 185)):=((Below.refl _ w).alloc (yaj _) _).alloc (size_alloc (yaj _)) _;have j:=f.alloc (.cells #[.string ⟨#[]⟩,.string ⟨#[]⟩,.string ⟨#[]⟩,.string ⟨#[]⟩,.string ⟨#[]⟩,.string ⟨#[]⟩] 185);go_enter Tryz.func103,Tryz.ntmps103
 go_upto_region 1 with (fail)
 generalize (w.alloc (.cells #[.string a,.string b,.string c,.string x,.string y,.string z] 51)).alloc (.cells #[.string ⟨#[]⟩,.string ⟨#[]⟩,.string ⟨#[]⟩,.string ⟨#[]⟩,.string ⟨#[]⟩,.string ⟨#[]⟩] 185)=u at *
 obtain ⟨t0,A,B,t3,t4,t5⟩:=j.c6;have C:=j.lt;obtain ⟨z0,D,E,z3,z4,z5⟩:=d.c6;have F:=d.lt;have G:=d.fz;go_wp2_with fail
 obtain ⟨k,hb⟩:=set6 d g (ya8 _) (.string a) (.string b) (.string c) (.string x) (.string y) (.string z);obtain ⟨m,n,o,p,q,s⟩:=k.c6;refine bodyPost_ret (v:=.agg #[.string a,.string b,.string c,.string x,.string y,.string z]) (by simp [results,Tryz.results103,go_sem,m,n,o,p,q,s];try rfl) rfl ?_;exact ⟨rfl,hb⟩
theorem tupleOf_any12 (a b c x y z:ByteArray) :
 Calls Tryz.prog 142 #[.agg #[.string a,.string b,.string c,.string x,.string y,.string z]] w fun e w'=>e = .returned (.agg #[.string a,.string b,.string c,.string x,.string y,.string z])∧Below w.heap.size w w':=by
 have f:=Bk.new w #[.string a,.string b,.string c,.string x,.string y,.string z] 185;have d:=Bk.new2 w (.cells #[.string a,.string b,.string c,.string x,.string y,.string z] 185) #[.string ⟨#[]⟩,.string ⟨#[]⟩,.string ⟨#[]⟩,.string ⟨#[]⟩,.string ⟨#[]⟩,.string ⟨#[]⟩] 51;have g:Below w.heap.size w ((w.alloc (.cells #[.string a,.string b,.string c,.string x,.string y,.string z] 185)).alloc (.cells #[.string ⟨#[]⟩,.string ⟨#[]⟩,.string ⟨#[]⟩,.string ⟨#[]⟩,.string ⟨#[]⟩,.string ⟨#[]⟩] 51)):=((Below.refl _ w).alloc (yaj _) _).alloc (size_alloc (yaj _)) _;have j:=f.alloc (.cells #[.string ⟨#[]⟩,.string ⟨#[]⟩,.string ⟨#[]⟩,.string ⟨#[]⟩,.string ⟨#[]⟩,.string ⟨#[]⟩] 51);go_enter Tryz.func142,Tryz.ntmps142
 go_upto_region 1 with (fail)
 generalize (w.alloc (.cells #[.string a,.string b,.string c,.string x,.string y,.string z] 185)).alloc (.cells #[.string ⟨#[]⟩,.string ⟨#[]⟩,.string ⟨#[]⟩,.string ⟨#[]⟩,.string ⟨#[]⟩,.string ⟨#[]⟩] 51)=u at *
 obtain ⟨t0,A,B,t3,t4,t5⟩:=j.c6;have C:=j.lt;obtain ⟨z0,D,E,z3,z4,z5⟩:=d.c6;have F:=d.lt;have G:=d.fz;go_wp2_with fail
 obtain ⟨k,hb⟩:=set6 d g (ya8 _) (.string a) (.string b) (.string c) (.string x) (.string y) (.string z);obtain ⟨m,n,o,p,q,s⟩:=k.c6;refine bodyPost_ret (v:=.agg #[.string a,.string b,.string c,.string x,.string y,.string z]) (by simp [results,Tryz.results142,go_sem,m,n,o,p,q,s];try rfl) rfl ?_;exact ⟨rfl,hb⟩
end
theorem zmD:∀(r:List ByteArray) (x:ByteArray),x ++ zhP ⟨#[0]⟩ r=keyL (x::r)
 | [],x=>by
  show x ++ ⟨#[]⟩=x;exact ByteArray.append_empty
 | y::r,x=>by
  show x ++ ((⟨#[0]⟩:ByteArray) ++ y ++ zhP ⟨#[0]⟩ r)=x ++ zck 0 ++ keyL (y::r);rw [←zmD r y,show zck 0=⟨#[0]⟩ from rfl];simp only [ByteArray.append_assoc]
theorem key_size (a b c x y z:ByteArray):(zbu ((a,b,c),(x,y,z))).size=a.size + 1 + (b.size + 1 + (c.size + 1 + (x.size + 1 + (y.size + 1 + z.size)))):=by
 show (a ++ zck 0 ++ (b ++ zck 0 ++ (c ++ zck 0 ++ (x ++ zck 0 ++ (y ++ zck 0 ++ z))))).size=_;simp only [size_app,zbe]
section
variable {w:World}
theorem join6 {g:Nat} {t:TypeId} {a b c x y z:ByteArray} (h:Bk w g #[.string a,.string b,.string c,.string x,.string y,.string z] t) (ha:a.size≤100000) (hb:b.size≤100000) (hc:c.size≤100000) (hx:x.size≤100000) (hy:y.size≤100000) (hz:z.size≤100000) :
 Calls Tryz.prog 104 #[.slice (some ⟨g,0,none⟩) 6 6,.string ⟨#[0]⟩] w fun e w'=>e = .returned (.string (zbu ((a,b,c),(x,y,z))))∧Below w.heap.size w w':=by
 have d:znR ⟨#[0]⟩ [a,b,c,x,y,z]=zbu ((a,b,c),(x,y,z)):=zmD _ _;have hk:=key_size a b c x y z;refine (zgV g 0 6 [a,b,c,x,y,z] ⟨#[0]⟩ w (fun j u d=>?_) h.lt yaf yaf ?_).mono fun e w' ⟨f,k⟩=>⟨?_,k⟩
 · rw [yaG,h.cell j];rcases j with _ | _ | _ | _ | _ | _ | j;all_goals simp at d ⊢
   all_goals exact d
 · rw [zgg,ybm,d];show (zbu ((a,b,c),(x,y,z))).size≤_;omega
 · rw [f,zgg,d]
theorem key_any12 (a b c x y z:ByteArray) (ha:a.size≤100000) (hb:b.size≤100000) (hc:c.size≤100000) (hx:x.size≤100000) (hy:y.size≤100000) (hz:z.size≤100000) :
 Calls Tryz.prog 63 #[.agg #[.string a,.string b,.string c,.string x,.string y,.string z]] w fun e w'=>e = .returned (.string (zbu ((a,b,c),(x,y,z))))∧Below w.heap.size w w':=by
 obtain ⟨K,m⟩:∃K,Hid (zbu ((a,b,c),(x,y,z))=K):=⟨_,Lib.hid rfl⟩;rw [m.out];have hk:=Bk.new w #[.string a,.string b,.string c,.string x,.string y,.string z] 51;have d:=zdy w (.cells #[.string a,.string b,.string c,.string x,.string y,.string z] 51);obtain ⟨o,p,q,s,u,A⟩:=hk.c6;have D:=hk.lt;go_enter Tryz.func63,Tryz.ntmps63
 go_upto_region 1 with (fail)
 generalize w.alloc (.cells #[.string a,.string b,.string c,.string x,.string y,.string z] 51)=B at *
 have n:=names_any12 (w:=B) a b c x y z;go_upto_region 2 with (go_at_call 103;refine n.mono ?_;rintro e j ⟨rfl,f⟩)
 have C:=Bk.new j #[.string a,.string b,.string c,.string x,.string y,.string z] 185;replace d:=(zam d d.size f).alloc (zam d d.size f).size (.cells #[.string a,.string b,.string c,.string x,.string y,.string z] 185);clear f n o p q s u A;generalize j.alloc (.cells #[.string a,.string b,.string c,.string x,.string y,.string z] 185)=E at *
 generalize j.heap.size=g at *
 have kj:=join6 C ha hb hc hx hy hz;rw [m.out] at kj;go_wp2_with (go_at_call 104;refine kj.mono ?_;rintro e F ⟨rfl,k⟩)
 go_ret
 exact ⟨rfl,zam d d.size k⟩
end
theorem zkQ:∀(i:Nat) (s:ByteArray),zfF (i + 1) s=(zef (zfF i s) 0).2
 | 0,_=>rfl
 | i + 1,s=>zkQ i (zef s 0).2
theorem zez:∀(i:Nat) (s:ByteArray),(zfF i s).size≤s.size
 | 0,_=>yaj _
 | i + 1,s=>yax (zez i _) (znB s 0)
theorem zbP (i:Nat) (s:ByteArray):(zef (zfF i s) 0).1.size≤s.size:=by
 have b:=zo6 (zfF i s) 0;have d:=(zgR (zfF i s) 0).1;have f:=zez i s;omega
def nmB (s:ByteArray) (i:Nat):ByteArray:=(zef (zfF i s) 0).1
def zjR (s:ByteArray) (i:Nat):Array Value:=#[.string (if 0<i then nmB s 0 else ⟨#[]⟩),.string (if 1<i then nmB s 1 else ⟨#[]⟩),.string (if 2<i then nmB s 2 else ⟨#[]⟩),.string (if 3<i then nmB s 3 else ⟨#[]⟩),.string (if 4<i then nmB s 4 else ⟨#[]⟩),.string (if 5<i then nmB s 5 else ⟨#[]⟩)]
theorem znv (s:ByteArray) {i:Nat} (h:i<6):(zjR s i).setIfInBounds i (.string (nmB s i))=zjR s (i + 1):=by
 obtain rfl | rfl | rfl | rfl | rfl | rfl:i=0∨i=1∨i=2∨i=3∨i=4∨i=5:=by omega
 all_goals rfl
theorem zoZ (s:ByteArray) {i:Nat} (h:i<6):∃v,(zjR s i)[i]? = some v:=by
 obtain rfl | rfl | rfl | rfl | rfl | rfl:i=0∨i=1∨i=2∨i=3∨i=4∨i=5:=by omega
 all_goals exact ⟨_,rfl⟩
section
variable {w:World}
theorem from_any12 (s:ByteArray) (hs:s.size≤100000) :
 Calls Tryz.prog 98 #[.string s] w fun e w'=>e = .returned (.tuple #[.agg #[.string (tupO (zds s)).1.1,.string (tupO (zds s)).1.2.1,.string (tupO (zds s)).1.2.2,.string (tupO (zds s)).2.1,.string (tupO (zds s)).2.2.1,.string (tupO (zds s)).2.2.2],.bool (zds s).isSome])∧Below w.heap.size w w':=by
 obtain ⟨R,k⟩:∃R,Hid (zds s=R):=⟨_,Lib.hid rfl⟩;rw [k.out];have m:=Bk.new w #[.string ⟨#[]⟩,.string ⟨#[]⟩,.string ⟨#[]⟩,.string ⟨#[]⟩,.string ⟨#[]⟩,.string ⟨#[]⟩] 51;have j:=zdy w (.cells #[.string ⟨#[]⟩,.string ⟨#[]⟩,.string ⟨#[]⟩,.string ⟨#[]⟩,.string ⟨#[]⟩,.string ⟨#[]⟩] 51);go_enter Tryz.func98,Tryz.ntmps98
 go_upto_region 1 with (fail)
 generalize w.alloc (.cells #[.string ⟨#[]⟩,.string ⟨#[]⟩,.string ⟨#[]⟩,.string ⟨#[]⟩,.string ⟨#[]⟩,.string ⟨#[]⟩] 51)=U at *
 have B:Bk _ U.heap.size (zjR s 0) 185:=Bk.new U #[.string ⟨#[]⟩,.string ⟨#[]⟩,.string ⟨#[]⟩,.string ⟨#[]⟩,.string ⟨#[]⟩,.string ⟨#[]⟩] 185;go_upto_region 2 with (fail)
 have X:=m.lt;replace m:=m.alloc (.cells #[.string ⟨#[]⟩,.string ⟨#[]⟩,.string ⟨#[]⟩,.string ⟨#[]⟩,.string ⟨#[]⟩,.string ⟨#[]⟩] 185);replace j:=j.alloc j.size (.cells #[.string ⟨#[]⟩,.string ⟨#[]⟩,.string ⟨#[]⟩,.string ⟨#[]⟩,.string ⟨#[]⟩,.string ⟨#[]⟩] 185);generalize U.alloc (.cells #[.string ⟨#[]⟩,.string ⟨#[]⟩,.string ⟨#[]⟩,.string ⟨#[]⟩,.string ⟨#[]⟩,.string ⟨#[]⟩] 185)=w2 at *
 generalize U.heap.size=g at *
 go_wp2_with fail
 go_loopw [5,9] (fun vr Y Z=>∃i:Nat,Y = .int .i64 i∧i≤6∧vr = .string (zfF i s)∧Bk Z g (zjR s i) 185∧Bk Z w.heap.size #[.string ⟨#[]⟩,.string ⟨#[]⟩,.string ⟨#[]⟩,.string ⟨#[]⟩,.string ⟨#[]⟩,.string ⟨#[]⟩] 51∧Below w.heap.size w Z) (fun _ Y _=>6-(intOf Y).toNat)
 case atStart=>exact ⟨0,rfl,by omega,rfl,B,m,j⟩
 case round =>
  obtain ⟨i,rfl,hi,rfl,B,m,j⟩:=hrel;by_cases G:i<6
  · have ac:(i:Int)<6:=by omega
    have zr:=zez i s;have C:=fun W=>cut00 (zfF i s) W yad;rw [←zkQ i s] at C;change ∀W,Calls _ _ _ W fun e w'=>e = .returned (.tuple #[.string (nmB s i),_,_])∧_ at C;have a1:=znv s G;obtain ⟨v0,a2⟩:=zoZ s G;generalize nmB s i=nm at *
    obtain ⟨rs,H⟩:∃rs,Hid (zfF (i + 1) s=rs):=⟨_,Lib.hid rfl⟩;rw [H.out] at C;generalize decide (zeg (zfF i s) 0<(zfF i s).size)=g1 at C;go_upto_region 6 with (fail)
    go_upto_region 7 with (go_at_call 141;refine (C _).mono ?_;rintro e I ⟨rfl,hb⟩;have u:=B.below hb;have a6:=m.below hb;have a7:=zam j j.size hb;have q0:I.cell? ⟨g,i,none⟩=some v0:=(u.cell i).trans a2;have q1:=u.fz i;have q2:=u.lt)
    have J:=u.set i (.string nm);rw [a1] at J;have a8:=a6.other (a:=⟨g,i,none⟩) yah (.string nm);have aa:=a7.setCell (p:=⟨g,i,none⟩) (ya2 X) (.string nm);go_wp2_with fail
    refine ⟨⟨i + 1,by go_num,by omega,by rw [H.out],J,a8,aa⟩,?_⟩;simp [intOf];omega
  · obtain rfl:i=6:=by omega
    have z0:(nmB s 0).size≤s.size:=zbP 0 s;have z1:(nmB s 1).size≤s.size:=zbP 1 s;have z2:(nmB s 2).size≤s.size:=zbP 2 s;have z3:(nmB s 3).size≤s.size:=zbP 3 s;have z4:(nmB s 4).size≤s.size:=zbP 4 s;have z5:(nmB s 5).size≤s.size:=zbP 5 s;have B:Bk wr g #[.string (nmB s 0),.string (nmB s 1),.string (nmB s 2),.string (nmB s 3),.string (nmB s 4),.string (nmB s 5)] 185:=B;have E:Hid (zds s=if zmx ((nmB s 0,nmB s 1,nmB s 2),(nmB s 3,nmB s 4,nmB s 5))=true∧zbu ((nmB s 0,nmB s 1,nmB s 2),(nmB s 3,nmB s 4,nmB s 5))=s then some ((nmB s 0,nmB s 1,nmB s 2),(nmB s 3,nmB s 4,nmB s 5)) else none):=Lib.hid rfl;generalize nmB s 0=a at *
    generalize nmB s 1=b at *
    generalize nmB s 2=c at *
    generalize nmB s 3=x at *
    generalize nmB s 4=y at *
    generalize nmB s 5=z at *
    have C:=tupleOf_any12 a b c x y z (w:=wr);obtain ⟨t0,t1,t2,t3,t4,t5⟩:=B.c6;have tl:=B.lt;go_upto_region 9 with (go_at_call 142;refine C.mono ?_;rintro e I ⟨rfl,hb⟩)
    have V:=Bk.new I #[.string a,.string b,.string c,.string x,.string y,.string z] 51;replace m:=(m.below hb).alloc (.cells #[.string a,.string b,.string c,.string x,.string y,.string z] 51);replace j:=(zam j j.size hb).alloc (zam j j.size hb).size (.cells #[.string a,.string b,.string c,.string x,.string y,.string z] 51);clear hb C B t0 t1 t2 t3 t4 t5 tl;generalize I.alloc (.cells #[.string a,.string b,.string c,.string x,.string y,.string z] 51)=w6 at *
    generalize I.heap.size=gt at *
    obtain ⟨t0,t1,t2,t3,t4,t5⟩:=V.c6;have tl:=V.lt;obtain ⟨p,hp⟩:∃p,Hid (zmx ((a,b,c),(x,y,z))=p):=⟨_,Lib.hid rfl⟩;have kf:=fun W=>fmd_is hp.out yab yab yab yab yab yab W;cases p with
    | false =>
     obtain rfl:R=none:=by rw [←k.out,E.out,yak fun h=>by rw [hp.out] at h;cases h.1]
     clear k E;go_wp2_with (go_at_call 82;refine (kf _).mono ?_;rintro e w8 ⟨rfl,hb⟩;have f:=m.below hb;have n:=zam j j.size hb;obtain ⟨r0,r1,r2,r3,r4,r5⟩:=f.c6;have rl:=f.lt;have rf:=f.fz)
     obtain ⟨L,o⟩:=set6 f n (yaj _) (.string ⟨#[]⟩) (.string ⟨#[]⟩) (.string ⟨#[]⟩) (.string ⟨#[]⟩) (.string ⟨#[]⟩) (.string ⟨#[]⟩);obtain ⟨M,N,O,P,Q,T⟩:=L.c6;refine bodyPost_ret (v:=.tuple #[.agg #[.string ⟨#[]⟩,.string ⟨#[]⟩,.string ⟨#[]⟩,.string ⟨#[]⟩,.string ⟨#[]⟩,.string ⟨#[]⟩],.bool false]) (by simp [results,Tryz.results98,go_sem,M,N,O,P,Q,T];try rfl) rfl ?_;exact ⟨rfl,o⟩
    | true =>
     have kk:=fun W=>key_any12 (w:=W) a b c x y z yab yab yab yab yab yab;obtain ⟨K,hK⟩:∃K,Hid (zbu ((a,b,c),(x,y,z))=K):=⟨_,Lib.hid rfl⟩;rw [hK.out] at kk;by_cases F:K=s
     · obtain rfl:R=some ((a,b,c),(x,y,z)):=by rw [←k.out,E.out,yan ⟨hp.out,by rw [hK.out,F]⟩]
       have d:(K.toList == s.toList)=true:=zen F;clear k E F;go_wp2_with (first
        | (go_at_call 82;refine (kf _).mono ?_;rintro e w8 ⟨rfl,hb⟩;have A:=V.below hb;have D:=m.below hb;have q:=zam j j.size hb;obtain ⟨s0,s1,s2,s3,s4,s5⟩:=A.c6)
        | (go_at_call 63;refine (kk _).mono ?_;rintro e w9 ⟨rfl,hb⟩;have ab:=A.below hb;obtain ⟨u0,u1,u2,u3,u4,u5⟩:=ab.c6;have f:=D.below hb;have n:=zam q q.size hb;obtain ⟨r0,r1,r2,r3,r4,r5⟩:=f.c6;have rl:=f.lt;have rf:=f.fz))
       obtain ⟨L,o⟩:=set6 f n (yaj _) (.string a) (.string b) (.string c) (.string x) (.string y) (.string z);obtain ⟨M,N,O,P,Q,T⟩:=L.c6;refine bodyPost_ret (v:=.tuple #[.agg #[.string a,.string b,.string c,.string x,.string y,.string z],.bool true]) (by simp [results,Tryz.results98,go_sem,M,N,O,P,Q,T];try rfl) rfl ?_;exact ⟨rfl,o⟩
     · obtain rfl:R=none:=by rw [←k.out,E.out,yak fun h=>F (by rw [←hK.out];exact h.2)]
       have d:(K.toList == s.toList)=false:=zhy F;clear k E F;go_wp2_with (first
        | (go_at_call 82;refine (kf _).mono ?_;rintro e w8 ⟨rfl,hb⟩;have A:=V.below hb;have D:=m.below hb;have q:=zam j j.size hb;obtain ⟨s0,s1,s2,s3,s4,s5⟩:=A.c6)
        | (go_at_call 63;refine (kk _).mono ?_;rintro e w9 ⟨rfl,hb⟩;have f:=D.below hb;have n:=zam q q.size hb;obtain ⟨r0,r1,r2,r3,r4,r5⟩:=f.c6;have rl:=f.lt;have rf:=f.fz))
       obtain ⟨L,o⟩:=set6 f n (yaj _) (.string ⟨#[]⟩) (.string ⟨#[]⟩) (.string ⟨#[]⟩) (.string ⟨#[]⟩) (.string ⟨#[]⟩) (.string ⟨#[]⟩);obtain ⟨M,N,O,P,Q,T⟩:=L.c6;refine bodyPost_ret (v:=.tuple #[.agg #[.string ⟨#[]⟩,.string ⟨#[]⟩,.string ⟨#[]⟩,.string ⟨#[]⟩,.string ⟨#[]⟩,.string ⟨#[]⟩],.bool false]) (by simp [results,Tryz.results98,go_sem,M,N,O,P,Q,T];try rfl) rfl ?_;exact ⟨rfl,o⟩
end
end
section
open Go.RowKit
def zqn (a b c x y z:ByteArray) (i:Nat):ByteArray:=[a,b,c,x,y,z].getD i ⟨#[]⟩
theorem at6 (a b c x y z:ByteArray) {i:Nat} (h:i<6):(#[.string a,.string b,.string c,.string x,.string y,.string z]:Array Value)[i]? = some (.string (zqn a b c x y z i))∧[a,b,c,x,y,z][i]? = some (zqn a b c x y z i):=by
 obtain rfl | rfl | rfl | rfl | rfl | rfl:i=0∨i=1∨i=2∨i=3∨i=4∨i=5:=by omega
 all_goals exact ⟨rfl,rfl⟩
section
variable {w:World}
end
end
section
open Go.RowKit
theorem wf11 {n:Nat} (h:n≤96):(Lit.int .i64 (n:Int)).wf=true:=WalkArith.wf_i64 yab
end
section
open Go.RowKit
def knowT (ty:List ByteArray) (ps:List Path) (a c:ByteArray):Bool:=if c=⟨#[]⟩ then ty.any fun y=>decide (y=a) else (zar ps (a,c)).isSome
def mayT (K:List TabR) (ps:List Path) (t:TuP):Bool:=(atK K (ixP ps (t.1.1,t.1.2.2):Nat)).r.subs.any fun y=>decide (y=(t.2.1,t.2.2.2))
def zcM (ty:List ByteArray) (ps:List Path) (K:List TabR) (t:TuP):Int :=
 if zmx t=true∧(zar ps (t.1.1,t.1.2.2)).isSome=true∧knowT ty ps t.2.1 t.2.2.2=true then if mayT K ps t=true then 0 else 40 else 31
theorem ix_small {ps:List Path} (h:ps.length≤96) (q:Path):ixP ps q≤96:=by
 unfold ixP;cases e:zar ps q with
 | none=>exact yap _
 | some i =>
  have:=(yao.1 (zb0 e)).1;show i≤96;omega
section
variable {w:World} {tx:ByteArray} {Ay:Option Addr} {cy:Nat} {ty:List ByteArray} {mb:Option Nat} {ps:List Path} {Ar:Option Addr} {cr:Nat} {K:List TabR}
theorem knows_any (h:TabA w Ay cy ty mb ps Ar cr K) (a b c:ByteArray) (ha:a.size≤100000) (hc:c.size≤100000) :
 Calls Tryz.prog 83 #[.agg #[.string tx,.slice Ay ty.length cy,.map mb,.slice Ar K.length cr],.agg #[.string a,.string b,.string c]] w fun e w'=>e = .returned (.bool (knowT ty ps a c))∧Below w.heap.size w w':=by
 have hk:=(Bk.new w #[.string tx,.slice Ay ty.length cy,.map mb,.slice Ar K.length cr] 61).alloc (.cells #[.string a,.string b,.string c] 31);have j:=Bk.new2 w (.cells #[.string tx,.slice Ay ty.length cy,.map mb,.slice Ar K.length cr] 61) #[.string a,.string b,.string c] 31;have g:Below w.heap.size w ((w.alloc (.cells #[.string tx,.slice Ay ty.length cy,.map mb,.slice Ar K.length cr] 61)).alloc (.cells #[.string a,.string b,.string c] 31)):=((Below.refl _ w).alloc (yaj _) _).alloc (size_alloc (yaj _)) _;have k:=h.up g;have m:=tid_any (tx:=tx) (Ay:=Ay) (ny:=ty.length) (cy:=cy) (Ar:=Ar) (cr:=cr) (nr:=K.length) k.ids a c yad yad;have n:=thas_any (tx:=tx) (mb:=mb) (Ar:=Ar) (cr:=cr) (nr:=K.length) k.types a;unfold knowT;by_cases f:c=⟨#[]⟩
 · rw [yan f];have d:=zln f;clear f m;generalize (ty.any fun y=>decide (y=a))=q at *
   go_enter Tryz.func83,Tryz.ntmps83
   go_upto_region 1 with (fail)
   generalize (w.alloc (.cells #[.string tx,.slice Ay ty.length cy,.map mb,.slice Ar K.length cr] 61)).alloc (.cells #[.string a,.string b,.string c] 31)=o at *
   obtain ⟨p,s,u,x⟩:=hk.c4;have kl:=hk.lt;obtain ⟨z,A,B⟩:=j.c3;have C:=j.lt;go_wp2_with (go_at_call 133;refine n.mono ?_;rintro e D ⟨rfl,hb⟩)
   go_ret
   exact ⟨rfl,zam g g.size hb⟩
 · rw [yak f];have d:=zpa f;clear f n;generalize (zar ps (a,c)).isSome=q at *
   generalize ixP ps (a,c)=i at *
   go_enter Tryz.func83,Tryz.ntmps83
   go_upto_region 1 with (fail)
   generalize (w.alloc (.cells #[.string tx,.slice Ay ty.length cy,.map mb,.slice Ar K.length cr] 61)).alloc (.cells #[.string a,.string b,.string c] 31)=o at *
   obtain ⟨p,s,u,x⟩:=hk.c4;have kl:=hk.lt;obtain ⟨z,A,B⟩:=j.c3;have C:=j.lt;go_wp2_with (go_at_call 81;refine m.mono ?_;rintro e D ⟨rfl,hb⟩)
   go_ret
   exact ⟨rfl,zam g g.size hb⟩
theorem right_any12 (h:TabA w Ay cy ty mb ps Ar cr K) (hps:ps.length≤96) (a b c x y z:ByteArray) (ha:a.size≤100000) (hb:b.size≤100000) (hc:c.size≤100000) (hx:x.size≤100000) (hy:y.size≤100000) (hz:z.size≤100000) :
 Calls Tryz.prog 44 #[.agg #[.string tx,.slice Ay ty.length cy,.map mb,.slice Ar K.length cr],.agg #[.string a,.string b,.string c,.string x,.string y,.string z]] w fun e w'=>e = .returned (.int .i64 (zcM ty ps K ((a,b,c),(x,y,z))))∧Below w.heap.size w w':=by
 obtain ⟨R,f⟩:∃R,Hid (zcM ty ps K ((a,b,c),(x,y,z))=R):=⟨_,Lib.hid rfl⟩;rw [f.out];unfold zcM mayT at f;dsimp only at f;have hk:=(Bk.new w #[.string tx,.slice Ay ty.length cy,.map mb,.slice Ar K.length cr] 61).alloc (.cells #[.string a,.string b,.string c,.string x,.string y,.string z] 51);have B:=Bk.new2 w (.cells #[.string tx,.slice Ay ty.length cy,.map mb,.slice Ar K.length cr] 61) #[.string a,.string b,.string c,.string x,.string y,.string z] 51;have n:Below w.heap.size w ((w.alloc (.cells #[.string tx,.slice Ay ty.length cy,.map mb,.slice Ar K.length cr] 61)).alloc (.cells #[.string a,.string b,.string c,.string x,.string y,.string z] 51)):=((Below.refl _ w).alloc (yaj _) _).alloc (size_alloc (yaj _)) _;replace h:=h.up n;go_enter Tryz.func44,Tryz.ntmps44
 go_upto_region 1 with (fail)
 generalize (w.alloc (.cells #[.string tx,.slice Ay ty.length cy,.map mb,.slice Ar K.length cr] 61)).alloc (.cells #[.string a,.string b,.string c,.string x,.string y,.string z] 51)=w1 at *
 have P:=tid_any (tx:=tx) (Ay:=Ay) (ny:=ty.length) (cy:=cy) (Ar:=Ar) (cr:=cr) (nr:=K.length) h.ids a c yad yad;obtain ⟨Q,T,U,V⟩:=hk.c4;have kl:=hk.lt;obtain ⟨X,Y,Z,l3,l4,l5⟩:=B.c6;have ll:=B.lt;go_upto_region 2 with (go_at_call 81;refine P.mono ?_;rintro e w2 ⟨rfl,o⟩)
 replace h:=h.up o;replace hk:=hk.below o;replace B:=B.below o;replace n:=zam n n.size o;clear o P Q T U V kl X Y Z l3 l4 l5 ll;obtain ⟨Q,T,U,V⟩:=hk.c4;have kl:=hk.lt;obtain ⟨X,Y,Z,l3,l4,l5⟩:=B.c6;have ll:=B.lt;have J:=ix_small hps (a,c);generalize ixP ps (a,c)=i at *
 obtain ⟨p,L⟩:∃p,Hid (zmx ((a,b,c),(x,y,z))=p):=⟨_,Lib.hid rfl⟩;have G:=fun W=>fmd_is L.out ha hb hc hx hy hz W;cases p with
 | false =>
  obtain rfl:R=31:=by rw [←f.out,yak fun q=>by rw [L.out] at q;cases q.1]
  clear f;go_wp2_with (go_at_call 82;refine (G _).mono ?_;rintro e M ⟨rfl,d⟩)
  go_ret
  exact ⟨rfl,zam n n.size d⟩
 | true =>
  obtain ⟨q,N⟩:∃q,Hid ((zar ps (a,c)).isSome=q):=⟨_,Lib.hid rfl⟩;rw [N.out];cases q with
  | false =>
   obtain rfl:R=31:=by rw [←f.out,yak fun r=>by rw [N.out] at r;cases r.2.1]
   clear f;go_wp2_with (go_at_call 82;refine (G _).mono ?_;rintro e M ⟨rfl,d⟩)
   go_ret
   exact ⟨rfl,zam n n.size d⟩
  | true =>
   obtain ⟨r,H⟩:∃r,Hid (knowT ty ps x z=r):=⟨_,Lib.hid rfl⟩;cases r with
   | false =>
    obtain rfl:R=31:=by rw [←f.out,yak fun s=>by rw [H.out] at s;cases s.2.2]
    clear f;go_wp2_with (first
     | (go_at_call 82;refine (G _).mono ?_;rintro e M ⟨rfl,d⟩;have I:=h.up d;have g:=hk.below d;have j:=B.below d;have A:=zam n n.size d;obtain ⟨m0,m1,m2,m3⟩:=g.c4;have ml:=g.lt;obtain ⟨n0,n1,n2,n3,n4,n5⟩:=j.c6;have nl:=j.lt;have C:=knows_any (tx:=tx) I x y z hx hz;rw [H.out] at C)
     | (go_at_call 83;refine C.mono ?_;rintro e w4 ⟨rfl,k⟩))
    go_ret
    exact ⟨rfl,zam A A.size k⟩
   | true =>
    obtain ⟨m,hm⟩:∃m,Hid (((atK K (i:Nat)).r.subs.any fun u=>decide (u=(x,z)))=m):=⟨_,Lib.hid rfl⟩;obtain rfl:R=if m=true then 0 else 40:=by rw [←f.out,yan ⟨L.out,N.out,H.out⟩,hm.out]
    clear f;go_wp2_with (first
     | (go_at_call 82;refine (G _).mono ?_;rintro e M ⟨rfl,d⟩;have I:=h.up d;have g:=hk.below d;have j:=B.below d;have A:=zam n n.size d;obtain ⟨m0,m1,m2,m3⟩:=g.c4;have ml:=g.lt;obtain ⟨n0,n1,n2,n3,n4,n5⟩:=j.c6;have nl:=j.lt;have C:=knows_any (tx:=tx) I x y z hx hz;rw [H.out] at C)
     | (go_at_call 83;refine C.mono ?_;rintro e w4 ⟨rfl,k⟩;have h4:=I.up k;have D:=g.below k;have E:=j.below k;have F:=zam A A.size k;obtain ⟨o0,o1,o2,o3⟩:=D.c4;have ol:=D.lt;obtain ⟨q0,q1,q2,q3,q4,q5⟩:=E.c6;have ql:=E.lt;have km:=tmay_any (tx:=tx) (Ay:=Ay) (ny:=ty.length) (cy:=cy) (mb:=mb) h4.rels (i:Nat) (wf11 J) x z;rw [hm.out] at km)
     | (go_at_call 84;refine km.mono ?_;rintro e w5 ⟨rfl,O⟩))
    all_goals (cases m <;> first | contradiction | skip)
    all_goals go_ret
    all_goals exact ⟨rfl,zam F F.size O⟩
end
end
section
def zl8 (s:List ByteArray) (k:ByteArray):List ByteArray:=if hasK s k then s else zkL s k
def zoq (l:List ByteArray):List ByteArray:=l.foldl zl8 []
theorem zl9 {s:List ByteArray} {k:ByteArray} (h:Rises s):Rises (zl8 s k):=by
 unfold zl8;split
 · exact h
 · rename_i q
   exact zd5 h (za7.1 (by simpa using q))
theorem zro {s:List ByteArray} {k x:ByteArray}:x ∈ zl8 s k↔x=k∨x ∈ s:=by
 unfold zl8;split
 · rename_i q
   exact ⟨.inr,fun h=>h.elim (fun e=>by rw [e];exact zas.1 q) id⟩
 · exact zcL
theorem zib:∀{l s:List ByteArray},Rises s→Rises (l.foldl zl8 s)
 | [],_,h=>h
 | _::l,_,h=>zib (l:=l) (zl9 h)
theorem zmy:∀{l s:List ByteArray} {x:ByteArray},x ∈ l.foldl zl8 s↔x ∈ s∨x ∈ l
 | [],_,_=>by simp
 | a::l,s,x=>by
  rw [yb7,zmy (l:=l),zro,yav];constructor
  · rintro ((h | h) | h)
    · exact .inr (.inl h)
    · exact .inl h
    · exact .inr (.inr h)
  · rintro (h | h | h)
    · exact .inl (.inr h)
    · exact .inl (.inl h)
    · exact .inr h
theorem zed (l:List ByteArray):Rises (zoq l):=zib List.Pairwise.nil
theorem zfb {l:List ByteArray} {x:ByteArray}:x ∈ zoq l↔x ∈ l:=by
 unfold zoq;rw [zmy];simp
theorem zh1:∀(ch:List (ByteArray × Bool)) (t:List ByteArray) (i:Nat),Rises t→(∃r,zcy t ch i=(r,0,0)∧Rises r) ∨
 ∃(j:Nat) (u:List ByteArray) (c:ByteArray × Bool),ch[j]? = some c∧zcy t ch i=([],if c.2 then 32 else 41,i + j)∧zcy t (ch.take j) i=(u,0,0)∧hasK u c.1=c.2∧Rises u
 | [],t,i,h=>.inl ⟨t,rfl,h⟩
 | c::r,t,i,h=>by
  by_cases q:hasK t c.1 = !c.2
  · rcases zh1 r (zjF t c) (i + 1) (zc4 h q) with ⟨x,b,d⟩ | ⟨j,u,e,b,d,g,k,m⟩
    · exact .inl ⟨x,by rw [zb8 q,b],d⟩
    · exact .inr ⟨j + 1,u,e,by simpa using b,by rw [zb8 q,d,show i + 1 + j=i + (j + 1) by omega],by rw [ycI,zb8 q,g],k,m⟩
  · have f:hasK t c.1=c.2:=by cases e:c.2 <;> simp_all
    exact .inr ⟨0,t,c,rfl,by rw [zbR f];rfl,rfl,f,h⟩
theorem zh3:∀(ch:List (ByteArray × Bool)) (t:List ByteArray) (i k:Nat),zcy t ch (i + k)=((zcy t ch i).1,(zcy t ch i).2.1,if (zcy t ch i).2.1=0 then 0 else (zcy t ch i).2.2 + k)
 | [],t,i,k=>rfl
 | c::r,t,i,k=>by
  by_cases q:hasK t c.1 = !c.2
  · rw [zb8 q,zb8 q,show i + k + 1=i + 1 + k by omega,zh3 r]
  · have b:hasK t c.1=c.2:=by cases e:c.2 <;> simp_all
    rw [zbR b,zbR b];cases c.2 <;> rfl
end
section
variable {r:Int}
structure Bp (τ α:Type) where
 comp:ByteArray→Int × ByteArray × τ
 right:τ→α→Int
 key:α→ByteArray
 of:ByteArray→α
structure Rv (τ ν:Type) where
 text:ByteArray
 T:τ
 keys:List ByteArray
 by_:ν
 schema:Bool
 wrote:List ByteArray
structure Sto (τ ν:Type) where
 floor:Int
 L:List (Rv τ ν)
 quota:Int
section
variable {τ α:Type}
def zbL (p:Bp τ α) (t:τ):List ByteArray→Int
 | []=>0
 | k::r=>if p.right t (p.of k)=0 then zbL p t r else p.right t (p.of k)
def zaU (p:Bp τ α) (t:τ):List α→Nat→Int × Nat
 | [],_=>(0,0)
 | x::r,i=>if p.right t x=0 then zaU p t r (i + 1) else (p.right t x,i)
theorem zbZ {p:Bp τ α} {t:τ}:∀{l:List ByteArray},zbL p t l=0↔∀k ∈ l,p.right t (p.of k)=0
 | []=>by simp [zbL]
 | k::r=>by
  unfold zbL;have ih:=zbZ (p:=p) (t:=t) (l:=r);by_cases e:p.right t (p.of k)=0
  · rw [yan e,ih];simp [e]
  · rw [yak e];simp [e]
theorem zdi {p:Bp τ α} {t:τ}:∀{l:List α} {i:Nat},(zaU p t l i).1=0↔∀x ∈ l,p.right t x=0
 | [],i=>by simp [zaU]
 | x::r,i=>by
  unfold zaU;have ih:=zdi (p:=p) (t:=t) (l:=r) (i:=i + 1);by_cases e:p.right t x=0
  · rw [yan e,ih];simp [e]
  · rw [yak e];simp [e]
theorem zjS:∀{c:List (ByteArray × Bool)} {t r:List ByteArray} {i:Nat},zcy t c i=(r,0,0)→∀k ∈ r,k ∈ t∨k ∈ c.map Prod.fst
 | [],t,r,i,h,k,hk=>by
  unfold zcy at h;cases h;exact .inl hk
 | c::d,t,r,i,h,k,hk=>by
  by_cases e:hasK t c.1 = !c.2
  · rw [zb8 e] at h;rcases zjS h k hk with b | b
    · have f:=zcK e k;rw [zas.2 b] at f;by_cases q:k=c.1
      · exact .inr (by rw [q];simp)
      · rw [yak q] at f;exact .inl (zas.1 f.symm)
    · exact .inr (yau _ b)
  · rw [zbR (by cases b:hasK t c.1 <;> cases f:c.2 <;> simp_all)] at h;injection h with _ h
    injection h with h _
    split at h <;> cases h
theorem zoP {t:List ByteArray} {q c:List (ByteArray × Bool)} (ht:Rises t) (h:(zcb t q c).2.1=0):zhM t q=none∧zcy t c 0=((zcb t q c).1,0,0)∧Rises (zcb t q c).1∧(zcb t q c).2.2=0:=by
 unfold zcb at h ⊢;cases e:zhM t q with
 | some i=>rw [e] at h;cases h
 | none =>
  rw [e] at h;dsimp only at h ⊢;have f:=zh3 c t 0 q.length;rw [yaG] at f;rw [f] at h ⊢;dsimp only at h ⊢;rcases zh1 c t 0 ht with ⟨r,b,g⟩ | ⟨j,u,d,_,b,_⟩
  · rw [b];exact ⟨rfl,rfl,g,rfl⟩
  · rw [b] at h;exfalso;revert h
    dsimp only;split <;> decide
end
section
variable {τ ν α:Type}
def revB (s:Sto τ ν):Int:=s.floor + s.L.length-1
def zaO (s:Sto τ ν) (r:Int):Bool:=decide (s.floor≤r) && decide (r≤revB s)
def keyed (p:Bp τ α) (l:List (α × Bool)):List (ByteArray × Bool):=l.map fun x=>(p.key x.1,x.2)
theorem zgZ (p:Bp τ α) (l:List (α × Bool)):(keyed p l).map Prod.fst=l.map fun x=>p.key x.1:=by simp [keyed]
theorem zbG {s:Sto τ ν}:zaO s r=true↔s.floor≤r∧r≤revB s:=by simp [zaO]
end
section
variable {τ ν α:Type} [Inhabited τ] [Inhabited ν]
def zjE:Rv τ ν:=⟨⟨#[]⟩,default,[],default,false,[]⟩
def zbT (q:Int):Sto τ ν:=⟨0,[zjE],if q<0 then 0 else q⟩
def zai (s:Sto τ ν):Rv τ ν:=s.L.getLast?.getD zjE
def atB (s:Sto τ ν) (r:Int):Rv τ ν:=if zaO s r=true then s.L.getD (r-s.floor).toNat zjE else zjE
def zaQ (s:Sto τ ν) (v:Rv τ ν):Sto τ ν:={ s with L:=s.L ++ [v] }
def zaC (p:Bp τ α) (s:Sto τ ν) (n:ν) (x:ByteArray):Sto τ ν × Int :=
 if (p.comp x).1=0 then
  if zbL p (p.comp x).2.2 (zai s).keys=0 then
   if 63<s.L.length then (s,42) else (zaQ s ⟨(p.comp x).2.1,(p.comp x).2.2,(zai s).keys,n,true,[]⟩,0)
  else (s,zbL p (p.comp x).2.2 (zai s).keys)
 else (s,(p.comp x).1)
def zaA (p:Bp τ α) (s:Sto τ ν) (n:ν) (q c:List (α × Bool)):Sto τ ν × Int × Nat :=
 if c.length=0 then (s,1,0)
 else if 16<q.length∨16<c.length then (s,13,0)
 else if (zaU p (zai s).T ((q ++ c).map Prod.fst) 0).1≠0 then (s,zaU p (zai s).T ((q ++ c).map Prod.fst) 0)
 else if (zcb (zai s).keys (keyed p q) (keyed p c)).2.1≠0 then (s,((zcb (zai s).keys (keyed p q) (keyed p c)).2.1:Nat),(zcb (zai s).keys (keyed p q) (keyed p c)).2.2)
 else if s.quota<((zcb (zai s).keys (keyed p q) (keyed p c)).1.length:Int)∨63<s.L.length then (s,42,0)
 else (zaQ s ⟨(zai s).text,(zai s).T,(zcb (zai s).keys (keyed p q) (keyed p c)).1,n,false,(keyed p c).map Prod.fst⟩,0,0)
structure Beh (p:Bp τ α) (u v:Rv τ ν):Prop where
 same:v.schema=true→v.keys=u.keys∧v.wrote=[]∧∃x,(p.comp x).1=0∧v.text=(p.comp x).2.1∧v.T=(p.comp x).2.2
 turn:v.schema=false→v.text=u.text∧v.T=u.T∧0<v.wrote.length∧v.wrote.length≤16∧∃c:List (ByteArray × Bool),c.map Prod.fst=v.wrote∧zcy u.keys c 0=(v.keys,0,0)
structure OkB (p:Bp τ α) (s:Sto τ ν):Prop where
 floor:0≤s.floor
 has:s.L≠[]
 few:s.L.length≤64
 quota:0≤s.quota
 rise:∀v ∈ s.L,Rises v.keys
 most:∀v ∈ s.L,(v.keys.length:Int)≤s.quota
 fits:∀v ∈ s.L,zbL p v.T v.keys=0
 steps:∀(i:Nat) u v,s.L[i]? = some u→s.L[i + 1]? = some v→Beh p u v
theorem zcZ {s:Sto τ ν} (h:s.L≠[]):zai s ∈ s.L:=by
 unfold zai;rw [List.getLast?_eq_some_getLast h];exact List.getLast_mem h
theorem zeY {s:Sto τ ν} (h:s.L≠[]):s.L[s.L.length-1]? = some (zai s):=by
 unfold zai;rw [List.getLast?_eq_getElem?];obtain ⟨x,b⟩:∃x,s.L[s.L.length-1]? = some x:=⟨_,yal (by have:=ybG.2 h;omega)⟩;rw [b];rfl
structure BpOk (p:Bp τ α):Prop where
 back:∀t x,p.right t x=0→p.of (p.key x)=x
def OkT (p:Bp τ α) (s:Sto τ ν):Prop:=∀v ∈ s.L,p.comp v.text=(0,v.text,v.T)
theorem OkB.new (p:Bp τ α) (q:Int):OkB p (zbT q:Sto τ ν) where
 floor:=ybp _
 has:=by simp [zbT]
 few:=by simp [zbT]
 quota:=by unfold zbT;dsimp only;split <;> omega
 rise:=fun v b=>by
  rw [yas.1 (show v ∈ [zjE] from b)];exact List.Pairwise.nil
 most:=fun v b=>by
  rw [yas.1 (show v ∈ [zjE] from b)];show (0:Int)≤_;unfold zbT;dsimp only;split <;> omega
 fits:=fun v b=>by
  rw [yas.1 (show v ∈ [zjE] from b)];rfl
 steps:=fun i u v _ d=>by
  rw [show (zbT q:Sto τ ν).L=[zjE] from rfl] at d;simp at d
theorem OkB.next {p:Bp τ α} {s:Sto τ ν} {v:Rv τ ν} (h:OkB p s) (h1:¬63<s.L.length) (h2:Rises v.keys) (h3:(v.keys.length:Int)≤s.quota) (h4:zbL p v.T v.keys=0) (h5:Beh p (zai s) v):OkB p (zaQ s v) where
 floor:=h.floor
 has:=by simp [zaQ]
 few:=by simp [zaQ];omega
 quota:=h.quota
 rise:=fun x b=>by
  rcases yaz.1 (show x ∈ s.L ++ [v] from b) with b | b
  · exact h.rise x b
  · rw [yas.1 b];exact h2
 most:=fun x b=>by
  rcases yaz.1 (show x ∈ s.L ++ [v] from b) with b | b
  · exact h.most x b
  · rw [yas.1 b];exact h3
 fits:=fun x b=>by
  rcases yaz.1 (show x ∈ s.L ++ [v] from b) with b | b
  · exact h.fits x b
  · rw [yas.1 b];exact h4
 steps:=fun i u x d b=>by
  rw [show (zaQ s v).L=s.L ++ [v] from rfl] at d b;have hi:i + 1<s.L.length + 1:=by
   have:=(yao.1 b).1;simpa using this
  rw [ybr (by omega)] at d;by_cases e:i + 1<s.L.length
  · rw [ybr e] at b;exact h.steps i u x d b
  · have g:i + 1=s.L.length:=by omega
    rw [g,yaF (yaj _),yct] at b;have f:=zeY h.has;rw [show s.L.length-1=i by omega,d] at f;injection f with f
    injection b with b
    subst f b;exact h5
theorem OkB.define {p:Bp τ α} {s:Sto τ ν} (h:OkB p s) (n:ν) (x:ByteArray):OkB p (zaC p s n x).1:=by
 unfold zaC;split
 · rename_i b
   split
   · rename_i d
     split
     · exact h
     · rename_i f
       exact h.next f (show Rises (zai s).keys from h.rise _ (zcZ h.has)) (show ((zai s).keys.length:Int)≤_ from h.most _ (zcZ h.has)) d ⟨fun _=>⟨rfl,rfl,x,b,rfl,rfl⟩,fun q=>by cases q⟩
   · exact h
 · exact h
theorem zfj {p:Bp τ α} {s:Sto τ ν} {n:ν} {q c:List (α × Bool)} (hs:OkB p s) (h:(zaA p s n q c).2.1=0) :
 0<c.length∧q.length≤16∧c.length≤16∧(∀x ∈ q ++ c,p.right (zai s).T x.1=0)∧zhM (zai s).keys (keyed p q)=none∧s.L.length≤63 ∧
 ∃k,zcy (zai s).keys (keyed p c) 0=(k,0,0)∧Rises k∧(k.length:Int)≤s.quota∧zaA p s n q c=(zaQ s ⟨(zai s).text,(zai s).T,k,n,false,(keyed p c).map Prod.fst⟩,0,0):=by
 unfold zaA at h ⊢;by_cases f:c.length=0
 · rw [yan f] at h;cases h
 rw [yak f] at h ⊢;by_cases g:16<q.length∨16<c.length
 · rw [yan g] at h;cases h
 rw [yak g] at h ⊢;by_cases b:(zaU p (zai s).T ((q ++ c).map Prod.fst) 0).1≠0
 · rw [yan b] at h;exact absurd h b
 rw [yak b] at h ⊢;by_cases d:(zcb (zai s).keys (keyed p q) (keyed p c)).2.1≠0
 · rw [yan d] at h;exact absurd (show (zcb (zai s).keys (keyed p q) (keyed p c)).2.1=0 from Int.ofNat.inj h) d
 rw [yak d] at h ⊢;by_cases j:s.quota<((zcb (zai s).keys (keyed p q) (keyed p c)).1.length:Int)∨63<s.L.length
 · rw [yan j] at h;cases h
 rw [yak j];obtain ⟨m,o,a3,_⟩:=zoP (hs.rise _ (zcZ hs.has)) (ycB.1 d);have u:=zdi.1 (ycB.1 b);exact ⟨by omega,by omega,by omega,fun x y=>u x.1 (yaN.2 ⟨x,y,rfl⟩),m,by omega,_,o,a3,by omega,rfl⟩
theorem zhF {p:Bp τ α} {s:Sto τ ν} {n:ν} {q c:List (α × Bool)} (h:(zaA p s n q c).2.1≠0):(zaA p s n q c).1=s:=by
 unfold zaA at h ⊢;split
 · rfl
 split
 · rfl
 split
 · rfl
 split
 · rfl
 split
 · rfl
 · rename_i b d f g j
   rw [yak b,yak d,yak f,yak g,yak j] at h;exact absurd rfl h
theorem OkB.write {p:Bp τ α} {s:Sto τ ν} (hp:BpOk p) (h:OkB p s) (n:ν) (q c:List (α × Bool)):OkB p (zaA p s n q c).1:=by
 by_cases e:(zaA p s n q c).2.1=0
 · obtain ⟨j,D,m,o,E,F,k,d,u,A,b⟩:=zfj h e;rw [b];refine h.next yab u A (zbZ.2 fun y B=>?_) ⟨fun z=>(by cases z),fun _=>⟨rfl,rfl,by simpa [keyed] using j,by simpa [keyed] using m,_,rfl,d⟩⟩;rcases zjS d y B with g | g
   · exact zbZ.1 (h.fits _ (zcZ h.has)) y g
   · rw [zgZ] at g;obtain ⟨x,C,rfl⟩:=yaN.1 g;have f:=o x (yaz.2 (.inr C));dsimp only;rw [hp.back _ _ f];exact f
 · rw [zhF e];exact h
theorem zeJ {s:Sto τ ν} {i:Nat} {v:Rv τ ν} (h:s.L[i]? = some v):atB s (s.floor + i)=v:=by
 have b:=(yao.1 h).1;unfold atB;rw [yan (zbG.2 ⟨by omega,by unfold revB;omega⟩),show (s.floor + (i:Int)-s.floor).toNat=i by omega,ya5,h];rfl
theorem ziI {s:Sto τ ν} (h:zaO s r=true):∃i:Nat,r=s.floor + i∧s.L[i]? = some (atB s r):=by
 obtain ⟨f,d⟩:=zbG.1 h;unfold revB at d;obtain ⟨i,hi⟩:∃i:Nat,r=s.floor + i:=⟨(r-s.floor).toNat,by omega⟩;obtain ⟨v,b⟩:∃v,s.L[i]? = some v:=⟨_,yal yab⟩;refine ⟨i,hi,?_⟩;rw [hi,zeJ b,b]
theorem zfn {s:Sto τ ν} (h:zaO s r=false):atB s r=zjE:=by
 unfold atB;rw [yak (by rw [h];decide)]
end
section
variable {τ ν α:Type}
end
structure Cd where
 num:Nat→List UInt8
 txt:ByteArray→List UInt8
 okN:Nat→Prop
 okT:ByteArray→Prop
abbrev Nd15:=ByteArray × ByteArray × ByteArray
def lstC (c:Cd) (l:List ByteArray):List UInt8:=c.num l.length ++ l.flatMap c.txt
structure LOk (c:Cd) (l:List ByteArray):Prop where
 len:c.okN l.length
 each:∀a ∈ l,c.okT a
section
variable {τ:Type}
structure ROk (c:Cd) (v:Rv τ Nd15):Prop where
 text:c.okT v.text
 keys:LOk c v.keys
 wrote:LOk c v.wrote
 by1:c.okT v.by_.1
 by2:c.okT v.by_.2.1
 by3:c.okT v.by_.2.2
def zfk (c:Cd) (v:Rv τ Nd15):List UInt8:=c.txt v.by_.1 ++ (c.txt v.by_.2.1 ++ (c.txt v.by_.2.2 ++ (if v.schema=true then c.num 1 ++ c.txt v.text else c.num 0 ++ lstC c v.wrote)))
def zbi (c:Cd) (s:Sto τ Nd15):List UInt8:=match s.L with
 | []=>[]
 | v::r=>c.num s.floor.toNat ++ (c.num (revB s).toNat ++ (c.txt v.text ++ (lstC c v.keys ++ r.flatMap (zfk c))))
structure Alike (u v:Rv τ Nd15):Prop where
 text:u.text=v.text
 T:u.T=v.T
 keys:u.keys=v.keys
end
end
section
section
variable {τ ν:Type}
theorem zbd (s:Sto τ ν) (v:Rv τ ν):revB (zaQ s v)=revB s + 1:=by
 unfold revB zaQ;dsimp only;rw [yam,ybu];omega
end
section
variable {τ ν α:Type} [Inhabited τ] [Inhabited ν]
theorem zil (s:Sto τ ν) (v:Rv τ ν):zai (zaQ s v)=v:=by
 unfold zai zaQ;dsimp only;rw [List.getLast?_append];rfl
theorem za5 {s:Sto τ ν} (h:s.L≠[]):atB s (revB s)=zai s:=by
 have b:=ybG.2 h;have:=zeJ (zeY h);rw [←this];congr 1
 unfold revB;omega
theorem zmf {s:Sto τ ν} {v:Rv τ ν} {r:Int} (h:r≤revB s):atB (zaQ s v) r=atB s r:=by
 by_cases q:s.floor≤r
 · obtain ⟨i,hi,b⟩:=ziI (s:=s) (r:=r) (zbG.2 ⟨q,h⟩);have f:=(yao.1 b).1;have g:(zaQ s v).L[i]? = some (atB s r):=by
    show (s.L ++ [v])[i]? = _;rw [ybr f,b]
   have d:=zeJ g;rw [show (zaQ s v).floor + (i:Int)=r from hi.symm] at d;exact d
 · have j:zaO (zaQ s v) r=false:=ybl.2 fun z=>q (zbG.1 z).1;have k:zaO s r=false:=ybl.2 fun z=>q (zbG.1 z).1;rw [zfn j,zfn k]
theorem zeG {p:Bp τ α} {s:Sto τ ν} {n:ν} {t:α} {q:List (α × Bool)} {b:Bool} (hr:p.right (zai s).T t≠0) (hq:q=[]∨∃d,q=[(t,d)]):zaA p s n q [(t,b)]=(s,p.right (zai s).T t,0):=by
 have f:zaU p (zai s).T ((q ++ [(t,b)]).map Prod.fst) 0=(p.right (zai s).T t,0):=by
  rcases hq with rfl | ⟨d,rfl⟩ <;> simp [zaU,hr]
 have g:¬(16<q.length∨16<[(t,b)].length):=by rcases hq with rfl | ⟨d,rfl⟩ <;> simp
 unfold zaA;rw [yak yaf,yak g,f,yan hr]
theorem zcG {p:Bp τ α} {s:Sto τ ν} {n:ν} {t:α} {q:List (α × Bool)} {b:Bool} (hr:p.right (zai s).T t=0) (hq:q=[]∨∃d,q=[(t,d)]) :
 zaA p s n q [(t,b)]=if (zcb (zai s).keys (keyed p q) [(p.key t,b)]).2.1≠0 then (s,(((zcb (zai s).keys (keyed p q) [(p.key t,b)]).2.1:Nat):Int),(zcb (zai s).keys (keyed p q) [(p.key t,b)]).2.2)
  else if s.quota<((zcb (zai s).keys (keyed p q) [(p.key t,b)]).1.length:Int)∨63<s.L.length then (s,42,0)
  else (zaQ s ⟨(zai s).text,(zai s).T,(zcb (zai s).keys (keyed p q) [(p.key t,b)]).1,n,false,[p.key t]⟩,0,0):=by
 have g:(zaU p (zai s).T ((q ++ [(t,b)]).map Prod.fst) 0).1=0:=zdi.2 fun x f=>by
  rcases hq with rfl | ⟨d,rfl⟩
  · simp at f;subst f;exact hr
  · simp at f;subst f;exact hr
 have j:¬(16<q.length∨16<[(t,b)].length):=by rcases hq with rfl | ⟨d,rfl⟩ <;> simp
 unfold zaA;rw [yak yaf,yak j,yak (by rw [g];simp)];rfl
theorem once15 {p:Bp τ α} {n:ν} {x:ByteArray} {t:α} (h:(p.comp x).1=0) (hr:p.right (p.comp x).2.2 t=0):∃s1 s2 s3:Sto τ ν,
 zaC p (zbT 5) n x=(s1,0)∧zaA p s1 n [(t,true)] [(t,true)]=(s1,41,0)∧zaA p s1 n [(t,false)] [(t,true)]=(s2,0,0)∧zaA p s2 n [] [(t,true)]=(s2,32,0) ∧
 zaA p s2 n [(t,true)] [(t,false)]=(s3,0,0)∧zaA p s3 n [] [(t,false)]=(s3,41,0)∧revB s1=1∧revB s2=2∧revB s3=3∧s3.floor=0∧s2.floor=0 ∧
 (atB s2 2).keys=[p.key t]∧(atB s2 1).keys=[]∧(atB s3 2).keys=[p.key t]∧(atB s3 3).keys=[]∧s3.L.length=4:=by
 refine ⟨⟨0,[zjE,⟨(p.comp x).2.1,(p.comp x).2.2,[],n,true,[]⟩],5⟩,⟨0,[zjE,⟨(p.comp x).2.1,(p.comp x).2.2,[],n,true,[]⟩,⟨(p.comp x).2.1,(p.comp x).2.2,[p.key t],n,false,[p.key t]⟩],5⟩,⟨0,[zjE,⟨(p.comp x).2.1,(p.comp x).2.2,[],n,true,[]⟩,⟨(p.comp x).2.1,(p.comp x).2.2,[p.key t],n,false,[p.key t]⟩,⟨(p.comp x).2.1,(p.comp x).2.2,[],n,false,[p.key t]⟩],5⟩,?_,?_,?_,?_,?_,?_,rfl,rfl,rfl,rfl,rfl,rfl,rfl,rfl,rfl,rfl⟩
 · unfold zaC;rw [yan h,yan (by rfl)];rfl
 · rw [zcG hr (.inr ⟨_,rfl⟩)];rfl
 · rw [zcG hr (.inr ⟨_,rfl⟩)];rfl
 · rw [zcG hr (.inl rfl)];simp [zcb,zhM,zcy,zai,hasK,keyed]
 · rw [zcG hr (.inr ⟨_,rfl⟩)];simp [zcb,zhM,zcy,zai,hasK,keyed,outK,zaQ]
 · rw [zcG hr (.inl rfl)];rfl
theorem zlj {p:Bp τ α} {s:Sto τ ν} {n:ν} {x:ByteArray} (h:(p.comp x).1=0) (hk:(zai s).keys=[]) :
 zaC p s n x=if 63<s.L.length then (s,42) else (zaQ s ⟨(p.comp x).2.1,(p.comp x).2.2,[],n,true,[]⟩,0):=by
 unfold zaC;rw [yan h,hk,yan (by rfl)]
end
section
variable {τ:Type}
structure SameB (s t:Sto τ Nd15):Prop where
 floor:s.floor=t.floor
 quota:s.quota=t.quota
 rows:∃u v r,s.L=u::r∧t.L=v::r∧Alike u v
theorem Alike.refl (u:Rv τ Nd15):Alike u u:=⟨rfl,rfl,rfl⟩
theorem SameB.len {s t:Sto τ Nd15} (h:SameB s t):s.L.length=t.L.length:=by
 obtain ⟨u,v,r,b,d,_⟩:=h.rows;rw [b,d];rfl
theorem SameB.rev {s t:Sto τ Nd15} (h:SameB s t):revB s=revB t:=by
 unfold revB;rw [h.floor,h.len]
theorem SameB.kept {s t:Sto τ Nd15} (h:SameB s t) (r:Int):zaO s r=zaO t r:=by
 unfold zaO;rw [h.floor,h.rev]
theorem SameB.pack {c:Cd} {s t:Sto τ Nd15} (h:SameB s t):zbi c s=zbi c t:=by
 have d:=h.rev;obtain ⟨u,v,l,f,g,b⟩:=h.rows;unfold zbi;rw [f,g,h.floor,d];dsimp only;rw [b.text,b.keys]
end
section
variable {τ α:Type} [Inhabited τ]
theorem SameB.at_ {s t:Sto τ Nd15} (h:SameB s t) (r:Int):Alike (atB s r) (atB t r)∧(s.floor<r→atB s r=atB t r):=by
 have hk:=h.kept r;have d:=h.floor;unfold atB;rw [hk];by_cases q:zaO t r=true
 · rw [yan q,yan q];obtain ⟨m,n⟩:=zbG.1 q;obtain ⟨u,v,l,f,g,j⟩:=h.rows;rw [f,g,d];obtain ⟨k,b⟩:∃k:Nat,(r-t.floor).toNat=k:=⟨_,rfl⟩;rw [b];cases k with
   | zero=>exact ⟨j,fun z=>by omega⟩
   | succ k =>
    rw [List.getD_cons_succ,List.getD_cons_succ];exact ⟨Alike.refl _,fun _=>rfl⟩
 · rw [yak q,yak q];exact ⟨Alike.refl _,fun _=>rfl⟩
end
end
end Go.Proofs.YtmblgnddgmfkhaaGreat
