/- BatchOnce, walked. Conditions: none but the form's own reach. -/
import Derived.Test.YtmblgnddgmfkhaaGreatQ39
set_option maxRecDepth 100000
set_option maxHeartbeats 4000000
namespace Go.Proofs.YtmblgnddgmfkhaaGreat
open Go.RowKit
theorem rightT_two (ty:List ByteArray) (ps:List Path) (K:List TabR) (u:TuP):zcM ty ps K u=0∨zcM ty ps K u=40∨zcM ty ps K u=31:=by
 unfold zcM;split
 · split
   · exact .inl rfl
   · exact .inr (.inl rfl)
 · exact .inr (.inr rfl)
theorem keyT_le {u:TuP} {m:Nat} (h:∀z ∈ zaE u,z.size≤m):(zbu u).size≤6 * (m + 1):=by
 have k:=zeu (zqn u.1.1 u.1.2.1 u.1.2.2 u.2.1 u.2.2.1 u.2.2.2) (m:=m) (n:=6) (fun i hi=>by
  obtain rfl | rfl | rfl | rfl | rfl | rfl:i=0∨i=1∨i=2∨i=3∨i=4∨i=5:=by omega
  all_goals exact h _ (by simp [zaE,zqn])) 5 yab
 rw [zig] at k;exact k
theorem batchOnce_walk (x:ByteArray) (u:TuP) (b:Nd15) (w:World) (fx:x.size≤140737488351232) (fu:∀z ∈ zaE u,z.size≤140737488351232) (fb:b.1.size≤140737488351232∧b.2.1.size≤140737488351232∧b.2.2.size≤140737488351232) :
 Calls Tryz.prog 6 #[.string x,zf0 u,.agg #[.string b.1,.string b.2.1,.string b.2.2]] w fun e w'=>e = .returned (.bool true)∧Below w.heap.size w w':=by
 obtain ⟨f,hG⟩:=zmh;have P:=fun W=>rkey_any12 (w:=W) u.1.1 u.1.2.1 u.1.2.2 u.2.1 u.2.2.1 u.2.2.2 (fu _ (by simp [zaE])) (fu _ (by simp [zaE])) (fu _ (by simp [zaE])) (fu _ (by simp [zaE])) (fu _ (by simp [zaE])) (fu _ (by simp [zaE]));have au:=keyT_le fu;have b1:IntKind.i64.wrap ((b.1.size:Int) + (b.2.1.size:Int))=(b.1.size:Int) + (b.2.1.size:Int):=IntWalk.i64_in _ ⟨by omega,by omega⟩;have b2:IntKind.i64.wrap ((b.1.size:Int) + (b.2.1.size:Int) + (b.2.2.size:Int))=(b.1.size:Int) + (b.2.1.size:Int) + (b.2.2.size:Int):=IntWalk.i64_in _ ⟨by omega,by omega⟩;unfold zf0;rw [show zbu ((u.1.1,u.1.2.1,u.1.2.2),(u.2.1,u.2.2.1,u.2.2.2))=zbu u from rfl] at P;go_enter Tryz.func6,Tryz.ntmps6
 go_upto_region 1 with (fail)
 have M:=(Rk.new w #[.string u.1.1,.string u.1.2.1,.string u.1.2.2,.string u.2.1,.string u.2.2.1,.string u.2.2.2] 51).alloc (.cells #[.string b.1,.string b.2.1,.string b.2.2] 31);have J:=Rk.new (w.alloc (.cells #[.string u.1.1,.string u.1.2.1,.string u.1.2.2,.string u.2.1,.string u.2.2.1,.string u.2.2.2] 51)) #[.string b.1,.string b.2.1,.string b.2.2] 31;have I:=zad (zaM w (.cells #[.string u.1.1,.string u.1.2.1,.string u.1.2.2,.string u.2.1,.string u.2.2.1,.string u.2.2.2] 51)) (zaM w _).size (zaM (w.alloc (.cells #[.string u.1.1,.string u.1.2.1,.string u.1.2.2,.string u.2.1,.string u.2.2.1,.string u.2.2.2] 51)) (.cells #[.string b.1,.string b.2.1,.string b.2.2] 31));rw [show (w.alloc (.cells #[.string u.1.1,.string u.1.2.1,.string u.1.2.2,.string u.2.1,.string u.2.2.1,.string u.2.2.2] 51)).heap.size=w.heap.size + 1 by simp] at J;generalize (w.alloc (.cells #[.string u.1.1,.string u.1.2.1,.string u.1.2.2,.string u.2.1,.string u.2.2.1,.string u.2.2.2] 51)).alloc (.cells #[.string b.1,.string b.2.1,.string b.2.2] 31)=w1 at *
 obtain ⟨gt,Z⟩:∃gt,w.heap.size=gt:=⟨_,rfl⟩;obtain ⟨gb,a8⟩:∃gb,w.heap.size + 1=gb:=⟨_,rfl⟩;have M:Rk w1 gt _ _:=Z ▸ M;rw [a8] at J ⊢;rw [show (Value.pointer (some ⟨w.heap.size,0,none⟩)) = .pointer (some ⟨gt,0,none⟩) by rw [Z]];replace Z:=Lib.hid Z;replace a8:=Lib.hid a8;have ka:=awake15_any zfK w1;go_upto_region 4 with (go_at_call 9;refine ka.mono ?_;rintro e w2 ⟨rfl,a1⟩)
 replace M:=M.same (a1.block gt M.lt);replace J:=J.same (a1.block gb J.lt);replace I:=zad I I.size a1;clear ka a1;obtain ⟨m,o,p,s,y,A⟩:=M.c6t;have B:=M.lt;by_cases h1:2100<x.size
 · have d1:(2100:Int)<(x.size:Int):=by omega
   go_wp2_with fail
   go_ret
   exact ⟨rfl,I⟩
 have d1:¬(2100:Int)<(x.size:Int):=by omega
 have a2:=P w2;by_cases h2:400<(zbu u).size
 · have d2:(400:Int)<((zbu u).size:Int):=by omega
   go_wp2_with (go_at_call 21;refine a2.mono ?_;rintro e w3 ⟨rfl,H⟩)
   go_ret
   exact ⟨rfl,zad I I.size H⟩
 have d2:¬(400:Int)<((zbu u).size:Int):=by omega
 have K:=fun W (hb:Below w2.heap.size w2 W)=>(⟨(J.same (hb.block gb J.lt)).c3y,(J.same (hb.block gb J.lt)).lt⟩:(W.cell? ⟨gb,0,none⟩=some (.string b.1)∧W.cell? ⟨gb,1,none⟩=some (.string b.2.1)∧W.cell? ⟨gb,2,none⟩=some (.string b.2.2))∧gb<W.heap.size);by_cases h3:100<b.1.size + b.2.1.size + b.2.2.size
 · have d3:(100:Int)<(b.1.size:Int) + (b.2.1.size:Int) + (b.2.2.size:Int):=by omega
   go_wp2_with (go_at_call 21;refine a2.mono ?_;rintro e w3 ⟨rfl,H⟩;obtain ⟨⟨C,D,E⟩,F⟩:=K w3 H)
   go_ret
   exact ⟨rfl,zad I I.size H⟩
 have d3:¬(100:Int)<(b.1.size:Int) + (b.2.1.size:Int) + (b.2.2.size:Int):=by omega
 go_upto_region 6 with (go_at_call 21;refine a2.mono ?_;rintro e w3 ⟨rfl,H⟩;obtain ⟨⟨C,D,E⟩,F⟩:=K w3 H)
 replace M:=M.same (H.block gt M.lt);replace J:=J.same (H.block gb J.lt);replace I:=zad I I.size H;clear a2 P K H m o p s y A B C D E F d1 d2 d3 b1 b2;have kn:=iv_new (f:=f) zfK 5 w3;go_upto_region 7 with (go_at_call 11;refine kn.mono ?_;rintro e w4 ⟨g,rfl,hI,Q⟩)
 have aa:=M.lt;have ab:=J.lt;have ai:=M.same (Q.block gt M.lt);have a6:=J.same (Q.block gb J.lt);have aj:=zad I I.size Q;have ao:=I.size;obtain ⟨C,D,E⟩:=a6.c3y;have F:=a6.lt;have kd:=hI.define zfK hG.is b.1 b.2.1 b.2.2 x yab (by show (0:Int) + 1-1 + 1≤_;decide);by_cases hc:((p15 f).comp x).1=0
 · have hE:∃s1,zaC (p15 f) (zbT 5) b x=(s1,0)∧revB s1=1∧(zai s1).T=((p15 f).comp x).2.2:=⟨zaQ (zbT 5) ⟨((p15 f).comp x).2.1,((p15 f).comp x).2.2,[],b,true,[]⟩,by rw [zlj hc rfl];exact yak yac,rfl,rfl⟩;obtain ⟨s1,hE,ac,ak⟩:=hE;have al:zaC (p15 f) (zbT 5) (b.1,b.2.1,b.2.2) x=(s1,0):=hE;rw [al] at kd;go_upto_region 10 with (go_at_call 13;refine kd.mono ?_;rintro e w5 ⟨rfl,a7,N⟩)
   have R:=ai.same (N.old gt aa);have ad:=a6.same (N.old gb ab);have U:Below w3.heap.size w3 w5:=Q.trans (N.below fun _ q=>q);obtain ⟨m,o,p,s,y,A⟩:=R.c6t;have B:=R.lt;go_upto_region 11 with (fail)
   have V:=zaM w5 (.cells #[.string u.1.1,.string u.1.2.1,.string u.1.2.2,.string u.2.1,.string u.2.2.1,.string u.2.2.2,.bool true] 54);have X:=R.same (V.block gt R.lt);have ae:=ad.same (V.block gb ad.lt);have af:=Rk.new w5 #[.string u.1.1,.string u.1.2.1,.string u.1.2.2,.string u.2.1,.string u.2.2.1,.string u.2.2.2,.bool true] 54;have am:w5.heap.size<(w5.alloc (.cells #[.string u.1.1,.string u.1.2.1,.string u.1.2.2,.string u.2.1,.string u.2.2.1,.string u.2.2.2,.bool true] 54)).heap.size:=by simp
   have an:∀j,j<w3.heap.size→j<w5.heap.size:=a7.in_;generalize w5.alloc (.cells #[.string u.1.1,.string u.1.2.1,.string u.1.2.2,.string u.2.1,.string u.2.2.1,.string u.2.2.2,.bool true] 54)=w6 at *
   obtain ⟨m,o,p,s,y,A⟩:=X.c6t;have B:=X.lt;go_upto_region 12 with (fail)
   have O:=zaM w6 (.cells #[.string u.1.1,.string u.1.2.1,.string u.1.2.2,.string u.2.1,.string u.2.2.1,.string u.2.2.2,.bool false] 54);have ag:=Rk.new w6 #[.string u.1.1,.string u.1.2.1,.string u.1.2.2,.string u.2.1,.string u.2.2.1,.string u.2.2.2,.bool false] 54;have Y:=zad V V.size O;have d:On15 f w3 (w6.alloc (.cells #[.string u.1.1,.string u.1.2.1,.string u.1.2.2,.string u.2.1,.string u.2.2.1,.string u.2.2.2,.bool false] 54)) g gt gb w5.heap.size w6.heap.size u b s1 0 :=
    ⟨a7.more zfK Y (fun j q=>by
     have l7:=ag.lt;have l5:=an j;have l6:=O.size;rcases q with q | rfl | rfl | rfl | rfl
     · exact ⟨.inl q,by have:=l5 q;omega⟩
     · exact ⟨.inl aa,by have:=l5 aa;omega⟩
     · exact ⟨.inl ab,by have:=l5 ab;omega⟩
     · exact ⟨.inr (yaj _),by omega⟩
     · exact ⟨.inr (ya2 am),l7⟩),X.same (O.block gt X.lt),ae.same (O.block gb ae.lt),af.same (O.block _ af.lt),ag,zad U U.size Y⟩
   generalize w6.alloc (.cells #[.string u.1.1,.string u.1.2.1,.string u.1.2.2,.string u.2.1,.string u.2.2.1,.string u.2.2.2,.bool false] 54)=w7 at *
   generalize w5.heap.size=ga at *
   generalize w6.heap.size=gd at *
   clear M J ai a6 R ad X ae af ag V O Y U am an hI a7 N Q kd kn m o p s y A B C D E F aj al;have G:(zbu u).size≤100000:=by omega
   by_cases hr:(p15 f).right ((p15 f).comp x).2.2 u=0
   · obtain ⟨s1',s2,s3,e0,e1,e2,e3,e4,e5,v1,v2,v3,f3,f2,a22,aq,a32,a33,_⟩:=once15 (n:=b) hc hr;obtain rfl:s1=s1':=congrArg Prod.fst (hE.symm.trans e0);obtain ⟨m,o,p,s,y,A⟩:=d.tup.c6t;have B:=d.tup.lt;obtain ⟨C,D,E⟩:=d.nod.c3y;have F:=d.nod.lt;have k:=d.pre true true G (by rw [v1];decide) yac e1;rw [yan rfl] at k;dsimp only at k;go_wp2_with fail
     refine k.mono ?_;rintro e av ⟨rfl,d⟩;clear k m o p s y A B C D E F;obtain ⟨m,o,p,s,y,A⟩:=d.tup.c6t;have B:=d.tup.lt;obtain ⟨C,D,E⟩:=d.nod.c3y;have F:=d.nod.lt;have k:=d.pre false true G (by rw [v1];decide) yac e2;rw [yan rfl] at k;dsimp only at k;go_wp2_with fail
     refine k.mono ?_;rintro e aw ⟨rfl,d⟩;clear k m o p s y A B C D E F;obtain ⟨m,o,p,s,y,A⟩:=d.tup.c6t;have B:=d.tup.lt;obtain ⟨C,D,E⟩:=d.nod.c3y;have F:=d.nod.lt;have k:=d.one true G (by rw [v2];decide) yac e3;rw [yan rfl] at k;dsimp only at k;go_wp2_with fail
     refine k.mono ?_;rintro e ax ⟨rfl,d⟩;clear k m o p s y A B C D E F;have x2:hasK (atB s2 2).keys (zbu u)=true:=by rw [a22,zfA];exact zas.2 (yas.2 rfl)
     have x1:hasK (atB s2 1).keys (zbu u)=false:=by rw [aq];rfl
     have x3:hasK (atB s3 2).keys (zbu u)=true:=by rw [a32,zfA];exact zas.2 (yas.2 rfl)
     have x4:hasK (atB s3 3).keys (zbu u)=false:=by rw [a33];rfl
     have l2:(zai s2).keys.length=1:=by rw [←za5 d.sto.ok.1.has,v2,a22];rfl
     obtain ⟨m,o,p,s,y,A⟩:=d.tup.c6t;have B:=d.tup.lt;obtain ⟨C,D,E⟩:=d.nod.c3y;have F:=d.nod.lt;have k:=d.sto.rev;rw [v2] at k;go_wp2_with fail
     refine k.mono ?_;rintro e ay ⟨rfl,hb⟩;replace d:=d.up hb;clear hb;clear k m o p s y A B C D E F;obtain ⟨m,o,p,s,y,A⟩:=d.tup.c6t;have B:=d.tup.lt;obtain ⟨C,D,E⟩:=d.nod.c3y;have F:=d.nod.lt;have k:=d.sto.has zfK 2 u G;rw [x2] at k;unfold zf0 at k;go_wp2_with fail
     refine k.mono ?_;rintro e az ⟨rfl,hb⟩;replace d:=d.up hb;clear hb;clear k m o p s y A B C D E F;obtain ⟨m,o,p,s,y,A⟩:=d.tup.c6t;have B:=d.tup.lt;obtain ⟨C,D,E⟩:=d.nod.c3y;have F:=d.nod.lt;have k:=d.sto.has zfK 1 u G;rw [x1] at k;unfold zf0 at k;go_wp2_with fail
     refine k.mono ?_;rintro e b0 ⟨rfl,hb⟩;replace d:=d.up hb;clear hb;clear k m o p s y A B C D E F;obtain ⟨m,o,p,s,y,A⟩:=d.tup.c6t;have B:=d.tup.lt;obtain ⟨C,D,E⟩:=d.nod.c3y;have F:=d.nod.lt;have k:=d.sto.live zfK;rw [l2] at k;go_wp2_with fail
     refine k.mono ?_;rintro e b3 ⟨rfl,hb⟩;replace d:=d.up hb;clear hb;clear k m o p s y A B C D E F;obtain ⟨m,o,p,s,y,A⟩:=d.tup.c6t;have B:=d.tup.lt;obtain ⟨C,D,E⟩:=d.nod.c3y;have F:=d.nod.lt;have k:=d.pre true false G (by rw [v2];decide) yac e4;rw [yak (by decide)] at k;dsimp only at k;go_wp2_with fail
     refine k.mono ?_;rintro e b4 ⟨rfl,d⟩;clear k m o p s y A B C D E F;obtain ⟨m,o,p,s,y,A⟩:=d.tup.c6t;have B:=d.tup.lt;obtain ⟨C,D,E⟩:=d.nod.c3y;have F:=d.nod.lt;have k:=d.one false G (by rw [v3];decide) yac e5;rw [yak (by decide)] at k;dsimp only at k;go_wp2_with fail
     refine k.mono ?_;rintro e b5 ⟨rfl,d⟩;clear k m o p s y A B C D E F;have l3:(zai s3).keys.length=0:=by rw [←za5 d.sto.ok.1.has,v3,a33];rfl
     obtain ⟨m,o,p,s,y,A⟩:=d.tup.c6t;have B:=d.tup.lt;obtain ⟨C,D,E⟩:=d.nod.c3y;have F:=d.nod.lt;have k:=d.sto.has zfK 2 u G;rw [x3] at k;unfold zf0 at k;go_wp2_with fail
     refine k.mono ?_;rintro e b6 ⟨rfl,hb⟩;replace d:=d.up hb;clear hb;clear k m o p s y A B C D E F;obtain ⟨m,o,p,s,y,A⟩:=d.tup.c6t;have B:=d.tup.lt;obtain ⟨C,D,E⟩:=d.nod.c3y;have F:=d.nod.lt;have k:=d.sto.has zfK 3 u G;rw [x4] at k;unfold zf0 at k;go_wp2_with fail
     refine k.mono ?_;rintro e b7 ⟨rfl,hb⟩;replace d:=d.up hb;clear hb;clear k m o p s y A B C D E F;obtain ⟨m,o,p,s,y,A⟩:=d.tup.c6t;have B:=d.tup.lt;obtain ⟨C,D,E⟩:=d.nod.c3y;have F:=d.nod.lt;have k:=d.sto.rev;rw [v3] at k;go_wp2_with fail
     refine k.mono ?_;rintro e b8 ⟨rfl,hb⟩;replace d:=d.up hb;clear hb;clear k m o p s y A B C D E F;obtain ⟨m,o,p,s,y,A⟩:=d.tup.c6t;have B:=d.tup.lt;obtain ⟨C,D,E⟩:=d.nod.c3y;have F:=d.nod.lt;have k:=d.sto.live zfK;rw [l3] at k;go_wp2_with fail
     refine k.mono ?_;rintro e b9 ⟨rfl,hb⟩;replace d:=d.up hb;clear hb;clear k m o p s y A B C D E F;go_wp2_with fail
     go_ret
     exact ⟨rfl,zad I I.size d.old⟩
   · skip
     obtain ⟨rc,L⟩:∃rc,(p15 f).right ((p15 f).comp x).2.2 u=rc:=⟨_,rfl⟩;have ah:(p15 f).right (zai s1).T u≠0:=by rw [ak];exact hr
     have e1:=zeG (n:=b) (q:=[(u,true)]) (b:=true) ah (.inr ⟨_,rfl⟩);have e2:=zeG (n:=b) (q:=[(u,false)]) (b:=true) ah (.inr ⟨_,rfl⟩);rw [ak,L] at e1 e2;have ar:rc=40∨rc=31:=by
      rw [L] at hr;rw [zbs] at L;rcases rightT_two _ _ _ u with q | q | q
      · exact absurd (L.symm.trans q) hr
      · exact .inl (L.symm.trans q)
      · exact .inr (L.symm.trans q)
     clear L hr ah;rcases ar with rfl | rfl;all_goals (
      obtain ⟨m,o,p,s,y,A⟩:=d.tup.c6t;have B:=d.tup.lt;obtain ⟨C,D,E⟩:=d.nod.c3y;have F:=d.nod.lt;have k:=d.pre true true G (by rw [ac];decide) yac e1;rw [yan rfl] at k;dsimp only at k;go_wp2_with fail
      refine k.mono ?_;rintro e ba ⟨rfl,d⟩;clear k m o p s y A B C D E F;obtain ⟨m,o,p,s,y,A⟩:=d.tup.c6t;have B:=d.tup.lt;obtain ⟨C,D,E⟩:=d.nod.c3y;have F:=d.nod.lt;have k:=d.pre false true G (by rw [ac];decide) yac e2;rw [yan rfl] at k;dsimp only at k;go_wp2_with fail
      refine k.mono ?_;rintro e bb ⟨rfl,d⟩;clear k m o p s y A B C D E F;obtain ⟨m,o,p,s,y,A⟩:=d.tup.c6t;have B:=d.tup.lt;obtain ⟨C,D,E⟩:=d.nod.c3y;have F:=d.nod.lt;have k:=d.sto.rev;rw [ac] at k;go_wp2_with fail
      refine k.mono ?_;rintro e bc ⟨rfl,hb⟩;replace d:=d.up hb;clear hb;clear k m o p s y A B C D E F;go_wp2_with fail
      go_ret
      exact ⟨rfl,zad I I.size d.old⟩)
 · have hE:zaC (p15 f) (zbT 5) (b.1,b.2.1,b.2.2) x=(zbT 5,((p15 f).comp x).1):=by unfold zaC;rw [yak hc]
   rw [hE] at kd;generalize ((p15 f).comp x).1=ec at *
   have d1:(ec == 0)=false:=by simpa using hc
   go_wp2_with (go_at_call 13;refine kd.mono ?_;rintro e w5 ⟨rfl,a7,N⟩)
   go_ret
   exact ⟨rfl,aj.trans (N.below fun j q=>yaw q ao)⟩
end Go.Proofs.YtmblgnddgmfkhaaGreat
