import Derived.Test.YtmblgnddgmfkhaaGreatK40
set_option maxRecDepth 100000
set_option maxHeartbeats 4000000
namespace Go.Proofs.YtmblgnddgmfkhaaGreat
section
open Go.RowKit
section
variable {S:SpW}
theorem zj9:∀x ∈ [(zbx,true)],(za4 x.1).size≤100000:=fun x b=>by rw [yav.1 b];decide +kernel
theorem zh8:∀x ∈ [(zbx,false)],(za4 x.1).size≤100000:=fun x b=>by rw [yav.1 b];decide +kernel
theorem zlm (w:World) (b:Bool) (t:TypeId):Rd (w.alloc (.cells #[.string ⟨#[100,111,99]⟩,.string ⟨#[49]⟩,.string ⟨#[114,101,97,100]⟩,.string ⟨#[117,115,101,114]⟩,.string ⟨#[97]⟩,.string ⟨#[]⟩,.bool b] t)) (w.alloc (.cells #[.string ⟨#[100,111,99]⟩,.string ⟨#[49]⟩,.string ⟨#[114,101,97,100]⟩,.string ⟨#[117,115,101,114]⟩,.string ⟨#[97]⟩,.string ⟨#[]⟩,.bool b] t)).heap.size 7 (some ⟨w.heap.size,0,none⟩) [(zbx,b)].length 1 ([(zbx,b)].flatMap za5):=Rd.litX w _ _ 1 7 _ rfl rfl yac
theorem Rk.c6t {w:World} {b:Nat} {t:TypeId} {x0 x1 x2 x3 x4 x5:Value} (h:Rk w b #[x0,x1,x2,x3,x4,x5] t):w.cell? ⟨b,0,none⟩=some x0∧w.cell? ⟨b,1,none⟩=some x1∧w.cell? ⟨b,2,none⟩=some x2∧w.cell? ⟨b,3,none⟩=some x3∧w.cell? ⟨b,4,none⟩=some x4∧w.cell? ⟨b,5,none⟩=some x5:=⟨h.cell 0,h.cell 1,h.cell 2,h.cell 3,h.cell 4,h.cell 5⟩
theorem awake15_any (K:SpK S) (w:World):Calls Tryz.prog 9 #[] w fun e w'=>e = .returned (.bool true)∧Below w.heap.size w w':=by
 obtain ⟨f,hG⟩:=zjp;obtain ⟨s1,s2,e1,e2,e3,v1,v2,ax,q2,a2,a1,l2,ag⟩:=awk15 hG (⟨#[117,115,101,114]⟩,⟨#[114]⟩,⟨#[]⟩);have X:OkB (p15 f) s1:=by
  have:=(OkB.new (p15 f) 5).define ((⟨#[117,115,101,114]⟩,⟨#[114]⟩,⟨#[]⟩):Nd15) ⟨#[116,121,112,101,32,117,115,101,114,32,123,125,32,116,121,112,101,32,100,111,99,32,123,32,114,101,108,32,114,101,97,100,32,40,114,101,97,100,44,32,114,101,97,100,44,32,114,101,97,100,41,58,32,117,115,101,114,59,32,125]⟩;rw [e1] at this;exact this
 have R:SzB s2:=by
  have a:=(SzB.new 5).define hG (⟨#[117,115,101,114]⟩,⟨#[114]⟩,⟨#[]⟩) ⟨#[116,121,112,101,32,117,115,101,114,32,123,125,32,116,121,112,101,32,100,111,99,32,123,32,114,101,108,32,114,101,97,100,32,40,114,101,97,100,44,32,114,101,97,100,44,32,114,101,97,100,41,58,32,117,115,101,114,59,32,125]⟩ yac yac yac;rw [e1] at a;have b:=a.write X zmp [(zbx,false)] [(zbx,true)] yac yac yac zj9;rw [e2] at b;exact b
 have ah:OkU (p15 f) s2:=by
  have a:=(OkU.new (p15 f) 5).define (OkB.new (p15 f) 5).has (⟨#[117,115,101,114]⟩,⟨#[114]⟩,⟨#[]⟩) ⟨#[116,121,112,101,32,117,115,101,114,32,123,125,32,116,121,112,101,32,100,111,99,32,123,32,114,101,108,32,114,101,97,100,32,40,114,101,97,100,44,32,114,101,97,100,44,32,114,101,97,100,41,58,32,117,115,101,114,59,32,125]⟩;rw [e1] at a;have b:=a.write p15_none X zmp [(zbx,false)] [(zbx,true)];rw [e2] at b;exact b
 have e0:=wrong15 f;have kn:=iv_new (f:=f) K 5 w;go_enter Tryz.func9,Tryz.ntmps9
 go_upto_region 3 with (go_at_call 11;refine kn.mono ?_;rintro e w1 ⟨g,rfl,ai,T⟩)
 have U:=Rk.new w1 #[.string ⟨#[100,111,99]⟩,.string ⟨#[49]⟩,.string ⟨#[114,101,97,100]⟩,.string ⟨#[117,115,101,114]⟩,.string ⟨#[97]⟩,.string ⟨#[]⟩] 51;have Y:=zaI w1 (.cells #[.string ⟨#[100,111,99]⟩,.string ⟨#[49]⟩,.string ⟨#[114,101,97,100]⟩,.string ⟨#[117,115,101,114]⟩,.string ⟨#[97]⟩,.string ⟨#[]⟩] 51);have ay:=T.size;have aj:Ib S f (fun b=>b<w.heap.size∨b=w1.heap.size) _ g (zbQ 5) 0:=ai.more K Y (fun b q=>by
  rcases q with q | rfl
  · exact ⟨.inl q,by simp;omega⟩
  · exact ⟨.inr (yaj _),by simp⟩)
 have Z:=zac T T.size Y;generalize w1.alloc (.cells #[.string ⟨#[100,111,99]⟩,.string ⟨#[49]⟩,.string ⟨#[114,101,97,100]⟩,.string ⟨#[117,115,101,114]⟩,.string ⟨#[97]⟩,.string ⟨#[]⟩] 51)=w2 at *
 generalize w1.heap.size=J at *
 clear kn ai T Y;obtain ⟨o,s,x,y,z,B⟩:=U.c6t;have C:=U.lt;have a6:=zaI w2 (.cells #[.string ⟨#[100,111,99]⟩,.string ⟨#[49]⟩,.string ⟨#[114,101,97,100]⟩,.string ⟨#[117,115,101,114]⟩,.string ⟨#[97]⟩,.string ⟨#[]⟩,.bool true] 54);have L:=(aj.up K a6).write K ⟨#[]⟩ ⟨#[]⟩ ⟨#[]⟩ (p:=[]) (Rd.none_ _ _ 7) (zlm w2 true 54) (fun _ q=>absurd q yaf) zj9 (by show (0:Int) + 1-1 + 1≤_;decide) yac;rw [e0] at L;simp only [yaE,yat,yaI] at L;go_wp2_with fail
 refine L.mono ?_;rintro e w4 ⟨rfl,ak,a7⟩;have al:=(U.alloc (.cells #[.string ⟨#[100,111,99]⟩,.string ⟨#[49]⟩,.string ⟨#[114,101,97,100]⟩,.string ⟨#[117,115,101,114]⟩,.string ⟨#[97]⟩,.string ⟨#[]⟩,.bool true] 54)).same (a7.old J (.inr rfl));have am:=(zac Z Z.size a6).trans (a7.below fun b q=>.inl q);clear L aj U a6 Z a7 o s x y z B C e0;have kd:=ak.define K hG.is ⟨#[117,115,101,114]⟩ ⟨#[114]⟩ ⟨#[]⟩ ⟨#[116,121,112,101,32,117,115,101,114,32,123,125,32,116,121,112,101,32,100,111,99,32,123,32,114,101,108,32,114,101,97,100,32,40,114,101,97,100,44,32,114,101,97,100,44,32,114,101,97,100,41,58,32,117,115,101,114,59,32,125]⟩ yac (by show (0:Int) + 1-1 + 1≤_;decide);rw [e1] at kd;go_upto_region 5 with (go_at_call 13;refine kd.mono ?_;rintro e w5 ⟨rfl,an,a8⟩)
 have M:=al.same (a8.old J (.inr rfl));have aa:=am.trans (a8.below fun b q=>.inl q);clear kd ak al a8 am e1;obtain ⟨o,s,x,y,z,B⟩:=M.c6t;have C:=M.lt;have D:=zaI w5 (.cells #[.string ⟨#[100,111,99]⟩,.string ⟨#[49]⟩,.string ⟨#[114,101,97,100]⟩,.string ⟨#[117,115,101,114]⟩,.string ⟨#[97]⟩,.string ⟨#[]⟩,.bool false] 66);have N:(w5.alloc (.cells #[.string ⟨#[100,111,99]⟩,.string ⟨#[49]⟩,.string ⟨#[114,101,97,100]⟩,.string ⟨#[117,115,101,114]⟩,.string ⟨#[97]⟩,.string ⟨#[]⟩,.bool false] 66)).heap.size=w5.heap.size + 1:=by simp
 have E:=zaI (w5.alloc (.cells #[.string ⟨#[100,111,99]⟩,.string ⟨#[49]⟩,.string ⟨#[114,101,97,100]⟩,.string ⟨#[117,115,101,114]⟩,.string ⟨#[97]⟩,.string ⟨#[]⟩,.bool false] 66)) (.cells #[.string ⟨#[100,111,99]⟩,.string ⟨#[49]⟩,.string ⟨#[114,101,97,100]⟩,.string ⟨#[117,115,101,114]⟩,.string ⟨#[97]⟩,.string ⟨#[]⟩,.bool true] 54);have O:=(zlm w5 false 66).up E;have H:=zlm (w5.alloc (.cells #[.string ⟨#[100,111,99]⟩,.string ⟨#[49]⟩,.string ⟨#[114,101,97,100]⟩,.string ⟨#[117,115,101,114]⟩,.string ⟨#[97]⟩,.string ⟨#[]⟩,.bool false] 66)) true 54;rw [N] at H;have L:=((an.up K D).up K E).write K ⟨#[]⟩ ⟨#[]⟩ ⟨#[]⟩ O H zh8 zj9 (by rw [v1];decide) yac;rw [e2] at L;simp only [yaE,yat,yaI] at L;go_wp2_with fail
 refine L.mono ?_;rintro e w8 ⟨rfl,ao,ab⟩;have m:=zac D D.size E;have P:=(M.same (m.block J M.lt)).same (ab.old J (.inr rfl));have ac:=(zac aa aa.size m).trans (ab.below fun b q=>.inl q);clear L an M D E N O H m aa ab o s x y z B C e2;obtain ⟨o,s,x,y,z,B⟩:=P.c6t;have C:=P.lt;have D:=zaI w8 (.cells #[.string ⟨#[100,111,99]⟩,.string ⟨#[49]⟩,.string ⟨#[114,101,97,100]⟩,.string ⟨#[117,115,101,114]⟩,.string ⟨#[97]⟩,.string ⟨#[]⟩,.bool false] 66);have N:(w8.alloc (.cells #[.string ⟨#[100,111,99]⟩,.string ⟨#[49]⟩,.string ⟨#[114,101,97,100]⟩,.string ⟨#[117,115,101,114]⟩,.string ⟨#[97]⟩,.string ⟨#[]⟩,.bool false] 66)).heap.size=w8.heap.size + 1:=by simp
 have E:=zaI (w8.alloc (.cells #[.string ⟨#[100,111,99]⟩,.string ⟨#[49]⟩,.string ⟨#[114,101,97,100]⟩,.string ⟨#[117,115,101,114]⟩,.string ⟨#[97]⟩,.string ⟨#[]⟩,.bool false] 66)) (.cells #[.string ⟨#[100,111,99]⟩,.string ⟨#[49]⟩,.string ⟨#[114,101,97,100]⟩,.string ⟨#[117,115,101,114]⟩,.string ⟨#[97]⟩,.string ⟨#[]⟩,.bool false] 54);have O:=(zlm w8 false 66).up E;have H:=zlm (w8.alloc (.cells #[.string ⟨#[100,111,99]⟩,.string ⟨#[49]⟩,.string ⟨#[114,101,97,100]⟩,.string ⟨#[117,115,101,114]⟩,.string ⟨#[97]⟩,.string ⟨#[]⟩,.bool false] 66)) false 54;rw [N] at H;have L:=((ao.up K D).up K E).write K ⟨#[]⟩ ⟨#[]⟩ ⟨#[]⟩ O H zh8 zh8 (by rw [v2];decide) yac;rw [e3] at L;simp only [yaE,yat,yaI] at L;go_wp2_with fail
 refine L.mono ?_;rintro e w9 ⟨rfl,I,ad⟩;have m:=zac D D.size E;have ae:=(P.same (m.block J P.lt)).same (ad.old J (.inr rfl));have af:=(zac ac ac.size m).trans (ad.below fun b q=>.inl q);clear L ao P D E N O H m ac ad o s x y z B C e3;have aq:=I.packLen R;obtain ⟨ar,hE,az,au,aw,_⟩:=unk_pack I.ok.1 ag ah R (q:=9) (by rw [q2];decide) I.ok.2 I.keys;have kp:=I.pack K R;generalize zbj c15 s2=pb at *
 go_wp2_with fail
 refine kp.mono ?_;rintro e b0 ⟨A,c,rfl,hO,Q⟩;obtain ⟨_,_,hv,hR⟩:=Rd.own hO;injection hv with q1 _ q3
 subst q1 q3;have ku:=zqq K hG hR aq (q:=9) yac ar;go_wp2_with fail
 refine ku.mono ?_;rintro e b1 ⟨p,rfl,V,_,av⟩;obtain ⟨_,_,u,rfl,G⟩:=av hE;rw [hE];generalize (zaJ (p15 f) 9 pb).2.1=s3 at *
 have hb:=zac Q Q.size V;have F:=I.up K hb;have j:=ae.same (hb.block J ae.lt);have n:=zac af af.size hb;clear kp ku hO hR I ae af hb av hE ar ag ah R X Q V;have x2:hasK (atB s2 2).keys (za4 zbx)=true:=by rw [a2];exact zar.2 (yav.2 rfl)
 have x1:hasK (atB s2 1).keys (za4 zbx)=false:=by rw [a1];rfl
 have x3:hasK (atB s3 2).keys (za4 zbx)=true:=by rw [aw,x2]
 have xu:(za4 zbx).size≤100000:=by decide +kernel
 rw [v2] at au;have k:=F.rev;rw [v2] at k;obtain ⟨o,s,x,y,z,B⟩:=j.c6t;have C:=j.lt;go_wp2_with fail
 refine k.mono ?_;rintro e b2 ⟨rfl,hb⟩;replace F:=F.up K hb;replace G:=G.up K hb;replace j:=j.same (hb.block J j.lt);replace n:=zac n n.size hb;clear k hb o s x y z B C;have k:=F.has K 2 zbx xu;rw [x2] at k;unfold zgF zbx at k;obtain ⟨o,s,x,y,z,B⟩:=j.c6t;have C:=j.lt;go_wp2_with fail
 refine k.mono ?_;rintro e b3 ⟨rfl,hb⟩;replace F:=F.up K hb;replace G:=G.up K hb;replace j:=j.same (hb.block J j.lt);replace n:=zac n n.size hb;clear k hb o s x y z B C;have k:=F.has K 1 zbx xu;rw [x1] at k;unfold zgF zbx at k;obtain ⟨o,s,x,y,z,B⟩:=j.c6t;have C:=j.lt;go_wp2_with fail
 refine k.mono ?_;rintro e b4 ⟨rfl,hb⟩;replace F:=F.up K hb;replace G:=G.up K hb;replace j:=j.same (hb.block J j.lt);replace n:=zac n n.size hb;clear k hb o s x y z B C;have k:=F.tuples K 2;rw [a2] at k;simp only [yat,yaE,yaI] at k;obtain ⟨o,s,x,y,z,B⟩:=j.c6t;have C:=j.lt;go_wp2_with fail
 refine k.mono ?_;rintro e b5 ⟨⟨A5,c6,rfl,_⟩,hb⟩;replace F:=F.up K hb;replace G:=G.up K hb;replace j:=j.same (hb.block J j.lt);replace n:=zac n n.size hb;clear k hb o s x y z B C;have k:=G.rev;rw [au] at k;obtain ⟨o,s,x,y,z,B⟩:=j.c6t;have C:=j.lt;go_wp2_with fail
 refine k.mono ?_;rintro e b6 ⟨rfl,hb⟩;replace F:=F.up K hb;replace G:=G.up K hb;replace j:=j.same (hb.block J j.lt);replace n:=zac n n.size hb;clear k hb o s x y z B C;have k:=G.has K 2 zbx xu;rw [x3] at k;unfold zgF zbx at k;obtain ⟨o,s,x,y,z,B⟩:=j.c6t;have C:=j.lt;go_wp2_with fail
 refine k.mono ?_;rintro e b7 ⟨rfl,hb⟩;replace F:=F.up K hb;replace G:=G.up K hb;replace j:=j.same (hb.block J j.lt);replace n:=zac n n.size hb;clear k hb o s x y z B C;have k:=F.live K;rw [l2] at k;simp only [yat,yaE,yaI] at k;obtain ⟨o,s,x,y,z,B⟩:=j.c6t;have C:=j.lt;go_wp2_with fail
 refine k.mono ?_;rintro e b8 ⟨rfl,hb⟩;replace F:=F.up K hb;replace G:=G.up K hb;replace j:=j.same (hb.block J j.lt);replace n:=zac n n.size hb;clear k hb o s x y z B C;go_wp2_with fail
 go_ret
 exact ⟨rfl,n⟩
end
end
section
open Go.RowKit
def zgp (f:Nat→ByteArray):Nat→ByteArray
 | 0=>f 0
 | i + 1=>zgp f i ++ (zcB 0 ++ f (i + 1))
theorem ze3 (f:Nat→ByteArray) {m n:Nat} (h:∀i,i<n→(f i).size≤m):∀i,i<n→(zgp f i).size≤(i + 1) * (m + 1)
 | 0,hi=>by have:=h 0 hi;show (f 0).size≤_;omega
 | i + 1,hi=>by
  have b:=ze3 f h i yab;have g:=h (i + 1) hi;show (zgp f i ++ (zcB 0 ++ f (i + 1))).size≤_;rw [size_app,size_app,zbm,ycg (i + 1) 1];omega
theorem ziW (a b c x y z:ByteArray):zgp (zrb a b c x y z) 5=za4 ((a,b,c),(x,y,z)):=by
 show a ++ (zcB 0 ++ b) ++ (zcB 0 ++ c) ++ (zcB 0 ++ x) ++ (zcB 0 ++ y) ++ (zcB 0 ++ z)=a ++ zcB 0 ++ (b ++ zcB 0 ++ (c ++ zcB 0 ++ (x ++ zcB 0 ++ (y ++ zcB 0 ++ z))));simp only [ByteArray.append_assoc]
section
variable {w:World}
theorem rnames_any12 (a b c x y z:ByteArray) :
 Calls Tryz.prog 58 #[.agg #[.string a,.string b,.string c,.string x,.string y,.string z]] w fun e w'=>(∃g,e = .returned (.slice (some ⟨g,0,none⟩) 6 6)∧Bk w' g #[.string a,.string b,.string c,.string x,.string y,.string z] 9∧w.heap.size≤g)∧Below w.heap.size w w':=by
 have hk:=Bk.new w #[.string a,.string b,.string c,.string x,.string y,.string z] 51;have f:=zdS w (.cells #[.string a,.string b,.string c,.string x,.string y,.string z] 51);obtain ⟨m,n,o,q,s,u⟩:=hk.c6;have A:=hk.lt;go_enter Tryz.func58,Tryz.ntmps58
 go_upto_region 1 with (fail)
 generalize w.alloc (.cells #[.string a,.string b,.string c,.string x,.string y,.string z] 51)=j at *
 have k:=Bk.new j #[.string a,.string b,.string c,.string x,.string y,.string z] 9;go_wp2_with fail
 go_ret
 exact ⟨⟨_,rfl,k,f.size⟩,f.alloc f.size _⟩
theorem rkey_any12 (a b c x y z:ByteArray) (ha:a.size≤140737488351232) (hb:b.size≤140737488351232) (hc:c.size≤140737488351232) (hx:x.size≤140737488351232) (hy:y.size≤140737488351232) (hz:z.size≤140737488351232) :
 Calls Tryz.prog 21 #[.agg #[.string a,.string b,.string c,.string x,.string y,.string z]] w fun e w'=>e = .returned (.string (za4 ((a,b,c),(x,y,z))))∧Below w.heap.size w w':=by
 rw [←ziW];have hk:=Bk.new w #[.string a,.string b,.string c,.string x,.string y,.string z] 51;have k:=zdS w (.cells #[.string a,.string b,.string c,.string x,.string y,.string z] 51);have f:∀i,i<6→(zrb a b c x y z i).size≤140737488351232:=fun i hi=>by
  obtain rfl | rfl | rfl | rfl | rfl | rfl:i=0∨i=1∨i=2∨i=3∨i=4∨i=5:=by omega
  all_goals assumption
 clear ha hb hc hx hy hz;have n:=ze3 _ f;obtain ⟨A,o,B,C,D,E⟩:=hk.c6;have I:=hk.lt;go_enter Tryz.func21,Tryz.ntmps21
 go_upto_region 1 with (fail)
 generalize w.alloc (.cells #[.string a,.string b,.string c,.string x,.string y,.string z] 51)=O at *
 have J:=rnames_any12 (w:=O) a b c x y z;go_upto_region 2 with (go_at_call 58;refine J.mono ?_;rintro e K ⟨⟨g,rfl,F,_⟩,s⟩)
 replace k:=zan k k.size s;clear J s A o B C D E I hk;obtain ⟨A,o,B,C,D,E⟩:=F.c6;have I:=F.lt;go_wp2_with fail
 clear A o B C D E;go_loopw [4,5] (fun P G Q=>∃i:Nat,G = .int .i64 (i + 1:Nat)∧P = .string (zgp (zrb a b c x y z) i)∧i≤5∧Below K.heap.size K Q) (fun _ G _=>6-(intOf G).toNat)
 case atStart=>exact ⟨0,rfl,rfl,by omega,Below.refl _ _⟩
 case round =>
  obtain ⟨i,rfl,rfl,hi,j⟩:=hrel;by_cases R:i<5
  · have T:((i + 1:Nat):Int)<6:=by omega
    have U:(0:Int)≤((i + 1:Nat):Int):=by omega
    have L:=(at6 a b c x y z (i:=i + 1) yab).1;have M:=F.below j;have o:wr.cell? ⟨g,i + 1,none⟩=_:=(M.cell (i + 1)).trans L;have Z:=M.lt;have V:=f (i + 1) yab;have X:=n i yab;obtain ⟨u,N⟩:∃u,Hid (zrb a b c x y z (i + 1)=u):=⟨_,Lib.hid rfl⟩;have H:Hid (zgp (zrb a b c x y z) i ++ (zcB 0 ++ u)=zgp (zrb a b c x y z) (i + 1)):=Lib.hid (by rw [←N.out];rfl);rw [N.out] at o V;generalize zgp (zrb a b c x y z) i=q at *
    clear L f n;have hq:q.size≤844424930107398:=by omega
    have n1:¬9223372036854775807<1 + u.size:=by omega
    have n2:¬9223372036854775807<q.size + (1 + u.size):=by omega
    clear X;generalize hm:(i + 1:Nat)=m at *
    have Y:IntKind.i64.wrap ((m:Int) + 1)=(m:Int) + 1:=IntWalk.i64_in _ yab;go_wp2_with fail
    refine ⟨⟨m,by go_num,by rw [←H.out];rfl,by omega,j⟩,?_⟩;simp [intOf];omega
  · obtain rfl:i=5:=by omega
    go_wp2_with fail
    go_ret
    exact ⟨rfl,zan k k.size j⟩
end
end
section
open Go.RowKit
variable {B c Br:Nat} {A:Option Addr} {l:List Iv}
theorem zaG (w:World) (o:Obj):w.grownBy (w.alloc o) none:=World.grownBy_alloc w o none
theorem _root_.Go.World.grownBy.upto {w w':World} (h:w.grownBy w' none):Below w.heap.size w w':=⟨h.os,h.tape,h.output,h.size,fun k hk=>h.block k hk yaf⟩
section
variable {P:Program} {w w':World} {ops:Array Oper} {o:Oper} {a:Act} {K:Act→World→Prop} {Q:Exit→Act→World→Prop} {E:Prop}
theorem zej (hgd:o.guard=none) (s x:Operand) (t:TypeId) (ho:o.op = .call { callee:=.builtin .append,args:=#[s,x],argTypes:=#[t,t] }) (u y v:Value) (hs:a.eval s=u) (hx:a.eval x=y)
 (hr:(Builtin.append_ #[t,t] o.type #[u,y]).run P w = .ok v w') (h:K (a.put o.dst v) w'):if Region.wanted o (yielded ops a.tmps)=true then Oper.wp P o a w K Q else E:=by
 have b:Region.wanted o (yielded ops a.tmps)=true:=by simp [Region.wanted,hgd]
 rw [yan b];unfold Oper.wp execOp;simp only [ho,resolve,invoke,builtin,Sem.run_bind,Sem.run_pure,Result.andThen_ok,List.map_toArray,yaX,ycw,hs,hx,hr];exact h
theorem zek (hgd:o.guard=none) (m k x:Operand) (t:TypeId) (ho:o.op = .mapUpdate t m k x) (vm vk vx:Value) (hm:a.eval m=vm) (hk:a.eval k=vk) (hx:a.eval x=vx)
 (hr:(Instr.mapUpdate t vm vk vx).run P w = .ok () w') (h:K (a.put o.dst undef) w'):if Region.wanted o (yielded ops a.tmps)=true then Oper.wp P o a w K Q else E:=by
 have b:Region.wanted o (yielded ops a.tmps)=true:=by simp [Region.wanted,hgd]
 rw [yan b];unfold Oper.wp;simp [execOp,ho,hm,hk,hx,hr,Result.andThen];exact h
end
theorem ended_any (f t r:Int) (w:World):Calls Tryz.prog 86 #[.agg #[.int .i64 f,.int .i64 t],.int .i64 r] w fun e w'=>e = .returned (.bool (!(decide (t=0) || decide (r<t))))∧w.grownBy w' none:=by
 by_cases b:t=0
 · subst b;go_enter Tryz.func86,Tryz.ntmps86
   go_wp2
   go_ret
   exact ⟨by simp,zaG _ _⟩
 · have j:(t != 0)=true:=by simpa using b
   go_enter Tryz.func86,Tryz.ntmps86
   go_wp2
   go_ret
   refine ⟨?_,zaG _ _⟩;by_cases g:r<t
   · simp [b,g]
   · simp [b,g];omega
theorem holds14_any (f t r:Int) (w:World):Calls Tryz.prog 97 #[.agg #[.int .i64 f,.int .i64 t],.int .i64 r] w fun e w'=>e = .returned (.bool (decide (f≤r) && (decide (t=0) || decide (r<t))))∧w.grownBy w' none:=by
 have b:=ended_any f t r (w.alloc (.cells #[.int .i64 f,.int .i64 t] 163));obtain ⟨q,g⟩:∃q,(decide (t=0) || decide (r<t))=q:=⟨_,rfl⟩;rw [g] at b ⊢;clear g;have j:=zaG w (.cells #[.int .i64 f,.int .i64 t] 163);by_cases k:f≤r
 · go_enter Tryz.func97,Tryz.ntmps97
   go_wp2_with (go_at_call 86;refine b.mono ?_;rintro e n ⟨rfl,m⟩)
   go_ret
   exact ⟨by simp [k],j.trans m⟩
 · go_enter Tryz.func97,Tryz.ntmps97
   go_wp2_with fail
   go_ret
   exact ⟨by rw [yaF (show ¬f≤r by omega),yb6];rfl,j⟩
theorem isOpen_any {w:World} (h:Rd w B 2 A l.length c (ics l)) (hl:l.length≤1000000):Calls Tryz.prog 111 #[.slice A l.length c] w fun e w'=>e = .returned (.bool (zjS l))∧w'=w:=by
 rcases l.eq_nil_or_concat with rfl | ⟨m,y,rfl⟩
 · clear h;go_enter Tryz.func111,Tryz.ntmps111
   go_wp2
   go_ret
   exact ⟨rfl,rfl⟩
 · simp only [yb8] at *
   rw [zex];obtain ⟨n,f⟩:∃n,(m ++ [y]).length=n:=⟨_,rfl⟩;have g:m.length + 1=n:=by rw [←f];simp
   obtain ⟨b,o,rfl,_,k,q⟩:=rd_iv h (i:=m.length) (y:=y) yaf;rw [f] at hl ⊢;have u:(n:Int)-1=(m.length:Int):=by omega
   have x:(n:Int) > 0:=by omega
   have s:m.length<n:=by omega
   obtain ⟨z,C⟩:=y;dsimp only at k q ⊢;generalize m.length=j at *
   clear g f h;go_enter Tryz.func111,Tryz.ntmps111
   go_wp2
   go_ret
   exact ⟨rfl,rfl⟩
def zdH (y:Iv) (r:Int):Bool:=decide (y.1≤r) && (decide (y.2=0) || decide (r<y.2))
theorem has1_any {w:World} (f t r:Int) (h:w.cell? ⟨Br,0,none⟩=some (.int .i64 r)):Calls Tryz.prog 102 #[.agg #[.int .i64 f,.int .i64 t],.pointer (some ⟨Br,0,none⟩)] w fun e w'=>e = .returned (.bool (zdH (f,t) r))∧w.grownBy w' none:=by
 have b:=zaG w (.cells #[.int .i64 f,.int .i64 t] 163);have m:(w.alloc (.cells #[.int .i64 f,.int .i64 t] 163)).cell? ⟨Br,0,none⟩=some (.int .i64 r):=b.cell h yaf;have g:=holds14_any f t r (w.alloc (.cells #[.int .i64 f,.int .i64 t] 163));have j:zdH (f,t) r=(decide (f≤r) && (decide (t=0) || decide (r<t))):=rfl;rw [←j] at g;generalize zdH (f,t) r=q at *
 clear j;go_enter Tryz.func102,Tryz.ntmps102
 go_wp2_with (go_at_call 97;refine g.mono ?_;rintro e n ⟨rfl,k⟩)
 go_ret
 exact ⟨rfl,b.trans k⟩
theorem index14_any {w:World} (r:Int) (h:Rd w B 2 A l.length c (ics l)) (hB:B≤w.heap.size) (hl:l.length≤1000000) (hr:w.cell? ⟨Br,0,none⟩=some (.int .i64 r)) :
 Calls Tryz.prog 149 #[.slice A l.length c,.func (.func 102) #[] #[.pointer (some ⟨Br,0,none⟩)]] w fun e w'=>∃z:Int,e = .returned (.int .i64 z)∧decide (0≤z)=(l.any fun y=>zdH y r)∧w.grownBy w' none:=by
 obtain ⟨q,k⟩:∃q,(l.any fun y=>zdH y r)=q:=⟨_,rfl⟩;rw [k];replace k:=Lib.hid k;have u:∀W:World,w.grownBy W none→W.cell? ⟨Br,0,none⟩=some (.int .i64 r):=fun W F=>F.cell hr yaf;have x:∀W:World,w.grownBy W none→Rd W B 2 A l.length c (ics l):=fun W F=>h.below (F.upto.mono hB);have N:∀g W,(callFunc 102 g).run Tryz.prog W = .ok (.enter 102 g) W:=enters_of Tryz.func102 yaa rfl;clear h hB hr;go_enter Tryz.func149,Tryz.ntmps149
 go_wp2_with fail
 go_loopw [8] (fun G O=>∃i:Nat,G = .int .i64 i∧i≤l.length∧w.grownBy O none∧Hid (∀y ∈ l.take i,zdH y r=false)) (fun G _=>l.length-(intOf G).toNat)
 case atStart=>exact ⟨0,rfl,yao _,⟨rfl,rfl,rfl,yaj _,fun _ _ _=>rfl⟩,Lib.hid fun y j=>by simp at j⟩
 case round =>
  obtain ⟨i,rfl,hi,C,f⟩:=hrel;by_cases H:i<l.length
  · have P:(i:Int)<(l.length:Int):=by omega
    obtain ⟨y,j⟩:∃y,l[i]? = some y:=⟨_,yal H⟩;obtain ⟨b,o,rfl,_,R,T⟩:=rd_iv (x wr C) j;have E:=has1_any y.1 y.2 r (u wr C);have D:∀Q,zdH y r=Q→(Q=true→q=true)∧(Q=false→Hid (∀y ∈ l.take (i + 1),zdH y r=false)):=fun Q s=>⟨fun e=>by
     rw [←k.out,ybV];exact ⟨y,yaq j,by rw [s,e]⟩,fun e=>Lib.hid fun z m=>by
     rw [yaC,j,yaO] at m;rcases yaA.1 m with m | m
     · exact f.out z m
     · rw [yav] at m;rw [m,s,e]⟩
    obtain ⟨U,V⟩:=y;dsimp only at R T E;obtain ⟨Q,s⟩:∃Q,zdH (U,V) r=Q:=⟨_,rfl⟩;obtain ⟨I,J⟩:=D Q s;rw [s] at E;clear D s j f u x;cases Q with
    | true =>
     have K:=I rfl;subst K;clear I J k;go_wp2_with (go_at_call 102;refine E.mono ?_;rintro e X ⟨rfl,n⟩)
     go_ret
     exact ⟨i,rfl,by simp,C.trans n⟩
    | false =>
     have Y:=J rfl;clear I J;go_wp2_with (go_at_call 102;refine E.mono ?_;rintro e X ⟨rfl,n⟩)
     exact ⟨⟨i + 1,by go_num,by omega,C.trans n,Y⟩,by simp [intOf];omega⟩
  · obtain rfl:i=l.length:=by omega
    have P:¬(((l.length:Nat):Int)<(l.length:Int)):=by omega
    have L:q=false:=by
     have M:=f.out;rw [yaz] at M;rw [←k.out,List.any_eq_false];exact fun y j=>by rw [M y j];decide
    subst L;clear k f;go_wp2_with fail
    go_ret
    exact ⟨-1,rfl,by decide,C⟩
theorem contains14_any {w:World} (r:Int) (h:Rd w B 2 A l.length c (ics l)) (hB:B≤w.heap.size) (hl:l.length≤1000000) (hr:w.cell? ⟨Br,0,none⟩=some (.int .i64 r)) :
 Calls Tryz.prog 101 #[.slice A l.length c,.func (.func 102) #[] #[.pointer (some ⟨Br,0,none⟩)]] w fun e w'=>e = .returned (.bool (l.any fun y=>zdH y r))∧w.grownBy w' none:=by
 have f:=index14_any r h hB hl hr;obtain ⟨q,b⟩:∃q,(l.any fun y=>zdH y r)=q:=⟨_,rfl⟩;rw [b];simp only [b] at f;clear b hr h hl;generalize l.length=n at *
 go_enter Tryz.func101,Tryz.ntmps101
 go_wp2_with (go_at_call 149;refine f.mono ?_;rintro e k ⟨z,rfl,g,j⟩)
 go_ret
 exact ⟨by rw [←g];rfl,j⟩
end
section
open Go.RowKit
variable {w:World} {g n:Nat} {L:List Sp} {last:Int}
theorem zq1 (w:World):Calls Tryz.prog 32 #[] w fun e w'=>∃g F,e = .returned (.pointer (some ⟨g,0,none⟩))∧Sk w' F g [] 0∧(∀b,F b→w.heap.size≤b)∧Below w.heap.size w w':=by
 have n:=MapR.made w;have f:=n.lt;have o:=Rk.new (w.alloc (.map #[] 0)) #[.map (some w.heap.size),.int .i64 0] 124;have m:MapR ((w.alloc (.map #[] 0)).alloc (.cells #[.map (some w.heap.size),.int .i64 0] 124)) 0 w.heap.size 0 (ofK []) (fun _=>nilS):=(n.same (Below.heap_alloc _ _ _ f) fun k j q=>by simp [Value.ownBlock] at q).base (yao _);have s:(w.alloc (.map #[] 0)).heap.size=w.heap.size + 1:=by simp
 rw [s] at o;have hb:=((Below.refl w.heap.size w).alloc (yaj _) (.map #[] 0)).alloc (zad (yaj _)) (.cells #[.map (some w.heap.size),.int .i64 0] 124);have u:=@run_makeMap Tryz.prog;go_enter Tryz.func32,Tryz.ntmps32
 go_wp2
 go_ret
 refine ⟨_,_,rfl,⟨w.heap.size,fun _=>nilS,fun _=>Iff.rfl,o,m,fun _ h=>by cases h⟩,?_,hb⟩;rintro j (rfl | rfl | ⟨k,hk⟩)
 · omega
 · exact yaj _
 · simp [Value.ownBlock] at hk
theorem map_some (b:Nat) (w:World):(binOp .eql 122 (.map (some b)) (.map none)).run Tryz.prog w = .ok (.bool false) w:=by
 kernel_rfl
theorem MapR.read {B b:Nat} {G:ByteArray→List Iv} {V:ByteArray→Value} (h:MapR w B b n G V) (k:ByteArray):∃A c,V k = .slice A (G k).length c∧Rd w w.heap.size 2 A (G k).length c (ics (G k)):=Rd.own (h.row k)
theorem Rk.ne_map {B b:Nat} {G:ByteArray→List Iv} {V:ByteArray→Value} {cs:Array Value} {t:TypeId} (h:Rk w g cs t) (hM:MapR w B b n G V):g≠b:=fun e=>by
 obtain ⟨D,⟨j,f,hb,_⟩,_⟩:=hM.own;rw [←e,show w.heap[g]? = _ from h] at hb;cases hb
theorem zia:124≠163:=by decide
def Turned (F:Nat→Prop) (g:Nat) (L:List Sp) (last r:Int) (o:Option (List Sp)) (w:World) (e:Ending) (w':World):Prop :=
 ∃F',e = .returned (.bool o.isSome)∧Sk w' F' g (o.getD L) (if o.isSome then r else last)∧Own14 F F' w w'
theorem Turned.no {F:Nat→Prop} {r:Int} (h:Sk w F g L last):Turned F g L last r none w (.returned (.bool false)) w:=⟨F,rfl,h,(OnlyF.refl F w).own fun _ h=>.inl h⟩
theorem put14_any {F:Nat→Prop} (k:ByteArray) (r:Int) (h:Sk w F g L last) (hf:FineS L last) (hL:L.length≤100000) (hk:k.size≤1000000) :
 Calls Tryz.prog 71 #[.pointer (some ⟨g,0,none⟩),.string k,.int .i64 r] w (Turned F g L last r (zgS L last k r) w):=by
 have o:=Turned.no (r:=r) h;obtain ⟨b,V,s,u,m,H⟩:=h;obtain ⟨g0,g1⟩:=u.two;have n:k.size≤maxLen:=by simp only [maxLen];omega
 have y:=m.look n w rfl;obtain ⟨A,c,I,U⟩:=m.read k;have a2:=zhH L k;have J:=isOpen_any U yab;have f:=putP_row hf k r;by_cases c1:r<1
 · rw [f,yan (.inl c1)];clear f y J U m u;go_enter Tryz.func71,Tryz.ntmps71
   go_wp2_with fail
   go_ret
   exact o
 · by_cases c2:r<last
   · rw [f,yan (.inr (.inl c2))];clear f y J U m u;go_enter Tryz.func71,Tryz.ntmps71
     go_wp2_with fail
     go_ret
     exact o
   · obtain ⟨q,Z⟩:∃q,zjS (ofK L k)=q:=⟨_,rfl⟩;rw [Z] at J f;rw [I] at y;cases q with
     | true =>
      rw [f,yan (.inr (.inr rfl))];clear f U m u Z;go_enter Tryz.func71,Tryz.ntmps71
      go_wp2_with (go_at_call 111;refine J.mono ?_;rintro e w1 ⟨rfl,rfl⟩)
      go_ret
      exact o
     | false =>
      rw [f,yak (by rintro (z | z | z) <;> first | exact c1 z | exact c2 z | cases z)];clear f o Z;have y0:=Rk.new w.drew #[.int .i64 r,.int .i64 0] 163;have B:MapR (w.drew.alloc (.cells #[.int .i64 r,.int .i64 0] 163)) 0 b L.length (ofK L) V:=m.same (Below.heap_alloc _ _ _ m.lt) fun c j K=>Below.heap_alloc _ _ _ (zdK (m.row c) K).2;obtain ⟨gg,cap,w6,w7,V',r6,r7,C,D,E,M⟩:=B.push n (r,0) yab yab (yao _) ⟨w.heap.size,0,none⟩ (cells_at _ #[.int .i64 r,.int .i64 0] _ _ rfl) 164;have X:=(u.same (w':=w.drew) rfl).alloc (.cells #[.int .i64 r,.int .i64 0] 163);have Y:Rk w6 g #[.map (some b),.int .i64 last] 124:=X.same (D.block g X.lt fun e=>X.apart (B.row k) zia e.symm);have N:=u.ne_map m;have O:Rk w7 g #[.map (some b),.int .i64 last] 124:=Y.same (E.block g Y.lt fun e=>N (by cases e;rfl));have p6:=Y.two.1;have p7:=O.two;have f7:=O.fz 1;obtain ⟨q7,_⟩:=p7;have hO:OnlyF F w w7:=((((OnlyF.refl F w).drew.grown (zaG _ _) fun r e=>by cases e).grown D fun j e=>.inl ((s j).2 (.inr (.inr ⟨k,e⟩)))).grown E fun j e=>.inl ((s j).2 (.inr (.inl (by cases e;rfl)))));have P:Turned F g L last r (some (L ++ [(k,r,0)])) w (.returned (.bool true)) (w7.setCell ⟨g,1,none⟩ (.int .i64 r)):=by
       have x8:=O.set 1 (.int .i64 r);have a1:MapR (w7.setCell ⟨g,1,none⟩ (.int .i64 r)) 0 b (L ++ [((k,r,0):Sp)]).length (ofK (L ++ [(k,r,0)])) V':=by
        rw [yam];refine (C.same (Below.heap_setCell _ _ _ _ (Ne.symm N)) fun c j K=>Below.heap_setCell _ _ _ _ fun e=>O.apart (C.row c) zia (by rw [K];exact congrArg some e)).congr fun c=>?_;rw [ofK_put];unfold zrr;by_cases e:c=k
        · subst e;simp
        · rw [yak e,yak (Ne.symm e)]
       refine ⟨fun j=>j=g∨j=b∨∃c,(V' c).ownBlock=some j,rfl,⟨b,V',fun _=>Iff.rfl,x8,a1,fun x G=>?_⟩,(hO.set (.inl ((s g).2 (.inl rfl))) _).own fun j K=>?_⟩
       · rcases yaA.1 G with G | G
         · exact H x G
         · rw [yav] at G;subst G;exact hk
       · rcases K with rfl | rfl | ⟨c,hc⟩
         · exact .inl ((s _).2 (.inl rfl))
         · exact .inl ((s _).2 (.inr (.inl rfl)))
         · rcases M c j hc with q | ⟨_,rfl⟩
           · exact .inl ((s _).2 (.inr (.inr ⟨c,q⟩)))
           · exact .inr yaf
      have Q:=m.look n w.drew rfl;have R:=m.look n (w.drew.alloc (.cells #[.int .i64 r,.int .i64 0] 163)) (Below.heap_alloc _ _ _ m.lt);have T:=m.look n (w.alloc (.cells #[.int .i64 r,.int .i64 0] 163)).drew (Below.heap_alloc _ _ _ m.lt);rw [I] at r6 Q R T;go_enter Tryz.func71,Tryz.ntmps71
      clear C M hO X Y O B D E m u s H;have a6:=map_some b;go_upto_region 5 with (go_at_call 111;refine J.mono ?_;rintro e w1 ⟨rfl,rfl⟩)
      go_region_held3 (fun w'=>w'.cell? ⟨g,0,none⟩=some (.map (some b)))
       (first
        | go_keep
        | fail)
       (first
        | (refine zej yae _ _ _ yae _ _ _ yae yae r6 ?_)
        | (refine zek yae _ _ _ _ yae _ _ _ yae yae yae r7 ?_)
        | fail)
      go_wp2_with fail
      all_goals (go_ret;exact P)
theorem znC {base gg cap:Nat} {l:List Iv} {f t r:Int} (h:w.ownsRow base 163 2 (.slice (some ⟨gg,0,none⟩) n cap) n (ics (l ++ [(f,t)]))) (hn:n=l.length + 1) :
 w.cell? ⟨gg,l.length * 2,none⟩=some (.int .i64 f)∧w.cell? ⟨gg,l.length * 2 + 1,none⟩=some (.int .i64 t)∧w.frozen? ⟨gg,l.length * 2 + 1,none⟩=false∧(w.setCell ⟨gg,l.length * 2 + 1,none⟩ (.int .i64 r)).ownsRow base 163 2 (.slice (some ⟨gg,0,none⟩) n cap) n (ics (l ++ [(f,r)])):=by
 have b:∀t:Int,(ics (l ++ [(f,t)])).length=n * 2:=fun t=>by rw [zjy,yam,hn];rfl
 have j:(l ++ [((f,t):Iv)])[l.length]? = some (f,t):=by rw [yaJ (yaj _),ycu];rfl
 obtain ⟨x,y⟩:=zqh j;have u:=h.cells (g:=gg) rfl;refine ⟨by simpa [Addr.add_lit] using u _ _ x,by simpa [Addr.add_lit] using u _ _ y,?_,?_⟩
 · rcases h.2 with ⟨e,_⟩ | ⟨g,cp,k,e,_,m,_⟩
   · cases e
   · injection e with e _ _
     injection e with e
     injection e with e _ _
     subst e;exact Rk.fz m _
 · refine ⟨b r,?_⟩;rcases h.2 with ⟨e,_⟩ | ⟨g,cp,k,e,hb,m,o,q,s,z⟩
   · cases e
   · have A:=e;injection e with e _ B
     injection e with e
     injection e with e _ _
     subst e;refine .inr ⟨gg,cp,k.setIfInBounds (l.length * 2 + 1) (.int .i64 r),A,hb,Rk.set m _ _,o,q,by simpa using s,?_⟩;rw [ycN,List.take_set,z,zmb,zmb,List.set_append_right _ _ (by rw [zjy];omega),zjy,Nat.add_sub_cancel_left,zjz,zjz];rfl
theorem drop14_any {F:Nat→Prop} (k:ByteArray) (r:Int) (h:Sk w F g L last) (hf:FineS L last) (hL:L.length≤100000) (hk:k.size≤1000000) :
 Calls Tryz.prog 72 #[.pointer (some ⟨g,0,none⟩),.string k,.int .i64 r] w (Turned F g L last r (zcc L last k r) w):=by
 have E:=Turned.no (r:=r) h;obtain ⟨b,V,hF,G,y,O⟩:=h;obtain ⟨g0,g1⟩:=G.two;have a7:k.size≤maxLen:=by simp only [maxLen];omega
 have B:=y.look a7 w rfl;obtain ⟨A,c,s,P⟩:=y.read k;have ab:=zhH L k;have H:=isOpen_any P yab;cases drop_is hf k r with
 | no K Q =>
  rw [K];rw [s] at B;by_cases c2:r<last
  · clear B H P y G Q;go_enter Tryz.func72,Tryz.ntmps72
    go_wp2_with fail
    go_ret
    exact E
  · have hq:zjS (ofK L k)=false:=Q.resolve_left c2;rw [hq] at H;clear P y G Q hq;go_enter Tryz.func72,Tryz.ntmps72
    go_wp2_with (go_at_call 111;refine H.mono ?_;rintro e w1 ⟨rfl,rfl⟩)
    go_ret
    exact E
 | late l f K hl o Q =>
  rw [K];have n:=y.row k;have I:(ofK L k).length=l.length + 1:=by rw [o];simp
  rw [o,zex,yaB rfl] at H;rw [o] at n;obtain ⟨gg,cap,C,_⟩:=n.form yaf;rw [s] at C;injection C with R e2 e3
  subst R;subst e3;rw [s] at B n;rw [I] at B;simp only [yam,ybx] at H n;rw [I] at n;obtain ⟨c0,c1,_⟩:=znC (r:=r) n rfl;have M:((l.length + 1:Nat):Int)-1=(l.length:Int):=by omega
  have a8:l.length<l.length + 1:=by omega
  have aa:l.length≤100000:=by omega
  clear P y G K o s n I;generalize N:l.length + 1=m at *
  generalize l.length=j at *
  clear N;go_enter Tryz.func72,Tryz.ntmps72
  go_wp2_with (go_at_call 111;refine H.mono ?_;rintro e w1 ⟨rfl,rfl⟩)
  go_ret
  exact E
 | yes l f L' K hl o Q z ho T N =>
  rw [K];have n:=y.row k;have I:(ofK L k).length=l.length + 1:=by rw [o];simp
  have U:(ofK L' k).length=l.length + 1:=by rw [z];simp
  rw [o,zex,yaB rfl] at H;rw [o] at n;obtain ⟨gg,cap,C,_⟩:=n.form yaf;have X:=C;rw [s] at C;injection C with R e2 e3
  subst R;subst e3;rw [s] at B n;rw [I] at B;simp only [yam,ybx] at H n;rw [I] at n;obtain ⟨c0,c1,fz,J⟩:=znC (r:=r) n rfl;have M:((l.length + 1:Nat):Int)-1=(l.length:Int):=by omega
  have a8:l.length<l.length + 1:=by omega
  have aa:l.length≤100000:=by omega
  have u:(V k).ownBlock=some gg:=by rw [s];rfl
  have Y:=y.ne u;have Z:gg≠g:=fun e=>G.apart (y.row k) zia (by rw [u,e]);have a1:=G.ne_map y;have xa:=G.other (a:=⟨gg,l.length * 2 + 1,none⟩) (Ne.symm Z) (.int .i64 r);obtain ⟨p0,p1⟩:=xa.two;have pf:=xa.fz 1;have xb:=xa.set 1 (.int .i64 r);have a2:MapR ((w.setCell ⟨gg,l.length * 2 + 1,none⟩ (.int .i64 r)).setCell ⟨g,1,none⟩ (.int .i64 r)) 0 b L'.length (ofK L') V:=by
   obtain ⟨D,d1,d2,d3⟩:=y.own;have R:((w.setCell ⟨gg,l.length * 2 + 1,none⟩ (.int .i64 r)).setCell ⟨g,1,none⟩ (.int .i64 r)).heap[b]? = w.heap[b]?:=(Below.heap_setCell _ _ _ _ (Ne.symm a1)).trans (Below.heap_setCell _ _ _ _ (Ne.symm Y));refine ⟨⟨D,T ▸ own_map d1 R,d2,fun c hc=>?_⟩,fun c=>?_,y.two⟩
   · rw [d3 c hc];by_cases e:k=c
     · subst e;rw [o,z];cases l <;> rfl
     · rw [ho c e]
   · by_cases e:k=c
     · subst e;rw [U,z,s,I];exact zau J fun j hj=>Below.heap_setCell _ _ _ _ fun e=>by
        simp only [Value.ownBlock,yaT] at hj;exact Z (hj.trans e)
     · rw [ho c e];exact zau (y.row c) fun j hj=>(Below.heap_setCell _ _ _ _ fun q=>G.apart (y.row c) zia (by rw [hj];exact congrArg some q)).trans (Below.heap_setCell _ _ _ _ fun q=>e (y.two k c gg u (by rw [hj];exact congrArg some q)))
  have a6:Turned F g L last r (some L') w (.returned (.bool true)) ((w.setCell ⟨gg,l.length * 2 + 1,none⟩ (.int .i64 r)).setCell ⟨g,1,none⟩ (.int .i64 r)) :=
   ⟨F,rfl,⟨b,V,hF,xb,a2,fun x hx=>by
    rcases N x hx with e | e
    · rw [e];exact hk
    · exact O x e⟩,(((OnlyF.refl F w).set (.inl ((hF gg).2 (.inr (.inr ⟨k,u⟩)))) _).set (.inl ((hF g).2 (.inl rfl))) _).own fun _ h=>.inl h⟩
  clear P y G K o z s X n I U J a2 xa xb N ho T u Y a1 hF O E;generalize N:l.length + 1=m at *
  generalize l.length=j at *
  clear N;go_enter Tryz.func72,Tryz.ntmps72
  go_wp2_with (go_at_call 111;refine H.mono ?_;rintro e w1 ⟨rfl,rfl⟩)
  go_ret
  exact a6
theorem has14_any {F:Nat→Prop} (k:ByteArray) (r:Int) (h:Sk w F g L last) (hL:L.length≤100000) (hk:k.size≤maxLen) :
 Calls Tryz.prog 62 #[.pointer (some ⟨g,0,none⟩),.string k,.int .i64 r] w fun e w'=>e = .returned (.bool (zdw L k r))∧Below w.heap.size w w':=by
 obtain ⟨b,V,G,u,n,D⟩:=h;have E:=u.alloc (.cells #[.int .i64 r] 3);have o:=n.look hk (w.alloc (.cells #[.int .i64 r] 3)) (Below.heap_alloc _ _ _ n.lt);obtain ⟨A,c,f,x⟩:=n.read k;have z:=zhH L k;have B:=contains14_any r (x.up (zaI w (.cells #[.int .i64 r] 3))) (yaj _) yab (Rk.new w #[.int .i64 r] 3).one;have C:(ofK L k).any (fun y=>zdH y r)=zdw L k r:=(hasP_row L k r).symm;rw [C] at B;rw [f] at o;obtain ⟨g0,H⟩:=E.two;have j:=zaI w (.cells #[.int .i64 r] 3);generalize zdw L k r=q at *
 clear C x n f u;generalize (ofK L k).length=m at *
 go_enter Tryz.func62,Tryz.ntmps62
 go_wp2_with (go_at_call 101;refine B.mono ?_;rintro e I ⟨rfl,s⟩)
 go_ret
 exact ⟨rfl,zac j j.size s.upto⟩
end
end Go.Proofs.YtmblgnddgmfkhaaGreat
