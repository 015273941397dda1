import Derived.Test.YtmblgnddgmfkhaaGreatQ36
set_option maxRecDepth 100000
set_option maxHeartbeats 4000000
namespace Go.Proofs.YtmblgnddgmfkhaaGreat
section
open Go.RowKit
variable {f:CoF}
theorem zms:zak (zdu zjC)=(zjC,0,0):=by decide +kernel
theorem zmq:zak (⟨#[]⟩:ByteArray)=([],0,0):=by decide +kernel
theorem zmi:∃ty ps R,CompIs ⟨#[116,121,112,101,32,117,115,101,114,32,123,125,32,116,121,112,101,32,100,111,99,32,123,32,114,101,108,32,114,101,97,100,32,40,114,101,97,100,44,32,114,101,97,100,44,32,114,101,97,100,41,58,32,117,115,101,114,59,32,125]⟩ 0 (zdu zjC) ty ps R:=by
 have d:(zak ⟨#[116,121,112,101,32,117,115,101,114,32,123,125,32,116,121,112,101,32,100,111,99,32,123,32,114,101,108,32,114,101,97,100,32,40,114,101,97,100,44,32,114,101,97,100,44,32,114,101,97,100,41,58,32,117,115,101,114,59,32,125]⟩).2.1=0:=by rw [zdW]
 have b:(zak ⟨#[116,121,112,101,32,117,115,101,114,32,123,125,32,116,121,112,101,32,100,111,99,32,123,32,114,101,108,32,114,101,97,100,32,40,114,101,97,100,44,32,114,101,97,100,44,32,114,101,97,100,41,58,32,117,115,101,114,59,32,125]⟩).1=zjC:=by rw [zdW]
 have f:Right ((zak ⟨#[116,121,112,101,32,117,115,101,114,32,123,125,32,116,121,112,101,32,100,111,99,32,123,32,114,101,108,32,114,101,97,100,32,40,114,101,97,100,44,32,114,101,97,100,44,32,114,101,97,100,41,58,32,117,115,101,114,59,32,125]⟩).1.map zcv):=by rw [b];exact (zgG _).1.1 zj5
 have:=CompIs.ok (s:=⟨#[116,121,112,101,32,117,115,101,114,32,123,125,32,116,121,112,101,32,100,111,99,32,123,32,114,101,108,32,114,101,97,100,32,40,114,101,97,100,44,32,114,101,97,100,44,32,114,101,97,100,41,58,32,117,115,101,114,59,32,125]⟩) d f [0] (by rw [b];rfl) (by rw [b,zgM];intro e h;cases h) (by
  rw [b,zgM];refine ⟨⟨fun i hi=>?_,fun e h=>by cases h⟩,fun u g i hi=>?_⟩
  · have:i=0:=by simpa using hi
    subst this;decide
  · have j:=g.1 i hi;have:i=0:=by simpa using hi
    subst this;exact j) (by rw [b];exact Nat.not_lt.1 zmr)
 rw [b] at this;exact ⟨_,_,_,this⟩
def zbo:TuP:=((⟨#[100,111,99]⟩,⟨#[49]⟩,⟨#[114,101,97,100]⟩),(⟨#[117,115,101,114]⟩,⟨#[97]⟩,⟨#[]⟩))
theorem exR_f (hG:CompG f):(f ⟨#[116,121,112,101,32,117,115,101,114,32,123,125,32,116,121,112,101,32,100,111,99,32,123,32,114,101,108,32,114,101,97,100,32,40,114,101,97,100,44,32,114,101,97,100,44,32,114,101,97,100,41,58,32,117,115,101,114,59,32,125]⟩).1=0∧zaR (f ⟨#[116,121,112,101,32,117,115,101,114,32,123,125,32,116,121,112,101,32,100,111,99,32,123,32,114,101,108,32,114,101,97,100,32,40,114,101,97,100,44,32,114,101,97,100,44,32,114,101,97,100,41,58,32,117,115,101,114,59,32,125]⟩).2.2 zbo=0:=by
 obtain ⟨ty,ps,R,h⟩:=zmi;have b:=hG.is h;obtain ⟨_,rfl,rfl,r,rfl,d⟩:=compR h;rw [b];refine ⟨rfl,?_⟩;unfold zaR zbo;exact exR_yes (r:=r) rfl d
theorem exE_is:CompIs ⟨#[]⟩ 0 ⟨#[]⟩ [] [] []:=by
 have d:(zak (⟨#[]⟩:ByteArray)).2.1=0:=by rw [zmq]
 have b:(zak (⟨#[]⟩:ByteArray)).1=[]:=by rw [zmq]
 have f:Right ((zak (⟨#[]⟩:ByteArray)).1.map zcv):=by
  rw [b];exact ⟨yap _,List.Pairwise.nil,(fun _ h=>absurd h yaf),(fun _ h=>absurd h yaf)⟩
 have:=CompIs.ok (s:=⟨#[]⟩) d f [] (by rw [b];rfl) (by rw [b];intro e h;exact absurd h (by simp [zbq,zbc])) (by
  rw [b];exact ⟨⟨fun i hi=>absurd hi (ybb i),fun e h=>absurd h (by simp [zbq,zbc])⟩,fun u _ i hi=>absurd hi (ybb i)⟩) (by rw [b];exact yap _)
 rw [b] at this;exact this
theorem zpd (hG:CompG f):f (f ⟨#[116,121,112,101,32,117,115,101,114,32,123,125,32,116,121,112,101,32,100,111,99,32,123,32,114,101,108,32,114,101,97,100,32,40,114,101,97,100,44,32,114,101,97,100,44,32,114,101,97,100,41,58,32,117,115,101,114,59,32,125]⟩).2.1=(0,(f ⟨#[116,121,112,101,32,117,115,101,114,32,123,125,32,116,121,112,101,32,100,111,99,32,123,32,114,101,108,32,114,101,97,100,32,40,114,101,97,100,44,32,114,101,97,100,44,32,114,101,97,100,41,58,32,117,115,101,114,59,32,125]⟩).2.1,(f ⟨#[116,121,112,101,32,117,115,101,114,32,123,125,32,116,121,112,101,32,100,111,99,32,123,32,114,101,108,32,114,101,97,100,32,40,114,101,97,100,44,32,114,101,97,100,44,32,114,101,97,100,41,58,32,117,115,101,114,59,32,125]⟩).2.2)∧f ⟨#[]⟩=(0,⟨#[]⟩,default):=by
 obtain ⟨ty,ps,R,h⟩:=zmi;have k:CompIs (zdu zjC) 0 (zdu zjC) ty ps R:=CompIs.move (by rw [zms,zdW]) (by rw [zms,zdW]) h;rw [hG.is h];exact ⟨hG.is k,hG.is exE_is⟩
abbrev zlM:Nd15:=(⟨#[]⟩,⟨#[]⟩,⟨#[]⟩)
theorem wrong15 (f:CoF):zaA (p15 f) (zbT 5) zlM [] [(zbo,true)]=(zbT 5,31,0):=by
 have e:(p15 f).right (zai (zbT 5:Sto Tb Nd15)).T zbo=31:=by
  rw [zbs];decide +kernel
 have h:=zeG (p:=p15 f) (s:=(zbT 5:Sto Tb Nd15)) (n:=zlM) (t:=zbo) (q:=[]) (b:=true) (by rw [e];decide) (.inl rfl);rw [h,e]
theorem awk15 (hG:CompG f) (nr:Nd15):∃s1 s2:Sto Tb Nd15,zaC (p15 f) (zbT 5) nr ⟨#[116,121,112,101,32,117,115,101,114,32,123,125,32,116,121,112,101,32,100,111,99,32,123,32,114,101,108,32,114,101,97,100,32,40,114,101,97,100,44,32,114,101,97,100,44,32,114,101,97,100,41,58,32,117,115,101,114,59,32,125]⟩=(s1,0)∧zaA (p15 f) s1 zlM [(zbo,false)] [(zbo,true)]=(s2,0,0) ∧
 zaA (p15 f) s2 zlM [(zbo,false)] [(zbo,false)]=(s2,41,0)∧revB s1=1∧revB s2=2∧s2.floor=0∧s2.quota=5∧(atB s2 2).keys=[zbu zbo]∧(atB s2 1).keys=[]∧(zai s2).keys=[zbu zbo]∧OkT (p15 f) s2:=by
 obtain ⟨h,j⟩:=exR_f hG;obtain ⟨k,m⟩:=zpd hG;generalize hx:(⟨#[116,121,112,101,32,117,115,101,114,32,123,125,32,116,121,112,101,32,100,111,99,32,123,32,114,101,108,32,114,101,97,100,32,40,114,101,97,100,44,32,114,101,97,100,44,32,114,101,97,100,41,58,32,117,115,101,114,59,32,125]⟩:ByteArray)=x at *
 have o:((p15 f).comp x).1=0:=by rw [zbh];exact h
 have b:(p15 f).right ((p15 f).comp x).2.2 zbo=0:=by rw [zbh,zbs];exact j
 have hk:(p15 f).key zbo=zbu zbo:=by rw [zfA]
 have d:(p15 f).comp ((p15 f).comp x).2.1=(0,((p15 f).comp x).2.1,((p15 f).comp x).2.2):=by rw [zbh];exact k
 have g:(p15 f).comp ⟨#[]⟩=(0,⟨#[]⟩,default):=by rw [zbh];exact m
 generalize p15 f=p at *
 rw [←hk];generalize zbo=t at *
 clear hk h j hx k m;refine ⟨⟨0,[zjE,⟨(p.comp x).2.1,(p.comp x).2.2,[],nr,true,[]⟩],5⟩,⟨0,[zjE,⟨(p.comp x).2.1,(p.comp x).2.2,[],nr,true,[]⟩,⟨(p.comp x).2.1,(p.comp x).2.2,[p.key t],zlM,false,[p.key t]⟩],5⟩,?_,?_,?_,rfl,rfl,rfl,rfl,rfl,rfl,rfl,?_⟩
 · unfold zaC;rw [yan o,yan (by rfl)];rfl
 · rw [zcG b (.inr ⟨_,rfl⟩)];rfl
 · rw [zcG b (.inr ⟨_,rfl⟩)];simp [zcb,zhM,zai,hasK,keyed]
 · intro v n;simp only [yav,ya1,ybw] at n;rcases n with rfl | rfl | rfl
   · exact g
   · exact d
   · exact d
end
section
open Go.RowKit
section
variable {S:SpW}
theorem zjx:∀x ∈ [(zbo,true)],(zbu x.1).size≤100000:=fun x b=>by rw [yas.1 b];decide +kernel
theorem zhz:∀x ∈ [(zbo,false)],(zbu x.1).size≤100000:=fun x b=>by rw [yas.1 b];decide +kernel
theorem zkN (w:World) (b:Bool) (t:TypeId):Rd (w.alloc (.cells #[.string ⟨#[100,111,99]⟩,.string ⟨#[49]⟩,.string ⟨#[114,101,97,100]⟩,.string ⟨#[117,115,101,114]⟩,.string ⟨#[97]⟩,.string ⟨#[]⟩,.bool b] t)) (w.alloc (.cells #[.string ⟨#[100,111,99]⟩,.string ⟨#[49]⟩,.string ⟨#[114,101,97,100]⟩,.string ⟨#[117,115,101,114]⟩,.string ⟨#[97]⟩,.string ⟨#[]⟩,.bool b] t)).heap.size 7 (some ⟨w.heap.size,0,none⟩) [(zbo,b)].length 1 ([(zbo,b)].flatMap zco):=Rd.litX w _ _ 1 7 _ rfl rfl yac
theorem Rk.c6t {w:World} {b:Nat} {t:TypeId} {x0 x1 x2 x3 x4 x5:Value} (h:Rk w b #[x0,x1,x2,x3,x4,x5] t):w.cell? ⟨b,0,none⟩=some x0∧w.cell? ⟨b,1,none⟩=some x1∧w.cell? ⟨b,2,none⟩=some x2∧w.cell? ⟨b,3,none⟩=some x3∧w.cell? ⟨b,4,none⟩=some x4∧w.cell? ⟨b,5,none⟩=some x5:=⟨h.cell 0,h.cell 1,h.cell 2,h.cell 3,h.cell 4,h.cell 5⟩
theorem awake15_any (K:SpK S) (w:World):Calls Tryz.prog 9 #[] w fun e w'=>e = .returned (.bool true)∧Below w.heap.size w w':=by
 obtain ⟨f,hG⟩:=zmh;obtain ⟨s1,s2,e1,e2,e3,v1,v2,aw,q2,a2,a1,l2,af⟩:=awk15 hG (⟨#[117,115,101,114]⟩,⟨#[114]⟩,⟨#[]⟩);have V:OkB (p15 f) s1:=by
  have:=(OkB.new (p15 f) 5).define ((⟨#[117,115,101,114]⟩,⟨#[114]⟩,⟨#[]⟩):Nd15) ⟨#[116,121,112,101,32,117,115,101,114,32,123,125,32,116,121,112,101,32,100,111,99,32,123,32,114,101,108,32,114,101,97,100,32,40,114,101,97,100,44,32,114,101,97,100,44,32,114,101,97,100,41,58,32,117,115,101,114,59,32,125]⟩;rw [e1] at this;exact this
 have Q:SzB s2:=by
  have a:=(SzB.new 5).define hG (⟨#[117,115,101,114]⟩,⟨#[114]⟩,⟨#[]⟩) ⟨#[116,121,112,101,32,117,115,101,114,32,123,125,32,116,121,112,101,32,100,111,99,32,123,32,114,101,108,32,114,101,97,100,32,40,114,101,97,100,44,32,114,101,97,100,44,32,114,101,97,100,41,58,32,117,115,101,114,59,32,125]⟩ yac yac yac;rw [e1] at a;have b:=a.write V zlM [(zbo,false)] [(zbo,true)] yac yac yac zjx;rw [e2] at b;exact b
 have ag:OkU (p15 f) s2:=by
  have a:=(OkU.new (p15 f) 5).define (OkB.new (p15 f) 5).has (⟨#[117,115,101,114]⟩,⟨#[114]⟩,⟨#[]⟩) ⟨#[116,121,112,101,32,117,115,101,114,32,123,125,32,116,121,112,101,32,100,111,99,32,123,32,114,101,108,32,114,101,97,100,32,40,114,101,97,100,44,32,114,101,97,100,44,32,114,101,97,100,41,58,32,117,115,101,114,59,32,125]⟩;rw [e1] at a;have b:=a.write p15_none V zlM [(zbo,false)] [(zbo,true)];rw [e2] at b;exact b
 have e0:=wrong15 f;have kn:=iv_new (f:=f) K 5 w;go_enter Tryz.func9,Tryz.ntmps9
 go_upto_region 3 with (go_at_call 11;refine kn.mono ?_;rintro e w1 ⟨g,rfl,ah,R⟩)
 have T:=Rk.new w1 #[.string ⟨#[100,111,99]⟩,.string ⟨#[49]⟩,.string ⟨#[114,101,97,100]⟩,.string ⟨#[117,115,101,114]⟩,.string ⟨#[97]⟩,.string ⟨#[]⟩] 51;have X:=zaM w1 (.cells #[.string ⟨#[100,111,99]⟩,.string ⟨#[49]⟩,.string ⟨#[114,101,97,100]⟩,.string ⟨#[117,115,101,114]⟩,.string ⟨#[97]⟩,.string ⟨#[]⟩] 51);have ax:=R.size;have ai:Ib S f (fun b=>b<w.heap.size∨b=w1.heap.size) _ g (zbT 5) 0:=ah.more K X (fun b q=>by
  rcases q with q | rfl
  · exact ⟨.inl q,by simp;omega⟩
  · exact ⟨.inr (yaj _),by simp⟩)
 have Y:=zad R R.size X;generalize w1.alloc (.cells #[.string ⟨#[100,111,99]⟩,.string ⟨#[49]⟩,.string ⟨#[114,101,97,100]⟩,.string ⟨#[117,115,101,114]⟩,.string ⟨#[97]⟩,.string ⟨#[]⟩] 51)=w2 at *
 generalize w1.heap.size=I at *
 clear kn ah R X;obtain ⟨n,o,s,x,y,z⟩:=T.c6t;have B:=T.lt;have Z:=zaM w2 (.cells #[.string ⟨#[100,111,99]⟩,.string ⟨#[49]⟩,.string ⟨#[114,101,97,100]⟩,.string ⟨#[117,115,101,114]⟩,.string ⟨#[97]⟩,.string ⟨#[]⟩,.bool true] 54);have J:=(ai.up K Z).write K ⟨#[]⟩ ⟨#[]⟩ ⟨#[]⟩ (p:=[]) (Rd.none_ _ _ 7) (zkN w2 true 54) (fun _ q=>absurd q yaf) zjx (by show (0:Int) + 1-1 + 1≤_;decide) yac;rw [e0] at J;simp only [yaI,yaq,yaG] at J;go_wp2_with fail
 refine J.mono ?_;rintro e w4 ⟨rfl,aj,a6⟩;have ak:=(T.alloc (.cells #[.string ⟨#[100,111,99]⟩,.string ⟨#[49]⟩,.string ⟨#[114,101,97,100]⟩,.string ⟨#[117,115,101,114]⟩,.string ⟨#[97]⟩,.string ⟨#[]⟩,.bool true] 54)).same (a6.old I (.inr rfl));have al:=(zad Y Y.size Z).trans (a6.below fun b q=>.inl q);clear J ai T Z Y a6 n o s x y z B e0;have kd:=aj.define K hG.is ⟨#[117,115,101,114]⟩ ⟨#[114]⟩ ⟨#[]⟩ ⟨#[116,121,112,101,32,117,115,101,114,32,123,125,32,116,121,112,101,32,100,111,99,32,123,32,114,101,108,32,114,101,97,100,32,40,114,101,97,100,44,32,114,101,97,100,44,32,114,101,97,100,41,58,32,117,115,101,114,59,32,125]⟩ yac (by show (0:Int) + 1-1 + 1≤_;decide);rw [e1] at kd;go_upto_region 5 with (go_at_call 13;refine kd.mono ?_;rintro e w5 ⟨rfl,am,a7⟩)
 have L:=ak.same (a7.old I (.inr rfl));have a8:=al.trans (a7.below fun b q=>.inl q);clear kd aj ak a7 al e1;obtain ⟨n,o,s,x,y,z⟩:=L.c6t;have B:=L.lt;have C:=zaM w5 (.cells #[.string ⟨#[100,111,99]⟩,.string ⟨#[49]⟩,.string ⟨#[114,101,97,100]⟩,.string ⟨#[117,115,101,114]⟩,.string ⟨#[97]⟩,.string ⟨#[]⟩,.bool false] 66);have M:(w5.alloc (.cells #[.string ⟨#[100,111,99]⟩,.string ⟨#[49]⟩,.string ⟨#[114,101,97,100]⟩,.string ⟨#[117,115,101,114]⟩,.string ⟨#[97]⟩,.string ⟨#[]⟩,.bool false] 66)).heap.size=w5.heap.size + 1:=by simp
 have D:=zaM (w5.alloc (.cells #[.string ⟨#[100,111,99]⟩,.string ⟨#[49]⟩,.string ⟨#[114,101,97,100]⟩,.string ⟨#[117,115,101,114]⟩,.string ⟨#[97]⟩,.string ⟨#[]⟩,.bool false] 66)) (.cells #[.string ⟨#[100,111,99]⟩,.string ⟨#[49]⟩,.string ⟨#[114,101,97,100]⟩,.string ⟨#[117,115,101,114]⟩,.string ⟨#[97]⟩,.string ⟨#[]⟩,.bool true] 54);have N:=(zkN w5 false 66).up D;have G:=zkN (w5.alloc (.cells #[.string ⟨#[100,111,99]⟩,.string ⟨#[49]⟩,.string ⟨#[114,101,97,100]⟩,.string ⟨#[117,115,101,114]⟩,.string ⟨#[97]⟩,.string ⟨#[]⟩,.bool false] 66)) true 54;rw [M] at G;have J:=((am.up K C).up K D).write K ⟨#[]⟩ ⟨#[]⟩ ⟨#[]⟩ N G zhz zjx (by rw [v1];decide) yac;rw [e2] at J;simp only [yaI,yaq,yaG] at J;go_wp2_with fail
 refine J.mono ?_;rintro e w8 ⟨rfl,an,aa⟩;have k:=zad C C.size D;have O:=(L.same (k.block I L.lt)).same (aa.old I (.inr rfl));have ab:=(zad a8 a8.size k).trans (aa.below fun b q=>.inl q);clear J am L C D M N G k a8 aa n o s x y z B e2;obtain ⟨n,o,s,x,y,z⟩:=O.c6t;have B:=O.lt;have C:=zaM w8 (.cells #[.string ⟨#[100,111,99]⟩,.string ⟨#[49]⟩,.string ⟨#[114,101,97,100]⟩,.string ⟨#[117,115,101,114]⟩,.string ⟨#[97]⟩,.string ⟨#[]⟩,.bool false] 66);have M:(w8.alloc (.cells #[.string ⟨#[100,111,99]⟩,.string ⟨#[49]⟩,.string ⟨#[114,101,97,100]⟩,.string ⟨#[117,115,101,114]⟩,.string ⟨#[97]⟩,.string ⟨#[]⟩,.bool false] 66)).heap.size=w8.heap.size + 1:=by simp
 have D:=zaM (w8.alloc (.cells #[.string ⟨#[100,111,99]⟩,.string ⟨#[49]⟩,.string ⟨#[114,101,97,100]⟩,.string ⟨#[117,115,101,114]⟩,.string ⟨#[97]⟩,.string ⟨#[]⟩,.bool false] 66)) (.cells #[.string ⟨#[100,111,99]⟩,.string ⟨#[49]⟩,.string ⟨#[114,101,97,100]⟩,.string ⟨#[117,115,101,114]⟩,.string ⟨#[97]⟩,.string ⟨#[]⟩,.bool false] 54);have N:=(zkN w8 false 66).up D;have G:=zkN (w8.alloc (.cells #[.string ⟨#[100,111,99]⟩,.string ⟨#[49]⟩,.string ⟨#[114,101,97,100]⟩,.string ⟨#[117,115,101,114]⟩,.string ⟨#[97]⟩,.string ⟨#[]⟩,.bool false] 66)) false 54;rw [M] at G;have J:=((an.up K C).up K D).write K ⟨#[]⟩ ⟨#[]⟩ ⟨#[]⟩ N G zhz zhz (by rw [v2];decide) yac;rw [e3] at J;simp only [yaI,yaq,yaG] at J;go_wp2_with fail
 refine J.mono ?_;rintro e w9 ⟨rfl,H,ac⟩;have k:=zad C C.size D;have ad:=(O.same (k.block I O.lt)).same (ac.old I (.inr rfl));have ae:=(zad ab ab.size k).trans (ac.below fun b q=>.inl q);clear J an O C D M N G k ab ac n o s x y z B e3;have ao:=H.packLen Q;obtain ⟨aq,hE,ay,ar,av,_⟩:=unk_pack H.ok.1 af ag Q (q:=9) (by rw [q2];decide) H.ok.2 H.keys;have kp:=H.pack K Q;generalize zbi c15 s2=pb at *
 go_wp2_with fail
 refine kp.mono ?_;rintro e az ⟨A,c,rfl,hO,P⟩;obtain ⟨_,_,hv,hR⟩:=Rd.own hO;injection hv with q1 _ q3
 subst q1 q3;have ku:=zpB K hG hR ao (q:=9) yac aq;go_wp2_with fail
 refine ku.mono ?_;rintro e b0 ⟨p,rfl,U,_,au⟩;obtain ⟨_,_,u,rfl,F⟩:=au hE;rw [hE];generalize (zaS (p15 f) 9 pb).2.1=s3 at *
 have hb:=zad P P.size U;have E:=H.up K hb;have d:=ad.same (hb.block I ad.lt);have m:=zad ae ae.size hb;clear kp ku hO hR H ad ae hb au hE aq af ag Q V P U;have x2:hasK (atB s2 2).keys (zbu zbo)=true:=by rw [a2];exact zas.2 (yas.2 rfl)
 have x1:hasK (atB s2 1).keys (zbu zbo)=false:=by rw [a1];rfl
 have x3:hasK (atB s3 2).keys (zbu zbo)=true:=by rw [av,x2]
 have xu:(zbu zbo).size≤100000:=by decide +kernel
 rw [v2] at ar;have j:=E.rev;rw [v2] at j;obtain ⟨n,o,s,x,y,z⟩:=d.c6t;have B:=d.lt;go_wp2_with fail
 refine j.mono ?_;rintro e b1 ⟨rfl,hb⟩;replace E:=E.up K hb;replace F:=F.up K hb;replace d:=d.same (hb.block I d.lt);replace m:=zad m m.size hb;clear j hb n o s x y z B;have j:=E.has K 2 zbo xu;rw [x2] at j;unfold zf0 zbo at j;obtain ⟨n,o,s,x,y,z⟩:=d.c6t;have B:=d.lt;go_wp2_with fail
 refine j.mono ?_;rintro e b2 ⟨rfl,hb⟩;replace E:=E.up K hb;replace F:=F.up K hb;replace d:=d.same (hb.block I d.lt);replace m:=zad m m.size hb;clear j hb n o s x y z B;have j:=E.has K 1 zbo xu;rw [x1] at j;unfold zf0 zbo at j;obtain ⟨n,o,s,x,y,z⟩:=d.c6t;have B:=d.lt;go_wp2_with fail
 refine j.mono ?_;rintro e b3 ⟨rfl,hb⟩;replace E:=E.up K hb;replace F:=F.up K hb;replace d:=d.same (hb.block I d.lt);replace m:=zad m m.size hb;clear j hb n o s x y z B;have j:=E.tuples K 2;rw [a2] at j;simp only [yaq,yaI,yaG] at j;obtain ⟨n,o,s,x,y,z⟩:=d.c6t;have B:=d.lt;go_wp2_with fail
 refine j.mono ?_;rintro e b4 ⟨⟨A5,c6,rfl,_⟩,hb⟩;replace E:=E.up K hb;replace F:=F.up K hb;replace d:=d.same (hb.block I d.lt);replace m:=zad m m.size hb;clear j hb n o s x y z B;have j:=F.rev;rw [ar] at j;obtain ⟨n,o,s,x,y,z⟩:=d.c6t;have B:=d.lt;go_wp2_with fail
 refine j.mono ?_;rintro e b5 ⟨rfl,hb⟩;replace E:=E.up K hb;replace F:=F.up K hb;replace d:=d.same (hb.block I d.lt);replace m:=zad m m.size hb;clear j hb n o s x y z B;have j:=F.has K 2 zbo xu;rw [x3] at j;unfold zf0 zbo at j;obtain ⟨n,o,s,x,y,z⟩:=d.c6t;have B:=d.lt;go_wp2_with fail
 refine j.mono ?_;rintro e b6 ⟨rfl,hb⟩;replace E:=E.up K hb;replace F:=F.up K hb;replace d:=d.same (hb.block I d.lt);replace m:=zad m m.size hb;clear j hb n o s x y z B;have j:=E.live K;rw [l2] at j;simp only [yaq,yaI,yaG] at j;obtain ⟨n,o,s,x,y,z⟩:=d.c6t;have B:=d.lt;go_wp2_with fail
 refine j.mono ?_;rintro e b7 ⟨rfl,hb⟩;replace E:=E.up K hb;replace F:=F.up K hb;replace d:=d.same (hb.block I d.lt);replace m:=zad m m.size hb;clear j hb n o s x y z B;go_wp2_with fail
 go_ret
 exact ⟨rfl,m⟩
end
end
section
open Go.RowKit
def zfU (f:Nat→ByteArray):Nat→ByteArray
 | 0=>f 0
 | i + 1=>zfU f i ++ (zck 0 ++ f (i + 1))
theorem zeu (f:Nat→ByteArray) {m n:Nat} (h:∀i,i<n→(f i).size≤m):∀i,i<n→(zfU f i).size≤(i + 1) * (m + 1)
 | 0,hi=>by have:=h 0 hi;show (f 0).size≤_;omega
 | i + 1,hi=>by
  have b:=zeu f h i yab;have d:=h (i + 1) hi;show (zfU f i ++ (zck 0 ++ f (i + 1))).size≤_;rw [size_app,size_app,zbe,ycb (i + 1) 1];omega
theorem zig (a b c x y z:ByteArray):zfU (zqn a b c x y z) 5=zbu ((a,b,c),(x,y,z)):=by
 show a ++ (zck 0 ++ b) ++ (zck 0 ++ c) ++ (zck 0 ++ x) ++ (zck 0 ++ y) ++ (zck 0 ++ z)=a ++ zck 0 ++ (b ++ zck 0 ++ (c ++ zck 0 ++ (x ++ zck 0 ++ (y ++ zck 0 ++ z))));simp only [ByteArray.append_assoc]
section
variable {w:World}
theorem rnames_any12 (a b c x y z:ByteArray) :
 Calls Tryz.prog 58 #[.agg #[.string a,.string b,.string c,.string x,.string y,.string z]] w fun e w'=>(∃g,e = .returned (.slice (some ⟨g,0,none⟩) 6 6)∧Bk w' g #[.string a,.string b,.string c,.string x,.string y,.string z] 9∧w.heap.size≤g)∧Below w.heap.size w w':=by
 have hk:=Bk.new w #[.string a,.string b,.string c,.string x,.string y,.string z] 51;have d:=zdy w (.cells #[.string a,.string b,.string c,.string x,.string y,.string z] 51);obtain ⟨k,m,n,o,p,q⟩:=hk.c6;have s:=hk.lt;go_enter Tryz.func58,Tryz.ntmps58
 go_upto_region 1 with (fail)
 generalize w.alloc (.cells #[.string a,.string b,.string c,.string x,.string y,.string z] 51)=f at *
 have j:=Bk.new f #[.string a,.string b,.string c,.string x,.string y,.string z] 9;go_wp2_with fail
 go_ret
 exact ⟨⟨_,rfl,j,d.size⟩,d.alloc d.size _⟩
theorem rkey_any12 (a b c x y z:ByteArray) (ha:a.size≤140737488351232) (hb:b.size≤140737488351232) (hc:c.size≤140737488351232) (hx:x.size≤140737488351232) (hy:y.size≤140737488351232) (hz:z.size≤140737488351232) :
 Calls Tryz.prog 21 #[.agg #[.string a,.string b,.string c,.string x,.string y,.string z]] w fun e w'=>e = .returned (.string (zbu ((a,b,c),(x,y,z))))∧Below w.heap.size w w':=by
 rw [←zig];have hk:=Bk.new w #[.string a,.string b,.string c,.string x,.string y,.string z] 51;have j:=zdy w (.cells #[.string a,.string b,.string c,.string x,.string y,.string z] 51);have d:∀i,i<6→(zqn a b c x y z i).size≤140737488351232:=fun i hi=>by
  obtain rfl | rfl | rfl | rfl | rfl | rfl:i=0∨i=1∨i=2∨i=3∨i=4∨i=5:=by omega
  all_goals assumption
 clear ha hb hc hx hy hz;have k:=zeu _ d;obtain ⟨p,n,s,A,B,C⟩:=hk.c6;have G:=hk.lt;go_enter Tryz.func21,Tryz.ntmps21
 go_upto_region 1 with (fail)
 generalize w.alloc (.cells #[.string a,.string b,.string c,.string x,.string y,.string z] 51)=M at *
 have H:=rnames_any12 (w:=M) a b c x y z;go_upto_region 2 with (go_at_call 58;refine H.mono ?_;rintro e I ⟨⟨g,rfl,D,_⟩,o⟩)
 replace j:=zam j j.size o;clear H o p n s A B C G hk;obtain ⟨p,n,s,A,B,C⟩:=D.c6;have G:=D.lt;go_wp2_with fail
 clear p n s A B C;go_loopw [4,5] (fun N E O=>∃i:Nat,E = .int .i64 (i + 1:Nat)∧N = .string (zfU (zqn a b c x y z) i)∧i≤5∧Below I.heap.size I O) (fun _ E _=>6-(intOf E).toNat)
 case atStart=>exact ⟨0,rfl,rfl,by omega,Below.refl _ _⟩
 case round =>
  obtain ⟨i,rfl,rfl,hi,f⟩:=hrel;by_cases P:i<5
  · have Q:((i + 1:Nat):Int)<6:=by omega
    have R:(0:Int)≤((i + 1:Nat):Int):=by omega
    have J:=(at6 a b c x y z (i:=i + 1) yab).1;have K:=D.below f;have n:wr.cell? ⟨g,i + 1,none⟩=_:=(K.cell (i + 1)).trans J;have X:=K.lt;have T:=d (i + 1) yab;have U:=k i yab;obtain ⟨u,L⟩:∃u,Hid (zqn a b c x y z (i + 1)=u):=⟨_,Lib.hid rfl⟩;have F:Hid (zfU (zqn a b c x y z) i ++ (zck 0 ++ u)=zfU (zqn a b c x y z) (i + 1)):=Lib.hid (by rw [←L.out];rfl);rw [L.out] at n T;generalize zfU (zqn a b c x y z) i=q at *
    clear J d k;have Y:q.size≤844424930107398:=by omega
    have Z:¬9223372036854775807<1 + u.size:=by omega
    have n2:¬9223372036854775807<q.size + (1 + u.size):=by omega
    clear U;generalize hm:(i + 1:Nat)=m at *
    have V:IntKind.i64.wrap ((m:Int) + 1)=(m:Int) + 1:=IntWalk.i64_in _ yab;go_wp2_with fail
    refine ⟨⟨m,by go_num,by rw [←F.out];rfl,by omega,f⟩,?_⟩;simp [intOf];omega
  · obtain rfl:i=5:=by omega
    go_wp2_with fail
    go_ret
    exact ⟨rfl,zam j j.size f⟩
end
end
section
open Go.RowKit
variable {B c Br:Nat} {A:Option Addr} {l:List Iv}
theorem zba (w:World) (o:Obj):w.grownBy (w.alloc o) none:=World.grownBy_alloc w o none
section
variable {P:Program} {w w':World} {ops:Array Oper} {o:Oper} {a:Act} {K:Act→World→Prop} {Q:Exit→Act→World→Prop} {E:Prop}
theorem zhu (hgd:o.guard=none) (s x:Operand) (t:TypeId) (ho:o.op = .call { callee:=.builtin .append,args:=#[s,x],argTypes:=#[t,t] }) (u y v:Value) (hs:a.eval s=u) (hx:a.eval x=y)
 (hr:(Builtin.append_ #[t,t] o.type #[u,y]).run P w = .ok v w') (h:K (a.put o.dst v) w'):if Region.wanted o (yielded ops a.tmps)=true then Oper.wp P o a w K Q else E:=by
 have b:Region.wanted o (yielded ops a.tmps)=true:=by simp [Region.wanted,hgd]
 rw [yan b];unfold Oper.wp execOp;simp only [ho,resolve,invoke,builtin,Sem.run_bind,Sem.run_pure,Result.andThen_ok,List.map_toArray,yaW,ycC,hs,hx,hr];exact h
theorem zhv (hgd:o.guard=none) (m k x:Operand) (t:TypeId) (ho:o.op = .mapUpdate t m k x) (vm vk vx:Value) (hm:a.eval m=vm) (hk:a.eval k=vk) (hx:a.eval x=vx)
 (hr:(Instr.mapUpdate t vm vk vx).run P w = .ok () w') (h:K (a.put o.dst undef) w'):if Region.wanted o (yielded ops a.tmps)=true then Oper.wp P o a w K Q else E:=by
 have b:Region.wanted o (yielded ops a.tmps)=true:=by simp [Region.wanted,hgd]
 rw [yan b];unfold Oper.wp;simp [execOp,ho,hm,hk,hx,hr,Result.andThen];exact h
end
theorem ended_any (f t r:Int) (w:World):Calls Tryz.prog 86 #[.agg #[.int .i64 f,.int .i64 t],.int .i64 r] w fun e w'=>e = .returned (.bool (!(decide (t=0) || decide (r<t))))∧w.grownBy w' none:=by
 by_cases b:t=0
 · subst b;go_enter Tryz.func86,Tryz.ntmps86
   go_wp2
   go_ret
   exact ⟨by simp,zba _ _⟩
 · have g:(t != 0)=true:=by simpa using b
   go_enter Tryz.func86,Tryz.ntmps86
   go_wp2
   go_ret
   refine ⟨?_,zba _ _⟩;by_cases d:r<t
   · simp [b,d]
   · simp [b,d];omega
theorem holds14_any (f t r:Int) (w:World):Calls Tryz.prog 97 #[.agg #[.int .i64 f,.int .i64 t],.int .i64 r] w fun e w'=>e = .returned (.bool (decide (f≤r) && (decide (t=0) || decide (r<t))))∧w.grownBy w' none:=by
 have b:=ended_any f t r (w.alloc (.cells #[.int .i64 f,.int .i64 t] 163));obtain ⟨q,d⟩:∃q,(decide (t=0) || decide (r<t))=q:=⟨_,rfl⟩;rw [d] at b ⊢;clear d;have g:=zba w (.cells #[.int .i64 f,.int .i64 t] 163);by_cases j:f≤r
 · go_enter Tryz.func97,Tryz.ntmps97
   go_wp2_with (go_at_call 86;refine b.mono ?_;rintro e m ⟨rfl,k⟩)
   go_ret
   exact ⟨by simp [j],g.trans k⟩
 · go_enter Tryz.func97,Tryz.ntmps97
   go_wp2_with fail
   go_ret
   exact ⟨by rw [yaH (show ¬f≤r by omega),yb1];rfl,g⟩
theorem isOpen_any {w:World} (h:Rd w B 2 A l.length c (ics l)) (hl:l.length≤1000000):Calls Tryz.prog 111 #[.slice A l.length c] w fun e w'=>e = .returned (.bool (zje l))∧w'=w:=by
 rcases l.eq_nil_or_concat with rfl | ⟨m,y,rfl⟩
 · clear h;go_enter Tryz.func111,Tryz.ntmps111
   go_wp2
   go_ret
   exact ⟨rfl,rfl⟩
 · simp only [yb0] at *
   rw [zd1];obtain ⟨n,d⟩:∃n,(m ++ [y]).length=n:=⟨_,rfl⟩;have f:m.length + 1=n:=by rw [←d];simp
   obtain ⟨b,o,rfl,_,g,k⟩:=rd_iv h (i:=m.length) (y:=y) yaf;rw [d] at hl ⊢;have q:(n:Int)-1=(m.length:Int):=by omega
   have s:(n:Int) > 0:=by omega
   have p:m.length<n:=by omega
   obtain ⟨u,x⟩:=y;dsimp only at g k ⊢;generalize m.length=j at *
   clear f d h;go_enter Tryz.func111,Tryz.ntmps111
   go_wp2
   go_ret
   exact ⟨rfl,rfl⟩
def zdm (y:Iv) (r:Int):Bool:=decide (y.1≤r) && (decide (y.2=0) || decide (r<y.2))
theorem has1_any {w:World} (f t r:Int) (h:w.cell? ⟨Br,0,none⟩=some (.int .i64 r)):Calls Tryz.prog 102 #[.agg #[.int .i64 f,.int .i64 t],.pointer (some ⟨Br,0,none⟩)] w fun e w'=>e = .returned (.bool (zdm (f,t) r))∧w.grownBy w' none:=by
 have b:=zba w (.cells #[.int .i64 f,.int .i64 t] 163);have k:(w.alloc (.cells #[.int .i64 f,.int .i64 t] 163)).cell? ⟨Br,0,none⟩=some (.int .i64 r):=b.cell h yaf;have d:=holds14_any f t r (w.alloc (.cells #[.int .i64 f,.int .i64 t] 163));have g:zdm (f,t) r=(decide (f≤r) && (decide (t=0) || decide (r<t))):=rfl;rw [←g] at d;generalize zdm (f,t) r=q at *
 clear g;go_enter Tryz.func102,Tryz.ntmps102
 go_wp2_with (go_at_call 97;refine d.mono ?_;rintro e m ⟨rfl,j⟩)
 go_ret
 exact ⟨rfl,b.trans j⟩
theorem index14_any {w:World} (r:Int) (h:Rd w B 2 A l.length c (ics l)) (hB:B≤w.heap.size) (hl:l.length≤1000000) (hr:w.cell? ⟨Br,0,none⟩=some (.int .i64 r)) :
 Calls Tryz.prog 149 #[.slice A l.length c,.func (.func 102) #[] #[.pointer (some ⟨Br,0,none⟩)]] w fun e w'=>∃z:Int,e = .returned (.int .i64 z)∧decide (0≤z)=(l.any fun y=>zdm y r)∧w.grownBy w' none:=by
 obtain ⟨q,j⟩:∃q,(l.any fun y=>zdm y r)=q:=⟨_,rfl⟩;rw [j];replace j:=Lib.hid j;have p:∀W:World,w.grownBy W none→W.cell? ⟨Br,0,none⟩=some (.int .i64 r):=fun W D=>D.cell hr yaf;have s:∀W:World,w.grownBy W none→Rd W B 2 A l.length c (ics l):=fun W D=>h.below (D.upto.mono hB);have L:∀f W,(callFunc 102 f).run Tryz.prog W = .ok (.enter 102 f) W:=enters_of Tryz.func102 yaa rfl;clear h hB hr;go_enter Tryz.func149,Tryz.ntmps149
 go_wp2_with fail
 go_loopw [8] (fun E M=>∃i:Nat,E = .int .i64 i∧i≤l.length∧w.grownBy M none∧Hid (∀y ∈ l.take i,zdm y r=false)) (fun E _=>l.length-(intOf E).toNat)
 case atStart=>exact ⟨0,rfl,yap _,⟨rfl,rfl,rfl,yaj _,fun _ _ _=>rfl⟩,Lib.hid fun y g=>by simp at g⟩
 case round =>
  obtain ⟨i,rfl,hi,u,d⟩:=hrel;by_cases F:i<l.length
  · have N:(i:Int)<(l.length:Int):=by omega
    obtain ⟨y,g⟩:∃y,l[i]? = some y:=⟨_,yal F⟩;obtain ⟨b,o,rfl,_,O,P⟩:=rd_iv (s wr u) g;have C:=has1_any y.1 y.2 r (p wr u);have x:∀Q,zdm y r=Q→(Q=true→q=true)∧(Q=false→Hid (∀y ∈ l.take (i + 1),zdm y r=false)):=fun Q n=>⟨fun e=>by
     rw [←j.out,ybM];exact ⟨y,yar g,by rw [n,e]⟩,fun e=>Lib.hid fun z k=>by
     rw [yaC,g,yaR] at k;rcases yaz.1 k with k | k
     · exact d.out z k
     · rw [yas] at k;rw [k,n,e]⟩
    obtain ⟨R,T⟩:=y;dsimp only at O P C;obtain ⟨Q,n⟩:∃Q,zdm (R,T) r=Q:=⟨_,rfl⟩;obtain ⟨G,H⟩:=x Q n;rw [n] at C;clear x n g d p s;cases Q with
    | true =>
     have I:=G rfl;subst I;clear G H j;go_wp2_with (go_at_call 102;refine C.mono ?_;rintro e U ⟨rfl,m⟩)
     go_ret
     exact ⟨i,rfl,by simp,u.trans m⟩
    | false =>
     have V:=H rfl;clear G H;go_wp2_with (go_at_call 102;refine C.mono ?_;rintro e U ⟨rfl,m⟩)
     exact ⟨⟨i + 1,by go_num,by omega,u.trans m,V⟩,by simp [intOf];omega⟩
  · obtain rfl:i=l.length:=by omega
    have N:¬(((l.length:Nat):Int)<(l.length:Int)):=by omega
    have J:q=false:=by
     have K:=d.out;rw [yaA] at K;rw [←j.out,List.any_eq_false];exact fun y g=>by rw [K y g];decide
    subst J;clear j d;go_wp2_with fail
    go_ret
    exact ⟨-1,rfl,by decide,u⟩
theorem contains14_any {w:World} (r:Int) (h:Rd w B 2 A l.length c (ics l)) (hB:B≤w.heap.size) (hl:l.length≤1000000) (hr:w.cell? ⟨Br,0,none⟩=some (.int .i64 r)) :
 Calls Tryz.prog 101 #[.slice A l.length c,.func (.func 102) #[] #[.pointer (some ⟨Br,0,none⟩)]] w fun e w'=>e = .returned (.bool (l.any fun y=>zdm y r))∧w.grownBy w' none:=by
 have d:=index14_any r h hB hl hr;obtain ⟨q,b⟩:∃q,(l.any fun y=>zdm y r)=q:=⟨_,rfl⟩;rw [b];simp only [b] at d;clear b hr h hl;generalize l.length=n at *
 go_enter Tryz.func101,Tryz.ntmps101
 go_wp2_with (go_at_call 149;refine d.mono ?_;rintro e j ⟨z,rfl,f,g⟩)
 go_ret
 exact ⟨by rw [←f];rfl,g⟩
end
section
open Go.RowKit
variable {w:World} {g n:Nat} {L:List Sp} {last:Int}
theorem zqd (w:World):Calls Tryz.prog 32 #[] w fun e w'=>∃g F,e = .returned (.pointer (some ⟨g,0,none⟩))∧Sk w' F g [] 0∧(∀b,F b→w.heap.size≤b)∧Below w.heap.size w w':=by
 have m:=MapR.made w;have d:=m.lt;have n:=Rk.new (w.alloc (.map #[] 0)) #[.map (some w.heap.size),.int .i64 0] 124;have f:MapR ((w.alloc (.map #[] 0)).alloc (.cells #[.map (some w.heap.size),.int .i64 0] 124)) 0 w.heap.size 0 (ofK []) (fun _=>nilS):=(m.same (Below.heap_alloc _ _ _ d) fun k j o=>by simp [Value.ownBlock] at o).base (yap _);have p:(w.alloc (.map #[] 0)).heap.size=w.heap.size + 1:=by simp
 rw [p] at n;have hb:=((Below.refl w.heap.size w).alloc (yaj _) (.map #[] 0)).alloc (zae (yaj _)) (.cells #[.map (some w.heap.size),.int .i64 0] 124);have q:=@run_makeMap Tryz.prog;go_enter Tryz.func32,Tryz.ntmps32
 go_wp2
 go_ret
 refine ⟨_,_,rfl,⟨w.heap.size,fun _=>nilS,fun _=>Iff.rfl,n,f,fun _ h=>by cases h⟩,?_,hb⟩;rintro j (rfl | rfl | ⟨k,hk⟩)
 · omega
 · exact yaj _
 · simp [Value.ownBlock] at hk
theorem map_some (b:Nat) (w:World):(binOp .eql 122 (.map (some b)) (.map none)).run Tryz.prog w = .ok (.bool false) w:=by
 kernel_rfl
theorem MapR.read {B b:Nat} {G:ByteArray→List Iv} {V:ByteArray→Value} (h:MapR w B b n G V) (k:ByteArray):∃A c,V k = .slice A (G k).length c∧Rd w w.heap.size 2 A (G k).length c (ics (G k)):=Rd.own (h.row k)
theorem Rk.ne_map {B b:Nat} {G:ByteArray→List Iv} {V:ByteArray→Value} {cs:Array Value} {t:TypeId} (h:Rk w g cs t) (hM:MapR w B b n G V):g≠b:=fun e=>by
 obtain ⟨D,⟨f,d,hb,_⟩,_⟩:=hM.own;rw [←e,show w.heap[g]? = _ from h] at hb;cases hb
theorem zjy:124≠163:=by decide
def Turned (F:Nat→Prop) (g:Nat) (L:List Sp) (last r:Int) (o:Option (List Sp)) (w:World) (e:Ending) (w':World):Prop :=
 ∃F',e = .returned (.bool o.isSome)∧Sk w' F' g (o.getD L) (if o.isSome then r else last)∧Own14 F F' w w'
theorem Turned.no {F:Nat→Prop} {r:Int} (h:Sk w F g L last):Turned F g L last r none w (.returned (.bool false)) w:=⟨F,rfl,h,(OnlyF.refl F w).own fun _ h=>.inl h⟩
theorem put14_any {F:Nat→Prop} (k:ByteArray) (r:Int) (h:Sk w F g L last) (hf:FineS L last) (hL:L.length≤100000) (hk:k.size≤1000000) :
 Calls Tryz.prog 71 #[.pointer (some ⟨g,0,none⟩),.string k,.int .i64 r] w (Turned F g L last r (zgm L last k r) w):=by
 have n:=Turned.no (r:=r) h;obtain ⟨b,V,o,p,f,E⟩:=h;obtain ⟨g0,g1⟩:=p.two;have m:k.size≤maxLen:=by simp only [maxLen];omega
 have s:=f.look m w rfl;obtain ⟨A,c,G,R⟩:=f.read k;have Z:=zjb L k;have H:=isOpen_any R yab;have d:=putP_row hf k r;by_cases c1:r<1
 · rw [d,yan (.inl c1)];clear d s H R f p;go_enter Tryz.func71,Tryz.ntmps71
   go_wp2_with fail
   go_ret
   exact n
 · by_cases c2:r<last
   · rw [d,yan (.inr (.inl c2))];clear d s H R f p;go_enter Tryz.func71,Tryz.ntmps71
     go_wp2_with fail
     go_ret
     exact n
   · obtain ⟨q,X⟩:∃q,zje (ofK L k)=q:=⟨_,rfl⟩;rw [X] at H d;rw [G] at s;cases q with
     | true =>
      rw [d,yan (.inr (.inr rfl))];clear d R f p X;go_enter Tryz.func71,Tryz.ntmps71
      go_wp2_with (go_at_call 111;refine H.mono ?_;rintro e w1 ⟨rfl,rfl⟩)
      go_ret
      exact n
     | false =>
      rw [d,yak (by rintro (z | z | z) <;> first | exact c1 z | exact c2 z | cases z)];clear d n X;have y0:=Rk.new w.drew #[.int .i64 r,.int .i64 0] 163;have u:MapR (w.drew.alloc (.cells #[.int .i64 r,.int .i64 0] 163)) 0 b L.length (ofK L) V:=f.same (Below.heap_alloc _ _ _ f.lt) fun c j I=>Below.heap_alloc _ _ _ (zfY (f.row c) I).2;obtain ⟨gg,cap,w6,w7,V',r6,r7,y,B,C,J⟩:=u.push m (r,0) yab yab (yap _) ⟨w.heap.size,0,none⟩ (cells_at _ #[.int .i64 r,.int .i64 0] _ _ rfl) 164;have T:=(p.same (w':=w.drew) rfl).alloc (.cells #[.int .i64 r,.int .i64 0] 163);have U:Rk w6 g #[.map (some b),.int .i64 last] 124:=T.same (B.block g T.lt fun e=>T.apart (u.row k) zjy e.symm);have K:=p.ne_map f;have M:Rk w7 g #[.map (some b),.int .i64 last] 124:=U.same (C.block g U.lt fun e=>K (by cases e;rfl));have p6:=U.two.1;have p7:=M.two;have f7:=M.fz 1;obtain ⟨q7,_⟩:=p7;have hO:OnlyF F w w7:=((((OnlyF.refl F w).drew.grown (zba _ _) fun r e=>by cases e).grown B fun j e=>.inl ((o j).2 (.inr (.inr ⟨k,e⟩)))).grown C fun j e=>.inl ((o j).2 (.inr (.inl (by cases e;rfl)))));have N:Turned F g L last r (some (L ++ [(k,r,0)])) w (.returned (.bool true)) (w7.setCell ⟨g,1,none⟩ (.int .i64 r)):=by
       have x8:=M.set 1 (.int .i64 r);have Y:MapR (w7.setCell ⟨g,1,none⟩ (.int .i64 r)) 0 b (L ++ [((k,r,0):Sp)]).length (ofK (L ++ [(k,r,0)])) V':=by
        rw [yam];refine (y.same (Below.heap_setCell _ _ _ _ (Ne.symm K)) fun c j I=>Below.heap_setCell _ _ _ _ fun e=>M.apart (y.row c) zjy (by rw [I];exact congrArg some e)).congr fun c=>?_;rw [ofK_put];unfold pushG;by_cases e:c=k
        · subst e;simp
        · rw [yak e,yak (Ne.symm e)]
       refine ⟨fun j=>j=g∨j=b∨∃c,(V' c).ownBlock=some j,rfl,⟨b,V',fun _=>Iff.rfl,x8,Y,fun x D=>?_⟩,(hO.set (.inl ((o g).2 (.inl rfl))) _).own fun j I=>?_⟩
       · rcases yaz.1 D with D | D
         · exact E x D
         · rw [yas] at D;subst D;exact hk
       · rcases I with rfl | rfl | ⟨c,hc⟩
         · exact .inl ((o _).2 (.inl rfl))
         · exact .inl ((o _).2 (.inr (.inl rfl)))
         · rcases J c j hc with q | ⟨_,rfl⟩
           · exact .inl ((o _).2 (.inr (.inr ⟨c,q⟩)))
           · exact .inr yaf
      have O:=f.look m w.drew rfl;have P:=f.look m (w.drew.alloc (.cells #[.int .i64 r,.int .i64 0] 163)) (Below.heap_alloc _ _ _ f.lt);have Q:=f.look m (w.alloc (.cells #[.int .i64 r,.int .i64 0] 163)).drew (Below.heap_alloc _ _ _ f.lt);rw [G] at r6 O P Q;go_enter Tryz.func71,Tryz.ntmps71
      clear y J hO T U M u B C f p o E;have a1:=map_some b;go_upto_region 5 with (go_at_call 111;refine H.mono ?_;rintro e w1 ⟨rfl,rfl⟩)
      go_region_held3 (fun w'=>w'.cell? ⟨g,0,none⟩=some (.map (some b)))
       (first
        | go_keep
        | fail)
       (first
        | (refine zhu yae _ _ _ yae _ _ _ yae yae r6 ?_)
        | (refine zhv yae _ _ _ _ yae _ _ _ yae yae yae r7 ?_)
        | fail)
      go_wp2_with fail
      all_goals (go_ret;exact N)
theorem zmR {base gg cap:Nat} {l:List Iv} {f t r:Int} (h:w.ownsRow base 163 2 (.slice (some ⟨gg,0,none⟩) n cap) n (ics (l ++ [(f,t)]))) (hn:n=l.length + 1) :
 w.cell? ⟨gg,l.length * 2,none⟩=some (.int .i64 f)∧w.cell? ⟨gg,l.length * 2 + 1,none⟩=some (.int .i64 t)∧w.frozen? ⟨gg,l.length * 2 + 1,none⟩=false∧(w.setCell ⟨gg,l.length * 2 + 1,none⟩ (.int .i64 r)).ownsRow base 163 2 (.slice (some ⟨gg,0,none⟩) n cap) n (ics (l ++ [(f,r)])):=by
 have b:∀t:Int,(ics (l ++ [(f,t)])).length=n * 2:=fun t=>by rw [ziT,yam,hn];rfl
 have d:(l ++ [((f,t):Iv)])[l.length]? = some (f,t):=by rw [yaF (yaj _),yct];rfl
 obtain ⟨u,x⟩:=zpr d;have q:=h.cells (g:=gg) rfl;refine ⟨by simpa [Addr.add_lit] using q _ _ u,by simpa [Addr.add_lit] using q _ _ x,?_,?_⟩
 · rcases h.2 with ⟨e,_⟩ | ⟨g,s,j,e,_,k,_⟩
   · cases e
   · injection e with e _ _
     injection e with e
     injection e with e _ _
     subst e;exact Rk.fz k _
 · refine ⟨b r,?_⟩;rcases h.2 with ⟨e,_⟩ | ⟨g,s,j,e,hb,k,m,o,p,y⟩
   · cases e
   · have z:=e;injection e with e _ A
     injection e with e
     injection e with e _ _
     subst e;refine .inr ⟨gg,s,j.setIfInBounds (l.length * 2 + 1) (.int .i64 r),z,hb,Rk.set k _ _,m,o,by simpa using p,?_⟩;rw [ycH,List.take_set,y,zlx,zlx,List.set_append_right _ _ (by rw [ziT];omega),ziT,Nat.add_sub_cancel_left,ziU,ziU];rfl
theorem drop14_any {F:Nat→Prop} (k:ByteArray) (r:Int) (h:Sk w F g L last) (hf:FineS L last) (hL:L.length≤100000) (hk:k.size≤1000000) :
 Calls Tryz.prog 72 #[.pointer (some ⟨g,0,none⟩),.string k,.int .i64 r] w (Turned F g L last r (zbX L last k r) w):=by
 have B:=Turned.no (r:=r) h;obtain ⟨b,V,hF,C,s,M⟩:=h;obtain ⟨g0,g1⟩:=C.two;have a2:k.size≤maxLen:=by simp only [maxLen];omega
 have y:=s.look a2 w rfl;obtain ⟨A,c,o,N⟩:=s.read k;have a8:=zjb L k;have E:=isOpen_any N yab;cases drop_is hf k r with
 | no I O =>
  rw [I];rw [o] at y;by_cases c2:r<last
  · clear y E N s C O;go_enter Tryz.func72,Tryz.ntmps72
    go_wp2_with fail
    go_ret
    exact B
  · have hq:zje (ofK L k)=false:=O.resolve_left c2;rw [hq] at E;clear N s C O hq;go_enter Tryz.func72,Tryz.ntmps72
    go_wp2_with (go_at_call 111;refine E.mono ?_;rintro e w1 ⟨rfl,rfl⟩)
    go_ret
    exact B
 | late l f I hl n O =>
  rw [I];have d:=s.row k;have G:(ofK L k).length=l.length + 1:=by rw [n];simp
  rw [n,zd1,yaD rfl] at E;rw [n] at d;obtain ⟨gg,cap,z,_⟩:=d.form yaf;rw [o] at z;injection z with P e2 e3
  subst P;subst e3;rw [o] at y d;rw [G] at y;simp only [yam,ybu] at E d;rw [G] at d;obtain ⟨c0,c1,_⟩:=zmR (r:=r) d rfl;have J:((l.length + 1:Nat):Int)-1=(l.length:Int):=by omega
  have a6:l.length<l.length + 1:=by omega
  have a7:l.length≤100000:=by omega
  clear N s C I n o d G;generalize K:l.length + 1=m at *
  generalize l.length=j at *
  clear K;go_enter Tryz.func72,Tryz.ntmps72
  go_wp2_with (go_at_call 111;refine E.mono ?_;rintro e w1 ⟨rfl,rfl⟩)
  go_ret
  exact B
 | yes l f L' I hl n O u ho Q K =>
  rw [I];have d:=s.row k;have G:(ofK L k).length=l.length + 1:=by rw [n];simp
  have R:(ofK L' k).length=l.length + 1:=by rw [u];simp
  rw [n,zd1,yaD rfl] at E;rw [n] at d;obtain ⟨gg,cap,z,_⟩:=d.form yaf;have T:=z;rw [o] at z;injection z with P e2 e3
  subst P;subst e3;rw [o] at y d;rw [G] at y;simp only [yam,ybu] at E d;rw [G] at d;obtain ⟨c0,c1,fz,H⟩:=zmR (r:=r) d rfl;have J:((l.length + 1:Nat):Int)-1=(l.length:Int):=by omega
  have a6:l.length<l.length + 1:=by omega
  have a7:l.length≤100000:=by omega
  have p:(V k).ownBlock=some gg:=by rw [o];rfl
  have U:=s.ne p;have X:gg≠g:=fun e=>C.apart (s.row k) zjy (by rw [p,e]);have Y:=C.ne_map s;have xa:=C.other (a:=⟨gg,l.length * 2 + 1,none⟩) (Ne.symm X) (.int .i64 r);obtain ⟨p0,p1⟩:=xa.two;have pf:=xa.fz 1;have xb:=xa.set 1 (.int .i64 r);have Z:MapR ((w.setCell ⟨gg,l.length * 2 + 1,none⟩ (.int .i64 r)).setCell ⟨g,1,none⟩ (.int .i64 r)) 0 b L'.length (ofK L') V:=by
   obtain ⟨D,d1,d2,d3⟩:=s.own;have P:((w.setCell ⟨gg,l.length * 2 + 1,none⟩ (.int .i64 r)).setCell ⟨g,1,none⟩ (.int .i64 r)).heap[b]? = w.heap[b]?:=(Below.heap_setCell _ _ _ _ (Ne.symm Y)).trans (Below.heap_setCell _ _ _ _ (Ne.symm U));refine ⟨⟨D,Q ▸ own_map d1 P,d2,fun c hc=>?_⟩,fun c=>?_,s.two⟩
   · rw [d3 c hc];by_cases e:k=c
     · subst e;rw [n,u];cases l <;> rfl
     · rw [ho c e]
   · by_cases e:k=c
     · subst e;rw [R,u,o,G];exact zau H fun j hj=>Below.heap_setCell _ _ _ _ fun e=>by
        simp only [Value.ownBlock,yaT] at hj;exact X (hj.trans e)
     · rw [ho c e];exact zau (s.row c) fun j hj=>(Below.heap_setCell _ _ _ _ fun q=>C.apart (s.row c) zjy (by rw [hj];exact congrArg some q)).trans (Below.heap_setCell _ _ _ _ fun q=>e (s.two k c gg p (by rw [hj];exact congrArg some q)))
  have a1:Turned F g L last r (some L') w (.returned (.bool true)) ((w.setCell ⟨gg,l.length * 2 + 1,none⟩ (.int .i64 r)).setCell ⟨g,1,none⟩ (.int .i64 r)) :=
   ⟨F,rfl,⟨b,V,hF,xb,Z,fun x hx=>by
    rcases K x hx with e | e
    · rw [e];exact hk
    · exact M x e⟩,(((OnlyF.refl F w).set (.inl ((hF gg).2 (.inr (.inr ⟨k,p⟩)))) _).set (.inl ((hF g).2 (.inl rfl))) _).own fun _ h=>.inl h⟩
  clear N s C I n u o T d G R H Z xa xb K ho Q p U Y hF M B;generalize K:l.length + 1=m at *
  generalize l.length=j at *
  clear K;go_enter Tryz.func72,Tryz.ntmps72
  go_wp2_with (go_at_call 111;refine E.mono ?_;rintro e w1 ⟨rfl,rfl⟩)
  go_ret
  exact a1
theorem has14_any {F:Nat→Prop} (k:ByteArray) (r:Int) (h:Sk w F g L last) (hL:L.length≤100000) (hk:k.size≤maxLen) :
 Calls Tryz.prog 62 #[.pointer (some ⟨g,0,none⟩),.string k,.int .i64 r] w fun e w'=>e = .returned (.bool (zdC L k r))∧Below w.heap.size w w':=by
 obtain ⟨b,V,D,p,j,B⟩:=h;have C:=p.alloc (.cells #[.int .i64 r] 3);have n:=j.look hk (w.alloc (.cells #[.int .i64 r] 3)) (Below.heap_alloc _ _ _ j.lt);obtain ⟨A,c,d,s⟩:=j.read k;have u:=zjb L k;have x:=contains14_any r (s.up (zaM w (.cells #[.int .i64 r] 3))) (yaj _) yab (Rk.new w #[.int .i64 r] 3).one;have z:(ofK L k).any (fun y=>zdm y r)=zdC L k r:=(hasP_row L k r).symm;rw [z] at x;rw [d] at n;obtain ⟨g0,E⟩:=C.two;have f:=zaM w (.cells #[.int .i64 r] 3);generalize zdC L k r=q at *
 clear z s j d p;generalize (ofK L k).length=m at *
 go_enter Tryz.func62,Tryz.ntmps62
 go_wp2_with (go_at_call 101;refine x.mono ?_;rintro e G ⟨rfl,o⟩)
 go_ret
 exact ⟨rfl,zad f f.size o.upto⟩
end
end Go.Proofs.YtmblgnddgmfkhaaGreat
