/- BatchRoom, walked. Conditions: none. -/
import Derived.Test.YtmblgnddgmfkhaaGreatK44
import Derived.Test.YtmblgnddgmfkhaaGreatKxRmP15
set_option maxRecDepth 100000
set_option maxHeartbeats 4000000
namespace Go.Proofs.YtmblgnddgmfkhaaGreat
open Go.RowKit
theorem wf_u8r {z:Int} (h:(Lit.int .u8 z).wf=true):0≤z∧z≤255:=by
 simpa [Lit.wf,IntKind.min,IntKind.max,IntKind.signed,IntKind.bits] using h
theorem batchRoom_walk (n q:Int) (w:World) (hn:(Lit.int .u8 n).wf=true) (hq:(Lit.int .u8 q).wf=true) :
 Calls Tryz.prog 7 #[.int .u8 n,.int .u8 q] w fun e w'=>e = .returned (.bool true)∧Below w.heap.size w w':=by
 obtain ⟨f,hG⟩:=zjp;obtain ⟨hc,Z⟩:=exO_f hG;rw [←zbh f] at hc Z;rw [←zbz f] at Z;obtain ⟨ay,az⟩:=wf_u8r hn;obtain ⟨b0,bb⟩:=wf_u8r hq;obtain ⟨N,rfl⟩:∃N:Nat,n=N:=⟨n.toNat,by omega⟩;obtain ⟨Q,rfl⟩:∃Q:Nat,q=Q:=⟨q.toNat,by omega⟩;clear hn hq ay b0;have eN:IntKind.i64.wrap (N:Int)=(N:Int):=IntWalk.i64_in _ ⟨by omega,by omega⟩;have eQ:IntKind.i64.wrap (Q:Int)=(Q:Int):=IntWalk.i64_in _ ⟨by omega,by omega⟩;go_enter Tryz.func7,Tryz.ntmps7
 have ka:=awake15_any zcC w;go_upto_region 4 with (go_at_call 9;refine ka.mono ?_;rintro e w1 ⟨rfl,o⟩)
 obtain ⟨m,e7,hm⟩:∃m:Nat,(Q:Int) % 7=(m:Int)∧m<7:=⟨Q % 7,by omega,by omega⟩;obtain ⟨k,ac,hk⟩:∃k:Nat,(N:Int) % 70=(k:Int)∧k<70:=⟨N % 70,by omega,by omega⟩;have kn:=in_new (f:=f) (q:=m) yab w1;go_upto_region 5 with (go_at_call 11;refine kn.mono ?_;rintro e w2 ⟨g,rfl,K,F⟩)
 go_upto_region 6 with (fail)
 have U:=zaI w2 (.cells #[.string ⟨#[117,115,101,114]⟩,.string ⟨#[97]⟩,.string ⟨#[]⟩] 31);have y:=Rk.new w2 #[.string ⟨#[117,115,101,114]⟩,.string ⟨#[97]⟩,.string ⟨#[]⟩] 31;have bc:=F.size;have G:=o.size;have hI3:In15 f (fun b=>b<w1.heap.size∨b=w2.heap.size) _ g (zbQ m) 0 m:=K.more U (fun b q=>by
  rcases q with q | rfl
  · exact ⟨.inl q,by have:=U.size;omega⟩
  · exact ⟨.inr (yaj _),y.lt⟩)
 replace o:=zac (zac o o.size F) yab U;generalize w2.alloc (.cells #[.string ⟨#[117,115,101,114]⟩,.string ⟨#[97]⟩,.string ⟨#[]⟩] 31)=w3 at *
 generalize w2.heap.size=D at *
 clear ka kn K F U;obtain ⟨y0,y1,y2⟩:=y.c3y;have yl:=y.lt;obtain ⟨s1,z,a1⟩:=(RoomS.begin ((p15 f).comp own15).2.2 (q:=m) yab).more hc (⟨#[117,115,101,114]⟩,⟨#[97]⟩,⟨#[]⟩);rw [yan (by decide)] at z a1;have L:∀(s:Sto Tb Nd15) (j:Nat),RoomS ((p15 f).comp own15).2.2 m s j→∃s',zaC (p15 f) s (⟨#[117,115,101,114]⟩,⟨#[97]⟩,⟨#[]⟩) own15=(s',if j<63 then 0 else 42)∧RoomS ((p15 f).comp own15).2.2 m s' (if j<63 then j + 1 else j):=fun s j h=>h.more hc _;clear hc;generalize ((p15 f).comp own15).2.2=T at *
 have kd:=hI3.define hG (⟨#[117,115,101,114]⟩,⟨#[97]⟩,⟨#[]⟩) own15 yac yac yac z;go_wp2_with fail
 refine kd.mono ?_;rintro e w4 ⟨rfl,ad,a2⟩;clear kd z;replace y:=y.same (a2.old D (.inr rfl));replace o:=o.trans (a2.below fun b q=>.inl (yas q G));clear hI3 y0 y1 y2 yl;go_wp2_with fail
 rw [ac];clear ac eN az;go_loopw [9] (fun vi wx=>∃(i:Nat) (s:Sto Tb Nd15),vi = .int .i64 i∧1≤i∧i≤max k 1∧RoomS T m s (min i 63)∧In15 f (fun b=>b<w1.heap.size∨b=D) wx g s i m∧Rk wx D #[.string ⟨#[117,115,101,114]⟩,.string ⟨#[97]⟩,.string ⟨#[]⟩] 31∧Below w.heap.size w wx) (fun vi _=>k-(intOf vi).toNat)
 case atStart=>exact ⟨1,s1,rfl,yaj _,Nat.le_max_right _ _,a1,ad,y,o⟩
 case round =>
  clear a1 ad y o a2 s1;obtain ⟨i,s,rfl,bd,hi,hR,K,y,o⟩:=hrel;obtain ⟨y0,y1,y2⟩:=y.c3y;have yl:=y.lt;by_cases bf:i<k
  · have b1:(i:Int)<(k:Int):=by omega
    obtain ⟨Y,z,H⟩:=L _ _ hR;by_cases bg:i<63
    · have b2:(i:Int)<63:=by omega
      rw [yan (by omega)] at z H;rw [show min i 63 + 1=min (i + 1) 63 by omega] at H;have kd:=K.define hG (⟨#[117,115,101,114]⟩,⟨#[97]⟩,⟨#[]⟩) own15 yac yac yab z;go_wp2_with fail
      refine kd.mono ?_;rintro e w5 ⟨rfl,C,M⟩;go_wp2_with fail
      exact ⟨⟨i + 1,Y,by go_num,by omega,by omega,H,C,y.same (M.old D (.inr rfl)),o.trans (M.below fun b q=>.inl (yas q G))⟩,by simp [intOf];omega⟩
    · have b2:¬(i:Int)<63:=by omega
      rw [yak (by omega)] at z H;rw [show min i 63=min (i + 1) 63 by omega] at H;have kd:=K.define hG (⟨#[117,115,101,114]⟩,⟨#[97]⟩,⟨#[]⟩) own15 yac yac yab z;go_wp2_with fail
      refine kd.mono ?_;rintro e w5 ⟨rfl,C,M⟩;go_wp2_with fail
      exact ⟨⟨i + 1,Y,by go_num,by omega,by omega,H,C,y.same (M.old D (.inr rfl)),o.trans (M.below fun b q=>.inl (yas q G))⟩,by simp [intOf];omega⟩
  · have b1:¬(i:Int)<(k:Int):=by omega
    obtain rfl:i=max k 1:=by omega
    have A:revB s=(min (max k 1) 63:Nat):=by
     have h1:=hR.len;have h2:=hR.floor;unfold revB;omega
    have b3:0<min (max k 1) 63:=by omega
    have hF:=FullS.begin hR b3;have a6:(zbq s (revB s)).2=0:=by
     unfold zbq;rw [yan (zay.2 ⟨by have:=hR.floor;rw [this,A];omega,ybf _⟩)]
    obtain ⟨⟨Y,z2⟩,z⟩:∃E,zbq s (revB s)=E:=⟨_,rfl⟩;rw [z] at hF a6;dsimp only at hF a6;subst a6;have kr:=K.sto.rev;rw [A] at kr;go_wp2_with fail
    refine kr.mono ?_;rintro e w5 ⟨rfl,I⟩;have C:=K.up I;replace A:=Lib.hid A;have kr:=C.sto.rev;go_wp2_with fail
    with_reducible refine kr.mono ?_
    rintro e w6 ⟨rfl,V⟩;have ae:=C.up V;have kt:=ae.trim _ z;go_wp2_with fail
    with_reducible refine kt.mono ?_
    rintro e w7 ⟨rfl,af,a7⟩;have ag:=((y.same (I.block D y.lt)).same (V.block D (by have:=I.size;omega))).same (a7.old D (.inr rfl));have ah:=(zac (zac o o.size I) (by have:=o.size;have:=I.size;omega) V).trans (a7.below fun b q=>.inl (yas q G));clear kr kt K C ae y o I V a7 hR z L y0 y1 y2 yl;generalize hj7:max k 1 + 1=j7 at *
    have ba:j7≤100:=by omega
    go_wp2_with fail
    generalize revB s=rv at *
    clear hj7;go_loopw [11] (fun vi wx=>∃(i:Nat) (s:Sto Tb Nd15),vi = .int .i64 i∧i≤9∧FullS T m s i∧In15 f (fun b=>b<w1.heap.size∨b=D) wx g s (j7 + i) m∧Rk wx D #[.string ⟨#[117,115,101,114]⟩,.string ⟨#[97]⟩,.string ⟨#[]⟩] 31∧Below w.heap.size w wx) (fun vi _=>9-(intOf vi).toNat)
    case atStart=>exact ⟨0,Y,rfl,yao _,hF,af,ag,ah⟩
    case round =>
     clear hF af ag ah A Y;obtain ⟨i,s,rfl,hi,hF,K,y,o⟩:=hrel;obtain ⟨y0,y1,y2⟩:=y.c3y;have yl:=y.lt;by_cases ai:i<9
     · have di:(i:Int)<9:=by omega
       have b4:IntKind.i64.wrap (97 + (i:Int))=((97 + i:Nat):Int):=by rw [show (97 + (i:Int))=((97 + i:Nat):Int) by omega];exact IntWalk.i64_in _ ⟨by omega,by omega⟩
       have aj:(97 + (i:Int)) % 256=97 + (i:Int):=by omega
       have ak:(Value.int .u8 (97 + (i:Int))) = .int .u8 ((UInt8.ofNat (97 + i)).toNat:Int):=by
        rw [UInt8.toNat_ofNat'];congr 1
        omega
       have hx:Rd (wr.alloc (.cells #[.int .u8 (97 + (i:Int))] 5)) (wr.alloc (.cells #[.int .u8 (97 + (i:Int))] 5)).heap.size 1 (some ⟨wr.heap.size,0,none⟩) 1 1 [.int .u8 (97 + (i:Int))]:=Rd.litX wr _ _ 1 1 _ rfl rfl yac;obtain ⟨z8,a8⟩:∃z8,UInt8.ofNat (97 + i)=z8:=⟨_,rfl⟩;have aa:tupW i=((⟨#[100,111,99]⟩,⟨#[z8]⟩,⟨#[111,119,110]⟩),(⟨#[117,115,101,114]⟩,⟨#[97]⟩,⟨#[]⟩)):=by unfold tupW;rw [a8]
       have al:=Rd.conv (l:=[UInt8.ofNat (97 + i)]) (show Rd _ _ 1 _ _ _ (bv [UInt8.ofNat (97 + i)]) by rw [show bv [UInt8.ofNat (97 + i)]=[.int .u8 ((UInt8.ofNat (97 + i)).toNat:Int)] from rfl,←ak];exact hx) 24 9 5 Tryz.underlying24 Tryz.underlying5 Tryz.underlying9;rw [show strOf [UInt8.ofNat (97 + i)]=⟨#[z8]⟩ by rw [←a8];rfl] at al;clear ak hx a8;have J:=zaI wr (.cells #[.int .u8 (97 + (i:Int))] 5);have b5:=zbd y0 J;have b6:=zbd y1 J;have b7:=zbd y2 J;go_upto_region 21 with (fail)
       have F:=zaI (wr.alloc (.cells #[.int .u8 (97 + (i:Int))] 5)) (.cells #[.string ⟨#[100,111,99]⟩,.string ⟨#[z8]⟩,.string ⟨#[111,119,110]⟩,.string ⟨#[117,115,101,114]⟩,.string ⟨#[97]⟩,.string ⟨#[]⟩] 51);have ab:=Rk.new (wr.alloc (.cells #[.int .u8 (97 + (i:Int))] 5)) #[.string ⟨#[100,111,99]⟩,.string ⟨#[z8]⟩,.string ⟨#[111,119,110]⟩,.string ⟨#[117,115,101,114]⟩,.string ⟨#[97]⟩,.string ⟨#[]⟩] 51;rw [show (wr.alloc (.cells #[.int .u8 (97 + (i:Int))] 5)).heap.size=wr.heap.size + 1 by simp] at ab;have O:=zac J J.size F;generalize (wr.alloc (.cells #[.int .u8 (97 + (i:Int))] 5)).alloc (.cells #[.string ⟨#[100,111,99]⟩,.string ⟨#[z8]⟩,.string ⟨#[111,119,110]⟩,.string ⟨#[117,115,101,114]⟩,.string ⟨#[97]⟩,.string ⟨#[]⟩] 51)=w8 at *
       generalize wr.heap.size + 1=gt at *
       have X:=y.same (O.block D y.lt);have b8:=K.up O;have am:=zac o o.size O;clear al J F y0 y1 y2 yl b5 b6 b7 y K o b4 aj;obtain ⟨y0,y1,y2⟩:=X.c3y;have yl:=X.lt;obtain ⟨c0,c1,c2,c3,c4,c5⟩:=ab.c6t;have cl:=ab.lt;have P:=zaI w8 (.cells #[.string ⟨#[100,111,99]⟩,.string ⟨#[z8]⟩,.string ⟨#[111,119,110]⟩,.string ⟨#[117,115,101,114]⟩,.string ⟨#[97]⟩,.string ⟨#[]⟩,.bool true] 54);have an:=b8.up P;have ao:=X.same (P.block D X.lt);have aq:=zac am am.size P;obtain ⟨ar,au⟩:=tupW_few i ai;rw [aa] at ar au;have av:(⟨0,(⟨#[117,115,101,114]⟩,⟨#[97]⟩,⟨#[]⟩),none,0,[],some ⟨w8.heap.size,0,none⟩,1,[(((⟨#[100,111,99]⟩,⟨#[z8]⟩,⟨#[111,119,110]⟩),(⟨#[117,115,101,114]⟩,⟨#[97]⟩,⟨#[]⟩)),true)],⟨#[]⟩,0⟩:Ac15).ok 100 (w8.alloc (.cells #[.string ⟨#[100,111,99]⟩,.string ⟨#[z8]⟩,.string ⟨#[111,119,110]⟩,.string ⟨#[117,115,101,114]⟩,.string ⟨#[97]⟩,.string ⟨#[]⟩,.bool true] 54)):=⟨(by dsimp only;decide),(by dsimp only;decide),(by dsimp only;decide),(by dsimp only;decide),Rd.none_ _ _ _,Rd.litX w8 _ _ 1 7 _ rfl rfl yac,fun _ q=>absurd q yaf,fun u q x hx=>by rw [yav.1 q] at hx;exact au x hx⟩;have aw:fewA (⟨0,(⟨#[117,115,101,114]⟩,⟨#[97]⟩,⟨#[]⟩),none,0,[],some ⟨w8.heap.size,0,none⟩,1,[(((⟨#[100,111,99]⟩,⟨#[z8]⟩,⟨#[111,119,110]⟩),(⟨#[117,115,101,114]⟩,⟨#[97]⟩,⟨#[]⟩)),true)],⟨#[]⟩,0⟩:Ac15)=true:=zdt.2 ⟨(by dsimp only;decide),yaf,(by dsimp only;decide),(by dsimp only;decide),rfl,by
        show (decide ((za4 ((⟨#[100,111,99]⟩,⟨#[z8]⟩,⟨#[111,119,110]⟩),(⟨#[117,115,101,114]⟩,⟨#[97]⟩,⟨#[]⟩))).size≤400) && true)=true;rw [yaB ar];rfl⟩
       obtain ⟨Y,z,ax⟩:=hF.more Z ai (⟨#[117,115,101,114]⟩,⟨#[97]⟩,⟨#[]⟩);rw [aa] at z;clear aa;by_cases bh:i<m
       · have dm:(i:Int)<(m:Int):=by omega
         rw [yan (by omega)] at z;have kw:=an.write av aw yab z;dsimp only at kw;simp only [yaE,yat,yaI] at kw;go_wp2_with fail
         refine kw.mono ?_;rintro e w9 ⟨rfl,R,B⟩;go_wp2_with fail
         exact ⟨⟨i + 1,Y,by go_num,by omega,ax,R,ao.same (B.old D (.inr rfl)),aq.trans (B.below fun b q=>.inl (yas q G))⟩,by simp [intOf];omega⟩
       · have dm:¬(i:Int)<(m:Int):=by omega
         rw [yak (by omega)] at z;have kw:=an.write av aw yab z;dsimp only at kw;simp only [yaE,yat,yaI] at kw;go_wp2_with fail
         refine kw.mono ?_;rintro e w9 ⟨rfl,R,B⟩;go_wp2_with fail
         exact ⟨⟨i + 1,Y,by go_num,by omega,ax,R,ao.same (B.old D (.inr rfl)),aq.trans (B.below fun b q=>.inl (yas q G))⟩,by simp [intOf];omega⟩
     · have di:¬(i:Int)<9:=by omega
       have kl:=K.sto.live zcC;rw [hF.keys] at kl;go_wp2_with fail
       refine kl.mono ?_;rintro e w9 ⟨rfl,P⟩;have b9:((min i m:Nat):Int)=(m:Int):=by omega
       have bi:(((min i m:Nat):Int) == (m:Int))=true:=by rw [b9];simp
       go_wp2_with fail
       go_ret
       exact ⟨rfl,zac o o.size P⟩
end Go.Proofs.YtmblgnddgmfkhaaGreat
