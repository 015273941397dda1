import Derived.Test.YtmblgnddgmfkhaaGreatK39
set_option maxRecDepth 100000
set_option maxHeartbeats 4000000
namespace Go.Proofs.YtmblgnddgmfkhaaGreat
section
open Go.RowKit
variable {s:Sto Tb Nd15} {v:Rv Tb Nd15}
structure ShortR (st:RSt):Prop where
 a:ShortA st
 by1:(zdR st).1.1.size≤1000000
 by2:(zdR st).1.2.1.size≤1000000
 by3:(zdR st).1.2.2.size≤1000000
section
variable {f:CoF}
def ShortN (f:CoF):Nat→Sto Tb Nd15→RSt→Prop
 | 0,_,_=>True
 | n + 1,s,st=>ShortR st∧((zbk (p15 f) s st).1=true→ShortN f n (zbk (p15 f) s st).2.1 (zbk (p15 f) s st).2.2)
structure ShortU (f:CoF) (q:Int) (b:List UInt8):Prop where
 tx:(zaX (zbn (zbn (b,0)).2).2).1.length≤1000000
 ls:∀t ∈ (zcA (zaX (zbn (zbn (b,0)).2).2).2 100000).1,t.length≤100000
 mo:∀s,zda (p15 f) (zbQ q:Sto Tb Nd15).quota ((zbn (b,0)).1:Int) (strOf (zaX (zbn (zbn (b,0)).2).2).1) ((zcA (zaX (zbn (zbn (b,0)).2).2).2 100000).1.map strOf)=some s →
  ShortN f ((zbn (zbn (b,0)).2).1-(zbn (b,0)).1) s (zcA (zaX (zbn (zbn (b,0)).2).2).2 100000).2
theorem SzB.next (h:SzB s) (hv:SzV v):SzB (zaV s v):=fun x b=>by
 rcases yaA.1 b with b | b
 · exact h x b
 · rw [yav.1 b];exact hv
theorem SzB.define (hG:CompG f) (h:SzB s) (n:Nd15) (x:ByteArray) (h1:n.1.size≤1000000) (h2:n.2.1.size≤1000000) (h3:n.2.2.size≤1000000):SzB (zaC (p15 f) s n x).1:=by
 unfold zaC;split
 · split
   · split
     · exact h
     · exact h.next ⟨by rw [zbh];exact hG.short x,h1,h2,h3,yao _,fun k hk=>by cases hk⟩
   · exact h
 · exact h
theorem SzB.write (h:SzB s) (hs:OkB (p15 f) s) (n:Nd15) (q c:List (TuP × Bool)) (h1:n.1.size≤1000000) (h2:n.2.1.size≤1000000) (h3:n.2.2.size≤1000000) (hc:∀x ∈ c,(za4 x.1).size≤100000):SzB (zaE (p15 f) s n q c).1:=by
 by_cases e:(zaE (p15 f) s n q c).2.1=0
 · obtain ⟨_,_,b,_,_,_,k,_,_,_,g⟩:=zen hs e;rw [g];refine h.next ⟨(h _ (zde hs.has)).text,h1,h2,h3,?_,fun k hk=>?_⟩
   · unfold keyed;rw [yax,yax];exact b
   · rw [zhw] at hk;obtain ⟨x,j,rfl⟩:=yaH.1 hk;rw [zf8];exact hc x j
 · rw [zfQ e];exact h
theorem SzB.trim (h:SzB s) (r:Int):SzB (zbq s r).1:=by
 unfold zbq;split
 · exact fun v b=>h v (yb1 b)
 · exact h
theorem SzB.new (q:Int):SzB (zbQ q):=fun v b=>by
 rw [show v=zjP from yav.1 b];exact ⟨yao _,yao _,yao _,yao _,yao _,fun k hk=>by cases hk⟩
theorem SzB.again (hG:CompG f) (h:SzB s) (hs:OkB (p15 f) s) {st:RSt} (ho:ShortR st):SzB (zbk (p15 f) s st).2.1:=by
 unfold zbk zgl;split
 · unfold zg1;dsimp only;exact h.define hG _ _ ho.by1 ho.by2 ho.by3
 · rename_i b
   unfold zg2;dsimp only;refine h.write hs _ _ _ ho.by1 ho.by2 ho.by3 ?_;unfold chgL;rw [zhM];exact chgK fun k hk=>by
    obtain ⟨t,g,rfl⟩:=yaH.1 hk;rw [zdm];exact ho.a.list (ycH.1 b) t g
theorem SzB.begin (hG:CompG f) {q fl:Int} {x:ByteArray} {l:List ByteArray}:SzB (ziz (p15 f) q fl x l):=fun v b=>by
 rw [show v=_ from yav.1 b];exact ⟨by rw [zbh];exact hG.short x,yao _,yao _,yao _,yao _,fun k hk=>by cases hk⟩
theorem zr3 (hz:SzV v) (rest:List UInt8):zdR (zfS c15 v ++ rest,0)=((v.by_.1,v.by_.2.1,v.by_.2.2),((if v.schema=true then num 1 ++ text v.text else num 0 ++ (num v.wrote.length ++ texts v.wrote)) ++ rest,0)):=by
 have b:=hz.by1;have f:=hz.by2;have g:=hz.by3;rw [znO];simp only [yaD];exact zn3 yab yab yab _
theorem ShortR.one (hz:SzV v) (rest:List UInt8):ShortR (zfS c15 v ++ rest,0):=by
 have b:=zr3 hz rest;have j:=hz.text;have m:=hz.few;have e:(zdR (zfS c15 v ++ rest,0)).2=((if v.schema=true then num 1 ++ text v.text else num 0 ++ (num v.wrote.length ++ texts v.wrote)) ++ rest,0):=by rw [b]
 refine ⟨⟨?_,?_⟩,by rw [b];exact hz.by1,by rw [b];exact hz.by2,by rw [b];exact hz.by3⟩
 · rw [e];cases f:v.schema with
   | true =>
    rw [yan rfl,yaD,zbD 1 (by decide)];dsimp only;rw [zbJ v.text (by omega)];intro _;have:v.text.data.toList.length=v.text.size:=rfl;dsimp only;omega
   | false =>
    rw [yak yac,yaD,zbD 0 (by decide)];exact fun q=>absurd rfl q
 · rw [e];cases f:v.schema with
   | true =>
    rw [yan rfl,yaD,zbD 1 (by decide)];intro q;cases q
   | false =>
    rw [yak yac,yaD,zbD 0 (by decide)];dsimp only;rw [zeK v.wrote (fun k hk=>by have:=hz.each k hk;omega) yab,yak (by omega)];intro _ t g;obtain ⟨k,hk,rfl⟩:=yaH.1 g;have:k.data.toList.length=k.size:=rfl;have:=hz.each k hk;omega
theorem SzV.ok (h:SzV v) (hl:v.keys.length≤100000) (hk:∀k ∈ v.keys,k.size≤100000):ROk c15 v where
 text:=ybw h.text yac
 keys:=⟨ybw hl yac,fun k q=>ybw (hk k q) yac⟩
 wrote:=⟨ybw h.few yac,fun k q=>ybw (h.each k q) yac⟩
 by1:=ybw h.by1 yac
 by2:=ybw h.by2 yac
 by3:=ybw h.by3 yac
theorem ShortN.pack:∀(r:List (Rv Tb Nd15)) (z:Sto Tb Nd15) (u:Rv Tb Nd15),(zah z).text=u.text→(zah z).T=u.T→(zah z).keys=u.keys→z.L.length + r.length≤64 →
 (∀(i:Nat) a b,(u::r)[i]? = some a→(u::r)[i + 1]? = some b→Beh (p15 f) a b∧zgZ (p15 f) a b)→(∀v ∈ r,zbW (p15 f) v.T v.keys=0∧(v.keys.length:Int)≤z.quota∧(p15 f).comp v.text=(0,v.text,v.T)∧ROk c15 v∧SzV v) →
 ShortN f r.length z (r.flatMap (zfS c15),0)
 | [],_,_,_,_,_,_,_,_=>trivial
 | v::r,z,u,m,n,o,q,j,k=>by
  obtain ⟨s,y⟩:=j 0 u v rfl rfl;obtain ⟨A,B,C,D,f5⟩:=k v yar;rw [yat] at q;have g:=zkj (zrl f) m n o yab s y A B C D (r.flatMap (zfS c15));rw [yaS,yat];refine ⟨ShortR.one f5 _,fun _=>?_⟩;rw [g];exact ShortN.pack r (zaV z v) v (by rw [zdf]) (by rw [zdf]) (by rw [zdf]) (by unfold zaV;dsimp only;rw [yam];simp;omega) (fun i a b g hb=>j (i + 1) a b g hb) fun x E=>k x (yau _ E)
theorem ShortU.pack (hs:OkB (p15 f) s) (ht:OkT (p15 f) s) (hu:OkU (p15 f) s) (hz:SzB s) {q:Int} (hq:s.quota≤q) (hr:revB s≤9223372036854775807) (hk:∀v ∈ s.L,v.keys.length≤100000∧∀k ∈ v.keys,k.size≤100000):ShortU f q (zbj c15 s):=by
 have P:=hs.floor;have M:=hs.quota;have n:=hs.few;cases g:s.L with
 | nil=>exact absurd g hs.has
 | cons u r =>
  have j:u ∈ s.L:=by rw [g];exact yar
  have G:∀v ∈ s.L,ROk c15 v:=fun v o=>(hz v o).ok (hk v o).1 (hk v o).2;have x:=G u j;have H:revB s=s.floor + r.length:=by unfold revB;rw [g,yat];omega
  have Q:r.length≤63:=by rw [g,yat] at n;omega
  have B:zbj c15 s=num s.floor.toNat ++ (num (revB s).toNat ++ (text u.text ++ ((num u.keys.length ++ texts u.keys) ++ r.flatMap (zfS c15)))):=by
   unfold zbj;rw [g];rfl
  have R:u.text.size<2 ^ 63:=x.text;have I:=zbD s.floor.toNat yab (num (revB s).toNat ++ (text u.text ++ ((num u.keys.length ++ texts u.keys) ++ r.flatMap (zfS c15))));have J:=zbD (revB s).toNat yab (text u.text ++ ((num u.keys.length ++ texts u.keys) ++ r.flatMap (zfS c15)));have N:=zbJ u.text yab ((num u.keys.length ++ texts u.keys) ++ r.flatMap (zfS c15));have C:=zeK u.keys (fun k h=>ych (x.keys.each k h) yac) (by have:=(hk u j).1;omega) (r.flatMap (zfS c15)) 100000;rw [yak (by have:=(hk u j).1;omega)] at C;rw [B];have D:(zaX (zbn (zbn (num s.floor.toNat ++ (num (revB s).toNat ++ (text u.text ++ ((num u.keys.length ++ texts u.keys) ++ r.flatMap (zfS c15)))),0)).2).2)=(u.text.data.toList,((num u.keys.length ++ texts u.keys) ++ r.flatMap (zfS c15),0)):=by
   rw [I];dsimp only;rw [J];dsimp only;rw [N]
  refine ⟨?_,?_,?_⟩
  · rw [D];have:=(hz u j).text;have:u.text.data.toList.length=u.text.size:=rfl;dsimp only;omega
  · rw [D];dsimp only;rw [C];intro t ht;obtain ⟨k,E,rfl⟩:=yaH.1 ht;have:k.data.toList.length=k.size:=rfl;have:=(hk u j).2 k E;omega
  · rw [D];dsimp only;rw [C,I];dsimp only;rw [J];dsimp only;intro z hb;have O:(u.keys.map fun s=>s.data.toList).map strOf=u.keys:=by
     rw [ybp];conv=>rhs;rw [←ycF u.keys]
     exact ybC fun s _=>zcD s
    obtain ⟨_,_,_,_,_,_,rfl⟩:=zg6 hb;rw [O,zcD] at hb ⊢;have y:zpc u.keys=u.keys:=zeJ (zeO _) (hs.rise u j) fun k=>zfI;have F:(zbQ q:Sto Tb Nd15).quota=q:=by unfold zbQ;dsimp only;rw [yak (by omega)]
    rw [show (revB s).toNat-s.floor.toNat=r.length by omega];have m:zah (ziz (p15 f) (zbQ q:Sto Tb Nd15).quota (s.floor.toNat:Int) u.text u.keys)=⟨u.text,u.T,u.keys,default,false,[]⟩:=by
     unfold ziz zah;rw [ht u j,y];rfl
    refine ShortN.pack r _ u (by rw [m]) (by rw [m]) (by rw [m]) (by unfold ziz;simp;omega) (fun i a b K hb=>⟨hs.steps i a b (by rw [g];exact K) (by rw [g];exact hb),hu.wrote i a b (by rw [g];exact K) (by rw [g];exact hb)⟩) fun v o=>?_;have A:v ∈ s.L:=by rw [g];exact yau _ o
    exact ⟨hs.fits v A,by have:=hs.most v A;show _≤(zbQ q:Sto Tb Nd15).quota;rw [F];omega,ht v A,G v A,hz v A⟩
end
end
section
open Go.RowKit
section
variable {S:SpW} {f:CoF} {X Y F F':Nat→Prop} {w w':World} {g gr:Nat} {s:Sto Tb Nd15} {L:List Sp} {last:Int} {m:Mm}
theorem zpA {st:RSt} (hs:OkB (p15 f) s) (h:(zbk (p15 f) s st).1=true):revB (zbk (p15 f) s st).2.1=revB s + 1:=by
 unfold zbk zgl at h ⊢;split at h
 · rename_i b
   rw [yan b];unfold zg1 at h ⊢;dsimp only at h ⊢;have e:=yaL h;unfold zaC at e ⊢;split at e
   · rename_i g
     split at e
     · rename_i j
       split at e
       · cases e
       · rename_i n
         rw [yan g,yan j,yak n];exact za0 _ _
     · rename_i j;exact absurd e j
   · rename_i g;exact absurd e g
 · rename_i b
   rw [yak b];unfold zg2 at h ⊢;dsimp only at h ⊢;obtain ⟨_,_,_,_,_,_,k,_,_,_,m⟩:=zen hs (yaL h);rw [m];exact za0 _ _
theorem zrI (st:RSt):(zbn st).1<2 ^ 64:=by
 unfold zbn;split
 · exact Nat.pow_pos yac
 · split
   · exact Nat.pow_pos yac
   · rename_i h
     have e:zb6 st.1=((zb6 st.1).1,(zb6 st.1).2.1,0):=by rw [←ycH.1 h]
     obtain ⟨_,_,_,b⟩:=take_inv e;exact b
def UpOut (S:SpW) (f:CoF) (gr:Nat) (w:World) (g:Nat) (D:Bool × Sto Tb Nd15 × RSt) (w':World):Prop:=IsR w' gr D.2.2∧Below gr w w'∧(D.1=true→∃X F L last m,StX S f gr w' g D.2.1 D.2.2 3000 X F L last m∧SzB D.2.1)
theorem unpack_any (K:SpK S) (hG:CompG f) {q:Int} {b:List UInt8} (h:StX S f gr w g (zbQ q) (b,0) 0 X F L last m) (hL:L=[]) (hlast:last=0) (hq:q≤1000) (hsh:ShortU f q b) :
 Calls Tryz.prog 53 #[.pointer (some ⟨g,0,none⟩),.pointer (some ⟨gr,0,none⟩)] w fun e w'=>e = .returned (.bool (zaJ (p15 f) q b).1)∧UpOut S f gr w g (zaJ (p15 f) q b) w':=by
 subst hL hlast;obtain ⟨D,hD⟩:∃D,Hid (zaJ (p15 f) q b=D):=⟨_,Lib.hid rfl⟩;rw [hD.out];obtain ⟨J,G,C⟩:=hsh;have x:=hD.out;clear hD;unfold zaJ at x;have k1:=num_any gr (b,0) w h.rd;obtain ⟨⟨fl,a2⟩,e1⟩:∃q,zbn (b,0)=q:=⟨_,rfl⟩;rw [e1] at x J G C k1;have k2:=fun W hr=>num_any gr a2 W hr;obtain ⟨⟨y,T⟩,e2⟩:∃q,zbn a2=q:=⟨_,rfl⟩;dsimp only at x J G C k1;simp only [e2] at x J G C k2;have k3:=fun W hr=>text_any gr T W hr;obtain ⟨⟨t3,a6⟩,e3⟩:∃q,zaX T=q:=⟨_,rfl⟩;simp only [e3] at J G C k3;have k4:=fun W hr=>list_any gr a6 100000 yac yac W hr;have V:(100000:Int).toNat=100000:=rfl;obtain ⟨⟨l0,st4⟩,e4⟩:∃q,zcA a6 100000=q:=⟨_,rfl⟩;simp only [e4] at G C;simp only [V,e4] at k4;have an:=zrI a2;have Y:=zrI (b,0);rw [e1] at Y;rw [e2] at an;dsimp only at an Y;have I:=zhX a6 100000;rw [e4] at I;dsimp only at I;obtain ⟨ls,M⟩:∃ls,l0.map strOf=ls:=⟨_,rfl⟩;have b7:∀k ∈ ls,k.size≤100000:=fun k hk=>by
  rw [←M] at hk;obtain ⟨z,hz,rfl⟩:=yaH.1 hk;rw [zdm];exact G z hz
 have ao:tv l0=ks ls:=by rw [←M];unfold tv ks;rw [ybp];rfl
 have a7:l0.length=ls.length:=by rw [←M,yax]
 have b8:(strOf t3).size≤1000000:=by rw [zdm];exact J
 have A:unpC (p15 f) q fl y T=if y<fl∨64≤y-fl∨9223372036854775807<y then (false,zbQ q,T) else match zda (p15 f) (zbQ q:Sto Tb Nd15).quota fl (strOf t3) ls with
  | none=>(false,zbQ q,st4)
  | some s=>zin (p15 f) (y-fl) s st4:=by
  unfold unpC unpE;rw [e3];dsimp only;rw [e4];dsimp only;rw [M];cases zda (p15 f) (zbQ q:Sto Tb Nd15).quota fl (strOf t3) ls <;> rfl
 rw [A] at x;rw [M] at C;rw [a7] at I;simp only [ao,a7] at k4;generalize strOf t3=x3 at *
 clear A e1 e2 e3 e4 V M ao a7 J G;go_enter Tryz.func53,Tryz.ntmps53
 go_upto_region 2 with (first
  | (with_reducible refine k1.mono ?_;rintro e w1 ⟨rfl,a8,aa⟩;have h1:=h.read K aa a8)
  | (with_reducible refine (k2 _ a8).mono ?_;rintro e w2 ⟨rfl,aq,ab⟩;have h2:=h1.read K ab aq)
  | fail)
 have b9:=h.rd.lt;have ac:=(zb8 aa b9).trans (zb8 ab h1.rd.lt);clear k1 k2 a8 aq aa ab h1;by_cases c0:y<fl∨64≤y-fl∨9223372036854775807<y
 · rw [yan c0] at x;have ar:∀W,W=w2→Hid (D.1=false∧UpOut S f gr w g D W):=fun W e=>Lib.hid (by
    subst e;rw [←x];exact ⟨rfl,h2.rd,ac,fun q=>by cases q⟩)
   clear x k3 k4;have au:((y:Int)<(fl:Int))∨(¬((y:Int)<(fl:Int))∧IntKind.u64.wrap ((y:Int)-(fl:Int))=((y-fl:Nat):Int)∧(64:Int)≤((y-fl:Nat):Int))∨(¬((y:Int)<(fl:Int))∧IntKind.u64.wrap ((y:Int)-(fl:Int))=((y-fl:Nat):Int)∧¬(64:Int)≤((y-fl:Nat):Int)∧(9223372036854775807:Int)<(y:Int)):=by
    by_cases d1:y<fl
    · exact .inl yab
    · have e:IntKind.u64.wrap ((y:Int)-(fl:Int))=((y-fl:Nat):Int):=by rw [show (y:Int)-(fl:Int)=((y-fl:Nat):Int) by omega];exact IntWalk.u64_in _ ⟨by omega,by omega⟩
      by_cases d2:64≤y-fl
      · exact .inr (.inl ⟨by omega,e,by omega⟩)
      · exact .inr (.inr ⟨by omega,e,by omega,by omega⟩)
   clear c0;generalize y-fl=n at *
   rcases au with d1 | ⟨d1,d2,d3⟩ | ⟨d1,d2,d3,d4⟩;all_goals (
    go_wp2_with fail
    go_ret
    have:=(ar _ rfl).out;exact ⟨by rw [this.1];rfl,this.2⟩)
 · rw [yak c0] at x;have d1:¬((y:Int)<(fl:Int)):=by omega
   have d2:IntKind.u64.wrap ((y:Int)-(fl:Int))=((y-fl:Nat):Int):=by rw [show (y:Int)-(fl:Int)=((y-fl:Nat):Int) by omega];exact IntWalk.u64_in _ ⟨by omega,by omega⟩
   have d3:¬(64:Int)≤((y-fl:Nat):Int):=by omega
   have d4:¬(9223372036854775807:Int)<(y:Int):=by omega
   obtain ⟨n,hn⟩:∃n,y-fl=n:=⟨_,rfl⟩;rw [hn] at d2 d3 x C;have bh:n<64:=by omega
   have N:y=fl + n∧y≤9223372036854775807:=by omega
   have ba:(fl:Int)≤9223372036854775807:=by omega
   have bi:IntKind.i64.wrap (fl:Int)=(fl:Int):=IntWalk.i64_in _ ⟨by omega,by omega⟩;replace N:=Lib.hid N;clear c0 hn;obtain ⟨o,ho⟩:∃o,zda (p15 f) (zbQ q:Sto Tb Nd15).quota fl x3 ls=o:=⟨_,rfl⟩;rw [ho] at x;have av:0≤(zbQ q:Sto Tb Nd15).quota∧(zbQ q:Sto Tb Nd15).quota≤40000:=by
    show 0≤(if q<0 then 0 else q)∧(if q<0 then 0 else q)≤40000;split <;> omega
   replace x:=Lib.hid x;go_upto_region 4 with (fail)
   clear d3 d4;go_wp2_with (first
    | (with_reducible refine (k3 _ h2.rd).mono ?_;rintro e w3 ⟨rfl,ad,ae⟩;have h3:=h2.read K ae ad)
    | (with_reducible refine (k4 _ ad).mono ?_;rintro e w4 ⟨v4,rfl,O,aw,af⟩;obtain ⟨A4,c4,rfl,_⟩:=Rd.own O;have h4:=h3.read K af aw)
    | fail)
   have ax:KeyX X w4 A4 c4 ls:=fun W hW=>zla (zau O fun j hj=>hW.2 j (O.lt j hj).2 fun q=>by have:=h3.sto.lt j q;have:=(O.lt j hj).1;omega);have kb:=begin_any K hG.is h4.sto rfl ax av.1 av.2 ba b8 I b7;rw [ho] at kb;refine kb.mono ?_;rintro e w5 ⟨rfl,X5,F5,ag,ay⟩;clear kb ax;have ah:Below (gr + 1) w4 w5:=ag.own.rest (gr + 1) h4.rd.lt fun b q=>h4.ahead b q;have az:=((ac.trans (zb8 ae h2.rd.lt)).trans (zb8 af h3.rd.lt)).trans (ah.mono (ybd _));have b0:=h4.rd.below ah (ycv _);clear k3 k4 ad aw ae af h2 h3 O ah ac;cases o with
   | none =>
    have A:=x.out;dsimp only at A;replace A:=Lib.hid A;clear x;go_wp2_with fail
    go_ret
    rw [←A.out];exact ⟨rfl,b0,az,fun q=>by cases q⟩
   | some s =>
    obtain ⟨L',bb,m',b1,bc⟩:=ay s rfl;have A:=x.out;dsimp only at A;obtain ⟨_,_,bd,_,_,_,ai⟩:=zg6 ho;have bf:(zbQ q:Sto Tb Nd15).quota≤1000:=by
     show (if q<0 then 0 else q)≤1000;split <;> omega
    obtain ⟨h5,_⟩:=h4.moved b1 ag (n':=1000) yab;have bg:SzB s:=by rw [ai];exact SzB.begin hG
    have aj:revB s=fl:=by rw [ai];exact zc9 _ _ _ _ _
    have ak:=C s ho;replace A:=Lib.hid A;replace ak:=Lib.hid ak;replace aj:=Lib.hid aj;clear x C ay b1 ag bc ai ho bd bf h4 b0;go_wp2_with fail
    go_loopw [36] (fun vi wx=>∃(i:Nat) (Z:Sto Tb Nd15) (st:RSt) (X1 F1:Nat→Prop) (L1:List Sp) (l1:Int) (m1:Mm),vi = .int .u64 i∧i≤n∧Hid (zin (p15 f) (n-i) Z st=D)∧StX S f gr wx g Z st (1000 + 16 * i) X1 F1 L1 l1 m1∧Below gr w wx∧Hid (ShortN f (n-i) Z st)∧SzB Z∧Hid (revB Z=fl + i)) (fun vi _=>n-(intOf vi).toNat)
    case atStart=>exact ⟨0,s,st4,_,_,_,_,_,rfl,yao _,A,h5,az,ak,bg,Lib.hid (by rw [aj.out];simp)⟩
    case round =>
     obtain ⟨i,Z,st,X1,F1,L1,l1,m1,rfl,hi,hd,U,hB,b2,b3,P⟩:=hrel;by_cases bj:i<n
     · have di:(i:Int)<(n:Int):=by omega
       obtain ⟨j,hj⟩:∃j,n-i=j + 1:=⟨n-i-1,by omega⟩;have u:=hd.out;have b4:=b2.out;rw [hj] at u b4;unfold zin at u;obtain ⟨al,Q⟩:=b4;have b5:j=n-(i + 1):=by omega
       have a1:revB Z + 1≤9223372036854775807:=by
        have:=P.out;have:=N.out;omega
       have ka:=again_any K hG.is U al.a a1 yab;have R:=SzB.again hG b3 U.sto.ok al;have B:=zpA (st:=st) U.sto.ok;rw [P.out] at B;have iw:IntKind.u64.wrap ((i:Int) + 1)=((i + 1:Nat):Int):=by rw [show (i:Int) + 1=((i + 1:Nat):Int) by omega];exact IntWalk.u64_in _ ⟨by omega,by omega⟩
       obtain ⟨⟨ok,s2,b6⟩,hE⟩:∃E,zbk (p15 f) Z st=E:=⟨_,rfl⟩;rw [hE] at u Q ka R B;dsimp only at u Q ka R B;replace Q:=Lib.hid Q;replace B:=Lib.hid B;clear hd b2 hE al a1 P;cases ok with
       | true =>
        rw [yan rfl,b5] at u;replace u:=Lib.hid u;go_wp2_with (go_at_call 96;refine ka.mono ?_;rintro e w6 ⟨rfl,X6,F6,L6,l6,m6,H,am⟩)
        refine ⟨⟨i + 1,s2,b6,X6,F6,L6,l6,m6,by go_num,by omega,u,⟨H.sto,H.rd,H.inX,H.ahead,yay H.len yab⟩,hB.trans am,Lib.hid (by rw [←b5];exact Q.out yaf),R,Lib.hid (by have:=B.out yaf;rw [this];omega)⟩,by simp [intOf];omega⟩
       | false =>
        rw [yak (by decide)] at u;replace u:=Lib.hid u;go_wp2_with (go_at_call 96;refine ka.mono ?_;rintro e w6 ⟨rfl,X6,F6,L6,l6,m6,H,am⟩)
        go_ret
        rw [←u.out];exact ⟨rfl,H.rd,hB.trans am,fun q=>by cases q⟩
     · obtain rfl:i=n:=by omega
       have di:¬(((i:Nat):Int)<(i:Int)):=by omega
       have u:=hd.out;rw [ycu] at u;unfold zin at u;replace u:=Lib.hid u;go_wp2_with fail
       go_ret
       rw [←u.out];exact ⟨rfl,U.rd,hB,fun _=>⟨X1,F1,L1,l1,m1,⟨U.sto,U.rd,U.inX,U.ahead,yay U.len yab⟩,b3⟩⟩
end
end
section
open Go.RowKit
section
variable {S:SpW} {f:CoF} {X Y F F':Nat→Prop} {w w':World} {g gr:Nat} {s:Sto Tb Nd15} {L:List Sp} {last:Int} {m:Mm}
theorem StM.newedX (K:SpK S) {w1:World} {F1 X:Nat→Prop} {gs:Nat} {q qq:Int} (hS:S w1 F1 gs [] 0) (hq:(zbQ q:Sto Tb Nd15).quota=qq) (hF:∀b,b=w1.heap.size∨F1 b→X b) (hX:∀b,X b→b≤w1.heap.size) :
 StM S f X (w1.alloc (.cells #[.pointer (some ⟨gs,0,none⟩),.int .i64 qq,.int .i64 0,.string ⟨#[]⟩,.slice none 0 0,.map none,.slice none 0 0,.slice none 0 0] 80)) (fun j=>j=w1.heap.size∨F1 j) w1.heap.size (zbQ q) [] 0 ⟨gs,F1,noTm,none,0,[]⟩:=by
 subst hq;have m:(w1.alloc (.cells #[.pointer (some ⟨gs,0,none⟩),.int .i64 (zbQ q:Sto Tb Nd15).quota,.int .i64 0,.string ⟨#[]⟩,.slice none 0 0,.map none,.slice none 0 0,.slice none 0 0] 80)).heap.size=w1.heap.size + 1:=by simp
 exact ⟨{
  box:=Rk.new w1 _ _
  sp:=K.keep hS fun b hb=>Below.heap_alloc _ _ _ (K.lt hS b hb)
  row:=World.ownsRow_nil _ _ _ _
  own:=fun j=>by simp [Value.ownBlock]
  g0:=fun q=>Nat.lt_irrefl _ (K.lt hS _ q)
  r0:=fun j k=>by simp [Value.ownBlock] at k
  sub:=hF
  lt:=fun j q=>by have:=hX j q;omega
  head:=⟨zjP,rfl,rfl,rfl⟩
  first:=zq7 _ _
  each:=fun x g=>by cases g
  revs:=fun i x hi=>by simp at hi
  fl0:=ybf _
  most:=by simp [revB,zbQ]
  few:=yao _
  keys:=fun x g=>by cases g
  len:=yao _
  fine:=FineS.nil },SpB.new q,OkB.new _ q⟩
theorem znx (K:SpK S) (q:Int) (w:World) :
 Calls Tryz.prog 11 #[.int .i64 q] w fun e w'=>∃g F m,e = .returned (.pointer (some ⟨g,0,none⟩))∧(∀X:Nat→Prop,(∀b,F b→X b)→(∀b,X b→b<w'.heap.size)→StM S f X w' F g (zbQ q) [] 0 m)∧(∀b,F b→w.heap.size≤b∧b<w'.heap.size)∧Below w.heap.size w w':=by
 have k:=K.new w;go_enter Tryz.func11,Tryz.ntmps11
 go_wp2_with (go_at_call 32;refine k.mono ?_;rintro e u ⟨g,x,rfl,hS,n,j⟩)
 go_ret
 exact ⟨_,_,_,rfl,fun X o s=>StM.newedX K hS (by show (if q<0 then 0 else q)=max q 0;split <;> omega) o (fun b hb=>by have:=s b hb;simp at this;omega),fun b hb=>by
  rcases hb with rfl | hb
  · exact ⟨j.size,by simp⟩
  · exact ⟨n b hb,by have:=K.lt hS b hb;simp;omega⟩,j.alloc j.size _⟩
def zka (U:Bool × Sto Tb Nd15 × RSt) (b:List UInt8):Int:=if U.2.2.2≠0 then (U.2.2.2:Nat) else if U.1=true∧zbj c15 U.2.1=b then 0 else 11
def UnkOut (S:SpW) (f:CoF) (w:World) (U:Bool × Sto Tb Nd15 × RSt) (b:List UInt8) (p:Option Addr) (w':World):Prop:=Below w.heap.size w w'∧(zka U b≠0→p=none)∧(zka U b=0→U.1=true∧zbj c15 U.2.1=b∧∃g X F L last m,p=some ⟨g,0,none⟩∧StM S f X w' F g U.2.1 L last m∧SzB U.2.1∧L.length≤3000∧∀b,F b→w.heap.size≤b)
theorem unk_any (K:SpK S) (hG:CompG f) {A:Option Addr} {c:Nat} {b:List UInt8} {q:Int} (h:Rd w w.heap.size 1 A b.length c (bv b)) (hb:b.length≤100000000000) (hq:q≤1000) (hsh:ShortU f q b) :
 Calls Tryz.prog 16 #[.slice A b.length c,.int .i64 q] w fun e w'=>∃p,e = .returned (.tuple #[.pointer p,.int .i64 (zka (zaJ (p15 f) q b) b)])∧UnkOut S f w (zaJ (p15 f) q b) b p w':=by
 have Y:=open_any A b.length c b w h hb;have Z:=fun W=>znx (f:=f) K q W;obtain ⟨⟨ok,s,E⟩,O⟩:∃U,Hid (zaJ (p15 f) q b=U):=⟨_,Lib.hid rfl⟩;rw [O.out];go_enter Tryz.func16,Tryz.ntmps16
 go_upto_region 3 with (first
  | (go_at_call 52;refine Y.mono ?_;rintro e w1 ⟨P,rfl,Q,o,z⟩)
  | (go_at_call 11;refine (Z _).mono ?_;rintro e w2 ⟨g,F,m,rfl,hN,R,x⟩)
  | fail)
 have hX:StX S f P w2 g (zbQ q) (b,0) 0 (fun j=>F j∨j=P) F [] 0 m:=⟨hN _ (fun _ q=>.inl q) (fun j q=>by
  rcases q with q | rfl
  · exact (R j q).2
  · exact yas o.lt x.size),o.below x o.lt,.inr rfl,fun j q=>yas o.lt (R j q).1,yaj _⟩
 have M:=unpack_any K hG hX rfl rfl hq hsh;have G:=zac z z.size x;rw [O.out] at M;dsimp only at M;clear Y Z hN hX hsh O o z x;obtain ⟨sc,B⟩:∃sc:Nat,E.2=sc:=⟨_,rfl⟩;go_upto_region 4 with (go_at_call 53;refine M.mono ?_;rintro e w3 ⟨rfl,H,T,V⟩;have I:=err_any P E w3 H)
 have k:Below w.heap.size w w3:=G.trans (T.mono Q);have J:=h.up k;rw [B] at I;clear M H G R;by_cases X:sc=0
 · subst X;cases ok with
   | false =>
    go_wp2_with (go_at_call 54;refine I.mono ?_;rintro e L ⟨rfl,rfl⟩)
    refine bodyPost_ret (v:=.tuple #[.pointer none,.int .i64 11]) (by simp [results,Tryz.results16,go_sem]) rfl ?_;have u:zka (false,s,E) b=11:=by unfold zka;dsimp only;rw [yak yab,yak (by rintro ⟨a,_⟩;cases a)]
    rw [u];exact ⟨none,rfl,k,fun _=>rfl,fun q=>by rw [u] at q;cases q⟩
   | true =>
    obtain ⟨X3,F3,L3,l3,m3,N,hz⟩:=V rfl;have kp:=pack_any K N.sto hz;obtain ⟨eq,y⟩:∃eq,decide (zbj c15 s=b)=eq:=⟨_,rfl⟩;have u:zka (true,s,E) b=if eq=true then 0 else 11:=by
     unfold zka;dsimp only;rw [B,yak yab,←y];by_cases e:zbj c15 s=b
     · rw [yan ⟨rfl,e⟩,yan (yaB e)]
     · rw [yak fun q=>e q.2,yak (by simpa using e)]
    cases eq with
    | true =>
     go_wp2_with (first
      | (go_at_call 54;refine I.mono ?_;rintro e L ⟨rfl,rfl⟩)
      | (go_at_call 15;refine kp.mono ?_;rintro e L ⟨⟨v4,rfl,C⟩,n⟩;obtain ⟨A4,c4,rfl,D⟩:=Rd.own C;have kq:=equal_any D (J.up n);rw [y] at kq)
      | (go_at_call 55;refine kq.mono ?_;rintro e w5 ⟨rfl,rfl⟩)
      | fail)
     refine bodyPost_ret (v:=.tuple #[.pointer (some ⟨g,0,none⟩),.int .i64 0]) (by simp [results,Tryz.results16,go_sem]) rfl ?_;rw [u];refine ⟨some ⟨g,0,none⟩,rfl,k.trans (n.mono k.size),fun q=>?_,fun _=>⟨rfl,yaL y,g,X3,F3,L3,l3,m3,rfl,N.sto.up K n,hz,N.len,fun j q=>by have:=N.ahead j q;omega⟩⟩;rw [u] at q;exact absurd rfl q
    | false =>
     go_wp2_with (first
      | (go_at_call 54;refine I.mono ?_;rintro e L ⟨rfl,rfl⟩)
      | (go_at_call 15;refine kp.mono ?_;rintro e L ⟨⟨v4,rfl,C⟩,n⟩;obtain ⟨A4,c4,rfl,D⟩:=Rd.own C;have kq:=equal_any D (J.up n);rw [y] at kq)
      | (go_at_call 55;refine kq.mono ?_;rintro e w5 ⟨rfl,rfl⟩)
      | fail)
     refine bodyPost_ret (v:=.tuple #[.pointer none,.int .i64 11]) (by simp [results,Tryz.results16,go_sem]) rfl ?_;rw [u];exact ⟨none,rfl,k.trans (n.mono k.size),fun _=>rfl,fun q=>by rw [u] at q;cases q⟩
 · have d1:((sc:Int) == 0)=false:=by simpa using X
   go_wp2_with (go_at_call 54;refine I.mono ?_;rintro e L ⟨rfl,rfl⟩)
   refine bodyPost_ret (v:=.tuple #[.pointer none,.int .i64 (sc:Nat)]) (by simp [results,Tryz.results16,go_sem]) rfl ?_;have u:zka (ok,s,E) b=(sc:Nat):=by unfold zka;dsimp only;rw [B,yan X]
   rw [u];exact ⟨none,rfl,k,fun _=>rfl,fun q=>by rw [u] at q;omega⟩
end
end
section
open Go.RowKit
structure KpZ (Z:Nat→Prop) (w w':World):Prop where
 base:Below 0 w w'
 old:∀b,Z b→w'.heap[b]? = w.heap[b]?
theorem KpZ.below {Z:Nat→Prop} {w w':World} {B:Nat} (h:KpZ Z w w') (hZ:∀b,b<B→Z b):Below B w w':=⟨h.base.os,h.base.tape,h.base.output,h.base.size,fun b q=>h.old b (hZ b q)⟩
def Ib (S:SpW) (f:CoF) (Z:Nat→Prop) (w:World) (g:Nat) (s:Sto Tb Nd15) (n:Nat):Prop:=∃X F L last m,StM S f X w F g s L last m∧(∀b,F b→¬Z b)∧(∀b,Z b→b<w.heap.size)∧L.length≤n
section
variable {S:SpW} {f:CoF} {X Y F F' Z:Nat→Prop} {w w':World} {g n:Nat} {s:Sto Tb Nd15}
theorem Ib.up (K:SpK S) (h:Ib S f Z w g s n) (hb:Below w.heap.size w w'):Ib S f Z w' g s n:=by
 obtain ⟨X,F,L,j,m,h,k,o,u⟩:=h;exact ⟨X,F,L,j,m,h.up K hb,k,fun b q=>yas (o b q) hb.size,u⟩
theorem Ib.more (K:SpK S) (h:Ib S f Z w g s n) (hb:Below w.heap.size w w') {Z':Nat→Prop} (hz:∀b,Z' b→(Z b∨w.heap.size≤b)∧b<w'.heap.size):Ib S f Z' w' g s n:=by
 obtain ⟨X,F,L,j,m,h,k,u,o⟩:=h;exact ⟨X,F,L,j,m,h.up K hb,fun b q z=>by
  rcases (hz b z).1 with z | z
  · exact k b q z
  · have:=h.lt b (h.sub b q);omega,fun b q=>(hz b q).2,o⟩
theorem Ib.ok (h:Ib S f Z w g s n):OkB (p15 f) s∧revB s≤9223372036854775807:=by
 obtain ⟨X,F,L,b,m,h,j,k,o⟩:=h;exact ⟨h.ok,h.most⟩
theorem Ib.small (h:Ib S f Z w g s n) (r:Int):(∀k ∈ (atB s r).keys,k.size≤100000)∧(atB s r).keys.length≤50000:=by
 obtain ⟨X,F,L,b,m,h,j,o,q⟩:=h;exact h.small r
theorem Ib.of (hw:zpx S f X F w g s n w') (hF:∀b,F b→¬Z b) (hZ:∀b,Z b→b<w.heap.size):Ib S f Z w' g s n∧KpZ Z w w':=by
 obtain ⟨m,o,u,j,x,y,k,A⟩:=hw;refine ⟨⟨m,o,u,j,x,y,fun b q z=>?_,fun b q=>yas (hZ b q) k.own.le,A⟩,k.own.rest 0 (yao _) (fun _ _=>yao _),fun b q=>k.own.old b (hZ b q) fun z=>hF b z q⟩;rcases k.own.grow b q with q | q
 · exact hF b q z
 · have:=hZ b z;omega
theorem Ib.write (K:SpK S) (h:Ib S f Z w g s n) {A1 A2:Option Addr} {c1 c2:Nat} {p d:List (TuP × Bool)} (b1 b2 b3:ByteArray) (h1:Rd w w.heap.size 7 A1 p.length c1 (p.flatMap za5)) (h2:Rd w w.heap.size 7 A2 d.length c2 (d.flatMap za5)) (hkp:∀x ∈ p,(za4 x.1).size≤100000) (hkd:∀x ∈ d,(za4 x.1).size≤100000) (hmax:revB s + 1≤9223372036854775807) (hn:n + 16≤50000) :
 Calls Tryz.prog 12 #[.pointer (some ⟨g,0,none⟩),.agg #[.string b1,.string b2,.string b3],.slice A1 p.length c1,.slice A2 d.length c2] w fun e w'=>e = .returned (.tuple #[.int .i64 (zaE (p15 f) s (b1,b2,b3) p d).2.1,.int .i64 ((zaE (p15 f) s (b1,b2,b3) p d).2.2:Nat)])∧Ib S f Z w' g (zaE (p15 f) s (b1,b2,b3) p d).1 (n + 16)∧KpZ Z w w':=by
 obtain ⟨X,F,L,j,m,h,k,o,D⟩:=h;refine (write_any K h b1 b2 b3 h1 h2 hkp hkd hmax yab).mono ?_;rintro e w' ⟨h1,q,u,y,b,z,A,B,C⟩;exact ⟨h1,Ib.of ⟨q,u,y,b,z,A,B,by omega⟩ k o⟩
theorem Ib.define (K:SpK S) (hF:zpv f) (h:Ib S f Z w g s n) (b1 b2 b3 x:ByteArray) (hx:x.size≤1000000) (hmax:revB s + 1≤9223372036854775807) :
 Calls Tryz.prog 13 #[.pointer (some ⟨g,0,none⟩),.agg #[.string b1,.string b2,.string b3],.string x] w fun e w'=>e = .returned (.int .i64 (zaC (p15 f) s (b1,b2,b3) x).2)∧Ib S f Z w' g (zaC (p15 f) s (b1,b2,b3) x).1 n∧KpZ Z w w':=by
 obtain ⟨X,F,L,b,m,h,j,k,o⟩:=h;refine (define_any K hF h b1 b2 b3 x hx hmax).mono ?_;rintro e w' ⟨q,u,y,z,A,B⟩;exact ⟨q,Ib.of ⟨u,y,L,b,z,A,B,o⟩ j k⟩
theorem iv_new (K:SpK S) (q:Int) (w:World) :
 Calls Tryz.prog 11 #[.int .i64 q] w fun e w'=>∃g,e = .returned (.pointer (some ⟨g,0,none⟩))∧Ib S f (·<w.heap.size) w' g (zbQ q) 0∧Below w.heap.size w w':=by
 refine (znx (f:=f) K q w).mono ?_;rintro e w' ⟨g,F,m,rfl,k,j,hb⟩;exact ⟨g,rfl,⟨F,F,[],0,m,k F (fun _ q=>q) fun b q=>(j b q).2,fun b q z=>by have:=(j b q).1;omega,fun b q=>yas q hb.size,yaj _⟩,hb⟩
theorem Ib.pack (K:SpK S) (h:Ib S f Z w g s n) (hz:SzB s) :
 Calls Tryz.prog 15 #[.pointer (some ⟨g,0,none⟩)] w fun e w'=>∃A c,e = .returned (.slice A (zbj c15 s).length c)∧w'.ownsRow w.heap.size 5 1 (.slice A (zbj c15 s).length c) (zbj c15 s).length (bv (zbj c15 s))∧Below w.heap.size w w':=by
 obtain ⟨X,F,L,b,m,h,k,o,q⟩:=h;refine (pack_any K h hz).mono ?_;rintro e w' ⟨⟨v,rfl,j⟩,hb⟩;obtain ⟨A,c,rfl,_⟩:=Rd.own j;exact ⟨A,c,rfl,j,hb⟩
theorem Ib.has (K:SpK S) (h:Ib S f Z w g s n) (r:Int) (u:TuP) (hu:(za4 u).size≤100000) :
 Calls Tryz.prog 28 #[.pointer (some ⟨g,0,none⟩),.int .i64 r,zgF u] w fun e w'=>e = .returned (.bool (hasK (atB s r).keys (za4 u)))∧Below w.heap.size w w':=by
 obtain ⟨X,F,L,b,m,h,j,k,o⟩:=h;exact shas15_any K h r u hu
theorem Ib.rev (h:Ib S f Z w g s n):Calls Tryz.prog 17 #[.pointer (some ⟨g,0,none⟩)] w fun e w'=>e = .returned (.int .i64 (revB s))∧Below w.heap.size w w':=by
 obtain ⟨X,F,L,b,m,h,j,k,o⟩:=h;exact zc6 h.toStR
theorem Ib.live (K:SpK S) (h:Ib S f Z w g s n):Calls Tryz.prog 19 #[.pointer (some ⟨g,0,none⟩)] w fun e w'=>e = .returned (.int .i64 (zah s).keys.length)∧Below w.heap.size w w':=by
 obtain ⟨X,F,L,b,m,h,j,k,o⟩:=h;exact live15_any K h
theorem Ib.tuples (K:SpK S) (h:Ib S f Z w g s n) (r:Int) :
 Calls Tryz.prog 20 #[.pointer (some ⟨g,0,none⟩),.int .i64 r] w fun e w'=>(∃A c,e = .returned (.slice A (atB s r).keys.length c)∧Rd w' w'.heap.size 6 A (atB s r).keys.length c (((atB s r).keys.map ofT).flatMap zeT))∧Below w.heap.size w w':=by
 obtain ⟨X,F,L,b,m,h,j,k,o⟩:=h;exact tuples_any K h r
theorem zqq (K:SpK S) (hG:CompG f) {A:Option Addr} {c:Nat} {b:List UInt8} {q:Int} (h:Rd w w.heap.size 1 A b.length c (bv b)) (hb:b.length≤100000000000) (hq:q≤1000) (hsh:ShortU f q b) :
 Calls Tryz.prog 16 #[.slice A b.length c,.int .i64 q] w fun e w'=>∃p,e = .returned (.tuple #[.pointer p,.int .i64 (zka (zaJ (p15 f) q b) b)])∧Below w.heap.size w w'∧(zka (zaJ (p15 f) q b) b≠0→p=none)∧(zka (zaJ (p15 f) q b) b=0→zbj c15 (zaJ (p15 f) q b).2.1=b∧SzB (zaJ (p15 f) q b).2.1∧∃g,p=some ⟨g,0,none⟩∧Ib S f (·<w.heap.size) w' g (zaJ (p15 f) q b).2.1 3000):=by
 refine (unk_any K hG h hb hq hsh).mono ?_;rintro e w' ⟨p,rfl,k,n,o⟩;refine ⟨p,rfl,k,n,fun e=>?_⟩;obtain ⟨_,s,g,X,F,L,j,m,rfl,u,x,y,B⟩:=o e;exact ⟨s,x,g,rfl,X,F,L,j,m,u,fun b q z=>by have:=B b q;omega,fun b q=>yas q k.size,y⟩
theorem unp_same {s:Sto Tb Nd15} {u v:Rv Tb Nd15} {r:List (Rv Tb Nd15)} (e:s.L=u::r) (h:Alike u v) (q:Int):revB (⟨s.floor,v::r,q⟩:Sto Tb Nd15)=revB s∧(∀k,(atB (⟨s.floor,v::r,q⟩:Sto Tb Nd15) k).keys=(atB s k).keys)∧SameB { s with quota:=q } ⟨s.floor,v::r,q⟩:=by
 have hS:SameB { s with quota:=q } ⟨s.floor,v::r,q⟩:=⟨rfl,rfl,u,v,r,e,rfl,h⟩;exact ⟨hS.rev.symm,fun k=>((hS.at_ k).1.keys).symm,hS⟩
theorem unk_pack (hs:OkB (p15 f) s) (ht:OkT (p15 f) s) (hu:OkU (p15 f) s) (hz:SzB s) {q:Int} (hq:s.quota≤q) (hr:revB s≤9223372036854775807) (hk:∀v ∈ s.L,v.keys.length≤100000∧∀k ∈ v.keys,k.size≤100000) :
 ShortU f q (zbj c15 s)∧zka (zaJ (p15 f) q (zbj c15 s)) (zbj c15 s)=0∧(zaJ (p15 f) q (zbj c15 s)).2.1.floor=s.floor∧revB (zaJ (p15 f) q (zbj c15 s)).2.1=revB s∧(∀k,(atB (zaJ (p15 f) q (zbj c15 s)).2.1 k).keys=(atB s k).keys)∧SameB { s with quota:=q } (zaJ (p15 f) q (zbj c15 s)).2.1:=by
 obtain ⟨v,u,r,j,m,n⟩:=zmP (zrl f) hs ht hu (fun v b=>(hz v b).ok (hk v b).1 (hk v b).2) hq hr fun v b=>(hk v b).1;obtain ⟨o,x,g⟩:=unp_same j m q;have y:zbj c15 s=zbj c15 ({ s with quota:=q }:Sto Tb Nd15):=rfl;have z:=ShortU.pack hs ht hu hz hq hr hk;rw [n];refine ⟨z,?_,rfl,o,x,g⟩;unfold zka;dsimp only;rw [yak yac,yan ⟨rfl,by rw [y];exact (g.pack (c:=c15)).symm⟩]
theorem Ib.keys (h:Ib S f Z w g s n):∀v ∈ s.L,v.keys.length≤100000∧∀k ∈ v.keys,k.size≤100000:=fun v b=>by
 obtain ⟨i,hi⟩:=List.mem_iff_getElem?.1 b;have e:=zeU hi;have k:=h.small (s.floor + i);rw [e] at k;exact ⟨by omega,k.1⟩
theorem Ib.packLen (h:Ib S f Z w g s n) (hz:SzB s):(zbj c15 s).length≤100000000000:=by
 have hk:=h.small s.floor;obtain ⟨X,F,L,o,m,h,C,D,E⟩:=h;obtain ⟨u,j,q,_⟩:=h.head;have z:=h.floor0;have k:=h.most;have y:=h.rev_eq;have b:=h.few;have G:=zcp (n:=s.floor.toNat) yab;have H:=zcp (n:=(revB s).toNat) yab;have I:=zem (s:=m.t.tx) (by rw [←q];have:=(hz u (by rw [j];exact yar)).text;omega);have A:=(hz u (by rw [j];exact yar)).text;rw [q] at A;have J:=zcp (n:=(atB s s.floor).keys.length) yab;have K:=zfN (l:=(atB s s.floor).keys) (n:=100000) yac hk.1;have M:=zmA (l:=m.l) fun x B=>hz x.v (by rw [j];exact yau _ (ybi B));have N:(atB s s.floor).keys.length * (100000 + 9)≤50000 * (100000 + 9):=ybm _ hk.2;have O:m.l.length * 5000000≤63 * 5000000:=ybm _ b;rw [znF h.toStR];simp only [yam];omega
end
end
section
open Go.RowKit
variable {f:CoF}
theorem znb:zak (zdE zke)=(zke,0,0):=by decide +kernel
theorem zm9:zak (⟨#[]⟩:ByteArray)=([],0,0):=by decide +kernel
theorem zm1:∃ty ps R,CompIs ⟨#[116,121,112,101,32,117,115,101,114,32,123,125,32,116,121,112,101,32,100,111,99,32,123,32,114,101,108,32,114,101,97,100,32,40,114,101,97,100,44,32,114,101,97,100,44,32,114,101,97,100,41,58,32,117,115,101,114,59,32,125]⟩ 0 (zdE zke) ty ps R:=by
 have f:(zak ⟨#[116,121,112,101,32,117,115,101,114,32,123,125,32,116,121,112,101,32,100,111,99,32,123,32,114,101,108,32,114,101,97,100,32,40,114,101,97,100,44,32,114,101,97,100,44,32,114,101,97,100,41,58,32,117,115,101,114,59,32,125]⟩).2.1=0:=by rw [zes]
 have b:(zak ⟨#[116,121,112,101,32,117,115,101,114,32,123,125,32,116,121,112,101,32,100,111,99,32,123,32,114,101,108,32,114,101,97,100,32,40,114,101,97,100,44,32,114,101,97,100,44,32,114,101,97,100,41,58,32,117,115,101,114,59,32,125]⟩).1=zke:=by rw [zes]
 have g:Right ((zak ⟨#[116,121,112,101,32,117,115,101,114,32,123,125,32,116,121,112,101,32,100,111,99,32,123,32,114,101,108,32,114,101,97,100,32,40,114,101,97,100,44,32,114,101,97,100,44,32,114,101,97,100,41,58,32,117,115,101,114,59,32,125]⟩).1.map zbY):=by rw [b];exact (zfi _).1.1 zkE
 have:=CompIs.ok (s:=⟨#[116,121,112,101,32,117,115,101,114,32,123,125,32,116,121,112,101,32,100,111,99,32,123,32,114,101,108,32,114,101,97,100,32,40,114,101,97,100,44,32,114,101,97,100,44,32,114,101,97,100,41,58,32,117,115,101,114,59,32,125]⟩) f g [0] (by rw [b];rfl) (by rw [b,zhi];intro e h;cases h) (by
  rw [b,zhi];refine ⟨⟨fun i hi=>?_,fun e h=>by cases h⟩,fun u j i hi=>?_⟩
  · have:i=0:=by simpa using hi
    subst this;decide
  · have k:=j.1 i hi;have:i=0:=by simpa using hi
    subst this;exact k) (by rw [b];exact Nat.not_lt.1 zna)
 rw [b] at this;exact ⟨_,_,_,this⟩
def zbx:TuP:=((⟨#[100,111,99]⟩,⟨#[49]⟩,⟨#[114,101,97,100]⟩),(⟨#[117,115,101,114]⟩,⟨#[97]⟩,⟨#[]⟩))
theorem exR_f (hG:CompG f):(f ⟨#[116,121,112,101,32,117,115,101,114,32,123,125,32,116,121,112,101,32,100,111,99,32,123,32,114,101,108,32,114,101,97,100,32,40,114,101,97,100,44,32,114,101,97,100,44,32,114,101,97,100,41,58,32,117,115,101,114,59,32,125]⟩).1=0∧zaR (f ⟨#[116,121,112,101,32,117,115,101,114,32,123,125,32,116,121,112,101,32,100,111,99,32,123,32,114,101,108,32,114,101,97,100,32,40,114,101,97,100,44,32,114,101,97,100,44,32,114,101,97,100,41,58,32,117,115,101,114,59,32,125]⟩).2.2 zbx=0:=by
 obtain ⟨ty,ps,R,h⟩:=zm1;have b:=hG.is h;obtain ⟨_,rfl,rfl,r,rfl,g⟩:=compR h;rw [b];refine ⟨rfl,?_⟩;unfold zaR zbx;exact exR_yes (r:=r) rfl g
theorem exE_is:CompIs ⟨#[]⟩ 0 ⟨#[]⟩ [] [] []:=by
 have f:(zak (⟨#[]⟩:ByteArray)).2.1=0:=by rw [zm9]
 have b:(zak (⟨#[]⟩:ByteArray)).1=[]:=by rw [zm9]
 have g:Right ((zak (⟨#[]⟩:ByteArray)).1.map zbY):=by
  rw [b];exact ⟨yao _,List.Pairwise.nil,(fun _ h=>absurd h yaf),(fun _ h=>absurd h yaf)⟩
 have:=CompIs.ok (s:=⟨#[]⟩) f g [] (by rw [b];rfl) (by rw [b];intro e h;exact absurd h (by simp [zbr,zbb])) (by
  rw [b];exact ⟨⟨fun i hi=>absurd hi (ybe i),fun e h=>absurd h (by simp [zbr,zbb])⟩,fun u _ i hi=>absurd hi (ybe i)⟩) (by rw [b];exact yao _)
 rw [b] at this;exact this
theorem zp1 (hG:CompG f):f (f ⟨#[116,121,112,101,32,117,115,101,114,32,123,125,32,116,121,112,101,32,100,111,99,32,123,32,114,101,108,32,114,101,97,100,32,40,114,101,97,100,44,32,114,101,97,100,44,32,114,101,97,100,41,58,32,117,115,101,114,59,32,125]⟩).2.1=(0,(f ⟨#[116,121,112,101,32,117,115,101,114,32,123,125,32,116,121,112,101,32,100,111,99,32,123,32,114,101,108,32,114,101,97,100,32,40,114,101,97,100,44,32,114,101,97,100,44,32,114,101,97,100,41,58,32,117,115,101,114,59,32,125]⟩).2.1,(f ⟨#[116,121,112,101,32,117,115,101,114,32,123,125,32,116,121,112,101,32,100,111,99,32,123,32,114,101,108,32,114,101,97,100,32,40,114,101,97,100,44,32,114,101,97,100,44,32,114,101,97,100,41,58,32,117,115,101,114,59,32,125]⟩).2.2)∧f ⟨#[]⟩=(0,⟨#[]⟩,default):=by
 obtain ⟨ty,ps,R,h⟩:=zm1;have k:CompIs (zdE zke) 0 (zdE zke) ty ps R:=CompIs.move (by rw [znb,zes]) (by rw [znb,zes]) h;rw [hG.is h];exact ⟨hG.is k,hG.is exE_is⟩
abbrev zmp:Nd15:=(⟨#[]⟩,⟨#[]⟩,⟨#[]⟩)
theorem wrong15 (f:CoF):zaE (p15 f) (zbQ 5) zmp [] [(zbx,true)]=(zbQ 5,31,0):=by
 have e:(p15 f).right (zah (zbQ 5:Sto Tb Nd15)).T zbx=31:=by
  rw [zbz];decide +kernel
 have h:=zmR (p:=p15 f) (s:=(zbQ 5:Sto Tb Nd15)) (n:=zmp) (t:=zbx) (q:=[]) (b:=true) (by rw [e];decide) (.inl rfl);rw [h,e]
theorem awk15 (hG:CompG f) (nr:Nd15):∃s1 s2:Sto Tb Nd15,zaC (p15 f) (zbQ 5) nr ⟨#[116,121,112,101,32,117,115,101,114,32,123,125,32,116,121,112,101,32,100,111,99,32,123,32,114,101,108,32,114,101,97,100,32,40,114,101,97,100,44,32,114,101,97,100,44,32,114,101,97,100,41,58,32,117,115,101,114,59,32,125]⟩=(s1,0)∧zaE (p15 f) s1 zmp [(zbx,false)] [(zbx,true)]=(s2,0,0) ∧
 zaE (p15 f) s2 zmp [(zbx,false)] [(zbx,false)]=(s2,41,0)∧revB s1=1∧revB s2=2∧s2.floor=0∧s2.quota=5∧(atB s2 2).keys=[za4 zbx]∧(atB s2 1).keys=[]∧(zah s2).keys=[za4 zbx]∧OkT (p15 f) s2:=by
 obtain ⟨h,k⟩:=exR_f hG;obtain ⟨m,n⟩:=zp1 hG;generalize hx:(⟨#[116,121,112,101,32,117,115,101,114,32,123,125,32,116,121,112,101,32,100,111,99,32,123,32,114,101,108,32,114,101,97,100,32,40,114,101,97,100,44,32,114,101,97,100,44,32,114,101,97,100,41,58,32,117,115,101,114,59,32,125]⟩:ByteArray)=x at *
 have q:((p15 f).comp x).1=0:=by rw [zbh];exact h
 have b:(p15 f).right ((p15 f).comp x).2.2 zbx=0:=by rw [zbh,zbz];exact k
 have hk:(p15 f).key zbx=za4 zbx:=by rw [zf8]
 have g:(p15 f).comp ((p15 f).comp x).2.1=(0,((p15 f).comp x).2.1,((p15 f).comp x).2.2):=by rw [zbh];exact m
 have j:(p15 f).comp ⟨#[]⟩=(0,⟨#[]⟩,default):=by rw [zbh];exact n
 generalize p15 f=p at *
 rw [←hk];generalize zbx=t at *
 clear hk h k hx m n;refine ⟨⟨0,[zjP,⟨(p.comp x).2.1,(p.comp x).2.2,[],nr,true,[]⟩],5⟩,⟨0,[zjP,⟨(p.comp x).2.1,(p.comp x).2.2,[],nr,true,[]⟩,⟨(p.comp x).2.1,(p.comp x).2.2,[p.key t],zmp,false,[p.key t]⟩],5⟩,?_,?_,?_,rfl,rfl,rfl,rfl,rfl,rfl,rfl,?_⟩
 · unfold zaC;rw [yan q,yan (by rfl)];rfl
 · rw [zlC b (.inr ⟨_,rfl⟩)];rfl
 · rw [zlC b (.inr ⟨_,rfl⟩)];simp [zcm,ziq,zah,hasK,keyed]
 · intro v o;simp only [yaw,ya1,ybA] at o;rcases o with rfl | rfl | rfl
   · exact j
   · exact g
   · exact g
end
end Go.Proofs.YtmblgnddgmfkhaaGreat
