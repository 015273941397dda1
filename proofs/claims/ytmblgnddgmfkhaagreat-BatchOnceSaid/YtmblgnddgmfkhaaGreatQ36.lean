import Derived.Test.YtmblgnddgmfkhaaGreatQ35
set_option maxRecDepth 100000
set_option maxHeartbeats 4000000
namespace Go.Proofs.YtmblgnddgmfkhaaGreat
section
open Go.RowKit
variable {s:Sto Tb Nd15} {v:Rv Tb Nd15}
structure ShortR (st:RSt):Prop where
 a:ShortA st
 by1:(zei st).1.1.size≤1000000
 by2:(zei st).1.2.1.size≤1000000
 by3:(zei st).1.2.2.size≤1000000
section
variable {f:CoF}
def ShortN (f:CoF):Nat→Sto Tb Nd15→RSt→Prop
 | 0,_,_=>True
 | n + 1,s,st=>ShortR st∧((zbp (p15 f) s st).1=true→ShortN f n (zbp (p15 f) s st).2.1 (zbp (p15 f) s st).2.2)
structure ShortU (f:CoF) (q:Int) (b:List UInt8):Prop where
 tx:(zaV (zbx (zbx (b,0)).2).2).1.length≤1000000
 ls:∀t ∈ (zcQ (zaV (zbx (zbx (b,0)).2).2).2 100000).1,t.length≤100000
 mo:∀s,zcU (p15 f) (zbT q:Sto Tb Nd15).quota ((zbx (b,0)).1:Int) (strOf (zaV (zbx (zbx (b,0)).2).2).1) ((zcQ (zaV (zbx (zbx (b,0)).2).2).2 100000).1.map strOf)=some s →
  ShortN f ((zbx (zbx (b,0)).2).1-(zbx (b,0)).1) s (zcQ (zaV (zbx (zbx (b,0)).2).2).2 100000).2
theorem SzB.next (h:SzB s) (hv:SzV v):SzB (zaQ s v):=fun x b=>by
 rcases yaz.1 b with b | b
 · exact h x b
 · rw [yas.1 b];exact hv
theorem SzB.define (hG:CompG f) (h:SzB s) (n:Nd15) (x:ByteArray) (h1:n.1.size≤1000000) (h2:n.2.1.size≤1000000) (h3:n.2.2.size≤1000000):SzB (zaC (p15 f) s n x).1:=by
 unfold zaC;split
 · split
   · split
     · exact h
     · exact h.next ⟨by rw [zbh];exact hG.short x,h1,h2,h3,yap _,fun k hk=>by cases hk⟩
   · exact h
 · exact h
theorem SzB.write (h:SzB s) (hs:OkB (p15 f) s) (n:Nd15) (q c:List (TuP × Bool)) (h1:n.1.size≤1000000) (h2:n.2.1.size≤1000000) (h3:n.2.2.size≤1000000) (hc:∀x ∈ c,(zbu x.1).size≤100000):SzB (zaA (p15 f) s n q c).1:=by
 by_cases e:(zaA (p15 f) s n q c).2.1=0
 · obtain ⟨_,_,b,_,_,_,k,_,_,_,d⟩:=zfj hs e;rw [d];refine h.next ⟨(h _ (zcZ hs.has)).text,h1,h2,h3,?_,fun k hk=>?_⟩
   · unfold keyed;rw [yay,yay];exact b
   · rw [zgZ] at hk;obtain ⟨x,g,rfl⟩:=yaN.1 hk;rw [zfA];exact hc x g
 · rw [zhF e];exact h
theorem SzB.new (q:Int):SzB (zbT q):=fun v b=>by
 rw [show v=zjE from yas.1 b];exact ⟨yap _,yap _,yap _,yap _,yap _,fun k hk=>by cases hk⟩
theorem SzB.again (hG:CompG f) (h:SzB s) (hs:OkB (p15 f) s) {st:RSt} (ho:ShortR st):SzB (zbp (p15 f) s st).2.1:=by
 unfold zbp zgw;split
 · unfold zjI;dsimp only;exact h.define hG _ _ ho.by1 ho.by2 ho.by3
 · rename_i b
   unfold zjJ;dsimp only;refine h.write hs _ _ _ ho.by1 ho.by2 ho.by3 ?_;unfold chgL;rw [zhd];exact chgK fun k hk=>by
    obtain ⟨t,d,rfl⟩:=yaN.1 hk;rw [zc9];exact ho.a.list (ycB.1 b) t d
theorem SzB.begin (hG:CompG f) {q fl:Int} {x:ByteArray} {l:List ByteArray}:SzB (zhU (p15 f) q fl x l):=fun v b=>by
 rw [show v=_ from yas.1 b];exact ⟨by rw [zbh];exact hG.short x,yap _,yap _,yap _,yap _,fun k hk=>by cases hk⟩
theorem zre (hz:SzV v) (rest:List UInt8):zei (zfk c15 v ++ rest,0)=((v.by_.1,v.by_.2.1,v.by_.2.2),((if v.schema=true then num 1 ++ text v.text else num 0 ++ (num v.wrote.length ++ texts v.wrote)) ++ rest,0)):=by
 have b:=hz.by1;have d:=hz.by2;have f:=hz.by3;rw [zm2];simp only [yaB];exact zng yab yab yab _
theorem ShortR.one (hz:SzV v) (rest:List UInt8):ShortR (zfk c15 v ++ rest,0):=by
 have b:=zre hz rest;have g:=hz.text;have j:=hz.few;have e:(zei (zfk c15 v ++ rest,0)).2=((if v.schema=true then num 1 ++ text v.text else num 0 ++ (num v.wrote.length ++ texts v.wrote)) ++ rest,0):=by rw [b]
 refine ⟨⟨?_,?_⟩,by rw [b];exact hz.by1,by rw [b];exact hz.by2,by rw [b];exact hz.by3⟩
 · rw [e];cases d:v.schema with
   | true =>
    rw [yan rfl,yaB,zbw 1 (by decide)];dsimp only;rw [zbD v.text (by omega)];intro _;have:v.text.data.toList.length=v.text.size:=rfl;dsimp only;omega
   | false =>
    rw [yak yac,yaB,zbw 0 (by decide)];exact fun q=>absurd rfl q
 · rw [e];cases d:v.schema with
   | true =>
    rw [yan rfl,yaB,zbw 1 (by decide)];intro q;cases q
   | false =>
    rw [yak yac,yaB,zbw 0 (by decide)];dsimp only;rw [zeb v.wrote (fun k hk=>by have:=hz.each k hk;omega) yab,yak (by omega)];intro _ t f;obtain ⟨k,hk,rfl⟩:=yaN.1 f;have:k.data.toList.length=k.size:=rfl;have:=hz.each k hk;omega
theorem SzV.ok (h:SzV v) (hl:v.keys.length≤100000) (hk:∀k ∈ v.keys,k.size≤100000):ROk c15 v where
 text:=ybt h.text yac
 keys:=⟨ybt hl yac,fun k q=>ybt (hk k q) yac⟩
 wrote:=⟨ybt h.few yac,fun k q=>ybt (h.each k q) yac⟩
 by1:=ybt h.by1 yac
 by2:=ybt h.by2 yac
 by3:=ybt h.by3 yac
theorem ShortN.pack:∀(r:List (Rv Tb Nd15)) (z:Sto Tb Nd15) (u:Rv Tb Nd15),(zai z).text=u.text→(zai z).T=u.T→(zai z).keys=u.keys→z.L.length + r.length≤64 →
 (∀(i:Nat) a b,(u::r)[i]? = some a→(u::r)[i + 1]? = some b→Beh (p15 f) a b∧zgu (p15 f) a b)→(∀v ∈ r,zbL (p15 f) v.T v.keys=0∧(v.keys.length:Int)≤z.quota∧(p15 f).comp v.text=(0,v.text,v.T)∧ROk c15 v∧SzV v) →
 ShortN f r.length z (r.flatMap (zfk c15),0)
 | [],_,_,_,_,_,_,_,_=>trivial
 | v::r,z,u,k,m,n,o,g,j=>by
  obtain ⟨p,q⟩:=g 0 u v rfl rfl;obtain ⟨s,y,A,B,f5⟩:=j v yat;rw [yaq] at o;have d:=zjK (zqz f) k m n yab p q s y A B (r.flatMap (zfk c15));rw [yaS,yaq];refine ⟨ShortR.one f5 _,fun _=>?_⟩;rw [d];exact ShortN.pack r (zaQ z v) v (by rw [zc0]) (by rw [zc0]) (by rw [zc0]) (by unfold zaQ;dsimp only;rw [yam];simp;omega) (fun i a b d hb=>g (i + 1) a b d hb) fun x C=>j x (yau _ C)
theorem ShortU.pack (hs:OkB (p15 f) s) (ht:OkT (p15 f) s) (hu:OkU (p15 f) s) (hz:SzB s) {q:Int} (hq:s.quota≤q) (hr:revB s≤9223372036854775807) (hk:∀v ∈ s.L,v.keys.length≤100000∧∀k ∈ v.keys,k.size≤100000):ShortU f q (zbi c15 s):=by
 have N:=hs.floor;have J:=hs.quota;have m:=hs.few;cases d:s.L with
 | nil=>exact absurd d hs.has
 | cons u r =>
  have g:u ∈ s.L:=by rw [d];exact yat
  have E:∀v ∈ s.L,ROk c15 v:=fun v n=>(hz v n).ok (hk v n).1 (hk v n).2;have o:=E u g;have F:revB s=s.floor + r.length:=by unfold revB;rw [d,yaq];omega
  have O:r.length≤63:=by rw [d,yaq] at m;omega
  have y:zbi c15 s=num s.floor.toNat ++ (num (revB s).toNat ++ (text u.text ++ ((num u.keys.length ++ texts u.keys) ++ r.flatMap (zfk c15)))):=by
   unfold zbi;rw [d];rfl
  have P:u.text.size<2 ^ 63:=o.text;have G:=zbw s.floor.toNat yab (num (revB s).toNat ++ (text u.text ++ ((num u.keys.length ++ texts u.keys) ++ r.flatMap (zfk c15))));have H:=zbw (revB s).toNat yab (text u.text ++ ((num u.keys.length ++ texts u.keys) ++ r.flatMap (zfk c15)));have K:=zbD u.text yab ((num u.keys.length ++ texts u.keys) ++ r.flatMap (zfk c15));have A:=zeb u.keys (fun k h=>ycd (o.keys.each k h) yac) (by have:=(hk u g).1;omega) (r.flatMap (zfk c15)) 100000;rw [yak (by have:=(hk u g).1;omega)] at A;rw [y];have B:(zaV (zbx (zbx (num s.floor.toNat ++ (num (revB s).toNat ++ (text u.text ++ ((num u.keys.length ++ texts u.keys) ++ r.flatMap (zfk c15)))),0)).2).2)=(u.text.data.toList,((num u.keys.length ++ texts u.keys) ++ r.flatMap (zfk c15),0)):=by
   rw [G];dsimp only;rw [H];dsimp only;rw [K]
  refine ⟨?_,?_,?_⟩
  · rw [B];have:=(hz u g).text;have:u.text.data.toList.length=u.text.size:=rfl;dsimp only;omega
  · rw [B];dsimp only;rw [A];intro t ht;obtain ⟨k,C,rfl⟩:=yaN.1 ht;have:k.data.toList.length=k.size:=rfl;have:=(hk u g).2 k C;omega
  · rw [B];dsimp only;rw [A,G];dsimp only;rw [H];dsimp only;intro z hb;have M:(u.keys.map fun s=>s.data.toList).map strOf=u.keys:=by
     rw [ybn];conv=>rhs;rw [←ycy u.keys]
     exact yby fun s _=>zcl s
    obtain ⟨_,_,_,_,_,_,rfl⟩:=zgA hb;rw [M,zcl] at hb ⊢;have p:zoq u.keys=u.keys:=ze8 (zed _) (hs.rise u g) fun k=>zfb;have D:(zbT q:Sto Tb Nd15).quota=q:=by unfold zbT;dsimp only;rw [yak (by omega)]
    rw [show (revB s).toNat-s.floor.toNat=r.length by omega];have j:zai (zhU (p15 f) (zbT q:Sto Tb Nd15).quota (s.floor.toNat:Int) u.text u.keys)=⟨u.text,u.T,u.keys,default,false,[]⟩:=by
     unfold zhU zai;rw [ht u g,p];rfl
    refine ShortN.pack r _ u (by rw [j]) (by rw [j]) (by rw [j]) (by unfold zhU;simp;omega) (fun i a b I hb=>⟨hs.steps i a b (by rw [d];exact I) (by rw [d];exact hb),hu.wrote i a b (by rw [d];exact I) (by rw [d];exact hb)⟩) fun v n=>?_;have x:v ∈ s.L:=by rw [d];exact yau _ n
    exact ⟨hs.fits v x,by have:=hs.most v x;show _≤(zbT q:Sto Tb Nd15).quota;rw [D];omega,ht v x,E v x,hz v x⟩
end
end
section
open Go.RowKit
section
variable {S:SpW} {f:CoF} {X Y F F':Nat→Prop} {w w':World} {g gr:Nat} {s:Sto Tb Nd15} {L:List Sp} {last:Int} {m:Mm}
theorem zoN {st:RSt} (hs:OkB (p15 f) s) (h:(zbp (p15 f) s st).1=true):revB (zbp (p15 f) s st).2.1=revB s + 1:=by
 unfold zbp zgw at h ⊢;split at h
 · rename_i b
   rw [yan b];unfold zjI at h ⊢;dsimp only at h ⊢;have e:=yaQ h;unfold zaC at e ⊢;split at e
   · rename_i d
     split at e
     · rename_i g
       split at e
       · cases e
       · rename_i m
         rw [yan d,yan g,yak m];exact zbd _ _
     · rename_i g;exact absurd e g
   · rename_i d;exact absurd e d
 · rename_i b
   rw [yak b];unfold zjJ at h ⊢;dsimp only at h ⊢;obtain ⟨_,_,_,_,_,_,k,_,_,_,j⟩:=zfj hs (yaQ h);rw [j];exact zbd _ _
theorem zqT (st:RSt):(zbx st).1<2 ^ 64:=by
 unfold zbx;split
 · exact Nat.pow_pos yac
 · split
   · exact Nat.pow_pos yac
   · rename_i h
     have e:zcm st.1=((zcm st.1).1,(zcm st.1).2.1,0):=by rw [←ycB.1 h]
     obtain ⟨_,_,_,b⟩:=take_inv e;exact b
def UpOut (S:SpW) (f:CoF) (gr:Nat) (w:World) (g:Nat) (D:Bool × Sto Tb Nd15 × RSt) (w':World):Prop:=IsR w' gr D.2.2∧Below gr w w'∧(D.1=true→∃X F L last m,StX S f gr w' g D.2.1 D.2.2 3000 X F L last m∧SzB D.2.1)
theorem unpack_any (K:SpK S) (hG:CompG f) {q:Int} {b:List UInt8} (h:StX S f gr w g (zbT q) (b,0) 0 X F L last m) (hL:L=[]) (hlast:last=0) (hq:q≤1000) (hsh:ShortU f q b) :
 Calls Tryz.prog 53 #[.pointer (some ⟨g,0,none⟩),.pointer (some ⟨gr,0,none⟩)] w fun e w'=>e = .returned (.bool (zaS (p15 f) q b).1)∧UpOut S f gr w g (zaS (p15 f) q b) w':=by
 subst hL hlast;obtain ⟨D,hD⟩:∃D,Hid (zaS (p15 f) q b=D):=⟨_,Lib.hid rfl⟩;rw [hD.out];obtain ⟨H,B,A⟩:=hsh;have p:=hD.out;clear hD;unfold zaS at p;have k1:=num_any gr (b,0) w h.rd;obtain ⟨⟨fl,Z⟩,e1⟩:∃q,zbx (b,0)=q:=⟨_,rfl⟩;rw [e1] at p H B A k1;have k2:=fun W hr=>num_any gr Z W hr;obtain ⟨⟨u,Q⟩,e2⟩:∃q,zbx Z=q:=⟨_,rfl⟩;dsimp only at p H B A k1;simp only [e2] at p H B A k2;have k3:=fun W hr=>text_any gr Q W hr;obtain ⟨⟨t3,a1⟩,e3⟩:∃q,zaV Q=q:=⟨_,rfl⟩;simp only [e3] at H B A k3;have k4:=fun W hr=>list_any gr a1 100000 yac yac W hr;have T:(100000:Int).toNat=100000:=rfl;obtain ⟨⟨l0,st4⟩,e4⟩:∃q,zcQ a1 100000=q:=⟨_,rfl⟩;simp only [e4] at B A;simp only [T,e4] at k4;have al:=zqT Z;have U:=zqT (b,0);rw [e1] at U;rw [e2] at al;dsimp only at al U;have G:=zhn a1 100000;rw [e4] at G;dsimp only at G;obtain ⟨ls,I⟩:∃ls,l0.map strOf=ls:=⟨_,rfl⟩;have b5:∀k ∈ ls,k.size≤100000:=fun k hk=>by
  rw [←I] at hk;obtain ⟨z,hz,rfl⟩:=yaN.1 hk;rw [zc9];exact B z hz
 have am:tv l0=ks ls:=by rw [←I];unfold tv ks;rw [ybn];rfl
 have a2:l0.length=ls.length:=by rw [←I,yay]
 have b6:(strOf t3).size≤1000000:=by rw [zc9];exact H
 have x:unpC (p15 f) q fl u Q=if u<fl∨64≤u-fl∨9223372036854775807<u then (false,zbT q,Q) else match zcU (p15 f) (zbT q:Sto Tb Nd15).quota fl (strOf t3) ls with
  | none=>(false,zbT q,st4)
  | some s=>zkl (p15 f) (u-fl) s st4:=by
  unfold unpC unpE;rw [e3];dsimp only;rw [e4];dsimp only;rw [I];cases zcU (p15 f) (zbT q:Sto Tb Nd15).quota fl (strOf t3) ls <;> rfl
 rw [x] at p;rw [I] at A;rw [a2] at G;simp only [am,a2] at k4;generalize strOf t3=x3 at *
 clear x e1 e2 e3 e4 T I am a2 H B;go_enter Tryz.func53,Tryz.ntmps53
 go_upto_region 2 with (first
  | (with_reducible refine k1.mono ?_;rintro e w1 ⟨rfl,a6,a7⟩;have h1:=h.read K a7 a6)
  | (with_reducible refine (k2 _ a6).mono ?_;rintro e w2 ⟨rfl,an,a8⟩;have h2:=h1.read K a8 an)
  | fail)
 have b7:=h.rd.lt;have aa:=(zbS a7 b7).trans (zbS a8 h1.rd.lt);clear k1 k2 a6 an a7 a8 h1;by_cases c0:u<fl∨64≤u-fl∨9223372036854775807<u
 · rw [yan c0] at p;have ao:∀W,W=w2→Hid (D.1=false∧UpOut S f gr w g D W):=fun W e=>Lib.hid (by
    subst e;rw [←p];exact ⟨rfl,h2.rd,aa,fun q=>by cases q⟩)
   clear p k3 k4;have aq:((u:Int)<(fl:Int))∨(¬((u:Int)<(fl:Int))∧IntKind.u64.wrap ((u:Int)-(fl:Int))=((u-fl:Nat):Int)∧(64:Int)≤((u-fl:Nat):Int))∨(¬((u:Int)<(fl:Int))∧IntKind.u64.wrap ((u:Int)-(fl:Int))=((u-fl:Nat):Int)∧¬(64:Int)≤((u-fl:Nat):Int)∧(9223372036854775807:Int)<(u:Int)):=by
    by_cases d1:u<fl
    · exact .inl yab
    · have e:IntKind.u64.wrap ((u:Int)-(fl:Int))=((u-fl:Nat):Int):=by rw [show (u:Int)-(fl:Int)=((u-fl:Nat):Int) by omega];exact IntWalk.u64_in _ ⟨by omega,by omega⟩
      by_cases d2:64≤u-fl
      · exact .inr (.inl ⟨by omega,e,by omega⟩)
      · exact .inr (.inr ⟨by omega,e,by omega,by omega⟩)
   clear c0;generalize u-fl=n at *
   rcases aq with d1 | ⟨d1,d2,d3⟩ | ⟨d1,d2,d3,d4⟩;all_goals (
    go_wp2_with fail
    go_ret
    have:=(ao _ rfl).out;exact ⟨by rw [this.1];rfl,this.2⟩)
 · rw [yak c0] at p;have d1:¬((u:Int)<(fl:Int)):=by omega
   have d2:IntKind.u64.wrap ((u:Int)-(fl:Int))=((u-fl:Nat):Int):=by rw [show (u:Int)-(fl:Int)=((u-fl:Nat):Int) by omega];exact IntWalk.u64_in _ ⟨by omega,by omega⟩
   have d3:¬(64:Int)≤((u-fl:Nat):Int):=by omega
   have d4:¬(9223372036854775807:Int)<(u:Int):=by omega
   obtain ⟨n,hn⟩:∃n,u-fl=n:=⟨_,rfl⟩;rw [hn] at d2 d3 p A;have bf:n<64:=by omega
   have J:u=fl + n∧u≤9223372036854775807:=by omega
   have b8:(fl:Int)≤9223372036854775807:=by omega
   have bg:IntKind.i64.wrap (fl:Int)=(fl:Int):=IntWalk.i64_in _ ⟨by omega,by omega⟩;replace J:=Lib.hid J;clear c0 hn;obtain ⟨o,ho⟩:∃o,zcU (p15 f) (zbT q:Sto Tb Nd15).quota fl x3 ls=o:=⟨_,rfl⟩;rw [ho] at p;have ar:0≤(zbT q:Sto Tb Nd15).quota∧(zbT q:Sto Tb Nd15).quota≤40000:=by
    show 0≤(if q<0 then 0 else q)∧(if q<0 then 0 else q)≤40000;split <;> omega
   replace p:=Lib.hid p;go_upto_region 4 with (fail)
   clear d3 d4;go_wp2_with (first
    | (with_reducible refine (k3 _ h2.rd).mono ?_;rintro e w3 ⟨rfl,ab,ac⟩;have h3:=h2.read K ac ab)
    | (with_reducible refine (k4 _ ab).mono ?_;rintro e w4 ⟨v4,rfl,M,au,ad⟩;obtain ⟨A4,c4,rfl,_⟩:=Rd.own M;have h4:=h3.read K ad au)
    | fail)
   have av:KeyX X w4 A4 c4 ls:=fun W hW=>zqx (zau M fun j hj=>hW.2 j (M.lt j hj).2 fun q=>by have:=h3.sto.lt j q;have:=(M.lt j hj).1;omega);have kb:=begin_any K hG.is h4.sto rfl av ar.1 ar.2 b8 b6 G b5;rw [ho] at kb;refine kb.mono ?_;rintro e w5 ⟨rfl,X5,F5,ae,aw⟩;clear kb av;have af:Below (gr + 1) w4 w5:=ae.own.rest (gr + 1) h4.rd.lt fun b q=>h4.ahead b q;have ax:=((aa.trans (zbS ac h2.rd.lt)).trans (zbS ad h3.rd.lt)).trans (af.mono (ya8 _));have ay:=h4.rd.below af (ycs _);clear k3 k4 ab au ac ad h2 h3 M af aa;cases o with
   | none =>
    have x:=p.out;dsimp only at x;replace x:=Lib.hid x;clear p;go_wp2_with fail
    go_ret
    rw [←x.out];exact ⟨rfl,ay,ax,fun q=>by cases q⟩
   | some s =>
    obtain ⟨L',b9,m',az,ba⟩:=aw s rfl;have x:=p.out;dsimp only at x;obtain ⟨_,_,bb,_,_,_,ag⟩:=zgA ho;have bc:(zbT q:Sto Tb Nd15).quota≤1000:=by
     show (if q<0 then 0 else q)≤1000;split <;> omega
    obtain ⟨h5,_⟩:=h4.moved az ae (n':=1000) yab;have bd:SzB s:=by rw [ag];exact SzB.begin hG
    have ah:revB s=fl:=by rw [ag];exact zcT _ _ _ _ _
    have ai:=A s ho;replace x:=Lib.hid x;replace ai:=Lib.hid ai;replace ah:=Lib.hid ah;clear p A aw az ae ba ag ho bb bc h4 ay;go_wp2_with fail
    go_loopw [36] (fun vi wx=>∃(i:Nat) (V:Sto Tb Nd15) (st:RSt) (X1 F1:Nat→Prop) (L1:List Sp) (l1:Int) (m1:Mm),vi = .int .u64 i∧i≤n∧Hid (zkl (p15 f) (n-i) V st=D)∧StX S f gr wx g V st (1000 + 16 * i) X1 F1 L1 l1 m1∧Below gr w wx∧Hid (ShortN f (n-i) V st)∧SzB V∧Hid (revB V=fl + i)) (fun vi _=>n-(intOf vi).toNat)
    case atStart=>exact ⟨0,s,st4,_,_,_,_,_,rfl,yap _,x,h5,ax,ai,bd,Lib.hid (by rw [ah.out];simp)⟩
    case round =>
     obtain ⟨i,V,st,X1,F1,L1,l1,m1,rfl,hi,hd,R,hB,b0,b1,N⟩:=hrel;by_cases bh:i<n
     · have di:(i:Int)<(n:Int):=by omega
       obtain ⟨j,hj⟩:∃j,n-i=j + 1:=⟨n-i-1,by omega⟩;have d:=hd.out;have b2:=b0.out;rw [hj] at d b2;unfold zkl at d;obtain ⟨aj,O⟩:=b2;have b3:j=n-(i + 1):=by omega
       have Y:revB V + 1≤9223372036854775807:=by
        have:=N.out;have:=J.out;omega
       have ka:=again_any K hG.is R aj.a Y yab;have P:=SzB.again hG b1 R.sto.ok aj;have y:=zoN (st:=st) R.sto.ok;rw [N.out] at y;have iw:IntKind.u64.wrap ((i:Int) + 1)=((i + 1:Nat):Int):=by rw [show (i:Int) + 1=((i + 1:Nat):Int) by omega];exact IntWalk.u64_in _ ⟨by omega,by omega⟩
       obtain ⟨⟨ok,s2,b4⟩,hE⟩:∃E,zbp (p15 f) V st=E:=⟨_,rfl⟩;rw [hE] at d O ka P y;dsimp only at d O ka P y;replace O:=Lib.hid O;replace y:=Lib.hid y;clear hd b0 hE aj Y N;cases ok with
       | true =>
        rw [yan rfl,b3] at d;replace d:=Lib.hid d;go_wp2_with (go_at_call 96;refine ka.mono ?_;rintro e w6 ⟨rfl,X6,F6,L6,l6,m6,C,ak⟩)
        refine ⟨⟨i + 1,s2,b4,X6,F6,L6,l6,m6,by go_num,by omega,d,⟨C.sto,C.rd,C.inX,C.ahead,yax C.len yab⟩,hB.trans ak,Lib.hid (by rw [←b3];exact O.out yaf),P,Lib.hid (by have:=y.out yaf;rw [this];omega)⟩,by simp [intOf];omega⟩
       | false =>
        rw [yak (by decide)] at d;replace d:=Lib.hid d;go_wp2_with (go_at_call 96;refine ka.mono ?_;rintro e w6 ⟨rfl,X6,F6,L6,l6,m6,C,ak⟩)
        go_ret
        rw [←d.out];exact ⟨rfl,C.rd,hB.trans ak,fun q=>by cases q⟩
     · obtain rfl:i=n:=by omega
       have di:¬(((i:Nat):Int)<(i:Int)):=by omega
       have d:=hd.out;rw [yct] at d;unfold zkl at d;replace d:=Lib.hid d;go_wp2_with fail
       go_ret
       rw [←d.out];exact ⟨rfl,R.rd,hB,fun _=>⟨X1,F1,L1,l1,m1,⟨R.sto,R.rd,R.inX,R.ahead,yax R.len yab⟩,b1⟩⟩
end
end
section
open Go.RowKit
section
variable {S:SpW} {f:CoF} {X Y F F':Nat→Prop} {w w':World} {g gr:Nat} {s:Sto Tb Nd15} {L:List Sp} {last:Int} {m:Mm}
theorem StM.newedX (K:SpK S) {w1:World} {F1 X:Nat→Prop} {gs:Nat} {q qq:Int} (hS:S w1 F1 gs [] 0) (hq:(zbT q:Sto Tb Nd15).quota=qq) (hF:∀b,b=w1.heap.size∨F1 b→X b) (hX:∀b,X b→b≤w1.heap.size) :
 StM S f X (w1.alloc (.cells #[.pointer (some ⟨gs,0,none⟩),.int .i64 qq,.int .i64 0,.string ⟨#[]⟩,.slice none 0 0,.map none,.slice none 0 0,.slice none 0 0] 80)) (fun j=>j=w1.heap.size∨F1 j) w1.heap.size (zbT q) [] 0 ⟨gs,F1,noTm,none,0,[]⟩:=by
 subst hq;have k:(w1.alloc (.cells #[.pointer (some ⟨gs,0,none⟩),.int .i64 (zbT q:Sto Tb Nd15).quota,.int .i64 0,.string ⟨#[]⟩,.slice none 0 0,.map none,.slice none 0 0,.slice none 0 0] 80)).heap.size=w1.heap.size + 1:=by simp
 exact ⟨{
  box:=Rk.new w1 _ _
  sp:=K.keep hS fun b hb=>Below.heap_alloc _ _ _ (K.lt hS b hb)
  row:=World.ownsRow_nil _ _ _ _
  own:=fun j=>by simp [Value.ownBlock]
  g0:=fun q=>Nat.lt_irrefl _ (K.lt hS _ q)
  r0:=fun j g=>by simp [Value.ownBlock] at g
  sub:=hF
  lt:=fun j q=>by have:=hX j q;omega
  head:=⟨zjE,rfl,rfl,rfl⟩
  first:=zqj _ _
  each:=fun x d=>by cases d
  revs:=fun i x hi=>by simp at hi
  fl0:=ybp _
  most:=by simp [revB,zbT]
  few:=yap _
  keys:=fun x d=>by cases d
  len:=yap _
  fine:=FineS.nil },SpB.new q,OkB.new _ q⟩
theorem zmN (K:SpK S) (q:Int) (w:World) :
 Calls Tryz.prog 11 #[.int .i64 q] w fun e w'=>∃g F m,e = .returned (.pointer (some ⟨g,0,none⟩))∧(∀X:Nat→Prop,(∀b,F b→X b)→(∀b,X b→b<w'.heap.size)→StM S f X w' F g (zbT q) [] 0 m)∧(∀b,F b→w.heap.size≤b∧b<w'.heap.size)∧Below w.heap.size w w':=by
 have j:=K.new w;go_enter Tryz.func11,Tryz.ntmps11
 go_wp2_with (go_at_call 32;refine j.mono ?_;rintro e p ⟨g,s,rfl,hS,k,d⟩)
 go_ret
 exact ⟨_,_,_,rfl,fun X n o=>StM.newedX K hS (by show (if q<0 then 0 else q)=max q 0;split <;> omega) n (fun b hb=>by have:=o b hb;simp at this;omega),fun b hb=>by
  rcases hb with rfl | hb
  · exact ⟨d.size,by simp⟩
  · exact ⟨k b hb,by have:=K.lt hS b hb;simp;omega⟩,d.alloc d.size _⟩
def znm (U:Bool × Sto Tb Nd15 × RSt) (b:List UInt8):Int:=if U.2.2.2≠0 then (U.2.2.2:Nat) else if U.1=true∧zbi c15 U.2.1=b then 0 else 11
def UnkOut (S:SpW) (f:CoF) (w:World) (U:Bool × Sto Tb Nd15 × RSt) (b:List UInt8) (p:Option Addr) (w':World):Prop:=Below w.heap.size w w'∧(znm U b≠0→p=none)∧(znm U b=0→U.1=true∧zbi c15 U.2.1=b∧∃g X F L last m,p=some ⟨g,0,none⟩∧StM S f X w' F g U.2.1 L last m∧SzB U.2.1∧L.length≤3000∧∀b,F b→w.heap.size≤b)
theorem unk_any (K:SpK S) (hG:CompG f) {A:Option Addr} {c:Nat} {b:List UInt8} {q:Int} (h:Rd w w.heap.size 1 A b.length c (bv b)) (hb:b.length≤100000000000) (hq:q≤1000) (hsh:ShortU f q b) :
 Calls Tryz.prog 16 #[.slice A b.length c,.int .i64 q] w fun e w'=>∃p,e = .returned (.tuple #[.pointer p,.int .i64 (znm (zaS (p15 f) q b) b)])∧UnkOut S f w (zaS (p15 f) q b) b p w':=by
 have X:=open_any A b.length c b w h hb;have Y:=fun W=>zmN (f:=f) K q W;obtain ⟨⟨ok,s,D⟩,N⟩:∃U,Hid (zaS (p15 f) q b=U):=⟨_,Lib.hid rfl⟩;rw [N.out];go_enter Tryz.func16,Tryz.ntmps16
 go_upto_region 3 with (first
  | (go_at_call 52;refine X.mono ?_;rintro e w1 ⟨O,rfl,P,n,y⟩)
  | (go_at_call 11;refine (Y _).mono ?_;rintro e w2 ⟨g,F,m,rfl,Z,Q,u⟩)
  | fail)
 have hX:StX S f O w2 g (zbT q) (b,0) 0 (fun j=>F j∨j=O) F [] 0 m:=⟨Z _ (fun _ q=>.inl q) (fun j q=>by
  rcases q with q | rfl
  · exact (Q j q).2
  · exact yaw n.lt u.size),n.below u n.lt,.inr rfl,fun j q=>yaw n.lt (Q j q).1,yaj _⟩
 have L:=unpack_any K hG hX rfl rfl hq hsh;have E:=zad y y.size u;rw [N.out] at L;dsimp only at L;clear X Y Z hX hsh N n y u;obtain ⟨sc,z⟩:∃sc:Nat,D.2=sc:=⟨_,rfl⟩;go_upto_region 4 with (go_at_call 53;refine L.mono ?_;rintro e w3 ⟨rfl,G,R,T⟩;have H:=err_any O D w3 G)
 have d:Below w.heap.size w w3:=E.trans (R.mono P);have I:=h.up d;rw [z] at H;clear L G E Q;by_cases V:sc=0
 · subst V;cases ok with
   | false =>
    go_wp2_with (go_at_call 54;refine H.mono ?_;rintro e J ⟨rfl,rfl⟩)
    refine bodyPost_ret (v:=.tuple #[.pointer none,.int .i64 11]) (by simp [results,Tryz.results16,go_sem]) rfl ?_;have o:znm (false,s,D) b=11:=by unfold znm;dsimp only;rw [yak yab,yak (by rintro ⟨a,_⟩;cases a)]
    rw [o];exact ⟨none,rfl,d,fun _=>rfl,fun q=>by rw [o] at q;cases q⟩
   | true =>
    obtain ⟨X3,F3,L3,l3,m3,M,hz⟩:=T rfl;have kp:=pack_any K M.sto hz;obtain ⟨eq,x⟩:∃eq,decide (zbi c15 s=b)=eq:=⟨_,rfl⟩;have o:znm (true,s,D) b=if eq=true then 0 else 11:=by
     unfold znm;dsimp only;rw [z,yak yab,←x];by_cases e:zbi c15 s=b
     · rw [yan ⟨rfl,e⟩,yan (yaD e)]
     · rw [yak fun q=>e q.2,yak (by simpa using e)]
    cases eq with
    | true =>
     go_wp2_with (first
      | (go_at_call 54;refine H.mono ?_;rintro e J ⟨rfl,rfl⟩)
      | (go_at_call 15;refine kp.mono ?_;rintro e J ⟨⟨v4,rfl,B⟩,k⟩;obtain ⟨A4,c4,rfl,C⟩:=Rd.own B;have kq:=equal_any C (I.up k);rw [x] at kq)
      | (go_at_call 55;refine kq.mono ?_;rintro e w5 ⟨rfl,rfl⟩)
      | fail)
     refine bodyPost_ret (v:=.tuple #[.pointer (some ⟨g,0,none⟩),.int .i64 0]) (by simp [results,Tryz.results16,go_sem]) rfl ?_;rw [o];refine ⟨some ⟨g,0,none⟩,rfl,d.trans (k.mono d.size),fun q=>?_,fun _=>⟨rfl,yaQ x,g,X3,F3,L3,l3,m3,rfl,M.sto.up K k,hz,M.len,fun j q=>by have:=M.ahead j q;omega⟩⟩;rw [o] at q;exact absurd rfl q
    | false =>
     go_wp2_with (first
      | (go_at_call 54;refine H.mono ?_;rintro e J ⟨rfl,rfl⟩)
      | (go_at_call 15;refine kp.mono ?_;rintro e J ⟨⟨v4,rfl,B⟩,k⟩;obtain ⟨A4,c4,rfl,C⟩:=Rd.own B;have kq:=equal_any C (I.up k);rw [x] at kq)
      | (go_at_call 55;refine kq.mono ?_;rintro e w5 ⟨rfl,rfl⟩)
      | fail)
     refine bodyPost_ret (v:=.tuple #[.pointer none,.int .i64 11]) (by simp [results,Tryz.results16,go_sem]) rfl ?_;rw [o];exact ⟨none,rfl,d.trans (k.mono d.size),fun _=>rfl,fun q=>by rw [o] at q;cases q⟩
 · have d1:((sc:Int) == 0)=false:=by simpa using V
   go_wp2_with (go_at_call 54;refine H.mono ?_;rintro e J ⟨rfl,rfl⟩)
   refine bodyPost_ret (v:=.tuple #[.pointer none,.int .i64 (sc:Nat)]) (by simp [results,Tryz.results16,go_sem]) rfl ?_;have o:znm (ok,s,D) b=(sc:Nat):=by unfold znm;dsimp only;rw [z,yan V]
   rw [o];exact ⟨none,rfl,d,fun _=>rfl,fun q=>by rw [o] at q;omega⟩
end
end
section
open Go.RowKit
structure KpZ (Z:Nat→Prop) (w w':World):Prop where
 base:Below 0 w w'
 old:∀b,Z b→w'.heap[b]? = w.heap[b]?
theorem KpZ.below {Z:Nat→Prop} {w w':World} {B:Nat} (h:KpZ Z w w') (hZ:∀b,b<B→Z b):Below B w w':=⟨h.base.os,h.base.tape,h.base.output,h.base.size,fun b q=>h.old b (hZ b q)⟩
def Ib (S:SpW) (f:CoF) (Z:Nat→Prop) (w:World) (g:Nat) (s:Sto Tb Nd15) (n:Nat):Prop:=∃X F L last m,StM S f X w F g s L last m∧(∀b,F b→¬Z b)∧(∀b,Z b→b<w.heap.size)∧L.length≤n
section
variable {S:SpW} {f:CoF} {X Y F F' Z:Nat→Prop} {w w':World} {g n:Nat} {s:Sto Tb Nd15}
theorem Ib.up (K:SpK S) (h:Ib S f Z w g s n) (hb:Below w.heap.size w w'):Ib S f Z w' g s n:=by
 obtain ⟨X,F,L,d,m,h,j,k,o⟩:=h;exact ⟨X,F,L,d,m,h.up K hb,j,fun b q=>yaw (k b q) hb.size,o⟩
theorem Ib.more (K:SpK S) (h:Ib S f Z w g s n) (hb:Below w.heap.size w w') {Z':Nat→Prop} (hz:∀b,Z' b→(Z b∨w.heap.size≤b)∧b<w'.heap.size):Ib S f Z' w' g s n:=by
 obtain ⟨X,F,L,d,m,h,j,o,k⟩:=h;exact ⟨X,F,L,d,m,h.up K hb,fun b q z=>by
  rcases (hz b z).1 with z | z
  · exact j b q z
  · have:=h.lt b (h.sub b q);omega,fun b q=>(hz b q).2,k⟩
theorem Ib.ok (h:Ib S f Z w g s n):OkB (p15 f) s∧revB s≤9223372036854775807:=by
 obtain ⟨X,F,L,b,m,h,d,j,k⟩:=h;exact ⟨h.ok,h.most⟩
theorem Ib.in_ (h:Ib S f Z w g s n):∀b,Z b→b<w.heap.size:=by
 obtain ⟨X,F,L,d,m,h,k,j,o⟩:=h;exact j
theorem Ib.small (h:Ib S f Z w g s n) (r:Int):(∀k ∈ (atB s r).keys,k.size≤100000)∧(atB s r).keys.length≤50000:=by
 obtain ⟨X,F,L,b,m,h,d,j,o⟩:=h;exact h.small r
theorem Ib.of (hw:Wrote S f X F w g s n w') (hF:∀b,F b→¬Z b) (hZ:∀b,Z b→b<w.heap.size):Ib S f Z w' g s n∧KpZ Z w w':=by
 obtain ⟨k,m,o,d,p,u,j,x⟩:=hw;refine ⟨⟨k,m,o,d,p,u,fun b q z=>?_,fun b q=>yaw (hZ b q) j.own.le,x⟩,j.own.rest 0 (yap _) (fun _ _=>yap _),fun b q=>j.own.old b (hZ b q) fun z=>hF b z q⟩;rcases j.own.grow b q with q | q
 · exact hF b q z
 · have:=hZ b z;omega
theorem Ib.write (K:SpK S) (h:Ib S f Z w g s n) {A1 A2:Option Addr} {c1 c2:Nat} {p d:List (TuP × Bool)} (b1 b2 b3:ByteArray) (h1:Rd w w.heap.size 7 A1 p.length c1 (p.flatMap zco)) (h2:Rd w w.heap.size 7 A2 d.length c2 (d.flatMap zco)) (hkp:∀x ∈ p,(zbu x.1).size≤100000) (hkd:∀x ∈ d,(zbu x.1).size≤100000) (hmax:revB s + 1≤9223372036854775807) (hn:n + 16≤50000) :
 Calls Tryz.prog 12 #[.pointer (some ⟨g,0,none⟩),.agg #[.string b1,.string b2,.string b3],.slice A1 p.length c1,.slice A2 d.length c2] w fun e w'=>e = .returned (.tuple #[.int .i64 (zaA (p15 f) s (b1,b2,b3) p d).2.1,.int .i64 ((zaA (p15 f) s (b1,b2,b3) p d).2.2:Nat)])∧Ib S f Z w' g (zaA (p15 f) s (b1,b2,b3) p d).1 (n + 16)∧KpZ Z w w':=by
 obtain ⟨X,F,L,j,m,h,k,o,D⟩:=h;refine (write_any K h b1 b2 b3 h1 h2 hkp hkd hmax yab).mono ?_;rintro e w' ⟨h1,q,u,y,b,z,A,B,C⟩;exact ⟨h1,Ib.of ⟨q,u,y,b,z,A,B,by omega⟩ k o⟩
theorem Ib.define (K:SpK S) (hF:zoJ f) (h:Ib S f Z w g s n) (b1 b2 b3 x:ByteArray) (hx:x.size≤1000000) (hmax:revB s + 1≤9223372036854775807) :
 Calls Tryz.prog 13 #[.pointer (some ⟨g,0,none⟩),.agg #[.string b1,.string b2,.string b3],.string x] w fun e w'=>e = .returned (.int .i64 (zaC (p15 f) s (b1,b2,b3) x).2)∧Ib S f Z w' g (zaC (p15 f) s (b1,b2,b3) x).1 n∧KpZ Z w w':=by
 obtain ⟨X,F,L,b,m,h,d,j,k⟩:=h;refine (define_any K hF h b1 b2 b3 x hx hmax).mono ?_;rintro e w' ⟨o,p,q,u,y,z⟩;exact ⟨o,Ib.of ⟨p,q,L,b,u,y,z,k⟩ d j⟩
theorem iv_new (K:SpK S) (q:Int) (w:World) :
 Calls Tryz.prog 11 #[.int .i64 q] w fun e w'=>∃g,e = .returned (.pointer (some ⟨g,0,none⟩))∧Ib S f (·<w.heap.size) w' g (zbT q) 0∧Below w.heap.size w w':=by
 refine (zmN (f:=f) K q w).mono ?_;rintro e w' ⟨g,F,m,rfl,j,d,hb⟩;exact ⟨g,rfl,⟨F,F,[],0,m,j F (fun _ q=>q) fun b q=>(d b q).2,fun b q z=>by have:=(d b q).1;omega,fun b q=>yaw q hb.size,yaj _⟩,hb⟩
theorem Ib.pack (K:SpK S) (h:Ib S f Z w g s n) (hz:SzB s) :
 Calls Tryz.prog 15 #[.pointer (some ⟨g,0,none⟩)] w fun e w'=>∃A c,e = .returned (.slice A (zbi c15 s).length c)∧w'.ownsRow w.heap.size 5 1 (.slice A (zbi c15 s).length c) (zbi c15 s).length (bv (zbi c15 s))∧Below w.heap.size w w':=by
 obtain ⟨X,F,L,b,m,h,j,k,o⟩:=h;refine (pack_any K h hz).mono ?_;rintro e w' ⟨⟨v,rfl,d⟩,hb⟩;obtain ⟨A,c,rfl,_⟩:=Rd.own d;exact ⟨A,c,rfl,d,hb⟩
theorem Ib.has (K:SpK S) (h:Ib S f Z w g s n) (r:Int) (u:TuP) (hu:(zbu u).size≤100000) :
 Calls Tryz.prog 28 #[.pointer (some ⟨g,0,none⟩),.int .i64 r,zf0 u] w fun e w'=>e = .returned (.bool (hasK (atB s r).keys (zbu u)))∧Below w.heap.size w w':=by
 obtain ⟨X,F,L,b,m,h,d,j,k⟩:=h;exact shas15_any K h r u hu
theorem Ib.rev (h:Ib S f Z w g s n):Calls Tryz.prog 17 #[.pointer (some ⟨g,0,none⟩)] w fun e w'=>e = .returned (.int .i64 (revB s))∧Below w.heap.size w w':=by
 obtain ⟨X,F,L,b,m,h,d,j,k⟩:=h;exact zcP h.toStR
theorem Ib.live (K:SpK S) (h:Ib S f Z w g s n):Calls Tryz.prog 19 #[.pointer (some ⟨g,0,none⟩)] w fun e w'=>e = .returned (.int .i64 (zai s).keys.length)∧Below w.heap.size w w':=by
 obtain ⟨X,F,L,b,m,h,d,j,k⟩:=h;exact live15_any K h
theorem Ib.tuples (K:SpK S) (h:Ib S f Z w g s n) (r:Int) :
 Calls Tryz.prog 20 #[.pointer (some ⟨g,0,none⟩),.int .i64 r] w fun e w'=>(∃A c,e = .returned (.slice A (atB s r).keys.length c)∧Rd w' w'.heap.size 6 A (atB s r).keys.length c (((atB s r).keys.map ofT).flatMap zeE))∧Below w.heap.size w w':=by
 obtain ⟨X,F,L,b,m,h,d,j,k⟩:=h;exact tuples_any K h r
theorem zpB (K:SpK S) (hG:CompG f) {A:Option Addr} {c:Nat} {b:List UInt8} {q:Int} (h:Rd w w.heap.size 1 A b.length c (bv b)) (hb:b.length≤100000000000) (hq:q≤1000) (hsh:ShortU f q b) :
 Calls Tryz.prog 16 #[.slice A b.length c,.int .i64 q] w fun e w'=>∃p,e = .returned (.tuple #[.pointer p,.int .i64 (znm (zaS (p15 f) q b) b)])∧Below w.heap.size w w'∧(znm (zaS (p15 f) q b) b≠0→p=none)∧(znm (zaS (p15 f) q b) b=0→zbi c15 (zaS (p15 f) q b).2.1=b∧SzB (zaS (p15 f) q b).2.1∧∃g,p=some ⟨g,0,none⟩∧Ib S f (·<w.heap.size) w' g (zaS (p15 f) q b).2.1 3000):=by
 refine (unk_any K hG h hb hq hsh).mono ?_;rintro e w' ⟨p,rfl,j,k,n⟩;refine ⟨p,rfl,j,k,fun e=>?_⟩;obtain ⟨_,o,g,X,F,L,d,m,rfl,s,u,x,y⟩:=n e;exact ⟨o,u,g,rfl,X,F,L,d,m,s,fun b q z=>by have:=y b q;omega,fun b q=>yaw q j.size,x⟩
theorem unp_same {s:Sto Tb Nd15} {u v:Rv Tb Nd15} {r:List (Rv Tb Nd15)} (e:s.L=u::r) (h:Alike u v) (q:Int):revB (⟨s.floor,v::r,q⟩:Sto Tb Nd15)=revB s∧(∀k,(atB (⟨s.floor,v::r,q⟩:Sto Tb Nd15) k).keys=(atB s k).keys)∧SameB { s with quota:=q } ⟨s.floor,v::r,q⟩:=by
 have hS:SameB { s with quota:=q } ⟨s.floor,v::r,q⟩:=⟨rfl,rfl,u,v,r,e,rfl,h⟩;exact ⟨hS.rev.symm,fun k=>((hS.at_ k).1.keys).symm,hS⟩
theorem unk_pack (hs:OkB (p15 f) s) (ht:OkT (p15 f) s) (hu:OkU (p15 f) s) (hz:SzB s) {q:Int} (hq:s.quota≤q) (hr:revB s≤9223372036854775807) (hk:∀v ∈ s.L,v.keys.length≤100000∧∀k ∈ v.keys,k.size≤100000) :
 ShortU f q (zbi c15 s)∧znm (zaS (p15 f) q (zbi c15 s)) (zbi c15 s)=0∧(zaS (p15 f) q (zbi c15 s)).2.1.floor=s.floor∧revB (zaS (p15 f) q (zbi c15 s)).2.1=revB s∧(∀k,(atB (zaS (p15 f) q (zbi c15 s)).2.1 k).keys=(atB s k).keys)∧SameB { s with quota:=q } (zaS (p15 f) q (zbi c15 s)).2.1:=by
 obtain ⟨v,u,r,g,j,m⟩:=zl7 (zqz f) hs ht hu (fun v b=>(hz v b).ok (hk v b).1 (hk v b).2) hq hr fun v b=>(hk v b).1;obtain ⟨n,o,d⟩:=unp_same g j q;have p:zbi c15 s=zbi c15 ({ s with quota:=q }:Sto Tb Nd15):=rfl;have x:=ShortU.pack hs ht hu hz hq hr hk;rw [m];refine ⟨x,?_,rfl,n,o,d⟩;unfold znm;dsimp only;rw [yak yac,yan ⟨rfl,by rw [p];exact (d.pack (c:=c15)).symm⟩]
theorem Ib.keys (h:Ib S f Z w g s n):∀v ∈ s.L,v.keys.length≤100000∧∀k ∈ v.keys,k.size≤100000:=fun v b=>by
 obtain ⟨i,hi⟩:=List.mem_iff_getElem?.1 b;have e:=zeJ hi;have k:=h.small (s.floor + i);rw [e] at k;exact ⟨by omega,k.1⟩
theorem Ib.packLen (h:Ib S f Z w g s n) (hz:SzB s):(zbi c15 s).length≤100000000000:=by
 have hk:=h.small s.floor;obtain ⟨X,F,L,k,m,h,A,B,C⟩:=h;obtain ⟨u,d,o,_⟩:=h.head;have q:=h.floor0;have j:=h.most;have p:=h.rev_eq;have b:=h.few;have D:=zb9 (n:=s.floor.toNat) yab;have E:=zb9 (n:=(revB s).toNat) yab;have G:=zdQ (s:=m.t.tx) (by rw [←o];have:=(hz u (by rw [d];exact yat)).text;omega);have y:=(hz u (by rw [d];exact yat)).text;rw [o] at y;have H:=zb9 (n:=(atB s s.floor).keys.length) yab;have I:=zff (l:=(atB s s.floor).keys) (n:=100000) yac hk.1;have J:=zlT (l:=m.l) fun x z=>hz x.v (by rw [d];exact yau _ (ybj z));have K:(atB s s.floor).keys.length * (100000 + 9)≤50000 * (100000 + 9):=ybo _ hk.2;have M:m.l.length * 5000000≤63 * 5000000:=ybo _ b;rw [zmU h.toStR];simp only [yam];omega
end
end
section
open Go.RowKit
def zjC:List TypP:=[⟨⟨#[117,115,101,114]⟩,[]⟩,⟨⟨#[100,111,99]⟩,[⟨⟨#[114,101,97,100]⟩,⟨#[114,101,97,100]⟩,⟨#[114,101,97,100]⟩,⟨#[114,101,97,100]⟩,[(⟨#[117,115,101,114]⟩,⟨#[]⟩)],[(1,⟨#[]⟩,⟨#[]⟩)]⟩]⟩]
theorem zdW:zak ⟨#[116,121,112,101,32,117,115,101,114,32,123,125,32,116,121,112,101,32,100,111,99,32,123,32,114,101,108,32,114,101,97,100,32,40,114,101,97,100,44,32,114,101,97,100,44,32,114,101,97,100,41,58,32,117,115,101,114,59,32,125]⟩=(zjC,0,0):=by decide +kernel
theorem zgM:zbq (zjC.map zcv)=[]:=by decide +kernel
theorem zj5:(zcV (zjC.map zcv)).1=0:=by decide +kernel
theorem exR_sol:Sol 1 (zbq (zjC.map zcv)) (fun _=>0):=by
 rw [zgM];exact ⟨fun i _=>by dsimp only;omega,fun e b=>by cases b⟩
theorem zmr:¬2048<(zdu zjC).size:=by decide +kernel
theorem exR_rels (v:List Int):zix (zjC.map zcv) v=[zem (za4 (zjC.map zcv)) (zb5 v 0) ((zbc (zjC.map zcv)).getD 0 (⟨⟨#[]⟩,[]⟩,⟨⟨#[]⟩,⟨#[]⟩,⟨#[]⟩,⟨#[]⟩,[],[]⟩))]:=rfl
theorem exR_subs (lv:Int):(zem (za4 (zjC.map zcv)) lv ((zbc (zjC.map zcv)).getD 0 (⟨⟨#[]⟩,[]⟩,⟨⟨#[]⟩,⟨#[]⟩,⟨#[]⟩,⟨#[]⟩,[],[]⟩))).subs=[(⟨#[117,115,101,114]⟩,⟨#[]⟩)]:=by kernel_rfl
theorem compR {err:Nat} {tx:ByteArray} {ty:List ByteArray} {ps:List Path} {Q:List RelT} (h:CompIs ⟨#[116,121,112,101,32,117,115,101,114,32,123,125,32,116,121,112,101,32,100,111,99,32,123,32,114,101,108,32,114,101,97,100,32,40,114,101,97,100,44,32,114,101,97,100,44,32,114,101,97,100,41,58,32,117,115,101,114,59,32,125]⟩ err tx ty ps Q):err=0∧ty=[⟨#[117,115,101,114]⟩,⟨#[100,111,99]⟩]∧ps=[(⟨#[100,111,99]⟩,⟨#[114,101,97,100]⟩)]∧∃r,Q=[r]∧r.subs=[(⟨#[117,115,101,114]⟩,⟨#[]⟩)]:=by
 have d:(zak ⟨#[116,121,112,101,32,117,115,101,114,32,123,125,32,116,121,112,101,32,100,111,99,32,123,32,114,101,108,32,114,101,97,100,32,40,114,101,97,100,44,32,114,101,97,100,44,32,114,101,97,100,41,58,32,117,115,101,114,59,32,125]⟩).1=zjC:=by rw [zdW]
 have m:(zak ⟨#[116,121,112,101,32,117,115,101,114,32,123,125,32,116,121,112,101,32,100,111,99,32,123,32,114,101,108,32,114,101,97,100,32,40,114,101,97,100,44,32,114,101,97,100,44,32,114,101,97,100,41,58,32,117,115,101,114,59,32,125]⟩).2.1=0:=by rw [zdW]
 have n:¬Cyc (zbq (zjC.map zcv)):=fun b=>Cyc.none b exR_sol;cases h with
 | parse e h f=>exact absurd (h.symm.trans m) f
 | check e g h f=>rw [d] at h;exact absurd (h.symm.trans zj5) f
 | cyc g k b=>rw [d] at b;exact absurd b n
 | long g k b j=>rw [d] at j;exact absurd j zmr
 | ok g k v o hi p j =>
  rw [d];refine ⟨rfl,rfl,by decide +kernel,_,exR_rels v,exR_subs _⟩
theorem exR_yes {K:List TabR} {r:RelT} (h:K.map (·.r)=[r]) (hs:r.subs=[(⟨#[117,115,101,114]⟩,⟨#[]⟩)]):zcM [⟨#[117,115,101,114]⟩,⟨#[100,111,99]⟩] [(⟨#[100,111,99]⟩,⟨#[114,101,97,100]⟩)] K ((⟨#[100,111,99]⟩,⟨#[49]⟩,⟨#[114,101,97,100]⟩),(⟨#[117,115,101,114]⟩,⟨#[97]⟩,⟨#[]⟩))=0:=by
 unfold zcM;rw [yan ⟨by decide +kernel,by decide +kernel,by decide +kernel⟩];have b:mayT K [(⟨#[100,111,99]⟩,⟨#[114,101,97,100]⟩)] ((⟨#[100,111,99]⟩,⟨#[49]⟩,⟨#[114,101,97,100]⟩),(⟨#[117,115,101,114]⟩,⟨#[97]⟩,⟨#[]⟩))=true:=by
  unfold mayT;match K,h with
  | [k],h =>
   have hk:k.r=r:=by simpa using h
   rw [show ixP [((⟨#[100,111,99]⟩:ByteArray),(⟨#[114,101,97,100]⟩:ByteArray))] (⟨#[100,111,99]⟩,⟨#[114,101,97,100]⟩)=0 from by decide +kernel,atK_in (i:=0) rfl,hk,hs];decide +kernel
 rw [yan b]
end
end Go.Proofs.YtmblgnddgmfkhaaGreat
