import Derived.Test.YtmblgnddgmfkhaaGreatQ03
set_option maxRecDepth 100000
set_option maxHeartbeats 4000000
namespace Go.Proofs.YtmblgnddgmfkhaaGreat
section
variable {u:ByteArray} {c:Nat} {p:Nat→Bool}
def zca (c:Nat):Bool:=decide (c=123∨c=125∨c=40∨c=41∨c=58∨c=44∨c=59∨c=124∨c=38∨c=45∨c=46∨c=35)
def zbz (c:Nat):Bool:=decide (c=32∨c=9∨c=10)
theorem zcE:zca c=true↔(c=123∨c=125∨c=40∨c=41∨c=58∨c=44∨c=59∨c=124∨c=38∨c=45∨c=46∨c=35):=by unfold zca;exact ybA
theorem zbO:zbz c=true↔(c=32∨c=9∨c=10):=by unfold zbz;exact ybA
theorem zjP:zhI c=true↔(c=95∨(97≤c∧c≤122)∨(65≤c∧c≤90)∨(48≤c∧c≤57)):=by unfold zhI;exact ybA
def zlX (p:Nat→Bool) (u:ByteArray):Nat:=least (fun j=>!(decide (plc u j<u.size) && p (plc u j))) u.size 0
theorem zcD (p:Nat→Bool) (u:ByteArray):(∀j,j<zlX p u→plc u j<u.size∧p (plc u j)=true)∧(plc u (zlX p u)<u.size→p (plc u (zlX p u))=false):=by
 obtain ⟨a,_,c⟩:=zc1 (fun j=>!(decide (plc u j<u.size) && p (plc u j))) u.size 0 ⟨u.size,yap _,by omega,by simp [zjm]⟩;refine ⟨fun j d=>?_,fun h=>?_⟩
 · have:=c j (yap _) d;simpa using this
 · have b:(!(decide (plc u (zlX p u)<u.size) && p (plc u (zlX p u))))=true:=a;rw [yaD h] at b;simpa using b
theorem zhp {k:Nat} (h1:∀j,j<k→plc u j<u.size∧p (plc u j)=true) (h2:plc u k<u.size→p (plc u k)=false):zlX p u=k:=by
 obtain ⟨a,b⟩:=zcD p u;rcases ycP (zlX p u) k with h | h | h
 · obtain ⟨x,y⟩:=h1 _ h;rw [b x] at y;cases y
 · exact h
 · obtain ⟨x,y⟩:=a _ h;rw [h2 x] at y;cases y
theorem zhq (p:Nat→Bool) (u:ByteArray):zlX p u≤cnt u:=by
 rcases ybH (cnt u) (zlX p u) with h | h
 · have:=((zcD p u).1 _ h).1;rw [(zcf u).1] at this;omega
 · exact h
theorem zgq (h:0<u.size) (hp:p 0=true):0<zlX p u:=by
 rcases ybh (zlX p u) with e | e
 · have:=(zcD p u).2;rw [e] at this;have b:p (plc u 0)=false:=this h;rw [show plc u 0=0 from rfl,hp] at b;cases b
 · exact e
theorem zqV (hp:p 0=false):zlX p u=0:=zhp (fun _ b=>absurd b (ybb _)) fun _=>hp
def wrN (u:ByteArray):Nat:=zlX (zeZ u) u
def ntN (u:ByteArray):Nat:=zlX (fun i=>!decide (bt u i=10)) u
def zjD (u:ByteArray):Nat:=zlX (fun i=>!brk u i) u
def kd (u:ByteArray):Nat :=
 if zbz (bt u 0)=true then 0 else if zca (bt u 0)=true then 2
 else if bt u 0=47 then (if 1<u.size∧bt u 1=47 then 0 else 30)
 else if zeZ u 0=true then (if wrN u≤24 then 1 else 31) else 30
def ln (u:ByteArray):Nat :=
 if zbz (bt u 0)=true then 1 else if zca (bt u 0)=true then 1
 else if bt u 0=47 then ntN u else wrN u
theorem ln_pos (h:0<u.size) (hk:kd u<3):0<ln u:=by
 unfold kd at hk;unfold ln;by_cases d:zbz (bt u 0)=true
 · rw [yan d];omega
 rw [yak d] at hk ⊢;by_cases f:zca (bt u 0)=true
 · rw [yan f];omega
 rw [yak f] at hk ⊢;by_cases b:bt u 0=47
 · rw [yan b];exact zgq h (by rw [b];rfl)
 rw [yak b] at hk ⊢;by_cases g:zeZ u 0=true
 · exact zgq h g
 rw [yak g] at hk;omega
theorem ln_le (h:0<u.size):ln u≤cnt u:=by
 have:=zlf h;unfold ln;repeat' split
 · omega
 · omega
 · exact zhq _ u
 · exact zhq _ u
abbrev Tk:=Nat × ByteArray × Nat
def zjt:Nat→ByteArray→Nat→List Tk × Nat × Nat
 | 0,_,off=>([],0,off)
 | f + 1,u,off =>
  if u.size=0 then ([(3,⟨#[]⟩,off)],0,0)
  else if 3≤kd u then ([],kd u,off)
  else ((if kd u=0 then [] else [(kd u,cutA u (ln u),off)]) ++ (zjt f (cutB u (ln u)) (off + plc u (ln u))).1,(zjt f (cutB u (ln u)) (off + plc u (ln u))).2)
theorem ziN (h:0<u.size) (hk:kd u<3):(cutB u (ln u)).size<u.size:=by
 have d:=zaH u (ln u);have b:=ln_pos h hk;have f:=za8 u (show 1≤ln u from b);have g:plc u 0<plc u 1:=zbb (s:=u) (k:=0) (by exact h);have j:plc u 0=0:=rfl;omega
theorem ziy:∀(f g:Nat) (u:ByteArray) (off:Nat),u.size<f→u.size<g→zjt f u off=zjt g u off
 | 0,_,_,_,h,_=>absurd h (ybb _)
 | _ + 1,0,_,_,_,h=>absurd h (ybb _)
 | f + 1,g + 1,u,off,j,k=>by
  unfold zjt;by_cases b:u.size=0
  · rw [yan b,yan b]
  rw [yak b,yak b];by_cases d:3≤kd u
  · rw [yan d,yan d]
  rw [yak d,yak d];have:=ziN (u:=u) yab yab;rw [ziy f g _ _ yab (by omega)]
def zdO (u:ByteArray) (off:Nat):List Tk × Nat × Nat:=zjt (u.size + 1) u off
theorem zfa {off:Nat} (h:u.size=0):zdO u off=([(3,⟨#[]⟩,off)],0,0):=by unfold zdO zjt;rw [yan h]
theorem scan_err {off:Nat} (h:0<u.size) (hk:3≤kd u):zdO u off=([],kd u,off):=by unfold zdO zjt;rw [yak yab,yan hk]
theorem zl0 {off:Nat} (h:0<u.size) (hk:kd u<3) :
 zdO u off=((if kd u=0 then [] else [(kd u,cutA u (ln u),off)]) ++ (zdO (cutB u (ln u)) (off + plc u (ln u))).1,(zdO (cutB u (ln u)) (off + plc u (ln u))).2):=by
 have:=ziN h hk;conv=>lhs;unfold zdO zjt
 rw [yak yab,yak yab,ziy u.size ((cutB u (ln u)).size + 1) _ _ yab (by omega)];rfl
def zcN (s:ByteArray):List Tk × Nat × Nat :=
 if 2048<s.size then ([],13,0)
 else if plc s (zjD s)<s.size then ([],11,plc s (zjD s))
 else if (zdO s 0).2.1=0 then zdO s 0 else ([],(zdO s 0).2)
theorem zdR {s:ByteArray}:zb4 s=true↔¬plc s (zjD s)<s.size:=by
 obtain ⟨a,b⟩:=zcD (fun i=>!brk s i) s;rw [zcw];constructor
 · intro h f;have d:=b f;have j:brk s (plc s (zjD s))=false:=h _ (zaX.2 f);have g:(!brk s (plc s (zjD s)))=false:=d;rw [j] at g;cases g
 · intro h k hk;have f:=zaX.1 hk;rcases ybH k (zjD s) with d | d
   · have:=(a k d).2;simpa using this
   · have:=za8 s d;omega
def keyB (s:ByteArray):Bool:=decide (s=⟨#[116,121,112,101]⟩∨s=⟨#[114,101,108]⟩∨s=⟨#[105,115]⟩∨s=⟨#[116,104,105,115]⟩)
theorem one_cnt {t:ByteArray} {r:Nat} (hz:0<t.size) (hd:Utf8.decode t 0=(r,t.size)):cnt t=1:=by
 have b:plc t 0<t.size:=hz;have d:plc t 1=plc t 0 + wd t (plc t 0):=zaF b;have f:wd t (plc t 0)=t.size:=by show (Utf8.decode t 0).2=_;rw [hd]
 have g:plc t 0=0:=rfl
 exact zeL yab fun j k=>by
  obtain rfl:j=0:=by omega
  exact hz
theorem zjc {t:ByteArray} {r:Nat} (hz:0<t.size) (hd:Utf8.decode t 0=(r,t.size)) (hb:brk t 0=false):nameS t=zbE r:=by
 have b:zeZ t 0=zbE r:=by
  unfold zeZ;rw [hb];show (!false && zbE (Utf8.decode t 0).1)=_;rw [hd];rfl
 rw [ya6,zbr,one_cnt hz hd,←b];constructor
 · rintro ⟨_,_,h⟩;exact h 0 yab
 · intro h;refine ⟨by omega,by omega,fun k hk=>?_⟩;obtain rfl:k=0:=by omega
   exact h
theorem enc_name {r:Nat} (h:r<55296∨(57344≤r∧r≤1114111)):nameS (Utf8.encode (r:Int))=zbE r:=by
 have u:Utf8.valid (r:Int)=true:=by unfold Utf8.valid;simp;omega
 unfold Utf8.encode;simp only [u,if_true,ybk];have of:∀n,n<256→(UInt8.ofNat n).toNat=n:=fun n y=>by simp;omega
 by_cases p:r<128
 · rw [yan p];show nameS (zck r)=_;rw [name_one yab,ya6,zjP];unfold zbE;rw [ybA];omega
 rw [yak p];by_cases q:r<2048
 · rw [yan q];have k:=of (192 + r / 64) yab;have m:=of (128 + r % 64) yab;generalize UInt8.ofNat (192 + r / 64)=b at *
   generalize UInt8.ofNat (128 + r % 64)=d at *
   have g:Utf8.decode ⟨#[b,d]⟩ 0=(r,2):=by
    rw [zaz _ 0 (by show 0<2;omega),show (⟨#[b,d]⟩:ByteArray).size-0=2 from rfl,show bt ⟨#[b,d]⟩ 0=b.toNat from rfl,show bt ⟨#[b,d]⟩ (0 + 1)=d.toNat from rfl,k,m];unfold dec;rw [yak yab,yan (by omega)];exact yb5 yah rfl
   refine zjc (by show 0<2;omega) g ?_;unfold brk rn wd;rw [g];simp
 rw [yak q];by_cases s:r<65536
 · rw [yan s];have k:=of (224 + r / 4096) yab;have m:=of (128 + r / 64 % 64) yab;have o:=of (128 + r % 64) yab;generalize UInt8.ofNat (224 + r / 4096)=b at *
   generalize UInt8.ofNat (128 + r / 64 % 64)=d at *
   generalize UInt8.ofNat (128 + r % 64)=f at *
   have g:Utf8.decode ⟨#[b,d,f]⟩ 0=(r,3):=by
    rw [zaz _ 0 (by show 0<3;omega),show (⟨#[b,d,f]⟩:ByteArray).size-0=3 from rfl,show bt ⟨#[b,d,f]⟩ 0=b.toNat from rfl,show bt ⟨#[b,d,f]⟩ (0 + 1)=d.toNat from rfl,show bt ⟨#[b,d,f]⟩ (0 + 2)=f.toNat from rfl,k,m,o];unfold dec;rw [yak yab,yak yab,yan (by omega)];exact yb5 yah rfl
   refine zjc (by show 0<3;omega) g ?_;unfold brk rn wd;rw [g];simp
 rw [yak s];have k:=of (240 + r / 262144) yab;have m:=of (128 + r / 4096 % 64) yab;have o:=of (128 + r / 64 % 64) yab;have x:=of (128 + r % 64) yab;generalize UInt8.ofNat (240 + r / 262144)=b at *
 generalize UInt8.ofNat (128 + r / 4096 % 64)=d at *
 generalize UInt8.ofNat (128 + r / 64 % 64)=f at *
 generalize UInt8.ofNat (128 + r % 64)=j at *
 have g:Utf8.decode ⟨#[b,d,f,j]⟩ 0=(r,4):=by
  rw [zaz _ 0 (by show 0<4;omega),show (⟨#[b,d,f,j]⟩:ByteArray).size-0=4 from rfl,show bt ⟨#[b,d,f,j]⟩ 0=b.toNat from rfl,show bt ⟨#[b,d,f,j]⟩ (0 + 1)=d.toNat from rfl,show bt ⟨#[b,d,f,j]⟩ (0 + 2)=f.toNat from rfl,show bt ⟨#[b,d,f,j]⟩ (0 + 3)=j.toNat from rfl,k,m,o,x];unfold dec;rw [yak yab,yak yab,yak yab,yan (by omega)];exact yb5 yah rfl
 refine zjc (by show 0<4;omega) g ?_;unfold brk rn wd;rw [g];simp
theorem rn_range {s:ByteArray} {i:Nat} (h:i<s.size):rn s i<55296∨(57344≤rn s i∧rn s i≤1114111):=by
 have hb:=zf4 s i;unfold rn;rw [zaz s i h];rcases zcW (s.size-i) (bt s i) (bt s (i + 1)) (bt s (i + 2)) (bt s (i + 3)) with ⟨c,e⟩ | ⟨c,e⟩ | ⟨c,e⟩ | ⟨c,e⟩ | ⟨c,e⟩;all_goals (rw [e];dsimp only;omega)
theorem rn_name {s:ByteArray} {i:Nat} (h:i<s.size) (hb:brk s i=false):nameS (Utf8.encode ((rn s i:Nat):Int))=zeZ s i:=by
 rw [enc_name (rn_range h)];unfold zeZ;rw [hb];rfl
theorem zls (h:0<u.size):zb4 (cutA u 1) = !brk u 0:=by
 have f:cnt (cutA u 1)=1:=by rw [ziL];have:=zlf h;omega
 have g:=zaZ u 1;have m:plc u 0<plc u 1:=zbb (s:=u) (k:=0) h;have n:=zfR (s:=u) (t:=cutA u 1) (k:=1) (j:=0) g (zfq u 1) m;have hb:brk (cutA u 1) 0=brk u 0:=by
  have b:Utf8.decode (cutA u 1) 0=Utf8.decode u 0:=n;unfold brk rn wd;rw [b]
 rw [ya6,zcw,f];constructor
 · intro d;have:brk (cutA u 1) 0=false:=d 0 yab;rw [←hb,this];rfl
 · intro d k hk;obtain rfl:k=0:=by omega
   show brk (cutA u 1) 0=false;rw [hb];simpa using d
theorem brk_cutB {s:ByteArray} {k:Nat} (h:plc s k<s.size):brk (cutB s k) 0=brk s (plc s k):=by
 have b:=zaH s k;have d:=zfr b (zdc s k) (i:=0) yab;unfold brk rn wd;rw [d,ybP]
def Sep (a b:ByteArray):Prop:=∀j,j<cnt a→Utf8.decode (a ++ b) (plc a j)=Utf8.decode a (plc a j)
section
variable {a b:ByteArray} (hv:Sep a b)
include hv
end
theorem zgy (a b c:ByteArray):a ++ b ++ c=a ++ (b ++ c):=by
 refine zcH (by simp only [size_app];omega) fun k hk=>?_;simp only [size_app] at hk;by_cases d:k<a.size
 · rw [zaL _ _ _ (by rw [size_app];omega),zaL _ _ _ d,zaL _ _ _ d]
 · obtain ⟨i,rfl⟩:∃i,k=a.size + i:=⟨k-a.size,by omega⟩;by_cases f:i<b.size
   · rw [zaL _ _ _ (by rw [size_app];omega),zaW _ _ _ f,zaW _ _ _ (by rw [size_app];omega),zaL _ _ _ f]
   · obtain ⟨j,rfl⟩:∃j,i=b.size + j:=⟨i-b.size,by omega⟩;have e:bt (a ++ b ++ c) (a.size + (b.size + j))=bt c j:=by
      have:=zaW (a ++ b) c j yab;rwa [size_app,ya4] at this
     rw [e,zaW _ _ _ (by rw [size_app];omega),zaW _ _ _ (by omega)]
theorem zoQ (a:ByteArray):a ++ ⟨#[]⟩=a:=zcH (by rw [size_app];rfl) fun k hk=>by
 rw [size_app] at hk;have e:(⟨#[]⟩:ByteArray).size=0:=rfl;exact zaL _ _ _ yab
theorem nil_app' (a:ByteArray):(⟨#[]⟩:ByteArray) ++ a=a:=zcH (by rw [size_app];exact yaG _) fun k hk=>by
 have e:(⟨#[]⟩:ByteArray).size=0:=rfl;rw [size_app,e,yaG] at hk;have:=zaW ⟨#[]⟩ a k hk;rwa [e,yaG] at this
section
variable {a b:ByteArray} (hs:Sep a b)
include hs
end
theorem may_not (h:0<u.size) (hm:zeZ u 0=true):zbz (bt u 0)=false∧zca (bt u 0)=false∧bt u 0≠47:=by
 by_cases hb:bt u 0<128
 · rw [zlG h hb] at hm;have hm:=zjP.1 hm;refine ⟨?_,?_,by omega⟩
   · rw [ybl];intro e;have:=zbO.1 e;omega
   · rw [ybl];intro e;have:=zcE.1 e;omega
 · refine ⟨?_,?_,by omega⟩
   · rw [ybl];intro e;have:=zbO.1 e;omega
   · rw [ybl];intro e;have:=zcE.1 e;omega
section
variable {r:ByteArray} {off:Nat}
end
def TkOK (t:Tk):Prop:=(t.1=1∧nameS t.2.1=true)∨(t.1=2∧∃c,zca c=true∧t.2.1=zck c)
theorem step_ok (h:0<u.size) (h3:kd u<3) (h0:¬kd u=0) (off:Nat):TkOK (kd u,cutA u (ln u),off):=by
 unfold TkOK;by_cases hb:zbz (bt u 0)=true
 · exact absurd (by unfold kd;rw [yan hb]) h0
 by_cases d:zca (bt u 0)=true
 · right;have D:=zcE.1 d;have b:kd u=2:=by unfold kd;rw [yak hb,yan d]
   have f:ln u=1:=by unfold ln;rw [yak hb,yan d]
   refine ⟨b,bt u 0,d,?_⟩;have o:plc u 1=1:=by
    have A:plc u 1=plc u 0 + wd u (plc u 0):=zaF (s:=u) (k:=0) h;have B:wd u 0=1:=(zli h yab).2;rw [A,show plc u 0=0 from rfl,B]
   have z:=zaZ u 1;rw [f];show cutA u 1=zck (bt u 0);refine zcH (by rw [z,o,zbe]) fun k hk=>?_;have p:=hk;rw [z,o] at p;obtain rfl:k=0:=by omega
   rw [zfq _ _ _ hk,zhr (by omega)]
 · left;by_cases g:bt u 0=47
   · exfalso;have:kd u=0∨kd u=30:=by
      unfold kd;rw [yak hb,yak d,yan g];split
      · exact .inl rfl
      · exact .inr rfl
     omega
   · have b:kd u=(if zeZ u 0=true then (if wrN u≤24 then 1 else 31) else 30):=by
      conv=>lhs;unfold kd
      rw [yak hb,yak d,yak g]
     have f:ln u=wrN u:=by unfold ln;rw [yak hb,yak d,yak g]
     by_cases q:zeZ u 0=true
     · rw [yan q] at b;by_cases m:wrN u≤24
       · rw [yan m] at b;refine ⟨b,?_⟩;rw [f];have x:wrN u≤cnt u:=zhq _ u;have n:0<wrN u:=zgq h q;rw [zbr,ziL,ybK x];refine ⟨n,m,fun k hk=>?_⟩;have y:plc u k<plc u (wrN u):=yaw (zbb (zaX.1 yab)) (za8 u hk);have C:=zfR (s:=u) (t:=cutA u (wrN u)) (k:=wrN u) (j:=k) (zaZ u _) (zfq u _) y;have o:=zlQ (s:=u) (t:=cutA u (wrN u)) (k:=wrN u) (zaZ u _) (zfq u _) k yab;have:=((zcD (zeZ u) u).1 k hk).2;unfold zeZ brk rn wd at this ⊢;rw [o,C];exact this
       · rw [yak m] at b;omega
     · rw [yak q] at b;omega
theorem zkT (n:Nat):∀(u:ByteArray) (off:Nat),u.size≤n→(zdO u off).2.1=0→∃init,(zdO u off).1=init ++ [(3,⟨#[]⟩,off + u.size)]∧∀t ∈ init,TkOK t:=by
 induction n with
 | zero =>
  intro u off g _;rw [zfa yab,show off + u.size=off by omega];exact ⟨[],rfl,fun t h=>by cases h⟩
 | succ n ih =>
  intro u off g d;rcases ybh u.size with h | h
  · rw [zfa h,h];exact ⟨[],rfl,fun t h=>by cases h⟩
  by_cases j:3≤kd u
  · rw [scan_err h j] at d;dsimp only at d;omega
  · have m:=ziN h yab;have k:=zaH u (ln u);have f:=zl0 (off:=off) h yab;have ih:=ih (cutB u (ln u)) (off + plc u (ln u)) yab;rw [show off + plc u (ln u) + (cutB u (ln u)).size=off + u.size by omega] at ih;generalize zdO u off=r at f d ⊢;generalize zdO (cutB u (ln u)) (off + plc u (ln u))=o at f ih;subst f;dsimp only at d ⊢;obtain ⟨init,e,hi⟩:=ih d;rw [e,←yaB];refine ⟨_,rfl,fun t b=>?_⟩;rcases yaz.1 b with b | b
    · split at b
      · cases b
      · rename_i hk
        simp only [yav,ya1,ybw] at b;subst b;exact step_ok h yab hk off
    · exact hi t b
section
variable {s:ByteArray}
theorem all_ok (hz:s.size≤2048) (hv:zb4 s=true) (h:(zdO s 0).2.1=0):zcN s=zdO s 0:=by
 unfold zcN;rw [yak yab,yak (zdR.1 hv),yan h]
theorem all_err (hz:s.size≤2048) (hv:zb4 s=true) (h:¬(zdO s 0).2.1=0):zcN s=([],(zdO s 0).2):=by
 unfold zcN;rw [yak yab,yak (zdR.1 hv),yak h]
theorem bad_lt (hv:zb4 s=false):plc s (zjD s)<s.size:=by
 rcases ybH (plc s (zjD s)) s.size with h | h
 · exact h
 · rw [zdR.2 (by omega)] at hv;cases hv
theorem all_bad (hz:s.size≤2048) (hv:zb4 s=false):zcN s=([],11,plc s (zjD s)):=by
 unfold zcN;rw [yak yab,yan (bad_lt hv)]
theorem ziG (hz:s.size≤2048) (h:(zcN s).2.1=0):zb4 s=true∧(zdO s 0).2.1=0∧zcN s=zdO s 0:=by
 cases d:zb4 s with
 | false=>rw [all_bad hz d] at h;dsimp only at h;omega
 | true =>
  by_cases b:(zdO s 0).2.1=0
  · exact ⟨rfl,b,all_ok hz d b⟩
  · rw [all_err hz d b] at h;exact absurd h b
end
section
variable {s n:ByteArray} (hv:zb4 n=true) (hn:∀i,i<n.size→bt n i≠10)
include hv hn
end
end
section
variable {s:ByteArray}
abbrev OpP:=Nat × ByteArray × ByteArray
abbrev zdv:=ByteArray × ByteArray
structure RelP where
 name:ByteArray
 view:ByteArray
 edit:ByteArray
 check:ByteArray
 subs:List zdv
 ops:List OpP
 deriving DecidableEq
structure TypP where
 name:ByteArray
 rels:List RelP
 deriving DecidableEq
abbrev Rs (α:Type):=Except (Nat × Nat) (α × List Tk)
def zeB:ByteArray:=⟨#[116,121,112,101]⟩
def zm9:ByteArray:=⟨#[114,101,108]⟩
def sIs:ByteArray:=⟨#[105,115]⟩
def zhO:ByteArray:=⟨#[116,104,105,115]⟩
def sg (c:UInt8):ByteArray:=⟨#[c]⟩
def hdT (l:List Tk):Tk:=l.headD (3,⟨#[]⟩,0)
def isT (s:ByteArray) (l:List Tk):Bool:=decide ((hdT l).2.1=s∧((hdT l).1=2∨keyB s=true))
def zns {α:Type} (c:Nat) (l:List Tk):Rs α:=.error (c,(hdT l).2.2)
def zaK (s:ByteArray) (l:List Tk):Rs Unit:=if isT s l=true then .ok ((),l.tail) else zns 30 l
def zaT (l:List Tk):Rs ByteArray:=if (hdT l).1=1∧keyB (hdT l).2.1=false then .ok ((hdT l).2.1,l.tail) else zns 30 l
def zaG {α β:Type} (r:Rs α) (k:α→List Tk→Rs β):Rs β:=match r with
 | .error e=>.error e
 | .ok (a,l)=>k a l
theorem zb6 {α β:Type} (a:α) (l:List Tk) (k:α→List Tk→Rs β):zaG (.ok (a,l)) k=k a l:=rfl
theorem andT_err {α β:Type} (e:Nat × Nat) (k:α→List Tk→Rs β):zaG (.error e:Rs α) k = .error e:=rfl
def opT (l:List Tk):Nat:=if isT (sg 124) l=true then 4 else if isT (sg 38) l=true then 5 else if isT (sg 45) l=true then 6 else 0
mutual
def partF:Nat→Nat→List Tk→Rs (List OpP)
 | 0,_,l=>zns 30 l
 | f + 1,deep,l =>
  if isT zhO l=true then .ok ([(1,⟨#[]⟩,⟨#[]⟩)],l.tail)
  else if isT (sg 40) l=true then
   (if deep=8 then zns 13 l
   else zaG (partF f (deep + 1) l.tail) fun o r=>zaG (moreF f (deep + 1) o r) fun o r=>zaG (zaK (sg 41) r) fun _ r=>.ok (o,r))
  else zaG (zaT l) fun n r =>
   if isT (sg 46) r=true then zaG (zaT r.tail) fun m r=>.ok ([(3,n,m)],r) else .ok ([(2,n,⟨#[]⟩)],r)
def moreF:Nat→Nat→List OpP→List Tk→Rs (List OpP)
 | 0,_,_,l=>zns 30 l
 | f + 1,deep,acc,l =>
  if opT l=0 then .ok (acc,l)
  else zaG (partF f deep l.tail) fun o r=>moreF f deep (acc ++ o ++ [(opT l,⟨#[]⟩,⟨#[]⟩)]) r
end
def rewF (f deep:Nat) (l:List Tk):Rs (List OpP):=zaG (partF f deep l) fun o r=>moreF f deep o r
def zk5:Nat→List zdv→List Tk→Rs (List zdv)
 | 0,_,l=>zns 30 l
 | f + 1,acc,l=>zaG (zaT l) fun n r =>
  zaG (if isT (sg 35) r=true then zaT r.tail else .ok (⟨#[]⟩,r)) fun m r =>
   if isT (sg 44) r=true then zk5 f (acc ++ [(n,m)]) r.tail else .ok (acc ++ [(n,m)],r)
def relF (f:Nat) (l:List Tk):Rs RelP :=
 zaG (zaT l) fun n r=>zaG (zaK (sg 40) r) fun _ r=>zaG (zaT r) fun v r=>zaG (zaK (sg 44) r) fun _ r =>
 zaG (zaT r) fun e r=>zaG (zaK (sg 44) r) fun _ r=>zaG (zaT r) fun c r=>zaG (zaK (sg 41) r) fun _ r =>
 zaG (zaK (sg 58) r) fun _ r =>
 zaG (if isT sIs r=true∨isT (sg 59) r=true then .ok ([],r) else zk5 f [] r) fun w r =>
 zaG (if isT sIs r=true then rewF f 0 r.tail else .ok ([(1,⟨#[]⟩,⟨#[]⟩)],r)) fun o r =>
 zaG (zaK (sg 59) r) fun _ r=>.ok (⟨n,v,e,c,w,o⟩,r)
def zhN:Nat→Nat→List RelP→List Tk→Rs (List RelP)
 | _,0,_,l=>zns 30 l
 | f,g + 1,acc,l=>if isT zm9 l=true then zaG (relF f l.tail) fun x r=>zhN f g (acc ++ [x]) r else .ok (acc,l)
def zhB:Nat→Nat→List TypP→List Tk→Rs (List TypP)
 | _,0,_,l=>zns 30 l
 | f,g + 1,acc,l =>
  if isT zeB l=true then zaG (zaT l.tail) fun n r=>zaG (zaK (sg 123) r) fun _ r=>zaG (zhN f f [] r) fun rs r =>
   zaG (zaK (sg 125) r) fun _ r=>zhB f g (acc ++ [⟨n,rs⟩]) r
  else .ok (acc,l)
def zfH (l:List Tk):Rs (List TypP):=zaG (zhB (2 * l.length + 2) (2 * l.length + 2) [] l) fun t r=>if (hdT r).1=3 then .ok (t,r) else zns 30 r
def outS (r:Rs (List TypP)):List TypP × Nat × Nat:=match r with
 | .error e=>([],e)
 | .ok p=>(p.1,0,0)
def zak (s:ByteArray):List TypP × Nat × Nat:=if (zcN s).2.1=0 then outS (zfH (zcN s).1) else ([],(zcN s).2)
theorem zaw {l:List Tk} (hs:0<s.size) (h:isT s l=true):l.tail.length + 1=l.length:=by
 cases l with
 | nil =>
  unfold isT at h;rw [ybA] at h;have:s=⟨#[]⟩:=h.1.symm;rw [this] at hs;exact absurd hs yac
 | cons a r=>rfl
theorem zaq {l r:List Tk} {n:ByteArray} (h:zaT l = .ok (n,r)):r.length + 1=l.length:=by
 unfold zaT at h;split at h
 · rename_i b
   cases l with
   | nil=>exact absurd b.1 yac
   | cons a t =>
    cases h;rfl
 · cases h
theorem zap {l r:List Tk} {u:Unit} (hs:0<s.size) (h:zaK s l = .ok (u,r)):r.length + 1=l.length:=by
 unfold zaK at h;split at h
 · rename_i b
   cases h;exact zaw hs b
 · cases h
theorem zac {α β:Type} {r:Rs α} {k:α→List Tk→Rs β} {b:β} {l:List Tk} (h:zaG r k = .ok (b,l)):∃a m,r = .ok (a,m)∧k a m = .ok (b,l):=by
 cases r with
 | error e=>cases h
 | ok p=>exact ⟨p.1,p.2,rfl,h⟩
theorem zag {α β:Type} {r r':Rs α} {k k':α→List Tk→Rs β} (h:r=r') (hk:∀a m,r = .ok (a,m)→k a m=k' a m):zaG r k=zaG r' k':=by
 subst h;cases r with
 | error e=>rfl
 | ok p=>exact hk p.1 p.2 rfl
theorem zao (c:UInt8):0<(sg c).size:=by show 0<1;omega
theorem zfy {l:List Tk} (h:¬opT l=0):l.tail.length + 1=l.length:=by
 unfold opT at h;by_cases b:isT (sg 124) l=true
 · exact zaw (zao _) b
 · by_cases d:isT (sg 38) l=true
   · exact zaw (zao _) d
   · by_cases f:isT (sg 45) l=true
     · exact zaw (zao _) f
     · rw [yak b,yak d,yak f] at h;exact absurd rfl h
theorem eats:∀f:Nat,(∀d l o r,partF f d l = .ok (o,r)→r.length<l.length)∧(∀d acc l o r,moreF f d acc l = .ok (o,r)→r.length≤l.length)
 | 0=>⟨fun d l o r h=>(by unfold partF at h;cases h),fun d acc l o r h=>(by unfold moreF at h;cases h)⟩
 | f + 1=>by
  obtain ⟨g,j⟩:=eats f;constructor
  · intro d l o r h;unfold partF at h;split at h
    · rename_i b
      cases h;have:=zaw (by show 0<4;omega) b;omega
    · split at h
      · rename_i b
        have p:=zaw (zao _) b;split at h
        · cases h
        · obtain ⟨a,m,k,h⟩:=zac h;obtain ⟨q,s,n,h⟩:=zac h;obtain ⟨a3,x,u,h⟩:=zac h;cases h;have:=g _ _ _ _ k;have:=j _ _ _ _ _ n;have:=zap (zao _) u;omega
      · obtain ⟨a,m,k,h⟩:=zac h;have p:=zaq k;split at h
        · rename_i b
          have y:=zaw (zao _) b;obtain ⟨q,s,n,h⟩:=zac h;have:=zaq n;cases h;omega
        · cases h;omega
  · intro d acc l o r h;unfold moreF at h;split at h
    · cases h;omega
    · rename_i b
      have p:=zfy b;obtain ⟨a,m,k,h⟩:=zac h;have:=g _ _ _ _ k;have:=j _ _ _ _ _ h;omega
theorem fuel:∀f g:Nat,(∀d l,l.length<f→l.length<g→partF f d l=partF g d l)∧(∀d acc l,l.length<f→l.length<g→moreF f d acc l=moreF g d acc l)
 | 0,_=>⟨fun _ _ h _=>absurd h (ybb _),fun _ _ _ h _=>absurd h (ybb _)⟩
 | _ + 1,0=>⟨fun _ _ _ h=>absurd h (ybb _),fun _ _ _ _ h=>absurd h (ybb _)⟩
 | f + 1,g + 1=>by
  obtain ⟨b,j⟩:=fuel f g;constructor
  · intro d l o p;unfold partF;split
    · rfl
    · split
      · rename_i k
        have q:=zaw (zao _) k;split
        · rfl
        · refine zag (b _ _ yab yab) fun a m n=>?_;have:=(eats _).1 _ _ _ _ n;exact zag (j _ _ _ yab yab) fun _ _ _=>rfl
      · rfl
  · intro d acc l o p;unfold moreF;split
    · rfl
    · rename_i k
      have q:=zfy k;refine zag (b _ _ yab yab) fun a m n=>?_;have:=(eats _).1 _ _ _ _ n;exact j _ _ _ yab yab
def ze5 (d:Nat) (l:List Tk):Rs (List OpP):=partF (l.length + 1) d l
def zlI (d:Nat) (acc:List OpP) (l:List Tk):Rs (List OpP):=moreF (l.length + 1) d acc l
def zk3 (d:Nat) (l:List Tk):Rs (List OpP):=zaG (ze5 d l) fun o r=>zlI d o r
theorem zjj (d:Nat) (l:List Tk):ze5 d l =
 if isT zhO l=true then .ok ([(1,⟨#[]⟩,⟨#[]⟩)],l.tail)
 else if isT (sg 40) l=true then
  (if d=8 then zns 13 l
  else zaG (zk3 (d + 1) l.tail) fun o r=>zaG (zaK (sg 41) r) fun _ r=>.ok (o,r))
 else zaG (zaT l) fun n r =>
  if isT (sg 46) r=true then zaG (zaT r.tail) fun m r=>.ok ([(3,n,m)],r) else .ok ([(2,n,⟨#[]⟩)],r):=by
 conv=>lhs;unfold ze5 partF
 split
 · rfl
 · split
   · rename_i b
     have k:=zaw (zao _) b;split
     · rfl
     · have f:partF l.length (d + 1) l.tail=ze5 (d + 1) l.tail:=(fuel _ _).1 _ _ yab yab;rw [f];unfold zk3;cases g:ze5 (d + 1) l.tail with
       | error e=>rfl
       | ok p =>
        have:=(eats _).1 _ _ _ _ (show partF (l.tail.length + 1) (d + 1) l.tail = .ok (p.1,p.2) from g);have j:moreF l.length (d + 1) p.1 p.2=zlI (d + 1) p.1 p.2:=(fuel _ _).2 _ _ _ yab yab;show zaG (moreF l.length (d + 1) p.1 p.2) _=zaG (zlI (d + 1) p.1 p.2) _;rw [j]
   · rfl
theorem moreT_eq (d:Nat) (acc:List OpP) (l:List Tk):zlI d acc l =
 if opT l=0 then .ok (acc,l)
 else zaG (ze5 d l.tail) fun o r=>zlI d (acc ++ o ++ [(opT l,⟨#[]⟩,⟨#[]⟩)]) r:=by
 conv=>lhs;unfold zlI moreF
 split
 · rfl
 · rename_i b
   have g:=zfy b;refine zag ((fuel _ _).1 _ _ yab yab) fun a m f=>?_;have:=(eats _).1 _ _ _ _ f;exact (fuel _ _).2 _ _ _ yab yab
theorem zhC:∀(f:Nat) (acc:List zdv) (l:List Tk) (o:List zdv) (r:List Tk),zk5 f acc l = .ok (o,r)→r.length<l.length
 | 0,acc,l,o,r,h=>by unfold zk5 at h;cases h
 | f + 1,acc,l,o,r,h=>by
  unfold zk5 at h;obtain ⟨a,m,j,h⟩:=zac h;have k:=zaq j;obtain ⟨n,g,d,h⟩:=zac h;have p:g.length≤m.length:=by
   by_cases b:isT (sg 35) m=true
   · rw [yan b] at d;have:=zaw (zao _) b;have:=zaq d;omega
   · rw [yak b] at d;cases d;omega
  by_cases b:isT (sg 44) g=true
  · rw [yan b] at h;have:=zaw (zao _) b;have:=zhC f _ _ _ _ h;omega
  · rw [yak b] at h;cases h;omega
theorem zjA {m m2:List Tk} {a2:ByteArray} (e2:(if isT (sg 35) m=true then zaT m.tail else .ok (⟨#[]⟩,m)) = .ok (a2,m2)):m2.length≤m.length:=by
 by_cases b:isT (sg 35) m=true
 · rw [yan b] at e2;have:=zaw (zao _) b;have:=zaq e2;omega
 · rw [yak b] at e2;cases e2;omega
theorem zhD:∀(f g:Nat) (acc:List zdv) (l:List Tk),l.length<f→l.length<g→zk5 f acc l=zk5 g acc l
 | 0,_,_,_,h,_=>absurd h (ybb _)
 | _ + 1,0,_,_,_,h=>absurd h (ybb _)
 | f + 1,g + 1,acc,l,n,o=>by
  unfold zk5;refine zag rfl fun a m d=>?_;have p:=zaq d;refine zag rfl fun q j k=>?_;have s:=zjA k;by_cases b:isT (sg 44) j=true
  · rw [yan b,yan b];have:=zaw (zao _) b;exact zhD f g _ _ yab yab
  · rw [yak b,yak b]
def whoT (acc:List zdv) (l:List Tk):Rs (List zdv):=zk5 (l.length + 1) acc l
theorem zrm (acc:List zdv) (l:List Tk):whoT acc l=zaG (zaT l) fun n r =>
 zaG (if isT (sg 35) r=true then zaT r.tail else .ok (⟨#[]⟩,r)) fun m r =>
  if isT (sg 44) r=true then whoT (acc ++ [(n,m)]) r.tail else .ok (acc ++ [(n,m)],r):=by
 conv=>lhs;unfold whoT zk5
 refine zag rfl fun a m d=>?_;have j:=zaq d;refine zag rfl fun k f g=>?_;have o:=zjA g;by_cases b:isT (sg 44) f=true
 · rw [yan b,yan b];have:=zaw (zao _) b;exact zhD _ _ _ _ yab yab
 · rw [yak b,yak b]
theorem zqL {f d:Nat} {l:List Tk} (h:l.length<f):rewF f d l=zk3 d l:=by
 unfold rewF zk3 ze5;refine zag ((fuel _ _).1 _ _ h yab) fun a m b=>?_;have:=(eats _).1 _ _ _ _ b;exact (fuel _ _).2 _ _ _ yab yab
theorem zqM {d:Nat} {l r:List Tk} {o:List OpP} (h:zk3 d l = .ok (o,r)):r.length<l.length:=by
 unfold zk3 at h;obtain ⟨a,m,b,h⟩:=zac h;have:=(eats _).1 _ _ _ _ b;have:=(eats _).2 _ _ _ _ _ h;omega
def zqJ (l:List Tk):Rs RelP :=
 zaG (zaT l) fun n r=>zaG (zaK (sg 40) r) fun _ r=>zaG (zaT r) fun v r=>zaG (zaK (sg 44) r) fun _ r =>
 zaG (zaT r) fun e r=>zaG (zaK (sg 44) r) fun _ r=>zaG (zaT r) fun c r=>zaG (zaK (sg 41) r) fun _ r =>
 zaG (zaK (sg 58) r) fun _ r =>
 zaG (if isT sIs r=true∨isT (sg 59) r=true then .ok ([],r) else whoT [] r) fun w r =>
 zaG (if isT sIs r=true then zk3 0 r.tail else .ok ([(1,⟨#[]⟩,⟨#[]⟩)],r)) fun o r =>
 zaG (zaK (sg 59) r) fun _ r=>.ok (⟨n,v,e,c,w,o⟩,r)
theorem zjs:0<sIs.size:=by show 0<2;omega
theorem zcC {f:Nat} {l:List Tk} (h:l.length<f):relF f l=zqJ l∧∀o r,zqJ l = .ok (o,r)→r.length<l.length:=by
 constructor
 · unfold relF zqJ;refine zag rfl fun _ _ e=>?_;have k:=zaq e;refine zag rfl fun _ _ e=>?_;have n:=zap (zao _) e;refine zag rfl fun _ _ e=>?_;have p:=zaq e;refine zag rfl fun _ _ e=>?_;have q:=zap (zao _) e;refine zag rfl fun _ _ e=>?_;have s:=zaq e;refine zag rfl fun _ _ e=>?_;have u:=zap (zao _) e;refine zag rfl fun _ _ e=>?_;have x:=zaq e;refine zag rfl fun _ _ e=>?_;have y:=zap (zao _) e;refine zag rfl fun _ _ e=>?_;have z:=zap (zao _) e;rename_i d
   refine zag ?_ fun _ m e=>?_
   · split
     · rfl
     · exact zhD _ _ _ _ yab yab
   · have g:m.length≤d.length:=by
      split at e
      · cases e;exact yaj _
      · have:=zhC _ _ _ _ _ e;omega
     refine zag ?_ fun _ _ _=>rfl;split
     · rename_i j
       have:=zaw zjs j;exact zqL yab
     · rfl
 · intro o r b;unfold zqJ at b;obtain ⟨_,_,e,b⟩:=zac b;have k:=zaq e;obtain ⟨_,_,e,b⟩:=zac b;have n:=zap (zao _) e;obtain ⟨_,_,e,b⟩:=zac b;have p:=zaq e;obtain ⟨_,_,e,b⟩:=zac b;have q:=zap (zao _) e;obtain ⟨_,_,e,b⟩:=zac b;have s:=zaq e;obtain ⟨_,_,e,b⟩:=zac b;have u:=zap (zao _) e;obtain ⟨_,_,e,b⟩:=zac b;have x:=zaq e;obtain ⟨_,_,e,b⟩:=zac b;have y:=zap (zao _) e;obtain ⟨_,d,e,b⟩:=zac b;have z:=zap (zao _) e;obtain ⟨_,m,e,b⟩:=zac b;have g:m.length≤d.length:=by
    split at e
    · cases e;exact yaj _
    · have:=zhC _ _ _ _ _ e;omega
   obtain ⟨_,A,e,b⟩:=zac b;have B:A.length≤m.length:=by
    split at e
    · rename_i j
      have:=zaw zjs j;have:=zqM e;omega
    · cases e;exact yaj _
   obtain ⟨_,_,e,b⟩:=zac b;have C:=zap (zao _) e;cases b;omega
theorem zb3:0<zm9.size:=by show 0<3;omega
theorem zbQ:0<zeB.size:=by show 0<4;omega
theorem zd8:∀(f g:Nat) (acc:List RelP) (l:List Tk) (o:List RelP) (r:List Tk),l.length<f→zhN f g acc l = .ok (o,r)→r.length≤l.length
 | _,0,acc,l,o,r,_,h=>by unfold zhN at h;cases h
 | f,g + 1,acc,l,o,r,j,h=>by
  unfold zhN at h;by_cases b:isT zm9 l=true
  · rw [yan b] at h;have k:=zaw zb3 b;rw [(zcC (f:=f) (l:=l.tail) yab).1] at h;obtain ⟨a,m,d,h⟩:=zac h;have:=(zcC (f:=f) (l:=l.tail) yab).2 _ _ d;have:=zd8 f g _ _ _ _ yab h;omega
  · rw [yak b] at h;cases h;omega
theorem zd9:∀(g g2 f f2:Nat) (acc:List RelP) (l:List Tk),l.length<f→l.length<f2→l.length<g→l.length<g2→zhN f g acc l=zhN f2 g2 acc l
 | 0,_,_,_,_,_,_,_,h,_=>absurd h (ybb _)
 | _ + 1,0,_,_,_,_,_,_,_,h=>absurd h (ybb _)
 | g + 1,g2 + 1,f,f2,acc,l,o,d,p,j=>by
  unfold zhN;by_cases b:isT zm9 l=true
  · rw [yan b,yan b];have q:=zaw zb3 b;obtain ⟨e,k⟩:=zcC (f:=f) (l:=l.tail) yab;rw [e,(zcC (f:=f2) (l:=l.tail) yab).1];refine zag rfl fun a m n=>?_;have:=k _ _ n;exact zd9 g g2 f f2 _ _ yab yab yab yab
  · rw [yak b,yak b]
def zlU (acc:List RelP) (l:List Tk):Rs (List RelP):=zhN (l.length + 1) (l.length + 1) acc l
theorem zea (acc:List RelP) (l:List Tk):zlU acc l=if isT zm9 l=true then zaG (zqJ l.tail) fun x r=>zlU (acc ++ [x]) r else .ok (acc,l):=by
 conv=>lhs;unfold zlU zhN
 by_cases b:isT zm9 l=true
 · rw [yan b,yan b];have j:=zaw zb3 b;obtain ⟨e,d⟩:=zcC (f:=l.length + 1) (l:=l.tail) yab;rw [e];refine zag rfl fun a m g=>?_;have:=d _ _ g;exact zd9 _ _ _ _ _ _ yab yab yab yab
 · rw [yak b,yak b]
theorem zeF:∀(g g2 f f2:Nat) (acc:List TypP) (l:List Tk),l.length<f→l.length<f2→l.length<g→l.length<g2→zhB f g acc l=zhB f2 g2 acc l
 | 0,_,_,_,_,_,_,_,h,_=>absurd h (ybb _)
 | _ + 1,0,_,_,_,_,_,_,_,h=>absurd h (ybb _)
 | g + 1,g2 + 1,f,f2,acc,l,k,d,m,j=>by
  unfold zhB;by_cases b:isT zeB l=true
  · rw [yan b,yan b];have n:=zaw zbQ b;refine zag rfl fun _ _ e=>?_;have o:=zaq e;refine zag rfl fun _ p e=>?_;have q:=zap (zao _) e;refine zag (zd9 _ _ _ _ _ _ yab yab yab yab) fun _ _ e=>?_;have s:=zd8 _ _ _ _ _ _ yab e;refine zag rfl fun _ _ e=>?_;have u:=zap (zao _) e;exact zeF g g2 f f2 _ _ yab yab yab yab
  · rw [yak b,yak b]
def zdp (acc:List TypP) (l:List Tk):Rs (List TypP):=zhB (l.length + 1) (l.length + 1) acc l
theorem zda (acc:List TypP) (l:List Tk):zdp acc l =
 if isT zeB l=true then zaG (zaT l.tail) fun n r=>zaG (zaK (sg 123) r) fun _ r=>zaG (zlU [] r) fun rs r =>
  zaG (zaK (sg 125) r) fun _ r=>zdp (acc ++ [⟨n,rs⟩]) r
 else .ok (acc,l):=by
 conv=>lhs;unfold zdp zhB
 by_cases b:isT zeB l=true
 · rw [yan b,yan b];have d:=zaw zbQ b;refine zag rfl fun _ _ e=>?_;have f:=zaq e;refine zag rfl fun _ g e=>?_;have j:=zap (zao _) e;refine zag (zd9 _ _ _ _ _ _ yab yab yab yab) fun _ _ e=>?_;have k:=zd8 _ _ _ _ _ _ yab e;refine zag rfl fun _ _ e=>?_;have m:=zap (zao _) e;exact zeF _ _ _ _ _ _ yab yab yab yab
 · rw [yak b,yak b]
theorem zfI (l:List Tk):zfH l=zaG (zdp [] l) fun t r=>if (hdT r).1=3 then .ok (t,r) else zns 30 r:=by
 unfold zfH zdp;exact zag (zeF _ _ _ _ _ _ yab yab yab yab) fun _ _ _=>rfl
theorem zgN:∀f:Nat,(∀d l o r,partF f d l = .ok (o,r)→o.length + r.length≤l.length)∧(∀d acc l o r,moreF f d acc l = .ok (o,r)→o.length + r.length≤acc.length + l.length)
 | 0=>⟨fun d l o r h=>(by unfold partF at h;cases h),fun d acc l o r h=>(by unfold moreF at h;cases h)⟩
 | f + 1=>by
  obtain ⟨g,j⟩:=zgN f;constructor
  · intro d l o r h;unfold partF at h;split at h
    · rename_i b
      have n:=zaw yac b;cases h;simp only [yaq,yaI];omega
    · split at h
      · rename_i b
        have n:=zaw (zao _) b;split at h
        · cases h
        · obtain ⟨a,m,k,h⟩:=zac h;have s:=g _ _ _ _ k;obtain ⟨u,x,p,h⟩:=zac h;have q:=j _ _ _ _ _ p;obtain ⟨a3,z,y,h⟩:=zac h;have A:=zap (zao _) y;cases h;omega
      · obtain ⟨a,m,k,h⟩:=zac h;have B:=zaq k;split at h
        · rename_i b
          have n:=zaw (zao _) b;obtain ⟨u,x,p,h⟩:=zac h;have C:=zaq p;cases h;simp only [yaq,yaI];omega
        · cases h;simp only [yaq,yaI];omega
  · intro d acc l o r h;unfold moreF at h;split at h
    · cases h;exact yaj _
    · rename_i b
      have n:=zfy b;obtain ⟨a,m,k,h⟩:=zac h;have s:=g _ _ _ _ k;have q:=j _ _ _ _ _ h;simp only [yam,yaq,yaI] at q;omega
theorem zpg:∀(f:Nat) (acc:List zdv) (l:List Tk) (o:List zdv) (r:List Tk),zk5 f acc l = .ok (o,r)→o.length + r.length≤acc.length + l.length
 | 0,acc,l,o,r,h=>by unfold zk5 at h;cases h
 | f + 1,acc,l,o,r,h=>by
  unfold zk5 at h;obtain ⟨a,m,d,h⟩:=zac h;have k:=zaq d;obtain ⟨n,g,j,h⟩:=zac h;have p:=zjA j;by_cases b:isT (sg 44) g=true
  · rw [yan b] at h;have q:=zaw (zao _) b;have:=zpg f _ _ _ _ h;simp only [yam,yaq,yaI] at this;omega
  · rw [yak b] at h;cases h;simp only [yam,yaq,yaI];omega
def FewR (N:Nat) (x:RelP):Prop:=x.subs.length≤N∧x.ops.length≤N
theorem zpe {l r:List Tk} {x:RelP} (h:zqJ l = .ok (x,r)):FewR l.length x∧r.length<l.length:=by
 refine ⟨?_,(zcC (f:=l.length + 1) (ycs _)).2 _ _ h⟩;unfold zqJ at h;obtain ⟨_,_,e,h⟩:=zac h;have j:=zaq e;obtain ⟨_,_,e,h⟩:=zac h;have k:=zap (zao _) e;obtain ⟨_,_,e,h⟩:=zac h;have n:=zaq e;obtain ⟨_,_,e,h⟩:=zac h;have o:=zap (zao _) e;obtain ⟨_,_,e,h⟩:=zac h;have p:=zaq e;obtain ⟨_,_,e,h⟩:=zac h;have q:=zap (zao _) e;obtain ⟨_,_,e,h⟩:=zac h;have s:=zaq e;obtain ⟨_,_,e,h⟩:=zac h;have u:=zap (zao _) e;obtain ⟨_,_,e,h⟩:=zac h;have y:=zap (zao _) e;obtain ⟨subs,m,e,h⟩:=zac h;have z:subs.length + m.length≤l.length:=by
  split at e
  · cases e;simp only [yaI];omega
  · have:=zpg _ _ _ _ _ e;simp only [yaI] at this;omega
 obtain ⟨ops,A,e,h⟩:=zac h;have b:ops.length≤l.length:=by
  split at e
  · rename_i d
    have B:=zaw zjs d;unfold zk3 at e;obtain ⟨_,_,g,e⟩:=zac e;have C:=(zgN _).1 _ _ _ _ g;have D:=(zgN _).2 _ _ _ _ _ e;omega
  · cases e;simp only [yaq,yaI];omega
 obtain ⟨_,_,e,h⟩:=zac h;cases h;exact ⟨by dsimp only;omega,b⟩
theorem FewR.up {N M:Nat} {x:RelP} (h:FewR N x) (hN:N≤M):FewR M x:=⟨yax h.1 hN,yax h.2 hN⟩
theorem zmt (N:Nat):∀(n:Nat) (acc:List RelP) (l:List Tk) (o:List RelP) (r:List Tk),l.length≤n→l.length≤N→(∀x ∈ acc,FewR N x)→zlU acc l = .ok (o,r)→(∀x ∈ o,FewR N x)∧o.length + r.length≤acc.length + l.length:=by
 intro n;induction n with
 | zero =>
  intro acc l o r j k f h;rw [zea] at h;by_cases b:isT zm9 l=true
  · have:=zaw zb3 b;omega
  · rw [yak b] at h;cases h;exact ⟨f,yaj _⟩
 | succ n ih =>
  intro acc l o r j k f h;rw [zea] at h;by_cases b:isT zm9 l=true
  · rw [yan b] at h;have p:=zaw zb3 b;obtain ⟨x,m,e,h⟩:=zac h;obtain ⟨g,w⟩:=zpe e;have:=ih _ _ _ _ yab yab (fun y d=>by
     rcases yaz.1 d with d | d
     · exact f y d
     · simp only [yav,ya1,ybw] at d;subst d;exact g.up yab) h
    refine ⟨this.1,?_⟩;have:=this.2;simp only [yam,yaq,yaI] at this;omega
  · rw [yak b] at h;cases h;exact ⟨f,yaj _⟩
def FewT (N:Nat) (t:TypP):Prop:=t.rels.length≤N∧∀x ∈ t.rels,FewR N x
theorem zpf (N:Nat):∀(n:Nat) (acc:List TypP) (l:List Tk) (o:List TypP) (r:List Tk),l.length≤n→l.length≤N→(∀t ∈ acc,FewT N t)→zdp acc l = .ok (o,r)→(∀t ∈ o,FewT N t)∧o.length + r.length≤acc.length + l.length:=by
 intro n;induction n with
 | zero =>
  intro acc l o r j k f h;rw [zda] at h;by_cases b:isT zeB l=true
  · have:=zaw zbQ b;omega
  · rw [yak b] at h;cases h;exact ⟨f,yaj _⟩
 | succ n ih =>
  intro acc l o r j k f h;rw [zda] at h;by_cases b:isT zeB l=true
  · rw [yan b] at h;have s:=zaw zbQ b;obtain ⟨_,_,e,h⟩:=zac h;have u:=zaq e;obtain ⟨_,_,e,h⟩:=zac h;have y:=zap (zao _) e;obtain ⟨z,m,e,h⟩:=zac h;obtain ⟨g,p⟩:=zmt N _ _ _ _ _ (yaj _) yab (fun x q=>by cases q) e;simp only [yaI] at p;obtain ⟨_,_,e,h⟩:=zac h;have A:=zap (zao _) e;have:=ih _ _ _ _ yab yab (fun t d=>by
     rcases yaz.1 d with d | d
     · exact f t d
     · simp only [yav,ya1,ybw] at d;subst d;exact ⟨by dsimp only;omega,g⟩) h
    refine ⟨this.1,?_⟩;have:=this.2;simp only [yam,yaq,yaI] at this;omega
  · rw [yak b] at h;cases h;exact ⟨f,yaj _⟩
def Few (N:Nat) (T:List TypP):Prop:=T.length≤N∧∀t ∈ T,FewT N t
theorem zqA {N:Nat} (hl:(zcN s).1.length≤N):Few N (zak s).1:=by
 unfold zak;split
 · rw [zfI];cases d:zdp [] (zcN s).1 with
   | error e=>exact ⟨yap _,fun t b=>by cases b⟩
   | ok q =>
    obtain ⟨g,l⟩:=zpf N _ _ _ _ _ (yaj _) hl (fun t b=>by cases b) (show zdp [] (zcN s).1 = .ok (q.1,q.2) from d);rw [zb6];simp only [yaI] at l;split
    · exact ⟨by show q.1.length≤N;omega,g⟩
    · exact ⟨yap _,fun t b=>by cases b⟩
 · exact ⟨yap _,fun t b=>by cases b⟩
end
end Go.Proofs.YtmblgnddgmfkhaaGreat
