import Derived.Test.YtmblgnddgmfkhaaGreatK03
set_option maxRecDepth 100000
set_option maxHeartbeats 4000000
namespace Go.Proofs.YtmblgnddgmfkhaaGreat
section
variable {u:ByteArray} {c:Nat} {p:Nat→Bool}
def zcq (c:Nat):Bool:=decide (c=123∨c=125∨c=40∨c=41∨c=58∨c=44∨c=59∨c=124∨c=38∨c=45∨c=46∨c=35)
def zbG (c:Nat):Bool:=decide (c=32∨c=9∨c=10)
theorem zcV:zcq c=true↔(c=123∨c=125∨c=40∨c=41∨c=58∨c=44∨c=59∨c=124∨c=38∨c=45∨c=46∨c=35):=by unfold zcq;exact ybF
theorem zb0:zbG c=true↔(c=32∨c=9∨c=10):=by unfold zbG;exact ybF
theorem zkn:zih c=true↔(c=95∨(97≤c∧c≤122)∨(65≤c∧c≤90)∨(48≤c∧c≤57)):=by unfold zih;exact ybF
def zmE (p:Nat→Bool) (u:ByteArray):Nat:=least (fun j=>!(decide (plc u j<u.size) && p (plc u j))) u.size 0
theorem zcU (p:Nat→Bool) (u:ByteArray):(∀j,j<zmE p u→plc u j<u.size∧p (plc u j)=true)∧(plc u (zmE p u)<u.size→p (plc u (zmE p u))=false):=by
 obtain ⟨a,_,c⟩:=zdg (fun j=>!(decide (plc u j<u.size) && p (plc u j))) u.size 0 ⟨u.size,yao _,by omega,by simp [zjZ]⟩;refine ⟨fun j f=>?_,fun h=>?_⟩
 · have:=c j (yao _) f;simpa using this
 · have b:(!(decide (plc u (zmE p u)<u.size) && p (plc u (zmE p u))))=true:=a;rw [yaB h] at b;simpa using b
theorem zhZ {k:Nat} (h1:∀j,j<k→plc u j<u.size∧p (plc u j)=true) (h2:plc u k<u.size→p (plc u k)=false):zmE p u=k:=by
 obtain ⟨a,b⟩:=zcU p u;rcases ycW (zmE p u) k with h | h | h
 · obtain ⟨x,y⟩:=h1 _ h;rw [b x] at y;cases y
 · exact h
 · obtain ⟨x,y⟩:=a _ h;rw [h2 x] at y;cases y
theorem zh0 (p:Nat→Bool) (u:ByteArray):zmE p u≤cnt u:=by
 rcases ybM (cnt u) (zmE p u) with h | h
 · have:=((zcU p u).1 _ h).1;rw [(zcu u).1] at this;omega
 · exact h
theorem zgV (h:0<u.size) (hp:p 0=true):0<zmE p u:=by
 rcases ybg (zmE p u) with e | e
 · have:=(zcU p u).2;rw [e] at this;have b:p (plc u 0)=false:=this h;rw [show plc u 0=0 from rfl,hp] at b;cases b
 · exact e
theorem zrK (hp:p 0=false):zmE p u=0:=zhZ (fun _ b=>absurd b (ybe _)) fun _=>hp
def wrN (u:ByteArray):Nat:=zmE (zfy u) u
def ntN (u:ByteArray):Nat:=zmE (fun i=>!decide (bt u i=10)) u
def zkf (u:ByteArray):Nat:=zmE (fun i=>!brk u i) u
def kd (u:ByteArray):Nat :=
 if zbG (bt u 0)=true then 0 else if zcq (bt u 0)=true then 2
 else if bt u 0=47 then (if 1<u.size∧bt u 1=47 then 0 else 30)
 else if zfy u 0=true then (if wrN u≤24 then 1 else 31) else 30
def ln (u:ByteArray):Nat :=
 if zbG (bt u 0)=true then 1 else if zcq (bt u 0)=true then 1
 else if bt u 0=47 then ntN u else wrN u
theorem ln_pos (h:0<u.size) (hk:kd u<3):0<ln u:=by
 unfold kd at hk;unfold ln;by_cases f:zbG (bt u 0)=true
 · rw [yan f];omega
 rw [yak f] at hk ⊢;by_cases g:zcq (bt u 0)=true
 · rw [yan g];omega
 rw [yak g] at hk ⊢;by_cases b:bt u 0=47
 · rw [yan b];exact zgV h (by rw [b];rfl)
 rw [yak b] at hk ⊢;by_cases j:zfy u 0=true
 · exact zgV h j
 rw [yak j] at hk;omega
theorem ln_le (h:0<u.size):ln u≤cnt u:=by
 have:=zlS h;unfold ln;repeat' split
 · omega
 · omega
 · exact zh0 _ u
 · exact zh0 _ u
abbrev Tk:=Nat × ByteArray × Nat
def zj5:Nat→ByteArray→Nat→List Tk × Nat × Nat
 | 0,_,off=>([],0,off)
 | f + 1,u,off =>
  if u.size=0 then ([(3,⟨#[]⟩,off)],0,0)
  else if 3≤kd u then ([],kd u,off)
  else ((if kd u=0 then [] else [(kd u,cutA u (ln u),off)]) ++ (zj5 f (cutB u (ln u)) (off + plc u (ln u))).1,(zj5 f (cutB u (ln u)) (off + plc u (ln u))).2)
theorem zjr (h:0<u.size) (hk:kd u<3):(cutB u (ln u)).size<u.size:=by
 have f:=zaM u (ln u);have b:=ln_pos h hk;have g:=zbi u (show 1≤ln u from b);have j:plc u 0<plc u 1:=zbl (s:=u) (k:=0) (by exact h);have m:plc u 0=0:=rfl;omega
theorem zjc:∀(f g:Nat) (u:ByteArray) (off:Nat),u.size<f→u.size<g→zj5 f u off=zj5 g u off
 | 0,_,_,_,h,_=>absurd h (ybe _)
 | _ + 1,0,_,_,_,h=>absurd h (ybe _)
 | f + 1,g + 1,u,off,k,m=>by
  unfold zj5;by_cases b:u.size=0
  · rw [yan b,yan b]
  rw [yak b,yak b];by_cases j:3≤kd u
  · rw [yan j,yan j]
  rw [yak j,yak j];have:=zjr (u:=u) yab yab;rw [zjc f g _ _ yab (by omega)]
def zei (u:ByteArray) (off:Nat):List Tk × Nat × Nat:=zj5 (u.size + 1) u off
theorem zfH {off:Nat} (h:u.size=0):zei u off=([(3,⟨#[]⟩,off)],0,0):=by unfold zei zj5;rw [yan h]
theorem scan_err {off:Nat} (h:0<u.size) (hk:3≤kd u):zei u off=([],kd u,off):=by unfold zei zj5;rw [yak yab,yan hk]
theorem zmH {off:Nat} (h:0<u.size) (hk:kd u<3) :
 zei u off=((if kd u=0 then [] else [(kd u,cutA u (ln u),off)]) ++ (zei (cutB u (ln u)) (off + plc u (ln u))).1,(zei (cutB u (ln u)) (off + plc u (ln u))).2):=by
 have:=zjr h hk;conv=>lhs;unfold zei zj5
 rw [yak yab,yak yab,zjc u.size ((cutB u (ln u)).size + 1) _ _ yab (by omega)];rfl
def zc2 (s:ByteArray):List Tk × Nat × Nat :=
 if 2048<s.size then ([],13,0)
 else if plc s (zkf s)<s.size then ([],11,plc s (zkf s))
 else if (zei s 0).2.1=0 then zei s 0 else ([],(zei s 0).2)
theorem zeo {s:ByteArray}:zck s=true↔¬plc s (zkf s)<s.size:=by
 obtain ⟨a,b⟩:=zcU (fun i=>!brk s i) s;rw [zcL];constructor
 · intro h g;have f:=b g;have m:brk s (plc s (zkf s))=false:=h _ (za3.2 g);have j:(!brk s (plc s (zkf s)))=false:=f;rw [m] at j;cases j
 · intro h k hk;have g:=za3.1 hk;rcases ybM k (zkf s) with f | f
   · have:=(a k f).2;simpa using this
   · have:=zbi s f;omega
def keyB (s:ByteArray):Bool:=decide (s=⟨#[116,121,112,101]⟩∨s=⟨#[114,101,108]⟩∨s=⟨#[105,115]⟩∨s=⟨#[116,104,105,115]⟩)
theorem one_cnt {t:ByteArray} {r:Nat} (hz:0<t.size) (hd:Utf8.decode t 0=(r,t.size)):cnt t=1:=by
 have b:plc t 0<t.size:=hz;have f:plc t 1=plc t 0 + wd t (plc t 0):=zaK b;have g:wd t (plc t 0)=t.size:=by show (Utf8.decode t 0).2=_;rw [hd]
 have k:plc t 0=0:=rfl
 exact zfj yab fun j m=>by
  obtain rfl:j=0:=by omega
  exact hz
theorem zjQ {t:ByteArray} {r:Nat} (hz:0<t.size) (hd:Utf8.decode t 0=(r,t.size)) (hb:brk t 0=false):nameS t=zbM r:=by
 have b:zfy t 0=zbM r:=by
  unfold zfy;rw [hb];show (!false && zbM (Utf8.decode t 0).1)=_;rw [hd];rfl
 rw [ya9,zby,one_cnt hz hd,←b];constructor
 · rintro ⟨_,_,h⟩;exact h 0 yab
 · intro h;refine ⟨by omega,by omega,fun k hk=>?_⟩;obtain rfl:k=0:=by omega
   exact h
theorem enc_name {r:Nat} (h:r<55296∨(57344≤r∧r≤1114111)):nameS (Utf8.encode (r:Int))=zbM r:=by
 have y:Utf8.valid (r:Int)=true:=by unfold Utf8.valid;simp;omega
 unfold Utf8.encode;simp only [y,if_true,ybn];have of:∀n,n<256→(UInt8.ofNat n).toNat=n:=fun n A=>by simp;omega
 by_cases s:r<128
 · rw [yan s];show nameS (zcB r)=_;rw [name_one yab,ya9,zkn];unfold zbM;rw [ybF];omega
 rw [yak s];by_cases u:r<2048
 · rw [yan u];have m:=of (192 + r / 64) yab;have o:=of (128 + r % 64) yab;generalize UInt8.ofNat (192 + r / 64)=b at *
   generalize UInt8.ofNat (128 + r % 64)=f at *
   have j:Utf8.decode ⟨#[b,f]⟩ 0=(r,2):=by
    rw [zaD _ 0 (by show 0<2;omega),show (⟨#[b,f]⟩:ByteArray).size-0=2 from rfl,show bt ⟨#[b,f]⟩ 0=b.toNat from rfl,show bt ⟨#[b,f]⟩ (0 + 1)=f.toNat from rfl,m,o];unfold dec;rw [yak yab,yan (by omega)];exact ycb yah rfl
   refine zjQ (by show 0<2;omega) j ?_;unfold brk rn wd;rw [j];simp
 rw [yak u];by_cases x:r<65536
 · rw [yan x];have m:=of (224 + r / 4096) yab;have o:=of (128 + r / 64 % 64) yab;have q:=of (128 + r % 64) yab;generalize UInt8.ofNat (224 + r / 4096)=b at *
   generalize UInt8.ofNat (128 + r / 64 % 64)=f at *
   generalize UInt8.ofNat (128 + r % 64)=g at *
   have j:Utf8.decode ⟨#[b,f,g]⟩ 0=(r,3):=by
    rw [zaD _ 0 (by show 0<3;omega),show (⟨#[b,f,g]⟩:ByteArray).size-0=3 from rfl,show bt ⟨#[b,f,g]⟩ 0=b.toNat from rfl,show bt ⟨#[b,f,g]⟩ (0 + 1)=f.toNat from rfl,show bt ⟨#[b,f,g]⟩ (0 + 2)=g.toNat from rfl,m,o,q];unfold dec;rw [yak yab,yak yab,yan (by omega)];exact ycb yah rfl
   refine zjQ (by show 0<3;omega) j ?_;unfold brk rn wd;rw [j];simp
 rw [yak x];have m:=of (240 + r / 262144) yab;have o:=of (128 + r / 4096 % 64) yab;have q:=of (128 + r / 64 % 64) yab;have z:=of (128 + r % 64) yab;generalize UInt8.ofNat (240 + r / 262144)=b at *
 generalize UInt8.ofNat (128 + r / 4096 % 64)=f at *
 generalize UInt8.ofNat (128 + r / 64 % 64)=g at *
 generalize UInt8.ofNat (128 + r % 64)=k at *
 have j:Utf8.decode ⟨#[b,f,g,k]⟩ 0=(r,4):=by
  rw [zaD _ 0 (by show 0<4;omega),show (⟨#[b,f,g,k]⟩:ByteArray).size-0=4 from rfl,show bt ⟨#[b,f,g,k]⟩ 0=b.toNat from rfl,show bt ⟨#[b,f,g,k]⟩ (0 + 1)=f.toNat from rfl,show bt ⟨#[b,f,g,k]⟩ (0 + 2)=g.toNat from rfl,show bt ⟨#[b,f,g,k]⟩ (0 + 3)=k.toNat from rfl,m,o,q,z];unfold dec;rw [yak yab,yak yab,yak yab,yan (by omega)];exact ycb yah rfl
 refine zjQ (by show 0<4;omega) j ?_;unfold brk rn wd;rw [j];simp
theorem rn_range {s:ByteArray} {i:Nat} (h:i<s.size):rn s i<55296∨(57344≤rn s i∧rn s i≤1114111):=by
 have hb:=zgx s i;unfold rn;rw [zaD s i h];rcases zdb (s.size-i) (bt s i) (bt s (i + 1)) (bt s (i + 2)) (bt s (i + 3)) with ⟨c,e⟩ | ⟨c,e⟩ | ⟨c,e⟩ | ⟨c,e⟩ | ⟨c,e⟩;all_goals (rw [e];dsimp only;omega)
theorem rn_name {s:ByteArray} {i:Nat} (h:i<s.size) (hb:brk s i=false):nameS (Utf8.encode ((rn s i:Nat):Int))=zfy s i:=by
 rw [enc_name (rn_range h)];unfold zfy;rw [hb];rfl
theorem zl4 (h:0<u.size):zck (cutA u 1) = !brk u 0:=by
 have g:cnt (cutA u 1)=1:=by rw [zjo];have:=zlS h;omega
 have m:=za7 u 1;have n:plc u 0<plc u 1:=zbl (s:=u) (k:=0) h;have o:=zgn (s:=u) (t:=cutA u 1) (k:=1) (j:=0) m (zfX u 1) n;have hb:brk (cutA u 1) 0=brk u 0:=by
  have b:Utf8.decode (cutA u 1) 0=Utf8.decode u 0:=o;unfold brk rn wd;rw [b]
 rw [ya9,zcL,g];constructor
 · intro f;have:brk (cutA u 1) 0=false:=f 0 yab;rw [←hb,this];rfl
 · intro f k hk;obtain rfl:k=0:=by omega
   show brk (cutA u 1) 0=false;rw [hb];simpa using f
theorem brk_cutB {s:ByteArray} {k:Nat} (h:plc s k<s.size):brk (cutB s k) 0=brk s (plc s k):=by
 have b:=zaM s k;have f:=zfY b (zds s k) (i:=0) yab;unfold brk rn wd;rw [f,ybH]
def Sep (a b:ByteArray):Prop:=∀j,j<cnt a→Utf8.decode (a ++ b) (plc a j)=Utf8.decode a (plc a j)
section
variable {a b:ByteArray} (hv:Sep a b)
include hv
end
theorem zg4 (a b c:ByteArray):a ++ b ++ c=a ++ (b ++ c):=by
 refine zcX (by simp only [size_app];omega) fun k hk=>?_;simp only [size_app] at hk;by_cases f:k<a.size
 · rw [zaT _ _ _ (by rw [size_app];omega),zaT _ _ _ f,zaT _ _ _ f]
 · obtain ⟨i,rfl⟩:∃i,k=a.size + i:=⟨k-a.size,by omega⟩;by_cases g:i<b.size
   · rw [zaT _ _ _ (by rw [size_app];omega),za2 _ _ _ g,za2 _ _ _ (by rw [size_app];omega),zaT _ _ _ g]
   · obtain ⟨j,rfl⟩:∃j,i=b.size + j:=⟨i-b.size,by omega⟩;have e:bt (a ++ b ++ c) (a.size + (b.size + j))=bt c j:=by
      have:=za2 (a ++ b) c j yab;rwa [size_app,ya7] at this
     rw [e,za2 _ _ _ (by rw [size_app];omega),za2 _ _ _ (by omega)]
theorem zpE (a:ByteArray):a ++ ⟨#[]⟩=a:=zcX (by rw [size_app];rfl) fun k hk=>by
 rw [size_app] at hk;have e:(⟨#[]⟩:ByteArray).size=0:=rfl;exact zaT _ _ _ yab
theorem nil_app' (a:ByteArray):(⟨#[]⟩:ByteArray) ++ a=a:=zcX (by rw [size_app];exact yaI _) fun k hk=>by
 have e:(⟨#[]⟩:ByteArray).size=0:=rfl;rw [size_app,e,yaI] at hk;have:=za2 ⟨#[]⟩ a k hk;rwa [e,yaI] at this
section
variable {a b:ByteArray} (hs:Sep a b)
include hs
end
theorem may_not (h:0<u.size) (hm:zfy u 0=true):zbG (bt u 0)=false∧zcq (bt u 0)=false∧bt u 0≠47:=by
 by_cases hb:bt u 0<128
 · rw [zmk h hb] at hm;have hm:=zkn.1 hm;refine ⟨?_,?_,by omega⟩
   · rw [ya3];intro e;have:=zb0.1 e;omega
   · rw [ya3];intro e;have:=zcV.1 e;omega
 · refine ⟨?_,?_,by omega⟩
   · rw [ya3];intro e;have:=zb0.1 e;omega
   · rw [ya3];intro e;have:=zcV.1 e;omega
section
variable {r:ByteArray} {off:Nat}
end
def TkOK (t:Tk):Prop:=(t.1=1∧nameS t.2.1=true)∨(t.1=2∧∃c,zcq c=true∧t.2.1=zcB c)
theorem step_ok (h:0<u.size) (h3:kd u<3) (h0:¬kd u=0) (off:Nat):TkOK (kd u,cutA u (ln u),off):=by
 unfold TkOK;by_cases hb:zbG (bt u 0)=true
 · exact absurd (by unfold kd;rw [yan hb]) h0
 by_cases f:zcq (bt u 0)=true
 · right;have F:=zcV.1 f;have b:kd u=2:=by unfold kd;rw [yak hb,yan f]
   have g:ln u=1:=by unfold ln;rw [yak hb,yan f]
   refine ⟨b,bt u 0,f,?_⟩;have q:plc u 1=1:=by
    have C:plc u 1=plc u 0 + wd u (plc u 0):=zaK (s:=u) (k:=0) h;have D:wd u 0=1:=(zlV h yab).2;rw [C,show plc u 0=0 from rfl,D]
   have B:=za7 u 1;rw [g];show cutA u 1=zcB (bt u 0);refine zcX (by rw [B,q,zbm]) fun k hk=>?_;have x:=hk;rw [B,q] at x;obtain rfl:k=0:=by omega
   rw [zfX _ _ _ hk,zh1 (by omega)]
 · left;by_cases m:bt u 0=47
   · exfalso;have:kd u=0∨kd u=30:=by
      unfold kd;rw [yak hb,yak f,yan m];split
      · exact .inl rfl
      · exact .inr rfl
     omega
   · have b:kd u=(if zfy u 0=true then (if wrN u≤24 then 1 else 31) else 30):=by
      conv=>lhs;unfold kd
      rw [yak hb,yak f,yak m]
     have g:ln u=wrN u:=by unfold ln;rw [yak hb,yak f,yak m]
     by_cases y:zfy u 0=true
     · rw [yan y] at b;by_cases n:wrN u≤24
       · rw [yan n] at b;refine ⟨b,?_⟩;rw [g];have z:wrN u≤cnt u:=zh0 _ u;have o:0<wrN u:=zgV h y;rw [zby,zjo,ybT z];refine ⟨o,n,fun k hk=>?_⟩;have A:plc u k<plc u (wrN u):=yas (zbl (za3.1 yab)) (zbi u hk);have E:=zgn (s:=u) (t:=cutA u (wrN u)) (k:=wrN u) (j:=k) (za7 u _) (zfX u _) A;have q:=zmx (s:=u) (t:=cutA u (wrN u)) (k:=wrN u) (za7 u _) (zfX u _) k yab;have:=((zcU (zfy u) u).1 k hk).2;unfold zfy brk rn wd at this ⊢;rw [q,E];exact this
       · rw [yak n] at b;omega
     · rw [yak y] at b;omega
theorem zlt (n:Nat):∀(u:ByteArray) (off:Nat),u.size≤n→(zei u off).2.1=0→∃init,(zei u off).1=init ++ [(3,⟨#[]⟩,off + u.size)]∧∀t ∈ init,TkOK t:=by
 induction n with
 | zero =>
  intro u off j _;rw [zfH yab,show off + u.size=off by omega];exact ⟨[],rfl,fun t h=>by cases h⟩
 | succ n ih =>
  intro u off j f;rcases ybg u.size with h | h
  · rw [zfH h,h];exact ⟨[],rfl,fun t h=>by cases h⟩
  by_cases k:3≤kd u
  · rw [scan_err h k] at f;dsimp only at f;omega
  · have o:=zjr h yab;have m:=zaM u (ln u);have g:=zmH (off:=off) h yab;have ih:=ih (cutB u (ln u)) (off + plc u (ln u)) yab;rw [show off + plc u (ln u) + (cutB u (ln u)).size=off + u.size by omega] at ih;generalize zei u off=r at g f ⊢;generalize zei (cutB u (ln u)) (off + plc u (ln u))=q at g ih;subst g;dsimp only at f ⊢;obtain ⟨init,e,hi⟩:=ih f;rw [e,←yaD];refine ⟨_,rfl,fun t b=>?_⟩;rcases yaA.1 b with b | b
    · split at b
      · cases b
      · rename_i hk
        simp only [yaw,ya1,ybA] at b;subst b;exact step_ok h yab hk off
    · exact hi t b
section
variable {s:ByteArray}
theorem all_ok (hz:s.size≤2048) (hv:zck s=true) (h:(zei s 0).2.1=0):zc2 s=zei s 0:=by
 unfold zc2;rw [yak yab,yak (zeo.1 hv),yan h]
theorem all_err (hz:s.size≤2048) (hv:zck s=true) (h:¬(zei s 0).2.1=0):zc2 s=([],(zei s 0).2):=by
 unfold zc2;rw [yak yab,yak (zeo.1 hv),yak h]
theorem bad_lt (hv:zck s=false):plc s (zkf s)<s.size:=by
 rcases ybM (plc s (zkf s)) s.size with h | h
 · exact h
 · rw [zeo.2 (by omega)] at hv;cases hv
theorem all_bad (hz:s.size≤2048) (hv:zck s=false):zc2 s=([],11,plc s (zkf s)):=by
 unfold zc2;rw [yak yab,yan (bad_lt hv)]
theorem zjk (hz:s.size≤2048) (h:(zc2 s).2.1=0):zck s=true∧(zei s 0).2.1=0∧zc2 s=zei s 0:=by
 cases f:zck s with
 | false=>rw [all_bad hz f] at h;dsimp only at h;omega
 | true =>
  by_cases b:(zei s 0).2.1=0
  · exact ⟨rfl,b,all_ok hz f b⟩
  · rw [all_err hz f b] at h;exact absurd h b
end
section
variable {s n:ByteArray} (hv:zck n=true) (hn:∀i,i<n.size→bt n i≠10)
include hv hn
end
end
section
open Go.RowKit
variable {o:Obj}
def tcell (t:Tk):List Value:=[.int .i64 t.1,.string t.2.1,.int .i64 t.2.2]
def tcells (l:List Tk):List Value:=l.flatMap tcell
theorem zmM (l:List Tk) (t:Tk):tcells (l ++ [t])=tcells l ++ tcell t:=by simp [tcells]
theorem tcell_one (t:Tk):∀u ∈ tcell t,u.oneCell'=true:=by
 intro u b;simp only [tcell,yaw,ya1,ybA] at b;rcases b with rfl | rfl | rfl <;> rfl
theorem heap_c1 {w:World} {g:Nat} {a v b:Value} {t:TypeId} {fr:Nat × Nat} (h:w.heap[g]? = some (.cells #[a,v,b] t fr)):w.cell? ⟨g,1,none⟩=some v:=by rw [cell_of_row _ _ _ _ _ _ h];rfl
theorem heap_fz {w:World} {g:Nat} {cs:Array Value} {t:TypeId} (h:w.heap[g]? = some (.cells cs t (0,0))):∀j,w.frozen? ⟨g,j,none⟩=false:=fun j=>by simp [World.frozen?,h]
theorem size_alloc {w:World} {B:Nat} (h:B≤w.heap.size):B≤(w.alloc o).heap.size:=by simp;omega
structure Kp (g B:Nat) (w w':World):Prop where
 os:w'.os=w.os
 tape:w'.tape=w.tape
 output:w'.output=w.output
 size:w.heap.size≤w'.heap.size
 block:∀k,k<B→k≠g→w'.heap[k]? = w.heap[k]?
section
variable {g B B':Nat} {w w' w'':World}
theorem Kp.refl (g B:Nat) (w:World):Kp g B w w:=⟨rfl,rfl,rfl,yaj _,fun _ _ _=>rfl⟩
theorem Kp.trans (h:Kp g B w w') (k:Kp g B w' w''):Kp g B w w'' :=
 ⟨k.os.trans h.os,k.tape.trans h.tape,k.output.trans h.output,yay h.size k.size,fun i b f=>(k.block i b f).trans (h.block i b f)⟩
theorem Kp.of_below (h:Below B w w') (g:Nat):Kp g B w w':=⟨h.os,h.tape,h.output,h.size,fun k hk _=>h.block k hk⟩
theorem Kp.below (h:Kp g B w w') (hB:B'≤B) (hg:B'≤g):Below B' w w':=⟨h.os,h.tape,h.output,h.size,fun k hk=>h.block k yab yab⟩
theorem Kp.more (h:Kp g B w w') (hB:B'≤B):Kp g B' w w':=⟨h.os,h.tape,h.output,h.size,fun k hk b=>h.block k yab b⟩
end
theorem zaH {w w':World} {base:Nat} {e:TypeId} {size n:Nat} {v:Value} {xs:List Value} (h:w.ownsRow base e size v n xs) (hb:∀g,v.ownBlock=some g→w'.heap[g]? = w.heap[g]?):w'.ownsRow base e size v n xs:=by
 refine ⟨h.1,?_⟩;rcases h.2 with f | ⟨g,cap,b,rfl,j,k,r⟩
 · exact .inl f
 · exact .inr ⟨g,cap,b,rfl,j,(hb g rfl).trans k,r⟩
theorem zao {w w':World} {base:Nat} {e:TypeId} {size n:Nat} {v:Value} {xs:List Value} (h:w.ownsRow base e size v n xs) (hb:Below w.heap.size w w'):w'.ownsRow base e size v n xs :=
 zaH h fun g b=>hb.block g (h.lt g b).2
structure ScAt (B:Nat) (w:World) (g:Nat) (s:ByteArray) (l:List Tk) (e:Nat) (v:Value):Prop where
 cells:w.heap[g]? = some (.cells #[.string s,v,.int .i64 e] 270 (0,0))
 row:w.ownsRow B 327 3 v l.length (tcells l)
 lt:g<B
def Sc (B:Nat) (w:World) (g:Nat) (s:ByteArray) (l:List Tk) (e:Nat):Prop:=∃v,ScAt B w g s l e v
section
variable {B:Nat} {w w':World} {g:Nat} {s:ByteArray} {l:List Tk} {e:Nat} {v:Value}
theorem ScAt.size (h:ScAt B w g s l e v):g<w.heap.size:=(yaR.1 h.cells).1
theorem ScAt.c0 (h:ScAt B w g s l e v):w.cell? ⟨g,0,none⟩=some (.string s):=by rw [cell_of_row _ _ _ _ _ _ h.cells];rfl
theorem ScAt.c1 (h:ScAt B w g s l e v):w.cell? ⟨g,1,none⟩=some v:=by rw [cell_of_row _ _ _ _ _ _ h.cells];rfl
theorem ScAt.c2 (h:ScAt B w g s l e v):w.cell? ⟨g,2,none⟩=some (.int .i64 e):=by rw [cell_of_row _ _ _ _ _ _ h.cells];rfl
theorem ScAt.fz (h:ScAt B w g s l e v) (j:Nat):w.frozen? ⟨g,j,none⟩=false:=by simp [World.frozen?,h.cells]
theorem ScAt.below (h:ScAt B w g s l e v) (hb:Below w.heap.size w w'):ScAt B w' g s l e v :=
 ⟨(hb.block g h.size).trans h.cells,zao h.row hb,h.lt⟩
end
theorem ret_num {k:IntKind} {a b:Int} (h:a=b):Ending.returned (.int k a) = .returned (.int k b):=by rw [h]
theorem info_tok:(Tryz.prog.info? 327).map (fun i=>(i.zero,i.size,i.bytes))=some (some (.agg #[.int .i64 0,.string .empty,.int .i64 0]),3,32):=by kernel_rfl
theorem zfh (w:World) (a b c:Value) (t:TypeId):∀j u,[a,b,c][j]? = some u→(w.alloc (.cells #[a,b,c] t)).cell? ((⟨w.heap.size,0,none⟩:Addr).add j)=some u:=by
 intro j u f;rw [Addr.add_lit,cell_of_row _ _ _ _ _ _ (heap_alloc_new w _),yaI];simpa using f
section
variable {B:Nat} {w:World} {g:Nat} {s:ByteArray} {l:List Tk} {e:Nat}
theorem zpz {w1:World} {v:Value} (H:ScAt B w g s l e v) (hg1:(w.alloc o).grownBy w1 v.ownBlock):w1.heap[g]? = some (.cells #[.string s,v,.int .i64 e] 270 (0,0)):=by
 have b:=H.size;rw [hg1.block g yag (fun e=>by have:=(H.row.lt g e.symm).1;have:=H.lt;omega),Below.heap_alloc _ _ _ b];exact H.cells
theorem add_done {w1:World} {v v1:Value} {t:Tk} (H:ScAt B w g s l e v) (hB:B≤w.heap.size) (hg1:(w.alloc o).grownBy w1 v.ownBlock) (hown1:w1.ownsRow B 327 3 v1 (l.length + 1) (tcells l ++ tcell t)) :
 Sc B (w1.setCell ⟨g,1,none⟩ v1) g s (l ++ [t]) e∧Kp g B w (w1.setCell ⟨g,1,none⟩ v1):=by
 have m:=H.size;have f:=zpz H hg1;have b:=H.lt;refine ⟨⟨v1,?_,?_,b⟩,?_⟩
 · simp [World.setCell,ybB,f]
 · rw [zmM,yam];exact zaH hown1 fun k hk=>Below.heap_setCell _ _ _ _ (by have:=(hown1.lt k hk).1;show k≠g;omega)
 · refine ⟨hg1.os,hg1.tape,hg1.output,?_,fun k hk j=>?_⟩
   · have:=hg1.size;simp [World.setCell] at *;omega
   · rw [Below.heap_setCell _ _ _ _ (by show k≠g;exact j),hg1.block k yag (fun e=>by have:=(H.row.lt k e.symm).1;omega),Below.heap_alloc _ _ _ (by omega)]
theorem add_any (h:Sc B w g s l e) (hB:B≤w.heap.size) (k:Nat) (t:ByteArray) (p:Nat) (hl:l.length<1000000) (hp:p≤1000000) (ht:t.size≤1000000) :
 Calls Tryz.prog 159 #[.pointer (some ⟨g,0,none⟩),.int .i64 k,.string t,.int .i64 p] w fun e' w'=>e' = .returned (.int .i64 ((p + t.size:Nat):Int))∧Sc B w' g s (l ++ [(k,t,p)]) e∧Kp g B w w':=by
 obtain ⟨v,h⟩:=h;have u:=h.c1;have y:=h.fz;have z:=h.size;obtain ⟨x,hi,m,n,o⟩:=info_parts info_tok;obtain ⟨A,c,rfl,_⟩:=Rd.own h.row;have H:=Lib.hid h;clear h;go_enter Tryz.func159,Tryz.ntmps159
 go_wp2_with (first
  | (at_builtin;go_loud (refine zab _ rfl (.tmp 13) (.tmp 18) 193 193 rfl B 327 x (.agg #[.int .i64 0,.string .empty,.int .i64 0]) 3 32 Tryz.underlying193 hi m n o rfl yac _ l.length (tcells l) rfl (H.out.row.alloc _) _ 1 [.int .i64 k,.string t,.int .i64 p] rfl (Src.ofSlice _ Tryz.underlying193 _ 1 1 _ rfl (zfh _ _ _ _ _) (tcell_one (k,t,p))) yad yab (size_alloc hB) ?_;intro C D b f q;obtain ⟨E,u,rfl,_⟩:=Rd.own b;have j:=zpz H.out f;have F:=heap_c1 j;have G:=heap_fz j)))
 go_ret
 exact ⟨ret_num yab,add_done H.out hB f b⟩
end
end
end Go.Proofs.YtmblgnddgmfkhaaGreat
