import Derived.BigQuiet
import Derived.Deep.QuietTactic
import Derived.Lib.OthersKept
import Derived.Test.YtiepddmagfmllaaGreatRows
import Derived.Test.YtiepddmagfmllaaGreatT02
set_option maxRecDepth 100000
set_option maxHeartbeats 4000000
namespace Go.Proofs.YtiepddmagfmllaaGreat
def za9 (c:Nat):Bool:=decide (c=123∨c=125∨c=40∨c=41∨c=58∨c=44∨c=59∨c=124∨c=38∨c=45∨c=46∨c=35)
def zaY (c:Nat):Bool:=decide (c=32∨c=9∨c=10)
theorem zb5 {c:Nat}:za9 c=true↔(c=123∨c=125∨c=40∨c=41∨c=58∨c=44∨c=59∨c=124∨c=38∨c=45∨c=46∨c=35):=by unfold za9;exact decide_eq_true_iff
theorem zaV {c:Nat}:zaY c=true↔(c=32∨c=9∨c=10):=by unfold zaY;exact decide_eq_true_iff
theorem zhG {c:Nat}:zgN c=true↔(c=95∨(97≤c∧c≤122)∨(65≤c∧c≤90)∨(48≤c∧c≤57)):=by unfold zgN;exact decide_eq_true_iff
def zjd (p:Nat→Bool) (u:ByteArray):Nat:=least (fun j=>!(decide (plc u j<u.size) && p (plc u j))) u.size 0
theorem zcq (p:Nat→Bool) (u:ByteArray):(∀j,j<zjd p u→plc u j<u.size∧p (plc u j)=true)∧(plc u (zjd p u)<u.size→p (plc u (zjd p u))=false):=by
 obtain ⟨a,_,c⟩:=zeQ (fun j=>!(decide (plc u j<u.size) && p (plc u j))) u.size 0 ⟨u.size,Nat.zero_le _,by omega,by simp [zhh]⟩;refine ⟨fun j hj=>?_,fun h=>?_⟩
 · have:=c j (Nat.zero_le _) hj;simpa using this
 · have a':(!(decide (plc u (zjd p u)<u.size) && p (plc u (zjd p u))))=true:=a;rw [decide_eq_true h] at a';simpa using a'
theorem zd6 {p:Nat→Bool} {u:ByteArray} {k:Nat} (h1:∀j,j<k→plc u j<u.size∧p (plc u j)=true) (h2:plc u k<u.size→p (plc u k)=false):zjd p u=k:=by
 obtain ⟨a,b⟩:=zcq p u;rcases Nat.lt_trichotomy (zjd p u) k with h | h | h
 · obtain ⟨x,y⟩:=h1 _ h;rw [b x] at y;cases y
 · exact h
 · obtain ⟨x,y⟩:=a _ h;rw [h2 x] at y;cases y
theorem zf6 (p:Nat→Bool) (u:ByteArray):zjd p u≤cnt u:=by
 rcases Nat.lt_or_ge (cnt u) (zjd p u) with h | h
 · have:=((zcq p u).1 _ h).1;rw [(zcy u).1] at this;omega
 · exact h
theorem zft {p:Nat→Bool} {u:ByteArray} (h:0<u.size) (hp:p 0=true):0<zjd p u:=by
 rcases Nat.eq_zero_or_pos (zjd p u) with e | e
 · have:=(zcq p u).2;rw [e] at this;have h0:p (plc u 0)=false:=this h;rw [show plc u 0=0 from rfl,hp] at h0;cases h0
 · exact e
theorem zmA {p:Nat→Bool} {u:ByteArray} (hp:p 0=false):zjd p u=0:=zd6 (fun _ hj=>absurd hj (Nat.not_lt_zero _)) fun _=>hp
def wrN (u:ByteArray):Nat:=zjd (zci u) u
def ntN (u:ByteArray):Nat:=zjd (fun i=>!decide (bt u i=10)) u
def zgb (u:ByteArray):Nat:=zjd (fun i=>!brk u i) u
def kd (u:ByteArray):Nat :=
 if zaY (bt u 0)=true then 0 else if za9 (bt u 0)=true then 2
 else if bt u 0=47 then (if 1<u.size∧bt u 1=47 then 0 else 30)
 else if zci u 0=true then (if wrN u≤24 then 1 else 31) else 30
def ln (u:ByteArray):Nat :=
 if zaY (bt u 0)=true then 1 else if za9 (bt u 0)=true then 1
 else if bt u 0=47 then ntN u else wrN u
theorem zlP {u:ByteArray} (h:0<u.size) (hk:kd u<3):0<ln u:=by
 unfold kd at hk;unfold ln;by_cases h1:zaY (bt u 0)=true
 · rw [if_pos h1];omega
 rw [if_neg h1] at hk ⊢;by_cases h2:za9 (bt u 0)=true
 · rw [if_pos h2];omega
 rw [if_neg h2] at hk ⊢;by_cases h3:bt u 0=47
 · rw [if_pos h3];exact zft h (by rw [h3];rfl)
 rw [if_neg h3] at hk ⊢;by_cases h4:zci u 0=true
 · exact zft h h4
 rw [if_neg h4] at hk;omega
theorem ln_le {u:ByteArray} (h:0<u.size):ln u≤cnt u:=by
 have:=ziG h;unfold ln;repeat' split
 · omega
 · omega
 · exact zf6 _ u
 · exact zf6 _ u
abbrev Tk:=Nat × ByteArray × Nat
def zhw:Nat→ByteArray→Nat→List Tk × Nat × Nat
 | 0,_,off=>([],0,off)
 | f + 1,u,off =>
  if u.size=0 then ([(3,⟨#[]⟩,off)],0,0)
  else if 3≤kd u then ([],kd u,off)
  else ((if kd u=0 then [] else [(kd u,cutA u (ln u),off)]) ++ (zhw f (cutB u (ln u)) (off + plc u (ln u))).1,(zhw f (cutB u (ln u)) (off + plc u (ln u))).2)
theorem zgR {u:ByteArray} (h:0<u.size) (hk:kd u<3):(cutB u (ln u)).size<u.size:=by
 have h1:=zax u (ln u);have h2:=zlP h hk;have h3:=zaX u (show 1≤ln u from h2);have h4:plc u 0<plc u 1:=zaQ (s:=u) (k:=0) (by exact h);have h5:plc u 0=0:=rfl;omega
theorem zgF:∀(f g:Nat) (u:ByteArray) (off:Nat),u.size<f→u.size<g→zhw f u off=zhw g u off
 | 0,_,_,_,h,_=>absurd h (Nat.not_lt_zero _)
 | _ + 1,0,_,_,_,h=>absurd h (Nat.not_lt_zero _)
 | f + 1,g + 1,u,off,hf,hg=>by
  unfold zhw;by_cases h0:u.size=0
  · rw [if_pos h0,if_pos h0]
  rw [if_neg h0,if_neg h0];by_cases h3:3≤kd u
  · rw [if_pos h3,if_pos h3]
  rw [if_neg h3,if_neg h3];have:=zgR (u:=u) (by omega) (by omega);rw [zgF f g _ _ (by omega) (by omega)]
def zcc (u:ByteArray) (off:Nat):List Tk × Nat × Nat:=zhw (u.size + 1) u off
theorem zdR {u:ByteArray} {off:Nat} (h:u.size=0):zcc u off=([(3,⟨#[]⟩,off)],0,0):=by unfold zcc zhw;rw [if_pos h]
theorem scan_err {u:ByteArray} {off:Nat} (h:0<u.size) (hk:3≤kd u):zcc u off=([],kd u,off):=by unfold zcc zhw;rw [if_neg (by omega),if_pos hk]
theorem zhy {u:ByteArray} {off:Nat} (h:0<u.size) (hk:kd u<3) :
 zcc u off=((if kd u=0 then [] else [(kd u,cutA u (ln u),off)]) ++ (zcc (cutB u (ln u)) (off + plc u (ln u))).1,(zcc (cutB u (ln u)) (off + plc u (ln u))).2):=by
 have:=zgR h hk;conv=>lhs;unfold zcc zhw
 rw [if_neg (by omega),if_neg (by omega),zgF u.size ((cutB u (ln u)).size + 1) _ _ (by omega) (by omega)];rfl
def zbP (s:ByteArray):List Tk × Nat × Nat :=
 if 2048<s.size then ([],13,0)
 else if plc s (zgb s)<s.size then ([],11,plc s (zgb s))
 else if (zcc s 0).2.1=0 then zcc s 0 else ([],(zcc s 0).2)
theorem zcI {s:ByteArray}:zb6 s=true↔¬plc s (zgb s)<s.size:=by
 obtain ⟨a,b⟩:=zcq (fun i=>!brk s i) s;rw [zbX];constructor
 · intro h hl;have h1:=b hl;have h2:brk s (plc s (zgb s))=false:=h _ (za1.2 hl);have h3:(!brk s (plc s (zgb s)))=false:=h1;rw [h2] at h3;cases h3
 · intro h k hk;have hl:=za1.1 hk;rcases Nat.lt_or_ge k (zgb s) with h1 | h1
   · have:=(a k h1).2;simpa using this
   · have:=zaX s h1;omega
def keyB (s:ByteArray):Bool:=decide (s=⟨#[116,121,112,101]⟩∨s=⟨#[114,101,108]⟩∨s=⟨#[105,115]⟩∨s=⟨#[116,104,105,115]⟩)
theorem one_cnt {t:ByteArray} {r:Nat} (hz:0<t.size) (hd:Utf8.decode t 0=(r,t.size)):cnt t=1:=by
 have h0:plc t 0<t.size:=hz;have h1:plc t 1=plc t 0 + wd t (plc t 0):=zaJ h0;have h2:wd t (plc t 0)=t.size:=by show (Utf8.decode t 0).2=_;rw [hd]
 have h3:plc t 0=0:=rfl
 exact zdX (by omega) fun j hj=>by
  obtain rfl:j=0:=by omega
  exact hz
theorem zha {t:ByteArray} {r:Nat} (hz:0<t.size) (hd:Utf8.decode t 0=(r,t.size)) (hb:brk t 0=false):zep t=zbF r:=by
 have hm:zci t 0=zbF r:=by
  unfold zci;rw [hb];show (!false && zbF (Utf8.decode t 0).1)=_;rw [hd];rfl
 rw [Bool.eq_iff_iff,zbH,one_cnt hz hd,←hm];constructor
 · rintro ⟨_,_,h⟩;exact h 0 (by omega)
 · intro h;refine ⟨by omega,by omega,fun k hk=>?_⟩;obtain rfl:k=0:=by omega
   exact h
theorem enc_name {r:Nat} (h:r<55296∨(57344≤r∧r≤1114111)):zep (Utf8.encode (r:Int))=zbF r:=by
 have hv:Utf8.valid (r:Int)=true:=by unfold Utf8.valid;simp;omega
 unfold Utf8.encode;simp only [hv,if_true,Int.toNat_natCast];have of:∀n,n<256→(UInt8.ofNat n).toNat=n:=fun n hn=>by simp;omega
 by_cases h1:r<128
 · rw [if_pos h1];show zep (zig r)=_;rw [name_one (by omega),Bool.eq_iff_iff,zhG];unfold zbF;rw [decide_eq_true_iff];omega
 rw [if_neg h1];by_cases h2:r<2048
 · rw [if_pos h2];have e0:=of (192 + r / 64) (by omega);have e1:=of (128 + r % 64) (by omega);generalize UInt8.ofNat (192 + r / 64)=b0 at *
   generalize UInt8.ofNat (128 + r % 64)=b1 at *
   have hd:Utf8.decode ⟨#[b0,b1]⟩ 0=(r,2):=by
    rw [zaA _ 0 (by show 0<2;omega),show (⟨#[b0,b1]⟩:ByteArray).size-0=2 from rfl,show bt ⟨#[b0,b1]⟩ 0=b0.toNat from rfl,show bt ⟨#[b0,b1]⟩ (0 + 1)=b1.toNat from rfl,e0,e1];unfold dec;rw [if_neg (by omega),if_pos (by omega)];exact Prod.ext (by dsimp only;omega) rfl
   refine zha (by show 0<2;omega) hd ?_;unfold brk rn wd;rw [hd];simp
 rw [if_neg h2];by_cases h3:r<65536
 · rw [if_pos h3];have e0:=of (224 + r / 4096) (by omega);have e1:=of (128 + r / 64 % 64) (by omega);have e2:=of (128 + r % 64) (by omega);generalize UInt8.ofNat (224 + r / 4096)=b0 at *
   generalize UInt8.ofNat (128 + r / 64 % 64)=b1 at *
   generalize UInt8.ofNat (128 + r % 64)=b2 at *
   have hd:Utf8.decode ⟨#[b0,b1,b2]⟩ 0=(r,3):=by
    rw [zaA _ 0 (by show 0<3;omega),show (⟨#[b0,b1,b2]⟩:ByteArray).size-0=3 from rfl,show bt ⟨#[b0,b1,b2]⟩ 0=b0.toNat from rfl,show bt ⟨#[b0,b1,b2]⟩ (0 + 1)=b1.toNat from rfl,show bt ⟨#[b0,b1,b2]⟩ (0 + 2)=b2.toNat from rfl,e0,e1,e2];unfold dec;rw [if_neg (by omega),if_neg (by omega),if_pos (by omega)];exact Prod.ext (by dsimp only;omega) rfl
   refine zha (by show 0<3;omega) hd ?_;unfold brk rn wd;rw [hd];simp
 rw [if_neg h3];have e0:=of (240 + r / 262144) (by omega);have e1:=of (128 + r / 4096 % 64) (by omega);have e2:=of (128 + r / 64 % 64) (by omega);have e3:=of (128 + r % 64) (by omega);generalize UInt8.ofNat (240 + r / 262144)=b0 at *
 generalize UInt8.ofNat (128 + r / 4096 % 64)=b1 at *
 generalize UInt8.ofNat (128 + r / 64 % 64)=b2 at *
 generalize UInt8.ofNat (128 + r % 64)=b3 at *
 have hd:Utf8.decode ⟨#[b0,b1,b2,b3]⟩ 0=(r,4):=by
  rw [zaA _ 0 (by show 0<4;omega),show (⟨#[b0,b1,b2,b3]⟩:ByteArray).size-0=4 from rfl,show bt ⟨#[b0,b1,b2,b3]⟩ 0=b0.toNat from rfl,show bt ⟨#[b0,b1,b2,b3]⟩ (0 + 1)=b1.toNat from rfl,show bt ⟨#[b0,b1,b2,b3]⟩ (0 + 2)=b2.toNat from rfl,show bt ⟨#[b0,b1,b2,b3]⟩ (0 + 3)=b3.toNat from rfl,e0,e1,e2,e3];unfold dec;rw [if_neg (by omega),if_neg (by omega),if_neg (by omega),if_pos (by omega)];exact Prod.ext (by dsimp only;omega) rfl
 refine zha (by show 0<4;omega) hd ?_;unfold brk rn wd;rw [hd];simp
theorem rn_range {s:ByteArray} {i:Nat} (h:i<s.size):rn s i<55296∨(57344≤rn s i∧rn s i≤1114111):=by
 have hb:=zfc s i;unfold rn;rw [zaA s i h];rcases zcK (s.size-i) (bt s i) (bt s (i + 1)) (bt s (i + 2)) (bt s (i + 3)) with ⟨c,e⟩ | ⟨c,e⟩ | ⟨c,e⟩ | ⟨c,e⟩ | ⟨c,e⟩;all_goals (rw [e];dsimp only;omega)
theorem rn_name {s:ByteArray} {i:Nat} (h:i<s.size) (hb:brk s i=false):zep (Utf8.encode ((rn s i:Nat):Int))=zci s i:=by
 rw [enc_name (rn_range h)];unfold zci;rw [hb];rfl
theorem ziM {u:ByteArray} (h:0<u.size):zb6 (cutA u 1) = !brk u 0:=by
 have hc:cnt (cutA u 1)=1:=by rw [zgP];have:=ziG h;omega
 have hs:=zbc u 1;have h1:plc u 0<plc u 1:=zaQ (s:=u) (k:=0) h;have hd:=ze3 (s:=u) (t:=cutA u 1) (k:=1) (j:=0) hs (zeI u 1) h1;have hb:brk (cutA u 1) 0=brk u 0:=by
  have hd':Utf8.decode (cutA u 1) 0=Utf8.decode u 0:=hd;unfold brk rn wd;rw [hd']
 rw [Bool.eq_iff_iff,zbX,hc];constructor
 · intro h2;have:brk (cutA u 1) 0=false:=h2 0 (by omega);rw [←hb,this];rfl
 · intro h2 k hk;obtain rfl:k=0:=by omega
   show brk (cutA u 1) 0=false;rw [hb];simpa using h2
theorem brk_cutB {s:ByteArray} {k:Nat} (h:plc s k<s.size):brk (cutB s k) 0=brk s (plc s k):=by
 have hz:=zax s k;have hd:=zcL hz (zcl s k) (i:=0) (by omega);unfold brk rn wd;rw [hd,Nat.add_zero]
def Sep (a b:ByteArray):Prop:=∀j,j<cnt a→Utf8.decode (a ++ b) (plc a j)=Utf8.decode a (plc a j)
section
variable {a b:ByteArray} (hv:Sep a b)
include hv
end
theorem zaK (a b c:ByteArray):a ++ b ++ c=a ++ (b ++ c):=by
 refine zc7 (by simp only [size_app];omega) fun k hk=>?_;simp only [size_app] at hk;by_cases h1:k<a.size
 · rw [zbS _ _ _ (by rw [size_app];omega),zbS _ _ _ h1,zbS _ _ _ h1]
 · obtain ⟨i,rfl⟩:∃i,k=a.size + i:=⟨k-a.size,by omega⟩;by_cases h2:i<b.size
   · rw [zbS _ _ _ (by rw [size_app];omega),zbx _ _ _ h2,zbx _ _ _ (by rw [size_app];omega),zbS _ _ _ h2]
   · obtain ⟨j,rfl⟩:∃j,i=b.size + j:=⟨i-b.size,by omega⟩;have e:bt (a ++ b ++ c) (a.size + (b.size + j))=bt c j:=by
      have:=zbx (a ++ b) c j (by omega);rwa [size_app,Nat.add_assoc] at this
     rw [e,zbx _ _ _ (by rw [size_app];omega),zbx _ _ _ (by omega)]
theorem zbC (a:ByteArray):a ++ ⟨#[]⟩=a:=zc7 (by rw [size_app];rfl) fun k hk=>by
 rw [size_app] at hk;have e:(⟨#[]⟩:ByteArray).size=0:=rfl;exact zbS _ _ _ (by omega)
theorem zfo (a:ByteArray):(⟨#[]⟩:ByteArray) ++ a=a:=zc7 (by rw [size_app];exact Nat.zero_add _) fun k hk=>by
 have e:(⟨#[]⟩:ByteArray).size=0:=rfl;rw [size_app,e,Nat.zero_add] at hk;have:=zbx ⟨#[]⟩ a k hk;rwa [e,Nat.zero_add] at this
section
variable {a b:ByteArray} (hs:Sep a b)
include hs
end
theorem may_not {u:ByteArray} (h:0<u.size) (hm:zci u 0=true):zaY (bt u 0)=false∧za9 (bt u 0)=false∧bt u 0≠47:=by
 by_cases hb:bt u 0<128
 · rw [ziU h hb] at hm;have hm:=zhG.1 hm;refine ⟨?_,?_,by omega⟩
   · rw [Bool.eq_false_iff];intro e;have:=zaV.1 e;omega
   · rw [Bool.eq_false_iff];intro e;have:=zb5.1 e;omega
 · refine ⟨?_,?_,by omega⟩
   · rw [Bool.eq_false_iff];intro e;have:=zaV.1 e;omega
   · rw [Bool.eq_false_iff];intro e;have:=zb5.1 e;omega
section
variable {r:ByteArray} {off:Nat}
end
def TkOK (t:Tk):Prop:=(t.1=1∧zep t.2.1=true)∨(t.1=2∧∃c,za9 c=true∧t.2.1=zig c)
theorem step_ok {u:ByteArray} (h:0<u.size) (h3:kd u<3) (h0:¬kd u=0) (off:Nat):TkOK (kd u,cutA u (ln u),off):=by
 unfold TkOK;by_cases hb:zaY (bt u 0)=true
 · exact absurd (by unfold kd;rw [if_pos hb]) h0
 by_cases hs:za9 (bt u 0)=true
 · right;have hc:=zb5.1 hs;have hkd:kd u=2:=by unfold kd;rw [if_neg hb,if_pos hs]
   have hln:ln u=1:=by unfold ln;rw [if_neg hb,if_pos hs]
   refine ⟨hkd,bt u 0,hs,?_⟩;have hp:plc u 1=1:=by
    have h1:plc u 1=plc u 0 + wd u (plc u 0):=zaJ (s:=u) (k:=0) h;have h2:wd u 0=1:=(ziH h (by omega)).2;rw [h1,show plc u 0=0 from rfl,h2]
   have hz:=zbc u 1;rw [hln];show cutA u 1=zig (bt u 0);refine zc7 (by rw [hz,hp,zcS]) fun k hk=>?_;have hk':=hk;rw [hz,hp] at hk';obtain rfl:k=0:=by omega
   rw [zeI _ _ _ hk,zhu (by omega)]
 · left;by_cases h47:bt u 0=47
   · exfalso;have:kd u=0∨kd u=30:=by
      unfold kd;rw [if_neg hb,if_neg hs,if_pos h47];split
      · exact .inl rfl
      · exact .inr rfl
     omega
   · have hkd:kd u=(if zci u 0=true then (if wrN u≤24 then 1 else 31) else 30):=by
      conv=>lhs;unfold kd
      rw [if_neg hb,if_neg hs,if_neg h47]
     have hln:ln u=wrN u:=by unfold ln;rw [if_neg hb,if_neg hs,if_neg h47]
     by_cases hm:zci u 0=true
     · rw [if_pos hm] at hkd;by_cases h24:wrN u≤24
       · rw [if_pos h24] at hkd;refine ⟨hkd,?_⟩;rw [hln];have hle:wrN u≤cnt u:=zf6 _ u;have hpos:0<wrN u:=zft h hm;rw [zbH,zgP,Nat.min_eq_left hle];refine ⟨hpos,h24,fun k hk=>?_⟩;have hlt:plc u k<plc u (wrN u):=Nat.lt_of_lt_of_le (zaQ (za1.1 (by omega))) (zaX u hk);have hd:=ze3 (s:=u) (t:=cutA u (wrN u)) (k:=wrN u) (j:=k) (zbc u _) (zeI u _) hlt;have hp:=zi5 (s:=u) (t:=cutA u (wrN u)) (k:=wrN u) (zbc u _) (zeI u _) k (by omega);have:=((zcq (zci u) u).1 k hk).2;unfold zci brk rn wd at this ⊢;rw [hp,hd];exact this
       · rw [if_neg h24] at hkd;omega
     · rw [if_neg hm] at hkd;omega
theorem zih (n:Nat):∀(u:ByteArray) (off:Nat),u.size≤n→(zcc u off).2.1=0→∃init,(zcc u off).1=init ++ [(3,⟨#[]⟩,off + u.size)]∧∀t ∈ init,TkOK t:=by
 induction n with
 | zero =>
  intro u off hn _;rw [zdR (by omega),show off + u.size=off by omega];exact ⟨[],rfl,fun t h=>by cases h⟩
 | succ n ih =>
  intro u off hn h0;rcases Nat.eq_zero_or_pos u.size with h | h
  · rw [zdR h,h];exact ⟨[],rfl,fun t h=>by cases h⟩
  by_cases h3:3≤kd u
  · rw [scan_err h h3] at h0;dsimp only at h0;omega
  · have hl:=zgR h (by omega);have hcz:=zax u (ln u);have hE:=zhy (off:=off) h (by omega);have ih:=ih (cutB u (ln u)) (off + plc u (ln u)) (by omega);rw [show off + plc u (ln u) + (cutB u (ln u)).size=off + u.size by omega] at ih;generalize zcc u off=r at hE h0 ⊢;generalize zcc (cutB u (ln u)) (off + plc u (ln u))=r2 at hE ih;subst hE;dsimp only at h0 ⊢;obtain ⟨init,e,hi⟩:=ih h0;rw [e,←List.append_assoc];refine ⟨_,rfl,fun t ht=>?_⟩;rcases List.mem_append.1 ht with ht | ht
    · split at ht
      · cases ht
      · rename_i hk
        simp only [List.mem_cons,List.not_mem_nil,or_false] at ht;subst ht;exact step_ok h (by omega) hk off
    · exact hi t ht
section
variable {s:ByteArray}
theorem all_ok (hz:s.size≤2048) (hv:zb6 s=true) (h:(zcc s 0).2.1=0):zbP s=zcc s 0:=by
 unfold zbP;rw [if_neg (by omega),if_neg (zcI.1 hv),if_pos h]
theorem all_err (hz:s.size≤2048) (hv:zb6 s=true) (h:¬(zcc s 0).2.1=0):zbP s=([],(zcc s 0).2):=by
 unfold zbP;rw [if_neg (by omega),if_neg (zcI.1 hv),if_neg h]
theorem bad_lt (hv:zb6 s=false):plc s (zgb s)<s.size:=by
 rcases Nat.lt_or_ge (plc s (zgb s)) s.size with h | h
 · exact h
 · rw [zcI.2 (by omega)] at hv;cases hv
theorem all_bad (hz:s.size≤2048) (hv:zb6 s=false):zbP s=([],11,plc s (zgb s)):=by
 unfold zbP;rw [if_neg (by omega),if_pos (bad_lt hv)]
theorem zfj (hz:s.size≤2048) (h:(zbP s).2.1=0):zb6 s=true∧(zcc s 0).2.1=0∧zbP s=zcc s 0:=by
 cases hv:zb6 s with
 | false=>rw [all_bad hz hv] at h;dsimp only at h;omega
 | true =>
  by_cases h0:(zcc s 0).2.1=0
  · exact ⟨rfl,h0,all_ok hz hv h0⟩
  · rw [all_err hz hv h0] at h;exact absurd h h0
end
section
variable {s n:ByteArray} (hv:zb6 n=true) (hn:∀i,i<n.size→bt n i≠10)
include hv hn
end
end Go.Proofs.YtiepddmagfmllaaGreat
namespace Go.Proofs.YtiepddmagfmllaaGreat
open Go.RowKit
theorem zbd {a b:Bool} (h:a=b):Ending.returned (.bool a) = .returned (.bool b):=by rw [h]
def preB (s t:ByteArray):Bool:=decide (t.size≤s.size∧s.extract 0 t.size=t)
def badB (s:ByteArray) (i:Nat):Bool:=decide (i + 3≤s.size∧bt s i=239∧bt s (i + 1)=191∧bt s (i + 2)=189)
theorem pre_any (s t:ByteArray) (w:World) :
 Calls Tryz.prog 169 #[.string s,.string t] w fun e w'=>e = .returned (.bool (preB s t))∧w=w':=by
 by_cases h:t.size≤s.size
 · go_enter Tryz.func169,Tryz.ntmps169
   go_wp2
   go_ret
   exact ⟨zbd (by unfold preB;rw [toList_inj,Bool.eq_iff_iff];simp [h]),rfl⟩
 · go_enter Tryz.func169,Tryz.ntmps169
   go_wp2
   go_ret
   exact ⟨zbd (by unfold preB;simp [h]),rfl⟩
theorem hp_any (s:ByteArray) (i:Nat) (w:World) (h:i<s.size) :
 Calls Tryz.prog 143 #[.string (s.extract i s.size),.string ⟨#[239,191,189]⟩] w fun e w'=>e = .returned (.bool (badB s i))∧w=w':=by
 go_enter Tryz.func143,Tryz.ntmps143
 go_wp2_with ((refine (pre_any _ sBad _).mono ?_);rintro e w' ⟨rfl,rfl⟩)
 go_ret
 exact ⟨zbd (pre_bad h),rfl⟩
theorem inname_any (z:Int) (r:Nat) (w:World) (hz:z=r) :
 Calls Tryz.prog 171 #[.int .i32 z] w fun e w'=>e = .returned (.bool (zbF r))∧w=w':=by
 subst hz;go_enter Tryz.func171,Tryz.ntmps171
 go_wp2
 all_goals go_ret
 all_goals (refine ⟨zbd ?_,rfl⟩;unfold zbF;try simp only [beq_iff_eq,beq_eq_false_iff_ne,ne_eq] at *)
 all_goals first
  | (symm;exact decide_eq_true (by omega))
  | (rw [Bool.eq_iff_iff];simp only [decide_eq_true_eq];omega)
theorem broken_any (s:ByteArray) (i:Nat) (z r:Int) (w:World) (hz:z=i) (hr:r=(rn s i:Int)) (h:i<s.size) :
 Calls Tryz.prog 142 #[.string s,.int .i64 z,.int .i32 r] w fun e w'=>e = .returned (.bool (brk s i))∧w=w':=by
 have E:=Lib.hid (brk_eq h);by_cases hc:rn s i=65533
 · have hd:(r == 65533)=true:=by simp [hr,hc]
   subst hz;have HR:=Lib.hid hr;have HC:=Lib.hid hc;clear hr hc;go_enter Tryz.func142,Tryz.ntmps142
   go_wp2_with ((refine (hp_any s i _ h).mono ?_);rintro e w' ⟨rfl,rfl⟩)
   go_ret
   exact ⟨zbd (by rw [E.out,HC.out];unfold badB;simp),rfl⟩
 · have hd:(r == 65533)=false:=by simp [hr];omega
   subst hz;have HR:=Lib.hid hr;have HC:=Lib.hid hc;clear hr hc;go_enter Tryz.func142,Tryz.ntmps142
   go_wp2_with ((refine (hp_any s i _ h).mono ?_);rintro e w' ⟨rfl,rfl⟩)
   go_ret
   exact ⟨zbd (by rw [E.out,decide_eq_false HC.out];rfl),rfl⟩
def zlE (w wr:World) (s:ByteArray) (p:Nat):Prop:=wr.heap[w.heap.size]? = some (.stringIter s p)
theorem zce (w:World) (s:ByteArray):zlE w (w.iter s 0) s 0:=World.iter_heap w s 0
theorem zbG (w:World) (s:ByteArray):Below w.heap.size w (w.iter s 0):=(Below.refl _ w).alloc (Nat.le_refl _) _
theorem zf5 (s:ByteArray) (p:Nat):((Utf8.decode s p).1:Int)=(rn s p:Int):=rfl
theorem zc9 {w wr:World} {s:ByteArray} {p:Nat} (h:zlE w wr s p):wr.iterPos w.heap.size=p:=by unfold zlE at h;simp only [World.iterPos,h]
theorem count_any (s:ByteArray) (w:World) (hs:s.size≤1000000) :
 Calls Tryz.prog 120 #[.string s] w fun e w'=>e = .returned (.int .i64 (cnt s))∧Below w.heap.size w w':=by
 go_enter Tryz.func120,Tryz.ntmps120
 go_wp2
 go_loopw [3] (fun n wr=>∃k:Nat,k≤cnt s∧n = .int .i64 k∧zlE w wr s (plc s k)∧Below w.heap.size w wr) (fun _ wr=>s.size-wr.iterPos w.heap.size)
 case atStart=>exact ⟨0,Nat.zero_le _,rfl,zce w s,zbG w s⟩
 case round =>
  obtain ⟨k,hk,rfl,hit,hbw⟩:=hrel;have Hit:=Lib.hid hit;have Hbw:=Lib.hid hbw;have hc:=zc8 s;have hl:=zaU s k;by_cases h:plc s k<s.size
  · have hk2:=za1.2 h;have hw:=zde h;have HS:=Lib.hid (zaJ h);have hnx:∀ty,(Instr.next (.pointer (some ⟨w.heap.size,0,none⟩)) true ty).run Tryz.prog wr=_:=fun ty=>Lib.run_next_any_at wr w.heap.size s (plc s k) ty hit h;have Hit2:=Lib.hid (Lib.iterAt_heap wr w.heap.size s (plc s k) (plc s k + (Utf8.decode s (plc s k)).2) hit);have Hbw2:=Lib.hid (Lib.below_iterAt hbw (k:=w.heap.size) (Nat.le_refl _) s (plc s k + (Utf8.decode s (plc s k)).2));clear hit hbw;go_wp2
    go_roundw
    case rel =>
     refine ⟨k + 1,by omega,by go_num,?_,Hbw2.out⟩;rw [HS.out];exact Hit2.out
    case measure=>rw [zc9 Hit.out,zc9 (w:=w) Hit2.out];show s.size-(plc s k + wd s (plc s k))<_;omega
  · have e:=zdX h fun j hj=>za1.1 (by omega);have E:=Lib.hid e;have hnx:∀ty,(Instr.next (.pointer (some ⟨w.heap.size,0,none⟩)) true ty).run Tryz.prog wr=_:=fun ty=>Lib.run_next_end_at wr w.heap.size s (plc s k) ty hit h;clear e hit hbw;go_wp2
    go_ret
    exact ⟨by rw [E.out];rfl,Hbw.out⟩
theorem valid_any (s:ByteArray) (w:World) (_:s.size≤1000000) :
 Calls Tryz.prog 114 #[.string s] w fun e w'=>e = .returned (.bool (zb6 s))∧Below w.heap.size w w':=by
 go_enter Tryz.func114,Tryz.ntmps114
 go_wp2
 go_loopw [] (fun wr=>∃k:Nat,k≤cnt s∧zlE w wr s (plc s k)∧Below w.heap.size w wr∧∀j,j<k→brk s (plc s j)=false) (fun wr=>s.size-wr.iterPos w.heap.size)
 case atStart=>exact ⟨0,Nat.zero_le _,zce w s,zbG w s,fun j hj=>by omega⟩
 case round =>
  obtain ⟨k,hk,hit,hbw,hall⟩:=hrel;have Hall:=Lib.hid hall;clear hall;have Hit:=Lib.hid hit;have Hbw:=Lib.hid hbw;have hc:=zc8 s;have hl:=zaU s k;by_cases h:plc s k<s.size
  · have hk2:=za1.2 h;have hw:=zde h;have HS:=Lib.hid (zaJ h);have hnx:∀ty,(Instr.next (.pointer (some ⟨w.heap.size,0,none⟩)) true ty).run Tryz.prog wr=_:=fun ty=>Lib.run_next_any_at wr w.heap.size s (plc s k) ty hit h;have Hit2:=Lib.hid (Lib.iterAt_heap wr w.heap.size s (plc s k) (plc s k + (Utf8.decode s (plc s k)).2) hit);have Hbw2:=Lib.hid (Lib.below_iterAt hbw (k:=w.heap.size) (Nat.le_refl _) s (plc s k + (Utf8.decode s (plc s k)).2));clear hit hbw;by_cases hb:brk s (plc s k)=true
    · go_wp2_with ((with_reducible refine (broken_any s (plc s k) _ _ _ rfl (zf5 s (plc s k)) h).mono ?_);rintro e w' ⟨rfl,rfl⟩)
      go_ret
      refine ⟨zbd ?_,Hbw2.out⟩;symm
      rw [Bool.eq_false_iff];intro hv;have:=zbX.1 hv k hk2;rw [hb] at this;cases this
    · rw [Bool.not_eq_true] at hb;go_wp2_with ((with_reducible refine (broken_any s (plc s k) _ _ _ rfl (zf5 s (plc s k)) h).mono ?_);rintro e w' ⟨rfl,rfl⟩)
      go_roundw
      case rel =>
       refine ⟨k + 1,by omega,?_,Hbw2.out,fun j hj=>?_⟩
       · rw [HS.out];exact Hit2.out
       · by_cases e:j=k
         · subst e;exact hb
         · exact Hall.out j (by omega)
      case measure=>rw [zc9 Hit.out,zc9 (w:=w) Hit2.out];show s.size-(plc s k + wd s (plc s k))<_;omega
  · have e:=zdX h fun j hj=>za1.1 (by omega);have E:=Lib.hid e;have hnx:∀ty,(Instr.next (.pointer (some ⟨w.heap.size,0,none⟩)) true ty).run Tryz.prog wr=_:=fun ty=>Lib.run_next_end_at wr w.heap.size s (plc s k) ty hit h;clear e hit hbw;go_wp2
    go_ret
    exact ⟨zbd (by symm;rw [zbX,E.out];exact Hall.out),Hbw.out⟩
theorem name_any (s:ByteArray) (w:World) (_:s.size≤1000000) :
 Calls Tryz.prog 145 #[.string s] w fun e w'=>e = .returned (.bool (zep s))∧Below w.heap.size w w':=by
 go_enter Tryz.func145,Tryz.ntmps145
 go_wp2
 go_loopw [3] (fun n wr=>∃k:Nat,k≤cnt s∧n = .int .i64 k∧k≤24∧zlE w wr s (plc s k)∧Below w.heap.size w wr∧∀j,j<k→zci s (plc s j)=true) (fun _ wr=>s.size-wr.iterPos w.heap.size)
 case atStart=>exact ⟨0,Nat.zero_le _,rfl,Nat.zero_le _,zce w s,zbG w s,fun j hj=>by omega⟩
 case round =>
  obtain ⟨k,hk,rfl,h24,hit,hbw,hall⟩:=hrel;have Hall:=Lib.hid hall;clear hall;have Hit:=Lib.hid hit;have Hbw:=Lib.hid hbw;have hc:=zc8 s;have hl:=zaU s k;by_cases h:plc s k<s.size
  · have hk2:=za1.2 h;have hw:=zde h;have HS:=Lib.hid (zaJ h);have hnx:∀ty,(Instr.next (.pointer (some ⟨w.heap.size,0,none⟩)) true ty).run Tryz.prog wr=_:=fun ty=>Lib.run_next_any_at wr w.heap.size s (plc s k) ty hit h;have Hit2:=Lib.hid (Lib.iterAt_heap wr w.heap.size s (plc s k) (plc s k + (Utf8.decode s (plc s k)).2) hit);have Hbw2:=Lib.hid (Lib.below_iterAt hbw (k:=w.heap.size) (Nat.le_refl _) s (plc s k + (Utf8.decode s (plc s k)).2));clear hit hbw;by_cases h25:24<k + 1
    · have hd:(24:Int)<(k:Int) + 1:=by omega
      go_wp2_with fail
      go_ret
      refine ⟨zbd ?_,Hbw2.out⟩;symm
      rw [Bool.eq_false_iff];intro hv;have:=(zbH.1 hv).2.1;omega
    · have hd:¬(24:Int)<(k:Int) + 1:=by omega
      have hmB:zci s (plc s k)=(!brk s (plc s k) && zbF (rn s (plc s k))):=rfl;have HM:=Lib.hid hmB;clear hmB;by_cases hb:brk s (plc s k)=true
      · go_wp2_with ((with_reducible refine (broken_any s (plc s k) _ _ _ rfl (zf5 s (plc s k)) h).mono ?_);rintro e w' ⟨rfl,rfl⟩)
        go_ret
        refine ⟨zbd ?_,Hbw2.out⟩;symm
        rw [Bool.eq_false_iff];intro hv;have:=(zbH.1 hv).2.2 k hk2;rw [HM.out,hb] at this;cases this
      · rw [Bool.not_eq_true] at hb;by_cases hm:zbF (rn s (plc s k))=true
        · go_wp2_with (first
           | ((with_reducible refine (broken_any s (plc s k) _ _ _ rfl (zf5 s (plc s k)) h).mono ?_);rintro e w' ⟨rfl,rfl⟩)
           | ((with_reducible refine (inname_any _ (rn s (plc s k)) _ (zf5 s (plc s k))).mono ?_);rintro e w' ⟨rfl,rfl⟩))
          go_roundw
          case rel =>
           refine ⟨k + 1,by omega,by go_num,by omega,?_,Hbw2.out,fun j hj=>?_⟩
           · rw [HS.out];exact Hit2.out
           · by_cases e:j=k
             · subst e;rw [HM.out,hb,hm];rfl
             · exact Hall.out j (by omega)
          case measure=>rw [zc9 Hit.out,zc9 (w:=w) Hit2.out];show s.size-(plc s k + wd s (plc s k))<_;omega
        · rw [Bool.not_eq_true] at hm;go_wp2_with (first
           | ((with_reducible refine (broken_any s (plc s k) _ _ _ rfl (zf5 s (plc s k)) h).mono ?_);rintro e w' ⟨rfl,rfl⟩)
           | ((with_reducible refine (inname_any _ (rn s (plc s k)) _ (zf5 s (plc s k))).mono ?_);rintro e w' ⟨rfl,rfl⟩))
          go_ret
          refine ⟨zbd ?_,Hbw2.out⟩;symm
          rw [Bool.eq_false_iff];intro hv;have:=(zbH.1 hv).2.2 k hk2;rw [HM.out,hb,hm] at this;cases this
  · have e:=zdX h fun j hj=>za1.1 (by omega);have E:=Lib.hid e;have hnx:∀ty,(Instr.next (.pointer (some ⟨w.heap.size,0,none⟩)) true ty).run Tryz.prog wr=_:=fun ty=>Lib.run_next_end_at wr w.heap.size s (plc s k) ty hit h;clear e hit hbw;go_wp2
    go_ret
    refine ⟨zbd ?_,Hbw.out⟩;rw [Bool.eq_iff_iff,zbH,E.out];simp only [decide_eq_true_eq];exact ⟨fun h0=>⟨by omega,h24,Hall.out⟩,fun h0=>by omega⟩
theorem zjn {s:ByteArray} {n:Nat} (h:cnt s≤n):cutA s n=s:=by unfold cutA;rw [zhf h];exact ziJ s
theorem cutB_end {s:ByteArray} {n:Nat} (h:cnt s≤n):cutB s n=⟨#[]⟩:=by
 unfold cutB;rw [zhf h];exact zc7 (by rw [za0];show _=0;omega) fun k hk=>by rw [za0] at hk;omega
theorem cut_any (s:ByteArray) (n:Int) (w:World) (_:s.size≤1000000) (hn : -9223372036854775808≤n) (hn2:n≤9223372036854775807) :
 Calls Tryz.prog 113 #[.string s,.int .i64 n] w fun e w'=>e = .returned (.tuple #[.string (cutA s n.toNat),.string (cutB s n.toNat)])∧Below w.heap.size w w':=by
 go_enter Tryz.func113,Tryz.ntmps113
 go_wp2
 go_loopw [1] (fun m wr=>∃k:Nat,k≤cnt s∧k≤n.toNat∧m = .int .i64 (n-k)∧zlE w wr s (plc s k)∧Below w.heap.size w wr) (fun _ wr=>s.size-wr.iterPos w.heap.size)
 case atStart=>exact ⟨0,Nat.zero_le _,Nat.zero_le _,by simp,zce w s,zbG w s⟩
 case round =>
  obtain ⟨k,hk,hkn,rfl,hit,hbw⟩:=hrel;have Hit:=Lib.hid hit;have Hbw:=Lib.hid hbw;have hc:=zc8 s;have hl:=zaU s k;by_cases h:plc s k<s.size
  · have hk2:=za1.2 h;have hw:=zde h;have HS:=Lib.hid (zaJ h);have hnx:∀ty,(Instr.next (.pointer (some ⟨w.heap.size,0,none⟩)) true ty).run Tryz.prog wr=_:=fun ty=>Lib.run_next_any_at wr w.heap.size s (plc s k) ty hit h;have Hit2:=Lib.hid (Lib.iterAt_heap wr w.heap.size s (plc s k) (plc s k + (Utf8.decode s (plc s k)).2) hit);have Hbw2:=Lib.hid (Lib.below_iterAt hbw (k:=w.heap.size) (Nat.le_refl _) s (plc s k + (Utf8.decode s (plc s k)).2));clear hit hbw;by_cases h0:n-k≤0
    · have e:n.toNat=k:=by omega
      have E:=Lib.hid e;clear e;go_wp2
      go_quiet (fail)
      go_wp2
      go_ret2
      exact ⟨by rw [E.out];rfl,Hbw2.out.trans ⟨rfl,rfl,rfl,Nat.le_refl _,fun _ _=>rfl⟩⟩
    · go_wp2
      go_roundw
      case rel =>
       refine ⟨k + 1,by omega,by omega,by go_num,?_,Hbw2.out⟩;rw [HS.out];exact Hit2.out
      case measure=>rw [zc9 Hit.out,zc9 (w:=w) Hit2.out];show s.size-(plc s k + wd s (plc s k))<_;omega
  · have e:=zdX h fun j hj=>za1.1 (by omega);have E:=Lib.hid e;have hnx:∀ty,(Instr.next (.pointer (some ⟨w.heap.size,0,none⟩)) true ty).run Tryz.prog wr=_:=fun ty=>Lib.run_next_end_at wr w.heap.size s (plc s k) ty hit h;clear e hit hbw;have ea:=zjn (s:=s) (n:=n.toNat) (by have:=E.out;omega);have eb:=cutB_end (s:=s) (n:=n.toNat) (by have:=E.out;omega);have EA:=Lib.hid ea;have EB:=Lib.hid eb;clear ea eb;go_wp2
    go_ret2
    exact ⟨by rw [EA.out,EB.out];rfl,Hbw.out⟩
end Go.Proofs.YtiepddmagfmllaaGreat
namespace Go.Proofs.YtiepddmagfmllaaGreat
open Go.RowKit
def tcell (t:Tk):List Value:=[.int .i64 t.1,.string t.2.1,.int .i64 t.2.2]
def tcells (l:List Tk):List Value:=l.flatMap tcell
theorem zd7 (l:List Tk) (t:Tk):tcells (l ++ [t])=tcells l ++ tcell t:=by simp [tcells]
theorem tcells_at:∀(l:List Tk) (i:Nat) (t:Tk),l[i]? = some t→∀j u,(tcell t)[j]? = some u→(tcells l)[i * 3 + j]? = some u
 | [],_,_,h,_,_,_=>by simp at h
 | a::r,0,t,h,j,u,hj=>by
  simp only [List.getElem?_cons_zero,Option.some.injEq] at h;subst h;have hl:j<(tcell a).length:=(List.getElem?_eq_some_iff.1 hj).1;show (tcell a ++ tcells r)[0 * 3 + j]? = some u;rw [Nat.zero_mul,Nat.zero_add,List.getElem?_append_left hl];exact hj
 | a::r,i + 1,t,h,j,u,hj=>by
  simp only [List.getElem?_cons_succ] at h;show (tcell a ++ tcells r)[(i + 1) * 3 + j]? = some u;rw [List.getElem?_append_right (by simp [tcell];omega),show (i + 1) * 3 + j-(tcell a).length=i * 3 + j by simp [tcell];omega];exact tcells_at r i t h j u hj
theorem tcell_one (t:Tk):∀u ∈ tcell t,u.oneCell'=true:=by
 intro u ht;simp only [tcell,List.mem_cons,List.not_mem_nil,or_false] at ht;rcases ht with rfl | rfl | rfl <;> rfl
theorem heap_c1 {w:World} {g:Nat} {a v b:Value} {t:TypeId} {fr:Nat × Nat} (h:w.heap[g]? = some (.cells #[a,v,b] t fr)):w.cell? ⟨g,1,none⟩=some v:=by rw [cell_of_row _ _ _ _ _ _ h];rfl
theorem heap_fz {w:World} {g:Nat} {cs:Array Value} {t:TypeId} (h:w.heap[g]? = some (.cells cs t (0,0))):∀j,w.frozen? ⟨g,j,none⟩=false:=fun j=>by simp [World.frozen?,h]
theorem size_alloc {w:World} {B:Nat} {o:Obj} (h:B≤w.heap.size):B≤(w.alloc o).heap.size:=by simp;omega
structure Kp (g B:Nat) (w w':World):Prop where
 os:w'.os=w.os
 tape:w'.tape=w.tape
 output:w'.output=w.output
 size:w.heap.size≤w'.heap.size
 block:∀k,k<B→k≠g→w'.heap[k]? = w.heap[k]?
section
variable {g B B':Nat} {w w' w'':World}
theorem Kp.refl (g B:Nat) (w:World):Kp g B w w:=⟨rfl,rfl,rfl,Nat.le_refl _,fun _ _ _=>rfl⟩
theorem Kp.trans (h:Kp g B w w') (k:Kp g B w' w''):Kp g B w w'' :=
 ⟨k.os.trans h.os,k.tape.trans h.tape,k.output.trans h.output,Nat.le_trans h.size k.size,fun i h1 h2=>(k.block i h1 h2).trans (h.block i h1 h2)⟩
theorem Kp.of_below (h:Below B w w') (g:Nat):Kp g B w w':=⟨h.os,h.tape,h.output,h.size,fun k hk _=>h.block k hk⟩
theorem Kp.below (h:Kp g B w w') (hB:B'≤B) (hg:B'≤g):Below B' w w':=⟨h.os,h.tape,h.output,h.size,fun k hk=>h.block k (by omega) (by omega)⟩
theorem Kp.more (h:Kp g B w w') (hB:B'≤B):Kp g B' w w':=⟨h.os,h.tape,h.output,h.size,fun k hk hn=>h.block k (by omega) hn⟩
end
theorem zaI {w w':World} {base:Nat} {e:TypeId} {size n:Nat} {v:Value} {xs:List Value} (h:w.ownsRow base e size v n xs) (hb:∀g,v.ownBlock=some g→w'.heap[g]? = w.heap[g]?):w'.ownsRow base e size v n xs:=by
 refine ⟨h.1,?_⟩;rcases h.2 with h2 | ⟨g,cap,cur,rfl,hg,hh,r⟩
 · exact .inl h2
 · exact .inr ⟨g,cap,cur,rfl,hg,(hb g rfl).trans hh,r⟩
theorem zag {w w':World} {base:Nat} {e:TypeId} {size n:Nat} {v:Value} {xs:List Value} (h:w.ownsRow base e size v n xs) (hb:Below w.heap.size w w'):w'.ownsRow base e size v n xs :=
 zaI h fun g hg=>hb.block g (h.lt g hg).2
structure ScAt (B:Nat) (w:World) (g:Nat) (s:ByteArray) (l:List Tk) (e:Nat) (v:Value):Prop where
 cells:w.heap[g]? = some (.cells #[.string s,v,.int .i64 e] 175 (0,0))
 row:w.ownsRow B 222 3 v l.length (tcells l)
 lt:g<B
def Sc (B:Nat) (w:World) (g:Nat) (s:ByteArray) (l:List Tk) (e:Nat):Prop:=∃v,ScAt B w g s l e v
section
variable {B:Nat} {w w':World} {g:Nat} {s:ByteArray} {l:List Tk} {e:Nat} {v:Value}
theorem ScAt.size (h:ScAt B w g s l e v):g<w.heap.size:=(Array.getElem?_eq_some_iff.1 h.cells).1
theorem ScAt.c0 (h:ScAt B w g s l e v):w.cell? ⟨g,0,none⟩=some (.string s):=by rw [cell_of_row _ _ _ _ _ _ h.cells];rfl
theorem ScAt.c1 (h:ScAt B w g s l e v):w.cell? ⟨g,1,none⟩=some v:=by rw [cell_of_row _ _ _ _ _ _ h.cells];rfl
theorem ScAt.c2 (h:ScAt B w g s l e v):w.cell? ⟨g,2,none⟩=some (.int .i64 e):=by rw [cell_of_row _ _ _ _ _ _ h.cells];rfl
theorem ScAt.fz (h:ScAt B w g s l e v) (j:Nat):w.frozen? ⟨g,j,none⟩=false:=by simp [World.frozen?,h.cells]
theorem ScAt.below (h:ScAt B w g s l e v) (hb:Below w.heap.size w w'):ScAt B w' g s l e v :=
 ⟨(hb.block g h.size).trans h.cells,zag h.row hb,h.lt⟩
theorem Sc.below (h:Sc B w g s l e) (hb:Below w.heap.size w w'):Sc B w' g s l e:=by obtain ⟨v,h⟩:=h;exact ⟨v,h.below hb⟩
end
theorem ret_num {k:IntKind} {a b:Int} (h:a=b):Ending.returned (.int k a) = .returned (.int k b):=by rw [h]
theorem info_tok:(Tryz.prog.info? 222).map (fun i=>(i.zero,i.size,i.bytes))=some (some (.agg #[.int .i64 0,.string .empty,.int .i64 0]),3,32):=by kernel_rfl
theorem zaZ (w:World) (a b c:Value) (t:TypeId):∀j u,[a,b,c][j]? = some u→(w.alloc (.cells #[a,b,c] t)).cell? ((⟨w.heap.size,0,none⟩:Addr).add j)=some u:=by
 intro j u hj;rw [Addr.add_lit,cell_of_row _ _ _ _ _ _ (heap_alloc_new w _),Nat.zero_add];simpa using hj
section
variable {B:Nat} {w:World} {g:Nat} {s:ByteArray} {l:List Tk} {e:Nat}
theorem zla {w1:World} {v:Value} {o:Obj} (H:ScAt B w g s l e v) (hg1:(w.alloc o).grownBy w1 v.ownBlock):w1.heap[g]? = some (.cells #[.string s,v,.int .i64 e] 175 (0,0)):=by
 have hs:=H.size;rw [hg1.block g (by simp;omega) (fun e=>by have:=(H.row.lt g e.symm).1;have:=H.lt;omega),Below.heap_alloc _ _ _ hs];exact H.cells
theorem add_done {w1:World} {v v1:Value} {o:Obj} {t:Tk} (H:ScAt B w g s l e v) (hB:B≤w.heap.size) (hg1:(w.alloc o).grownBy w1 v.ownBlock) (hown1:w1.ownsRow B 222 3 v1 (l.length + 1) (tcells l ++ tcell t)) :
 Sc B (w1.setCell ⟨g,1,none⟩ v1) g s (l ++ [t]) e∧Kp g B w (w1.setCell ⟨g,1,none⟩ v1):=by
 have hs:=H.size;have hc:=zla H hg1;have hlt:=H.lt;refine ⟨⟨v1,?_,?_,hlt⟩,?_⟩
 · simp [World.setCell,Array.getElem?_modify,hc]
 · rw [zd7,List.length_append];exact zaI hown1 fun k hk=>Below.heap_setCell _ _ _ _ (by have:=(hown1.lt k hk).1;show k≠g;omega)
 · refine ⟨hg1.os,hg1.tape,hg1.output,?_,fun k hk hn=>?_⟩
   · have:=hg1.size;simp [World.setCell] at *;omega
   · rw [Below.heap_setCell _ _ _ _ (by show k≠g;exact hn),hg1.block k (by simp;omega) (fun e=>by have:=(H.row.lt k e.symm).1;omega),Below.heap_alloc _ _ _ (by omega)]
theorem add_any (h:Sc B w g s l e) (hB:B≤w.heap.size) (k:Nat) (t:ByteArray) (p:Nat) (hl:l.length<1000000) (hp:p≤1000000) (ht:t.size≤1000000) :
 Calls Tryz.prog 78 #[.pointer (some ⟨g,0,none⟩),.int .i64 k,.string t,.int .i64 p] w fun e' w'=>e' = .returned (.int .i64 ((p + t.size:Nat):Int))∧Sc B w' g s (l ++ [(k,t,p)]) e∧Kp g B w w':=by
 obtain ⟨v,h⟩:=h;have c1:=h.c1;have fz:=h.fz;have hg:=h.size;obtain ⟨i0,hi,hz0,hz1,hz2⟩:=info_parts info_tok;obtain ⟨A,c,rfl,_⟩:=Rd.own h.row;have H:=Lib.hid h;clear h;go_enter Tryz.func78,Tryz.ntmps78
 go_wp2_with (first
  | (at_builtin;go_loud (refine zab _ rfl (.tmp 13) (.tmp 18) 106 106 rfl B 222 i0 (.agg #[.int .i64 0,.string .empty,.int .i64 0]) 3 32 Tryz.underlying106 hi hz0 hz1 hz2 rfl (by decide) _ l.length (tcells l) rfl (H.out.row.alloc _) _ 1 [.int .i64 k,.string t,.int .i64 p] rfl (Src.ofSlice _ Tryz.underlying106 _ 1 1 _ rfl (zaZ _ _ _ _ _) (tcell_one (k,t,p))) (by simp only [maxLen];omega) (by omega) (size_alloc hB) ?_;intro v1 w1 hown1 hg1 hat1;obtain ⟨A1,c1,rfl,_⟩:=Rd.own hown1;have hcg:=zla H.out hg1;have cg:=heap_c1 hcg;have fg:=heap_fz hcg)))
 go_ret
 exact ⟨ret_num (by omega),add_done H.out hB hg1 hown1⟩
end
end Go.Proofs.YtiepddmagfmllaaGreat
