import Derived.Test.YtmblgnddgmfkhaaGreatQ00
import Derived.Laws.RangeAny
import Derived.WalkKit
set_option maxRecDepth 100000
set_option maxHeartbeats 4000000
namespace Go.Proofs.YtmblgnddgmfkhaaGreat
variable {s t:ByteArray} {k i n:Nat}
def dec (n b0 b1 b2 b3:Nat):Nat × Nat :=
 if b0<128 then (b0,1)
 else if 194≤b0∧b0≤223∧1<n∧128≤b1∧b1≤191 then ((b0 % 32) * 64 + b1 % 64,2)
 else if 224≤b0∧b0≤239∧2<n∧128≤b1∧b1≤191∧(b0=224→160≤b1)∧(b0=237→b1≤159)∧128≤b2∧b2≤191 then ((b0 % 16) * 4096 + (b1 % 64) * 64 + b2 % 64,3)
 else if 240≤b0∧b0≤244∧3<n∧128≤b1∧b1≤191∧(b0=240→144≤b1)∧(b0=244→b1≤143)∧128≤b2∧b2≤191∧128≤b3∧b3≤191 then ((b0 % 8) * 262144 + (b1 % 64) * 4096 + (b2 % 64) * 64 + b3 % 64,4)
 else (65533,1)
def bt (s:ByteArray) (i:Nat):Nat:=(s.get! i).toNat
theorem zf4 (s:ByteArray) (i:Nat):bt s i<256:=(s.get! i).toNat_lt
theorem zhH (s:ByteArray) (i:Nat) (h:i<s.size):bt s i=(s[i]'h).toNat:=by
 have:=get_at s i h;rw [ybP] at this;unfold bt;rw [this]
theorem zaz (s:ByteArray) (i:Nat) (h:i<s.size):Utf8.decode s i=dec (s.size-i) (bt s i) (bt s (i + 1)) (bt s (i + 2)) (bt s (i + 3)):=by
 have o:=zf4 s i;have p:=zf4 s (i + 1);have q:=zf4 s (i + 2);have u:=zf4 s (i + 3);have e:Utf8.decode s i =
  (if bt s i<0x80 then (bt s i,1)
  else if bt s i / 32 == 6 && (decide (i + 1<s.size) && bt s (i + 1) / 64 == 2) then
   (if (bt s i % 32) * 64 + bt s (i + 1) % 64 ≥ 0x80 then ((bt s i % 32) * 64 + bt s (i + 1) % 64,2) else (Utf8.runeError,1))
  else if bt s i / 16 == 14 && (decide (i + 1<s.size) && bt s (i + 1) / 64 == 2) && (decide (i + 2<s.size) && bt s (i + 2) / 64 == 2) then
   (if (bt s i % 16) * 4096 + (bt s (i + 1) % 64) * 64 + bt s (i + 2) % 64 ≥ 0x800 && Utf8.valid ((bt s i % 16) * 4096 + (bt s (i + 1) % 64) * 64 + bt s (i + 2) % 64:Nat) then ((bt s i % 16) * 4096 + (bt s (i + 1) % 64) * 64 + bt s (i + 2) % 64,3) else (Utf8.runeError,1))
  else if bt s i / 8 == 30 && (decide (i + 1<s.size) && bt s (i + 1) / 64 == 2) && (decide (i + 2<s.size) && bt s (i + 2) / 64 == 2) && (decide (i + 3<s.size) && bt s (i + 3) / 64 == 2) then
   (if (bt s i % 8) * 262144 + (bt s (i + 1) % 64) * 4096 + (bt s (i + 2) % 64) * 64 + bt s (i + 3) % 64 ≥ 0x10000 && Utf8.valid ((bt s i % 8) * 262144 + (bt s (i + 1) % 64) * 4096 + (bt s (i + 2) % 64) * 64 + bt s (i + 3) % 64:Nat) then ((bt s i % 8) * 262144 + (bt s (i + 1) % 64) * 4096 + (bt s (i + 2) % 64) * 64 + bt s (i + 3) % 64,4) else (Utf8.runeError,1))
  else (Utf8.runeError,1)):=rfl
 rw [e];generalize bt s i=n at *
 generalize bt s (i + 1)=b at *
 generalize bt s (i + 2)=d at *
 generalize bt s (i + 3)=f at *
 unfold dec;by_cases g:n<128
 · rw [yan g,yan g]
 rw [yak g,yak g];by_cases x:1<s.size-i∧128≤b∧b≤191
 · have j:(decide (i + 1<s.size) && b / 64 == 2)=true:=by simp;omega
   rw [j];by_cases y:2<s.size-i∧128≤d∧d≤191
   · have k:(decide (i + 2<s.size) && d / 64 == 2)=true:=by simp;omega
     rw [k];by_cases z:3<s.size-i∧128≤f∧f≤191
     · have m:(decide (i + 3<s.size) && f / 64 == 2)=true:=by simp;omega
       rw [m];simp only [Bool.and_true,Utf8.runeError,Utf8.valid,ge_iff_le,ya9,ycw,ybS,yaP];repeat' split
       all_goals (first | with_reducible rfl | (exfalso;omega) | (refine yb5 ?_ ?_ <;> dsimp only <;> omega))
     · have m:(decide (i + 3<s.size) && f / 64 == 2)=false:=by simp;omega
       rw [m];simp only [Bool.and_true,Bool.and_false,Utf8.runeError,Utf8.valid,ge_iff_le,ya9,ycw,ybS,yaP,ycc,if_false];repeat' split
       all_goals (first | with_reducible rfl | (exfalso;omega) | (refine yb5 ?_ ?_ <;> dsimp only <;> omega))
   · have k:(decide (i + 2<s.size) && d / 64 == 2)=false:=by simp;omega
     rw [k];simp only [Bool.and_true,Bool.and_false,yb1,Utf8.runeError,Utf8.valid,ge_iff_le,ya9,ycw,ybS,yaP,ycc,if_false];repeat' split
     all_goals (first | with_reducible rfl | (exfalso;omega) | (refine yb5 ?_ ?_ <;> dsimp only <;> omega))
 · have j:(decide (i + 1<s.size) && b / 64 == 2)=false:=by simp;omega
   rw [j];simp only [Bool.and_false,yb1,ycc,if_false,Utf8.runeError];repeat' split
   all_goals (first | with_reducible rfl | (exfalso;omega) | (refine yb5 ?_ ?_ <;> dsimp only <;> omega))
def rn (s:ByteArray) (i:Nat):Nat:=(Utf8.decode s i).1
def wd (s:ByteArray) (i:Nat):Nat:=(Utf8.decode s i).2
def brk (s:ByteArray) (i:Nat):Bool:=decide (rn s i=65533∧wd s i=1)
def lng (s:ByteArray) (i:Nat):Nat:=if brk s i then 0 else wd s i
def inB (s:ByteArray) (i lo hi:Nat):Bool:=decide (i<s.size∧lo≤bt s i∧bt s i≤hi)
theorem zdz (n b0 b1 b2 b3:Nat) (h:0<n) (hb:b0<256):1≤(dec n b0 b1 b2 b3).2∧(dec n b0 b1 b2 b3).2≤n∧(dec n b0 b1 b2 b3).2≤4∧(dec n b0 b1 b2 b3).1≤1114111∧(128≤b0→128≤(dec n b0 b1 b2 b3).1)∧(b0<128→dec n b0 b1 b2 b3=(b0,1)):=by
 unfold dec;repeat' split
 all_goals (refine ⟨?_,?_,?_,?_,?_,?_⟩ <;> (try dsimp only) <;> first | omega | (intro b;exfalso;omega) | (intro b;with_reducible rfl))
theorem zf1 (h:i<s.size):1≤wd s i:=by unfold wd;rw [zaz s i h];exact (zdz _ _ _ _ _ yab (zf4 s i)).1
theorem wd_le (h:i<s.size):i + wd s i≤s.size:=by unfold wd;rw [zaz s i h];have:=(zdz (s.size-i) _ (bt s (i + 1)) (bt s (i + 2)) (bt s (i + 3)) yab (zf4 s i)).2.1;omega
theorem wd_le4 (h:i<s.size):wd s i≤4:=by unfold wd;rw [zaz s i h];exact (zdz _ _ _ _ _ yab (zf4 s i)).2.2.1
theorem rn_high (h:i<s.size) (hb:128≤bt s i):128≤rn s i:=by unfold rn;rw [zaz s i h];exact (zdz _ _ _ _ _ yab (zf4 s i)).2.2.2.2.1 hb
theorem zli (h:i<s.size) (hb:bt s i<128):rn s i=bt s i∧wd s i=1:=by unfold rn wd;rw [zaz s i h,(zdz _ _ _ _ _ yab (zf4 s i)).2.2.2.2.2 hb];exact ⟨rfl,rfl⟩
def zpV (p:Nat × Nat):Nat:=if p.1=65533∧p.2=1 then 0 else p.2
theorem lngp_low {b:Nat} (h:b<128):zpV (b,1)=1:=by unfold zpV;rw [yak (by dsimp only;omega)]
theorem lng_eq (h:i<s.size):lng s i =
 if bt s i<128 then 1
 else if 194≤bt s i∧bt s i≤223 then (if inB s (i + 1) 128 191 then 2 else 0)
 else if 224≤bt s i∧bt s i≤239 then (if (if bt s i=224 then inB s (i + 1) 160 191 else if bt s i=237 then inB s (i + 1) 128 159 else inB s (i + 1) 128 191) && inB s (i + 2) 128 191 then 3 else 0)
 else if 240≤bt s i∧bt s i≤244 then (if (if bt s i=240 then inB s (i + 1) 144 191 else if bt s i=244 then inB s (i + 1) 128 143 else inB s (i + 1) 128 191) && inB s (i + 2) 128 191 && inB s (i + 3) 128 191 then 4 else 0)
 else 0:=by
 have u:(i + 1<s.size)=(1<s.size-i):=by apply propext;omega
 have x:(i + 2<s.size)=(2<s.size-i):=by apply propext;omega
 have y:(i + 3<s.size)=(3<s.size-i):=by apply propext;omega
 have hb:=zf4 s i;have z:lng s i=zpV (Utf8.decode s i):=by unfold lng brk rn wd zpV;simp only [yaP]
 rw [z,zaz s i h];unfold inB;simp only [u,x,y];generalize s.size-i=n;generalize bt s i=b at *
 generalize bt s (i + 1)=f at *
 generalize bt s (i + 2)=q at *
 generalize bt s (i + 3)=A at *
 clear h u x y z;unfold dec;by_cases g:b<128
 · rw [yan g,yan g,lngp_low g]
 rw [yak g,yak g];by_cases j:194≤b∧b≤223
 · rw [yan j];by_cases d:1<n∧128≤f∧f≤191
   · rw [yan ⟨j.1,j.2,d⟩,yaD d];simp [zpV]
   · rw [yak (fun k=>d k.2.2),yak yab,yak yab,yaH d];simp [zpV]
 rw [yak j,yak (fun k=>j ⟨k.1,k.2.1⟩)];by_cases m:224≤b∧b≤239
 · rw [yan m];by_cases d:2<n∧128≤f∧f≤191∧(b=224→160≤f)∧(b=237→f≤159)∧128≤q∧q≤191
   · rw [yan ⟨m.1,m.2,d⟩,yan]
     · simp [zpV]
     simp only [ya9,yaP];refine ⟨?_,by omega⟩;repeat' split
     all_goals (simp only [yaP];omega)
   · rw [yak (fun k=>d k.2.2),yak yab,yak]
     · simp [zpV]
     simp only [ya9,yaP];intro k;obtain ⟨o,B⟩:=k;repeat' split at o
     all_goals (simp only [yaP] at o;omega)
 rw [yak m,yak (fun k=>m ⟨k.1,k.2.1⟩)];by_cases p:240≤b∧b≤244
 · rw [yan p];by_cases d:3<n∧128≤f∧f≤191∧(b=240→144≤f)∧(b=244→f≤143)∧128≤q∧q≤191∧128≤A∧A≤191
   · rw [yan ⟨p.1,p.2,d⟩,yan]
     · simp [zpV]
     simp only [ya9,yaP];refine ⟨⟨?_,by omega⟩,by omega⟩;repeat' split
     all_goals (simp only [yaP];omega)
   · rw [yak (fun k=>d k.2.2),yak]
     · simp [zpV]
     simp only [ya9,yaP];intro k;obtain ⟨⟨o,B⟩,C⟩:=k;repeat' split at o
     all_goals (simp only [yaP] at o;omega)
 rw [yak p,yak (fun k=>p ⟨k.1,k.2.1⟩)];simp [zpV]
theorem brk_eq (h:i<s.size):brk s i=(decide (rn s i=65533) && !decide (i + 3≤s.size∧bt s i=239∧bt s (i + 1)=191∧bt s (i + 2)=189)):=by
 have b:(i + 3≤s.size)=(2<s.size-i):=by apply propext;omega
 unfold brk rn wd;simp only [zaz s i h,b];generalize s.size-i=n;generalize bt s i=d at *
 generalize bt s (i + 1)=f at *
 generalize bt s (i + 2)=g at *
 generalize bt s (i + 3)=j at *
 rw [ya6];simp only [ya9,ycR,yaP,ybD];unfold dec;repeat' split
 all_goals (dsimp only;omega)
def least (p:Nat→Bool):Nat→Nat→Nat
 | 0,k=>k
 | f + 1,k=>if p k then k else least p f (k + 1)
theorem zc1 (p:Nat→Bool):∀f k,(∃j,k≤j∧j≤k + f∧p j=true)→p (least p f k)=true∧k≤least p f k∧∀j,k≤j→j<least p f k→p j=false
 | 0,k,⟨j,n,o,d⟩=>by
  have:j=k:=by omega
  subst this;exact ⟨d,yaj _,fun i a b=>by unfold least at b;omega⟩
 | f + 1,k,⟨j,n,o,d⟩=>by
  unfold least;by_cases hk:p k=true
  · rw [yan hk];exact ⟨hk,yaj _,fun i a b=>by omega⟩
  · rw [yak hk];have q:j≠k:=fun e=>hk (e ▸ d);obtain ⟨a,b,c⟩:=zc1 p f (k + 1) ⟨j,by omega,by omega,d⟩;refine ⟨a,by omega,fun i s g=>?_⟩;by_cases m:i=k
    · subst m;simpa using hk
    · exact c i yab g
theorem least_eq {p:Nat→Bool} {f:Nat} (hk:p k=true) (hlt:∀j,j<k→p j=false) (hf:k≤f):least p f 0=k:=by
 obtain ⟨a,b,c⟩:=zc1 p f 0 ⟨k,yap _,by omega,hk⟩;rcases ycP (least p f 0) k with h | h | h
 · have:=hlt _ h;rw [a] at this;cases this
 · exact h
 · have:=c k (yap _) h;rw [hk] at this;cases this
def nxt (s:ByteArray) (p:Nat):Nat:=if p<s.size then p + wd s p else p
def plc (s:ByteArray):Nat→Nat
 | 0=>0
 | k + 1=>nxt s (plc s k)
theorem za2 (s:ByteArray):∀k,plc s k≤s.size
 | 0=>yap _
 | k + 1=>by
  have ih:=za2 s k;show nxt s (plc s k)≤s.size;unfold nxt;split
  · rename_i h;exact wd_le h
  · exact ih
theorem zaF (h:plc s k<s.size):plc s (k + 1)=plc s k + wd s (plc s k):=yan h
theorem ze6 (h:¬plc s k<s.size):plc s (k + 1)=plc s k:=yak h
theorem zbb (h:plc s k<s.size):plc s k<plc s (k + 1):=by rw [zaF h];have:=zf1 h;omega
theorem zhg (s:ByteArray) (k:Nat):plc s k≤plc s (k + 1):=by
 by_cases h:plc s k<s.size
 · exact ya2 (zbb h)
 · rw [ze6 h];exact yaj _
theorem za8 (s:ByteArray) {j:Nat} (h:j≤k):plc s j≤plc s k:=by
 induction k with
 | zero=>
  have:j=0:=by omega
  subst this;exact yaj _
 | succ k ih =>
  by_cases e:j=k + 1
  · subst e;exact yaj _
  · exact yax (ih yab) (zhg s k)
theorem plc_ge:∀{k:Nat},plc s k<s.size→k≤plc s k
 | 0,_=>yap _
 | k + 1,h=>by
  have b:plc s k<s.size:=ybt (zhg s k) h;have:=plc_ge b;have:=zbb b;omega
theorem zjm (s:ByteArray):plc s s.size=s.size:=by
 have h:=za2 s s.size;by_cases e:plc s s.size<s.size
 · have:=plc_ge e;omega
 · omega
def cnt (s:ByteArray):Nat:=least (fun k=>!decide (plc s k<s.size)) s.size 0
theorem zcf (s:ByteArray):plc s (cnt s)=s.size∧∀j,j<cnt s→plc s j<s.size:=by
 obtain ⟨a,_,c⟩:=zc1 (fun k=>!decide (plc s k<s.size)) s.size 0 ⟨s.size,yap _,by omega,by simp [zjm]⟩;refine ⟨?_,fun j b=>?_⟩
 · have:=za2 s (cnt s);have d:¬plc s (cnt s)<s.size:=by unfold cnt;simpa only [ycR,ybD] using a
   omega
 · have:=c j (yap _) b;simpa using this
theorem zaX:k<cnt s↔plc s k<s.size:=by
 refine ⟨(zcf s).2 k,fun h=>?_⟩;rcases ybH k (cnt s) with b | b
 · exact b
 · have:=za8 s b;rw [(zcf s).1] at this;omega
theorem zej (s:ByteArray):cnt s≤s.size:=by
 rcases ybH s.size (cnt s) with h | h
 · have:=zaX.1 h;rw [zjm] at this;omega
 · exact h
theorem zjl (h:cnt s≤k):plc s k=s.size:=by
 have:=za8 s h;rw [(zcf s).1] at this;have:=za2 s k;omega
theorem zeL (h1:¬plc s k<s.size) (h2:∀j,j<k→plc s j<s.size):cnt s=k:=by
 rcases ycP (cnt s) k with h | h | h
 · have:=h2 _ h;rw [(zcf s).1] at this;omega
 · exact h
 · exact absurd (zaX.1 h) h1
def zb4 (s:ByteArray):Bool:=decide (∀k,k<cnt s→brk s (plc s k)=false)
theorem zcw:zb4 s=true↔∀k,k<cnt s→brk s (plc s k)=false:=by unfold zb4;exact ybA
def zbE (r:Nat):Bool:=decide ((97≤r∧r≤122)∨(65≤r∧r≤90)∨(48≤r∧r≤57)∨r=95∨160<r)
def zeZ (s:ByteArray) (i:Nat):Bool:=!brk s i && zbE (rn s i)
def nameS (s:ByteArray):Bool:=decide (0<cnt s∧cnt s≤24∧∀k,k<cnt s→zeZ s (plc s k)=true)
theorem zbr:nameS s=true↔(0<cnt s∧cnt s≤24∧∀k,k<cnt s→zeZ s (plc s k)=true):=by unfold nameS;exact ybA
def cutA (s:ByteArray) (n:Nat):ByteArray:=s.extract 0 (plc s n)
def cutB (s:ByteArray) (n:Nat):ByteArray:=s.extract (plc s n) s.size
def zhI (c:Nat):Bool:=decide (c=95∨(97≤c∧c≤122)∨(65≤c∧c≤90)∨(48≤c∧c≤57))
theorem zcW (n b0 b1 b2 b3:Nat) :
 (b0<128∧dec n b0 b1 b2 b3=(b0,1)) ∨
 ((194≤b0∧b0≤223∧1<n∧128≤b1∧b1≤191)∧dec n b0 b1 b2 b3=((b0 % 32) * 64 + b1 % 64,2)) ∨
 ((224≤b0∧b0≤239∧2<n∧128≤b1∧b1≤191∧(b0=224→160≤b1)∧(b0=237→b1≤159)∧128≤b2∧b2≤191)∧dec n b0 b1 b2 b3=((b0 % 16) * 4096 + (b1 % 64) * 64 + b2 % 64,3)) ∨
 ((240≤b0∧b0≤244∧3<n∧128≤b1∧b1≤191∧(b0=240→144≤b1)∧(b0=244→b1≤143)∧128≤b2∧b2≤191∧128≤b3∧b3≤191)∧dec n b0 b1 b2 b3=((b0 % 8) * 262144 + (b1 % 64) * 4096 + (b2 % 64) * 64 + b3 % 64,4)) ∨
 (128≤b0∧dec n b0 b1 b2 b3=(65533,1)):=by
 unfold dec;by_cases b:b0<128
 · exact .inl ⟨b,yan b⟩
 rw [yak b];split
 · exact .inr (.inl ⟨‹_›,rfl⟩)
 · split
   · exact .inr (.inr (.inl ⟨‹_›,rfl⟩))
   · split
     · exact .inr (.inr (.inr (.inl ⟨‹_›,rfl⟩)))
     · exact .inr (.inr (.inr (.inr ⟨by omega,rfl⟩)))
theorem mayB_eq (h:i<s.size):zeZ s i=if lng s i=1 then zhI (bt s i) else decide (1<lng s i) && (!decide (bt s i=194) || decide (160<bt s (i + 1))):=by
 unfold zeZ lng brk rn wd;rw [zaz s i h];rcases zcW (s.size-i) (bt s i) (bt s (i + 1)) (bt s (i + 2)) (bt s (i + 3)) with ⟨c,e⟩ | ⟨c,e⟩ | ⟨c,e⟩ | ⟨c,e⟩ | ⟨c,e⟩
 · have hb:decide (bt s i=65533∧1=1)=false:=by simp;omega
   rw [e];dsimp only;rw [hb];unfold zbE zhI;rw [ya6];simp;omega
 · have hb:decide (bt s i % 32 * 64 + bt s (i + 1) % 64=65533∧2=1)=false:=by simp
   rw [e];dsimp only;rw [hb];unfold zbE;rw [ya6];simp;omega
 · have hb:decide (bt s i % 16 * 4096 + bt s (i + 1) % 64 * 64 + bt s (i + 2) % 64=65533∧3=1)=false:=by simp
   rw [e];dsimp only;rw [hb];unfold zbE;rw [ya6];simp;omega
 · have hb:decide (bt s i % 8 * 262144 + bt s (i + 1) % 64 * 4096 + bt s (i + 2) % 64 * 64 + bt s (i + 3) % 64=65533∧4=1)=false:=by simp
   rw [e];dsimp only;rw [hb];unfold zbE;rw [ya6];simp;omega
 · rw [e];simp
theorem bt_list (s:ByteArray) (i:Nat) (h:i<s.size):s.data.toList[i]? = some (UInt8.ofNat (bt s i)):=by
 rw [zhH s i h];have:i<s.data.toList.length:=by simpa using h
 rw [yal this];simp;rfl
theorem zcH {a b:ByteArray} (h:a.size=b.size) (he:∀k,k<a.size→bt a k=bt b k):a=b:=by
 refine ByteArray.ext_getElem h fun i d f=>?_;have:=he i d;rw [zhH a i d,zhH b i f] at this;exact UInt8.toNat_inj.1 this
theorem zaB (s:ByteArray) (a b:Nat):(s.extract a b).size=min b s.size-a:=by simp
theorem zbf (s:ByteArray) (a b k:Nat) (h:a + k<min b s.size):bt (s.extract a b) k=bt s (a + k):=by
 have d:k<(s.extract a b).size:=by rw [zaB];omega
 have f:a + k<s.size:=by omega
 rw [zhH _ k d,zhH s _ f];simp [ByteArray.getElem_extract]
theorem size_app (a b:ByteArray):(a ++ b).size=a.size + b.size:=by simp
theorem zaL (a b:ByteArray) (k:Nat) (h:k<a.size):bt (a ++ b) k=bt a k:=by
 rw [zhH _ k (by rw [size_app];omega),zhH a k h,ByteArray.getElem_append_left h]
theorem zaW (a b:ByteArray) (k:Nat) (h:k<b.size):bt (a ++ b) (a.size + k)=bt b k:=by
 rw [zhH _ _ (by rw [size_app];omega),zhH b k h,ByteArray.getElem_append_right (by omega)];simp
theorem ziP (s:ByteArray):s.extract 0 s.size=s:=zcH (by rw [zaB];omega) fun k hk=>by rw [zaB] at hk;rw [zbf _ _ _ _ yab,yaG]
theorem app_right (a b:ByteArray):(a ++ b).extract a.size (a ++ b).size=b:=by
 refine zcH (by rw [zaB,size_app];omega) fun k hk=>?_;rw [zaB,size_app] at hk;rw [zbf _ _ _ _ (by rw [size_app];omega),zaW _ _ _ (by omega)]
theorem toList_inj {a b:ByteArray}:(a.toList == b.toList)=decide (a=b):=by
 rw [ya6];simp only [ybS,yaP];constructor
 · intro h;rw [ByteArray.toList_eq,ByteArray.toList_eq] at h;exact ByteArray.ext (ycF.1 h)
 · intro h;rw [h]
theorem zen {a b:ByteArray} (h:a=b):(a.toList == b.toList)=true:=by subst h;simp
theorem zhy {a b:ByteArray} (h:¬a=b):(a.toList == b.toList)=false:=by rw [toList_inj];exact yaH h
theorem list_ne (h:0<s.size):(!s.toList.isEmpty)=true:=by
 rw [ByteArray.toList_eq];have b:0<s.data.toList.length:=by simpa using h
 revert b
 cases s.data.toList with
 | nil=>intro b;exact absurd b (ybb _)
 | cons a r=>intro _;rfl
theorem zi8 (h:0<s.size):s.toList.isEmpty=false:=by have:=list_ne h;simpa using this
def sBad:ByteArray:=⟨#[239,191,189]⟩
theorem zkS:sBad.size=3:=rfl
theorem pre_bad (h:i<s.size):decide (sBad.size≤(s.extract i s.size).size∧(s.extract i s.size).extract 0 sBad.size=sBad)=decide (i + 3≤s.size∧bt s i=239∧bt s (i + 1)=191∧bt s (i + 2)=189):=by
 rw [ya6];simp only [yaP,zkS,zaB];have b:∀k,k<min 3 (s.size-i)→bt ((s.extract i s.size).extract 0 3) k=bt s (i + k):=fun k hk=>by
  rw [zbf _ _ _ _ (by rw [zaB];omega),zbf _ _ _ _ yab,yaG]
 constructor
 · rintro ⟨f,d⟩;refine ⟨by omega,?_,?_,?_⟩
   · have:=b 0 yab;rw [d] at this;exact this.symm
   · have:=b 1 yab;rw [d] at this;exact this.symm
   · have:=b 2 yab;rw [d] at this;exact this.symm
 · rintro ⟨f,d,g,j⟩;refine ⟨by omega,zcH (by rw [zaB,zaB,zkS];omega) fun k hk=>?_⟩;rw [zaB,zaB] at hk;rw [b k (by omega)];obtain rfl | rfl | rfl:k=0∨k=1∨k=2:=by omega
   · rw [ybP,d];rfl
   · rw [g];rfl
   · rw [j];rfl
theorem zjW {b0 b1 b2 b3 c1 c2 c3:Nat} (h1:1<n→b1=c1) (h2:2<n→b2=c2) (h3:3<n→b3=c3):dec n b0 b1 b2 b3=dec n b0 c1 c2 c3:=by
 by_cases g:1<n
 · rw [h1 g];by_cases f:2<n
   · rw [h2 f];by_cases b:3<n
     · rw [h3 b]
     · have e:∀x y,dec n b0 c1 c2 x=dec n b0 c1 c2 y:=fun x y=>by
        unfold dec;simp only [b,false_and,and_false,if_false]
       exact e _ _
   · have b:¬3<n:=by omega
     have e:∀x y d y',dec n b0 c1 x y=dec n b0 c1 d y':=fun x y d y'=>by
      unfold dec;simp only [f,b,false_and,and_false,if_false]
     exact e _ _ _ _
 · have f:¬2<n:=by omega
   have b:¬3<n:=by omega
   have e:∀z x y j d y',dec n b0 z x y=dec n b0 j d y':=fun z x y j d y'=>by
    unfold dec;simp only [g,f,b,false_and,and_false,if_false]
   exact e _ _ _ _ _ _
theorem dec_pre (n m b0 b1 b2 b3:Nat) (hn:n≤m):dec n b0 b1 b2 b3=dec m b0 b1 b2 b3∨(dec n b0 b1 b2 b3=(65533,1)∧n<(dec m b0 b1 b2 b3).2):=by
 rcases zcW m b0 b1 b2 b3 with ⟨c,e⟩ | ⟨c,e⟩ | ⟨c,e⟩ | ⟨c,e⟩ | ⟨c,e⟩
 · left;rw [e];unfold dec;rw [yan c]
 · by_cases h:1<n
   · left;rw [e];unfold dec;rw [yak yab,yan (by omega)]
   · right;rw [e];unfold dec;rw [yak yab,yak yab,yak yab,yak (by omega)];exact ⟨rfl,by dsimp only;omega⟩
 · by_cases h:2<n
   · left;rw [e];unfold dec;rw [yak yab,yak yab,yan (by omega)]
   · right;rw [e];unfold dec;rw [yak yab,yak yab,yak yab,yak (by omega)];exact ⟨rfl,by dsimp only;omega⟩
 · by_cases h:3<n
   · left;rw [e];unfold dec;rw [yak yab,yak yab,yak yab,yan (by omega)]
   · right;rw [e];unfold dec;rw [yak yab,yak yab,yak yab,yak (by omega)];exact ⟨rfl,by dsimp only;omega⟩
 · left;rcases zcW n b0 b1 b2 b3 with ⟨d,b⟩ | ⟨d,b⟩ | ⟨d,b⟩ | ⟨d,b⟩ | ⟨d,b⟩
   · omega
   · exfalso;revert e;unfold dec;rw [yak yab,yan (by omega)];simp
   · exfalso;revert e;unfold dec;rw [yak yab,yak yab,yan (by omega)];simp
   · exfalso;revert e;unfold dec;rw [yak yab,yak yab,yak yab,yan (by omega)];simp
   · rw [b,e]
theorem zfr {p:Nat} (hz:p + t.size=s.size) (hb:∀j,j<t.size→bt t j=bt s (p + j)) (hi:i<t.size):Utf8.decode t i=Utf8.decode s (p + i):=by
 rw [zaz t i hi,zaz s (p + i) yab,hb i hi,show s.size-(p + i)=t.size-i from by omega];refine zjW (fun h=>?_) (fun h=>?_) (fun h=>?_)
 · rw [hb _ yab,ya4]
 · rw [hb _ yab,ya4]
 · rw [hb _ yab,ya4]
theorem zh4 (hz:t.size≤s.size) (hb:∀j,j<t.size→bt t j=bt s j) (hi:i<t.size) :
 Utf8.decode t i=Utf8.decode s i∨(Utf8.decode t i=(65533,1)∧t.size<i + wd s i):=by
 have b:Utf8.decode t i=dec (t.size-i) (bt s i) (bt s (i + 1)) (bt s (i + 2)) (bt s (i + 3)):=by
  rw [zaz t i hi,hb i hi];exact zjW (fun h=>hb _ yab) (fun h=>hb _ yab) (fun h=>hb _ yab)
 have d:Utf8.decode s i=dec (s.size-i) (bt s i) (bt s (i + 1)) (bt s (i + 2)) (bt s (i + 3)):=zaz s i yab;unfold wd;rw [b,d];rcases dec_pre (t.size-i) (s.size-i) (bt s i) (bt s (i + 1)) (bt s (i + 2)) (bt s (i + 3)) yab with h | ⟨h,f⟩
 · exact .inl h
 · exact .inr ⟨h,by omega⟩
theorem zlQ (ht:t.size=plc s k) (hb:∀j,j<t.size→bt t j=bt s j):∀j,j≤k→plc t j=plc s j
 | 0,_=>rfl
 | j + 1,b=>by
  have ih:=zlQ ht hb j yab;have g:=za2 s k;by_cases h:plc t j<t.size
  · have d:plc s j<s.size:=by omega
    rw [zaF h,zaF d,ih];have f:plc s (j + 1)≤plc s k:=za8 s b;rw [zaF d] at f;rcases zh4 (s:=s) (t:=t) (i:=plc s j) yab hb yab with e | ⟨_,e⟩
    · unfold wd;rw [e]
    · omega
  · have n:=za2 t j;have f:plc s (j + 1)≤plc s k:=za8 s b;have m:=zhg s j;rw [ze6 h];omega
theorem zfR {j:Nat} (ht:t.size=plc s k) (hb:∀j,j<t.size→bt t j=bt s j) (hj:plc s j<plc s k):Utf8.decode t (plc s j)=Utf8.decode s (plc s j):=by
 have d:=za2 s k;have f:plc s j<s.size:=by omega
 have b:j + 1≤k:=by
  rcases ybH j k with h | h
  · omega
  · have:=za8 s h;omega
 have g:plc s (j + 1)≤plc s k:=za8 s b;rw [zaF f] at g;rcases zh4 (s:=s) (t:=t) (i:=plc s j) yab hb yab with e | ⟨_,e⟩
 · exact e
 · omega
theorem cnt_pre (ht:t.size=plc s k) (hb:∀j,j<t.size→bt t j=bt s j):cnt t=min k (cnt s):=by
 have b:=zlQ ht hb;refine zeL ?_ fun j f=>?_
 · rw [b _ (Nat.min_le_left _ _),ht];rcases ybH k (cnt s) with h | h
   · rw [ybK (ya2 h)];omega
   · rw [Nat.min_eq_right h,zjl h,(zcf s).1];omega
 · rw [b _ yab,ht];have d:=(zcf s).2 j yab;have g:=zbb d;have m:=za8 s (show j + 1≤k by omega);omega
theorem zlR (hz:plc s k + t.size=s.size) (hb:∀j,j<t.size→bt t j=bt s (plc s k + j)):∀j,plc s k + plc t j=plc s (k + j)
 | 0=>rfl
 | j + 1=>by
  have ih:=zlR hz hb j;by_cases h:plc t j<t.size
  · have b:plc s (k + j)<s.size:=by omega
    rw [←ya4,zaF h,zaF b,←ih];unfold wd;rw [zfr hz hb h];omega
  · rw [←ya4,ze6 h,ze6 yab,ih]
theorem cnt_suf (hz:plc s k + t.size=s.size) (hb:∀j,j<t.size→bt t j=bt s (plc s k + j)):cnt t=cnt s-k:=by
 have b:=zlR hz hb;refine zeL ?_ fun j d=>?_
 · have h:=b (cnt s-k);rw [zjl (s:=s) (k:=k + (cnt s-k)) (by omega)] at h;omega
 · have h:=b j;have:=zaX.1 (show k + j<cnt s by omega);omega
theorem zaZ (s:ByteArray) (n:Nat):(cutA s n).size=plc s n:=by unfold cutA;rw [zaB];have:=za2 s n;omega
theorem zfq (s:ByteArray) (n:Nat):∀j,j<(cutA s n).size→bt (cutA s n) j=bt s j:=fun j b=>by
 rw [zaZ] at b;have:=za2 s n;unfold cutA;rw [zbf _ _ _ _ yab,yaG]
theorem zaH (s:ByteArray) (n:Nat):plc s n + (cutB s n).size=s.size:=by unfold cutB;rw [zaB];have:=za2 s n;omega
theorem zdc (s:ByteArray) (n:Nat):∀j,j<(cutB s n).size→bt (cutB s n) j=bt s (plc s n + j):=fun j b=>by
 have:=zaH s n;unfold cutB;rw [zbf _ _ _ _ (by omega)]
theorem ziL (s:ByteArray) (n:Nat):cnt (cutA s n)=min n (cnt s):=cnt_pre (zaZ s n) (zfq s n)
theorem zmg (s:ByteArray) (n:Nat):cnt (cutB s n)=cnt s-n:=cnt_suf (zaH s n) (zdc s n)
theorem zd4 (s:ByteArray) (n j:Nat):plc s n + plc (cutB s n) j=plc s (n + j):=zlR (zaH s n) (zdc s n) j
theorem zo4 (s:ByteArray) (n m:Nat):cutB (cutB s n) m=cutB s (n + m):=by
 have b:=zd4 s n m;have d:=zaH s n;have f:=zaH (cutB s n) m;have g:=zaH s (n + m);refine zcH yab fun k hk=>?_;rw [zdc _ _ k hk,zdc _ _ _ yab,zdc _ _ k (by omega)];congr 1
 omega
theorem zjV (s:ByteArray):cutB s 0=s:=by unfold cutB;exact ziP s
theorem zo3 (s:ByteArray):cutA s 0=⟨#[]⟩:=zcH (by rw [zaZ];rfl) fun k hk=>by rw [zaZ] at hk;exact absurd hk (ybb _)
section
variable {a b:ByteArray}
end
def zck (n:Nat):ByteArray:=⟨#[UInt8.ofNat n]⟩
theorem zbe (n:Nat):(zck n).size=1:=rfl
theorem zhr (h:n<256):bt (zck n) 0=n:=by
 show (UInt8.ofNat n).toNat=n;simp;omega
theorem zlf (h:0<s.size):0<cnt s:=zaX.2 h
theorem sOne_cnt (n:Nat):cnt (zck n)=1:=by
 have d:=zlf (s:=zck n) (by rw [zbe];omega);have b:=zej (zck n);rw [zbe] at b;omega
theorem zlG (h:i<s.size) (hb:bt s i<128):zeZ s i=zhI (bt s i):=by
 have b:lng s i=1:=by rw [lng_eq h,yan hb]
 rw [mayB_eq h,yan b]
theorem zp3 (h:n<256):zeZ (zck n) 0=zhI n:=by
 by_cases b:n<128
 · rw [zlG (by rw [zbe];omega) (by rw [zhr h];exact b),zhr h]
 · have d:0<(zck n).size:=by rw [zbe];omega
   have e:Utf8.decode (zck n) 0=(65533,1):=by
    rw [zaz _ 0 d,zhr h,zbe];rcases zcW (1-0) n (bt (zck n) (0 + 1)) (bt (zck n) (0 + 2)) (bt (zck n) (0 + 3)) with ⟨c,e⟩ | ⟨c,e⟩ | ⟨c,e⟩ | ⟨c,e⟩ | ⟨c,e⟩
    · omega
    · omega
    · omega
    · omega
    · exact e
   have hb:brk (zck n) 0=true:=by unfold brk rn wd;rw [e];rfl
   unfold zeZ;rw [hb];symm
   unfold zhI;simp;omega
theorem name_one (h:n<256):nameS (zck n)=zhI n:=by
 rw [ya6,zbr,sOne_cnt];constructor
 · rintro ⟨_,_,b⟩;have:=b 0 yab;rw [←zp3 h];exact this
 · intro hb;refine ⟨by omega,by omega,fun k hk=>?_⟩;obtain rfl:k=0:=by omega
   show zeZ (zck n) 0=true;rw [zp3 h];exact hb
theorem zlZ:∀m,k<plc s m→∃j,plc s j≤k∧k<plc s (j + 1)
 | 0,h=>absurd h (ybb _)
 | m + 1,h=>by
  by_cases b:k<plc s m
  · exact zlZ m b
  · exact ⟨m,by omega,h⟩
theorem zid {p:Nat} (hp:p<s.size) (h1:p<k) (h2:k<p + wd s p):128≤bt s k∧bt s k≤191:=by
 unfold wd at h2;rw [zaz s p hp] at h2;rcases zcW (s.size-p) (bt s p) (bt s (p + 1)) (bt s (p + 2)) (bt s (p + 3)) with ⟨c,e⟩ | ⟨c,e⟩ | ⟨c,e⟩ | ⟨c,e⟩ | ⟨c,e⟩
 · rw [e] at h2;dsimp only at h2;omega
 · rw [e] at h2;dsimp only at h2;obtain rfl:k=p + 1:=by omega
   omega
 · rw [e] at h2;dsimp only at h2;obtain rfl | rfl:k=p + 1∨k=p + 2:=by omega
   · omega
   · omega
 · rw [e] at h2;dsimp only at h2;obtain rfl | rfl | rfl:k=p + 1∨k=p + 2∨k=p + 3:=by omega
   · omega
   · omega
   · omega
 · rw [e] at h2;dsimp only at h2;omega
theorem zja (h:s.size=0):s=⟨#[]⟩:=zcH h fun k hk=>by omega
def sNl:ByteArray:=⟨#[10]⟩
end Go.Proofs.YtmblgnddgmfkhaaGreat
