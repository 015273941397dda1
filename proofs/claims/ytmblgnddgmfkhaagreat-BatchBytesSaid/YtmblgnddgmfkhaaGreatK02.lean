import Derived.Test.YtmblgnddgmfkhaaGreatK00
import Derived.Laws.RangeAny
import Derived.WalkKit
import Derived.Lib.CutLaws
import Derived.Shelf.Small.Strs
import Derived.Shelf.Strings.Search1
import Derived.Deep.Draws
import Derived.BigQuiet
import Derived.Deep.QuietTactic
import Derived.IntWalk
import Derived.BigGuard
import Derived.BigCall
import Derived.Laws.Strings3
import Derived.Shelf.RegionOpenPlain
import Derived.WalkSpells
import Derived.WalkLawsBesides
import Derived.Handy
import Derived.Lib.Hide
import Derived.Lib.OthersKept
import Derived.Test.YtmblgnddgmfkhaaGreatProg
import Derived.Test.YtmblgnddgmfkhaaGreatRows
set_option maxRecDepth 100000
set_option maxHeartbeats 4000000
namespace Go.Proofs.YtmblgnddgmfkhaaGreat
section
variable {s t:ByteArray} {k i n:Nat}
def dec (n b0 b1 b2 b3:Nat):Nat × Nat :=
 if b0<128 then (b0,1)
 else if 194≤b0∧b0≤223∧1<n∧128≤b1∧b1≤191 then ((b0 % 32) * 64 + b1 % 64,2)
 else if 224≤b0∧b0≤239∧2<n∧128≤b1∧b1≤191∧(b0=224→160≤b1)∧(b0=237→b1≤159)∧128≤b2∧b2≤191 then ((b0 % 16) * 4096 + (b1 % 64) * 64 + b2 % 64,3)
 else if 240≤b0∧b0≤244∧3<n∧128≤b1∧b1≤191∧(b0=240→144≤b1)∧(b0=244→b1≤143)∧128≤b2∧b2≤191∧128≤b3∧b3≤191 then ((b0 % 8) * 262144 + (b1 % 64) * 4096 + (b2 % 64) * 64 + b3 % 64,4)
 else (65533,1)
def bt (s:ByteArray) (i:Nat):Nat:=(s.get! i).toNat
theorem zgx (s:ByteArray) (i:Nat):bt s i<256:=(s.get! i).toNat_lt
theorem zig (s:ByteArray) (i:Nat) (h:i<s.size):bt s i=(s[i]'h).toNat:=by
 have:=get_at s i h;rw [ybH] at this;unfold bt;rw [this]
theorem zaD (s:ByteArray) (i:Nat) (h:i<s.size):Utf8.decode s i=dec (s.size-i) (bt s i) (bt s (i + 1)) (bt s (i + 2)) (bt s (i + 3)):=by
 have q:=zgx s i;have u:=zgx s (i + 1);have x:=zgx s (i + 2);have y:=zgx s (i + 3);have e:Utf8.decode s i =
  (if bt s i<0x80 then (bt s i,1)
  else if bt s i / 32 == 6 && (decide (i + 1<s.size) && bt s (i + 1) / 64 == 2) then
   (if (bt s i % 32) * 64 + bt s (i + 1) % 64 ≥ 0x80 then ((bt s i % 32) * 64 + bt s (i + 1) % 64,2) else (Utf8.runeError,1))
  else if bt s i / 16 == 14 && (decide (i + 1<s.size) && bt s (i + 1) / 64 == 2) && (decide (i + 2<s.size) && bt s (i + 2) / 64 == 2) then
   (if (bt s i % 16) * 4096 + (bt s (i + 1) % 64) * 64 + bt s (i + 2) % 64 ≥ 0x800 && Utf8.valid ((bt s i % 16) * 4096 + (bt s (i + 1) % 64) * 64 + bt s (i + 2) % 64:Nat) then ((bt s i % 16) * 4096 + (bt s (i + 1) % 64) * 64 + bt s (i + 2) % 64,3) else (Utf8.runeError,1))
  else if bt s i / 8 == 30 && (decide (i + 1<s.size) && bt s (i + 1) / 64 == 2) && (decide (i + 2<s.size) && bt s (i + 2) / 64 == 2) && (decide (i + 3<s.size) && bt s (i + 3) / 64 == 2) then
   (if (bt s i % 8) * 262144 + (bt s (i + 1) % 64) * 4096 + (bt s (i + 2) % 64) * 64 + bt s (i + 3) % 64 ≥ 0x10000 && Utf8.valid ((bt s i % 8) * 262144 + (bt s (i + 1) % 64) * 4096 + (bt s (i + 2) % 64) * 64 + bt s (i + 3) % 64:Nat) then ((bt s i % 8) * 262144 + (bt s (i + 1) % 64) * 4096 + (bt s (i + 2) % 64) * 64 + bt s (i + 3) % 64,4) else (Utf8.runeError,1))
  else (Utf8.runeError,1)):=rfl
 rw [e];generalize bt s i=o at *
 generalize bt s (i + 1)=b at *
 generalize bt s (i + 2)=f at *
 generalize bt s (i + 3)=g at *
 unfold dec;by_cases j:o<128
 · rw [yan j,yan j]
 rw [yak j,yak j];by_cases z:1<s.size-i∧128≤b∧b≤191
 · have k:(decide (i + 1<s.size) && b / 64 == 2)=true:=by simp;omega
   rw [k];by_cases A:2<s.size-i∧128≤f∧f≤191
   · have m:(decide (i + 2<s.size) && f / 64 == 2)=true:=by simp;omega
     rw [m];by_cases B:3<s.size-i∧128≤g∧g≤191
     · have n:(decide (i + 3<s.size) && g / 64 == 2)=true:=by simp;omega
       rw [n];simp only [Bool.and_true,Utf8.runeError,Utf8.valid,ge_iff_le,ybc,ycE,ybY,yaP];repeat' split
       all_goals (first | with_reducible rfl | (exfalso;omega) | (refine ycb ?_ ?_ <;> dsimp only <;> omega))
     · have n:(decide (i + 3<s.size) && g / 64 == 2)=false:=by simp;omega
       rw [n];simp only [Bool.and_true,ycS,Utf8.runeError,Utf8.valid,ge_iff_le,ybc,ycE,ybY,yaP,ycj,if_false];repeat' split
       all_goals (first | with_reducible rfl | (exfalso;omega) | (refine ycb ?_ ?_ <;> dsimp only <;> omega))
   · have m:(decide (i + 2<s.size) && f / 64 == 2)=false:=by simp;omega
     rw [m];simp only [Bool.and_true,ycS,yb6,Utf8.runeError,Utf8.valid,ge_iff_le,ybc,ycE,ybY,yaP,ycj,if_false];repeat' split
     all_goals (first | with_reducible rfl | (exfalso;omega) | (refine ycb ?_ ?_ <;> dsimp only <;> omega))
 · have k:(decide (i + 1<s.size) && b / 64 == 2)=false:=by simp;omega
   rw [k];simp only [ycS,yb6,ycj,if_false,Utf8.runeError];repeat' split
   all_goals (first | with_reducible rfl | (exfalso;omega) | (refine ycb ?_ ?_ <;> dsimp only <;> omega))
def rn (s:ByteArray) (i:Nat):Nat:=(Utf8.decode s i).1
def wd (s:ByteArray) (i:Nat):Nat:=(Utf8.decode s i).2
def brk (s:ByteArray) (i:Nat):Bool:=decide (rn s i=65533∧wd s i=1)
def lng (s:ByteArray) (i:Nat):Nat:=if brk s i then 0 else wd s i
def inB (s:ByteArray) (i lo hi:Nat):Bool:=decide (i<s.size∧lo≤bt s i∧bt s i≤hi)
theorem zdW (n b0 b1 b2 b3:Nat) (h:0<n) (hb:b0<256):1≤(dec n b0 b1 b2 b3).2∧(dec n b0 b1 b2 b3).2≤n∧(dec n b0 b1 b2 b3).2≤4∧(dec n b0 b1 b2 b3).1≤1114111∧(128≤b0→128≤(dec n b0 b1 b2 b3).1)∧(b0<128→dec n b0 b1 b2 b3=(b0,1)):=by
 unfold dec;repeat' split
 all_goals (refine ⟨?_,?_,?_,?_,?_,?_⟩ <;> (try dsimp only) <;> first | omega | (intro b;exfalso;omega) | (intro b;with_reducible rfl))
theorem zgu (h:i<s.size):1≤wd s i:=by unfold wd;rw [zaD s i h];exact (zdW _ _ _ _ _ yab (zgx s i)).1
theorem wd_le (h:i<s.size):i + wd s i≤s.size:=by unfold wd;rw [zaD s i h];have:=(zdW (s.size-i) _ (bt s (i + 1)) (bt s (i + 2)) (bt s (i + 3)) yab (zgx s i)).2.1;omega
theorem wd_le4 (h:i<s.size):wd s i≤4:=by unfold wd;rw [zaD s i h];exact (zdW _ _ _ _ _ yab (zgx s i)).2.2.1
theorem rn_high (h:i<s.size) (hb:128≤bt s i):128≤rn s i:=by unfold rn;rw [zaD s i h];exact (zdW _ _ _ _ _ yab (zgx s i)).2.2.2.2.1 hb
theorem zlV (h:i<s.size) (hb:bt s i<128):rn s i=bt s i∧wd s i=1:=by unfold rn wd;rw [zaD s i h,(zdW _ _ _ _ _ yab (zgx s i)).2.2.2.2.2 hb];exact ⟨rfl,rfl⟩
def zqJ (p:Nat × Nat):Nat:=if p.1=65533∧p.2=1 then 0 else p.2
theorem lngp_low {b:Nat} (h:b<128):zqJ (b,1)=1:=by unfold zqJ;rw [yak (by dsimp only;omega)]
theorem lng_eq (h:i<s.size):lng s i =
 if bt s i<128 then 1
 else if 194≤bt s i∧bt s i≤223 then (if inB s (i + 1) 128 191 then 2 else 0)
 else if 224≤bt s i∧bt s i≤239 then (if (if bt s i=224 then inB s (i + 1) 160 191 else if bt s i=237 then inB s (i + 1) 128 159 else inB s (i + 1) 128 191) && inB s (i + 2) 128 191 then 3 else 0)
 else if 240≤bt s i∧bt s i≤244 then (if (if bt s i=240 then inB s (i + 1) 144 191 else if bt s i=244 then inB s (i + 1) 128 143 else inB s (i + 1) 128 191) && inB s (i + 2) 128 191 && inB s (i + 3) 128 191 then 4 else 0)
 else 0:=by
 have x:(i + 1<s.size)=(1<s.size-i):=by apply propext;omega
 have y:(i + 2<s.size)=(2<s.size-i):=by apply propext;omega
 have z:(i + 3<s.size)=(3<s.size-i):=by apply propext;omega
 have hb:=zgx s i;have A:lng s i=zqJ (Utf8.decode s i):=by unfold lng brk rn wd zqJ;simp only [yaP]
 rw [A,zaD s i h];unfold inB;simp only [x,y,z];generalize s.size-i=n;generalize bt s i=b at *
 generalize bt s (i + 1)=f at *
 generalize bt s (i + 2)=u at *
 generalize bt s (i + 3)=B at *
 clear h x y z A;unfold dec;by_cases g:b<128
 · rw [yan g,yan g,lngp_low g]
 rw [yak g,yak g];by_cases j:194≤b∧b≤223
 · rw [yan j];by_cases d:1<n∧128≤f∧f≤191
   · rw [yan ⟨j.1,j.2,d⟩,yaB d];simp [zqJ]
   · rw [yak (fun k=>d k.2.2),yak yab,yak yab,yaF d];simp [zqJ]
 rw [yak j,yak (fun k=>j ⟨k.1,k.2.1⟩)];by_cases m:224≤b∧b≤239
 · rw [yan m];by_cases d:2<n∧128≤f∧f≤191∧(b=224→160≤f)∧(b=237→f≤159)∧128≤u∧u≤191
   · rw [yan ⟨m.1,m.2,d⟩,yan]
     · simp [zqJ]
     simp only [ybc,yaP];refine ⟨?_,by omega⟩;repeat' split
     all_goals (simp only [yaP];omega)
   · rw [yak (fun k=>d k.2.2),yak yab,yak]
     · simp [zqJ]
     simp only [ybc,yaP];intro k;obtain ⟨o,C⟩:=k;repeat' split at o
     all_goals (simp only [yaP] at o;omega)
 rw [yak m,yak (fun k=>m ⟨k.1,k.2.1⟩)];by_cases q:240≤b∧b≤244
 · rw [yan q];by_cases d:3<n∧128≤f∧f≤191∧(b=240→144≤f)∧(b=244→f≤143)∧128≤u∧u≤191∧128≤B∧B≤191
   · rw [yan ⟨q.1,q.2,d⟩,yan]
     · simp [zqJ]
     simp only [ybc,yaP];refine ⟨⟨?_,by omega⟩,by omega⟩;repeat' split
     all_goals (simp only [yaP];omega)
   · rw [yak (fun k=>d k.2.2),yak]
     · simp [zqJ]
     simp only [ybc,yaP];intro k;obtain ⟨⟨o,C⟩,D⟩:=k;repeat' split at o
     all_goals (simp only [yaP] at o;omega)
 rw [yak q,yak (fun k=>q ⟨k.1,k.2.1⟩)];simp [zqJ]
theorem brk_eq (h:i<s.size):brk s i=(decide (rn s i=65533) && !decide (i + 3≤s.size∧bt s i=239∧bt s (i + 1)=191∧bt s (i + 2)=189)):=by
 have b:(i + 3≤s.size)=(2<s.size-i):=by apply propext;omega
 unfold brk rn wd;simp only [zaD s i h,b];generalize s.size-i=n;generalize bt s i=f at *
 generalize bt s (i + 1)=g at *
 generalize bt s (i + 2)=j at *
 generalize bt s (i + 3)=k at *
 rw [ya9];simp only [ybc,ycY,yaP,yby];unfold dec;repeat' split
 all_goals (dsimp only;omega)
def least (p:Nat→Bool):Nat→Nat→Nat
 | 0,k=>k
 | f + 1,k=>if p k then k else least p f (k + 1)
theorem zdg (p:Nat→Bool):∀f k,(∃j,k≤j∧j≤k + f∧p j=true)→p (least p f k)=true∧k≤least p f k∧∀j,k≤j→j<least p f k→p j=false
 | 0,k,⟨j,o,q,g⟩=>by
  have:j=k:=by omega
  subst this;exact ⟨g,yaj _,fun i a b=>by unfold least at b;omega⟩
 | f + 1,k,⟨j,o,q,g⟩=>by
  unfold least;by_cases hk:p k=true
  · rw [yan hk];exact ⟨hk,yaj _,fun i a b=>by omega⟩
  · rw [yak hk];have s:j≠k:=fun e=>hk (e ▸ g);obtain ⟨a,b,c⟩:=zdg p f (k + 1) ⟨j,by omega,by omega,g⟩;refine ⟨a,by omega,fun i u m=>?_⟩;by_cases n:i=k
    · subst n;simpa using hk
    · exact c i yab m
theorem least_eq {p:Nat→Bool} {f:Nat} (hk:p k=true) (hlt:∀j,j<k→p j=false) (hf:k≤f):least p f 0=k:=by
 obtain ⟨a,b,c⟩:=zdg p f 0 ⟨k,yao _,by omega,hk⟩;rcases ycW (least p f 0) k with h | h | h
 · have:=hlt _ h;rw [a] at this;cases this
 · exact h
 · have:=c k (yao _) h;rw [hk] at this;cases this
def nxt (s:ByteArray) (p:Nat):Nat:=if p<s.size then p + wd s p else p
def plc (s:ByteArray):Nat→Nat
 | 0=>0
 | k + 1=>nxt s (plc s k)
theorem zba (s:ByteArray):∀k,plc s k≤s.size
 | 0=>yao _
 | k + 1=>by
  have ih:=zba s k;show nxt s (plc s k)≤s.size;unfold nxt;split
  · rename_i h;exact wd_le h
  · exact ih
theorem zaK (h:plc s k<s.size):plc s (k + 1)=plc s k + wd s (plc s k):=yan h
theorem zfF (h:¬plc s k<s.size):plc s (k + 1)=plc s k:=yak h
theorem zbl (h:plc s k<s.size):plc s k<plc s (k + 1):=by rw [zaK h];have:=zgu h;omega
theorem zhP (s:ByteArray) (k:Nat):plc s k≤plc s (k + 1):=by
 by_cases h:plc s k<s.size
 · exact ya5 (zbl h)
 · rw [zfF h];exact yaj _
theorem zbi (s:ByteArray) {j:Nat} (h:j≤k):plc s j≤plc s k:=by
 induction k with
 | zero=>
  have:j=0:=by omega
  subst this;exact yaj _
 | succ k ih =>
  by_cases e:j=k + 1
  · subst e;exact yaj _
  · exact yay (ih yab) (zhP s k)
theorem plc_ge:∀{k:Nat},plc s k<s.size→k≤plc s k
 | 0,_=>yao _
 | k + 1,h=>by
  have b:plc s k<s.size:=ybw (zhP s k) h;have:=plc_ge b;have:=zbl b;omega
theorem zjZ (s:ByteArray):plc s s.size=s.size:=by
 have h:=zba s s.size;by_cases e:plc s s.size<s.size
 · have:=plc_ge e;omega
 · omega
def cnt (s:ByteArray):Nat:=least (fun k=>!decide (plc s k<s.size)) s.size 0
theorem zcu (s:ByteArray):plc s (cnt s)=s.size∧∀j,j<cnt s→plc s j<s.size:=by
 obtain ⟨a,_,c⟩:=zdg (fun k=>!decide (plc s k<s.size)) s.size 0 ⟨s.size,yao _,by omega,by simp [zjZ]⟩;refine ⟨?_,fun j b=>?_⟩
 · have:=zba s (cnt s);have f:¬plc s (cnt s)<s.size:=by unfold cnt;simpa only [ycY,yby] using a
   omega
 · have:=c j (yao _) b;simpa using this
theorem za3:k<cnt s↔plc s k<s.size:=by
 refine ⟨(zcu s).2 k,fun h=>?_⟩;rcases ybM k (cnt s) with b | b
 · exact b
 · have:=zbi s b;rw [(zcu s).1] at this;omega
theorem zeV (s:ByteArray):cnt s≤s.size:=by
 rcases ybM s.size (cnt s) with h | h
 · have:=za3.1 h;rw [zjZ] at this;omega
 · exact h
theorem zjY (h:cnt s≤k):plc s k=s.size:=by
 have:=zbi s h;rw [(zcu s).1] at this;have:=zba s k;omega
theorem zfj (h1:¬plc s k<s.size) (h2:∀j,j<k→plc s j<s.size):cnt s=k:=by
 rcases ycW (cnt s) k with h | h | h
 · have:=h2 _ h;rw [(zcu s).1] at this;omega
 · exact h
 · exact absurd (za3.1 h) h1
def zck (s:ByteArray):Bool:=decide (∀k,k<cnt s→brk s (plc s k)=false)
theorem zcL:zck s=true↔∀k,k<cnt s→brk s (plc s k)=false:=by unfold zck;exact ybF
def zbM (r:Nat):Bool:=decide ((97≤r∧r≤122)∨(65≤r∧r≤90)∨(48≤r∧r≤57)∨r=95∨160<r)
def zfy (s:ByteArray) (i:Nat):Bool:=!brk s i && zbM (rn s i)
def nameS (s:ByteArray):Bool:=decide (0<cnt s∧cnt s≤24∧∀k,k<cnt s→zfy s (plc s k)=true)
theorem zby:nameS s=true↔(0<cnt s∧cnt s≤24∧∀k,k<cnt s→zfy s (plc s k)=true):=by unfold nameS;exact ybF
def cutA (s:ByteArray) (n:Nat):ByteArray:=s.extract 0 (plc s n)
def cutB (s:ByteArray) (n:Nat):ByteArray:=s.extract (plc s n) s.size
def zih (c:Nat):Bool:=decide (c=95∨(97≤c∧c≤122)∨(65≤c∧c≤90)∨(48≤c∧c≤57))
theorem zdb (n b0 b1 b2 b3:Nat) :
 (b0<128∧dec n b0 b1 b2 b3=(b0,1)) ∨
 ((194≤b0∧b0≤223∧1<n∧128≤b1∧b1≤191)∧dec n b0 b1 b2 b3=((b0 % 32) * 64 + b1 % 64,2)) ∨
 ((224≤b0∧b0≤239∧2<n∧128≤b1∧b1≤191∧(b0=224→160≤b1)∧(b0=237→b1≤159)∧128≤b2∧b2≤191)∧dec n b0 b1 b2 b3=((b0 % 16) * 4096 + (b1 % 64) * 64 + b2 % 64,3)) ∨
 ((240≤b0∧b0≤244∧3<n∧128≤b1∧b1≤191∧(b0=240→144≤b1)∧(b0=244→b1≤143)∧128≤b2∧b2≤191∧128≤b3∧b3≤191)∧dec n b0 b1 b2 b3=((b0 % 8) * 262144 + (b1 % 64) * 4096 + (b2 % 64) * 64 + b3 % 64,4)) ∨
 (128≤b0∧dec n b0 b1 b2 b3=(65533,1)):=by
 unfold dec;by_cases b:b0<128
 · exact .inl ⟨b,yan b⟩
 rw [yak b];split
 · exact .inr (.inl ⟨‹_›,rfl⟩)
 · split
   · exact .inr (.inr (.inl ⟨‹_›,rfl⟩))
   · split
     · exact .inr (.inr (.inr (.inl ⟨‹_›,rfl⟩)))
     · exact .inr (.inr (.inr (.inr ⟨by omega,rfl⟩)))
theorem mayB_eq (h:i<s.size):zfy s i=if lng s i=1 then zih (bt s i) else decide (1<lng s i) && (!decide (bt s i=194) || decide (160<bt s (i + 1))):=by
 unfold zfy lng brk rn wd;rw [zaD s i h];rcases zdb (s.size-i) (bt s i) (bt s (i + 1)) (bt s (i + 2)) (bt s (i + 3)) with ⟨c,e⟩ | ⟨c,e⟩ | ⟨c,e⟩ | ⟨c,e⟩ | ⟨c,e⟩
 · have hb:decide (bt s i=65533∧1=1)=false:=by simp;omega
   rw [e];dsimp only;rw [hb];unfold zbM zih;rw [ya9];simp;omega
 · have hb:decide (bt s i % 32 * 64 + bt s (i + 1) % 64=65533∧2=1)=false:=by simp
   rw [e];dsimp only;rw [hb];unfold zbM;rw [ya9];simp;omega
 · have hb:decide (bt s i % 16 * 4096 + bt s (i + 1) % 64 * 64 + bt s (i + 2) % 64=65533∧3=1)=false:=by simp
   rw [e];dsimp only;rw [hb];unfold zbM;rw [ya9];simp;omega
 · have hb:decide (bt s i % 8 * 262144 + bt s (i + 1) % 64 * 4096 + bt s (i + 2) % 64 * 64 + bt s (i + 3) % 64=65533∧4=1)=false:=by simp
   rw [e];dsimp only;rw [hb];unfold zbM;rw [ya9];simp;omega
 · rw [e];simp
theorem bt_list (s:ByteArray) (i:Nat) (h:i<s.size):s.data.toList[i]? = some (UInt8.ofNat (bt s i)):=by
 rw [zig s i h];have:i<s.data.toList.length:=by simpa using h
 rw [yal this];simp;rfl
theorem zcX {a b:ByteArray} (h:a.size=b.size) (he:∀k,k<a.size→bt a k=bt b k):a=b:=by
 refine ByteArray.ext_getElem h fun i f g=>?_;have:=he i f;rw [zig a i f,zig b i g] at this;exact UInt8.toNat_inj.1 this
theorem zaF (s:ByteArray) (a b:Nat):(s.extract a b).size=min b s.size-a:=by simp
theorem zbo (s:ByteArray) (a b k:Nat) (h:a + k<min b s.size):bt (s.extract a b) k=bt s (a + k):=by
 have f:k<(s.extract a b).size:=by rw [zaF];omega
 have g:a + k<s.size:=by omega
 rw [zig _ k f,zig s _ g];simp [ByteArray.getElem_extract]
theorem size_app (a b:ByteArray):(a ++ b).size=a.size + b.size:=by simp
theorem zaT (a b:ByteArray) (k:Nat) (h:k<a.size):bt (a ++ b) k=bt a k:=by
 rw [zig _ k (by rw [size_app];omega),zig a k h,ByteArray.getElem_append_left h]
theorem za2 (a b:ByteArray) (k:Nat) (h:k<b.size):bt (a ++ b) (a.size + k)=bt b k:=by
 rw [zig _ _ (by rw [size_app];omega),zig b k h,ByteArray.getElem_append_right (by omega)];simp
theorem zju (s:ByteArray):s.extract 0 s.size=s:=zcX (by rw [zaF];omega) fun k hk=>by rw [zaF] at hk;rw [zbo _ _ _ _ yab,yaI]
theorem app_right (a b:ByteArray):(a ++ b).extract a.size (a ++ b).size=b:=by
 refine zcX (by rw [zaF,size_app];omega) fun k hk=>?_;rw [zaF,size_app] at hk;rw [zbo _ _ _ _ (by rw [size_app];omega),za2 _ _ _ (by omega)]
theorem toList_inj {a b:ByteArray}:(a.toList == b.toList)=decide (a=b):=by
 rw [ya9];simp only [ybY,yaP];constructor
 · intro h;rw [ByteArray.toList_eq,ByteArray.toList_eq] at h;exact ByteArray.ext (ycK.1 h)
 · intro h;rw [h]
theorem zeY {a b:ByteArray} (h:a=b):(a.toList == b.toList)=true:=by subst h;simp
theorem zh7 {a b:ByteArray} (h:¬a=b):(a.toList == b.toList)=false:=by rw [toList_inj];exact yaF h
theorem list_ne (h:0<s.size):(!s.toList.isEmpty)=true:=by
 rw [ByteArray.toList_eq];have b:0<s.data.toList.length:=by simpa using h
 revert b
 cases s.data.toList with
 | nil=>intro b;exact absurd b (ybe _)
 | cons a r=>intro _;rfl
theorem zjM (h:0<s.size):s.toList.isEmpty=false:=by have:=list_ne h;simpa using this
def sBad:ByteArray:=⟨#[239,191,189]⟩
theorem zls:sBad.size=3:=rfl
theorem pre_bad (h:i<s.size):decide (sBad.size≤(s.extract i s.size).size∧(s.extract i s.size).extract 0 sBad.size=sBad)=decide (i + 3≤s.size∧bt s i=239∧bt s (i + 1)=191∧bt s (i + 2)=189):=by
 rw [ya9];simp only [yaP,zls,zaF];have b:∀k,k<min 3 (s.size-i)→bt ((s.extract i s.size).extract 0 3) k=bt s (i + k):=fun k hk=>by
  rw [zbo _ _ _ _ (by rw [zaF];omega),zbo _ _ _ _ yab,yaI]
 constructor
 · rintro ⟨g,f⟩;refine ⟨by omega,?_,?_,?_⟩
   · have:=b 0 yab;rw [f] at this;exact this.symm
   · have:=b 1 yab;rw [f] at this;exact this.symm
   · have:=b 2 yab;rw [f] at this;exact this.symm
 · rintro ⟨g,f,j,m⟩;refine ⟨by omega,zcX (by rw [zaF,zaF,zls];omega) fun k hk=>?_⟩;rw [zaF,zaF] at hk;rw [b k (by omega)];obtain rfl | rfl | rfl:k=0∨k=1∨k=2:=by omega
   · rw [ybH,f];rfl
   · rw [j];rfl
   · rw [m];rfl
theorem zkv {b0 b1 b2 b3 c1 c2 c3:Nat} (h1:1<n→b1=c1) (h2:2<n→b2=c2) (h3:3<n→b3=c3):dec n b0 b1 b2 b3=dec n b0 c1 c2 c3:=by
 by_cases j:1<n
 · rw [h1 j];by_cases g:2<n
   · rw [h2 g];by_cases b:3<n
     · rw [h3 b]
     · have e:∀x y,dec n b0 c1 c2 x=dec n b0 c1 c2 y:=fun x y=>by
        unfold dec;simp only [b,false_and,and_false,if_false]
       exact e _ _
   · have b:¬3<n:=by omega
     have e:∀x y f y',dec n b0 c1 x y=dec n b0 c1 f y':=fun x y f y'=>by
      unfold dec;simp only [g,b,false_and,and_false,if_false]
     exact e _ _ _ _
 · have g:¬2<n:=by omega
   have b:¬3<n:=by omega
   have e:∀z x y k f y',dec n b0 z x y=dec n b0 k f y':=fun z x y k f y'=>by
    unfold dec;simp only [j,g,b,false_and,and_false,if_false]
   exact e _ _ _ _ _ _
theorem dec_pre (n m b0 b1 b2 b3:Nat) (hn:n≤m):dec n b0 b1 b2 b3=dec m b0 b1 b2 b3∨(dec n b0 b1 b2 b3=(65533,1)∧n<(dec m b0 b1 b2 b3).2):=by
 rcases zdb m b0 b1 b2 b3 with ⟨c,e⟩ | ⟨c,e⟩ | ⟨c,e⟩ | ⟨c,e⟩ | ⟨c,e⟩
 · left;rw [e];unfold dec;rw [yan c]
 · by_cases h:1<n
   · left;rw [e];unfold dec;rw [yak yab,yan (by omega)]
   · right;rw [e];unfold dec;rw [yak yab,yak yab,yak yab,yak (by omega)];exact ⟨rfl,by dsimp only;omega⟩
 · by_cases h:2<n
   · left;rw [e];unfold dec;rw [yak yab,yak yab,yan (by omega)]
   · right;rw [e];unfold dec;rw [yak yab,yak yab,yak yab,yak (by omega)];exact ⟨rfl,by dsimp only;omega⟩
 · by_cases h:3<n
   · left;rw [e];unfold dec;rw [yak yab,yak yab,yak yab,yan (by omega)]
   · right;rw [e];unfold dec;rw [yak yab,yak yab,yak yab,yak (by omega)];exact ⟨rfl,by dsimp only;omega⟩
 · left;rcases zdb n b0 b1 b2 b3 with ⟨f,b⟩ | ⟨f,b⟩ | ⟨f,b⟩ | ⟨f,b⟩ | ⟨f,b⟩
   · omega
   · exfalso;revert e;unfold dec;rw [yak yab,yan (by omega)];simp
   · exfalso;revert e;unfold dec;rw [yak yab,yak yab,yan (by omega)];simp
   · exfalso;revert e;unfold dec;rw [yak yab,yak yab,yak yab,yan (by omega)];simp
   · rw [b,e]
theorem zfY {p:Nat} (hz:p + t.size=s.size) (hb:∀j,j<t.size→bt t j=bt s (p + j)) (hi:i<t.size):Utf8.decode t i=Utf8.decode s (p + i):=by
 rw [zaD t i hi,zaD s (p + i) yab,hb i hi,show s.size-(p + i)=t.size-i from by omega];refine zkv (fun h=>?_) (fun h=>?_) (fun h=>?_)
 · rw [hb _ yab,ya7]
 · rw [hb _ yab,ya7]
 · rw [hb _ yab,ya7]
theorem ziL (hz:t.size≤s.size) (hb:∀j,j<t.size→bt t j=bt s j) (hi:i<t.size) :
 Utf8.decode t i=Utf8.decode s i∨(Utf8.decode t i=(65533,1)∧t.size<i + wd s i):=by
 have b:Utf8.decode t i=dec (t.size-i) (bt s i) (bt s (i + 1)) (bt s (i + 2)) (bt s (i + 3)):=by
  rw [zaD t i hi,hb i hi];exact zkv (fun h=>hb _ yab) (fun h=>hb _ yab) (fun h=>hb _ yab)
 have f:Utf8.decode s i=dec (s.size-i) (bt s i) (bt s (i + 1)) (bt s (i + 2)) (bt s (i + 3)):=zaD s i yab;unfold wd;rw [b,f];rcases dec_pre (t.size-i) (s.size-i) (bt s i) (bt s (i + 1)) (bt s (i + 2)) (bt s (i + 3)) yab with h | ⟨h,g⟩
 · exact .inl h
 · exact .inr ⟨h,by omega⟩
theorem zmx (ht:t.size=plc s k) (hb:∀j,j<t.size→bt t j=bt s j):∀j,j≤k→plc t j=plc s j
 | 0,_=>rfl
 | j + 1,b=>by
  have ih:=zmx ht hb j yab;have m:=zba s k;by_cases h:plc t j<t.size
  · have f:plc s j<s.size:=by omega
    rw [zaK h,zaK f,ih];have g:plc s (j + 1)≤plc s k:=zbi s b;rw [zaK f] at g;rcases ziL (s:=s) (t:=t) (i:=plc s j) yab hb yab with e | ⟨_,e⟩
    · unfold wd;rw [e]
    · omega
  · have o:=zba t j;have g:plc s (j + 1)≤plc s k:=zbi s b;have n:=zhP s j;rw [zfF h];omega
theorem zgn {j:Nat} (ht:t.size=plc s k) (hb:∀j,j<t.size→bt t j=bt s j) (hj:plc s j<plc s k):Utf8.decode t (plc s j)=Utf8.decode s (plc s j):=by
 have f:=zba s k;have g:plc s j<s.size:=by omega
 have b:j + 1≤k:=by
  rcases ybM j k with h | h
  · omega
  · have:=zbi s h;omega
 have m:plc s (j + 1)≤plc s k:=zbi s b;rw [zaK g] at m;rcases ziL (s:=s) (t:=t) (i:=plc s j) yab hb yab with e | ⟨_,e⟩
 · exact e
 · omega
theorem cnt_pre (ht:t.size=plc s k) (hb:∀j,j<t.size→bt t j=bt s j):cnt t=min k (cnt s):=by
 have b:=zmx ht hb;refine zfj ?_ fun j g=>?_
 · rw [b _ (Nat.min_le_left _ _),ht];rcases ybM k (cnt s) with h | h
   · rw [ybT (ya5 h)];omega
   · rw [Nat.min_eq_right h,zjY h,(zcu s).1];omega
 · rw [b _ yab,ht];have f:=(zcu s).2 j yab;have m:=zbl f;have n:=zbi s (show j + 1≤k by omega);omega
theorem zmy (hz:plc s k + t.size=s.size) (hb:∀j,j<t.size→bt t j=bt s (plc s k + j)):∀j,plc s k + plc t j=plc s (k + j)
 | 0=>rfl
 | j + 1=>by
  have ih:=zmy hz hb j;by_cases h:plc t j<t.size
  · have b:plc s (k + j)<s.size:=by omega
    rw [←ya7,zaK h,zaK b,←ih];unfold wd;rw [zfY hz hb h];omega
  · rw [←ya7,zfF h,zfF yab,ih]
theorem cnt_suf (hz:plc s k + t.size=s.size) (hb:∀j,j<t.size→bt t j=bt s (plc s k + j)):cnt t=cnt s-k:=by
 have b:=zmy hz hb;refine zfj ?_ fun j f=>?_
 · have h:=b (cnt s-k);rw [zjY (s:=s) (k:=k + (cnt s-k)) (by omega)] at h;omega
 · have h:=b j;have:=za3.1 (show k + j<cnt s by omega);omega
theorem za7 (s:ByteArray) (n:Nat):(cutA s n).size=plc s n:=by unfold cutA;rw [zaF];have:=zba s n;omega
theorem zfX (s:ByteArray) (n:Nat):∀j,j<(cutA s n).size→bt (cutA s n) j=bt s j:=fun j b=>by
 rw [za7] at b;have:=zba s n;unfold cutA;rw [zbo _ _ _ _ yab,yaI]
theorem zaM (s:ByteArray) (n:Nat):plc s n + (cutB s n).size=s.size:=by unfold cutB;rw [zaF];have:=zba s n;omega
theorem zds (s:ByteArray) (n:Nat):∀j,j<(cutB s n).size→bt (cutB s n) j=bt s (plc s n + j):=fun j b=>by
 have:=zaM s n;unfold cutB;rw [zbo _ _ _ _ (by omega)]
theorem zjo (s:ByteArray) (n:Nat):cnt (cutA s n)=min n (cnt s):=cnt_pre (za7 s n) (zfX s n)
theorem zm0 (s:ByteArray) (n:Nat):cnt (cutB s n)=cnt s-n:=cnt_suf (zaM s n) (zds s n)
theorem zeA (s:ByteArray) (n j:Nat):plc s n + plc (cutB s n) j=plc s (n + j):=zmy (zaM s n) (zds s n) j
theorem zpS (s:ByteArray) (n m:Nat):cutB (cutB s n) m=cutB s (n + m):=by
 have b:=zeA s n m;have f:=zaM s n;have g:=zaM (cutB s n) m;have j:=zaM s (n + m);refine zcX yab fun k hk=>?_;rw [zds _ _ k hk,zds _ _ _ yab,zds _ _ k (by omega)];congr 1
 omega
theorem zku (s:ByteArray):cutB s 0=s:=by unfold cutB;exact zju s
theorem zpR (s:ByteArray):cutA s 0=⟨#[]⟩:=zcX (by rw [za7];rfl) fun k hk=>by rw [za7] at hk;exact absurd hk (ybe _)
section
variable {a b:ByteArray}
end
def zcB (n:Nat):ByteArray:=⟨#[UInt8.ofNat n]⟩
theorem zbm (n:Nat):(zcB n).size=1:=rfl
theorem zh1 (h:n<256):bt (zcB n) 0=n:=by
 show (UInt8.ofNat n).toNat=n;simp;omega
theorem zlS (h:0<s.size):0<cnt s:=za3.2 h
theorem sOne_cnt (n:Nat):cnt (zcB n)=1:=by
 have f:=zlS (s:=zcB n) (by rw [zbm];omega);have b:=zeV (zcB n);rw [zbm] at b;omega
theorem zmk (h:i<s.size) (hb:bt s i<128):zfy s i=zih (bt s i):=by
 have b:lng s i=1:=by rw [lng_eq h,yan hb]
 rw [mayB_eq h,yan b]
theorem zqR (h:n<256):zfy (zcB n) 0=zih n:=by
 by_cases b:n<128
 · rw [zmk (by rw [zbm];omega) (by rw [zh1 h];exact b),zh1 h]
 · have f:0<(zcB n).size:=by rw [zbm];omega
   have e:Utf8.decode (zcB n) 0=(65533,1):=by
    rw [zaD _ 0 f,zh1 h,zbm];rcases zdb (1-0) n (bt (zcB n) (0 + 1)) (bt (zcB n) (0 + 2)) (bt (zcB n) (0 + 3)) with ⟨c,e⟩ | ⟨c,e⟩ | ⟨c,e⟩ | ⟨c,e⟩ | ⟨c,e⟩
    · omega
    · omega
    · omega
    · omega
    · exact e
   have hb:brk (zcB n) 0=true:=by unfold brk rn wd;rw [e];rfl
   unfold zfy;rw [hb];symm
   unfold zih;simp;omega
theorem name_one (h:n<256):nameS (zcB n)=zih n:=by
 rw [ya9,zby,sOne_cnt];constructor
 · rintro ⟨_,_,b⟩;have:=b 0 yab;rw [←zqR h];exact this
 · intro hb;refine ⟨by omega,by omega,fun k hk=>?_⟩;obtain rfl:k=0:=by omega
   show zfy (zcB n) 0=true;rw [zqR h];exact hb
theorem zmG:∀m,k<plc s m→∃j,plc s j≤k∧k<plc s (j + 1)
 | 0,h=>absurd h (ybe _)
 | m + 1,h=>by
  by_cases b:k<plc s m
  · exact zmG m b
  · exact ⟨m,by omega,h⟩
theorem ziU {p:Nat} (hp:p<s.size) (h1:p<k) (h2:k<p + wd s p):128≤bt s k∧bt s k≤191:=by
 unfold wd at h2;rw [zaD s p hp] at h2;rcases zdb (s.size-p) (bt s p) (bt s (p + 1)) (bt s (p + 2)) (bt s (p + 3)) with ⟨c,e⟩ | ⟨c,e⟩ | ⟨c,e⟩ | ⟨c,e⟩ | ⟨c,e⟩
 · rw [e] at h2;dsimp only at h2;omega
 · rw [e] at h2;dsimp only at h2;obtain rfl:k=p + 1:=by omega
   omega
 · rw [e] at h2;dsimp only at h2;obtain rfl | rfl:k=p + 1∨k=p + 2:=by omega
   · omega
   · omega
 · rw [e] at h2;dsimp only at h2;obtain rfl | rfl | rfl:k=p + 1∨k=p + 2∨k=p + 3:=by omega
   · omega
   · omega
   · omega
 · rw [e] at h2;dsimp only at h2;omega
theorem zjO (h:s.size=0):s=⟨#[]⟩:=zcX h fun k hk=>by omega
def sNl:ByteArray:=⟨#[10]⟩
end
section
variable {c:Nat} {s a:ByteArray}
def NoB (c:Nat) (s:ByteArray):Prop:=∀k,k<s.size→bt s k≠c
theorem NoB.nil (c:Nat):NoB c ⟨#[]⟩:=fun _ hk=>absurd hk (ybe _)
theorem NoB.name (h:nameS s=true) (hc:c<128) (hb:zih c=false):NoB c s:=fun k hk g=>by
 obtain ⟨_,_,m⟩:=zby.1 h;obtain ⟨j,n,f⟩:=zmG (cnt s) (by rw [(zcu s).1];exact hk);have b:plc s j<s.size:=by omega
 rw [zaK b] at f;rcases Nat.eq_or_lt_of_le n with e | e
 · have:=m j (za3.2 b);rw [e,zmk hk yab,g,hb] at this;cases this
 · have:=ziU b e f;omega
def zeR (s:ByteArray) (c:Nat):Nat:=least (fun k=>decide (bt s k=c) || decide (s.size≤k)) s.size 0
theorem zhn (s:ByteArray) (c:Nat):zeR s c≤s.size∧(zeR s c<s.size→bt s (zeR s c)=c)∧∀j,j<zeR s c→bt s j≠c:=by
 obtain ⟨g,_,f⟩:=zdg (fun k=>decide (bt s k=c) || decide (s.size≤k)) s.size 0 ⟨s.size,by omega,by omega,by simp⟩;have b:zeR s c≤s.size:=by
  rcases ybM s.size (zeR s c) with h | h
  · have:=f s.size yab h;simp at this
  · exact h
 refine ⟨b,fun h=>?_,fun j m n=>?_⟩
 · have:(decide (bt s (zeR s c)=c) || decide (s.size≤zeR s c))=true:=g;rw [yaF (show ¬s.size≤zeR s c by omega),Bool.or_false] at this;exact yaL this
 · have:=f j yab m;simp [n] at this
theorem zjw {k:Nat} (h:bt s k=c∨k=s.size) (hk:k≤s.size) (hn:∀j,j<k→bt s j≠c):zeR s c=k :=
 least_eq (by rcases h with h | h <;> simp [h]) (fun j b=>by
  have:=hn j b;simp [this];omega) hk
def zeQ (s:ByteArray) (c:Nat):ByteArray × ByteArray:=(s.extract 0 (zeR s c),s.extract (zeR s c + 1) s.size)
theorem zpU (s:ByteArray) (c:Nat):(zeQ s c).1.size=zeR s c:=by
 have:=(zhn s c).1;unfold zeQ;rw [zaF];omega
theorem zom (s:ByteArray) (c:Nat):(zeQ s c).2.size≤s.size:=by
 unfold zeQ;rw [zaF];omega
theorem zm4 (h:¬zeR s c<s.size):zeQ s c=(s,⟨#[]⟩):=by
 have b:zeR s c=s.size:=by have:=(zhn s c).1;omega
 unfold zeQ;rw [b,zju];congr 1
 exact zjO (by rw [zaF];omega)
theorem fstC_hit {b:ByteArray} (hc:c<256) (h:NoB c a):zeR (a ++ zcB c ++ b) c=a.size:=by
 refine zjw (.inl ?_) (by rw [size_app,size_app];omega) fun j f=>?_
 · rw [zaT _ _ _ (by rw [size_app,zbm];omega)];have:=za2 a (zcB c) 0 (by rw [zbm];omega);rw [ybH] at this;rw [this,zh1 hc]
 · rw [zaT _ _ _ (by rw [size_app];omega),zaT _ _ _ f];exact h j f
theorem zkH (h:NoB c a):zeR a c=a.size:=zjw (.inr rfl) (yaj _) h
theorem cutC_hit {b:ByteArray} (hc:c<256) (h:NoB c a):zeQ (a ++ zcB c ++ b) c=(a,b):=by
 unfold zeQ;rw [fstC_hit hc h];congr 1
 · refine zcX (by rw [zaF,size_app,size_app];omega) fun k hk=>?_;rw [zaF] at hk;rw [zbo _ _ _ _ yab,yaI,zaT _ _ _ (by rw [size_app];omega),zaT _ _ _ (by omega)]
 · have:=app_right (a ++ zcB c) b;rw [size_app a,zbm] at this;exact this
theorem zpT (h:NoB c a):zeQ a c=(a,⟨#[]⟩):=zm4 (by rw [zkH h];omega)
abbrev NdP:=ByteArray × ByteArray × ByteArray
def zpu (n:NdP):Bool:=nameS n.1 && nameS n.2.1 && (decide (n.2.2=⟨#[]⟩) || nameS n.2.2)
theorem fmdN_iff {n:NdP}:zpu n=true↔nameS n.1=true∧nameS n.2.1=true∧(n.2.2=⟨#[]⟩∨nameS n.2.2=true):=by
 unfold zpu;rw [ybc,ybc,ycE,ybF,and_assoc]
theorem zp7 {n:NdP} (h:zpu n=true) (hc:c<128) (hb:zih c=false):NoB c n.1∧NoB c n.2.1∧NoB c n.2.2:=by
 obtain ⟨f,g,b⟩:=fmdN_iff.1 h;refine ⟨.name f hc hb,.name g hc hb,?_⟩;rcases b with b | b
 · rw [b];exact .nil c
 · exact .name b hc hb
def cutN (s:ByteArray):NdP:=((zeQ (zeQ s 35).1 58).1,(zeQ (zeQ s 35).1 58).2,(zeQ s 35).2)
abbrev TuP:=NdP × NdP
def zl5 (t:TuP):Bool:=!decide (t.1.2.2=⟨#[]⟩) && zpu t.1 && zpu t.2
theorem fmdT_iff {t:TuP}:zl5 t=true↔t.1.2.2≠⟨#[]⟩∧zpu t.1=true∧zpu t.2=true:=by
 unfold zl5;rw [ybc,ybc,ycY,yby,and_assoc]
def zav (t:TuP):List ByteArray:=[t.1.1,t.1.2.1,t.1.2.2,t.2.1,t.2.2.1,t.2.2.2]
def keyL:List ByteArray→ByteArray
 | []=>⟨#[]⟩
 | [x]=>x
 | x::y::r=>x ++ zcB 0 ++ keyL (y::r)
def za4 (t:TuP):ByteArray:=keyL (zav t)
def cutL:Nat→ByteArray→List ByteArray
 | 0,_=>[]
 | n + 1,s=>(zeQ s 0).1::cutL n (zeQ s 0).2
def tupL (l:List ByteArray):TuP:=((l.getD 0 ⟨#[]⟩,l.getD 1 ⟨#[]⟩,l.getD 2 ⟨#[]⟩),(l.getD 3 ⟨#[]⟩,l.getD 4 ⟨#[]⟩,l.getD 5 ⟨#[]⟩))
theorem zpn (t:TuP):tupL (zav t)=t:=rfl
def zdP (s:ByteArray):Option TuP:=if zl5 (tupL (cutL 6 s))=true∧za4 (tupL (cutL 6 s))=s then some (tupL (cutL 6 s)) else none
theorem fmdT_no {t:TuP} (h:zl5 t=true):∀x ∈ zav t,NoB 0 x:=by
 obtain ⟨_,f,g⟩:=fmdT_iff.1 h;obtain ⟨j,k,a3⟩:=zp7 f (c:=0) yab yac;obtain ⟨m,n,o⟩:=zp7 g (c:=0) yab yac;intro x b;simp only [zav,yaw,ya1,ybA] at b;rcases b with rfl | rfl | rfl | rfl | rfl | rfl <;> assumption
theorem zpV:∀l:List ByteArray,(∀x ∈ l,NoB 0 x)→cutL l.length (keyL l)=l
 | [],_=>rfl
 | [x],h=>by
  show (zeQ x 0).1::[]=[x];rw [zpT (h x (yar ..))]
 | x::y::r,h=>by
  show (zeQ (x ++ zcB 0 ++ keyL (y::r)) 0).1::cutL (y::r).length (zeQ (x ++ zcB 0 ++ keyL (y::r)) 0).2=_;rw [cutC_hit yab (h x (yar ..))];dsimp only;rw [zpV (y::r) fun z b=>h z (yau _ b)]
theorem from_key {t:TuP} (h:zl5 t=true):zdP (za4 t)=some t:=by
 have b:cutL 6 (za4 t)=zav t:=zpV (zav t) (fmdT_no h);unfold zdP;rw [b,zpn,yan ⟨h,rfl⟩]
theorem from_some {t:TuP} (h:zdP s=some t):zl5 t=true∧za4 t=s:=by
 unfold zdP at h;split at h
 · rename_i b
   cases h;exact b
 · cases h
def zgb:Nat→ByteArray→ByteArray
 | 0,s=>s
 | n + 1,s=>zgb n (zeQ s 0).2
end
section
open Go.Shelf Go.RowKit
def zmg:Go.Shelf.Ren:=⟨fun | 217=>264 | 266=>281 | n=>n,fun | 3=>3 | 5=>5 | 9=>9 | n=>n,fun | n=>n⟩
theorem lays217:Go.Proofs.Lays.n217 Tryz.prog zmg:={
 mixed:=by kernel_rfl
 f217:=Tryz.func264.trans (congrArg some yaa)
 f266:=Tryz.func281.trans (congrArg some yaa)
 t3:=Tryz.underlying3
 a3:=Tryz.isAgg3
 z3:=Tryz.sizeOf3
 v3:=Tryz.zeroValue3
 t5:=Tryz.underlying5
 a5:=Tryz.isAgg5
 z5:=Tryz.sizeOf5
 v5:=Tryz.zeroValue5
 t9:=Tryz.underlying9
 a9:=Tryz.isAgg9
 z9:=Tryz.sizeOf9
 v9:=Tryz.zeroValue9 }
theorem ixb (c:UInt8):∀l:List UInt8,(Lib.indexByte l c = -1∧∀j:Nat,l[j]?≠some c)∨∃i:Nat,Lib.indexByte l c=i∧l[i]? = some c∧∀j,j<i→l[j]?≠some c
 | []=>.inl ⟨rfl,fun j=>by simp⟩
 | b::l=>by
  show (if (b == c)=true then (0:Int) else if (Lib.indexByte l c == -1)=true then -1 else Lib.indexByte l c + 1) = -1∧_∨∃i:Nat,(if (b == c)=true then (0:Int) else if (Lib.indexByte l c == -1)=true then -1 else Lib.indexByte l c + 1)=i∧_;by_cases hb:b=c
  · subst hb;exact .inr ⟨0,by simp,by simp,fun j n=>absurd n (ybe _)⟩
  · have o:(b == c)=false:=ybh.2 hb;have m:∀j,(∀k,k<j→l[k]?≠some c)→∀k,k<j + 1→(b::l)[k]?≠some c:=fun j h k hk=>by
     cases k with
     | zero=>simpa using hb
     | succ k=>rw [ybj];exact h k yab
    rw [o];rcases ixb c l with ⟨f,g⟩ | ⟨i,f,g,q⟩
    · rw [f];refine .inl ⟨by simp,fun j=>m j (fun k _=>g k) j (ycv _)⟩
    · rw [f];refine .inr ⟨i + 1,?_,by rw [ybj];exact g,m i q⟩;rw [show ((i:Int) == -1)=false from ybh.2 (by omega)];simp
theorem bt_is {s:ByteArray} {c:UInt8} {k:Nat} (h:k<s.size):s.data.toList[k]? = some c↔bt s k=c.toNat:=by
 rw [bt_list s k h];have:=zgx s k;constructor
 · intro e;have:=congrArg UInt8.toNat (yaZ e);simp at this;omega
 · intro e;rw [e];simp
theorem ix_fst (s:ByteArray) (c:UInt8):Lib.indexByte s.data.toList c=if zeR s c.toNat<s.size then (zeR s c.toNat:Int) else -1:=by
 rcases ixb c s.data.toList with ⟨f,b⟩ | ⟨i,f,b,n⟩
 · have:zeR s c.toNat=s.size:=zkH fun k hk g=>b k ((bt_is hk).2 g);rw [f,this,yak (Nat.lt_irrefl _)]
 · have hi:i<s.size:=by
    have:=(yap.1 b).1;simpa using this
   have:zeR s c.toNat=i:=zjw (.inl ((bt_is hi).1 b)) (ya5 hi) fun j m g=>n j m ((bt_is (ych m hi)).2 g);rw [f,this,yan hi]
theorem idx1_any (s:ByteArray) (c:UInt8) (w:World):Calls Tryz.prog 233 #[.string s,.string ⟨#[c]⟩] w fun e w'=>e = .returned (.int .i64 (if zeR s c.toNat<s.size then (zeR s c.toNat:Int) else -1))∧w'=w:=by
 have k:=fun W=>Any.stringslite_IndexByte lays217 s (c.toNat:Int) W;rw [show (c.toNat:Int).toNat.toUInt8=c from by simp,ix_fst] at k;by_cases b:(⟨#[c]⟩:ByteArray)=s
 · have d:([c] == s.toList)=true:=by have h:=zeY b;rwa [ByteArray.toList_eq ⟨#[c]⟩] at h
   have f:zeR s c.toNat=0:=zjw (.inl (by rw [←b];rfl)) (yao _) fun j g=>absurd g (ybe _);have m:0<s.size:=by rw [←b];exact Nat.one_pos
   rw [f,yan m];clear b k;go_enter Tryz.func233,Tryz.ntmps233
   go_wp2_with fail
   go_ret
   exact ⟨rfl,rfl⟩
 · have d:([c] == s.toList)=false:=by have h:=zh7 b;rwa [ByteArray.toList_eq ⟨#[c]⟩] at h
   clear b;generalize (if zeR s c.toNat<s.size then (zeR s c.toNat:Int) else -1)=z at k ⊢;go_enter Tryz.func233,Tryz.ntmps233
   go_wp2_with (go_at_call 264;refine (k _).mono ?_;rintro e w' ⟨rfl,rfl⟩)
   go_ret
   exact ⟨rfl,rfl⟩
theorem slcut_any (s:ByteArray) (c:UInt8) (w:World) (hs:s.size≤maxLen):Calls Tryz.prog 186 #[.string s,.string ⟨#[c]⟩] w fun e w'=>e = .returned (.tuple #[.string (zeQ s c.toNat).1,.string (zeQ s c.toNat).2,.bool (decide (zeR s c.toNat<s.size))])∧Below w.heap.size w w':=by
 have k:=fun W=>idx1_any s c W;have b:(s.size:Int)≤9223372036854775807:=by simp only [maxLen] at hs;omega
 by_cases h:zeR s c.toNat<s.size
 · rw [yan h] at k;rw [yaB h];unfold zeQ;generalize zeR s c.toNat=i at *
   have f:(0:Int)≤(i:Int):=by omega
   have g:(i:Int)≤(s.size:Int):=by omega
   have j:(0:Int)≤(i:Int) + 1:=by omega
   have m:(i:Int) + 1≤(s.size:Int):=by omega
   have n:IntKind.i64.wrap ((i:Int) + 1)=(i:Int) + 1:=IntWalk.i64_in _ yab;go_enter Tryz.func186,Tryz.ntmps186
   go_wp2_with (go_at_call 233;refine (k _).mono ?_;rintro e w' ⟨rfl,rfl⟩)
   go_quiet (fail)
   go_wp2_with fail
   go_returns
   exact ⟨rfl,rfl,rfl,rfl,yaj _,fun _ _=>rfl⟩
 · rw [yak h] at k;rw [zm4 h,yaF h];go_enter Tryz.func186,Tryz.ntmps186
   go_wp2_with (go_at_call 233;refine (k _).mono ?_;rintro e w' ⟨rfl,rfl⟩)
   go_returns
   exact ⟨rfl,Below.refl _ _⟩
theorem cut_any12 (s:ByteArray) (c:UInt8) (w:World) (hs:s.size≤maxLen):Calls Tryz.prog 141 #[.string s,.string ⟨#[c]⟩] w fun e w'=>e = .returned (.tuple #[.string (zeQ s c.toNat).1,.string (zeQ s c.toNat).2,.bool (decide (zeR s c.toNat<s.size))])∧Below w.heap.size w w':=by
 have k:=fun W=>slcut_any s c W hs;generalize (zeQ s c.toNat).1=a at *
 generalize (zeQ s c.toNat).2=b at *
 generalize decide (zeR s c.toNat<s.size)=t at *
 go_enter Tryz.func141,Tryz.ntmps141
 go_wp2_with (go_at_call 186;refine (k _).mono ?_;rintro e w' ⟨rfl,hb⟩)
 go_returns
 exact ⟨rfl,hb⟩
theorem cut00 (s:ByteArray) (w:World) (hs:s.size≤maxLen):Calls Tryz.prog 141 #[.string s,.string ⟨#[0]⟩] w fun e w'=>e = .returned (.tuple #[.string (zeQ s 0).1,.string (zeQ s 0).2,.bool (decide (zeR s 0<s.size))])∧Below w.heap.size w w':=cut_any12 s 0 w hs
end
section
open Go.RowKit
theorem za9 {a b:Bool} (h:a=b):Ending.returned (.bool a) = .returned (.bool b):=by rw [h]
def preB (s t:ByteArray):Bool:=decide (t.size≤s.size∧s.extract 0 t.size=t)
def badB (s:ByteArray) (i:Nat):Bool:=decide (i + 3≤s.size∧bt s i=239∧bt s (i + 1)=191∧bt s (i + 2)=189)
theorem pre_any (s t:ByteArray) (w:World) :
 Calls Tryz.prog 270 #[.string s,.string t] w fun e w'=>e = .returned (.bool (preB s t))∧w=w':=by
 by_cases h:t.size≤s.size
 · go_enter Tryz.func270,Tryz.ntmps270
   go_wp2
   go_ret
   exact ⟨za9 (by unfold preB;rw [toList_inj,ya9];simp [h]),rfl⟩
 · go_enter Tryz.func270,Tryz.ntmps270
   go_wp2
   go_ret
   exact ⟨za9 (by unfold preB;simp [h]),rfl⟩
theorem hp_any (s:ByteArray) (i:Nat) (w:World) (h:i<s.size) :
 Calls Tryz.prog 243 #[.string (s.extract i s.size),.string ⟨#[239,191,189]⟩] w fun e w'=>e = .returned (.bool (badB s i))∧w=w':=by
 go_enter Tryz.func243,Tryz.ntmps243
 go_wp2_with ((refine (pre_any _ sBad _).mono ?_);rintro e w' ⟨rfl,rfl⟩)
 go_ret
 exact ⟨za9 (pre_bad h),rfl⟩
theorem inname_any (z:Int) (r:Nat) (w:World) (hz:z=r) :
 Calls Tryz.prog 231 #[.int .i32 z] w fun e w'=>e = .returned (.bool (zbM r))∧w=w':=by
 subst hz;go_enter Tryz.func231,Tryz.ntmps231
 go_wp2
 all_goals go_ret
 all_goals (refine ⟨za9 ?_,rfl⟩;unfold zbM;try simp only [ybY,ybh,ne_eq] at *)
 all_goals first
  | (symm;exact yaB yab)
  | (rw [ya9];simp only [yaP];omega)
theorem broken_any (s:ByteArray) (i:Nat) (z r:Int) (w:World) (hz:z=i) (hr:r=(rn s i:Int)) (h:i<s.size) :
 Calls Tryz.prog 230 #[.string s,.int .i64 z,.int .i32 r] w fun e w'=>e = .returned (.bool (brk s i))∧w=w':=by
 have E:=Lib.hid (brk_eq h);by_cases b:rn s i=65533
 · have g:(r == 65533)=true:=by simp [hr,b]
   subst hz;have j:=Lib.hid hr;have f:=Lib.hid b;clear hr b;go_enter Tryz.func230,Tryz.ntmps230
   go_wp2_with ((refine (hp_any s i _ h).mono ?_);rintro e w' ⟨rfl,rfl⟩)
   go_ret
   exact ⟨za9 (by rw [E.out,f.out];unfold badB;simp),rfl⟩
 · have g:(r == 65533)=false:=by simp [hr];omega
   subst hz;have j:=Lib.hid hr;have f:=Lib.hid b;clear hr b;go_enter Tryz.func230,Tryz.ntmps230
   go_wp2_with ((refine (hp_any s i _ h).mono ?_);rintro e w' ⟨rfl,rfl⟩)
   go_ret
   exact ⟨za9 (by rw [E.out,yaF f.out];rfl),rfl⟩
end
end Go.Proofs.YtmblgnddgmfkhaaGreat
