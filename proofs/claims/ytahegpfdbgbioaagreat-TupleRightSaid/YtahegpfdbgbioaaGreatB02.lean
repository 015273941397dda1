import Derived.Lib.CutLaws
import Derived.Shelf.Small.Strs
import Derived.Shelf.Strings.Search1
import Derived.BigQuiet
import Derived.Deep.QuietTactic
import Derived.IntWalk
import Derived.BigGuard
import Derived.BigCall
import Derived.Laws.Strings3
import Derived.Shelf.RegionOpenPlain
import Derived.Lib.OthersKept
import Derived.ProofKit
import Derived.OpenShut
import Derived.ShutString
import Derived.ChangeOld
import Derived.SliceStrings
import Derived.ChangeMaps
import Derived.SizedLaws
import Derived.Deep.Slices
import Derived.Deep.Fields
import Derived.Test.YtahegpfdbgbioaaGreatProg
import Derived.Test.YtahegpfdbgbioaaGreatRows
import Derived.Test.YtahegpfdbgbioaaGreatB01
set_option maxRecDepth 100000
set_option maxHeartbeats 4000000
namespace Go.Proofs.YtahegpfdbgbioaaGreat
def NoB (c:Nat) (s:ByteArray):Prop:=∀k,k<s.size→bt s k≠c
theorem NoB.nil (c:Nat):NoB c ⟨#[]⟩:=fun _ hk=>absurd hk (Nat.not_lt_zero _)
theorem NoB.one {c d:Nat} (hd:d<256) (h:d≠c):NoB c (zeN d):=fun k hk=>by
 have:k=0:=by have:=zby d;omega
 subst this;rw [zgw hd];exact h
theorem NoB.app {c:Nat} {a b:ByteArray} (ha:NoB c a) (hb:NoB c b):NoB c (a ++ b):=fun k hk=>by
 rw [size_app] at hk;rcases Nat.lt_or_ge k a.size with h | h
 · rw [zbz a b k h];exact ha k h
 · obtain ⟨j,rfl⟩:∃j,k=a.size + j:=⟨k-a.size,by omega⟩;rw [zbm a b j (by omega)];exact hb j (by omega)
theorem NoB.name {c:Nat} {s:ByteArray} (h:nameS s=true) (hc:c<128) (hb:zgF c=false):NoB c s:=fun k hk he=>by
 obtain ⟨_,_,hm⟩:=za4.1 h;obtain ⟨j,h1,h2⟩:=zjQ (cnt s) (by rw [(zcj s).1];exact hk);have hj:plc s j<s.size:=by omega
 rw [zaC hj] at h2;rcases Nat.eq_or_lt_of_le h1 with e | e
 · have:=hm j (zaR.2 hj);rw [e,zhE hk (by omega),he,hb] at this;cases this
 · have:=zgZ hj e h2;omega
def zdi (s:ByteArray) (c:Nat):Nat:=least (fun k=>decide (bt s k=c) || decide (s.size≤k)) s.size 0
theorem zcS (s:ByteArray) (c:Nat):zdi s c≤s.size∧(zdi s c<s.size→bt s (zdi s c)=c)∧∀j,j<zdi s c→bt s j≠c:=by
 obtain ⟨h1,_,h3⟩:=zcU (fun k=>decide (bt s k=c) || decide (s.size≤k)) s.size 0 ⟨s.size,by omega,by omega,by simp⟩;have hle:zdi s c≤s.size:=by
  rcases Nat.lt_or_ge s.size (zdi s c) with h | h
  · have:=h3 s.size (by omega) h;simp at this
  · exact h
 refine ⟨hle,fun h=>?_,fun j hj he=>?_⟩
 · have:(decide (bt s (zdi s c)=c) || decide (s.size≤zdi s c))=true:=h1;rw [decide_eq_false (show ¬s.size≤zdi s c by omega),Bool.or_false] at this;exact of_decide_eq_true this
 · have:=h3 j (by omega) hj;simp [he] at this
theorem zjo {s:ByteArray} {c k:Nat} (h:bt s k=c∨k=s.size) (hk:k≤s.size) (hn:∀j,j<k→bt s j≠c):zdi s c=k :=
 least_eq (by rcases h with h | h <;> simp [h]) (fun j hj=>by
  have:=hn j hj;simp [this];omega) hk
def zcO (s:ByteArray) (c:Nat):ByteArray × ByteArray:=(s.extract 0 (zdi s c),s.extract (zdi s c + 1) s.size)
theorem zev (s:ByteArray) (c:Nat):(zcO s c).1.size=zdi s c:=by
 have:=(zcS s c).1;unfold zcO;rw [zaO];omega
theorem zdR (s:ByteArray) (c:Nat):(zcO s c).2.size≤s.size:=by
 unfold zcO;rw [zaO];omega
theorem cutC_end {s:ByteArray} {c:Nat} (h:¬zdi s c<s.size):zcO s c=(s,⟨#[]⟩):=by
 have he:zdi s c=s.size:=by have:=(zcS s c).1;omega
 unfold zcO;rw [he,zhr];congr 1
 exact zeF (by rw [zaO];omega)
theorem zmi {a:ByteArray} {c:Nat} (h:NoB c a):zdi a c=a.size:=zjo (.inr rfl) (Nat.le_refl _) h
abbrev NdP:=ByteArray × ByteArray × ByteArray
def zf3 (n:NdP):Bool:=nameS n.1 && nameS n.2.1 && (decide (n.2.2=⟨#[]⟩) || nameS n.2.2)
def objN (n:NdP):ByteArray:=n.1 ++ zeN 58 ++ n.2.1
def zem (n:NdP):ByteArray:=if n.2.2=⟨#[]⟩ then objN n else objN n ++ (zeN 35 ++ n.2.2)
def cutN (s:ByteArray):NdP:=((zcO (zcO s 35).1 58).1,(zcO (zcO s 35).1 58).2,(zcO s 35).2)
def zcH (s:ByteArray):Option NdP:=if zf3 (cutN s)=true∧zem (cutN s)=s then some (cutN s) else none
theorem zgs {s:ByteArray} {n:NdP} (h:zcH s=some n):zf3 n=true∧zem n=s:=by
 unfold zcH at h;by_cases hc:zf3 (cutN s)=true∧zem (cutN s)=s
 · rw [if_pos hc] at h;rw [←Option.some.inj h];exact hc
 · rw [if_neg hc] at h;exact absurd h (by simp)
abbrev TuP:=NdP × NdP
def zj8 (t:TuP):Bool:=!decide (t.1.2.2=⟨#[]⟩) && zf3 t.1 && zf3 t.2
theorem fmdT_iff {t:TuP}:zj8 t=true↔t.1.2.2≠⟨#[]⟩∧zf3 t.1=true∧zf3 t.2=true:=by
 unfold zj8;rw [Bool.and_eq_true,Bool.and_eq_true,Bool.not_eq_true',decide_eq_false_iff_not,and_assoc]
def textT (t:TuP):ByteArray:=zem t.1 ++ zeN 64 ++ zem t.2
def zdI (s:ByteArray):Option TuP :=
 match zcH (zcO s 64).1,zcH (zcO s 64).2 with
 | some a,some b=>if a.2.2=⟨#[]⟩ then none else some (a,b)
 | _,_=>none
def zea (t:TuP):List ByteArray:=[t.1.1,t.1.2.1,t.1.2.2,t.2.1,t.2.2.1,t.2.2.2]
def keyL:List ByteArray→ByteArray
 | []=>⟨#[]⟩
 | [x]=>x
 | x::y::r=>x ++ zeN 0 ++ keyL (y::r)
def keyT (t:TuP):ByteArray:=keyL (zea t)
def cutL:Nat→ByteArray→List ByteArray
 | 0,_=>[]
 | n + 1,s=>(zcO s 0).1::cutL n (zcO s 0).2
def tupL (l:List ByteArray):TuP:=((l.getD 0 ⟨#[]⟩,l.getD 1 ⟨#[]⟩,l.getD 2 ⟨#[]⟩),(l.getD 3 ⟨#[]⟩,l.getD 4 ⟨#[]⟩,l.getD 5 ⟨#[]⟩))
theorem zhf (t:TuP):tupL (zea t)=t:=rfl
def zgG (s:ByteArray):Option TuP:=if zj8 (tupL (cutL 6 s))=true∧keyT (tupL (cutL 6 s))=s then some (tupL (cutL 6 s)) else none
def zfd:Nat→ByteArray→ByteArray
 | 0,s=>s
 | n + 1,s=>zfd n (zcO s 0).2
def zl3 (a b:ByteArray):Int:=if less a b=true then -1 else if less b a=true then 1 else 0
theorem zmw (a:ByteArray):less a a=false:=zlc (Nat.le_refl _) fun _ _=>rfl
theorem zjY:∀x y:List UInt8,x≠y→Op.bytesLess x y=false→Op.bytesLess y x=true
 | [],[],h,_=>absurd rfl h
 | [],_::_,_,h=>by cases h
 | _::_,[],_,_=>rfl
 | c::x,d::y,hne,h=>by
  have h':(decide (c<d) || (c == d && Op.bytesLess x y))=false:=h;show (decide (d<c) || (d == c && Op.bytesLess y x))=true;rw [Bool.or_eq_false_iff,decide_eq_false_iff_not] at h';by_cases e:c=d
  · subst e;have:Op.bytesLess x y=false:=by simpa using h'.2
    rw [zjY x y (fun q=>hne (by rw [q])) this];simp
  · have:d<c:=by
     have h1:=h'.1;rw [UInt8.lt_iff_toNat_lt] at *
     have:c.toNat≠d.toNat:=fun q=>e (UInt8.toNat_inj.1 q);omega
    rw [decide_eq_true this];rfl
theorem zld {a b:ByteArray} (hne:a≠b) (h:less a b=false):less b a=true:=by
 refine zjY _ _ (fun q=>hne ?_) h;rw [ByteArray.toList_eq,ByteArray.toList_eq] at q;exact ByteArray.ext (Array.toList_inj.1 q)
theorem zl4 (a:ByteArray):zl3 a a=0:=by unfold zl3;rw [zmw];rfl
theorem zl5 {a b:ByteArray}:zl3 a b=0↔a=b:=by
 refine ⟨fun h=>?_,fun h=>by rw [h,zl4]⟩;rcases Decidable.em (a=b) with e | e
 · exact e
 · unfold zl3 at h;cases hl:less a b with
   | true=>rw [hl] at h;cases h
   | false =>
    rw [hl,zld e hl] at h;cases h
theorem zgR:∀x y:List UInt8,Lib.compareBytes x y=if Op.bytesLess x y=true then -1 else if Op.bytesLess y x=true then 1 else 0
 | [],[]=>rfl
 | [],_::_=>rfl
 | _::_,[]=>rfl
 | c::x,d::y=>by
  show (if c<d then (-1:Int) else if d<c then 1 else Lib.compareBytes x y)=if (decide (c<d) || (c == d && Op.bytesLess x y))=true then -1 else if (decide (d<c) || (d == c && Op.bytesLess y x))=true then 1 else 0;by_cases h1:c<d
  · rw [if_pos h1,decide_eq_true h1,Bool.true_or,if_pos rfl]
  · by_cases h2:d<c
    · have hne:¬c=d:=fun q=>by subst q;rw [UInt8.lt_iff_toNat_lt] at h2;omega
      rw [if_neg h1,if_pos h2,decide_eq_false h1,decide_eq_true h2,beq_eq_false_iff_ne.2 hne];rfl
    · have he:c=d:=by
       rw [UInt8.lt_iff_toNat_lt] at *
       exact UInt8.toNat_inj.1 (by omega)
      subst he;rw [if_neg h1,if_neg h1,decide_eq_false h1,zgR x y];simp
theorem zjj (a b:ByteArray):Lib.compareBytes a.data.toList b.data.toList=zl3 a b:=by
 rw [zgR];unfold zl3 less;rw [ByteArray.toList_eq,ByteArray.toList_eq]
def cmpL:List ByteArray→List ByteArray→Int
 | x::r,y::q=>if x=y then cmpL r q else zl3 x y
 | _,_=>0
def cmpT (a b:TuP):Int:=cmpL (zea a) (zea b)
theorem zif:∀l m:List ByteArray,l.length=m.length→(cmpL l m=0↔l=m)
 | [],[],_=>⟨fun _=>rfl,fun _=>rfl⟩
 | [],_::_,h=>by cases h
 | _::_,[],h=>by cases h
 | x::r,y::q,h=>by
  show (if x=y then cmpL r q else zl3 x y)=0↔_;by_cases e:x=y
  · subst e;rw [if_pos rfl,zif r q (by simpa using h)];simp
  · rw [if_neg e,zl5];simp [e]
theorem zmQ {a b:TuP} (h:zea a=zea b):a=b:=by rw [←zhf a,←zhf b,h]
theorem zig {a b:TuP}:cmpT a b=0↔a=b:=by
 unfold cmpT;rw [zif (zea a) (zea b) rfl];exact ⟨zmQ,fun h=>by rw [h]⟩
end Go.Proofs.YtahegpfdbgbioaaGreat
namespace Go.Proofs.YtahegpfdbgbioaaGreat
open Go.Shelf Go.RowKit
def zgb:Go.Shelf.Ren:=⟨fun | 217=>188 | 266=>216 | 106=>75 | 213=>118 | 265=>159 | n=>n,fun | 3=>3 | 5=>5 | 9=>9 | n=>n,fun | n=>n⟩
theorem lays217:Go.Proofs.Lays.n217 Tryz.prog zgb:={
 mixed:=by kernel_rfl
 f217:=Tryz.func188.trans (congrArg some (by kernel_rfl))
 f266:=Tryz.func216.trans (congrArg some (by kernel_rfl))
 t3:=Tryz.underlying3
 a3:=Tryz.isAgg3
 z3:=Tryz.sizeOf3
 v3:=Tryz.zeroValue3
 t5:=Tryz.underlying5
 a5:=Tryz.isAgg5
 z5:=Tryz.sizeOf5
 v5:=Tryz.zeroValue5
 t9:=Tryz.underlying9
 a9:=Tryz.isAgg9
 z9:=Tryz.sizeOf9
 v9:=Tryz.zeroValue9 }
theorem lays106:Go.Proofs.Lays.n106 Tryz.prog zgb:={
 mixed:=by kernel_rfl
 f106:=Tryz.func75.trans (congrArg some (by kernel_rfl))
 f213:=Tryz.func118.trans (congrArg some (by kernel_rfl))
 f265:=Tryz.func159.trans (congrArg some (by kernel_rfl))
 t3:=Tryz.underlying3
 a3:=Tryz.isAgg3
 z3:=Tryz.sizeOf3
 v3:=Tryz.zeroValue3
 t9:=Tryz.underlying9
 a9:=Tryz.isAgg9
 z9:=Tryz.sizeOf9
 v9:=Tryz.zeroValue9 }
theorem scmp_any (a b:ByteArray) (w:World):Calls Tryz.prog 75 #[.string a,.string b] w fun e w'=>e = .returned (.int .i64 (zl3 a b))∧w'=w :=
 (Any.strings_Compare lays106 a b w).mono fun e w' ⟨h1,h2⟩=>⟨by rw [h1,zjj],h2⟩
theorem ixb (c:UInt8):∀l:List UInt8,(Lib.indexByte l c = -1∧∀j:Nat,l[j]?≠some c)∨∃i:Nat,Lib.indexByte l c=i∧l[i]? = some c∧∀j,j<i→l[j]?≠some c
 | []=>.inl ⟨rfl,fun j=>by simp⟩
 | b::l=>by
  show (if (b == c)=true then (0:Int) else if (Lib.indexByte l c == -1)=true then -1 else Lib.indexByte l c + 1) = -1∧_∨∃i:Nat,(if (b == c)=true then (0:Int) else if (Lib.indexByte l c == -1)=true then -1 else Lib.indexByte l c + 1)=i∧_;by_cases hb:b=c
  · subst hb;exact .inr ⟨0,by simp,by simp,fun j hj=>absurd hj (Nat.not_lt_zero _)⟩
  · have hf:(b == c)=false:=beq_eq_false_iff_ne.2 hb;have h0:∀j,(∀k,k<j→l[k]?≠some c)→∀k,k<j + 1→(b::l)[k]?≠some c:=fun j h k hk=>by
     cases k with
     | zero=>simpa using hb
     | succ k=>rw [List.getElem?_cons_succ];exact h k (by omega)
    rw [hf];rcases ixb c l with ⟨h1,h2⟩ | ⟨i,h1,h2,h3⟩
    · rw [h1];refine .inl ⟨by simp,fun j=>h0 j (fun k _=>h2 k) j (Nat.lt_succ_self _)⟩
    · rw [h1];refine .inr ⟨i + 1,?_,by rw [List.getElem?_cons_succ];exact h2,h0 i h3⟩;rw [show ((i:Int) == -1)=false from beq_eq_false_iff_ne.2 (by omega)];simp
theorem bt_is {s:ByteArray} {c:UInt8} {k:Nat} (h:k<s.size):s.data.toList[k]? = some c↔bt s k=c.toNat:=by
 rw [zjf s k h];have:=zeW s k;constructor
 · intro e;have:=congrArg UInt8.toNat (Option.some.inj e);simp at this;omega
 · intro e;rw [e];simp
theorem ix_fst (s:ByteArray) (c:UInt8):Lib.indexByte s.data.toList c=if zdi s c.toNat<s.size then (zdi s c.toNat:Int) else -1:=by
 rcases ixb c s.data.toList with ⟨h1,h2⟩ | ⟨i,h1,h2,h3⟩
 · have:zdi s c.toNat=s.size:=zmi fun k hk he=>h2 k ((bt_is hk).2 he);rw [h1,this,if_neg (Nat.lt_irrefl _)]
 · have hi:i<s.size:=by
    have:=(List.getElem?_eq_some_iff.1 h2).1;simpa using this
   have:zdi s c.toNat=i:=zjo (.inl ((bt_is hi).1 h2)) (Nat.le_of_lt hi) fun j hj he=>h3 j hj ((bt_is (Nat.lt_trans hj hi)).2 he);rw [h1,this,if_pos hi]
theorem idx1_any (s:ByteArray) (c:UInt8) (w:World):Calls Tryz.prog 155 #[.string s,.string ⟨#[c]⟩] w fun e w'=>e = .returned (.int .i64 (if zdi s c.toNat<s.size then (zdi s c.toNat:Int) else -1))∧w'=w:=by
 have k:=fun W=>Any.stringslite_IndexByte lays217 s (c.toNat:Int) W;rw [show (c.toNat:Int).toNat.toUInt8=c from by simp,ix_fst] at k;by_cases he:(⟨#[c]⟩:ByteArray)=s
 · have d:([c] == s.toList)=true:=by have h:=zb2 he;rwa [ByteArray.toList_eq ⟨#[c]⟩] at h
   have hf:zdi s c.toNat=0:=zjo (.inl (by rw [←he];rfl)) (Nat.zero_le _) fun j hj=>absurd hj (Nat.not_lt_zero _);have hz:0<s.size:=by rw [←he];exact Nat.one_pos
   rw [hf,if_pos hz];clear he k;go_enter Tryz.func155,Tryz.ntmps155
   go_wp2_with fail
   go_ret
   exact ⟨rfl,rfl⟩
 · have d:([c] == s.toList)=false:=by have h:=zbo he;rwa [ByteArray.toList_eq ⟨#[c]⟩] at h
   clear he;generalize (if zdi s c.toNat<s.size then (zdi s c.toNat:Int) else -1)=z at k ⊢;go_enter Tryz.func155,Tryz.ntmps155
   go_wp2_with (go_at_call 188;refine (k _).mono ?_;rintro e w' ⟨rfl,rfl⟩)
   go_ret
   exact ⟨rfl,rfl⟩
theorem slcut_any (s:ByteArray) (c:UInt8) (w:World) (hs:s.size≤maxLen):Calls Tryz.prog 112 #[.string s,.string ⟨#[c]⟩] w fun e w'=>e = .returned (.tuple #[.string (zcO s c.toNat).1,.string (zcO s c.toNat).2,.bool (decide (zdi s c.toNat<s.size))])∧Below w.heap.size w w':=by
 have k:=fun W=>idx1_any s c W;have hms:(s.size:Int)≤9223372036854775807:=by simp only [maxLen] at hs;omega
 by_cases h:zdi s c.toNat<s.size
 · rw [if_pos h] at k;rw [decide_eq_true h];unfold zcO;generalize zdi s c.toNat=i at *
   have c1:(0:Int)≤(i:Int):=by omega
   have c2:(i:Int)≤(s.size:Int):=by omega
   have c3:(0:Int)≤(i:Int) + 1:=by omega
   have c4:(i:Int) + 1≤(s.size:Int):=by omega
   have c5:IntKind.i64.wrap ((i:Int) + 1)=(i:Int) + 1:=IntWalk.i64_in _ (by omega);go_enter Tryz.func112,Tryz.ntmps112
   go_wp2_with (go_at_call 155;refine (k _).mono ?_;rintro e w' ⟨rfl,rfl⟩)
   go_quiet (fail)
   go_wp2_with fail
   go_returns
   exact ⟨rfl,rfl,rfl,rfl,Nat.le_refl _,fun _ _=>rfl⟩
 · rw [if_neg h] at k;rw [cutC_end h,decide_eq_false h];go_enter Tryz.func112,Tryz.ntmps112
   go_wp2_with (go_at_call 155;refine (k _).mono ?_;rintro e w' ⟨rfl,rfl⟩)
   go_returns
   exact ⟨rfl,Below.refl _ _⟩
theorem cut_any12 (s:ByteArray) (c:UInt8) (w:World) (hs:s.size≤maxLen):Calls Tryz.prog 67 #[.string s,.string ⟨#[c]⟩] w fun e w'=>e = .returned (.tuple #[.string (zcO s c.toNat).1,.string (zcO s c.toNat).2,.bool (decide (zdi s c.toNat<s.size))])∧Below w.heap.size w w':=by
 have k:=fun W=>slcut_any s c W hs;generalize (zcO s c.toNat).1=a at *
 generalize (zcO s c.toNat).2=b at *
 generalize decide (zdi s c.toNat<s.size)=t at *
 go_enter Tryz.func67,Tryz.ntmps67
 go_wp2_with (go_at_call 112;refine (k _).mono ?_;rintro e w' ⟨rfl,hb⟩)
 go_returns
 exact ⟨rfl,hb⟩
theorem cut35 (s:ByteArray) (w:World) (hs:s.size≤maxLen):Calls Tryz.prog 67 #[.string s,.string ⟨#[35]⟩] w fun e w'=>e = .returned (.tuple #[.string (zcO s 35).1,.string (zcO s 35).2,.bool (decide (zdi s 35<s.size))])∧Below w.heap.size w w':=cut_any12 s 35 w hs
theorem cut58 (s:ByteArray) (w:World) (hs:s.size≤maxLen):Calls Tryz.prog 67 #[.string s,.string ⟨#[58]⟩] w fun e w'=>e = .returned (.tuple #[.string (zcO s 58).1,.string (zcO s 58).2,.bool (decide (zdi s 58<s.size))])∧Below w.heap.size w w':=cut_any12 s 58 w hs
theorem cut64 (s:ByteArray) (w:World) (hs:s.size≤maxLen):Calls Tryz.prog 67 #[.string s,.string ⟨#[64]⟩] w fun e w'=>e = .returned (.tuple #[.string (zcO s 64).1,.string (zcO s 64).2,.bool (decide (zdi s 64<s.size))])∧Below w.heap.size w w':=cut_any12 s 64 w hs
theorem cut00 (s:ByteArray) (w:World) (hs:s.size≤maxLen):Calls Tryz.prog 67 #[.string s,.string ⟨#[0]⟩] w fun e w'=>e = .returned (.tuple #[.string (zcO s 0).1,.string (zcO s 0).2,.bool (decide (zdi s 0<s.size))])∧Below w.heap.size w w':=cut_any12 s 0 w hs
end Go.Proofs.YtahegpfdbgbioaaGreat
namespace Go.Proofs.YtahegpfdbgbioaaGreat
open Go.RowKit
theorem zbb {a b:Bool} (h:a=b):Ending.returned (.bool a) = .returned (.bool b):=by rw [h]
def preB (s t:ByteArray):Bool:=decide (t.size≤s.size∧s.extract 0 t.size=t)
def badB (s:ByteArray) (i:Nat):Bool:=decide (i + 3≤s.size∧bt s i=239∧bt s (i + 1)=191∧bt s (i + 2)=189)
theorem pre_any (s t:ByteArray) (w:World) :
 Calls Tryz.prog 218 #[.string s,.string t] w fun e w'=>e = .returned (.bool (preB s t))∧w=w':=by
 by_cases h:t.size≤s.size
 · go_enter Tryz.func218,Tryz.ntmps218
   go_wp2
   go_ret
   exact ⟨zbb (by unfold preB;rw [toList_inj,Bool.eq_iff_iff];simp [h]),rfl⟩
 · go_enter Tryz.func218,Tryz.ntmps218
   go_wp2
   go_ret
   exact ⟨zbb (by unfold preB;simp [h]),rfl⟩
theorem hp_any (s:ByteArray) (i:Nat) (w:World) (h:i<s.size) :
 Calls Tryz.prog 192 #[.string (s.extract i s.size),.string ⟨#[239,191,189]⟩] w fun e w'=>e = .returned (.bool (badB s i))∧w=w':=by
 go_enter Tryz.func192,Tryz.ntmps192
 go_wp2_with ((refine (pre_any _ sBad _).mono ?_);rintro e w' ⟨rfl,rfl⟩)
 go_ret
 exact ⟨zbb (pre_bad h),rfl⟩
theorem inname_any (z:Int) (r:Nat) (w:World) (hz:z=r) :
 Calls Tryz.prog 157 #[.int .i32 z] w fun e w'=>e = .returned (.bool (zbI r))∧w=w':=by
 subst hz;go_enter Tryz.func157,Tryz.ntmps157
 go_wp2
 all_goals go_ret
 all_goals (refine ⟨zbb ?_,rfl⟩;unfold zbI;try simp only [beq_iff_eq,beq_eq_false_iff_ne,ne_eq] at *)
 all_goals first
  | (symm;exact decide_eq_true (by omega))
  | (rw [Bool.eq_iff_iff];simp only [decide_eq_true_eq];omega)
theorem broken_any (s:ByteArray) (i:Nat) (z r:Int) (w:World) (hz:z=i) (hr:r=(rn s i:Int)) (h:i<s.size) :
 Calls Tryz.prog 156 #[.string s,.int .i64 z,.int .i32 r] w fun e w'=>e = .returned (.bool (brk s i))∧w=w':=by
 have E:=Lib.hid (brk_eq h);by_cases hc:rn s i=65533
 · have hd:(r == 65533)=true:=by simp [hr,hc]
   subst hz;have HR:=Lib.hid hr;have HC:=Lib.hid hc;clear hr hc;go_enter Tryz.func156,Tryz.ntmps156
   go_wp2_with ((refine (hp_any s i _ h).mono ?_);rintro e w' ⟨rfl,rfl⟩)
   go_ret
   exact ⟨zbb (by rw [E.out,HC.out];unfold badB;simp),rfl⟩
 · have hd:(r == 65533)=false:=by simp [hr];omega
   subst hz;have HR:=Lib.hid hr;have HC:=Lib.hid hc;clear hr hc;go_enter Tryz.func156,Tryz.ntmps156
   go_wp2_with ((refine (hp_any s i _ h).mono ?_);rintro e w' ⟨rfl,rfl⟩)
   go_ret
   exact ⟨zbb (by rw [E.out,decide_eq_false HC.out];rfl),rfl⟩
def zmo (w wr:World) (s:ByteArray) (p:Nat):Prop:=wr.heap[w.heap.size]? = some (.stringIter s p)
theorem zck (w:World) (s:ByteArray):zmo w (w.iter s 0) s 0:=World.iter_heap w s 0
theorem zbJ (w:World) (s:ByteArray):Below w.heap.size w (w.iter s 0):=(Below.refl _ w).alloc (Nat.le_refl _) _
theorem zgu (s:ByteArray) (p:Nat):((Utf8.decode s p).1:Int)=(rn s p:Int):=rfl
theorem zdj {w wr:World} {s:ByteArray} {p:Nat} (h:zmo w wr s p):wr.iterPos w.heap.size=p:=by unfold zmo at h;simp only [World.iterPos,h]
theorem count_any (s:ByteArray) (w:World) (hs:s.size≤1000000) :
 Calls Tryz.prog 167 #[.string s] w fun e w'=>e = .returned (.int .i64 (cnt s))∧Below w.heap.size w w':=by
 go_enter Tryz.func167,Tryz.ntmps167
 go_wp2
 go_loopw [3] (fun n wr=>∃k:Nat,k≤cnt s∧n = .int .i64 k∧zmo w wr s (plc s k)∧Below w.heap.size w wr) (fun _ wr=>s.size-wr.iterPos w.heap.size)
 case atStart=>exact ⟨0,Nat.zero_le _,rfl,zck w s,zbJ w s⟩
 case round =>
  obtain ⟨k,hk,rfl,hit,hbw⟩:=hrel;have Hit:=Lib.hid hit;have Hbw:=Lib.hid hbw;have hc:=zcD s;have hl:=zaM s k;by_cases h:plc s k<s.size
  · have hk2:=zaR.2 h;have hw:=zcF h;have HS:=Lib.hid (zaC h);have hnx:∀ty,(Instr.next (.pointer (some ⟨w.heap.size,0,none⟩)) true ty).run Tryz.prog wr=_:=fun ty=>Lib.run_next_any_at wr w.heap.size s (plc s k) ty hit h;have Hit2:=Lib.hid (Lib.iterAt_heap wr w.heap.size s (plc s k) (plc s k + (Utf8.decode s (plc s k)).2) hit);have Hbw2:=Lib.hid (Lib.below_iterAt hbw (k:=w.heap.size) (Nat.le_refl _) s (plc s k + (Utf8.decode s (plc s k)).2));clear hit hbw;go_wp2
    go_roundw
    case rel =>
     refine ⟨k + 1,by omega,by go_num,?_,Hbw2.out⟩;rw [HS.out];exact Hit2.out
    case measure=>rw [zdj Hit.out,zdj (w:=w) Hit2.out];show s.size-(plc s k + wd s (plc s k))<_;omega
  · have e:=zdh h fun j hj=>zaR.1 (by omega);have E:=Lib.hid e;have hnx:∀ty,(Instr.next (.pointer (some ⟨w.heap.size,0,none⟩)) true ty).run Tryz.prog wr=_:=fun ty=>Lib.run_next_end_at wr w.heap.size s (plc s k) ty hit h;clear e hit hbw;go_wp2
    go_ret
    exact ⟨by rw [E.out];rfl,Hbw.out⟩
theorem valid_any (s:ByteArray) (w:World) (_:s.size≤1000000) :
 Calls Tryz.prog 161 #[.string s] w fun e w'=>e = .returned (.bool (zca s))∧Below w.heap.size w w':=by
 go_enter Tryz.func161,Tryz.ntmps161
 go_wp2
 go_loopw [] (fun wr=>∃k:Nat,k≤cnt s∧zmo w wr s (plc s k)∧Below w.heap.size w wr∧∀j,j<k→brk s (plc s j)=false) (fun wr=>s.size-wr.iterPos w.heap.size)
 case atStart=>exact ⟨0,Nat.zero_le _,zck w s,zbJ w s,fun j hj=>by omega⟩
 case round =>
  obtain ⟨k,hk,hit,hbw,hall⟩:=hrel;have Hall:=Lib.hid hall;clear hall;have Hit:=Lib.hid hit;have Hbw:=Lib.hid hbw;have hc:=zcD s;have hl:=zaM s k;by_cases h:plc s k<s.size
  · have hk2:=zaR.2 h;have hw:=zcF h;have HS:=Lib.hid (zaC h);have hnx:∀ty,(Instr.next (.pointer (some ⟨w.heap.size,0,none⟩)) true ty).run Tryz.prog wr=_:=fun ty=>Lib.run_next_any_at wr w.heap.size s (plc s k) ty hit h;have Hit2:=Lib.hid (Lib.iterAt_heap wr w.heap.size s (plc s k) (plc s k + (Utf8.decode s (plc s k)).2) hit);have Hbw2:=Lib.hid (Lib.below_iterAt hbw (k:=w.heap.size) (Nat.le_refl _) s (plc s k + (Utf8.decode s (plc s k)).2));clear hit hbw;by_cases hb:brk s (plc s k)=true
    · go_wp2_with ((with_reducible refine (broken_any s (plc s k) _ _ _ rfl (zgu s (plc s k)) h).mono ?_);rintro e w' ⟨rfl,rfl⟩)
      go_ret
      refine ⟨zbb ?_,Hbw2.out⟩;symm
      rw [Bool.eq_false_iff];intro hv;have:=zbY.1 hv k hk2;rw [hb] at this;cases this
    · rw [Bool.not_eq_true] at hb;go_wp2_with ((with_reducible refine (broken_any s (plc s k) _ _ _ rfl (zgu s (plc s k)) h).mono ?_);rintro e w' ⟨rfl,rfl⟩)
      go_roundw
      case rel =>
       refine ⟨k + 1,by omega,?_,Hbw2.out,fun j hj=>?_⟩
       · rw [HS.out];exact Hit2.out
       · by_cases e:j=k
         · subst e;exact hb
         · exact Hall.out j (by omega)
      case measure=>rw [zdj Hit.out,zdj (w:=w) Hit2.out];show s.size-(plc s k + wd s (plc s k))<_;omega
  · have e:=zdh h fun j hj=>zaR.1 (by omega);have E:=Lib.hid e;have hnx:∀ty,(Instr.next (.pointer (some ⟨w.heap.size,0,none⟩)) true ty).run Tryz.prog wr=_:=fun ty=>Lib.run_next_end_at wr w.heap.size s (plc s k) ty hit h;clear e hit hbw;go_wp2
    go_ret
    exact ⟨zbb (by symm;rw [zbY,E.out];exact Hall.out),Hbw.out⟩
theorem name_any (s:ByteArray) (w:World) (_:s.size≤1000000) :
 Calls Tryz.prog 113 #[.string s] w fun e w'=>e = .returned (.bool (nameS s))∧Below w.heap.size w w':=by
 go_enter Tryz.func113,Tryz.ntmps113
 go_wp2
 go_loopw [3] (fun n wr=>∃k:Nat,k≤cnt s∧n = .int .i64 k∧k≤24∧zmo w wr s (plc s k)∧Below w.heap.size w wr∧∀j,j<k→zcg s (plc s j)=true) (fun _ wr=>s.size-wr.iterPos w.heap.size)
 case atStart=>exact ⟨0,Nat.zero_le _,rfl,Nat.zero_le _,zck w s,zbJ w s,fun j hj=>by omega⟩
 case round =>
  obtain ⟨k,hk,rfl,h24,hit,hbw,hall⟩:=hrel;have Hall:=Lib.hid hall;clear hall;have Hit:=Lib.hid hit;have Hbw:=Lib.hid hbw;have hc:=zcD s;have hl:=zaM s k;by_cases h:plc s k<s.size
  · have hk2:=zaR.2 h;have hw:=zcF h;have HS:=Lib.hid (zaC h);have hnx:∀ty,(Instr.next (.pointer (some ⟨w.heap.size,0,none⟩)) true ty).run Tryz.prog wr=_:=fun ty=>Lib.run_next_any_at wr w.heap.size s (plc s k) ty hit h;have Hit2:=Lib.hid (Lib.iterAt_heap wr w.heap.size s (plc s k) (plc s k + (Utf8.decode s (plc s k)).2) hit);have Hbw2:=Lib.hid (Lib.below_iterAt hbw (k:=w.heap.size) (Nat.le_refl _) s (plc s k + (Utf8.decode s (plc s k)).2));clear hit hbw;by_cases h25:24<k + 1
    · have hd:(24:Int)<(k:Int) + 1:=by omega
      go_wp2_with fail
      go_ret
      refine ⟨zbb ?_,Hbw2.out⟩;symm
      rw [Bool.eq_false_iff];intro hv;have:=(za4.1 hv).2.1;omega
    · have hd:¬(24:Int)<(k:Int) + 1:=by omega
      have hmB:zcg s (plc s k)=(!brk s (plc s k) && zbI (rn s (plc s k))):=rfl;have HM:=Lib.hid hmB;clear hmB;by_cases hb:brk s (plc s k)=true
      · go_wp2_with ((with_reducible refine (broken_any s (plc s k) _ _ _ rfl (zgu s (plc s k)) h).mono ?_);rintro e w' ⟨rfl,rfl⟩)
        go_ret
        refine ⟨zbb ?_,Hbw2.out⟩;symm
        rw [Bool.eq_false_iff];intro hv;have:=(za4.1 hv).2.2 k hk2;rw [HM.out,hb] at this;cases this
      · rw [Bool.not_eq_true] at hb;by_cases hm:zbI (rn s (plc s k))=true
        · go_wp2_with (first
           | ((with_reducible refine (broken_any s (plc s k) _ _ _ rfl (zgu s (plc s k)) h).mono ?_);rintro e w' ⟨rfl,rfl⟩)
           | ((with_reducible refine (inname_any _ (rn s (plc s k)) _ (zgu s (plc s k))).mono ?_);rintro e w' ⟨rfl,rfl⟩))
          go_roundw
          case rel =>
           refine ⟨k + 1,by omega,by go_num,by omega,?_,Hbw2.out,fun j hj=>?_⟩
           · rw [HS.out];exact Hit2.out
           · by_cases e:j=k
             · subst e;rw [HM.out,hb,hm];rfl
             · exact Hall.out j (by omega)
          case measure=>rw [zdj Hit.out,zdj (w:=w) Hit2.out];show s.size-(plc s k + wd s (plc s k))<_;omega
        · rw [Bool.not_eq_true] at hm;go_wp2_with (first
           | ((with_reducible refine (broken_any s (plc s k) _ _ _ rfl (zgu s (plc s k)) h).mono ?_);rintro e w' ⟨rfl,rfl⟩)
           | ((with_reducible refine (inname_any _ (rn s (plc s k)) _ (zgu s (plc s k))).mono ?_);rintro e w' ⟨rfl,rfl⟩))
          go_ret
          refine ⟨zbb ?_,Hbw2.out⟩;symm
          rw [Bool.eq_false_iff];intro hv;have:=(za4.1 hv).2.2 k hk2;rw [HM.out,hb,hm] at this;cases this
  · have e:=zdh h fun j hj=>zaR.1 (by omega);have E:=Lib.hid e;have hnx:∀ty,(Instr.next (.pointer (some ⟨w.heap.size,0,none⟩)) true ty).run Tryz.prog wr=_:=fun ty=>Lib.run_next_end_at wr w.heap.size s (plc s k) ty hit h;clear e hit hbw;go_wp2
    go_ret
    refine ⟨zbb ?_,Hbw.out⟩;rw [Bool.eq_iff_iff,za4,E.out];simp only [decide_eq_true_eq];exact ⟨fun h0=>⟨by omega,h24,Hall.out⟩,fun h0=>by omega⟩
theorem zj1 {s:ByteArray} {n:Nat} (h:cnt s≤n):cutA s n=s:=by unfold cutA;rw [zhL h];exact zhr s
theorem cutB_end {s:ByteArray} {n:Nat} (h:cnt s≤n):cutB s n=⟨#[]⟩:=by
 unfold cutB;rw [zhL h];exact zdg (by rw [zaO];show _=0;omega) fun k hk=>by rw [zaO] at hk;omega
theorem cut_any (s:ByteArray) (n:Int) (w:World) (_:s.size≤1000000) (hn : -9223372036854775808≤n) (hn2:n≤9223372036854775807) :
 Calls Tryz.prog 160 #[.string s,.int .i64 n] w fun e w'=>e = .returned (.tuple #[.string (cutA s n.toNat),.string (cutB s n.toNat)])∧Below w.heap.size w w':=by
 go_enter Tryz.func160,Tryz.ntmps160
 go_wp2
 go_loopw [1] (fun m wr=>∃k:Nat,k≤cnt s∧k≤n.toNat∧m = .int .i64 (n-k)∧zmo w wr s (plc s k)∧Below w.heap.size w wr) (fun _ wr=>s.size-wr.iterPos w.heap.size)
 case atStart=>exact ⟨0,Nat.zero_le _,Nat.zero_le _,by simp,zck w s,zbJ w s⟩
 case round =>
  obtain ⟨k,hk,hkn,rfl,hit,hbw⟩:=hrel;have Hit:=Lib.hid hit;have Hbw:=Lib.hid hbw;have hc:=zcD s;have hl:=zaM s k;by_cases h:plc s k<s.size
  · have hk2:=zaR.2 h;have hw:=zcF h;have HS:=Lib.hid (zaC h);have hnx:∀ty,(Instr.next (.pointer (some ⟨w.heap.size,0,none⟩)) true ty).run Tryz.prog wr=_:=fun ty=>Lib.run_next_any_at wr w.heap.size s (plc s k) ty hit h;have Hit2:=Lib.hid (Lib.iterAt_heap wr w.heap.size s (plc s k) (plc s k + (Utf8.decode s (plc s k)).2) hit);have Hbw2:=Lib.hid (Lib.below_iterAt hbw (k:=w.heap.size) (Nat.le_refl _) s (plc s k + (Utf8.decode s (plc s k)).2));clear hit hbw;by_cases h0:n-k≤0
    · have e:n.toNat=k:=by omega
      have E:=Lib.hid e;clear e;go_wp2
      go_quiet (fail)
      go_wp2
      go_ret2
      exact ⟨by rw [E.out];rfl,Hbw2.out.trans ⟨rfl,rfl,rfl,Nat.le_refl _,fun _ _=>rfl⟩⟩
    · go_wp2
      go_roundw
      case rel =>
       refine ⟨k + 1,by omega,by omega,by go_num,?_,Hbw2.out⟩;rw [HS.out];exact Hit2.out
      case measure=>rw [zdj Hit.out,zdj (w:=w) Hit2.out];show s.size-(plc s k + wd s (plc s k))<_;omega
  · have e:=zdh h fun j hj=>zaR.1 (by omega);have E:=Lib.hid e;have hnx:∀ty,(Instr.next (.pointer (some ⟨w.heap.size,0,none⟩)) true ty).run Tryz.prog wr=_:=fun ty=>Lib.run_next_end_at wr w.heap.size s (plc s k) ty hit h;clear e hit hbw;have ea:=zj1 (s:=s) (n:=n.toNat) (by have:=E.out;omega);have eb:=cutB_end (s:=s) (n:=n.toNat) (by have:=E.out;omega);have EA:=Lib.hid ea;have EB:=Lib.hid eb;clear ea eb;go_wp2
    go_ret2
    exact ⟨by rw [EA.out,EB.out];rfl,Hbw.out⟩
end Go.Proofs.YtahegpfdbgbioaaGreat
namespace Go.Proofs.YtahegpfdbgbioaaGreat
open Go.ChangeShapes Go.WideShapes Go.ChangeAt Go.RowKit
theorem own_:ownKnob Tryz.prog.godebug=none:=by kernel_rfl
theorem laidOut_:laidOutB Tryz.prog=true:=by kernel_rfl
section
variable {H:Type} {enc:TypeId × Value→H} {P:Program} {W:World} {base:Nat} {spare:Nat→Bool} {held:Bool}
end
theorem wf_i64 {z:Int} (h:(Lit.int .i64 z).wf=true) : -9223372036854775808≤z∧z≤9223372036854775807:=by
 simpa [Lit.wf,IntKind.min,IntKind.max,IntKind.signed,IntKind.bits] using h
end Go.Proofs.YtahegpfdbgbioaaGreat
namespace Go.Proofs.YtahegpfdbgbioaaGreat
abbrev OpI:=Int × ByteArray × ByteArray
structure RelI where
 name:ByteArray
 view:ByteArray
 edit:ByteArray
 check:ByteArray
 subs:List (ByteArray × ByteArray)
 ops:List OpI
 deriving DecidableEq
structure TypI where
 name:ByteArray
 rels:List RelI
 deriving DecidableEq
def zdA (l:List TypI) (n:ByteArray):Option TypI:=l.find? fun t=>decide (t.name=n)
def zcq (t:TypI) (n:ByteArray):Option RelI:=t.rels.find? fun r=>decide (r.name=n)
def zio (l:List TypI) (n:ByteArray):Bool:=(zdA l n).isSome
def zcf (t:TypI) (n:ByteArray):Bool:=(zcq t n).isSome
def zk3 (l:List TypI) (ty re:ByteArray):Option RelI:=(zdA l ty).bind fun t=>zcq t re
def hasI (l:List TypI) (ty re:ByteArray):Bool:=(zk3 l ty re).isSome
def zg2 (l:List TypI) (r:RelI) (next:ByteArray):Bool:=r.subs.any fun x=>decide (x.2=⟨#[]⟩) && hasI l x.1 next
def zdr (l:List TypI) (t:TypI) (o:OpI):Bool :=
 if o.1=2 then zcf t o.2.1
 else if o.1=3 then (match zcq t o.2.1 with
  | none=>false
  | some r=>zg2 l r o.2.2)
 else true
def zdN (l:List TypI) (x:ByteArray × ByteArray):Bool:=zio l x.1 && (decide (x.2=⟨#[]⟩) || hasI l x.1 x.2)
def zcm (l:List TypI):List (ByteArray × ByteArray)→List (ByteArray × ByteArray)→Nat
 | _,[]=>0
 | ahead,x::r=>if zdN l x=false then 31 else if ahead.any (fun y=>decide (y=x))=true then 32 else zcm l (ahead ++ [x]) r
def zbR (l:List TypI) (t:TypI) (r:RelI):Nat :=
 if (zcf t r.view && (zcf t r.edit && zcf t r.check))=false then 31
 else if zcm l [] r.subs≠0 then zcm l [] r.subs
 else if r.ops.all (zdr l t)=false then 31 else 0
def zgJ (t:TypI) (r:RelI):ByteArray:=t.name ++ ⟨#[46]⟩ ++ r.name
def zcB (t:TypI):List RelI→List RelI→Nat × ByteArray
 | _,[]=>(0,⟨#[]⟩)
 | ahead,r::q=>if ahead.any (fun x=>decide (x.name=r.name))=true then (32,zgJ t r) else if 16<r.ops.length then (13,zgJ t r) else zcB t (ahead ++ [r]) q
def zbB:List TypI→List TypI→Nat × ByteArray
 | _,[]=>(0,⟨#[]⟩)
 | ahead,t::q=>if ahead.any (fun x=>decide (x.name=t.name))=true then (32,t.name) else if 12<t.rels.length then (13,t.name)
  else if (zcB t [] t.rels).1≠0 then zcB t [] t.rels else zbB (ahead ++ [t]) q
def za5 (l:List TypI) (t:TypI):List RelI→Nat × ByteArray
 | []=>(0,⟨#[]⟩)
 | r::q=>if zbR l t r≠0 then (zbR l t r,zgJ t r) else za5 l t q
def zbj (l:List TypI):List TypI→Nat × ByteArray
 | []=>(0,⟨#[]⟩)
 | t::q=>if (za5 l t t.rels).1≠0 then za5 l t t.rels else zbj l q
def zbh (l:List TypI):Nat × ByteArray :=
 if 8<l.length then (13,⟨#[]⟩) else if (zbB [] l).1≠0 then zbB [] l else zbj l l
structure RightR (t:TypI):Prop where
 few:t.rels.length≤12
 names:(t.rels.map (·.name)).Nodup
 ops:∀r ∈ t.rels,r.ops.length≤16
structure Right (l:List TypI):Prop where
 few:l.length≤8
 names:(l.map (·.name)).Nodup
 rels:∀t ∈ l,RightR t
 named:∀t ∈ l,∀r ∈ t.rels,zbR l t r=0
theorem zhS (t:TypI):∀(q ahead:List RelI),(ahead.map (·.name)).Nodup →
 ((zcB t ahead q).1=0↔((ahead ++ q).map (·.name)).Nodup∧∀r ∈ q,r.ops.length≤16)∧((zcB t ahead q).1=0→zcB t ahead q=(0,⟨#[]⟩))
 | [],ahead,h=>⟨⟨fun _=>⟨by rw [List.append_nil];exact h,fun r hr=>by cases hr⟩,fun _=>rfl⟩,fun _=>rfl⟩
 | r::q,ahead,h=>by
  unfold zcB;by_cases h1:ahead.any (fun x=>decide (x.name=r.name))=true
  · rw [if_pos h1];refine ⟨⟨fun e=>(by cases e),fun ⟨e,_⟩=>?_⟩,fun e=>(by cases e)⟩;obtain ⟨x,hx,hn⟩:=List.any_eq_true.1 h1;have hn:=of_decide_eq_true hn;rw [List.map_append,List.nodup_append] at e;exact absurd hn (e.2.2 x.name (List.mem_map_of_mem hx) r.name (List.mem_map_of_mem List.mem_cons_self))
  · rw [if_neg h1];by_cases h2:16<r.ops.length
    · rw [if_pos h2];refine ⟨⟨fun e=>(by cases e),fun ⟨_,e⟩=>?_⟩,fun e=>(by cases e)⟩;have:=e r List.mem_cons_self;omega
    · rw [if_neg h2];have hnd:((ahead ++ [r]).map (·.name)).Nodup:=by
       rw [List.map_append,List.nodup_append];refine ⟨h,by simp,fun a ha b hb=>?_⟩;obtain ⟨x,hx,rfl⟩:=List.mem_map.1 ha;simp only [List.map_cons,List.map_nil,List.mem_singleton] at hb;subst hb;intro e;exact h1 (List.any_eq_true.2 ⟨x,hx,decide_eq_true e⟩)
      obtain ⟨ih,ih2⟩:=zhS t q (ahead ++ [r]) hnd;rw [List.append_assoc,List.singleton_append] at ih;refine ⟨ih.trans ⟨fun ⟨a,b⟩=>⟨a,fun x hx=>?_⟩,fun ⟨a,b⟩=>⟨a,fun x hx=>b x (List.mem_cons_of_mem _ hx)⟩⟩,ih2⟩;rcases List.mem_cons.1 hx with rfl | hx
      · omega
      · exact b x hx
theorem zkM:∀(q ahead:List TypI),(ahead.map (·.name)).Nodup →
 ((zbB ahead q).1=0↔((ahead ++ q).map (·.name)).Nodup∧∀t ∈ q,RightR t)∧((zbB ahead q).1=0→zbB ahead q=(0,⟨#[]⟩))
 | [],ahead,h=>⟨⟨fun _=>⟨by rw [List.append_nil];exact h,fun r hr=>by cases hr⟩,fun _=>rfl⟩,fun _=>rfl⟩
 | t::q,ahead,h=>by
  unfold zbB;by_cases h1:ahead.any (fun x=>decide (x.name=t.name))=true
  · rw [if_pos h1];refine ⟨⟨fun e=>(by cases e),fun ⟨e,_⟩=>?_⟩,fun e=>(by cases e)⟩;obtain ⟨x,hx,hn⟩:=List.any_eq_true.1 h1;have hn:=of_decide_eq_true hn;rw [List.map_append,List.nodup_append] at e;exact absurd hn (e.2.2 x.name (List.mem_map_of_mem hx) t.name (List.mem_map_of_mem List.mem_cons_self))
  · rw [if_neg h1];by_cases h2:12<t.rels.length
    · rw [if_pos h2];refine ⟨⟨fun e=>(by cases e),fun ⟨_,e⟩=>?_⟩,fun e=>(by cases e)⟩;have:=(e t List.mem_cons_self).few;omega
    · rw [if_neg h2];obtain ⟨hr,hr2⟩:=zhS t t.rels [] (by simp);rw [List.nil_append] at hr;by_cases h3:(zcB t [] t.rels).1=0
      · rw [if_neg (by simpa using h3)];have hnd:((ahead ++ [t]).map (·.name)).Nodup:=by
         rw [List.map_append,List.nodup_append];refine ⟨h,by simp,fun a ha b hb=>?_⟩;obtain ⟨x,hx,rfl⟩:=List.mem_map.1 ha;simp only [List.map_cons,List.map_nil,List.mem_singleton] at hb;subst hb;intro e;exact h1 (List.any_eq_true.2 ⟨x,hx,decide_eq_true e⟩)
        obtain ⟨ih,ih2⟩:=zkM q (ahead ++ [t]) hnd;rw [List.append_assoc,List.singleton_append] at ih;refine ⟨ih.trans ⟨fun ⟨a,b⟩=>⟨a,fun x hx=>?_⟩,fun ⟨a,b⟩=>⟨a,fun x hx=>b x (List.mem_cons_of_mem _ hx)⟩⟩,ih2⟩;rcases List.mem_cons.1 hx with rfl | hx
        · exact ⟨by omega,(hr.1 h3).1,(hr.1 h3).2⟩
        · exact b x hx
      · rw [if_pos h3];refine ⟨⟨fun e=>absurd e h3,fun ⟨_,e⟩=>?_⟩,fun e=>absurd e h3⟩;have k:=e t List.mem_cons_self;exact hr.2 ⟨k.names,k.ops⟩
theorem zg6 (l:List TypI) (t:TypI):∀q:List RelI,((za5 l t q).1=0↔∀r ∈ q,zbR l t r=0)∧((za5 l t q).1=0→za5 l t q=(0,⟨#[]⟩))
 | []=>⟨⟨fun _ r hr=>(by cases hr),fun _=>rfl⟩,fun _=>rfl⟩
 | r::q=>by
  obtain ⟨ih,ih2⟩:=zg6 l t q;unfold za5;by_cases h:zbR l t r=0
  · rw [if_neg (by simpa using h)];refine ⟨ih.trans ⟨fun a x hx=>?_,fun a x hx=>a x (List.mem_cons_of_mem _ hx)⟩,ih2⟩;rcases List.mem_cons.1 hx with rfl | hx
    · exact h
    · exact a x hx
  · rw [if_pos h];exact ⟨⟨fun e=>absurd e h,fun a=>absurd (a r List.mem_cons_self) h⟩,fun e=>absurd e h⟩
theorem ziC (l:List TypI):∀q:List TypI,((zbj l q).1=0↔∀t ∈ q,∀r ∈ t.rels,zbR l t r=0)∧((zbj l q).1=0→zbj l q=(0,⟨#[]⟩))
 | []=>⟨⟨fun _ r hr=>(by cases hr),fun _=>rfl⟩,fun _=>rfl⟩
 | t::q=>by
  obtain ⟨ih,ih2⟩:=ziC l q;obtain ⟨hr,hr2⟩:=zg6 l t t.rels;unfold zbj;by_cases h:(za5 l t t.rels).1=0
  · rw [if_neg (by simpa using h)];refine ⟨ih.trans ⟨fun a x hx=>?_,fun a x hx=>a x (List.mem_cons_of_mem _ hx)⟩,ih2⟩;rcases List.mem_cons.1 hx with rfl | hx
    · exact hr.1 h
    · exact a x hx
  · rw [if_pos h];exact ⟨⟨fun e=>absurd e h,fun a=>hr.2 (a t List.mem_cons_self)⟩,fun e=>absurd e h⟩
theorem zdy (l:List TypI):((zbh l).1=0↔Right l)∧((zbh l).1=0→zbh l=(0,⟨#[]⟩)):=by
 obtain ⟨h1,h2⟩:=zkM l [] (by simp);obtain ⟨n1,n2⟩:=ziC l l;rw [List.nil_append] at h1;unfold zbh;by_cases h8:8<l.length
 · rw [if_pos h8];refine ⟨⟨fun e=>(by cases e),fun e=>?_⟩,fun e=>(by cases e)⟩;have:=e.few;omega
 · rw [if_neg h8];by_cases ht:(zbB [] l).1=0
   · rw [if_neg (by simpa using ht)];refine ⟨n1.trans ⟨fun a=>⟨by omega,(h1.1 ht).1,(h1.1 ht).2,a⟩,fun e=>e.named⟩,n2⟩
   · rw [if_pos ht];exact ⟨⟨fun e=>absurd e ht,fun e=>h1.2 ⟨e.names,e.rels⟩⟩,fun e=>absurd e ht⟩
theorem ze4 {α:Type} (f:α→ByteArray):∀(l:List α) (x:α),(l.map f).Nodup→x ∈ l→l.find? (fun y=>decide (f y=f x))=some x
 | y::q,x,h,hx=>by
  rw [List.map_cons,List.nodup_cons] at h;rcases List.mem_cons.1 hx with rfl | hx
  · simp
  · have hne:f y≠f x:=fun e=>h.1 (e ▸ List.mem_map_of_mem hx);rw [List.find?_cons_of_neg (by simpa using hne)];exact ze4 f q x h.2 hx
theorem Right.type {l:List TypI} (h:Right l) {t:TypI} (ht:t ∈ l):zdA l t.name=some t:=ze4 (fun t:TypI=>t.name) l t h.names ht
theorem RightR.rel {t:TypI} (h:RightR t) {r:RelI} (hr:r ∈ t.rels):zcq t r.name=some r:=ze4 (fun r:RelI=>r.name) t.rels r h.names hr
theorem Right.find {l:List TypI} (h:Right l) {t:TypI} (ht:t ∈ l) (n:ByteArray):zk3 l t.name n=zcq t n:=by
 unfold zk3;rw [h.type ht];rfl
theorem zkI (l:List TypI):∀(q ahead:List (ByteArray × ByteArray)),ahead.Nodup→(zcm l ahead q=0↔(∀x ∈ q,zdN l x=true)∧(ahead ++ q).Nodup)
 | [],ahead,h=>⟨fun _=>⟨fun x hx=>(by cases hx),by rw [List.append_nil];exact h⟩,fun _=>rfl⟩
 | x::q,ahead,h=>by
  unfold zcm;by_cases h1:zdN l x=false
  · rw [if_pos h1];refine ⟨fun e=>(by cases e),fun ⟨a,_⟩=>?_⟩;have:=a x List.mem_cons_self;rw [h1] at this;cases this
  · rw [if_neg h1];have h1:zdN l x=true:=by simpa using h1
    by_cases h2:ahead.any (fun y=>decide (y=x))=true
    · rw [if_pos h2];refine ⟨fun e=>(by cases e),fun ⟨_,a⟩=>?_⟩;obtain ⟨y,hy,e⟩:=List.any_eq_true.1 h2;have e:=of_decide_eq_true e;rw [List.nodup_append] at a;exact absurd e (a.2.2 y hy x List.mem_cons_self)
    · rw [if_neg h2];have hnd:(ahead ++ [x]).Nodup:=by
       rw [List.nodup_append];refine ⟨h,by simp,fun a ha b hb e=>?_⟩;rw [List.mem_singleton.1 hb] at e;exact h2 (List.any_eq_true.2 ⟨a,ha,decide_eq_true e⟩)
      have ih:=zkI l q (ahead ++ [x]) hnd;rw [List.append_assoc,List.singleton_append] at ih;refine ih.trans ⟨fun ⟨a,b⟩=>⟨fun y hy=>?_,b⟩,fun ⟨a,b⟩=>⟨fun y hy=>a y (List.mem_cons_of_mem _ hy),b⟩⟩;rcases List.mem_cons.1 hy with rfl | hy
      · exact h1
      · exact a y hy
structure RightN (l:List TypI) (t:TypI) (r:RelI):Prop where
 view:zcf t r.view=true
 edit:zcf t r.edit=true
 check:zcf t r.check=true
 subs:∀x ∈ r.subs,zdN l x=true
 twice:r.subs.Nodup
 ops:∀o ∈ r.ops,zdr l t o=true
theorem ziA (l:List TypI) (t:TypI) (r:RelI):zbR l t r=0↔RightN l t r:=by
 have hs:=zkI l r.subs [] (by simp);rw [List.nil_append] at hs;unfold zbR;by_cases h1:(zcf t r.view && (zcf t r.edit && zcf t r.check))=false
 · rw [if_pos h1];refine ⟨fun e=>(by cases e),fun e=>?_⟩;rw [e.view,e.edit,e.check] at h1;cases h1
 · rw [if_neg h1];have h1:zcf t r.view=true∧zcf t r.edit=true∧zcf t r.check=true:=by simpa using h1
   by_cases h2:zcm l [] r.subs=0
   · rw [if_neg (by simpa using h2)];by_cases h3:r.ops.all (zdr l t)=false
     · rw [if_pos h3];refine ⟨fun e=>(by cases e),fun e=>?_⟩;rw [List.all_eq_true.2 e.ops] at h3;cases h3
     · rw [if_neg h3];have h3:r.ops.all (zdr l t)=true:=by simpa using h3
       exact ⟨fun _=>⟨h1.1,h1.2.1,h1.2.2,(hs.1 h2).1,(hs.1 h2).2,List.all_eq_true.1 h3⟩,fun _=>rfl⟩
   · rw [if_pos h2];exact ⟨fun e=>absurd e h2,fun e=>hs.2 ⟨e.subs,e.twice⟩⟩
theorem Right.all {l:List TypI} (h:Right l) {t:TypI} (ht:t ∈ l) {r:RelI} (hr:r ∈ t.rels):RightN l t r:=(ziA l t r).1 (h.named t ht r hr)
theorem Right.told {l:List TypI} (h:Right l) {t:TypI} (ht:t ∈ l) {r:RelI} (hr:r ∈ t.rels) :
 hasI l t.name r.view=true∧hasI l t.name r.edit=true∧hasI l t.name r.check=true∧zk3 l t.name r.name=some r∧r.ops.length≤16∧t.rels.length≤12 ∧
 (∀s ∈ r.subs,s.2≠⟨#[]⟩→hasI l s.1 s.2=true)∧(∀o ∈ r.ops,(o.1=2∨o.1=3)→hasI l t.name o.2.1=true):=by
 have k:=h.all ht hr;have hf:=fun n=>h.find ht n;refine ⟨by unfold hasI;rw [hf];exact k.view,by unfold hasI;rw [hf];exact k.edit,by unfold hasI;rw [hf];exact k.check,by rw [hf];exact (h.rels t ht).rel hr,(h.rels t ht).ops r hr,(h.rels t ht).few,fun s hs hne=>?_,fun o ho hk=>?_⟩
 · have:=k.subs s hs;unfold zdN at this;rw [Bool.and_eq_true,Bool.or_eq_true] at this;exact this.2.resolve_left (by simpa using hne)
 · have:=k.ops o ho;unfold zdr at this;unfold hasI;rw [hf];rcases hk with hk | hk
   · rw [if_pos hk] at this;exact this
   · rw [if_neg (by omega),if_pos hk] at this;cases e:zcq t o.2.1 with
     | none=>rw [e] at this;cases this
     | some x=>rfl
theorem zgW {α:Type} {p:α→Bool} {l:List α} {x:α} (h:l.find? p=some x):x ∈ l∧p x=true:=⟨List.mem_of_find?_eq_some h,List.find?_some h⟩
theorem zgy (t:TypI):∀(q ahead:List TypI),((ahead ++ q).map (·.name)).Nodup→(∀x ∈ q,RightR x)→(∃x ∈ ahead ++ q,x.name=t.name)→zbB ahead (q ++ [t])=(32,t.name)
 | [],ahead,_,_,hx=>by
  rw [List.append_nil] at hx;show zbB ahead (t::[])=_;unfold zbB;obtain ⟨x,hx,e⟩:=hx;rw [if_pos (List.any_eq_true.2 ⟨x,hx,decide_eq_true e⟩)]
 | y::q,ahead,h,hr,hx=>by
  show zbB ahead (y::(q ++ [t]))=_;unfold zbB;have h1:¬ahead.any (fun x=>decide (x.name=y.name))=true:=fun e=>by
   obtain ⟨x,hx,hn⟩:=List.any_eq_true.1 e;have hn:=of_decide_eq_true hn;rw [List.map_append,List.nodup_append] at h;exact absurd hn (h.2.2 x.name (List.mem_map_of_mem hx) y.name (List.mem_map_of_mem List.mem_cons_self))
  have k:=hr y List.mem_cons_self;have h2:=k.few;have h3:(zcB y [] y.rels).1=0:=((zhS y y.rels [] (by simp)).1).2 ⟨by rw [List.nil_append];exact k.names,k.ops⟩;rw [if_neg h1,if_neg (by omega),if_neg (by simpa using h3)];exact zgy t q (ahead ++ [y]) (by rw [List.append_assoc];exact h) (fun x hx=>hr x (List.mem_cons_of_mem _ hx)) (by rw [List.append_assoc];exact hx)
theorem Right.twice {l:List TypI} (h:Right l) {t:TypI} (ht:t ∈ l):zbh (l ++ [t])=if 8<l.length + 1 then (13,⟨#[]⟩) else (32,t.name):=by
 unfold zbh;rw [List.length_append,List.length_singleton];by_cases h8:8<l.length + 1
 · rw [if_pos h8,if_pos h8]
 · rw [if_neg h8,if_neg h8];have e:=zgy t l [] (by rw [List.nil_append];exact h.names) h.rels ⟨t,by rw [List.nil_append];exact ht,rfl⟩;rw [e,if_pos (show (32:Nat)≠0 by decide)]
def ExtT (t u:TypI):Prop:=∀n r,zcq t n=some r→zcq u n=some r
def ExtL (l m:List TypI):Prop:=∀n t,zdA l n=some t→∃u,zdA m n=some u∧ExtT t u
theorem ExtT.refl (t:TypI):ExtT t t:=fun _ _ h=>h
theorem ExtT.has {t u:TypI} (h:ExtT t u) {n:ByteArray} (e:zcf t n=true):zcf u n=true:=by
 unfold zcf at *
 cases k:zcq t n with
 | none=>rw [k] at e;cases e
 | some r=>rw [h n r k];rfl
theorem ExtL.has {l m:List TypI} (h:ExtL l m) {n:ByteArray} (e:zio l n=true):zio m n=true:=by
 unfold zio at *
 cases k:zdA l n with
 | none=>rw [k] at e;cases e
 | some t =>
  obtain ⟨u,hu,_⟩:=h n t k;rw [hu];rfl
theorem ExtL.hasI {l m:List TypI} (h:ExtL l m) {a b:ByteArray} (e:hasI l a b=true):hasI m a b=true:=by
 unfold Go.Proofs.YtahegpfdbgbioaaGreat.hasI zk3 at *
 cases k:zdA l a with
 | none=>rw [k] at e;cases e
 | some t =>
  obtain ⟨u,hu,x⟩:=h a t k;rw [k] at e;rw [hu];exact x.has e
theorem ExtL.sub {l m:List TypI} (h:ExtL l m) {x:ByteArray × ByteArray} (e:zdN l x=true):zdN m x=true:=by
 unfold zdN at *
 rw [Bool.and_eq_true,Bool.or_eq_true] at *
 exact ⟨h.has e.1,e.2.imp id h.hasI⟩
theorem ExtL.op {l m:List TypI} (h:ExtL l m) {t u:TypI} (x:ExtT t u) {o:OpI} (e:zdr l t o=true):zdr m u o=true:=by
 unfold zdr at *
 by_cases h2:o.1=2
 · rw [if_pos h2] at *
   exact x.has e
 · rw [if_neg h2] at *
   by_cases h3:o.1=3
   · rw [if_pos h3] at *
     cases k:zcq t o.2.1 with
     | none=>rw [k] at e;cases e
     | some r =>
      rw [k] at e;rw [x _ r k];have e2:zg2 l r o.2.2=true:=e;show zg2 m r o.2.2=true;unfold zg2 at *
      obtain ⟨y,hy,ey⟩:=List.any_eq_true.1 e2;rw [Bool.and_eq_true] at ey;exact List.any_eq_true.2 ⟨y,hy,by rw [Bool.and_eq_true];exact ⟨ey.1,h.hasI ey.2⟩⟩
   · rw [if_neg h3]
theorem ExtL.named {l m:List TypI} (h:ExtL l m) {t u:TypI} (x:ExtT t u) {r:RelI} (k:RightN l t r):RightN m u r :=
 ⟨x.has k.view,x.has k.edit,x.has k.check,fun s hs=>h.sub (k.subs s hs),k.twice,fun o ho=>h.op x (k.ops o ho)⟩
theorem Right.more {l:List TypI} (h:Right l) {n:ByteArray} (hn:∀t ∈ l,t.name≠n) (h8:l.length<8):Right (l ++ [⟨n,[]⟩]):=by
 have hx:ExtL l (l ++ [⟨n,[]⟩]):=fun m t e=>⟨t,by unfold zdA at *;rw [List.find?_append,e];rfl,ExtT.refl t⟩;refine ⟨by rw [List.length_append];show l.length + 1≤8;omega,?_,fun t ht=>?_,fun t ht r hr=>?_⟩
 · rw [List.map_append,List.nodup_append];refine ⟨h.names,by simp,fun a ha b hb e=>?_⟩;obtain ⟨t,ht,rfl⟩:=List.mem_map.1 ha;simp only [List.map_cons,List.map_nil,List.mem_singleton] at hb;exact hn t ht (e.trans hb)
 · rcases List.mem_append.1 ht with ht | ht
   · exact h.rels t ht
   · rw [List.mem_singleton.1 ht];exact ⟨Nat.zero_le _,by simp,fun r hr=>by cases hr⟩
 · rcases List.mem_append.1 ht with ht | ht
   · exact (ziA _ _ _).2 (hx.named (ExtT.refl t) (h.all ht hr))
   · rw [List.mem_singleton.1 ht] at hr;cases hr
end Go.Proofs.YtahegpfdbgbioaaGreat
namespace Go.Proofs.YtahegpfdbgbioaaGreat
open Go.ChangeShapes Go.WideShapes Go.ChangeAt Go.RowKit
theorem zf2 {α:Type} {sz:Nat}:∀{E:List (List α)},(∀l ∈ E,l.length=sz)→∀{i r:Nat} {l:List α},E[i]? = some l→r<sz→E.flatten[i * sz + r]? = l[r]?
 | [],_,i,r,l,h,_=>by simp at h
 | c::E,hE,i,r,l,h,hr=>by
  have hc:=hE c (List.mem_cons_self ..);rw [List.flatten_cons];cases i with
  | zero =>
   simp at h;subst h;rw [Nat.zero_mul,Nat.zero_add,List.getElem?_append_left (by rw [hc];exact hr)]
  | succ i =>
   rw [List.getElem?_append_right (by rw [hc,Nat.succ_mul];omega),hc,show (i + 1) * sz + r-sz=i * sz + r from by rw [Nat.succ_mul];omega];exact zf2 (fun d hd=>hE d (List.mem_cons_of_mem _ hd)) (by simpa using h) hr
section
variable {H:Type} {enc:TypeId × Value→H} {P:Program} {W:World} {base:Nat} {spare:Nat→Bool} {held:Bool}
def zjU (s:ByteArray × ByteArray):List Value:=[.string s.1,.string s.2]
def aOp (o:OpI):List Value:=[.int .i64 o.1,.string o.2.1,.string o.2.2]
end
structure RelA where
 name:ByteArray
 view:ByteArray
 edit:ByteArray
 check:ByteArray
 As:Option Addr
 cs:Nat
 subs:List (ByteArray × ByteArray)
 Ao:Option Addr
 co:Nat
 ops:List OpI
def RelA.cells (a:RelA):List Value:=[.string a.name,.string a.view,.string a.edit,.string a.check,.slice a.As a.subs.length a.cs,.slice a.Ao a.ops.length a.co]
def RelA.says (a:RelA):RelI:=⟨a.name,a.view,a.edit,a.check,a.subs,a.ops⟩
structure RelA.ok (W:World) (R:Nat) (a:RelA):Prop where
 name:a.name.size≤R
 view:a.view.size≤R
 edit:a.edit.size≤R
 check:a.check.size≤R
 subs:Rd W W.heap.size 2 a.As a.subs.length a.cs (a.subs.flatMap zjU)
 subn:a.subs.length * 32≤R
 subz:∀s ∈ a.subs,s.1.size≤R∧s.2.size≤R
 ops:Rd W W.heap.size 3 a.Ao a.ops.length a.co (a.ops.flatMap aOp)
 opn:a.ops.length * 40≤R
 opz:∀o ∈ a.ops,(Lit.int .i64 o.1).wf=true∧o.2.1.size≤R∧o.2.2.size≤R
structure TypA where
 name:ByteArray
 A:Option Addr
 c:Nat
 rels:List RelA
def TypA.cells (a:TypA):List Value:=[.string a.name,.slice a.A a.rels.length a.c]
def TypA.says (a:TypA):TypI:=⟨a.name,a.rels.map RelA.says⟩
structure TypA.ok (W:World) (R:Nat) (a:TypA):Prop where
 name:a.name.size≤R
 rels:Rd W W.heap.size 6 a.A a.rels.length a.c (a.rels.flatMap RelA.cells)
 reln:a.rels.length * 112≤R
 relz:∀r ∈ a.rels,r.ok W R
section
variable {H:Type} {enc:TypeId × Value→H} {W:World} {base:Nat} {spare:Nat→Bool} {held:Bool}
end
end Go.Proofs.YtahegpfdbgbioaaGreat
