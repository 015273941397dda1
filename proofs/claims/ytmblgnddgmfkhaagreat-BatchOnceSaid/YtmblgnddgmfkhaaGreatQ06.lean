import Derived.Shelf.SlSortCmp.WholeK
import Derived.Shelf.SlicesG.Cmp
import Derived.Shelf.Small.Bits
import Derived.Shelf.Bits.Mul64
import Derived.Lib.OthersKept
import Derived.Test.YtmblgnddgmfkhaaGreatProg
import Derived.Test.YtmblgnddgmfkhaaGreatRows
import Derived.Test.YtmblgnddgmfkhaaGreatQ01
import Derived.Test.YtmblgnddgmfkhaaGreatQ05
set_option maxRecDepth 100000
set_option maxHeartbeats 4000000
namespace Go.Proofs.YtmblgnddgmfkhaaGreat
section
variable {k:Int}
abbrev OpI:=Int × ByteArray × ByteArray
structure RelI where
 name:ByteArray
 view:ByteArray
 edit:ByteArray
 check:ByteArray
 subs:List (ByteArray × ByteArray)
 ops:List OpI
 deriving DecidableEq
structure TypI where
 name:ByteArray
 rels:List RelI
 deriving DecidableEq
def zph (l:List TypI) (n:ByteArray):Option TypI:=l.find? fun t=>decide (t.name=n)
def zmu (t:TypI) (n:ByteArray):Option RelI:=t.rels.find? fun r=>decide (r.name=n)
def hasT (l:List TypI) (n:ByteArray):Bool:=(zph l n).isSome
def zf5 (t:TypI) (n:ByteArray):Bool:=(zmu t n).isSome
def findI (l:List TypI) (ty re:ByteArray):Option RelI:=(zph l ty).bind fun t=>zmu t re
def hasI (l:List TypI) (ty re:ByteArray):Bool:=(findI l ty re).isSome
def zpS (l:List TypI) (r:RelI) (next:ByteArray):Bool:=r.subs.any fun x=>decide (x.2=⟨#[]⟩) && hasI l x.1 next
def zmP (l:List TypI) (t:TypI) (o:OpI):Bool :=
 if o.1=2 then zf5 t o.2.1
 else if o.1=3 then (match zmu t o.2.1 with
  | none=>false
  | some r=>zpS l r o.2.2)
 else true
def zq8 (l:List TypI) (x:ByteArray × ByteArray):Bool:=hasT l x.1 && (decide (x.2=⟨#[]⟩) || hasI l x.1 x.2)
def zga (l:List TypI):List (ByteArray × ByteArray)→List (ByteArray × ByteArray)→Nat
 | _,[]=>0
 | ahead,x::r=>if zq8 l x=false then 31 else if ahead.any (fun y=>decide (y=x))=true then 32 else zga l (ahead ++ [x]) r
def zdo (l:List TypI) (t:TypI) (r:RelI):Nat :=
 if (zf5 t r.view && (zf5 t r.edit && zf5 t r.check))=false then 31
 else if zga l [] r.subs≠0 then zga l [] r.subs
 else if r.ops.all (zmP l t)=false then 31 else 0
def zjk (t:TypI) (r:RelI):ByteArray:=t.name ++ ⟨#[46]⟩ ++ r.name
def zdN (t:TypI):List RelI→List RelI→Nat × ByteArray
 | _,[]=>(0,⟨#[]⟩)
 | ahead,r::q=>if ahead.any (fun x=>decide (x.name=r.name))=true then (32,zjk t r) else if 16<r.ops.length then (13,zjk t r) else zdN t (ahead ++ [r]) q
def zdb:List TypI→List TypI→Nat × ByteArray
 | _,[]=>(0,⟨#[]⟩)
 | ahead,t::q=>if ahead.any (fun x=>decide (x.name=t.name))=true then (32,t.name) else if 12<t.rels.length then (13,t.name)
  else if (zdN t [] t.rels).1≠0 then zdN t [] t.rels else zdb (ahead ++ [t]) q
def zbl (l:List TypI) (t:TypI):List RelI→Nat × ByteArray
 | []=>(0,⟨#[]⟩)
 | r::q=>if zdo l t r≠0 then (zdo l t r,zjk t r) else zbl l t q
def zbH (l:List TypI):List TypI→Nat × ByteArray
 | []=>(0,⟨#[]⟩)
 | t::q=>if (zbl l t t.rels).1≠0 then zbl l t t.rels else zbH l q
def zcV (l:List TypI):Nat × ByteArray :=
 if 8<l.length then (13,⟨#[]⟩) else if (zdb [] l).1≠0 then zdb [] l else zbH l l
structure RightR (t:TypI):Prop where
 few:t.rels.length≤12
 names:(t.rels.map (·.name)).Nodup
 ops:∀r ∈ t.rels,r.ops.length≤16
structure Right (l:List TypI):Prop where
 few:l.length≤8
 names:(l.map (·.name)).Nodup
 rels:∀t ∈ l,RightR t
 named:∀t ∈ l,∀r ∈ t.rels,zdo l t r=0
theorem zm3 (t:TypI):∀(q ahead:List RelI),(ahead.map (·.name)).Nodup →
 ((zdN t ahead q).1=0↔((ahead ++ q).map (·.name)).Nodup∧∀r ∈ q,r.ops.length≤16)∧((zdN t ahead q).1=0→zdN t ahead q=(0,⟨#[]⟩))
 | [],ahead,h=>⟨⟨fun _=>⟨by rw [yaJ];exact h,fun r n=>by cases n⟩,fun _=>rfl⟩,fun _=>rfl⟩
 | r::q,ahead,h=>by
  unfold zdN;by_cases f:ahead.any (fun x=>decide (x.name=r.name))=true
  · rw [yan f];refine ⟨⟨fun e=>(by cases e),fun ⟨e,_⟩=>?_⟩,fun e=>(by cases e)⟩;obtain ⟨x,d,g⟩:=ybM.1 f;have g:=yaQ g;rw [yaL,ya7] at e;exact absurd g (e.2.2 x.name (ybj d) r.name (ybj yat))
  · rw [yak f];by_cases m:16<r.ops.length
    · rw [yan m];refine ⟨⟨fun e=>(by cases e),fun ⟨_,e⟩=>?_⟩,fun e=>(by cases e)⟩;have:=e r yat;omega
    · rw [yak m];have j:((ahead ++ [r]).map (·.name)).Nodup:=by
       rw [yaL,ya7];refine ⟨h,by simp,fun a o b hb=>?_⟩;obtain ⟨x,d,rfl⟩:=yaN.1 o;simp only [yaW,ycC,yas] at hb;subst hb;intro e;exact f (ybM.2 ⟨x,d,yaD e⟩)
      obtain ⟨ih,k⟩:=zm3 t q (ahead ++ [r]) j;rw [yaB,yb3] at ih;refine ⟨ih.trans ⟨fun ⟨a,b⟩=>⟨a,fun x d=>?_⟩,fun ⟨a,b⟩=>⟨a,fun x d=>b x (yau _ d)⟩⟩,k⟩;rcases yav.1 d with rfl | d
      · omega
      · exact b x d
theorem znl:∀(q ahead:List TypI),(ahead.map (·.name)).Nodup →
 ((zdb ahead q).1=0↔((ahead ++ q).map (·.name)).Nodup∧∀t ∈ q,RightR t)∧((zdb ahead q).1=0→zdb ahead q=(0,⟨#[]⟩))
 | [],ahead,h=>⟨⟨fun _=>⟨by rw [yaJ];exact h,fun r f=>by cases f⟩,fun _=>rfl⟩,fun _=>rfl⟩
 | t::q,ahead,h=>by
  unfold zdb;by_cases j:ahead.any (fun x=>decide (x.name=t.name))=true
  · rw [yan j];refine ⟨⟨fun e=>(by cases e),fun ⟨e,_⟩=>?_⟩,fun e=>(by cases e)⟩;obtain ⟨x,d,m⟩:=ybM.1 j;have m:=yaQ m;rw [yaL,ya7] at e;exact absurd m (e.2.2 x.name (ybj d) t.name (ybj yat))
  · rw [yak j];by_cases p:12<t.rels.length
    · rw [yan p];refine ⟨⟨fun e=>(by cases e),fun ⟨_,e⟩=>?_⟩,fun e=>(by cases e)⟩;have:=(e t yat).few;omega
    · rw [yak p];obtain ⟨f,s⟩:=zm3 t t.rels [] yaf;rw [yba] at f;by_cases g:(zdN t [] t.rels).1=0
      · rw [yak (by simpa using g)];have n:((ahead ++ [t]).map (·.name)).Nodup:=by
         rw [yaL,ya7];refine ⟨h,by simp,fun a u b hb=>?_⟩;obtain ⟨x,d,rfl⟩:=yaN.1 u;simp only [yaW,ycC,yas] at hb;subst hb;intro e;exact j (ybM.2 ⟨x,d,yaD e⟩)
        obtain ⟨ih,o⟩:=znl q (ahead ++ [t]) n;rw [yaB,yb3] at ih;refine ⟨ih.trans ⟨fun ⟨a,b⟩=>⟨a,fun x d=>?_⟩,fun ⟨a,b⟩=>⟨a,fun x d=>b x (yau _ d)⟩⟩,o⟩;rcases yav.1 d with rfl | d
        · exact ⟨by omega,(f.1 g).1,(f.1 g).2⟩
        · exact b x d
      · rw [yan g];refine ⟨⟨fun e=>absurd e g,fun ⟨_,e⟩=>?_⟩,fun e=>absurd e g⟩;have k:=e t yat;exact f.2 ⟨k.names,k.ops⟩
theorem ziq (l:List TypI) (t:TypI):∀q:List RelI,((zbl l t q).1=0↔∀r ∈ q,zdo l t r=0)∧((zbl l t q).1=0→zbl l t q=(0,⟨#[]⟩))
 | []=>⟨⟨fun _ r f=>(by cases f),fun _=>rfl⟩,fun _=>rfl⟩
 | r::q=>by
  obtain ⟨ih,d⟩:=ziq l t q;unfold zbl;by_cases h:zdo l t r=0
  · rw [yak (by simpa using h)];refine ⟨ih.trans ⟨fun a x b=>?_,fun a x b=>a x (yau _ b)⟩,d⟩;rcases yav.1 b with rfl | b
    · exact h
    · exact a x b
  · rw [yan h];exact ⟨⟨fun e=>absurd e h,fun a=>absurd (a r yat) h⟩,fun e=>absurd e h⟩
theorem zks (l:List TypI):∀q:List TypI,((zbH l q).1=0↔∀t ∈ q,∀r ∈ t.rels,zdo l t r=0)∧((zbH l q).1=0→zbH l q=(0,⟨#[]⟩))
 | []=>⟨⟨fun _ r d=>(by cases d),fun _=>rfl⟩,fun _=>rfl⟩
 | t::q=>by
  obtain ⟨ih,f⟩:=zks l q;obtain ⟨d,g⟩:=ziq l t t.rels;unfold zbH;by_cases h:(zbl l t t.rels).1=0
  · rw [yak (by simpa using h)];refine ⟨ih.trans ⟨fun a x b=>?_,fun a x b=>a x (yau _ b)⟩,f⟩;rcases yav.1 b with rfl | b
    · exact d.1 h
    · exact a x b
  · rw [yan h];exact ⟨⟨fun e=>absurd e h,fun a=>d.2 (a t yat)⟩,fun e=>absurd e h⟩
theorem zgG (l:List TypI):((zcV l).1=0↔Right l)∧((zcV l).1=0→zcV l=(0,⟨#[]⟩)):=by
 obtain ⟨d,k⟩:=znl l [] yaf;obtain ⟨g,j⟩:=zks l l;rw [yba] at d;unfold zcV;by_cases f:8<l.length
 · rw [yan f];refine ⟨⟨fun e=>(by cases e),fun e=>?_⟩,fun e=>(by cases e)⟩;have:=e.few;omega
 · rw [yak f];by_cases b:(zdb [] l).1=0
   · rw [yak (by simpa using b)];refine ⟨g.trans ⟨fun a=>⟨by omega,(d.1 b).1,(d.1 b).2,a⟩,fun e=>e.named⟩,j⟩
   · rw [yan b];exact ⟨⟨fun e=>absurd e b,fun e=>d.2 ⟨e.names,e.rels⟩⟩,fun e=>absurd e b⟩
abbrev Path:=ByteArray × ByteArray
def zar (ps:List Path) (q:Path):Option Nat:=ps.zipIdx.foldl (fun a p=>if p.1=q then some p.2 else a) none
theorem zg1 (ps:List Path) (p q:Path):zar (ps ++ [p]) q=if p=q then some ps.length else zar ps q:=by
 unfold zar;rw [ycx,yci];simp
theorem zb0 {ps:List Path} {q:Path} {i:Nat} (h:zar ps q=some i):ps[i]? = some q:=by
 suffices H:∀n (ps:List Path),ps.length=n→∀i,zar ps q=some i→ps[i]? = some q from H _ ps rfl i h
 intro n;induction n with
 | zero=>intro ps b i h;rw [yaY b] at h;simp [zar] at h
 | succ n ih =>
  intro ps b i h;rcases ybI ps with rfl | ⟨d,p,rfl⟩
  · simp at b
  · rw [yb0] at *
    rw [zg1] at h;by_cases e:p=q
    · rw [yan e] at h;cases h;subst e;simp
    · rw [yak e] at h;have:=ih d (by simpa using b) i h;have f:=(yao.1 this).1;rw [ybr f];exact this
def zbc (l:List TypI):List (TypI × RelI):=l.flatMap fun t=>t.rels.map fun r=>(t,r)
def za4 (l:List TypI):List Path:=(zbc l).map fun x=>(x.1.name,x.2.name)
def zeC (l:List Path):List Path:=l.filter fun s=>!decide (s.2=⟨#[]⟩)
def zbI (l:List Path) (n:ByteArray):List Path:=(l.filter fun s=>decide (s.2=⟨#[]⟩)).map fun s=>(s.1,n)
def zdL (ps:List Path) (rs:List RelI) (tn:ByteArray) (subs:List Path) (o:OpI):List Path :=
 if o.1=1 then zeC subs
 else if o.1=2 then [(tn,o.2.1)]
 else if o.1=3 then (match zar ps (tn,o.2.1) with
  | some i=>(match rs[i]? with
   | some x=>zbI x.subs o.2.2
   | none=>[])
  | none=>[])
 else []
def zc3 (ps:List Path) (rs:List RelI) (tn:ByteArray) (subs:List Path) (o:OpI):List Nat:=(zdL ps rs tn subs o).filterMap (zar ps)
def zfm (m:List Int) (i:Nat) (d:Int):List Int:=m.set i (m.getD i 0 + d)
def zcA (s:List Int × List Nat) (i:Nat) (k:Int):List Int × List Nat :=
 if k=1∨k=2∨k=3 then (s.1,s.2 ++ [i])
 else if k=4∨k=5∨k=6 then
  (if s.2.length<2 then s
   else (if k=6 then zfm (zfm s.1 (s.2.getD (s.2.length-1) 0) 1) i (-1) else s.1,s.2.take (s.2.length-1)))
 else s
def zin (s:List Int × List Nat) (i:Nat):List OpI→List Int × List Nat
 | []=>s
 | o::r=>zin (zcA s i o.1) (i + 1) r
theorem zp6 (s:List Int × List Nat) (i:Nat) (l:List OpI) (o:OpI):zin s i (l ++ [o])=zcA (zin s i l) (i + l.length) o.1:=by
 induction l generalizing s i with
 | nil=>rfl
 | cons a t ih=>rw [ybs,zin,ih,zin,yaq,Nat.add_right_comm,←ya4]
def zf9 (m:List Int):Nat→List Int
 | 0=>m
 | j + 1=>(zf9 m j).set (j + 1) ((zf9 m j).getD (j + 1) 0 + (zf9 m j).getD j 0)
def zkq (l:List OpI):List Int:=(zin (List.replicate (l.length + 1) 0,[]) 0 l).1
def zb7 (l:List OpI) (i:Nat):Bool:=decide (0<(zf9 (zkq l) l.length).getD i 0)
theorem zgv (m:List Int) (i:Nat) (d:Int):(zfm m i d).length=m.length:=by unfold zfm;rw [yb8]
theorem zp7 (s:List Int × List Nat) (i:Nat) (k:Int):(zcA s i k).1.length=s.1.length:=by
 unfold zcA;split
 · rfl
 · split
   · split
     · rfl
     · split
       · rw [zgv,zgv]
       · rfl
   · rfl
theorem mrun_len (s:List Int × List Nat) (i:Nat) (l:List OpI):(zin s i l).1.length=s.1.length:=by
 induction l generalizing s i with
 | nil=>rfl
 | cons a t ih=>rw [zin,ih,zp7]
theorem zmZ (m:List Int) (j:Nat):(zf9 m j).length=m.length:=by
 induction j with
 | zero=>rfl
 | succ j ih=>rw [zf9,yb8,ih]
theorem mrun_beg (l:List OpI):∀(s:List Int × List Nat) (i:Nat),(zin s i l).2.length≤s.2.length + l.length:=by
 induction l with
 | nil=>intro s i;exact yaj _
 | cons o r ih =>
  intro s i;have b:=ih (zcA s i o.1) (i + 1);have d:(zcA s i o.1).2.length≤s.2.length + 1:=by
   unfold zcA;split
   · simp
   · split
     · split
       · omega
       · rw [yaK];omega
     · omega
  rw [zin,yaq];omega
theorem mrun_lt (l:List OpI):∀(s:List Int × List Nat) (i:Nat),(∀b ∈ s.2,b<i)→∀b ∈ (zin s i l).2,b<i + l.length:=by
 induction l with
 | nil=>intro s i h b hb;exact h b hb
 | cons o r ih =>
  intro s i h b hb;have:=ih (zcA s i o.1) (i + 1) (fun c d=>by
   unfold zcA at d;split at d
   · rcases yaz.1 d with q | q
     · have:=h c q;omega
     · rw [yas.1 q];omega
   · split at d
     · split at d
       · have:=h c d;omega
       · have:=h c (yb4 d);omega
     · have:=h c d;omega) b hb
  rw [yaq];omega
def Small (m:List Int) (k:Int):Prop:=∀x ∈ m,-k≤x∧x≤k
theorem zeo {m:List Int} (h:Small m k) (i:Nat) (d:Int) (hk:0≤k) (hd : -1≤d∧d≤1):Small (zfm m i d) (k + 1):=by
 intro x b;unfold zfm at b;rcases ycl b with b | rfl
 · have:=h x b;omega
 · rw [ya5];cases hi:m[i]? with
   | none=>simp;omega
   | some y=>have:=h y (yar hi);simp;omega
theorem zlJ {s:List Int × List Nat} (h:Small s.1 k) (i:Nat) (o:Int) (hk:0≤k):Small (zcA s i o).1 (k + 2):=by
 have up:∀{m:List Int},Small m k→Small m (k + 2):=fun q x b=>by have:=q x b;omega
 unfold zcA;split
 · exact up h
 · split
   · split
     · exact up h
     · split
       · have:=zeo (zeo h (s.2.getD (s.2.length-1) 0) 1 hk yab) i (-1) yab yab;rw [Int.add_assoc] at this;exact this
       · exact up h
   · exact up h
theorem zio (l:List OpI):∀(s:List Int × List Nat) (i:Nat) (k:Int),0≤k→Small s.1 k→Small (zin s i l).1 (k + 2 * l.length):=by
 induction l with
 | nil=>intro s i k _ h;simpa [zin] using h
 | cons o r ih =>
  intro s i k hk h;have:=ih (zcA s i o.1) (i + 1) (k + 2) yab (zlJ h i o.1 hk);rw [yaq];intro x b;have:=this x b;omega
theorem zn9 {m:List Int} (h:Small m k) (hk:0≤k) (j:Nat):Small (zf9 m j) (k * (j + 1))∧(∀i,j<i→(zf9 m j).getD i 0=m.getD i 0):=by
 induction j with
 | zero=>exact ⟨by simpa [zf9] using h,fun _ _=>rfl⟩
 | succ j ih =>
  obtain ⟨o,p⟩:=ih;have g:∀(d:List Int) (b:Int),0≤b→Small d b→∀i,-b≤d.getD i 0∧d.getD i 0≤b:=fun d b hb q i=>by
   rw [ya5];cases hi:d[i]? with
   | none=>simp;omega
   | some y=>have:=q y (yar hi);simpa using this
  have s:0≤k * (j:Int):=Int.mul_nonneg hk yab;have n:k * ((j:Int) + 1)=k * j + k:=by rw [Int.mul_add,Int.mul_one]
  have u:k * (((j + 1:Nat):Int) + 1)=k * j + k + k:=by rw [Int.natCast_add,Int.mul_add,Int.mul_add];simp
  refine ⟨fun x f=>?_,fun i hi=>?_⟩
  · rw [zf9] at f;rw [u];rcases ycl f with f | rfl
    · have:=o x f;rw [n] at this;omega
    · rw [p (j + 1) (by omega)];have A:=g m k hk h (j + 1);have z:=g _ _ (by rw [n];omega) o j;rw [n] at z;omega
  · rw [zf9,ya5,ycm yab,←ya5];exact p i yab
def opsE (ps:List Path) (rs:List RelI) (tn:ByteArray) (r:RelI) (from_:Nat) (i:Nat) (o:OpI):List Ed:=(zc3 ps rs tn r.subs o).map fun to'=>((from_:Int),((to':Nat):Int),zb7 r.ops i)
def relE (ps:List Path) (rs:List RelI) (tn:ByteArray) (r:RelI) (from_:Nat):List Ed:=(r.ops.zipIdx).flatMap fun x=>opsE ps rs tn r from_ x.2 x.1
def zbq (l:List TypI):List Ed:=((zbc l).zipIdx).flatMap fun x=>relE (za4 l) ((zbc l).map (·.2)) x.1.1.name x.1.2 x.2
end
section
open Go.Shelf Go.RowKit Go.Lib Go.Sort
def zlB:Go.Shelf.Ren:=⟨fun | 212=>166 | 263=>222 | 264=>223 | n=>n,fun | 46=>258 | 51=>315 | 146=>337 | 53=>103 | 148=>339 | n=>n,fun | n=>n⟩
theorem lays212:Go.Proofs.Lays.n212 Tryz.prog zlB:={
 mixed:=by kernel_rfl
 f212:=Tryz.func166.trans (congrArg some yaa)
 f263:=Tryz.func222.trans (congrArg some yaa)
 f264:=Tryz.func223.trans (congrArg some yaa)
 t46:=Tryz.underlying258
 a46:=Tryz.isAgg258
 z46:=Tryz.sizeOf258
 v46:=Tryz.zeroValue258
 t51:=Tryz.underlying315
 a51:=Tryz.isAgg315
 z51:=Tryz.sizeOf315
 v51:=Tryz.zeroValue315
 t53:=Tryz.underlying103
 a53:=Tryz.isAgg103
 z53:=Tryz.sizeOf103
 v53:=Tryz.zeroValue103
 t146:=Tryz.underlying337
 a146:=Tryz.isAgg337
 z146:=Tryz.sizeOf337
 v146:=Tryz.zeroValue337
 t148:=Tryz.underlying339
 a148:=Tryz.isAgg339
 z148:=Tryz.sizeOf339
 v148:=Tryz.zeroValue339 }
def zlD:Go.Shelf.Ren:=⟨fun | 5=>146 | 7=>196 | n=>n,fun | 22=>3 | 3=>3 | 4=>4 | n=>n,fun | n=>n⟩
theorem laysCmp:Go.Proofs.SlLaysC2.n5 Tryz.prog zlD:={
 mixed:=by kernel_rfl
 f5:=⟨Tryz.f146.name,by decide,Tryz.func146.trans (congrArg some yaa)⟩
 f7:=⟨Tryz.f196.name,by decide,Tryz.func196.trans (congrArg some yaa)⟩
 t3:=Tryz.underlying3
 a3:=Tryz.isAgg3
 z3:=Tryz.sizeOf3
 v3:=Tryz.zeroValue3
 t4:=Tryz.underlying4
 a4:=Tryz.isAgg4
 z4:=Tryz.sizeOf4
 v4:=Tryz.zeroValue4
 t22:=Tryz.underlying3
 a22:=Tryz.isAgg3
 z22:=Tryz.sizeOf3
 v22:=Tryz.zeroValue3 }
def zfW:Go.Shelf.Ren:=⟨fun | 6=>176 | 15=>144 | 14=>226 | 28=>195 | 29=>137 | 20=>249 | 21=>250 | 22=>251 | 23=>252 | 24=>253 | 25=>254 | 26=>255 | 27=>256 | 46=>278 | 47=>235 | 48=>236 | 49=>279 | 50=>280 | 57=>287 | n=>n,fun | 22=>149 | 24=>207 | 25=>228 | 3=>3 | 39=>258 | 0=>0 | 53=>315 | 55=>103 | 4=>4 | 46=>309 | 45=>308 | 50=>154 | 5=>5 | 9=>9 | 66=>358 | 70=>361 | 76=>375 | 77=>376 | n=>n,fun | n=>n⟩
theorem zmK:Go.Proofs.SlLaysF0.n6 Tryz.prog zfW:={
 mixed:=by kernel_rfl
 f6:=⟨Tryz.f176.name,by decide,Tryz.func176.trans (congrArg some yaa)⟩
 f14:=⟨Tryz.f226.name,by decide,Tryz.func226.trans (congrArg some yaa)⟩
 f15:=Tryz.func144.trans (congrArg some yaa)
 f20:=⟨Tryz.f249.name,by decide,Tryz.func249.trans (congrArg some yaa)⟩
 f21:=⟨Tryz.f250.name,by decide,Tryz.func250.trans (congrArg some yaa)⟩
 f22:=⟨Tryz.f251.name,by decide,Tryz.func251.trans (congrArg some yaa)⟩
 f23:=⟨Tryz.f252.name,by decide,Tryz.func252.trans (congrArg some yaa)⟩
 f24:=⟨Tryz.f253.name,by decide,Tryz.func253.trans (congrArg some yaa)⟩
 f25:=⟨Tryz.f254.name,by decide,Tryz.func254.trans (congrArg some yaa)⟩
 f26:=⟨Tryz.f255.name,by decide,Tryz.func255.trans (congrArg some yaa)⟩
 f27:=⟨Tryz.f256.name,by decide,Tryz.func256.trans (congrArg some yaa)⟩
 f28:=Tryz.func195.trans (congrArg some yaa)
 f29:=Tryz.func137.trans (congrArg some yaa)
 f46:=⟨Tryz.f278.name,by decide,Tryz.func278.trans (congrArg some yaa)⟩
 f47:=Tryz.func235.trans (congrArg some yaa)
 f48:=Tryz.func236.trans (congrArg some yaa)
 f49:=⟨Tryz.f279.name,by decide,Tryz.func279.trans (congrArg some yaa)⟩
 f50:=⟨Tryz.f280.name,by decide,Tryz.func280.trans (congrArg some yaa)⟩
 f57:=⟨Tryz.f287.name,by decide,Tryz.func287.trans (congrArg some yaa)⟩
 t0:=Tryz.underlying0
 a0:=Tryz.isAgg0
 z0:=Tryz.sizeOf0
 v0:=Tryz.zeroValue0
 t3:=Tryz.underlying3
 a3:=Tryz.isAgg3
 z3:=Tryz.sizeOf3
 v3:=Tryz.zeroValue3
 t4:=Tryz.underlying4
 a4:=Tryz.isAgg4
 z4:=Tryz.sizeOf4
 v4:=Tryz.zeroValue4
 t5:=Tryz.underlying5
 a5:=Tryz.isAgg5
 z5:=Tryz.sizeOf5
 v5:=Tryz.zeroValue5
 t9:=Tryz.underlying9
 a9:=Tryz.isAgg9
 z9:=Tryz.sizeOf9
 v9:=Tryz.zeroValue9
 t22:=Tryz.underlying149
 a22:=Tryz.isAgg149
 z22:=Tryz.sizeOf149
 v22:=Tryz.zeroValue149
 t25:=Tryz.underlying228
 a25:=Tryz.isAgg228
 z25:=Tryz.sizeOf228
 v25:=Tryz.zeroValue228
 t39:=Tryz.underlying258
 a39:=Tryz.isAgg258
 z39:=Tryz.sizeOf258
 v39:=Tryz.zeroValue258
 t45:=Tryz.underlying308
 a45:=Tryz.isAgg308
 z45:=Tryz.sizeOf308
 v45:=Tryz.zeroValue308
 t46:=Tryz.underlying309
 a46:=Tryz.isAgg309
 z46:=Tryz.sizeOf309
 v46:=Tryz.zeroValue309
 t50:=Tryz.underlying154
 a50:=Tryz.isAgg154
 z50:=Tryz.sizeOf154
 v50:=Tryz.zeroValue154
 t53:=Tryz.underlying315
 a53:=Tryz.isAgg315
 z53:=Tryz.sizeOf315
 v53:=Tryz.zeroValue315
 t55:=Tryz.underlying103
 a55:=Tryz.isAgg103
 z55:=Tryz.sizeOf103
 v55:=Tryz.zeroValue103
 t66:=Tryz.underlying358
 a66:=Tryz.isAgg358
 z66:=Tryz.sizeOf358
 v66:=Tryz.zeroValue358
 t70:=Tryz.underlying361
 a70:=Tryz.isAgg361
 z70:=Tryz.sizeOf361
 v70:=Tryz.zeroValue361
 t76:=Tryz.underlying375
 a76:=Tryz.isAgg375
 z76:=Tryz.sizeOf375
 v76:=Tryz.zeroValue375
 t77:=Tryz.underlying376
 a77:=Tryz.isAgg376
 z77:=Tryz.sizeOf376
 v77:=Tryz.zeroValue376 }
end
section
open Go.RowKit
variable {s:ByteArray}
theorem za1 {a b:Bool} (h:a=b):Ending.returned (.bool a) = .returned (.bool b):=by rw [h]
def preB (s t:ByteArray):Bool:=decide (t.size≤s.size∧s.extract 0 t.size=t)
def badB (s:ByteArray) (i:Nat):Bool:=decide (i + 3≤s.size∧bt s i=239∧bt s (i + 1)=191∧bt s (i + 2)=189)
theorem pre_any (s t:ByteArray) (w:World) :
 Calls Tryz.prog 270 #[.string s,.string t] w fun e w'=>e = .returned (.bool (preB s t))∧w=w':=by
 by_cases h:t.size≤s.size
 · go_enter Tryz.func270,Tryz.ntmps270
   go_wp2
   go_ret
   exact ⟨za1 (by unfold preB;rw [toList_inj,ya6];simp [h]),rfl⟩
 · go_enter Tryz.func270,Tryz.ntmps270
   go_wp2
   go_ret
   exact ⟨za1 (by unfold preB;simp [h]),rfl⟩
theorem hp_any (s:ByteArray) (i:Nat) (w:World) (h:i<s.size) :
 Calls Tryz.prog 243 #[.string (s.extract i s.size),.string ⟨#[239,191,189]⟩] w fun e w'=>e = .returned (.bool (badB s i))∧w=w':=by
 go_enter Tryz.func243,Tryz.ntmps243
 go_wp2_with ((refine (pre_any _ sBad _).mono ?_);rintro e w' ⟨rfl,rfl⟩)
 go_ret
 exact ⟨za1 (pre_bad h),rfl⟩
theorem inname_any (z:Int) (r:Nat) (w:World) (hz:z=r) :
 Calls Tryz.prog 231 #[.int .i32 z] w fun e w'=>e = .returned (.bool (zbE r))∧w=w':=by
 subst hz;go_enter Tryz.func231,Tryz.ntmps231
 go_wp2
 all_goals go_ret
 all_goals (refine ⟨za1 ?_,rfl⟩;unfold zbE;try simp only [ybS,ybc,ne_eq] at *)
 all_goals first
  | (symm;exact yaD yab)
  | (rw [ya6];simp only [yaP];omega)
theorem broken_any (s:ByteArray) (i:Nat) (z r:Int) (w:World) (hz:z=i) (hr:r=(rn s i:Int)) (h:i<s.size) :
 Calls Tryz.prog 230 #[.string s,.int .i64 z,.int .i32 r] w fun e w'=>e = .returned (.bool (brk s i))∧w=w':=by
 have E:=Lib.hid (brk_eq h);by_cases b:rn s i=65533
 · have f:(r == 65533)=true:=by simp [hr,b]
   subst hz;have g:=Lib.hid hr;have d:=Lib.hid b;clear hr b;go_enter Tryz.func230,Tryz.ntmps230
   go_wp2_with ((refine (hp_any s i _ h).mono ?_);rintro e w' ⟨rfl,rfl⟩)
   go_ret
   exact ⟨za1 (by rw [E.out,d.out];unfold badB;simp),rfl⟩
 · have f:(r == 65533)=false:=by simp [hr];omega
   subst hz;have g:=Lib.hid hr;have d:=Lib.hid b;clear hr b;go_enter Tryz.func230,Tryz.ntmps230
   go_wp2_with ((refine (hp_any s i _ h).mono ?_);rintro e w' ⟨rfl,rfl⟩)
   go_ret
   exact ⟨za1 (by rw [E.out,yaH d.out];rfl),rfl⟩
def zpA (w wr:World) (s:ByteArray) (p:Nat):Prop:=wr.heap[w.heap.size]? = some (.stringIter s p)
theorem zcg (w:World) (s:ByteArray):zpA w (w.iter s 0) s 0:=World.iter_heap w s 0
theorem zbF (w:World) (s:ByteArray):Below w.heap.size w (w.iter s 0):=(Below.refl _ w).alloc (yaj _) _
theorem zho (s:ByteArray) (p:Nat):((Utf8.decode s p).1:Int)=(rn s p:Int):=rfl
theorem zdn {w wr:World} {p:Nat} (h:zpA w wr s p):wr.iterPos w.heap.size=p:=by unfold zpA at h;simp only [World.iterPos,h]
theorem count_any (s:ByteArray) (w:World) (hs:s.size≤1000000) :
 Calls Tryz.prog 214 #[.string s] w fun e w'=>e = .returned (.int .i64 (cnt s))∧Below w.heap.size w w':=by
 go_enter Tryz.func214,Tryz.ntmps214
 go_wp2
 go_loopw [3] (fun n wr=>∃k:Nat,k≤cnt s∧n = .int .i64 k∧zpA w wr s (plc s k)∧Below w.heap.size w wr) (fun _ wr=>s.size-wr.iterPos w.heap.size)
 case atStart=>exact ⟨0,yap _,rfl,zcg w s,zbF w s⟩
 case round =>
  obtain ⟨k,hk,rfl,hit,b⟩:=hrel;have g:=Lib.hid hit;have m:=Lib.hid b;have u:=zej s;have x:=za2 s k;by_cases h:plc s k<s.size
  · have p:=zaX.2 h;have y:=zf1 h;have q:=Lib.hid (zaF h);have o:∀ty,(Instr.next (.pointer (some ⟨w.heap.size,0,none⟩)) true ty).run Tryz.prog wr=_:=fun ty=>Lib.run_next_any_at wr w.heap.size s (plc s k) ty hit h;have d:=Lib.hid (Lib.iterAt_heap wr w.heap.size s (plc s k) (plc s k + (Utf8.decode s (plc s k)).2) hit);have f:=Lib.hid (Lib.below_iterAt b (k:=w.heap.size) (yaj _) s (plc s k + (Utf8.decode s (plc s k)).2));clear hit b;go_wp2
    go_roundw
    case rel =>
     refine ⟨k + 1,by omega,by go_num,?_,f.out⟩;rw [q.out];exact d.out
    case measure=>rw [zdn g.out,zdn (w:=w) d.out];show s.size-(plc s k + wd s (plc s k))<_;omega
  · have e:=zeL h fun j z=>zaX.1 yab;have E:=Lib.hid e;have o:∀ty,(Instr.next (.pointer (some ⟨w.heap.size,0,none⟩)) true ty).run Tryz.prog wr=_:=fun ty=>Lib.run_next_end_at wr w.heap.size s (plc s k) ty hit h;clear e hit b;go_wp2
    go_ret
    exact ⟨by rw [E.out];rfl,m.out⟩
theorem valid_any (s:ByteArray) (w:World) (_:s.size≤1000000) :
 Calls Tryz.prog 208 #[.string s] w fun e w'=>e = .returned (.bool (zb4 s))∧Below w.heap.size w w':=by
 go_enter Tryz.func208,Tryz.ntmps208
 go_wp2
 go_loopw [] (fun wr=>∃k:Nat,k≤cnt s∧zpA w wr s (plc s k)∧Below w.heap.size w wr∧∀j,j<k→brk s (plc s j)=false) (fun wr=>s.size-wr.iterPos w.heap.size)
 case atStart=>exact ⟨0,yap _,zcg w s,zbF w s,fun j u=>by omega⟩
 case round =>
  obtain ⟨k,hk,hit,b,d⟩:=hrel;have f:=Lib.hid d;clear d;have n:=Lib.hid hit;have o:=Lib.hid b;have z:=zej s;have A:=za2 s k;by_cases h:plc s k<s.size
  · have p:=zaX.2 h;have B:=zf1 h;have x:=Lib.hid (zaF h);have q:∀ty,(Instr.next (.pointer (some ⟨w.heap.size,0,none⟩)) true ty).run Tryz.prog wr=_:=fun ty=>Lib.run_next_any_at wr w.heap.size s (plc s k) ty hit h;have g:=Lib.hid (Lib.iterAt_heap wr w.heap.size s (plc s k) (plc s k + (Utf8.decode s (plc s k)).2) hit);have m:=Lib.hid (Lib.below_iterAt b (k:=w.heap.size) (yaj _) s (plc s k + (Utf8.decode s (plc s k)).2));clear hit b;by_cases hb:brk s (plc s k)=true
    · go_wp2_with ((with_reducible refine (broken_any s (plc s k) _ _ _ rfl (zho s (plc s k)) h).mono ?_);rintro e w' ⟨rfl,rfl⟩)
      go_ret
      refine ⟨za1 ?_,m.out⟩;symm
      rw [ybl];intro y;have:=zcw.1 y k p;rw [hb] at this;cases this
    · rw [ybZ] at hb;go_wp2_with ((with_reducible refine (broken_any s (plc s k) _ _ _ rfl (zho s (plc s k)) h).mono ?_);rintro e w' ⟨rfl,rfl⟩)
      go_roundw
      case rel =>
       refine ⟨k + 1,by omega,?_,m.out,fun j u=>?_⟩
       · rw [x.out];exact g.out
       · by_cases e:j=k
         · subst e;exact hb
         · exact f.out j yab
      case measure=>rw [zdn n.out,zdn (w:=w) g.out];show s.size-(plc s k + wd s (plc s k))<_;omega
  · have e:=zeL h fun j u=>zaX.1 yab;have E:=Lib.hid e;have q:∀ty,(Instr.next (.pointer (some ⟨w.heap.size,0,none⟩)) true ty).run Tryz.prog wr=_:=fun ty=>Lib.run_next_end_at wr w.heap.size s (plc s k) ty hit h;clear e hit b;go_wp2
    go_ret
    exact ⟨za1 (by symm;rw [zcw,E.out];exact f.out),o.out⟩
theorem name_any (s:ByteArray) (w:World) (_:s.size≤1000000) :
 Calls Tryz.prog 182 #[.string s] w fun e w'=>e = .returned (.bool (nameS s))∧Below w.heap.size w w':=by
 go_enter Tryz.func182,Tryz.ntmps182
 go_wp2
 go_loopw [3] (fun n wr=>∃k:Nat,k≤cnt s∧n = .int .i64 k∧k≤24∧zpA w wr s (plc s k)∧Below w.heap.size w wr∧∀j,j<k→zeZ s (plc s j)=true) (fun _ wr=>s.size-wr.iterPos w.heap.size)
 case atStart=>exact ⟨0,yap _,rfl,yap _,zcg w s,zbF w s,fun j C=>by omega⟩
 case round =>
  obtain ⟨k,hk,rfl,u,hit,d,f⟩:=hrel;have g:=Lib.hid f;clear f;have x:=Lib.hid hit;have y:=Lib.hid d;have I:=zej s;have J:=za2 s k;by_cases h:plc s k<s.size
  · have o:=zaX.2 h;have K:=zf1 h;have D:=Lib.hid (zaF h);have z:∀ty,(Instr.next (.pointer (some ⟨w.heap.size,0,none⟩)) true ty).run Tryz.prog wr=_:=fun ty=>Lib.run_next_any_at wr w.heap.size s (plc s k) ty hit h;have m:=Lib.hid (Lib.iterAt_heap wr w.heap.size s (plc s k) (plc s k + (Utf8.decode s (plc s k)).2) hit);have b:=Lib.hid (Lib.below_iterAt d (k:=w.heap.size) (yaj _) s (plc s k + (Utf8.decode s (plc s k)).2));clear hit d;by_cases F:24<k + 1
    · have G:(24:Int)<(k:Int) + 1:=by omega
      go_wp2_with fail
      go_ret
      refine ⟨za1 ?_,b.out⟩;symm
      rw [ybl];intro p;have:=(zbr.1 p).2.1;omega
    · have G:¬(24:Int)<(k:Int) + 1:=by omega
      have q:zeZ s (plc s k)=(!brk s (plc s k) && zbE (rn s (plc s k))):=rfl;have A:=Lib.hid q;clear q;by_cases hb:brk s (plc s k)=true
      · go_wp2_with ((with_reducible refine (broken_any s (plc s k) _ _ _ rfl (zho s (plc s k)) h).mono ?_);rintro e w' ⟨rfl,rfl⟩)
        go_ret
        refine ⟨za1 ?_,b.out⟩;symm
        rw [ybl];intro p;have:=(zbr.1 p).2.2 k o;rw [A.out,hb] at this;cases this
      · rw [ybZ] at hb;by_cases B:zbE (rn s (plc s k))=true
        · go_wp2_with (first
           | ((with_reducible refine (broken_any s (plc s k) _ _ _ rfl (zho s (plc s k)) h).mono ?_);rintro e w' ⟨rfl,rfl⟩)
           | ((with_reducible refine (inname_any _ (rn s (plc s k)) _ (zho s (plc s k))).mono ?_);rintro e w' ⟨rfl,rfl⟩))
          go_roundw
          case rel =>
           refine ⟨k + 1,by omega,by go_num,by omega,?_,b.out,fun j C=>?_⟩
           · rw [D.out];exact m.out
           · by_cases e:j=k
             · subst e;rw [A.out,hb,B];rfl
             · exact g.out j yab
          case measure=>rw [zdn x.out,zdn (w:=w) m.out];show s.size-(plc s k + wd s (plc s k))<_;omega
        · rw [ybZ] at B;go_wp2_with (first
           | ((with_reducible refine (broken_any s (plc s k) _ _ _ rfl (zho s (plc s k)) h).mono ?_);rintro e w' ⟨rfl,rfl⟩)
           | ((with_reducible refine (inname_any _ (rn s (plc s k)) _ (zho s (plc s k))).mono ?_);rintro e w' ⟨rfl,rfl⟩))
          go_ret
          refine ⟨za1 ?_,b.out⟩;symm
          rw [ybl];intro p;have:=(zbr.1 p).2.2 k o;rw [A.out,hb,B] at this;cases this
  · have e:=zeL h fun j C=>zaX.1 yab;have E:=Lib.hid e;have z:∀ty,(Instr.next (.pointer (some ⟨w.heap.size,0,none⟩)) true ty).run Tryz.prog wr=_:=fun ty=>Lib.run_next_end_at wr w.heap.size s (plc s k) ty hit h;clear e hit d;go_wp2
    go_ret
    refine ⟨za1 ?_,y.out⟩;rw [ya6,zbr,E.out];simp only [yaP];exact ⟨fun H=>⟨by omega,u,g.out⟩,fun H=>by omega⟩
theorem zmj {n:Nat} (h:cnt s≤n):cutA s n=s:=by unfold cutA;rw [zjl h];exact ziP s
theorem cutB_end {n:Nat} (h:cnt s≤n):cutB s n=⟨#[]⟩:=by
 unfold cutB;rw [zjl h];exact zcH (by rw [zaB];show _=0;omega) fun k hk=>by rw [zaB] at hk;omega
theorem cut_any (s:ByteArray) (n:Int) (w:World) (_:s.size≤1000000) (hn : -9223372036854775808≤n) (hn2:n≤9223372036854775807) :
 Calls Tryz.prog 207 #[.string s,.int .i64 n] w fun e w'=>e = .returned (.tuple #[.string (cutA s n.toNat),.string (cutB s n.toNat)])∧Below w.heap.size w w':=by
 go_enter Tryz.func207,Tryz.ntmps207
 go_wp2
 go_loopw [1] (fun m wr=>∃k:Nat,k≤cnt s∧k≤n.toNat∧m = .int .i64 (n-k)∧zpA w wr s (plc s k)∧Below w.heap.size w wr) (fun _ wr=>s.size-wr.iterPos w.heap.size)
 case atStart=>exact ⟨0,yap _,yap _,by simp,zcg w s,zbF w s⟩
 case round =>
  obtain ⟨k,hk,x,rfl,hit,b⟩:=hrel;have g:=Lib.hid hit;have o:=Lib.hid b;have C:=zej s;have D:=za2 s k;by_cases h:plc s k<s.size
  · have y:=zaX.2 h;have F:=zf1 h;have z:=Lib.hid (zaF h);have p:∀ty,(Instr.next (.pointer (some ⟨w.heap.size,0,none⟩)) true ty).run Tryz.prog wr=_:=fun ty=>Lib.run_next_any_at wr w.heap.size s (plc s k) ty hit h;have d:=Lib.hid (Lib.iterAt_heap wr w.heap.size s (plc s k) (plc s k + (Utf8.decode s (plc s k)).2) hit);have f:=Lib.hid (Lib.below_iterAt b (k:=w.heap.size) (yaj _) s (plc s k + (Utf8.decode s (plc s k)).2));clear hit b;by_cases G:n-k≤0
    · have e:n.toNat=k:=by omega
      have E:=Lib.hid e;clear e;go_wp2
      go_quiet (fail)
      go_wp2
      go_ret2
      exact ⟨by rw [E.out];rfl,f.out.trans ⟨rfl,rfl,rfl,yaj _,fun _ _=>rfl⟩⟩
    · go_wp2
      go_roundw
      case rel =>
       refine ⟨k + 1,by omega,by omega,by go_num,?_,f.out⟩;rw [z.out];exact d.out
      case measure=>rw [zdn g.out,zdn (w:=w) d.out];show s.size-(plc s k + wd s (plc s k))<_;omega
  · have e:=zeL h fun j H=>zaX.1 yab;have E:=Lib.hid e;have p:∀ty,(Instr.next (.pointer (some ⟨w.heap.size,0,none⟩)) true ty).run Tryz.prog wr=_:=fun ty=>Lib.run_next_end_at wr w.heap.size s (plc s k) ty hit h;clear e hit b;have q:=zmj (s:=s) (n:=n.toNat) (by have:=E.out;omega);have u:=cutB_end (s:=s) (n:=n.toNat) (by have:=E.out;omega);have A:=Lib.hid q;have B:=Lib.hid u;clear q u;go_wp2
    go_ret2
    exact ⟨by rw [A.out,B.out];rfl,o.out⟩
end
section
open Go.RowKit
variable {o:Obj}
def tcell (t:Tk):List Value:=[.int .i64 t.1,.string t.2.1,.int .i64 t.2.2]
def tcells (l:List Tk):List Value:=l.flatMap tcell
theorem zl4 (l:List Tk) (t:Tk):tcells (l ++ [t])=tcells l ++ tcell t:=by simp [tcells]
theorem tcell_one (t:Tk):∀u ∈ tcell t,u.oneCell'=true:=by
 intro u b;simp only [tcell,yav,ya1,ybw] at b;rcases b with rfl | rfl | rfl <;> rfl
theorem heap_c1 {w:World} {g:Nat} {a v b:Value} {t:TypeId} {fr:Nat × Nat} (h:w.heap[g]? = some (.cells #[a,v,b] t fr)):w.cell? ⟨g,1,none⟩=some v:=by rw [cell_of_row _ _ _ _ _ _ h];rfl
theorem heap_fz {w:World} {g:Nat} {cs:Array Value} {t:TypeId} (h:w.heap[g]? = some (.cells cs t (0,0))):∀j,w.frozen? ⟨g,j,none⟩=false:=fun j=>by simp [World.frozen?,h]
theorem size_alloc {w:World} {B:Nat} (h:B≤w.heap.size):B≤(w.alloc o).heap.size:=by simp;omega
structure Kp (g B:Nat) (w w':World):Prop where
 os:w'.os=w.os
 tape:w'.tape=w.tape
 output:w'.output=w.output
 size:w.heap.size≤w'.heap.size
 block:∀k,k<B→k≠g→w'.heap[k]? = w.heap[k]?
section
variable {g B B':Nat} {w w' w'':World}
theorem Kp.refl (g B:Nat) (w:World):Kp g B w w:=⟨rfl,rfl,rfl,yaj _,fun _ _ _=>rfl⟩
theorem Kp.trans (h:Kp g B w w') (k:Kp g B w' w''):Kp g B w w'' :=
 ⟨k.os.trans h.os,k.tape.trans h.tape,k.output.trans h.output,yax h.size k.size,fun i b d=>(k.block i b d).trans (h.block i b d)⟩
theorem Kp.of_below (h:Below B w w') (g:Nat):Kp g B w w':=⟨h.os,h.tape,h.output,h.size,fun k hk _=>h.block k hk⟩
theorem Kp.below (h:Kp g B w w') (hB:B'≤B) (hg:B'≤g):Below B' w w':=⟨h.os,h.tape,h.output,h.size,fun k hk=>h.block k yab yab⟩
theorem Kp.more (h:Kp g B w w') (hB:B'≤B):Kp g B' w w':=⟨h.os,h.tape,h.output,h.size,fun k hk b=>h.block k yab b⟩
end
theorem zaD {w w':World} {base:Nat} {e:TypeId} {size n:Nat} {v:Value} {xs:List Value} (h:w.ownsRow base e size v n xs) (hb:∀g,v.ownBlock=some g→w'.heap[g]? = w.heap[g]?):w'.ownsRow base e size v n xs:=by
 refine ⟨h.1,?_⟩;rcases h.2 with d | ⟨g,cap,b,rfl,f,j,r⟩
 · exact .inl d
 · exact .inr ⟨g,cap,b,rfl,f,(hb g rfl).trans j,r⟩
theorem zan {w w':World} {base:Nat} {e:TypeId} {size n:Nat} {v:Value} {xs:List Value} (h:w.ownsRow base e size v n xs) (hb:Below w.heap.size w w'):w'.ownsRow base e size v n xs :=
 zaD h fun g b=>hb.block g (h.lt g b).2
structure ScAt (B:Nat) (w:World) (g:Nat) (s:ByteArray) (l:List Tk) (e:Nat) (v:Value):Prop where
 cells:w.heap[g]? = some (.cells #[.string s,v,.int .i64 e] 270 (0,0))
 row:w.ownsRow B 327 3 v l.length (tcells l)
 lt:g<B
def Sc (B:Nat) (w:World) (g:Nat) (s:ByteArray) (l:List Tk) (e:Nat):Prop:=∃v,ScAt B w g s l e v
section
variable {B:Nat} {w w':World} {g:Nat} {s:ByteArray} {l:List Tk} {e:Nat} {v:Value}
theorem ScAt.size (h:ScAt B w g s l e v):g<w.heap.size:=(yaO.1 h.cells).1
theorem ScAt.c0 (h:ScAt B w g s l e v):w.cell? ⟨g,0,none⟩=some (.string s):=by rw [cell_of_row _ _ _ _ _ _ h.cells];rfl
theorem ScAt.c1 (h:ScAt B w g s l e v):w.cell? ⟨g,1,none⟩=some v:=by rw [cell_of_row _ _ _ _ _ _ h.cells];rfl
theorem ScAt.c2 (h:ScAt B w g s l e v):w.cell? ⟨g,2,none⟩=some (.int .i64 e):=by rw [cell_of_row _ _ _ _ _ _ h.cells];rfl
theorem ScAt.fz (h:ScAt B w g s l e v) (j:Nat):w.frozen? ⟨g,j,none⟩=false:=by simp [World.frozen?,h.cells]
theorem ScAt.below (h:ScAt B w g s l e v) (hb:Below w.heap.size w w'):ScAt B w' g s l e v :=
 ⟨(hb.block g h.size).trans h.cells,zan h.row hb,h.lt⟩
end
theorem ret_num {k:IntKind} {a b:Int} (h:a=b):Ending.returned (.int k a) = .returned (.int k b):=by rw [h]
theorem info_tok:(Tryz.prog.info? 327).map (fun i=>(i.zero,i.size,i.bytes))=some (some (.agg #[.int .i64 0,.string .empty,.int .i64 0]),3,32):=by kernel_rfl
theorem zeK (w:World) (a b c:Value) (t:TypeId):∀j u,[a,b,c][j]? = some u→(w.alloc (.cells #[a,b,c] t)).cell? ((⟨w.heap.size,0,none⟩:Addr).add j)=some u:=by
 intro j u d;rw [Addr.add_lit,cell_of_row _ _ _ _ _ _ (heap_alloc_new w _),yaG];simpa using d
section
variable {B:Nat} {w:World} {g:Nat} {s:ByteArray} {l:List Tk} {e:Nat}
theorem zoM {w1:World} {v:Value} (H:ScAt B w g s l e v) (hg1:(w.alloc o).grownBy w1 v.ownBlock):w1.heap[g]? = some (.cells #[.string s,v,.int .i64 e] 270 (0,0)):=by
 have b:=H.size;rw [hg1.block g yag (fun e=>by have:=(H.row.lt g e.symm).1;have:=H.lt;omega),Below.heap_alloc _ _ _ b];exact H.cells
theorem add_done {w1:World} {v v1:Value} {t:Tk} (H:ScAt B w g s l e v) (hB:B≤w.heap.size) (hg1:(w.alloc o).grownBy w1 v.ownBlock) (hown1:w1.ownsRow B 327 3 v1 (l.length + 1) (tcells l ++ tcell t)) :
 Sc B (w1.setCell ⟨g,1,none⟩ v1) g s (l ++ [t]) e∧Kp g B w (w1.setCell ⟨g,1,none⟩ v1):=by
 have j:=H.size;have d:=zoM H hg1;have b:=H.lt;refine ⟨⟨v1,?_,?_,b⟩,?_⟩
 · simp [World.setCell,ybx,d]
 · rw [zl4,yam];exact zaD hown1 fun k hk=>Below.heap_setCell _ _ _ _ (by have:=(hown1.lt k hk).1;show k≠g;omega)
 · refine ⟨hg1.os,hg1.tape,hg1.output,?_,fun k hk f=>?_⟩
   · have:=hg1.size;simp [World.setCell] at *;omega
   · rw [Below.heap_setCell _ _ _ _ (by show k≠g;exact f),hg1.block k yag (fun e=>by have:=(H.row.lt k e.symm).1;omega),Below.heap_alloc _ _ _ (by omega)]
theorem add_any (h:Sc B w g s l e) (hB:B≤w.heap.size) (k:Nat) (t:ByteArray) (p:Nat) (hl:l.length<1000000) (hp:p≤1000000) (ht:t.size≤1000000) :
 Calls Tryz.prog 159 #[.pointer (some ⟨g,0,none⟩),.int .i64 k,.string t,.int .i64 p] w fun e' w'=>e' = .returned (.int .i64 ((p + t.size:Nat):Int))∧Sc B w' g s (l ++ [(k,t,p)]) e∧Kp g B w w':=by
 obtain ⟨v,h⟩:=h;have q:=h.c1;have x:=h.fz;have y:=h.size;obtain ⟨u,hi,j,m,n⟩:=info_parts info_tok;obtain ⟨A,c,rfl,_⟩:=Rd.own h.row;have H:=Lib.hid h;clear h;go_enter Tryz.func159,Tryz.ntmps159
 go_wp2_with (first
  | (at_builtin;go_loud (refine zab _ rfl (.tmp 13) (.tmp 18) 193 193 rfl B 327 u (.agg #[.int .i64 0,.string .empty,.int .i64 0]) 3 32 Tryz.underlying193 hi j m n rfl yac _ l.length (tcells l) rfl (H.out.row.alloc _) _ 1 [.int .i64 k,.string t,.int .i64 p] rfl (Src.ofSlice _ Tryz.underlying193 _ 1 1 _ rfl (zeK _ _ _ _ _) (tcell_one (k,t,p))) yad yab (size_alloc hB) ?_;intro z C b d o;obtain ⟨D,q,rfl,_⟩:=Rd.own b;have f:=zoM H.out d;have E:=heap_c1 f;have F:=heap_fz f)))
 go_ret
 exact ⟨ret_num yab,add_done H.out hB d b⟩
end
end
end Go.Proofs.YtmblgnddgmfkhaaGreat
