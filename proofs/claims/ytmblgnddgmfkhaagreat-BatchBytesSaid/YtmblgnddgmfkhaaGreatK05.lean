import Derived.Recover
import Derived.Test.YtmblgnddgmfkhaaGreatK04
set_option maxRecDepth 100000
set_option maxHeartbeats 4000000
namespace Go.Proofs.YtmblgnddgmfkhaaGreat
section
variable {l r:List Tk} {s:ByteArray}
abbrev OpP:=Nat × ByteArray × ByteArray
abbrev zdT:=ByteArray × ByteArray
structure RelP where
 name:ByteArray
 view:ByteArray
 edit:ByteArray
 check:ByteArray
 subs:List zdT
 ops:List OpP
 deriving DecidableEq
structure TypP where
 name:ByteArray
 rels:List RelP
 deriving DecidableEq
abbrev Rs (α:Type):=Except (Nat × Nat) (α × List Tk)
def zfa:ByteArray:=⟨#[116,121,112,101]⟩
def znV:ByteArray:=⟨#[114,101,108]⟩
def sIs:ByteArray:=⟨#[105,115]⟩
def zis:ByteArray:=⟨#[116,104,105,115]⟩
def sg (c:UInt8):ByteArray:=⟨#[c]⟩
def hdT (l:List Tk):Tk:=l.headD (3,⟨#[]⟩,0)
def isT (s:ByteArray) (l:List Tk):Bool:=decide ((hdT l).2.1=s∧((hdT l).1=2∨keyB s=true))
def zoe {α:Type} (c:Nat) (l:List Tk):Rs α:=.error (c,(hdT l).2.2)
def zaQ (s:ByteArray) (l:List Tk):Rs Unit:=if isT s l=true then .ok ((),l.tail) else zoe 30 l
def zaY (l:List Tk):Rs ByteArray:=if (hdT l).1=1∧keyB (hdT l).2.1=false then .ok ((hdT l).2.1,l.tail) else zoe 30 l
def zaL {α β:Type} (r:Rs α) (k:α→List Tk→Rs β):Rs β:=match r with
 | .error e=>.error e
 | .ok (a,l)=>k a l
theorem zcn {α β:Type} (a:α) (l:List Tk) (k:α→List Tk→Rs β):zaL (.ok (a,l)) k=k a l:=rfl
theorem andT_err {α β:Type} (e:Nat × Nat) (k:α→List Tk→Rs β):zaL (.error e:Rs α) k = .error e:=rfl
def opT (l:List Tk):Nat:=if isT (sg 124) l=true then 4 else if isT (sg 38) l=true then 5 else if isT (sg 45) l=true then 6 else 0
mutual
def partF:Nat→Nat→List Tk→Rs (List OpP)
 | 0,_,l=>zoe 30 l
 | f + 1,deep,l =>
  if isT zis l=true then .ok ([(1,⟨#[]⟩,⟨#[]⟩)],l.tail)
  else if isT (sg 40) l=true then
   (if deep=8 then zoe 13 l
   else zaL (partF f (deep + 1) l.tail) fun o r=>zaL (moreF f (deep + 1) o r) fun o r=>zaL (zaQ (sg 41) r) fun _ r=>.ok (o,r))
  else zaL (zaY l) fun n r =>
   if isT (sg 46) r=true then zaL (zaY r.tail) fun m r=>.ok ([(3,n,m)],r) else .ok ([(2,n,⟨#[]⟩)],r)
def moreF:Nat→Nat→List OpP→List Tk→Rs (List OpP)
 | 0,_,_,l=>zoe 30 l
 | f + 1,deep,acc,l =>
  if opT l=0 then .ok (acc,l)
  else zaL (partF f deep l.tail) fun o r=>moreF f deep (acc ++ o ++ [(opT l,⟨#[]⟩,⟨#[]⟩)]) r
end
def rewF (f deep:Nat) (l:List Tk):Rs (List OpP):=zaL (partF f deep l) fun o r=>moreF f deep o r
def zlI:Nat→List zdT→List Tk→Rs (List zdT)
 | 0,_,l=>zoe 30 l
 | f + 1,acc,l=>zaL (zaY l) fun n r =>
  zaL (if isT (sg 35) r=true then zaY r.tail else .ok (⟨#[]⟩,r)) fun m r =>
   if isT (sg 44) r=true then zlI f (acc ++ [(n,m)]) r.tail else .ok (acc ++ [(n,m)],r)
def relF (f:Nat) (l:List Tk):Rs RelP :=
 zaL (zaY l) fun n r=>zaL (zaQ (sg 40) r) fun _ r=>zaL (zaY r) fun v r=>zaL (zaQ (sg 44) r) fun _ r =>
 zaL (zaY r) fun e r=>zaL (zaQ (sg 44) r) fun _ r=>zaL (zaY r) fun c r=>zaL (zaQ (sg 41) r) fun _ r =>
 zaL (zaQ (sg 58) r) fun _ r =>
 zaL (if isT sIs r=true∨isT (sg 59) r=true then .ok ([],r) else zlI f [] r) fun w r =>
 zaL (if isT sIs r=true then rewF f 0 r.tail else .ok ([(1,⟨#[]⟩,⟨#[]⟩)],r)) fun o r =>
 zaL (zaQ (sg 59) r) fun _ r=>.ok (⟨n,v,e,c,w,o⟩,r)
def zir:Nat→Nat→List RelP→List Tk→Rs (List RelP)
 | _,0,_,l=>zoe 30 l
 | f,g + 1,acc,l=>if isT znV l=true then zaL (relF f l.tail) fun x r=>zir f g (acc ++ [x]) r else .ok (acc,l)
def zib:Nat→Nat→List TypP→List Tk→Rs (List TypP)
 | _,0,_,l=>zoe 30 l
 | f,g + 1,acc,l =>
  if isT zfa l=true then zaL (zaY l.tail) fun n r=>zaL (zaQ (sg 123) r) fun _ r=>zaL (zir f f [] r) fun rs r =>
   zaL (zaQ (sg 125) r) fun _ r=>zib f g (acc ++ [⟨n,rs⟩]) r
  else .ok (acc,l)
def zgc (l:List Tk):Rs (List TypP):=zaL (zib (2 * l.length + 2) (2 * l.length + 2) [] l) fun t r=>if (hdT r).1=3 then .ok (t,r) else zoe 30 r
def outS (r:Rs (List TypP)):List TypP × Nat × Nat:=match r with
 | .error e=>([],e)
 | .ok p=>(p.1,0,0)
def zak (s:ByteArray):List TypP × Nat × Nat:=if (zc2 s).2.1=0 then outS (zgc (zc2 s).1) else ([],(zc2 s).2)
theorem zaz (hs:0<s.size) (h:isT s l=true):l.tail.length + 1=l.length:=by
 cases l with
 | nil =>
  unfold isT at h;rw [ybF] at h;have:s=⟨#[]⟩:=h.1.symm;rw [this] at hs;exact absurd hs yac
 | cons a r=>rfl
theorem zas {n:ByteArray} (h:zaY l = .ok (n,r)):r.length + 1=l.length:=by
 unfold zaY at h;split at h
 · rename_i b
   cases l with
   | nil=>exact absurd b.1 yac
   | cons a t =>
    cases h;rfl
 · cases h
theorem zaq {u:Unit} (hs:0<s.size) (h:zaQ s l = .ok (u,r)):r.length + 1=l.length:=by
 unfold zaQ at h;split at h
 · rename_i b
   cases h;exact zaz hs b
 · cases h
theorem zaf {α β:Type} {r:Rs α} {k:α→List Tk→Rs β} {b:β} (h:zaL r k = .ok (b,l)):∃a m,r = .ok (a,m)∧k a m = .ok (b,l):=by
 cases r with
 | error e=>cases h
 | ok p=>exact ⟨p.1,p.2,rfl,h⟩
theorem zai {α β:Type} {r r':Rs α} {k k':α→List Tk→Rs β} (h:r=r') (hk:∀a m,r = .ok (a,m)→k a m=k' a m):zaL r k=zaL r' k':=by
 subst h;cases r with
 | error e=>rfl
 | ok p=>exact hk p.1 p.2 rfl
theorem zap (c:UInt8):0<(sg c).size:=by show 0<1;omega
theorem zf6 (h:¬opT l=0):l.tail.length + 1=l.length:=by
 unfold opT at h;by_cases b:isT (sg 124) l=true
 · exact zaz (zap _) b
 · by_cases f:isT (sg 38) l=true
   · exact zaz (zap _) f
   · by_cases g:isT (sg 45) l=true
     · exact zaz (zap _) g
     · rw [yak b,yak f,yak g] at h;exact absurd rfl h
theorem eats:∀f:Nat,(∀d l o r,partF f d l = .ok (o,r)→r.length<l.length)∧(∀d acc l o r,moreF f d acc l = .ok (o,r)→r.length≤l.length)
 | 0=>⟨fun d l o r h=>(by unfold partF at h;cases h),fun d acc l o r h=>(by unfold moreF at h;cases h)⟩
 | f + 1=>by
  obtain ⟨g,j⟩:=eats f;constructor
  · intro d l o r h;unfold partF at h;split at h
    · rename_i b
      cases h;have:=zaz (by show 0<4;omega) b;omega
    · split at h
      · rename_i b
        have q:=zaz (zap _) b;split at h
        · cases h
        · obtain ⟨a,m,k,h⟩:=zaf h;obtain ⟨s,u,n,h⟩:=zaf h;obtain ⟨a3,y,x,h⟩:=zaf h;cases h;have:=g _ _ _ _ k;have:=j _ _ _ _ _ n;have:=zaq (zap _) x;omega
      · obtain ⟨a,m,k,h⟩:=zaf h;have q:=zas k;split at h
        · rename_i b
          have z:=zaz (zap _) b;obtain ⟨s,u,n,h⟩:=zaf h;have:=zas n;cases h;omega
        · cases h;omega
  · intro d acc l o r h;unfold moreF at h;split at h
    · cases h;omega
    · rename_i b
      have q:=zf6 b;obtain ⟨a,m,k,h⟩:=zaf h;have:=g _ _ _ _ k;have:=j _ _ _ _ _ h;omega
theorem fuel:∀f g:Nat,(∀d l,l.length<f→l.length<g→partF f d l=partF g d l)∧(∀d acc l,l.length<f→l.length<g→moreF f d acc l=moreF g d acc l)
 | 0,_=>⟨fun _ _ h _=>absurd h (ybe _),fun _ _ _ h _=>absurd h (ybe _)⟩
 | _ + 1,0=>⟨fun _ _ _ h=>absurd h (ybe _),fun _ _ _ _ h=>absurd h (ybe _)⟩
 | f + 1,g + 1=>by
  obtain ⟨b,j⟩:=fuel f g;constructor
  · intro d l o q;unfold partF;split
    · rfl
    · split
      · rename_i k
        have s:=zaz (zap _) k;split
        · rfl
        · refine zai (b _ _ yab yab) fun a m n=>?_;have:=(eats _).1 _ _ _ _ n;exact zai (j _ _ _ yab yab) fun _ _ _=>rfl
      · rfl
  · intro d acc l o q;unfold moreF;split
    · rfl
    · rename_i k
      have s:=zf6 k;refine zai (b _ _ yab yab) fun a m n=>?_;have:=(eats _).1 _ _ _ _ n;exact j _ _ _ yab yab
def zfE (d:Nat) (l:List Tk):Rs (List OpP):=partF (l.length + 1) d l
def zml (d:Nat) (acc:List OpP) (l:List Tk):Rs (List OpP):=moreF (l.length + 1) d acc l
def zlF (d:Nat) (l:List Tk):Rs (List OpP):=zaL (zfE d l) fun o r=>zml d o r
theorem zjW (d:Nat) (l:List Tk):zfE d l =
 if isT zis l=true then .ok ([(1,⟨#[]⟩,⟨#[]⟩)],l.tail)
 else if isT (sg 40) l=true then
  (if d=8 then zoe 13 l
  else zaL (zlF (d + 1) l.tail) fun o r=>zaL (zaQ (sg 41) r) fun _ r=>.ok (o,r))
 else zaL (zaY l) fun n r =>
  if isT (sg 46) r=true then zaL (zaY r.tail) fun m r=>.ok ([(3,n,m)],r) else .ok ([(2,n,⟨#[]⟩)],r):=by
 conv=>lhs;unfold zfE partF
 split
 · rfl
 · split
   · rename_i b
     have k:=zaz (zap _) b;split
     · rfl
     · have f:partF l.length (d + 1) l.tail=zfE (d + 1) l.tail:=(fuel _ _).1 _ _ yab yab;rw [f];unfold zlF;cases g:zfE (d + 1) l.tail with
       | error e=>rfl
       | ok p =>
        have:=(eats _).1 _ _ _ _ (show partF (l.tail.length + 1) (d + 1) l.tail = .ok (p.1,p.2) from g);have j:moreF l.length (d + 1) p.1 p.2=zml (d + 1) p.1 p.2:=(fuel _ _).2 _ _ _ yab yab;show zaL (moreF l.length (d + 1) p.1 p.2) _=zaL (zml (d + 1) p.1 p.2) _;rw [j]
   · rfl
theorem moreT_eq (d:Nat) (acc:List OpP) (l:List Tk):zml d acc l =
 if opT l=0 then .ok (acc,l)
 else zaL (zfE d l.tail) fun o r=>zml d (acc ++ o ++ [(opT l,⟨#[]⟩,⟨#[]⟩)]) r:=by
 conv=>lhs;unfold zml moreF
 split
 · rfl
 · rename_i b
   have g:=zf6 b;refine zai ((fuel _ _).1 _ _ yab yab) fun a m f=>?_;have:=(eats _).1 _ _ _ _ f;exact (fuel _ _).2 _ _ _ yab yab
theorem zic:∀(f:Nat) (acc:List zdT) (l:List Tk) (o:List zdT) (r:List Tk),zlI f acc l = .ok (o,r)→r.length<l.length
 | 0,acc,l,o,r,h=>by unfold zlI at h;cases h
 | f + 1,acc,l,o,r,h=>by
  unfold zlI at h;obtain ⟨a,m,k,h⟩:=zaf h;have n:=zas k;obtain ⟨q,j,g,h⟩:=zaf h;have s:j.length≤m.length:=by
   by_cases b:isT (sg 35) m=true
   · rw [yan b] at g;have:=zaz (zap _) b;have:=zas g;omega
   · rw [yak b] at g;cases g;omega
  by_cases b:isT (sg 44) j=true
  · rw [yan b] at h;have:=zaz (zap _) b;have:=zic f _ _ _ _ h;omega
  · rw [yak b] at h;cases h;omega
theorem zkc {m m2:List Tk} {a2:ByteArray} (e2:(if isT (sg 35) m=true then zaY m.tail else .ok (⟨#[]⟩,m)) = .ok (a2,m2)):m2.length≤m.length:=by
 by_cases b:isT (sg 35) m=true
 · rw [yan b] at e2;have:=zaz (zap _) b;have:=zas e2;omega
 · rw [yak b] at e2;cases e2;omega
theorem zid:∀(f g:Nat) (acc:List zdT) (l:List Tk),l.length<f→l.length<g→zlI f acc l=zlI g acc l
 | 0,_,_,_,h,_=>absurd h (ybe _)
 | _ + 1,0,_,_,_,h=>absurd h (ybe _)
 | f + 1,g + 1,acc,l,o,q=>by
  unfold zlI;refine zai rfl fun a m j=>?_;have s:=zas j;refine zai rfl fun u k n=>?_;have x:=zkc n;by_cases b:isT (sg 44) k=true
  · rw [yan b,yan b];have:=zaz (zap _) b;exact zid f g _ _ yab yab
  · rw [yak b,yak b]
def whoT (acc:List zdT) (l:List Tk):Rs (List zdT):=zlI (l.length + 1) acc l
theorem zsc (acc:List zdT) (l:List Tk):whoT acc l=zaL (zaY l) fun n r =>
 zaL (if isT (sg 35) r=true then zaY r.tail else .ok (⟨#[]⟩,r)) fun m r =>
  if isT (sg 44) r=true then whoT (acc ++ [(n,m)]) r.tail else .ok (acc ++ [(n,m)],r):=by
 conv=>lhs;unfold whoT zlI
 refine zai rfl fun a m f=>?_;have k:=zas f;refine zai rfl fun o g j=>?_;have q:=zkc j;by_cases b:isT (sg 44) g=true
 · rw [yan b,yan b];have:=zaz (zap _) b;exact zid _ _ _ _ yab yab
 · rw [yak b,yak b]
theorem zrA {f d:Nat} (h:l.length<f):rewF f d l=zlF d l:=by
 unfold rewF zlF zfE;refine zai ((fuel _ _).1 _ _ h yab) fun a m b=>?_;have:=(eats _).1 _ _ _ _ b;exact (fuel _ _).2 _ _ _ yab yab
theorem zrB {d:Nat} {o:List OpP} (h:zlF d l = .ok (o,r)):r.length<l.length:=by
 unfold zlF at h;obtain ⟨a,m,b,h⟩:=zaf h;have:=(eats _).1 _ _ _ _ b;have:=(eats _).2 _ _ _ _ _ h;omega
def zrx (l:List Tk):Rs RelP :=
 zaL (zaY l) fun n r=>zaL (zaQ (sg 40) r) fun _ r=>zaL (zaY r) fun v r=>zaL (zaQ (sg 44) r) fun _ r =>
 zaL (zaY r) fun e r=>zaL (zaQ (sg 44) r) fun _ r=>zaL (zaY r) fun c r=>zaL (zaQ (sg 41) r) fun _ r =>
 zaL (zaQ (sg 58) r) fun _ r =>
 zaL (if isT sIs r=true∨isT (sg 59) r=true then .ok ([],r) else whoT [] r) fun w r =>
 zaL (if isT sIs r=true then zlF 0 r.tail else .ok ([(1,⟨#[]⟩,⟨#[]⟩)],r)) fun o r =>
 zaL (zaQ (sg 59) r) fun _ r=>.ok (⟨n,v,e,c,w,o⟩,r)
theorem zj4:0<sIs.size:=by show 0<2;omega
theorem zcS {f:Nat} (h:l.length<f):relF f l=zrx l∧∀o r,zrx l = .ok (o,r)→r.length<l.length:=by
 constructor
 · unfold relF zrx;refine zai rfl fun _ _ e=>?_;have n:=zas e;refine zai rfl fun _ _ e=>?_;have q:=zaq (zap _) e;refine zai rfl fun _ _ e=>?_;have s:=zas e;refine zai rfl fun _ _ e=>?_;have u:=zaq (zap _) e;refine zai rfl fun _ _ e=>?_;have x:=zas e;refine zai rfl fun _ _ e=>?_;have y:=zaq (zap _) e;refine zai rfl fun _ _ e=>?_;have z:=zas e;refine zai rfl fun _ _ e=>?_;have A:=zaq (zap _) e;refine zai rfl fun _ _ e=>?_;have B:=zaq (zap _) e;rename_i g
   refine zai ?_ fun _ m e=>?_
   · split
     · rfl
     · exact zid _ _ _ _ yab yab
   · have j:m.length≤g.length:=by
      split at e
      · cases e;exact yaj _
      · have:=zic _ _ _ _ _ e;omega
     refine zai ?_ fun _ _ _=>rfl;split
     · rename_i k
       have:=zaz zj4 k;exact zrA yab
     · rfl
 · intro o r b;unfold zrx at b;obtain ⟨_,_,e,b⟩:=zaf b;have n:=zas e;obtain ⟨_,_,e,b⟩:=zaf b;have q:=zaq (zap _) e;obtain ⟨_,_,e,b⟩:=zaf b;have s:=zas e;obtain ⟨_,_,e,b⟩:=zaf b;have u:=zaq (zap _) e;obtain ⟨_,_,e,b⟩:=zaf b;have x:=zas e;obtain ⟨_,_,e,b⟩:=zaf b;have y:=zaq (zap _) e;obtain ⟨_,_,e,b⟩:=zaf b;have z:=zas e;obtain ⟨_,_,e,b⟩:=zaf b;have A:=zaq (zap _) e;obtain ⟨_,g,e,b⟩:=zaf b;have B:=zaq (zap _) e;obtain ⟨_,m,e,b⟩:=zaf b;have j:m.length≤g.length:=by
    split at e
    · cases e;exact yaj _
    · have:=zic _ _ _ _ _ e;omega
   obtain ⟨_,C,e,b⟩:=zaf b;have D:C.length≤m.length:=by
    split at e
    · rename_i k
      have:=zaz zj4 k;have:=zrB e;omega
    · cases e;exact yaj _
   obtain ⟨_,_,e,b⟩:=zaf b;have E:=zaq (zap _) e;cases b;omega
theorem zcj:0<znV.size:=by show 0<3;omega
theorem zb5:0<zfa.size:=by show 0<4;omega
theorem zeG:∀(f g:Nat) (acc:List RelP) (l:List Tk) (o:List RelP) (r:List Tk),l.length<f→zir f g acc l = .ok (o,r)→r.length≤l.length
 | _,0,acc,l,o,r,_,h=>by unfold zir at h;cases h
 | f,g + 1,acc,l,o,r,k,h=>by
  unfold zir at h;by_cases b:isT znV l=true
  · rw [yan b] at h;have n:=zaz zcj b;rw [(zcS (f:=f) (l:=l.tail) yab).1] at h;obtain ⟨a,m,j,h⟩:=zaf h;have:=(zcS (f:=f) (l:=l.tail) yab).2 _ _ j;have:=zeG f g _ _ _ _ yab h;omega
  · rw [yak b] at h;cases h;omega
theorem zeH:∀(g g2 f f2:Nat) (acc:List RelP) (l:List Tk),l.length<f→l.length<f2→l.length<g→l.length<g2→zir f g acc l=zir f2 g2 acc l
 | 0,_,_,_,_,_,_,_,h,_=>absurd h (ybe _)
 | _ + 1,0,_,_,_,_,_,_,_,h=>absurd h (ybe _)
 | g + 1,g2 + 1,f,f2,acc,l,q,j,s,k=>by
  unfold zir;by_cases b:isT znV l=true
  · rw [yan b,yan b];have u:=zaz zcj b;obtain ⟨e,n⟩:=zcS (f:=f) (l:=l.tail) yab;rw [e,(zcS (f:=f2) (l:=l.tail) yab).1];refine zai rfl fun a m o=>?_;have:=n _ _ o;exact zeH g g2 f f2 _ _ yab yab yab yab
  · rw [yak b,yak b]
def zmB (acc:List RelP) (l:List Tk):Rs (List RelP):=zir (l.length + 1) (l.length + 1) acc l
theorem zeI (acc:List RelP) (l:List Tk):zmB acc l=if isT znV l=true then zaL (zrx l.tail) fun x r=>zmB (acc ++ [x]) r else .ok (acc,l):=by
 conv=>lhs;unfold zmB zir
 by_cases b:isT znV l=true
 · rw [yan b,yan b];have k:=zaz zcj b;obtain ⟨e,g⟩:=zcS (f:=l.length + 1) (l:=l.tail) yab;rw [e];refine zai rfl fun a m j=>?_;have:=g _ _ j;exact zeH _ _ _ _ _ _ yab yab yab yab
 · rw [yak b,yak b]
theorem zfd:∀(g g2 f f2:Nat) (acc:List TypP) (l:List Tk),l.length<f→l.length<f2→l.length<g→l.length<g2→zib f g acc l=zib f2 g2 acc l
 | 0,_,_,_,_,_,_,_,h,_=>absurd h (ybe _)
 | _ + 1,0,_,_,_,_,_,_,_,h=>absurd h (ybe _)
 | g + 1,g2 + 1,f,f2,acc,l,m,j,n,k=>by
  unfold zib;by_cases b:isT zfa l=true
  · rw [yan b,yan b];have o:=zaz zb5 b;refine zai rfl fun _ _ e=>?_;have q:=zas e;refine zai rfl fun _ s e=>?_;have u:=zaq (zap _) e;refine zai (zeH _ _ _ _ _ _ yab yab yab yab) fun _ _ e=>?_;have x:=zeG _ _ _ _ _ _ yab e;refine zai rfl fun _ _ e=>?_;have y:=zaq (zap _) e;exact zfd g g2 f f2 _ _ yab yab yab yab
  · rw [yak b,yak b]
def zdM (acc:List TypP) (l:List Tk):Rs (List TypP):=zib (l.length + 1) (l.length + 1) acc l
theorem zdn (acc:List TypP) (l:List Tk):zdM acc l =
 if isT zfa l=true then zaL (zaY l.tail) fun n r=>zaL (zaQ (sg 123) r) fun _ r=>zaL (zmB [] r) fun rs r =>
  zaL (zaQ (sg 125) r) fun _ r=>zdM (acc ++ [⟨n,rs⟩]) r
 else .ok (acc,l):=by
 conv=>lhs;unfold zdM zib
 by_cases b:isT zfa l=true
 · rw [yan b,yan b];have f:=zaz zb5 b;refine zai rfl fun _ _ e=>?_;have g:=zas e;refine zai rfl fun _ j e=>?_;have k:=zaq (zap _) e;refine zai (zeH _ _ _ _ _ _ yab yab yab yab) fun _ _ e=>?_;have m:=zeG _ _ _ _ _ _ yab e;refine zai rfl fun _ _ e=>?_;have o:=zaq (zap _) e;exact zfd _ _ _ _ _ _ yab yab yab yab
 · rw [yak b,yak b]
theorem zgd (l:List Tk):zgc l=zaL (zdM [] l) fun t r=>if (hdT r).1=3 then .ok (t,r) else zoe 30 r:=by
 unfold zgc zdM;exact zai (zfd _ _ _ _ _ _ yab yab yab yab) fun _ _ _=>rfl
theorem zhj:∀f:Nat,(∀d l o r,partF f d l = .ok (o,r)→o.length + r.length≤l.length)∧(∀d acc l o r,moreF f d acc l = .ok (o,r)→o.length + r.length≤acc.length + l.length)
 | 0=>⟨fun d l o r h=>(by unfold partF at h;cases h),fun d acc l o r h=>(by unfold moreF at h;cases h)⟩
 | f + 1=>by
  obtain ⟨g,j⟩:=zhj f;constructor
  · intro d l o r h;unfold partF at h;split at h
    · rename_i b
      have n:=zaz yac b;cases h;simp only [yat,yaE];omega
    · split at h
      · rename_i b
        have n:=zaz (zap _) b;split at h
        · cases h
        · obtain ⟨a,m,k,h⟩:=zaf h;have u:=g _ _ _ _ k;obtain ⟨x,y,q,h⟩:=zaf h;have s:=j _ _ _ _ _ q;obtain ⟨a3,A,z,h⟩:=zaf h;have B:=zaq (zap _) z;cases h;omega
      · obtain ⟨a,m,k,h⟩:=zaf h;have C:=zas k;split at h
        · rename_i b
          have n:=zaz (zap _) b;obtain ⟨x,y,q,h⟩:=zaf h;have D:=zas q;cases h;simp only [yat,yaE];omega
        · cases h;simp only [yat,yaE];omega
  · intro d acc l o r h;unfold moreF at h;split at h
    · cases h;exact yaj _
    · rename_i b
      have n:=zf6 b;obtain ⟨a,m,k,h⟩:=zaf h;have u:=g _ _ _ _ k;have s:=j _ _ _ _ _ h;simp only [yam,yat,yaE] at s;omega
theorem zp4:∀(f:Nat) (acc:List zdT) (l:List Tk) (o:List zdT) (r:List Tk),zlI f acc l = .ok (o,r)→o.length + r.length≤acc.length + l.length
 | 0,acc,l,o,r,h=>by unfold zlI at h;cases h
 | f + 1,acc,l,o,r,h=>by
  unfold zlI at h;obtain ⟨a,m,g,h⟩:=zaf h;have n:=zas g;obtain ⟨q,j,k,h⟩:=zaf h;have s:=zkc k;by_cases b:isT (sg 44) j=true
  · rw [yan b] at h;have u:=zaz (zap _) b;have:=zp4 f _ _ _ _ h;simp only [yam,yat,yaE] at this;omega
  · rw [yak b] at h;cases h;simp only [yam,yat,yaE];omega
def FewR (N:Nat) (x:RelP):Prop:=x.subs.length≤N∧x.ops.length≤N
theorem zp2 {x:RelP} (h:zrx l = .ok (x,r)):FewR l.length x∧r.length<l.length:=by
 refine ⟨?_,(zcS (f:=l.length + 1) (ycv _)).2 _ _ h⟩;unfold zrx at h;obtain ⟨_,_,e,h⟩:=zaf h;have k:=zas e;obtain ⟨_,_,e,h⟩:=zaf h;have n:=zaq (zap _) e;obtain ⟨_,_,e,h⟩:=zaf h;have o:=zas e;obtain ⟨_,_,e,h⟩:=zaf h;have q:=zaq (zap _) e;obtain ⟨_,_,e,h⟩:=zaf h;have s:=zas e;obtain ⟨_,_,e,h⟩:=zaf h;have u:=zaq (zap _) e;obtain ⟨_,_,e,h⟩:=zaf h;have y:=zas e;obtain ⟨_,_,e,h⟩:=zaf h;have z:=zaq (zap _) e;obtain ⟨_,_,e,h⟩:=zaf h;have A:=zaq (zap _) e;obtain ⟨subs,m,e,h⟩:=zaf h;have B:subs.length + m.length≤l.length:=by
  split at e
  · cases e;simp only [yaE];omega
  · have:=zp4 _ _ _ _ _ e;simp only [yaE] at this;omega
 obtain ⟨ops,C,e,h⟩:=zaf h;have b:ops.length≤l.length:=by
  split at e
  · rename_i g
    have D:=zaz zj4 g;unfold zlF at e;obtain ⟨_,_,j,e⟩:=zaf e;have E:=(zhj _).1 _ _ _ _ j;have F:=(zhj _).2 _ _ _ _ _ e;omega
  · cases e;simp only [yat,yaE];omega
 obtain ⟨_,_,e,h⟩:=zaf h;cases h;exact ⟨by dsimp only;omega,b⟩
theorem FewR.up {N M:Nat} {x:RelP} (h:FewR N x) (hN:N≤M):FewR M x:=⟨yay h.1 hN,yay h.2 hN⟩
theorem znc (N:Nat):∀(n:Nat) (acc:List RelP) (l:List Tk) (o:List RelP) (r:List Tk),l.length≤n→l.length≤N→(∀x ∈ acc,FewR N x)→zmB acc l = .ok (o,r)→(∀x ∈ o,FewR N x)∧o.length + r.length≤acc.length + l.length:=by
 intro n;induction n with
 | zero =>
  intro acc l o r k q j h;rw [zeI] at h;by_cases b:isT znV l=true
  · have:=zaz zcj b;omega
  · rw [yak b] at h;cases h;exact ⟨j,yaj _⟩
 | succ n ih =>
  intro acc l o r k q j h;rw [zeI] at h;by_cases b:isT znV l=true
  · rw [yan b] at h;have s:=zaz zcj b;obtain ⟨x,m,e,h⟩:=zaf h;obtain ⟨g,w⟩:=zp2 e;have:=ih _ _ _ _ yab yab (fun y f=>by
     rcases yaA.1 f with f | f
     · exact j y f
     · simp only [yaw,ya1,ybA] at f;subst f;exact g.up yab) h
    refine ⟨this.1,?_⟩;have:=this.2;simp only [yam,yat,yaE] at this;omega
  · rw [yak b] at h;cases h;exact ⟨j,yaj _⟩
def FewT (N:Nat) (t:TypP):Prop:=t.rels.length≤N∧∀x ∈ t.rels,FewR N x
theorem zp3 (N:Nat):∀(n:Nat) (acc:List TypP) (l:List Tk) (o:List TypP) (r:List Tk),l.length≤n→l.length≤N→(∀t ∈ acc,FewT N t)→zdM acc l = .ok (o,r)→(∀t ∈ o,FewT N t)∧o.length + r.length≤acc.length + l.length:=by
 intro n;induction n with
 | zero =>
  intro acc l o r k q j h;rw [zdn] at h;by_cases b:isT zfa l=true
  · have:=zaz zb5 b;omega
  · rw [yak b] at h;cases h;exact ⟨j,yaj _⟩
 | succ n ih =>
  intro acc l o r k q j h;rw [zdn] at h;by_cases b:isT zfa l=true
  · rw [yan b] at h;have y:=zaz zb5 b;obtain ⟨_,_,e,h⟩:=zaf h;have z:=zas e;obtain ⟨_,_,e,h⟩:=zaf h;have A:=zaq (zap _) e;obtain ⟨B,m,e,h⟩:=zaf h;obtain ⟨g,s⟩:=znc N _ _ _ _ _ (yaj _) yab (fun x u=>by cases u) e;simp only [yaE] at s;obtain ⟨_,_,e,h⟩:=zaf h;have C:=zaq (zap _) e;have:=ih _ _ _ _ yab yab (fun t f=>by
     rcases yaA.1 f with f | f
     · exact j t f
     · simp only [yaw,ya1,ybA] at f;subst f;exact ⟨by dsimp only;omega,g⟩) h
    refine ⟨this.1,?_⟩;have:=this.2;simp only [yam,yat,yaE] at this;omega
  · rw [yak b] at h;cases h;exact ⟨j,yaj _⟩
def Few (N:Nat) (T:List TypP):Prop:=T.length≤N∧∀t ∈ T,FewT N t
theorem zrm {N:Nat} (hl:(zc2 s).1.length≤N):Few N (zak s).1:=by
 unfold zak;split
 · rw [zgd];cases f:zdM [] (zc2 s).1 with
   | error e=>exact ⟨yao _,fun t b=>by cases b⟩
   | ok q =>
    obtain ⟨g,l⟩:=zp3 N _ _ _ _ _ (yaj _) hl (fun t b=>by cases b) (show zdM [] (zc2 s).1 = .ok (q.1,q.2) from f);rw [zcn];simp only [yaE] at l;split
    · exact ⟨by show q.1.length≤N;omega,g⟩
    · exact ⟨yao _,fun t b=>by cases b⟩
 · exact ⟨yao _,fun t b=>by cases b⟩
end
section
open Go.RowKit
open Go.RowKit
open Go.RowKit
open Go.RowKit
variable {s:ByteArray}
theorem zbp (x y:ByteArray):(x.toList == y.toList)=decide (x=y):=toList_inj
theorem key_any (s:ByteArray) (w:World):Calls Tryz.prog 283 #[.string s] w fun e w'=>e = .returned (.bool (keyB s))∧w'=w:=by
 have b:=zbp s ⟨#[116,121,112,101]⟩;have f:=zbp s ⟨#[114,101,108]⟩;have g:=zbp s ⟨#[105,115]⟩;have j:=zbp s ⟨#[116,104,105,115]⟩;rw [show (⟨#[116,121,112,101]⟩:ByteArray).toList=[116,121,112,101] by decide +kernel] at b;rw [show (⟨#[114,101,108]⟩:ByteArray).toList=[114,101,108] by decide +kernel] at f;rw [show (⟨#[105,115]⟩:ByteArray).toList=[105,115] by decide +kernel] at g;rw [show (⟨#[116,104,105,115]⟩:ByteArray).toList=[116,104,105,115] by decide +kernel] at j;have k:Hid (keyB s=(decide (s=⟨#[116,121,112,101]⟩) || decide (s=⟨#[114,101,108]⟩) || decide (s=⟨#[105,115]⟩) || decide (s=⟨#[116,104,105,115]⟩))):=Lib.hid (by unfold keyB;rw [ya9];simp [or_assoc]);generalize decide (s=⟨#[116,121,112,101]⟩)=m at *
 generalize decide (s=⟨#[114,101,108]⟩)=n at *
 generalize decide (s=⟨#[105,115]⟩)=o at *
 generalize decide (s=⟨#[116,104,105,115]⟩)=q at *
 go_enter Tryz.func283,Tryz.ntmps283
 cases m <;> cases n <;> cases o <;> cases q;all_goals go_wp2
 all_goals go_ret
 all_goals (refine ⟨?_,rfl⟩;rw [k.out];rfl)
def Fine (l:List Tk):Prop:=l.length≤1000000∧∃init p,l=init ++ [(3,⟨#[]⟩,p)]∧∀t ∈ init,t.1=2∨(t.1=1∧∀c:UInt8,zcq c.toNat=true→t.2.1≠sg c)
theorem Fine.cons {l:List Tk} (h:Fine l):∃t r,l=t::r:=by
 obtain ⟨_,b,p,rfl,_⟩:=h;cases b with
 | nil=>exact ⟨_,_,rfl⟩
 | cons a r=>exact ⟨_,_,rfl⟩
theorem Fine.tail {l:List Tk} (h:Fine l) (h3:(hdT l).1≠3):Fine l.tail:=by
 obtain ⟨g,b,p,rfl,hi⟩:=h;cases b with
 | nil=>exact absurd rfl h3
 | cons a r=>exact ⟨by rw [List.length_tail];omega,r,p,rfl,fun t f=>hi t (yau _ f)⟩
theorem Fine.hd {l:List Tk} (h:Fine l):(hdT l).1=2∨((hdT l).1=1∧∀c:UInt8,zcq c.toNat=true→(hdT l).2.1≠sg c)∨((hdT l).1=3∧(hdT l).2.1=⟨#[]⟩):=by
 obtain ⟨_,b,p,rfl,hi⟩:=h;cases b with
 | nil=>exact .inr (.inr ⟨rfl,rfl⟩)
 | cons a r=>
  rcases hi a (yar) with h | h
  · exact .inl h
  · exact .inr (.inl h)
def Ask (s:ByteArray):Prop:=0<s.size∧(keyB s=true∨∃c:UInt8,zcq c.toNat=true∧s=sg c)
theorem Fine.isT {l:List Tk} (h:Fine l) (hs:Ask s):isT s l=decide ((hdT l).2.1=s):=by
 unfold Go.Proofs.YtmblgnddgmfkhaaGreat.isT;by_cases e:(hdT l).2.1=s
 · rw [yaB e];refine yaB ⟨e,?_⟩;rcases hs.2 with hk | ⟨c,b,rfl⟩
   · exact .inr hk
   · rcases h.hd with f | ⟨_,g⟩ | ⟨_,j⟩
     · exact .inl f
     · exact absurd e (g c b)
     · rw [j] at e;have:=congrArg ByteArray.size e;rw [show (sg c).size=1 from rfl,show (⟨#[]⟩:ByteArray).size=0 from rfl] at this;omega
 · rw [yaF e];exact yaF fun h=>e h.1
theorem Fine.next {l:List Tk} (h:Fine l) (hs:0<s.size) (e:(hdT l).2.1=s):Fine l.tail:=by
 refine h.tail fun f=>?_;rcases h.hd with g | ⟨j,_⟩ | ⟨_,b⟩
 · omega
 · omega
 · rw [b] at e;subst e;exact absurd hs yac
structure RdAt (w:World) (g:Nat) (l:List Tk) (A:Option Addr) (c:Nat):Prop where
 cells:w.heap[g]? = some (.cells #[.slice A l.length c] 280 (0,0))
 toks:Rd w g 3 A l.length c (tcells l)
 fine:Fine l
def Rdr (w:World) (g:Nat) (l:List Tk):Prop:=∃A c,RdAt w g l A c
section
variable {w w':World} {g:Nat} {l:List Tk} {A:Option Addr} {c:Nat}
theorem RdAt.size (h:RdAt w g l A c):g<w.heap.size:=(yaR.1 h.cells).1
theorem Rdr.size (h:Rdr w g l):g<w.heap.size:=by obtain ⟨A,c,h⟩:=h;exact h.size
theorem Rdr.fine (h:Rdr w g l):Fine l:=by obtain ⟨A,c,h⟩:=h;exact h.fine
theorem RdAt.c0 (h:RdAt w g l A c):w.cell? ⟨g,0,none⟩=some (.slice A l.length c):=by rw [cell_of_row _ _ _ _ _ _ h.cells];rfl
theorem RdAt.fz (h:RdAt w g l A c):w.frozen? ⟨g,0,none⟩=false:=by simp [World.frozen?,h.cells]
theorem RdAt.first (h:RdAt w g l A c):∃b o,A=some ⟨b,o,none⟩∧0<l.length∧w.cell? ⟨b,o,none⟩=some (.int .i64 (hdT l).1)∧w.cell? ⟨b,o + 1,none⟩=some (.string (hdT l).2.1)∧w.cell? ⟨b,o + 2,none⟩=some (.int .i64 (hdT l).2.2):=by
 obtain ⟨t,r,rfl⟩:=h.fine.cons;obtain ⟨b,o,e,_,f⟩:=h.toks.at_ yaf;exact ⟨b,o,e,by simp,f 0 _ rfl,f 1 _ rfl,f 2 _ rfl⟩
theorem Rdr.keep (h:Rdr w g l) (hb:∀k,k≤g→w'.heap[k]? = w.heap[k]?):Rdr w' g l:=by
 obtain ⟨A,c,h⟩:=h;refine ⟨A,c,(hb g (yaj _)).trans h.cells,h.toks.keep fun p b=>?_,h.fine⟩;have:=hb p.block yab;unfold World.cell?;rw [this]
theorem Rdr.below (h:Rdr w g l) (hb:Below w.heap.size w w'):Rdr w' g l:=h.keep fun k hk=>hb.block k (by have:=h.size;omega)
theorem Rdr.drew (h:Rdr w g l):Rdr w.drew g l:=h.keep fun _ _=>rfl
theorem RdAt.step (h:RdAt w g l A c) (hf:Fine l.tail):Rdr (w.setCell ⟨g,0,none⟩ (.slice (if c=1 then A else A.map (·.add 3)) (l.length-1) (c-1))) g l.tail∧Kp g w.heap.size w (w.setCell ⟨g,0,none⟩ (.slice (if c=1 then A else A.map (·.add 3)) (l.length-1) (c-1))):=by
 have j:1≤l.length:=by obtain ⟨_,_,_,m,_⟩:=h.first;exact m
 have f:=h.toks.cut j;have e:(tcells l).drop (1 * 3)=tcells l.tail:=by
  obtain ⟨t,r,rfl⟩:=h.fine.cons;rfl
 rw [e] at f;have b:l.tail.length=l.length-1:=List.length_tail;refine ⟨⟨if c=1 then A else A.map (·.add 3),c-1,?_,?_,hf⟩,?_⟩
 · rw [b];simp [World.setCell,ybB,h.cells]
 · rw [b];refine f.keep fun p o=>?_;have:=Below.heap_setCell w ⟨g,0,none⟩ (.slice (if c=1 then A else A.map (·.add 3)) (l.length-1) (c-1)) p.block (by show p.block≠g;omega);unfold World.cell?;rw [this]
 · exact ⟨rfl,rfl,rfl,by simp [World.setCell],fun k _ n=>Below.heap_setCell _ _ _ _ n⟩
end
def left (w:World) (g:Nat):Nat:=match w.cell? ⟨g,0,none⟩ with
 | some (.slice _ n _)=>n
 | _=>0
theorem Rdr.left {w:World} {g:Nat} {l:List Tk} (h:Rdr w g l):left w g=l.length:=by
 obtain ⟨A,c,h⟩:=h;unfold Go.Proofs.YtmblgnddgmfkhaaGreat.left;rw [h.c0]
theorem Rdr.few {w:World} {g:Nat} {l:List Tk} (h:Rdr w g l):l.length≤1000000:=h.fine.1
abbrev ziM (c p:Nat):Ending:=.panicked [{ v:=.iface 276 (.agg #[.int .i64 c,.int .i64 p]),recovered:=false }]
def Post {α:Type} (V:World→Value→α→Prop) (B:Nat) (w:World) (g:Nat) (r:Rs α) (e:Ending) (w':World):Prop :=
 Kp g B w w'∧match r with
  | .error c=>e=ziM c.1 c.2
  | .ok a=>∃v,e = .returned v∧V w' v a.1∧Rdr w' g a.2
section
variable {α β:Type} {V:World→Value→α→Prop} {U:World→Value→β→Prop} {B B':Nat} {w w1 w':World} {g:Nat} {r:Rs α} {e:Ending}
theorem Post.ok {a:α} {l:List Tk} {v:Value} (hk:Kp g B w w') (hv:V w' v a) (hr:Rdr w' g l):Post V B w g (.ok (a,l)) (.returned v) w':=⟨hk,v,rfl,hv,hr⟩
theorem Post.bad (hk:Kp g B w w') (c p:Nat):Post V B w g (.error (c,p)) (ziM c p) w':=⟨hk,rfl⟩
theorem Post.cases_ (h:Post V B w g r e w'):Kp g B w w'∧((∃c p,r = .error (c,p)∧e=ziM c p)∨∃a l v,r = .ok (a,l)∧e = .returned v∧V w' v a∧Rdr w' g l):=by
 obtain ⟨hk,h⟩:=h;refine ⟨hk,?_⟩;cases r with
 | error c=>exact .inl ⟨c.1,c.2,rfl,h⟩
 | ok a=>obtain ⟨v,b,f,j⟩:=h;exact .inr ⟨a.1,a.2,v,rfl,b,f,j⟩
end
def VUnit (_:World) (v:Value) (_:Unit):Prop:=v = .tuple #[]
def VStr (_:World) (v:Value) (s:ByteArray):Prop:=v = .string s
section
variable {w:World} {g:Nat} {l:List Tk}
theorem zaN {w:World} {a:Addr} {v:Value} (h:w.cell? a=some v) (o:Obj):(w.alloc o).cell? a=some v:=by
 rw [World.cell?_alloc_lt w o a (World.block_lt_of_cell? w _ h)];exact h
theorem zcd (h:Rdr w g l):Calls Tryz.prog 215 #[.pointer (some ⟨g,0,none⟩)] w fun e w'=>e = .returned (.agg #[.int .i64 (hdT l).1,.string (hdT l).2.1,.int .i64 (hdT l).2.2])∧Below w.heap.size w w':=by
 obtain ⟨A,c,h⟩:=h;have m:=zaN h.c0;obtain ⟨b,o,rfl,n,f,j,k⟩:=h.first;replace f:=zaN f;replace j:=zaN j;replace k:=zaN k;clear h;go_enter Tryz.func215,Tryz.ntmps215
 go_wp2
 refine bodyPost_ret (v:=_) (by simp [results,Tryz.results215,go_sem];try rfl) rfl ?_;exact ⟨rfl,(Below.refl _ w).alloc (yaj _) _⟩
theorem pass_any (h:Rdr w g l) (hf:Fine l.tail):Calls Tryz.prog 273 #[.pointer (some ⟨g,0,none⟩)] w fun e w'=>e = .returned (.tuple #[])∧Rdr w' g l.tail∧Kp g w.heap.size w w':=by
 obtain ⟨A,c,h⟩:=h;have n:=h.c0;have q:=h.fz;obtain ⟨b,o,rfl,s,_⟩:=h.first;have f:=h.step hf;have u:=h.toks.cap;have m:=h.toks.capm;unfold maxLen at m;clear h;by_cases k:c=1
 · subst k;simp only [if_true,show l.length-1=0 by omega,ycu] at f;have j:=Lib.hid f;clear f;go_enter Tryz.func273,Tryz.ntmps273
   go_wp2
   go_returns
   exact ⟨rfl,j.out⟩
 · simp only [yak k,ybG,Addr.add_lit] at f;have j:=Lib.hid f;clear f;go_enter Tryz.func273,Tryz.ntmps273
   go_wp2
   go_returns
   exact ⟨rfl,j.out⟩
theorem tok_f0 (x y z:Value) (W:World):(Instr.field 327 (.agg #[x,y,z]) 0).run Tryz.prog W = .ok x W:=by kernel_rfl
theorem zly (x y z:Value) (W:World):(Instr.field 327 (.agg #[x,y,z]) 1).run Tryz.prog W = .ok y W:=by kernel_rfl
theorem tok_f2 (x y z:Value) (W:World):(Instr.field 327 (.agg #[x,y,z]) 2).run Tryz.prog W = .ok z W:=by kernel_rfl
theorem may_yes (h:Rdr w g l) (hs:0<s.size) (e:(hdT l).2.1=s):Calls Tryz.prog 246 #[.pointer (some ⟨g,0,none⟩),.string s] w fun e w'=>e = .returned (.bool true)∧Rdr w' g l.tail∧Kp g w.heap.size w w':=by
 have b:=h.fine.next hs e;have j:((hdT l).2.1.toList == s.toList)=true:=by rw [zbp];exact yaB e
 generalize hx:(hdT l).2.1=x at *
 have k:=zly;go_enter Tryz.func246,Tryz.ntmps246
 go_wp2_with (first
  | ((with_reducible refine (zcd h).mono ?_);rintro e m ⟨rfl,hb⟩;rw [hx])
  | ((with_reducible refine (pass_any (h.below hb) b).mono ?_);rintro e n ⟨rfl,f,hk⟩))
 go_returns
 exact ⟨rfl,f,(Kp.of_below hb g).trans (hk.more hb.size)⟩
theorem may_no (h:Rdr w g l) (e:¬(hdT l).2.1=s):Calls Tryz.prog 246 #[.pointer (some ⟨g,0,none⟩),.string s] w fun e w'=>e = .returned (.bool false)∧Below w.heap.size w w':=by
 have b:((hdT l).2.1.toList == s.toList)=false:=by rw [zbp];exact yaF e
 generalize hx:(hdT l).2.1=x at *
 have f:=zly;go_enter Tryz.func246,Tryz.ntmps246
 go_wp2_with ((with_reducible refine (zcd h).mono ?_);rintro e j ⟨rfl,hb⟩;rw [hx])
 go_returns
 exact ⟨rfl,hb⟩
theorem stop_any (h:Rdr w g l):Calls Tryz.prog 271 #[.pointer (some ⟨g,0,none⟩)] w fun e w'=>e=ziM 30 (hdT l).2.2∧Below w.heap.size w w':=by
 have b:=tok_f2;go_enter Tryz.func271,Tryz.ntmps271
 go_wp2_with ((with_reducible refine (zcd h).mono ?_);rintro e f ⟨rfl,hb⟩)
 exact ⟨rfl,rfl,hb⟩
end
section
variable {w:World} {g:Nat} {l:List Tk}
theorem need_yes {l:List Tk} (hf:Fine l) (hs:Ask s) (h:(hdT l).2.1=s):zaQ s l = .ok ((),l.tail):=by unfold zaQ;rw [hf.isT hs,yaB h];rfl
theorem need_no {l:List Tk} (hf:Fine l) (hs:Ask s) (h:¬(hdT l).2.1=s):zaQ s l = .error (30,(hdT l).2.2):=by unfold zaQ;rw [hf.isT hs,yaF h];rfl
theorem must_any (h:Rdr w g l) (hs:Ask s):Calls Tryz.prog 244 #[.pointer (some ⟨g,0,none⟩),.string s] w (Post VUnit w.heap.size w g (zaQ s l)):=by
 by_cases e:(hdT l).2.1=s
 · rw [need_yes h.fine hs e];have k:=may_yes h hs.1 e;clear e;go_enter Tryz.func244,Tryz.ntmps244
   go_wp2_with ((with_reducible refine k.mono ?_);rintro e f ⟨rfl,j,hk⟩)
   go_returns
   exact Post.ok hk rfl j
 · rw [need_no h.fine hs e];have k:=may_no h e;clear e;go_enter Tryz.func244,Tryz.ntmps244
   go_wp2_with (first
    | ((with_reducible refine k.mono ?_);rintro e f ⟨rfl,hb⟩)
    | ((with_reducible refine (stop_any (h.below hb)).mono ?_);rintro e m ⟨rfl,b⟩))
   refine ⟨rfl,?_⟩;exact Post.bad ((Kp.of_below hb g).trans (Kp.of_below (b.mono hb.size) g)) _ _
theorem atName_any (h:Rdr w g l):Calls Tryz.prog 272 #[.pointer (some ⟨g,0,none⟩)] w fun e w'=>e = .returned (.bool (decide ((hdT l).1=1) && !keyB (hdT l).2.1))∧Below w.heap.size w w':=by
 have o:=tok_f0;have q:=zly;have j:∀W,_:=fun W=>key_any (hdT l).2.1 W;have k:∀W,Rdr W g l→_:=fun W H=>zcd (w:=W) H;by_cases f:(hdT l).1=1
 · have m:((((hdT l).1:Nat):Int) == 1)=true:=by rw [ybY];omega
   rw [yaB f,ycl];generalize (hdT l).2.1=x at *
   generalize (hdT l).2.2=y at *
   generalize (hdT l).1=z at *
   generalize keyB x=b at *
   clear f;cases b;all_goals (
    go_enter Tryz.func272,Tryz.ntmps272
    go_wp2_with (first
     | ((with_reducible refine (k _ h).mono ?_);rintro e n ⟨rfl,hb⟩)
     | ((with_reducible refine (j _).mono ?_);rintro e s ⟨rfl,rfl⟩))
    go_returns
    exact ⟨rfl,hb.alloc hb.size _⟩)
 · have m:((((hdT l).1:Nat):Int) == 1)=false:=by rw [ybh];omega
   rw [yaF f,yb6];generalize (hdT l).2.1=x at *
   generalize (hdT l).2.2=y at *
   generalize (hdT l).1=z at *
   clear f j;go_enter Tryz.func272,Tryz.ntmps272
   go_wp2_with ((with_reducible refine (k _ h).mono ?_);rintro e n ⟨rfl,hb⟩)
   go_returns
   exact ⟨rfl,hb.alloc hb.size _⟩
theorem name_yes {l:List Tk} (h:(decide ((hdT l).1=1) && !keyB (hdT l).2.1)=true):zaY l = .ok ((hdT l).2.1,l.tail):=by
 unfold zaY;refine yan ?_;simpa using h
theorem zqX {l:List Tk} (h:(decide ((hdT l).1=1) && !keyB (hdT l).2.1)=false):zaY l = .error (30,(hdT l).2.2):=by
 unfold zaY;refine yak ?_;intro ⟨b,f⟩;rw [yaB b,f] at h;cases h
theorem zqW {l:List Tk} (hf:Fine l) (h:(decide ((hdT l).1=1) && !keyB (hdT l).2.1)=true):Fine l.tail:=by
 refine hf.tail ?_;simp only [ybc,yaP] at h;omega
theorem rname_any (h:Rdr w g l):Calls Tryz.prog 245 #[.pointer (some ⟨g,0,none⟩)] w (Post VStr w.heap.size w g (zaY l)):=by
 have z:=zly;have f:=atName_any h;cases hb:(decide ((hdT l).1=1) && !keyB (hdT l).2.1) with
 | false =>
  rw [zqX hb];rw [hb] at f;go_enter Tryz.func245,Tryz.ntmps245
  go_wp2_with (first
   | ((with_reducible refine f.mono ?_);rintro e j ⟨rfl,hb⟩)
   | ((with_reducible refine (stop_any (h.below hb)).mono ?_);rintro e k ⟨rfl,b⟩))
  refine ⟨rfl,?_⟩;exact Post.bad ((Kp.of_below hb g).trans (Kp.of_below (b.mono hb.size) g)) _ _
 | true =>
  rw [name_yes hb];rw [hb] at f;have m:=zqW h.fine hb;clear hb;have n:∀W,Rdr W g l→_:=fun W H=>zcd (w:=W) H;have o:∀W,Rdr W g l→_:=fun W H=>pass_any (w:=W) H m;have q:∀w',Rdr w' g l.tail→Kp g w.heap.size w w'→Hid (Post VStr w.heap.size w g (.ok ((hdT l).2.1,l.tail)) (.returned (.string (hdT l).2.1)) w'):=fun w' s u=>Lib.hid (Post.ok u rfl s);generalize Post VStr w.heap.size w g (.ok ((hdT l).2.1,l.tail))=R at *
  generalize (hdT l).2.1=x at *
  go_enter Tryz.func245,Tryz.ntmps245
  go_wp2_with (first
   | ((with_reducible refine f.mono ?_);rintro e j ⟨rfl,hb⟩)
   | ((with_reducible refine (n _ (h.below hb)).mono ?_);rintro e k ⟨rfl,b⟩)
   | ((with_reducible refine (o _ ((h.below hb).below b)).mono ?_);rintro e A ⟨rfl,y,hk⟩))
  exact (q _ y ((Kp.of_below (hb.trans (b.mono hb.size)) g).trans (hk.more (yay hb.size b.size)))).out
def zgA (x:ByteArray):Nat:=if x=⟨#[124]⟩ then 4 else if x=⟨#[38]⟩ then 5 else if x=⟨#[45]⟩ then 6 else 0
theorem joins_any (x:ByteArray) (w:World):Calls Tryz.prog 289 #[.string x] w fun e w'=>e = .returned (.tuple #[.int .i64 (zgA x),.bool (!decide (zgA x=0))])∧w'=w:=by
 have b:=zbp x ⟨#[124]⟩;have f:=zbp x ⟨#[38]⟩;have g:=zbp x ⟨#[45]⟩;rw [show (⟨#[124]⟩:ByteArray).toList=[124] by decide +kernel] at b;rw [show (⟨#[38]⟩:ByteArray).toList=[38] by decide +kernel] at f;rw [show (⟨#[45]⟩:ByteArray).toList=[45] by decide +kernel] at g;have j:Hid (zgA x=if decide (x=⟨#[124]⟩)=true then 4 else if decide (x=⟨#[38]⟩)=true then 5 else if decide (x=⟨#[45]⟩)=true then 6 else 0):=Lib.hid (by unfold zgA;simp only [yaP]);generalize decide (x=⟨#[124]⟩)=k at *
 generalize decide (x=⟨#[38]⟩)=m at *
 generalize decide (x=⟨#[45]⟩)=n at *
 generalize zgA x=J at *
 go_enter Tryz.func289,Tryz.ntmps289
 cases k <;> cases m <;> cases n;all_goals go_wp2
 all_goals go_returns
 all_goals (refine ⟨?_,rfl⟩;rw [j.out];rfl)
theorem zjE {l:List Tk} (hf:Fine l):zgA (hdT l).2.1=opT l:=by
 have j:Ask (sg 124):=⟨by decide,.inr ⟨124,by decide,rfl⟩⟩;have k:Ask (sg 38):=⟨by decide,.inr ⟨38,by decide,rfl⟩⟩;have a3:Ask (sg 45):=⟨by decide,.inr ⟨45,by decide,rfl⟩⟩;unfold opT zgA;rw [hf.isT j,hf.isT k,hf.isT a3];show _=if decide ((hdT l).2.1=⟨#[124]⟩)=true then 4 else if decide ((hdT l).2.1=⟨#[38]⟩)=true then 5 else if decide ((hdT l).2.1=⟨#[45]⟩)=true then 6 else 0;by_cases b:(hdT l).2.1=⟨#[124]⟩
 · rw [yan b,yan (yaB b)]
 · rw [yak b,yak (fun h=>b (yaL h))];by_cases f:(hdT l).2.1=⟨#[38]⟩
   · rw [yan f,yan (yaB f)]
   · rw [yak f,yak (fun h=>f (yaL h))];by_cases g:(hdT l).2.1=⟨#[45]⟩
     · rw [yan g,yan (yaB g)]
     · rw [yak g,yak (fun h=>g (yaL h))]
end
end
end Go.Proofs.YtmblgnddgmfkhaaGreat
