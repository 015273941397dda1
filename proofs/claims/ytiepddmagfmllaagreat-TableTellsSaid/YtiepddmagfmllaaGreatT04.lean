import Derived.Test.YtiepddmagfmllaaGreatT03
set_option maxRecDepth 100000
set_option maxHeartbeats 4000000
namespace Go.Proofs.YtiepddmagfmllaaGreat
abbrev OpP:=Nat × ByteArray × ByteArray
abbrev zb7:=ByteArray × ByteArray
structure RelP where
 name:ByteArray
 view:ByteArray
 edit:ByteArray
 check:ByteArray
 subs:List zb7
 ops:List OpP
 deriving DecidableEq
structure TypP where
 name:ByteArray
 rels:List RelP
 deriving DecidableEq
abbrev Rs (α:Type):=Except (Nat × Nat) (α × List Tk)
def zcr:ByteArray:=⟨#[116,121,112,101]⟩
def zgd:ByteArray:=⟨#[114,101,108]⟩
def sIs:ByteArray:=⟨#[105,115]⟩
def zcE:ByteArray:=⟨#[116,104,105,115]⟩
def sg (c:UInt8):ByteArray:=⟨#[c]⟩
def hdT (l:List Tk):Tk:=l.headD (3,⟨#[]⟩,0)
def isT (s:ByteArray) (l:List Tk):Bool:=decide ((hdT l).2.1=s∧((hdT l).1=2∨keyB s=true))
def ziB {α:Type} (c:Nat) (l:List Tk):Rs α:=.error (c,(hdT l).2.2)
def zaG (s:ByteArray) (l:List Tk):Rs Unit:=if isT s l=true then .ok ((),l.tail) else ziB 30 l
def zaR (l:List Tk):Rs ByteArray:=if (hdT l).1=1∧keyB (hdT l).2.1=false then .ok ((hdT l).2.1,l.tail) else ziB 30 l
def zaH {α β:Type} (r:Rs α) (k:α→List Tk→Rs β):Rs β:=match r with
 | .error e=>.error e
 | .ok (a,l)=>k a l
theorem zb8 {α β:Type} (a:α) (l:List Tk) (k:α→List Tk→Rs β):zaH (.ok (a,l)) k=k a l:=rfl
theorem andT_err {α β:Type} (e:Nat × Nat) (k:α→List Tk→Rs β):zaH (.error e:Rs α) k = .error e:=rfl
def opT (l:List Tk):Nat:=if isT (sg 124) l=true then 4 else if isT (sg 38) l=true then 5 else if isT (sg 45) l=true then 6 else 0
mutual
def partF:Nat→Nat→List Tk→Rs (List OpP)
 | 0,_,l=>ziB 30 l
 | f + 1,deep,l =>
  if isT zcE l=true then .ok ([(1,⟨#[]⟩,⟨#[]⟩)],l.tail)
  else if isT (sg 40) l=true then
   (if deep=8 then ziB 13 l
   else zaH (partF f (deep + 1) l.tail) fun o r=>zaH (moreF f (deep + 1) o r) fun o r=>zaH (zaG (sg 41) r) fun _ r=>.ok (o,r))
  else zaH (zaR l) fun n r =>
   if isT (sg 46) r=true then zaH (zaR r.tail) fun m r=>.ok ([(3,n,m)],r) else .ok ([(2,n,⟨#[]⟩)],r)
def moreF:Nat→Nat→List OpP→List Tk→Rs (List OpP)
 | 0,_,_,l=>ziB 30 l
 | f + 1,deep,acc,l =>
  if opT l=0 then .ok (acc,l)
  else zaH (partF f deep l.tail) fun o r=>moreF f deep (acc ++ o ++ [(opT l,⟨#[]⟩,⟨#[]⟩)]) r
end
def rewF (f deep:Nat) (l:List Tk):Rs (List OpP):=zaH (partF f deep l) fun o r=>moreF f deep o r
def zfv:Nat→List zb7→List Tk→Rs (List zb7)
 | 0,_,l=>ziB 30 l
 | f + 1,acc,l=>zaH (zaR l) fun n r =>
  zaH (if isT (sg 35) r=true then zaR r.tail else .ok (⟨#[]⟩,r)) fun m r =>
   if isT (sg 44) r=true then zfv f (acc ++ [(n,m)]) r.tail else .ok (acc ++ [(n,m)],r)
def relF (f:Nat) (l:List Tk):Rs RelP :=
 zaH (zaR l) fun n r=>zaH (zaG (sg 40) r) fun _ r=>zaH (zaR r) fun v r=>zaH (zaG (sg 44) r) fun _ r =>
 zaH (zaR r) fun e r=>zaH (zaG (sg 44) r) fun _ r=>zaH (zaR r) fun c r=>zaH (zaG (sg 41) r) fun _ r =>
 zaH (zaG (sg 58) r) fun _ r =>
 zaH (if isT sIs r=true∨isT (sg 59) r=true then .ok ([],r) else zfv f [] r) fun w r =>
 zaH (if isT sIs r=true then rewF f 0 r.tail else .ok ([(1,⟨#[]⟩,⟨#[]⟩)],r)) fun o r =>
 zaH (zaG (sg 59) r) fun _ r=>.ok (⟨n,v,e,c,w,o⟩,r)
def zdW:Nat→Nat→List RelP→List Tk→Rs (List RelP)
 | _,0,_,l=>ziB 30 l
 | f,g + 1,acc,l=>if isT zgd l=true then zaH (relF f l.tail) fun x r=>zdW f g (acc ++ [x]) r else .ok (acc,l)
def zcu:Nat→Nat→List TypP→List Tk→Rs (List TypP)
 | _,0,_,l=>ziB 30 l
 | f,g + 1,acc,l =>
  if isT zcr l=true then zaH (zaR l.tail) fun n r=>zaH (zaG (sg 123) r) fun _ r=>zaH (zdW f f [] r) fun rs r =>
   zaH (zaG (sg 125) r) fun _ r=>zcu f g (acc ++ [⟨n,rs⟩]) r
  else .ok (acc,l)
def zdC (l:List Tk):Rs (List TypP):=zaH (zcu (2 * l.length + 2) (2 * l.length + 2) [] l) fun t r=>if (hdT r).1=3 then .ok (t,r) else ziB 30 r
def outS (r:Rs (List TypP)):List TypP × Nat × Nat:=match r with
 | .error e=>([],e)
 | .ok p=>(p.1,0,0)
def zaf (s:ByteArray):List TypP × Nat × Nat:=if (zbP s).2.1=0 then outS (zdC (zbP s).1) else ([],(zbP s).2)
theorem zay {s:ByteArray} {l:List Tk} (hs:0<s.size) (h:isT s l=true):l.tail.length + 1=l.length:=by
 cases l with
 | nil =>
  unfold isT at h;rw [decide_eq_true_iff] at h;have:s=⟨#[]⟩:=h.1.symm;rw [this] at hs;exact absurd hs (by decide)
 | cons a r=>rfl
theorem zau {l r:List Tk} {n:ByteArray} (h:zaR l = .ok (n,r)):r.length + 1=l.length:=by
 unfold zaR at h;split at h
 · rename_i hc
   cases l with
   | nil=>exact absurd hc.1 (by decide)
   | cons a t =>
    cases h;rfl
 · cases h
theorem zat {s:ByteArray} {l r:List Tk} {u:Unit} (hs:0<s.size) (h:zaG s l = .ok (u,r)):r.length + 1=l.length:=by
 unfold zaG at h;split at h
 · rename_i hc
   cases h;exact zay hs hc
 · cases h
theorem zae {α β:Type} {r:Rs α} {k:α→List Tk→Rs β} {b:β} {l:List Tk} (h:zaH r k = .ok (b,l)):∃a m,r = .ok (a,m)∧k a m = .ok (b,l):=by
 cases r with
 | error e=>cases h
 | ok p=>exact ⟨p.1,p.2,rfl,h⟩
theorem zal {α β:Type} {r r':Rs α} {k k':α→List Tk→Rs β} (h:r=r') (hk:∀a m,r = .ok (a,m)→k a m=k' a m):zaH r k=zaH r' k':=by
 subst h;cases r with
 | error e=>rfl
 | ok p=>exact hk p.1 p.2 rfl
theorem zam (c:UInt8):0<(sg c).size:=by show 0<1;omega
theorem zd4 {l:List Tk} (h:¬opT l=0):l.tail.length + 1=l.length:=by
 unfold opT at h;by_cases h1:isT (sg 124) l=true
 · exact zay (zam _) h1
 · by_cases h2:isT (sg 38) l=true
   · exact zay (zam _) h2
   · by_cases h3:isT (sg 45) l=true
     · exact zay (zam _) h3
     · rw [if_neg h1,if_neg h2,if_neg h3] at h;exact absurd rfl h
theorem eats:∀f:Nat,(∀d l o r,partF f d l = .ok (o,r)→r.length<l.length)∧(∀d acc l o r,moreF f d acc l = .ok (o,r)→r.length≤l.length)
 | 0=>⟨fun d l o r h=>(by unfold partF at h;cases h),fun d acc l o r h=>(by unfold moreF at h;cases h)⟩
 | f + 1=>by
  obtain ⟨ih1,ih2⟩:=eats f;constructor
  · intro d l o r h;unfold partF at h;split at h
    · rename_i hc
      cases h;have:=zay (by show 0<4;omega) hc;omega
    · split at h
      · rename_i hc
        have h1:=zay (zam _) hc;split at h
        · cases h
        · obtain ⟨a,m,e1,h⟩:=zae h;obtain ⟨a2,m2,e2,h⟩:=zae h;obtain ⟨a3,m3,e3,h⟩:=zae h;cases h;have:=ih1 _ _ _ _ e1;have:=ih2 _ _ _ _ _ e2;have:=zat (zam _) e3;omega
      · obtain ⟨a,m,e1,h⟩:=zae h;have h1:=zau e1;split at h
        · rename_i hc
          have h2:=zay (zam _) hc;obtain ⟨a2,m2,e2,h⟩:=zae h;have:=zau e2;cases h;omega
        · cases h;omega
  · intro d acc l o r h;unfold moreF at h;split at h
    · cases h;omega
    · rename_i hc
      have h1:=zd4 hc;obtain ⟨a,m,e1,h⟩:=zae h;have:=ih1 _ _ _ _ e1;have:=ih2 _ _ _ _ _ h;omega
theorem fuel:∀f g:Nat,(∀d l,l.length<f→l.length<g→partF f d l=partF g d l)∧(∀d acc l,l.length<f→l.length<g→moreF f d acc l=moreF g d acc l)
 | 0,_=>⟨fun _ _ h _=>absurd h (Nat.not_lt_zero _),fun _ _ _ h _=>absurd h (Nat.not_lt_zero _)⟩
 | _ + 1,0=>⟨fun _ _ _ h=>absurd h (Nat.not_lt_zero _),fun _ _ _ _ h=>absurd h (Nat.not_lt_zero _)⟩
 | f + 1,g + 1=>by
  obtain ⟨ih1,ih2⟩:=fuel f g;constructor
  · intro d l hf hg;unfold partF;split
    · rfl
    · split
      · rename_i hc
        have h1:=zay (zam _) hc;split
        · rfl
        · refine zal (ih1 _ _ (by omega) (by omega)) fun a m e1=>?_;have:=(eats _).1 _ _ _ _ e1;exact zal (ih2 _ _ _ (by omega) (by omega)) fun _ _ _=>rfl
      · rfl
  · intro d acc l hf hg;unfold moreF;split
    · rfl
    · rename_i hc
      have h1:=zd4 hc;refine zal (ih1 _ _ (by omega) (by omega)) fun a m e1=>?_;have:=(eats _).1 _ _ _ _ e1;exact ih2 _ _ _ (by omega) (by omega)
def zes (d:Nat) (l:List Tk):Rs (List OpP):=partF (l.length + 1) d l
def ziV (d:Nat) (acc:List OpP) (l:List Tk):Rs (List OpP):=moreF (l.length + 1) d acc l
def ziw (d:Nat) (l:List Tk):Rs (List OpP):=zaH (zes d l) fun o r=>ziV d o r
theorem zhe (d:Nat) (l:List Tk):zes d l =
 if isT zcE l=true then .ok ([(1,⟨#[]⟩,⟨#[]⟩)],l.tail)
 else if isT (sg 40) l=true then
  (if d=8 then ziB 13 l
  else zaH (ziw (d + 1) l.tail) fun o r=>zaH (zaG (sg 41) r) fun _ r=>.ok (o,r))
 else zaH (zaR l) fun n r =>
  if isT (sg 46) r=true then zaH (zaR r.tail) fun m r=>.ok ([(3,n,m)],r) else .ok ([(2,n,⟨#[]⟩)],r):=by
 conv=>lhs;unfold zes partF
 split
 · rfl
 · split
   · rename_i hc
     have h1:=zay (zam _) hc;split
     · rfl
     · have e1:partF l.length (d + 1) l.tail=zes (d + 1) l.tail:=(fuel _ _).1 _ _ (by omega) (by omega);rw [e1];unfold ziw;cases hp:zes (d + 1) l.tail with
       | error e=>rfl
       | ok p =>
        have:=(eats _).1 _ _ _ _ (show partF (l.tail.length + 1) (d + 1) l.tail = .ok (p.1,p.2) from hp);have e2:moreF l.length (d + 1) p.1 p.2=ziV (d + 1) p.1 p.2:=(fuel _ _).2 _ _ _ (by omega) (by omega);show zaH (moreF l.length (d + 1) p.1 p.2) _=zaH (ziV (d + 1) p.1 p.2) _;rw [e2]
   · rfl
theorem moreT_eq (d:Nat) (acc:List OpP) (l:List Tk):ziV d acc l =
 if opT l=0 then .ok (acc,l)
 else zaH (zes d l.tail) fun o r=>ziV d (acc ++ o ++ [(opT l,⟨#[]⟩,⟨#[]⟩)]) r:=by
 conv=>lhs;unfold ziV moreF
 split
 · rfl
 · rename_i hc
   have h1:=zd4 hc;refine zal ((fuel _ _).1 _ _ (by omega) (by omega)) fun a m e1=>?_;have:=(eats _).1 _ _ _ _ e1;exact (fuel _ _).2 _ _ _ (by omega) (by omega)
theorem zf9:∀(f:Nat) (acc:List zb7) (l:List Tk) (o:List zb7) (r:List Tk),zfv f acc l = .ok (o,r)→r.length<l.length
 | 0,acc,l,o,r,h=>by unfold zfv at h;cases h
 | f + 1,acc,l,o,r,h=>by
  unfold zfv at h;obtain ⟨a,m,e1,h⟩:=zae h;have h1:=zau e1;obtain ⟨a2,m2,e2,h⟩:=zae h;have h2:m2.length≤m.length:=by
   by_cases hc:isT (sg 35) m=true
   · rw [if_pos hc] at e2;have:=zay (zam _) hc;have:=zau e2;omega
   · rw [if_neg hc] at e2;cases e2;omega
  by_cases hc:isT (sg 44) m2=true
  · rw [if_pos hc] at h;have:=zay (zam _) hc;have:=zf9 f _ _ _ _ h;omega
  · rw [if_neg hc] at h;cases h;omega
theorem zhB {m m2:List Tk} {a2:ByteArray} (e2:(if isT (sg 35) m=true then zaR m.tail else .ok (⟨#[]⟩,m)) = .ok (a2,m2)):m2.length≤m.length:=by
 by_cases hc:isT (sg 35) m=true
 · rw [if_pos hc] at e2;have:=zay (zam _) hc;have:=zau e2;omega
 · rw [if_neg hc] at e2;cases e2;omega
theorem zga:∀(f g:Nat) (acc:List zb7) (l:List Tk),l.length<f→l.length<g→zfv f acc l=zfv g acc l
 | 0,_,_,_,h,_=>absurd h (Nat.not_lt_zero _)
 | _ + 1,0,_,_,_,h=>absurd h (Nat.not_lt_zero _)
 | f + 1,g + 1,acc,l,hf,hg=>by
  unfold zfv;refine zal rfl fun a m e1=>?_;have h1:=zau e1;refine zal rfl fun a2 m2 e2=>?_;have h2:=zhB e2;by_cases hc:isT (sg 44) m2=true
  · rw [if_pos hc,if_pos hc];have:=zay (zam _) hc;exact zga f g _ _ (by omega) (by omega)
  · rw [if_neg hc,if_neg hc]
def whoT (acc:List zb7) (l:List Tk):Rs (List zb7):=zfv (l.length + 1) acc l
theorem zmQ (acc:List zb7) (l:List Tk):whoT acc l=zaH (zaR l) fun n r =>
 zaH (if isT (sg 35) r=true then zaR r.tail else .ok (⟨#[]⟩,r)) fun m r =>
  if isT (sg 44) r=true then whoT (acc ++ [(n,m)]) r.tail else .ok (acc ++ [(n,m)],r):=by
 conv=>lhs;unfold whoT zfv
 refine zal rfl fun a m e1=>?_;have h1:=zau e1;refine zal rfl fun a2 m2 e2=>?_;have h2:=zhB e2;by_cases hc:isT (sg 44) m2=true
 · rw [if_pos hc,if_pos hc];have:=zay (zam _) hc;exact zga _ _ _ _ (by omega) (by omega)
 · rw [if_neg hc,if_neg hc]
theorem zms {f d:Nat} {l:List Tk} (h:l.length<f):rewF f d l=ziw d l:=by
 unfold rewF ziw zes;refine zal ((fuel _ _).1 _ _ h (by omega)) fun a m e1=>?_;have:=(eats _).1 _ _ _ _ e1;exact (fuel _ _).2 _ _ _ (by omega) (by omega)
theorem zmu {d:Nat} {l r:List Tk} {o:List OpP} (h:ziw d l = .ok (o,r)):r.length<l.length:=by
 unfold ziw at h;obtain ⟨a,m,e1,h⟩:=zae h;have:=(eats _).1 _ _ _ _ e1;have:=(eats _).2 _ _ _ _ _ h;omega
def zmn (l:List Tk):Rs RelP :=
 zaH (zaR l) fun n r=>zaH (zaG (sg 40) r) fun _ r=>zaH (zaR r) fun v r=>zaH (zaG (sg 44) r) fun _ r =>
 zaH (zaR r) fun e r=>zaH (zaG (sg 44) r) fun _ r=>zaH (zaR r) fun c r=>zaH (zaG (sg 41) r) fun _ r =>
 zaH (zaG (sg 58) r) fun _ r =>
 zaH (if isT sIs r=true∨isT (sg 59) r=true then .ok ([],r) else whoT [] r) fun w r =>
 zaH (if isT sIs r=true then ziw 0 r.tail else .ok ([(1,⟨#[]⟩,⟨#[]⟩)],r)) fun o r =>
 zaH (zaG (sg 59) r) fun _ r=>.ok (⟨n,v,e,c,w,o⟩,r)
theorem zht:0<sIs.size:=by show 0<2;omega
theorem zcp {f:Nat} {l:List Tk} (h:l.length<f):relF f l=zmn l∧∀o r,zmn l = .ok (o,r)→r.length<l.length:=by
 constructor
 · unfold relF zmn;refine zal rfl fun _ _ e=>?_;have h1:=zau e;refine zal rfl fun _ _ e=>?_;have h2:=zat (zam _) e;refine zal rfl fun _ _ e=>?_;have h3:=zau e;refine zal rfl fun _ _ e=>?_;have h4:=zat (zam _) e;refine zal rfl fun _ _ e=>?_;have h5:=zau e;refine zal rfl fun _ _ e=>?_;have h6:=zat (zam _) e;refine zal rfl fun _ _ e=>?_;have h7:=zau e;refine zal rfl fun _ _ e=>?_;have h8:=zat (zam _) e;refine zal rfl fun _ _ e=>?_;have h9:=zat (zam _) e;rename_i m9
   refine zal ?_ fun _ m e=>?_
   · split
     · rfl
     · exact zga _ _ _ _ (by omega) (by omega)
   · have h10:m.length≤m9.length:=by
      split at e
      · cases e;exact Nat.le_refl _
      · have:=zf9 _ _ _ _ _ e;omega
     refine zal ?_ fun _ _ _=>rfl;split
     · rename_i hc
       have:=zay zht hc;exact zms (by omega)
     · rfl
 · intro o r hr;unfold zmn at hr;obtain ⟨_,_,e,hr⟩:=zae hr;have h1:=zau e;obtain ⟨_,_,e,hr⟩:=zae hr;have h2:=zat (zam _) e;obtain ⟨_,_,e,hr⟩:=zae hr;have h3:=zau e;obtain ⟨_,_,e,hr⟩:=zae hr;have h4:=zat (zam _) e;obtain ⟨_,_,e,hr⟩:=zae hr;have h5:=zau e;obtain ⟨_,_,e,hr⟩:=zae hr;have h6:=zat (zam _) e;obtain ⟨_,_,e,hr⟩:=zae hr;have h7:=zau e;obtain ⟨_,_,e,hr⟩:=zae hr;have h8:=zat (zam _) e;obtain ⟨_,m9,e,hr⟩:=zae hr;have h9:=zat (zam _) e;obtain ⟨_,m,e,hr⟩:=zae hr;have h10:m.length≤m9.length:=by
    split at e
    · cases e;exact Nat.le_refl _
    · have:=zf9 _ _ _ _ _ e;omega
   obtain ⟨_,m2,e,hr⟩:=zae hr;have h11:m2.length≤m.length:=by
    split at e
    · rename_i hc
      have:=zay zht hc;have:=zmu e;omega
    · cases e;exact Nat.le_refl _
   obtain ⟨_,_,e,hr⟩:=zae hr;have h12:=zat (zam _) e;cases hr;omega
theorem zb4:0<zgd.size:=by show 0<3;omega
theorem zbW:0<zcr.size:=by show 0<4;omega
theorem zdN:∀(f g:Nat) (acc:List RelP) (l:List Tk) (o:List RelP) (r:List Tk),l.length<f→zdW f g acc l = .ok (o,r)→r.length≤l.length
 | _,0,acc,l,o,r,_,h=>by unfold zdW at h;cases h
 | f,g + 1,acc,l,o,r,hf,h=>by
  unfold zdW at h;by_cases hc:isT zgd l=true
  · rw [if_pos hc] at h;have h1:=zay zb4 hc;rw [(zcp (f:=f) (l:=l.tail) (by omega)).1] at h;obtain ⟨a,m,e1,h⟩:=zae h;have:=(zcp (f:=f) (l:=l.tail) (by omega)).2 _ _ e1;have:=zdN f g _ _ _ _ (by omega) h;omega
  · rw [if_neg hc] at h;cases h;omega
theorem zdO:∀(g g2 f f2:Nat) (acc:List RelP) (l:List Tk),l.length<f→l.length<f2→l.length<g→l.length<g2→zdW f g acc l=zdW f2 g2 acc l
 | 0,_,_,_,_,_,_,_,h,_=>absurd h (Nat.not_lt_zero _)
 | _ + 1,0,_,_,_,_,_,_,_,h=>absurd h (Nat.not_lt_zero _)
 | g + 1,g2 + 1,f,f2,acc,l,hf,hf2,hg,hg2=>by
  unfold zdW;by_cases hc:isT zgd l=true
  · rw [if_pos hc,if_pos hc];have h1:=zay zb4 hc;obtain ⟨e,e2⟩:=zcp (f:=f) (l:=l.tail) (by omega);rw [e,(zcp (f:=f2) (l:=l.tail) (by omega)).1];refine zal rfl fun a m e1=>?_;have:=e2 _ _ e1;exact zdO g g2 f f2 _ _ (by omega) (by omega) (by omega) (by omega)
  · rw [if_neg hc,if_neg hc]
def zi9 (acc:List RelP) (l:List Tk):Rs (List RelP):=zdW (l.length + 1) (l.length + 1) acc l
theorem zdP (acc:List RelP) (l:List Tk):zi9 acc l=if isT zgd l=true then zaH (zmn l.tail) fun x r=>zi9 (acc ++ [x]) r else .ok (acc,l):=by
 conv=>lhs;unfold zi9 zdW
 by_cases hc:isT zgd l=true
 · rw [if_pos hc,if_pos hc];have h1:=zay zb4 hc;obtain ⟨e,e2⟩:=zcp (f:=l.length + 1) (l:=l.tail) (by omega);rw [e];refine zal rfl fun a m e1=>?_;have:=e2 _ _ e1;exact zdO _ _ _ _ _ _ (by omega) (by omega) (by omega) (by omega)
 · rw [if_neg hc,if_neg hc]
theorem zd8:∀(g g2 f f2:Nat) (acc:List TypP) (l:List Tk),l.length<f→l.length<f2→l.length<g→l.length<g2→zcu f g acc l=zcu f2 g2 acc l
 | 0,_,_,_,_,_,_,_,h,_=>absurd h (Nat.not_lt_zero _)
 | _ + 1,0,_,_,_,_,_,_,_,h=>absurd h (Nat.not_lt_zero _)
 | g + 1,g2 + 1,f,f2,acc,l,hf,hf2,hg,hg2=>by
  unfold zcu;by_cases hc:isT zcr l=true
  · rw [if_pos hc,if_pos hc];have h1:=zay zbW hc;refine zal rfl fun _ _ e=>?_;have h2:=zau e;refine zal rfl fun _ m3 e=>?_;have h3:=zat (zam _) e;refine zal (zdO _ _ _ _ _ _ (by omega) (by omega) (by omega) (by omega)) fun _ _ e=>?_;have h4:=zdN _ _ _ _ _ _ (by omega) e;refine zal rfl fun _ _ e=>?_;have h5:=zat (zam _) e;exact zd8 g g2 f f2 _ _ (by omega) (by omega) (by omega) (by omega)
  · rw [if_neg hc,if_neg hc]
def zdd (acc:List TypP) (l:List Tk):Rs (List TypP):=zcu (l.length + 1) (l.length + 1) acc l
theorem zcV (acc:List TypP) (l:List Tk):zdd acc l =
 if isT zcr l=true then zaH (zaR l.tail) fun n r=>zaH (zaG (sg 123) r) fun _ r=>zaH (zi9 [] r) fun rs r =>
  zaH (zaG (sg 125) r) fun _ r=>zdd (acc ++ [⟨n,rs⟩]) r
 else .ok (acc,l):=by
 conv=>lhs;unfold zdd zcu
 by_cases hc:isT zcr l=true
 · rw [if_pos hc,if_pos hc];have h1:=zay zbW hc;refine zal rfl fun _ _ e=>?_;have h2:=zau e;refine zal rfl fun _ m3 e=>?_;have h3:=zat (zam _) e;refine zal (zdO _ _ _ _ _ _ (by omega) (by omega) (by omega) (by omega)) fun _ _ e=>?_;have h4:=zdN _ _ _ _ _ _ (by omega) e;refine zal rfl fun _ _ e=>?_;have h5:=zat (zam _) e;exact zd8 _ _ _ _ _ _ (by omega) (by omega) (by omega) (by omega)
 · rw [if_neg hc,if_neg hc]
theorem zeY (l:List Tk):zdC l=zaH (zdd [] l) fun t r=>if (hdT r).1=3 then .ok (t,r) else ziB 30 r:=by
 unfold zdC zdd;exact zal (zd8 _ _ _ _ _ _ (by omega) (by omega) (by omega) (by omega)) fun _ _ _=>rfl
def Wd (l:List Tk):Prop:=∀t ∈ l,t.1=1→0<t.2.1.size
theorem Wd.tail {l:List Tk} (h:Wd l):Wd l.tail:=fun t ht=>h t (List.mem_of_mem_tail ht)
def Bd (B:Nat) (l:List Tk):Prop:=∀t ∈ l,t.2.2≤B
theorem Bd.tail {B:Nat} {l:List Tk} (h:Bd B l):Bd B l.tail:=fun t ht=>h t (List.mem_of_mem_tail ht)
theorem Bd.hd {B:Nat} {l:List Tk} (h:Bd B l):(hdT l).2.2≤B:=by
 cases l with
 | nil=>exact Nat.zero_le _
 | cons a r=>exact h a (List.mem_cons_self ..)
def Sf {α:Type} (B:Nat):Rs α→Prop
 | .error e=>e.2≤B
 | .ok p=>Bd B p.2
theorem Sf.and {α β:Type} {B:Nat} {r:Rs α} {k:α→List Tk→Rs β} (h:Sf B r) (hk:∀a l,Bd B l→Sf B (k a l)):Sf B (zaH r k):=by
 cases r with
 | error e=>exact h
 | ok p=>exact hk p.1 p.2 h
theorem Sf.bad {α:Type} {B:Nat} {l:List Tk} (h:Bd B l) (c:Nat):Sf B (ziB c l:Rs α):=h.hd
theorem Sf.ok {α:Type} {B:Nat} {l:List Tk} (h:Bd B l) (a:α):Sf B (.ok (a,l):Rs α):=h
theorem Sf.name {B:Nat} {l:List Tk} (h:Bd B l):Sf B (zaR l):=by
 unfold zaR;split
 · exact h.tail
 · exact Sf.bad h 30
theorem Sf.need {B:Nat} {l:List Tk} (h:Bd B l) (s:ByteArray):Sf B (zaG s l):=by
 unfold zaG;split
 · exact h.tail
 · exact Sf.bad h 30
theorem Sf.parts (B:Nat):∀f:Nat,(∀d l,Bd B l→Sf B (partF f d l))∧(∀d acc l,Bd B l→Sf B (moreF f d acc l))
 | 0=>⟨fun d l h=>(by unfold partF;exact Sf.bad h 30),fun d acc l h=>(by unfold moreF;exact Sf.bad h 30)⟩
 | f + 1=>by
  obtain ⟨ih1,ih2⟩:=Sf.parts B f;constructor
  · intro d l h;unfold partF;split
    · exact h.tail
    · split
      · split
        · exact Sf.bad h 13
        · exact (ih1 _ _ h.tail).and fun a m hm=>(ih2 _ _ _ hm).and fun a m hm=>(Sf.need hm _).and fun a m hm=>hm
      · refine (Sf.name h).and fun a m hm=>?_;split
        · exact (Sf.name hm.tail).and fun a m hm=>hm
        · exact hm
  · intro d acc l h;unfold moreF;split
    · exact h
    · exact (ih1 _ _ h.tail).and fun a m hm=>ih2 _ _ _ hm
theorem Sf.who (B:Nat):∀(f:Nat) (acc:List zb7) (l:List Tk),Bd B l→Sf B (zfv f acc l)
 | 0,acc,l,h=>by unfold zfv;exact Sf.bad h 30
 | f + 1,acc,l,h=>by
  unfold zfv;refine (Sf.name h).and fun a m hm=>Sf.and (r:=if isT (sg 35) m=true then zaR m.tail else .ok (⟨#[]⟩,m)) ?_ fun a m hm=>?_
  · split
    · exact Sf.name hm.tail
    · exact hm
  · split
    · exact Sf.who B f _ _ hm.tail
    · exact hm
theorem Sf.rel {B:Nat} {f:Nat} {l:List Tk} (h:Bd B l):Sf B (relF f l):=by
 unfold relF;refine (Sf.name h).and fun _ _ h=>(Sf.need h _).and fun _ _ h=>(Sf.name h).and fun _ _ h=>(Sf.need h _).and fun _ _ h=>(Sf.name h).and fun _ _ h=>(Sf.need h _).and fun _ _ h=>(Sf.name h).and fun _ _ h=>(Sf.need h _).and fun _ _ h=>(Sf.need h _).and fun _ m h=>?_;refine Sf.and (r:=if isT sIs m=true∨isT (sg 59) m=true then .ok ([],m) else zfv f [] m) ?_ fun _ m h=>?_
 · split
   · exact h
   · exact Sf.who B f _ _ h
 refine Sf.and (r:=if isT sIs m=true then rewF f 0 m.tail else .ok ([(1,⟨#[]⟩,⟨#[]⟩)],m)) ?_ fun _ m h=>?_
 · split
   · unfold rewF;exact ((Sf.parts B f).1 _ _ h.tail).and fun _ _ h=>(Sf.parts B f).2 _ _ _ h
   · exact h
 exact (Sf.need h _).and fun _ _ h=>h
theorem Sf.rels (B:Nat):∀(g f:Nat) (acc:List RelP) (l:List Tk),Bd B l→Sf B (zdW f g acc l)
 | 0,f,acc,l,h=>by unfold zdW;exact Sf.bad h 30
 | g + 1,f,acc,l,h=>by
  unfold zdW;split
  · exact (Sf.rel h.tail).and fun _ _ h=>Sf.rels B g f _ _ h
  · exact h
theorem Sf.types (B:Nat):∀(g f:Nat) (acc:List TypP) (l:List Tk),Bd B l→Sf B (zcu f g acc l)
 | 0,f,acc,l,h=>by unfold zcu;exact Sf.bad h 30
 | g + 1,f,acc,l,h=>by
  unfold zcu;split
  · exact (Sf.name h.tail).and fun _ _ h=>(Sf.need h _).and fun _ _ h=>(Sf.rels B f f _ _ h).and fun _ _ h=>(Sf.need h _).and fun _ _ h=>Sf.types B g f _ _ h
  · exact h
theorem zfE:∀f:Nat,(∀d l o r,partF f d l = .ok (o,r)→o.length + r.length≤l.length)∧(∀d acc l o r,moreF f d acc l = .ok (o,r)→o.length + r.length≤acc.length + l.length)
 | 0=>⟨fun d l o r h=>(by unfold partF at h;cases h),fun d acc l o r h=>(by unfold moreF at h;cases h)⟩
 | f + 1=>by
  obtain ⟨ih1,ih2⟩:=zfE f;constructor
  · intro d l o r h;unfold partF at h;split at h
    · rename_i hc
      have h1:=zay (by decide) hc;cases h;simp only [List.length_cons,List.length_nil];omega
    · split at h
      · rename_i hc
        have h1:=zay (zam _) hc;split at h
        · cases h
        · obtain ⟨a,m,e1,h⟩:=zae h;have g1:=ih1 _ _ _ _ e1;obtain ⟨a2,m2,e2,h⟩:=zae h;have g2:=ih2 _ _ _ _ _ e2;obtain ⟨a3,m3,e3,h⟩:=zae h;have w3:=zat (zam _) e3;cases h;omega
      · obtain ⟨a,m,e1,h⟩:=zae h;have s1:=zau e1;split at h
        · rename_i hc
          have h1:=zay (zam _) hc;obtain ⟨a2,m2,e2,h⟩:=zae h;have s2:=zau e2;cases h;simp only [List.length_cons,List.length_nil];omega
        · cases h;simp only [List.length_cons,List.length_nil];omega
  · intro d acc l o r h;unfold moreF at h;split at h
    · cases h;exact Nat.le_refl _
    · rename_i hc
      have h1:=zd4 hc;obtain ⟨a,m,e1,h⟩:=zae h;have g1:=ih1 _ _ _ _ e1;have g2:=ih2 _ _ _ _ _ h;simp only [List.length_append,List.length_cons,List.length_nil] at g2;omega
theorem zlx:∀(f:Nat) (acc:List zb7) (l:List Tk) (o:List zb7) (r:List Tk),zfv f acc l = .ok (o,r)→o.length + r.length≤acc.length + l.length
 | 0,acc,l,o,r,h=>by unfold zfv at h;cases h
 | f + 1,acc,l,o,r,h=>by
  unfold zfv at h;obtain ⟨a,m,e1,h⟩:=zae h;have s1:=zau e1;obtain ⟨a2,m2,e2,h⟩:=zae h;have s2:=zhB e2;by_cases hc:isT (sg 44) m2=true
  · rw [if_pos hc] at h;have s3:=zay (zam _) hc;have:=zlx f _ _ _ _ h;simp only [List.length_append,List.length_cons,List.length_nil] at this;omega
  · rw [if_neg hc] at h;cases h;simp only [List.length_append,List.length_cons,List.length_nil];omega
def FewR (N:Nat) (x:RelP):Prop:=x.subs.length≤N∧x.ops.length≤N
theorem zlv {l r:List Tk} {x:RelP} (h:zmn l = .ok (x,r)):FewR l.length x∧r.length<l.length:=by
 refine ⟨?_,(zcp (f:=l.length + 1) (Nat.lt_succ_self _)).2 _ _ h⟩;unfold zmn at h;obtain ⟨_,_,e,h⟩:=zae h;have l0:=zau e;obtain ⟨_,_,e,h⟩:=zae h;have l1:=zat (zam _) e;obtain ⟨_,_,e,h⟩:=zae h;have l2:=zau e;obtain ⟨_,_,e,h⟩:=zae h;have l3:=zat (zam _) e;obtain ⟨_,_,e,h⟩:=zae h;have l4:=zau e;obtain ⟨_,_,e,h⟩:=zae h;have l5:=zat (zam _) e;obtain ⟨_,_,e,h⟩:=zae h;have l6:=zau e;obtain ⟨_,_,e,h⟩:=zae h;have l7:=zat (zam _) e;obtain ⟨_,_,e,h⟩:=zae h;have l8:=zat (zam _) e;obtain ⟨subs,m,e,h⟩:=zae h;have w2:subs.length + m.length≤l.length:=by
  split at e
  · cases e;simp only [List.length_nil];omega
  · have:=zlx _ _ _ _ _ e;simp only [List.length_nil] at this;omega
 obtain ⟨ops,m2,e,h⟩:=zae h;have w3:ops.length≤l.length:=by
  split at e
  · rename_i hc
    have l9:=zay zht hc;unfold ziw at e;obtain ⟨_,_,e1,e⟩:=zae e;have g1:=(zfE _).1 _ _ _ _ e1;have g2:=(zfE _).2 _ _ _ _ _ e;omega
  · cases e;simp only [List.length_cons,List.length_nil];omega
 obtain ⟨_,_,e,h⟩:=zae h;cases h;exact ⟨by dsimp only;omega,w3⟩
theorem FewR.up {N M:Nat} {x:RelP} (h:FewR N x) (hN:N≤M):FewR M x:=⟨Nat.le_trans h.1 hN,Nat.le_trans h.2 hN⟩
theorem zjs (N:Nat):∀(n:Nat) (acc:List RelP) (l:List Tk) (o:List RelP) (r:List Tk),l.length≤n→l.length≤N→(∀x ∈ acc,FewR N x)→zi9 acc l = .ok (o,r)→(∀x ∈ o,FewR N x)∧o.length + r.length≤acc.length + l.length:=by
 intro n;induction n with
 | zero =>
  intro acc l o r hn hN ha h;rw [zdP] at h;by_cases hc:isT zgd l=true
  · have:=zay zb4 hc;omega
  · rw [if_neg hc] at h;cases h;exact ⟨ha,Nat.le_refl _⟩
 | succ n ih =>
  intro acc l o r hn hN ha h;rw [zdP] at h;by_cases hc:isT zgd l=true
  · rw [if_pos hc] at h;have h1:=zay zb4 hc;obtain ⟨x,m,e,h⟩:=zae h;obtain ⟨g,w⟩:=zlv e;have:=ih _ _ _ _ (by omega) (by omega) (fun y hy=>by
     rcases List.mem_append.1 hy with hy | hy
     · exact ha y hy
     · simp only [List.mem_cons,List.not_mem_nil,or_false] at hy;subst hy;exact g.up (by omega)) h
    refine ⟨this.1,?_⟩;have:=this.2;simp only [List.length_append,List.length_cons,List.length_nil] at this;omega
  · rw [if_neg hc] at h;cases h;exact ⟨ha,Nat.le_refl _⟩
def FewT (N:Nat) (t:TypP):Prop:=t.rels.length≤N∧∀x ∈ t.rels,FewR N x
theorem zlw (N:Nat):∀(n:Nat) (acc:List TypP) (l:List Tk) (o:List TypP) (r:List Tk),l.length≤n→l.length≤N→(∀t ∈ acc,FewT N t)→zdd acc l = .ok (o,r)→(∀t ∈ o,FewT N t)∧o.length + r.length≤acc.length + l.length:=by
 intro n;induction n with
 | zero =>
  intro acc l o r hn hN ha h;rw [zcV] at h;by_cases hc:isT zcr l=true
  · have:=zay zbW hc;omega
  · rw [if_neg hc] at h;cases h;exact ⟨ha,Nat.le_refl _⟩
 | succ n ih =>
  intro acc l o r hn hN ha h;rw [zcV] at h;by_cases hc:isT zcr l=true
  · rw [if_pos hc] at h;have h1:=zay zbW hc;obtain ⟨_,_,e,h⟩:=zae h;have l1:=zau e;obtain ⟨_,_,e,h⟩:=zae h;have l2:=zat (zam _) e;obtain ⟨rs,m,e,h⟩:=zae h;obtain ⟨g,l3⟩:=zjs N _ _ _ _ _ (Nat.le_refl _) (by omega) (fun x hx=>by cases hx) e;simp only [List.length_nil] at l3;obtain ⟨_,_,e,h⟩:=zae h;have l4:=zat (zam _) e;have:=ih _ _ _ _ (by omega) (by omega) (fun t ht=>by
     rcases List.mem_append.1 ht with ht | ht
     · exact ha t ht
     · simp only [List.mem_cons,List.not_mem_nil,or_false] at ht;subst ht;exact ⟨by dsimp only;omega,g⟩) h
    refine ⟨this.1,?_⟩;have:=this.2;simp only [List.length_append,List.length_cons,List.length_nil] at this;omega
  · rw [if_neg hc] at h;cases h;exact ⟨ha,Nat.le_refl _⟩
def Few (N:Nat) (T:List TypP):Prop:=T.length≤N∧∀t ∈ T,FewT N t
theorem zh6 {s:ByteArray} {N:Nat} (hl:(zbP s).1.length≤N):Few N (zaf s).1:=by
 unfold zaf;split
 · rw [zeY];cases hT:zdd [] (zbP s).1 with
   | error e=>exact ⟨Nat.zero_le _,fun t ht=>by cases ht⟩
   | ok q =>
    obtain ⟨g,l⟩:=zlw N _ _ _ _ _ (Nat.le_refl _) hl (fun t ht=>by cases ht) (show zdd [] (zbP s).1 = .ok (q.1,q.2) from hT);rw [zb8];simp only [List.length_nil] at l;split
    · exact ⟨by show q.1.length≤N;omega,g⟩
    · exact ⟨Nat.zero_le _,fun t ht=>by cases ht⟩
 · exact ⟨Nat.zero_le _,fun t ht=>by cases ht⟩
abbrev St:=Except (Nat × Nat) (List Tk)
def isU (s:ByteArray):St→Bool
 | .ok l=>isT s l
 | .error _=>false
def upU:St→St
 | .ok l=>.ok l.tail
 | .error e=>.error e
def zdV (c:Nat):St→St
 | .ok l=>.error (c,(hdT l).2.2)
 | .error e=>.error e
def opU:St→Nat
 | .ok l=>opT l
 | .error _=>0
def zaC (s:ByteArray) (q:St):St:=if isU s q=true then upU q else zdV 30 q
def isN:St→Bool
 | .ok l=>decide ((hdT l).1=1) && !keyB (hdT l).2.1
 | .error _=>false
def hdU:St→ByteArray
 | .ok l=>(hdT l).2.1
 | .error _=>⟨#[]⟩
def zaF (q:St):ByteArray × St:=if isN q=true then (hdU q,upU q) else (⟨#[]⟩,zdV 30 q)
def zd2 {α β:Type} (u:α × St) (k:α→St→β × St):β × St:=k u.1 u.2
mutual
def partU:Nat→Nat→St→List OpP × St
 | 0,_,q=>([],zdV 30 q)
 | f + 1,d,q =>
  if isU zcE q=true then ([(1,⟨#[]⟩,⟨#[]⟩)],upU q)
  else if isU (sg 40) q=true then
   (if d=8 then ([],zdV 13 q)
   else zd2 (partU f (d + 1) (upU q)) fun o r=>zd2 (moreU f (d + 1) o r) fun o r=>(o,zaC (sg 41) r))
  else zd2 (zaF q) fun n r =>
   if isU (sg 46) r=true then zd2 (zaF (upU r)) fun m r=>([(3,n,m)],r) else ([(2,n,⟨#[]⟩)],r)
def moreU:Nat→Nat→List OpP→St→List OpP × St
 | 0,_,acc,q=>(acc,zdV 30 q)
 | f + 1,d,acc,q =>
  if opU q=0 then (acc,q)
  else zd2 (partU f d (upU q)) fun o r=>moreU f d (acc ++ o ++ [(opU q,⟨#[]⟩,⟨#[]⟩)]) r
end
def zjb (f d:Nat) (q:St):List OpP × St:=zd2 (partU f d q) fun o r=>moreU f d o r
def zir:Nat→List zb7→St→List zb7 × St
 | 0,acc,q=>(acc,zdV 30 q)
 | f + 1,acc,q=>zd2 (zaF q) fun n r =>
  zd2 (if isU (sg 35) r=true then zaF (upU r) else (⟨#[]⟩,r)) fun m r =>
   if isU (sg 44) r=true then zir f (acc ++ [(n,m)]) (upU r) else (acc ++ [(n,m)],r)
def zgf:St→Bool
 | .ok _=>true
 | .error _=>false
def zk4 (f:Nat) (q:St):RelP × St :=
 zd2 (zaF q) fun n r=>zd2 (zaF (zaC (sg 40) r)) fun v r=>zd2 (zaF (zaC (sg 44) r)) fun e r=>zd2 (zaF (zaC (sg 44) r)) fun c r =>
 zd2 (if zgf (zaC (sg 58) (zaC (sg 41) r)) && !isU sIs (zaC (sg 58) (zaC (sg 41) r)) && !isU (sg 59) (zaC (sg 58) (zaC (sg 41) r)) then zir f [] (zaC (sg 58) (zaC (sg 41) r)) else ([],zaC (sg 58) (zaC (sg 41) r))) fun w r =>
 zd2 (if isU sIs r=true then zjb f 0 (upU r) else ([(1,⟨#[]⟩,⟨#[]⟩)],r)) fun o r=>(⟨n,v,e,c,w,o⟩,zaC (sg 59) r)
def zd5:Nat→Nat→List RelP→St→List RelP × St
 | _,0,acc,q=>(acc,zdV 30 q)
 | f,g + 1,acc,q=>if isU zgd q=true then zd2 (zk4 f (upU q)) fun x r=>zd5 f g (acc ++ [x]) r else (acc,q)
def zbO:Nat→Nat→List TypP→St→List TypP × St
 | _,0,acc,q=>(acc,zdV 30 q)
 | f,g + 1,acc,q =>
  if isU zcr q=true then zd2 (zaF (upU q)) fun n r=>zd2 (zd5 f f [] (zaC (sg 123) r)) fun rs r=>zbO f g (acc ++ [⟨n,rs⟩]) (zaC (sg 125) r)
  else (acc,q)
def Lk {α:Type} (r:Rs α) (u:α × St):Prop:=match r with
 | .ok (a,l)=>u=(a,.ok l)
 | .error e=>u.2 = .error e
theorem zg8 (e:Nat × Nat):∀f d acc,moreU f d acc (.error e)=(acc,.error e)
 | 0,_,_=>by unfold moreU;rfl
 | _ + 1,_,_=>by unfold moreU;rfl
theorem zhp (e:Nat × Nat) (f:Nat):∀g acc,(zd5 f g acc (.error e)).2 = .error e
 | 0,_=>by unfold zd5;rfl
 | _ + 1,_=>by unfold zd5;rfl
theorem zeC (e:Nat × Nat) (f:Nat):∀g acc,(zbO f g acc (.error e)).2 = .error e
 | 0,_=>by unfold zbO;rfl
 | _ + 1,_=>by unfold zbO;rfl
theorem Lk.and {α β:Type} {r:Rs α} {k:α→List Tk→Rs β} {u:α × St} {ku:α→St→β × St} (h:Lk r u) (hk:∀a l,Lk (k a l) (ku a (.ok l))) (he:∀a e,(ku a (.error e)).2 = .error e):Lk (zaH r k) (zd2 u ku):=by
 cases r with
 | error e =>
  have h2:u.2 = .error e:=h;show (ku u.1 u.2).2=_;rw [h2];exact he _ _
 | ok p =>
  have h2:u=(p.1,.ok p.2):=h;subst h2;exact hk _ _
theorem Lk.need {β:Type} {s:ByteArray} {l:List Tk} {k:Unit→List Tk→Rs β} {ku:St→β × St} (hk:∀l,Lk (k () l) (ku (.ok l))) (he:∀e,(ku (.error e)).2 = .error e):Lk (zaH (zaG s l) k) (ku (zaC s (.ok l))):=by
 unfold zaG zaC;by_cases h:isT s l=true
 · rw [if_pos h,if_pos (show isU s (.ok l)=true from h)];exact hk _
 · rw [if_neg h,if_neg (show ¬isU s (.ok l)=true from h)];exact he _
theorem Lk.name (l:List Tk):Lk (zaR l) (zaF (.ok l)):=by
 unfold zaR zaF;by_cases h:(hdT l).1=1∧keyB (hdT l).2.1=false
 · rw [if_pos h,if_pos (show isN (.ok l)=true by simp [isN,h])];rfl
 · rw [if_neg h,if_neg (show ¬isN (.ok l)=true by simpa [isN] using h)];rfl
theorem Lk.parts:∀f:Nat,(∀d l,Lk (partF f d l) (partU f d (.ok l)))∧(∀d acc l,Lk (moreF f d acc l) (moreU f d acc (.ok l)))
 | 0=>⟨fun d l=>(by unfold partF partU;rfl),fun d acc l=>(by unfold moreF moreU;rfl)⟩
 | f + 1=>by
  obtain ⟨ih1,ih2⟩:=Lk.parts f;constructor
  · intro d l;unfold partF partU;by_cases h1:isT zcE l=true
    · rw [if_pos h1,if_pos (show isU zcE (.ok l)=true from h1)];rfl
    rw [if_neg h1,if_neg (show ¬isU zcE (.ok l)=true from h1)];by_cases h2:isT (sg 40) l=true
    · rw [if_pos h2,if_pos (show isU (sg 40) (.ok l)=true from h2)];by_cases h3:d=8
      · rw [if_pos h3,if_pos h3];rfl
      rw [if_neg h3,if_neg h3];refine (ih1 _ _).and (fun a m=>(ih2 _ _ _).and (fun a m=>?_) fun a e=>rfl) fun a e=>?_
      · exact Lk.need (ku:=fun r=>(a,zaC (sg 41) (.ok m)) |>.map id fun _=>r) (fun _=>rfl) fun _=>rfl
      · show (zaC (sg 41) (moreU f (d + 1) a (.error e)).2)=_;rw [zg8];rfl
    rw [if_neg h2,if_neg (show ¬isU (sg 40) (.ok l)=true from h2)];refine (Lk.name l).and (fun n m=>?_) fun a e=>rfl;by_cases h4:isT (sg 46) m=true
    · rw [if_pos h4,if_pos (show isU (sg 46) (.ok m)=true from h4)];exact (Lk.name m.tail).and (fun _ _=>rfl) fun _ _=>rfl
    · rw [if_neg h4,if_neg (show ¬isU (sg 46) (.ok m)=true from h4)];rfl
  · intro d acc l;unfold moreF moreU;by_cases h:opT l=0
    · rw [if_pos h,if_pos (show opU (.ok l)=0 from h)];rfl
    · rw [if_neg h,if_neg (show ¬opU (.ok l)=0 from h)];refine (ih1 _ _).and (fun a m=>ih2 _ _ _) fun a e=>?_;rw [zg8]
theorem Lk.rew (f d:Nat) (l:List Tk):Lk (rewF f d l) (zjb f d (.ok l)):=((Lk.parts f).1 d l).and (fun _ _=>(Lk.parts f).2 _ _ _) fun _ e=>by rw [zg8]
theorem Lk.who:∀(f:Nat) (acc:List zb7) (l:List Tk),Lk (zfv f acc l) (zir f acc (.ok l))
 | 0,acc,l=>by unfold zfv zir;rfl
 | f + 1,acc,l=>by
  unfold zfv zir;refine (Lk.name l).and (fun n m=>?_) fun a e=>rfl;refine Lk.and (r:=if isT (sg 35) m=true then zaR m.tail else .ok (⟨#[]⟩,m)) (u:=if isU (sg 35) (.ok m)=true then zaF (upU (.ok m)) else (⟨#[]⟩,.ok m)) ?_ (fun a k=>?_) fun a e=>rfl
  · by_cases h:isT (sg 35) m=true
    · rw [if_pos h,if_pos (show isU (sg 35) (.ok m)=true from h)];exact Lk.name _
    · rw [if_neg h,if_neg (show ¬isU (sg 35) (.ok m)=true from h)];rfl
  · by_cases h:isT (sg 44) k=true
    · rw [if_pos h,if_pos (show isU (sg 44) (.ok k)=true from h)];exact Lk.who f _ _
    · rw [if_neg h,if_neg (show ¬isU (sg 44) (.ok k)=true from h)];rfl
theorem Lk.needName {β:Type} {s:ByteArray} {l:List Tk} {k:ByteArray→List Tk→Rs β} {ku:ByteArray→St→β × St} (hk:∀a l,Lk (k a l) (ku a (.ok l))) (he:∀a e,(ku a (.error e)).2 = .error e):Lk (zaH (zaG s l) fun _ r=>zaH (zaR r) k) (zd2 (zaF (zaC s (.ok l))) ku) :=
 Lk.need (ku:=fun q=>zd2 (zaF q) ku) (fun l=>(Lk.name l).and hk he) fun _=>he _ _
def tailT (f:Nat) (n v e c:ByteArray) (r:List Tk):Rs RelP :=
 zaH (if isT sIs r=true∨isT (sg 59) r=true then .ok ([],r) else zfv f [] r) fun w r =>
 zaH (if isT sIs r=true then rewF f 0 r.tail else .ok ([(1,⟨#[]⟩,⟨#[]⟩)],r)) fun o r =>
 zaH (zaG (sg 59) r) fun _ r=>.ok (⟨n,v,e,c,w,o⟩,r)
def zkY (f:Nat) (n v e c:ByteArray) (q:St):RelP × St :=
 zd2 (if zgf q && !isU sIs q && !isU (sg 59) q then zir f [] q else ([],q)) fun w r =>
 zd2 (if isU sIs r=true then zjb f 0 (upU r) else ([(1,⟨#[]⟩,⟨#[]⟩)],r)) fun o r=>(⟨n,v,e,c,w,o⟩,zaC (sg 59) r)
theorem Lk.tail (f:Nat) (n v e c:ByteArray) (l:List Tk):Lk (tailT f n v e c l) (zkY f n v e c (.ok l)):=by
 unfold tailT zkY;refine Lk.and ?_ (fun w m=>?_) fun w x=>rfl
 · by_cases h:isT sIs l=true∨isT (sg 59) l=true
   · rw [if_pos h];have h2:(zgf (.ok l) && !isU sIs (.ok l) && !isU (sg 59) (.ok l))=false:=by
      show (true && !isT sIs l && !isT (sg 59) l)=false;rcases h with h | h <;> simp [h]
     rw [h2];rfl
   · rw [if_neg h];have h2:(zgf (.ok l) && !isU sIs (.ok l) && !isU (sg 59) (.ok l))=true:=by
      show (true && !isT sIs l && !isT (sg 59) l)=true;simp only [not_or,Bool.not_eq_true] at h;simp [h.1,h.2]
     rw [h2,if_pos rfl];exact Lk.who f [] l
 · refine Lk.and ?_ (fun o k=>?_) fun w x=>rfl
   · by_cases h:isT sIs m=true
     · rw [if_pos h,if_pos (show isU sIs (.ok m)=true from h)];exact Lk.rew f 0 m.tail
     · rw [if_neg h,if_neg (show ¬isU sIs (.ok m)=true from h)];rfl
   · exact Lk.need (k:=fun _ r=>.ok ((⟨n,v,e,c,w,o⟩:RelP),r)) (ku:=fun r=>((⟨n,v,e,c,w,o⟩:RelP),r)) (fun _=>rfl) fun _=>rfl
theorem Lk.rel (f:Nat) (l:List Tk):Lk (relF f l) (zk4 f (.ok l)):=by
 unfold relF zk4;refine (Lk.name l).and (fun n m=>?_) fun a x=>rfl;refine Lk.needName (fun v m=>?_) fun a x=>rfl;refine Lk.needName (fun e m=>?_) fun a x=>rfl;refine Lk.needName (fun c m=>?_) fun a x=>rfl;exact Lk.need (k:=fun _ r=>zaH (zaG (sg 58) r) fun _ r=>tailT f n v e c r) (ku:=fun q=>zkY f n v e c (zaC (sg 58) q)) (fun m=>Lk.need (k:=fun _ r=>tailT f n v e c r) (ku:=zkY f n v e c) (fun m=>Lk.tail f n v e c m) fun x=>rfl) fun x=>rfl
theorem Lk.rels (f:Nat):∀(g:Nat) (acc:List RelP) (l:List Tk),Lk (zdW f g acc l) (zd5 f g acc (.ok l))
 | 0,acc,l=>by unfold zdW zd5;rfl
 | g + 1,acc,l=>by
  unfold zdW zd5;by_cases h:isT zgd l=true
  · rw [if_pos h,if_pos (show isU zgd (.ok l)=true from h)];exact (Lk.rel f l.tail).and (fun x m=>Lk.rels f g _ m) fun x e=>zhp e f g _
  · rw [if_neg h,if_neg (show ¬isU zgd (.ok l)=true from h)];rfl
theorem Lk.types (f:Nat):∀(g:Nat) (acc:List TypP) (l:List Tk),Lk (zcu f g acc l) (zbO f g acc (.ok l))
 | 0,acc,l=>by unfold zcu zbO;rfl
 | g + 1,acc,l=>by
  unfold zcu zbO;by_cases h:isT zcr l=true
  · rw [if_pos h,if_pos (show isU zcr (.ok l)=true from h)];refine (Lk.name l.tail).and (fun n m=>?_) fun a e=>?_
    · refine Lk.need (ku:=fun q=>zd2 (zd5 f f [] q) fun rs r=>zbO f g (acc ++ [⟨n,rs⟩]) (zaC (sg 125) r)) (fun m=>?_) fun e=>?_
      · refine (Lk.rels f f [] m).and (fun rs m=>?_) fun a e=>zeC e f g _;exact Lk.need (k:=fun _ r=>zcu f g (acc ++ [⟨n,rs⟩]) r) (ku:=fun q=>zbO f g (acc ++ [⟨n,rs⟩]) q) (fun m=>Lk.types f g _ m) fun e=>zeC e f g _
      · show (zbO f g _ (zaC (sg 125) (zd5 f f [] (.error e)).2)).2=_;rw [zhp];exact zeC e f g _
    · show (zbO f g _ (zaC (sg 125) (zd5 f f [] (.error e)).2)).2=_;rw [zhp];exact zeC e f g _
  · rw [if_neg h,if_neg (show ¬isU zcr (.ok l)=true from h)];rfl
def endU (q:St):St:=match q with
 | .ok l=>if (hdT l).1=3 then .ok l else zdV 30 (.ok l)
 | .error e=>.error e
def zgk (u:List TypP × St):List TypP × Nat × Nat:=match endU u.2 with
 | .ok _=>(u.1,0,0)
 | .error e=>([],e)
theorem zii {l:List Tk}:outS (zdC l)=zgk (zbO (2 * l.length + 2) (2 * l.length + 2) [] (.ok l)):=by
 have h:=Lk.types (2 * l.length + 2) (2 * l.length + 2) [] l;unfold zdC;generalize zbO (2 * l.length + 2) (2 * l.length + 2) [] (.ok l)=u at *
 revert h
 cases zcu (2 * l.length + 2) (2 * l.length + 2) [] l with
 | error e =>
  intro h;have h2:u.2 = .error e:=h;show ([],e)=_;unfold zgk endU;rw [h2]
 | ok p =>
  intro h;have h2:u=(p.1,.ok p.2):=h;subst h2;show outS (if (hdT p.2).1=3 then .ok (p.1,p.2) else ziB 30 p.2)=zgk (p.1,.ok p.2);unfold zgk endU;dsimp only;split
  · rfl
  · rfl
end Go.Proofs.YtiepddmagfmllaaGreat
