import Derived.Recover
import Derived.Test.YtahegpfdbgbioaaGreatB03
set_option maxRecDepth 100000
set_option maxHeartbeats 4000000
namespace Go.Proofs.YtahegpfdbgbioaaGreat
abbrev OpP:=Nat × ByteArray × ByteArray
abbrev zcb:=ByteArray × ByteArray
structure RelP where
 name:ByteArray
 view:ByteArray
 edit:ByteArray
 check:ByteArray
 subs:List zcb
 ops:List OpP
 deriving DecidableEq
structure TypP where
 name:ByteArray
 rels:List RelP
 deriving DecidableEq
abbrev Rs (α:Type):=Except (Nat × Nat) (α × List Tk)
def zcv:ByteArray:=⟨#[116,121,112,101]⟩
def zgD:ByteArray:=⟨#[114,101,108]⟩
def sIs:ByteArray:=⟨#[105,115]⟩
def zcJ:ByteArray:=⟨#[116,104,105,115]⟩
def sg (c:UInt8):ByteArray:=⟨#[c]⟩
def hdT (l:List Tk):Tk:=l.headD (3,⟨#[]⟩,0)
def isT (s:ByteArray) (l:List Tk):Bool:=decide ((hdT l).2.1=s∧((hdT l).1=2∨keyB s=true))
def zjc {α:Type} (c:Nat) (l:List Tk):Rs α:=.error (c,(hdT l).2.2)
def zaG (s:ByteArray) (l:List Tk):Rs Unit:=if isT s l=true then .ok ((),l.tail) else zjc 30 l
def zaS (l:List Tk):Rs ByteArray:=if (hdT l).1=1∧keyB (hdT l).2.1=false then .ok ((hdT l).2.1,l.tail) else zjc 30 l
def zaH {α β:Type} (r:Rs α) (k:α→List Tk→Rs β):Rs β:=match r with
 | .error e=>.error e
 | .ok (a,l)=>k a l
theorem zcc {α β:Type} (a:α) (l:List Tk) (k:α→List Tk→Rs β):zaH (.ok (a,l)) k=k a l:=rfl
theorem andT_err {α β:Type} (e:Nat × Nat) (k:α→List Tk→Rs β):zaH (.error e:Rs α) k = .error e:=rfl
def opT (l:List Tk):Nat:=if isT (sg 124) l=true then 4 else if isT (sg 38) l=true then 5 else if isT (sg 45) l=true then 6 else 0
mutual
def partF:Nat→Nat→List Tk→Rs (List OpP)
 | 0,_,l=>zjc 30 l
 | f + 1,deep,l =>
  if isT zcJ l=true then .ok ([(1,⟨#[]⟩,⟨#[]⟩)],l.tail)
  else if isT (sg 40) l=true then
   (if deep=8 then zjc 13 l
   else zaH (partF f (deep + 1) l.tail) fun o r=>zaH (moreF f (deep + 1) o r) fun o r=>zaH (zaG (sg 41) r) fun _ r=>.ok (o,r))
  else zaH (zaS l) fun n r =>
   if isT (sg 46) r=true then zaH (zaS r.tail) fun m r=>.ok ([(3,n,m)],r) else .ok ([(2,n,⟨#[]⟩)],r)
def moreF:Nat→Nat→List OpP→List Tk→Rs (List OpP)
 | 0,_,_,l=>zjc 30 l
 | f + 1,deep,acc,l =>
  if opT l=0 then .ok (acc,l)
  else zaH (partF f deep l.tail) fun o r=>moreF f deep (acc ++ o ++ [(opT l,⟨#[]⟩,⟨#[]⟩)]) r
end
def rewF (f deep:Nat) (l:List Tk):Rs (List OpP):=zaH (partF f deep l) fun o r=>moreF f deep o r
def zfQ:Nat→List zcb→List Tk→Rs (List zcb)
 | 0,_,l=>zjc 30 l
 | f + 1,acc,l=>zaH (zaS l) fun n r =>
  zaH (if isT (sg 35) r=true then zaS r.tail else .ok (⟨#[]⟩,r)) fun m r =>
   if isT (sg 44) r=true then zfQ f (acc ++ [(n,m)]) r.tail else .ok (acc ++ [(n,m)],r)
def relF (f:Nat) (l:List Tk):Rs RelP :=
 zaH (zaS l) fun n r=>zaH (zaG (sg 40) r) fun _ r=>zaH (zaS r) fun v r=>zaH (zaG (sg 44) r) fun _ r =>
 zaH (zaS r) fun e r=>zaH (zaG (sg 44) r) fun _ r=>zaH (zaS r) fun c r=>zaH (zaG (sg 41) r) fun _ r =>
 zaH (zaG (sg 58) r) fun _ r =>
 zaH (if isT sIs r=true∨isT (sg 59) r=true then .ok ([],r) else zfQ f [] r) fun w r =>
 zaH (if isT sIs r=true then rewF f 0 r.tail else .ok ([(1,⟨#[]⟩,⟨#[]⟩)],r)) fun o r =>
 zaH (zaG (sg 59) r) fun _ r=>.ok (⟨n,v,e,c,w,o⟩,r)
def zd7:Nat→Nat→List RelP→List Tk→Rs (List RelP)
 | _,0,_,l=>zjc 30 l
 | f,g + 1,acc,l=>if isT zgD l=true then zaH (relF f l.tail) fun x r=>zd7 f g (acc ++ [x]) r else .ok (acc,l)
def zcz:Nat→Nat→List TypP→List Tk→Rs (List TypP)
 | _,0,_,l=>zjc 30 l
 | f,g + 1,acc,l =>
  if isT zcv l=true then zaH (zaS l.tail) fun n r=>zaH (zaG (sg 123) r) fun _ r=>zaH (zd7 f f [] r) fun rs r =>
   zaH (zaG (sg 125) r) fun _ r=>zcz f g (acc ++ [⟨n,rs⟩]) r
  else .ok (acc,l)
def zdM (l:List Tk):Rs (List TypP):=zaH (zcz (2 * l.length + 2) (2 * l.length + 2) [] l) fun t r=>if (hdT r).1=3 then .ok (t,r) else zjc 30 r
def outS (r:Rs (List TypP)):List TypP × Nat × Nat:=match r with
 | .error e=>([],e)
 | .ok p=>(p.1,0,0)
def zah (s:ByteArray):List TypP × Nat × Nat:=if (zbQ s).2.1=0 then outS (zdM (zbQ s).1) else ([],(zbQ s).2)
theorem zay {s:ByteArray} {l:List Tk} (hs:0<s.size) (h:isT s l=true):l.tail.length + 1=l.length:=by
 cases l with
 | nil =>
  unfold isT at h;rw [decide_eq_true_iff] at h;have:s=⟨#[]⟩:=h.1.symm;rw [this] at hs;exact absurd hs (by decide)
 | cons a r=>rfl
theorem zau {l r:List Tk} {n:ByteArray} (h:zaS l = .ok (n,r)):r.length + 1=l.length:=by
 unfold zaS at h;split at h
 · rename_i hc
   cases l with
   | nil=>exact absurd hc.1 (by decide)
   | cons a t =>
    cases h;rfl
 · cases h
theorem zas {s:ByteArray} {l r:List Tk} {u:Unit} (hs:0<s.size) (h:zaG s l = .ok (u,r)):r.length + 1=l.length:=by
 unfold zaG at h;split at h
 · rename_i hc
   cases h;exact zay hs hc
 · cases h
theorem zae {α β:Type} {r:Rs α} {k:α→List Tk→Rs β} {b:β} {l:List Tk} (h:zaH r k = .ok (b,l)):∃a m,r = .ok (a,m)∧k a m = .ok (b,l):=by
 cases r with
 | error e=>cases h
 | ok p=>exact ⟨p.1,p.2,rfl,h⟩
theorem zak {α β:Type} {r r':Rs α} {k k':α→List Tk→Rs β} (h:r=r') (hk:∀a m,r = .ok (a,m)→k a m=k' a m):zaH r k=zaH r' k':=by
 subst h;cases r with
 | error e=>rfl
 | ok p=>exact hk p.1 p.2 rfl
theorem zal (c:UInt8):0<(sg c).size:=by show 0<1;omega
theorem zeh {l:List Tk} (h:¬opT l=0):l.tail.length + 1=l.length:=by
 unfold opT at h;by_cases h1:isT (sg 124) l=true
 · exact zay (zal _) h1
 · by_cases h2:isT (sg 38) l=true
   · exact zay (zal _) h2
   · by_cases h3:isT (sg 45) l=true
     · exact zay (zal _) h3
     · rw [if_neg h1,if_neg h2,if_neg h3] at h;exact absurd rfl h
theorem eats:∀f:Nat,(∀d l o r,partF f d l = .ok (o,r)→r.length<l.length)∧(∀d acc l o r,moreF f d acc l = .ok (o,r)→r.length≤l.length)
 | 0=>⟨fun d l o r h=>(by unfold partF at h;cases h),fun d acc l o r h=>(by unfold moreF at h;cases h)⟩
 | f + 1=>by
  obtain ⟨ih1,ih2⟩:=eats f;constructor
  · intro d l o r h;unfold partF at h;split at h
    · rename_i hc
      cases h;have:=zay (by show 0<4;omega) hc;omega
    · split at h
      · rename_i hc
        have h1:=zay (zal _) hc;split at h
        · cases h
        · obtain ⟨a,m,e1,h⟩:=zae h;obtain ⟨a2,m2,e2,h⟩:=zae h;obtain ⟨a3,m3,e3,h⟩:=zae h;cases h;have:=ih1 _ _ _ _ e1;have:=ih2 _ _ _ _ _ e2;have:=zas (zal _) e3;omega
      · obtain ⟨a,m,e1,h⟩:=zae h;have h1:=zau e1;split at h
        · rename_i hc
          have h2:=zay (zal _) hc;obtain ⟨a2,m2,e2,h⟩:=zae h;have:=zau e2;cases h;omega
        · cases h;omega
  · intro d acc l o r h;unfold moreF at h;split at h
    · cases h;omega
    · rename_i hc
      have h1:=zeh hc;obtain ⟨a,m,e1,h⟩:=zae h;have:=ih1 _ _ _ _ e1;have:=ih2 _ _ _ _ _ h;omega
theorem fuel:∀f g:Nat,(∀d l,l.length<f→l.length<g→partF f d l=partF g d l)∧(∀d acc l,l.length<f→l.length<g→moreF f d acc l=moreF g d acc l)
 | 0,_=>⟨fun _ _ h _=>absurd h (Nat.not_lt_zero _),fun _ _ _ h _=>absurd h (Nat.not_lt_zero _)⟩
 | _ + 1,0=>⟨fun _ _ _ h=>absurd h (Nat.not_lt_zero _),fun _ _ _ _ h=>absurd h (Nat.not_lt_zero _)⟩
 | f + 1,g + 1=>by
  obtain ⟨ih1,ih2⟩:=fuel f g;constructor
  · intro d l hf hg;unfold partF;split
    · rfl
    · split
      · rename_i hc
        have h1:=zay (zal _) hc;split
        · rfl
        · refine zak (ih1 _ _ (by omega) (by omega)) fun a m e1=>?_;have:=(eats _).1 _ _ _ _ e1;exact zak (ih2 _ _ _ (by omega) (by omega)) fun _ _ _=>rfl
      · rfl
  · intro d acc l hf hg;unfold moreF;split
    · rfl
    · rename_i hc
      have h1:=zeh hc;refine zak (ih1 _ _ (by omega) (by omega)) fun a m e1=>?_;have:=(eats _).1 _ _ _ _ e1;exact ih2 _ _ _ (by omega) (by omega)
def zeI (d:Nat) (l:List Tk):Rs (List OpP):=partF (l.length + 1) d l
def zjw (d:Nat) (acc:List OpP) (l:List Tk):Rs (List OpP):=moreF (l.length + 1) d acc l
def zi7 (d:Nat) (l:List Tk):Rs (List OpP):=zaH (zeI d l) fun o r=>zjw d o r
theorem zhK (d:Nat) (l:List Tk):zeI d l =
 if isT zcJ l=true then .ok ([(1,⟨#[]⟩,⟨#[]⟩)],l.tail)
 else if isT (sg 40) l=true then
  (if d=8 then zjc 13 l
  else zaH (zi7 (d + 1) l.tail) fun o r=>zaH (zaG (sg 41) r) fun _ r=>.ok (o,r))
 else zaH (zaS l) fun n r =>
  if isT (sg 46) r=true then zaH (zaS r.tail) fun m r=>.ok ([(3,n,m)],r) else .ok ([(2,n,⟨#[]⟩)],r):=by
 conv=>lhs;unfold zeI partF
 split
 · rfl
 · split
   · rename_i hc
     have h1:=zay (zal _) hc;split
     · rfl
     · have e1:partF l.length (d + 1) l.tail=zeI (d + 1) l.tail:=(fuel _ _).1 _ _ (by omega) (by omega);rw [e1];unfold zi7;cases hp:zeI (d + 1) l.tail with
       | error e=>rfl
       | ok p =>
        have:=(eats _).1 _ _ _ _ (show partF (l.tail.length + 1) (d + 1) l.tail = .ok (p.1,p.2) from hp);have e2:moreF l.length (d + 1) p.1 p.2=zjw (d + 1) p.1 p.2:=(fuel _ _).2 _ _ _ (by omega) (by omega);show zaH (moreF l.length (d + 1) p.1 p.2) _=zaH (zjw (d + 1) p.1 p.2) _;rw [e2]
   · rfl
theorem moreT_eq (d:Nat) (acc:List OpP) (l:List Tk):zjw d acc l =
 if opT l=0 then .ok (acc,l)
 else zaH (zeI d l.tail) fun o r=>zjw d (acc ++ o ++ [(opT l,⟨#[]⟩,⟨#[]⟩)]) r:=by
 conv=>lhs;unfold zjw moreF
 split
 · rfl
 · rename_i hc
   have h1:=zeh hc;refine zak ((fuel _ _).1 _ _ (by omega) (by omega)) fun a m e1=>?_;have:=(eats _).1 _ _ _ _ e1;exact (fuel _ _).2 _ _ _ (by omega) (by omega)
theorem zgz:∀(f:Nat) (acc:List zcb) (l:List Tk) (o:List zcb) (r:List Tk),zfQ f acc l = .ok (o,r)→r.length<l.length
 | 0,acc,l,o,r,h=>by unfold zfQ at h;cases h
 | f + 1,acc,l,o,r,h=>by
  unfold zfQ at h;obtain ⟨a,m,e1,h⟩:=zae h;have h1:=zau e1;obtain ⟨a2,m2,e2,h⟩:=zae h;have h2:m2.length≤m.length:=by
   by_cases hc:isT (sg 35) m=true
   · rw [if_pos hc] at e2;have:=zay (zal _) hc;have:=zau e2;omega
   · rw [if_neg hc] at e2;cases e2;omega
  by_cases hc:isT (sg 44) m2=true
  · rw [if_pos hc] at h;have:=zay (zal _) hc;have:=zgz f _ _ _ _ h;omega
  · rw [if_neg hc] at h;cases h;omega
theorem zh8 {m m2:List Tk} {a2:ByteArray} (e2:(if isT (sg 35) m=true then zaS m.tail else .ok (⟨#[]⟩,m)) = .ok (a2,m2)):m2.length≤m.length:=by
 by_cases hc:isT (sg 35) m=true
 · rw [if_pos hc] at e2;have:=zay (zal _) hc;have:=zau e2;omega
 · rw [if_neg hc] at e2;cases e2;omega
theorem zgA:∀(f g:Nat) (acc:List zcb) (l:List Tk),l.length<f→l.length<g→zfQ f acc l=zfQ g acc l
 | 0,_,_,_,h,_=>absurd h (Nat.not_lt_zero _)
 | _ + 1,0,_,_,_,h=>absurd h (Nat.not_lt_zero _)
 | f + 1,g + 1,acc,l,hf,hg=>by
  unfold zfQ;refine zak rfl fun a m e1=>?_;have h1:=zau e1;refine zak rfl fun a2 m2 e2=>?_;have h2:=zh8 e2;by_cases hc:isT (sg 44) m2=true
  · rw [if_pos hc,if_pos hc];have:=zay (zal _) hc;exact zgA f g _ _ (by omega) (by omega)
  · rw [if_neg hc,if_neg hc]
def whoT (acc:List zcb) (l:List Tk):Rs (List zcb):=zfQ (l.length + 1) acc l
theorem znC (acc:List zcb) (l:List Tk):whoT acc l=zaH (zaS l) fun n r =>
 zaH (if isT (sg 35) r=true then zaS r.tail else .ok (⟨#[]⟩,r)) fun m r =>
  if isT (sg 44) r=true then whoT (acc ++ [(n,m)]) r.tail else .ok (acc ++ [(n,m)],r):=by
 conv=>lhs;unfold whoT zfQ
 refine zak rfl fun a m e1=>?_;have h1:=zau e1;refine zak rfl fun a2 m2 e2=>?_;have h2:=zh8 e2;by_cases hc:isT (sg 44) m2=true
 · rw [if_pos hc,if_pos hc];have:=zay (zal _) hc;exact zgA _ _ _ _ (by omega) (by omega)
 · rw [if_neg hc,if_neg hc]
theorem znf {f d:Nat} {l:List Tk} (h:l.length<f):rewF f d l=zi7 d l:=by
 unfold rewF zi7 zeI;refine zak ((fuel _ _).1 _ _ h (by omega)) fun a m e1=>?_;have:=(eats _).1 _ _ _ _ e1;exact (fuel _ _).2 _ _ _ (by omega) (by omega)
theorem znh {d:Nat} {l r:List Tk} {o:List OpP} (h:zi7 d l = .ok (o,r)):r.length<l.length:=by
 unfold zi7 at h;obtain ⟨a,m,e1,h⟩:=zae h;have:=(eats _).1 _ _ _ _ e1;have:=(eats _).2 _ _ _ _ _ h;omega
def zna (l:List Tk):Rs RelP :=
 zaH (zaS l) fun n r=>zaH (zaG (sg 40) r) fun _ r=>zaH (zaS r) fun v r=>zaH (zaG (sg 44) r) fun _ r =>
 zaH (zaS r) fun e r=>zaH (zaG (sg 44) r) fun _ r=>zaH (zaS r) fun c r=>zaH (zaG (sg 41) r) fun _ r =>
 zaH (zaG (sg 58) r) fun _ r =>
 zaH (if isT sIs r=true∨isT (sg 59) r=true then .ok ([],r) else whoT [] r) fun w r =>
 zaH (if isT sIs r=true then zi7 0 r.tail else .ok ([(1,⟨#[]⟩,⟨#[]⟩)],r)) fun o r =>
 zaH (zaG (sg 59) r) fun _ r=>.ok (⟨n,v,e,c,w,o⟩,r)
theorem zh1:0<sIs.size:=by show 0<2;omega
theorem zcs {f:Nat} {l:List Tk} (h:l.length<f):relF f l=zna l∧∀o r,zna l = .ok (o,r)→r.length<l.length:=by
 constructor
 · unfold relF zna;refine zak rfl fun _ _ e=>?_;have h1:=zau e;refine zak rfl fun _ _ e=>?_;have h2:=zas (zal _) e;refine zak rfl fun _ _ e=>?_;have h3:=zau e;refine zak rfl fun _ _ e=>?_;have h4:=zas (zal _) e;refine zak rfl fun _ _ e=>?_;have h5:=zau e;refine zak rfl fun _ _ e=>?_;have h6:=zas (zal _) e;refine zak rfl fun _ _ e=>?_;have h7:=zau e;refine zak rfl fun _ _ e=>?_;have h8:=zas (zal _) e;refine zak rfl fun _ _ e=>?_;have h9:=zas (zal _) e;rename_i m9
   refine zak ?_ fun _ m e=>?_
   · split
     · rfl
     · exact zgA _ _ _ _ (by omega) (by omega)
   · have h10:m.length≤m9.length:=by
      split at e
      · cases e;exact Nat.le_refl _
      · have:=zgz _ _ _ _ _ e;omega
     refine zak ?_ fun _ _ _=>rfl;split
     · rename_i hc
       have:=zay zh1 hc;exact znf (by omega)
     · rfl
 · intro o r hr;unfold zna at hr;obtain ⟨_,_,e,hr⟩:=zae hr;have h1:=zau e;obtain ⟨_,_,e,hr⟩:=zae hr;have h2:=zas (zal _) e;obtain ⟨_,_,e,hr⟩:=zae hr;have h3:=zau e;obtain ⟨_,_,e,hr⟩:=zae hr;have h4:=zas (zal _) e;obtain ⟨_,_,e,hr⟩:=zae hr;have h5:=zau e;obtain ⟨_,_,e,hr⟩:=zae hr;have h6:=zas (zal _) e;obtain ⟨_,_,e,hr⟩:=zae hr;have h7:=zau e;obtain ⟨_,_,e,hr⟩:=zae hr;have h8:=zas (zal _) e;obtain ⟨_,m9,e,hr⟩:=zae hr;have h9:=zas (zal _) e;obtain ⟨_,m,e,hr⟩:=zae hr;have h10:m.length≤m9.length:=by
    split at e
    · cases e;exact Nat.le_refl _
    · have:=zgz _ _ _ _ _ e;omega
   obtain ⟨_,m2,e,hr⟩:=zae hr;have h11:m2.length≤m.length:=by
    split at e
    · rename_i hc
      have:=zay zh1 hc;have:=znh e;omega
    · cases e;exact Nat.le_refl _
   obtain ⟨_,_,e,hr⟩:=zae hr;have h12:=zas (zal _) e;cases hr;omega
theorem zb7:0<zgD.size:=by show 0<3;omega
theorem zbX:0<zcv.size:=by show 0<4;omega
theorem zdY:∀(f g:Nat) (acc:List RelP) (l:List Tk) (o:List RelP) (r:List Tk),l.length<f→zd7 f g acc l = .ok (o,r)→r.length≤l.length
 | _,0,acc,l,o,r,_,h=>by unfold zd7 at h;cases h
 | f,g + 1,acc,l,o,r,hf,h=>by
  unfold zd7 at h;by_cases hc:isT zgD l=true
  · rw [if_pos hc] at h;have h1:=zay zb7 hc;rw [(zcs (f:=f) (l:=l.tail) (by omega)).1] at h;obtain ⟨a,m,e1,h⟩:=zae h;have:=(zcs (f:=f) (l:=l.tail) (by omega)).2 _ _ e1;have:=zdY f g _ _ _ _ (by omega) h;omega
  · rw [if_neg hc] at h;cases h;omega
theorem zdZ:∀(g g2 f f2:Nat) (acc:List RelP) (l:List Tk),l.length<f→l.length<f2→l.length<g→l.length<g2→zd7 f g acc l=zd7 f2 g2 acc l
 | 0,_,_,_,_,_,_,_,h,_=>absurd h (Nat.not_lt_zero _)
 | _ + 1,0,_,_,_,_,_,_,_,h=>absurd h (Nat.not_lt_zero _)
 | g + 1,g2 + 1,f,f2,acc,l,hf,hf2,hg,hg2=>by
  unfold zd7;by_cases hc:isT zgD l=true
  · rw [if_pos hc,if_pos hc];have h1:=zay zb7 hc;obtain ⟨e,e2⟩:=zcs (f:=f) (l:=l.tail) (by omega);rw [e,(zcs (f:=f2) (l:=l.tail) (by omega)).1];refine zak rfl fun a m e1=>?_;have:=e2 _ _ e1;exact zdZ g g2 f f2 _ _ (by omega) (by omega) (by omega) (by omega)
  · rw [if_neg hc,if_neg hc]
def zjL (acc:List RelP) (l:List Tk):Rs (List RelP):=zd7 (l.length + 1) (l.length + 1) acc l
theorem zd0 (acc:List RelP) (l:List Tk):zjL acc l=if isT zgD l=true then zaH (zna l.tail) fun x r=>zjL (acc ++ [x]) r else .ok (acc,l):=by
 conv=>lhs;unfold zjL zd7
 by_cases hc:isT zgD l=true
 · rw [if_pos hc,if_pos hc];have h1:=zay zb7 hc;obtain ⟨e,e2⟩:=zcs (f:=l.length + 1) (l:=l.tail) (by omega);rw [e];refine zak rfl fun a m e1=>?_;have:=e2 _ _ e1;exact zdZ _ _ _ _ _ _ (by omega) (by omega) (by omega) (by omega)
 · rw [if_neg hc,if_neg hc]
theorem zeo:∀(g g2 f f2:Nat) (acc:List TypP) (l:List Tk),l.length<f→l.length<f2→l.length<g→l.length<g2→zcz f g acc l=zcz f2 g2 acc l
 | 0,_,_,_,_,_,_,_,h,_=>absurd h (Nat.not_lt_zero _)
 | _ + 1,0,_,_,_,_,_,_,_,h=>absurd h (Nat.not_lt_zero _)
 | g + 1,g2 + 1,f,f2,acc,l,hf,hf2,hg,hg2=>by
  unfold zcz;by_cases hc:isT zcv l=true
  · rw [if_pos hc,if_pos hc];have h1:=zay zbX hc;refine zak rfl fun _ _ e=>?_;have h2:=zau e;refine zak rfl fun _ m3 e=>?_;have h3:=zas (zal _) e;refine zak (zdZ _ _ _ _ _ _ (by omega) (by omega) (by omega) (by omega)) fun _ _ e=>?_;have h4:=zdY _ _ _ _ _ _ (by omega) e;refine zak rfl fun _ _ e=>?_;have h5:=zas (zal _) e;exact zeo g g2 f f2 _ _ (by omega) (by omega) (by omega) (by omega)
  · rw [if_neg hc,if_neg hc]
def zdn (acc:List TypP) (l:List Tk):Rs (List TypP):=zcz (l.length + 1) (l.length + 1) acc l
theorem zc3 (acc:List TypP) (l:List Tk):zdn acc l =
 if isT zcv l=true then zaH (zaS l.tail) fun n r=>zaH (zaG (sg 123) r) fun _ r=>zaH (zjL [] r) fun rs r =>
  zaH (zaG (sg 125) r) fun _ r=>zdn (acc ++ [⟨n,rs⟩]) r
 else .ok (acc,l):=by
 conv=>lhs;unfold zdn zcz
 by_cases hc:isT zcv l=true
 · rw [if_pos hc,if_pos hc];have h1:=zay zbX hc;refine zak rfl fun _ _ e=>?_;have h2:=zau e;refine zak rfl fun _ m3 e=>?_;have h3:=zas (zal _) e;refine zak (zdZ _ _ _ _ _ _ (by omega) (by omega) (by omega) (by omega)) fun _ _ e=>?_;have h4:=zdY _ _ _ _ _ _ (by omega) e;refine zak rfl fun _ _ e=>?_;have h5:=zas (zal _) e;exact zeo _ _ _ _ _ _ (by omega) (by omega) (by omega) (by omega)
 · rw [if_neg hc,if_neg hc]
theorem zfi (l:List Tk):zdM l=zaH (zdn [] l) fun t r=>if (hdT r).1=3 then .ok (t,r) else zjc 30 r:=by
 unfold zdM zdn;exact zak (zeo _ _ _ _ _ _ (by omega) (by omega) (by omega) (by omega)) fun _ _ _=>rfl
def Wd (l:List Tk):Prop:=∀t ∈ l,t.1=1→0<t.2.1.size
theorem Wd.tail {l:List Tk} (h:Wd l):Wd l.tail:=fun t ht=>h t (List.mem_of_mem_tail ht)
def Bd (B:Nat) (l:List Tk):Prop:=∀t ∈ l,t.2.2≤B
theorem Bd.tail {B:Nat} {l:List Tk} (h:Bd B l):Bd B l.tail:=fun t ht=>h t (List.mem_of_mem_tail ht)
theorem Bd.hd {B:Nat} {l:List Tk} (h:Bd B l):(hdT l).2.2≤B:=by
 cases l with
 | nil=>exact Nat.zero_le _
 | cons a r=>exact h a (List.mem_cons_self ..)
def Sf {α:Type} (B:Nat):Rs α→Prop
 | .error e=>e.2≤B
 | .ok p=>Bd B p.2
theorem Sf.and {α β:Type} {B:Nat} {r:Rs α} {k:α→List Tk→Rs β} (h:Sf B r) (hk:∀a l,Bd B l→Sf B (k a l)):Sf B (zaH r k):=by
 cases r with
 | error e=>exact h
 | ok p=>exact hk p.1 p.2 h
theorem Sf.bad {α:Type} {B:Nat} {l:List Tk} (h:Bd B l) (c:Nat):Sf B (zjc c l:Rs α):=h.hd
theorem Sf.ok {α:Type} {B:Nat} {l:List Tk} (h:Bd B l) (a:α):Sf B (.ok (a,l):Rs α):=h
theorem Sf.name {B:Nat} {l:List Tk} (h:Bd B l):Sf B (zaS l):=by
 unfold zaS;split
 · exact h.tail
 · exact Sf.bad h 30
theorem Sf.need {B:Nat} {l:List Tk} (h:Bd B l) (s:ByteArray):Sf B (zaG s l):=by
 unfold zaG;split
 · exact h.tail
 · exact Sf.bad h 30
theorem Sf.parts (B:Nat):∀f:Nat,(∀d l,Bd B l→Sf B (partF f d l))∧(∀d acc l,Bd B l→Sf B (moreF f d acc l))
 | 0=>⟨fun d l h=>(by unfold partF;exact Sf.bad h 30),fun d acc l h=>(by unfold moreF;exact Sf.bad h 30)⟩
 | f + 1=>by
  obtain ⟨ih1,ih2⟩:=Sf.parts B f;constructor
  · intro d l h;unfold partF;split
    · exact h.tail
    · split
      · split
        · exact Sf.bad h 13
        · exact (ih1 _ _ h.tail).and fun a m hm=>(ih2 _ _ _ hm).and fun a m hm=>(Sf.need hm _).and fun a m hm=>hm
      · refine (Sf.name h).and fun a m hm=>?_;split
        · exact (Sf.name hm.tail).and fun a m hm=>hm
        · exact hm
  · intro d acc l h;unfold moreF;split
    · exact h
    · exact (ih1 _ _ h.tail).and fun a m hm=>ih2 _ _ _ hm
theorem Sf.who (B:Nat):∀(f:Nat) (acc:List zcb) (l:List Tk),Bd B l→Sf B (zfQ f acc l)
 | 0,acc,l,h=>by unfold zfQ;exact Sf.bad h 30
 | f + 1,acc,l,h=>by
  unfold zfQ;refine (Sf.name h).and fun a m hm=>Sf.and (r:=if isT (sg 35) m=true then zaS m.tail else .ok (⟨#[]⟩,m)) ?_ fun a m hm=>?_
  · split
    · exact Sf.name hm.tail
    · exact hm
  · split
    · exact Sf.who B f _ _ hm.tail
    · exact hm
theorem Sf.rel {B:Nat} {f:Nat} {l:List Tk} (h:Bd B l):Sf B (relF f l):=by
 unfold relF;refine (Sf.name h).and fun _ _ h=>(Sf.need h _).and fun _ _ h=>(Sf.name h).and fun _ _ h=>(Sf.need h _).and fun _ _ h=>(Sf.name h).and fun _ _ h=>(Sf.need h _).and fun _ _ h=>(Sf.name h).and fun _ _ h=>(Sf.need h _).and fun _ _ h=>(Sf.need h _).and fun _ m h=>?_;refine Sf.and (r:=if isT sIs m=true∨isT (sg 59) m=true then .ok ([],m) else zfQ f [] m) ?_ fun _ m h=>?_
 · split
   · exact h
   · exact Sf.who B f _ _ h
 refine Sf.and (r:=if isT sIs m=true then rewF f 0 m.tail else .ok ([(1,⟨#[]⟩,⟨#[]⟩)],m)) ?_ fun _ m h=>?_
 · split
   · unfold rewF;exact ((Sf.parts B f).1 _ _ h.tail).and fun _ _ h=>(Sf.parts B f).2 _ _ _ h
   · exact h
 exact (Sf.need h _).and fun _ _ h=>h
theorem Sf.rels (B:Nat):∀(g f:Nat) (acc:List RelP) (l:List Tk),Bd B l→Sf B (zd7 f g acc l)
 | 0,f,acc,l,h=>by unfold zd7;exact Sf.bad h 30
 | g + 1,f,acc,l,h=>by
  unfold zd7;split
  · exact (Sf.rel h.tail).and fun _ _ h=>Sf.rels B g f _ _ h
  · exact h
theorem Sf.types (B:Nat):∀(g f:Nat) (acc:List TypP) (l:List Tk),Bd B l→Sf B (zcz f g acc l)
 | 0,f,acc,l,h=>by unfold zcz;exact Sf.bad h 30
 | g + 1,f,acc,l,h=>by
  unfold zcz;split
  · exact (Sf.name h.tail).and fun _ _ h=>(Sf.need h _).and fun _ _ h=>(Sf.rels B f f _ _ h).and fun _ _ h=>(Sf.need h _).and fun _ _ h=>Sf.types B g f _ _ h
  · exact h
theorem zfY:∀f:Nat,(∀d l o r,partF f d l = .ok (o,r)→o.length + r.length≤l.length)∧(∀d acc l o r,moreF f d acc l = .ok (o,r)→o.length + r.length≤acc.length + l.length)
 | 0=>⟨fun d l o r h=>(by unfold partF at h;cases h),fun d acc l o r h=>(by unfold moreF at h;cases h)⟩
 | f + 1=>by
  obtain ⟨ih1,ih2⟩:=zfY f;constructor
  · intro d l o r h;unfold partF at h;split at h
    · rename_i hc
      have h1:=zay (by decide) hc;cases h;simp only [List.length_cons,List.length_nil];omega
    · split at h
      · rename_i hc
        have h1:=zay (zal _) hc;split at h
        · cases h
        · obtain ⟨a,m,e1,h⟩:=zae h;have g1:=ih1 _ _ _ _ e1;obtain ⟨a2,m2,e2,h⟩:=zae h;have g2:=ih2 _ _ _ _ _ e2;obtain ⟨a3,m3,e3,h⟩:=zae h;have w3:=zas (zal _) e3;cases h;omega
      · obtain ⟨a,m,e1,h⟩:=zae h;have s1:=zau e1;split at h
        · rename_i hc
          have h1:=zay (zal _) hc;obtain ⟨a2,m2,e2,h⟩:=zae h;have s2:=zau e2;cases h;simp only [List.length_cons,List.length_nil];omega
        · cases h;simp only [List.length_cons,List.length_nil];omega
  · intro d acc l o r h;unfold moreF at h;split at h
    · cases h;exact Nat.le_refl _
    · rename_i hc
      have h1:=zeh hc;obtain ⟨a,m,e1,h⟩:=zae h;have g1:=ih1 _ _ _ _ e1;have g2:=ih2 _ _ _ _ _ h;simp only [List.length_append,List.length_cons,List.length_nil] at g2;omega
theorem zmh:∀(f:Nat) (acc:List zcb) (l:List Tk) (o:List zcb) (r:List Tk),zfQ f acc l = .ok (o,r)→o.length + r.length≤acc.length + l.length
 | 0,acc,l,o,r,h=>by unfold zfQ at h;cases h
 | f + 1,acc,l,o,r,h=>by
  unfold zfQ at h;obtain ⟨a,m,e1,h⟩:=zae h;have s1:=zau e1;obtain ⟨a2,m2,e2,h⟩:=zae h;have s2:=zh8 e2;by_cases hc:isT (sg 44) m2=true
  · rw [if_pos hc] at h;have s3:=zay (zal _) hc;have:=zmh f _ _ _ _ h;simp only [List.length_append,List.length_cons,List.length_nil] at this;omega
  · rw [if_neg hc] at h;cases h;simp only [List.length_append,List.length_cons,List.length_nil];omega
def FewR (N:Nat) (x:RelP):Prop:=x.subs.length≤N∧x.ops.length≤N
theorem zmf {l r:List Tk} {x:RelP} (h:zna l = .ok (x,r)):FewR l.length x∧r.length<l.length:=by
 refine ⟨?_,(zcs (f:=l.length + 1) (Nat.lt_succ_self _)).2 _ _ h⟩;unfold zna at h;obtain ⟨_,_,e,h⟩:=zae h;have l0:=zau e;obtain ⟨_,_,e,h⟩:=zae h;have l1:=zas (zal _) e;obtain ⟨_,_,e,h⟩:=zae h;have l2:=zau e;obtain ⟨_,_,e,h⟩:=zae h;have l3:=zas (zal _) e;obtain ⟨_,_,e,h⟩:=zae h;have l4:=zau e;obtain ⟨_,_,e,h⟩:=zae h;have l5:=zas (zal _) e;obtain ⟨_,_,e,h⟩:=zae h;have l6:=zau e;obtain ⟨_,_,e,h⟩:=zae h;have l7:=zas (zal _) e;obtain ⟨_,_,e,h⟩:=zae h;have l8:=zas (zal _) e;obtain ⟨subs,m,e,h⟩:=zae h;have w2:subs.length + m.length≤l.length:=by
  split at e
  · cases e;simp only [List.length_nil];omega
  · have:=zmh _ _ _ _ _ e;simp only [List.length_nil] at this;omega
 obtain ⟨ops,m2,e,h⟩:=zae h;have w3:ops.length≤l.length:=by
  split at e
  · rename_i hc
    have l9:=zay zh1 hc;unfold zi7 at e;obtain ⟨_,_,e1,e⟩:=zae e;have g1:=(zfY _).1 _ _ _ _ e1;have g2:=(zfY _).2 _ _ _ _ _ e;omega
  · cases e;simp only [List.length_cons,List.length_nil];omega
 obtain ⟨_,_,e,h⟩:=zae h;cases h;exact ⟨by dsimp only;omega,w3⟩
theorem FewR.up {N M:Nat} {x:RelP} (h:FewR N x) (hN:N≤M):FewR M x:=⟨Nat.le_trans h.1 hN,Nat.le_trans h.2 hN⟩
theorem zj5 (N:Nat):∀(n:Nat) (acc:List RelP) (l:List Tk) (o:List RelP) (r:List Tk),l.length≤n→l.length≤N→(∀x ∈ acc,FewR N x)→zjL acc l = .ok (o,r)→(∀x ∈ o,FewR N x)∧o.length + r.length≤acc.length + l.length:=by
 intro n;induction n with
 | zero =>
  intro acc l o r hn hN ha h;rw [zd0] at h;by_cases hc:isT zgD l=true
  · have:=zay zb7 hc;omega
  · rw [if_neg hc] at h;cases h;exact ⟨ha,Nat.le_refl _⟩
 | succ n ih =>
  intro acc l o r hn hN ha h;rw [zd0] at h;by_cases hc:isT zgD l=true
  · rw [if_pos hc] at h;have h1:=zay zb7 hc;obtain ⟨x,m,e,h⟩:=zae h;obtain ⟨g,w⟩:=zmf e;have:=ih _ _ _ _ (by omega) (by omega) (fun y hy=>by
     rcases List.mem_append.1 hy with hy | hy
     · exact ha y hy
     · simp only [List.mem_cons,List.not_mem_nil,or_false] at hy;subst hy;exact g.up (by omega)) h
    refine ⟨this.1,?_⟩;have:=this.2;simp only [List.length_append,List.length_cons,List.length_nil] at this;omega
  · rw [if_neg hc] at h;cases h;exact ⟨ha,Nat.le_refl _⟩
def FewT (N:Nat) (t:TypP):Prop:=t.rels.length≤N∧∀x ∈ t.rels,FewR N x
theorem zmg (N:Nat):∀(n:Nat) (acc:List TypP) (l:List Tk) (o:List TypP) (r:List Tk),l.length≤n→l.length≤N→(∀t ∈ acc,FewT N t)→zdn acc l = .ok (o,r)→(∀t ∈ o,FewT N t)∧o.length + r.length≤acc.length + l.length:=by
 intro n;induction n with
 | zero =>
  intro acc l o r hn hN ha h;rw [zc3] at h;by_cases hc:isT zcv l=true
  · have:=zay zbX hc;omega
  · rw [if_neg hc] at h;cases h;exact ⟨ha,Nat.le_refl _⟩
 | succ n ih =>
  intro acc l o r hn hN ha h;rw [zc3] at h;by_cases hc:isT zcv l=true
  · rw [if_pos hc] at h;have h1:=zay zbX hc;obtain ⟨_,_,e,h⟩:=zae h;have l1:=zau e;obtain ⟨_,_,e,h⟩:=zae h;have l2:=zas (zal _) e;obtain ⟨rs,m,e,h⟩:=zae h;obtain ⟨g,l3⟩:=zj5 N _ _ _ _ _ (Nat.le_refl _) (by omega) (fun x hx=>by cases hx) e;simp only [List.length_nil] at l3;obtain ⟨_,_,e,h⟩:=zae h;have l4:=zas (zal _) e;have:=ih _ _ _ _ (by omega) (by omega) (fun t ht=>by
     rcases List.mem_append.1 ht with ht | ht
     · exact ha t ht
     · simp only [List.mem_cons,List.not_mem_nil,or_false] at ht;subst ht;exact ⟨by dsimp only;omega,g⟩) h
    refine ⟨this.1,?_⟩;have:=this.2;simp only [List.length_append,List.length_cons,List.length_nil] at this;omega
  · rw [if_neg hc] at h;cases h;exact ⟨ha,Nat.le_refl _⟩
def Few (N:Nat) (T:List TypP):Prop:=T.length≤N∧∀t ∈ T,FewT N t
theorem ziK {s:ByteArray} {N:Nat} (hl:(zbQ s).1.length≤N):Few N (zah s).1:=by
 unfold zah;split
 · rw [zfi];cases hT:zdn [] (zbQ s).1 with
   | error e=>exact ⟨Nat.zero_le _,fun t ht=>by cases ht⟩
   | ok q =>
    obtain ⟨g,l⟩:=zmg N _ _ _ _ _ (Nat.le_refl _) hl (fun t ht=>by cases ht) (show zdn [] (zbQ s).1 = .ok (q.1,q.2) from hT);rw [zcc];simp only [List.length_nil] at l;split
    · exact ⟨by show q.1.length≤N;omega,g⟩
    · exact ⟨Nat.zero_le _,fun t ht=>by cases ht⟩
 · exact ⟨Nat.zero_le _,fun t ht=>by cases ht⟩
abbrev St:=Except (Nat × Nat) (List Tk)
def isU (s:ByteArray):St→Bool
 | .ok l=>isT s l
 | .error _=>false
def upU:St→St
 | .ok l=>.ok l.tail
 | .error e=>.error e
def zd6 (c:Nat):St→St
 | .ok l=>.error (c,(hdT l).2.2)
 | .error e=>.error e
def opU:St→Nat
 | .ok l=>opT l
 | .error _=>0
def zaD (s:ByteArray) (q:St):St:=if isU s q=true then upU q else zd6 30 q
def isN:St→Bool
 | .ok l=>decide ((hdT l).1=1) && !keyB (hdT l).2.1
 | .error _=>false
def hdU:St→ByteArray
 | .ok l=>(hdT l).2.1
 | .error _=>⟨#[]⟩
def zaF (q:St):ByteArray × St:=if isN q=true then (hdU q,upU q) else (⟨#[]⟩,zd6 30 q)
def zef {α β:Type} (u:α × St) (k:α→St→β × St):β × St:=k u.1 u.2
mutual
def partU:Nat→Nat→St→List OpP × St
 | 0,_,q=>([],zd6 30 q)
 | f + 1,d,q =>
  if isU zcJ q=true then ([(1,⟨#[]⟩,⟨#[]⟩)],upU q)
  else if isU (sg 40) q=true then
   (if d=8 then ([],zd6 13 q)
   else zef (partU f (d + 1) (upU q)) fun o r=>zef (moreU f (d + 1) o r) fun o r=>(o,zaD (sg 41) r))
  else zef (zaF q) fun n r =>
   if isU (sg 46) r=true then zef (zaF (upU r)) fun m r=>([(3,n,m)],r) else ([(2,n,⟨#[]⟩)],r)
def moreU:Nat→Nat→List OpP→St→List OpP × St
 | 0,_,acc,q=>(acc,zd6 30 q)
 | f + 1,d,acc,q =>
  if opU q=0 then (acc,q)
  else zef (partU f d (upU q)) fun o r=>moreU f d (acc ++ o ++ [(opU q,⟨#[]⟩,⟨#[]⟩)]) r
end
def zjM (f d:Nat) (q:St):List OpP × St:=zef (partU f d q) fun o r=>moreU f d o r
def zi4:Nat→List zcb→St→List zcb × St
 | 0,acc,q=>(acc,zd6 30 q)
 | f + 1,acc,q=>zef (zaF q) fun n r =>
  zef (if isU (sg 35) r=true then zaF (upU r) else (⟨#[]⟩,r)) fun m r =>
   if isU (sg 44) r=true then zi4 f (acc ++ [(n,m)]) (upU r) else (acc ++ [(n,m)],r)
def zgH:St→Bool
 | .ok _=>true
 | .error _=>false
def zlM (f:Nat) (q:St):RelP × St :=
 zef (zaF q) fun n r=>zef (zaF (zaD (sg 40) r)) fun v r=>zef (zaF (zaD (sg 44) r)) fun e r=>zef (zaF (zaD (sg 44) r)) fun c r =>
 zef (if zgH (zaD (sg 58) (zaD (sg 41) r)) && !isU sIs (zaD (sg 58) (zaD (sg 41) r)) && !isU (sg 59) (zaD (sg 58) (zaD (sg 41) r)) then zi4 f [] (zaD (sg 58) (zaD (sg 41) r)) else ([],zaD (sg 58) (zaD (sg 41) r))) fun w r =>
 zef (if isU sIs r=true then zjM f 0 (upU r) else ([(1,⟨#[]⟩,⟨#[]⟩)],r)) fun o r=>(⟨n,v,e,c,w,o⟩,zaD (sg 59) r)
def zej:Nat→Nat→List RelP→St→List RelP × St
 | _,0,acc,q=>(acc,zd6 30 q)
 | f,g + 1,acc,q=>if isU zgD q=true then zef (zlM f (upU q)) fun x r=>zej f g (acc ++ [x]) r else (acc,q)
def zbP:Nat→Nat→List TypP→St→List TypP × St
 | _,0,acc,q=>(acc,zd6 30 q)
 | f,g + 1,acc,q =>
  if isU zcv q=true then zef (zaF (upU q)) fun n r=>zef (zej f f [] (zaD (sg 123) r)) fun rs r=>zbP f g (acc ++ [⟨n,rs⟩]) (zaD (sg 125) r)
  else (acc,q)
def Lk {α:Type} (r:Rs α) (u:α × St):Prop:=match r with
 | .ok (a,l)=>u=(a,.ok l)
 | .error e=>u.2 = .error e
theorem zhG (e:Nat × Nat):∀f d acc,moreU f d acc (.error e)=(acc,.error e)
 | 0,_,_=>by unfold moreU;rfl
 | _ + 1,_,_=>by unfold moreU;rfl
theorem zhV (e:Nat × Nat) (f:Nat):∀g acc,(zej f g acc (.error e)).2 = .error e
 | 0,_=>by unfold zej;rfl
 | _ + 1,_=>by unfold zej;rfl
theorem zeS (e:Nat × Nat) (f:Nat):∀g acc,(zbP f g acc (.error e)).2 = .error e
 | 0,_=>by unfold zbP;rfl
 | _ + 1,_=>by unfold zbP;rfl
theorem Lk.and {α β:Type} {r:Rs α} {k:α→List Tk→Rs β} {u:α × St} {ku:α→St→β × St} (h:Lk r u) (hk:∀a l,Lk (k a l) (ku a (.ok l))) (he:∀a e,(ku a (.error e)).2 = .error e):Lk (zaH r k) (zef u ku):=by
 cases r with
 | error e =>
  have h2:u.2 = .error e:=h;show (ku u.1 u.2).2=_;rw [h2];exact he _ _
 | ok p =>
  have h2:u=(p.1,.ok p.2):=h;subst h2;exact hk _ _
theorem Lk.need {β:Type} {s:ByteArray} {l:List Tk} {k:Unit→List Tk→Rs β} {ku:St→β × St} (hk:∀l,Lk (k () l) (ku (.ok l))) (he:∀e,(ku (.error e)).2 = .error e):Lk (zaH (zaG s l) k) (ku (zaD s (.ok l))):=by
 unfold zaG zaD;by_cases h:isT s l=true
 · rw [if_pos h,if_pos (show isU s (.ok l)=true from h)];exact hk _
 · rw [if_neg h,if_neg (show ¬isU s (.ok l)=true from h)];exact he _
theorem Lk.name (l:List Tk):Lk (zaS l) (zaF (.ok l)):=by
 unfold zaS zaF;by_cases h:(hdT l).1=1∧keyB (hdT l).2.1=false
 · rw [if_pos h,if_pos (show isN (.ok l)=true by simp [isN,h])];rfl
 · rw [if_neg h,if_neg (show ¬isN (.ok l)=true by simpa [isN] using h)];rfl
theorem Lk.parts:∀f:Nat,(∀d l,Lk (partF f d l) (partU f d (.ok l)))∧(∀d acc l,Lk (moreF f d acc l) (moreU f d acc (.ok l)))
 | 0=>⟨fun d l=>(by unfold partF partU;rfl),fun d acc l=>(by unfold moreF moreU;rfl)⟩
 | f + 1=>by
  obtain ⟨ih1,ih2⟩:=Lk.parts f;constructor
  · intro d l;unfold partF partU;by_cases h1:isT zcJ l=true
    · rw [if_pos h1,if_pos (show isU zcJ (.ok l)=true from h1)];rfl
    rw [if_neg h1,if_neg (show ¬isU zcJ (.ok l)=true from h1)];by_cases h2:isT (sg 40) l=true
    · rw [if_pos h2,if_pos (show isU (sg 40) (.ok l)=true from h2)];by_cases h3:d=8
      · rw [if_pos h3,if_pos h3];rfl
      rw [if_neg h3,if_neg h3];refine (ih1 _ _).and (fun a m=>(ih2 _ _ _).and (fun a m=>?_) fun a e=>rfl) fun a e=>?_
      · exact Lk.need (ku:=fun r=>(a,zaD (sg 41) (.ok m)) |>.map id fun _=>r) (fun _=>rfl) fun _=>rfl
      · show (zaD (sg 41) (moreU f (d + 1) a (.error e)).2)=_;rw [zhG];rfl
    rw [if_neg h2,if_neg (show ¬isU (sg 40) (.ok l)=true from h2)];refine (Lk.name l).and (fun n m=>?_) fun a e=>rfl;by_cases h4:isT (sg 46) m=true
    · rw [if_pos h4,if_pos (show isU (sg 46) (.ok m)=true from h4)];exact (Lk.name m.tail).and (fun _ _=>rfl) fun _ _=>rfl
    · rw [if_neg h4,if_neg (show ¬isU (sg 46) (.ok m)=true from h4)];rfl
  · intro d acc l;unfold moreF moreU;by_cases h:opT l=0
    · rw [if_pos h,if_pos (show opU (.ok l)=0 from h)];rfl
    · rw [if_neg h,if_neg (show ¬opU (.ok l)=0 from h)];refine (ih1 _ _).and (fun a m=>ih2 _ _ _) fun a e=>?_;rw [zhG]
theorem Lk.rew (f d:Nat) (l:List Tk):Lk (rewF f d l) (zjM f d (.ok l)):=((Lk.parts f).1 d l).and (fun _ _=>(Lk.parts f).2 _ _ _) fun _ e=>by rw [zhG]
theorem Lk.who:∀(f:Nat) (acc:List zcb) (l:List Tk),Lk (zfQ f acc l) (zi4 f acc (.ok l))
 | 0,acc,l=>by unfold zfQ zi4;rfl
 | f + 1,acc,l=>by
  unfold zfQ zi4;refine (Lk.name l).and (fun n m=>?_) fun a e=>rfl;refine Lk.and (r:=if isT (sg 35) m=true then zaS m.tail else .ok (⟨#[]⟩,m)) (u:=if isU (sg 35) (.ok m)=true then zaF (upU (.ok m)) else (⟨#[]⟩,.ok m)) ?_ (fun a k=>?_) fun a e=>rfl
  · by_cases h:isT (sg 35) m=true
    · rw [if_pos h,if_pos (show isU (sg 35) (.ok m)=true from h)];exact Lk.name _
    · rw [if_neg h,if_neg (show ¬isU (sg 35) (.ok m)=true from h)];rfl
  · by_cases h:isT (sg 44) k=true
    · rw [if_pos h,if_pos (show isU (sg 44) (.ok k)=true from h)];exact Lk.who f _ _
    · rw [if_neg h,if_neg (show ¬isU (sg 44) (.ok k)=true from h)];rfl
theorem Lk.needName {β:Type} {s:ByteArray} {l:List Tk} {k:ByteArray→List Tk→Rs β} {ku:ByteArray→St→β × St} (hk:∀a l,Lk (k a l) (ku a (.ok l))) (he:∀a e,(ku a (.error e)).2 = .error e):Lk (zaH (zaG s l) fun _ r=>zaH (zaS r) k) (zef (zaF (zaD s (.ok l))) ku) :=
 Lk.need (ku:=fun q=>zef (zaF q) ku) (fun l=>(Lk.name l).and hk he) fun _=>he _ _
def tailT (f:Nat) (n v e c:ByteArray) (r:List Tk):Rs RelP :=
 zaH (if isT sIs r=true∨isT (sg 59) r=true then .ok ([],r) else zfQ f [] r) fun w r =>
 zaH (if isT sIs r=true then rewF f 0 r.tail else .ok ([(1,⟨#[]⟩,⟨#[]⟩)],r)) fun o r =>
 zaH (zaG (sg 59) r) fun _ r=>.ok (⟨n,v,e,c,w,o⟩,r)
def zlF (f:Nat) (n v e c:ByteArray) (q:St):RelP × St :=
 zef (if zgH q && !isU sIs q && !isU (sg 59) q then zi4 f [] q else ([],q)) fun w r =>
 zef (if isU sIs r=true then zjM f 0 (upU r) else ([(1,⟨#[]⟩,⟨#[]⟩)],r)) fun o r=>(⟨n,v,e,c,w,o⟩,zaD (sg 59) r)
theorem Lk.tail (f:Nat) (n v e c:ByteArray) (l:List Tk):Lk (tailT f n v e c l) (zlF f n v e c (.ok l)):=by
 unfold tailT zlF;refine Lk.and ?_ (fun w m=>?_) fun w x=>rfl
 · by_cases h:isT sIs l=true∨isT (sg 59) l=true
   · rw [if_pos h];have h2:(zgH (.ok l) && !isU sIs (.ok l) && !isU (sg 59) (.ok l))=false:=by
      show (true && !isT sIs l && !isT (sg 59) l)=false;rcases h with h | h <;> simp [h]
     rw [h2];rfl
   · rw [if_neg h];have h2:(zgH (.ok l) && !isU sIs (.ok l) && !isU (sg 59) (.ok l))=true:=by
      show (true && !isT sIs l && !isT (sg 59) l)=true;simp only [not_or,Bool.not_eq_true] at h;simp [h.1,h.2]
     rw [h2,if_pos rfl];exact Lk.who f [] l
 · refine Lk.and ?_ (fun o k=>?_) fun w x=>rfl
   · by_cases h:isT sIs m=true
     · rw [if_pos h,if_pos (show isU sIs (.ok m)=true from h)];exact Lk.rew f 0 m.tail
     · rw [if_neg h,if_neg (show ¬isU sIs (.ok m)=true from h)];rfl
   · exact Lk.need (k:=fun _ r=>.ok ((⟨n,v,e,c,w,o⟩:RelP),r)) (ku:=fun r=>((⟨n,v,e,c,w,o⟩:RelP),r)) (fun _=>rfl) fun _=>rfl
theorem Lk.rel (f:Nat) (l:List Tk):Lk (relF f l) (zlM f (.ok l)):=by
 unfold relF zlM;refine (Lk.name l).and (fun n m=>?_) fun a x=>rfl;refine Lk.needName (fun v m=>?_) fun a x=>rfl;refine Lk.needName (fun e m=>?_) fun a x=>rfl;refine Lk.needName (fun c m=>?_) fun a x=>rfl;exact Lk.need (k:=fun _ r=>zaH (zaG (sg 58) r) fun _ r=>tailT f n v e c r) (ku:=fun q=>zlF f n v e c (zaD (sg 58) q)) (fun m=>Lk.need (k:=fun _ r=>tailT f n v e c r) (ku:=zlF f n v e c) (fun m=>Lk.tail f n v e c m) fun x=>rfl) fun x=>rfl
theorem Lk.rels (f:Nat):∀(g:Nat) (acc:List RelP) (l:List Tk),Lk (zd7 f g acc l) (zej f g acc (.ok l))
 | 0,acc,l=>by unfold zd7 zej;rfl
 | g + 1,acc,l=>by
  unfold zd7 zej;by_cases h:isT zgD l=true
  · rw [if_pos h,if_pos (show isU zgD (.ok l)=true from h)];exact (Lk.rel f l.tail).and (fun x m=>Lk.rels f g _ m) fun x e=>zhV e f g _
  · rw [if_neg h,if_neg (show ¬isU zgD (.ok l)=true from h)];rfl
theorem Lk.types (f:Nat):∀(g:Nat) (acc:List TypP) (l:List Tk),Lk (zcz f g acc l) (zbP f g acc (.ok l))
 | 0,acc,l=>by unfold zcz zbP;rfl
 | g + 1,acc,l=>by
  unfold zcz zbP;by_cases h:isT zcv l=true
  · rw [if_pos h,if_pos (show isU zcv (.ok l)=true from h)];refine (Lk.name l.tail).and (fun n m=>?_) fun a e=>?_
    · refine Lk.need (ku:=fun q=>zef (zej f f [] q) fun rs r=>zbP f g (acc ++ [⟨n,rs⟩]) (zaD (sg 125) r)) (fun m=>?_) fun e=>?_
      · refine (Lk.rels f f [] m).and (fun rs m=>?_) fun a e=>zeS e f g _;exact Lk.need (k:=fun _ r=>zcz f g (acc ++ [⟨n,rs⟩]) r) (ku:=fun q=>zbP f g (acc ++ [⟨n,rs⟩]) q) (fun m=>Lk.types f g _ m) fun e=>zeS e f g _
      · show (zbP f g _ (zaD (sg 125) (zej f f [] (.error e)).2)).2=_;rw [zhV];exact zeS e f g _
    · show (zbP f g _ (zaD (sg 125) (zej f f [] (.error e)).2)).2=_;rw [zhV];exact zeS e f g _
  · rw [if_neg h,if_neg (show ¬isU zcv (.ok l)=true from h)];rfl
def endU (q:St):St:=match q with
 | .ok l=>if (hdT l).1=3 then .ok l else zd6 30 (.ok l)
 | .error e=>.error e
def zgM (u:List TypP × St):List TypP × Nat × Nat:=match endU u.2 with
 | .ok _=>(u.1,0,0)
 | .error e=>([],e)
theorem ziW {l:List Tk}:outS (zdM l)=zgM (zbP (2 * l.length + 2) (2 * l.length + 2) [] (.ok l)):=by
 have h:=Lk.types (2 * l.length + 2) (2 * l.length + 2) [] l;unfold zdM;generalize zbP (2 * l.length + 2) (2 * l.length + 2) [] (.ok l)=u at *
 revert h
 cases zcz (2 * l.length + 2) (2 * l.length + 2) [] l with
 | error e =>
  intro h;have h2:u.2 = .error e:=h;show ([],e)=_;unfold zgM endU;rw [h2]
 | ok p =>
  intro h;have h2:u=(p.1,.ok p.2):=h;subst h2;show outS (if (hdT p.2).1=3 then .ok (p.1,p.2) else zjc 30 p.2)=zgM (p.1,.ok p.2);unfold zgM endU;dsimp only;split
  · rfl
  · rfl
end Go.Proofs.YtahegpfdbgbioaaGreat
namespace Go.Proofs.YtahegpfdbgbioaaGreat
open Go.RowKit
open Go.RowKit
open Go.RowKit
open Go.RowKit
theorem zaE (x y:ByteArray):(x.toList == y.toList)=decide (x=y):=toList_inj
theorem key_any (s:ByteArray) (w:World):Calls Tryz.prog 231 #[.string s] w fun e w'=>e = .returned (.bool (keyB s))∧w'=w:=by
 have e1:=zaE s ⟨#[116,121,112,101]⟩;have e2:=zaE s ⟨#[114,101,108]⟩;have e3:=zaE s ⟨#[105,115]⟩;have e4:=zaE s ⟨#[116,104,105,115]⟩;rw [show (⟨#[116,121,112,101]⟩:ByteArray).toList=[116,121,112,101] by decide +kernel] at e1;rw [show (⟨#[114,101,108]⟩:ByteArray).toList=[114,101,108] by decide +kernel] at e2;rw [show (⟨#[105,115]⟩:ByteArray).toList=[105,115] by decide +kernel] at e3;rw [show (⟨#[116,104,105,115]⟩:ByteArray).toList=[116,104,105,115] by decide +kernel] at e4;have HK:Hid (keyB s=(decide (s=⟨#[116,121,112,101]⟩) || decide (s=⟨#[114,101,108]⟩) || decide (s=⟨#[105,115]⟩) || decide (s=⟨#[116,104,105,115]⟩))):=Lib.hid (by unfold keyB;rw [Bool.eq_iff_iff];simp [or_assoc]);generalize decide (s=⟨#[116,121,112,101]⟩)=d1 at *
 generalize decide (s=⟨#[114,101,108]⟩)=d2 at *
 generalize decide (s=⟨#[105,115]⟩)=d3 at *
 generalize decide (s=⟨#[116,104,105,115]⟩)=d4 at *
 go_enter Tryz.func231,Tryz.ntmps231
 cases d1 <;> cases d2 <;> cases d3 <;> cases d4;all_goals go_wp2
 all_goals go_ret
 all_goals (refine ⟨?_,rfl⟩;rw [HK.out];rfl)
def Fine (l:List Tk):Prop:=l.length≤1000000∧∃init p,l=init ++ [(3,⟨#[]⟩,p)]∧∀t ∈ init,t.1=2∨(t.1=1∧∀c:UInt8,za8 c.toNat=true→t.2.1≠sg c)
theorem Fine.cons {l:List Tk} (h:Fine l):∃t r,l=t::r:=by
 obtain ⟨_,init,p,rfl,_⟩:=h;cases init with
 | nil=>exact ⟨_,_,rfl⟩
 | cons a r=>exact ⟨_,_,rfl⟩
theorem Fine.tail {l:List Tk} (h:Fine l) (h3:(hdT l).1≠3):Fine l.tail:=by
 obtain ⟨hl,init,p,rfl,hi⟩:=h;cases init with
 | nil=>exact absurd rfl h3
 | cons a r=>exact ⟨by rw [List.length_tail];omega,r,p,rfl,fun t ht=>hi t (List.mem_cons_of_mem _ ht)⟩
theorem Fine.hd {l:List Tk} (h:Fine l):(hdT l).1=2∨((hdT l).1=1∧∀c:UInt8,za8 c.toNat=true→(hdT l).2.1≠sg c)∨((hdT l).1=3∧(hdT l).2.1=⟨#[]⟩):=by
 obtain ⟨_,init,p,rfl,hi⟩:=h;cases init with
 | nil=>exact .inr (.inr ⟨rfl,rfl⟩)
 | cons a r=>
  rcases hi a (List.mem_cons_self) with h | h
  · exact .inl h
  · exact .inr (.inl h)
def Ask (s:ByteArray):Prop:=0<s.size∧(keyB s=true∨∃c:UInt8,za8 c.toNat=true∧s=sg c)
theorem Fine.isT {l:List Tk} (h:Fine l) {s:ByteArray} (hs:Ask s):isT s l=decide ((hdT l).2.1=s):=by
 unfold Go.Proofs.YtahegpfdbgbioaaGreat.isT;by_cases e:(hdT l).2.1=s
 · rw [decide_eq_true e];refine decide_eq_true ⟨e,?_⟩;rcases hs.2 with hk | ⟨c,hc,rfl⟩
   · exact .inr hk
   · rcases h.hd with h2 | ⟨_,h1⟩ | ⟨_,h3⟩
     · exact .inl h2
     · exact absurd e (h1 c hc)
     · rw [h3] at e;have:=congrArg ByteArray.size e;rw [show (sg c).size=1 from rfl,show (⟨#[]⟩:ByteArray).size=0 from rfl] at this;omega
 · rw [decide_eq_false e];exact decide_eq_false fun h=>e h.1
theorem Fine.next {l:List Tk} (h:Fine l) {s:ByteArray} (hs:0<s.size) (e:(hdT l).2.1=s):Fine l.tail:=by
 refine h.tail fun h3=>?_;rcases h.hd with h2 | ⟨h1,_⟩ | ⟨_,h0⟩
 · omega
 · omega
 · rw [h0] at e;subst e;exact absurd hs (by decide)
structure RdAt (w:World) (g:Nat) (l:List Tk) (A:Option Addr) (c:Nat):Prop where
 cells:w.heap[g]? = some (.cells #[.slice A l.length c] 222 (0,0))
 toks:Rd w g 3 A l.length c (tcells l)
 fine:Fine l
def Rdr (w:World) (g:Nat) (l:List Tk):Prop:=∃A c,RdAt w g l A c
section
variable {w w':World} {g:Nat} {l:List Tk} {A:Option Addr} {c:Nat}
theorem RdAt.size (h:RdAt w g l A c):g<w.heap.size:=(Array.getElem?_eq_some_iff.1 h.cells).1
theorem Rdr.size (h:Rdr w g l):g<w.heap.size:=by obtain ⟨A,c,h⟩:=h;exact h.size
theorem Rdr.fine (h:Rdr w g l):Fine l:=by obtain ⟨A,c,h⟩:=h;exact h.fine
theorem RdAt.c0 (h:RdAt w g l A c):w.cell? ⟨g,0,none⟩=some (.slice A l.length c):=by rw [cell_of_row _ _ _ _ _ _ h.cells];rfl
theorem RdAt.fz (h:RdAt w g l A c):w.frozen? ⟨g,0,none⟩=false:=by simp [World.frozen?,h.cells]
theorem RdAt.first (h:RdAt w g l A c):∃b o,A=some ⟨b,o,none⟩∧0<l.length∧w.cell? ⟨b,o,none⟩=some (.int .i64 (hdT l).1)∧w.cell? ⟨b,o + 1,none⟩=some (.string (hdT l).2.1)∧w.cell? ⟨b,o + 2,none⟩=some (.int .i64 (hdT l).2.2):=by
 obtain ⟨t,r,rfl⟩:=h.fine.cons;obtain ⟨b,o,e,_,hc⟩:=h.toks.at_ (by simp);exact ⟨b,o,e,by simp,hc 0 _ rfl,hc 1 _ rfl,hc 2 _ rfl⟩
theorem Rdr.keep (h:Rdr w g l) (hb:∀k,k≤g→w'.heap[k]? = w.heap[k]?):Rdr w' g l:=by
 obtain ⟨A,c,h⟩:=h;refine ⟨A,c,(hb g (Nat.le_refl _)).trans h.cells,h.toks.keep fun p hp=>?_,h.fine⟩;have:=hb p.block (by omega);unfold World.cell?;rw [this]
theorem Rdr.below (h:Rdr w g l) (hb:Below w.heap.size w w'):Rdr w' g l:=h.keep fun k hk=>hb.block k (by have:=h.size;omega)
theorem Rdr.drew (h:Rdr w g l):Rdr w.drew g l:=h.keep fun _ _=>rfl
theorem RdAt.step (h:RdAt w g l A c) (hf:Fine l.tail):Rdr (w.setCell ⟨g,0,none⟩ (.slice (if c=1 then A else A.map (·.add 3)) (l.length-1) (c-1))) g l.tail∧Kp g w.heap.size w (w.setCell ⟨g,0,none⟩ (.slice (if c=1 then A else A.map (·.add 3)) (l.length-1) (c-1))):=by
 have hl:1≤l.length:=by obtain ⟨_,_,_,h1,_⟩:=h.first;exact h1
 have ht:=h.toks.cut hl;have e:(tcells l).drop (1 * 3)=tcells l.tail:=by
  obtain ⟨t,r,rfl⟩:=h.fine.cons;rfl
 rw [e] at ht;have hll:l.tail.length=l.length-1:=List.length_tail;refine ⟨⟨if c=1 then A else A.map (·.add 3),c-1,?_,?_,hf⟩,?_⟩
 · rw [hll];simp [World.setCell,Array.getElem?_modify,h.cells]
 · rw [hll];refine ht.keep fun p hp=>?_;have:=Below.heap_setCell w ⟨g,0,none⟩ (.slice (if c=1 then A else A.map (·.add 3)) (l.length-1) (c-1)) p.block (by show p.block≠g;omega);unfold World.cell?;rw [this]
 · exact ⟨rfl,rfl,rfl,by simp [World.setCell],fun k _ hn=>Below.heap_setCell _ _ _ _ hn⟩
end
def left (w:World) (g:Nat):Nat:=match w.cell? ⟨g,0,none⟩ with
 | some (.slice _ n _)=>n
 | _=>0
theorem Rdr.left {w:World} {g:Nat} {l:List Tk} (h:Rdr w g l):left w g=l.length:=by
 obtain ⟨A,c,h⟩:=h;unfold Go.Proofs.YtahegpfdbgbioaaGreat.left;rw [h.c0]
theorem Rdr.few {w:World} {g:Nat} {l:List Tk} (h:Rdr w g l):l.length≤1000000:=h.fine.1
abbrev zgV (c p:Nat):Ending:=.panicked [{ v:=.iface 218 (.agg #[.int .i64 c,.int .i64 p]),recovered:=false }]
def Post {α:Type} (V:World→Value→α→Prop) (B:Nat) (w:World) (g:Nat) (r:Rs α) (e:Ending) (w':World):Prop :=
 Kp g B w w'∧match r with
  | .error c=>e=zgV c.1 c.2
  | .ok a=>∃v,e = .returned v∧V w' v a.1∧Rdr w' g a.2
section
variable {α β:Type} {V:World→Value→α→Prop} {U:World→Value→β→Prop} {B B':Nat} {w w1 w':World} {g:Nat} {r:Rs α} {e:Ending}
theorem Post.ok {a:α} {l:List Tk} {v:Value} (hk:Kp g B w w') (hv:V w' v a) (hr:Rdr w' g l):Post V B w g (.ok (a,l)) (.returned v) w':=⟨hk,v,rfl,hv,hr⟩
theorem Post.bad (hk:Kp g B w w') (c p:Nat):Post V B w g (.error (c,p)) (zgV c p) w':=⟨hk,rfl⟩
theorem Post.from_ (h:Post V B w1 g r e w') (hk:Kp g B' w w1) (hB:B'≤B):Post V B' w g r e w':=⟨hk.trans (h.1.more hB),h.2⟩
theorem Post.cases_ (h:Post V B w g r e w'):Kp g B w w'∧((∃c p,r = .error (c,p)∧e=zgV c p)∨∃a l v,r = .ok (a,l)∧e = .returned v∧V w' v a∧Rdr w' g l):=by
 obtain ⟨hk,h⟩:=h;refine ⟨hk,?_⟩;cases r with
 | error c=>exact .inl ⟨c.1,c.2,rfl,h⟩
 | ok a=>obtain ⟨v,h1,h2,h3⟩:=h;exact .inr ⟨a.1,a.2,v,rfl,h1,h2,h3⟩
end
def zlR (_:World) (v:Value) (_:Unit):Prop:=v = .tuple #[]
def VStr (_:World) (v:Value) (s:ByteArray):Prop:=v = .string s
section
variable {w:World} {g:Nat} {l:List Tk}
theorem zar {w:World} {a:Addr} {v:Value} (h:w.cell? a=some v) (o:Obj):(w.alloc o).cell? a=some v:=by
 rw [World.cell?_alloc_lt w o a (World.block_lt_of_cell? w _ h)];exact h
theorem zb6 (h:Rdr w g l):Calls Tryz.prog 168 #[.pointer (some ⟨g,0,none⟩)] w fun e w'=>e = .returned (.agg #[.int .i64 (hdT l).1,.string (hdT l).2.1,.int .i64 (hdT l).2.2])∧Below w.heap.size w w':=by
 obtain ⟨A,c,h⟩:=h;have c0:=zar h.c0;obtain ⟨b,o,rfl,hl,x0,x1,x2⟩:=h.first;replace x0:=zar x0;replace x1:=zar x1;replace x2:=zar x2;clear h;go_enter Tryz.func168,Tryz.ntmps168
 go_wp2
 refine bodyPost_ret (v:=_) (by simp [results,Tryz.results168,go_sem];try rfl) rfl ?_;exact ⟨rfl,(Below.refl _ w).alloc (Nat.le_refl _) _⟩
theorem pass_any (h:Rdr w g l) (hf:Fine l.tail):Calls Tryz.prog 221 #[.pointer (some ⟨g,0,none⟩)] w fun e w'=>e = .returned (.tuple #[])∧Rdr w' g l.tail∧Kp g w.heap.size w w':=by
 obtain ⟨A,c,h⟩:=h;have c0:=h.c0;have fz:=h.fz;obtain ⟨b,o,rfl,hl,_⟩:=h.first;have hs:=h.step hf;have hc:=h.toks.cap;have hm:=h.toks.capm;unfold maxLen at hm;clear h;by_cases h1:c=1
 · subst h1;simp only [if_true,show l.length-1=0 by omega,Nat.sub_self] at hs;have HS:=Lib.hid hs;clear hs;go_enter Tryz.func221,Tryz.ntmps221
   go_wp2
   go_returns
   exact ⟨rfl,HS.out⟩
 · simp only [if_neg h1,Option.map_some,Addr.add_lit] at hs;have HS:=Lib.hid hs;clear hs;go_enter Tryz.func221,Tryz.ntmps221
   go_wp2
   go_returns
   exact ⟨rfl,HS.out⟩
theorem tok_f0 (x y z:Value) (W:World):(Instr.field 258 (.agg #[x,y,z]) 0).run Tryz.prog W = .ok x W:=by kernel_rfl
theorem zi1 (x y z:Value) (W:World):(Instr.field 258 (.agg #[x,y,z]) 1).run Tryz.prog W = .ok y W:=by kernel_rfl
theorem tok_f2 (x y z:Value) (W:World):(Instr.field 258 (.agg #[x,y,z]) 2).run Tryz.prog W = .ok z W:=by kernel_rfl
theorem may_yes (h:Rdr w g l) {s:ByteArray} (hs:0<s.size) (e:(hdT l).2.1=s):Calls Tryz.prog 196 #[.pointer (some ⟨g,0,none⟩),.string s] w fun e w'=>e = .returned (.bool true)∧Rdr w' g l.tail∧Kp g w.heap.size w w':=by
 have hf:=h.fine.next hs e;have e1:((hdT l).2.1.toList == s.toList)=true:=by rw [zaE];exact decide_eq_true e
 generalize hx:(hdT l).2.1=x at *
 have f1:=zi1;go_enter Tryz.func196,Tryz.ntmps196
 go_wp2_with (first
  | ((with_reducible refine (zb6 h).mono ?_);rintro e w1 ⟨rfl,hb⟩;rw [hx])
  | ((with_reducible refine (pass_any (h.below hb) hf).mono ?_);rintro e w2 ⟨rfl,h2,hk⟩))
 go_returns
 exact ⟨rfl,h2,(Kp.of_below hb g).trans (hk.more hb.size)⟩
theorem may_no (h:Rdr w g l) {s:ByteArray} (e:¬(hdT l).2.1=s):Calls Tryz.prog 196 #[.pointer (some ⟨g,0,none⟩),.string s] w fun e w'=>e = .returned (.bool false)∧Below w.heap.size w w':=by
 have e1:((hdT l).2.1.toList == s.toList)=false:=by rw [zaE];exact decide_eq_false e
 generalize hx:(hdT l).2.1=x at *
 have f1:=zi1;go_enter Tryz.func196,Tryz.ntmps196
 go_wp2_with ((with_reducible refine (zb6 h).mono ?_);rintro e w1 ⟨rfl,hb⟩;rw [hx])
 go_returns
 exact ⟨rfl,hb⟩
theorem stop_any (h:Rdr w g l):Calls Tryz.prog 219 #[.pointer (some ⟨g,0,none⟩)] w fun e w'=>e=zgV 30 (hdT l).2.2∧Below w.heap.size w w':=by
 have f2:=tok_f2;go_enter Tryz.func219,Tryz.ntmps219
 go_wp2_with ((with_reducible refine (zb6 h).mono ?_);rintro e w1 ⟨rfl,hb⟩)
 exact ⟨rfl,rfl,hb⟩
end
section
variable {w:World} {g:Nat} {l:List Tk}
theorem need_yes {l:List Tk} (hf:Fine l) {s:ByteArray} (hs:Ask s) (h:(hdT l).2.1=s):zaG s l = .ok ((),l.tail):=by unfold zaG;rw [hf.isT hs,decide_eq_true h];rfl
theorem need_no {l:List Tk} (hf:Fine l) {s:ByteArray} (hs:Ask s) (h:¬(hdT l).2.1=s):zaG s l = .error (30,(hdT l).2.2):=by unfold zaG;rw [hf.isT hs,decide_eq_false h];rfl
theorem must_any (h:Rdr w g l) {s:ByteArray} (hs:Ask s):Calls Tryz.prog 194 #[.pointer (some ⟨g,0,none⟩),.string s] w (Post zlR w.heap.size w g (zaG s l)):=by
 by_cases e:(hdT l).2.1=s
 · rw [need_yes h.fine hs e];have k:=may_yes h hs.1 e;clear e;go_enter Tryz.func194,Tryz.ntmps194
   go_wp2_with ((with_reducible refine k.mono ?_);rintro e w1 ⟨rfl,h1,hk⟩)
   go_returns
   exact Post.ok hk rfl h1
 · rw [need_no h.fine hs e];have k:=may_no h e;clear e;go_enter Tryz.func194,Tryz.ntmps194
   go_wp2_with (first
    | ((with_reducible refine k.mono ?_);rintro e w1 ⟨rfl,hb⟩)
    | ((with_reducible refine (stop_any (h.below hb)).mono ?_);rintro e w2 ⟨rfl,hb2⟩))
   refine ⟨rfl,?_⟩;exact Post.bad ((Kp.of_below hb g).trans (Kp.of_below (hb2.mono hb.size) g)) _ _
theorem atName_any (h:Rdr w g l):Calls Tryz.prog 220 #[.pointer (some ⟨g,0,none⟩)] w fun e w'=>e = .returned (.bool (decide ((hdT l).1=1) && !keyB (hdT l).2.1))∧Below w.heap.size w w':=by
 have f0:=tok_f0;have f1:=zi1;have kk:∀W,_:=fun W=>key_any (hdT l).2.1 W;have kf:∀W,Rdr W g l→_:=fun W H=>zb6 (w:=W) H;by_cases h1:(hdT l).1=1
 · have d1:((((hdT l).1:Nat):Int) == 1)=true:=by rw [beq_iff_eq];omega
   rw [decide_eq_true h1,Bool.true_and];generalize (hdT l).2.1=x at *
   generalize (hdT l).2.2=y at *
   generalize (hdT l).1=z at *
   generalize keyB x=b at *
   clear h1;cases b;all_goals (
    go_enter Tryz.func220,Tryz.ntmps220
    go_wp2_with (first
     | ((with_reducible refine (kf _ h).mono ?_);rintro e w1 ⟨rfl,hb⟩)
     | ((with_reducible refine (kk _).mono ?_);rintro e w2 ⟨rfl,rfl⟩))
    go_returns
    exact ⟨rfl,hb.alloc hb.size _⟩)
 · have d1:((((hdT l).1:Nat):Int) == 1)=false:=by rw [beq_eq_false_iff_ne];omega
   rw [decide_eq_false h1,Bool.false_and];generalize (hdT l).2.1=x at *
   generalize (hdT l).2.2=y at *
   generalize (hdT l).1=z at *
   clear h1 kk;go_enter Tryz.func220,Tryz.ntmps220
   go_wp2_with ((with_reducible refine (kf _ h).mono ?_);rintro e w1 ⟨rfl,hb⟩)
   go_returns
   exact ⟨rfl,hb.alloc hb.size _⟩
theorem name_yes {l:List Tk} (h:(decide ((hdT l).1=1) && !keyB (hdT l).2.1)=true):zaS l = .ok ((hdT l).2.1,l.tail):=by
 unfold zaS;refine if_pos ?_;simpa using h
theorem zmO {l:List Tk} (h:(decide ((hdT l).1=1) && !keyB (hdT l).2.1)=false):zaS l = .error (30,(hdT l).2.2):=by
 unfold zaS;refine if_neg ?_;intro ⟨h1,h2⟩;rw [decide_eq_true h1,h2] at h;cases h
theorem ziz {l:List Tk} (hf:Fine l) (h:(decide ((hdT l).1=1) && !keyB (hdT l).2.1)=true):Fine l.tail:=by
 refine hf.tail ?_;simp only [Bool.and_eq_true,decide_eq_true_eq] at h;omega
theorem rname_any (h:Rdr w g l):Calls Tryz.prog 195 #[.pointer (some ⟨g,0,none⟩)] w (Post VStr w.heap.size w g (zaS l)):=by
 have f1:=zi1;have ka:=atName_any h;cases hb:(decide ((hdT l).1=1) && !keyB (hdT l).2.1) with
 | false =>
  rw [zmO hb];rw [hb] at ka;go_enter Tryz.func195,Tryz.ntmps195
  go_wp2_with (first
   | ((with_reducible refine ka.mono ?_);rintro e w1 ⟨rfl,hb⟩)
   | ((with_reducible refine (stop_any (h.below hb)).mono ?_);rintro e w2 ⟨rfl,hb2⟩))
  refine ⟨rfl,?_⟩;exact Post.bad ((Kp.of_below hb g).trans (Kp.of_below (hb2.mono hb.size) g)) _ _
 | true =>
  rw [name_yes hb];rw [hb] at ka;have hf:=ziz h.fine hb;clear hb;have kf:∀W,Rdr W g l→_:=fun W H=>zb6 (w:=W) H;have kp:∀W,Rdr W g l→_:=fun W H=>pass_any (w:=W) H hf;have HV:∀w',Rdr w' g l.tail→Kp g w.heap.size w w'→Hid (Post VStr w.heap.size w g (.ok ((hdT l).2.1,l.tail)) (.returned (.string (hdT l).2.1)) w'):=fun w' h1 h2=>Lib.hid (Post.ok h2 rfl h1);generalize Post VStr w.heap.size w g (.ok ((hdT l).2.1,l.tail))=R at *
  generalize (hdT l).2.1=x at *
  go_enter Tryz.func195,Tryz.ntmps195
  go_wp2_with (first
   | ((with_reducible refine ka.mono ?_);rintro e w1 ⟨rfl,hb⟩)
   | ((with_reducible refine (kf _ (h.below hb)).mono ?_);rintro e w2 ⟨rfl,hb2⟩)
   | ((with_reducible refine (kp _ ((h.below hb).below hb2)).mono ?_);rintro e w3 ⟨rfl,h3,hk⟩))
  exact (HV _ h3 ((Kp.of_below (hb.trans (hb2.mono hb.size)) g).trans (hk.more (Nat.le_trans hb.size hb2.size)))).out
def zfv (x:ByteArray):Nat:=if x=⟨#[124]⟩ then 4 else if x=⟨#[38]⟩ then 5 else if x=⟨#[45]⟩ then 6 else 0
theorem joins_any (x:ByteArray) (w:World):Calls Tryz.prog 237 #[.string x] w fun e w'=>e = .returned (.tuple #[.int .i64 (zfv x),.bool (!decide (zfv x=0))])∧w'=w:=by
 have e1:=zaE x ⟨#[124]⟩;have e2:=zaE x ⟨#[38]⟩;have e3:=zaE x ⟨#[45]⟩;rw [show (⟨#[124]⟩:ByteArray).toList=[124] by decide +kernel] at e1;rw [show (⟨#[38]⟩:ByteArray).toList=[38] by decide +kernel] at e2;rw [show (⟨#[45]⟩:ByteArray).toList=[45] by decide +kernel] at e3;have HJ:Hid (zfv x=if decide (x=⟨#[124]⟩)=true then 4 else if decide (x=⟨#[38]⟩)=true then 5 else if decide (x=⟨#[45]⟩)=true then 6 else 0):=Lib.hid (by unfold zfv;simp only [decide_eq_true_eq]);generalize decide (x=⟨#[124]⟩)=d1 at *
 generalize decide (x=⟨#[38]⟩)=d2 at *
 generalize decide (x=⟨#[45]⟩)=d3 at *
 generalize zfv x=J at *
 go_enter Tryz.func237,Tryz.ntmps237
 cases d1 <;> cases d2 <;> cases d3;all_goals go_wp2
 all_goals go_returns
 all_goals (refine ⟨?_,rfl⟩;rw [HJ.out];rfl)
theorem zhx {l:List Tk} (hf:Fine l):zfv (hdT l).2.1=opT l:=by
 have a1:Ask (sg 124):=⟨by decide,.inr ⟨124,by decide,rfl⟩⟩;have a2:Ask (sg 38):=⟨by decide,.inr ⟨38,by decide,rfl⟩⟩;have a3:Ask (sg 45):=⟨by decide,.inr ⟨45,by decide,rfl⟩⟩;unfold opT zfv;rw [hf.isT a1,hf.isT a2,hf.isT a3];show _=if decide ((hdT l).2.1=⟨#[124]⟩)=true then 4 else if decide ((hdT l).2.1=⟨#[38]⟩)=true then 5 else if decide ((hdT l).2.1=⟨#[45]⟩)=true then 6 else 0;by_cases e1:(hdT l).2.1=⟨#[124]⟩
 · rw [if_pos e1,if_pos (decide_eq_true e1)]
 · rw [if_neg e1,if_neg (fun h=>e1 (of_decide_eq_true h))];by_cases e2:(hdT l).2.1=⟨#[38]⟩
   · rw [if_pos e2,if_pos (decide_eq_true e2)]
   · rw [if_neg e2,if_neg (fun h=>e2 (of_decide_eq_true h))];by_cases e3:(hdT l).2.1=⟨#[45]⟩
     · rw [if_pos e3,if_pos (decide_eq_true e3)]
     · rw [if_neg e3,if_neg (fun h=>e3 (of_decide_eq_true h))]
end
end Go.Proofs.YtahegpfdbgbioaaGreat
