import Derived.ProofKit
import Derived.OpenShut
import Derived.ShutString
import Derived.ChangeOld
import Derived.SliceStrings
import Derived.ChangeMaps
import Derived.SizedLaws
import Derived.Deep.Slices
import Derived.Deep.Fields
import Derived.Test.YtiepddmagfmllaaGreatRows
import Derived.Test.YtiepddmagfmllaaGreatT01
import Derived.Test.YtiepddmagfmllaaGreatT02
set_option maxRecDepth 100000
set_option maxHeartbeats 4000000
namespace Go.Proofs.YtiepddmagfmllaaGreat
abbrev OpI:=Int × ByteArray × ByteArray
structure RelI where
 name:ByteArray
 view:ByteArray
 edit:ByteArray
 check:ByteArray
 subs:List (ByteArray × ByteArray)
 ops:List OpI
 deriving DecidableEq
structure TypI where
 name:ByteArray
 rels:List RelI
 deriving DecidableEq
def zeh (l:List TypI) (n:ByteArray):Option TypI:=l.find? fun t=>decide (t.name=n)
def zcm (t:TypI) (n:ByteArray):Option RelI:=t.rels.find? fun r=>decide (r.name=n)
def hasT (l:List TypI) (n:ByteArray):Bool:=(zeh l n).isSome
def zcb (t:TypI) (n:ByteArray):Bool:=(zcm t n).isSome
def zkm (l:List TypI) (ty re:ByteArray):Option RelI:=(zeh l ty).bind fun t=>zcm t re
def hasI (l:List TypI) (ty re:ByteArray):Bool:=(zkm l ty re).isSome
def zgw (l:List TypI) (r:RelI) (next:ByteArray):Bool:=r.subs.any fun x=>decide (x.2=⟨#[]⟩) && hasI l x.1 next
def zdg (l:List TypI) (t:TypI) (o:OpI):Bool :=
 if o.1=2 then zcb t o.2.1
 else if o.1=3 then (match zcm t o.2.1 with
  | none=>false
  | some r=>zgw l r o.2.2)
 else true
def zdD (l:List TypI) (x:ByteArray × ByteArray):Bool:=hasT l x.1 && (decide (x.2=⟨#[]⟩) || hasI l x.1 x.2)
def zcg (l:List TypI):List (ByteArray × ByteArray)→List (ByteArray × ByteArray)→Nat
 | _,[]=>0
 | ahead,x::r=>if zdD l x=false then 31 else if ahead.any (fun y=>decide (y=x))=true then 32 else zcg l (ahead ++ [x]) r
def zbQ (l:List TypI) (t:TypI) (r:RelI):Nat :=
 if (zcb t r.view && (zcb t r.edit && zcb t r.check))=false then 31
 else if zcg l [] r.subs≠0 then zcg l [] r.subs
 else if r.ops.all (zdg l t)=false then 31 else 0
def zgh (t:TypI) (r:RelI):ByteArray:=t.name ++ ⟨#[46]⟩ ++ r.name
def zcw (t:TypI):List RelI→List RelI→Nat × ByteArray
 | _,[]=>(0,⟨#[]⟩)
 | ahead,r::q=>if ahead.any (fun x=>decide (x.name=r.name))=true then (32,zgh t r) else if 16<r.ops.length then (13,zgh t r) else zcw t (ahead ++ [r]) q
def zbw:List TypI→List TypI→Nat × ByteArray
 | _,[]=>(0,⟨#[]⟩)
 | ahead,t::q=>if ahead.any (fun x=>decide (x.name=t.name))=true then (32,t.name) else if 12<t.rels.length then (13,t.name)
  else if (zcw t [] t.rels).1≠0 then zcw t [] t.rels else zbw (ahead ++ [t]) q
def za4 (l:List TypI) (t:TypI):List RelI→Nat × ByteArray
 | []=>(0,⟨#[]⟩)
 | r::q=>if zbQ l t r≠0 then (zbQ l t r,zgh t r) else za4 l t q
def zbj (l:List TypI):List TypI→Nat × ByteArray
 | []=>(0,⟨#[]⟩)
 | t::q=>if (za4 l t t.rels).1≠0 then za4 l t t.rels else zbj l q
def zbb (l:List TypI):Nat × ByteArray :=
 if 8<l.length then (13,⟨#[]⟩) else if (zbw [] l).1≠0 then zbw [] l else zbj l l
structure RightR (t:TypI):Prop where
 few:t.rels.length≤12
 names:(t.rels.map (·.name)).Nodup
 ops:∀r ∈ t.rels,r.ops.length≤16
structure Right (l:List TypI):Prop where
 few:l.length≤8
 names:(l.map (·.name)).Nodup
 rels:∀t ∈ l,RightR t
 named:∀t ∈ l,∀r ∈ t.rels,zbQ l t r=0
theorem zhm (t:TypI):∀(q ahead:List RelI),(ahead.map (·.name)).Nodup →
 ((zcw t ahead q).1=0↔((ahead ++ q).map (·.name)).Nodup∧∀r ∈ q,r.ops.length≤16)∧((zcw t ahead q).1=0→zcw t ahead q=(0,⟨#[]⟩))
 | [],ahead,h=>⟨⟨fun _=>⟨by rw [List.append_nil];exact h,fun r hr=>by cases hr⟩,fun _=>rfl⟩,fun _=>rfl⟩
 | r::q,ahead,h=>by
  unfold zcw;by_cases h1:ahead.any (fun x=>decide (x.name=r.name))=true
  · rw [if_pos h1];refine ⟨⟨fun e=>(by cases e),fun ⟨e,_⟩=>?_⟩,fun e=>(by cases e)⟩;obtain ⟨x,hx,hn⟩:=List.any_eq_true.1 h1;have hn:=of_decide_eq_true hn;rw [List.map_append,List.nodup_append] at e;exact absurd hn (e.2.2 x.name (List.mem_map_of_mem hx) r.name (List.mem_map_of_mem List.mem_cons_self))
  · rw [if_neg h1];by_cases h2:16<r.ops.length
    · rw [if_pos h2];refine ⟨⟨fun e=>(by cases e),fun ⟨_,e⟩=>?_⟩,fun e=>(by cases e)⟩;have:=e r List.mem_cons_self;omega
    · rw [if_neg h2];have hnd:((ahead ++ [r]).map (·.name)).Nodup:=by
       rw [List.map_append,List.nodup_append];refine ⟨h,by simp,fun a ha b hb=>?_⟩;obtain ⟨x,hx,rfl⟩:=List.mem_map.1 ha;simp only [List.map_cons,List.map_nil,List.mem_singleton] at hb;subst hb;intro e;exact h1 (List.any_eq_true.2 ⟨x,hx,decide_eq_true e⟩)
      obtain ⟨ih,ih2⟩:=zhm t q (ahead ++ [r]) hnd;rw [List.append_assoc,List.singleton_append] at ih;refine ⟨ih.trans ⟨fun ⟨a,b⟩=>⟨a,fun x hx=>?_⟩,fun ⟨a,b⟩=>⟨a,fun x hx=>b x (List.mem_cons_of_mem _ hx)⟩⟩,ih2⟩;rcases List.mem_cons.1 hx with rfl | hx
      · omega
      · exact b x hx
theorem zj7:∀(q ahead:List TypI),(ahead.map (·.name)).Nodup →
 ((zbw ahead q).1=0↔((ahead ++ q).map (·.name)).Nodup∧∀t ∈ q,RightR t)∧((zbw ahead q).1=0→zbw ahead q=(0,⟨#[]⟩))
 | [],ahead,h=>⟨⟨fun _=>⟨by rw [List.append_nil];exact h,fun r hr=>by cases hr⟩,fun _=>rfl⟩,fun _=>rfl⟩
 | t::q,ahead,h=>by
  unfold zbw;by_cases h1:ahead.any (fun x=>decide (x.name=t.name))=true
  · rw [if_pos h1];refine ⟨⟨fun e=>(by cases e),fun ⟨e,_⟩=>?_⟩,fun e=>(by cases e)⟩;obtain ⟨x,hx,hn⟩:=List.any_eq_true.1 h1;have hn:=of_decide_eq_true hn;rw [List.map_append,List.nodup_append] at e;exact absurd hn (e.2.2 x.name (List.mem_map_of_mem hx) t.name (List.mem_map_of_mem List.mem_cons_self))
  · rw [if_neg h1];by_cases h2:12<t.rels.length
    · rw [if_pos h2];refine ⟨⟨fun e=>(by cases e),fun ⟨_,e⟩=>?_⟩,fun e=>(by cases e)⟩;have:=(e t List.mem_cons_self).few;omega
    · rw [if_neg h2];obtain ⟨hr,hr2⟩:=zhm t t.rels [] (by simp);rw [List.nil_append] at hr;by_cases h3:(zcw t [] t.rels).1=0
      · rw [if_neg (by simpa using h3)];have hnd:((ahead ++ [t]).map (·.name)).Nodup:=by
         rw [List.map_append,List.nodup_append];refine ⟨h,by simp,fun a ha b hb=>?_⟩;obtain ⟨x,hx,rfl⟩:=List.mem_map.1 ha;simp only [List.map_cons,List.map_nil,List.mem_singleton] at hb;subst hb;intro e;exact h1 (List.any_eq_true.2 ⟨x,hx,decide_eq_true e⟩)
        obtain ⟨ih,ih2⟩:=zj7 q (ahead ++ [t]) hnd;rw [List.append_assoc,List.singleton_append] at ih;refine ⟨ih.trans ⟨fun ⟨a,b⟩=>⟨a,fun x hx=>?_⟩,fun ⟨a,b⟩=>⟨a,fun x hx=>b x (List.mem_cons_of_mem _ hx)⟩⟩,ih2⟩;rcases List.mem_cons.1 hx with rfl | hx
        · exact ⟨by omega,(hr.1 h3).1,(hr.1 h3).2⟩
        · exact b x hx
      · rw [if_pos h3];refine ⟨⟨fun e=>absurd e h3,fun ⟨_,e⟩=>?_⟩,fun e=>absurd e h3⟩;have k:=e t List.mem_cons_self;exact hr.2 ⟨k.names,k.ops⟩
theorem zgA (l:List TypI) (t:TypI):∀q:List RelI,((za4 l t q).1=0↔∀r ∈ q,zbQ l t r=0)∧((za4 l t q).1=0→za4 l t q=(0,⟨#[]⟩))
 | []=>⟨⟨fun _ r hr=>(by cases hr),fun _=>rfl⟩,fun _=>rfl⟩
 | r::q=>by
  obtain ⟨ih,ih2⟩:=zgA l t q;unfold za4;by_cases h:zbQ l t r=0
  · rw [if_neg (by simpa using h)];refine ⟨ih.trans ⟨fun a x hx=>?_,fun a x hx=>a x (List.mem_cons_of_mem _ hx)⟩,ih2⟩;rcases List.mem_cons.1 hx with rfl | hx
    · exact h
    · exact a x hx
  · rw [if_pos h];exact ⟨⟨fun e=>absurd e h,fun a=>absurd (a r List.mem_cons_self) h⟩,fun e=>absurd e h⟩
theorem zhZ (l:List TypI):∀q:List TypI,((zbj l q).1=0↔∀t ∈ q,∀r ∈ t.rels,zbQ l t r=0)∧((zbj l q).1=0→zbj l q=(0,⟨#[]⟩))
 | []=>⟨⟨fun _ r hr=>(by cases hr),fun _=>rfl⟩,fun _=>rfl⟩
 | t::q=>by
  obtain ⟨ih,ih2⟩:=zhZ l q;obtain ⟨hr,hr2⟩:=zgA l t t.rels;unfold zbj;by_cases h:(za4 l t t.rels).1=0
  · rw [if_neg (by simpa using h)];refine ⟨ih.trans ⟨fun a x hx=>?_,fun a x hx=>a x (List.mem_cons_of_mem _ hx)⟩,ih2⟩;rcases List.mem_cons.1 hx with rfl | hx
    · exact hr.1 h
    · exact a x hx
  · rw [if_pos h];exact ⟨⟨fun e=>absurd e h,fun a=>hr.2 (a t List.mem_cons_self)⟩,fun e=>absurd e h⟩
theorem zdo (l:List TypI):((zbb l).1=0↔Right l)∧((zbb l).1=0→zbb l=(0,⟨#[]⟩)):=by
 obtain ⟨h1,h2⟩:=zj7 l [] (by simp);obtain ⟨n1,n2⟩:=zhZ l l;rw [List.nil_append] at h1;unfold zbb;by_cases h8:8<l.length
 · rw [if_pos h8];refine ⟨⟨fun e=>(by cases e),fun e=>?_⟩,fun e=>(by cases e)⟩;have:=e.few;omega
 · rw [if_neg h8];by_cases ht:(zbw [] l).1=0
   · rw [if_neg (by simpa using ht)];refine ⟨n1.trans ⟨fun a=>⟨by omega,(h1.1 ht).1,(h1.1 ht).2,a⟩,fun e=>e.named⟩,n2⟩
   · rw [if_pos ht];exact ⟨⟨fun e=>absurd e ht,fun e=>h1.2 ⟨e.names,e.rels⟩⟩,fun e=>absurd e ht⟩
theorem zeM {α:Type} (f:α→ByteArray):∀(l:List α) (x:α),(l.map f).Nodup→x ∈ l→l.find? (fun y=>decide (f y=f x))=some x
 | y::q,x,h,hx=>by
  rw [List.map_cons,List.nodup_cons] at h;rcases List.mem_cons.1 hx with rfl | hx
  · simp
  · have hne:f y≠f x:=fun e=>h.1 (e ▸ List.mem_map_of_mem hx);rw [List.find?_cons_of_neg (by simpa using hne)];exact zeM f q x h.2 hx
theorem Right.type {l:List TypI} (h:Right l) {t:TypI} (ht:t ∈ l):zeh l t.name=some t:=zeM (fun t:TypI=>t.name) l t h.names ht
theorem RightR.rel {t:TypI} (h:RightR t) {r:RelI} (hr:r ∈ t.rels):zcm t r.name=some r:=zeM (fun r:RelI=>r.name) t.rels r h.names hr
theorem Right.find {l:List TypI} (h:Right l) {t:TypI} (ht:t ∈ l) (n:ByteArray):zkm l t.name n=zcm t n:=by
 unfold zkm;rw [h.type ht];rfl
theorem zj3 (l:List TypI):∀(q ahead:List (ByteArray × ByteArray)),ahead.Nodup→(zcg l ahead q=0↔(∀x ∈ q,zdD l x=true)∧(ahead ++ q).Nodup)
 | [],ahead,h=>⟨fun _=>⟨fun x hx=>(by cases hx),by rw [List.append_nil];exact h⟩,fun _=>rfl⟩
 | x::q,ahead,h=>by
  unfold zcg;by_cases h1:zdD l x=false
  · rw [if_pos h1];refine ⟨fun e=>(by cases e),fun ⟨a,_⟩=>?_⟩;have:=a x List.mem_cons_self;rw [h1] at this;cases this
  · rw [if_neg h1];have h1:zdD l x=true:=by simpa using h1
    by_cases h2:ahead.any (fun y=>decide (y=x))=true
    · rw [if_pos h2];refine ⟨fun e=>(by cases e),fun ⟨_,a⟩=>?_⟩;obtain ⟨y,hy,e⟩:=List.any_eq_true.1 h2;have e:=of_decide_eq_true e;rw [List.nodup_append] at a;exact absurd e (a.2.2 y hy x List.mem_cons_self)
    · rw [if_neg h2];have hnd:(ahead ++ [x]).Nodup:=by
       rw [List.nodup_append];refine ⟨h,by simp,fun a ha b hb e=>?_⟩;rw [List.mem_singleton.1 hb] at e;exact h2 (List.any_eq_true.2 ⟨a,ha,decide_eq_true e⟩)
      have ih:=zj3 l q (ahead ++ [x]) hnd;rw [List.append_assoc,List.singleton_append] at ih;refine ih.trans ⟨fun ⟨a,b⟩=>⟨fun y hy=>?_,b⟩,fun ⟨a,b⟩=>⟨fun y hy=>a y (List.mem_cons_of_mem _ hy),b⟩⟩;rcases List.mem_cons.1 hy with rfl | hy
      · exact h1
      · exact a y hy
structure RightN (l:List TypI) (t:TypI) (r:RelI):Prop where
 view:zcb t r.view=true
 edit:zcb t r.edit=true
 check:zcb t r.check=true
 subs:∀x ∈ r.subs,zdD l x=true
 twice:r.subs.Nodup
 ops:∀o ∈ r.ops,zdg l t o=true
theorem zhX (l:List TypI) (t:TypI) (r:RelI):zbQ l t r=0↔RightN l t r:=by
 have hs:=zj3 l r.subs [] (by simp);rw [List.nil_append] at hs;unfold zbQ;by_cases h1:(zcb t r.view && (zcb t r.edit && zcb t r.check))=false
 · rw [if_pos h1];refine ⟨fun e=>(by cases e),fun e=>?_⟩;rw [e.view,e.edit,e.check] at h1;cases h1
 · rw [if_neg h1];have h1:zcb t r.view=true∧zcb t r.edit=true∧zcb t r.check=true:=by simpa using h1
   by_cases h2:zcg l [] r.subs=0
   · rw [if_neg (by simpa using h2)];by_cases h3:r.ops.all (zdg l t)=false
     · rw [if_pos h3];refine ⟨fun e=>(by cases e),fun e=>?_⟩;rw [List.all_eq_true.2 e.ops] at h3;cases h3
     · rw [if_neg h3];have h3:r.ops.all (zdg l t)=true:=by simpa using h3
       exact ⟨fun _=>⟨h1.1,h1.2.1,h1.2.2,(hs.1 h2).1,(hs.1 h2).2,List.all_eq_true.1 h3⟩,fun _=>rfl⟩
   · rw [if_pos h2];exact ⟨fun e=>absurd e h2,fun e=>hs.2 ⟨e.subs,e.twice⟩⟩
theorem Right.all {l:List TypI} (h:Right l) {t:TypI} (ht:t ∈ l) {r:RelI} (hr:r ∈ t.rels):RightN l t r:=(zhX l t r).1 (h.named t ht r hr)
theorem Right.told {l:List TypI} (h:Right l) {t:TypI} (ht:t ∈ l) {r:RelI} (hr:r ∈ t.rels) :
 hasI l t.name r.view=true∧hasI l t.name r.edit=true∧hasI l t.name r.check=true∧zkm l t.name r.name=some r∧r.ops.length≤16∧t.rels.length≤12 ∧
 (∀s ∈ r.subs,s.2≠⟨#[]⟩→hasI l s.1 s.2=true)∧(∀o ∈ r.ops,(o.1=2∨o.1=3)→hasI l t.name o.2.1=true):=by
 have k:=h.all ht hr;have hf:=fun n=>h.find ht n;refine ⟨by unfold hasI;rw [hf];exact k.view,by unfold hasI;rw [hf];exact k.edit,by unfold hasI;rw [hf];exact k.check,by rw [hf];exact (h.rels t ht).rel hr,(h.rels t ht).ops r hr,(h.rels t ht).few,fun s hs hne=>?_,fun o ho hk=>?_⟩
 · have:=k.subs s hs;unfold zdD at this;rw [Bool.and_eq_true,Bool.or_eq_true] at this;exact this.2.resolve_left (by simpa using hne)
 · have:=k.ops o ho;unfold zdg at this;unfold hasI;rw [hf];rcases hk with hk | hk
   · rw [if_pos hk] at this;exact this
   · rw [if_neg (by omega),if_pos hk] at this;cases e:zcm t o.2.1 with
     | none=>rw [e] at this;cases this
     | some x=>rfl
theorem zkn {α:Type} {p:α→Bool} {l:List α} {x:α} (h:l.find? p=some x):x ∈ l∧p x=true:=⟨List.mem_of_find?_eq_some h,List.find?_some h⟩
theorem zf8 (t:TypI):∀(q ahead:List TypI),((ahead ++ q).map (·.name)).Nodup→(∀x ∈ q,RightR x)→(∃x ∈ ahead ++ q,x.name=t.name)→zbw ahead (q ++ [t])=(32,t.name)
 | [],ahead,_,_,hx=>by
  rw [List.append_nil] at hx;show zbw ahead (t::[])=_;unfold zbw;obtain ⟨x,hx,e⟩:=hx;rw [if_pos (List.any_eq_true.2 ⟨x,hx,decide_eq_true e⟩)]
 | y::q,ahead,h,hr,hx=>by
  show zbw ahead (y::(q ++ [t]))=_;unfold zbw;have h1:¬ahead.any (fun x=>decide (x.name=y.name))=true:=fun e=>by
   obtain ⟨x,hx,hn⟩:=List.any_eq_true.1 e;have hn:=of_decide_eq_true hn;rw [List.map_append,List.nodup_append] at h;exact absurd hn (h.2.2 x.name (List.mem_map_of_mem hx) y.name (List.mem_map_of_mem List.mem_cons_self))
  have k:=hr y List.mem_cons_self;have h2:=k.few;have h3:(zcw y [] y.rels).1=0:=((zhm y y.rels [] (by simp)).1).2 ⟨by rw [List.nil_append];exact k.names,k.ops⟩;rw [if_neg h1,if_neg (by omega),if_neg (by simpa using h3)];exact zf8 t q (ahead ++ [y]) (by rw [List.append_assoc];exact h) (fun x hx=>hr x (List.mem_cons_of_mem _ hx)) (by rw [List.append_assoc];exact hx)
theorem Right.twice {l:List TypI} (h:Right l) {t:TypI} (ht:t ∈ l):zbb (l ++ [t])=if 8<l.length + 1 then (13,⟨#[]⟩) else (32,t.name):=by
 unfold zbb;rw [List.length_append,List.length_singleton];by_cases h8:8<l.length + 1
 · rw [if_pos h8,if_pos h8]
 · rw [if_neg h8,if_neg h8];have e:=zf8 t l [] (by rw [List.nil_append];exact h.names) h.rels ⟨t,by rw [List.nil_append];exact ht,rfl⟩;rw [e,if_pos (show (32:Nat)≠0 by decide)]
def ExtT (t u:TypI):Prop:=∀n r,zcm t n=some r→zcm u n=some r
def ExtL (l m:List TypI):Prop:=∀n t,zeh l n=some t→∃u,zeh m n=some u∧ExtT t u
theorem ExtT.refl (t:TypI):ExtT t t:=fun _ _ h=>h
theorem ExtT.has {t u:TypI} (h:ExtT t u) {n:ByteArray} (e:zcb t n=true):zcb u n=true:=by
 unfold zcb at *
 cases k:zcm t n with
 | none=>rw [k] at e;cases e
 | some r=>rw [h n r k];rfl
theorem ExtL.has {l m:List TypI} (h:ExtL l m) {n:ByteArray} (e:hasT l n=true):hasT m n=true:=by
 unfold hasT at *
 cases k:zeh l n with
 | none=>rw [k] at e;cases e
 | some t =>
  obtain ⟨u,hu,_⟩:=h n t k;rw [hu];rfl
theorem ExtL.hasI {l m:List TypI} (h:ExtL l m) {a b:ByteArray} (e:hasI l a b=true):hasI m a b=true:=by
 unfold Go.Proofs.YtiepddmagfmllaaGreat.hasI zkm at *
 cases k:zeh l a with
 | none=>rw [k] at e;cases e
 | some t =>
  obtain ⟨u,hu,x⟩:=h a t k;rw [k] at e;rw [hu];exact x.has e
theorem ExtL.sub {l m:List TypI} (h:ExtL l m) {x:ByteArray × ByteArray} (e:zdD l x=true):zdD m x=true:=by
 unfold zdD at *
 rw [Bool.and_eq_true,Bool.or_eq_true] at *
 exact ⟨h.has e.1,e.2.imp id h.hasI⟩
theorem ExtL.op {l m:List TypI} (h:ExtL l m) {t u:TypI} (x:ExtT t u) {o:OpI} (e:zdg l t o=true):zdg m u o=true:=by
 unfold zdg at *
 by_cases h2:o.1=2
 · rw [if_pos h2] at *
   exact x.has e
 · rw [if_neg h2] at *
   by_cases h3:o.1=3
   · rw [if_pos h3] at *
     cases k:zcm t o.2.1 with
     | none=>rw [k] at e;cases e
     | some r =>
      rw [k] at e;rw [x _ r k];have e2:zgw l r o.2.2=true:=e;show zgw m r o.2.2=true;unfold zgw at *
      obtain ⟨y,hy,ey⟩:=List.any_eq_true.1 e2;rw [Bool.and_eq_true] at ey;exact List.any_eq_true.2 ⟨y,hy,by rw [Bool.and_eq_true];exact ⟨ey.1,h.hasI ey.2⟩⟩
   · rw [if_neg h3]
theorem ExtL.named {l m:List TypI} (h:ExtL l m) {t u:TypI} (x:ExtT t u) {r:RelI} (k:RightN l t r):RightN m u r :=
 ⟨x.has k.view,x.has k.edit,x.has k.check,fun s hs=>h.sub (k.subs s hs),k.twice,fun o ho=>h.op x (k.ops o ho)⟩
theorem Right.more {l:List TypI} (h:Right l) {n:ByteArray} (hn:∀t ∈ l,t.name≠n) (h8:l.length<8):Right (l ++ [⟨n,[]⟩]):=by
 have hx:ExtL l (l ++ [⟨n,[]⟩]):=fun m t e=>⟨t,by unfold zeh at *;rw [List.find?_append,e];rfl,ExtT.refl t⟩;refine ⟨by rw [List.length_append];show l.length + 1≤8;omega,?_,fun t ht=>?_,fun t ht r hr=>?_⟩
 · rw [List.map_append,List.nodup_append];refine ⟨h.names,by simp,fun a ha b hb e=>?_⟩;obtain ⟨t,ht,rfl⟩:=List.mem_map.1 ha;simp only [List.map_cons,List.map_nil,List.mem_singleton] at hb;exact hn t ht (e.trans hb)
 · rcases List.mem_append.1 ht with ht | ht
   · exact h.rels t ht
   · rw [List.mem_singleton.1 ht];exact ⟨Nat.zero_le _,by simp,fun r hr=>by cases hr⟩
 · rcases List.mem_append.1 ht with ht | ht
   · exact (zhX _ _ _).2 (hx.named (ExtT.refl t) (h.all ht hr))
   · rw [List.mem_singleton.1 ht] at hr;cases hr
abbrev Path:=ByteArray × ByteArray
def zas (ps:List Path) (q:Path):Option Nat:=ps.zipIdx.foldl (fun a p=>if p.1=q then some p.2 else a) none
theorem zd3 (ps:List Path) (p q:Path):zas (ps ++ [p]) q=if p=q then some ps.length else zas ps q:=by
 unfold zas;rw [List.zipIdx_append,List.foldl_append];simp
theorem za3 {ps:List Path} {q:Path} {i:Nat} (h:zas ps q=some i):ps[i]? = some q:=by
 suffices H:∀n (ps:List Path),ps.length=n→∀i,zas ps q=some i→ps[i]? = some q from H _ ps rfl i h
 intro n;induction n with
 | zero=>intro ps hn i h;rw [List.eq_nil_of_length_eq_zero hn] at h;simp [zas] at h
 | succ n ih =>
  intro ps hn i h;rcases List.eq_nil_or_concat ps with rfl | ⟨ps',p,rfl⟩
  · simp at hn
  · rw [List.concat_eq_append] at *
    rw [zd3] at h;by_cases e:p=q
    · rw [if_pos e] at h;cases h;subst e;simp
    · rw [if_neg e] at h;have:=ih ps' (by simpa using hn) i h;have hl:=(List.getElem?_eq_some_iff.1 this).1;rw [List.getElem?_append_left hl];exact this
theorem zgv {ps:List Path} {q:Path} (h:q ∈ ps):∃i,zas ps q=some i:=by
 suffices H:∀n (ps:List Path),ps.length=n→q ∈ ps→∃i,zas ps q=some i from H _ ps rfl h
 intro n;induction n with
 | zero=>intro ps hn h;rw [List.eq_nil_of_length_eq_zero hn] at h;cases h
 | succ n ih =>
  intro ps hn h;rcases List.eq_nil_or_concat ps with rfl | ⟨ps',p,rfl⟩
  · cases h
  · rw [List.concat_eq_append] at *
    rw [zd3];by_cases e:p=q
    · exact ⟨_,if_pos e⟩
    · rw [if_neg e];rcases List.mem_append.1 h with h | h
      · exact ih ps' (by simpa using hn) h
      · exact absurd (List.mem_singleton.1 h).symm e
theorem ziO {ps:List Path} {q:Path} {i:Nat} (hn:ps.Nodup) (h:ps[i]? = some q):zas ps q=some i:=by
 obtain ⟨j,hj⟩:=zgv (List.mem_of_getElem? h);have h2:=za3 hj;rw [hj];congr 1
 have H:=List.pairwise_iff_getElem.1 hn;obtain ⟨k1,k2⟩:=List.getElem?_eq_some_iff.1 h2;obtain ⟨k3,k4⟩:=List.getElem?_eq_some_iff.1 h;rcases Nat.lt_trichotomy j i with hl | hl | hl
 · exact absurd (k2.trans k4.symm) (H j i k1 k3 hl)
 · exact hl
 · exact absurd (k4.trans k2.symm) (H i j k3 k1 hl)
def zaz (l:List TypI):List (TypI × RelI):=l.flatMap fun t=>t.rels.map fun r=>(t,r)
def zap (l:List TypI):List Path:=(zaz l).map fun x=>(x.1.name,x.2.name)
def zcU (l:List Path):List Path:=l.filter fun s=>!decide (s.2=⟨#[]⟩)
def zbe (l:List Path) (n:ByteArray):List Path:=(l.filter fun s=>decide (s.2=⟨#[]⟩)).map fun s=>(s.1,n)
def zbk (ps:List Path) (rs:List RelI) (tn:ByteArray) (subs:List Path) (o:OpI):List Path :=
 if o.1=1 then zcU subs
 else if o.1=2 then [(tn,o.2.1)]
 else if o.1=3 then (match zas ps (tn,o.2.1) with
  | some i=>(match rs[i]? with
   | some x=>zbe x.subs o.2.2
   | none=>[])
  | none=>[])
 else []
def zcz (ps:List Path) (rs:List RelI) (tn:ByteArray) (subs:List Path) (o:OpI):List Nat:=(zbk ps rs tn subs o).filterMap (zas ps)
def zd0 (m:List Int) (i:Nat) (d:Int):List Int:=m.set i (m.getD i 0 + d)
def zb9 (s:List Int × List Nat) (i:Nat) (k:Int):List Int × List Nat :=
 if k=1∨k=2∨k=3 then (s.1,s.2 ++ [i])
 else if k=4∨k=5∨k=6 then
  (if s.2.length<2 then s
   else (if k=6 then zd0 (zd0 s.1 (s.2.getD (s.2.length-1) 0) 1) i (-1) else s.1,s.2.take (s.2.length-1)))
 else s
def zeR (s:List Int × List Nat) (i:Nat):List OpI→List Int × List Nat
 | []=>s
 | o::r=>zeR (zb9 s i o.1) (i + 1) r
theorem zl1 (s:List Int × List Nat) (i:Nat) (l:List OpI) (o:OpI):zeR s i (l ++ [o])=zb9 (zeR s i l) (i + l.length) o.1:=by
 induction l generalizing s i with
 | nil=>rfl
 | cons a t ih=>rw [List.cons_append,zeR,ih,zeR,List.length_cons,Nat.add_right_comm,←Nat.add_assoc]
def zeu (m:List Int):Nat→List Int
 | 0=>m
 | j + 1=>(zeu m j).set (j + 1) ((zeu m j).getD (j + 1) 0 + (zeu m j).getD j 0)
def zg7 (l:List OpI):List Int:=(zeR (List.replicate (l.length + 1) 0,[]) 0 l).1
def zaS (l:List OpI) (i:Nat):Bool:=decide (0<(zeu (zg7 l) l.length).getD i 0)
theorem zcG (m:List Int) (i:Nat) (d:Int):(zd0 m i d).length=m.length:=by unfold zd0;rw [List.length_set]
theorem zl2 (s:List Int × List Nat) (i:Nat) (k:Int):(zb9 s i k).1.length=s.1.length:=by
 unfold zb9;split
 · rfl
 · split
   · split
     · rfl
     · split
       · rw [zcG,zcG]
       · rfl
   · rfl
theorem mrun_len (s:List Int × List Nat) (i:Nat) (l:List OpI):(zeR s i l).1.length=s.1.length:=by
 induction l generalizing s i with
 | nil=>rfl
 | cons a t ih=>rw [zeR,ih,zl2]
theorem zhj (m:List Int) (j:Nat):(zeu m j).length=m.length:=by
 induction j with
 | zero=>rfl
 | succ j ih=>rw [zeu,List.length_set,ih]
theorem mrun_beg (l:List OpI):∀(s:List Int × List Nat) (i:Nat),(zeR s i l).2.length≤s.2.length + l.length:=by
 induction l with
 | nil=>intro s i;exact Nat.le_refl _
 | cons o r ih =>
  intro s i;have h1:=ih (zb9 s i o.1) (i + 1);have h2:(zb9 s i o.1).2.length≤s.2.length + 1:=by
   unfold zb9;split
   · simp
   · split
     · split
       · omega
       · rw [List.length_take];omega
     · omega
  rw [zeR,List.length_cons];omega
theorem mrun_lt (l:List OpI):∀(s:List Int × List Nat) (i:Nat),(∀b ∈ s.2,b<i)→∀b ∈ (zeR s i l).2,b<i + l.length:=by
 induction l with
 | nil=>intro s i h b hb;exact h b hb
 | cons o r ih =>
  intro s i h b hb;have:=ih (zb9 s i o.1) (i + 1) (fun c hc=>by
   unfold zb9 at hc;split at hc
   · rcases List.mem_append.1 hc with q | q
     · have:=h c q;omega
     · rw [List.mem_singleton.1 q];omega
   · split at hc
     · split at hc
       · have:=h c hc;omega
       · have:=h c (List.mem_of_mem_take hc);omega
     · have:=h c hc;omega) b hb
  rw [List.length_cons];omega
def Small (m:List Int) (k:Int):Prop:=∀x ∈ m,-k≤x∧x≤k
theorem zd1 {m:List Int} {k:Int} (h:Small m k) (i:Nat) (d:Int) (hk:0≤k) (hd : -1≤d∧d≤1):Small (zd0 m i d) (k + 1):=by
 intro x hx;unfold zd0 at hx;rcases List.mem_or_eq_of_mem_set hx with hx | rfl
 · have:=h x hx;omega
 · rw [List.getD_eq_getElem?_getD];cases hi:m[i]? with
   | none=>simp;omega
   | some y=>have:=h y (List.mem_of_getElem? hi);simp;omega
theorem ziW {s:List Int × List Nat} {k:Int} (h:Small s.1 k) (i:Nat) (o:Int) (hk:0≤k):Small (zb9 s i o).1 (k + 2):=by
 have up:∀{m:List Int},Small m k→Small m (k + 2):=fun q x hx=>by have:=q x hx;omega
 unfold zb9;split
 · exact up h
 · split
   · split
     · exact up h
     · split
       · have:=zd1 (zd1 h (s.2.getD (s.2.length-1) 0) 1 hk (by omega)) i (-1) (by omega) (by omega);rw [Int.add_assoc] at this;exact this
       · exact up h
   · exact up h
theorem zgy (l:List OpI):∀(s:List Int × List Nat) (i:Nat) (k:Int),0≤k→Small s.1 k→Small (zeR s i l).1 (k + 2 * l.length):=by
 induction l with
 | nil=>intro s i k _ h;simpa [zeR] using h
 | cons o r ih =>
  intro s i k hk h;have:=ih (zb9 s i o.1) (i + 1) (k + 2) (by omega) (ziW h i o.1 hk);rw [List.length_cons];intro x hx;have:=this x hx;omega
theorem zkH {m:List Int} {k:Int} (h:Small m k) (hk:0≤k) (j:Nat):Small (zeu m j) (k * (j + 1))∧(∀i,j<i→(zeu m j).getD i 0=m.getD i 0):=by
 induction j with
 | zero=>exact ⟨by simpa [zeu] using h,fun _ _=>rfl⟩
 | succ j ih =>
  obtain ⟨h1,h2⟩:=ih;have g:∀(m':List Int) (b:Int),0≤b→Small m' b→∀i,-b≤m'.getD i 0∧m'.getD i 0≤b:=fun m' b hb hs i=>by
   rw [List.getD_eq_getElem?_getD];cases hi:m'[i]? with
   | none=>simp;omega
   | some y=>have:=hs y (List.mem_of_getElem? hi);simpa using this
  have hkj:0≤k * (j:Int):=Int.mul_nonneg hk (by omega);have e1:k * ((j:Int) + 1)=k * j + k:=by rw [Int.mul_add,Int.mul_one]
  have e2:k * (((j + 1:Nat):Int) + 1)=k * j + k + k:=by rw [Int.natCast_add,Int.mul_add,Int.mul_add];simp
  refine ⟨fun x hx=>?_,fun i hi=>?_⟩
  · rw [zeu] at hx;rw [e2];rcases List.mem_or_eq_of_mem_set hx with hx | rfl
    · have:=h1 x hx;rw [e1] at this;omega
    · rw [h2 (j + 1) (by omega)];have a1:=g m k hk h (j + 1);have a2:=g _ _ (by rw [e1];omega) h1 j;rw [e1] at a2;omega
  · rw [zeu,List.getD_eq_getElem?_getD,List.getElem?_set_ne (by omega),←List.getD_eq_getElem?_getD];exact h2 i (by omega)
def opsE (ps:List Path) (rs:List RelI) (tn:ByteArray) (r:RelI) (from_:Nat) (i:Nat) (o:OpI):List Ed:=(zcz ps rs tn r.subs o).map fun to'=>((from_:Int),((to':Nat):Int),zaS r.ops i)
def relE (ps:List Path) (rs:List RelI) (tn:ByteArray) (r:RelI) (from_:Nat):List Ed:=(r.ops.zipIdx).flatMap fun x=>opsE ps rs tn r from_ x.2 x.1
def zaN (l:List TypI):List Ed:=((zaz l).zipIdx).flatMap fun x=>relE (zap l) ((zaz l).map (·.2)) x.1.1.name x.1.2 x.2
end Go.Proofs.YtiepddmagfmllaaGreat
namespace Go.Proofs.YtiepddmagfmllaaGreat
open Go.ChangeShapes Go.WideShapes Go.ChangeAt Go.RowKit
theorem own_:ownKnob Tryz.prog.godebug=none:=by kernel_rfl
section
variable {H:Type} {enc:TypeId × Value→H} {P:Program} {W:World} {base:Nat} {spare:Nat→Bool} {held:Bool}
end
theorem wf_i64 {z:Int} (h:(Lit.int .i64 z).wf=true) : -9223372036854775808≤z∧z≤9223372036854775807:=by
 simpa [Lit.wf,IntKind.min,IntKind.max,IntKind.signed,IntKind.bits] using h
end Go.Proofs.YtiepddmagfmllaaGreat
namespace Go.Proofs.YtiepddmagfmllaaGreat
open Go.ChangeShapes Go.WideShapes Go.ChangeAt Go.RowKit
theorem zfI {α:Type} {sz:Nat}:∀{E:List (List α)},(∀l ∈ E,l.length=sz)→∀{i r:Nat} {l:List α},E[i]? = some l→r<sz→E.flatten[i * sz + r]? = l[r]?
 | [],_,i,r,l,h,_=>by simp at h
 | c::E,hE,i,r,l,h,hr=>by
  have hc:=hE c (List.mem_cons_self ..);rw [List.flatten_cons];cases i with
  | zero =>
   simp at h;subst h;rw [Nat.zero_mul,Nat.zero_add,List.getElem?_append_left (by rw [hc];exact hr)]
  | succ i =>
   rw [List.getElem?_append_right (by rw [hc,Nat.succ_mul];omega),hc,show (i + 1) * sz + r-sz=i * sz + r from by rw [Nat.succ_mul];omega];exact zfI (fun d hd=>hE d (List.mem_cons_of_mem _ hd)) (by simpa using h) hr
section
variable {H:Type} {enc:TypeId × Value→H} {P:Program} {W:World} {base:Nat} {spare:Nat→Bool} {held:Bool}
end
end Go.Proofs.YtiepddmagfmllaaGreat
namespace Go.Proofs.YtiepddmagfmllaaGreat
open Go.ChangeShapes Go.WideShapes Go.ChangeAt Go.RowKit
section
variable {H:Type} {enc:TypeId × Value→H} {P:Program} {W:World} {base:Nat} {spare:Nat→Bool} {held:Bool}
def ziu (s:ByteArray × ByteArray):List Value:=[.string s.1,.string s.2]
def aOp (o:OpI):List Value:=[.int .i64 o.1,.string o.2.1,.string o.2.2]
end
structure RelA where
 name:ByteArray
 view:ByteArray
 edit:ByteArray
 check:ByteArray
 As:Option Addr
 cs:Nat
 subs:List (ByteArray × ByteArray)
 Ao:Option Addr
 co:Nat
 ops:List OpI
def RelA.cells (a:RelA):List Value:=[.string a.name,.string a.view,.string a.edit,.string a.check,.slice a.As a.subs.length a.cs,.slice a.Ao a.ops.length a.co]
def RelA.says (a:RelA):RelI:=⟨a.name,a.view,a.edit,a.check,a.subs,a.ops⟩
structure RelA.ok (W:World) (R:Nat) (a:RelA):Prop where
 name:a.name.size≤R
 view:a.view.size≤R
 edit:a.edit.size≤R
 check:a.check.size≤R
 subs:Rd W W.heap.size 2 a.As a.subs.length a.cs (a.subs.flatMap ziu)
 subn:a.subs.length * 32≤R
 subz:∀s ∈ a.subs,s.1.size≤R∧s.2.size≤R
 ops:Rd W W.heap.size 3 a.Ao a.ops.length a.co (a.ops.flatMap aOp)
 opn:a.ops.length * 40≤R
 opz:∀o ∈ a.ops,(Lit.int .i64 o.1).wf=true∧o.2.1.size≤R∧o.2.2.size≤R
structure TypA where
 name:ByteArray
 A:Option Addr
 c:Nat
 rels:List RelA
def TypA.cells (a:TypA):List Value:=[.string a.name,.slice a.A a.rels.length a.c]
def TypA.says (a:TypA):TypI:=⟨a.name,a.rels.map RelA.says⟩
structure TypA.ok (W:World) (R:Nat) (a:TypA):Prop where
 name:a.name.size≤R
 rels:Rd W W.heap.size 6 a.A a.rels.length a.c (a.rels.flatMap RelA.cells)
 reln:a.rels.length * 112≤R
 relz:∀r ∈ a.rels,r.ok W R
section
variable {H:Type} {enc:TypeId × Value→H} {W:World} {base:Nat} {spare:Nat→Bool} {held:Bool}
end
end Go.Proofs.YtiepddmagfmllaaGreat
