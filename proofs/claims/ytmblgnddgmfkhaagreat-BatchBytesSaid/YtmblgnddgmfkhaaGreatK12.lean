import Derived.Test.YtmblgnddgmfkhaaGreatK05
set_option maxRecDepth 100000
set_option maxHeartbeats 4000000
namespace Go.Proofs.YtmblgnddgmfkhaaGreat
variable {l r:List Tk}
inductive Ex where
 | this:Ex
 | same (n:ByteArray):Ex
 | via (n m:ByteArray):Ex
 | bin (k:Nat) (a b:Ex):Ex
def opK (k:Nat):OpP:=(k,⟨#[]⟩,⟨#[]⟩)
def Ex.ops:Ex→List OpP
 | .this=>[(1,⟨#[]⟩,⟨#[]⟩)]
 | .same n=>[(2,n,⟨#[]⟩)]
 | .via n m=>[(3,n,m)]
 | .bin k a b=>a.ops ++ b.ops ++ [opK k]
def Ex.sg:Ex→Bool
 | .bin _ _ _=>true
 | _=>false
def sgnS (k:Nat):ByteArray:=if k=4 then ⟨#[32,124,32]⟩ else if k=5 then ⟨#[32,38,32]⟩ else ⟨#[32,45,32]⟩
def Ex.good:Ex→Prop
 | .bin k a b=>(k=4∨k=5∨k=6)∧a.good∧b.good
 | _=>True
abbrev Gp:=List ByteArray × Bool
def zcb:List ByteArray→ByteArray
 | []=>⟨#[]⟩
 | x::r=>x ++ zcb r
theorem zgJ:∀a b:List ByteArray,zcb (a ++ b)=zcb a ++ zcb b
 | [],b=>(nil_app' _).symm
 | x::r,b=>by
  show x ++ zcb (r ++ b)=x ++ zcb r ++ zcb b;rw [zgJ r b,zg4]
def zax (gs:List Gp):List ByteArray:=gs.flatMap fun x=>⟨#[]⟩::x.1
def zoU (x:ByteArray) (gs:List Gp):List Gp:=gs ++ [([x],false)]
def zgs (c:ByteArray) (a b:Gp):Gp:=(a.1 ++ (if b.2=true then c ++ ⟨#[40]⟩ else c)::b.1 ++ (if b.2=true then [⟨#[41]⟩] else []),true)
def zmc (c:ByteArray):List Gp→List Gp
 | []=>[]
 | [a]=>[a]
 | [a,b]=>[zgs c a b]
 | a::b::d::r=>a::zmc c (b::d::r)
theorem zhq (c:ByteArray) (a b:Gp):∀l:List Gp,zmc c (l ++ [a,b])=l ++ [zgs c a b]
 | []=>rfl
 | [x]=>rfl
 | x::y::l=>by
  have h:=zhq c a b (y::l);cases l with
  | nil=>rfl
  | cons z l=>show x::zmc c (y::z::(l ++ [a,b]))=_;rw [show y::z::(l ++ [a,b])=y::z::l ++ [a,b] from rfl,h];rfl
def zr2 (o:OpP):ByteArray:=if o.1=1 then zis else if o.1=2 then o.2.1 else o.2.1 ++ ⟨#[46]⟩ ++ o.2.2
def zfJ (gs:List Gp) (o:OpP):List Gp :=
 if o.1=1∨o.1=2∨o.1=3 then zoU (zr2 o) gs else if o.1=4∨o.1=5∨o.1=6 then zmc (sgnS o.1) gs else gs
def zdO (gs:List Gp) (l:List OpP):List Gp:=l.foldl zfJ gs
def rewS (l:List OpP):ByteArray:=zcb (zax (zdO [] l))
def NmW (n:ByteArray):Prop:=nameS n=true∧keyB n=false
def Ex.nm:Ex→Prop
 | .this=>True
 | .same n=>NmW n
 | .via n m=>NmW n∧NmW m
 | .bin _ a b=>a.nm∧b.nm
def Ex.deep:Ex→Nat
 | .bin _ a b=>max a.deep (if b.sg=true then b.deep + 1 else 0)
 | _=>0
def Ex.pd (t:Ex):Nat:=if t.sg=true then t.deep + 1 else 0
theorem Ex.deep_le_pd (t:Ex):t.deep≤t.pd:=by
 cases t with
 | bin k a b=>exact ybd _
 | _=>exact yao _
def WdN (l:List Tk):Prop:=∀t ∈ l,t.1=1→nameS t.2.1=true
theorem WdN.tail (h:WdN l):WdN l.tail:=fun t b=>h t (List.mem_of_mem_tail b)
theorem WdN.name {n:ByteArray} (h:WdN l) (e:zaY l = .ok (n,r)):NmW n∧WdN r:=by
 unfold zaY at e;split at e
 · rename_i b
   cases e;refine ⟨⟨?_,b.2⟩,h.tail⟩;cases l with
   | nil=>exact absurd b.1 (by show ¬(3=1);decide)
   | cons a t=>exact h a yar b.1
 · cases e
theorem WdN.need {s:ByteArray} {u:Unit} (h:WdN l) (e:zaQ s l = .ok (u,r)):WdN r:=by
 unfold zaQ at e;split at e
 · cases e;exact h.tail
 · cases e
def zpw (d:Nat) (o:List OpP):Prop:=∃t:Ex,o=t.ops∧t.good∧t.nm∧t.deep + d≤8
def PartO (d:Nat) (o:List OpP):Prop:=∃t:Ex,o=t.ops∧t.good∧t.nm∧t.pd + d≤8
theorem PartO.tree {d:Nat} {o:List OpP} (h:PartO d o):zpw d o:=by
 obtain ⟨t,b,f,g,j⟩:=h;exact ⟨t,b,f,g,by have:=t.deep_le_pd;omega⟩
theorem opT_kind (h:¬opT l=0):opT l=4∨opT l=5∨opT l=6:=by
 unfold opT at h ⊢;split
 · exact .inl rfl
 · split
   · exact .inr (.inl rfl)
   · split
     · exact .inr (.inr rfl)
     · rename_i b f g
       rw [yak b,yak f,yak g] at h;exact absurd rfl h
theorem zgh:∀f:Nat,(∀d l o r,d≤8→WdN l→partF f d l = .ok (o,r)→PartO d o∧WdN r)∧(∀d acc l o r,d≤8→WdN l→zpw d acc→moreF f d acc l = .ok (o,r)→zpw d o∧WdN r)
 | 0=>⟨fun d l o r _ _ h=>(by unfold partF at h;cases h),fun d acc l o r _ _ _ h=>(by unfold moreF at h;cases h)⟩
 | f + 1=>by
  obtain ⟨j,k⟩:=zgh f;constructor
  · intro d l o r q b h;unfold partF at h;split at h
    · cases h;exact ⟨⟨.this,rfl,trivial,trivial,by show 0 + d≤8;omega⟩,b.tail⟩
    · split at h
      · split at h
        · cases h
        · obtain ⟨a,m,n,h⟩:=zaf h;obtain ⟨s,g⟩:=j _ _ _ _ yab b.tail n;obtain ⟨B,G,u,h⟩:=zaf h;obtain ⟨H,x⟩:=k _ _ _ _ _ yab g s.tree u;obtain ⟨a3,Q,I,h⟩:=zaf h;have J:=x.need I;cases h;obtain ⟨t,y,z,A,K⟩:=H;refine ⟨⟨t,y,z,A,?_⟩,J⟩;unfold Ex.pd;split <;> omega
      · obtain ⟨a,m,n,h⟩:=zaf h;obtain ⟨C,g⟩:=b.name n;split at h
        · obtain ⟨B,G,u,h⟩:=zaf h;obtain ⟨L,x⟩:=g.tail.name u;cases h;exact ⟨⟨.via a B,rfl,trivial,⟨C,L⟩,by show 0 + d≤8;omega⟩,x⟩
        · cases h;exact ⟨⟨.same a,rfl,trivial,C,by show 0 + d≤8;omega⟩,g⟩
  · intro d acc l o r q b D h;unfold moreF at h;split at h
    · cases h;exact ⟨D,b⟩
    · rename_i M
      obtain ⟨a,m,n,h⟩:=zaf h;obtain ⟨s,g⟩:=j _ _ _ _ q b.tail n;refine k _ _ _ _ _ q g ?_ h;obtain ⟨E,y,z,A,K⟩:=D;obtain ⟨F,N,O,P,R⟩:=s;refine ⟨.bin (opT l) E F,?_,⟨opT_kind M,z,O⟩,⟨A,P⟩,?_⟩
      · rw [y,N];rfl
      · show max E.deep F.pd + d≤8;omega
def SubG (s:zdT):Prop:=NmW s.1∧(s.2=⟨#[]⟩∨NmW s.2)
theorem znh:∀(f:Nat) (acc:List zdT) (l:List Tk) (o:List zdT) (r:List Tk),WdN l→(∀s ∈ acc,SubG s)→zlI f acc l = .ok (o,r)→(∀s ∈ o,SubG s)∧WdN r
 | 0,acc,l,o,r,_,_,h=>by unfold zlI at h;cases h
 | f + 1,acc,l,o,r,x,y,h=>by
  unfold zlI at h;obtain ⟨a,m,z,h⟩:=zaf h;obtain ⟨A,q⟩:=x.name z;obtain ⟨j,m2,k,h⟩:=zaf h;have n:(j=⟨#[]⟩∨NmW j)∧WdN m2:=by
   split at k
   · obtain ⟨B,C⟩:=q.tail.name k;exact ⟨.inr B,C⟩
   · cases k;exact ⟨.inl rfl,q⟩
  have b:∀s ∈ acc ++ [(a,j)],SubG s:=fun s g=>by
   rcases yaA.1 g with g | g
   · exact y s g
   · rw [yav.1 g];exact ⟨A,n.1⟩
  by_cases u:isT (sg 44) m2=true
  · rw [yan u] at h;exact znh f _ _ _ _ n.2.tail b h
  · rw [yak u] at h;cases h;exact ⟨b,n.2⟩
structure RelG (x:RelP):Prop where
 name:NmW x.name
 view:NmW x.view
 edit:NmW x.edit
 check:NmW x.check
 subs:∀s ∈ x.subs,SubG s
 ops:zpw 0 x.ops
theorem good_rel {x:RelP} (hw:WdN l) (h:zrx l = .ok (x,r)):RelG x∧WdN r:=by
 unfold zrx at h;obtain ⟨_,_,e,h⟩:=zaf h;obtain ⟨g,hw⟩:=hw.name e;obtain ⟨_,_,e,h⟩:=zaf h;replace hw:=hw.need e;obtain ⟨_,_,e,h⟩:=zaf h;obtain ⟨j,hw⟩:=hw.name e;obtain ⟨_,_,e,h⟩:=zaf h;replace hw:=hw.need e;obtain ⟨_,_,e,h⟩:=zaf h;obtain ⟨k,hw⟩:=hw.name e;obtain ⟨_,_,e,h⟩:=zaf h;replace hw:=hw.need e;obtain ⟨_,_,e,h⟩:=zaf h;obtain ⟨n,hw⟩:=hw.name e;obtain ⟨_,_,e,h⟩:=zaf h;replace hw:=hw.need e;obtain ⟨_,_,e,h⟩:=zaf h;replace hw:=hw.need e;obtain ⟨subs,m,e,h⟩:=zaf h;have b:(∀s ∈ subs,SubG s)∧WdN m:=by
  split at e
  · cases e;exact ⟨fun s b=>(by cases b),hw⟩
  · exact znh _ _ _ _ _ hw (fun s b=>by cases b) e
 obtain ⟨ops,m2,e,h⟩:=zaf h;have f:zpw 0 ops∧WdN m2:=by
  split at e
  · unfold zlF at e;obtain ⟨a,_,o,e⟩:=zaf e;obtain ⟨q,u⟩:=(zgh _).1 _ _ _ _ (yao _) b.2.tail o;exact (zgh _).2 _ _ _ _ _ (yao _) u q.tree e
  · cases e;exact ⟨⟨.this,rfl,trivial,trivial,by decide⟩,b.2⟩
 obtain ⟨_,_,e,h⟩:=zaf h;replace hw:=f.2.need e;cases h;exact ⟨⟨g,j,k,n,b.1,f.1⟩,hw⟩
theorem zp8:∀(n:Nat) (acc:List RelP) (l:List Tk) (o:List RelP) (r:List Tk),l.length≤n→WdN l→(∀x ∈ acc,RelG x)→zmB acc l = .ok (o,r)→(∀x ∈ o,RelG x)∧WdN r:=by
 intro n;induction n with
 | zero =>
  intro acc l o r q j k h;rw [zeI] at h;by_cases b:isT znV l=true
  · have:=zaz zcj b;omega
  · rw [yak b] at h;cases h;exact ⟨k,j⟩
 | succ n ih =>
  intro acc l o r q j k h;rw [zeI] at h;by_cases b:isT znV l=true
  · rw [yan b] at h;have s:=zaz zcj b;obtain ⟨x,m,e,h⟩:=zaf h;obtain ⟨g,w⟩:=good_rel j.tail e;have u:=(zp2 e).2;exact ih _ _ _ _ yab w (fun y f=>by
     rcases yaA.1 f with f | f
     · exact k y f
     · rw [yav.1 f];exact g) h
  · rw [yak b] at h;cases h;exact ⟨k,j⟩
structure TypG (t:TypP):Prop where
 name:NmW t.name
 rels:∀x ∈ t.rels,RelG x
theorem zov:∀(n:Nat) (acc:List TypP) (l:List Tk) (o:List TypP) (r:List Tk),l.length≤n→WdN l→(∀t ∈ acc,TypG t)→zdM acc l = .ok (o,r)→(∀t ∈ o,TypG t):=by
 intro n;induction n with
 | zero =>
  intro acc l o r s b k h;rw [zdn] at h;by_cases f:isT zfa l=true
  · have:=zaz zb5 f;omega
  · rw [yak f] at h;cases h;exact k
 | succ n ih =>
  intro acc l o r s b k h;rw [zdn] at h;by_cases f:isT zfa l=true
  · rw [yan f] at h;have z:=zaz zb5 f;obtain ⟨_,_,e,h⟩:=zaf h;have A:=zas e;obtain ⟨u,b⟩:=b.tail.name e;obtain ⟨_,_,e,h⟩:=zaf h;have B:=zaq (zap _) e;replace b:=b.need e;obtain ⟨C,m,e,h⟩:=zaf h;obtain ⟨g,b⟩:=zp8 _ _ _ _ _ (yaj _) b (fun x q=>by cases q) e;have y:=(znc _ _ _ _ _ _ (yaj _) (yaj _) (fun x q=>by cases q) e).2;simp only [yaE] at y;obtain ⟨_,_,e,h⟩:=zaf h;have D:=zaq (zap _) e;replace b:=b.need e;exact ih _ _ _ _ yab b (fun t j=>by
     rcases yaA.1 j with j | j
     · exact k t j
     · rw [yav.1 j];exact ⟨u,g⟩) h
  · rw [yak f] at h;cases h;exact k
theorem ze7 (s:ByteArray):∀t ∈ (zak s).1,TypG t:=by
 unfold zak;split
 · rename_i f
   have n:WdN (zc2 s).1:=by
    obtain ⟨v,o,u⟩:=zjk (by
     rcases ybM 2048 s.size with h | h
     · unfold zc2 at f;rw [yan h] at f;exact absurd f yac
     · exact h) f
    obtain ⟨m,e,hi⟩:=zlt _ s 0 (yaj _) o;rw [u,e];intro t b j;rcases yaA.1 b with b | b
    · rcases hi t b with ⟨_,k⟩ | ⟨k,_⟩
      · exact k
      · rw [k] at j;cases j
    · rw [yav.1 b] at j;cases j
   rw [zgd];cases x:zdM [] (zc2 s).1 with
   | error e=>exact fun t b=>by cases b
   | ok q =>
    have g:=zov _ _ _ _ _ (yaj _) n (fun t b=>by cases b) (show zdM [] (zc2 s).1 = .ok (q.1,q.2) from x);rw [zcn];split
    · exact g
    · exact fun t b=>by cases b
 · exact fun t b=>by cases b
end Go.Proofs.YtmblgnddgmfkhaaGreat
