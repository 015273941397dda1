import Derived.Test.YtmblgnddgmfkhaaGreatQ04
set_option maxRecDepth 100000
set_option maxHeartbeats 4000000
namespace Go.Proofs.YtmblgnddgmfkhaaGreat
variable {s s':List Bool} {n a y x k:Nat} {l:List Tk} {L r M:List Nat} {g:Nat→List Nat} {z:Int}
inductive Ex where
 | this:Ex
 | same (n:ByteArray):Ex
 | via (n m:ByteArray):Ex
 | bin (k:Nat) (a b:Ex):Ex
def opK (k:Nat):OpP:=(k,⟨#[]⟩,⟨#[]⟩)
def Ex.ops:Ex→List OpP
 | .this=>[(1,⟨#[]⟩,⟨#[]⟩)]
 | .same n=>[(2,n,⟨#[]⟩)]
 | .via n m=>[(3,n,m)]
 | .bin k a b=>a.ops ++ b.ops ++ [opK k]
def Ex.sg:Ex→Bool
 | .bin _ _ _=>true
 | _=>false
def sgnS (k:Nat):ByteArray:=if k=4 then ⟨#[32,124,32]⟩ else if k=5 then ⟨#[32,38,32]⟩ else ⟨#[32,45,32]⟩
def Ex.good:Ex→Prop
 | .bin k a b=>(k=4∨k=5∨k=6)∧a.good∧b.good
 | _=>True
abbrev Gp:=List ByteArray × Bool
def zbW:List ByteArray→ByteArray
 | []=>⟨#[]⟩
 | x::r=>x ++ zbW r
theorem zgd:∀a b:List ByteArray,zbW (a ++ b)=zbW a ++ zbW b
 | [],b=>(nil_app' _).symm
 | x::r,b=>by
  show x ++ zbW (r ++ b)=x ++ zbW r ++ zbW b;rw [zgd r b,zgy]
def zat (gs:List Gp):List ByteArray:=gs.flatMap fun x=>⟨#[]⟩::x.1
def zoa (x:ByteArray) (gs:List Gp):List Gp:=gs ++ [([x],false)]
def zfX (c:ByteArray) (a b:Gp):Gp:=(a.1 ++ (if b.2=true then c ++ ⟨#[40]⟩ else c)::b.1 ++ (if b.2=true then [⟨#[41]⟩] else []),true)
def zly (c:ByteArray):List Gp→List Gp
 | []=>[]
 | [a]=>[a]
 | [a,b]=>[zfX c a b]
 | a::b::d::r=>a::zly c (b::d::r)
theorem zgU (c:ByteArray) (a b:Gp):∀l:List Gp,zly c (l ++ [a,b])=l ++ [zfX c a b]
 | []=>rfl
 | [x]=>rfl
 | x::y::l=>by
  have h:=zgU c a b (y::l);cases l with
  | nil=>rfl
  | cons z l=>show x::zly c (y::z::(l ++ [a,b]))=_;rw [show y::z::(l ++ [a,b])=y::z::l ++ [a,b] from rfl,h];rfl
def zrd (o:OpP):ByteArray:=if o.1=1 then zhO else if o.1=2 then o.2.1 else o.2.1 ++ ⟨#[46]⟩ ++ o.2.2
def zfc (gs:List Gp) (o:OpP):List Gp :=
 if o.1=1∨o.1=2∨o.1=3 then zoa (zrd o) gs else if o.1=4∨o.1=5∨o.1=6 then zly (sgnS o.1) gs else gs
def zdr (gs:List Gp) (l:List OpP):List Gp:=l.foldl zfc gs
def rewS (l:List OpP):ByteArray:=zbW (zat (zdr [] l))
def NmW (n:ByteArray):Prop:=nameS n=true∧keyB n=false
def Ex.nm:Ex→Prop
 | .this=>True
 | .same n=>NmW n
 | .via n m=>NmW n∧NmW m
 | .bin _ a b=>a.nm∧b.nm
def Ex.deep:Ex→Nat
 | .bin _ a b=>max a.deep (if b.sg=true then b.deep + 1 else 0)
 | _=>0
def Ex.pd (t:Ex):Nat:=if t.sg=true then t.deep + 1 else 0
theorem Ex.deep_le_pd (t:Ex):t.deep≤t.pd:=by
 cases t with
 | bin k a b=>exact ya8 _
 | _=>exact yap _
def WdN (l:List Tk):Prop:=∀t ∈ l,t.1=1→nameS t.2.1=true
theorem WdN.tail (h:WdN l):WdN l.tail:=fun t b=>h t (List.mem_of_mem_tail b)
theorem WdN.name {r:List Tk} {n:ByteArray} (h:WdN l) (e:zaT l = .ok (n,r)):NmW n∧WdN r:=by
 unfold zaT at e;split at e
 · rename_i b
   cases e;refine ⟨⟨?_,b.2⟩,h.tail⟩;cases l with
   | nil=>exact absurd b.1 (by show ¬(3=1);decide)
   | cons a t=>exact h a yat b.1
 · cases e
theorem WdN.need {r:List Tk} {s:ByteArray} {u:Unit} (h:WdN l) (e:zaK s l = .ok (u,r)):WdN r:=by
 unfold zaK at e;split at e
 · cases e;exact h.tail
 · cases e
def zoK (d:Nat) (o:List OpP):Prop:=∃t:Ex,o=t.ops∧t.good∧t.nm∧t.deep + d≤8
def PartO (d:Nat) (o:List OpP):Prop:=∃t:Ex,o=t.ops∧t.good∧t.nm∧t.pd + d≤8
theorem PartO.tree {d:Nat} {o:List OpP} (h:PartO d o):zoK d o:=by
 obtain ⟨t,b,f,g,j⟩:=h;exact ⟨t,b,f,g,by have:=t.deep_le_pd;omega⟩
theorem opT_kind (h:¬opT l=0):opT l=4∨opT l=5∨opT l=6:=by
 unfold opT at h ⊢;split
 · exact .inl rfl
 · split
   · exact .inr (.inl rfl)
   · split
     · exact .inr (.inr rfl)
     · rename_i b d f
       rw [yak b,yak d,yak f] at h;exact absurd rfl h
theorem zfN:∀f:Nat,(∀d l o r,d≤8→WdN l→partF f d l = .ok (o,r)→PartO d o∧WdN r)∧(∀d acc l o r,d≤8→WdN l→zoK d acc→moreF f d acc l = .ok (o,r)→zoK d o∧WdN r)
 | 0=>⟨fun d l o r _ _ h=>(by unfold partF at h;cases h),fun d acc l o r _ _ _ h=>(by unfold moreF at h;cases h)⟩
 | f + 1=>by
  obtain ⟨j,k⟩:=zfN f;constructor
  · intro d l o r p b h;unfold partF at h;split at h
    · cases h;exact ⟨⟨.this,rfl,trivial,trivial,by show 0 + d≤8;omega⟩,b.tail⟩
    · split at h
      · split at h
        · cases h
        · obtain ⟨a,m,n,h⟩:=zac h;obtain ⟨q,g⟩:=j _ _ _ _ yab b.tail n;obtain ⟨A,F,s,h⟩:=zac h;obtain ⟨G,u⟩:=k _ _ _ _ _ yab g q.tree s;obtain ⟨a3,P,H,h⟩:=zac h;have I:=u.need H;cases h;obtain ⟨t,x,y,z,J⟩:=G;refine ⟨⟨t,x,y,z,?_⟩,I⟩;unfold Ex.pd;split <;> omega
      · obtain ⟨a,m,n,h⟩:=zac h;obtain ⟨B,g⟩:=b.name n;split at h
        · obtain ⟨A,F,s,h⟩:=zac h;obtain ⟨K,u⟩:=g.tail.name s;cases h;exact ⟨⟨.via a A,rfl,trivial,⟨B,K⟩,by show 0 + d≤8;omega⟩,u⟩
        · cases h;exact ⟨⟨.same a,rfl,trivial,B,by show 0 + d≤8;omega⟩,g⟩
  · intro d acc l o r p b C h;unfold moreF at h;split at h
    · cases h;exact ⟨C,b⟩
    · rename_i L
      obtain ⟨a,m,n,h⟩:=zac h;obtain ⟨q,g⟩:=j _ _ _ _ p b.tail n;refine k _ _ _ _ _ p g ?_ h;obtain ⟨D,x,y,z,J⟩:=C;obtain ⟨E,M,N,O,Q⟩:=q;refine ⟨.bin (opT l) D E,?_,⟨opT_kind L,y,N⟩,⟨z,O⟩,?_⟩
      · rw [x,M];rfl
      · show max D.deep E.pd + d≤8;omega
def SubG (s:zdv):Prop:=NmW s.1∧(s.2=⟨#[]⟩∨NmW s.2)
theorem zmz:∀(f:Nat) (acc:List zdv) (l:List Tk) (o:List zdv) (r:List Tk),WdN l→(∀s ∈ acc,SubG s)→zk5 f acc l = .ok (o,r)→(∀s ∈ o,SubG s)∧WdN r
 | 0,acc,l,o,r,_,_,h=>by unfold zk5 at h;cases h
 | f + 1,acc,l,o,r,q,u,h=>by
  unfold zk5 at h;obtain ⟨a,m,x,h⟩:=zac h;obtain ⟨y,n⟩:=q.name x;obtain ⟨g,m2,j,h⟩:=zac h;have k:(g=⟨#[]⟩∨NmW g)∧WdN m2:=by
   split at j
   · obtain ⟨z,A⟩:=n.tail.name j;exact ⟨.inr z,A⟩
   · cases j;exact ⟨.inl rfl,n⟩
  have b:∀s ∈ acc ++ [(a,g)],SubG s:=fun s d=>by
   rcases yaz.1 d with d | d
   · exact u s d
   · rw [yas.1 d];exact ⟨y,k.1⟩
  by_cases p:isT (sg 44) m2=true
  · rw [yan p] at h;exact zmz f _ _ _ _ k.2.tail b h
  · rw [yak p] at h;cases h;exact ⟨b,k.2⟩
structure RelG (x:RelP):Prop where
 name:NmW x.name
 view:NmW x.view
 edit:NmW x.edit
 check:NmW x.check
 subs:∀s ∈ x.subs,SubG s
 ops:zoK 0 x.ops
theorem good_rel {r:List Tk} {x:RelP} (hw:WdN l) (h:zqJ l = .ok (x,r)):RelG x∧WdN r:=by
 unfold zqJ at h;obtain ⟨_,_,e,h⟩:=zac h;obtain ⟨f,hw⟩:=hw.name e;obtain ⟨_,_,e,h⟩:=zac h;replace hw:=hw.need e;obtain ⟨_,_,e,h⟩:=zac h;obtain ⟨g,hw⟩:=hw.name e;obtain ⟨_,_,e,h⟩:=zac h;replace hw:=hw.need e;obtain ⟨_,_,e,h⟩:=zac h;obtain ⟨j,hw⟩:=hw.name e;obtain ⟨_,_,e,h⟩:=zac h;replace hw:=hw.need e;obtain ⟨_,_,e,h⟩:=zac h;obtain ⟨k,hw⟩:=hw.name e;obtain ⟨_,_,e,h⟩:=zac h;replace hw:=hw.need e;obtain ⟨_,_,e,h⟩:=zac h;replace hw:=hw.need e;obtain ⟨subs,m,e,h⟩:=zac h;have b:(∀s ∈ subs,SubG s)∧WdN m:=by
  split at e
  · cases e;exact ⟨fun s b=>(by cases b),hw⟩
  · exact zmz _ _ _ _ _ hw (fun s b=>by cases b) e
 obtain ⟨ops,m2,e,h⟩:=zac h;have d:zoK 0 ops∧WdN m2:=by
  split at e
  · unfold zk3 at e;obtain ⟨a,_,n,e⟩:=zac e;obtain ⟨o,p⟩:=(zfN _).1 _ _ _ _ (yap _) b.2.tail n;exact (zfN _).2 _ _ _ _ _ (yap _) p o.tree e
  · cases e;exact ⟨⟨.this,rfl,trivial,trivial,by decide⟩,b.2⟩
 obtain ⟨_,_,e,h⟩:=zac h;replace hw:=d.2.need e;cases h;exact ⟨⟨f,g,j,k,b.1,d.1⟩,hw⟩
theorem zpk:∀(n:Nat) (acc:List RelP) (l:List Tk) (o:List RelP) (r:List Tk),l.length≤n→WdN l→(∀x ∈ acc,RelG x)→zlU acc l = .ok (o,r)→(∀x ∈ o,RelG x)∧WdN r:=by
 intro n;induction n with
 | zero =>
  intro acc l o r k f j h;rw [zea] at h;by_cases b:isT zm9 l=true
  · have:=zaw zb3 b;omega
  · rw [yak b] at h;cases h;exact ⟨j,f⟩
 | succ n ih =>
  intro acc l o r k f j h;rw [zea] at h;by_cases b:isT zm9 l=true
  · rw [yan b] at h;have p:=zaw zb3 b;obtain ⟨x,m,e,h⟩:=zac h;obtain ⟨g,w⟩:=good_rel f.tail e;have q:=(zpe e).2;exact ih _ _ _ _ yab w (fun y d=>by
     rcases yaz.1 d with d | d
     · exact j y d
     · rw [yas.1 d];exact g) h
  · rw [yak b] at h;cases h;exact ⟨j,f⟩
structure TypG (t:TypP):Prop where
 name:NmW t.name
 rels:∀x ∈ t.rels,RelG x
theorem znJ:∀(n:Nat) (acc:List TypP) (l:List Tk) (o:List TypP) (r:List Tk),l.length≤n→WdN l→(∀t ∈ acc,TypG t)→zdp acc l = .ok (o,r)→(∀t ∈ o,TypG t):=by
 intro n;induction n with
 | zero =>
  intro acc l o r p b j h;rw [zda] at h;by_cases d:isT zeB l=true
  · have:=zaw zbQ d;omega
  · rw [yak d] at h;cases h;exact j
 | succ n ih =>
  intro acc l o r p b j h;rw [zda] at h;by_cases d:isT zeB l=true
  · rw [yan d] at h;have u:=zaw zbQ d;obtain ⟨_,_,e,h⟩:=zac h;have y:=zaq e;obtain ⟨q,b⟩:=b.tail.name e;obtain ⟨_,_,e,h⟩:=zac h;have z:=zap (zao _) e;replace b:=b.need e;obtain ⟨A,m,e,h⟩:=zac h;obtain ⟨g,b⟩:=zpk _ _ _ _ _ (yaj _) b (fun x k=>by cases k) e;have s:=(zmt _ _ _ _ _ _ (yaj _) (yaj _) (fun x k=>by cases k) e).2;simp only [yaI] at s;obtain ⟨_,_,e,h⟩:=zac h;have B:=zap (zao _) e;replace b:=b.need e;exact ih _ _ _ _ yab b (fun t f=>by
     rcases yaz.1 f with f | f
     · exact j t f
     · rw [yas.1 f];exact ⟨q,g⟩) h
  · rw [yak d] at h;cases h;exact j
theorem zey (s:ByteArray):∀t ∈ (zak s).1,TypG t:=by
 unfold zak;split
 · rename_i d
   have m:WdN (zcN s).1:=by
    obtain ⟨v,n,o⟩:=ziG (by
     rcases ybH 2048 s.size with h | h
     · unfold zcN at d;rw [yan h] at d;exact absurd d yac
     · exact h) d
    obtain ⟨k,e,hi⟩:=zkT _ s 0 (yaj _) n;rw [o,e];intro t b f;rcases yaz.1 b with b | b
    · rcases hi t b with ⟨_,j⟩ | ⟨j,_⟩
      · exact j
      · rw [j] at f;cases f
    · rw [yas.1 b] at f;cases f
   rw [zfI];cases p:zdp [] (zcN s).1 with
   | error e=>exact fun t b=>by cases b
   | ok q =>
    have g:=znJ _ _ _ _ _ (yaj _) m (fun t b=>by cases b) (show zdp [] (zcN s).1 = .ok (q.1,q.2) from p);rw [zb6];split
    · exact g
    · exact fun t b=>by cases b
 · exact fun t b=>by cases b
inductive Walks (g:Nat→List Nat):List Bool→List Nat→List Bool→List Nat→Prop
 | nil (s:List Bool):Walks g s [] s []
 | old {s:List Bool} {a:Nat} {as':List Nat} {s':List Bool} {L:List Nat} (h:s[a]? = some true) (k:Walks g s as' s' L):Walks g s (a::as') s' L
 | new {s:List Bool} {a:Nat} {as':List Nat} {s1 s2:List Bool} {L1 L2:List Nat} (h:s[a]? = some false) (k1:Walks g (s.set a true) (g a) s1 L1) (k2:Walks g s1 as' s2 L2):Walks g s (a::as') s2 (L1 ++ a::L2)
inductive Way (g:Nat→List Nat) (s:List Bool):Nat→Nat→Prop
 | at {x:Nat} (h:s[x]? = some false):Way g s x x
 | on {x y z:Nat} (h:s[x]? = some false) (m:y ∈ g x) (k:Way g s y z):Way g s x z
theorem Way.fst {g s x y} (h:Way g s x y):s[x]? = some false:=by cases h <;> assumption
theorem Way.lst {g s x y} (h:Way g s x y):s[y]? = some false:=by induction h <;> assumption
theorem Way.trans {g s x y z} (h:Way g s x y) (k:Way g s y z):Way g s x z:=by
 induction h with
 | «at» _=>exact k
 | on h m _ ih=>exact .on h m (ih k)
theorem Way.more (hs:∀k:Nat,s'[k]? = some false→s[k]? = some false) (h:Way g s' x y):Way g s x y:=by
 induction h with
 | «at» h=>exact .at (hs _ h)
 | on h m _ ih=>exact .on (hs _ h) m ih
theorem Way.part (h:Way g s x y) (dec:∀k:Nat,s[k]? = some false→s'[k]? = some false∨s'[k]? = some true):Way g s' x y∨∃z,s'[z]? = some true∧Way g s x z∧Way g s z y:=by
 induction h with
 | @«at» x h=>
  rcases dec _ h with d | d
  · exact .inl (.at d)
  · exact .inr ⟨x,d,.at h,.at h⟩
 | @on x y z h m k ih =>
  rcases dec _ h with d | d
  · rcases ih with i | ⟨q,b,f,j⟩
    · exact .inl (.on d m i)
    · exact .inr ⟨q,b,.on h m f,j⟩
  · exact .inr ⟨x,d,.at h,.on h m k⟩
theorem Walks.size {g s as' s' L} (h:Walks g s as' s' L):s'.length=s.length:=by
 induction h with
 | nil=>rfl
 | old _ _ ih=>exact ih
 | new _ _ _ b d=>rw [d,b,yb8]
theorem zbn {b:Bool}:(s.set a true)[k]? = some b↔(k=a∧a<s.length∧b=true)∨(k≠a∧s[k]? = some b):=by
 rw [ycj];by_cases h:a=k
 · subst h;by_cases d:a<s.length <;> simp [d,eq_comm]
 · have f:k≠a:=fun e=>h e.symm;simp [h,f]
theorem zjU (h:s[a]? = some false):(s.set a true).count false + 1=s.count false:=by
 induction s generalizing a with
 | nil=>simp at h
 | cons b t ih =>
  cases a with
  | zero =>
   simp only [ybq,yaT] at h;subst h;simp
  | succ a =>
   have:=ih (a:=a) (by simpa using h);rw [yaV,List.count_cons,List.count_cons];omega
theorem Walks.cf {g s as' s' L} (h:Walks g s as' s' L):L.length + s'.count false=s.count false:=by
 induction h with
 | nil=>simp
 | old _ _ ih=>exact ih
 | new h _ _ b d =>
  have:=zjU h;rw [yam,yaq];omega
theorem Walks.app {g s as' bs s1 s2 L1 L2} (h:Walks g s as' s1 L1) (k:Walks g s1 bs s2 L2):Walks g s (as' ++ bs) s2 (L1 ++ L2):=by
 induction h with
 | nil=>exact k
 | old h _ ih=>exact .old h (ih k)
 | new h b _ _ d=>rw [yaB,ybs];exact .new h b (d k)
theorem Walks.seen {g s as' s' L} (h:Walks g s as' s' L):(∀k,s'[k]? = some true↔s[k]? = some true∨k ∈ L)∧(∀k,s'[k]? = some false↔s[k]? = some false∧k ∉ L)∧(∀k ∈ L,s[k]? = some false)∧L.Nodup:=by
 induction h with
 | nil s=>simp
 | old _ _ ih=>exact ih
 | @new s a as' H I L1 J h K M z A =>
  obtain ⟨B,b,p,C⟩:=z;obtain ⟨D,E,j,F⟩:=A;have q:a<s.length:=(yao.1 h).1;have n:a ∉ L1:=fun m=>by
   have:=p a m;rw [zbn] at this;rcases this with ⟨_,_,e⟩ | ⟨e,_⟩
   · cases e
   · exact e rfl
  refine ⟨fun k=>?_,fun k=>?_,fun k hk=>?_,?_⟩
  · rw [D,B,zbn,yaz,yav];constructor
    · rintro (((⟨e,_⟩ | ⟨_,e⟩) | e) | e)
      · exact .inr (.inr (.inl e))
      · exact .inl e
      · exact .inr (.inl e)
      · exact .inr (.inr (.inr e))
    · rintro (e | e | e | e)
      · by_cases hk:k=a
        · exact .inl (.inl (.inl ⟨hk,q,rfl⟩))
        · exact .inl (.inl (.inr ⟨hk,e⟩))
      · exact .inl (.inr e)
      · exact .inl (.inl (.inl ⟨e,q,rfl⟩))
      · exact .inr e
  · rw [E,b,zbn,yaz,yav];constructor
    · rintro ⟨⟨o,d⟩,N⟩;rcases o with ⟨_,_,e⟩ | ⟨O,G⟩
      · cases e
      · exact ⟨G,by rintro (e | e | e) <;> contradiction⟩
    · rintro ⟨o,d⟩;refine ⟨⟨.inr ⟨fun e=>d (.inr (.inl e)),o⟩,fun e=>d (.inl e)⟩,fun e=>d (.inr (.inr e))⟩
  · rw [yaz,yav] at hk;rcases hk with hk | rfl | hk
    · have:=p k hk;rw [zbn] at this;rcases this with ⟨_,_,e⟩ | ⟨_,e⟩
      · cases e
      · exact e
    · exact h
    · have:=j k hk;rw [b,zbn] at this;rcases this with ⟨⟨_,_,e⟩ | ⟨_,e⟩,_⟩
      · cases e
      · exact e
  · rw [ya7];refine ⟨C,ybT.2 ⟨fun m=>?_,F⟩,?_⟩
    · have:=j a m;rw [b,zbn] at this;rcases this with ⟨⟨_,_,e⟩ | ⟨e,_⟩,_⟩
      · cases e
      · exact e rfl
    · rintro x u y f rfl;rw [yav] at f;rcases f with rfl | f
      · exact n u
      · have:=j x f;rw [b] at this;exact this.2 u
theorem Walks.dec {g s as' s' L} (h:Walks g s as' s' L) (k:Nat) (hk:s[k]? = some false):s'[k]? = some false∨s'[k]? = some true:=by
 by_cases m:k ∈ L
 · exact .inr ((h.seen.1 k).2 (.inr m))
 · exact .inl ((h.seen.2.1 k).2 ⟨hk,m⟩)
theorem way_step (w:Way g (s.set a true) a y):False:=by
 have:=w.fst;rw [zbn] at this;rcases this with ⟨_,_,e⟩ | ⟨e,_⟩
 · cases e
 · exact e rfl
theorem zfJ (k:Nat) (h:(s.set a true)[k]? = some false):s[k]? = some false:=by
 rw [zbn] at h;rcases h with ⟨_,_,e⟩ | ⟨_,e⟩
 · cases e
 · exact e
theorem znp (w:Way g s x y):Way g (s.set a true) x y∨(Way g s x a∧(y=a∨∃b ∈ g a,Way g (s.set a true) b y)):=by
 induction w with
 | @«at» x h =>
  by_cases e:x=a
  · subst e;exact .inr ⟨.at h,.inl rfl⟩
  · exact .inl (.at (by rw [zbn];exact .inr ⟨e,h⟩))
 | @on x y z h m k ih =>
  rcases ih with i | ⟨j,i⟩
  · by_cases e:x=a
    · subst e;exact .inr ⟨.at h,.inr ⟨y,m,i⟩⟩
    · exact .inl (.on (by rw [zbn];exact .inr ⟨e,h⟩) m i)
  · exact .inr ⟨.on h m j,i⟩
theorem Walks.come {g s as' s' L} (h:Walks g s as' s' L):∀y,y ∈ L↔∃a ∈ as',Way g s a y:=by
 induction h with
 | nil=>simp
 | @old s a as' s' L h k ih =>
  intro y;rw [ih y];constructor
  · rintro ⟨b,m,w⟩;exact ⟨b,yau _ m,w⟩
  · rintro ⟨b,m,w⟩;rcases yav.1 m with rfl | m
    · have:=w.fst;rw [h] at this;cases this
    · exact ⟨b,m,w⟩
 | @new s a as' f C L1 D h d E p q =>
  intro y;have x:a<s.length:=(yao.1 h).1;have first:∀y,Way g s a y↔y=a∨y ∈ L1:=by
   intro y;constructor
   · intro w;rcases znp w with i | ⟨_,i | ⟨b,m,i⟩⟩
     · exact (way_step i).elim
     · exact .inl i
     · exact .inr ((p y).2 ⟨b,m,i⟩)
   · rintro (rfl | m)
     · exact .at h
     · obtain ⟨b,mb,w⟩:=(p y).1 m;exact .on h mb (w.more zfJ)
  have n:∀k,f[k]? = some false→s[k]? = some false:=fun k hk=>by
   rw [d.seen.2.1] at hk;exact zfJ k hk.1
  rw [yaz,yav];constructor
  · rintro (m | m | m)
    · exact ⟨a,yat,(first y).2 (.inr m)⟩
    · exact ⟨a,yat,(first y).2 (.inl m)⟩
    · obtain ⟨b,mb,w⟩:=(q y).1 m;exact ⟨b,yau _ mb,w.more n⟩
  · rintro ⟨b,mb,w⟩;rcases yav.1 mb with rfl | mb
    · rcases (first y).1 w with e | e
      · exact .inr (.inl e)
      · exact .inl e
    · have A:∀k,s[k]? = some false→f[k]? = some false∨f[k]? = some true:=fun k hk=>by
       by_cases e:k=a
       · subst e;exact .inr ((d.seen.1 k).2 (.inl (by rw [zbn];exact .inl ⟨rfl,x,rfl⟩)))
       · exact d.dec k (by rw [zbn];exact .inr ⟨e,hk⟩)
      rcases w.part A with i | ⟨z,u,i,j⟩
      · exact .inr (.inr ((q y).2 ⟨b,mb,i⟩))
      ·
       have o:z=a∨z ∈ L1:=by
        rw [d.seen.1,zbn] at u;rcases u with (⟨e,_⟩ | ⟨_,e⟩) | e
        · exact .inl e
        · have:=j.fst;rw [e] at this;cases this
        · exact .inr e
       have B:Way g s a y:=((first z).2 o).trans j;rcases (first y).1 B with e | e
       · exact .inr (.inl e)
       · exact .inl e
def Bef (L:List Nat) (y c:Nat):Prop:=∃P Q,L=P ++ c::Q∧(y ∈ P∨y=c)
theorem Bef.left {y c} (h:Bef L y c):Bef (L ++ M) y c:=by
 obtain ⟨P,Q,rfl,k⟩:=h;exact ⟨P,Q ++ M,by simp,k⟩
theorem Bef.right {y c} (h:Bef M y c):Bef (L ++ M) y c:=by
 obtain ⟨P,Q,rfl,k⟩:=h;exact ⟨L ++ P,Q,by simp,k.elim (fun m=>.inl (by simp [m])) .inr⟩
theorem Bef.mid {y c} (hy:y ∈ L) (hc:c ∈ M):Bef (L ++ M) y c:=by
 obtain ⟨P,Q,rfl⟩:=yce hc;exact ⟨L ++ P,Q,by simp,.inl (by simp [hy])⟩
theorem Walks.order {g s as' s' L} (h:Walks g s as' s' L):∀x ∈ L,∀y,Way g s x y→y ∈ L∧∃c,c ∈ L∧Way g s x c∧Way g s c x∧Bef L y c:=by
 induction h with
 | nil=>simp
 | old _ _ ih=>exact ih
 | @new s a as' n R L1 L2 h o T M N =>
  have O:a<s.length:=(yao.1 h).1;have first:∀y,Way g s a y↔y=a∨y ∈ L1:=by
   intro y;have:=(Walks.new h o (Walks.nil n):Walks g s [a] n (L1 ++ [a])).come y;simp at this;rw [←this];exact Or.comm
  have p:∀k,n[k]? = some false→s[k]? = some false:=fun k hk=>by
   rw [o.seen.2.1] at hk;exact zfJ k hk.1
  have P:∀k,s[k]? = some false→n[k]? = some false∨n[k]? = some true:=fun k hk=>by
   by_cases e:k=a
   · subst e;exact .inr ((o.seen.1 k).2 (.inl (by rw [zbn];exact .inl ⟨rfl,O,rfl⟩)))
   · exact o.dec k (by rw [zbn];exact .inr ⟨e,hk⟩)
  have A:L1 ++ a::L2=(L1 ++ [a]) ++ L2:=by simp
  have B:∀y,Way g s a y→Bef (L1 ++ a::L2) y a:=fun y w=>by
   refine ⟨L1,L2,rfl,?_⟩;rcases (first y).1 w with e | e
   · exact .inr e
   · exact .inl e
  have d:∀y,Way g s a y→y ∈ L1 ++ a::L2:=fun y w=>by
   rcases (first y).1 w with e | e
   · simp [e]
   · simp [e]
  intro x f y w;rw [yaz,yav] at f;rcases f with f | rfl | f
  · rcases znp w with i | ⟨u,i⟩
    · obtain ⟨q,c,C,D,E,F⟩:=M x f y i;exact ⟨by simp [q],c,by simp [C],D.more zfJ,E.more zfJ,F.left⟩
    · have H:Way g s a y:=by
       rcases i with rfl | ⟨b,m,i⟩
       · exact .at h
       · exact .on h m (i.more zfJ)
      exact ⟨d _ H,a,d _ (.at h),u,(first x).2 (.inr f),B _ H⟩
  · exact ⟨d _ w,x,d _ (.at h),.at h,.at h,B _ w⟩
  · rcases w.part P with i | ⟨z,I,i,j⟩
    · obtain ⟨q,c,C,D,E,F⟩:=N x f y i;exact ⟨by simp [q],c,by simp [C],D.more p,E.more p,by rw [A];exact F.right⟩
    · have G:z=a∨z ∈ L1:=by
       rw [o.seen.1,zbn] at I;rcases I with (⟨e,_⟩ | ⟨_,e⟩) | e
       · exact .inl e
       · have:=j.fst;rw [e] at this;cases this
       · exact .inr e
      have J:Way g s a y:=((first z).2 G).trans j;have Q:y ∈ L1 ++ [a]:=by rcases (first y).1 J with e | e <;> simp [e]
      have K:s[x]? = some false:=w.fst;exact ⟨d _ J,x,by simp [f],.at K,.at K,by rw [A];exact Bef.mid Q f⟩
abbrev Ed:=Int × Int × Bool
def fr (e:Ed):Nat:=e.1.toNat
def tt (e:Ed):Nat:=e.2.1.toNat
def rise (e:Ed):Int:=if e.2.2 then 1 else 0
theorem zlV (e:Ed):0≤rise e∧rise e≤1:=by unfold rise;cases e.2.2 <;> simp
def turn (e:Ed):Ed:=(e.2.1,e.1,e.2.2)
def outE (l:List Ed) (a:Nat):List Ed:=l.filter fun e=>decide (fr e=a)
def goE (l:List Ed) (a:Nat):List Nat:=(outE l a).map tt
def InR (n:Nat) (l:List Ed):Prop:=∀e ∈ l,0≤e.1∧e.1<n∧0≤e.2.1∧e.2.1<n
theorem InR.fr {n l e} (h:InR n l) (m:e ∈ l):fr e<n:=by have:=h e m;unfold YtmblgnddgmfkhaaGreat.fr;omega
theorem InR.tt {n l e} (h:InR n l) (m:e ∈ l):tt e<n:=by have:=h e m;unfold YtmblgnddgmfkhaaGreat.tt;omega
theorem ze0 {l:List Ed} {a e}:e ∈ outE l a↔e ∈ l∧fr e=a:=by simp [outE]
theorem zdg {l:List Ed} {a b}:b ∈ goE l a↔∃e ∈ l,fr e=a∧tt e=b:=by simp [goE,ze0,and_assoc]
def Sol (n:Nat) (l:List Ed) (v:Nat→Int):Prop:=(∀i,i<n→0≤v i)∧∀e ∈ l,v (tt e) + rise e≤v (fr e)
def Least (n:Nat) (l:List Ed) (v:Nat→Int):Prop:=Sol n l v∧∀u,Sol n l u→∀i,i<n→v i≤u i
inductive Reach (l:List Ed):Nat→Nat→Prop
 | refl (x:Nat):Reach l x x
 | on {x y z:Nat} (m:y ∈ goE l x) (k:Reach l y z):Reach l x z
def Cyc (l:List Ed):Prop:=∃e ∈ l,e.2.2=true∧Reach l (tt e) (fr e)
theorem Reach.trans {l x y z} (h:Reach l x y) (k:Reach l y z):Reach l x z:=by
 induction h with
 | refl=>exact k
 | on m _ ih=>exact .on m (ih k)
theorem Reach.one {l:List Ed} {e:Ed} (m:e ∈ l):Reach l (fr e) (tt e):=.on (zdg.2 ⟨e,m,rfl,rfl⟩) (.refl _)
theorem Reach.sub {l m:List Ed} (hs:∀e ∈ l,e ∈ m) {x y} (h:Reach l x y):Reach m x y:=by
 induction h with
 | refl=>exact .refl _
 | on k _ ih=>obtain ⟨e,b,d,f⟩:=zdg.1 k;exact .on (zdg.2 ⟨e,hs e b,d,f⟩) ih
theorem Cyc.sub {l m:List Ed} (hs:∀e ∈ l,e ∈ m) (h:Cyc l):Cyc m:=by
 obtain ⟨e,b,n,r⟩:=h;exact ⟨e,hs e b,n,r.sub hs⟩
theorem zrk (l:List Ed):(l.map turn).map turn=l:=by rw [ybn];exact (yby fun e _=>rfl).trans (ycy l)
theorem Reach.turn {l x y} (h:Reach l x y):Reach (l.map turn) y x:=by
 induction h with
 | refl=>exact .refl _
 | on m _ ih =>
  obtain ⟨e,b,rfl,rfl⟩:=zdg.1 m;exact ih.trans (Reach.one (yaN.2 ⟨e,b,rfl⟩:YtmblgnddgmfkhaaGreat.turn e ∈ l.map YtmblgnddgmfkhaaGreat.turn))
theorem Reach.unturn {l x y} (h:Reach (l.map YtmblgnddgmfkhaaGreat.turn) x y):Reach l y x:=by
 have:=h.turn;rwa [zrk] at this
theorem Way.reach {l s x y} (h:Way (goE l) s x y):Reach l x y:=by
 induction h with
 | «at» _=>exact .refl _
 | on _ m _ ih=>exact .on m ih
theorem Reach.way {l:List Ed} (hl:InR n l) (hs:∀k:Nat,k<n→s[k]? = some false) {x y} (h:Reach l x y) (hx:x<n):Way (goE l) s x y:=by
 induction h with
 | refl=>exact .at (hs _ hx)
 | on m _ ih =>
  obtain ⟨e,b,rfl,rfl⟩:=zdg.1 m;exact .on (hs _ hx) (zdg.2 ⟨e,b,rfl,rfl⟩) (ih (hl.tt b))
theorem InR.turn {n l} (h:InR n l):InR n (l.map turn):=by
 intro e m;obtain ⟨d,b,rfl⟩:=yaN.1 m;have:=h d b;simp only [YtmblgnddgmfkhaaGreat.turn];omega
theorem Sol.reach {n l v} (h:Sol n l v) {x y} (r:Reach l x y):v y≤v x:=by
 induction r with
 | refl=>exact ybp _
 | on m _ ih =>
  obtain ⟨e,b,rfl,rfl⟩:=zdg.1 m;have:=h.2 e b;have:=zlV e;omega
theorem Cyc.none {n l v} (h:Cyc l) (k:Sol n l v):False:=by
 obtain ⟨e,b,d,r⟩:=h;have g:=k.reach r;have f:=k.2 e b;simp [rise,d] at f;omega
theorem Sol.sub {n l m v} (hs:∀e ∈ l,e ∈ m) (h:Sol n m v):Sol n l v:=⟨h.1,fun e b=>h.2 e (hs e b)⟩
theorem Least.same {n l u v} (h:Least n l u) (k:Least n l v) {i:Nat} (hi:i<n):u i=v i:=Int.le_antisymm (h.2 _ k.1 i hi) (k.2 _ h.1 i hi)
theorem Least.congr {n l m v} (hs:∀e,e ∈ l↔e ∈ m) (h:Least n l v):Least n m v :=
 ⟨h.1.sub fun e b=>(hs e).2 b,fun u d=>h.2 u (d.sub fun e b=>(hs e).1 b)⟩
structure OrdOk (l:List Ed) (n:Nat) (ord:List Nat):Prop where
 nd:ord.Nodup
 mem:∀k,k ∈ ord↔k<n
 back:∀x y,x<n→Reach l y x→∃c,Reach l c x∧Reach l x c∧Bef ord y c
theorem ord_of {l:List Ed} (hl:InR n l) (h:Walks (goE (l.map turn)) (List.replicate n false) (List.range n) s' L):OrdOk l n L:=by
 have b:∀k:Nat,k<n→(List.replicate n false)[k]? = some false:=fun k hk=>by rw [ybC];simp [hk]
 have d:∀k,k ∈ L↔k<n:=fun k=>by
  rw [h.come k];constructor
  · rintro ⟨a,_,w⟩;have:=(yao.1 w.lst).1;simpa using this
  · intro hk;exact ⟨k,List.mem_range.2 hk,.at (b k hk)⟩
 refine ⟨h.seen.2.2.2,d,fun x y f r=>?_⟩;obtain ⟨_,c,_,g,j,m⟩:=h.order x ((d x).2 f) y (r.turn.way hl.turn b f);exact ⟨c,g.reach.unturn,j.reach.unturn,m⟩
structure Rings (l:List Ed) (all:List (List Nat)):Prop where
 nd:all.flatten.Nodup
 one:∀A r B,all=A ++ r::B→r≠[]∧(∀e ∈ l,fr e ∈ r→tt e ∈ (A ++ [r]).flatten)∧∀x ∈ r,∀y ∈ r,Reach l x y
structure Told (l:List Ed) (n:Nat) (Q:List Nat) (s:List Bool) (all:List (List Nat)):Prop where
 len:s.length=n
 told:∀k:Nat,s[k]? = some true↔k ∈ all.flatten
 past:∀k ∈ Q,s[k]? = some true
 rings:Rings l all
theorem Rings.closed {l all} (h:Rings l all) {e:Ed} (he:e ∈ l) (hk:fr e ∈ all.flatten):tt e ∈ all.flatten:=by
 obtain ⟨r,b,d⟩:=List.mem_flatten.1 hk;obtain ⟨A,B,rfl⟩:=yce b;have:=(h.one A r B rfl).2.1 e he d;simp only [ycu,ybQ,List.flatten_nil,yaJ,yaz] at this ⊢;rcases this with h | h
 · exact .inl h
 · exact .inr (.inl h)
theorem Rings.closed' {l all} (h:Rings l all) {x y} (r:Reach l x y) (hk:x ∈ all.flatten):y ∈ all.flatten:=by
 induction r with
 | refl=>exact hk
 | on m _ ih=>obtain ⟨e,b,rfl,rfl⟩:=zdg.1 m;exact ih (h.closed b hk)
theorem Told.start {l:List Ed}:Told l n [] (List.replicate n false) [] where
 len:=by simp
 told k:=by rw [ybC];by_cases h:k<n <;> simp [h]
 past k hk:=by cases hk
 rings:=⟨by simp,fun A r B e=>by simp at e⟩
theorem zos {α} {all A B:List α} {r x:α} (h:all ++ [x]=A ++ r::B):(∃B',B=B' ++ [x]∧all=A ++ r::B')∨(B=[]∧A=all∧r=x):=by
 rcases ybI B with rfl | ⟨B',b,rfl⟩
 · right;have:=List.append_inj' h rfl;simp at this;exact ⟨rfl,this.1.symm,this.2.symm⟩
 · left;have d:all ++ [x]=(A ++ r::B') ++ [b]:=by simpa using h
   have:=List.append_inj' d rfl;simp at this;exact ⟨B',by simp [this.2],this.1⟩
theorem Told.step {l:List Ed} {P Q:List Nat} {all:List (List Nat)} {ring:List Nat} (hl:InR n l) (ho:OrdOk l n (P ++ a::Q)) (h:Told l n Q s all)
 (w:Walks (goE l) s [a] s' ring):Told l n (a::Q) s' (if ring=[] then all else all ++ [ring]):=by
 have H:a<n:=(ho.mem a).1 yaf;have f:s[a]? = some true∨s[a]? = some false:=by
  have:a<s.length:=by rw [h.len];exact H
  rw [yal this];cases s[a] <;> simp
 have d:∀y,y ∈ ring↔Way (goE l) s a y:=by simpa using w.come
 rcases f with f | f
 · have e:ring=[]:=by
    cases ring with
    | nil=>rfl
    | cons x t =>
     have:=((d x).1 yaf).fst;rw [f] at this;cases this
   subst e;have I:s'=s:=by
    have j:s'.length=s.length:=w.size;apply List.ext_getElem? ;intro k;have q1:=w.seen.1 k;have q2:=w.seen.2.1 k;simp only [ya1,ybw,not_false_eq_true,and_true] at q1 q2;cases h1:s[k]? with
    | none=>rw [ycK] at h1 ⊢;omega
    | some b=>cases b <;> simp_all
   rw [I,yan rfl];exact ⟨h.len,h.told,fun k hk=>(yav.1 hk).elim (fun e=>e ▸ f) (h.past k),h.rings⟩
 · have p:ring≠[]:=fun e=>by
    have:=(d a).2 (.at f);rw [e] at this;cases this
   have q:∀k:Nat,s[k]? = some false→k ∉ all.flatten:=fun k hk m=>by
    have:=(h.told k).2 m;rw [hk] at this;cases this
   have u:∀x ∈ ring,Reach l x a:=by
    intro x j;have J:=(d x).1 j;have K:x<n:=by have:=(yao.1 J.lst).1;rw [h.len] at this;exact this
    obtain ⟨c,c1,c2,P',Q',e,hb⟩:=ho.back x a K J.reach;have L:c ∉ all.flatten:=fun m=>q x J.lst (h.rings.closed' c1 m);have M:c ∉ Q:=fun m=>L ((h.told c).1 (h.past c m));have N:c=a:=by
     rcases hb with hb | hb
     ·
      exfalso;have C:=ho.nd;have o:c ∈ P ++ a::Q:=by rw [e];simp
      rw [yaz,yav] at o;rcases o with o | rfl | o
      ·
       obtain ⟨P1,O,rfl⟩:=yce o;obtain ⟨D,R2,rfl⟩:=yce hb;have F:P1 ++ c::(O ++ a::Q)=(D ++ a::R2) ++ c::Q':=by simpa using e
       have G:(P1 ++ c::(O ++ a::Q)).Nodup:=by simpa using C
       have R:c ∉ P1:=fun m=>(ya7.1 G).2.2 c m c yaf rfl;have E:=G;rw [F] at E;have T:c ∉ D ++ a::R2:=fun m=>(ya7.1 E).2.2 c m c yaf rfl;have hP:P1=D ++ a::R2:=by
        have t1:(P1 ++ c::(O ++ a::Q)).takeWhile (fun z=>decide (z≠c))=P1:=by
         rw [List.takeWhile_append_of_pos (fun z U=>by simp;rintro rfl;exact R U)];simp
        have t2:((D ++ a::R2) ++ c::Q').takeWhile (fun z=>decide (z≠c))=D ++ a::R2:=by
         rw [List.takeWhile_append_of_pos (fun z U=>by simp;rintro rfl;exact T U)];simp
        rw [←t1,F,t2]
       rw [hP] at G;exact (ya7.1 G).2.2 a yaf a yaf rfl
      · have E:=C;rw [e] at E;exact (ya7.1 E).2.2 c hb c yaf rfl
      · exact M o
     · exact hb.symm
    exact N ▸ c2
   rw [yak p];have g:∀k:Nat,s'[k]? = some true↔k ∈ (all ++ [ring]).flatten:=fun k=>by
    rw [w.seen.1,h.told];simp
   refine ⟨by rw [w.size,h.len],g,fun k hk=>?_,⟨?_,fun A r B e=>?_⟩⟩
   · rw [w.seen.1];rcases yav.1 hk with rfl | hk
     · exact .inr ((d k).2 (.at f))
     · exact .inl (h.past k hk)
   · rw [ycu,ya7];refine ⟨h.rings.nd,by simpa using w.seen.2.2.2,?_⟩;rintro x j y V rfl;exact q x (w.seen.2.2.1 x (by simpa using V)) j
   · rcases zos e with ⟨B',_,F⟩ | ⟨_,rfl,rfl⟩
     · exact h.rings.one A r B' F
     · refine ⟨p,fun e Y hf=>?_,fun x j y V=>(u x j).trans ((d y).1 V).reach⟩;rw [←g,w.seen.1];have Z:=(d _).1 hf;have X:=hl.tt Y;have:s[tt e]? = some true∨s[tt e]? = some false:=by
        have:tt e<s.length:=by rw [h.len];exact X
        rw [yal this];cases s[tt e] <;> simp
       rcases this with t | t
       · exact .inl t
       · exact .inr ((d _).2 (Z.trans (.on Z.lst (zdg.2 ⟨e,Y,rfl,rfl⟩) (.at t))))
theorem Told.whole {l:List Ed} {ord:List Nat} {s all} (ho:OrdOk l n ord) (h:Told l n ord s all):∀k,k<n↔k ∈ all.flatten:=fun k=>by
 rw [←h.told k];constructor
 · intro hk;exact h.past k ((ho.mem k).2 hk)
 · intro hk;have:=(yao.1 hk).1;rw [h.len] at this;exact this
def zb5 (v:List Int) (k:Nat):Int:=v.getD k 0
def up1 (v:List Int) (lev:Int) (e:Ed):Option Int :=
 if zb5 v (tt e) = -1 then (if e.2.2=true then none else some lev) else some (max lev (zb5 v (tt e) + rise e))
def upE (v:List Int):Int→List Ed→Option Int
 | lev,[]=>some lev
 | lev,e::es=>match up1 v lev e with
  | none=>none
  | some z=>upE v z es
def upR (v:List Int) (l:List Ed):Int→List Nat→Option Int
 | lev,[]=>some lev
 | lev,a::as'=>match upE v lev (outE l a) with
  | none=>none
  | some z=>upR v l z as'
def zop (v:List Int) (z:Int):List Nat→List Int
 | []=>v
 | a::as'=>zop (v.set a z) z as'
theorem up1_some {v lev e z} (h:up1 v lev e=some z):lev≤z∧(zb5 v (tt e) = -1→e.2.2=false)∧(zb5 v (tt e)≠-1→zb5 v (tt e) + rise e≤z)∧(z=lev∨(zb5 v (tt e)≠-1∧z=zb5 v (tt e) + rise e)):=by
 unfold up1 at h;by_cases b:zb5 v (tt e) = -1
 · rw [yan b] at h;by_cases d:e.2.2=true
   · rw [yan d] at h;cases h
   · rw [yak d] at h;cases h;exact ⟨ybp _,fun _=>by simpa using d,fun k=>absurd b k,.inl rfl⟩
 · rw [yak b] at h;cases h;refine ⟨by omega,fun k=>absurd k b,fun _=>by omega,?_⟩;rcases Int.le_total lev (zb5 v (tt e) + rise e) with k | k
   · exact .inr ⟨b,by omega⟩
   · exact .inl yab
theorem upE_some {v lev} {es:List Ed} {z} (h:upE v lev es=some z):lev≤z∧(∀e ∈ es,zb5 v (tt e) = -1→e.2.2=false)∧(∀e ∈ es,zb5 v (tt e)≠-1→zb5 v (tt e) + rise e≤z)∧(z=lev∨∃e ∈ es,zb5 v (tt e)≠-1∧z=zb5 v (tt e) + rise e):=by
 induction es generalizing lev with
 | nil=>cases h;simp
 | cons e es ih =>
  unfold upE at h;cases f:up1 v lev e with
  | none=>rw [f] at h;cases h
  | some y =>
   rw [f] at h;obtain ⟨o,g,a3,a4⟩:=up1_some f;obtain ⟨p,j,m,n⟩:=ih h;refine ⟨by omega,?_,?_,?_⟩
   · intro d b;rcases yav.1 b with rfl | b
     · exact g
     · exact j d b
   · intro d b;rcases yav.1 b with rfl | b
     · intro k;have:=a3 k;omega
     · exact m d b
   · rcases n with rfl | ⟨d,b,k⟩
     · rcases a4 with rfl | k
       · exact .inl rfl
       · exact .inr ⟨e,by simp,k⟩
     · exact .inr ⟨d,by simp [b],k⟩
theorem upE_none {v lev} {es:List Ed} (h:upE v lev es=none):∃e ∈ es,zb5 v (tt e) = -1∧e.2.2=true:=by
 induction es generalizing lev with
 | nil=>cases h
 | cons e es ih =>
  unfold upE at h;cases b:up1 v lev e with
  | none =>
   unfold up1 at b;by_cases f:zb5 v (tt e) = -1
   · by_cases g:e.2.2=true
     · exact ⟨e,by simp,f,g⟩
     · rw [yan f,yak g] at b;cases b
   · rw [yak f] at b;cases b
  | some y =>
   rw [b] at h;obtain ⟨d,j,k⟩:=ih h;exact ⟨d,by simp [j],k⟩
theorem zfO {v lev} {es fs:List Ed}:upE v lev (es ++ fs)=match upE v lev es with | none=>none | some z=>upE v z fs:=by
 induction es generalizing lev with
 | nil=>rfl
 | cons e es ih =>
  rw [ybs];simp only [upE];cases up1 v lev e with
  | none=>rfl
  | some y=>exact ih
theorem znn {v l lev}:upR v l lev r=upE v lev ((r.map (outE l)).flatten):=by
 induction r generalizing lev with
 | nil=>rfl
 | cons a b ih =>
  rw [yaW,ybQ,zfO];unfold upR;cases upE v lev (outE l a) with
  | none=>rfl
  | some z=>exact ih
theorem ze1 {l:List Ed} {e:Ed}:e ∈ (r.map (outE l)).flatten↔e ∈ l∧fr e ∈ r:=by
 simp only [List.mem_flatten,yaN];constructor
 · rintro ⟨_,⟨a,d,rfl⟩,f⟩;obtain ⟨b,rfl⟩:=ze0.1 f;exact ⟨b,d⟩
 · rintro ⟨b,g⟩;exact ⟨_,⟨_,g,rfl⟩,ze0.2 ⟨b,rfl⟩⟩
theorem znb {v z}:(zop v z r).length=v.length:=by
 induction r generalizing v with
 | nil=>rfl
 | cons a b ih=>rw [zop,ih,yb8]
theorem zec {v:List Int} (k:Nat):(zop v z r)[k]? = if k ∈ r∧k<v.length then some z else v[k]?:=by
 induction r generalizing v with
 | nil=>simp [zop]
 | cons a f ih =>
  rw [zop,ih,yb8,ycj];by_cases b:k ∈ f∧k<v.length
  · rw [yan b,yan ⟨by simp [b.1],b.2⟩]
  · rw [yak b];by_cases g:a=k
    · subst g;by_cases d:a<v.length
      · simp [d]
      · simp [d]
    · rw [yak g,yak (by
       rintro ⟨m,d⟩;rcases yav.1 m with e | m
       · exact g e.symm
       · exact b ⟨m,d⟩)]
structure Lv (l:List Ed) (n:Nat) (A:List (List Nat)) (v:List Int):Prop where
 len:v.length=n
 un:∀k,k<n→k ∉ A.flatten→v[k]? = some (-1)
 told:∀k ∈ A.flatten,∃z,v[k]? = some z∧0≤z∧z≤A.length∧(∀u,Sol n l u→z≤u k)∧∀e ∈ l,fr e=k→∃y,v[tt e]? = some y∧0≤y∧y + rise e≤z
theorem Lv.start {l n}:Lv l n [] (List.replicate n (-1)) where
 len:=by simp
 un k hk _:=by rw [ybC];simp [hk]
 told k hk:=by simp at hk
theorem Lv.bound {l n A v} (h:Lv l n A v) (hz:v[k]? = some z) : -1≤z∧z≤A.length:=by
 by_cases m:k ∈ A.flatten
 · obtain ⟨y,b,d,f,_⟩:=h.told k m;rw [hz] at b;cases b;omega
 · have hk:k<n:=by have:=(yao.1 hz).1;rw [h.len] at this;exact this
   have:=h.un k hk m;rw [hz] at this;cases this;omega
theorem zdJ {v:List Int} (h:v[k]? = some z):zb5 v k=z:=by
 unfold zb5;rw [ya5,h];rfl
theorem Lv.edge {l n all A r B v} (hR:Rings l all) (e:all=A ++ r::B) (hw:∀k,k ∈ all.flatten→k<n) (h:Lv l n A v) {d:Ed} (hd:d ∈ l) (hf:fr d ∈ r) :
 (tt d ∈ r∧zb5 v (tt d) = -1)∨(tt d ∉ r∧tt d ∈ A.flatten∧v[tt d]? = some (zb5 v (tt d))∧0≤zb5 v (tt d)):=by
 have j:=(hR.one A r B e).2.1 d hd hf;simp only [ycu,ybQ,List.flatten_nil,yaJ,yaz] at j;have b:=hR.nd;rw [e,ycu,ybQ,ya7] at b;rcases j with m | m
 · right;obtain ⟨z,f,o,_⟩:=h.told _ m;refine ⟨fun g=>b.2.2 _ m _ (by simp [g]) rfl,m,?_,?_⟩
   · rw [zdJ f];exact f
   · rw [zdJ f];exact o
 · left;refine ⟨m,zdJ (h.un _ (hw _ (by rw [e];simp [m])) fun g=>b.2.2 _ g _ (by simp [m]) rfl)⟩
theorem Lv.bad {l n all A r B v} (hR:Rings l all) (e:all=A ++ r::B) (hw:∀k,k ∈ all.flatten→k<n) (h:Lv l n A v) (hu:upR v l 0 r=none):Cyc l:=by
 rw [znn] at hu;obtain ⟨d,b,j,g⟩:=upE_none hu;obtain ⟨b,f⟩:=ze1.1 b;rcases h.edge hR e hw b f with ⟨m,_⟩ | ⟨_,_,_,o⟩
 · exact ⟨d,b,g,(hR.one A r B e).2.2 _ m _ f⟩
 · omega
theorem Lv.step {l n all A r B v z} (hR:Rings l all) (e:all=A ++ r::B) (hw:∀k,k ∈ all.flatten→k<n) (h:Lv l n A v) (hu:upR v l 0 r=some z):Lv l n (A ++ [r]) (zop v z r):=by
 rw [znn] at hu;obtain ⟨z0,N,O,M⟩:=upE_some hu;obtain ⟨P,Q,F⟩:=hR.one A r B e;have C:(A ++ [r]).flatten=A.flatten ++ r:=by simp
 have o:∀k ∈ r,k<n:=fun k hk=>hw k (by rw [e];simp [hk]);have f:∀k ∈ A.flatten,k ∉ r:=fun k hk m=>by
  have D:=hR.nd;rw [e,ycu,ybQ,ya7] at D;exact D.2.2 _ hk _ (by simp [m]) rfl
 have G:∀u,Sol n l u→∀k ∈ r,z≤u k:=by
  intro u p k hk;rcases M with rfl | ⟨d,b,E,rfl⟩
  · exact p.1 k (o k hk)
  · obtain ⟨b,g⟩:=ze1.1 b;have X:=p.reach (F k hk _ g);have Y:=p.2 d b;rcases h.edge hR e hw b g with ⟨_,m⟩ | ⟨_,m,s,_⟩
    · exact absurd m E
    · obtain ⟨y,H,_,_,R,_⟩:=h.told _ m;have:=R u p;rw [zdJ H];omega
 refine ⟨by rw [znb,h.len],fun k hk m=>?_,fun k hk=>?_⟩
 · rw [C,yaz,not_or] at m;rw [zec,yak (fun q=>m.2 q.1)];exact h.un k hk m.1
 · rw [C,yaz] at hk;rcases hk with hk | hk
   · obtain ⟨y,H,I,E,T,U⟩:=h.told k hk;refine ⟨y,by rw [zec,yak (fun q=>f k hk q.1)];exact H,I,by simp;omega,T,fun d b g=>?_⟩;obtain ⟨x,J,q⟩:=U d b g;have V:tt d ∈ A.flatten:=by
      by_cases m:tt d ∈ A.flatten
      · exact m
      · have K:tt d<n:=by have:=(yao.1 J).1;rw [h.len] at this;exact this
        have:=h.un _ K m;rw [J] at this;cases this;omega
     exact ⟨x,by rw [zec,yak (fun q=>f _ V q.1)];exact J,q⟩
   · have L:=o k hk;refine ⟨z,by rw [zec,yan ⟨hk,by rw [h.len];exact L⟩],z0,?_,fun u p=>G u p k hk,fun d b g=>?_⟩
     · simp;rcases M with rfl | ⟨d,b,E,rfl⟩
       · omega
       · obtain ⟨b,g⟩:=ze1.1 b;rcases h.edge hR e hw b g with ⟨_,m⟩ | ⟨_,m,s,_⟩
         · exact absurd m E
         · have:=(h.bound s).2;have:=zlV d;omega
     · subst g;have j:=ze1.2 ⟨b,hk⟩;rcases h.edge hR e hw b hk with ⟨m,s⟩ | ⟨m,Z,s,I⟩
       · refine ⟨z,by rw [zec,yan ⟨m,by rw [h.len];exact o _ m⟩],z0,?_⟩;have:=N d j s;simp [rise,this]
       · refine ⟨zb5 v (tt d),by rw [zec,yak (fun q=>m q.1)];exact s,I,O d j yab⟩
theorem Lv.least {l n all v} (hl:InR n l) (hw:∀k,k<n↔k ∈ all.flatten) (h:Lv l n all v):Least n l (zb5 v):=by
 refine ⟨⟨fun i hi=>?_,fun e d=>?_⟩,fun u f i hi=>?_⟩
 · obtain ⟨z,b,g,_⟩:=h.told i ((hw i).1 hi);rw [zdJ b];exact g
 · obtain ⟨z,b,_,_,_,j⟩:=h.told _ ((hw _).1 (hl.fr d));obtain ⟨y,m,_,o⟩:=j e d rfl;rw [zdJ b,zdJ m];exact o
 · obtain ⟨z,b,_,_,p,_⟩:=h.told i ((hw i).1 hi);rw [zdJ b];exact p u f
theorem Lv.small {l n all v} (h:Lv l n all v):∀x ∈ v,-1≤x∧x≤all.length:=by
 intro x b;obtain ⟨k,hk,rfl⟩:=yb9 b;exact h.bound (yal hk)
theorem nodup_le (h:L.Nodup) (hw:∀k ∈ L,k<n):L.length≤n:=by
 induction n generalizing L with
 | zero =>
  cases L with
  | nil=>simp
  | cons a t=>have:=hw a yaf;omega
 | succ n ih =>
  have b:=ih (h.erase n) fun k hk=>by
   have:=(h.mem_erase_iff).1 hk;have:=hw k this.2;omega
  rw [List.length_erase] at b;split at b <;> omega
theorem zqQ {l:List Ed} {all:List (List Nat)} (h:Rings l all) (hw:∀k ∈ all.flatten,k<n):all.length≤n:=by
 have d:all.length≤all.flatten.length:=by
  have:∀(all:List (List Nat)),(∀r ∈ all,r≠[])→all.length≤all.flatten.length:=by
   intro all;induction all with
   | nil=>intro;simp
   | cons r t ih =>
    intro b;have d:=ih fun x f=>b x (by simp [f]);have g:0<r.length:=ybG.2 (b r yaf);rw [yaq,ybQ,yam];omega
  refine this all fun r b=>?_;obtain ⟨A,B,e⟩:=yce b;exact (h.one A r B e).1
 have g:=nodup_le h.nd hw;omega
end Go.Proofs.YtmblgnddgmfkhaaGreat
