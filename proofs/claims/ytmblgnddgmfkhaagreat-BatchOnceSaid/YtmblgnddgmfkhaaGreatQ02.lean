import GoSem.Op.String
import Derived.Laws.Strings
import Derived.Lib.SlicesCompact
import Derived.Deep.Cut
import Derived.IntWalk
import Derived.Laws.Cover1
import Derived.LoopTactic
import Derived.Lib.Walk
import Derived.Shelf.RegionOpenPlain
import Derived.Great.BuildSlice
import Derived.Deep.DeepCutAuto
import Derived.Shelf.SlSortCmp.QuietGrown
import Derived.Test.YtmblgnddgmfkhaaGreatProg
import Derived.Test.YtmblgnddgmfkhaaGreatQ01
set_option maxRecDepth 100000
set_option maxHeartbeats 4000000
namespace Go.Proofs.YtmblgnddgmfkhaaGreat
section
variable {a b k:ByteArray} {t s l:List ByteArray} {c:ByteArray × Bool} {last r:Int} {i:Nat}
theorem zoV:∀(x y:List UInt8),Op.bytesLess x y=decide (x<y)
 | [],[]=>by simp [Op.bytesLess]
 | _::_,[]=>by simp [Op.bytesLess]
 | [],_::_=>by simp [Op.bytesLess]
 | c::x,d::y=>by
  rw [Op.bytesLess,zoV x y];simp only [List.cons_lt_cons_iff];by_cases b:c<d <;> by_cases f:c=d <;> by_cases g:x<y <;> simp [b,f,g]
def kl (a b:ByteArray):Bool:=Op.bytesLess a.toList b.toList
theorem zij:kl a b=true↔a.toList<b.toList:=by
 unfold kl;rw [zoV,yaP]
theorem zmE:kl a b=false↔b.toList≤a.toList:=by
 unfold kl;rw [zoV,ybD];exact Iff.rfl
theorem zrf (h:a.toList=b.toList):a=b:=by
 rw [ByteArray.toList_eq,ByteArray.toList_eq] at h;exact ByteArray.ext (ycF.1 h)
theorem tl_eq (a b:ByteArray):(a.toList == b.toList)=decide (a=b):=by
 by_cases h:a=b
 · subst h;simp
 · rw [yaH h,ybc];exact fun e=>h (zrf e)
theorem zik (a:ByteArray):kl a a=false:=zmE.2 (List.le_refl _)
theorem zcJ {c:ByteArray} (h:kl a b=true) (k:kl b c=true):kl a c=true:=zij.2 (List.lt_trans (zij.1 h) (zij.1 k))
theorem zpN (h:kl a b=true):kl b a=false:=zmE.2 (List.le_of_lt (zij.1 h))
theorem zkj (h:kl a b=false) (k:kl b a=false):a=b:=zrf (List.le_antisymm (zmE.1 k) (zmE.1 h))
theorem zeX (h:kl a b=true):a≠b:=fun e=>by subst e;rw [zik] at h;cases h
theorem kl_up (h:a≠b) (k:kl a b=false):kl b a=true:=by
 cases e:kl b a
 · exact absurd (zkj k e) h
 · rfl
def Rises (l:List ByteArray):Prop:=l.Pairwise fun a b=>kl a b=true
theorem Rises.nodup (h:Rises l):l.Nodup:=h.imp fun b=>zeX b
theorem ze8 {a b:List ByteArray} (ha:Rises a) (hb:Rises b) (h:∀k,k ∈ a↔k ∈ b):a=b :=
 List.Perm.eq_of_pairwise (le:=fun a b=>kl a b=true) (fun x y _ _ f d=>by rw [zpN f] at d;cases d) ha hb ((ych ha.nodup hb.nodup).2 h)
theorem Rises.filter (h:Rises l) (p:ByteArray→Bool):Rises (l.filter p):=List.Pairwise.filter p h
theorem zkt:∀{l m:List ByteArray},l.Nodup→(∀x ∈ l,x ∈ m)→l.length≤m.length
 | [],_,_,_=>yap _
 | a::l,m,h,k=>by
  obtain ⟨d,f⟩:=ybT.1 h;obtain ⟨p,q,rfl⟩:=yce (k a (yat ..));have:=zkt (m:=p ++ q) f fun x b=>by
   have:=k x (yau _ b);simp only [yaz,yav] at this ⊢;rcases this with h | h | h
   · exact .inl h
   · subst h;exact absurd b d
   · exact .inr h
  simp only [yam,yaq] at *
  omega
theorem Rises.len {m:List ByteArray} (h:Rises l) (k:∀x ∈ l,x ∈ m):l.length≤m.length:=zkt h.nodup k
theorem Rises.at_ (h:Rises l) {j:Nat} (ha:l[i]? = some a) (hb:l[j]? = some b) (hij:i<j):kl a b=true:=by
 obtain ⟨d,rfl⟩:=yao.1 ha;obtain ⟨f,rfl⟩:=yao.1 hb;exact ybF.1 h i j d f hij
def hasK (l:List ByteArray) (k:ByteArray):Bool:=l.any fun a=>decide (k=a)
theorem zas:hasK l k=true↔k ∈ l:=by simp [hasK]
theorem za7:hasK l k=false↔k ∉ l:=by rw [←zas,ybZ]
theorem ziS (k:ByteArray):hasK [] k=false:=rfl
theorem zcX (a:ByteArray) (l:List ByteArray) (k:ByteArray):hasK (a::l) k=(decide (k=a) || hasK l k):=rfl
def zkL:List ByteArray→ByteArray→List ByteArray
 | [],k=>[k]
 | a::l,k=>if kl a k then a::zkL l k else k::a::l
def outK (l:List ByteArray) (k:ByteArray):List ByteArray:=l.filter fun a=>!decide (a=k)
theorem zcL:∀{l:List ByteArray} {k x:ByteArray},x ∈ zkL l k↔x=k∨x ∈ l
 | [],k,x=>by simp [zkL]
 | a::l,k,x=>by
  unfold zkL;split
  · rw [yav,zcL,yav];constructor
    · rintro (h | h | h)
      · exact .inr (.inl h)
      · exact .inl h
      · exact .inr (.inr h)
    · rintro (h | h | h)
      · exact .inr (.inl h)
      · exact .inl h
      · exact .inr (.inr h)
  · rw [yav]
theorem zd5:∀{l:List ByteArray} {k:ByteArray},Rises l→k ∉ l→Rises (zkL l k)
 | [],k,_,_=>by simp [zkL,Rises]
 | a::l,k,h,hk=>by
  obtain ⟨f,g⟩:=yaM.1 h;unfold zkL;split
  · rename_i q
    refine yaM.2 ⟨fun x b=>?_,zd5 g fun e=>hk (yau _ e)⟩;rcases zcL.1 b with rfl | b
    · exact q
    · exact f x b
  · rename_i q
    have d:kl k a=true:=kl_up (fun e=>hk (by rw [←e];exact yat ..)) (by simpa using q);refine yaM.2 ⟨fun x b=>?_,h⟩;rcases yav.1 b with rfl | b
    · exact d
    · exact zcJ d (f x b)
theorem zjn:∀(l:List ByteArray) (k:ByteArray),(zkL l k).length=l.length + 1
 | [],k=>rfl
 | a::l,k=>by
  unfold zkL;split
  · rw [yaq,zjn,yaq]
  · rfl
theorem zjg {x:ByteArray}:x ∈ outK l k↔x ∈ l∧x≠k:=by simp [outK]
theorem zn5 (h:Rises l):Rises (outK l k):=h.filter _
theorem outS_len (l:List ByteArray) (k:ByteArray):(outK l k).length≤l.length:=ybf _ _
def zhM (s:List ByteArray):List (ByteArray × Bool)→Option Nat
 | []=>none
 | p::r=>if hasK s p.1=p.2 then (zhM s r).map (· + 1) else some 0
def zcy:List ByteArray→List (ByteArray × Bool)→Nat→List ByteArray × Nat × Nat
 | t,[],_=>(t,0,0)
 | t,c::r,i=>if hasK t c.1 then (if c.2 then ([],32,i) else zcy (outK t c.1) r (i + 1)) else (if c.2 then zcy (zkL t c.1) r (i + 1) else ([],41,i))
def zcb (s:List ByteArray) (p c:List (ByteArray × Bool)):List ByteArray × Nat × Nat:=match zhM s p with
 | some i=>([],41,i)
 | none=>zcy s c p.length
def zjF (t:List ByteArray) (c:ByteArray × Bool):List ByteArray:=if c.2 then zkL t c.1 else outK t c.1
theorem zb8 {r:List (ByteArray × Bool)} (h:hasK t c.1 = !c.2):zcy t (c::r) i=zcy (zjF t c) r (i + 1):=by
 obtain ⟨k,b⟩:=c;cases b <;> simp_all [zcy,zjF]
theorem zbR {r:List (ByteArray × Bool)} (h:hasK t c.1=c.2):zcy t (c::r) i=([],if c.2 then 32 else 41,i):=by
 obtain ⟨k,b⟩:=c;cases b <;> simp_all [zcy]
theorem zc4 (h:Rises t) (k:hasK t c.1 = !c.2):Rises (zjF t c):=by
 unfold zjF;split
 · rename_i q
   rw [q] at k;exact zd5 h (za7.1 k)
 · exact zn5 h
theorem zcK (k:hasK t c.1 = !c.2) (x:ByteArray):hasK (zjF t c) x=if x=c.1 then c.2 else hasK t x:=by
 obtain ⟨y,b⟩:=c;dsimp only at *
 cases b
 · unfold zjF;by_cases e:x=y
   · rw [yan e];exact za7.2 fun h=>(zjg.1 h).2 e
   · rw [yak e,ya6,zas,zas];exact ⟨fun h=>(zjg.1 h).1,fun h=>zjg.2 ⟨h,e⟩⟩
 · unfold zjF;by_cases e:x=y
   · rw [yan e];exact zas.2 (zcL.2 (.inl e))
   · rw [yak e,ya6,zas,zas];exact ⟨fun h=>(zcL.1 h).resolve_left e,fun h=>zcL.2 (.inr h)⟩
theorem oneS_len (t:List ByteArray) (c:ByteArray × Bool):(zjF t c).length≤t.length + 1:=by
 unfold zjF;split
 · rw [zjn];exact yaj _
 · exact yax (outS_len _ _) (ya8 _)
theorem zfp:∀{c:List (ByteArray × Bool)} {t:List ByteArray} {i:Nat},Rises t→Rises (zcy t c i).1
 | [],t,i,h=>h
 | c::r,t,i,h=>by
  by_cases k:hasK t c.1 = !c.2
  · rw [zb8 k];exact zfp (zc4 h k)
  · rw [zbR (by cases q:c.2 <;> simp_all)];exact List.Pairwise.nil
theorem zkH:∀{p:List (ByteArray × Bool)},(∀x ∈ p,hasK s x.1=x.2)→zhM s p=none
 | [],_=>rfl
 | x::r,h=>by
  unfold zhM;rw [yan (h x (yat ..)),zkH fun y b=>h y (yau _ b)];rfl
theorem zkJ:∀{p:List (ByteArray × Bool)} {i:Nat} {x:ByteArray × Bool},(∀(j:Nat) y,j<i→p[j]? = some y→hasK s y.1=y.2)→p[i]? = some x→hasK s x.1≠x.2→zhM s p=some i
 | [],i,x,_,h,_=>by simp at h
 | y::r,0,x,_,h,k=>by
  simp at h;subst h;unfold zhM;rw [yak k]
 | y::r,i + 1,x,g,h,k=>by
  unfold zhM;rw [yan (g 0 y yab rfl),zkJ (i:=i) (x:=x) (fun j z d b=>g (j + 1) z yab (by simpa using b)) (by simpa using h) k];rfl
def zaN (s t:List ByteArray):List (ByteArray × Bool):=match s,t with
 | [],[]=>[]
 | a::s,[]=>(a,false)::zaN s []
 | [],b::t=>(b,true)::zaN [] t
 | a::s,b::t=>if kl a b then (a,false)::zaN s (b::t) else if kl b a then (b,true)::zaN (a::s) t else zaN s t
termination_by s.length + t.length
theorem zmn:zaN [] []=[]:=by rw [zaN]
theorem zeO (h:∀b,t.head? = some b→kl a b=true):zaN (a::s) t=(a,false)::zaN s t:=by
 cases t with
 | nil=>rw [zaN]
 | cons b t=>rw [zaN,yan (h b rfl)]
theorem zdV (h:∀a,s.head? = some a→kl a b=false∧kl b a=true):zaN s (b::t)=(b,true)::zaN s t:=by
 cases s with
 | nil=>rw [zaN]
 | cons a s=>rw [zaN,yak (by rw [(h a rfl).1];decide),yan (h a rfl).2]
theorem zjX (h:kl a b=false) (k:kl b a=false):zaN (a::s) (b::t)=zaN s t:=by
 rw [zaN,yak (by rw [h];decide),yak (by rw [k];decide)]
theorem zmm (s t:List ByteArray):(zaN s t).length≤s.length + t.length:=by
 induction s,t using zaN.induct with
 | case1=>rw [zaN];exact yap _
 | case2 a s ih=>rw [zaN];simp only [yaq];omega
 | case3 b t ih=>rw [zaN];simp only [yaq];omega
 | case4 a s b t h ih=>rw [zaN,yan h];simp only [yaq] at *;omega
 | case5 a s b t h k ih=>rw [zaN,yak h,yan k];simp only [yaq] at *;omega
 | case6 a s b t h k ih=>rw [zaN,yak h,yak k];simp only [yaq] at *;omega
theorem zdU (hs:Rises s) (ht:Rises t) (x:ByteArray) (e:Bool):(x,e) ∈ zaN s t↔hasK t x=e∧hasK s x = !e:=by
 induction s,t using zaN.induct with
 | case1=>rw [zaN,ziS];cases e <;> simp
 | case2 a s ih =>
  obtain ⟨d,f⟩:=yaM.1 hs;have g:hasK s a=false:=za7.2 fun q=>zeX (d a q) rfl;rw [zaN,yav,ih f ht,zcX,ziS];by_cases q:x=a
  · subst q;cases e <;> simp [g]
  · cases e <;> simp [q]
 | case3 b t ih =>
  obtain ⟨d,f⟩:=yaM.1 ht;have nb:hasK t b=false:=za7.2 fun q=>zeX (d b q) rfl;rw [zaN,yav,ih hs f,zcX,ziS];by_cases q:x=b
  · subst q;cases e <;> simp [nb]
  · cases e <;> simp [q]
 | case4 a s b t h ih =>
  obtain ⟨d,f⟩:=yaM.1 hs;obtain ⟨j,m⟩:=yaM.1 ht;have nb:hasK (b::t) a=false:=za7.2 fun q=>by
   rcases yav.1 q with q | q
   · exact zeX h q
   · exact zeX (zcJ h (j a q)) rfl
  have g:hasK s a=false:=za7.2 fun q=>zeX (d a q) rfl;rw [zaN,yan h,yav,ih f ht,zcX a];by_cases q:x=a
  · subst q;cases e <;> simp [g,nb]
  · cases e <;> simp [q]
 | case5 a s b t h k ih =>
  obtain ⟨d,f⟩:=yaM.1 hs;obtain ⟨j,m⟩:=yaM.1 ht;have nb:hasK (a::s) b=false:=za7.2 fun q=>by
   rcases yav.1 q with q | q
   · exact zeX k q
   · exact zeX (zcJ k (d b q)) rfl
  have g:hasK t b=false:=za7.2 fun q=>zeX (j b q) rfl;rw [zaN,yak h,yan k,yav,ih hs m,zcX b];by_cases q:x=b
  · subst q;cases e <;> simp [g,nb]
  · cases e <;> simp [q]
 | case6 a s b t h k ih =>
  obtain ⟨d,f⟩:=yaM.1 hs;obtain ⟨j,m⟩:=yaM.1 ht;have n:a=b:=zkj (by simpa using h) (by simpa using k);subst n;have o:hasK s a=false:=za7.2 fun q=>zeX (d a q) rfl;have p:hasK t a=false:=za7.2 fun q=>zeX (j a q) rfl;rw [zaN,yak h,yak k,ih f m,zcX,zcX];by_cases q:x=a
  · subst q;cases e <;> simp [o,p]
  · cases e <;> simp [q]
theorem zeN {x:ByteArray × Bool} (h:x ∈ zaN s t):x.1 ∈ s∨x.1 ∈ t:=by
 induction s,t using zaN.induct with
 | case1=>rw [zaN] at h;cases h
 | case2 a s ih =>
  rw [zaN] at h;rcases yav.1 h with rfl | h
  · exact .inl (yat ..)
  · exact (ih h).imp (yau _) id
 | case3 b t ih =>
  rw [zaN] at h;rcases yav.1 h with rfl | h
  · exact .inr (yat ..)
  · exact (ih h).imp id (yau _)
 | case4 a s b t q ih =>
  rw [zaN,yan q] at h;rcases yav.1 h with rfl | h
  · exact .inl (yat ..)
  · exact (ih h).imp (yau _) id
 | case5 a s b t q k ih =>
  rw [zaN,yak q,yan k] at h;rcases yav.1 h with rfl | h
  · exact .inr (yat ..)
  · exact (ih h).imp id (yau _)
 | case6 a s b t q k ih =>
  rw [zaN,yak q,yak k] at h;exact (ih h).imp (yau _) (yau _)
theorem zfs (hs:Rises s) (ht:Rises t):(zaN s t).Pairwise fun a b=>kl a.1 b.1=true:=by
 induction s,t using zaN.induct with
 | case1=>rw [zaN];exact List.Pairwise.nil
 | case2 a s ih =>
  obtain ⟨d,g⟩:=yaM.1 hs;rw [zaN];refine yaM.2 ⟨fun x f=>?_,ih g ht⟩;rcases zeN f with q | q
  · exact d _ q
  · cases q
 | case3 b t ih =>
  obtain ⟨d,g⟩:=yaM.1 ht;rw [zaN];refine yaM.2 ⟨fun x f=>?_,ih hs g⟩;rcases zeN f with q | q
  · cases q
  · exact d _ q
 | case4 a s b t h ih =>
  obtain ⟨d,g⟩:=yaM.1 hs;obtain ⟨j,m⟩:=yaM.1 ht;rw [zaN,yan h];refine yaM.2 ⟨fun x f=>?_,ih g ht⟩;rcases zeN f with q | q
  · exact d _ q
  · rcases yav.1 q with q | q
    · rw [q];exact h
    · exact zcJ h (j _ q)
 | case5 a s b t h k ih =>
  obtain ⟨d,g⟩:=yaM.1 hs;obtain ⟨j,m⟩:=yaM.1 ht;rw [zaN,yak h,yan k];refine yaM.2 ⟨fun x f=>?_,ih hs m⟩;rcases zeN f with q | q
  · rcases yav.1 q with q | q
    · rw [q];exact k
    · exact zcJ k (d _ q)
  · exact j _ q
 | case6 a s b t h k ih =>
  rw [zaN,yak h,yak k];exact ih (yaM.1 hs).2 (yaM.1 ht).2
theorem zlk (hs:Rises s) (ht:Rises t):Rises ((zaN s t).map Prod.fst)∧∀k,hasK ((zaN s t).map Prod.fst) k=(hasK s k != hasK t k):=by
 refine ⟨yck.2 (zfs hs ht),fun k=>?_⟩;rw [ya6,zas,yaN];constructor
 · rintro ⟨⟨x,e⟩,b,rfl⟩;obtain ⟨d,f⟩:=(zdU hs ht x e).1 b;simp [d,f]
 · intro q;refine ⟨(k,hasK t k),(zdU hs ht k _).2 ⟨rfl,?_⟩,rfl⟩;cases g:hasK s k <;> cases j:hasK t k <;> simp_all
def zcY (l:List UInt8):ByteArray:=⟨l.toArray⟩
theorem zeW (l:List UInt8):(zcY l).toList=l:=by rw [ByteArray.toList_eq];simp [zcY]
theorem keyB_of (s:ByteArray):zcY s.data.toList=s:=by simp [zcY]
theorem zkV {l:List (List UInt8)} (h:l.Nodup):Rises ((l.mergeSort fun x y=>decide (x≤y)).map zcY)∧∀k:ByteArray,k ∈ (l.mergeSort fun x y=>decide (x≤y)).map zcY↔k.data.toList ∈ l:=by
 have j:(l.mergeSort fun x y=>decide (x≤y)).Pairwise fun a b=>decide (a≤b)=true :=
  List.pairwise_mergeSort (le:=fun x y=>decide (x≤y)) (fun a b c f m=>yaD (List.le_trans (yaQ f) (yaQ m))) (fun a b=>by simpa using List.le_total a b) l
 have g:=List.mergeSort_perm l fun x y=>decide (x≤y);have n:(l.mergeSort fun x y=>decide (x≤y)).Nodup:=g.nodup_iff.2 h;refine ⟨yck.2 ((j.and n).imp fun {a b} d=>?_),fun k=>?_⟩
 · rw [zij,zeW,zeW];have f:=yaQ d.1;rcases Decidable.em (a<b) with q | q
   · exact q
   · exact absurd (List.le_antisymm f q) d.2
 · rw [yaN];constructor
   · rintro ⟨x,o,rfl⟩;have:=g.mem_iff.1 o;simpa [zcY] using this
   · intro hk;exact ⟨_,g.mem_iff.2 hk,by simp [zcY]⟩
theorem zeM (d:Array (List UInt8)) (hs:∀i j,i<j→j<d.size→d[i]!≤d[j]!):∀m,m≤d.size →
 (Lib.compactUpTo d m).Pairwise (fun a b=>a<b)∧∀x,x ∈ Lib.compactUpTo d m↔∃i,i<m∧d[i]! = x
 | 0,_=>by
  refine ⟨List.Pairwise.nil,fun x=>⟨fun h=>(by cases h),fun ⟨i,hi,_⟩=>(by omega)⟩⟩
 | m + 1,u=>by
  obtain ⟨k,f⟩:=zeM d hs m yab;rw [Lib.compactUpTo_succ];by_cases hk:Lib.keeps d m=true
  · rw [yan hk];refine ⟨yb6.2 ⟨k,ybW _ _,fun a n b hb=>?_⟩,fun x=>?_⟩
    · rw [yas.1 hb];obtain ⟨i,hi,rfl⟩:=(f a).1 n;have g:d[m]!≠d[m-1]!:=by
       have:=yaQ hk;rcases this with q | q
       · omega
       · exact q
      have o:d[i]!≤d[m-1]!:=by
       by_cases q:i=m-1
       · rw [q];exact List.le_refl _
       · exact hs i (m-1) yab yab
      have p:d[m-1]!≤d[m]!:=hs (m-1) m yab yab;refine List.lt_of_le_of_lt o ?_;rcases Decidable.em (d[m-1]! < d[m]!) with q | q
      · exact q
      · exact absurd (List.le_antisymm q p) g
    · rw [yaz,f x,yas];constructor
      · rintro (⟨i,hi,h⟩ | h)
        · exact ⟨i,by omega,h⟩
        · exact ⟨m,by omega,h.symm⟩
      · rintro ⟨i,hi,h⟩;by_cases q:i=m
        · subst q;exact .inr h.symm
        · exact .inl ⟨i,by omega,h⟩
  · rw [yak hk,yaJ];refine ⟨k,fun x=>?_⟩;rw [f x];have s:m≠0∧d[m]! = d[m-1]!:=by
     have:Lib.keeps d m=false:=by simpa using hk
     have:=of_decide_eq_false this;constructor
     · exact fun q=>this (.inl q)
     · exact Classical.byContradiction fun q=>this (.inr q)
    constructor
    · rintro ⟨i,hi,h⟩;exact ⟨i,by omega,h⟩
    · rintro ⟨i,hi,h⟩;by_cases q:i=m
      · subst q;exact ⟨i-1,by omega,by rw [←h];exact s.2.symm⟩
      · exact ⟨i,by omega,h⟩
theorem zoi {l:List (List UInt8)} (h:l.Pairwise fun a b=>a<b):Rises (l.map zcY) :=
 yck.2 (h.imp fun {a b} d=>by rw [zij,zeW,zeW];exact d)
theorem zot (zs:List (List UInt8)):Rises ((Lib.compact (zs.mergeSort fun x y=>decide (x≤y))).map zcY)∧∀k,k ∈ (Lib.compact (zs.mergeSort fun x y=>decide (x≤y))).map zcY↔k ∈ zs.map zcY:=by
 have u:(zs.mergeSort fun x y=>decide (x≤y)).Pairwise fun a b=>decide (a≤b)=true :=
  List.pairwise_mergeSort (le:=fun x y=>decide (x≤y)) (fun a b c o p=>yaD (List.le_trans (yaQ o) (yaQ p))) (fun a b=>by simpa using List.le_total a b) zs
 have z:=List.mergeSort_perm zs fun x y=>decide (x≤y);obtain ⟨m,q⟩:∃m,(zs.mergeSort fun x y=>decide (x≤y))=m:=⟨_,rfl⟩;rw [q] at u z ⊢;have B:∀i j,i<j→j<m.toArray.size→m.toArray[i]!≤m.toArray[j]!:=fun i j s C=>by
  have g:j<m.length:=by simpa using C
  have:=ybF.1 u i j yab g s;simp only [List.getElem!_toArray];rw [getElem!_pos m i yab,getElem!_pos m j g];exact yaQ this
 obtain ⟨o,p⟩:=zeM m.toArray B m.toArray.size (yaj _);have e:Lib.compact m=Lib.compactUpTo m.toArray m.toArray.size:=by simp [Lib.compact]
 rw [e];refine ⟨zoi o,fun k=>?_⟩;rw [yaN,yaN];have A:∀x,x ∈ Lib.compactUpTo m.toArray m.toArray.size↔x ∈ zs:=fun x=>by
  rw [p x,←z.mem_iff];constructor
  · rintro ⟨i,hi,rfl⟩;have n:i<m.length:=by simpa using hi
    rw [List.getElem!_toArray,getElem!_pos m i n];exact List.getElem_mem n
  · intro h;obtain ⟨i,hi,rfl⟩:=yb9 h;exact ⟨i,by simpa using hi,by rw [List.getElem!_toArray,getElem!_pos m i hi]⟩
 exact ⟨fun ⟨x,d,f⟩=>⟨x,(A x).1 d,f⟩,fun ⟨x,d,f⟩=>⟨x,(A x).2 d,f⟩⟩
abbrev Sp:=ByteArray × Int × Int
abbrev Ev:=Int × ByteArray × Bool
def zbC (x:Sp) (r:Int):Bool:=decide (x.2.1≤r) && (decide (x.2.2=0) || decide (r<x.2.2))
def zjd (k:ByteArray) (x:Sp):Bool:=decide (x.1=k) && decide (x.2.2=0)
def zdh (L:List Sp) (k:ByteArray):Int:=match L.findIdx? (zjd k) with
 | some i=>i
 | none=>-1
def zgm (L:List Sp) (last:Int) (k:ByteArray) (r:Int):Option (List Sp):=if r<1∨r<last∨0≤zdh L k then none else some (L ++ [(k,r,0)])
def endAt (L:List Sp) (i:Nat) (r:Int):List Sp:=match L[i]? with
 | some x=>L.set i (x.1,x.2.1,r)
 | none=>L
def zbX (L:List Sp) (last:Int) (k:ByteArray) (r:Int):Option (List Sp):=if r<last∨zdh L k<0∨r≤((L[(zdh L k).toNat]?).map (·.2.1)).getD 0 then none else some (endAt L (zdh L k).toNat r)
def zdC (L:List Sp) (k:ByteArray) (r:Int):Bool:=L.any fun x=>zbC x r && decide (x.1=k)
def zcI (L:List Sp) (r:Int):Nat:=(L.filter fun x=>zbC x r).length
def za9 (a b:Ev):Bool:=if a.1≠b.1 then decide (a.1<b.1) else if a.2.1≠b.2.1 then kl a.2.1 b.2.1 else !a.2.2 && b.2.2
def zk2:List Ev→Ev→List Ev
 | [],x=>[x]
 | a::l,x=>if za9 a x then a::zk2 l x else x::a::l
def evsOf (x:Sp) (a b:Int):List Ev:=(if a<x.2.1∧x.2.1≤b then [(x.2.1,x.1,true)] else []) ++ (if 0<x.2.2∧a<x.2.2∧x.2.2≤b then [(x.2.2,x.1,false)] else [])
def eventsP (L:List Sp) (a b:Int):List Ev:=L.foldl (fun o x=>(evsOf x a b).foldl zk2 o) []
def keptB (r:Int) (x:Sp):Bool:=decide (x.2.2=0) || decide (r<x.2.2)
theorem zn3 {L:List Sp} (h:∀x ∈ L,zjd k x=false):zdh L k = -1:=by
 have:L.findIdx? (zjd k)=none:=List.findIdx?_eq_none_iff.2 h;unfold zdh;rw [this]
theorem zm0:∀(l:List Ev) (x:Ev),(zk2 l x).length=l.length + 1
 | [],_=>rfl
 | a::l,x=>by
  unfold zk2;split
  · rw [yaq,zm0,yaq]
  · rfl
theorem zpc (x:Sp) (a b:Int):(evsOf x a b).length≤2:=by
 unfold evsOf;rw [yam];split <;> split <;> simp
theorem zj7:∀(m l:List Ev),(m.foldl zk2 l).length=l.length + m.length
 | [],_=>rfl
 | x::m,l=>by rw [yb7,zj7,zm0,yaq];omega
theorem zlo (L:List Sp) (a b:Int):(eventsP L a b).length≤2 * L.length:=by
 have:∀(L:List Sp) (o:List Ev),(L.foldl (fun o x=>(evsOf x a b).foldl zk2 o) o).length≤o.length + 2 * L.length:=by
  intro L;induction L with
  | nil=>intro o;exact yaj _
  | cons x r ih =>
   intro o;rw [yb7];have d:=ih ((evsOf x a b).foldl zk2 o);have f:=zj7 (evsOf x a b) o;have g:=zpc x a b;rw [yaq];omega
 have h:=this L [];rw [yaI,yaG] at h;exact h
theorem zbN {a b:Ev}:za9 a b=true↔a.1<b.1∨(a.1=b.1∧(kl a.2.1 b.2.1=true∨(a.2.1=b.2.1∧a.2.2=false∧b.2.2=true))):=by
 unfold za9;by_cases d:a.1=b.1
 · rw [yak (by simpa using d)];by_cases f:a.2.1=b.2.1
   · rw [yak (by simpa using f),f,zik];simp [d]
   · rw [yan f];simp [d,f]
 · rw [yan d];simp [d]
theorem zhW (a:Ev):za9 a a=false:=by
 cases h:za9 a a with
 | false=>rfl
 | true =>
  rcases zbN.1 h with h | ⟨_,h | ⟨_,h,k⟩⟩
  · omega
  · rw [zik] at h;cases h
  · rw [h] at k;cases k
theorem zdx {a b c:Ev} (h:za9 a b=true) (k:za9 b c=true):za9 a c=true:=by
 rw [zbN] at h k ⊢;rcases h with h | ⟨h,f⟩
 · rcases k with k | ⟨k,_⟩
   · exact Or.inl yab
   · exact Or.inl yab
 · rcases k with k | ⟨k,d⟩
   · exact Or.inl yab
   · refine Or.inr ⟨h.trans k,?_⟩;rcases f with f | ⟨f,m,j⟩
     · rcases d with d | ⟨d,_,_⟩
       · exact Or.inl (zcJ f d)
       · exact Or.inl (d ▸ f)
     · rcases d with d | ⟨d,g,n⟩
       · exact Or.inl (f ▸ d)
       · rw [j] at g;cases g
theorem zla {a b:Ev} (h:za9 a b=true):za9 b a=false:=by
 cases k:za9 b a with
 | false=>rfl
 | true=>exact absurd (zdx h k) (by rw [zhW];decide)
theorem zhX {a b:Ev} (h:za9 a b=false) (k:za9 b a=false):a=b:=by
 have f:¬za9 a b=true:=by rw [h];decide
 have g:¬za9 b a=true:=by rw [k];decide
 rw [zbN] at f g;have d:a.1=b.1:=by omega
 have j:a.2.1=b.2.1:=by
  refine zkj ?_ ?_
  · cases q:kl a.2.1 b.2.1 with
    | false=>rfl
    | true=>exact absurd (Or.inr ⟨d,Or.inl q⟩) f
  · cases q:kl b.2.1 a.2.1 with
    | false=>rfl
    | true=>exact absurd (Or.inr ⟨d.symm,Or.inl q⟩) g
 have m:a.2.2=b.2.2:=by
  cases p:a.2.2 <;> cases q:b.2.2
  · rfl
  · exact absurd (Or.inr ⟨d,Or.inr ⟨j,p,q⟩⟩) f
  · exact absurd (Or.inr ⟨d.symm,Or.inr ⟨j.symm,q,p⟩⟩) g
  · rfl
 exact yb5 d (yb5 j m)
def LeE (a b:Ev):Prop:=za9 b a=false
theorem LeE.trans {a b c:Ev} (h:LeE a b) (k:LeE b c):LeE a c:=by
 unfold LeE at *
 cases q:za9 c a with
 | false=>rfl
 | true =>
  cases p:za9 a b with
  | true=>rw [zdx q p] at k;cases k
  | false =>
   obtain rfl:=zhX p h;rw [q] at k;cases k
theorem LeE.antisymm {a b:Ev} (h:LeE a b) (k:LeE b a):a=b:=zhX k h
theorem LeE.of_lt {a b:Ev} (h:za9 a b=true):LeE a b:=zla h
def zfl (l:List Ev):Prop:=l.Pairwise LeE
theorem zhh:∀(l:List Ev) (x:Ev),(zk2 l x).Perm (x::l)
 | [],_=>yco _
 | a::l,x=>by
  unfold zk2;split
  · exact ((zhh l x).cons a).trans (List.Perm.swap x a l)
  · exact yco _
theorem zkK:∀{l:List Ev} (x:Ev),zfl l→zfl (zk2 l x)
 | [],_,_=>ybW _ _
 | a::l,x,h=>by
  have d:=yaM.1 h;unfold zk2;cases q:za9 a x with
  | true =>
   rw [yan rfl];refine yaM.2 ⟨fun y b=>?_,zkK x d.2⟩;rcases yav.1 ((zhh l x).mem_iff.1 b) with rfl | b
   · exact LeE.of_lt q
   · exact d.1 y b
  | false =>
   rw [yak (by decide)];refine yaM.2 ⟨fun y b=>?_,h⟩;rcases yav.1 b with rfl | b
   · exact q
   · exact LeE.trans q (d.1 y b)
theorem zeA:∀{l m:List Ev},zfl l→zfl m→l.Perm m→l=m
 | [],m,_,_,h=>by rw [List.nil_perm.1 h]
 | a::l,[],_,_,h=>absurd h.length_eq yaf
 | a::l,b::m,k,n,h=>by
  have d:=yaM.1 k;have f:=yaM.1 n;have e:a=b:=by
   have g:a ∈ b::m:=h.mem_iff.1 yat;have j:b ∈ a::l:=h.mem_iff.2 yat;rcases yav.1 g with e | g
   · exact e
   · rcases yav.1 j with e | j
     · exact e.symm
     · exact LeE.antisymm (d.1 b j) (f.1 a g)
  subst e;rw [zeA d.2 f.2 (List.Perm.cons_inv h)]
theorem zh9:∀(m l:List Ev),(m.foldl zk2 l).Perm (l ++ m)
 | [],l=>by rw [yaJ];exact yco _
 | x::m,l=>by
  rw [yb7];refine (zh9 m (zk2 l x)).trans ?_;refine ((zhh l x).append_right m).trans ?_;exact (List.perm_middle (a:=x) (l₁:=l) (l₂:=m)).symm
theorem zia:∀(m:List Ev) {l:List Ev},zfl l→zfl (m.foldl zk2 l)
 | [],_,h=>h
 | x::m,_,h=>zia m (zkK x h)
theorem zer (a b:Int):∀(L:List Sp) (o:List Ev),zfl o→zfl (L.foldl (fun o x=>(evsOf x a b).foldl zk2 o) o)∧(L.foldl (fun o x=>(evsOf x a b).foldl zk2 o) o).Perm (o ++ L.flatMap fun x=>evsOf x a b)
 | [],o,h=>⟨h,by simp⟩
 | x::L,o,h=>by
  obtain ⟨d,f⟩:=zer a b L _ (zia (evsOf x a b) h);refine ⟨d,f.trans ?_⟩;rw [yaS,←yaB];exact (zh9 _ _).append_right _
theorem zfS (L:List Sp) (a b:Int):zfl (eventsP L a b):=(zer a b L [] List.Pairwise.nil).1
theorem zdA (L:List Sp) (a b:Int):(eventsP L a b).Perm (L.flatMap fun x=>evsOf x a b):=by
 have h:=(zer a b L [] List.Pairwise.nil).2;rwa [yba] at h
theorem zc2 {x:Sp} {a b:Int} {e:Ev}:e ∈ evsOf x a b↔(a<e.1∧e.1≤b)∧((e=(x.2.1,x.1,true))∨(0<x.2.2∧e=(x.2.2,x.1,false))):=by
 unfold evsOf;rw [yaz];constructor
 · rintro (h | h)
   · split at h
     · next q=>rw [yas] at h;subst h;exact ⟨q,Or.inl rfl⟩
     · cases h
   · split at h
     · next q=>rw [yas] at h;subst h;exact ⟨⟨q.2.1,q.2.2⟩,Or.inr ⟨q.1,rfl⟩⟩
     · cases h
 · rintro ⟨h,rfl | ⟨d,rfl⟩⟩
   · exact Or.inl (by rw [yan h];exact yas.2 rfl)
   · exact Or.inr (by rw [yan ⟨d,h.1,h.2⟩];exact yas.2 rfl)
theorem zlH {L:List Sp} {a b:Int} {e:Ev}:e ∈ eventsP L a b↔∃x ∈ L,e ∈ evsOf x a b:=by
 rw [(zdA L a b).mem_iff,ybz]
structure FineS (L:List Sp) (last:Int):Prop where
 at_:∀x ∈ L,1≤x.2.1∧x.2.1≤last∧(x.2.2=0∨(x.2.1<x.2.2∧x.2.2≤last))
 two:L.Pairwise fun x y=>x.1=y.1→x.2.2≠0∧x.2.2≤y.2.1
 zero:0≤last
theorem FineS.nil:FineS [] 0:=⟨fun _ h=>(by cases h),List.Pairwise.nil,ybp _⟩
theorem ze4 {L:List Sp} (h:¬zdh L k<0):∃(i:Nat) (x:Sp),zdh L k=i∧L[i]? = some x∧x.1=k∧x.2.2=0:=by
 unfold zdh at h ⊢;cases e:L.findIdx? (zjd k) with
 | none=>rw [e] at h;exact absurd yac h
 | some i =>
  obtain ⟨hi,b,_⟩:=List.findIdx?_eq_some_iff_getElem.1 e;unfold zjd at b;rw [ya9,yaP,yaP] at b;exact ⟨i,L[i],rfl,yal hi,b.1,b.2⟩
theorem zgk {L:List Sp} (h:zdh L k<0):∀x ∈ L,x.1=k→x.2.2≠0:=by
 unfold zdh at h;cases e:L.findIdx? (zjd k) with
 | some i=>rw [e] at h;simp only at h;omega
 | none =>
  intro x b hk d;have:=List.findIdx?_eq_none_iff.1 e x b;unfold zjd at this;rw [yaD hk,yaD d] at this;cases this
theorem zhi {L L':List Sp} (h:zgm L last k r=some L'):1≤r∧last≤r∧zdh L k<0∧L'=L ++ [(k,r,0)]:=by
 unfold zgm at h;split at h
 · cases h
 · next q=>injection h with h;exact ⟨by omega,by omega,by omega,h.symm⟩
theorem FineS.put {L L':List Sp} (hf:FineS L last) (h:zgm L last k r=some L'):FineS L' r:=by
 obtain ⟨f,n,g,rfl⟩:=zhi h;have j:=zgk g;refine ⟨fun x b=>?_,yb6.2 ⟨hf.two,ybW _ _,fun x b y d e=>?_⟩,by omega⟩
 · rcases yaz.1 b with b | b
   · have:=hf.at_ x b;exact ⟨this.1,by omega,by omega⟩
   · rw [yas] at b;subst b;exact ⟨f,ybp _,Or.inl rfl⟩
 · rw [yas] at d;subst d;have:=hf.at_ x b;have m:=j x b e;exact ⟨m,by show x.2.2≤r;omega⟩
theorem zft {L L':List Sp} (h:zbX L last k r=some L'):∃(i:Nat) (x:Sp),last≤r∧zdh L k=i∧L[i]? = some x∧x.1=k∧x.2.2=0∧x.2.1<r∧L'=L.set i (k,x.2.1,r):=by
 unfold zbX at h;split at h
 · cases h
 · next q =>
   injection h with h
   obtain ⟨i,x,b,d,f,g⟩:=ze4 (L:=L) (k:=k) yab;rw [b,show ((i:Int)).toNat=i from rfl,d,ybE,Option.getD_some] at q;refine ⟨i,x,by omega,b,d,f,g,by omega,?_⟩;rw [←h,b,show ((i:Int)).toNat=i from rfl];unfold endAt;rw [d,←f]
theorem FineS.drop {L L':List Sp} (hf:FineS L last) (h:zbX L last k r=some L'):FineS L' r:=by
 obtain ⟨i,x,J,s,u,o,C,D,rfl⟩:=zft h;obtain ⟨hi,m⟩:=yao.1 u;have p:L=L.take i ++ x::L.drop (i + 1):=by rw [←m,←ya3 hi,ybg]
 have f:L.set i (k,x.2.1,r)=L.take i ++ (k,x.2.1,r)::L.drop (i + 1):=by rw [ycn,yan hi]
 have g:=hf.two;have d:=hf.at_;rw [f];rw [p] at g d;have j:(L.take i).length=i:=by rw [yaK];omega
 generalize L.take i=A at *
 generalize L.drop (i + 1)=B at *
 clear p f j s;obtain ⟨E,F,q⟩:=yb6.1 g;obtain ⟨G,H⟩:=yaM.1 F;have I:=d x (ycg _ yat);refine ⟨fun y b=>?_,yb6.2 ⟨E,yaM.2 ⟨fun y b e=>?_,H⟩,fun y b z n e=>?_⟩,by have:=hf.zero;omega⟩
 · have key:y ∈ A∨y=(k,x.2.1,r)∨y ∈ B:=by
    rcases yaz.1 b with b | b
    · exact Or.inl b
    · exact Or.inr (yav.1 b)
   rcases key with b | rfl | b
   · have:=d y (List.mem_append_left _ b);exact ⟨this.1,by omega,by omega⟩
   · exact ⟨I.1,by show x.2.1≤r;omega,Or.inr ⟨D,ybp _⟩⟩
   · have:=d y (ycg _ (yau _ b));exact ⟨this.1,by omega,by omega⟩
 · exact absurd C (G y b (o.trans e)).1
 · rcases yav.1 n with rfl | n
   · exact q y b x yat (e.trans o.symm)
   · exact q y b z (yau _ n) e
end
section
open Go.RowKit
def ecl (x:Ev):List Value:=[.int .i64 x.1,.string x.2.1,.bool x.2.2]
def ecs (l:List Ev):List Value:=l.flatMap ecl
theorem zgL (x:Ev):∀u ∈ ecl x,u.oneCell'=true:=by
 intro u b;simp only [ecl,yav,ya1,ybw] at b;rcases b with rfl | rfl | rfl <;> rfl
theorem zlm (l:List Ev):(ecs l).length=l.length * 3:=by
 induction l with
 | nil=>rfl
 | cons a t ih=>rw [ecs,yaS,yam,←ecs,ih];simp [ecl];omega
theorem ecs_get {l:List Ev} {i:Nat} {x:Ev} (h:l[i]? = some x):(ecs l)[i * 3]? = some (.int .i64 x.1)∧(ecs l)[i * 3 + 1]? = some (.string x.2.1)∧(ecs l)[i * 3 + 2]? = some (.bool x.2.2):=by
 induction l generalizing i with
 | nil=>simp at h
 | cons a t ih =>
  rw [ecs,yaS,←ecs];cases i with
  | zero =>
   simp at h;subst h;exact ⟨rfl,rfl,rfl⟩
  | succ i =>
   obtain ⟨b,d,f⟩:=ih (by simpa using h);rw [yaF (by simp [ecl];omega),yaF (by simp [ecl];omega),yaF (by simp [ecl];omega)];simp only [ecl,yaq,yaI];rw [show (i + 1) * 3-(0 + 1 + 1 + 1)=i * 3 by omega,show (i + 1) * 3 + 1-(0 + 1 + 1 + 1)=i * 3 + 1 by omega,show (i + 1) * 3 + 2-(0 + 1 + 1 + 1)=i * 3 + 2 by omega];exact ⟨b,d,f⟩
theorem rd_ev {w:World} {B n c:Nat} {A:Option Addr} {l:List Ev} (h:Rd w B 3 A n c (ecs l)) {i:Nat} {x:Ev} (hi:l[i]? = some x) :
 ∃b o,A=some ⟨b,o,none⟩∧b<B∧w.cell? ⟨b,o + i * 3,none⟩=some (.int .i64 x.1)∧w.cell? ⟨b,o + i * 3 + 1,none⟩=some (.string x.2.1)∧w.cell? ⟨b,o + i * 3 + 2,none⟩=some (.bool x.2.2):=by
 have k:0<n:=by
  have f:=h.len;have g:=zlm l;have j:=zg4 hi;omega
 obtain ⟨b,o,e,hb,d⟩:=h.at_ k;obtain ⟨f,g,j⟩:=ecs_get hi;exact ⟨b,o,e,hb,d _ _ f,by rw [ya4];exact d _ _ g,by rw [ya4];exact d _ _ j⟩
structure Own14 (F F':Nat→Prop) (w w':World):Prop where
 le:w.heap.size≤w'.heap.size
 old:∀b,b<w.heap.size→¬F b→w'.heap[b]? = w.heap[b]?
 grow:∀b,F' b→F b∨w.heap.size≤b
 rest:∀B,B≤w.heap.size→(∀b,F b→B≤b)→Below B w w'
structure SpK (S:World→(Nat→Prop)→Nat→List Sp→Int→Prop):Prop where
 lt:∀{w F g L last},S w F g L last→∀b,F b→b<w.heap.size
 keep:∀{w w' F g L last},S w F g L last→(∀b,F b→w'.heap[b]? = w.heap[b]?)→S w' F g L last
 new:∀w,Calls Tryz.prog 32 #[] w fun e w'=>∃g F,e = .returned (.pointer (some ⟨g,0,none⟩))∧S w' F g [] 0∧(∀b,F b→w.heap.size≤b)∧Below w.heap.size w w'
 put:∀{w F g L last} (k:ByteArray) (r:Int),S w F g L last→FineS L last→L.length≤100000→k.size≤1000000→Calls Tryz.prog 71 #[.pointer (some ⟨g,0,none⟩),.string k,.int .i64 r] w fun e w'=>∃F',e = .returned (.bool (zgm L last k r).isSome)∧S w' F' g ((zgm L last k r).getD L) (if (zgm L last k r).isSome then r else last)∧Own14 F F' w w'
 drop:∀{w F g L last} (k:ByteArray) (r:Int),S w F g L last→FineS L last→L.length≤100000→k.size≤1000000→Calls Tryz.prog 72 #[.pointer (some ⟨g,0,none⟩),.string k,.int .i64 r] w fun e w'=>∃F',e = .returned (.bool (zbX L last k r).isSome)∧S w' F' g ((zbX L last k r).getD L) (if (zbX L last k r).isSome then r else last)∧Own14 F F' w w'
 has:∀{w F g L last} (k:ByteArray) (r:Int),S w F g L last→FineS L last→L.length≤100000→k.size≤maxLen→Calls Tryz.prog 62 #[.pointer (some ⟨g,0,none⟩),.string k,.int .i64 r] w fun e w'=>e = .returned (.bool (zdC L k r))∧Below w.heap.size w w'
 count:∀{w F g L last} (r:Int),S w F g L last→FineS L last→L.length≤100000→Calls Tryz.prog 56 #[.pointer (some ⟨g,0,none⟩),.int .i64 r] w fun e w'=>e = .returned (.int .i64 (zcI L r))∧Below w.heap.size w w'
 events:∀{w F g L last} (a b:Int),S w F g L last→FineS L last→L.length≤100000→Calls Tryz.prog 60 #[.pointer (some ⟨g,0,none⟩),.int .i64 a,.int .i64 b] w fun e w'=>∃A c,e = .returned (.slice A (eventsP L a b).length c)∧Rd w' w'.heap.size 3 A (eventsP L a b).length c (ecs (eventsP L a b))∧Below w.heap.size w w'
theorem FineS.putD {L:List Sp} {last r:Int} {k:ByteArray} (h:FineS L last):FineS ((zgm L last k r).getD L) (if (zgm L last k r).isSome then r else last):=by
 cases e:zgm L last k r with
 | none=>exact h
 | some b=>exact h.put e
theorem FineS.dropD {L:List Sp} {last r:Int} {k:ByteArray} (h:FineS L last):FineS ((zbX L last k r).getD L) (if (zbX L last k r).isSome then r else last):=by
 cases e:zbX L last k r with
 | none=>exact h
 | some b=>exact h.drop e
theorem zqF (L:List Sp) (last r:Int) (k:ByteArray):((zgm L last k r).getD L).length≤L.length + 1:=by
 cases e:zgm L last k r with
 | none=>exact ya8 _
 | some b =>
  obtain ⟨_,_,_,rfl⟩:=zhi e;simp
theorem znC (L:List Sp) (last r:Int) (k:ByteArray):((zbX L last k r).getD L).length=L.length:=by
 cases e:zbX L last k r with
 | none=>rfl
 | some b =>
  obtain ⟨i,x,_,_,_,_,_,_,rfl⟩:=zft e;simp
end
end Go.Proofs.YtmblgnddgmfkhaaGreat
