import GoSem.Op.String
import Derived.Laws.Strings
import Derived.Lib.SlicesCompact
import Derived.Laws.Cover1
import Derived.LoopTactic
import Derived.Lib.Walk
import Derived.Shelf.SlSortCmp.QuietGrown
import Derived.Test.YtmblgnddgmfkhaaGreatK26
set_option maxRecDepth 100000
set_option maxHeartbeats 4000000
namespace Go.Proofs.YtmblgnddgmfkhaaGreat
section
variable {a b k:ByteArray} {t s l:List ByteArray} {r last:Int} {c:ByteArray × Bool} {i:Nat}
theorem zpK:∀(x y:List UInt8),Op.bytesLess x y=decide (x<y)
 | [],[]=>by simp [Op.bytesLess]
 | _::_,[]=>by simp [Op.bytesLess]
 | [],_::_=>by simp [Op.bytesLess]
 | c::x,d::y=>by
  rw [Op.bytesLess,zpK x y];simp only [List.cons_lt_cons_iff];by_cases b:c<d <;> by_cases f:c=d <;> by_cases g:x<y <;> simp [b,f,g]
def kl (a b:ByteArray):Bool:=Op.bytesLess a.toList b.toList
theorem zi0:kl a b=true↔a.toList<b.toList:=by
 unfold kl;rw [zpK,yaP]
theorem znn:kl a b=false↔b.toList≤a.toList:=by
 unfold kl;rw [zpK,yby];exact Iff.rfl
theorem zr4 (h:a.toList=b.toList):a=b:=by
 rw [ByteArray.toList_eq,ByteArray.toList_eq] at h;exact ByteArray.ext (ycK.1 h)
theorem tl_eq (a b:ByteArray):(a.toList == b.toList)=decide (a=b):=by
 by_cases h:a=b
 · subst h;simp
 · rw [yaF h,ybh];exact fun e=>h (zr4 e)
theorem zi1 (a:ByteArray):kl a a=false:=znn.2 (List.le_refl _)
theorem zc0 {c:ByteArray} (h:kl a b=true) (k:kl b c=true):kl a c=true:=zi0.2 (List.lt_trans (zi0.1 h) (zi0.1 k))
theorem zqC (h:kl a b=true):kl b a=false:=znn.2 (List.le_of_lt (zi0.1 h))
theorem zkS (h:kl a b=false) (k:kl b a=false):a=b:=zr4 (List.le_antisymm (znn.1 k) (znn.1 h))
theorem zfv (h:kl a b=true):a≠b:=fun e=>by subst e;rw [zi1] at h;cases h
theorem kl_up (h:a≠b) (k:kl a b=false):kl b a=true:=by
 cases e:kl b a
 · exact absurd (zkS k e) h
 · rfl
def Rises (l:List ByteArray):Prop:=l.Pairwise fun a b=>kl a b=true
theorem Rises.nodup (h:Rises l):l.Nodup:=h.imp fun b=>zfv b
theorem zeJ {a b:List ByteArray} (ha:Rises a) (hb:Rises b) (h:∀k,k ∈ a↔k ∈ b):a=b :=
 List.Perm.eq_of_pairwise (le:=fun a b=>kl a b=true) (fun x y _ _ g f=>by rw [zqC g] at f;cases f) ha hb ((yck ha.nodup hb.nodup).2 h)
theorem Rises.filter (h:Rises l) (p:ByteArray→Bool):Rises (l.filter p):=List.Pairwise.filter p h
theorem zk2:∀{l m:List ByteArray},l.Nodup→(∀x ∈ l,x ∈ m)→l.length≤m.length
 | [],_,_,_=>yao _
 | a::l,m,h,k=>by
  obtain ⟨f,g⟩:=ybS.1 h;obtain ⟨p,q,rfl⟩:=yci (k a (yar ..));have:=zk2 (m:=p ++ q) g fun x b=>by
   have:=k x (yau _ b);simp only [yaA,yaw] at this ⊢;rcases this with h | h | h
   · exact .inl h
   · subst h;exact absurd b f
   · exact .inr h
  simp only [yam,yat] at *
  omega
theorem Rises.len {m:List ByteArray} (h:Rises l) (k:∀x ∈ l,x ∈ m):l.length≤m.length:=zk2 h.nodup k
theorem Rises.at_ (h:Rises l) {j:Nat} (ha:l[i]? = some a) (hb:l[j]? = some b) (hij:i<j):kl a b=true:=by
 obtain ⟨f,rfl⟩:=yap.1 ha;obtain ⟨g,rfl⟩:=yap.1 hb;exact ybN.1 h i j f g hij
def hasK (l:List ByteArray) (k:ByteArray):Bool:=l.any fun a=>decide (k=a)
theorem zar:hasK l k=true↔k ∈ l:=by simp [hasK]
theorem zbg:hasK l k=false↔k ∉ l:=by rw [←zar,yb5]
theorem zjx (k:ByteArray):hasK [] k=false:=rfl
theorem zdc (a:ByteArray) (l:List ByteArray) (k:ByteArray):hasK (a::l) k=(decide (k=a) || hasK l k):=rfl
def zfR:List ByteArray→ByteArray→List ByteArray
 | [],k=>[k]
 | a::l,k=>if kl a k then a::zfR l k else k::a::l
def zmu (l:List ByteArray) (k:ByteArray):List ByteArray:=l.filter fun a=>!decide (a=k)
theorem zcz:∀{l:List ByteArray} {k x:ByteArray},x ∈ zfR l k↔x=k∨x ∈ l
 | [],k,x=>by simp [zfR]
 | a::l,k,x=>by
  unfold zfR;split
  · rw [yaw,zcz,yaw];constructor
    · rintro (h | h | h)
      · exact .inr (.inl h)
      · exact .inl h
      · exact .inr (.inr h)
    · rintro (h | h | h)
      · exact .inr (.inl h)
      · exact .inl h
      · exact .inr (.inr h)
  · rw [yaw]
theorem zeB:∀{l:List ByteArray} {k:ByteArray},Rises l→k ∉ l→Rises (zfR l k)
 | [],k,_,_=>by simp [zfR,Rises]
 | a::l,k,h,hk=>by
  obtain ⟨g,j⟩:=yaQ.1 h;unfold zfR;split
  · rename_i q
    refine yaQ.2 ⟨fun x b=>?_,zeB j fun e=>hk (yau _ e)⟩;rcases zcz.1 b with rfl | b
    · exact q
    · exact g x b
  · rename_i q
    have f:kl k a=true:=kl_up (fun e=>hk (by rw [←e];exact yar ..)) (by simpa using q);refine yaQ.2 ⟨fun x b=>?_,h⟩;rcases yaw.1 b with rfl | b
    · exact f
    · exact zc0 f (g x b)
theorem zdC:∀(l:List ByteArray) (k:ByteArray),(zfR l k).length=l.length + 1
 | [],k=>rfl
 | a::l,k=>by
  unfold zfR;split
  · rw [yat,zdC,yat]
  · rfl
theorem zrt:∀{l:List ByteArray} {k:ByteArray} {i:Nat},i≤l.length→(∀(j:Nat) a,j<i→l[j]? = some a→kl a k=true)→(∀a,l[i]? = some a→kl a k=false)→zfR l k=l.take i ++ k::l.drop i
 | [],k,i,hi,_,_=>by
  have:i=0:=by simpa using hi
  subst this;rfl
 | a::l,k,0,_,_,h=>by
  unfold zfR;rw [h a rfl,yak (by decide)];rfl
 | a::l,k,i + 1,hi,f,g=>by
  unfold zfR;rw [f 0 a yab rfl,yan rfl,zrt (by simpa using hi) (fun j b m hb=>f (j + 1) b yab (by simpa using hb)) fun b hb=>g b (by simpa using hb)];rfl
theorem zjU {x:ByteArray}:x ∈ zmu l k↔x ∈ l∧x≠k:=by simp [zmu]
theorem zoP (h:Rises l):Rises (zmu l k):=h.filter _
theorem znB (l:List ByteArray) (k:ByteArray):(zmu l k).length≤l.length:=yba _ _
def ziq (s:List ByteArray):List (ByteArray × Bool)→Option Nat
 | []=>none
 | p::r=>if hasK s p.1=p.2 then (ziq s r).map (· + 1) else some 0
def zct:List ByteArray→List (ByteArray × Bool)→Nat→List ByteArray × Nat × Nat
 | t,[],_=>(t,0,0)
 | t,c::r,i=>if hasK t c.1 then (if c.2 then ([],32,i) else zct (zmu t c.1) r (i + 1)) else (if c.2 then zct (zfR t c.1) r (i + 1) else ([],41,i))
def zcm (s:List ByteArray) (p c:List (ByteArray × Bool)):List ByteArray × Nat × Nat:=match ziq s p with
 | some i=>([],41,i)
 | none=>zct s c p.length
def zkg (t:List ByteArray) (c:ByteArray × Bool):List ByteArray:=if c.2 then zfR t c.1 else zmu t c.1
theorem zb1 {r:List (ByteArray × Bool)} (h:hasK t c.1 = !c.2):zct t (c::r) i=zct (zkg t c) r (i + 1):=by
 obtain ⟨k,b⟩:=c;cases b <;> simp_all [zct,zkg]
theorem zb7 {r:List (ByteArray × Bool)} (h:hasK t c.1=c.2):zct t (c::r) i=([],if c.2 then 32 else 41,i):=by
 obtain ⟨k,b⟩:=c;cases b <;> simp_all [zct]
theorem zcJ (h:Rises t) (k:hasK t c.1 = !c.2):Rises (zkg t c):=by
 unfold zkg;split
 · rename_i q
   rw [q] at k;exact zeB h (zbg.1 k)
 · exact zoP h
theorem zbT (k:hasK t c.1 = !c.2) (x:ByteArray):hasK (zkg t c) x=if x=c.1 then c.2 else hasK t x:=by
 obtain ⟨y,b⟩:=c;dsimp only at *
 cases b
 · unfold zkg;by_cases e:x=y
   · rw [yan e];exact zbg.2 fun h=>(zjU.1 h).2 e
   · rw [yak e,ya9,zar,zar];exact ⟨fun h=>(zjU.1 h).1,fun h=>zjU.2 ⟨h,e⟩⟩
 · unfold zkg;by_cases e:x=y
   · rw [yan e];exact zar.2 (zcz.2 (.inl e))
   · rw [yak e,ya9,zar,zar];exact ⟨fun h=>(zcz.1 h).resolve_left e,fun h=>zcz.2 (.inr h)⟩
theorem oneS_len (t:List ByteArray) (c:ByteArray × Bool):(zkg t c).length≤t.length + 1:=by
 unfold zkg;split
 · rw [zdC];exact yaj _
 · exact yay (znB _ _) (ybd _)
theorem zfW:∀{c:List (ByteArray × Bool)} {t:List ByteArray} {i:Nat},Rises t→Rises (zct t c i).1
 | [],t,i,h=>h
 | c::r,t,i,h=>by
  by_cases k:hasK t c.1 = !c.2
  · rw [zb1 k];exact zfW (zcJ h k)
  · rw [zb7 (by cases q:c.2 <;> simp_all)];exact List.Pairwise.nil
theorem zlh:∀{p:List (ByteArray × Bool)},(∀x ∈ p,hasK s x.1=x.2)→ziq s p=none
 | [],_=>rfl
 | x::r,h=>by
  unfold ziq;rw [yan (h x (yar ..)),zlh fun y b=>h y (yau _ b)];rfl
theorem zlj:∀{p:List (ByteArray × Bool)} {i:Nat} {x:ByteArray × Bool},(∀(j:Nat) y,j<i→p[j]? = some y→hasK s y.1=y.2)→p[i]? = some x→hasK s x.1≠x.2→ziq s p=some i
 | [],i,x,_,h,_=>by simp at h
 | y::r,0,x,_,h,k=>by
  simp at h;subst h;unfold ziq;rw [yak k]
 | y::r,i + 1,x,g,h,k=>by
  unfold ziq;rw [yan (g 0 y yab rfl),zlj (i:=i) (x:=x) (fun j z f b=>g (j + 1) z yab (by simpa using b)) (by simpa using h) k];rfl
def zaO (s t:List ByteArray):List (ByteArray × Bool):=match s,t with
 | [],[]=>[]
 | a::s,[]=>(a,false)::zaO s []
 | [],b::t=>(b,true)::zaO [] t
 | a::s,b::t=>if kl a b then (a,false)::zaO s (b::t) else if kl b a then (b,true)::zaO (a::s) t else zaO s t
termination_by s.length + t.length
theorem zm6:zaO [] []=[]:=by rw [zaO]
theorem zfl (h:∀b,t.head? = some b→kl a b=true):zaO (a::s) t=(a,false)::zaO s t:=by
 cases t with
 | nil=>rw [zaO]
 | cons b t=>rw [zaO,yan (h b rfl)]
theorem zeq (h:∀a,s.head? = some a→kl a b=false∧kl b a=true):zaO s (b::t)=(b,true)::zaO s t:=by
 cases s with
 | nil=>rw [zaO]
 | cons a s=>rw [zaO,yak (by rw [(h a rfl).1];decide),yan (h a rfl).2]
theorem zkw (h:kl a b=false) (k:kl b a=false):zaO (a::s) (b::t)=zaO s t:=by
 rw [zaO,yak (by rw [h];decide),yak (by rw [k];decide)]
theorem zm5 (s t:List ByteArray):(zaO s t).length≤s.length + t.length:=by
 induction s,t using zaO.induct with
 | case1=>rw [zaO];exact yao _
 | case2 a s ih=>rw [zaO];simp only [yat];omega
 | case3 b t ih=>rw [zaO];simp only [yat];omega
 | case4 a s b t h ih=>rw [zaO,yan h];simp only [yat] at *;omega
 | case5 a s b t h k ih=>rw [zaO,yak h,yan k];simp only [yat] at *;omega
 | case6 a s b t h k ih=>rw [zaO,yak h,yak k];simp only [yat] at *;omega
theorem zbL (hs:Rises s) (ht:Rises t) (x:ByteArray) (e:Bool):(x,e) ∈ zaO s t↔hasK t x=e∧hasK s x = !e:=by
 induction s,t using zaO.induct with
 | case1=>rw [zaO,zjx];cases e <;> simp
 | case2 a s ih =>
  obtain ⟨f,g⟩:=yaQ.1 hs;have j:hasK s a=false:=zbg.2 fun q=>zfv (f a q) rfl;rw [zaO,yaw,ih g ht,zdc,zjx];by_cases q:x=a
  · subst q;cases e <;> simp [j]
  · cases e <;> simp [q]
 | case3 b t ih =>
  obtain ⟨f,g⟩:=yaQ.1 ht;have nb:hasK t b=false:=zbg.2 fun q=>zfv (f b q) rfl;rw [zaO,yaw,ih hs g,zdc,zjx];by_cases q:x=b
  · subst q;cases e <;> simp [nb]
  · cases e <;> simp [q]
 | case4 a s b t h ih =>
  obtain ⟨f,g⟩:=yaQ.1 hs;obtain ⟨m,n⟩:=yaQ.1 ht;have nb:hasK (b::t) a=false:=zbg.2 fun q=>by
   rcases yaw.1 q with q | q
   · exact zfv h q
   · exact zfv (zc0 h (m a q)) rfl
  have j:hasK s a=false:=zbg.2 fun q=>zfv (f a q) rfl;rw [zaO,yan h,yaw,ih g ht,zdc a];by_cases q:x=a
  · subst q;cases e <;> simp [j,nb]
  · cases e <;> simp [q]
 | case5 a s b t h k ih =>
  obtain ⟨f,g⟩:=yaQ.1 hs;obtain ⟨m,n⟩:=yaQ.1 ht;have nb:hasK (a::s) b=false:=zbg.2 fun q=>by
   rcases yaw.1 q with q | q
   · exact zfv k q
   · exact zfv (zc0 k (f b q)) rfl
  have j:hasK t b=false:=zbg.2 fun q=>zfv (m b q) rfl;rw [zaO,yak h,yan k,yaw,ih hs n,zdc b];by_cases q:x=b
  · subst q;cases e <;> simp [j,nb]
  · cases e <;> simp [q]
 | case6 a s b t h k ih =>
  obtain ⟨f,g⟩:=yaQ.1 hs;obtain ⟨m,n⟩:=yaQ.1 ht;have o:a=b:=zkS (by simpa using h) (by simpa using k);subst o;have u:hasK s a=false:=zbg.2 fun q=>zfv (f a q) rfl;have y:hasK t a=false:=zbg.2 fun q=>zfv (m a q) rfl;rw [zaO,yak h,yak k,ih g n,zdc,zdc];by_cases q:x=a
  · subst q;cases e <;> simp [u,y]
  · cases e <;> simp [q]
theorem zdX {x:ByteArray × Bool} (h:x ∈ zaO s t):x.1 ∈ s∨x.1 ∈ t:=by
 induction s,t using zaO.induct with
 | case1=>rw [zaO] at h;cases h
 | case2 a s ih =>
  rw [zaO] at h;rcases yaw.1 h with rfl | h
  · exact .inl (yar ..)
  · exact (ih h).imp (yau _) id
 | case3 b t ih =>
  rw [zaO] at h;rcases yaw.1 h with rfl | h
  · exact .inr (yar ..)
  · exact (ih h).imp id (yau _)
 | case4 a s b t q ih =>
  rw [zaO,yan q] at h;rcases yaw.1 h with rfl | h
  · exact .inl (yar ..)
  · exact (ih h).imp (yau _) id
 | case5 a s b t q k ih =>
  rw [zaO,yak q,yan k] at h;rcases yaw.1 h with rfl | h
  · exact .inr (yar ..)
  · exact (ih h).imp id (yau _)
 | case6 a s b t q k ih =>
  rw [zaO,yak q,yak k] at h;exact (ih h).imp (yau _) (yau _)
theorem zer (hs:Rises s) (ht:Rises t):(zaO s t).Pairwise fun a b=>kl a.1 b.1=true:=by
 induction s,t using zaO.induct with
 | case1=>rw [zaO];exact List.Pairwise.nil
 | case2 a s ih =>
  obtain ⟨f,j⟩:=yaQ.1 hs;rw [zaO];refine yaQ.2 ⟨fun x g=>?_,ih j ht⟩;rcases zdX g with q | q
  · exact f _ q
  · cases q
 | case3 b t ih =>
  obtain ⟨f,j⟩:=yaQ.1 ht;rw [zaO];refine yaQ.2 ⟨fun x g=>?_,ih hs j⟩;rcases zdX g with q | q
  · cases q
  · exact f _ q
 | case4 a s b t h ih =>
  obtain ⟨f,j⟩:=yaQ.1 hs;obtain ⟨m,n⟩:=yaQ.1 ht;rw [zaO,yan h];refine yaQ.2 ⟨fun x g=>?_,ih j ht⟩;rcases zdX g with q | q
  · exact f _ q
  · rcases yaw.1 q with q | q
    · rw [q];exact h
    · exact zc0 h (m _ q)
 | case5 a s b t h k ih =>
  obtain ⟨f,j⟩:=yaQ.1 hs;obtain ⟨m,n⟩:=yaQ.1 ht;rw [zaO,yak h,yan k];refine yaQ.2 ⟨fun x g=>?_,ih hs n⟩;rcases zdX g with q | q
  · rcases yaw.1 q with q | q
    · rw [q];exact k
    · exact zc0 k (f _ q)
  · exact m _ q
 | case6 a s b t h k ih =>
  rw [zaO,yak h,yak k];exact ih (yaQ.1 hs).2 (yaQ.1 ht).2
theorem zjs (hs:Rises s) (ht:Rises t):Rises ((zaO s t).map Prod.fst)∧∀k,hasK ((zaO s t).map Prod.fst) k=(hasK s k != hasK t k):=by
 refine ⟨yce.2 (zer hs ht),fun k=>?_⟩;rw [ya9,zar,yaH];constructor
 · rintro ⟨⟨x,e⟩,b,rfl⟩;obtain ⟨f,g⟩:=(zbL hs ht x e).1 b;simp [f,g]
 · intro q;refine ⟨(k,hasK t k),(zbL hs ht k _).2 ⟨rfl,?_⟩,rfl⟩;cases j:hasK s k <;> cases m:hasK t k <;> simp_all
def zdd (l:List UInt8):ByteArray:=⟨l.toArray⟩
theorem zfu (l:List UInt8):(zdd l).toList=l:=by rw [ByteArray.toList_eq];simp [zdd]
theorem keyB_of (s:ByteArray):zdd s.data.toList=s:=by simp [zdd]
theorem zlv {l:List (List UInt8)} (h:l.Nodup):Rises ((l.mergeSort fun x y=>decide (x≤y)).map zdd)∧∀k:ByteArray,k ∈ (l.mergeSort fun x y=>decide (x≤y)).map zdd↔k.data.toList ∈ l:=by
 have m:(l.mergeSort fun x y=>decide (x≤y)).Pairwise fun a b=>decide (a≤b)=true :=
  List.pairwise_mergeSort (le:=fun x y=>decide (x≤y)) (fun a b c g n=>yaB (List.le_trans (yaL g) (yaL n))) (fun a b=>by simpa using List.le_total a b) l
 have j:=List.mergeSort_perm l fun x y=>decide (x≤y);have o:(l.mergeSort fun x y=>decide (x≤y)).Nodup:=j.nodup_iff.2 h;refine ⟨yce.2 ((m.and o).imp fun {a b} f=>?_),fun k=>?_⟩
 · rw [zi0,zfu,zfu];have g:=yaL f.1;rcases Decidable.em (a<b) with q | q
   · exact q
   · exact absurd (List.le_antisymm g q) f.2
 · rw [yaH];constructor
   · rintro ⟨x,s,rfl⟩;have:=j.mem_iff.1 s;simpa [zdd] using this
   · intro hk;exact ⟨_,j.mem_iff.2 hk,by simp [zdd]⟩
theorem zfk (d:Array (List UInt8)) (hs:∀i j,i<j→j<d.size→d[i]!≤d[j]!):∀m,m≤d.size →
 (Lib.compactUpTo d m).Pairwise (fun a b=>a<b)∧∀x,x ∈ Lib.compactUpTo d m↔∃i,i<m∧d[i]! = x
 | 0,_=>by
  refine ⟨List.Pairwise.nil,fun x=>⟨fun h=>(by cases h),fun ⟨i,hi,_⟩=>(by omega)⟩⟩
 | m + 1,y=>by
  obtain ⟨k,f⟩:=zfk d hs m yab;rw [Lib.compactUpTo_succ];by_cases hk:Lib.keeps d m=true
  · rw [yan hk];refine ⟨yca.2 ⟨k,yb2 _ _,fun a n b hb=>?_⟩,fun x=>?_⟩
    · rw [yav.1 hb];obtain ⟨i,hi,rfl⟩:=(f a).1 n;have g:d[m]!≠d[m-1]!:=by
       have:=yaL hk;rcases this with q | q
       · omega
       · exact q
      have o:d[i]!≤d[m-1]!:=by
       by_cases q:i=m-1
       · rw [q];exact List.le_refl _
       · exact hs i (m-1) yab yab
      have s:d[m-1]!≤d[m]!:=hs (m-1) m yab yab;refine List.lt_of_le_of_lt o ?_;rcases Decidable.em (d[m-1]! < d[m]!) with q | q
      · exact q
      · exact absurd (List.le_antisymm q s) g
    · rw [yaA,f x,yav];constructor
      · rintro (⟨i,hi,h⟩ | h)
        · exact ⟨i,by omega,h⟩
        · exact ⟨m,by omega,h.symm⟩
      · rintro ⟨i,hi,h⟩;by_cases q:i=m
        · subst q;exact .inr h.symm
        · exact .inl ⟨i,by omega,h⟩
  · rw [yak hk,yaK];refine ⟨k,fun x=>?_⟩;rw [f x];have u:m≠0∧d[m]! = d[m-1]!:=by
     have:Lib.keeps d m=false:=by simpa using hk
     have:=of_decide_eq_false this;constructor
     · exact fun q=>this (.inl q)
     · exact Classical.byContradiction fun q=>this (.inr q)
    constructor
    · rintro ⟨i,hi,h⟩;exact ⟨i,by omega,h⟩
    · rintro ⟨i,hi,h⟩;by_cases q:i=m
      · subst q;exact ⟨i-1,by omega,by rw [←h];exact u.2.symm⟩
      · exact ⟨i,by omega,h⟩
theorem zo4 {l:List (List UInt8)} (h:l.Pairwise fun a b=>a<b):Rises (l.map zdd) :=
 yce.2 (h.imp fun {a b} f=>by rw [zi0,zfu,zfu];exact f)
theorem zpf (zs:List (List UInt8)):Rises ((Lib.compact (zs.mergeSort fun x y=>decide (x≤y))).map zdd)∧∀k,k ∈ (Lib.compact (zs.mergeSort fun x y=>decide (x≤y))).map zdd↔k ∈ zs.map zdd:=by
 have A:(zs.mergeSort fun x y=>decide (x≤y)).Pairwise fun a b=>decide (a≤b)=true :=
  List.pairwise_mergeSort (le:=fun x y=>decide (x≤y)) (fun a b c q s=>yaB (List.le_trans (yaL q) (yaL s))) (fun a b=>by simpa using List.le_total a b) zs
 have B:=List.mergeSort_perm zs fun x y=>decide (x≤y);obtain ⟨m,u⟩:∃m,(zs.mergeSort fun x y=>decide (x≤y))=m:=⟨_,rfl⟩;rw [u] at A B ⊢;have D:∀i j,i<j→j<m.toArray.size→m.toArray[i]!≤m.toArray[j]!:=fun i j z E=>by
  have n:j<m.length:=by simpa using E
  have:=ybN.1 A i j yab n z;simp only [List.getElem!_toArray];rw [getElem!_pos m i yab,getElem!_pos m j n];exact yaL this
 obtain ⟨q,s⟩:=zfk m.toArray D m.toArray.size (yaj _);have e:Lib.compact m=Lib.compactUpTo m.toArray m.toArray.size:=by simp [Lib.compact]
 rw [e];refine ⟨zo4 q,fun k=>?_⟩;rw [yaH,yaH];have C:∀x,x ∈ Lib.compactUpTo m.toArray m.toArray.size↔x ∈ zs:=fun x=>by
  rw [s x,←B.mem_iff];constructor
  · rintro ⟨i,hi,rfl⟩;have o:i<m.length:=by simpa using hi
    rw [List.getElem!_toArray,getElem!_pos m i o];exact List.getElem_mem o
  · intro h;obtain ⟨i,hi,rfl⟩:=ycf h;exact ⟨i,by simpa using hi,by rw [List.getElem!_toArray,getElem!_pos m i hi]⟩
 exact ⟨fun ⟨x,f,g⟩=>⟨x,(C x).1 f,g⟩,fun ⟨x,f,g⟩=>⟨x,(C x).2 f,g⟩⟩
abbrev Sp:=ByteArray × Int × Int
abbrev Ev:=Int × ByteArray × Bool
def zbs (x:Sp) (r:Int):Bool:=decide (x.2.1≤r) && (decide (x.2.2=0) || decide (r<x.2.2))
def zjR (k:ByteArray) (x:Sp):Bool:=decide (x.1=k) && decide (x.2.2=0)
def zdB (L:List Sp) (k:ByteArray):Int:=match L.findIdx? (zjR k) with
 | some i=>i
 | none=>-1
def zgS (L:List Sp) (last:Int) (k:ByteArray) (r:Int):Option (List Sp):=if r<1∨r<last∨0≤zdB L k then none else some (L ++ [(k,r,0)])
def endAt (L:List Sp) (i:Nat) (r:Int):List Sp:=match L[i]? with
 | some x=>L.set i (x.1,x.2.1,r)
 | none=>L
def zcc (L:List Sp) (last:Int) (k:ByteArray) (r:Int):Option (List Sp):=if r<last∨zdB L k<0∨r≤((L[(zdB L k).toNat]?).map (·.2.1)).getD 0 then none else some (endAt L (zdB L k).toNat r)
def zdw (L:List Sp) (k:ByteArray) (r:Int):Bool:=L.any fun x=>zbs x r && decide (x.1=k)
def zcZ (L:List Sp) (r:Int):Nat:=(L.filter fun x=>zbs x r).length
def zbe (a b:Ev):Bool:=if a.1≠b.1 then decide (a.1<b.1) else if a.2.1≠b.2.1 then kl a.2.1 b.2.1 else !a.2.2 && b.2.2
def zlE:List Ev→Ev→List Ev
 | [],x=>[x]
 | a::l,x=>if zbe a x then a::zlE l x else x::a::l
def evsOf (x:Sp) (a b:Int):List Ev:=(if a<x.2.1∧x.2.1≤b then [(x.2.1,x.1,true)] else []) ++ (if 0<x.2.2∧a<x.2.2∧x.2.2≤b then [(x.2.2,x.1,false)] else [])
def eventsP (L:List Sp) (a b:Int):List Ev:=L.foldl (fun o x=>(evsOf x a b).foldl zlE o) []
def keptB (r:Int) (x:Sp):Bool:=decide (x.2.2=0) || decide (r<x.2.2)
def zfc (L:List Sp) (r:Int):List Sp:=L.filter (keptB r)
theorem zoN {L:List Sp} (h:∀x ∈ L,zjR k x=false):zdB L k = -1:=by
 have:L.findIdx? (zjR k)=none:=List.findIdx?_eq_none_iff.2 h;unfold zdB;rw [this]
theorem znM:∀(l:List Ev) (x:Ev),(zlE l x).length=l.length + 1
 | [],_=>rfl
 | a::l,x=>by
  unfold zlE;split
  · rw [yat,znM,yat]
  · rfl
theorem zp0 (x:Sp) (a b:Int):(evsOf x a b).length≤2:=by
 unfold evsOf;rw [yam];split <;> split <;> simp
theorem zkG:∀(m l:List Ev),(m.foldl zlE l).length=l.length + m.length
 | [],_=>rfl
 | x::m,l=>by rw [ycd,zkG,znM,yat];omega
theorem zhh (L:List Sp) (a b:Int):(eventsP L a b).length≤2 * L.length:=by
 have:∀(L:List Sp) (o:List Ev),(L.foldl (fun o x=>(evsOf x a b).foldl zlE o) o).length≤o.length + 2 * L.length:=by
  intro L;induction L with
  | nil=>intro o;exact yaj _
  | cons x r ih =>
   intro o;rw [ycd];have f:=ih ((evsOf x a b).foldl zlE o);have g:=zkG (evsOf x a b) o;have j:=zp0 x a b;rw [yat];omega
 have h:=this L [];rw [yaE,yaI] at h;exact h
theorem zbZ {a b:Ev}:zbe a b=true↔a.1<b.1∨(a.1=b.1∧(kl a.2.1 b.2.1=true∨(a.2.1=b.2.1∧a.2.2=false∧b.2.2=true))):=by
 unfold zbe;by_cases f:a.1=b.1
 · rw [yak (by simpa using f)];by_cases g:a.2.1=b.2.1
   · rw [yak (by simpa using g),g,zi1];simp [f]
   · rw [yan g];simp [f,g]
 · rw [yan f];simp [f]
theorem ziB (a:Ev):zbe a a=false:=by
 cases h:zbe a a with
 | false=>rfl
 | true =>
  rcases zbZ.1 h with h | ⟨_,h | ⟨_,h,k⟩⟩
  · omega
  · rw [zi1] at h;cases h
  · rw [h] at k;cases k
theorem zdV {a b c:Ev} (h:zbe a b=true) (k:zbe b c=true):zbe a c=true:=by
 rw [zbZ] at h k ⊢;rcases h with h | ⟨h,g⟩
 · rcases k with k | ⟨k,_⟩
   · exact Or.inl yab
   · exact Or.inl yab
 · rcases k with k | ⟨k,f⟩
   · exact Or.inl yab
   · refine Or.inr ⟨h.trans k,?_⟩;rcases g with g | ⟨g,n,m⟩
     · rcases f with f | ⟨f,_,_⟩
       · exact Or.inl (zc0 g f)
       · exact Or.inl (f ▸ g)
     · rcases f with f | ⟨f,j,o⟩
       · exact Or.inl (g ▸ f)
       · rw [m] at j;cases j
theorem zlN {a b:Ev} (h:zbe a b=true):zbe b a=false:=by
 cases k:zbe b a with
 | false=>rfl
 | true=>exact absurd (zdV h k) (by rw [ziB];decide)
theorem ziC {a b:Ev} (h:zbe a b=false) (k:zbe b a=false):a=b:=by
 have g:¬zbe a b=true:=by rw [h];decide
 have j:¬zbe b a=true:=by rw [k];decide
 rw [zbZ] at g j;have f:a.1=b.1:=by omega
 have m:a.2.1=b.2.1:=by
  refine zkS ?_ ?_
  · cases q:kl a.2.1 b.2.1 with
    | false=>rfl
    | true=>exact absurd (Or.inr ⟨f,Or.inl q⟩) g
  · cases q:kl b.2.1 a.2.1 with
    | false=>rfl
    | true=>exact absurd (Or.inr ⟨f.symm,Or.inl q⟩) j
 have n:a.2.2=b.2.2:=by
  cases p:a.2.2 <;> cases q:b.2.2
  · rfl
  · exact absurd (Or.inr ⟨f,Or.inr ⟨m,p,q⟩⟩) g
  · exact absurd (Or.inr ⟨f.symm,Or.inr ⟨m.symm,q,p⟩⟩) j
  · rfl
 exact ycb f (ycb m n)
def LeE (a b:Ev):Prop:=zbe b a=false
theorem LeE.trans {a b c:Ev} (h:LeE a b) (k:LeE b c):LeE a c:=by
 unfold LeE at *
 cases q:zbe c a with
 | false=>rfl
 | true =>
  cases p:zbe a b with
  | true=>rw [zdV q p] at k;cases k
  | false =>
   obtain rfl:=ziC p h;rw [q] at k;cases k
theorem LeE.antisymm {a b:Ev} (h:LeE a b) (k:LeE b a):a=b:=ziC k h
theorem LeE.of_lt {a b:Ev} (h:zbe a b=true):LeE a b:=zlN h
def zfT (l:List Ev):Prop:=l.Pairwise LeE
theorem zhQ:∀(l:List Ev) (x:Ev),(zlE l x).Perm (x::l)
 | [],_=>ycs _
 | a::l,x=>by
  unfold zlE;split
  · exact ((zhQ l x).cons a).trans (List.Perm.swap x a l)
  · exact ycs _
theorem zlk:∀{l:List Ev} (x:Ev),zfT l→zfT (zlE l x)
 | [],_,_=>yb2 _ _
 | a::l,x,h=>by
  have f:=yaQ.1 h;unfold zlE;cases q:zbe a x with
  | true =>
   rw [yan rfl];refine yaQ.2 ⟨fun y b=>?_,zlk x f.2⟩;rcases yaw.1 ((zhQ l x).mem_iff.1 b) with rfl | b
   · exact LeE.of_lt q
   · exact f.1 y b
  | false =>
   rw [yak (by decide)];refine yaQ.2 ⟨fun y b=>?_,h⟩;rcases yaw.1 b with rfl | b
   · exact q
   · exact LeE.trans q (f.1 y b)
theorem ze9:∀{l m:List Ev},zfT l→zfT m→l.Perm m→l=m
 | [],m,_,_,h=>by rw [List.nil_perm.1 h]
 | a::l,[],_,_,h=>absurd h.length_eq yaf
 | a::l,b::m,n,o,h=>by
  have f:=yaQ.1 n;have g:=yaQ.1 o;have e:a=b:=by
   have j:a ∈ b::m:=h.mem_iff.1 yar;have k:b ∈ a::l:=h.mem_iff.2 yar;rcases yaw.1 j with e | j
   · exact e
   · rcases yaw.1 k with e | k
     · exact e.symm
     · exact LeE.antisymm (f.1 b k) (g.1 a j)
  subst e;rw [ze9 f.2 g.2 (List.Perm.cons_inv h)]
theorem ziQ:∀(m l:List Ev),(m.foldl zlE l).Perm (l ++ m)
 | [],l=>by rw [yaK];exact ycs _
 | x::m,l=>by
  rw [ycd];refine (ziQ m (zlE l x)).trans ?_;refine ((zhQ l x).append_right m).trans ?_;exact (List.perm_middle (a:=x) (l₁:=l) (l₂:=m)).symm
theorem ziR:∀(m:List Ev) {l:List Ev},zfT l→zfT (m.foldl zlE l)
 | [],_,h=>h
 | x::m,_,h=>ziR m (zlk x h)
theorem ze1 (a b:Int):∀(L:List Sp) (o:List Ev),zfT o→zfT (L.foldl (fun o x=>(evsOf x a b).foldl zlE o) o)∧(L.foldl (fun o x=>(evsOf x a b).foldl zlE o) o).Perm (o ++ L.flatMap fun x=>evsOf x a b)
 | [],o,h=>⟨h,by simp⟩
 | x::L,o,h=>by
  obtain ⟨f,g⟩:=ze1 a b L _ (ziR (evsOf x a b) h);refine ⟨f,g.trans ?_⟩;rw [yaS,←yaD];exact (ziQ _ _).append_right _
theorem zdZ (L:List Sp) (a b:Int):zfT (eventsP L a b):=(ze1 a b L [] List.Pairwise.nil).1
theorem zdY (L:List Sp) (a b:Int):(eventsP L a b).Perm (L.flatMap fun x=>evsOf x a b):=by
 have h:=(ze1 a b L [] List.Pairwise.nil).2;rwa [ya6] at h
theorem zbO {x:Sp} {a b:Int} {e:Ev}:e ∈ evsOf x a b↔(a<e.1∧e.1≤b)∧((e=(x.2.1,x.1,true))∨(0<x.2.2∧e=(x.2.2,x.1,false))):=by
 unfold evsOf;rw [yaA];constructor
 · rintro (h | h)
   · split at h
     · next q=>rw [yav] at h;subst h;exact ⟨q,Or.inl rfl⟩
     · cases h
   · split at h
     · next q=>rw [yav] at h;subst h;exact ⟨⟨q.2.1,q.2.2⟩,Or.inr ⟨q.1,rfl⟩⟩
     · cases h
 · rintro ⟨h,rfl | ⟨f,rfl⟩⟩
   · exact Or.inl (by rw [yan h];exact yav.2 rfl)
   · exact Or.inr (by rw [yan ⟨f,h.1,h.2⟩];exact yav.2 rfl)
theorem zdz {L:List Sp} {a b:Int} {e:Ev}:e ∈ eventsP L a b↔∃x ∈ L,e ∈ evsOf x a b:=by
 rw [(zdY L a b).mem_iff,ybz]
theorem zii {L:List Sp} {a b:Int} {e:Ev} (h:e ∈ eventsP L a b):a<e.1∧e.1≤b:=by
 obtain ⟨x,_,h⟩:=zdz.1 h;exact (zbO.1 h).1
structure FineS (L:List Sp) (last:Int):Prop where
 at_:∀x ∈ L,1≤x.2.1∧x.2.1≤last∧(x.2.2=0∨(x.2.1<x.2.2∧x.2.2≤last))
 two:L.Pairwise fun x y=>x.1=y.1→x.2.2≠0∧x.2.2≤y.2.1
 zero:0≤last
theorem FineS.nil:FineS [] 0:=⟨fun _ h=>(by cases h),List.Pairwise.nil,ybf _⟩
theorem zfD {L:List Sp} (h:¬zdB L k<0):∃(i:Nat) (x:Sp),zdB L k=i∧L[i]? = some x∧x.1=k∧x.2.2=0:=by
 unfold zdB at h ⊢;cases e:L.findIdx? (zjR k) with
 | none=>rw [e] at h;exact absurd yac h
 | some i =>
  obtain ⟨hi,b,_⟩:=List.findIdx?_eq_some_iff_getElem.1 e;unfold zjR at b;rw [ybc,yaP,yaP] at b;exact ⟨i,L[i],rfl,yal hi,b.1,b.2⟩
theorem zgQ {L:List Sp} (h:zdB L k<0):∀x ∈ L,x.1=k→x.2.2≠0:=by
 unfold zdB at h;cases e:L.findIdx? (zjR k) with
 | some i=>rw [e] at h;simp only at h;omega
 | none =>
  intro x b hk f;have:=List.findIdx?_eq_none_iff.1 e x b;unfold zjR at this;rw [yaB hk,yaB f] at this;cases this
theorem zhR {L L':List Sp} (h:zgS L last k r=some L'):1≤r∧last≤r∧zdB L k<0∧L'=L ++ [(k,r,0)]:=by
 unfold zgS at h;split at h
 · cases h
 · next q=>injection h with h;exact ⟨by omega,by omega,by omega,h.symm⟩
theorem FineS.put {L L':List Sp} (hf:FineS L last) (h:zgS L last k r=some L'):FineS L' r:=by
 obtain ⟨g,o,j,rfl⟩:=zhR h;have m:=zgQ j;refine ⟨fun x b=>?_,yca.2 ⟨hf.two,yb2 _ _,fun x b y f e=>?_⟩,by omega⟩
 · rcases yaA.1 b with b | b
   · have:=hf.at_ x b;exact ⟨this.1,by omega,by omega⟩
   · rw [yav] at b;subst b;exact ⟨g,ybf _,Or.inl rfl⟩
 · rw [yav] at f;subst f;have:=hf.at_ x b;have n:=m x b e;exact ⟨n,by show x.2.2≤r;omega⟩
theorem zfZ {L L':List Sp} (h:zcc L last k r=some L'):∃(i:Nat) (x:Sp),last≤r∧zdB L k=i∧L[i]? = some x∧x.1=k∧x.2.2=0∧x.2.1<r∧L'=L.set i (k,x.2.1,r):=by
 unfold zcc at h;split at h
 · cases h
 · next q =>
   injection h with h
   obtain ⟨i,x,b,f,g,j⟩:=zfD (L:=L) (k:=k) yab;rw [b,show ((i:Int)).toNat=i from rfl,f,ybG,Option.getD_some] at q;refine ⟨i,x,by omega,b,f,g,j,by omega,?_⟩;rw [←h,b,show ((i:Int)).toNat=i from rfl];unfold endAt;rw [f,←g]
theorem FineS.drop {L L':List Sp} (hf:FineS L last) (h:zcc L last k r=some L'):FineS L' r:=by
 obtain ⟨i,x,M,C,D,q,E,F,rfl⟩:=zfZ h;obtain ⟨hi,n⟩:=yap.1 D;have s:L=L.take i ++ x::L.drop (i + 1):=by rw [←n,←ya8 hi,ybk]
 have g:L.set i (k,x.2.1,r)=L.take i ++ (k,x.2.1,r)::L.drop (i + 1):=by rw [ycr,yan hi]
 have j:=hf.two;have f:=hf.at_;rw [g];rw [s] at j f;have m:(L.take i).length=i:=by rw [yaN];omega
 generalize L.take i=A at *
 generalize L.drop (i + 1)=B at *
 clear s g m C;obtain ⟨G,H,u⟩:=yca.1 j;obtain ⟨I,J⟩:=yaQ.1 H;have K:=f x (yb7 _ yar);refine ⟨fun y b=>?_,yca.2 ⟨G,yaQ.2 ⟨fun y b e=>?_,J⟩,fun y b z o e=>?_⟩,by have:=hf.zero;omega⟩
 · have key:y ∈ A∨y=(k,x.2.1,r)∨y ∈ B:=by
    rcases yaA.1 b with b | b
    · exact Or.inl b
    · exact Or.inr (yaw.1 b)
   rcases key with b | rfl | b
   · have:=f y (ycp _ b);exact ⟨this.1,by omega,by omega⟩
   · exact ⟨K.1,by show x.2.1≤r;omega,Or.inr ⟨F,ybf _⟩⟩
   · have:=f y (yb7 _ (yau _ b));exact ⟨this.1,by omega,by omega⟩
 · exact absurd E (I y b (q.trans e)).1
 · rcases yaw.1 o with rfl | o
   · exact u y b x yar (e.trans q.symm)
   · exact u y b z (yau _ o) e
theorem FineS.trim {L:List Sp} (hf:FineS L last) (r:Int):FineS (zfc L r) last:=⟨fun x b=>hf.at_ x (ya4.1 b).1,hf.two.filter _,hf.zero⟩
theorem zl9 {x:Sp} {k:Int} (h:r≤k) (q:keptB r x=false):zbs x k=false:=by
 unfold keptB at q;unfold zbs;rw [Bool.or_eq_false_iff,yby,yby] at q;rw [yaF q.1,yaF (show ¬k<x.2.2 by omega),Bool.or_self,ycS]
theorem zqb {q:Int} (h:r≤q) (k:ByteArray) (L:List Sp):zdw (zfc L r) k q=zdw L k q:=by
 unfold zdw zfc;rw [List.any_filter];congr 1
 funext x
 cases p:keptB r x with
 | true=>rw [ycl]
 | false=>rw [zl9 h p];rfl
end
section
open Go.RowKit
def ecl (x:Ev):List Value:=[.int .i64 x.1,.string x.2.1,.bool x.2.2]
def ecs (l:List Ev):List Value:=l.flatMap ecl
theorem zhg (x:Ev):∀u ∈ ecl x,u.oneCell'=true:=by
 intro u b;simp only [ecl,yaw,ya1,ybA] at b;rcases b with rfl | rfl | rfl <;> rfl
theorem zlY (l:List Ev):(ecs l).length=l.length * 3:=by
 induction l with
 | nil=>rfl
 | cons a t ih=>rw [ecs,yaS,yam,←ecs,ih];simp [ecl];omega
theorem ecs_get {l:List Ev} {i:Nat} {x:Ev} (h:l[i]? = some x):(ecs l)[i * 3]? = some (.int .i64 x.1)∧(ecs l)[i * 3 + 1]? = some (.string x.2.1)∧(ecs l)[i * 3 + 2]? = some (.bool x.2.2):=by
 induction l generalizing i with
 | nil=>simp at h
 | cons a t ih =>
  rw [ecs,yaS,←ecs];cases i with
  | zero =>
   simp at h;subst h;exact ⟨rfl,rfl,rfl⟩
  | succ i =>
   obtain ⟨b,f,g⟩:=ih (by simpa using h);rw [yaJ (by simp [ecl];omega),yaJ (by simp [ecl];omega),yaJ (by simp [ecl];omega)];simp only [ecl,yat,yaE];rw [show (i + 1) * 3-(0 + 1 + 1 + 1)=i * 3 by omega,show (i + 1) * 3 + 1-(0 + 1 + 1 + 1)=i * 3 + 1 by omega,show (i + 1) * 3 + 2-(0 + 1 + 1 + 1)=i * 3 + 2 by omega];exact ⟨b,f,g⟩
theorem rd_ev {w:World} {B n c:Nat} {A:Option Addr} {l:List Ev} (h:Rd w B 3 A n c (ecs l)) {i:Nat} {x:Ev} (hi:l[i]? = some x) :
 ∃b o,A=some ⟨b,o,none⟩∧b<B∧w.cell? ⟨b,o + i * 3,none⟩=some (.int .i64 x.1)∧w.cell? ⟨b,o + i * 3 + 1,none⟩=some (.string x.2.1)∧w.cell? ⟨b,o + i * 3 + 2,none⟩=some (.bool x.2.2):=by
 have m:0<n:=by
  have g:=h.len;have j:=zlY l;have k:=zgB hi;omega
 obtain ⟨b,o,e,hb,f⟩:=h.at_ m;obtain ⟨g,j,k⟩:=ecs_get hi;exact ⟨b,o,e,hb,f _ _ g,by rw [ya7];exact f _ _ j,by rw [ya7];exact f _ _ k⟩
structure Own14 (F F':Nat→Prop) (w w':World):Prop where
 le:w.heap.size≤w'.heap.size
 old:∀b,b<w.heap.size→¬F b→w'.heap[b]? = w.heap[b]?
 grow:∀b,F' b→F b∨w.heap.size≤b
 rest:∀B,B≤w.heap.size→(∀b,F b→B≤b)→Below B w w'
structure SpK (S:World→(Nat→Prop)→Nat→List Sp→Int→Prop):Prop where
 lt:∀{w F g L last},S w F g L last→∀b,F b→b<w.heap.size
 keep:∀{w w' F g L last},S w F g L last→(∀b,F b→w'.heap[b]? = w.heap[b]?)→S w' F g L last
 new:∀w,Calls Tryz.prog 32 #[] w fun e w'=>∃g F,e = .returned (.pointer (some ⟨g,0,none⟩))∧S w' F g [] 0∧(∀b,F b→w.heap.size≤b)∧Below w.heap.size w w'
 put:∀{w F g L last} (k:ByteArray) (r:Int),S w F g L last→FineS L last→L.length≤100000→k.size≤1000000→Calls Tryz.prog 71 #[.pointer (some ⟨g,0,none⟩),.string k,.int .i64 r] w fun e w'=>∃F',e = .returned (.bool (zgS L last k r).isSome)∧S w' F' g ((zgS L last k r).getD L) (if (zgS L last k r).isSome then r else last)∧Own14 F F' w w'
 drop:∀{w F g L last} (k:ByteArray) (r:Int),S w F g L last→FineS L last→L.length≤100000→k.size≤1000000→Calls Tryz.prog 72 #[.pointer (some ⟨g,0,none⟩),.string k,.int .i64 r] w fun e w'=>∃F',e = .returned (.bool (zcc L last k r).isSome)∧S w' F' g ((zcc L last k r).getD L) (if (zcc L last k r).isSome then r else last)∧Own14 F F' w w'
 has:∀{w F g L last} (k:ByteArray) (r:Int),S w F g L last→FineS L last→L.length≤100000→k.size≤maxLen→Calls Tryz.prog 62 #[.pointer (some ⟨g,0,none⟩),.string k,.int .i64 r] w fun e w'=>e = .returned (.bool (zdw L k r))∧Below w.heap.size w w'
 count:∀{w F g L last} (r:Int),S w F g L last→FineS L last→L.length≤100000→Calls Tryz.prog 56 #[.pointer (some ⟨g,0,none⟩),.int .i64 r] w fun e w'=>e = .returned (.int .i64 (zcZ L r))∧Below w.heap.size w w'
 events:∀{w F g L last} (a b:Int),S w F g L last→FineS L last→L.length≤100000→Calls Tryz.prog 60 #[.pointer (some ⟨g,0,none⟩),.int .i64 a,.int .i64 b] w fun e w'=>∃A c,e = .returned (.slice A (eventsP L a b).length c)∧Rd w' w'.heap.size 3 A (eventsP L a b).length c (ecs (eventsP L a b))∧Below w.heap.size w w'
structure SpKT (S:World→(Nat→Prop)→Nat→List Sp→Int→Prop):Prop extends SpK S where
 trim:∀{w F g L last} (r:Int),S w F g L last→FineS L last→L.length≤100000→Calls Tryz.prog 46 #[.pointer (some ⟨g,0,none⟩),.int .i64 r] w fun e w'=>∃F',e = .returned (.int .i64 ((L.length:Int)-(zfc L r).length))∧S w' F' g (zfc L r) last∧Own14 F F' w w'
theorem FineS.putD {L:List Sp} {last r:Int} {k:ByteArray} (h:FineS L last):FineS ((zgS L last k r).getD L) (if (zgS L last k r).isSome then r else last):=by
 cases e:zgS L last k r with
 | none=>exact h
 | some b=>exact h.put e
theorem FineS.dropD {L:List Sp} {last r:Int} {k:ByteArray} (h:FineS L last):FineS ((zcc L last k r).getD L) (if (zcc L last k r).isSome then r else last):=by
 cases e:zcc L last k r with
 | none=>exact h
 | some b=>exact h.drop e
theorem zrs (L:List Sp) (last r:Int) (k:ByteArray):((zgS L last k r).getD L).length≤L.length + 1:=by
 cases e:zgS L last k r with
 | none=>exact ybd _
 | some b =>
  obtain ⟨_,_,_,rfl⟩:=zhR e;simp
theorem zoo (L:List Sp) (last r:Int) (k:ByteArray):((zcc L last k r).getD L).length=L.length:=by
 cases e:zcc L last k r with
 | none=>rfl
 | some b =>
  obtain ⟨i,x,_,_,_,_,_,_,rfl⟩:=zfZ e;simp
end
section
variable {s:List ByteArray}
def zgH (s:List ByteArray) (k:ByteArray):List ByteArray:=if hasK s k then s else zfR s k
def zpc (l:List ByteArray):List ByteArray:=l.foldl zgH []
theorem zmQ {k:ByteArray} (h:Rises s):Rises (zgH s k):=by
 unfold zgH;split
 · exact h
 · rename_i q
   exact zeB h (zbg.1 (by simpa using q))
theorem zse {k x:ByteArray}:x ∈ zgH s k↔x=k∨x ∈ s:=by
 unfold zgH;split
 · rename_i q
   exact ⟨.inr,fun h=>h.elim (fun e=>by rw [e];exact zar.1 q) id⟩
 · exact zcz
theorem ziS:∀{l s:List ByteArray},Rises s→Rises (l.foldl zgH s)
 | [],_,h=>h
 | _::l,_,h=>ziS (l:=l) (zmQ h)
theorem zng:∀{l s:List ByteArray} {x:ByteArray},x ∈ l.foldl zgH s↔x ∈ s∨x ∈ l
 | [],_,_=>by simp
 | a::l,s,x=>by
  rw [ycd,zng (l:=l),zse,yaw];constructor
  · rintro ((h | h) | h)
    · exact .inr (.inl h)
    · exact .inl h
    · exact .inr (.inr h)
  · rintro (h | h | h)
    · exact .inl (.inr h)
    · exact .inl (.inl h)
    · exact .inr h
theorem zeO (l:List ByteArray):Rises (zpc l):=ziS List.Pairwise.nil
theorem zfI {l:List ByteArray} {x:ByteArray}:x ∈ zpc l↔x ∈ l:=by
 unfold zpc;rw [zng];simp
theorem zmZ:∀{d:List (ByteArray × Bool)} {t:List ByteArray} {i:Nat},Rises t→(d.map Prod.fst).Nodup→(∀c ∈ d,hasK t c.1 = !c.2) →
 ∃r,zct t d i=(r,0,0)∧Rises r∧(∀c ∈ d,hasK r c.1=c.2)∧∀x,(∀c ∈ d,c.1≠x)→hasK r x=hasK t x
 | [],t,i,h,_,_=>⟨t,rfl,h,fun c n=>(by cases n),fun _ _=>rfl⟩
 | c::d,t,i,h,o,j=>by
  have f:=j c (yar ..);obtain ⟨s,u⟩:=ybS.1 (show (c.1::d.map Prod.fst).Nodup from o);have g:∀e ∈ d,e.1≠c.1:=fun e b q=>s (yaH.2 ⟨e,b,q⟩);obtain ⟨r,y,z,A,k⟩:=zmZ (i:=i + 1) (zcJ h f) u fun e b=>by
   rw [zbT f,yak (g e b)];exact j e (yau _ b)
  refine ⟨r,by rw [zb1 f,y],z,fun e b=>?_,fun x m=>?_⟩
  · rcases yaw.1 b with rfl | b
    · rw [k _ g,zbT f,yan rfl]
    · exact A e b
  · rw [k x fun e b=>m e (yau _ b),zbT f,yak (m c (yar ..)).symm]
theorem app_dif {t:List ByteArray} (hs:Rises s) (ht:Rises t):zcm s [] (zaO s t)=(t,0,0):=by
 obtain ⟨r,k,m,n,o⟩:=zmZ (d:=zaO s t) (i:=0) hs (zjs hs ht).1.nodup fun c b=>((zbL hs ht c.1 c.2).1 b).2;have:r=t:=zeJ m ht fun x=>by
  rw [←zar,←zar,←ya9];by_cases q:∃c ∈ zaO s t,c.1=x
  · obtain ⟨c,b,rfl⟩:=q;rw [n c b];exact ((zbL hs ht c.1 c.2).1 b).1.symm
  · have f:∀c ∈ zaO s t,c.1≠x:=fun c b e=>q ⟨c,b,e⟩;rw [o x f];cases g:hasK s x <;> cases j:hasK t x
    · rfl
    · exact absurd rfl (f (x,true) ((zbL hs ht x true).2 ⟨j,g⟩))
    · exact absurd rfl (f (x,false) ((zbL hs ht x false).2 ⟨j,g⟩))
    · rfl
 show zct s (zaO s t) 0=_;rw [k,this]
theorem ziG:∀(ch:List (ByteArray × Bool)) (t:List ByteArray) (i:Nat),Rises t→(∃r,zct t ch i=(r,0,0)∧Rises r) ∨
 ∃(j:Nat) (u:List ByteArray) (c:ByteArray × Bool),ch[j]? = some c∧zct t ch i=([],if c.2 then 32 else 41,i + j)∧zct t (ch.take j) i=(u,0,0)∧hasK u c.1=c.2∧Rises u
 | [],t,i,h=>.inl ⟨t,rfl,h⟩
 | c::r,t,i,h=>by
  by_cases q:hasK t c.1 = !c.2
  · rcases ziG r (zkg t c) (i + 1) (zcJ h q) with ⟨x,b,f⟩ | ⟨j,u,e,b,f,k,m,n⟩
    · exact .inl ⟨x,by rw [zb1 q,b],f⟩
    · exact .inr ⟨j + 1,u,e,by simpa using b,by rw [zb1 q,f,show i + 1 + j=i + (j + 1) by omega],by rw [ycO,zb1 q,k],m,n⟩
  · have g:hasK t c.1=c.2:=by cases e:c.2 <;> simp_all
    exact .inr ⟨0,t,c,rfl,by rw [zb7 g];rfl,rfl,g,h⟩
theorem ziI:∀(ch:List (ByteArray × Bool)) (t:List ByteArray) (i k:Nat),zct t ch (i + k)=((zct t ch i).1,(zct t ch i).2.1,if (zct t ch i).2.1=0 then 0 else (zct t ch i).2.2 + k)
 | [],t,i,k=>rfl
 | c::r,t,i,k=>by
  by_cases q:hasK t c.1 = !c.2
  · rw [zb1 q,zb1 q,show i + k + 1=i + 1 + k by omega,ziI r]
  · have b:hasK t c.1=c.2:=by cases e:c.2 <;> simp_all
    rw [zb7 b,zb7 b];cases c.2 <;> rfl
end
end Go.Proofs.YtmblgnddgmfkhaaGreat
