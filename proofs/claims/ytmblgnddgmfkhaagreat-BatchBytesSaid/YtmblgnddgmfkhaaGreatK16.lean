import Derived.Test.YtmblgnddgmfkhaaGreatK03
set_option maxRecDepth 100000
set_option maxHeartbeats 4000000
namespace Go.Proofs.YtmblgnddgmfkhaaGreat
variable {s s':List Bool} {n a y x k:Nat} {L r M:List Nat} {g:Nat→List Nat} {z:Int}
inductive Walks (g:Nat→List Nat):List Bool→List Nat→List Bool→List Nat→Prop
 | nil (s:List Bool):Walks g s [] s []
 | old {s:List Bool} {a:Nat} {as':List Nat} {s':List Bool} {L:List Nat} (h:s[a]? = some true) (k:Walks g s as' s' L):Walks g s (a::as') s' L
 | new {s:List Bool} {a:Nat} {as':List Nat} {s1 s2:List Bool} {L1 L2:List Nat} (h:s[a]? = some false) (k1:Walks g (s.set a true) (g a) s1 L1) (k2:Walks g s1 as' s2 L2):Walks g s (a::as') s2 (L1 ++ a::L2)
inductive Way (g:Nat→List Nat) (s:List Bool):Nat→Nat→Prop
 | at {x:Nat} (h:s[x]? = some false):Way g s x x
 | on {x y z:Nat} (h:s[x]? = some false) (m:y ∈ g x) (k:Way g s y z):Way g s x z
theorem Way.fst {g s x y} (h:Way g s x y):s[x]? = some false:=by cases h <;> assumption
theorem Way.lst {g s x y} (h:Way g s x y):s[y]? = some false:=by induction h <;> assumption
theorem Way.trans {g s x y z} (h:Way g s x y) (k:Way g s y z):Way g s x z:=by
 induction h with
 | «at» _=>exact k
 | on h m _ ih=>exact .on h m (ih k)
theorem Way.more (hs:∀k:Nat,s'[k]? = some false→s[k]? = some false) (h:Way g s' x y):Way g s x y:=by
 induction h with
 | «at» h=>exact .at (hs _ h)
 | on h m _ ih=>exact .on (hs _ h) m ih
theorem Way.part (h:Way g s x y) (dec:∀k:Nat,s[k]? = some false→s'[k]? = some false∨s'[k]? = some true):Way g s' x y∨∃z,s'[z]? = some true∧Way g s x z∧Way g s z y:=by
 induction h with
 | @«at» x h=>
  rcases dec _ h with d | d
  · exact .inl (.at d)
  · exact .inr ⟨x,d,.at h,.at h⟩
 | @on x y z h m k ih =>
  rcases dec _ h with d | d
  · rcases ih with i | ⟨q,b,f,j⟩
    · exact .inl (.on d m i)
    · exact .inr ⟨q,b,.on h m f,j⟩
  · exact .inr ⟨x,d,.at h,.on h m k⟩
theorem Walks.size {g s as' s' L} (h:Walks g s as' s' L):s'.length=s.length:=by
 induction h with
 | nil=>rfl
 | old _ _ ih=>exact ih
 | new _ _ _ b f=>rw [f,b,ycc]
theorem zbw {b:Bool}:(s.set a true)[k]? = some b↔(k=a∧a<s.length∧b=true)∨(k≠a∧s[k]? = some b):=by
 rw [ycm];by_cases h:a=k
 · subst h;by_cases f:a<s.length <;> simp [f,eq_comm]
 · have g:k≠a:=fun e=>h e.symm;simp [h,g]
theorem zkt (h:s[a]? = some false):(s.set a true).count false + 1=s.count false:=by
 induction s generalizing a with
 | nil=>simp at h
 | cons b t ih =>
  cases a with
  | zero =>
   simp only [ybs,yaT] at h;subst h;simp
  | succ a =>
   have:=ih (a:=a) (by simpa using h);rw [yaW,List.count_cons,List.count_cons];omega
theorem Walks.cf {g s as' s' L} (h:Walks g s as' s' L):L.length + s'.count false=s.count false:=by
 induction h with
 | nil=>simp
 | old _ _ ih=>exact ih
 | new h _ _ b f =>
  have:=zkt h;rw [yam,yat];omega
theorem Walks.app {g s as' bs s1 s2 L1 L2} (h:Walks g s as' s1 L1) (k:Walks g s1 bs s2 L2):Walks g s (as' ++ bs) s2 (L1 ++ L2):=by
 induction h with
 | nil=>exact k
 | old h _ ih=>exact .old h (ih k)
 | new h b _ _ f=>rw [yaD,ybq];exact .new h b (f k)
theorem Walks.seen {g s as' s' L} (h:Walks g s as' s' L):(∀k,s'[k]? = some true↔s[k]? = some true∨k ∈ L)∧(∀k,s'[k]? = some false↔s[k]? = some false∧k ∉ L)∧(∀k ∈ L,s[k]? = some false)∧L.Nodup:=by
 induction h with
 | nil s=>simp
 | old _ _ ih=>exact ih
 | @new s a as' J K L1 M h N O B C =>
  obtain ⟨D,b,u,E⟩:=B;obtain ⟨F,G,n,H⟩:=C;have z:a<s.length:=(yap.1 h).1;have o:a ∉ L1:=fun m=>by
   have:=u a m;rw [zbw] at this;rcases this with ⟨_,_,e⟩ | ⟨e,_⟩
   · cases e
   · exact e rfl
  refine ⟨fun k=>?_,fun k=>?_,fun k hk=>?_,?_⟩
  · rw [F,D,zbw,yaA,yaw];constructor
    · rintro (((⟨e,_⟩ | ⟨_,e⟩) | e) | e)
      · exact .inr (.inr (.inl e))
      · exact .inl e
      · exact .inr (.inl e)
      · exact .inr (.inr (.inr e))
    · rintro (e | e | e | e)
      · by_cases hk:k=a
        · exact .inl (.inl (.inl ⟨hk,z,rfl⟩))
        · exact .inl (.inl (.inr ⟨hk,e⟩))
      · exact .inl (.inr e)
      · exact .inl (.inl (.inl ⟨e,z,rfl⟩))
      · exact .inr e
  · rw [G,b,zbw,yaA,yaw];constructor
    · rintro ⟨⟨q,f⟩,P⟩;rcases q with ⟨_,_,e⟩ | ⟨Q,I⟩
      · cases e
      · exact ⟨I,by rintro (e | e | e) <;> contradiction⟩
    · rintro ⟨q,f⟩;refine ⟨⟨.inr ⟨fun e=>f (.inr (.inl e)),q⟩,fun e=>f (.inl e)⟩,fun e=>f (.inr (.inr e))⟩
  · rw [yaA,yaw] at hk;rcases hk with hk | rfl | hk
    · have:=u k hk;rw [zbw] at this;rcases this with ⟨_,_,e⟩ | ⟨_,e⟩
      · cases e
      · exact e
    · exact h
    · have:=n k hk;rw [b,zbw] at this;rcases this with ⟨⟨_,_,e⟩ | ⟨_,e⟩,_⟩
      · cases e
      · exact e
  · rw [ybb];refine ⟨E,ybS.2 ⟨fun m=>?_,H⟩,?_⟩
    · have:=n a m;rw [b,zbw] at this;rcases this with ⟨⟨_,_,e⟩ | ⟨e,_⟩,_⟩
      · cases e
      · exact e rfl
    · rintro x A y j rfl;rw [yaw] at j;rcases j with rfl | j
      · exact o A
      · have:=n x j;rw [b] at this;exact this.2 A
theorem Walks.dec {g s as' s' L} (h:Walks g s as' s' L) (k:Nat) (hk:s[k]? = some false):s'[k]? = some false∨s'[k]? = some true:=by
 by_cases m:k ∈ L
 · exact .inr ((h.seen.1 k).2 (.inr m))
 · exact .inl ((h.seen.2.1 k).2 ⟨hk,m⟩)
theorem way_step (w:Way g (s.set a true) a y):False:=by
 have:=w.fst;rw [zbw] at this;rcases this with ⟨_,_,e⟩ | ⟨e,_⟩
 · cases e
 · exact e rfl
theorem zge (k:Nat) (h:(s.set a true)[k]? = some false):s[k]? = some false:=by
 rw [zbw] at h;rcases h with ⟨_,_,e⟩ | ⟨_,e⟩
 · cases e
 · exact e
theorem zob (w:Way g s x y):Way g (s.set a true) x y∨(Way g s x a∧(y=a∨∃b ∈ g a,Way g (s.set a true) b y)):=by
 induction w with
 | @«at» x h =>
  by_cases e:x=a
  · subst e;exact .inr ⟨.at h,.inl rfl⟩
  · exact .inl (.at (by rw [zbw];exact .inr ⟨e,h⟩))
 | @on x y z h m k ih =>
  rcases ih with i | ⟨j,i⟩
  · by_cases e:x=a
    · subst e;exact .inr ⟨.at h,.inr ⟨y,m,i⟩⟩
    · exact .inl (.on (by rw [zbw];exact .inr ⟨e,h⟩) m i)
  · exact .inr ⟨.on h m j,i⟩
theorem Walks.come {g s as' s' L} (h:Walks g s as' s' L):∀y,y ∈ L↔∃a ∈ as',Way g s a y:=by
 induction h with
 | nil=>simp
 | @old s a as' s' L h k ih =>
  intro y;rw [ih y];constructor
  · rintro ⟨b,m,w⟩;exact ⟨b,yau _ m,w⟩
  · rintro ⟨b,m,w⟩;rcases yaw.1 m with rfl | m
    · have:=w.fst;rw [h] at this;cases this
    · exact ⟨b,m,w⟩
 | @new s a as' n E L1 F h f G u x =>
  intro y;have B:a<s.length:=(yap.1 h).1;have first:∀y,Way g s a y↔y=a∨y ∈ L1:=by
   intro y;constructor
   · intro w;rcases zob w with i | ⟨_,i | ⟨b,m,i⟩⟩
     · exact (way_step i).elim
     · exact .inl i
     · exact .inr ((u y).2 ⟨b,m,i⟩)
   · rintro (rfl | m)
     · exact .at h
     · obtain ⟨b,mb,w⟩:=(u y).1 m;exact .on h mb (w.more zge)
  have o:∀k,n[k]? = some false→s[k]? = some false:=fun k hk=>by
   rw [f.seen.2.1] at hk;exact zge k hk.1
  rw [yaA,yaw];constructor
  · rintro (m | m | m)
    · exact ⟨a,yar,(first y).2 (.inr m)⟩
    · exact ⟨a,yar,(first y).2 (.inl m)⟩
    · obtain ⟨b,mb,w⟩:=(x y).1 m;exact ⟨b,yau _ mb,w.more o⟩
  · rintro ⟨b,mb,w⟩;rcases yaw.1 mb with rfl | mb
    · rcases (first y).1 w with e | e
      · exact .inr (.inl e)
      · exact .inl e
    · have C:∀k,s[k]? = some false→n[k]? = some false∨n[k]? = some true:=fun k hk=>by
       by_cases e:k=a
       · subst e;exact .inr ((f.seen.1 k).2 (.inl (by rw [zbw];exact .inl ⟨rfl,B,rfl⟩)))
       · exact f.dec k (by rw [zbw];exact .inr ⟨e,hk⟩)
      rcases w.part C with i | ⟨z,A,i,j⟩
      · exact .inr (.inr ((x y).2 ⟨b,mb,i⟩))
      ·
       have q:z=a∨z ∈ L1:=by
        rw [f.seen.1,zbw] at A;rcases A with (⟨e,_⟩ | ⟨_,e⟩) | e
        · exact .inl e
        · have:=j.fst;rw [e] at this;cases this
        · exact .inr e
       have D:Way g s a y:=((first z).2 q).trans j;rcases (first y).1 D with e | e
       · exact .inr (.inl e)
       · exact .inl e
def Bef (L:List Nat) (y c:Nat):Prop:=∃P Q,L=P ++ c::Q∧(y ∈ P∨y=c)
theorem Bef.left {y c} (h:Bef L y c):Bef (L ++ M) y c:=by
 obtain ⟨P,Q,rfl,k⟩:=h;exact ⟨P,Q ++ M,by simp,k⟩
theorem Bef.right {y c} (h:Bef M y c):Bef (L ++ M) y c:=by
 obtain ⟨P,Q,rfl,k⟩:=h;exact ⟨L ++ P,Q,by simp,k.elim (fun m=>.inl (by simp [m])) .inr⟩
theorem Bef.mid {y c} (hy:y ∈ L) (hc:c ∈ M):Bef (L ++ M) y c:=by
 obtain ⟨P,Q,rfl⟩:=yci hc;exact ⟨L ++ P,Q,by simp,.inl (by simp [hy])⟩
theorem Walks.order {g s as' s' L} (h:Walks g s as' s' L):∀x ∈ L,∀y,Way g s x y→y ∈ L∧∃c,c ∈ L∧Way g s x c∧Way g s c x∧Bef L y c:=by
 induction h with
 | nil=>simp
 | old _ _ ih=>exact ih
 | @new s a as' o U L1 L2 h A V O P =>
  have Q:a<s.length:=(yap.1 h).1;have first:∀y,Way g s a y↔y=a∨y ∈ L1:=by
   intro y;have:=(Walks.new h A (Walks.nil o):Walks g s [a] o (L1 ++ [a])).come y;simp at this;rw [←this];exact Or.comm
  have B:∀k,o[k]? = some false→s[k]? = some false:=fun k hk=>by
   rw [A.seen.2.1] at hk;exact zge k hk.1
  have R:∀k,s[k]? = some false→o[k]? = some false∨o[k]? = some true:=fun k hk=>by
   by_cases e:k=a
   · subst e;exact .inr ((A.seen.1 k).2 (.inl (by rw [zbw];exact .inl ⟨rfl,Q,rfl⟩)))
   · exact A.dec k (by rw [zbw];exact .inr ⟨e,hk⟩)
  have C:L1 ++ a::L2=(L1 ++ [a]) ++ L2:=by simp
  have D:∀y,Way g s a y→Bef (L1 ++ a::L2) y a:=fun y w=>by
   refine ⟨L1,L2,rfl,?_⟩;rcases (first y).1 w with e | e
   · exact .inr e
   · exact .inl e
  have f:∀y,Way g s a y→y ∈ L1 ++ a::L2:=fun y w=>by
   rcases (first y).1 w with e | e
   · simp [e]
   · simp [e]
  intro x n y w;rw [yaA,yaw] at n;rcases n with n | rfl | n
  · rcases zob w with i | ⟨u,i⟩
    · obtain ⟨q,c,E,F,G,H⟩:=O x n y i;exact ⟨by simp [q],c,by simp [E],F.more zge,G.more zge,H.left⟩
    · have J:Way g s a y:=by
       rcases i with rfl | ⟨b,m,i⟩
       · exact .at h
       · exact .on h m (i.more zge)
      exact ⟨f _ J,a,f _ (.at h),u,(first x).2 (.inr n),D _ J⟩
  · exact ⟨f _ w,x,f _ (.at h),.at h,.at h,D _ w⟩
  · rcases w.part R with i | ⟨z,K,i,j⟩
    · obtain ⟨q,c,E,F,G,H⟩:=P x n y i;exact ⟨by simp [q],c,by simp [E],F.more B,G.more B,by rw [C];exact H.right⟩
    · have I:z=a∨z ∈ L1:=by
       rw [A.seen.1,zbw] at K;rcases K with (⟨e,_⟩ | ⟨_,e⟩) | e
       · exact .inl e
       · have:=j.fst;rw [e] at this;cases this
       · exact .inr e
      have M:Way g s a y:=((first z).2 I).trans j;have T:y ∈ L1 ++ [a]:=by rcases (first y).1 M with e | e <;> simp [e]
      have N:s[x]? = some false:=w.fst;exact ⟨f _ M,x,by simp [n],.at N,.at N,by rw [C];exact Bef.mid T n⟩
abbrev Ed:=Int × Int × Bool
def fr (e:Ed):Nat:=e.1.toNat
def tt (e:Ed):Nat:=e.2.1.toNat
def rise (e:Ed):Int:=if e.2.2 then 1 else 0
theorem zmC (e:Ed):0≤rise e∧rise e≤1:=by unfold rise;cases e.2.2 <;> simp
def turn (e:Ed):Ed:=(e.2.1,e.1,e.2.2)
def outE (l:List Ed) (a:Nat):List Ed:=l.filter fun e=>decide (fr e=a)
def goE (l:List Ed) (a:Nat):List Nat:=(outE l a).map tt
def InR (n:Nat) (l:List Ed):Prop:=∀e ∈ l,0≤e.1∧e.1<n∧0≤e.2.1∧e.2.1<n
theorem InR.fr {n l e} (h:InR n l) (m:e ∈ l):fr e<n:=by have:=h e m;unfold YtmblgnddgmfkhaaGreat.fr;omega
theorem InR.tt {n l e} (h:InR n l) (m:e ∈ l):tt e<n:=by have:=h e m;unfold YtmblgnddgmfkhaaGreat.tt;omega
theorem zfz {l:List Ed} {a e}:e ∈ outE l a↔e ∈ l∧fr e=a:=by simp [outE]
theorem zdA {l:List Ed} {a b}:b ∈ goE l a↔∃e ∈ l,fr e=a∧tt e=b:=by simp [goE,zfz,and_assoc]
def Sol (n:Nat) (l:List Ed) (v:Nat→Int):Prop:=(∀i,i<n→0≤v i)∧∀e ∈ l,v (tt e) + rise e≤v (fr e)
def Least (n:Nat) (l:List Ed) (v:Nat→Int):Prop:=Sol n l v∧∀u,Sol n l u→∀i,i<n→v i≤u i
inductive Reach (l:List Ed):Nat→Nat→Prop
 | refl (x:Nat):Reach l x x
 | on {x y z:Nat} (m:y ∈ goE l x) (k:Reach l y z):Reach l x z
def Cyc (l:List Ed):Prop:=∃e ∈ l,e.2.2=true∧Reach l (tt e) (fr e)
theorem Reach.trans {l x y z} (h:Reach l x y) (k:Reach l y z):Reach l x z:=by
 induction h with
 | refl=>exact k
 | on m _ ih=>exact .on m (ih k)
theorem Reach.one {l:List Ed} {e:Ed} (m:e ∈ l):Reach l (fr e) (tt e):=.on (zdA.2 ⟨e,m,rfl,rfl⟩) (.refl _)
theorem Reach.sub {l m:List Ed} (hs:∀e ∈ l,e ∈ m) {x y} (h:Reach l x y):Reach m x y:=by
 induction h with
 | refl=>exact .refl _
 | on k _ ih=>obtain ⟨e,b,f,g⟩:=zdA.1 k;exact .on (zdA.2 ⟨e,hs e b,f,g⟩) ih
theorem Cyc.sub {l m:List Ed} (hs:∀e ∈ l,e ∈ m) (h:Cyc l):Cyc m:=by
 obtain ⟨e,b,n,r⟩:=h;exact ⟨e,hs e b,n,r.sub hs⟩
theorem zsa (l:List Ed):(l.map turn).map turn=l:=by rw [ybp];exact (ybC fun e _=>rfl).trans (ycF l)
theorem Reach.turn {l x y} (h:Reach l x y):Reach (l.map turn) y x:=by
 induction h with
 | refl=>exact .refl _
 | on m _ ih =>
  obtain ⟨e,b,rfl,rfl⟩:=zdA.1 m;exact ih.trans (Reach.one (yaH.2 ⟨e,b,rfl⟩:YtmblgnddgmfkhaaGreat.turn e ∈ l.map YtmblgnddgmfkhaaGreat.turn))
theorem Reach.unturn {l x y} (h:Reach (l.map YtmblgnddgmfkhaaGreat.turn) x y):Reach l y x:=by
 have:=h.turn;rwa [zsa] at this
theorem Way.reach {l s x y} (h:Way (goE l) s x y):Reach l x y:=by
 induction h with
 | «at» _=>exact .refl _
 | on _ m _ ih=>exact .on m ih
theorem Reach.way {l:List Ed} (hl:InR n l) (hs:∀k:Nat,k<n→s[k]? = some false) {x y} (h:Reach l x y) (hx:x<n):Way (goE l) s x y:=by
 induction h with
 | refl=>exact .at (hs _ hx)
 | on m _ ih =>
  obtain ⟨e,b,rfl,rfl⟩:=zdA.1 m;exact .on (hs _ hx) (zdA.2 ⟨e,b,rfl,rfl⟩) (ih (hl.tt b))
theorem InR.turn {n l} (h:InR n l):InR n (l.map turn):=by
 intro e m;obtain ⟨d,b,rfl⟩:=yaH.1 m;have:=h d b;simp only [YtmblgnddgmfkhaaGreat.turn];omega
theorem Sol.reach {n l v} (h:Sol n l v) {x y} (r:Reach l x y):v y≤v x:=by
 induction r with
 | refl=>exact ybf _
 | on m _ ih =>
  obtain ⟨e,b,rfl,rfl⟩:=zdA.1 m;have:=h.2 e b;have:=zmC e;omega
theorem Cyc.none {n l v} (h:Cyc l) (k:Sol n l v):False:=by
 obtain ⟨e,b,f,r⟩:=h;have j:=k.reach r;have g:=k.2 e b;simp [rise,f] at g;omega
theorem Sol.sub {n l m v} (hs:∀e ∈ l,e ∈ m) (h:Sol n m v):Sol n l v:=⟨h.1,fun e b=>h.2 e (hs e b)⟩
theorem Least.same {n l u v} (h:Least n l u) (k:Least n l v) {i:Nat} (hi:i<n):u i=v i:=Int.le_antisymm (h.2 _ k.1 i hi) (k.2 _ h.1 i hi)
theorem Least.congr {n l m v} (hs:∀e,e ∈ l↔e ∈ m) (h:Least n l v):Least n m v :=
 ⟨h.1.sub fun e b=>(hs e).2 b,fun u f=>h.2 u (f.sub fun e b=>(hs e).1 b)⟩
structure OrdOk (l:List Ed) (n:Nat) (ord:List Nat):Prop where
 nd:ord.Nodup
 mem:∀k,k ∈ ord↔k<n
 back:∀x y,x<n→Reach l y x→∃c,Reach l c x∧Reach l x c∧Bef ord y c
theorem ord_of {l:List Ed} (hl:InR n l) (h:Walks (goE (l.map turn)) (List.replicate n false) (List.range n) s' L):OrdOk l n L:=by
 have b:∀k:Nat,k<n→(List.replicate n false)[k]? = some false:=fun k hk=>by rw [ybJ];simp [hk]
 have f:∀k,k ∈ L↔k<n:=fun k=>by
  rw [h.come k];constructor
  · rintro ⟨a,_,w⟩;have:=(yap.1 w.lst).1;simpa using this
  · intro hk;exact ⟨k,yct.2 hk,.at (b k hk)⟩
 refine ⟨h.seen.2.2.2,f,fun x y g r=>?_⟩;obtain ⟨_,c,_,j,m,o⟩:=h.order x ((f x).2 g) y (r.turn.way hl.turn b g);exact ⟨c,j.reach.unturn,m.reach.unturn,o⟩
structure Rings (l:List Ed) (all:List (List Nat)):Prop where
 nd:all.flatten.Nodup
 one:∀A r B,all=A ++ r::B→r≠[]∧(∀e ∈ l,fr e ∈ r→tt e ∈ (A ++ [r]).flatten)∧∀x ∈ r,∀y ∈ r,Reach l x y
structure Told (l:List Ed) (n:Nat) (Q:List Nat) (s:List Bool) (all:List (List Nat)):Prop where
 len:s.length=n
 told:∀k:Nat,s[k]? = some true↔k ∈ all.flatten
 past:∀k ∈ Q,s[k]? = some true
 rings:Rings l all
theorem Rings.closed {l all} (h:Rings l all) {e:Ed} (he:e ∈ l) (hk:fr e ∈ all.flatten):tt e ∈ all.flatten:=by
 obtain ⟨r,b,f⟩:=List.mem_flatten.1 hk;obtain ⟨A,B,rfl⟩:=yci b;have:=(h.one A r B rfl).2.1 e he f;simp only [ycA,ybP,List.flatten_nil,yaK,yaA] at this ⊢;rcases this with h | h
 · exact .inl h
 · exact .inr (.inl h)
theorem Rings.closed' {l all} (h:Rings l all) {x y} (r:Reach l x y) (hk:x ∈ all.flatten):y ∈ all.flatten:=by
 induction r with
 | refl=>exact hk
 | on m _ ih=>obtain ⟨e,b,rfl,rfl⟩:=zdA.1 m;exact ih (h.closed b hk)
theorem Told.start {l:List Ed}:Told l n [] (List.replicate n false) [] where
 len:=by simp
 told k:=by rw [ybJ];by_cases h:k<n <;> simp [h]
 past k hk:=by cases hk
 rings:=⟨by simp,fun A r B e=>by simp at e⟩
theorem zpe {α} {all A B:List α} {r x:α} (h:all ++ [x]=A ++ r::B):(∃B',B=B' ++ [x]∧all=A ++ r::B')∨(B=[]∧A=all∧r=x):=by
 rcases ybR B with rfl | ⟨B',b,rfl⟩
 · right;have:=List.append_inj' h rfl;simp at this;exact ⟨rfl,this.1.symm,this.2.symm⟩
 · left;have f:all ++ [x]=(A ++ r::B') ++ [b]:=by simpa using h
   have:=List.append_inj' f rfl;simp at this;exact ⟨B',by simp [this.2],this.1⟩
theorem Told.step {l:List Ed} {P Q:List Nat} {all:List (List Nat)} {ring:List Nat} (hl:InR n l) (ho:OrdOk l n (P ++ a::Q)) (h:Told l n Q s all)
 (w:Walks (goE l) s [a] s' ring):Told l n (a::Q) s' (if ring=[] then all else all ++ [ring]):=by
 have J:a<n:=(ho.mem a).1 yaf;have g:s[a]? = some true∨s[a]? = some false:=by
  have:a<s.length:=by rw [h.len];exact J
  rw [yal this];cases s[a] <;> simp
 have f:∀y,y ∈ ring↔Way (goE l) s a y:=by simpa using w.come
 rcases g with g | g
 · have e:ring=[]:=by
    cases ring with
    | nil=>rfl
    | cons x t =>
     have:=((f x).1 yaf).fst;rw [g] at this;cases this
   subst e;have K:s'=s:=by
    have o:s'.length=s.length:=w.size;apply List.ext_getElem? ;intro k;have q1:=w.seen.1 k;have q2:=w.seen.2.1 k;simp only [ya1,ybA,not_false_eq_true,and_true] at q1 q2;cases h1:s[k]? with
    | none=>rw [ycR] at h1 ⊢;omega
    | some b=>cases b <;> simp_all
   rw [K,yan rfl];exact ⟨h.len,h.told,fun k hk=>(yaw.1 hk).elim (fun e=>e ▸ g) (h.past k),h.rings⟩
 · have u:ring≠[]:=fun e=>by
    have:=(f a).2 (.at g);rw [e] at this;cases this
   have C:∀k:Nat,s[k]? = some false→k ∉ all.flatten:=fun k hk m=>by
    have:=(h.told k).2 m;rw [hk] at this;cases this
   have D:∀x ∈ ring,Reach l x a:=by
    intro x o;have L:=(f x).1 o;have M:x<n:=by have:=(yap.1 L.lst).1;rw [h.len] at this;exact this
    obtain ⟨c,c1,c2,P',Q',e,hb⟩:=ho.back x a M L.reach;have N:c ∉ all.flatten:=fun m=>C x L.lst (h.rings.closed' c1 m);have O:c ∉ Q:=fun m=>N ((h.told c).1 (h.past c m));have R:c=a:=by
     rcases hb with hb | hb
     ·
      exfalso;have E:=ho.nd;have q:c ∈ P ++ a::Q:=by rw [e];simp
      rw [yaA,yaw] at q;rcases q with q | rfl | q
      ·
       obtain ⟨P1,T,rfl⟩:=yci q;obtain ⟨F,R2,rfl⟩:=yci hb;have H:P1 ++ c::(T ++ a::Q)=(F ++ a::R2) ++ c::Q':=by simpa using e
       have I:(P1 ++ c::(T ++ a::Q)).Nodup:=by simpa using E
       have U:c ∉ P1:=fun m=>(ybb.1 I).2.2 c m c yaf rfl;have G:=I;rw [H] at G;have V:c ∉ F ++ a::R2:=fun m=>(ybb.1 G).2.2 c m c yaf rfl;have hP:P1=F ++ a::R2:=by
        have t1:(P1 ++ c::(T ++ a::Q)).takeWhile (fun z=>decide (z≠c))=P1:=by
         rw [List.takeWhile_append_of_pos (fun z X=>by simp;rintro rfl;exact U X)];simp
        have t2:((F ++ a::R2) ++ c::Q').takeWhile (fun z=>decide (z≠c))=F ++ a::R2:=by
         rw [List.takeWhile_append_of_pos (fun z X=>by simp;rintro rfl;exact V X)];simp
        rw [←t1,H,t2]
       rw [hP] at I;exact (ybb.1 I).2.2 a yaf a yaf rfl
      · have G:=E;rw [e] at G;exact (ybb.1 G).2.2 c hb c yaf rfl
      · exact O q
     · exact hb.symm
    exact R ▸ c2
   rw [yak u];have j:∀k:Nat,s'[k]? = some true↔k ∈ (all ++ [ring]).flatten:=fun k=>by
    rw [w.seen.1,h.told];simp
   refine ⟨by rw [w.size,h.len],j,fun k hk=>?_,⟨?_,fun A r B e=>?_⟩⟩
   · rw [w.seen.1];rcases yaw.1 hk with rfl | hk
     · exact .inr ((f k).2 (.at g))
     · exact .inl (h.past k hk)
   · rw [ycA,ybb];refine ⟨h.rings.nd,by simpa using w.seen.2.2.2,?_⟩;rintro x o y Y rfl;exact C x (w.seen.2.2.1 x (by simpa using Y)) o
   · rcases zpe e with ⟨B',_,H⟩ | ⟨_,rfl,rfl⟩
     · exact h.rings.one A r B' H
     · refine ⟨u,fun e he hf=>?_,fun x o y Y=>(D x o).trans ((f y).1 Y).reach⟩;rw [←j,w.seen.1];have wf:=(f _).1 hf;have Z:=hl.tt he;have:s[tt e]? = some true∨s[tt e]? = some false:=by
        have:tt e<s.length:=by rw [h.len];exact Z
        rw [yal this];cases s[tt e] <;> simp
       rcases this with t | t
       · exact .inl t
       · exact .inr ((f _).2 (wf.trans (.on wf.lst (zdA.2 ⟨e,he,rfl,rfl⟩) (.at t))))
theorem Told.whole {l:List Ed} {ord:List Nat} {s all} (ho:OrdOk l n ord) (h:Told l n ord s all):∀k,k<n↔k ∈ all.flatten:=fun k=>by
 rw [←h.told k];constructor
 · intro hk;exact h.past k ((ho.mem k).2 hk)
 · intro hk;have:=(yap.1 hk).1;rw [h.len] at this;exact this
def zcg (v:List Int) (k:Nat):Int:=v.getD k 0
def up1 (v:List Int) (lev:Int) (e:Ed):Option Int :=
 if zcg v (tt e) = -1 then (if e.2.2=true then none else some lev) else some (max lev (zcg v (tt e) + rise e))
def upE (v:List Int):Int→List Ed→Option Int
 | lev,[]=>some lev
 | lev,e::es=>match up1 v lev e with
  | none=>none
  | some z=>upE v z es
def upR (v:List Int) (l:List Ed):Int→List Nat→Option Int
 | lev,[]=>some lev
 | lev,a::as'=>match upE v lev (outE l a) with
  | none=>none
  | some z=>upR v l z as'
def zpb (v:List Int) (z:Int):List Nat→List Int
 | []=>v
 | a::as'=>zpb (v.set a z) z as'
theorem up1_some {v lev e z} (h:up1 v lev e=some z):lev≤z∧(zcg v (tt e) = -1→e.2.2=false)∧(zcg v (tt e)≠-1→zcg v (tt e) + rise e≤z)∧(z=lev∨(zcg v (tt e)≠-1∧z=zcg v (tt e) + rise e)):=by
 unfold up1 at h;by_cases b:zcg v (tt e) = -1
 · rw [yan b] at h;by_cases f:e.2.2=true
   · rw [yan f] at h;cases h
   · rw [yak f] at h;cases h;exact ⟨ybf _,fun _=>by simpa using f,fun k=>absurd b k,.inl rfl⟩
 · rw [yak b] at h;cases h;refine ⟨by omega,fun k=>absurd k b,fun _=>by omega,?_⟩;rcases Int.le_total lev (zcg v (tt e) + rise e) with k | k
   · exact .inr ⟨b,by omega⟩
   · exact .inl yab
theorem upE_some {v lev} {es:List Ed} {z} (h:upE v lev es=some z):lev≤z∧(∀e ∈ es,zcg v (tt e) = -1→e.2.2=false)∧(∀e ∈ es,zcg v (tt e)≠-1→zcg v (tt e) + rise e≤z)∧(z=lev∨∃e ∈ es,zcg v (tt e)≠-1∧z=zcg v (tt e) + rise e):=by
 induction es generalizing lev with
 | nil=>cases h;simp
 | cons e es ih =>
  unfold upE at h;cases f:up1 v lev e with
  | none=>rw [f] at h;cases h
  | some y =>
   rw [f] at h;obtain ⟨o,g,a3,a4⟩:=up1_some f;obtain ⟨q,j,m,n⟩:=ih h;refine ⟨by omega,?_,?_,?_⟩
   · intro d b;rcases yaw.1 b with rfl | b
     · exact g
     · exact j d b
   · intro d b;rcases yaw.1 b with rfl | b
     · intro k;have:=a3 k;omega
     · exact m d b
   · rcases n with rfl | ⟨d,b,k⟩
     · rcases a4 with rfl | k
       · exact .inl rfl
       · exact .inr ⟨e,by simp,k⟩
     · exact .inr ⟨d,by simp [b],k⟩
theorem upE_none {v lev} {es:List Ed} (h:upE v lev es=none):∃e ∈ es,zcg v (tt e) = -1∧e.2.2=true:=by
 induction es generalizing lev with
 | nil=>cases h
 | cons e es ih =>
  unfold upE at h;cases b:up1 v lev e with
  | none =>
   unfold up1 at b;by_cases f:zcg v (tt e) = -1
   · by_cases g:e.2.2=true
     · exact ⟨e,by simp,f,g⟩
     · rw [yan f,yak g] at b;cases b
   · rw [yak f] at b;cases b
  | some y =>
   rw [b] at h;obtain ⟨d,j,k⟩:=ih h;exact ⟨d,by simp [j],k⟩
theorem zgi {v lev} {es fs:List Ed}:upE v lev (es ++ fs)=match upE v lev es with | none=>none | some z=>upE v z fs:=by
 induction es generalizing lev with
 | nil=>rfl
 | cons e es ih =>
  rw [ybq];simp only [upE];cases up1 v lev e with
  | none=>rfl
  | some y=>exact ih
theorem zn9 {v l lev}:upR v l lev r=upE v lev ((r.map (outE l)).flatten):=by
 induction r generalizing lev with
 | nil=>rfl
 | cons a b ih =>
  rw [yaX,ybP,zgi];unfold upR;cases upE v lev (outE l a) with
  | none=>rfl
  | some z=>exact ih
theorem zfA {l:List Ed} {e:Ed}:e ∈ (r.map (outE l)).flatten↔e ∈ l∧fr e ∈ r:=by
 simp only [List.mem_flatten,yaH];constructor
 · rintro ⟨_,⟨a,f,rfl⟩,g⟩;obtain ⟨b,rfl⟩:=zfz.1 g;exact ⟨b,f⟩
 · rintro ⟨b,j⟩;exact ⟨_,⟨_,j,rfl⟩,zfz.2 ⟨b,rfl⟩⟩
theorem znX {v z}:(zpb v z r).length=v.length:=by
 induction r generalizing v with
 | nil=>rfl
 | cons a b ih=>rw [zpb,ih,ycc]
theorem zeN {v:List Int} (k:Nat):(zpb v z r)[k]? = if k ∈ r∧k<v.length then some z else v[k]?:=by
 induction r generalizing v with
 | nil=>simp [zpb]
 | cons a g ih =>
  rw [zpb,ih,ycc,ycm];by_cases b:k ∈ g∧k<v.length
  · rw [yan b,yan ⟨by simp [b.1],b.2⟩]
  · rw [yak b];by_cases j:a=k
    · subst j;by_cases f:a<v.length
      · simp [f]
      · simp [f]
    · rw [yak j,yak (by
       rintro ⟨m,f⟩;rcases yaw.1 m with e | m
       · exact j e.symm
       · exact b ⟨m,f⟩)]
structure Lv (l:List Ed) (n:Nat) (A:List (List Nat)) (v:List Int):Prop where
 len:v.length=n
 un:∀k,k<n→k ∉ A.flatten→v[k]? = some (-1)
 told:∀k ∈ A.flatten,∃z,v[k]? = some z∧0≤z∧z≤A.length∧(∀u,Sol n l u→z≤u k)∧∀e ∈ l,fr e=k→∃y,v[tt e]? = some y∧0≤y∧y + rise e≤z
theorem Lv.start {l n}:Lv l n [] (List.replicate n (-1)) where
 len:=by simp
 un k hk _:=by rw [ybJ];simp [hk]
 told k hk:=by simp at hk
theorem Lv.bound {l n A v} (h:Lv l n A v) (hz:v[k]? = some z) : -1≤z∧z≤A.length:=by
 by_cases m:k ∈ A.flatten
 · obtain ⟨y,b,f,g,_⟩:=h.told k m;rw [hz] at b;cases b;omega
 · have hk:k<n:=by have:=(yap.1 hz).1;rw [h.len] at this;exact this
   have:=h.un k hk m;rw [hz] at this;cases this;omega
theorem zd9 {v:List Int} (h:v[k]? = some z):zcg v k=z:=by
 unfold zcg;rw [ya2,h];rfl
theorem Lv.edge {l n all A r B v} (hR:Rings l all) (e:all=A ++ r::B) (hw:∀k,k ∈ all.flatten→k<n) (h:Lv l n A v) {d:Ed} (hd:d ∈ l) (hf:fr d ∈ r) :
 (tt d ∈ r∧zcg v (tt d) = -1)∨(tt d ∉ r∧tt d ∈ A.flatten∧v[tt d]? = some (zcg v (tt d))∧0≤zcg v (tt d)):=by
 have j:=(hR.one A r B e).2.1 d hd hf;simp only [ycA,ybP,List.flatten_nil,yaK,yaA] at j;have b:=hR.nd;rw [e,ycA,ybP,ybb] at b;rcases j with m | m
 · right;obtain ⟨z,f,o,_⟩:=h.told _ m;refine ⟨fun g=>b.2.2 _ m _ (by simp [g]) rfl,m,?_,?_⟩
   · rw [zd9 f];exact f
   · rw [zd9 f];exact o
 · left;refine ⟨m,zd9 (h.un _ (hw _ (by rw [e];simp [m])) fun g=>b.2.2 _ g _ (by simp [m]) rfl)⟩
theorem Lv.bad {l n all A r B v} (hR:Rings l all) (e:all=A ++ r::B) (hw:∀k,k ∈ all.flatten→k<n) (h:Lv l n A v) (hu:upR v l 0 r=none):Cyc l:=by
 rw [zn9] at hu;obtain ⟨d,b,j,g⟩:=upE_none hu;obtain ⟨b,f⟩:=zfA.1 b;rcases h.edge hR e hw b f with ⟨m,_⟩ | ⟨_,_,_,o⟩
 · exact ⟨d,b,g,(hR.one A r B e).2.2 _ m _ f⟩
 · omega
theorem Lv.step {l n all A r B v z} (hR:Rings l all) (e:all=A ++ r::B) (hw:∀k,k ∈ all.flatten→k<n) (h:Lv l n A v) (hu:upR v l 0 r=some z):Lv l n (A ++ [r]) (zpb v z r):=by
 rw [zn9] at hu;obtain ⟨z0,O,P,N⟩:=upE_some hu;obtain ⟨Q,R,G⟩:=hR.one A r B e;have D:(A ++ [r]).flatten=A.flatten ++ r:=by simp
 have o:∀k ∈ r,k<n:=fun k hk=>hw k (by rw [e];simp [hk]);have f:∀k ∈ A.flatten,k ∉ r:=fun k hk m=>by
  have E:=hR.nd;rw [e,ycA,ybP,ybb] at E;exact E.2.2 _ hk _ (by simp [m]) rfl
 have H:∀u,Sol n l u→∀k ∈ r,z≤u k:=by
  intro u s k hk;rcases N with rfl | ⟨d,b,F,rfl⟩
  · exact s.1 k (o k hk)
  · obtain ⟨b,g⟩:=zfA.1 b;have Y:=s.reach (G k hk _ g);have Z:=s.2 d b;rcases h.edge hR e hw b g with ⟨_,m⟩ | ⟨_,m,C,_⟩
    · exact absurd m F
    · obtain ⟨y,I,_,_,T,_⟩:=h.told _ m;have:=T u s;rw [zd9 I];omega
 refine ⟨by rw [znX,h.len],fun k hk m=>?_,fun k hk=>?_⟩
 · rw [D,yaA,not_or] at m;rw [zeN,yak (fun q=>m.2 q.1)];exact h.un k hk m.1
 · rw [D,yaA] at hk;rcases hk with hk | hk
   · obtain ⟨y,I,J,F,U,V⟩:=h.told k hk;refine ⟨y,by rw [zeN,yak (fun q=>f k hk q.1)];exact I,J,by simp;omega,U,fun d b g=>?_⟩;obtain ⟨x,K,q⟩:=V d b g;have X:tt d ∈ A.flatten:=by
      by_cases m:tt d ∈ A.flatten
      · exact m
      · have L:tt d<n:=by have:=(yap.1 K).1;rw [h.len] at this;exact this
        have:=h.un _ L m;rw [K] at this;cases this;omega
     exact ⟨x,by rw [zeN,yak (fun q=>f _ X q.1)];exact K,q⟩
   · have M:=o k hk;refine ⟨z,by rw [zeN,yan ⟨hk,by rw [h.len];exact M⟩],z0,?_,fun u s=>H u s k hk,fun d b g=>?_⟩
     · simp;rcases N with rfl | ⟨d,b,F,rfl⟩
       · omega
       · obtain ⟨b,g⟩:=zfA.1 b;rcases h.edge hR e hw b g with ⟨_,m⟩ | ⟨_,m,C,_⟩
         · exact absurd m F
         · have:=(h.bound C).2;have:=zmC d;omega
     · subst g;have j:=zfA.2 ⟨b,hk⟩;rcases h.edge hR e hw b hk with ⟨m,C⟩ | ⟨m,m2,C,J⟩
       · refine ⟨z,by rw [zeN,yan ⟨m,by rw [h.len];exact o _ m⟩],z0,?_⟩;have:=O d j C;simp [rise,this]
       · refine ⟨zcg v (tt d),by rw [zeN,yak (fun q=>m q.1)];exact C,J,P d j yab⟩
theorem Lv.least {l n all v} (hl:InR n l) (hw:∀k,k<n↔k ∈ all.flatten) (h:Lv l n all v):Least n l (zcg v):=by
 refine ⟨⟨fun i hi=>?_,fun e f=>?_⟩,fun u g i hi=>?_⟩
 · obtain ⟨z,b,j,_⟩:=h.told i ((hw i).1 hi);rw [zd9 b];exact j
 · obtain ⟨z,b,_,_,_,m⟩:=h.told _ ((hw _).1 (hl.fr f));obtain ⟨y,o,_,q⟩:=m e f rfl;rw [zd9 b,zd9 o];exact q
 · obtain ⟨z,b,_,_,s,_⟩:=h.told i ((hw i).1 hi);rw [zd9 b];exact s u g
theorem Lv.small {l n all v} (h:Lv l n all v):∀x ∈ v,-1≤x∧x≤all.length:=by
 intro x b;obtain ⟨k,hk,rfl⟩:=ycf b;exact h.bound (yal hk)
theorem nodup_le (h:L.Nodup) (hw:∀k ∈ L,k<n):L.length≤n:=by
 induction n generalizing L with
 | zero =>
  cases L with
  | nil=>simp
  | cons a t=>have:=hw a yaf;omega
 | succ n ih =>
  have b:=ih (h.erase n) fun k hk=>by
   have:=(h.mem_erase_iff).1 hk;have:=hw k this.2;omega
  rw [List.length_erase] at b;split at b <;> omega
theorem zrF {l:List Ed} {all:List (List Nat)} (h:Rings l all) (hw:∀k ∈ all.flatten,k<n):all.length≤n:=by
 have f:all.length≤all.flatten.length:=by
  have:∀(all:List (List Nat)),(∀r ∈ all,r≠[])→all.length≤all.flatten.length:=by
   intro all;induction all with
   | nil=>intro;simp
   | cons r t ih =>
    intro b;have f:=ih fun x g=>b x (by simp [g]);have j:0<r.length:=ybD.2 (b r yaf);rw [yat,ybP,yam];omega
  refine this all fun r b=>?_;obtain ⟨A,B,e⟩:=yci b;exact (h.one A r B e).1
 have j:=nodup_le h.nd hw;omega
abbrev Path:=ByteArray × ByteArray
def zat (ps:List Path) (q:Path):Option Nat:=ps.zipIdx.foldl (fun a p=>if p.1=q then some p.2 else a) none
theorem zhA (ps:List Path) (p q:Path):zat (ps ++ [p]) q=if p=q then some ps.length else zat ps q:=by
 unfold zat;rw [ycB,ycn];simp
theorem zcf {ps:List Path} {q:Path} {i:Nat} (h:zat ps q=some i):ps[i]? = some q:=by
 suffices H:∀n (ps:List Path),ps.length=n→∀i,zat ps q=some i→ps[i]? = some q from H _ ps rfl i h
 intro n;induction n with
 | zero=>intro ps b i h;rw [yaU b] at h;simp [zat] at h
 | succ n ih =>
  intro ps b i h;rcases ybR ps with rfl | ⟨f,p,rfl⟩
  · simp at b
  · rw [yb8] at *
    rw [zhA] at h;by_cases e:p=q
    · rw [yan e] at h;cases h;subst e;simp
    · rw [yak e] at h;have:=ih f (by simpa using b) i h;have g:=(yap.1 this).1;rw [ybt g];exact this
def zbb (l:List TypI):List (TypI × RelI):=l.flatMap fun t=>t.rels.map fun r=>(t,r)
def zaZ (l:List TypI):List Path:=(zbb l).map fun x=>(x.1.name,x.2.name)
def zfb (l:List Path):List Path:=l.filter fun s=>!decide (s.2=⟨#[]⟩)
def zbR (l:List Path) (n:ByteArray):List Path:=(l.filter fun s=>decide (s.2=⟨#[]⟩)).map fun s=>(s.1,n)
def zec (ps:List Path) (rs:List RelI) (tn:ByteArray) (subs:List Path) (o:OpI):List Path :=
 if o.1=1 then zfb subs
 else if o.1=2 then [(tn,o.2.1)]
 else if o.1=3 then (match zat ps (tn,o.2.1) with
  | some i=>(match rs[i]? with
   | some x=>zbR x.subs o.2.2
   | none=>[])
  | none=>[])
 else []
def zdh (ps:List Path) (rs:List RelI) (tn:ByteArray) (subs:List Path) (o:OpI):List Nat:=(zec ps rs tn subs o).filterMap (zat ps)
def zfU (m:List Int) (i:Nat) (d:Int):List Int:=m.set i (m.getD i 0 + d)
def zcQ (s:List Int × List Nat) (i:Nat) (k:Int):List Int × List Nat :=
 if k=1∨k=2∨k=3 then (s.1,s.2 ++ [i])
 else if k=4∨k=5∨k=6 then
  (if s.2.length<2 then s
   else (if k=6 then zfU (zfU s.1 (s.2.getD (s.2.length-1) 0) 1) i (-1) else s.1,s.2.take (s.2.length-1)))
 else s
def zi3 (s:List Int × List Nat) (i:Nat):List OpI→List Int × List Nat
 | []=>s
 | o::r=>zi3 (zcQ s i o.1) (i + 1) r
theorem zqU (s:List Int × List Nat) (i:Nat) (l:List OpI) (o:OpI):zi3 s i (l ++ [o])=zcQ (zi3 s i l) (i + l.length) o.1:=by
 induction l generalizing s i with
 | nil=>rfl
 | cons a t ih=>rw [ybq,zi3,ih,zi3,yat,Nat.add_right_comm,←ya7]
def zgD (m:List Int):Nat→List Int
 | 0=>m
 | j + 1=>(zgD m j).set (j + 1) ((zgD m j).getD (j + 1) 0 + (zgD m j).getD j 0)
def zkY (l:List OpI):List Int:=(zi3 (List.replicate (l.length + 1) 0,[]) 0 l).1
def zco (l:List OpI) (i:Nat):Bool:=decide (0<(zgD (zkY l) l.length).getD i 0)
theorem zg0 (m:List Int) (i:Nat) (d:Int):(zfU m i d).length=m.length:=by unfold zfU;rw [ycc]
theorem zqV (s:List Int × List Nat) (i:Nat) (k:Int):(zcQ s i k).1.length=s.1.length:=by
 unfold zcQ;split
 · rfl
 · split
   · split
     · rfl
     · split
       · rw [zg0,zg0]
       · rfl
   · rfl
theorem mrun_len (s:List Int × List Nat) (i:Nat) (l:List OpI):(zi3 s i l).1.length=s.1.length:=by
 induction l generalizing s i with
 | nil=>rfl
 | cons a t ih=>rw [zi3,ih,zqV]
theorem znL (m:List Int) (j:Nat):(zgD m j).length=m.length:=by
 induction j with
 | zero=>rfl
 | succ j ih=>rw [zgD,ycc,ih]
theorem mrun_beg (l:List OpI):∀(s:List Int × List Nat) (i:Nat),(zi3 s i l).2.length≤s.2.length + l.length:=by
 induction l with
 | nil=>intro s i;exact yaj _
 | cons o r ih =>
  intro s i;have b:=ih (zcQ s i o.1) (i + 1);have f:(zcQ s i o.1).2.length≤s.2.length + 1:=by
   unfold zcQ;split
   · simp
   · split
     · split
       · omega
       · rw [yaN];omega
     · omega
  rw [zi3,yat];omega
theorem mrun_lt (l:List OpI):∀(s:List Int × List Nat) (i:Nat),(∀b ∈ s.2,b<i)→∀b ∈ (zi3 s i l).2,b<i + l.length:=by
 induction l with
 | nil=>intro s i h b hb;exact h b hb
 | cons o r ih =>
  intro s i h b hb;have:=ih (zcQ s i o.1) (i + 1) (fun c f=>by
   unfold zcQ at f;split at f
   · rcases yaA.1 f with q | q
     · have:=h c q;omega
     · rw [yav.1 q];omega
   · split at f
     · split at f
       · have:=h c f;omega
       · have:=h c (ybW f);omega
     · have:=h c f;omega) b hb
  rw [yat];omega
def Small (m:List Int) (k:Int):Prop:=∀x ∈ m,-k≤x∧x≤k
theorem zeZ {m:List Int} {k:Int} (h:Small m k) (i:Nat) (d:Int) (hk:0≤k) (hd : -1≤d∧d≤1):Small (zfU m i d) (k + 1):=by
 intro x b;unfold zfU at b;rcases yco b with b | rfl
 · have:=h x b;omega
 · rw [ya2];cases hi:m[i]? with
   | none=>simp;omega
   | some y=>have:=h y (yaq hi);simp;omega
theorem zmm {s:List Int × List Nat} {k:Int} (h:Small s.1 k) (i:Nat) (o:Int) (hk:0≤k):Small (zcQ s i o).1 (k + 2):=by
 have up:∀{m:List Int},Small m k→Small m (k + 2):=fun q x b=>by have:=q x b;omega
 unfold zcQ;split
 · exact up h
 · split
   · split
     · exact up h
     · split
       · have:=zeZ (zeZ h (s.2.getD (s.2.length-1) 0) 1 hk yab) i (-1) yab yab;rw [Int.add_assoc] at this;exact this
       · exact up h
   · exact up h
theorem zi4 (l:List OpI):∀(s:List Int × List Nat) (i:Nat) (k:Int),0≤k→Small s.1 k→Small (zi3 s i l).1 (k + 2 * l.length):=by
 induction l with
 | nil=>intro s i k _ h;simpa [zi3] using h
 | cons o r ih =>
  intro s i k hk h;have:=ih (zcQ s i o.1) (i + 1) (k + 2) yab (zmm h i o.1 hk);rw [yat];intro x b;have:=this x b;omega
theorem zoT {m:List Int} {k:Int} (h:Small m k) (hk:0≤k) (j:Nat):Small (zgD m j) (k * (j + 1))∧(∀i,j<i→(zgD m j).getD i 0=m.getD i 0):=by
 induction j with
 | zero=>exact ⟨by simpa [zgD] using h,fun _ _=>rfl⟩
 | succ j ih =>
  obtain ⟨q,s⟩:=ih;have g:∀(f:List Int) (b:Int),0≤b→Small f b→∀i,-b≤f.getD i 0∧f.getD i 0≤b:=fun f b hb u i=>by
   rw [ya2];cases hi:f[i]? with
   | none=>simp;omega
   | some y=>have:=u y (yaq hi);simpa using this
  have z:0≤k * (j:Int):=Int.mul_nonneg hk yab;have o:k * ((j:Int) + 1)=k * j + k:=by rw [Int.mul_add,Int.mul_one]
  have A:k * (((j + 1:Nat):Int) + 1)=k * j + k + k:=by rw [Int.natCast_add,Int.mul_add,Int.mul_add];simp
  refine ⟨fun x n=>?_,fun i hi=>?_⟩
  · rw [zgD] at n;rw [A];rcases yco n with n | rfl
    · have:=q x n;rw [o] at this;omega
    · rw [s (j + 1) (by omega)];have C:=g m k hk h (j + 1);have B:=g _ _ (by rw [o];omega) q j;rw [o] at B;omega
  · rw [zgD,ya2,ycq yab,←ya2];exact s i yab
def opsE (ps:List Path) (rs:List RelI) (tn:ByteArray) (r:RelI) (from_:Nat) (i:Nat) (o:OpI):List Ed:=(zdh ps rs tn r.subs o).map fun to'=>((from_:Int),((to':Nat):Int),zco r.ops i)
def relE (ps:List Path) (rs:List RelI) (tn:ByteArray) (r:RelI) (from_:Nat):List Ed:=(r.ops.zipIdx).flatMap fun x=>opsE ps rs tn r from_ x.2 x.1
def zbr (l:List TypI):List Ed:=((zbb l).zipIdx).flatMap fun x=>relE (zaZ l) ((zbb l).map (·.2)) x.1.1.name x.1.2 x.2
end Go.Proofs.YtmblgnddgmfkhaaGreat
