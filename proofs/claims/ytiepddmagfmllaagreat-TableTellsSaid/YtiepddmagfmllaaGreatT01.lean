set_option maxRecDepth 100000
set_option maxHeartbeats 4000000
namespace Go.Proofs.YtiepddmagfmllaaGreat
inductive Walks (g:Nat→List Nat):List Bool→List Nat→List Bool→List Nat→Prop
 | nil (s:List Bool):Walks g s [] s []
 | old {s:List Bool} {a:Nat} {as':List Nat} {s':List Bool} {L:List Nat} (h:s[a]? = some true) (k:Walks g s as' s' L):Walks g s (a::as') s' L
 | new {s:List Bool} {a:Nat} {as':List Nat} {s1 s2:List Bool} {L1 L2:List Nat} (h:s[a]? = some false) (k1:Walks g (s.set a true) (g a) s1 L1) (k2:Walks g s1 as' s2 L2):Walks g s (a::as') s2 (L1 ++ a::L2)
inductive Way (g:Nat→List Nat) (s:List Bool):Nat→Nat→Prop
 | at {x:Nat} (h:s[x]? = some false):Way g s x x
 | on {x y z:Nat} (h:s[x]? = some false) (m:y ∈ g x) (k:Way g s y z):Way g s x z
theorem Way.fst {g s x y} (h:Way g s x y):s[x]? = some false:=by cases h <;> assumption
theorem Way.lst {g s x y} (h:Way g s x y):s[y]? = some false:=by induction h <;> assumption
theorem Way.trans {g s x y z} (h:Way g s x y) (k:Way g s y z):Way g s x z:=by
 induction h with
 | «at» _=>exact k
 | on h m _ ih=>exact .on h m (ih k)
theorem Way.more {g:Nat→List Nat} {s s':List Bool} {x y:Nat} (hs:∀k:Nat,s'[k]? = some false→s[k]? = some false) (h:Way g s' x y):Way g s x y:=by
 induction h with
 | «at» h=>exact .at (hs _ h)
 | on h m _ ih=>exact .on (hs _ h) m ih
theorem Way.part {g:Nat→List Nat} {s s':List Bool} {x y:Nat} (h:Way g s x y) (dec:∀k:Nat,s[k]? = some false→s'[k]? = some false∨s'[k]? = some true):Way g s' x y∨∃z,s'[z]? = some true∧Way g s x z∧Way g s z y:=by
 induction h with
 | @«at» x h=>
  rcases dec _ h with d | d
  · exact .inl (.at d)
  · exact .inr ⟨x,d,.at h,.at h⟩
 | @on x y z h m k ih =>
  rcases dec _ h with d | d
  · rcases ih with i | ⟨q,hq,i1,i2⟩
    · exact .inl (.on d m i)
    · exact .inr ⟨q,hq,.on h m i1,i2⟩
  · exact .inr ⟨x,d,.at h,.on h m k⟩
theorem Walks.size {g s as' s' L} (h:Walks g s as' s' L):s'.length=s.length:=by
 induction h with
 | nil=>rfl
 | old _ _ ih=>exact ih
 | new _ _ _ i1 i2=>rw [i2,i1,List.length_set]
theorem zbt {s:List Bool} {a k:Nat} {b:Bool}:(s.set a true)[k]? = some b↔(k=a∧a<s.length∧b=true)∨(k≠a∧s[k]? = some b):=by
 rw [List.getElem?_set];by_cases h:a=k
 · subst h;by_cases hl:a<s.length <;> simp [hl,eq_comm]
 · have h':k≠a:=fun e=>h e.symm;simp [h,h']
theorem zhH {s:List Bool} {a:Nat} (h:s[a]? = some false):(s.set a true).count false + 1=s.count false:=by
 induction s generalizing a with
 | nil=>simp at h
 | cons b t ih =>
  cases a with
  | zero =>
   simp only [List.getElem?_cons_zero,Option.some.injEq] at h;subst h;simp
  | succ a =>
   have:=ih (a:=a) (by simpa using h);rw [List.set_cons_succ,List.count_cons,List.count_cons];omega
theorem Walks.cf {g s as' s' L} (h:Walks g s as' s' L):L.length + s'.count false=s.count false:=by
 induction h with
 | nil=>simp
 | old _ _ ih=>exact ih
 | new h _ _ i1 i2 =>
  have:=zhH h;rw [List.length_append,List.length_cons];omega
theorem Walks.app {g s as' bs s1 s2 L1 L2} (h:Walks g s as' s1 L1) (k:Walks g s1 bs s2 L2):Walks g s (as' ++ bs) s2 (L1 ++ L2):=by
 induction h with
 | nil=>exact k
 | old h _ ih=>exact .old h (ih k)
 | new h k1 _ _ i2=>rw [List.append_assoc,List.cons_append];exact .new h k1 (i2 k)
theorem Walks.seen {g s as' s' L} (h:Walks g s as' s' L):(∀k,s'[k]? = some true↔s[k]? = some true∨k ∈ L)∧(∀k,s'[k]? = some false↔s[k]? = some false∧k ∉ L)∧(∀k ∈ L,s[k]? = some false)∧L.Nodup:=by
 induction h with
 | nil s=>simp
 | old _ _ ih=>exact ih
 | @new s a as' s1 s2 L1 L2 h k1 k2 i1 i2 =>
  obtain ⟨t1,f1,u1,n1⟩:=i1;obtain ⟨t2,f2,u2,n2⟩:=i2;have hl:a<s.length:=(List.getElem?_eq_some_iff.1 h).1;have ha1:a ∉ L1:=fun m=>by
   have:=u1 a m;rw [zbt] at this;rcases this with ⟨_,_,e⟩ | ⟨e,_⟩
   · cases e
   · exact e rfl
  refine ⟨fun k=>?_,fun k=>?_,fun k hk=>?_,?_⟩
  · rw [t2,t1,zbt,List.mem_append,List.mem_cons];constructor
    · rintro (((⟨e,_⟩ | ⟨_,e⟩) | e) | e)
      · exact .inr (.inr (.inl e))
      · exact .inl e
      · exact .inr (.inl e)
      · exact .inr (.inr (.inr e))
    · rintro (e | e | e | e)
      · by_cases hk:k=a
        · exact .inl (.inl (.inl ⟨hk,hl,rfl⟩))
        · exact .inl (.inl (.inr ⟨hk,e⟩))
      · exact .inl (.inr e)
      · exact .inl (.inl (.inl ⟨e,hl,rfl⟩))
      · exact .inr e
  · rw [f2,f1,zbt,List.mem_append,List.mem_cons];constructor
    · rintro ⟨⟨e1,e2⟩,e3⟩;rcases e1 with ⟨_,_,e⟩ | ⟨e4,e5⟩
      · cases e
      · exact ⟨e5,by rintro (e | e | e) <;> contradiction⟩
    · rintro ⟨e1,e2⟩;refine ⟨⟨.inr ⟨fun e=>e2 (.inr (.inl e)),e1⟩,fun e=>e2 (.inl e)⟩,fun e=>e2 (.inr (.inr e))⟩
  · rw [List.mem_append,List.mem_cons] at hk;rcases hk with hk | rfl | hk
    · have:=u1 k hk;rw [zbt] at this;rcases this with ⟨_,_,e⟩ | ⟨_,e⟩
      · cases e
      · exact e
    · exact h
    · have:=u2 k hk;rw [f1,zbt] at this;rcases this with ⟨⟨_,_,e⟩ | ⟨_,e⟩,_⟩
      · cases e
      · exact e
  · rw [List.nodup_append];refine ⟨n1,List.nodup_cons.2 ⟨fun m=>?_,n2⟩,?_⟩
    · have:=u2 a m;rw [f1,zbt] at this;rcases this with ⟨⟨_,_,e⟩ | ⟨e,_⟩,_⟩
      · cases e
      · exact e rfl
    · rintro x hx y hy rfl;rw [List.mem_cons] at hy;rcases hy with rfl | hy
      · exact ha1 hx
      · have:=u2 x hy;rw [f1] at this;exact this.2 hx
theorem Walks.dec {g s as' s' L} (h:Walks g s as' s' L) (k:Nat) (hk:s[k]? = some false):s'[k]? = some false∨s'[k]? = some true:=by
 by_cases m:k ∈ L
 · exact .inr ((h.seen.1 k).2 (.inr m))
 · exact .inl ((h.seen.2.1 k).2 ⟨hk,m⟩)
theorem way_step {g:Nat→List Nat} {s:List Bool} {a y:Nat} (w:Way g (s.set a true) a y):False:=by
 have:=w.fst;rw [zbt] at this;rcases this with ⟨_,_,e⟩ | ⟨e,_⟩
 · cases e
 · exact e rfl
theorem zeZ {s:List Bool} {a:Nat} (k:Nat) (h:(s.set a true)[k]? = some false):s[k]? = some false:=by
 rw [zbt] at h;rcases h with ⟨_,_,e⟩ | ⟨_,e⟩
 · cases e
 · exact e
theorem zka {g:Nat→List Nat} {s:List Bool} {a x y:Nat} (w:Way g s x y):Way g (s.set a true) x y∨(Way g s x a∧(y=a∨∃b ∈ g a,Way g (s.set a true) b y)):=by
 induction w with
 | @«at» x h =>
  by_cases e:x=a
  · subst e;exact .inr ⟨.at h,.inl rfl⟩
  · exact .inl (.at (by rw [zbt];exact .inr ⟨e,h⟩))
 | @on x y z h m k ih =>
  rcases ih with i | ⟨j,i⟩
  · by_cases e:x=a
    · subst e;exact .inr ⟨.at h,.inr ⟨y,m,i⟩⟩
    · exact .inl (.on (by rw [zbt];exact .inr ⟨e,h⟩) m i)
  · exact .inr ⟨.on h m j,i⟩
theorem Walks.come {g s as' s' L} (h:Walks g s as' s' L):∀y,y ∈ L↔∃a ∈ as',Way g s a y:=by
 induction h with
 | nil=>simp
 | @old s a as' s' L h k ih =>
  intro y;rw [ih y];constructor
  · rintro ⟨b,m,w⟩;exact ⟨b,List.mem_cons_of_mem _ m,w⟩
  · rintro ⟨b,m,w⟩;rcases List.mem_cons.1 m with rfl | m
    · have:=w.fst;rw [h] at this;cases this
    · exact ⟨b,m,w⟩
 | @new s a as' s1 s2 L1 L2 h k1 k2 i1 i2 =>
  intro y;have hl:a<s.length:=(List.getElem?_eq_some_iff.1 h).1;have first:∀y,Way g s a y↔y=a∨y ∈ L1:=by
   intro y;constructor
   · intro w;rcases zka w with i | ⟨_,i | ⟨b,m,i⟩⟩
     · exact (way_step i).elim
     · exact .inl i
     · exact .inr ((i1 y).2 ⟨b,m,i⟩)
   · rintro (rfl | m)
     · exact .at h
     · obtain ⟨b,mb,w⟩:=(i1 y).1 m;exact .on h mb (w.more zeZ)
  have s1f:∀k,s1[k]? = some false→s[k]? = some false:=fun k hk=>by
   rw [k1.seen.2.1] at hk;exact zeZ k hk.1
  rw [List.mem_append,List.mem_cons];constructor
  · rintro (m | m | m)
    · exact ⟨a,List.mem_cons_self,(first y).2 (.inr m)⟩
    · exact ⟨a,List.mem_cons_self,(first y).2 (.inl m)⟩
    · obtain ⟨b,mb,w⟩:=(i2 y).1 m;exact ⟨b,List.mem_cons_of_mem _ mb,w.more s1f⟩
  · rintro ⟨b,mb,w⟩;rcases List.mem_cons.1 mb with rfl | mb
    · rcases (first y).1 w with e | e
      · exact .inr (.inl e)
      · exact .inl e
    · have hd:∀k,s[k]? = some false→s1[k]? = some false∨s1[k]? = some true:=fun k hk=>by
       by_cases e:k=a
       · subst e;exact .inr ((k1.seen.1 k).2 (.inl (by rw [zbt];exact .inl ⟨rfl,hl,rfl⟩)))
       · exact k1.dec k (by rw [zbt];exact .inr ⟨e,hk⟩)
      rcases w.part hd with i | ⟨z,hz,i,j⟩
      · exact .inr (.inr ((i2 y).2 ⟨b,mb,i⟩))
      ·
       have hz':z=a∨z ∈ L1:=by
        rw [k1.seen.1,zbt] at hz;rcases hz with (⟨e,_⟩ | ⟨_,e⟩) | e
        · exact .inl e
        · have:=j.fst;rw [e] at this;cases this
        · exact .inr e
       have wz:Way g s a y:=((first z).2 hz').trans j;rcases (first y).1 wz with e | e
       · exact .inr (.inl e)
       · exact .inl e
def Bef (L:List Nat) (y c:Nat):Prop:=∃P Q,L=P ++ c::Q∧(y ∈ P∨y=c)
theorem Bef.left {L M:List Nat} {y c} (h:Bef L y c):Bef (L ++ M) y c:=by
 obtain ⟨P,Q,rfl,k⟩:=h;exact ⟨P,Q ++ M,by simp,k⟩
theorem Bef.right {L M:List Nat} {y c} (h:Bef M y c):Bef (L ++ M) y c:=by
 obtain ⟨P,Q,rfl,k⟩:=h;exact ⟨L ++ P,Q,by simp,k.elim (fun m=>.inl (by simp [m])) .inr⟩
theorem Bef.mid {L M:List Nat} {y c} (hy:y ∈ L) (hc:c ∈ M):Bef (L ++ M) y c:=by
 obtain ⟨P,Q,rfl⟩:=List.append_of_mem hc;exact ⟨L ++ P,Q,by simp,.inl (by simp [hy])⟩
theorem Walks.order {g s as' s' L} (h:Walks g s as' s' L):∀x ∈ L,∀y,Way g s x y→y ∈ L∧∃c,c ∈ L∧Way g s x c∧Way g s c x∧Bef L y c:=by
 induction h with
 | nil=>simp
 | old _ _ ih=>exact ih
 | @new s a as' s1 s2 L1 L2 h k1 k2 i1 i2 =>
  have hl:a<s.length:=(List.getElem?_eq_some_iff.1 h).1;have first:∀y,Way g s a y↔y=a∨y ∈ L1:=by
   intro y;have:=(Walks.new h k1 (Walks.nil s1):Walks g s [a] s1 (L1 ++ [a])).come y;simp at this;rw [←this];exact Or.comm
  have s1f:∀k,s1[k]? = some false→s[k]? = some false:=fun k hk=>by
   rw [k1.seen.2.1] at hk;exact zeZ k hk.1
  have hd:∀k,s[k]? = some false→s1[k]? = some false∨s1[k]? = some true:=fun k hk=>by
   by_cases e:k=a
   · subst e;exact .inr ((k1.seen.1 k).2 (.inl (by rw [zbt];exact .inl ⟨rfl,hl,rfl⟩)))
   · exact k1.dec k (by rw [zbt];exact .inr ⟨e,hk⟩)
  have hsp:L1 ++ a::L2=(L1 ++ [a]) ++ L2:=by simp
  have inA:∀y,Way g s a y→Bef (L1 ++ a::L2) y a:=fun y w=>by
   refine ⟨L1,L2,rfl,?_⟩;rcases (first y).1 w with e | e
   · exact .inr e
   · exact .inl e
  have memA:∀y,Way g s a y→y ∈ L1 ++ a::L2:=fun y w=>by
   rcases (first y).1 w with e | e
   · simp [e]
   · simp [e]
  intro x hx y w;rw [List.mem_append,List.mem_cons] at hx;rcases hx with hx | rfl | hx
  · rcases zka w with i | ⟨u,i⟩
    · obtain ⟨q,c,c0,c1,c2,c3⟩:=i1 x hx y i;exact ⟨by simp [q],c,by simp [c0],c1.more zeZ,c2.more zeZ,c3.left⟩
    · have wa:Way g s a y:=by
       rcases i with rfl | ⟨b,m,i⟩
       · exact .at h
       · exact .on h m (i.more zeZ)
      exact ⟨memA _ wa,a,memA _ (.at h),u,(first x).2 (.inr hx),inA _ wa⟩
  · exact ⟨memA _ w,x,memA _ (.at h),.at h,.at h,inA _ w⟩
  · rcases w.part hd with i | ⟨z,hz,i,j⟩
    · obtain ⟨q,c,c0,c1,c2,c3⟩:=i2 x hx y i;exact ⟨by simp [q],c,by simp [c0],c1.more s1f,c2.more s1f,by rw [hsp];exact c3.right⟩
    · have hz':z=a∨z ∈ L1:=by
       rw [k1.seen.1,zbt] at hz;rcases hz with (⟨e,_⟩ | ⟨_,e⟩) | e
       · exact .inl e
       · have:=j.fst;rw [e] at this;cases this
       · exact .inr e
      have wz:Way g s a y:=((first z).2 hz').trans j;have hy:y ∈ L1 ++ [a]:=by rcases (first y).1 wz with e | e <;> simp [e]
      have wx:s[x]? = some false:=w.fst;exact ⟨memA _ wz,x,by simp [hx],.at wx,.at wx,by rw [hsp];exact Bef.mid hy hx⟩
abbrev Ed:=Int × Int × Bool
def fr (e:Ed):Nat:=e.1.toNat
def tt (e:Ed):Nat:=e.2.1.toNat
def zcQ (e:Ed):Int:=if e.2.2 then 1 else 0
theorem zeV (e:Ed):0≤zcQ e∧zcQ e≤1:=by unfold zcQ;cases e.2.2 <;> simp
def turn (e:Ed):Ed:=(e.2.1,e.1,e.2.2)
def outE (l:List Ed) (a:Nat):List Ed:=l.filter fun e=>decide (fr e=a)
def goE (l:List Ed) (a:Nat):List Nat:=(outE l a).map tt
def InR (n:Nat) (l:List Ed):Prop:=∀e ∈ l,0≤e.1∧e.1<n∧0≤e.2.1∧e.2.1<n
theorem InR.fr {n l e} (h:InR n l) (m:e ∈ l):fr e<n:=by have:=h e m;unfold YtiepddmagfmllaaGreat.fr;omega
theorem InR.tt {n l e} (h:InR n l) (m:e ∈ l):tt e<n:=by have:=h e m;unfold YtiepddmagfmllaaGreat.tt;omega
theorem zem {l:List Ed} {a e}:e ∈ outE l a↔e ∈ l∧fr e=a:=by simp [outE]
theorem zcC {l:List Ed} {a b}:b ∈ goE l a↔∃e ∈ l,fr e=a∧tt e=b:=by simp [goE,zem,and_assoc]
def Sol (n:Nat) (l:List Ed) (v:Nat→Int):Prop:=(∀i,i<n→0≤v i)∧∀e ∈ l,v (tt e) + zcQ e≤v (fr e)
def Least (n:Nat) (l:List Ed) (v:Nat→Int):Prop:=Sol n l v∧∀u,Sol n l u→∀i,i<n→v i≤u i
inductive Reach (l:List Ed):Nat→Nat→Prop
 | refl (x:Nat):Reach l x x
 | on {x y z:Nat} (m:y ∈ goE l x) (k:Reach l y z):Reach l x z
def Cyc (l:List Ed):Prop:=∃e ∈ l,e.2.2=true∧Reach l (tt e) (fr e)
theorem Reach.trans {l x y z} (h:Reach l x y) (k:Reach l y z):Reach l x z:=by
 induction h with
 | refl=>exact k
 | on m _ ih=>exact .on m (ih k)
theorem Reach.one {l:List Ed} {e:Ed} (m:e ∈ l):Reach l (fr e) (tt e):=.on (zcC.2 ⟨e,m,rfl,rfl⟩) (.refl _)
theorem Reach.sub {l m:List Ed} (hs:∀e ∈ l,e ∈ m) {x y} (h:Reach l x y):Reach m x y:=by
 induction h with
 | refl=>exact .refl _
 | on k _ ih=>obtain ⟨e,he,h1,h2⟩:=zcC.1 k;exact .on (zcC.2 ⟨e,hs e he,h1,h2⟩) ih
theorem Cyc.sub {l m:List Ed} (hs:∀e ∈ l,e ∈ m) (h:Cyc l):Cyc m:=by
 obtain ⟨e,he,n,r⟩:=h;exact ⟨e,hs e he,n,r.sub hs⟩
theorem zmO (l:List Ed):(l.map turn).map turn=l:=by rw [List.map_map];exact (List.map_congr_left fun e _=>rfl).trans (List.map_id l)
theorem Reach.turn {l x y} (h:Reach l x y):Reach (l.map turn) y x:=by
 induction h with
 | refl=>exact .refl _
 | on m _ ih =>
  obtain ⟨e,he,rfl,rfl⟩:=zcC.1 m;exact ih.trans (Reach.one (List.mem_map.2 ⟨e,he,rfl⟩:YtiepddmagfmllaaGreat.turn e ∈ l.map YtiepddmagfmllaaGreat.turn))
theorem Reach.unturn {l x y} (h:Reach (l.map YtiepddmagfmllaaGreat.turn) x y):Reach l y x:=by
 have:=h.turn;rwa [zmO] at this
theorem Way.reach {l s x y} (h:Way (goE l) s x y):Reach l x y:=by
 induction h with
 | «at» _=>exact .refl _
 | on _ m _ ih=>exact .on m ih
theorem Reach.way {n:Nat} {l:List Ed} {s:List Bool} (hl:InR n l) (hs:∀k:Nat,k<n→s[k]? = some false) {x y} (h:Reach l x y) (hx:x<n):Way (goE l) s x y:=by
 induction h with
 | refl=>exact .at (hs _ hx)
 | on m _ ih =>
  obtain ⟨e,he,rfl,rfl⟩:=zcC.1 m;exact .on (hs _ hx) (zcC.2 ⟨e,he,rfl,rfl⟩) (ih (hl.tt he))
theorem InR.turn {n l} (h:InR n l):InR n (l.map turn):=by
 intro e m;obtain ⟨d,hd,rfl⟩:=List.mem_map.1 m;have:=h d hd;simp only [YtiepddmagfmllaaGreat.turn];omega
theorem Sol.reach {n l v} (h:Sol n l v) {x y} (r:Reach l x y):v y≤v x:=by
 induction r with
 | refl=>exact Int.le_refl _
 | on m _ ih =>
  obtain ⟨e,he,rfl,rfl⟩:=zcC.1 m;have:=h.2 e he;have:=zeV e;omega
theorem Cyc.none {n l v} (h:Cyc l) (k:Sol n l v):False:=by
 obtain ⟨e,he,hn,r⟩:=h;have h1:=k.reach r;have h2:=k.2 e he;simp [zcQ,hn] at h2;omega
theorem Sol.sub {n l m v} (hs:∀e ∈ l,e ∈ m) (h:Sol n m v):Sol n l v:=⟨h.1,fun e he=>h.2 e (hs e he)⟩
theorem Least.same {n l u v} (h:Least n l u) (k:Least n l v) {i:Nat} (hi:i<n):u i=v i:=Int.le_antisymm (h.2 _ k.1 i hi) (k.2 _ h.1 i hi)
theorem Least.congr {n l m v} (hs:∀e,e ∈ l↔e ∈ m) (h:Least n l v):Least n m v :=
 ⟨h.1.sub fun e he=>(hs e).2 he,fun u hu=>h.2 u (hu.sub fun e he=>(hs e).1 he)⟩
structure OrdOk (l:List Ed) (n:Nat) (ord:List Nat):Prop where
 nd:ord.Nodup
 mem:∀k,k ∈ ord↔k<n
 back:∀x y,x<n→Reach l y x→∃c,Reach l c x∧Reach l x c∧Bef ord y c
theorem ord_of {l:List Ed} {n:Nat} (hl:InR n l) {s':List Bool} {L:List Nat} (h:Walks (goE (l.map turn)) (List.replicate n false) (List.range n) s' L):OrdOk l n L:=by
 have hs:∀k:Nat,k<n→(List.replicate n false)[k]? = some false:=fun k hk=>by rw [List.getElem?_replicate];simp [hk]
 have hm:∀k,k ∈ L↔k<n:=fun k=>by
  rw [h.come k];constructor
  · rintro ⟨a,_,w⟩;have:=(List.getElem?_eq_some_iff.1 w.lst).1;simpa using this
  · intro hk;exact ⟨k,List.mem_range.2 hk,.at (hs k hk)⟩
 refine ⟨h.seen.2.2.2,hm,fun x y hx r=>?_⟩;obtain ⟨_,c,_,c1,c2,c3⟩:=h.order x ((hm x).2 hx) y (r.turn.way hl.turn hs hx);exact ⟨c,c1.reach.unturn,c2.reach.unturn,c3⟩
structure Rings (l:List Ed) (all:List (List Nat)):Prop where
 nd:all.flatten.Nodup
 one:∀A r B,all=A ++ r::B→r≠[]∧(∀e ∈ l,fr e ∈ r→tt e ∈ (A ++ [r]).flatten)∧∀x ∈ r,∀y ∈ r,Reach l x y
structure Told (l:List Ed) (n:Nat) (Q:List Nat) (s:List Bool) (all:List (List Nat)):Prop where
 len:s.length=n
 told:∀k:Nat,s[k]? = some true↔k ∈ all.flatten
 past:∀k ∈ Q,s[k]? = some true
 rings:Rings l all
theorem Rings.closed {l all} (h:Rings l all) {e:Ed} (he:e ∈ l) (hk:fr e ∈ all.flatten):tt e ∈ all.flatten:=by
 obtain ⟨r,hr,hm⟩:=List.mem_flatten.1 hk;obtain ⟨A,B,rfl⟩:=List.append_of_mem hr;have:=(h.one A r B rfl).2.1 e he hm;simp only [List.flatten_append,List.flatten_cons,List.flatten_nil,List.append_nil,List.mem_append] at this ⊢;rcases this with h | h
 · exact .inl h
 · exact .inr (.inl h)
theorem Rings.closed' {l all} (h:Rings l all) {x y} (r:Reach l x y) (hk:x ∈ all.flatten):y ∈ all.flatten:=by
 induction r with
 | refl=>exact hk
 | on m _ ih=>obtain ⟨e,he,rfl,rfl⟩:=zcC.1 m;exact ih (h.closed he hk)
theorem Told.start {l:List Ed} {n:Nat}:Told l n [] (List.replicate n false) [] where
 len:=by simp
 told k:=by rw [List.getElem?_replicate];by_cases h:k<n <;> simp [h]
 past k hk:=by cases hk
 rings:=⟨by simp,fun A r B e=>by simp at e⟩
theorem zkV {α} {all A B:List α} {r x:α} (h:all ++ [x]=A ++ r::B):(∃B',B=B' ++ [x]∧all=A ++ r::B')∨(B=[]∧A=all∧r=x):=by
 rcases List.eq_nil_or_concat B with rfl | ⟨B',b,rfl⟩
 · right;have:=List.append_inj' h rfl;simp at this;exact ⟨rfl,this.1.symm,this.2.symm⟩
 · left;have h':all ++ [x]=(A ++ r::B') ++ [b]:=by simpa using h
   have:=List.append_inj' h' rfl;simp at this;exact ⟨B',by simp [this.2],this.1⟩
theorem Told.step {l:List Ed} {n:Nat} {P Q:List Nat} {a:Nat} {s s':List Bool} {all:List (List Nat)} {ring:List Nat} (hl:InR n l) (ho:OrdOk l n (P ++ a::Q)) (h:Told l n Q s all)
 (w:Walks (goE l) s [a] s' ring):Told l n (a::Q) s' (if ring=[] then all else all ++ [ring]):=by
 have han:a<n:=(ho.mem a).1 (by simp);have hsa:s[a]? = some true∨s[a]? = some false:=by
  have:a<s.length:=by rw [h.len];exact han
  rw [List.getElem?_eq_getElem this];cases s[a] <;> simp
 have hring:∀y,y ∈ ring↔Way (goE l) s a y:=by simpa using w.come
 rcases hsa with hsa | hsa
 · have e:ring=[]:=by
    cases ring with
    | nil=>rfl
    | cons x t =>
     have:=((hring x).1 (by simp)).fst;rw [hsa] at this;cases this
   subst e;have hs':s'=s:=by
    have hx:s'.length=s.length:=w.size;apply List.ext_getElem? ;intro k;have q1:=w.seen.1 k;have q2:=w.seen.2.1 k;simp only [List.not_mem_nil,or_false,not_false_eq_true,and_true] at q1 q2;cases h1:s[k]? with
    | none=>rw [List.getElem?_eq_none_iff] at h1 ⊢;omega
    | some b=>cases b <;> simp_all
   rw [hs',if_pos rfl];exact ⟨h.len,h.told,fun k hk=>(List.mem_cons.1 hk).elim (fun e=>e ▸ hsa) (h.past k),h.rings⟩
 · have hne:ring≠[]:=fun e=>by
    have:=(hring a).2 (.at hsa);rw [e] at this;cases this
   have unt:∀k:Nat,s[k]? = some false→k ∉ all.flatten:=fun k hk m=>by
    have:=(h.told k).2 m;rw [hk] at this;cases this
   have home:∀x ∈ ring,Reach l x a:=by
    intro x hx;have wx:=(hring x).1 hx;have hxn:x<n:=by have:=(List.getElem?_eq_some_iff.1 wx.lst).1;rw [h.len] at this;exact this
    obtain ⟨c,c1,c2,P',Q',e,hb⟩:=ho.back x a hxn wx.reach;have hcn:c ∉ all.flatten:=fun m=>unt x wx.lst (h.rings.closed' c1 m);have hcQ:c ∉ Q:=fun m=>hcn ((h.told c).1 (h.past c m));have hca:c=a:=by
     rcases hb with hb | hb
     ·
      exfalso;have hnd:=ho.nd;have hc:c ∈ P ++ a::Q:=by rw [e];simp
      rw [List.mem_append,List.mem_cons] at hc;rcases hc with hc | rfl | hc
      ·
       obtain ⟨P1,P2,rfl⟩:=List.append_of_mem hc;obtain ⟨R1,R2,rfl⟩:=List.append_of_mem hb;have e':P1 ++ c::(P2 ++ a::Q)=(R1 ++ a::R2) ++ c::Q':=by simpa using e
       have n1:(P1 ++ c::(P2 ++ a::Q)).Nodup:=by simpa using hnd
       have hPc:c ∉ P1:=fun m=>(List.nodup_append.1 n1).2.2 c m c (by simp) rfl;have n2:=n1;rw [e'] at n2;have hRc:c ∉ R1 ++ a::R2:=fun m=>(List.nodup_append.1 n2).2.2 c m c (by simp) rfl;have hP:P1=R1 ++ a::R2:=by
        have t1:(P1 ++ c::(P2 ++ a::Q)).takeWhile (fun z=>decide (z≠c))=P1:=by
         rw [List.takeWhile_append_of_pos (fun z hz=>by simp;rintro rfl;exact hPc hz)];simp
        have t2:((R1 ++ a::R2) ++ c::Q').takeWhile (fun z=>decide (z≠c))=R1 ++ a::R2:=by
         rw [List.takeWhile_append_of_pos (fun z hz=>by simp;rintro rfl;exact hRc hz)];simp
        rw [←t1,e',t2]
       rw [hP] at n1;exact (List.nodup_append.1 n1).2.2 a (by simp) a (by simp) rfl
      · have n2:=hnd;rw [e] at n2;exact (List.nodup_append.1 n2).2.2 c hb c (by simp) rfl
      · exact hcQ hc
     · exact hb.symm
    exact hca ▸ c2
   rw [if_neg hne];have told':∀k:Nat,s'[k]? = some true↔k ∈ (all ++ [ring]).flatten:=fun k=>by
    rw [w.seen.1,h.told];simp
   refine ⟨by rw [w.size,h.len],told',fun k hk=>?_,⟨?_,fun A r B e=>?_⟩⟩
   · rw [w.seen.1];rcases List.mem_cons.1 hk with rfl | hk
     · exact .inr ((hring k).2 (.at hsa))
     · exact .inl (h.past k hk)
   · rw [List.flatten_append,List.nodup_append];refine ⟨h.rings.nd,by simpa using w.seen.2.2.2,?_⟩;rintro x hx y hy rfl;exact unt x (w.seen.2.2.1 x (by simpa using hy)) hx
   · rcases zkV e with ⟨B',_,e'⟩ | ⟨_,rfl,rfl⟩
     · exact h.rings.one A r B' e'
     · refine ⟨hne,fun e he hf=>?_,fun x hx y hy=>(home x hx).trans ((hring y).1 hy).reach⟩;rw [←told',w.seen.1];have wf:=(hring _).1 hf;have htn:=hl.tt he;have:s[tt e]? = some true∨s[tt e]? = some false:=by
        have:tt e<s.length:=by rw [h.len];exact htn
        rw [List.getElem?_eq_getElem this];cases s[tt e] <;> simp
       rcases this with t | t
       · exact .inl t
       · exact .inr ((hring _).2 (wf.trans (.on wf.lst (zcC.2 ⟨e,he,rfl,rfl⟩) (.at t))))
theorem Told.whole {l:List Ed} {n:Nat} {ord:List Nat} {s all} (ho:OrdOk l n ord) (h:Told l n ord s all):∀k,k<n↔k ∈ all.flatten:=fun k=>by
 rw [←h.told k];constructor
 · intro hk;exact h.past k ((ho.mem k).2 hk)
 · intro hk;have:=(List.getElem?_eq_some_iff.1 hk).1;rw [h.len] at this;exact this
def zaL (v:List Int) (k:Nat):Int:=v.getD k 0
def up1 (v:List Int) (lev:Int) (e:Ed):Option Int :=
 if zaL v (tt e) = -1 then (if e.2.2=true then none else some lev) else some (max lev (zaL v (tt e) + zcQ e))
def upE (v:List Int):Int→List Ed→Option Int
 | lev,[]=>some lev
 | lev,e::es=>match up1 v lev e with
  | none=>none
  | some z=>upE v z es
def upR (v:List Int) (l:List Ed):Int→List Nat→Option Int
 | lev,[]=>some lev
 | lev,a::as'=>match upE v lev (outE l a) with
  | none=>none
  | some z=>upR v l z as'
def zkU (v:List Int) (z:Int):List Nat→List Int
 | []=>v
 | a::as'=>zkU (v.set a z) z as'
theorem up1_some {v lev e z} (h:up1 v lev e=some z):lev≤z∧(zaL v (tt e) = -1→e.2.2=false)∧(zaL v (tt e)≠-1→zaL v (tt e) + zcQ e≤z)∧(z=lev∨(zaL v (tt e)≠-1∧z=zaL v (tt e) + zcQ e)):=by
 unfold up1 at h;by_cases h1:zaL v (tt e) = -1
 · rw [if_pos h1] at h;by_cases h2:e.2.2=true
   · rw [if_pos h2] at h;cases h
   · rw [if_neg h2] at h;cases h;exact ⟨Int.le_refl _,fun _=>by simpa using h2,fun k=>absurd h1 k,.inl rfl⟩
 · rw [if_neg h1] at h;cases h;refine ⟨by omega,fun k=>absurd k h1,fun _=>by omega,?_⟩;rcases Int.le_total lev (zaL v (tt e) + zcQ e) with k | k
   · exact .inr ⟨h1,by omega⟩
   · exact .inl (by omega)
theorem upE_some {v lev} {es:List Ed} {z} (h:upE v lev es=some z):lev≤z∧(∀e ∈ es,zaL v (tt e) = -1→e.2.2=false)∧(∀e ∈ es,zaL v (tt e)≠-1→zaL v (tt e) + zcQ e≤z)∧(z=lev∨∃e ∈ es,zaL v (tt e)≠-1∧z=zaL v (tt e) + zcQ e):=by
 induction es generalizing lev with
 | nil=>cases h;simp
 | cons e es ih =>
  unfold upE at h;cases h1:up1 v lev e with
  | none=>rw [h1] at h;cases h
  | some y =>
   rw [h1] at h;obtain ⟨a1,a2,a3,a4⟩:=up1_some h1;obtain ⟨b1,b2,b3,b4⟩:=ih h;refine ⟨by omega,?_,?_,?_⟩
   · intro d hd;rcases List.mem_cons.1 hd with rfl | hd
     · exact a2
     · exact b2 d hd
   · intro d hd;rcases List.mem_cons.1 hd with rfl | hd
     · intro k;have:=a3 k;omega
     · exact b3 d hd
   · rcases b4 with rfl | ⟨d,hd,k⟩
     · rcases a4 with rfl | k
       · exact .inl rfl
       · exact .inr ⟨e,by simp,k⟩
     · exact .inr ⟨d,by simp [hd],k⟩
theorem upE_none {v lev} {es:List Ed} (h:upE v lev es=none):∃e ∈ es,zaL v (tt e) = -1∧e.2.2=true:=by
 induction es generalizing lev with
 | nil=>cases h
 | cons e es ih =>
  unfold upE at h;cases h1:up1 v lev e with
  | none =>
   unfold up1 at h1;by_cases k1:zaL v (tt e) = -1
   · by_cases k2:e.2.2=true
     · exact ⟨e,by simp,k1,k2⟩
     · rw [if_pos k1,if_neg k2] at h1;cases h1
   · rw [if_neg k1] at h1;cases h1
  | some y =>
   rw [h1] at h;obtain ⟨d,hd,k⟩:=ih h;exact ⟨d,by simp [hd],k⟩
theorem ze1 {v lev} {es fs:List Ed}:upE v lev (es ++ fs)=match upE v lev es with | none=>none | some z=>upE v z fs:=by
 induction es generalizing lev with
 | nil=>rfl
 | cons e es ih =>
  rw [List.cons_append];simp only [upE];cases up1 v lev e with
  | none=>rfl
  | some y=>exact ih
theorem zj8 {v l lev} {r:List Nat}:upR v l lev r=upE v lev ((r.map (outE l)).flatten):=by
 induction r generalizing lev with
 | nil=>rfl
 | cons a as' ih =>
  rw [List.map_cons,List.flatten_cons,ze1];unfold upR;cases upE v lev (outE l a) with
  | none=>rfl
  | some z=>exact ih
theorem zeo {l:List Ed} {r:List Nat} {e:Ed}:e ∈ (r.map (outE l)).flatten↔e ∈ l∧fr e ∈ r:=by
 simp only [List.mem_flatten,List.mem_map];constructor
 · rintro ⟨_,⟨a,ha,rfl⟩,he⟩;obtain ⟨h1,rfl⟩:=zem.1 he;exact ⟨h1,ha⟩
 · rintro ⟨h1,h2⟩;exact ⟨_,⟨_,h2,rfl⟩,zem.2 ⟨h1,rfl⟩⟩
theorem zjZ {v z} {r:List Nat}:(zkU v z r).length=v.length:=by
 induction r generalizing v with
 | nil=>rfl
 | cons a as' ih=>rw [zkU,ih,List.length_set]
theorem zdS {v:List Int} {z:Int} {r:List Nat} (k:Nat):(zkU v z r)[k]? = if k ∈ r∧k<v.length then some z else v[k]?:=by
 induction r generalizing v with
 | nil=>simp [zkU]
 | cons a as' ih =>
  rw [zkU,ih,List.length_set,List.getElem?_set];by_cases h1:k ∈ as'∧k<v.length
  · rw [if_pos h1,if_pos ⟨by simp [h1.1],h1.2⟩]
  · rw [if_neg h1];by_cases h2:a=k
    · subst h2;by_cases h3:a<v.length
      · simp [h3]
      · simp [h3]
    · rw [if_neg h2,if_neg (by
       rintro ⟨m,h3⟩;rcases List.mem_cons.1 m with e | m
       · exact h2 e.symm
       · exact h1 ⟨m,h3⟩)]
structure Lv (l:List Ed) (n:Nat) (A:List (List Nat)) (v:List Int):Prop where
 len:v.length=n
 un:∀k,k<n→k ∉ A.flatten→v[k]? = some (-1)
 told:∀k ∈ A.flatten,∃z,v[k]? = some z∧0≤z∧z≤A.length∧(∀u,Sol n l u→z≤u k)∧∀e ∈ l,fr e=k→∃y,v[tt e]? = some y∧0≤y∧y + zcQ e≤z
theorem Lv.start {l n}:Lv l n [] (List.replicate n (-1)) where
 len:=by simp
 un k hk _:=by rw [List.getElem?_replicate];simp [hk]
 told k hk:=by simp at hk
theorem Lv.bound {l n A v} (h:Lv l n A v) {k:Nat} {z:Int} (hz:v[k]? = some z) : -1≤z∧z≤A.length:=by
 by_cases m:k ∈ A.flatten
 · obtain ⟨y,hy,h0,h1,_⟩:=h.told k m;rw [hz] at hy;cases hy;omega
 · have hk:k<n:=by have:=(List.getElem?_eq_some_iff.1 hz).1;rw [h.len] at this;exact this
   have:=h.un k hk m;rw [hz] at this;cases this;omega
theorem zdw {v:List Int} {k:Nat} {z:Int} (h:v[k]? = some z):zaL v k=z:=by
 unfold zaL;rw [List.getD_eq_getElem?_getD,h];rfl
theorem Lv.edge {l n all A r B v} (hR:Rings l all) (e:all=A ++ r::B) (hw:∀k,k ∈ all.flatten→k<n) (h:Lv l n A v) {d:Ed} (hd:d ∈ l) (hf:fr d ∈ r) :
 (tt d ∈ r∧zaL v (tt d) = -1)∨(tt d ∉ r∧tt d ∈ A.flatten∧v[tt d]? = some (zaL v (tt d))∧0≤zaL v (tt d)):=by
 have h1:=(hR.one A r B e).2.1 d hd hf;simp only [List.flatten_append,List.flatten_cons,List.flatten_nil,List.append_nil,List.mem_append] at h1;have hnd:=hR.nd;rw [e,List.flatten_append,List.flatten_cons,List.nodup_append] at hnd;rcases h1 with m | m
 · right;obtain ⟨z,hz,h0,_⟩:=h.told _ m;refine ⟨fun m'=>hnd.2.2 _ m _ (by simp [m']) rfl,m,?_,?_⟩
   · rw [zdw hz];exact hz
   · rw [zdw hz];exact h0
 · left;refine ⟨m,zdw (h.un _ (hw _ (by rw [e];simp [m])) fun m'=>hnd.2.2 _ m' _ (by simp [m]) rfl)⟩
theorem Lv.bad {l n all A r B v} (hR:Rings l all) (e:all=A ++ r::B) (hw:∀k,k ∈ all.flatten→k<n) (h:Lv l n A v) (hu:upR v l 0 r=none):Cyc l:=by
 rw [zj8] at hu;obtain ⟨d,hd,h1,h2⟩:=upE_none hu;obtain ⟨hd,hf⟩:=zeo.1 hd;rcases h.edge hR e hw hd hf with ⟨m,_⟩ | ⟨_,_,_,h0⟩
 · exact ⟨d,hd,h2,(hR.one A r B e).2.2 _ m _ hf⟩
 · omega
theorem Lv.step {l n all A r B v z} (hR:Rings l all) (e:all=A ++ r::B) (hw:∀k,k ∈ all.flatten→k<n) (h:Lv l n A v) (hu:upR v l 0 r=some z):Lv l n (A ++ [r]) (zkU v z r):=by
 rw [zj8] at hu;obtain ⟨z0,hN,hU,hT⟩:=upE_some hu;obtain ⟨hne,hcl,hsc⟩:=hR.one A r B e;have hfl:(A ++ [r]).flatten=A.flatten ++ r:=by simp
 have hrn:∀k ∈ r,k<n:=fun k hk=>hw k (by rw [e];simp [hk]);have hdis:∀k ∈ A.flatten,k ∉ r:=fun k hk m=>by
  have hnd:=hR.nd;rw [e,List.flatten_append,List.flatten_cons,List.nodup_append] at hnd;exact hnd.2.2 _ hk _ (by simp [m]) rfl
 have hge:∀u,Sol n l u→∀k ∈ r,z≤u k:=by
  intro u hs k hk;rcases hT with rfl | ⟨d,hd,h1,rfl⟩
  · exact hs.1 k (hrn k hk)
  · obtain ⟨hd,hf⟩:=zeo.1 hd;have r1:=hs.reach (hsc k hk _ hf);have r2:=hs.2 d hd;rcases h.edge hR e hw hd hf with ⟨_,m⟩ | ⟨_,m,hv,_⟩
    · exact absurd m h1
    · obtain ⟨y,hy,_,_,hl,_⟩:=h.told _ m;have:=hl u hs;rw [zdw hy];omega
 refine ⟨by rw [zjZ,h.len],fun k hk m=>?_,fun k hk=>?_⟩
 · rw [hfl,List.mem_append,not_or] at m;rw [zdS,if_neg (fun q=>m.2 q.1)];exact h.un k hk m.1
 · rw [hfl,List.mem_append] at hk;rcases hk with hk | hk
   · obtain ⟨y,hy,h0,h1,h2,h3⟩:=h.told k hk;refine ⟨y,by rw [zdS,if_neg (fun q=>hdis k hk q.1)];exact hy,h0,by simp;omega,h2,fun d hd hf=>?_⟩;obtain ⟨x,hx,q⟩:=h3 d hd hf;have hm:tt d ∈ A.flatten:=by
      by_cases m:tt d ∈ A.flatten
      · exact m
      · have hxn:tt d<n:=by have:=(List.getElem?_eq_some_iff.1 hx).1;rw [h.len] at this;exact this
        have:=h.un _ hxn m;rw [hx] at this;cases this;omega
     exact ⟨x,by rw [zdS,if_neg (fun q=>hdis _ hm q.1)];exact hx,q⟩
   · have hkn:=hrn k hk;refine ⟨z,by rw [zdS,if_pos ⟨hk,by rw [h.len];exact hkn⟩],z0,?_,fun u hs=>hge u hs k hk,fun d hd hf=>?_⟩
     · simp;rcases hT with rfl | ⟨d,hd,h1,rfl⟩
       · omega
       · obtain ⟨hd,hf⟩:=zeo.1 hd;rcases h.edge hR e hw hd hf with ⟨_,m⟩ | ⟨_,m,hv,_⟩
         · exact absurd m h1
         · have:=(h.bound hv).2;have:=zeV d;omega
     · subst hf;have hmem:=zeo.2 ⟨hd,hk⟩;rcases h.edge hR e hw hd hk with ⟨m,hv⟩ | ⟨m,m2,hv,h0⟩
       · refine ⟨z,by rw [zdS,if_pos ⟨m,by rw [h.len];exact hrn _ m⟩],z0,?_⟩;have:=hN d hmem hv;simp [zcQ,this]
       · refine ⟨zaL v (tt d),by rw [zdS,if_neg (fun q=>m q.1)];exact hv,h0,hU d hmem (by omega)⟩
theorem Lv.least {l n all v} (hl:InR n l) (hw:∀k,k<n↔k ∈ all.flatten) (h:Lv l n all v):Least n l (zaL v):=by
 refine ⟨⟨fun i hi=>?_,fun e he=>?_⟩,fun u hs i hi=>?_⟩
 · obtain ⟨z,hz,h0,_⟩:=h.told i ((hw i).1 hi);rw [zdw hz];exact h0
 · obtain ⟨z,hz,_,_,_,h3⟩:=h.told _ ((hw _).1 (hl.fr he));obtain ⟨y,hy,_,h5⟩:=h3 e he rfl;rw [zdw hz,zdw hy];exact h5
 · obtain ⟨z,hz,_,_,h2,_⟩:=h.told i ((hw i).1 hi);rw [zdw hz];exact h2 u hs
theorem Lv.small {l n all v} (h:Lv l n all v):∀x ∈ v,-1≤x∧x≤all.length:=by
 intro x hx;obtain ⟨k,hk,rfl⟩:=List.getElem_of_mem hx;exact h.bound (List.getElem?_eq_getElem hk)
theorem zjG {L:List Nat} {n:Nat} (h:L.Nodup) (hw:∀k ∈ L,k<n):L.length≤n:=by
 induction n generalizing L with
 | zero =>
  cases L with
  | nil=>simp
  | cons a t=>have:=hw a (by simp);omega
 | succ n ih =>
  have h1:=ih (h.erase n) fun k hk=>by
   have:=(h.mem_erase_iff).1 hk;have:=hw k this.2;omega
  rw [List.length_erase] at h1;split at h1 <;> omega
theorem zmx {l:List Ed} {all:List (List Nat)} {n:Nat} (h:Rings l all) (hw:∀k ∈ all.flatten,k<n):all.length≤n:=by
 have h1:all.length≤all.flatten.length:=by
  have:∀(all:List (List Nat)),(∀r ∈ all,r≠[])→all.length≤all.flatten.length:=by
   intro all;induction all with
   | nil=>intro;simp
   | cons r t ih =>
    intro hr;have h1:=ih fun x hx=>hr x (by simp [hx]);have h2:0<r.length:=List.length_pos_iff.2 (hr r (by simp));rw [List.length_cons,List.flatten_cons,List.length_append];omega
  refine this all fun r hr=>?_;obtain ⟨A,B,e⟩:=List.append_of_mem hr;exact (h.one A r B e).1
 have h2:=zjG h.nd hw;omega
theorem Least.nots {n:Nat} {l:List Ed} {v:Nat→Int} (h:Least n l v) {i:Nat} (hi:i<n) {c:Int} (h1:1≤c) (hc:c≤v i):∃e ∈ l,e.2.2=true∧v (fr e)=c:=Classical.byContradiction fun hn=>by
 have hs:Sol n l (fun j=>if c≤v j then v j-1 else v j):=by
  refine ⟨fun j hj=>?_,fun e he=>?_⟩
  · have:=h.1.1 j hj;dsimp only;split <;> omega
  · have h2:=h.1.2 e he;have h3:=zeV e;have h4:zcQ e=1→v (fr e)≠c:=fun hr e2=>hn ⟨e,he,by
     unfold zcQ at hr;cases hb:e.2.2
     · rw [hb] at hr;simp at hr
     · rfl,e2⟩
    dsimp only;by_cases hr:zcQ e=1
    · have:=h4 hr;split <;> split <;> omega
    · split <;> split <;> omega
 have:=h.2 _ hs i hi;rw [if_pos hc] at this;omega
theorem sub_len {α:Type} [DecidableEq α] {L E:List α} (hn:L.Nodup) (h:∀x ∈ L,x ∈ E):L.length≤E.length:=by
 induction L generalizing E with
 | nil=>simp
 | cons a t ih =>
  obtain ⟨h1,h2⟩:=List.nodup_cons.1 hn;have:=ih (E:=E.erase a) h2 fun x hx=>(List.mem_erase_of_ne fun (e:x=a)=>h1 (e ▸ hx)).2 (h x (List.mem_cons_of_mem _ hx));rw [List.length_erase_of_mem (h a List.mem_cons_self)] at this;have h3:=List.length_pos_of_mem (h a List.mem_cons_self);rw [List.length_cons];omega
def zma (l:List Ed):Nat:=(l.filter fun e=>e.2.2).length
theorem Least.few {n:Nat} {l:List Ed} {v:Nat→Int} (h:Least n l v) {i:Nat} (hi:i<n):v i≤zma l:=by
 have h0:=h.1.1 i hi;have:=sub_len (L:=(List.range (v i).toNat).map fun k:Nat=>((k:Int) + 1)) (E:=(l.filter fun e=>e.2.2).map fun e=>v (fr e))
  (List.pairwise_map.2 (List.nodup_range.imp fun {a b} hab e=>hab (by omega))) fun x hx=>by
   obtain ⟨k,hk,rfl⟩:=List.mem_map.1 hx;have hk:=List.mem_range.1 hk;obtain ⟨e,he,hb,hv⟩:=h.nots hi (c:=(k:Int) + 1) (by omega) (by omega);exact List.mem_map.2 ⟨e,List.mem_filter.2 ⟨he,hb⟩,hv⟩
 rw [List.length_map,List.length_map,List.length_range] at this;unfold zma;omega
theorem Cyc.nots {l:List Ed} (h:Cyc l):0<zma l:=by
 obtain ⟨e,he,hb,_⟩:=h;exact List.length_pos_of_mem (List.mem_filter.2 ⟨he,hb⟩)
theorem Least.up {n:Nat} {l m:List Ed} {u v:Nat→Int} (hs:∀e ∈ l,e ∈ m) (h:Least n l u) (k:Least n m v) {i:Nat} (hi:i<n):u i≤v i:=h.2 _ (Sol.sub hs k.1) i hi
end Go.Proofs.YtiepddmagfmllaaGreat
