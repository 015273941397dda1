import Derived.Test.YtmblgnddgmfkhaaGreatK27
set_option maxRecDepth 100000
set_option maxHeartbeats 4000000
namespace Go.Proofs.YtmblgnddgmfkhaaGreat
section
variable {r:Int}
structure Bp (τ α:Type) where
 comp:ByteArray→Int × ByteArray × τ
 right:τ→α→Int
 key:α→ByteArray
 of:ByteArray→α
structure Rv (τ ν:Type) where
 text:ByteArray
 T:τ
 keys:List ByteArray
 by_:ν
 schema:Bool
 wrote:List ByteArray
structure Sto (τ ν:Type) where
 floor:Int
 L:List (Rv τ ν)
 quota:Int
section
variable {τ α:Type}
def zbW (p:Bp τ α) (t:τ):List ByteArray→Int
 | []=>0
 | k::r=>if p.right t (p.of k)=0 then zbW p t r else p.right t (p.of k)
def zaW (p:Bp τ α) (t:τ):List α→Nat→Int × Nat
 | [],_=>(0,0)
 | x::r,i=>if p.right t x=0 then zaW p t r (i + 1) else (p.right t x,i)
theorem zce {p:Bp τ α} {t:τ}:∀{l:List ByteArray},zbW p t l=0↔∀k ∈ l,p.right t (p.of k)=0
 | []=>by simp [zbW]
 | k::r=>by
  unfold zbW;have ih:=zce (p:=p) (t:=t) (l:=r);by_cases e:p.right t (p.of k)=0
  · rw [yan e,ih];simp [e]
  · rw [yak e];simp [e]
theorem zcT {p:Bp τ α} {t:τ}:∀{l:List α} {i:Nat},(zaW p t l i).1=0↔∀x ∈ l,p.right t x=0
 | [],i=>by simp [zaW]
 | x::r,i=>by
  unfold zaW;have ih:=zcT (p:=p) (t:=t) (l:=r) (i:=i + 1);by_cases e:p.right t x=0
  · rw [yan e,ih];simp [e]
  · rw [yak e];simp [e]
theorem zkq:∀{c:List (ByteArray × Bool)} {t r:List ByteArray} {i:Nat},zct t c i=(r,0,0)→∀k ∈ r,k ∈ t∨k ∈ c.map Prod.fst
 | [],t,r,i,h,k,hk=>by
  unfold zct at h;cases h;exact .inl hk
 | c::d,t,r,i,h,k,hk=>by
  by_cases e:hasK t c.1 = !c.2
  · rw [zb1 e] at h;rcases zkq h k hk with b | b
    · have f:=zbT e k;rw [zar.2 b] at f;by_cases q:k=c.1
      · exact .inr (by rw [q];simp)
      · rw [yak q] at f;exact .inl (zar.1 f.symm)
    · exact .inr (yau _ b)
  · rw [zb7 (by cases b:hasK t c.1 <;> cases f:c.2 <;> simp_all)] at h;injection h with _ h
    injection h with h _
    split at h <;> cases h
theorem zpD {t:List ByteArray} {q c:List (ByteArray × Bool)} (ht:Rises t) (h:(zcm t q c).2.1=0):ziq t q=none∧zct t c 0=((zcm t q c).1,0,0)∧Rises (zcm t q c).1∧(zcm t q c).2.2=0:=by
 unfold zcm at h ⊢;cases e:ziq t q with
 | some i=>rw [e] at h;cases h
 | none =>
  rw [e] at h;dsimp only at h ⊢;have f:=ziI c t 0 q.length;rw [yaI] at f;rw [f] at h ⊢;dsimp only at h ⊢;rcases ziG c t 0 ht with ⟨r,b,g⟩ | ⟨j,u,d,_,b,_⟩
  · rw [b];exact ⟨rfl,rfl,g,rfl⟩
  · rw [b] at h;exfalso;revert h
    dsimp only;split <;> decide
end
section
variable {τ ν α:Type}
def revB (s:Sto τ ν):Int:=s.floor + s.L.length-1
def zaw (s:Sto τ ν) (r:Int):Bool:=decide (s.floor≤r) && decide (r≤revB s)
def keyed (p:Bp τ α) (l:List (α × Bool)):List (ByteArray × Bool):=l.map fun x=>(p.key x.1,x.2)
def zbq (s:Sto τ ν) (r:Int):Sto τ ν × Int:=if zaw s r=true then ({ s with floor:=r,L:=s.L.drop (r-s.floor).toNat },0) else (s,1)
theorem zhw (p:Bp τ α) (l:List (α × Bool)):(keyed p l).map Prod.fst=l.map fun x=>p.key x.1:=by simp [keyed]
theorem zay {s:Sto τ ν}:zaw s r=true↔s.floor≤r∧r≤revB s:=by simp [zaw]
end
section
variable {τ ν α:Type} [Inhabited τ] [Inhabited ν]
def zjP:Rv τ ν:=⟨⟨#[]⟩,default,[],default,false,[]⟩
def zbQ (q:Int):Sto τ ν:=⟨0,[zjP],if q<0 then 0 else q⟩
def zah (s:Sto τ ν):Rv τ ν:=s.L.getLast?.getD zjP
def atB (s:Sto τ ν) (r:Int):Rv τ ν:=if zaw s r=true then s.L.getD (r-s.floor).toNat zjP else zjP
def zaV (s:Sto τ ν) (v:Rv τ ν):Sto τ ν:={ s with L:=s.L ++ [v] }
def zaC (p:Bp τ α) (s:Sto τ ν) (n:ν) (x:ByteArray):Sto τ ν × Int :=
 if (p.comp x).1=0 then
  if zbW p (p.comp x).2.2 (zah s).keys=0 then
   if 63<s.L.length then (s,42) else (zaV s ⟨(p.comp x).2.1,(p.comp x).2.2,(zah s).keys,n,true,[]⟩,0)
  else (s,zbW p (p.comp x).2.2 (zah s).keys)
 else (s,(p.comp x).1)
def zaE (p:Bp τ α) (s:Sto τ ν) (n:ν) (q c:List (α × Bool)):Sto τ ν × Int × Nat :=
 if c.length=0 then (s,1,0)
 else if 16<q.length∨16<c.length then (s,13,0)
 else if (zaW p (zah s).T ((q ++ c).map Prod.fst) 0).1≠0 then (s,zaW p (zah s).T ((q ++ c).map Prod.fst) 0)
 else if (zcm (zah s).keys (keyed p q) (keyed p c)).2.1≠0 then (s,((zcm (zah s).keys (keyed p q) (keyed p c)).2.1:Nat),(zcm (zah s).keys (keyed p q) (keyed p c)).2.2)
 else if s.quota<((zcm (zah s).keys (keyed p q) (keyed p c)).1.length:Int)∨63<s.L.length then (s,42,0)
 else (zaV s ⟨(zah s).text,(zah s).T,(zcm (zah s).keys (keyed p q) (keyed p c)).1,n,false,(keyed p c).map Prod.fst⟩,0,0)
def zaU (s:Sto τ ν) (r:Int):List (ByteArray × Bool):=if s.floor<r∧r≤revB s then zaO (atB s (r-1)).keys (atB s r).keys else []
structure Beh (p:Bp τ α) (u v:Rv τ ν):Prop where
 same:v.schema=true→v.keys=u.keys∧v.wrote=[]∧∃x,(p.comp x).1=0∧v.text=(p.comp x).2.1∧v.T=(p.comp x).2.2
 turn:v.schema=false→v.text=u.text∧v.T=u.T∧0<v.wrote.length∧v.wrote.length≤16∧∃c:List (ByteArray × Bool),c.map Prod.fst=v.wrote∧zct u.keys c 0=(v.keys,0,0)
structure OkB (p:Bp τ α) (s:Sto τ ν):Prop where
 floor:0≤s.floor
 has:s.L≠[]
 few:s.L.length≤64
 quota:0≤s.quota
 rise:∀v ∈ s.L,Rises v.keys
 most:∀v ∈ s.L,(v.keys.length:Int)≤s.quota
 fits:∀v ∈ s.L,zbW p v.T v.keys=0
 steps:∀(i:Nat) u v,s.L[i]? = some u→s.L[i + 1]? = some v→Beh p u v
theorem zde {s:Sto τ ν} (h:s.L≠[]):zah s ∈ s.L:=by
 unfold zah;rw [List.getLast?_eq_some_getLast h];exact List.getLast_mem h
theorem zfx {s:Sto τ ν} (h:s.L≠[]):s.L[s.L.length-1]? = some (zah s):=by
 unfold zah;rw [List.getLast?_eq_getElem?];obtain ⟨x,b⟩:∃x,s.L[s.L.length-1]? = some x:=⟨_,yal (by have:=ybD.2 h;omega)⟩;rw [b];rfl
structure BpOk (p:Bp τ α):Prop where
 back:∀t x,p.right t x=0→p.of (p.key x)=x
def OkT (p:Bp τ α) (s:Sto τ ν):Prop:=∀v ∈ s.L,p.comp v.text=(0,v.text,v.T)
theorem OkB.new (p:Bp τ α) (q:Int):OkB p (zbQ q:Sto τ ν) where
 floor:=ybf _
 has:=by simp [zbQ]
 few:=by simp [zbQ]
 quota:=by unfold zbQ;dsimp only;split <;> omega
 rise:=fun v b=>by
  rw [yav.1 (show v ∈ [zjP] from b)];exact List.Pairwise.nil
 most:=fun v b=>by
  rw [yav.1 (show v ∈ [zjP] from b)];show (0:Int)≤_;unfold zbQ;dsimp only;split <;> omega
 fits:=fun v b=>by
  rw [yav.1 (show v ∈ [zjP] from b)];rfl
 steps:=fun i u v _ f=>by
  rw [show (zbQ q:Sto τ ν).L=[zjP] from rfl] at f;simp at f
theorem OkB.next {p:Bp τ α} {s:Sto τ ν} {v:Rv τ ν} (h:OkB p s) (h1:¬63<s.L.length) (h2:Rises v.keys) (h3:(v.keys.length:Int)≤s.quota) (h4:zbW p v.T v.keys=0) (h5:Beh p (zah s) v):OkB p (zaV s v) where
 floor:=h.floor
 has:=by simp [zaV]
 few:=by simp [zaV];omega
 quota:=h.quota
 rise:=fun x b=>by
  rcases yaA.1 (show x ∈ s.L ++ [v] from b) with b | b
  · exact h.rise x b
  · rw [yav.1 b];exact h2
 most:=fun x b=>by
  rcases yaA.1 (show x ∈ s.L ++ [v] from b) with b | b
  · exact h.most x b
  · rw [yav.1 b];exact h3
 fits:=fun x b=>by
  rcases yaA.1 (show x ∈ s.L ++ [v] from b) with b | b
  · exact h.fits x b
  · rw [yav.1 b];exact h4
 steps:=fun i u x f b=>by
  rw [show (zaV s v).L=s.L ++ [v] from rfl] at f b;have hi:i + 1<s.L.length + 1:=by
   have:=(yap.1 b).1;simpa using this
  rw [ybt (by omega)] at f;by_cases e:i + 1<s.L.length
  · rw [ybt e] at b;exact h.steps i u x f b
  · have j:i + 1=s.L.length:=by omega
    rw [j,yaJ (yaj _),ycu] at b;have g:=zfx h.has;rw [show s.L.length-1=i by omega,f] at g;injection g with g
    injection b with b
    subst g b;exact h5
theorem OkB.define {p:Bp τ α} {s:Sto τ ν} (h:OkB p s) (n:ν) (x:ByteArray):OkB p (zaC p s n x).1:=by
 unfold zaC;split
 · rename_i b
   split
   · rename_i f
     split
     · exact h
     · rename_i g
       exact h.next g (show Rises (zah s).keys from h.rise _ (zde h.has)) (show ((zah s).keys.length:Int)≤_ from h.most _ (zde h.has)) f ⟨fun _=>⟨rfl,rfl,x,b,rfl,rfl⟩,fun q=>by cases q⟩
   · exact h
 · exact h
theorem zen {p:Bp τ α} {s:Sto τ ν} {n:ν} {q c:List (α × Bool)} (hs:OkB p s) (h:(zaE p s n q c).2.1=0) :
 0<c.length∧q.length≤16∧c.length≤16∧(∀x ∈ q ++ c,p.right (zah s).T x.1=0)∧ziq (zah s).keys (keyed p q)=none∧s.L.length≤63 ∧
 ∃k,zct (zah s).keys (keyed p c) 0=(k,0,0)∧Rises k∧(k.length:Int)≤s.quota∧zaE p s n q c=(zaV s ⟨(zah s).text,(zah s).T,k,n,false,(keyed p c).map Prod.fst⟩,0,0):=by
 unfold zaE at h ⊢;by_cases g:c.length=0
 · rw [yan g] at h;cases h
 rw [yak g] at h ⊢;by_cases j:16<q.length∨16<c.length
 · rw [yan j] at h;cases h
 rw [yak j] at h ⊢;by_cases b:(zaW p (zah s).T ((q ++ c).map Prod.fst) 0).1≠0
 · rw [yan b] at h;exact absurd h b
 rw [yak b] at h ⊢;by_cases f:(zcm (zah s).keys (keyed p q) (keyed p c)).2.1≠0
 · rw [yan f] at h;exact absurd (show (zcm (zah s).keys (keyed p q) (keyed p c)).2.1=0 from Int.ofNat.inj h) f
 rw [yak f] at h ⊢;by_cases m:s.quota<((zcm (zah s).keys (keyed p q) (keyed p c)).1.length:Int)∨63<s.L.length
 · rw [yan m] at h;cases h
 rw [yak m];obtain ⟨o,u,a3,_⟩:=zpD (hs.rise _ (zde hs.has)) (ycH.1 f);have y:=zcT.1 (ycH.1 b);exact ⟨by omega,by omega,by omega,fun x z=>y x.1 (yaH.2 ⟨x,z,rfl⟩),o,by omega,_,u,a3,by omega,rfl⟩
theorem zfQ {p:Bp τ α} {s:Sto τ ν} {n:ν} {q c:List (α × Bool)} (h:(zaE p s n q c).2.1≠0):(zaE p s n q c).1=s:=by
 unfold zaE at h ⊢;split
 · rfl
 split
 · rfl
 split
 · rfl
 split
 · rfl
 split
 · rfl
 · rename_i b f g j k
   rw [yak b,yak f,yak g,yak j,yak k] at h;exact absurd rfl h
theorem zon {p:Bp τ α} {s:Sto τ ν} {n:ν} {x:ByteArray} (h:(zaC p s n x).2≠0):(zaC p s n x).1=s:=by
 unfold zaC at h ⊢;split
 · split
   · split
     · rfl
     · rename_i b f g
       rw [yan b,yan f,yak g] at h;exact absurd rfl h
   · rfl
 · rfl
theorem OkB.write {p:Bp τ α} {s:Sto τ ν} (hp:BpOk p) (h:OkB p s) (n:ν) (q c:List (α × Bool)):OkB p (zaE p s n q c).1:=by
 by_cases e:(zaE p s n q c).2.1=0
 · obtain ⟨m,E,o,u,F,G,k,f,A,B,b⟩:=zen h e;rw [b];refine h.next yab A B (zce.2 fun y C=>?_) ⟨fun z=>(by cases z),fun _=>⟨rfl,rfl,by simpa [keyed] using m,by simpa [keyed] using o,_,rfl,f⟩⟩;rcases zkq f y C with g | g
   · exact zce.1 (h.fits _ (zde h.has)) y g
   · rw [zhw] at g;obtain ⟨x,D,rfl⟩:=yaH.1 g;have j:=u x (yaA.2 (.inr D));dsimp only;rw [hp.back _ _ j];exact j
 · rw [zfQ e];exact h
theorem zeU {s:Sto τ ν} {i:Nat} {v:Rv τ ν} (h:s.L[i]? = some v):atB s (s.floor + i)=v:=by
 have b:=(yap.1 h).1;unfold atB;rw [yan (zay.2 ⟨by omega,by unfold revB;omega⟩),show (s.floor + (i:Int)-s.floor).toNat=i by omega,ya2,h];rfl
theorem zdr {s:Sto τ ν} (h:zaw s r=true):∃i:Nat,r=s.floor + i∧s.L[i]? = some (atB s r):=by
 obtain ⟨g,f⟩:=zay.1 h;unfold revB at f;obtain ⟨i,hi⟩:∃i:Nat,r=s.floor + i:=⟨(r-s.floor).toNat,by omega⟩;obtain ⟨v,b⟩:∃v,s.L[i]? = some v:=⟨_,yal yab⟩;refine ⟨i,hi,?_⟩;rw [hi,zeU b,b]
theorem zbK {s:Sto τ ν} (h:zaw s r=false):atB s r=zjP:=by
 unfold atB;rw [yak (by rw [h];decide)]
theorem lead {p:Bp τ α} {s:Sto τ ν} (h:OkB p s) (h1:s.floor<r) (h2:r≤revB s):zct (atB s (r-1)).keys (zaU s r) 0=((atB s r).keys,0,0):=by
 obtain ⟨i,hi,b⟩:=zdr (s:=s) (r:=r) (zay.2 ⟨by omega,h2⟩);obtain ⟨j,m,f⟩:=zdr (s:=s) (r:=r-1) (zay.2 ⟨by omega,by omega⟩);have g:=h.rise _ (yaq f);have k:=h.rise _ (yaq b);unfold zaU;rw [yan ⟨h1,h2⟩];have:=app_dif g k;unfold zcm ziq at this;exact this
theorem zgI {s:Sto τ ν} {k:Int} (h:zaw s r=true) (hk:r≤k):revB (zbq s r).1=revB s∧(zbq s r).1.floor=r∧atB (zbq s r).1 k=atB s k:=by
 obtain ⟨o,m⟩:=zay.1 h;have b:=m;unfold revB at b;unfold zbq;rw [yan h];have n:(s.L.drop (r-s.floor).toNat).length=s.L.length-(r-s.floor).toNat:=ycL;have f:revB ({ s with floor:=r,L:=s.L.drop (r-s.floor).toNat }:Sto τ ν)=revB s:=by
  unfold revB;dsimp only;rw [n];omega
 refine ⟨f,rfl,?_⟩;by_cases e:k≤revB s
 · have g:zaw ({ s with floor:=r,L:=s.L.drop (r-s.floor).toNat }:Sto τ ν) k=true:=zay.2 ⟨hk,by rw [f];exact e⟩;have j:zaw s k=true:=zay.2 ⟨by omega,e⟩;unfold atB;rw [yan g,yan j];dsimp only;rw [ya2,ya2,ycC];congr 2
   omega
 · have g:zaw ({ s with floor:=r,L:=s.L.drop (r-s.floor).toNat }:Sto τ ν) k=false:=ya3.2 fun q=>e (by have:=(zay.1 q).2;rw [f] at this;exact this);have j:zaw s k=false:=ya3.2 fun q=>e (zay.1 q).2;rw [zbK g,zbK j]
end
section
variable {τ ν α:Type}
theorem OkB.trim {p:Bp τ α} {s:Sto τ ν} (h:OkB p s) (r:Int):OkB p (zbq s r).1:=by
 unfold zbq;split
 · rename_i e
   obtain ⟨j,g⟩:=zay.1 e;have k:=ybD.2 h.has;unfold revB at g;have m:=h.floor;exact
    {floor:=show 0≤r by omega
     has:=by
      intro z;have z:s.L.drop (r-s.floor).toNat=[]:=z;rw [List.drop_eq_nil_iff] at z;omega
     few:=by
      have:=h.few;show (s.L.drop (r-s.floor).toNat).length≤64;rw [ycL];omega
     quota:=h.quota
     rise:=fun v b=>h.rise v (yb1 b)
     most:=fun v b=>h.most v (yb1 b)
     fits:=fun v b=>h.fits v (yb1 b)
     steps:=fun i u v f b=>by
      have f:(s.L.drop (r-s.floor).toNat)[i]? = some u:=f;have b:(s.L.drop (r-s.floor).toNat)[i + 1]? = some v:=b;rw [ycC] at f b;exact h.steps _ u v f (by rw [←b];congr 1) }
 · exact h
end
structure Cd where
 num:Nat→List UInt8
 txt:ByteArray→List UInt8
 okN:Nat→Prop
 okT:ByteArray→Prop
abbrev Nd15:=ByteArray × ByteArray × ByteArray
def lstC (c:Cd) (l:List ByteArray):List UInt8:=c.num l.length ++ l.flatMap c.txt
structure LOk (c:Cd) (l:List ByteArray):Prop where
 len:c.okN l.length
 each:∀a ∈ l,c.okT a
section
variable {τ:Type}
structure ROk (c:Cd) (v:Rv τ Nd15):Prop where
 text:c.okT v.text
 keys:LOk c v.keys
 wrote:LOk c v.wrote
 by1:c.okT v.by_.1
 by2:c.okT v.by_.2.1
 by3:c.okT v.by_.2.2
def zfS (c:Cd) (v:Rv τ Nd15):List UInt8:=c.txt v.by_.1 ++ (c.txt v.by_.2.1 ++ (c.txt v.by_.2.2 ++ (if v.schema=true then c.num 1 ++ c.txt v.text else c.num 0 ++ lstC c v.wrote)))
def zbj (c:Cd) (s:Sto τ Nd15):List UInt8:=match s.L with
 | []=>[]
 | v::r=>c.num s.floor.toNat ++ (c.num (revB s).toNat ++ (c.txt v.text ++ (lstC c v.keys ++ r.flatMap (zfS c))))
structure Alike (u v:Rv τ Nd15):Prop where
 text:u.text=v.text
 T:u.T=v.T
 keys:u.keys=v.keys
end
end
section
section
variable {τ ν:Type}
theorem za0 (s:Sto τ ν) (v:Rv τ ν):revB (zaV s v)=revB s + 1:=by
 unfold revB zaV;dsimp only;rw [yam,ybx];omega
theorem zjd (s:Sto τ ν) (r:Int):(zbq s r).1.quota=s.quota:=by
 unfold zbq;split <;> rfl
end
section
variable {τ ν α:Type} [Inhabited τ] [Inhabited ν]
theorem zb2 (s:Sto τ ν) (v:Rv τ ν):zah (zaV s v)=v:=by
 unfold zah zaV;dsimp only;rw [List.getLast?_append];rfl
theorem zbA {s:Sto τ ν} (h:s.L≠[]):atB s (revB s)=zah s:=by
 have b:=ybD.2 h;have:=zeU (zfx h);rw [←this];congr 1
 unfold revB;omega
theorem zmY {s:Sto τ ν} {v:Rv τ ν} {r:Int} (h:r≤revB s):atB (zaV s v) r=atB s r:=by
 by_cases q:s.floor≤r
 · obtain ⟨i,hi,b⟩:=zdr (s:=s) (r:=r) (zay.2 ⟨q,h⟩);have g:=(yap.1 b).1;have j:(zaV s v).L[i]? = some (atB s r):=by
    show (s.L ++ [v])[i]? = _;rw [ybt g,b]
   have f:=zeU j;rw [show (zaV s v).floor + (i:Int)=r from hi.symm] at f;exact f
 · have k:zaw (zaV s v) r=false:=ya3.2 fun z=>q (zay.1 z).1;have m:zaw s r=false:=ya3.2 fun z=>q (zay.1 z).1;rw [zbK k,zbK m]
theorem zf5 {s:Sto τ ν} {r:Int} (h:zaw s r=true):zah (zbq s r).1=zah s:=by
 obtain ⟨f,b⟩:=zay.1 h;unfold revB at b;unfold zbq;rw [yan h];unfold zah;dsimp only;rw [List.getLast?_drop,yak (by omega)]
theorem zsg {p:Bp τ α} {s:Sto τ ν} {n:ν} {t:α} (hr:p.right (zah s).T t=0) (hk:hasK (zah s).keys (p.key t)=false) (hl:s.L.length≤63) :
 zaE p s n [] [(t,true)]=if s.quota<((zah s).keys.length:Int) + 1 then (s,42,0) else (zaV s ⟨(zah s).text,(zah s).T,zfR (zah s).keys (p.key t),n,false,[p.key t]⟩,0,0):=by
 unfold zaE;have f:(zaW p (zah s).T (([] ++ [(t,true)]).map Prod.fst) 0).1=0:=zcT.2 fun x b=>by
  simp at b;subst b;exact hr
 have g:zcm (zah s).keys (keyed p []) (keyed p [(t,true)])=(zfR (zah s).keys (p.key t),0,0):=by
  simp [zcm,ziq,keyed,zct,hk]
 rw [yak yaf,yak yaf,yak (by rw [f];simp),g,yak (by simp)];have j:((zfR (zah s).keys (p.key t)).length:Int)=((zah s).keys.length:Int) + 1:=by rw [zdC];simp
 dsimp only;rw [j];by_cases q:s.quota<((zah s).keys.length:Int) + 1
 · rw [yan (.inl q),yan q]
 · rw [yak yab,yak q];rfl
theorem zmR {p:Bp τ α} {s:Sto τ ν} {n:ν} {t:α} {q:List (α × Bool)} {b:Bool} (hr:p.right (zah s).T t≠0) (hq:q=[]∨∃d,q=[(t,d)]):zaE p s n q [(t,b)]=(s,p.right (zah s).T t,0):=by
 have f:zaW p (zah s).T ((q ++ [(t,b)]).map Prod.fst) 0=(p.right (zah s).T t,0):=by
  rcases hq with rfl | ⟨d,rfl⟩ <;> simp [zaW,hr]
 have g:¬(16<q.length∨16<[(t,b)].length):=by rcases hq with rfl | ⟨d,rfl⟩ <;> simp
 unfold zaE;rw [yak yaf,yak g,f,yan hr]
theorem zlC {p:Bp τ α} {s:Sto τ ν} {n:ν} {t:α} {q:List (α × Bool)} {b:Bool} (hr:p.right (zah s).T t=0) (hq:q=[]∨∃d,q=[(t,d)]) :
 zaE p s n q [(t,b)]=if (zcm (zah s).keys (keyed p q) [(p.key t,b)]).2.1≠0 then (s,(((zcm (zah s).keys (keyed p q) [(p.key t,b)]).2.1:Nat):Int),(zcm (zah s).keys (keyed p q) [(p.key t,b)]).2.2)
  else if s.quota<((zcm (zah s).keys (keyed p q) [(p.key t,b)]).1.length:Int)∨63<s.L.length then (s,42,0)
  else (zaV s ⟨(zah s).text,(zah s).T,(zcm (zah s).keys (keyed p q) [(p.key t,b)]).1,n,false,[p.key t]⟩,0,0):=by
 have g:(zaW p (zah s).T ((q ++ [(t,b)]).map Prod.fst) 0).1=0:=zcT.2 fun x f=>by
  rcases hq with rfl | ⟨d,rfl⟩
  · simp at f;subst f;exact hr
  · simp at f;subst f;exact hr
 have j:¬(16<q.length∨16<[(t,b)].length):=by rcases hq with rfl | ⟨d,rfl⟩ <;> simp
 unfold zaE;rw [yak yaf,yak j,yak (by rw [g];simp)];rfl
theorem zlW {p:Bp τ α} {s:Sto τ ν} {n:ν} {x:ByteArray} (h:(p.comp x).1=0) (hk:(zah s).keys=[]) :
 zaC p s n x=if 63<s.L.length then (s,42) else (zaV s ⟨(p.comp x).2.1,(p.comp x).2.2,[],n,true,[]⟩,0):=by
 unfold zaC;rw [yan h,hk,yan (by rfl)]
end
section
variable {τ:Type}
structure SameB (s t:Sto τ Nd15):Prop where
 floor:s.floor=t.floor
 quota:s.quota=t.quota
 rows:∃u v r,s.L=u::r∧t.L=v::r∧Alike u v
theorem Alike.refl (u:Rv τ Nd15):Alike u u:=⟨rfl,rfl,rfl⟩
theorem SameB.len {s t:Sto τ Nd15} (h:SameB s t):s.L.length=t.L.length:=by
 obtain ⟨u,v,r,b,f,_⟩:=h.rows;rw [b,f];rfl
theorem SameB.rev {s t:Sto τ Nd15} (h:SameB s t):revB s=revB t:=by
 unfold revB;rw [h.floor,h.len]
theorem SameB.kept {s t:Sto τ Nd15} (h:SameB s t) (r:Int):zaw s r=zaw t r:=by
 unfold zaw;rw [h.floor,h.rev]
theorem SameB.pack {c:Cd} {s t:Sto τ Nd15} (h:SameB s t):zbj c s=zbj c t:=by
 have f:=h.rev;obtain ⟨u,v,l,g,j,b⟩:=h.rows;unfold zbj;rw [g,j,h.floor,f];dsimp only;rw [b.text,b.keys]
end
section
variable {τ α:Type} [Inhabited τ]
theorem SameB.at_ {s t:Sto τ Nd15} (h:SameB s t) (r:Int):Alike (atB s r) (atB t r)∧(s.floor<r→atB s r=atB t r):=by
 have hk:=h.kept r;have f:=h.floor;unfold atB;rw [hk];by_cases q:zaw t r=true
 · rw [yan q,yan q];obtain ⟨n,o⟩:=zay.1 q;obtain ⟨u,v,l,g,j,m⟩:=h.rows;rw [g,j,f];obtain ⟨k,b⟩:∃k:Nat,(r-t.floor).toNat=k:=⟨_,rfl⟩;rw [b];cases k with
   | zero=>exact ⟨m,fun z=>by omega⟩
   | succ k =>
    rw [List.getD_cons_succ,List.getD_cons_succ];exact ⟨Alike.refl _,fun _=>rfl⟩
 · rw [yak q,yak q];exact ⟨Alike.refl _,fun _=>rfl⟩
end
end
section
variable {L:List Sp} {last:Int}
def zme (L:List Sp) (r:Int):List ByteArray:=(L.filter fun x=>zbs x r).foldl (fun s x=>zfR s x.1) []
theorem zos (hf:FineS L last) (r:Int):((L.filter fun x=>zbs x r).map (·.1)).Nodup:=by
 refine yce.2 ?_;refine (List.Pairwise.and_mem.1 (hf.two.filter _)).imp ?_;rintro x y ⟨b,f,h⟩ e;have b:=(ya4.1 b).2;have f:=(ya4.1 f).2;have:=h e;unfold zbs at b f;simp only [ybc,ycE,yaP] at b f;omega
theorem foldK:∀(M:List Sp) (s:List ByteArray),Rises s→(M.map (·.1)).Nodup→(∀x ∈ M,x.1 ∉ s)→Rises (M.foldl (fun s x=>zfR s x.1) s)∧(M.foldl (fun s x=>zfR s x.1) s).length=s.length + M.length∧∀k,k ∈ M.foldl (fun s x=>zfR s x.1) s↔k ∈ s∨∃x ∈ M,x.1=k
 | [],s,f,_,_=>⟨f,rfl,fun k=>by simp⟩
 | x::M,s,f,g,m=>by
  rw [yaX,ybS] at g;have n:=zeB f (m x yar);obtain ⟨o,q,a3⟩:=foldK M (zfR s x.1) n g.2 (fun y b j=>by
   rcases zcz.1 j with e | j
   · exact g.1 (e ▸ ybi b)
   · exact m y (yau _ b) j)
  refine ⟨o,by rw [ycd,q,zdC,yat];omega,fun k=>?_⟩;rw [ycd,a3,zcz];constructor
  · rintro ((e | h) | ⟨y,b,e⟩)
    · exact Or.inr ⟨x,yar,e.symm⟩
    · exact Or.inl h
    · exact Or.inr ⟨y,yau _ b,e⟩
  · rintro (h | ⟨y,b,e⟩)
    · exact Or.inl (Or.inr h)
    · rcases yaw.1 b with rfl | b
      · exact Or.inl (Or.inl e.symm)
      · exact Or.inr ⟨y,b,e⟩
theorem zqA (hf:FineS L last) (r:Int):Rises (zme L r)∧(zme L r).length=zcZ L r∧∀k,k ∈ zme L r↔zdw L k r=true:=by
 obtain ⟨f,g,j⟩:=foldK (L.filter fun x=>zbs x r) [] List.Pairwise.nil (zos hf r) (fun _ _ h=>by cases h);refine ⟨f,by unfold zme;rw [g,yaE,yaI];rfl,fun k=>?_⟩;unfold zme;rw [j];unfold zdw;rw [ybV];constructor
 · rintro (h | ⟨x,b,e⟩)
   · cases h
   · exact ⟨x,(ya4.1 b).1,by rw [(ya4.1 b).2,yaB e];rfl⟩
 · rintro ⟨x,b,h⟩;rw [ybc,yaP] at h;exact Or.inr ⟨x,ya4.2 ⟨b,h.1⟩,h.2⟩
def zff (q:ByteArray):Bool→List Ev→Option Bool
 | i,[]=>some i
 | i,e::l=>if e.2.1=q then (if i=e.2.2 then none else zff q e.2.2 l) else zff q i l
theorem ze0 (q:ByteArray):∀(l m:List Ev) (i:Bool),zff q i (l ++ m)=(zff q i l).bind fun j=>zff q j m
 | [],_,_=>rfl
 | e::l,m,i=>by
  rw [ybq,zff,zff];split
  · split
    · rfl
    · exact ze0 q l m _
  · exact ze0 q l m i
theorem zcM (q:ByteArray):∀(l:List Ev) (i:Bool),zff q i (l.filter fun e=>decide (e.2.1=q))=zff q i l
 | [],_=>rfl
 | e::l,i=>by
  by_cases h:e.2.1=q
  · rw [ybE,yan (by simpa using h),zff,zff,yan h,yan h,zcM q l]
  · rw [ybE,yak (by simpa using h),zff,yak h,zcM q l]
theorem zmV (q:ByteArray) {a b:Int} (hab:a≤b):∀(S:List Sp),(∀x ∈ S,x.1=q∧(x.2.2=0∨x.2.1<x.2.2))→(∀x ∈ S,1≤x.2.1)→S.Pairwise (fun x y=>x.2.2≠0∧x.2.2≤y.2.1) →
 zff q (S.any fun x=>zbs x a) (S.flatMap fun x=>evsOf x a b)=some (S.any fun x=>zbs x b)
 | [],_,_,_=>rfl
 | x::S,h,D,H=>by
  obtain ⟨n,u⟩:=yaQ.1 H;have ih:=zmV q hab S (fun y j=>h y (yau _ j)) (fun y j=>D y (yau _ j)) u;obtain ⟨z,I⟩:=h x yar;have J:=D x yar;have late:∀(c:Int),x.2.2=0∨c<x.2.2→(S.any fun y=>zbs y c)=false:=fun c K=>by
   rw [List.any_eq_false];intro y j;have:=n y j;unfold zbs;rw [yaF (show ¬y.2.1≤c by omega),yb6];decide
  have g:x.2.2=0∨b<x.2.2→(S.flatMap fun y=>evsOf y a b)=[]:=fun K=>by
   refine ycD.2 fun e A=>?_;obtain ⟨y,j,A⟩:=ybz.1 A;have L:=n y j;have N:=(h y (yau _ j)).2;obtain ⟨⟨E,F⟩,rfl | ⟨P,rfl⟩⟩:=zbO.1 A
   · dsimp only at F;omega
   · dsimp only at F;omega
  rw [ycM,ycM,yaS];have k:∀c:Int,zbs x c=decide (x.2.1≤c∧(x.2.2=0∨c<x.2.2)):=fun c=>by
   unfold zbs;rw [Bool.decide_and,Bool.decide_or]
  rw [k,k];obtain ⟨M,O⟩:∃M,S.flatMap (fun x=>evsOf x a b)=M:=⟨_,rfl⟩;rw [O] at g ih ⊢;obtain ⟨s,f,t⟩:=x;dsimp only at *
  subst z;unfold evsOf;dsimp only;by_cases G:f≤a
  · rw [yak (show ¬(a<f∧f≤b) by omega),ya6];by_cases m:t=0
    · rw [yaB (show f≤a∧(t=0∨a<t) from ⟨G,Or.inl m⟩),yaB (show f≤b∧(t=0∨b<t) from ⟨by omega,Or.inl m⟩),yak (show ¬(0<t∧a<t∧t≤b) by omega),g (Or.inl m)];rfl
    · by_cases Q:t≤a
      · rw [yaF (show ¬(f≤a∧(t=0∨a<t)) by omega),yaF (show ¬(f≤b∧(t=0∨b<t)) by omega),yak (show ¬(0<t∧a<t∧t≤b) by omega)];exact ih
      · have o:=late a (Or.inr yab);rw [yaB (show f≤a∧(t=0∨a<t) from ⟨G,Or.inr yab⟩)];by_cases B:t≤b
        · rw [yaF (show ¬(f≤b∧(t=0∨b<t)) by omega),yan (show 0<t∧a<t∧t≤b from ⟨by omega,by omega,B⟩)];rw [o] at ih;rw [Bool.true_or,Bool.false_or,yb9,zff,yan rfl,yak (by simp)];exact ih
        · rw [yaB (show f≤b∧(t=0∨b<t) from ⟨by omega,Or.inr yab⟩),yak (show ¬(0<t∧a<t∧t≤b) by omega),g (Or.inr yab)];rfl
  · have o:(S.any fun y=>zbs y a)=false:=by
     by_cases m:t=0
     · exact late a (Or.inl m)
     · exact late a (Or.inr yab)
    rw [o] at ih;rw [yaF (show ¬(f≤a∧(t=0∨a<t)) by omega),o,Bool.false_or];by_cases C:f≤b
    · rw [yan (show a<f∧f≤b from ⟨by omega,C⟩)];by_cases m:t=0
      · rw [yaB (show f≤b∧(t=0∨b<t) from ⟨C,Or.inl m⟩),yak (show ¬(0<t∧a<t∧t≤b) by omega),g (Or.inl m)];simp [zff]
      · by_cases B:t≤b
        · rw [yaF (show ¬(f≤b∧(t=0∨b<t)) by omega),yan (show 0<t∧a<t∧t≤b from ⟨by omega,by omega,B⟩)];rw [Bool.false_or,yaD,yb9,yb9,zff,yan rfl,yak yaf,zff,yan rfl,yak (by simp)];exact ih
        · rw [yaB (show f≤b∧(t=0∨b<t) from ⟨C,Or.inr yab⟩),yak (show ¬(0<t∧a<t∧t≤b) by omega),g (Or.inr yab)];simp [zff]
    · have E:decide (f≤b∧(t=0∨b<t))=false:=yaF yab;rw [E,yak (show ¬(a<f∧f≤b) by omega),yak (show ¬(0<t∧a<t∧t≤b) by omega),Bool.false_or];exact ih
theorem zor (hf:FineS L last) (q:ByteArray) (a b:Int):((eventsP L a b).filter fun e=>decide (e.2.1=q))=(L.filter fun x=>decide (x.1=q)).flatMap fun x=>evsOf x a b:=by
 refine ze9 ((zdZ L a b).filter _) ?_ ?_
 · have g:=fun x (s:x ∈ L.filter fun x=>decide (x.1=q))=>hf.at_ x (ya4.1 s).1;have j:=fun x (s:x ∈ L.filter fun x=>decide (x.1=q))=>yaL (ya4.1 s).2;have k:=hf.two.filter (fun x=>decide (x.1=q));generalize (L.filter fun x=>decide (x.1=q))=S at *
   clear hf;induction S with
   | nil=>exact List.Pairwise.nil
   | cons x S ih =>
    obtain ⟨C,D⟩:=yaQ.1 k;rw [yaS];have s:=g x yar;refine yca.2 ⟨?_,ih (fun y f=>g y (yau _ f)) (fun y f=>j y (yau _ f)) D,fun e m d u=>?_⟩
    · unfold evsOf;split
      · split
        · refine yaQ.2 ⟨fun y f=>?_,yb2 _ _⟩;replace f:y=(x.2.2,x.1,false):=yav.1 f;subst f;exact LeE.of_lt (zbZ.2 (Or.inl (by show x.2.1<x.2.2;omega)))
        · exact yb2 _ _
      · split
        · exact yb2 _ _
        · exact List.Pairwise.nil
    · obtain ⟨y,f,u⟩:=ybz.1 u;have E:=C y f ((j x yar).trans (j y (yau _ f)).symm);have F:=g y (yau _ f);have A:=j x yar;have B:=j y (yau _ f);have n:e.1≤x.2.2∧e.2.1=q∧(e.1=x.2.2→e.2.2=false):=by
       obtain ⟨_,rfl | ⟨_,rfl⟩⟩:=zbO.1 m
       · exact ⟨by show x.2.1≤x.2.2;omega,A,fun z=>by dsimp only at z;omega⟩
       · exact ⟨ybf _,A,fun _=>rfl⟩
      have o:y.2.1≤d.1∧d.2.1=q∧(d.1=y.2.1→d.2.2=true):=by
       obtain ⟨_,rfl | ⟨_,rfl⟩⟩:=zbO.1 u
       · exact ⟨ybf _,B,fun _=>rfl⟩
       · exact ⟨by show y.2.1≤y.2.2;omega,B,fun z=>by dsimp only at z;omega⟩
      by_cases z:e.1<d.1
      · exact LeE.of_lt (zbZ.2 (Or.inl z))
      · have G:e.1=d.1:=by omega
        exact LeE.of_lt (zbZ.2 (Or.inr ⟨G,Or.inr ⟨n.2.1.trans o.2.1.symm,n.2.2 yab,o.2.2 yab⟩⟩))
 · refine ((zdY L a b).filter _).trans ?_;rw [List.filter_flatMap];clear hf;induction L with
   | nil=>exact ycs _
   | cons x L ih =>
    rw [yaS,ybE];by_cases h:x.1=q
    · rw [yan (by simpa using h),yaS];refine List.Perm.append ?_ ih;rw [List.filter_eq_self.2 fun e m=>?_];rcases (zbO.1 m).2 with rfl | ⟨_,rfl⟩ <;> simpa using h
    · rw [yak (by simpa using h),List.filter_eq_nil_iff.2 fun e m=>?_,ya6]
      · exact ih
      · rcases (zbO.1 m).2 with rfl | ⟨_,rfl⟩ <;> simpa using h
theorem zdq (hf:FineS L last) (q:ByteArray) {a b:Int} (hab:a≤b):zff q (zdw L q a) (eventsP L a b)=some (zdw L q b):=by
 have g:∀c:Int,zdw L q c=(L.filter fun x=>decide (x.1=q)).any fun x=>zbs x c:=fun c=>by
  unfold zdw;rw [List.any_filter];congr 1
  funext x
  rw [Bool.and_comm]
 rw [←zcM,zor hf,g,g];refine zmV q hab _ (fun x f=>?_) (fun x f=>(hf.at_ x (ya4.1 f).1).1) ?_
 · have:=hf.at_ x (ya4.1 f).1;exact ⟨yaL (ya4.1 f).2,by omega⟩
 · refine (List.Pairwise.and_mem.1 (hf.two.filter _)).imp ?_;rintro x y ⟨f,j,h⟩;exact h ((yaL (ya4.1 f).2).trans (yaL (ya4.1 j).2).symm)
end
end Go.Proofs.YtmblgnddgmfkhaaGreat
