import Derived.Test.YtiepddmagfmllaaGreatT17
set_option maxRecDepth 100000
set_option maxHeartbeats 4000000
namespace Go.Proofs.YtiepddmagfmllaaGreat
open Go.RowKit
theorem zfa {l:List Ed} (h:zec l):l.Nodup:=h.imp fun {a b} hab e=>by subst e;rw [zdn] at hab;omega
theorem zah {B:Nat} {w w1 w2:World} (h:Below B w w1) (hB:B≤w1.heap.size) (k:Below w1.heap.size w1 w2):Below B w w2:=h.trans (k.mono hB)
theorem zfb (w:World) (o:Obj):Below w.heap.size w (w.alloc o):=(Below.refl _ w).alloc (Nat.le_refl _) o
theorem few_of {l:List TypA} {m n:Nat} (h1:(zaz (l.map TypA.says)).length≤m) (h2:∀x ∈ zaz (l.map TypA.says),x.2.subs.length≤n∧x.2.ops.length≤n):(relsA l).length≤m∧∀x ∈ relsA l,x.2.subs.length≤n∧x.2.ops.length≤n:=by
 rw [←zaO] at h1 h2;rw [List.length_map] at h1;exact ⟨h1,fun x hx=>h2 _ (List.mem_map.2 ⟨x,hx,rfl⟩)⟩
theorem zgT {w:World} {B n c:Nat} {A:Option Addr} {l:List Ed} (h:Rd w B 3 A n c (zan l)) {i:Nat} {e:Ed} (hi:l[i]? = some e) (hn:n=l.length) :
 ∃b k,A=some ⟨b,k,none⟩∧b<B∧w.cell? ⟨b,k + i * 3,none⟩=some (.int .i64 e.1)∧w.cell? ⟨b,k + i * 3 + 1,none⟩=some (.int .i64 e.2.1)∧w.cell? ⟨b,k + i * 3 + 2,none⟩=some (.bool e.2.2):=by
 subst hn;obtain ⟨b,k,e2,hb,hc⟩:=h.at_ (zda hi);obtain ⟨g0,g1,g2⟩:=zgq hi;exact ⟨b,k,e2,hb,hc _ _ g0,by rw [Nat.add_assoc];exact hc _ _ g1,by rw [Nat.add_assoc];exact hc _ _ g2⟩
inductive LvIs (n:Nat) (l:List Ed):List Int→Int→Prop
 | arg (hi:¬InR n l):LvIs n l [] 1
 | cyc (hi:InR n l) (hc:Cyc l):LvIs n l [] 33
 | ok (hi:InR n l) (v:List Int) (hv:v.length=n) (hL:Least n l (zaL v)) (hb:∀x ∈ v,0≤x∧x≤4096):LvIs n l v 0
theorem zkx {w:World} {n c:Nat} {A:Option Addr} {l:List Ed} (h:Rd w w.heap.size 3 A l.length c (zan l)) (hl:l.length≤100000) (hn:n≤4096) :
 Calls Tryz.prog 25 #[.int .i64 (n:Int),.slice A l.length c] w fun e w'=>(∃A' c' v s,e = .returned (.tuple #[.slice A' v.length c',.int .i64 s])∧Rd w' w'.heap.size 1 A' v.length c' (lvs v)∧LvIs n l v s)∧Below w.heap.size w w' :=
 (levels_any (n:=(n:Int)) h hl).mono fun e w' ⟨h1,h2⟩=>⟨by
  cases h1 with
  | arg h =>
   rcases h with h | h | h
   · omega
   · omega
   · exact ⟨none,0,[],1,rfl,Rd.none_ _ _ _,.arg h⟩
  | cyc _ _ hi hc=>exact ⟨none,0,[],33,rfl,Rd.none_ _ _ _,.cyc hi hc⟩
  | ok _ _ hi v A c hr hv hL hb =>
   rw [Int.toNat_natCast] at *
   subst hv;exact ⟨A,c,v,0,rfl,hr,.ok hi v rfl hL hb⟩,h2⟩
theorem zlW {v:List Int} {i:Nat} (hi:i<v.length):(lvs v)[i]? = some (.int .i64 (zaL v i)):=by
 simp only [lvs,List.getElem?_map,List.getElem?_eq_getElem hi,Option.map_some];simp [zaL,hi]
theorem LvIs.same {n:Nat} {l m:List Ed} {v u:List Int} {s r:Int} (h:LvIs n l v s) (k:LvIs n m u r) (hs:∀e,e ∈ l↔e ∈ m):v=u∧s=r:=by
 have hi:InR n l↔InR n m:=⟨fun h e he=>h e ((hs e).2 he),fun h e he=>h e ((hs e).1 he)⟩;have h1:∀e ∈ l,e ∈ m:=fun e he=>(hs e).1 he;have h2:∀e ∈ m,e ∈ l:=fun e he=>(hs e).2 he;cases h with
 | arg hl =>
  cases k with
  | arg=>exact ⟨rfl,rfl⟩
  | cyc hm=>exact absurd (hi.2 hm) hl
  | ok hm=>exact absurd (hi.2 hm) hl
 | cyc hl hc =>
  cases k with
  | arg hm=>exact absurd (hi.1 hl) hm
  | cyc=>exact ⟨rfl,rfl⟩
  | ok _ _ _ hL=>exact (Cyc.none (hc.sub h1) hL.1).elim
 | ok hl v hv hL =>
  cases k with
  | arg hm=>exact absurd (hi.1 hl) hm
  | cyc _ hc=>exact (Cyc.none (hc.sub h2) hL.1).elim
  | ok _ u hu hM =>
   refine ⟨List.ext_getElem (by omega) fun i h3 h4=>?_,rfl⟩;have:=(hL.congr hs).same hM (i:=i) (by omega);simpa [zaL,h3,h4] using this
end Go.Proofs.YtiepddmagfmllaaGreat
namespace Go.Proofs.YtiepddmagfmllaaGreat
inductive Ex where
 | this:Ex
 | same (n:ByteArray):Ex
 | via (n m:ByteArray):Ex
 | bin (k:Nat) (a b:Ex):Ex
def opK (k:Nat):OpP:=(k,⟨#[]⟩,⟨#[]⟩)
def Ex.ops:Ex→List OpP
 | .this=>[(1,⟨#[]⟩,⟨#[]⟩)]
 | .same n=>[(2,n,⟨#[]⟩)]
 | .via n m=>[(3,n,m)]
 | .bin k a b=>a.ops ++ b.ops ++ [opK k]
def Ex.sg:Ex→Bool
 | .bin _ _ _=>true
 | _=>false
def zgj (k:Nat):ByteArray:=if k=4 then ⟨#[32,124,32]⟩ else if k=5 then ⟨#[32,38,32]⟩ else ⟨#[32,45,32]⟩
def parS (s:Bool) (x:ByteArray):ByteArray:=if s=true then ⟨#[40]⟩ ++ x ++ ⟨#[41]⟩ else x
def Ex.text:Ex→ByteArray
 | .this=>zcE
 | .same n=>n
 | .via n m=>n ++ ⟨#[46]⟩ ++ m
 | .bin k a b=>a.text ++ zgj k ++ parS b.sg b.text
def Ex.good:Ex→Prop
 | .bin k a b=>(k=4∨k=5∨k=6)∧a.good∧b.good
 | _=>True
abbrev Gp:=List ByteArray × Bool
def zba:List ByteArray→ByteArray
 | []=>⟨#[]⟩
 | x::r=>x ++ zba r
theorem zdG:∀a b:List ByteArray,zba (a ++ b)=zba a ++ zba b
 | [],b=>(zfo _).symm
 | x::r,b=>by
  show x ++ zba (r ++ b)=x ++ zba r ++ zba b;rw [zdG r b,zaK]
def zaw (gs:List Gp):List ByteArray:=gs.flatMap fun x=>⟨#[]⟩::x.1
def zkI (x:ByteArray) (gs:List Gp):List Gp:=gs ++ [([x],false)]
def ze7 (c:ByteArray) (a b:Gp):Gp:=(a.1 ++ (if b.2=true then c ++ ⟨#[40]⟩ else c)::b.1 ++ (if b.2=true then [⟨#[41]⟩] else []),true)
def zhR (c:ByteArray):List Gp→List Gp
 | []=>[]
 | [a]=>[a]
 | [a,b]=>[ze7 c a b]
 | a::b::d::r=>a::zhR c (b::d::r)
theorem zel (c:ByteArray) (a b:Gp):∀l:List Gp,zhR c (l ++ [a,b])=l ++ [ze7 c a b]
 | []=>rfl
 | [x]=>rfl
 | x::y::l=>by
  have h:=zel c a b (y::l);cases l with
  | nil=>rfl
  | cons z l=>show x::zhR c (y::z::(l ++ [a,b]))=_;rw [show y::z::(l ++ [a,b])=y::z::l ++ [a,b] from rfl,h];rfl
def zmL (o:OpP):ByteArray:=if o.1=1 then zcE else if o.1=2 then o.2.1 else o.2.1 ++ ⟨#[46]⟩ ++ o.2.2
def zdi (gs:List Gp) (o:OpP):List Gp :=
 if o.1=1∨o.1=2∨o.1=3 then zkI (zmL o) gs else if o.1=4∨o.1=5∨o.1=6 then zhR (zgj o.1) gs else gs
def zcv (gs:List Gp) (l:List OpP):List Gp:=l.foldl zdi gs
def ziv (l:List OpP):ByteArray:=zba (zaw (zcv [] l))
theorem zeO:∀(t:Ex) (gs:List Gp),t.good→∃r,zcv gs t.ops=gs ++ [(r,t.sg)]∧zba r=t.text
 | .this,gs,_=>⟨[zcE],rfl,zbC _⟩
 | .same n,gs,_=>⟨[n],rfl,zbC _⟩
 | .via n m,gs,_=>⟨[n ++ ⟨#[46]⟩ ++ m],rfl,zbC _⟩
 | .bin k a b,gs,h=>by
  obtain ⟨hk,ha,hb⟩:=h;obtain ⟨ra,ea,ta⟩:=zeO a gs ha;obtain ⟨rb,eb,tb⟩:=zeO b (gs ++ [(ra,a.sg)]) hb;have e:zcv gs (Ex.bin k a b).ops=zdi (zcv (zcv gs a.ops) b.ops) (opK k):=by
   show List.foldl zdi gs (a.ops ++ b.ops ++ [opK k])=_;rw [List.foldl_append,List.foldl_append];rfl
  rw [e,ea,eb,List.append_assoc];have e2:zdi (gs ++ ([(ra,a.sg)] ++ [(rb,b.sg)])) (opK k)=zhR (zgj k) (gs ++ [(ra,a.sg),(rb,b.sg)]):=by
   unfold zdi opK;dsimp only;rw [if_neg (by omega),if_pos (by omega)];rfl
  rw [e2,zel];refine ⟨_,rfl,?_⟩;show zba (ra ++ (if b.sg=true then zgj k ++ ⟨#[40]⟩ else zgj k)::rb ++ (if b.sg=true then [⟨#[41]⟩] else []))=a.text ++ zgj k ++ parS b.sg b.text;rw [zdG,zdG,ta];show a.text ++ ((if b.sg=true then zgj k ++ ⟨#[40]⟩ else zgj k) ++ zba rb) ++ _=_;rw [tb];unfold parS;split
  · rw [show zba [(⟨#[41]⟩:ByteArray)]=⟨#[41]⟩ from rfl];simp only [zaK]
  · rw [show zba ([]:List ByteArray)=⟨#[]⟩ from rfl,zbC];simp only [zaK]
theorem zmt (t:Ex) (h:t.good):ziv t.ops=t.text:=by
 obtain ⟨r,e,h2⟩:=zeO t [] h;unfold ziv;rw [e,←h2];show zba (⟨#[]⟩::r ++ [])=_;rw [List.append_nil];show ⟨#[]⟩ ++ zba r=_;exact zfo _
def NmW (n:ByteArray):Prop:=zep n=true∧keyB n=false
def Ex.nm:Ex→Prop
 | .this=>True
 | .same n=>NmW n
 | .via n m=>NmW n∧NmW m
 | .bin _ a b=>a.nm∧b.nm
def Ex.deep:Ex→Nat
 | .bin _ a b=>max a.deep (if b.sg=true then b.deep + 1 else 0)
 | _=>0
def Ex.pd (t:Ex):Nat:=if t.sg=true then t.deep + 1 else 0
theorem Ex.deep_le_pd (t:Ex):t.deep≤t.pd:=by
 cases t with
 | bin k a b=>exact Nat.le_succ _
 | _=>exact Nat.zero_le _
def WdN (l:List Tk):Prop:=∀t ∈ l,t.1=1→zep t.2.1=true
theorem WdN.tail {l:List Tk} (h:WdN l):WdN l.tail:=fun t ht=>h t (List.mem_of_mem_tail ht)
theorem WdN.name {l r:List Tk} {n:ByteArray} (h:WdN l) (e:zaR l = .ok (n,r)):NmW n∧WdN r:=by
 unfold zaR at e;split at e
 · rename_i hc
   cases e;refine ⟨⟨?_,hc.2⟩,h.tail⟩;cases l with
   | nil=>exact absurd hc.1 (by show ¬(3=1);decide)
   | cons a t=>exact h a List.mem_cons_self hc.1
 · cases e
theorem WdN.need {l r:List Tk} {s:ByteArray} {u:Unit} (h:WdN l) (e:zaG s l = .ok (u,r)):WdN r:=by
 unfold zaG at e;split at e
 · cases e;exact h.tail
 · cases e
def zk7 (d:Nat) (o:List OpP):Prop:=∃t:Ex,o=t.ops∧t.good∧t.nm∧t.deep + d≤8
def PartO (d:Nat) (o:List OpP):Prop:=∃t:Ex,o=t.ops∧t.good∧t.nm∧t.pd + d≤8
theorem PartO.tree {d:Nat} {o:List OpP} (h:PartO d o):zk7 d o:=by
 obtain ⟨t,h1,h2,h3,h4⟩:=h;exact ⟨t,h1,h2,h3,by have:=t.deep_le_pd;omega⟩
theorem opT_kind {l:List Tk} (h:¬opT l=0):opT l=4∨opT l=5∨opT l=6:=by
 unfold opT at h ⊢;split
 · exact .inl rfl
 · split
   · exact .inr (.inl rfl)
   · split
     · exact .inr (.inr rfl)
     · rename_i h1 h2 h3
       rw [if_neg h1,if_neg h2,if_neg h3] at h;exact absurd rfl h
theorem ze0:∀f:Nat,(∀d l o r,d≤8→WdN l→partF f d l = .ok (o,r)→PartO d o∧WdN r)∧(∀d acc l o r,d≤8→WdN l→zk7 d acc→moreF f d acc l = .ok (o,r)→zk7 d o∧WdN r)
 | 0=>⟨fun d l o r _ _ h=>(by unfold partF at h;cases h),fun d acc l o r _ _ _ h=>(by unfold moreF at h;cases h)⟩
 | f + 1=>by
  obtain ⟨ih1,ih2⟩:=ze0 f;constructor
  · intro d l o r hd hw h;unfold partF at h;split at h
    · cases h;exact ⟨⟨.this,rfl,trivial,trivial,by show 0 + d≤8;omega⟩,hw.tail⟩
    · split at h
      · split at h
        · cases h
        · obtain ⟨a,m,e1,h⟩:=zae h;obtain ⟨g1,w1⟩:=ih1 _ _ _ _ (by omega) hw.tail e1;obtain ⟨a2,m2,e2,h⟩:=zae h;obtain ⟨g2,w2⟩:=ih2 _ _ _ _ _ (by omega) w1 g1.tree e2;obtain ⟨a3,m3,e3,h⟩:=zae h;have w3:=w2.need e3;cases h;obtain ⟨t,h1,h2,h3,h4⟩:=g2;refine ⟨⟨t,h1,h2,h3,?_⟩,w3⟩;unfold Ex.pd;split <;> omega
      · obtain ⟨a,m,e1,h⟩:=zae h;obtain ⟨n1,w1⟩:=hw.name e1;split at h
        · obtain ⟨a2,m2,e2,h⟩:=zae h;obtain ⟨n2,w2⟩:=w1.tail.name e2;cases h;exact ⟨⟨.via a a2,rfl,trivial,⟨n1,n2⟩,by show 0 + d≤8;omega⟩,w2⟩
        · cases h;exact ⟨⟨.same a,rfl,trivial,n1,by show 0 + d≤8;omega⟩,w1⟩
  · intro d acc l o r hd hw ha h;unfold moreF at h;split at h
    · cases h;exact ⟨ha,hw⟩
    · rename_i hc
      obtain ⟨a,m,e1,h⟩:=zae h;obtain ⟨g1,w1⟩:=ih1 _ _ _ _ hd hw.tail e1;refine ih2 _ _ _ _ _ hd w1 ?_ h;obtain ⟨t1,h1,h2,h3,h4⟩:=ha;obtain ⟨t2,k1,k2,k3,k4⟩:=g1;refine ⟨.bin (opT l) t1 t2,?_,⟨opT_kind hc,h2,k2⟩,⟨h3,k3⟩,?_⟩
      · rw [h1,k1];rfl
      · show max t1.deep t2.pd + d≤8;omega
def SubG (s:zb7):Prop:=NmW s.1∧(s.2=⟨#[]⟩∨NmW s.2)
theorem zjv:∀(f:Nat) (acc:List zb7) (l:List Tk) (o:List zb7) (r:List Tk),WdN l→(∀s ∈ acc,SubG s)→zfv f acc l = .ok (o,r)→(∀s ∈ o,SubG s)∧WdN r
 | 0,acc,l,o,r,_,_,h=>by unfold zfv at h;cases h
 | f + 1,acc,l,o,r,hw,ha,h=>by
  unfold zfv at h;obtain ⟨a,m,e1,h⟩:=zae h;obtain ⟨n1,w1⟩:=hw.name e1;obtain ⟨a2,m2,e2,h⟩:=zae h;have h2:(a2=⟨#[]⟩∨NmW a2)∧WdN m2:=by
   split at e2
   · obtain ⟨n2,w2⟩:=w1.tail.name e2;exact ⟨.inr n2,w2⟩
   · cases e2;exact ⟨.inl rfl,w1⟩
  have hacc:∀s ∈ acc ++ [(a,a2)],SubG s:=fun s hs=>by
   rcases List.mem_append.1 hs with hs | hs
   · exact ha s hs
   · rw [List.mem_singleton.1 hs];exact ⟨n1,h2.1⟩
  by_cases hc:isT (sg 44) m2=true
  · rw [if_pos hc] at h;exact zjv f _ _ _ _ h2.2.tail hacc h
  · rw [if_neg hc] at h;cases h;exact ⟨hacc,h2.2⟩
structure RelG (x:RelP):Prop where
 name:NmW x.name
 view:NmW x.view
 edit:NmW x.edit
 check:NmW x.check
 subs:∀s ∈ x.subs,SubG s
 ops:zk7 0 x.ops
theorem good_rel {l r:List Tk} {x:RelP} (hw:WdN l) (h:zmn l = .ok (x,r)):RelG x∧WdN r:=by
 unfold zmn at h;obtain ⟨_,_,e,h⟩:=zae h;obtain ⟨n1,hw⟩:=hw.name e;obtain ⟨_,_,e,h⟩:=zae h;replace hw:=hw.need e;obtain ⟨_,_,e,h⟩:=zae h;obtain ⟨n2,hw⟩:=hw.name e;obtain ⟨_,_,e,h⟩:=zae h;replace hw:=hw.need e;obtain ⟨_,_,e,h⟩:=zae h;obtain ⟨n3,hw⟩:=hw.name e;obtain ⟨_,_,e,h⟩:=zae h;replace hw:=hw.need e;obtain ⟨_,_,e,h⟩:=zae h;obtain ⟨n4,hw⟩:=hw.name e;obtain ⟨_,_,e,h⟩:=zae h;replace hw:=hw.need e;obtain ⟨_,_,e,h⟩:=zae h;replace hw:=hw.need e;obtain ⟨subs,m,e,h⟩:=zae h;have hs:(∀s ∈ subs,SubG s)∧WdN m:=by
  split at e
  · cases e;exact ⟨fun s hs=>(by cases hs),hw⟩
  · exact zjv _ _ _ _ _ hw (fun s hs=>by cases hs) e
 obtain ⟨ops,m2,e,h⟩:=zae h;have ho:zk7 0 ops∧WdN m2:=by
  split at e
  · unfold ziw at e;obtain ⟨a,_,e1,e⟩:=zae e;obtain ⟨g1,w1⟩:=(ze0 _).1 _ _ _ _ (Nat.zero_le _) hs.2.tail e1;exact (ze0 _).2 _ _ _ _ _ (Nat.zero_le _) w1 g1.tree e
  · cases e;exact ⟨⟨.this,rfl,trivial,trivial,by decide⟩,hs.2⟩
 obtain ⟨_,_,e,h⟩:=zae h;replace hw:=ho.2.need e;cases h;exact ⟨⟨n1,n2,n3,n4,hs.1,ho.1⟩,hw⟩
theorem zly:∀(n:Nat) (acc:List RelP) (l:List Tk) (o:List RelP) (r:List Tk),l.length≤n→WdN l→(∀x ∈ acc,RelG x)→zi9 acc l = .ok (o,r)→(∀x ∈ o,RelG x)∧WdN r:=by
 intro n;induction n with
 | zero =>
  intro acc l o r hn hw ha h;rw [zdP] at h;by_cases hc:isT zgd l=true
  · have:=zay zb4 hc;omega
  · rw [if_neg hc] at h;cases h;exact ⟨ha,hw⟩
 | succ n ih =>
  intro acc l o r hn hw ha h;rw [zdP] at h;by_cases hc:isT zgd l=true
  · rw [if_pos hc] at h;have h1:=zay zb4 hc;obtain ⟨x,m,e,h⟩:=zae h;obtain ⟨g,w⟩:=good_rel hw.tail e;have hl:=(zlv e).2;exact ih _ _ _ _ (by omega) w (fun y hy=>by
     rcases List.mem_append.1 hy with hy | hy
     · exact ha y hy
     · rw [List.mem_singleton.1 hy];exact g) h
  · rw [if_neg hc] at h;cases h;exact ⟨ha,hw⟩
structure TypG (t:TypP):Prop where
 name:NmW t.name
 rels:∀x ∈ t.rels,RelG x
theorem zkp:∀(n:Nat) (acc:List TypP) (l:List Tk) (o:List TypP) (r:List Tk),l.length≤n→WdN l→(∀t ∈ acc,TypG t)→zdd acc l = .ok (o,r)→(∀t ∈ o,TypG t):=by
 intro n;induction n with
 | zero =>
  intro acc l o r hn hw ha h;rw [zcV] at h;by_cases hc:isT zcr l=true
  · have:=zay zbW hc;omega
  · rw [if_neg hc] at h;cases h;exact ha
 | succ n ih =>
  intro acc l o r hn hw ha h;rw [zcV] at h;by_cases hc:isT zcr l=true
  · rw [if_pos hc] at h;have h1:=zay zbW hc;obtain ⟨_,_,e,h⟩:=zae h;have l1:=zau e;obtain ⟨n1,hw⟩:=hw.tail.name e;obtain ⟨_,_,e,h⟩:=zae h;have l2:=zat (zam _) e;replace hw:=hw.need e;obtain ⟨rs,m,e,h⟩:=zae h;obtain ⟨g,hw⟩:=zly _ _ _ _ _ (Nat.le_refl _) hw (fun x hx=>by cases hx) e;have l3:=(zjs _ _ _ _ _ _ (Nat.le_refl _) (Nat.le_refl _) (fun x hx=>by cases hx) e).2;simp only [List.length_nil] at l3;obtain ⟨_,_,e,h⟩:=zae h;have l4:=zat (zam _) e;replace hw:=hw.need e;exact ih _ _ _ _ (by omega) hw (fun t ht=>by
     rcases List.mem_append.1 ht with ht | ht
     · exact ha t ht
     · rw [List.mem_singleton.1 ht];exact ⟨n1,g⟩) h
  · rw [if_neg hc] at h;cases h;exact ha
theorem zc1 (s:ByteArray):∀t ∈ (zaf s).1,TypG t:=by
 unfold zaf;split
 · rename_i h0
   have hw:WdN (zbP s).1:=by
    obtain ⟨v,e0,eA⟩:=zfj (by
     rcases Nat.lt_or_ge 2048 s.size with h | h
     · unfold zbP at h0;rw [if_pos h] at h0;exact absurd h0 (by decide)
     · exact h) h0
    obtain ⟨init,e,hi⟩:=zih _ s 0 (Nat.le_refl _) e0;rw [eA,e];intro t ht h1;rcases List.mem_append.1 ht with ht | ht
    · rcases hi t ht with ⟨_,h2⟩ | ⟨h2,_⟩
      · exact h2
      · rw [h2] at h1;cases h1
    · rw [List.mem_singleton.1 ht] at h1;cases h1
   rw [zeY];cases hT:zdd [] (zbP s).1 with
   | error e=>exact fun t ht=>by cases ht
   | ok q =>
    have g:=zkp _ _ _ _ _ (Nat.le_refl _) hw (fun t ht=>by cases ht) (show zdd [] (zbP s).1 = .ok (q.1,q.2) from hT);rw [zb8];split
    · exact g
    · exact fun t ht=>by cases ht
 · exact fun t ht=>by cases ht
theorem zmk (s:ByteArray):∀k,plc s k≤4 * k
 | 0=>Nat.le_refl _
 | k + 1=>by
  have ih:=zmk s k;by_cases h:plc s k<s.size
  · rw [zaJ h];have:=wd_le4 h;omega
  · rw [zet h];omega
theorem zfS {x:ByteArray} (h:zep x=true):x.size≤96:=by
 have h1:=(zbH.1 h).2.1;have h2:=zmk x (cnt x);rw [(zcy x).1] at h2;omega
def opZ (o:OpP):OpI:=((o.1:Int),o.2.1,o.2.2)
def Ex.len (t:Ex):Nat:=t.ops.length
theorem Ex.len_bin (k:Nat) (a b:Ex):(Ex.bin k a b).len=a.len + b.len + 1:=by simp [Ex.len,Ex.ops];omega
theorem Ex.len_pos (t:Ex):0<t.len:=by cases t <;> simp [Ex.len,Ex.ops] <;> omega
def Ex.cnt:Ex→Nat→Nat
 | .bin k a b,p=>if p<a.len then a.cnt p else if p<a.len + b.len then b.cnt (p-a.len) + (if k=6 then 1 else 0) else 0
 | _,_=>0
def Ex.bgn:Ex→Nat→Nat
 | .bin _ a b,i=>if i<a.len then a.bgn i else if i<a.len + b.len then a.len + b.bgn (i-a.len) else a.len
 | _,_=>0
def Ex.kd (t:Ex) (i:Nat):Nat:=(t.ops.getD i (0,⟨#[]⟩,⟨#[]⟩)).1
theorem Ex.kd_l {k:Nat} {a b:Ex} {i:Nat} (h:i<a.len):(Ex.bin k a b).kd i=a.kd i:=by
 unfold Ex.kd;rw [Ex.ops,List.getD_eq_getElem?_getD,List.getD_eq_getElem?_getD,List.append_assoc,List.getElem?_append_left h]
theorem Ex.kd_r {k:Nat} {a b:Ex} {i:Nat} (h:a.len≤i) (h2:i<a.len + b.len):(Ex.bin k a b).kd i=b.kd (i-a.len):=by
 unfold Ex.kd Ex.len at *
 rw [Ex.ops,List.getD_eq_getElem?_getD,List.getD_eq_getElem?_getD,List.append_assoc,List.getElem?_append_right h,List.getElem?_append_left (by omega)]
theorem Ex.kd_o {k:Nat} {a b:Ex}:(Ex.bin k a b).kd (a.len + b.len)=k:=by
 unfold Ex.kd Ex.len at *
 rw [Ex.ops,List.getD_eq_getElem?_getD,List.getElem?_append_right (by simp)];simp [opK]
theorem Ex.cnt_has:∀(t:Ex) (p:Nat),0<t.cnt p↔∃i,p<i∧i<t.len∧t.kd i=6∧t.bgn i≤p
 | .this,p=>⟨fun h=>by simp [Ex.cnt] at h,fun ⟨i,h1,h2,_⟩=>by simp [Ex.len,Ex.ops] at h2;omega⟩
 | .same n,p=>⟨fun h=>by simp [Ex.cnt] at h,fun ⟨i,h1,h2,_⟩=>by simp [Ex.len,Ex.ops] at h2;omega⟩
 | .via n m,p=>⟨fun h=>by simp [Ex.cnt] at h,fun ⟨i,h1,h2,_⟩=>by simp [Ex.len,Ex.ops] at h2;omega⟩
 | .bin k a b,p=>by
  have iha:=Ex.cnt_has a p;have ihb:=Ex.cnt_has b (p-a.len);have hl:=Ex.len_bin k a b;constructor
  · intro h;rw [Ex.cnt] at h;by_cases h1:p<a.len
    · rw [if_pos h1] at h;obtain ⟨i,i1,i2,i3,i4⟩:=iha.1 h;exact ⟨i,i1,by omega,by rw [Ex.kd_l i2];exact i3,by rw [Ex.bgn,if_pos i2];exact i4⟩
    · rw [if_neg h1] at h;by_cases h2:p<a.len + b.len
      · rw [if_pos h2] at h;by_cases h3:k=6
        · exact ⟨a.len + b.len,h2,by omega,by rw [Ex.kd_o];exact h3,by rw [Ex.bgn,if_neg (by omega),if_neg (by omega)];omega⟩
        · rw [if_neg h3] at h;obtain ⟨i,i1,i2,i3,i4⟩:=ihb.1 h;refine ⟨a.len + i,by omega,by omega,?_,?_⟩
          · rw [Ex.kd_r (by omega) (by omega),Nat.add_sub_cancel_left];exact i3
          · rw [Ex.bgn,if_neg (by omega),if_pos (by omega),Nat.add_sub_cancel_left];omega
      · rw [if_neg h2] at h;omega
  · rintro ⟨i,i1,i2,i3,i4⟩;rw [Ex.cnt];rw [Ex.bgn] at i4;by_cases h1:i<a.len
    · rw [if_pos h1] at i4;rw [if_pos (by omega)];exact iha.2 ⟨i,i1,h1,by rw [←Ex.kd_l h1];exact i3,i4⟩
    · rw [if_neg h1] at i4;by_cases h2:i<a.len + b.len
      · rw [if_pos h2] at i4;rw [if_neg (by omega),if_pos (by omega)];have:=ihb.2 ⟨i-a.len,by omega,by omega,by rw [←Ex.kd_r (by omega) h2];exact i3,by omega⟩;omega
      · rw [if_neg h2] at i4;obtain rfl:i=a.len + b.len:=by omega
        rw [Ex.kd_o] at i3;rw [if_neg (by omega),if_pos (by omega),if_pos i3];omega
theorem Ex.sub_at:∀(t:Ex),t.good→∀i,i<t.len→4≤t.kd i→∃(pre:List OpP) (b:Ex) (post:List OpP),t.ops=pre ++ b.ops ++ post∧b.good∧pre.length=t.bgn i∧pre.length + b.len=i
 | .this,_,i,hi,h=>by simp [Ex.len,Ex.ops] at hi;subst hi;simp [Ex.kd,Ex.ops] at h
 | .same n,_,i,hi,h=>by simp [Ex.len,Ex.ops] at hi;subst hi;simp [Ex.kd,Ex.ops] at h
 | .via n m,_,i,hi,h=>by simp [Ex.len,Ex.ops] at hi;subst hi;simp [Ex.kd,Ex.ops] at h
 | .bin k a b,hg,i,hi,h=>by
  obtain ⟨_,ga,gb⟩:=hg;rw [Ex.len_bin] at hi;rw [Ex.bgn];by_cases h1:i<a.len
  · rw [Ex.kd_l h1] at h;obtain ⟨pre,c,post,e,g,h2,h3⟩:=Ex.sub_at a ga i h1 h;refine ⟨pre,c,post ++ (b.ops ++ [opK k]),by rw [Ex.ops,e];simp,g,by rw [if_pos h1];exact h2,h3⟩
  · by_cases h2:i<a.len + b.len
    · rw [Ex.kd_r (by omega) h2] at h;obtain ⟨pre,c,post,e,g,h4,h3⟩:=Ex.sub_at b gb (i-a.len) (by omega) h;refine ⟨a.ops ++ pre,c,post ++ [opK k],by rw [Ex.ops,e];simp,g,?_,?_⟩
      · rw [if_neg h1,if_pos h2,List.length_append,h4];rfl
      · rw [List.length_append];unfold Ex.len at *;omega
    · obtain rfl:i=a.len + b.len:=by omega
      exact ⟨a.ops,b,[opK k],by rw [Ex.ops],gb,by rw [if_neg h1,if_neg h2];rfl,rfl⟩
def zfg (m:List Int) (p:Nat):Int:=(m.take p).sum
theorem zik {m:List Int} {q:Nat} {d:Int}:∀{p:Nat},q<m.length→zfg (zd0 m q d) p=zfg m p + if q<p then d else 0:=by
 unfold zfg zd0;induction m generalizing q with
 | nil=>intro p h;simp at h
 | cons x t ih =>
  intro p h;cases p with
  | zero=>simp
  | succ p =>
   cases q with
   | zero=>simp;omega
   | succ q =>
    have:=ih (q:=q) (p:=p) (by simpa using h);simp only [List.set_cons_succ,List.take_succ_cons,List.sum_cons,List.getD_cons_succ,this];by_cases e:q<p
    · rw [if_pos e,if_pos (by omega)];omega
    · rw [if_neg e,if_neg (by omega)];omega
theorem zgH {m:List Int} {p:Nat} (h:p<m.length):zfg m (p + 1)=zfg m p + m.getD p 0:=by
 unfold zfg;rw [List.take_add_one,List.sum_append,List.getD_eq_getElem?_getD,List.getElem?_eq_getElem h];simp
theorem zhi (m:List Int):∀(j i:Nat),j<m.length→(zeu m j).getD i 0=if i≤j then zfg m (i + 1) else m.getD i 0
 | 0,i,h=>by
  by_cases e:i≤0
  · obtain rfl:i=0:=by omega
    rw [if_pos e,zgH h,zeu];simp [zfg]
  · rw [if_neg e,zeu]
 | j + 1,i,h=>by
  have h1:=zhi m j (j + 1) (by omega);have h2:=zhi m j j (by omega);have h3:=zhi m j i (by omega);rw [if_neg (by omega)] at h1;rw [if_pos (Nat.le_refl _)] at h2;rw [zeu,List.getD_eq_getElem?_getD];by_cases e:j + 1=i
  · subst e;rw [List.getElem?_set_self (by rw [zhj];exact h),if_pos (Nat.le_refl _),Option.getD_some,h1,h2,zgH h];omega
  · rw [List.getElem?_set_ne e,←List.getD_eq_getElem?_getD,h3];by_cases e2:i≤j
    · rw [if_pos e2,if_pos (by omega)]
    · rw [if_neg e2,if_neg (by omega)]
theorem zjF (s:List Int × List Nat) (i:Nat) (a b:List OpI):zeR s i (a ++ b)=zeR (zeR s i a) (i + a.length) b:=by
 induction a generalizing s i with
 | nil=>rfl
 | cons x t ih=>rw [List.cons_append,zeR,ih,zeR,List.length_cons,Nat.add_right_comm,←Nat.add_assoc]
theorem zfp (t:Ex):(t.ops.map opZ).length=t.len:=List.length_map _
theorem zfR:∀(t:Ex) (m:List Int) (bg:List Nat) (i0:Nat),t.good→i0 + t.len≤m.length →
 ∃m',zeR (m,bg) i0 (t.ops.map opZ)=(m',bg ++ [i0])∧m'.length=m.length∧∀p,zfg m' (p + 1)=zfg m (p + 1) + if i0≤p∧p<i0 + t.len then (t.cnt (p-i0):Int) else 0
 | .this,m,bg,i0,_,_=>⟨m,rfl,rfl,fun p=>by simp [Ex.cnt]⟩
 | .same n,m,bg,i0,_,_=>⟨m,rfl,rfl,fun p=>by simp [Ex.cnt]⟩
 | .via n n2,m,bg,i0,_,_=>⟨m,rfl,rfl,fun p=>by simp [Ex.cnt]⟩
 | .bin k a b,m,bg,i0,hg,hl=>by
  obtain ⟨hk,ga,gb⟩:=hg;rw [Ex.len_bin] at hl;obtain ⟨m1,r1,l1,s1⟩:=zfR a m bg i0 ga (by omega);obtain ⟨m2,r2,l2,s2⟩:=zfR b m1 (bg ++ [i0]) (i0 + a.len) gb (by omega);have hops:(Ex.bin k a b).ops.map opZ=a.ops.map opZ ++ (b.ops.map opZ ++ [opZ (opK k)]):=by rw [Ex.ops];simp
  have hst:zeR (m,bg) i0 ((Ex.bin k a b).ops.map opZ)=zb9 (m2,bg ++ [i0] ++ [i0 + a.len]) (i0 + a.len + b.len) (k:Int):=by
   rw [hops,zjF,r1,zfp,zjF,r2,zfp];rfl
  have hlen:(bg ++ [i0] ++ [i0 + a.len]).length=bg.length + 2:=by simp
  have hlast:(bg ++ [i0] ++ [i0 + a.len]).getD ((bg ++ [i0] ++ [i0 + a.len]).length-1) 0=i0 + a.len:=by
   rw [hlen,List.getD_eq_getElem?_getD,List.getElem?_append_right (by simp)];simp
  have htake:(bg ++ [i0] ++ [i0 + a.len]).take ((bg ++ [i0] ++ [i0 + a.len]).length-1)=bg ++ [i0]:=by
   rw [hlen,List.take_append_of_le_length (by simp)];exact List.take_of_length_le (by simp)
  have hcnt:∀p,i0≤p→(Ex.bin k a b).cnt (p-i0)=if p<i0 + a.len then a.cnt (p-i0) else if p<i0 + a.len + b.len then b.cnt (p-(i0 + a.len)) + (if k=6 then 1 else 0) else 0:=fun p hp=>by
   rw [Ex.cnt];by_cases h1:p<i0 + a.len
   · rw [if_pos h1,if_pos (by omega)]
   · rw [if_neg h1,if_neg (by omega)];by_cases h2:p<i0 + a.len + b.len
     · rw [if_pos h2,if_pos (by omega),show p-i0-a.len=p-(i0 + a.len) by omega]
     · rw [if_neg h2,if_neg (by omega)]
  rw [hst];unfold zb9;dsimp only;rw [if_neg (by omega),if_pos (by omega),if_neg (by rw [hlen];omega),hlast,htake,Ex.len_bin];by_cases h6:k=6
  · subst h6;rw [if_pos (by rfl)];refine ⟨_,rfl,by rw [zcG,zcG];omega,fun p=>?_⟩;rw [zik (by rw [zcG];omega),zik (by omega),s2,s1];by_cases c0:i0≤p
    · have hc:=hcnt p c0;by_cases c1:p<i0 + a.len
      · rw [if_pos c1] at hc;rw [hc,if_pos ⟨c0,c1⟩,if_neg (by omega),if_neg (by omega),if_neg (by omega),if_pos ⟨c0,by omega⟩];omega
      · rw [if_neg c1] at hc;by_cases c2:p<i0 + a.len + b.len
        · rw [if_pos c2,if_pos rfl] at hc;rw [hc,if_neg (by omega),if_pos ⟨by omega,c2⟩,if_pos (by omega),if_neg (by omega),if_pos ⟨c0,by omega⟩];omega
        · rw [if_neg c2] at hc;rw [hc,if_neg (by omega),if_neg (by omega),if_pos (by omega),if_pos (by omega)];by_cases c3:p<i0 + (a.len + b.len + 1)
          · rw [if_pos ⟨c0,c3⟩];omega
          · rw [if_neg (by omega)];omega
    · rw [if_neg (by omega),if_neg (by omega),if_neg (by omega),if_neg (by omega),if_neg (by omega)];omega
  · rw [if_neg (by omega)];refine ⟨_,rfl,by omega,fun p=>?_⟩;rw [s2,s1];by_cases c0:i0≤p
    · have hc:=hcnt p c0;by_cases c1:p<i0 + a.len
      · rw [if_pos c1] at hc;rw [hc,if_pos ⟨c0,c1⟩,if_neg (by omega),if_pos ⟨c0,by omega⟩];omega
      · rw [if_neg c1] at hc;by_cases c2:p<i0 + a.len + b.len
        · rw [if_pos c2,if_neg h6] at hc;rw [hc,if_neg (by omega),if_pos ⟨by omega,c2⟩,if_pos ⟨c0,by omega⟩];omega
        · rw [if_neg c2] at hc;rw [hc,if_neg (by omega),if_neg (by omega)];by_cases c3:p<i0 + (a.len + b.len + 1)
          · rw [if_pos ⟨c0,c3⟩];omega
          · rw [if_neg (by omega)];omega
    · rw [if_neg (by omega),if_neg (by omega),if_neg (by omega)];omega
theorem zjg (n p:Nat):zfg (List.replicate n 0) p=0:=by
 unfold zfg;rw [List.take_replicate,List.sum_replicate_int];simp
theorem zfx {t:Ex} (hg:t.good) {p:Nat} (hp:p<t.len):zaS (t.ops.map opZ) p=decide (0<t.cnt p):=by
 unfold zaS zg7;rw [zfp];obtain ⟨m',h1,h2,h3⟩:=zfR t (List.replicate (t.len + 1) 0) [] 0 hg (by simp);rw [h1];have hl:t.len<m'.length:=by rw [h2];simp
 dsimp only;rw [zhi m' t.len p hl,if_pos (by omega),h3,zjg,if_pos ⟨by omega,by omega⟩];simp
def zcA (ps:List Path) (q:Path):Int:=match zas ps q with
 | some i=>(i:Int)
 | none=>-1
theorem zeq {ps:List Path} {q:Path} {i:Nat} (h:zas ps q=some i):zcA ps q=i:=by unfold zcA;rw [h]
theorem zfW {ps:List Path} {q:Path} (h:q ∉ ps):zcA ps q = -1:=by
 unfold zcA;cases e:zas ps q with
 | none=>rfl
 | some i=>exact absurd (List.mem_of_getElem? (za3 e)) h
theorem zic (t:TypI) (b:List TypI):zap (t::b)=(t.rels.map fun r=>(t.name,r.name)) ++ zap b:=by
 unfold zap zaz;rw [List.flatMap_cons,List.map_append,List.map_map];rfl
theorem zen {l:List TypI} {a b:ByteArray}:(a,b) ∈ zap l↔∃t ∈ l,∃r ∈ t.rels,t.name=a∧r.name=b:=by
 unfold zap zaz;simp only [List.mem_map,List.mem_flatMap];constructor
 · rintro ⟨_,⟨t,ht,r,hr,rfl⟩,e⟩;simp only [Prod.mk.injEq] at e;exact ⟨t,ht,r,hr,e.1,e.2⟩
 · rintro ⟨t,ht,r,hr,rfl,rfl⟩;exact ⟨_,⟨t,ht,r,hr,rfl⟩,rfl⟩
theorem zf1:∀(l:List TypI),(l.map (·.name)).Nodup→(∀t ∈ l,(t.rels.map (·.name)).Nodup)→(zap l).Nodup
 | [],_,_=>List.nodup_nil
 | t::q,h,hr=>by
  rw [zic,List.nodup_append];rw [List.map_cons,List.nodup_cons] at h;refine ⟨?_,zf1 q h.2 fun t ht=>hr t (List.mem_cons_of_mem _ ht),fun x hx y hy=>?_⟩
  · have:=hr t List.mem_cons_self;unfold List.Nodup at this ⊢;rw [List.pairwise_map] at this ⊢;exact this.imp fun h e=>h (Prod.ext_iff.1 e).2
  · obtain ⟨r,_,rfl⟩:=List.mem_map.1 hx;rintro rfl;obtain ⟨u,hu,s,_,e,_⟩:=zen.1 hy;exact h.1 (List.mem_map.2 ⟨u,hu,e⟩)
theorem Right.paths {l:List TypI} (h:Right l):(zap l).Nodup:=zf1 l h.names fun t ht=>(h.rels t ht).names
theorem split_at {α:Type} {l:List α} {i:Nat} {t:α} (h:l[i]? = some t):l=l.take i ++ t::l.drop (i + 1):=by
 obtain ⟨hi,rfl⟩:=List.getElem?_eq_some_iff.1 h;rw [←List.drop_eq_getElem_cons hi,List.take_append_drop]
theorem zmr {l:List TypI} {i k:Nat} {t:TypI} {r:RelI} (ht:l[i]? = some t) (hr:t.rels[k]? = some r):(zaz l)[(zaz (l.take i)).length + k]? = some (t,r):=by
 have e:zaz l=zaz (l.take i) ++ ((t.rels.map fun r=>(t,r)) ++ zaz (l.drop (i + 1))):=by
  conv=>lhs;rw [split_at ht]
  unfold zaz;rw [List.flatMap_append,List.flatMap_cons]
 rw [e,List.getElem?_append_right (Nat.le_add_right _ _),Nat.add_sub_cancel_left,List.getElem?_append_left (by rw [List.length_map];exact (List.getElem?_eq_some_iff.1 hr).1),List.getElem?_map,hr];rfl
theorem zmb {l:List TypI} (h:Right l) {i k:Nat} {t:TypI} {r:RelI} (ht:l[i]? = some t) (hr:t.rels[k]? = some r):zas (zap l) (t.name,r.name)=some ((zaz (l.take i)).length + k):=by
 refine ziO h.paths ?_;unfold zap;rw [List.getElem?_map,zmr ht hr];rfl
theorem num_rel {l:List TypI} (h:Right l) {t:TypI} (ht:t ∈ l) {n:ByteArray} (hn:∀r ∈ t.rels,r.name≠n):zcA (zap l) (t.name,n) = -1:=zfW fun m=>by
 obtain ⟨u,hu,r,hr,e1,e2⟩:=zen.1 m;have h1:=h.names;have:u=t:=by
  obtain ⟨a,ha,rfl⟩:=List.getElem_of_mem hu;obtain ⟨b,hb,rfl⟩:=List.getElem_of_mem ht;have H:=List.pairwise_iff_getElem.1 h1;simp only [List.length_map,List.getElem_map] at H;rcases Nat.lt_trichotomy a b with hl | rfl | hl
  · exact absurd e1 (H a b ha hb hl)
  · rfl
  · exact absurd e1.symm (H b a hb ha hl)
 subst this;exact hn r hr e2
theorem num_typ {l:List TypI} {a b:ByteArray} (hn:∀t ∈ l,t.name≠a):zcA (zap l) (a,b) = -1:=zfW fun m=>by
 obtain ⟨u,hu,_,_,e1,_⟩:=zen.1 m;exact hn u hu e1
theorem zmi {l:List TypI} (h:Right l) {i k:Nat} {t:TypI} {x:RelI} (ht:l[i]? = some t) (hx:t.rels[k]? = some x) (subs:List Path) (m:ByteArray) :
 zbk (zap l) ((zaz l).map (·.2)) t.name subs (3,x.name,m)=zbe x.subs m:=by
 unfold zbk;rw [if_neg (by intro h;cases h),if_neg (by intro h;cases h),if_pos rfl];dsimp only;rw [zmb h ht hx];dsimp only;rw [List.getElem?_map,zmr ht hx];rfl
def zi7 (ps:List Path) (qs:List Path) (f:Nat) (b:Bool):List Ed:=qs.map fun p=>((f:Int),zcA ps p,b)
theorem raw_mem {ps qs:List Path} {f:Nat} {b:Bool} (e:Ed):e ∈ (qs.filterMap (zas ps)).map (fun q2=>((f:Int),((q2:Nat):Int),b))↔e ∈ zi7 ps qs f b∧0≤e.2.1:=by
 simp only [List.mem_map,List.mem_filterMap,zi7];constructor
 · rintro ⟨q2,⟨p,hp,e1⟩,rfl⟩;exact ⟨⟨p,hp,by rw [zeq e1]⟩,by simp⟩
 · rintro ⟨⟨p,hp,rfl⟩,h⟩;cases e:zas ps p with
   | none=>unfold zcA at h;rw [e] at h;simp at h
   | some i=>exact ⟨i,⟨p,hp,e⟩,by rw [zeq e]⟩
structure IsE (Z S:List Ed):Prop where
 up:zec Z
 mem:∀e,e ∈ Z↔e ∈ S∧0≤e.2.1
theorem IsE.nil:IsE [] []:=⟨List.Pairwise.nil,fun e=>by simp⟩
theorem cfE_gt {a b:Ed} (h:a≠b) (h2:¬cfE b a<0):cfE a b<0:=by
 rw [zdn] at *
 have h3:¬(a.1=b.1∧a.2.1=b.2.1∧riI a=riI b):=fun ⟨e1,e2,e3⟩=>h (by
  refine Prod.ext e1 (Prod.ext e2 ?_);unfold riI at e3;cases ha:a.2.2 <;> cases hb:b.2.2 <;> simp [ha,hb] at e3 ⊢)
 omega
theorem zli {a b c:Ed} (h:cfE a b<0) (k:cfE b c<0):cfE a c<0:=by rw [zdn] at *;omega
theorem IsE.same {Z S:List Ed} {x:Ed} (h:IsE Z S) (hx:x.2.1<0∨x ∈ Z):IsE Z (S ++ [x]):=⟨h.up,fun e=>by
 rw [h.mem,List.mem_append,List.mem_singleton];constructor
 · rintro ⟨a,b⟩;exact ⟨.inl a,b⟩
 · rintro ⟨a | rfl,b⟩
   · exact ⟨a,b⟩
   · rcases hx with hx | hx
     · omega
     · exact (h.mem _).1 hx⟩
theorem IsE.put {Z S:List Ed} {x:Ed} {at_:Nat} (h:IsE Z S) (h0:0≤x.2.1) (hb:∀y ∈ Z.take at_,cfE y x<0) (hs:∀y,Z[at_]? = some y→¬cfE y x<0∧y≠x):IsE (Z.take at_ ++ x::Z.drop at_) (S ++ [x]):=by
 have hz:=h.up;rw [←List.take_append_drop at_ Z] at hz;unfold zec at hz;rw [List.pairwise_append] at hz;obtain ⟨p1,p2,p3⟩:=hz;refine ⟨?_,fun e=>?_⟩
 · unfold zec;rw [List.pairwise_append,List.pairwise_cons];have hd:∀z ∈ Z.drop at_,cfE x z<0:=by
    cases e:Z.drop at_ with
    | nil=>intro z hz;cases hz
    | cons y q =>
     have hy:Z[at_]? = some y:=by
      have:=congrArg List.head? e;rw [List.head?_drop] at this;simpa using this
     obtain ⟨s1,s2⟩:=hs y hy;have hxy:cfE x y<0:=cfE_gt (fun e=>s2 e.symm) s1;rw [e,List.pairwise_cons] at p2;intro z hz;rcases List.mem_cons.1 hz with rfl | hz
     · exact hxy
     · exact zli hxy (p2.1 z hz)
   refine ⟨p1,⟨hd,p2⟩,fun y hy z hz=>?_⟩;rcases List.mem_cons.1 hz with rfl | hz
   · exact hb y hy
   · exact p3 y hy z hz
 · have:=h.mem e;rw [←List.take_append_drop at_ Z,List.mem_append] at this;rw [List.mem_append,List.mem_cons,List.mem_append,List.mem_singleton];constructor
   · rintro (a | rfl | a)
     · have:=this.1 (.inl a);exact ⟨.inl this.1,this.2⟩
     · exact ⟨.inr rfl,h0⟩
     · have:=this.1 (.inr a);exact ⟨.inl this.1,this.2⟩
   · rintro ⟨a | rfl,b⟩
     · rcases this.2 ⟨a,b⟩ with c | c
       · exact .inl c
       · exact .inr (.inr c)
     · exact .inr (.inl rfl)
theorem Right.rels_le {l:List TypI} (h:Right l):(zaz l).length≤96:=by
 have H:∀q:List TypI,(∀t ∈ q,t.rels.length≤12)→(zaz q).length≤q.length * 12:=fun q=>by
  induction q with
  | nil=>intro _;simp [zaz]
  | cons t q ih =>
   intro hq;have h1:=ih fun t ht=>hq t (List.mem_cons_of_mem _ ht);have h2:=hq t List.mem_cons_self;unfold zaz at *
   rw [List.flatMap_cons,List.length_append,List.length_map,List.length_cons];omega
 have h1:=H l fun t ht=>(h.rels t ht).few;have h2:=h.few;omega
theorem few10 (s:ByteArray):Few 2049 (zaf s).1:=by
 by_cases h0:(zbP s).2.1=0
 · have hz:=zfi h0;obtain ⟨v,e0,eA⟩:=zfj hz h0;refine zh6 ?_;rw [eA];have:=zhx _ s 0 (Nat.le_refl _);omega
 · unfold zaf;rw [if_neg h0];exact ⟨Nat.zero_le _,fun t ht=>by cases ht⟩
theorem NmW.size10 {n:ByteArray} (h:NmW n):n.size≤140737488351232:=Nat.le_trans (zfS h.1) (by decide)
theorem zfY:∀t:Ex,t.good→t.nm→∀o ∈ t.ops,(Lit.int .i64 (o.1:Nat)).wf=true∧o.2.1.size≤140737488351232∧o.2.2.size≤140737488351232
 | .this,_,_=>fun o ho=>by rw [List.mem_singleton.1 ho];exact ⟨by decide,Nat.zero_le _,Nat.zero_le _⟩
 | .same n,_,h=>fun o ho=>by
  have h2:NmW n:=h;rw [List.mem_singleton.1 ho];exact ⟨by rfl,h2.size10,Nat.zero_le _⟩
 | .via n m,_,h=>fun o ho=>by
  have h2:NmW n∧NmW m:=h;rw [List.mem_singleton.1 ho];exact ⟨by rfl,h2.1.size10,h2.2.size10⟩
 | .bin k a b,g,h=>fun o ho=>by
  rcases List.mem_append.1 ho with ho | ho
  · rcases List.mem_append.1 ho with ho | ho
    · exact zfY a g.2.1 h.1 o ho
    · exact zfY b g.2.2 h.2 o ho
  · rw [List.mem_singleton.1 ho];refine ⟨?_,Nat.zero_le _,Nat.zero_le _⟩;rcases g.1 with rfl | rfl | rfl <;> rfl
theorem zeW (s:ByteArray):∀t ∈ (zaf s).1,t.name.size≤140737488351232∧t.rels.length * 112≤140737488351232∧∀x ∈ t.rels,SmI 140737488351232 x:=fun t ht=>by
 have g:=zc1 s t ht;have f:=(few10 s).2 t ht;refine ⟨g.name.size10,by have:=f.1;omega,fun x hx=>?_⟩;have gx:=g.rels x hx;have fx:=f.2 x hx;obtain ⟨e,he,h1,h2,_⟩:=gx.ops;exact ⟨gx.name.size10,gx.view.size10,gx.edit.size10,gx.check.size10,by have:=fx.1;omega,fun q hq=>⟨(gx.subs q hq).1.size10,by
  rcases (gx.subs q hq).2 with e | e
  · rw [e];exact Nat.zero_le _
  · exact e.size10⟩,by have:=fx.2;omega,fun o ho=>zfY e h1 h2 o (he ▸ ho)⟩
theorem zhv (s:ByteArray):(zaf s).1.length * 40≤140737488351232:=by have:=(few10 s).1;omega
theorem zf7 {s:ByteArray} {t:TypI} (ht:t ∈ (zaf s).1.map za5) {r:RelI} (hr:r ∈ t.rels):∃e:Ex,r.ops=e.ops.map opZ∧e.good∧r.ops.length≤2049∧r.subs.length≤2049:=by
 obtain ⟨t0,h0,rfl⟩:=List.mem_map.1 ht;obtain ⟨r0,h1,rfl⟩:=List.mem_map.1 hr;obtain ⟨e,he,h2,_⟩:=((zc1 s t0 h0).rels r0 h1).ops;have f:=((few10 s).2 t0 h0).2 r0 h1;exact ⟨e,by show r0.ops.map opI=_;rw [he];rfl,h2,by show (r0.ops.map opI).length≤_;rw [List.length_map];exact f.2,f.1⟩
def NoM (l:List Tk):Prop:=∀t ∈ l,t.2.1≠sg 45
theorem NoM.tail {l:List Tk} (h:NoM l):NoM l.tail:=fun t ht=>h t (List.mem_of_mem_tail ht)
theorem NoM.name {l r:List Tk} {n:ByteArray} (h:NoM l) (e:zaR l = .ok (n,r)):NoM r:=by
 unfold zaR at e;split at e
 · cases e;exact h.tail
 · cases e
theorem NoM.need {l r:List Tk} {s:ByteArray} {u:Unit} (h:NoM l) (e:zaG s l = .ok (u,r)):NoM r:=by
 unfold zaG at e;split at e
 · cases e;exact h.tail
 · cases e
theorem NoM.op {l:List Tk} (h:NoM l):opT l≠6:=by
 unfold opT;split
 · decide
 · split
   · decide
   · split
     · rename_i hc
       unfold isT at hc;have:=(of_decide_eq_true hc).1;cases l with
       | nil=>exact absurd this (by decide)
       | cons a t=>exact absurd this (h a List.mem_cons_self)
     · decide
end Go.Proofs.YtiepddmagfmllaaGreat
