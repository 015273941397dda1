import Derived.Test.YtahegpfdbgbioaaGreatB21
set_option maxRecDepth 100000
set_option maxHeartbeats 4000000
namespace Go.Proofs.YtahegpfdbgbioaaGreat
theorem zhw {ps:List Path} {q:Path} (h:q ∈ ps):zao ps q=some (ixP ps q):=by
 obtain ⟨i,hi⟩:=zg1 h;unfold ixP;rw [hi];rfl
theorem zmu {ps:List Path} {q:Path} (h:q ∉ ps):zao ps q=none:=by
 cases e:zao ps q with
 | none=>rfl
 | some i=>exact absurd (List.mem_of_getElem? (zaX e)) h
theorem zf9 {ps:List Path} {q:Path}:(zao ps q).isSome=true↔q ∈ ps:=by
 constructor
 · intro h;cases e:zao ps q with
   | none=>rw [e] at h;cases h
   | some i=>exact List.mem_of_getElem? (zaX e)
 · intro h;rw [zhw h];rfl
theorem ix_get {ps:List Path} {q:Path} (h:q ∈ ps):ps[ixP ps q]? = some q:=zaX (zhw h)
theorem ix_lt {ps:List Path} {q:Path} (h:q ∈ ps):ixP ps q<ps.length:=(List.getElem?_eq_some_iff.1 (ix_get h)).1
theorem zmX {ps:List Path} {q:Path} (h:q ∈ ps):zdk ps q=(ixP ps q:Nat):=zeG (zhw h)
theorem zkl {ps:List Path} {q:Path}:(0≤zdk ps q↔q ∈ ps)∧max (zdk ps q) 0=(ixP ps q:Nat):=by
 by_cases h:q ∈ ps
 · rw [zmX h];exact ⟨⟨fun _=>h,fun _=>by omega⟩,by omega⟩
 · rw [zgj h];unfold ixP;rw [zmu h];exact ⟨⟨fun h=>by omega,fun k=>absurd k h⟩,by decide⟩
theorem zfc (l:List TypI):(zap l).length=(zaA l).length:=List.length_map _
theorem zjK {l:List TypI} {x:TypI × RelI} (h:x ∈ zaA l):x.1 ∈ l∧x.2 ∈ x.1.rels:=by
 unfold zaA at h;obtain ⟨t,ht,h⟩:=List.mem_flatMap.1 h;obtain ⟨r,hr,rfl⟩:=List.mem_map.1 h;exact ⟨ht,hr⟩
theorem path_at {l:List TypI} {i:Nat} {x:TypI × RelI} (h:(zaA l)[i]? = some x):(zap l)[i]? = some (x.1.name,x.2.name):=by
 unfold zap;rw [List.getElem?_map,h];rfl
theorem at_path {l:List TypI} {i:Nat} {q:Path} (h:(zap l)[i]? = some q):∃x,(zaA l)[i]? = some x∧q=(x.1.name,x.2.name):=by
 unfold zap at h;rw [List.getElem?_map] at h;cases e:(zaA l)[i]? with
 | none=>rw [e] at h;cases h
 | some x=>rw [e] at h;exact ⟨x,rfl,(Option.some.inj h).symm⟩
theorem hasR_mem {t:TypI} {n:ByteArray} (h:zcf t n=true):∃r ∈ t.rels,r.name=n:=by
 unfold zcf at h;cases e:zcq t n with
 | none=>rw [e] at h;cases h
 | some r =>
  obtain ⟨a,b⟩:=zgW e;exact ⟨r,a,of_decide_eq_true b⟩
theorem zin {l:List TypI} {t:TypI} (ht:t ∈ l) {n:ByteArray} (h:zcf t n=true):(t.name,n) ∈ zap l:=by
 obtain ⟨r,hr,rfl⟩:=hasR_mem h;exact zeD.2 ⟨t,ht,r,hr,rfl,rfl⟩
theorem Right.opPath {l:List TypI} (h:Right l) {x:TypI × RelI} (hx:x ∈ zaA l) {o:OpI} (ho:o ∈ x.2.ops) (hk:o.1=2∨o.1=3):(x.1.name,o.2.1) ∈ zap l:=by
 obtain ⟨h1,h2⟩:=zjK hx;have k:=(h.all h1 h2).ops o ho;unfold zdr at k;rcases hk with e | e
 · rw [if_pos e] at k;exact zin h1 k
 · rw [if_neg (by omega),if_pos e] at k;refine zin h1 ?_;unfold zcf;cases e2:zcq x.1 o.2.1 with
   | none=>rw [e2] at k;cases k
   | some r=>rfl
theorem zka {l:List TypI} {n:ByteArray}:zio l n=true↔∃t ∈ l,t.name=n:=by
 unfold zio;constructor
 · intro h;cases e:zdA l n with
   | none=>rw [e] at h;cases h
   | some t =>
    obtain ⟨a,b⟩:=zgW e;exact ⟨t,a,of_decide_eq_true b⟩
 · rintro ⟨t,ht,e⟩;unfold zdA;rw [List.find?_isSome];exact ⟨t,ht,decide_eq_true e⟩
theorem znp {l:List TypI} (h:Right l) {i j:Nat} {x:TypI × RelI} (hx:(zaA l)[i]? = some x) {o:OpI} (ho:x.2.ops[j]? = some o) (hk:o.1=2) :
 ((i:Int),((ixP (zap l) (x.1.name,o.2.1):Nat):Int),zaT x.2.ops j) ∈ zaV l:=by
 have hm:=h.opPath (List.mem_of_getElem? hx) (List.mem_of_getElem? ho) (.inl hk);unfold zaV relE opsE;simp only [List.mem_flatMap,List.mem_map];refine ⟨(x,i),List.mk_mem_zipIdx_iff_getElem?.2 hx,(o,j),List.mk_mem_zipIdx_iff_getElem?.2 ho,ixP (zap l) (x.1.name,o.2.1),?_,rfl⟩;unfold zcE zbk;rw [if_neg (by simp only;omega),if_pos (by simp only;exact hk)];simp only [List.filterMap_cons,zhw hm,List.filterMap_nil,List.mem_singleton]
theorem zly {n:Nat} {l:List TypI} {v:Nat→Int} (h:Right l) (hL:Sol n (zaV l) v) {i j:Nat} {x:TypI × RelI} (hx:(zaA l)[i]? = some x) {o:OpI} (ho:x.2.ops[j]? = some o) (hk:o.1=2) :
 v (ixP (zap l) (x.1.name,o.2.1))≤v i∧(zaT x.2.ops j=true→v (ixP (zap l) (x.1.name,o.2.1))<v i):=by
 have:=hL.2 _ (znp h hx ho hk);simp only [fr,tt,zc4,Int.toNat_natCast] at this;refine ⟨by split at this <;> omega,fun hb=>?_⟩;rw [if_pos hb] at this;omega
theorem zli {t:Ex} (hg:t.good) (h3:t.len=3) (h6:t.kd 2=6):zaT (t.ops.map opZ) 1=true:=by
 rw [zfS hg (by omega)];cases t with
 | this=>simp [Ex.len,Ex.ops] at h3
 | same n=>simp [Ex.len,Ex.ops] at h3
 | via n m=>simp [Ex.len,Ex.ops] at h3
 | bin k a b =>
  have hl:=Ex.len_bin k a b;have pa:=a.len_pos;have pb:=b.len_pos;have ea:a.len=1:=by omega
  have eb:b.len=1:=by omega
  have hk:k=6:=by have:=Ex.kd_o (k:=k) (a:=a) (b:=b);rw [ea,eb] at this;exact this.symm.trans h6
  have:(Ex.bin k a b).cnt 1=b.cnt 0 + 1:=by
   show (if 1<a.len then a.cnt 1 else if 1<a.len + b.len then b.cnt (1-a.len) + (if k=6 then 1 else 0) else 0)=_;rw [if_neg (by omega),if_pos (by omega),if_pos hk,ea]
  rw [this];exact decide_eq_true (by omega)
theorem Least.below {n:Nat} {l:List Ed} {v:Nat→Int} (hi:InR n l) (h:Least n l v) {i:Nat} (hin:i<n):v i<n:=by
 have h0:=h.1.1 i hin;have key:∀c:Nat,(c:Int)≤v i→∃k,k<n∧v k=c:=by
  intro c hc;rcases Nat.eq_zero_or_pos c with rfl | hp
  · by_cases hz:v i=0
    · exact ⟨i,hin,hz⟩
    · obtain ⟨e,he,h1,h2⟩:=h.nots hin (c:=1) (by omega) (by omega);have h3:=h.1.2 e he;have h4:=h.1.1 (tt e) (hi.tt he);have h5:zc4 e=1:=by unfold zc4;rw [if_pos h1]
      exact ⟨tt e,hi.tt he,by simp only [Int.natCast_zero];omega⟩
  · obtain ⟨e,he,h1,h2⟩:=h.nots hin (c:=c) (by omega) hc;exact ⟨fr e,hi.fr he,h2⟩
 obtain ⟨m,hm⟩:∃m:Nat,v i=m:=⟨(v i).toNat,by omega⟩;rw [hm] at key ⊢;suffices H:∀c:Nat,c≤m→∃L:List Nat,L.Nodup∧(∀k ∈ L,k<n∧v k≤c)∧L.length=c + 1 by
  obtain ⟨L,h1,h2,h3⟩:=H m (Nat.le_refl _);have:=zkk h1 fun k hk=>(h2 k hk).1;omega
 intro c;induction c with
 | zero =>
  intro _;obtain ⟨k,hk,e⟩:=key 0 (by omega);exact ⟨[k],by simp,fun q hq=>by rw [List.mem_singleton.1 hq];exact ⟨hk,by omega⟩,rfl⟩
 | succ c ih =>
  intro hc;obtain ⟨L,h1,h2,h3⟩:=ih (by omega);obtain ⟨k,hk,e⟩:=key (c + 1) (by omega);refine ⟨k::L,List.nodup_cons.2 ⟨fun hm=>?_,h1⟩,fun q hq=>?_,by rw [List.length_cons,h3]⟩
  · have:=(h2 k hm).2;omega
  · rcases List.mem_cons.1 hq with rfl | hq
    · exact ⟨hk,by omega⟩
    · have:=h2 q hq;exact ⟨this.1,by omega⟩
structure TabOk (s:ByteArray) (tx:ByteArray) (ty:List ByteArray) (ps:List Path) (R:List RelT) (v:List Int):Prop where
 says:(zah s).2.1=0
 right:Right ((zah s).1.map zbf)
 len:v.length=(zaA ((zah s).1.map zbf)).length
 inr:InR v.length (zaV ((zah s).1.map zbf))
 least:Least v.length (zaV ((zah s).1.map zbf)) (zaK v)
 size:(zb8 (zah s).1).size≤2048
 text:tx=zb8 (zah s).1
 types:ty=(zah s).1.map (·.name)
 paths:ps=zap ((zah s).1.map zbf)
 rels:R=zft ((zah s).1.map zbf) v
theorem zle {n:Nat} {l:List Ed} {v u:List Int} (h1:v.length=n) (h2:u.length=n) (a:Least n l (zaK v)) (b:Least n l (zaK u)):v=u :=
 List.ext_getElem (by omega) fun i h3 h4=>by
  have:=a.same b (i:=i) (by omega);simpa [zaK,h3,h4] using this
theorem CompIs.one {s:ByteArray} {e f:Nat} {tx ux:ByteArray} {ty uy:List ByteArray} {ps qs:List Path} {R Q:List RelT} (h:CompIs s e tx ty ps R) (k:CompIs s f ux uy qs Q):e=f∧tx=ux∧ty=uy∧ps=qs∧R=Q:=by
 have hck:Right ((zah s).1.map zbf)→(zbh ((zah s).1.map zbf)).1=0:=fun h=>(zdy _).1.2 h;cases h with
 | parse e h h0 =>
  cases k with
  | parse f k k0=>exact ⟨h.symm.trans k,rfl,rfl,rfl,rfl⟩
  | check f a=>exact absurd (h.symm.trans a) h0
  | cyc a=>exact absurd (h.symm.trans a) h0
  | long a=>exact absurd (h.symm.trans a) h0
  | ok a=>exact absurd (h.symm.trans a) h0
 | check e a h h0 =>
  cases k with
  | parse f k k0=>exact absurd (k.symm.trans a) k0
  | check f b k k0=>exact ⟨h.symm.trans k,rfl,rfl,rfl,rfl⟩
  | cyc b hR=>exact absurd (h.symm.trans (hck hR)) h0
  | long b hR=>exact absurd (h.symm.trans (hck hR)) h0
  | ok b hR=>exact absurd (h.symm.trans (hck hR)) h0
 | cyc a hR hc =>
  cases k with
  | parse f k k0=>exact absurd (k.symm.trans a) k0
  | check f b k k0=>exact absurd (k.symm.trans (hck hR)) k0
  | cyc=>exact ⟨rfl,rfl,rfl,rfl,rfl⟩
  | long _ _ hn=>exact absurd hc hn
  | ok _ _ v _ _ hL=>exact (Cyc.none hc hL.1).elim
 | long a hR hn hz =>
  cases k with
  | parse f k k0=>exact absurd (k.symm.trans a) k0
  | check f b k k0=>exact absurd (k.symm.trans (hck hR)) k0
  | cyc _ _ hc=>exact absurd hc hn
  | long=>exact ⟨rfl,rfl,rfl,rfl,rfl⟩
  | ok _ _ v _ _ _ hz2=>omega
 | ok a hR v hv hi hL hz =>
  cases k with
  | parse f k k0=>exact absurd (k.symm.trans a) k0
  | check f b k k0=>exact absurd (k.symm.trans (hck hR)) k0
  | cyc _ _ hc=>exact (Cyc.none hc hL.1).elim
  | long _ _ _ hz2=>omega
  | ok _ _ u hu _ hM =>
   rw [hv] at hL;rw [hu] at hM;have:=zle hv hu hL hM;subst this;exact ⟨rfl,rfl,rfl,rfl,rfl⟩
end Go.Proofs.YtahegpfdbgbioaaGreat
namespace Go.Proofs.YtahegpfdbgbioaaGreat
open Go.RowKit
theorem TabOk.at_ {s tx:ByteArray} {ty:List ByteArray} {ps:List Path} {v:List Int} {K:List TabR} (h:TabOk s tx ty ps (K.map (·.r)) v) {i:Nat} (hi:i<K.length) :
 ∃x,(zaA ((zah s).1.map zbf))[i]? = some x∧(atK K i).r=zcY ps (zaK v i) x:=by
 obtain ⟨k,hk⟩:∃k,K[i]? = some k:=⟨_,List.getElem?_eq_getElem hi⟩;have h1:(K.map (·.r))[i]? = some k.r:=by rw [List.getElem?_map,hk];rfl
 rw [h.rels] at h1;unfold zft at h1;rw [List.getElem?_map,List.getElem?_zipIdx] at h1;cases e:(zaA ((zah s).1.map zbf))[i]? with
 | none=>rw [e] at h1;cases h1
 | some x =>
  rw [e] at h1;refine ⟨x,rfl,?_⟩;rw [zlU hk,h.paths];have:=Option.some.inj h1;rw [←this];simp
theorem TabOk.lenK {s tx:ByteArray} {ty:List ByteArray} {ps:List Path} {v:List Int} {K:List TabR} (h:TabOk s tx ty ps (K.map (·.r)) v):K.length=(zaA ((zah s).1.map zbf)).length:=by
 have:=congrArg List.length h.rels;rw [List.length_map] at this;unfold zft at this;rw [List.length_map,List.length_zipIdx] at this;exact this
theorem TabOk.few {s tx:ByteArray} {ty:List ByteArray} {ps:List Path} {v:List Int} {K:List TabR} (h:TabOk s tx ty ps (K.map (·.r)) v):K.length≤96:=by
 rw [h.lenK];exact h.right.rels_le
theorem TabOk.path {s tx:ByteArray} {ty:List ByteArray} {ps:List Path} {v:List Int} {K:List TabR} (h:TabOk s tx ty ps (K.map (·.r)) v) {q:Path} (hq:q ∈ ps):ixP ps q<K.length∧(atK K (ixP ps q:Nat)).r.tn=q.1∧(atK K (ixP ps q:Nat)).r.rn=q.2:=by
 have hl:=ix_lt hq;have hg:=ix_get hq;have hK:ixP ps q<K.length:=by rw [h.lenK,←zfc,←h.paths];exact hl
 obtain ⟨x,hx,e⟩:=h.at_ hK;have:=path_at hx;rw [←h.paths,hg] at this;have:=Option.some.inj this;rw [e];exact ⟨hK,by rw [this];rfl,by rw [this];rfl⟩
theorem wf11 {n:Nat} (h:n≤96):(Lit.int .i64 (n:Int)).wf=true:=WalkArith.wf_i64 (by omega)
theorem TabOk.lev {s tx:ByteArray} {ty:List ByteArray} {ps:List Path} {v:List Int} {K:List TabR} (h:TabOk s tx ty ps (K.map (·.r)) v) {i:Nat} (hi:i<K.length) :
 (atK K i).r.level=zaK v i∧0≤zaK v i∧zaK v i<K.length:=by
 obtain ⟨x,hx,e⟩:=h.at_ hi;have hlen:K.length=v.length:=by rw [h.lenK,h.len]
 have h1:=h.least.1.1 i (by omega);have h2:=h.least.below h.inr (i:=i) (by omega);exact ⟨by rw [e];rfl,h1,by rw [hlen];exact h2⟩
theorem TabOk.same {s tx:ByteArray} {ty:List ByteArray} {ps:List Path} {v:List Int} {K:List TabR} (h:TabOk s tx ty ps (K.map (·.r)) v) {i j:Nat} (hi:i<K.length) {k r:Int} {nx:ByteArray} (ho:(atK K i).r.ops[j]? = some (k,r,nx)) (hk:k=2) :
 ∃a:Nat,r=a∧a<K.length∧zaK v a≤zaK v i∧(j=1→(atK K i).r.ops.length=3→(∃q,(atK K i).r.ops[2]? = some (6,q))→zaK v a<zaK v i):=by
 obtain ⟨x,hx,e⟩:=h.at_ hi;rw [e] at ho ⊢;have ho2:(x.2.ops.map (zbK ps x.1.name))[j]? = some (k,r,nx):=ho;rw [List.getElem?_map] at ho2;cases e1:x.2.ops[j]? with
 | none=>rw [e1] at ho2;cases ho2
 | some o =>
  rw [e1] at ho2;have e2:zbK ps x.1.name o=(k,r,nx):=Option.some.inj ho2;have k1:o.1=2:=(congrArg (·.1) e2).trans hk;have k2:(ixP ps (x.1.name,o.2.1):Int)=r:=by
   have:=congrArg (·.2.1) e2;unfold zbK at this;simp only [k1,true_or,if_true] at this;exact this
  have hm:=h.right.opPath (List.mem_of_getElem? hx) (List.mem_of_getElem? e1) (.inl k1);rw [←h.paths] at hm;have hs:=zly h.right h.least.1 hx e1 k1;rw [←h.paths] at hs;refine ⟨ixP ps (x.1.name,o.2.1),k2.symm,(h.path hm).1,hs.1,fun hj hl ⟨q,hq⟩=>hs.2 ?_⟩;subst hj;obtain ⟨q1,q2⟩:=zjK (List.mem_of_getElem? hx);obtain ⟨t,ht,hg,_,_⟩:=zgx q1 q2;have hl3:t.len=3:=by
   have h1:(x.2.ops.map (zbK ps x.1.name)).length=3:=hl;rw [List.length_map,ht,List.length_map] at h1;exact h1
  have h6:t.kd 2=6:=by
   have h1:(x.2.ops.map (zbK ps x.1.name))[2]? = some (6,q):=hq;rw [ht,List.getElem?_map,List.getElem?_map] at h1;have hlt:2<t.ops.length:=by unfold Ex.len at hl3;omega
   rw [List.getElem?_eq_getElem hlt] at h1;have h2:=congrArg (·.1) (Option.some.inj h1);unfold Ex.kd;rw [List.getD_eq_getElem?_getD,List.getElem?_eq_getElem hlt];have h3:((t.ops[2].1:Nat):Int)=6:=h2;show t.ops[2].1=6;omega
  rw [ht];exact zli hg hl3 h6
end Go.Proofs.YtahegpfdbgbioaaGreat
namespace Go.Proofs.YtahegpfdbgbioaaGreat
open Go.RowKit
def ziw (ty:List ByteArray) (ps:List Path) (a c:ByteArray):Bool:=if c=⟨#[]⟩ then ty.any fun y=>decide (y=a) else (zao ps (a,c)).isSome
def mayT (K:List TabR) (ps:List Path) (t:TuP):Bool:=(atK K (ixP ps (t.1.1,t.1.2.2):Nat)).r.subs.any fun y=>decide (y=(t.2.1,t.2.2.2))
def rightT (ty:List ByteArray) (ps:List Path) (K:List TabR) (t:TuP):Int :=
 if zj8 t=true∧(zao ps (t.1.1,t.1.2.2)).isSome=true∧ziw ty ps t.2.1 t.2.2.2=true then if mayT K ps t=true then 0 else 40 else 31
theorem ix_small {ps:List Path} (h:ps.length≤96) (q:Path):ixP ps q≤96:=by
 unfold ixP;cases e:zao ps q with
 | none=>exact Nat.zero_le _
 | some i =>
  have:=(List.getElem?_eq_some_iff.1 (zaX e)).1;show i≤96;omega
section
variable {w:World} {tx:ByteArray} {Ay:Option Addr} {cy:Nat} {ty:List ByteArray} {mb:Option Nat} {ps:List Path} {Ar:Option Addr} {cr:Nat} {K:List TabR}
theorem knows_any (h:TabA w Ay cy ty mb ps Ar cr K) (a b c:ByteArray) (ha:a.size≤100000) (hc:c.size≤100000) :
 Calls Tryz.prog 76 #[.agg #[.string tx,.slice Ay ty.length cy,.map mb,.slice Ar K.length cr],.agg #[.string a,.string b,.string c]] w fun e w'=>e = .returned (.bool (ziw ty ps a c))∧Below w.heap.size w w':=by
 have hk:=(Bk.new w #[.string tx,.slice Ay ty.length cy,.map mb,.slice Ar K.length cr] 27).alloc (.cells #[.string a,.string b,.string c] 69);have hl:=Bk.new2 w (.cells #[.string tx,.slice Ay ty.length cy,.map mb,.slice Ar K.length cr] 27) #[.string a,.string b,.string c] 69;have hB:Below w.heap.size w ((w.alloc (.cells #[.string tx,.slice Ay ty.length cy,.map mb,.slice Ar K.length cr] 27)).alloc (.cells #[.string a,.string b,.string c] 69)):=((Below.refl _ w).alloc (Nat.le_refl _) _).alloc (size_alloc (Nat.le_refl _)) _;have hT:=h.up hB;have ki:=tid_any (tx:=tx) (Ay:=Ay) (ny:=ty.length) (cy:=cy) (Ar:=Ar) (cr:=cr) (nr:=K.length) hT.ids a c (by simp only [maxLen];omega) (by simp only [maxLen];omega);have kh:=thas_any (tx:=tx) (mb:=mb) (Ar:=Ar) (cr:=cr) (nr:=K.length) hT.types a;unfold ziw;by_cases he:c=⟨#[]⟩
 · rw [if_pos he];have d:=ze2 he;clear he ki;generalize (ty.any fun y=>decide (y=a))=q at *
   go_enter Tryz.func76,Tryz.ntmps76
   go_upto_region 1 with (fail)
   generalize (w.alloc (.cells #[.string tx,.slice Ay ty.length cy,.map mb,.slice Ar K.length cr] 27)).alloc (.cells #[.string a,.string b,.string c] 69)=w1 at *
   obtain ⟨k0,k1,k2,k3⟩:=hk.c4;have kl:=hk.lt;obtain ⟨l0,l1,l2⟩:=hl.c3;have ll:=hl.lt;go_wp2_with (go_at_call 17;refine kh.mono ?_;rintro e w2 ⟨rfl,hb⟩)
   go_ret
   exact ⟨rfl,zad hB hB.size hb⟩
 · rw [if_neg he];have d:=zgU he;clear he kh;generalize (zao ps (a,c)).isSome=q at *
   generalize ixP ps (a,c)=i at *
   go_enter Tryz.func76,Tryz.ntmps76
   go_upto_region 1 with (fail)
   generalize (w.alloc (.cells #[.string tx,.slice Ay ty.length cy,.map mb,.slice Ar K.length cr] 27)).alloc (.cells #[.string a,.string b,.string c] 69)=w1 at *
   obtain ⟨k0,k1,k2,k3⟩:=hk.c4;have kl:=hk.lt;obtain ⟨l0,l1,l2⟩:=hl.c3;have ll:=hl.lt;go_wp2_with (go_at_call 27;refine ki.mono ?_;rintro e w2 ⟨rfl,hb⟩)
   go_ret
   exact ⟨rfl,zad hB hB.size hb⟩
theorem right_any12 (h:TabA w Ay cy ty mb ps Ar cr K) (hps:ps.length≤96) (a b c x y z:ByteArray) (ha:a.size≤100000) (hb:b.size≤100000) (hc:c.size≤100000) (hx:x.size≤100000) (hy:y.size≤100000) (hz:z.size≤100000) :
 Calls Tryz.prog 45 #[.agg #[.string tx,.slice Ay ty.length cy,.map mb,.slice Ar K.length cr],.agg #[.string a,.string b,.string c,.string x,.string y,.string z]] w fun e w'=>e = .returned (.int .i64 (rightT ty ps K ((a,b,c),(x,y,z))))∧Below w.heap.size w w':=by
 obtain ⟨R,hRd⟩:∃R,Hid (rightT ty ps K ((a,b,c),(x,y,z))=R):=⟨_,Lib.hid rfl⟩;rw [hRd.out];unfold rightT mayT at hRd;dsimp only at hRd;have hk:=(Bk.new w #[.string tx,.slice Ay ty.length cy,.map mb,.slice Ar K.length cr] 27).alloc (.cells #[.string a,.string b,.string c,.string x,.string y,.string z] 71);have hl:=Bk.new2 w (.cells #[.string tx,.slice Ay ty.length cy,.map mb,.slice Ar K.length cr] 27) #[.string a,.string b,.string c,.string x,.string y,.string z] 71;have hB:Below w.heap.size w ((w.alloc (.cells #[.string tx,.slice Ay ty.length cy,.map mb,.slice Ar K.length cr] 27)).alloc (.cells #[.string a,.string b,.string c,.string x,.string y,.string z] 71)):=((Below.refl _ w).alloc (Nat.le_refl _) _).alloc (size_alloc (Nat.le_refl _)) _;replace h:=h.up hB;go_enter Tryz.func45,Tryz.ntmps45
 go_upto_region 1 with (fail)
 generalize (w.alloc (.cells #[.string tx,.slice Ay ty.length cy,.map mb,.slice Ar K.length cr] 27)).alloc (.cells #[.string a,.string b,.string c,.string x,.string y,.string z] 71)=w1 at *
 have ki:=tid_any (tx:=tx) (Ay:=Ay) (ny:=ty.length) (cy:=cy) (Ar:=Ar) (cr:=cr) (nr:=K.length) h.ids a c (by simp only [maxLen];omega) (by simp only [maxLen];omega);obtain ⟨k0,k1,k2,k3⟩:=hk.c4;have kl:=hk.lt;obtain ⟨l0,l1,l2,l3,l4,l5⟩:=hl.c6;have ll:=hl.lt;go_upto_region 2 with (go_at_call 27;refine ki.mono ?_;rintro e w2 ⟨rfl,hb2⟩)
 replace h:=h.up hb2;replace hk:=hk.below hb2;replace hl:=hl.below hb2;replace hB:=zad hB hB.size hb2;clear hb2 ki k0 k1 k2 k3 kl l0 l1 l2 l3 l4 l5 ll;obtain ⟨k0,k1,k2,k3⟩:=hk.c4;have kl:=hk.lt;obtain ⟨l0,l1,l2,l3,l4,l5⟩:=hl.c6;have ll:=hl.lt;have hix:=ix_small hps (a,c);generalize ixP ps (a,c)=i at *
 obtain ⟨p,hp⟩:∃p,Hid (zj8 ((a,b,c),(x,y,z))=p):=⟨_,Lib.hid rfl⟩;have kf:=fun W=>fmd_is hp.out ha hb hc hx hy hz W;cases p with
 | false =>
  obtain rfl:R=31:=by rw [←hRd.out,if_neg fun q=>by rw [hp.out] at q;cases q.1]
  clear hRd;go_wp2_with (go_at_call 70;refine (kf _).mono ?_;rintro e w3 ⟨rfl,hb3⟩)
  go_ret
  exact ⟨rfl,zad hB hB.size hb3⟩
 | true =>
  obtain ⟨q,hq⟩:∃q,Hid ((zao ps (a,c)).isSome=q):=⟨_,Lib.hid rfl⟩;rw [hq.out];cases q with
  | false =>
   obtain rfl:R=31:=by rw [←hRd.out,if_neg fun r=>by rw [hq.out] at r;cases r.2.1]
   clear hRd;go_wp2_with (go_at_call 70;refine (kf _).mono ?_;rintro e w3 ⟨rfl,hb3⟩)
   go_ret
   exact ⟨rfl,zad hB hB.size hb3⟩
  | true =>
   obtain ⟨r,hr⟩:∃r,Hid (ziw ty ps x z=r):=⟨_,Lib.hid rfl⟩;cases r with
   | false =>
    obtain rfl:R=31:=by rw [←hRd.out,if_neg fun s=>by rw [hr.out] at s;cases s.2.2]
    clear hRd;go_wp2_with (first
     | (go_at_call 70;refine (kf _).mono ?_;rintro e w3 ⟨rfl,hb3⟩;have h3:=h.up hb3;have hk3:=hk.below hb3;have hl3:=hl.below hb3;have hB3:=zad hB hB.size hb3;obtain ⟨m0,m1,m2,m3⟩:=hk3.c4;have ml:=hk3.lt;obtain ⟨n0,n1,n2,n3,n4,n5⟩:=hl3.c6;have nl:=hl3.lt;have kk:=knows_any (tx:=tx) h3 x y z hx hz;rw [hr.out] at kk)
     | (go_at_call 76;refine kk.mono ?_;rintro e w4 ⟨rfl,hb4⟩))
    go_ret
    exact ⟨rfl,zad hB3 hB3.size hb4⟩
   | true =>
    obtain ⟨m,hm⟩:∃m,Hid (((atK K (i:Nat)).r.subs.any fun u=>decide (u=(x,z)))=m):=⟨_,Lib.hid rfl⟩;obtain rfl:R=if m=true then 0 else 40:=by rw [←hRd.out,if_pos ⟨hp.out,hq.out,hr.out⟩,hm.out]
    clear hRd;go_wp2_with (first
     | (go_at_call 70;refine (kf _).mono ?_;rintro e w3 ⟨rfl,hb3⟩;have h3:=h.up hb3;have hk3:=hk.below hb3;have hl3:=hl.below hb3;have hB3:=zad hB hB.size hb3;obtain ⟨m0,m1,m2,m3⟩:=hk3.c4;have ml:=hk3.lt;obtain ⟨n0,n1,n2,n3,n4,n5⟩:=hl3.c6;have nl:=hl3.lt;have kk:=knows_any (tx:=tx) h3 x y z hx hz;rw [hr.out] at kk)
     | (go_at_call 76;refine kk.mono ?_;rintro e w4 ⟨rfl,hb4⟩;have h4:=h3.up hb4;have hk4:=hk3.below hb4;have hl4:=hl3.below hb4;have hB4:=zad hB3 hB3.size hb4;obtain ⟨o0,o1,o2,o3⟩:=hk4.c4;have ol:=hk4.lt;obtain ⟨q0,q1,q2,q3,q4,q5⟩:=hl4.c6;have ql:=hl4.lt;have km:=tmay_any (tx:=tx) (Ay:=Ay) (ny:=ty.length) (cy:=cy) (mb:=mb) h4.rels (i:Nat) (wf11 hix) x z;rw [hm.out] at km)
     | (go_at_call 23;refine km.mono ?_;rintro e w5 ⟨rfl,hb5⟩))
    all_goals (cases m <;> first | contradiction | skip)
    all_goals go_ret
    all_goals exact ⟨rfl,zad hB4 hB4.size hb5⟩
end
end Go.Proofs.YtahegpfdbgbioaaGreat
namespace Go.Proofs.YtahegpfdbgbioaaGreat
open Go.RowKit
def AtZ {α:Type} (p:α→Bool) (l:List α) (z:Int):Prop:=(z = -1∧l.find? p=none)∨∃(i:Nat) (t:α),z=i∧l[i]? = some t∧l.find? p=some t∧∀x ∈ l.take i,p x=false
theorem AtZ.neg {α:Type} {p:α→Bool} {l:List α} {z:Int} (h:AtZ p l z):decide (z<0) = !(l.find? p).isSome:=by
 rcases h with ⟨rfl,h⟩ | ⟨i,t,rfl,_,h,_⟩
 · rw [h];rfl
 · rw [h];exact decide_eq_false (by omega)
theorem AtZ.pos {α:Type} {p:α→Bool} {l:List α} {z:Int} (h:AtZ p l z):decide (0≤z)=(l.find? p).isSome:=by
 rcases h with ⟨rfl,h⟩ | ⟨i,t,rfl,_,h,_⟩
 · rw [h];rfl
 · rw [h];exact decide_eq_true (by omega)
theorem AtZ.ahead {α:Type} {p:α→Bool} {l:List α} {z:Int} (h:AtZ p l z) {k:Nat} {a:α} (hk:l[k]? = some a) (ha:p a=true):decide (z<(k:Int))=(l.take k).any p:=by
 rcases h with ⟨rfl,h⟩ | ⟨i,t,rfl,hi,hf,hn⟩
 · have:=List.find?_eq_none.1 h a (List.mem_of_getElem? hk);exact absurd ha this
 · have hp:p t=true:=List.find?_some hf;by_cases hik:i<k
   · rw [decide_eq_true (by omega)];refine (List.any_eq_true.2 ⟨t,?_,hp⟩).symm;refine List.mem_of_getElem? (i:=i) ?_;rw [List.getElem?_take_of_lt hik];exact hi
   · rw [decide_eq_false (by omega)];refine (zeV fun x hx=>hn x ?_).symm;obtain ⟨j,hj⟩:=List.getElem?_of_mem hx;have hjk:j<k:=by
      have:=(List.getElem?_eq_some_iff.1 hj).1;rw [List.length_take] at this;omega
     rw [List.getElem?_take_of_lt hjk] at hj;refine List.mem_of_getElem? (i:=j) ?_;rw [List.getElem?_take_of_lt (by omega)];exact hj
theorem rel9_any {w:World} {R:Nat} {q:TypA} (h:q.ok w R) (n:ByteArray) :
 Calls Tryz.prog 104 #[.agg #[.string q.name,.slice q.A q.rels.length q.c],.string n] w fun e w'=>(∃z:Int,e = .returned (.int .i64 z)∧AtZ (fun t:RelA=>decide (t.name=n)) q.rels z)∧Below w.heap.size w w':=by
 have hl:(q.rels.length:Int)≤9223372036854775807:=by have:=h.rels.cap;have:=h.rels.capm;simp only [maxLen] at this;omega
 have hb0:=zb0 w (.cells #[.string q.name,.slice q.A q.rels.length q.c] 115);have d0:=Bk.new w #[.string q.name,.slice q.A q.rels.length q.c] 115;have h0:=h.up hb0;obtain ⟨qA,hqA⟩:∃qA,q.A=qA:=⟨_,rfl⟩;rw [hqA] at d0 hb0 ⊢;rw [hqA] at h0;go_enter Tryz.func104,Tryz.ntmps104
 go_wp2_with fail
 generalize w.alloc (.cells #[.string q.name,.slice qA q.rels.length q.c] 115)=w0 at *
 go_loopw [5] (fun vi wx=>∃i:Nat,vi = .int .i64 i∧i≤q.rels.length∧(∀t ∈ q.rels.take i,decide (t.name=n)=false)∧Below w0.heap.size w0 wx) (fun vi _=>q.rels.length-(intOf vi).toNat)
 case atStart=>exact ⟨0,rfl,Nat.zero_le _,fun t ht=>(by simp at ht),Below.refl _ _⟩
 case round =>
  obtain ⟨i,rfl,hi,hn,hbx⟩:=hrel;have dx:=d0.below hbx;obtain ⟨x0,x1⟩:=dx.c2;have xl:=dx.lt;by_cases hil:i<q.rels.length
  · have hdi:(i:Int)<(q.rels.length:Nat):=by omega
    obtain ⟨t,ht⟩:∃t,q.rels[i]? = some t:=⟨q.rels[i],List.getElem?_eq_getElem hil⟩;obtain ⟨g,o,eA,g0,g1,g2,g3,g4,g5,hk⟩:=(h0.up hbx).get ht;rw [hqA] at eA;subst eA;have lg:=World.block_lt_of_cell? _ _ g0;dsimp only at lg;have hq:=zaE t.name n;cases hd:decide (t.name=n) with
    | false =>
     rw [hd] at hq;go_wp2
     refine ⟨⟨i + 1,by go_num,by omega,zb1 ht hn hd,hbx⟩,?_⟩;simp [intOf];omega
    | true =>
     rw [hd] at hq;go_wp2
     go_ret
     exact ⟨⟨_,rfl,Or.inr ⟨i,t,rfl,ht,zfZ ht hn hd,hn⟩⟩,zad hb0 hb0.size hbx⟩
  · have hdi:¬((i:Int)<(q.rels.length:Nat)):=by omega
    obtain rfl:i=q.rels.length:=by omega
    rw [List.take_length] at hn;go_wp2
    go_ret
    exact ⟨⟨_,rfl,Or.inl ⟨rfl,zex hn⟩⟩,zad hb0 hb0.size hbx⟩
theorem info_E:(Tryz.prog.info? 200).map (fun i=>(i.zero,i.size,i.bytes))=some (some (.agg #[.int .i64 0,.int .i64 0,.bool false]),3,24):=by kernel_rfl
theorem from_any:∀(t:Ex),t.good→∀(pre post:List OpP) (w:World) (A:Option Addr) (c:Nat) (L:List OpI),L=(pre ++ t.ops ++ post).map opZ→L.length≤100000→Rd w w.heap.size 3 A L.length c (L.flatMap aOp) →
 Calls Tryz.prog 152 #[.slice A L.length c,.int .i64 ((pre.length + t.len-1:Nat):Int)] w fun e w'=>e = .returned (.int .i64 (pre.length:Nat))∧Below w.heap.size w w':=by
 have leaf:∀(q:OpP),q.1<4→∀(pre post:List OpP) (w:World) (A:Option Addr) (c:Nat) (L:List OpI),L=(pre ++ [q] ++ post).map opZ→Rd w w.heap.size 3 A L.length c (L.flatMap aOp) →
  Calls Tryz.prog 152 #[.slice A L.length c,.int .i64 ((pre.length:Nat):Int)] w fun e w'=>e = .returned (.int .i64 (pre.length:Nat))∧Below w.heap.size w w':=by
  intro q hq pre post w A c L hL h;have hi:L[pre.length]? = some (opZ q):=by
   rw [hL,List.getElem?_map,List.append_assoc,List.getElem?_append_right (Nat.le_refl _),Nat.sub_self];rfl
  have hll:L.length=pre.length + 1 + post.length:=by rw [hL];simp;omega
  obtain ⟨b,o,rfl,_,g0,_,_⟩:=zkn h hi rfl;obtain ⟨p,hp⟩:∃p,pre.length=p:=⟨_,rfl⟩;rw [hp] at g0 hll ⊢;have hdi:(p:Int)<(L.length:Int):=by omega
  have hk:((opZ q).1)<4:=by show ((q.1:Nat):Int)<4;omega
  obtain ⟨z,hz⟩:∃z,(opZ q).1=z:=⟨_,rfl⟩;rw [hz] at g0 hk;clear hi hL hp hz hll;go_enter Tryz.func152,Tryz.ntmps152
  go_wp2_with fail
  go_ret
  exact ⟨rfl,Below.refl _ _⟩
 intro t;induction t with
 | this=>intro _ pre post w A c L hL _ h;exact leaf (1,⟨#[]⟩,⟨#[]⟩) (by decide) pre post w A c L hL h
 | same n=>intro _ pre post w A c L hL _ h;exact leaf (2,n,⟨#[]⟩) (by show 2<4;decide) pre post w A c L hL h
 | via n m=>intro _ pre post w A c L hL _ h;exact leaf (3,n,m) (by show 3<4;decide) pre post w A c L hL h
 | bin k a b iha ihb =>
  intro hg pre post w A c L hL hll h;obtain ⟨hk,ga,gb⟩:=hg;have hla:=a.len_pos;have hlb:=b.len_pos;have hi:L[pre.length + a.len + b.len]? = some (opZ (opK k)):=by
   have e:pre ++ (Ex.bin k a b).ops ++ post=(pre ++ a.ops ++ b.ops) ++ opK k::post:=by rw [Ex.ops];simp
   rw [hL,List.getElem?_map,e,List.getElem?_append_right (by simp [Ex.len];omega)];simp [Ex.len,Nat.add_assoc]
  have k1:Calls Tryz.prog 152 #[.slice A L.length c,.int .i64 (((pre.length + a.len + b.len:Nat):Int)-1)] w fun e w'=>e = .returned (.int .i64 ((pre.length + a.len:Nat):Int))∧Below w.heap.size w w':=by
   have:=ihb gb (pre ++ a.ops) (opK k::post) w A c L (by rw [hL,Ex.ops];simp) hll h;rw [List.length_append,show a.ops.length=a.len from rfl,show ((pre.length + a.len + b.len-1:Nat):Int)=((pre.length + a.len + b.len:Nat):Int)-1 by omega] at this;exact this
  have k2:∀W,Below w.heap.size w W→Calls Tryz.prog 152 #[.slice A L.length c,.int .i64 (((pre.length + a.len:Nat):Int)-1)] W fun e w'=>e = .returned (.int .i64 (pre.length:Nat))∧Below W.heap.size W w':=fun W hW=>by
   have:=iha ga pre (b.ops ++ opK k::post) W A c L (by rw [hL,Ex.ops];simp) hll (h.up hW);rw [show ((pre.length + a.len-1:Nat):Int)=((pre.length + a.len:Nat):Int)-1 by omega] at this;exact this
  have hL2:L.length=pre.length + (a.len + b.len + 1) + post.length:=by
   rw [hL,List.length_map,List.length_append,List.length_append,show (Ex.bin k a b).ops.length=(Ex.bin k a b).len from rfl,Ex.len_bin]
  obtain ⟨b0,o,rfl,_,g0,_,_⟩:=zkn h hi rfl;rw [Ex.len_bin,show pre.length + (a.len + b.len + 1)-1=pre.length + a.len + b.len by omega];have hz:¬((opZ (opK k)).1)<4:=by show ¬((k:Nat):Int)<4;omega
  obtain ⟨z,hz2⟩:∃z,(opZ (opK k)).1=z:=⟨_,rfl⟩;rw [hz2] at g0 hz;obtain ⟨q,hq⟩:∃q,pre.length + a.len=q:=⟨_,rfl⟩;rw [hq] at k1 k2 g0 ⊢;obtain ⟨p,hp⟩:∃p,q + b.len=p:=⟨_,rfl⟩;rw [hp] at k1 g0 ⊢;have hdi:(p:Int)<(L.length:Int):=by omega
  have hp0:0<p:=by omega
  have hq0:0<q:=by omega
  clear iha ihb hi hL hz2 leaf hL2;go_enter Tryz.func152,Tryz.ntmps152
  go_upto_region 4 with (go_at_call 152;refine k1.mono ?_;rintro e w1 ⟨rfl,hb1⟩)
  replace k2:=k2 _ hb1;go_wp2_with (go_at_call 152;refine k2.mono ?_;rintro e w2 ⟨rfl,hb2⟩)
  go_ret
  exact ⟨rfl,zaz hb1 hb1.size hb2⟩
theorem not_any {w:World} {A:Option Addr} {c p:Nat} {L:List OpI} {t:Ex} (ht:L=t.ops.map opZ) (hg:t.good) (hl:L.length≤100000) (hp:p<L.length) (h:Rd w w.heap.size 3 A L.length c (L.flatMap aOp)) :
 Calls Tryz.prog 106 #[.slice A L.length c,.int .i64 (p:Int)] w fun e w'=>e = .returned (.bool (zaT L p))∧Below w.heap.size w w':=by
 have hlen:L.length=t.len:=by rw [ht];exact zfK t
 have hlen2:=Lib.hid hlen;have hr:Hid (zaT L p=decide (0<t.cnt p)):=Lib.hid (by rw [ht];exact zfS hg (by omega));generalize zaT L p=r at *
 clear hlen;have ht2:=Lib.hid ht;clear ht;go_enter Tryz.func106,Tryz.ntmps106
 go_wp2_with fail
 go_loopw [5] (fun vi wx=>∃i:Nat,vi = .int .i64 i∧p<i∧i≤L.length∧(∀j,p<j→j<i→¬(t.kd j=6∧t.bgn j≤p))∧Below w.heap.size w wx) (fun vi _=>L.length-(intOf vi).toNat)
 case atStart=>exact ⟨p + 1,by go_num,by omega,by omega,fun j h1 h2=>by omega,Below.refl _ _⟩
 case round =>
  obtain ⟨i,rfl,hpi,hi,hno,hbx⟩:=hrel;by_cases hil:i<L.length
  · have hdi:(i:Int)<(L.length:Int):=by omega
    have hx:L[i]? = some (opZ (t.ops.getD i (0,⟨#[]⟩,⟨#[]⟩))):=by
     rw [ht2.out,List.getElem?_map,List.getD_eq_getElem?_getD,List.getElem?_eq_getElem (by have hlen:=hlen2.out;unfold Ex.len at hlen;omega)];rfl
    have hxb:=h.up hbx;obtain ⟨b,o,rfl,_,g0,_,_⟩:=zkn hxb hx rfl;have hkd:(opZ (t.ops.getD i (0,⟨#[]⟩,⟨#[]⟩))).1=((t.kd i:Nat):Int):=rfl;rw [hkd] at g0;by_cases h6:t.kd i=6
    · obtain ⟨pre,bt,post,e1,e2,e3,e4⟩:=t.sub_at hg i (by have:=hlen2.out;omega) (by omega);have kf:=from_any bt e2 pre post wr _ c L (by rw [ht2.out,e1]) hl hxb;rw [e4,show ((i-1:Nat):Int)=(i:Int)-1 by omega,e3] at kf;have hnext:Hid (¬t.bgn i≤p→∀j,p<j→j<i + 1→¬(t.kd j=6∧t.bgn j≤p)):=Lib.hid fun q j h1 h2=>by
       by_cases e:j=i
       · subst e;exact fun x=>q x.2
       · exact hno j h1 (by omega)
      have hyes:Hid (t.bgn i≤p→r=true):=Lib.hid fun q=>by
       rw [hr.out];exact decide_eq_true ((t.cnt_has p).2 ⟨i,hpi,by have:=hlen2.out;omega,h6,q⟩)
      rw [h6] at g0;generalize t.bgn i=bg at *
      clear hno hx hkd e1 e2 e3 e4 hxb h6;by_cases hbp:bg≤p
      · have hbp2:(bg:Int)≤(p:Int):=by omega
        obtain rfl:=hyes.out hbp;clear hyes hnext;go_wp2_with (go_at_call 152;refine kf.mono ?_;rintro e w1 ⟨rfl,hb1⟩)
        go_ret
        exact ⟨rfl,zaz hbx hbx.size hb1⟩
      · have hbp2:¬(bg:Int)≤(p:Int):=by omega
        replace hnext:=Lib.hid (hnext.out hbp);clear hyes;go_wp2_with (go_at_call 152;refine kf.mono ?_;rintro e w1 ⟨rfl,hb1⟩)
        exact ⟨⟨i + 1,by go_num,by omega,by omega,hnext.out,zaz hbx hbx.size hb1⟩,by simp [intOf];omega⟩
    · have h62:¬((t.kd i:Nat):Int)=6:=by omega
      have hnext:Hid (∀j,p<j→j<i + 1→¬(t.kd j=6∧t.bgn j≤p)):=Lib.hid fun j h1 h2=>by
       by_cases e:j=i
       · subst e;exact fun x=>h6 x.1
       · exact hno j h1 (by omega)
      have h63:(((t.kd i:Nat):Int) == 6)=false:=by simpa using h62
      clear hno hx hkd hxb h6;generalize ((t.kd i:Nat):Int)=z at *
      go_wp2_with fail
      exact ⟨⟨i + 1,by go_num,by omega,by omega,hnext.out,hbx⟩,by simp [intOf];omega⟩
  · obtain rfl:i=L.length:=by omega
    have hdi:¬(((L.length:Nat):Int)<(L.length:Int)):=by omega
    obtain rfl:r=false:=by
     rw [hr.out];refine decide_eq_false fun q=>?_;obtain ⟨i,h1,h2,h3,h4⟩:=(t.cnt_has p).1 q;exact hno i h1 (by have:=hlen2.out;omega) ⟨h3,h4⟩
    go_wp2_with fail
    go_ret
    exact ⟨rfl,hbx⟩
theorem below_any (a b:Ed) (w:World):Calls Tryz.prog 153 #[.agg (zaU a).toArray,.agg (zaU b).toArray] w fun e w'=>e = .returned (.bool (decide (cfE a b<0)))∧Below w.heap.size w w':=by
 obtain ⟨r,hr⟩:∃r,decide (cfE a b<0)=r:=⟨_,rfl⟩;rw [hr];have hc:=zdx a b;obtain ⟨a1,a2,a3⟩:=a;obtain ⟨b1,b2,b3⟩:=b;simp only [zaU] at *
 have hr2:r=decide (a1<b1∨(a1=b1∧(a2<b2∨(a2=b2∧riI (a1,a2,a3)<riI (b1,b2,b3))))):=by
  rw [←hr];exact decide_eq_decide.2 hc
 clear hr hc;have x1:=Bk.new w #[.int .i64 a1,.int .i64 a2,.bool a3] 200;replace x1:=x1.alloc (.cells #[.int .i64 b1,.int .i64 b2,.bool b3] 200);have x2:=Bk.new (w.alloc (.cells #[.int .i64 a1,.int .i64 a2,.bool a3] 200)) #[.int .i64 b1,.int .i64 b2,.bool b3] 200;have hF:Below w.heap.size w ((w.alloc (.cells #[.int .i64 a1,.int .i64 a2,.bool a3] 200)).alloc (.cells #[.int .i64 b1,.int .i64 b2,.bool b3] 200)):=((Below.refl _ w).alloc (Nat.le_refl _) _).alloc (by simp) _;simp only [World.size_alloc] at x2;go_enter Tryz.func153,Tryz.ntmps153
 go_upto_region 1 with (fail)
 obtain ⟨w1,hw1⟩:∃w1,(w.alloc (.cells #[.int .i64 a1,.int .i64 a2,.bool a3] 200)).alloc (.cells #[.int .i64 b1,.int .i64 b2,.bool b3] 200)=w1:=⟨_,rfl⟩;rw [hw1] at x1 x2 hF ⊢;clear hw1;have p0:=x1.cell 0;have p1:=x1.cell 1;have p2:=x1.cell 2;have q0:=x2.cell 0;have q1:=x2.cell 1;have q2:=x2.cell 2;have pl:=x1.lt;have ql:=x2.lt;simp only [List.getElem?_toArray,List.getElem?_cons_zero,List.getElem?_cons_succ] at p0 p1 p2 q0 q1 q2;clear x1 x2;replace hr2:=Lib.hid hr2;by_cases h1:a1=b1
 · subst h1;have n1:(a1 != a1)=false:=by simp
   by_cases h2:a2=b2
   · subst h2;have n2:(a2 != a2)=false:=by simp
     obtain rfl:r=(!a3 && b3):=by rw [hr2.out];cases a3 <;> cases b3 <;> simp [riI]
     clear hr2;cases a3 with
     | true =>
      go_wp2_with fail
      go_ret
      exact ⟨rfl,hF⟩
     | false =>
      go_wp2_with fail
      go_ret
      exact ⟨by simp,hF⟩
   · have n2:(a2 != b2)=true:=by simpa using h2
     obtain rfl:r=decide (a2<b2):=by rw [hr2.out];exact decide_eq_decide.2 (by omega)
     clear hr2;go_wp2_with fail
     go_ret
     exact ⟨rfl,hF⟩
 · have n1:(a1 != b1)=true:=by simpa using h1
   obtain rfl:r=decide (a1<b1):=by rw [hr2.out];exact decide_eq_decide.2 (by omega)
   clear hr2;go_wp2_with fail
   go_ret
   exact ⟨rfl,hF⟩
theorem zdc (l:List TypA):(zaA (l.map TypA.says)).length=(relsA l).length:=by rw [←zaN,List.length_map]
theorem zlj {l:List TypA} (hR:Right (l.map TypA.says)) {i:Nat} {t:TypA} (ht:l[i]? = some t) {re:ByteArray} {z:Int} (hz:AtZ (fun t:RelA=>decide (t.name=re)) t.rels z) :
 (z<0→zdk (zap (l.map TypA.says)) (t.name,re) = -1)∧(0≤z→zdk (zap (l.map TypA.says)) (t.name,re)=((relsA (l.take i)).length:Nat) + z∧z<t.rels.length):=by
 have hT:(l.map TypA.says)[i]? = some t.says:=by rw [List.getElem?_map,ht];rfl
 rcases hz with ⟨rfl,hf⟩ | ⟨k,r,rfl,hr,hf,_⟩
 · refine ⟨fun _=>?_,fun h=>absurd h (by decide)⟩;refine num_rel hR (t:=t.says) (List.mem_of_getElem? hT) fun r hr=>?_;obtain ⟨q,hq,rfl⟩:=List.mem_map.1 hr;have:=List.find?_eq_none.1 hf q hq;have h2:¬q.name=re:=by simpa using this
   exact h2
 · refine ⟨fun h=>by omega,fun _=>?_⟩;have hn:r.name=re:=by have:=List.find?_some hf;simpa using this
   subst hn;have h1:=zmY hR (k:=k) hT (r:=r.says) (by show (t.rels.map RelA.says)[k]? = _;rw [List.getElem?_map,hr];rfl);have h2:=zeG h1;rw [←List.map_take,zdc] at h2;refine ⟨?_,by have:=(List.getElem?_eq_some_iff.1 hr).1;omega⟩;exact h2.trans (by omega)
theorem ziE {l:List TypA} {ty re:ByteArray} (hn:∀t ∈ l,t.name≠ty):zdk (zap (l.map TypA.says)) (ty,re) = -1:=num_typ fun t ht=>by
 obtain ⟨q,hq,rfl⟩:=List.mem_map.1 ht;exact hn q hq
theorem number_any {w:World} {R c:Nat} {A:Option Addr} {l:List TypA} (h:SchA w R A c l) (hR:Right (l.map TypA.says)) (ty re:ByteArray) :
 Calls Tryz.prog 65 #[.slice A l.length c,.string ty,.string re] w fun e w'=>e = .returned (.int .i64 (zdk (zap (l.map TypA.says)) (ty,re)))∧Below w.heap.size w w':=by
 have hn96:(relsA l).length≤96:=by rw [←zdc];exact hR.rels_le
 have hll:(l.length:Int)≤9223372036854775807:=by have:=h.rows.cap;have:=h.rows.capm;simp only [maxLen] at this;omega
 obtain ⟨r,hr⟩:∃r,zdk (zap (l.map TypA.says)) (ty,re)=r:=⟨_,rfl⟩;rw [hr];replace hr:=Lib.hid hr;go_enter Tryz.func65,Tryz.ntmps65
 go_wp2_with fail
 go_loopw [7,8] (fun vn vi wx=>∃i:Nat,vi = .int .i64 i∧vn = .int .i64 ((relsA (l.take i)).length:Nat)∧i≤l.length∧(∀t ∈ l.take i,t.name≠ty)∧Below w.heap.size w wx) (fun _ vi _=>l.length-(intOf vi).toNat)
 case atStart=>exact ⟨0,rfl,rfl,Nat.zero_le _,fun t ht=>(by simp at ht),Below.refl _ _⟩
 case round =>
  obtain ⟨i,rfl,rfl,hi,hno,hbx⟩:=hrel;by_cases hil:i<l.length
  · have hdi:(i:Int)<(l.length:Int):=by omega
    obtain ⟨t,ht⟩:∃t,l[i]? = some t:=⟨_,List.getElem?_eq_getElem hil⟩;obtain ⟨g,o,rfl,g0,g1,hk⟩:=(h.up hbx).get ht;have lg:=World.block_lt_of_cell? _ _ g0;dsimp only at lg;have kr:=rel9_any hk re;have hsn:=congrArg List.length (zbE ht);rw [List.length_append,List.length_map] at hsn;have hle:=zdb (l:=l) (i + 1);rw [hsn] at hle;have hle2:(relsA (l.take i)).length + t.rels.length≤96:=Nat.le_trans hle hn96;have hnum:=fun (z:Int) (hz:AtZ (fun t:RelA=>decide (t.name=re)) t.rels z)=>zlj hR ht hz;have hnext:Hid (t.name≠ty→∀q ∈ l.take (i + 1),q.name≠ty):=Lib.hid fun hne q hq=>by
     rw [List.take_add_one,ht] at hq;rcases List.mem_append.1 hq with hq | hq
     · exact hno q hq
     · simp at hq;subst hq;exact hne
    obtain ⟨n,hn⟩:∃n,(relsA (l.take i)).length=n:=⟨_,rfl⟩;obtain ⟨tA,htA⟩:∃tA,t.A=tA:=⟨_,rfl⟩;rw [hn] at hsn hle2 hnum ⊢;rw [htA] at g1 kr;replace hsn:=Lib.hid hsn;replace hnum:=Lib.hid hnum;have hq:=zaE t.name ty;clear hle hno hn ht;go_upto_region 6 with (go_at_call 104;refine kr.mono ?_;rintro e w1 ⟨⟨z,rfl,hz⟩,hb1⟩)
    obtain ⟨hz1,hz2⟩:=hnum.out z hz;have g0':=zaq g0 hb1;have g1':=zaq g1 hb1;have lg':=World.block_lt_of_cell? _ _ g0';dsimp only at lg';have hbw:=zaz hbx hbx.size hb1;clear kr hz g0 g1 hnum hb1;by_cases hty:t.name=ty
    · have hd:decide (t.name=ty)=true:=decide_eq_true hty;rw [hd] at hq;rw [←hty] at hr;by_cases hz0:z<0
      · obtain rfl:r = -1:=hr.out.symm.trans (hz1 hz0);clear hz1 hz2 hr hty;go_wp2_with fail
        go_ret
        exact ⟨rfl,hbw⟩
      · obtain ⟨hz3,hz4⟩:=hz2 (by omega);obtain rfl:r=(n:Int) + z:=hr.out.symm.trans hz3;clear hz1 hz2 hr hty hz3;go_wp2_with fail
        go_ret
        exact ⟨rfl,hbw⟩
    · have hd:decide (t.name=ty)=false:=decide_eq_false hty;rw [hd] at hq;replace hnext:=Lib.hid (hnext.out hty);clear hz1 hz2 hty;go_wp2_with fail
      exact ⟨⟨i + 1,by go_num,by rw [hsn.out];go_num,by omega,hnext.out,hbw⟩,by simp [intOf];omega⟩
  · obtain rfl:i=l.length:=by omega
    have hdi:¬(((l.length:Nat):Int)<(l.length:Int)):=by omega
    rw [List.take_length] at hno;obtain rfl:r = -1:=hr.out.symm.trans (ziE hno);go_wp2_with fail
    go_ret
    exact ⟨rfl,hbx⟩
end Go.Proofs.YtahegpfdbgbioaaGreat
