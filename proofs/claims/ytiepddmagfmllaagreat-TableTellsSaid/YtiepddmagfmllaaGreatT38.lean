import Derived.Test.YtiepddmagfmllaaGreatT37
set_option maxRecDepth 100000
set_option maxHeartbeats 4000000
namespace Go.Proofs.YtiepddmagfmllaaGreat
open Go.RowKit
theorem TabOk.at_ {s tx:ByteArray} {ty:List ByteArray} {ps:List Path} {v:List Int} {K:List TabR} (h:TabOk s tx ty ps (K.map (·.r)) v) {i:Nat} (hi:i<K.length) :
 ∃x,(zaz ((zaf s).1.map za5))[i]? = some x∧(atK K i).r=zcB ps (zaL v i) x:=by
 obtain ⟨k,hk⟩:∃k,K[i]? = some k:=⟨_,List.getElem?_eq_getElem hi⟩;have h1:(K.map (·.r))[i]? = some k.r:=by rw [List.getElem?_map,hk];rfl
 rw [h.rels] at h1;unfold ze9 at h1;rw [List.getElem?_map,List.getElem?_zipIdx] at h1;cases e:(zaz ((zaf s).1.map za5))[i]? with
 | none=>rw [e] at h1;cases h1
 | some x =>
  rw [e] at h1;refine ⟨x,rfl,?_⟩;rw [atK_in hk,h.paths];have:=Option.some.inj h1;rw [←this];simp
theorem TabOk.lenK {s tx:ByteArray} {ty:List ByteArray} {ps:List Path} {v:List Int} {K:List TabR} (h:TabOk s tx ty ps (K.map (·.r)) v):K.length=(zaz ((zaf s).1.map za5)).length:=by
 have:=congrArg List.length h.rels;rw [List.length_map] at this;unfold ze9 at this;rw [List.length_map,List.length_zipIdx] at this;exact this
theorem TabOk.few {s tx:ByteArray} {ty:List ByteArray} {ps:List Path} {v:List Int} {K:List TabR} (h:TabOk s tx ty ps (K.map (·.r)) v):K.length≤96:=by
 rw [h.lenK];exact h.right.rels_le
theorem TabOk.path {s tx:ByteArray} {ty:List ByteArray} {ps:List Path} {v:List Int} {K:List TabR} (h:TabOk s tx ty ps (K.map (·.r)) v) {q:Path} (hq:q ∈ ps):ixP ps q<K.length∧(atK K (ixP ps q:Nat)).r.tn=q.1∧(atK K (ixP ps q:Nat)).r.rn=q.2:=by
 have hl:=ix_lt hq;have hg:=ix_get hq;have hK:ixP ps q<K.length:=by rw [h.lenK,←zkM,←h.paths];exact hl
 obtain ⟨x,hx,e⟩:=h.at_ hK;have:=path_at hx;rw [←h.paths,hg] at this;have:=Option.some.inj this;rw [e];exact ⟨hK,by rw [this];rfl,by rw [this];rfl⟩
theorem TabOk.metas {s tx:ByteArray} {ty:List ByteArray} {ps:List Path} {v:List Int} {K:List TabR} (h:TabOk s tx ty ps (K.map (·.r)) v) {i:Nat} (hi:i<K.length) :
 ∃(tn:ByteArray) (a b c:Nat),(atK K i).r.tn=tn∧(atK K i).r.view=a∧(atK K i).r.edit=b∧(atK K i).r.check=c∧a<K.length∧b<K.length∧c<K.length∧(atK K a).r.tn=tn∧(atK K b).r.tn=tn∧(atK K c).r.tn=tn:=by
 obtain ⟨x,hx,e⟩:=h.at_ hi;obtain ⟨m1,m2,m3⟩:=h.right.metas (List.mem_of_getElem? hx);rw [←h.paths] at m1 m2 m3;have k1:=h.path m1;have k2:=h.path m2;have k3:=h.path m3;exact ⟨x.1.name,ixP ps (x.1.name,x.2.view),ixP ps (x.1.name,x.2.edit),ixP ps (x.1.name,x.2.check),by rw [e];rfl,by rw [e];rfl,by rw [e];rfl,by rw [e];rfl,k1.1,k2.1,k3.1,k1.2.1,k2.2.1,k3.2.1⟩
theorem TabOk.lev {s tx:ByteArray} {ty:List ByteArray} {ps:List Path} {v:List Int} {K:List TabR} (h:TabOk s tx ty ps (K.map (·.r)) v) {i:Nat} (hi:i<K.length) :
 (atK K i).r.level=zaL v i∧0≤zaL v i∧zaL v i<K.length:=by
 obtain ⟨x,hx,e⟩:=h.at_ hi;have hlen:K.length=v.length:=by rw [h.lenK,h.len]
 have h1:=h.least.1.1 i (by omega);have h2:=h.least.below h.inr (i:=i) (by omega);exact ⟨by rw [e];rfl,h1,by rw [hlen];exact h2⟩
theorem TabOk.same {s tx:ByteArray} {ty:List ByteArray} {ps:List Path} {v:List Int} {K:List TabR} (h:TabOk s tx ty ps (K.map (·.r)) v) {i j:Nat} (hi:i<K.length) {k r:Int} {nx:ByteArray} (ho:(atK K i).r.ops[j]? = some (k,r,nx)) (hk:k=2) :
 ∃a:Nat,r=a∧a<K.length∧zaL v a≤zaL v i∧(j=1→(atK K i).r.ops.length=3→(∃q,(atK K i).r.ops[2]? = some (6,q))→zaL v a<zaL v i):=by
 obtain ⟨x,hx,e⟩:=h.at_ hi;rw [e] at ho ⊢;have ho2:(x.2.ops.map (zbB ps x.1.name))[j]? = some (k,r,nx):=ho;rw [List.getElem?_map] at ho2;cases e1:x.2.ops[j]? with
 | none=>rw [e1] at ho2;cases ho2
 | some o =>
  rw [e1] at ho2;have e2:zbB ps x.1.name o=(k,r,nx):=Option.some.inj ho2;have k1:o.1=2:=(congrArg (·.1) e2).trans hk;have k2:(ixP ps (x.1.name,o.2.1):Int)=r:=by
   have:=congrArg (·.2.1) e2;unfold zbB at this;simp only [k1,true_or,if_true] at this;exact this
  have hm:=h.right.opPath (List.mem_of_getElem? hx) (List.mem_of_getElem? e1) (.inl k1);rw [←h.paths] at hm;have hs:=zkS h.right h.least.1 hx e1 k1;rw [←h.paths] at hs;refine ⟨ixP ps (x.1.name,o.2.1),k2.symm,(h.path hm).1,hs.1,fun hj hl ⟨q,hq⟩=>hs.2 ?_⟩;subst hj;obtain ⟨q1,q2⟩:=zi8 (List.mem_of_getElem? hx);obtain ⟨t,ht,hg,_,_⟩:=zf7 q1 q2;have hl3:t.len=3:=by
   have h1:(x.2.ops.map (zbB ps x.1.name)).length=3:=hl;rw [List.length_map,ht,List.length_map] at h1;exact h1
  have h6:t.kd 2=6:=by
   have h1:(x.2.ops.map (zbB ps x.1.name))[2]? = some (6,q):=hq;rw [ht,List.getElem?_map,List.getElem?_map] at h1;have hlt:2<t.ops.length:=by unfold Ex.len at hl3;omega
   rw [List.getElem?_eq_getElem hlt] at h1;have h2:=congrArg (·.1) (Option.some.inj h1);unfold Ex.kd;rw [List.getD_eq_getElem?_getD,List.getElem?_eq_getElem hlt];have h3:((t.ops[2].1:Nat):Int)=6:=h2;show t.ops[2].1=6;omega
  rw [ht];exact zkA hg hl3 h6
theorem zkC {w:World} {B c n:Nat} {A:Option Addr} {l:List OpT} (h:Rd w B 3 A n c (zaW l)) {i:Nat} {o:OpT} (hi:l[i]? = some o) (hn:n=l.length) :
 ∃b k,A=some ⟨b,k,none⟩∧b<B∧w.cell? ⟨b,k + i * 3,none⟩=some (.int .i64 o.1)∧w.cell? ⟨b,k + i * 3 + 1,none⟩=some (.int .i64 o.2.1)∧w.cell? ⟨b,k + i * 3 + 2,none⟩=some (.string o.2.2):=by
 subst hn;obtain ⟨b,k,e,hb,hc⟩:=h.at_ (zda hi);have g:=fun j (hj:j<3)=>za6 zcn (sz:=3) (fun _=>rfl) hi (k:=j) hj;exact ⟨b,k,e,hb,hc _ _ (g 0 (by omega)),by rw [Nat.add_assoc];exact hc _ _ (g 1 (by omega)),by rw [Nat.add_assoc];exact hc _ _ (g 2 (by omega))⟩
theorem zlm {s:ByteArray} {e f:Nat} {tx:ByteArray} {ty:List ByteArray} {ps:List Path} {R:List RelT} {T:List TypI} {u:List Int} (h:CompIs s e tx ty ps R) (k:RIs s f T u) :
 e=f∧((e≠0∧tx=⟨#[]⟩∧ty=[]∧ps=[]∧R=[]∧T=[]∧u=[])∨(e=0∧T=(zaf s).1.map za5∧TabOk s tx ty ps R u)):=by
 have hck:Right ((zaf s).1.map za5)→(zbb ((zaf s).1.map za5)).1=0:=fun h=>(zdo _).1.2 h;cases h with
 | parse e h h0 =>
  cases k with
  | parse f k k0=>exact ⟨h.symm.trans k,.inl ⟨h0,rfl,rfl,rfl,rfl,rfl,rfl⟩⟩
  | check f a=>exact absurd (h.symm.trans a) h0
  | cyc a=>exact absurd (h.symm.trans a) h0
  | long a=>exact absurd (h.symm.trans a) h0
  | ok a=>exact absurd (h.symm.trans a) h0
 | check e a h h0 =>
  cases k with
  | parse f k k0=>exact absurd (k.symm.trans a) k0
  | check f b k k0=>exact ⟨h.symm.trans k,.inl ⟨h0,rfl,rfl,rfl,rfl,rfl,rfl⟩⟩
  | cyc b hR=>exact absurd (h.symm.trans (hck hR)) h0
  | long b hR=>exact absurd (h.symm.trans (hck hR)) h0
  | ok b hR=>exact absurd (h.symm.trans (hck hR)) h0
 | cyc a hR hc =>
  cases k with
  | parse f k k0=>exact absurd (k.symm.trans a) k0
  | check f b k k0=>exact absurd (k.symm.trans (hck hR)) k0
  | cyc=>exact ⟨rfl,.inl ⟨by decide,rfl,rfl,rfl,rfl,rfl,rfl⟩⟩
  | long _ _ hn=>exact absurd hc hn
  | ok _ _ hn=>exact absurd hc hn
 | long a hR hn hz =>
  cases k with
  | parse f k k0=>exact absurd (k.symm.trans a) k0
  | check f b k k0=>exact absurd (k.symm.trans (hck hR)) k0
  | cyc _ _ hc=>exact absurd hc hn
  | long=>exact ⟨rfl,.inl ⟨by decide,rfl,rfl,rfl,rfl,rfl,rfl⟩⟩
  | ok _ _ _ v _ _ hz2=>omega
 | ok a hR v hv hi hL hz =>
  cases k with
  | parse f k k0=>exact absurd (k.symm.trans a) k0
  | check f b k k0=>exact absurd (k.symm.trans (hck hR)) k0
  | cyc _ _ hc=>exact (Cyc.none hc hL.1).elim
  | long _ _ _ hz2=>omega
  | ok _ _ _ u hu hM =>
   obtain rfl:u=v:=List.ext_getElem (by omega) fun i h3 h4=>by
    have:=hM (zaL v) (by rw [hu,←hv];exact hL) i h3;simpa [zaL,h3,h4] using this
   exact ⟨rfl,.inr ⟨rfl,rfl,⟨a,hR,hv,hi,hL,hz,rfl,rfl,rfl,rfl⟩⟩⟩
theorem at_both {s tx:ByteArray} {ty:List ByteArray} {ps:List Path} {K:List TabR} {l:List TypA} {u:List Int}
 (h:(K.map (·.r)=[]∧l.map TypA.says=[])∨(l.map TypA.says=(zaf s).1.map za5∧TabOk s tx ty ps (K.map (·.r)) u)) (id:Int) :
 (atA l id=none∧(atK K id).r=noRT)∨∃(i:Nat) (t:TypA) (x:RelA),id=i∧i<K.length∧atA l id=some (t,x)∧(t,x) ∈ relsA l∧(atK K id).r=zcB ps (zaL u i) (t.says,x.says):=by
 by_cases h0:id<0
 · exact .inl ⟨if_neg (by omega),by rw [zlb h0];rfl⟩
 obtain ⟨i,rfl⟩:∃i:Nat,id=i:=⟨id.toNat,by omega⟩;have ha:atA l (i:Int)=(relsA l)[i]?:=by unfold atA;rw [if_pos (by omega),Int.toNat_natCast]
 rw [ha];rcases h with ⟨h1,h2⟩ | ⟨h1,h2⟩
 · obtain rfl:K=[]:=List.map_eq_nil_iff.1 h1;obtain rfl:l=[]:=List.map_eq_nil_iff.1 h2;exact .inl ⟨rfl,by rw [ziA (by simp)];rfl⟩
 · have hl:K.length=(relsA l).length:=by rw [h2.lenK,←h1,←zaO,List.length_map]
   by_cases hi:i<K.length
   · obtain ⟨x,hx,e⟩:=h2.at_ hi;rw [←h1,←zaO,List.getElem?_map] at hx;obtain ⟨⟨t,r⟩,hr,rfl⟩:=Option.map_eq_some_iff.1 hx;exact .inr ⟨i,t,r,rfl,hi,hr,List.mem_of_getElem? hr,e⟩
   · exact .inl ⟨List.getElem?_eq_none (by omega),by rw [ziA (by omega)];rfl⟩
end Go.Proofs.YtiepddmagfmllaaGreat
namespace Go.Proofs.YtiepddmagfmllaaGreat
open Go.RowKit
open Go.RowKit
def exA:ByteArray:=⟨#[116,121,112,101,32,116,32,123,32,114,101,108,32,97,32,40,98,44,32,97,44,32,98,41,58,32,116,59,32,114,101,108,32,98,32,40,97,44,32,97,44,32,97,41,58,32,116,44,32,116,35,97,32,105,115,32,116,104,105,115,32,45,32,97,32,124,32,97,46,98,59,32,125]⟩
def exB:ByteArray:=⟨#[116,121,112,101,32,116,32,123,32,114,101,108,32,97,32,40,97,44,32,97,44,32,97,41,58,32,116,32,105,115,32,116,104,105,115,32,45,32,97,59,32,125]⟩
def exC:ByteArray:=⟨#[116,121,112,101]⟩
def zit:List TypP:=[⟨⟨#[116]⟩,[⟨⟨#[97]⟩,⟨#[98]⟩,⟨#[97]⟩,⟨#[98]⟩,[(⟨#[116]⟩,⟨#[]⟩)],[(1,⟨#[]⟩,⟨#[]⟩)]⟩,⟨⟨#[98]⟩,⟨#[97]⟩,⟨#[97]⟩,⟨#[97]⟩,[(⟨#[116]⟩,⟨#[]⟩),(⟨#[116]⟩,⟨#[97]⟩)],[(1,⟨#[]⟩,⟨#[]⟩),(2,⟨#[97]⟩,⟨#[]⟩),(6,⟨#[]⟩,⟨#[]⟩),(3,⟨#[97]⟩,⟨#[98]⟩),(4,⟨#[]⟩,⟨#[]⟩)]⟩]⟩]
def TB11:List TypP:=[⟨⟨#[116]⟩,[⟨⟨#[97]⟩,⟨#[97]⟩,⟨#[97]⟩,⟨#[97]⟩,[(⟨#[116]⟩,⟨#[]⟩)],[(1,⟨#[]⟩,⟨#[]⟩),(2,⟨#[97]⟩,⟨#[]⟩),(6,⟨#[]⟩,⟨#[]⟩)]⟩]⟩]
def RA0:RelT:=⟨⟨#[116]⟩,⟨#[97]⟩,1,0,1,0,[(⟨#[116]⟩,⟨#[]⟩)],[(1,0,⟨#[]⟩)]⟩
def RA1:RelT:=⟨⟨#[116]⟩,⟨#[98]⟩,0,0,0,1,[(⟨#[116]⟩,⟨#[]⟩),(⟨#[116]⟩,⟨#[97]⟩)],[(1,0,⟨#[]⟩),(2,0,⟨#[]⟩),(6,0,⟨#[]⟩),(3,0,⟨#[98]⟩),(4,0,⟨#[]⟩)]⟩
theorem zjq:zaf exA=(zit,0,0):=by decide +kernel
theorem zjr:zaf exB=(TB11,0,0):=by decide +kernel
theorem exC_says:(zaf exC).2.1=30:=by decide +kernel
theorem zhM:zaN (zit.map za5)=[(1,0,false),(1,0,true),(1,1,false)]:=by decide +kernel
theorem zlt:zaN (TB11.map za5)=[(0,0,true)]:=by decide +kernel
theorem zls:(zbb (zit.map za5)).1=0:=by decide +kernel
theorem zlu:(zbb (TB11.map za5)).1=0:=by decide +kernel
theorem ziI:Sol 2 (zaN (zit.map za5)) (fun i=>if i=0 then 0 else 1):=by
 rw [zhM];refine ⟨fun i _=>by dsimp only;split <;> omega,fun e he=>?_⟩;simp only [List.mem_cons,List.not_mem_nil,or_false] at he;rcases he with rfl | rfl | rfl <;> decide
theorem exA_size:¬2048<(zbN zit).size:=by decide +kernel
theorem exA_rels (v:List Int):ze9 (zit.map za5) v=[zcB (zap (zit.map za5)) (zaL v 0) ((zaz (zit.map za5)).getD 0 (⟨⟨#[]⟩,[]⟩,⟨⟨#[]⟩,⟨#[]⟩,⟨#[]⟩,⟨#[]⟩,[],[]⟩)),zcB (zap (zit.map za5)) (zaL v 1) ((zaz (zit.map za5)).getD 1 (⟨⟨#[]⟩,[]⟩,⟨⟨#[]⟩,⟨#[]⟩,⟨#[]⟩,⟨#[]⟩,[],[]⟩))]:=rfl
theorem exA_rel0:zcB (zap (zit.map za5)) 0 ((zaz (zit.map za5)).getD 0 (⟨⟨#[]⟩,[]⟩,⟨⟨#[]⟩,⟨#[]⟩,⟨#[]⟩,⟨#[]⟩,[],[]⟩))=RA0:=by kernel_rfl
theorem exA_rel1:zcB (zap (zit.map za5)) 1 ((zaz (zit.map za5)).getD 1 (⟨⟨#[]⟩,[]⟩,⟨⟨#[]⟩,⟨#[]⟩,⟨#[]⟩,⟨#[]⟩,[],[]⟩))=RA1:=by kernel_rfl
theorem compA {err:Nat} {tx:ByteArray} {ty:List ByteArray} {ps:List Path} {R:List RelT} (h:CompIs exA err tx ty ps R):err=0∧ty=[⟨#[116]⟩]∧ps=[(⟨#[116]⟩,⟨#[97]⟩),(⟨#[116]⟩,⟨#[98]⟩)]∧R=[RA0,RA1]:=by
 have e1:(zaf exA).1=zit:=by rw [zjq]
 have e2:(zaf exA).2.1=0:=by rw [zjq]
 have nc:¬Cyc (zaN (zit.map za5)):=fun hc=>Cyc.none hc ziI;cases h with
 | parse e h h0=>exact absurd (h.symm.trans e2) h0
 | check e h1 h h0=>rw [e1] at h;exact absurd (h.symm.trans zls) h0
 | cyc h1 hR hc=>rw [e1] at hc;exact absurd hc nc
 | long h1 hR hc hz=>rw [e1] at hz;exact absurd hz exA_size
 | ok h1 hR v hv hi hL hz =>
  rw [e1] at hv hi hL ⊢;have hv2:v.length=2:=hv;rw [hv2] at hL;have k0:=hL.2 _ ziI 0 (by decide);have k1:=hL.2 _ ziI 1 (by decide);have k2:=hL.1.1 0 (by decide);have k3:=hL.1.2 (1,0,true) (by rw [zhM];decide);simp [fr,tt,zcQ] at k0 k1 k2 k3;have v0:zaL v 0=0:=by omega
  have v1:zaL v 1=1:=by omega
  refine ⟨rfl,rfl,by decide +kernel,?_⟩;rw [exA_rels,v0,v1,exA_rel0,exA_rel1]
theorem compB {err:Nat} {tx:ByteArray} {ty:List ByteArray} {ps:List Path} {R:List RelT} (h:CompIs exB err tx ty ps R):err=33:=by
 have e1:(zaf exB).1=TB11:=by rw [zjr]
 have e2:(zaf exB).2.1=0:=by rw [zjr]
 have hcy:Cyc (zaN (TB11.map za5)):=⟨(0,0,true),by rw [zlt];decide,rfl,.refl _⟩;cases h with
 | parse e h h0=>exact absurd (h.symm.trans e2) h0
 | check e h1 h h0=>rw [e1] at h;exact absurd (h.symm.trans zlu) h0
 | cyc h1 hR hc=>rfl
 | long h1 hR hc hz=>rw [e1] at hc;exact absurd hcy hc
 | ok h1 hR v hv hi hL hz=>rw [e1] at hL;exact (Cyc.none hcy hL.1).elim
theorem compC {err:Nat} {tx:ByteArray} {ty:List ByteArray} {ps:List Path} {R:List RelT} (h:CompIs exC err tx ty ps R):err=30:=by
 have e2:=exC_says;cases h with
 | parse e h h0=>exact h.symm.trans e2
 | check e h1 h h0=>rw [e2] at h1;cases h1
 | cyc h1 hR hc=>rw [e2] at h1;cases h1
 | long h1 hR hc hz=>rw [e2] at h1;cases h1
 | ok h1 hR v hv hi hL hz=>rw [e2] at h1;cases h1
structure TabX (w:World) (Ay:Option Addr) (cy:Nat) (ty:List ByteArray) (mb:Option Nat) (Ar:Option Addr) (cr:Nat) (K:List TabR):Prop where
 tab:TabA w Ay cy ty mb [(⟨#[116]⟩,⟨#[97]⟩),(⟨#[116]⟩,⟨#[98]⟩)] Ar cr K
 tys:ty=[⟨#[116]⟩]
 rs:K.map (·.r)=[RA0,RA1]
theorem TabX.up {w w':World} {Ay:Option Addr} {cy:Nat} {ty:List ByteArray} {mb:Option Nat} {Ar:Option Addr} {cr:Nat} {K:List TabR} (h:TabX w Ay cy ty mb Ar cr K) (hb:Below w.heap.size w w'):TabX w' Ay cy ty mb Ar cr K:=⟨h.tab.up hb,h.tys,h.rs⟩
theorem TabX.at0 {w:World} {Ay:Option Addr} {cy:Nat} {ty:List ByteArray} {mb:Option Nat} {Ar:Option Addr} {cr:Nat} {K:List TabR} (h:TabX w Ay cy ty mb Ar cr K):(atK K 0).r=RA0∧(atK K 1).r=RA1∧K.length=2:=by
 have hl:K.length=2:=by have:=congrArg List.length h.rs;rwa [List.length_map] at this
 match K,hl,h.rs with
 | [x,y],_,hr =>
  simp only [List.map_cons,List.map_nil,List.cons.injEq,and_true] at hr;exact ⟨hr.1,hr.2,rfl⟩
def zlh:List Value:=[.int .i64 1,.int .i64 0,.string ⟨#[]⟩,.int .i64 2,.int .i64 0,.string ⟨#[]⟩,.int .i64 6,.int .i64 0,.string ⟨#[]⟩,.int .i64 3,.int .i64 0,.string ⟨#[98]⟩,.int .i64 4,.int .i64 0,.string ⟨#[]⟩]
section
variable {w:World} {tx:ByteArray} {Ay:Option Addr} {cy:Nat} {ty:List ByteArray} {mb:Option Nat} {Ar:Option Addr} {cr:Nat} {K:List TabR}
theorem xlen (h:TabX w Ay cy ty mb Ar cr K):Calls Tryz.prog 7 #[.agg #[.string tx,.slice Ay ty.length cy,.map mb,.slice Ar K.length cr]] w fun e w'=>e = .returned (.int .i64 2)∧Below w.heap.size w w':=by
 have k:=tlen_any (tx:=tx) (Ay:=Ay) (ny:=ty.length) (cy:=cy) (mb:=mb) h.tab.rels;refine k.mono fun e w' ⟨he,hb⟩=>⟨?_,hb⟩;rw [he,h.at0.2.2];rfl
theorem xhas (h:TabX w Ay cy ty mb Ar cr K):Calls Tryz.prog 11 #[.agg #[.string tx,.slice Ay ty.length cy,.map mb,.slice Ar K.length cr],.string ⟨#[116]⟩] w fun e w'=>e = .returned (.bool true)∧Below w.heap.size w w':=by
 have k:=thas_any (tx:=tx) (mb:=mb) (Ar:=Ar) (cr:=cr) (nr:=K.length) h.tab.types ⟨#[116]⟩;have e1:(ty.any fun y=>decide (y=(⟨#[116]⟩:ByteArray)))=true:=by rw [h.tys];rfl
 rw [e1] at k;exact k
theorem xidb (h:TabX w Ay cy ty mb Ar cr K):Calls Tryz.prog 21 #[.agg #[.string tx,.slice Ay ty.length cy,.map mb,.slice Ar K.length cr],.string ⟨#[116]⟩,.string ⟨#[98]⟩] w fun e w'=>e = .returned (.tuple #[.int .i64 1,.bool true])∧Below w.heap.size w w' :=
 tid_any (tx:=tx) (Ay:=Ay) (ny:=ty.length) (cy:=cy) (Ar:=Ar) (cr:=cr) (nr:=K.length) h.tab.ids ⟨#[116]⟩ ⟨#[98]⟩ (by decide) (by decide)
theorem xidx (h:TabX w Ay cy ty mb Ar cr K):Calls Tryz.prog 21 #[.agg #[.string tx,.slice Ay ty.length cy,.map mb,.slice Ar K.length cr],.string ⟨#[116]⟩,.string ⟨#[120]⟩] w fun e w'=>e = .returned (.tuple #[.int .i64 0,.bool false])∧Below w.heap.size w w' :=
 tid_any (tx:=tx) (Ay:=Ay) (ny:=ty.length) (cy:=cy) (Ar:=Ar) (cr:=cr) (nr:=K.length) h.tab.ids ⟨#[116]⟩ ⟨#[120]⟩ (by decide) (by decide)
theorem xmetas (h:TabX w Ay cy ty mb Ar cr K):Calls Tryz.prog 15 #[.agg #[.string tx,.slice Ay ty.length cy,.map mb,.slice Ar K.length cr],.int .i64 0] w fun e w'=>e = .returned (.tuple #[.int .i64 1,.int .i64 0,.int .i64 1])∧Below w.heap.size w w':=by
 have k:=tmetas_any (tx:=tx) (Ay:=Ay) (ny:=ty.length) (cy:=cy) (mb:=mb) h.tab.rels 0 (by decide);rw [h.at0.1] at k;exact k
theorem xlevel0 (h:TabX w Ay cy ty mb Ar cr K):Calls Tryz.prog 19 #[.agg #[.string tx,.slice Ay ty.length cy,.map mb,.slice Ar K.length cr],.int .i64 0] w fun e w'=>e = .returned (.int .i64 0)∧Below w.heap.size w w':=by
 have k:=tlevel_any (tx:=tx) (Ay:=Ay) (ny:=ty.length) (cy:=cy) (mb:=mb) h.tab.rels 0 (by decide);rw [h.at0.1] at k;exact k
theorem xlevel1 (h:TabX w Ay cy ty mb Ar cr K):Calls Tryz.prog 19 #[.agg #[.string tx,.slice Ay ty.length cy,.map mb,.slice Ar K.length cr],.int .i64 1] w fun e w'=>e = .returned (.int .i64 1)∧Below w.heap.size w w':=by
 have k:=tlevel_any (tx:=tx) (Ay:=Ay) (ny:=ty.length) (cy:=cy) (mb:=mb) h.tab.rels 1 (by decide);rw [h.at0.2.1] at k;exact k
theorem xpath (h:TabX w Ay cy ty mb Ar cr K):Calls Tryz.prog 13 #[.agg #[.string tx,.slice Ay ty.length cy,.map mb,.slice Ar K.length cr],.int .i64 1] w fun e w'=>e = .returned (.tuple #[.string ⟨#[116]⟩,.string ⟨#[98]⟩])∧Below w.heap.size w w':=by
 have k:=tpath_any (tx:=tx) (Ay:=Ay) (ny:=ty.length) (cy:=cy) (mb:=mb) h.tab.rels 1 (by decide);rw [h.at0.2.1] at k;exact k
theorem xmay0 (h:TabX w Ay cy ty mb Ar cr K):Calls Tryz.prog 17 #[.agg #[.string tx,.slice Ay ty.length cy,.map mb,.slice Ar K.length cr],.int .i64 0,.string ⟨#[116]⟩,.string ⟨#[97]⟩] w fun e w'=>e = .returned (.bool false)∧Below w.heap.size w w':=by
 have k:=tmay_any (tx:=tx) (Ay:=Ay) (ny:=ty.length) (cy:=cy) (mb:=mb) h.tab.rels 0 (by decide) ⟨#[116]⟩ ⟨#[97]⟩;rw [h.at0.1] at k;exact k
theorem xmay1 (h:TabX w Ay cy ty mb Ar cr K):Calls Tryz.prog 17 #[.agg #[.string tx,.slice Ay ty.length cy,.map mb,.slice Ar K.length cr],.int .i64 1,.string ⟨#[116]⟩,.string ⟨#[97]⟩] w fun e w'=>e = .returned (.bool true)∧Below w.heap.size w w':=by
 have k:=tmay_any (tx:=tx) (Ay:=Ay) (ny:=ty.length) (cy:=cy) (mb:=mb) h.tab.rels 1 (by decide) ⟨#[116]⟩ ⟨#[97]⟩;rw [h.at0.2.1] at k;exact k
theorem xops (h:TabX w Ay cy ty mb Ar cr K):Calls Tryz.prog 16 #[.agg #[.string tx,.slice Ay ty.length cy,.map mb,.slice Ar K.length cr],.int .i64 1] w fun e w'=>(∃A c,e = .returned (.slice A 5 c)∧Rd w' w'.heap.size 3 A 5 c zlh)∧Below w.heap.size w w':=by
 have k:=tops_any (tx:=tx) (Ay:=Ay) (ny:=ty.length) (cy:=cy) (mb:=mb) h.tab.rels 1 (by decide);rw [h.at0.2.1] at k;refine k.mono fun e w' ⟨⟨A,c,he,ho⟩,hb⟩=>⟨⟨A,c,he,?_⟩,hb⟩;obtain ⟨A2,c2,e2,r2⟩:=Rd.own ho;cases e2;exact r2
theorem zlj (w:World):Calls Tryz.prog 5 #[.string exA] w fun e w'=>(∃tx Ay cy ty mb Ar cr K,e = .returned (.tuple #[.agg #[.string tx,.slice Ay ty.length cy,.map mb,.slice Ar K.length cr],.int .i64 0])∧TabX w' Ay cy ty mb Ar cr K)∧Below w.heap.size w w':=by
 refine (compile_any exA (by decide) w).mono fun e w' ⟨⟨tx,Ay,cy,ty,mb,ps,Ar,cr,K,err,he,hT,hC⟩,hb⟩=>⟨⟨tx,Ay,cy,ty,mb,Ar,cr,K,?_⟩,hb⟩;obtain ⟨rfl,h2,rfl,h4⟩:=compA hC;exact ⟨he,hT,h2,h4⟩
theorem zlk (w:World):Calls Tryz.prog 5 #[.string exB] w fun e w'=>(∃tx Ay ny cy mb Ar nr cr,e = .returned (.tuple #[.agg #[.string tx,.slice Ay ny cy,.map mb,.slice Ar nr cr],.int .i64 33]))∧Below w.heap.size w w':=by
 refine (compile_any exB (by decide) w).mono fun e w' ⟨⟨tx,Ay,cy,ty,mb,ps,Ar,cr,K,err,he,hT,hC⟩,hb⟩=>⟨⟨tx,Ay,ty.length,cy,mb,Ar,K.length,cr,?_⟩,hb⟩;rw [compB hC] at he;exact he
theorem zll (w:World):Calls Tryz.prog 5 #[.string exC] w fun e w'=>(∃tx Ay ny cy mb Ar nr cr,e = .returned (.tuple #[.agg #[.string tx,.slice Ay ny cy,.map mb,.slice Ar nr cr],.int .i64 30]))∧Below w.heap.size w w':=by
 refine (compile_any exC (by decide) w).mono fun e w' ⟨⟨tx,Ay,cy,ty,mb,ps,Ar,cr,K,err,he,hT,hC⟩,hb⟩=>⟨⟨tx,Ay,ty.length,cy,mb,Ar,K.length,cr,?_⟩,hb⟩;rw [compC hC] at he;exact he
end
theorem zbl {w:World} {b o c:Nat} (h:Rd w w.heap.size 3 (some ⟨b,o,none⟩) 5 c zlh) (j:Nat) (u:Value) (hj:zlh[j]? = some u):w.cell? ⟨b,o + j,none⟩=some u:=by
 obtain ⟨b',o',e,_,hc⟩:=h.at_ (by omega);injection e with e
 injection e with e1 e2 _
 subst e1;subst e2;exact hc j u hj
theorem awake11_any (w:World):Calls Tryz.prog 4 #[] w fun e w'=>e = .returned (.bool true)∧Below w.heap.size w w':=by
 have kA:=zlj w;have kB:=fun W=>zlk W;have kC:=fun W=>zll W;unfold exA at kA;unfold exB at kB;unfold exC at kC;go_enter Tryz.func4,Tryz.ntmps4
 go_upto_region 2 with (go_at_call 5;refine kA.mono ?_;rintro e w1 ⟨⟨tx,Ay,cy,ty,mb,Ar,cr,K,rfl,hT⟩,hb⟩)
 have dT:=Bk.new w1 #[.string tx,.slice Ay ty.length cy,.map mb,.slice Ar K.length cr] 27;have hbn:=zfb w1 (.cells #[.string tx,.slice Ay ty.length cy,.map mb,.slice Ar K.length cr] 27);replace hT:=hT.up hbn;replace hb:=zah hb hb.size hbn;clear hbn kA;generalize w1.alloc (.cells #[.string tx,.slice Ay ty.length cy,.map mb,.slice Ar K.length cr] 27)=w2 at *
 generalize w1.heap.size=g1 at *
 go_upto_region 3 with (go_at_call 5;refine (kB _).mono ?_;rintro e w3 ⟨⟨tx3,Ay3,ny3,cy3,mb3,Ar3,nr3,cr3,rfl⟩,hb3⟩)
 replace hb3:=hb3.alloc hb3.size (.cells #[.string tx3,.slice Ay3 ny3 cy3,.map mb3,.slice Ar3 nr3 cr3] 27);replace hT:=hT.up hb3;replace dT:=dT.below hb3;replace hb:=zah hb hb.size hb3;clear hb3 kB;generalize w3.alloc (.cells #[.string tx3,.slice Ay3 ny3 cy3,.map mb3,.slice Ar3 nr3 cr3] 27)=w4 at *
 generalize w3.heap.size=g3 at *
 go_upto_region 4 with (go_at_call 5;refine (kC _).mono ?_;rintro e w5 ⟨⟨tx5,Ay5,ny5,cy5,mb5,Ar5,nr5,cr5,rfl⟩,hb3⟩)
 replace hb3:=hb3.alloc hb3.size (.cells #[.string tx5,.slice Ay5 ny5 cy5,.map mb5,.slice Ar5 nr5 cr5] 27);replace hT:=hT.up hb3;replace dT:=dT.below hb3;replace hb:=zah hb hb.size hb3;clear hb3 kC;generalize w5.alloc (.cells #[.string tx5,.slice Ay5 ny5 cy5,.map mb5,.slice Ar5 nr5 cr5] 27)=w6 at *
 generalize w5.heap.size=g5 at *
 obtain ⟨c0,c1,c2,c3⟩:=dT.c4;have cl:=dT.lt;have kk:=xidb (tx:=tx) hT;go_upto_region 5 with (go_at_call 21;refine kk.mono ?_;rintro e wn ⟨rfl,hb3⟩)
 replace hT:=hT.up hb3;replace dT:=dT.below hb3;replace hb:=zah hb hb.size hb3;clear hb3 kk c0 c1 c2 c3 cl;obtain ⟨c0,c1,c2,c3⟩:=dT.c4;have cl:=dT.lt;have kk:=xidx (tx:=tx) hT;go_upto_region 6 with (go_at_call 21;refine kk.mono ?_;rintro e wn ⟨rfl,hb3⟩)
 replace hT:=hT.up hb3;replace dT:=dT.below hb3;replace hb:=zah hb hb.size hb3;clear hb3 kk c0 c1 c2 c3 cl;obtain ⟨c0,c1,c2,c3⟩:=dT.c4;have cl:=dT.lt;have kk:=xmetas (tx:=tx) hT;go_upto_region 7 with (go_at_call 15;refine kk.mono ?_;rintro e wn ⟨rfl,hb3⟩)
 replace hT:=hT.up hb3;replace dT:=dT.below hb3;replace hb:=zah hb hb.size hb3;clear hb3 kk c0 c1 c2 c3 cl;obtain ⟨c0,c1,c2,c3⟩:=dT.c4;have cl:=dT.lt;have kk:=xops (tx:=tx) hT;go_upto_region 8 with (go_at_call 16;refine kk.mono ?_;rintro e wn ⟨⟨Ao,co,rfl,hO⟩,hb3⟩)
 replace hT:=hT.up hb3;replace dT:=dT.below hb3;replace hb:=zah hb hb.size hb3;clear hb3 kk c0 c1 c2 c3 cl;obtain ⟨c0,c1,c2,c3⟩:=dT.c4;have cl:=dT.lt;obtain ⟨bo,oo,rfl,_,_⟩:=hO.at_ (by omega);have o0:=zbl hO 6 _ rfl;have o1:=zbl hO 9 _ rfl;have o2:=zbl hO 10 _ rfl;have o3:=zbl hO 11 _ rfl;go_upto_region 9 with (first
  | (go_at_call 13;with_reducible refine (xpath (tx:=tx) hT).mono ?_;rintro e wn ⟨rfl,hb3⟩;replace hT:=hT.up hb3;replace dT:=dT.below hb3;replace hO:=hO.up hb3;replace hb:=zah hb hb.size hb3;obtain ⟨c0,c1,c2,c3⟩:=dT.c4;have cl:=dT.lt;have o0:=zbl hO 6 _ rfl;have o1:=zbl hO 9 _ rfl;have o2:=zbl hO 10 _ rfl;have o3:=zbl hO 11 _ rfl;clear hb3))
 clear o0 o1 o2 o3;have o0:=zbl hO 6 _ rfl;have o1:=zbl hO 9 _ rfl;have o2:=zbl hO 10 _ rfl;have o3:=zbl hO 11 _ rfl;simp only [List.append];go_wp2_with (first
  | (go_at_call 19;with_reducible refine (xlevel1 (tx:=tx) hT).mono ?_;rintro e wn ⟨rfl,hb3⟩;replace hT:=hT.up hb3;replace dT:=dT.below hb3;replace hO:=hO.up hb3;replace hb:=zah hb hb.size hb3;obtain ⟨c0,c1,c2,c3⟩:=dT.c4;have cl:=dT.lt;have o0:=zbl hO 6 _ rfl;have o1:=zbl hO 9 _ rfl;have o2:=zbl hO 10 _ rfl;have o3:=zbl hO 11 _ rfl;clear hb3)
  | (go_at_call 19;with_reducible refine (xlevel0 (tx:=tx) hT).mono ?_;rintro e wn ⟨rfl,hb3⟩;replace hT:=hT.up hb3;replace dT:=dT.below hb3;replace hO:=hO.up hb3;replace hb:=zah hb hb.size hb3;obtain ⟨c0,c1,c2,c3⟩:=dT.c4;have cl:=dT.lt;have o0:=zbl hO 6 _ rfl;have o1:=zbl hO 9 _ rfl;have o2:=zbl hO 10 _ rfl;have o3:=zbl hO 11 _ rfl;clear hb3)
  | (go_at_call 17;with_reducible refine (xmay1 (tx:=tx) hT).mono ?_;rintro e wn ⟨rfl,hb3⟩;replace hT:=hT.up hb3;replace dT:=dT.below hb3;replace hO:=hO.up hb3;replace hb:=zah hb hb.size hb3;obtain ⟨c0,c1,c2,c3⟩:=dT.c4;have cl:=dT.lt;have o0:=zbl hO 6 _ rfl;have o1:=zbl hO 9 _ rfl;have o2:=zbl hO 10 _ rfl;have o3:=zbl hO 11 _ rfl;clear hb3)
  | (go_at_call 17;with_reducible refine (xmay0 (tx:=tx) hT).mono ?_;rintro e wn ⟨rfl,hb3⟩;replace hT:=hT.up hb3;replace dT:=dT.below hb3;replace hO:=hO.up hb3;replace hb:=zah hb hb.size hb3;obtain ⟨c0,c1,c2,c3⟩:=dT.c4;have cl:=dT.lt;have o0:=zbl hO 6 _ rfl;have o1:=zbl hO 9 _ rfl;have o2:=zbl hO 10 _ rfl;have o3:=zbl hO 11 _ rfl;clear hb3)
  | (go_at_call 7;with_reducible refine (xlen (tx:=tx) hT).mono ?_;rintro e wn ⟨rfl,hb3⟩;replace hT:=hT.up hb3;replace dT:=dT.below hb3;replace hO:=hO.up hb3;replace hb:=zah hb hb.size hb3;obtain ⟨c0,c1,c2,c3⟩:=dT.c4;have cl:=dT.lt;have o0:=zbl hO 6 _ rfl;have o1:=zbl hO 9 _ rfl;have o2:=zbl hO 10 _ rfl;have o3:=zbl hO 11 _ rfl;clear hb3)
  | (go_at_call 11;with_reducible refine (xhas (tx:=tx) hT).mono ?_;rintro e wn ⟨rfl,hb3⟩;replace hT:=hT.up hb3;replace dT:=dT.below hb3;replace hO:=hO.up hb3;replace hb:=zah hb hb.size hb3;obtain ⟨c0,c1,c2,c3⟩:=dT.c4;have cl:=dT.lt;have o0:=zbl hO 6 _ rfl;have o1:=zbl hO 9 _ rfl;have o2:=zbl hO 10 _ rfl;have o3:=zbl hO 11 _ rfl;clear hb3))
 go_ret
 exact ⟨rfl,hb⟩
end Go.Proofs.YtiepddmagfmllaaGreat
