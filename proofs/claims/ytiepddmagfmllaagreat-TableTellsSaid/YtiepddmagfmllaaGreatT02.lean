import Derived.WalkKit
import Derived.WalkSpells
import Derived.WalkLawsBesides
import Derived.Handy
import Derived.Lib.Hide
import Derived.Deep.AppendSrc
import Derived.Deep.Draws
import Derived.Maps.AppendAt
import Derived.Laws.RangeAny
set_option maxRecDepth 100000
set_option maxHeartbeats 4000000
namespace Go.Proofs.YtiepddmagfmllaaGreat
open Go.RowKit
structure Rd (w:World) (B size:Nat) (A:Option Addr) (n c:Nat) (xs:List Value):Prop where
 len:xs.length=n * size
 cap:n≤c
 capm:c≤maxLen
 nil:A=none→n=0∧c=0
 at_:0<n→∃b o,A=some ⟨b,o,none⟩∧b<B∧∀j u,xs[j]? = some u→w.cell? ⟨b,o + j,none⟩=some u
section
variable {w w':World} {B B' size n c:Nat} {A:Option Addr} {xs:List Value}
theorem Rd.keep (h:Rd w B size A n c xs) (hk:∀p:Addr,p.block<B→w'.cell? p=w.cell? p):Rd w' B size A n c xs :=
 ⟨h.len,h.cap,h.capm,h.nil,fun hn=>by
  obtain ⟨b,o,e,hb,hc⟩:=h.at_ hn;exact ⟨b,o,e,hb,fun j u hj=>(hk _ hb).trans (hc j u hj)⟩⟩
theorem Rd.below (h:Rd w B size A n c xs) (hb:Below B w w'):Rd w' B size A n c xs:=h.keep fun _ hp=>hb.cell hp
theorem Rd.more (h:Rd w B size A n c xs) (hB:B≤B'):Rd w B' size A n c xs :=
 ⟨h.len,h.cap,h.capm,h.nil,fun hn=>by
  obtain ⟨b,o,e,hb,hc⟩:=h.at_ hn;exact ⟨b,o,e,Nat.lt_of_lt_of_le hb hB,hc⟩⟩
theorem Rd.alloc (h:Rd w B size A n c xs) (hB:B≤w.heap.size) (o:Obj):Rd (w.alloc o) B size A n c xs:=h.below ((Below.refl _ _).alloc hB o)
theorem Rd.drew (h:Rd w B size A n c xs):Rd w.drew B size A n c xs:=h.keep fun _ _=>rfl
theorem Rd.none_ (w:World) (B size:Nat):Rd w B size none 0 0 []:=⟨by simp,Nat.le_refl _,by simp [maxLen],fun _=>⟨rfl,rfl⟩,fun h=>absurd h (by omega)⟩
theorem Rd.get (h:Rd w B 1 A n c xs) {k:Nat} (hk:k<n):∃b o u,A=some ⟨b,o,none⟩∧b<B∧xs[k]? = some u∧w.cell? ⟨b,o + k,none⟩=some u:=by
 obtain ⟨b,o,e,hb,hc⟩:=h.at_ (by omega);have hl:k<xs.length:=by have:=h.len;omega
 exact ⟨b,o,xs[k],e,hb,List.getElem?_eq_getElem hl,hc k _ (List.getElem?_eq_getElem hl)⟩
theorem Rd.cut (h:Rd w B size A n c xs) {k:Nat} (hk:k≤n):Rd w B size (if c=k then A else A.map (·.add (k * size))) (n-k) (c-k) (xs.drop (k * size)):=by
 have hcap:=h.cap;refine ⟨by rw [List.length_drop,h.len,Nat.sub_mul],by omega,by have:=h.capm;omega,?_,?_⟩
 · intro e;have hA:A=none:=by
    split at e
    · exact e
    · simpa using e
   have:=h.nil hA;omega
 · intro hn;obtain ⟨b,o,rfl,hb,hc⟩:=h.at_ (by omega);rw [if_neg (by omega)];refine ⟨b,o + k * size,by simp [Addr.add_lit],hb,fun j u hj=>?_⟩;rw [Nat.add_assoc];exact hc _ u (by rw [←hj,List.getElem?_drop])
theorem Rd.pre (h:Rd w B size A n c xs) {k:Nat} (hk:k≤n):Rd w B size A k c (xs.take (k * size)):=by
 have hcap:=h.cap;refine ⟨by rw [List.length_take,h.len];exact Nat.min_eq_left (Nat.mul_le_mul_right _ hk),by omega,h.capm,fun e=>by have:=h.nil e;omega,fun hn=>?_⟩;obtain ⟨b,o,e,hb,hc⟩:=h.at_ (by omega);refine ⟨b,o,e,hb,fun j u hj=>hc j u ?_⟩;rw [List.getElem?_take] at hj;split at hj
 · exact hj
 · cases hj
theorem Rd.own {base:Nat} {e:TypeId} {v:Value} (h:w.ownsRow base e size v n xs):∃A c,v = .slice A n c∧Rd w w.heap.size size A n c xs:=by
 rcases h.2 with ⟨rfl,rfl⟩ | ⟨g,cap,cur,rfl,hb,hh,hn,hm,hc,ht⟩
 · exact ⟨none,0,rfl,⟨h.1,Nat.le_refl _,by simp [maxLen],fun _=>⟨rfl,rfl⟩,fun h=>absurd h (by omega)⟩⟩
 · refine ⟨_,_,rfl,⟨h.1,hn,hm,fun e=>(by cases e),fun hp=>?_⟩⟩;exact ⟨g,0,rfl,(Array.getElem?_eq_some_iff.1 hh).1,fun j u hj=>by rw [←Addr.add_lit];exact h.cells (g:=g) rfl j u hj⟩
theorem Rd.src {P:Program} {tx e':TypeId} (hk:P.underlying tx=some (.slice e')) (h:Rd w B size A n c xs) (h1:∀u ∈ xs,u.oneCell'=true):Src P size tx (.slice A n c) n xs w:=by
 rcases Nat.eq_zero_or_pos n with h0 | h0
 · subst h0;have:xs=[]:=List.eq_nil_of_length_eq_zero (by simpa using h.len);subst this;rcases A with _ | ad
   · exact Src.ofNil w hk c
   · exact Src.ofSlice w hk ad 0 c [] (by simp) (fun j u hj=>by simp at hj) h1
 · obtain ⟨b,o,rfl,_,hc⟩:=h.at_ h0;exact Src.ofSlice w hk _ n c xs h.len (fun j u hj=>by rw [Addr.add_lit];exact hc j u hj) h1
end
theorem zav {w:World} {base base':Nat} {e:TypeId} {size n:Nat} {v:Value} {xs:List Value} (h:w.ownsRow base e size v n xs) (hb:base'≤base):w.ownsRow base' e size v n xs:=by
 refine ⟨h.1,?_⟩;rcases h.2 with h2 | ⟨g,cap,cur,hv,hg,r⟩
 · exact .inl h2
 · exact .inr ⟨g,cap,cur,hv,by omega,r⟩
theorem Rd.lit (w:World) (cs:Array Value) (t:TypeId) (n size:Nat) (h:cs.size=n * size) (hn:n≤maxLen):Rd (w.alloc (.cells cs t)) (w.heap.size + 1) size (some ⟨w.heap.size,0,none⟩) n n cs.toList :=
 ⟨by rw [Array.length_toList];exact h,Nat.le_refl _,hn,fun e=>(by cases e),fun _=>⟨_,_,rfl,Nat.lt_succ_self _,fun j u hj=>by
  rw [cell_of_row _ _ _ cs t (0,0) (heap_alloc_new w _)];simpa using hj⟩⟩
theorem Rd.litX (w:World) (cs:Array Value) (t:TypeId) (n size:Nat) (xs:List Value) (hx:cs.toList=xs) (h:cs.size=n * size) (hn:n≤maxLen):Rd (w.alloc (.cells cs t)) (w.alloc (.cells cs t)).heap.size size (some ⟨w.heap.size,0,none⟩) n n xs:=by
 subst hx;simpa using Rd.lit w cs t n size h hn
theorem zhc (w:World) (cs:Array Value) (t:TypeId) (n size base:Nat) (h:cs.size=n * size) (hn:n≤maxLen) (hb:base≤w.heap.size):(w.alloc (.cells cs t)).ownsRow base t size (.slice (some ⟨w.heap.size,0,none⟩) n n) n cs.toList :=
 ⟨by rw [Array.length_toList];exact h,.inr ⟨w.heap.size,n,cs,rfl,hb,heap_alloc_new w _,Nat.le_refl _,hn,h,List.take_of_length_le (by rw [Array.length_toList,h];exact Nat.le_refl _)⟩⟩
theorem zbv (b:Nat):∀(vs:List Value) (o:Nat) (w:World) (k:Nat),k≠b→(w.setCells b o vs).heap[k]? = w.heap[k]?
 | [],_,_,_,_=>rfl
 | v::r,o,w,k,h=>by
  show ((w.setCell ⟨b,o,none⟩ v).setCells b (o + 1) r).heap[k]? = _;rw [zbv b r (o + 1) _ k h,Below.heap_setCell _ _ _ _ h]
theorem zc5 (b:Nat):∀(vs:List Value) (o:Nat) (w:World),(w.setCells b o vs).heap.size=w.heap.size
 | [],_,_=>rfl
 | v::r,o,w=>by
  show ((w.setCell ⟨b,o,none⟩ v).setCells b (o + 1) r).heap.size=_;rw [zc5 b r];simp [World.setCell]
theorem zbg (b:Nat):∀(vs:List Value) (o:Nat) (w:World),(w.setCells b o vs).os=w.os∧(w.setCells b o vs).tape=w.tape∧(w.setCells b o vs).output=w.output
 | [],_,_=>⟨rfl,rfl,rfl⟩
 | v::r,o,w=>zbg b r (o + 1) (w.setCell ⟨b,o,none⟩ v)
theorem zbM (b:Nat) (t:TypeId) (fr:Nat × Nat):∀(vs:List Value) (o:Nat) (w:World) (cur:Array Value),w.heap[b]? = some (.cells cur t fr)→o + vs.length≤cur.size →
 ∃cur',(w.setCells b o vs).heap[b]? = some (.cells cur' t fr)∧cur'.size=cur.size∧cur'.toList.take (o + vs.length)=cur.toList.take o ++ vs
 | [],o,w,cur,h,_=>⟨cur,h,rfl,by simp⟩
 | v::r,o,w,cur,h,hl=>by
  simp only [List.length_cons] at hl;have h1:(w.setCell ⟨b,o,none⟩ v).heap[b]? = some (.cells (cur.setIfInBounds o v) t fr):=by
   simp [World.setCell,Array.getElem?_modify,h]
  obtain ⟨cur',g1,g2,g3⟩:=zbM b t fr r (o + 1) _ _ h1 (by simp;omega);refine ⟨cur',g1,by rw [g2];simp,?_⟩;rw [show o + (v::r).length=o + 1 + r.length from by simp;omega,g3];have:(cur.setIfInBounds o v).toList.take (o + 1)=cur.toList.take o ++ [v]:=by
   rw [Array.toList_setIfInBounds,List.take_set,List.take_succ_eq_append_getElem (by simp;omega)];rw [List.set_append_right _ _ (by simp;omega)];simp [show min o cur.size=o from by omega]
  rw [this];simp
section
variable {P:Program} (w:World)
theorem zcD (base:Nat) (t tx ty e:TypeId) (i:TypeInfo) (z:Value) (size bytes:Nat) (ht:P.underlying t=some (.slice e)) (hi:P.info? e=some i) (hz:i.zero=some z)
 (hsize:i.size=size) (hby:i.bytes=bytes) (hzs:z.cells.size=size) (hsz:0<size)
 (v:Value) (n:Nat) (xs:List Value) (hown:w.ownsRow base e size v n xs) (x:Value) (m:Nat) (news:List Value) (hs:Src P size tx x m news w)
 (h63:n + m≤maxLen) (hbytes:(n + m) * bytes≤140737488355328) (hbase:base≤w.heap.size) :
 ∃v' w',(Builtin.append_ #[t,tx] ty #[v,x]).run P w = .ok v' w'∧w'.ownsRow base e size v' (n + m) (xs ++ news)∧w.grownBy w' v.ownBlock∧(v'.ownBlock=v.ownBlock∨v'.ownBlock=some w.heap.size):=by
 subst hsize;subst hby;have hsmall:n + m≤9223372036854775807:=by simp only [maxLen] at h63;omega
 have hlen:(xs ++ news).length=(n + m) * i.size:=by rw [List.length_append,hown.1,hs.newsLen,Nat.add_mul]
 have grown:∀(old:Nat),old<n + m→∀(row:Option Nat),(w.drew.alloc (.cells ((xs ++ news).toArray ++ Builtin.zeroCells z.cells (grownCap w (n + m) old e-(n + m))) e)).ownsRow base e i.size
   (.slice (some ⟨w.heap.size,0,none⟩) (n + m) (grownCap w (n + m) old e)) (n + m) (xs ++ news) ∧
  w.grownBy (w.drew.alloc (.cells ((xs ++ news).toArray ++ Builtin.zeroCells z.cells (grownCap w (n + m) old e-(n + m))) e)) row:=by
  intro old ho row;have hge:=grownCap_ge w (n + m) old e;have hcm:grownCap w (n + m) old e≤maxLen:=grownCap_le_maxLen w (n + m) old e h63;refine ⟨⟨hlen,.inr ⟨w.heap.size,_,_,rfl,hbase,heap_alloc_new w.drew _,hge,hcm,?_,?_⟩⟩,⟨rfl,rfl,rfl,by simp,fun k hk _=>heap_alloc_old w.drew _ hk⟩⟩
  · simp only [Array.size_append,List.size_toArray,size_zeroCells,hzs,hlen,←Nat.add_mul];congr 1
    omega
  · simp only [Array.toList_append,←hlen];exact List.take_left
 rcases hown.2 with ⟨rfl,rfl⟩ | ⟨g,cap,cur,rfl,hbg,hg,hnc,hcm,hcs,htake⟩
 · have hx:xs=[]:=List.eq_nil_of_length_eq_zero (by simpa using hown.1);subst hx;by_cases hm:m=0
   · subst hm;have hn:news=[]:=List.eq_nil_of_length_eq_zero (by simpa using hs.newsLen);subst hn;refine ⟨.slice none 0 0,w,?_,by simpa using World.ownsRow_nil w base e i.size,⟨rfl,rfl,rfl,Nat.le_refl _,fun _ _ _=>rfl⟩,Or.inl rfl⟩;have hl0:=hs.len;have hc0:=hs.cells;rcases hs.kind with ⟨e',hk⟩ | hk <;> simp [Builtin.append_,run_underlying ht,run_underlying hk,sizeOf,typeInfo,hi,hl0,hc0]
   · have hr:=run_append_grow_src (P:=P) w t tx ty e i z ht hi hz none 0 0 [] (by simp [Builtin.firstCells]) x m news hs (by omega) (by omega) (growslice_fits (by omega) hbytes);have hgr:=grown 0 (by omega) (Value.ownBlock (.slice none 0 0));exact ⟨_,_,hr,hgr.1,hgr.2,Or.inr rfl⟩
 · by_cases hroom:n + m≤cap
   · have hfit:n * i.size + news.length≤cur.size:=by rw [hs.newsLen,hcs,←Nat.add_mul];exact Nat.mul_le_mul_right _ hroom
     have hcell:∀j,j<cur.size→(w.cell? ⟨g,j,none⟩).isSome=true:=fun j hj=>by
      rw [cell_of_row w g j cur e (0,0) hg];simp [hj]
     have hfz:∀j,w.frozen? ⟨g,j,none⟩=false:=fun j=>by simp [World.frozen?,hg]
     have hr:=run_append_room_src (P:=P) w t tx ty e i ht hi g 0 n cap x m news hs hroom (fun j hj=>hcell _ (by omega)) (fun j hj=>hfz _);rw [Nat.zero_add] at hr;obtain ⟨cur',g1,g2,g3⟩:=zbM g e (0,0) news (n * i.size) w cur hg hfit;obtain ⟨s1,s2,s3⟩:=zbg g news (n * i.size) w;refine ⟨_,_,hr,⟨hlen,.inr ⟨g,cap,cur',rfl,hbg,g1,hroom,hcm,by rw [g2,hcs],?_⟩⟩,⟨s1,s2,s3,by rw [zc5];exact Nat.le_refl _,fun k _ hk=>zbv g _ _ _ k (fun e=>hk (by simp [Value.ownBlock,e]))⟩,Or.inl rfl⟩;rw [←htake,←g3,hs.newsLen,←Nat.add_mul]
   · have holds:∀j u,xs[j]? = some u→w.cell? ((⟨g,0,none⟩:Addr).add j)=some u:=hown.cells (g:=g) rfl;have hr:=run_append_grow_src (P:=P) w t tx ty e i z ht hi hz (some ⟨g,0,none⟩) n cap xs (run_firstCells_some w.drew i.size n ⟨g,0,none⟩ n cap xs hown.1 (by simpa using holds)) x m news hs (by omega) (by omega) (growslice_fits (by omega) hbytes);have hgr:=grown cap (by omega) (Value.ownBlock (.slice (some ⟨g,0,none⟩) n cap));exact ⟨_,_,hr,hgr.1,hgr.2,Or.inr rfl⟩
theorem zab {ops:Array Oper} {rest:List Oper} {o:Oper} {a:Act} {Q:Exit→Act→World→Prop} (hgd:o.guard=none) (s x:Operand) (t tx:TypeId)
 (ho:o.op = .call { callee:=.builtin .append,args:=#[s,x],argTypes:=#[t,tx] })
 (base:Nat) (e:TypeId) (i:TypeInfo) (z:Value) (size bytes:Nat) (ht:P.underlying t=some (.slice e)) (hi:P.info? e=some i) (hz:i.zero=some z)
 (hsize:i.size=size) (hby:i.bytes=bytes) (hzs:z.cells.size=size) (hsz:0<size)
 (v:Value) (n:Nat) (xs:List Value) (hv:a.eval s=v) (hown:w.ownsRow base e size v n xs) (y:Value) (m:Nat) (news:List Value) (hx:a.eval x=y) (hs:Src P size tx y m news w)
 (h63:n + m≤maxLen) (hbytes:(n + m) * bytes≤140737488355328) (hbase:base≤w.heap.size)
 (h:∀v' w',w'.ownsRow base e size v' (n + m) (xs ++ news)→w.grownBy w' v.ownBlock→(v'.ownBlock=v.ownBlock∨v'.ownBlock=some w.heap.size)→wpList P ops Q rest (a.put o.dst v') w') :
 wpList P ops Q (o::rest) a w:=by
 refine wpList_plain hgd fun K hK=>?_;obtain ⟨v',w',hr,h2,h3,h4⟩:=zcD (P:=P) w base t tx o.type e i z size bytes ht hi hz hsize hby hzs hsz v n xs hown y m news hs h63 hbytes hbase;unfold Oper.wp execOp;simp only [ho,resolve,invoke,builtin,Sem.run_bind,Sem.run_pure,Result.andThen_ok,List.map_toArray,List.map_cons,List.map_nil,hv,hx,hr];exact hK _ _ (h v' w' h2 h3 h4)
end
theorem zak {B:Nat} {w0 w w':World} {base:Nat} {e:TypeId} {size n:Nat} {v:Value} {xs:List Value} (hb:Below B w0 w) (hg:w.grownBy w' v.ownBlock) (hown:w.ownsRow base e size v n xs) (hB:B≤w.heap.size) (hle:B≤base):Below B w0 w' :=
 hb.grown hg hB fun k hk=>Nat.le_trans hle (hown.lt k hk).1
def bv (l:List UInt8):List Value:=l.map fun b=>Value.int .u8 b.toNat
theorem zlf (l:List UInt8):(bv l).length=l.length:=by simp [bv]
theorem bv_get (l:List UInt8) (k:Nat):(bv l)[k]? = l[k]?.map fun b=>Value.int .u8 b.toNat:=by simp [bv]
def strOf (l:List UInt8):ByteArray:=⟨l.toArray⟩
theorem Rd.conv {P:Program} {w:World} {B n c:Nat} {A:Option Addr} {l:List UInt8} (h:Rd w B 1 A n c (bv l)) (src dst e:TypeId) (hs:P.underlying src=some (.slice e)) (he:P.underlying e=some (.int .u8)) (hd:P.underlying dst=some .string) :
 (convert src dst (.slice A n c)).run P w = .ok (.string (strOf l)) w:=by
 have hl:n=l.length:=by have:=h.len;rw [zlf] at this;omega
 subst hl;rcases A with _ | a
 · obtain ⟨h0,rfl⟩:=h.nil rfl;have:l=[]:=List.eq_nil_of_length_eq_zero h0;subst this;rw [run_convert_bytes_string w src dst e none _ _ hs he hd];rfl
 · refine run_convert_bytes_back w src dst e a c l hs he hd fun j hj=>?_;obtain ⟨b,o,e1,_,hc⟩:=h.at_ (by omega);simp at e1;subst e1;rw [Addr.add_lit];exact hc j _ (by rw [bv_get,List.getElem?_eq_getElem hj];rfl)
def be (n:Nat):List UInt8:=if n=0 then [] else be (n / 256) ++ [UInt8.ofNat (n % 256)]
end Go.Proofs.YtiepddmagfmllaaGreat
namespace Go.Proofs.YtiepddmagfmllaaGreat
def dec (n b0 b1 b2 b3:Nat):Nat × Nat :=
 if b0<128 then (b0,1)
 else if 194≤b0∧b0≤223∧1<n∧128≤b1∧b1≤191 then ((b0 % 32) * 64 + b1 % 64,2)
 else if 224≤b0∧b0≤239∧2<n∧128≤b1∧b1≤191∧(b0=224→160≤b1)∧(b0=237→b1≤159)∧128≤b2∧b2≤191 then ((b0 % 16) * 4096 + (b1 % 64) * 64 + b2 % 64,3)
 else if 240≤b0∧b0≤244∧3<n∧128≤b1∧b1≤191∧(b0=240→144≤b1)∧(b0=244→b1≤143)∧128≤b2∧b2≤191∧128≤b3∧b3≤191 then ((b0 % 8) * 262144 + (b1 % 64) * 4096 + (b2 % 64) * 64 + b3 % 64,4)
 else (65533,1)
def bt (s:ByteArray) (i:Nat):Nat:=(s.get! i).toNat
theorem zfc (s:ByteArray) (i:Nat):bt s i<256:=(s.get! i).toNat_lt
theorem zdm (s:ByteArray) (i:Nat) (h:i<s.size):bt s i=(s[i]'h).toNat:=by
 have:=get_at s i h;rw [Nat.add_zero] at this;unfold bt;rw [this]
theorem zaA (s:ByteArray) (i:Nat) (h:i<s.size):Utf8.decode s i=dec (s.size-i) (bt s i) (bt s (i + 1)) (bt s (i + 2)) (bt s (i + 3)):=by
 have h0:=zfc s i;have h1:=zfc s (i + 1);have h2:=zfc s (i + 2);have h3:=zfc s (i + 3);have e:Utf8.decode s i =
  (if bt s i<0x80 then (bt s i,1)
  else if bt s i / 32 == 6 && (decide (i + 1<s.size) && bt s (i + 1) / 64 == 2) then
   (if (bt s i % 32) * 64 + bt s (i + 1) % 64 ≥ 0x80 then ((bt s i % 32) * 64 + bt s (i + 1) % 64,2) else (Utf8.runeError,1))
  else if bt s i / 16 == 14 && (decide (i + 1<s.size) && bt s (i + 1) / 64 == 2) && (decide (i + 2<s.size) && bt s (i + 2) / 64 == 2) then
   (if (bt s i % 16) * 4096 + (bt s (i + 1) % 64) * 64 + bt s (i + 2) % 64 ≥ 0x800 && Utf8.valid ((bt s i % 16) * 4096 + (bt s (i + 1) % 64) * 64 + bt s (i + 2) % 64:Nat) then ((bt s i % 16) * 4096 + (bt s (i + 1) % 64) * 64 + bt s (i + 2) % 64,3) else (Utf8.runeError,1))
  else if bt s i / 8 == 30 && (decide (i + 1<s.size) && bt s (i + 1) / 64 == 2) && (decide (i + 2<s.size) && bt s (i + 2) / 64 == 2) && (decide (i + 3<s.size) && bt s (i + 3) / 64 == 2) then
   (if (bt s i % 8) * 262144 + (bt s (i + 1) % 64) * 4096 + (bt s (i + 2) % 64) * 64 + bt s (i + 3) % 64 ≥ 0x10000 && Utf8.valid ((bt s i % 8) * 262144 + (bt s (i + 1) % 64) * 4096 + (bt s (i + 2) % 64) * 64 + bt s (i + 3) % 64:Nat) then ((bt s i % 8) * 262144 + (bt s (i + 1) % 64) * 4096 + (bt s (i + 2) % 64) * 64 + bt s (i + 3) % 64,4) else (Utf8.runeError,1))
  else (Utf8.runeError,1)):=rfl
 rw [e];generalize bt s i=b0 at *
 generalize bt s (i + 1)=b1 at *
 generalize bt s (i + 2)=b2 at *
 generalize bt s (i + 3)=b3 at *
 unfold dec;by_cases c0:b0<128
 · rw [if_pos c0,if_pos c0]
 rw [if_neg c0,if_neg c0];by_cases c1:1<s.size-i∧128≤b1∧b1≤191
 · have k1:(decide (i + 1<s.size) && b1 / 64 == 2)=true:=by simp;omega
   rw [k1];by_cases c2:2<s.size-i∧128≤b2∧b2≤191
   · have k2:(decide (i + 2<s.size) && b2 / 64 == 2)=true:=by simp;omega
     rw [k2];by_cases c3:3<s.size-i∧128≤b3∧b3≤191
     · have k3:(decide (i + 3<s.size) && b3 / 64 == 2)=true:=by simp;omega
       rw [k3];simp only [Bool.and_true,Utf8.runeError,Utf8.valid,ge_iff_le,Bool.and_eq_true,Bool.or_eq_true,beq_iff_eq,decide_eq_true_eq];repeat' split
       all_goals (first | with_reducible rfl | (exfalso;omega) | (refine Prod.ext ?_ ?_ <;> dsimp only <;> omega))
     · have k3:(decide (i + 3<s.size) && b3 / 64 == 2)=false:=by simp;omega
       rw [k3];simp only [Bool.and_true,Bool.and_false,Utf8.runeError,Utf8.valid,ge_iff_le,Bool.and_eq_true,Bool.or_eq_true,beq_iff_eq,decide_eq_true_eq,Bool.false_eq_true,if_false];repeat' split
       all_goals (first | with_reducible rfl | (exfalso;omega) | (refine Prod.ext ?_ ?_ <;> dsimp only <;> omega))
   · have k2:(decide (i + 2<s.size) && b2 / 64 == 2)=false:=by simp;omega
     rw [k2];simp only [Bool.and_true,Bool.and_false,Bool.false_and,Utf8.runeError,Utf8.valid,ge_iff_le,Bool.and_eq_true,Bool.or_eq_true,beq_iff_eq,decide_eq_true_eq,Bool.false_eq_true,if_false];repeat' split
     all_goals (first | with_reducible rfl | (exfalso;omega) | (refine Prod.ext ?_ ?_ <;> dsimp only <;> omega))
 · have k1:(decide (i + 1<s.size) && b1 / 64 == 2)=false:=by simp;omega
   rw [k1];simp only [Bool.and_false,Bool.false_and,Bool.false_eq_true,if_false,Utf8.runeError];repeat' split
   all_goals (first | with_reducible rfl | (exfalso;omega) | (refine Prod.ext ?_ ?_ <;> dsimp only <;> omega))
def rn (s:ByteArray) (i:Nat):Nat:=(Utf8.decode s i).1
def wd (s:ByteArray) (i:Nat):Nat:=(Utf8.decode s i).2
def brk (s:ByteArray) (i:Nat):Bool:=decide (rn s i=65533∧wd s i=1)
def lng (s:ByteArray) (i:Nat):Nat:=if brk s i then 0 else wd s i
def inB (s:ByteArray) (i lo hi:Nat):Bool:=decide (i<s.size∧lo≤bt s i∧bt s i≤hi)
theorem zdp (n b0 b1 b2 b3:Nat) (h:0<n) (hb:b0<256):1≤(dec n b0 b1 b2 b3).2∧(dec n b0 b1 b2 b3).2≤n∧(dec n b0 b1 b2 b3).2≤4∧(dec n b0 b1 b2 b3).1≤1114111∧(128≤b0→128≤(dec n b0 b1 b2 b3).1)∧(b0<128→dec n b0 b1 b2 b3=(b0,1)):=by
 unfold dec;repeat' split
 all_goals (refine ⟨?_,?_,?_,?_,?_,?_⟩ <;> (try dsimp only) <;> first | omega | (intro hh;exfalso;omega) | (intro hh;with_reducible rfl))
theorem zde {s:ByteArray} {i:Nat} (h:i<s.size):1≤wd s i:=by unfold wd;rw [zaA s i h];exact (zdp _ _ _ _ _ (by omega) (zfc s i)).1
theorem wd_le {s:ByteArray} {i:Nat} (h:i<s.size):i + wd s i≤s.size:=by unfold wd;rw [zaA s i h];have:=(zdp (s.size-i) _ (bt s (i + 1)) (bt s (i + 2)) (bt s (i + 3)) (by omega) (zfc s i)).2.1;omega
theorem wd_le4 {s:ByteArray} {i:Nat} (h:i<s.size):wd s i≤4:=by unfold wd;rw [zaA s i h];exact (zdp _ _ _ _ _ (by omega) (zfc s i)).2.2.1
theorem rn_high {s:ByteArray} {i:Nat} (h:i<s.size) (hb:128≤bt s i):128≤rn s i:=by unfold rn;rw [zaA s i h];exact (zdp _ _ _ _ _ (by omega) (zfc s i)).2.2.2.2.1 hb
theorem ziH {s:ByteArray} {i:Nat} (h:i<s.size) (hb:bt s i<128):rn s i=bt s i∧wd s i=1:=by unfold rn wd;rw [zaA s i h,(zdp _ _ _ _ _ (by omega) (zfc s i)).2.2.2.2.2 hb];exact ⟨rfl,rfl⟩
def zlQ (p:Nat × Nat):Nat:=if p.1=65533∧p.2=1 then 0 else p.2
theorem lngp_low {b:Nat} (h:b<128):zlQ (b,1)=1:=by unfold zlQ;rw [if_neg (by dsimp only;omega)]
theorem lng_eq {s:ByteArray} {i:Nat} (h:i<s.size):lng s i =
 if bt s i<128 then 1
 else if 194≤bt s i∧bt s i≤223 then (if inB s (i + 1) 128 191 then 2 else 0)
 else if 224≤bt s i∧bt s i≤239 then (if (if bt s i=224 then inB s (i + 1) 160 191 else if bt s i=237 then inB s (i + 1) 128 159 else inB s (i + 1) 128 191) && inB s (i + 2) 128 191 then 3 else 0)
 else if 240≤bt s i∧bt s i≤244 then (if (if bt s i=240 then inB s (i + 1) 144 191 else if bt s i=244 then inB s (i + 1) 128 143 else inB s (i + 1) 128 191) && inB s (i + 2) 128 191 && inB s (i + 3) 128 191 then 4 else 0)
 else 0:=by
 have e1:(i + 1<s.size)=(1<s.size-i):=by apply propext;omega
 have e2:(i + 2<s.size)=(2<s.size-i):=by apply propext;omega
 have e3:(i + 3<s.size)=(3<s.size-i):=by apply propext;omega
 have hb:=zfc s i;have el:lng s i=zlQ (Utf8.decode s i):=by unfold lng brk rn wd zlQ;simp only [decide_eq_true_eq]
 rw [el,zaA s i h];unfold inB;simp only [e1,e2,e3];generalize s.size-i=n;generalize bt s i=b0 at *
 generalize bt s (i + 1)=b1 at *
 generalize bt s (i + 2)=b2 at *
 generalize bt s (i + 3)=b3 at *
 clear h e1 e2 e3 el;unfold dec;by_cases c0:b0<128
 · rw [if_pos c0,if_pos c0,lngp_low c0]
 rw [if_neg c0,if_neg c0];by_cases c1:194≤b0∧b0≤223
 · rw [if_pos c1];by_cases d:1<n∧128≤b1∧b1≤191
   · rw [if_pos ⟨c1.1,c1.2,d⟩,decide_eq_true d];simp [zlQ]
   · rw [if_neg (fun k=>d k.2.2),if_neg (by omega),if_neg (by omega),decide_eq_false d];simp [zlQ]
 rw [if_neg c1,if_neg (fun k=>c1 ⟨k.1,k.2.1⟩)];by_cases c2:224≤b0∧b0≤239
 · rw [if_pos c2];by_cases d:2<n∧128≤b1∧b1≤191∧(b0=224→160≤b1)∧(b0=237→b1≤159)∧128≤b2∧b2≤191
   · rw [if_pos ⟨c2.1,c2.2,d⟩,if_pos]
     · simp [zlQ]
     simp only [Bool.and_eq_true,decide_eq_true_eq];refine ⟨?_,by omega⟩;repeat' split
     all_goals (simp only [decide_eq_true_eq];omega)
   · rw [if_neg (fun k=>d k.2.2),if_neg (by omega),if_neg]
     · simp [zlQ]
     simp only [Bool.and_eq_true,decide_eq_true_eq];intro k;obtain ⟨k1,k2⟩:=k;repeat' split at k1
     all_goals (simp only [decide_eq_true_eq] at k1;omega)
 rw [if_neg c2,if_neg (fun k=>c2 ⟨k.1,k.2.1⟩)];by_cases c3:240≤b0∧b0≤244
 · rw [if_pos c3];by_cases d:3<n∧128≤b1∧b1≤191∧(b0=240→144≤b1)∧(b0=244→b1≤143)∧128≤b2∧b2≤191∧128≤b3∧b3≤191
   · rw [if_pos ⟨c3.1,c3.2,d⟩,if_pos]
     · simp [zlQ]
     simp only [Bool.and_eq_true,decide_eq_true_eq];refine ⟨⟨?_,by omega⟩,by omega⟩;repeat' split
     all_goals (simp only [decide_eq_true_eq];omega)
   · rw [if_neg (fun k=>d k.2.2),if_neg]
     · simp [zlQ]
     simp only [Bool.and_eq_true,decide_eq_true_eq];intro k;obtain ⟨⟨k1,k2⟩,k3⟩:=k;repeat' split at k1
     all_goals (simp only [decide_eq_true_eq] at k1;omega)
 rw [if_neg c3,if_neg (fun k=>c3 ⟨k.1,k.2.1⟩)];simp [zlQ]
theorem brk_eq {s:ByteArray} {i:Nat} (h:i<s.size):brk s i=(decide (rn s i=65533) && !decide (i + 3≤s.size∧bt s i=239∧bt s (i + 1)=191∧bt s (i + 2)=189)):=by
 have e2:(i + 3≤s.size)=(2<s.size-i):=by apply propext;omega
 unfold brk rn wd;simp only [zaA s i h,e2];generalize s.size-i=n;generalize bt s i=b0 at *
 generalize bt s (i + 1)=b1 at *
 generalize bt s (i + 2)=b2 at *
 generalize bt s (i + 3)=b3 at *
 rw [Bool.eq_iff_iff];simp only [Bool.and_eq_true,Bool.not_eq_true',decide_eq_true_eq,decide_eq_false_iff_not];unfold dec;repeat' split
 all_goals (dsimp only;omega)
def least (p:Nat→Bool):Nat→Nat→Nat
 | 0,k=>k
 | f + 1,k=>if p k then k else least p f (k + 1)
theorem zeQ (p:Nat→Bool):∀f k,(∃j,k≤j∧j≤k + f∧p j=true)→p (least p f k)=true∧k≤least p f k∧∀j,k≤j→j<least p f k→p j=false
 | 0,k,⟨j,h1,h2,h3⟩=>by
  have:j=k:=by omega
  subst this;exact ⟨h3,Nat.le_refl _,fun i a b=>by unfold least at b;omega⟩
 | f + 1,k,⟨j,h1,h2,h3⟩=>by
  unfold least;by_cases hk:p k=true
  · rw [if_pos hk];exact ⟨hk,Nat.le_refl _,fun i a b=>by omega⟩
  · rw [if_neg hk];have hne:j≠k:=fun e=>hk (e ▸ h3);obtain ⟨a,b,c⟩:=zeQ p f (k + 1) ⟨j,by omega,by omega,h3⟩;refine ⟨a,by omega,fun i hi1 hi2=>?_⟩;by_cases hik:i=k
    · subst hik;simpa using hk
    · exact c i (by omega) hi2
def nxt (s:ByteArray) (p:Nat):Nat:=if p<s.size then p + wd s p else p
def plc (s:ByteArray):Nat→Nat
 | 0=>0
 | k + 1=>nxt s (plc s k)
theorem zaU (s:ByteArray):∀k,plc s k≤s.size
 | 0=>Nat.zero_le _
 | k + 1=>by
  have ih:=zaU s k;show nxt s (plc s k)≤s.size;unfold nxt;split
  · rename_i h;exact wd_le h
  · exact ih
theorem zaJ {s:ByteArray} {k:Nat} (h:plc s k<s.size):plc s (k + 1)=plc s k + wd s (plc s k):=if_pos h
theorem zet {s:ByteArray} {k:Nat} (h:¬plc s k<s.size):plc s (k + 1)=plc s k:=if_neg h
theorem zaQ {s:ByteArray} {k:Nat} (h:plc s k<s.size):plc s k<plc s (k + 1):=by rw [zaJ h];have:=zde h;omega
theorem zf2 (s:ByteArray) (k:Nat):plc s k≤plc s (k + 1):=by
 by_cases h:plc s k<s.size
 · exact Nat.le_of_lt (zaQ h)
 · rw [zet h];exact Nat.le_refl _
theorem zaX (s:ByteArray) {j k:Nat} (h:j≤k):plc s j≤plc s k:=by
 induction k with
 | zero=>
  have:j=0:=by omega
  subst this;exact Nat.le_refl _
 | succ k ih =>
  by_cases e:j=k + 1
  · subst e;exact Nat.le_refl _
  · exact Nat.le_trans (ih (by omega)) (zf2 s k)
theorem zjQ {s:ByteArray}:∀{k:Nat},plc s k<s.size→k≤plc s k
 | 0,_=>Nat.zero_le _
 | k + 1,h=>by
  have h1:plc s k<s.size:=Nat.lt_of_le_of_lt (zf2 s k) h;have:=zjQ h1;have:=zaQ h1;omega
theorem zhh (s:ByteArray):plc s s.size=s.size:=by
 have h:=zaU s s.size;by_cases e:plc s s.size<s.size
 · have:=zjQ e;omega
 · omega
def cnt (s:ByteArray):Nat:=least (fun k=>!decide (plc s k<s.size)) s.size 0
theorem zcy (s:ByteArray):plc s (cnt s)=s.size∧∀j,j<cnt s→plc s j<s.size:=by
 obtain ⟨a,_,c⟩:=zeQ (fun k=>!decide (plc s k<s.size)) s.size 0 ⟨s.size,Nat.zero_le _,by omega,by simp [zhh]⟩;refine ⟨?_,fun j hj=>?_⟩
 · have:=zaU s (cnt s);have a':¬plc s (cnt s)<s.size:=by unfold cnt;simpa only [Bool.not_eq_true',decide_eq_false_iff_not] using a
   omega
 · have:=c j (Nat.zero_le _) hj;simpa using this
theorem za1 {s:ByteArray} {k:Nat}:k<cnt s↔plc s k<s.size:=by
 refine ⟨(zcy s).2 k,fun h=>?_⟩;rcases Nat.lt_or_ge k (cnt s) with h1 | h1
 · exact h1
 · have:=zaX s h1;rw [(zcy s).1] at this;omega
theorem zc8 (s:ByteArray):cnt s≤s.size:=by
 rcases Nat.lt_or_ge s.size (cnt s) with h | h
 · have:=za1.1 h;rw [zhh] at this;omega
 · exact h
theorem zhf {s:ByteArray} {k:Nat} (h:cnt s≤k):plc s k=s.size:=by
 have:=zaX s h;rw [(zcy s).1] at this;have:=zaU s k;omega
theorem zdX {s:ByteArray} {k:Nat} (h1:¬plc s k<s.size) (h2:∀j,j<k→plc s j<s.size):cnt s=k:=by
 rcases Nat.lt_trichotomy (cnt s) k with h | h | h
 · have:=h2 _ h;rw [(zcy s).1] at this;omega
 · exact h
 · exact absurd (za1.1 h) h1
def zb6 (s:ByteArray):Bool:=decide (∀k,k<cnt s→brk s (plc s k)=false)
theorem zbX {s:ByteArray}:zb6 s=true↔∀k,k<cnt s→brk s (plc s k)=false:=by unfold zb6;exact decide_eq_true_iff
def zbF (r:Nat):Bool:=decide ((97≤r∧r≤122)∨(65≤r∧r≤90)∨(48≤r∧r≤57)∨r=95∨160<r)
def zci (s:ByteArray) (i:Nat):Bool:=!brk s i && zbF (rn s i)
def zep (s:ByteArray):Bool:=decide (0<cnt s∧cnt s≤24∧∀k,k<cnt s→zci s (plc s k)=true)
theorem zbH {s:ByteArray}:zep s=true↔(0<cnt s∧cnt s≤24∧∀k,k<cnt s→zci s (plc s k)=true):=by unfold zep;exact decide_eq_true_iff
def cutA (s:ByteArray) (n:Nat):ByteArray:=s.extract 0 (plc s n)
def cutB (s:ByteArray) (n:Nat):ByteArray:=s.extract (plc s n) s.size
def zgN (c:Nat):Bool:=decide (c=95∨(97≤c∧c≤122)∨(65≤c∧c≤90)∨(48≤c∧c≤57))
theorem zcK (n b0 b1 b2 b3:Nat) :
 (b0<128∧dec n b0 b1 b2 b3=(b0,1)) ∨
 ((194≤b0∧b0≤223∧1<n∧128≤b1∧b1≤191)∧dec n b0 b1 b2 b3=((b0 % 32) * 64 + b1 % 64,2)) ∨
 ((224≤b0∧b0≤239∧2<n∧128≤b1∧b1≤191∧(b0=224→160≤b1)∧(b0=237→b1≤159)∧128≤b2∧b2≤191)∧dec n b0 b1 b2 b3=((b0 % 16) * 4096 + (b1 % 64) * 64 + b2 % 64,3)) ∨
 ((240≤b0∧b0≤244∧3<n∧128≤b1∧b1≤191∧(b0=240→144≤b1)∧(b0=244→b1≤143)∧128≤b2∧b2≤191∧128≤b3∧b3≤191)∧dec n b0 b1 b2 b3=((b0 % 8) * 262144 + (b1 % 64) * 4096 + (b2 % 64) * 64 + b3 % 64,4)) ∨
 (128≤b0∧dec n b0 b1 b2 b3=(65533,1)):=by
 unfold dec;by_cases c0:b0<128
 · exact .inl ⟨c0,if_pos c0⟩
 rw [if_neg c0];split
 · exact .inr (.inl ⟨‹_›,rfl⟩)
 · split
   · exact .inr (.inr (.inl ⟨‹_›,rfl⟩))
   · split
     · exact .inr (.inr (.inr (.inl ⟨‹_›,rfl⟩)))
     · exact .inr (.inr (.inr (.inr ⟨by omega,rfl⟩)))
theorem zlY {s:ByteArray} {i:Nat} (h:i<s.size):zci s i=if lng s i=1 then zgN (bt s i) else decide (1<lng s i) && (!decide (bt s i=194) || decide (160<bt s (i + 1))):=by
 unfold zci lng brk rn wd;rw [zaA s i h];rcases zcK (s.size-i) (bt s i) (bt s (i + 1)) (bt s (i + 2)) (bt s (i + 3)) with ⟨c,e⟩ | ⟨c,e⟩ | ⟨c,e⟩ | ⟨c,e⟩ | ⟨c,e⟩
 · have hb:decide (bt s i=65533∧1=1)=false:=by simp;omega
   rw [e];dsimp only;rw [hb];unfold zbF zgN;rw [Bool.eq_iff_iff];simp;omega
 · have hb:decide (bt s i % 32 * 64 + bt s (i + 1) % 64=65533∧2=1)=false:=by simp
   rw [e];dsimp only;rw [hb];unfold zbF;rw [Bool.eq_iff_iff];simp;omega
 · have hb:decide (bt s i % 16 * 4096 + bt s (i + 1) % 64 * 64 + bt s (i + 2) % 64=65533∧3=1)=false:=by simp
   rw [e];dsimp only;rw [hb];unfold zbF;rw [Bool.eq_iff_iff];simp;omega
 · have hb:decide (bt s i % 8 * 262144 + bt s (i + 1) % 64 * 4096 + bt s (i + 2) % 64 * 64 + bt s (i + 3) % 64=65533∧4=1)=false:=by simp
   rw [e];dsimp only;rw [hb];unfold zbF;rw [Bool.eq_iff_iff];simp;omega
 · rw [e];simp
theorem lng_next {s:ByteArray} {i:Nat} (h:i<s.size) (hl:1<lng s i):i + 1<s.size:=by
 have:=wd_le h;unfold lng at hl;split at hl <;> omega
theorem lng_le {s:ByteArray} {i:Nat} (h:i<s.size):lng s i≤4:=by
 have:=wd_le4 h;unfold lng;split <;> omega
theorem brk_lng {s:ByteArray} {i:Nat} (h:i<s.size):brk s i=decide (lng s i=0):=by
 have:=zde h;unfold lng;by_cases hb:brk s i=true
 · rw [if_pos hb,hb];rfl
 · rw [if_neg hb];simp only [Bool.not_eq_true] at hb;rw [hb];symm;simp;omega
theorem zc7 {a b:ByteArray} (h:a.size=b.size) (he:∀k,k<a.size→bt a k=bt b k):a=b:=by
 refine ByteArray.ext_getElem h fun i h1 h2=>?_;have:=he i h1;rw [zdm a i h1,zdm b i h2] at this;exact UInt8.toNat_inj.1 this
theorem za0 (s:ByteArray) (a b:Nat):(s.extract a b).size=min b s.size-a:=by simp
theorem zbU (s:ByteArray) (a b k:Nat) (h:a + k<min b s.size):bt (s.extract a b) k=bt s (a + k):=by
 have h1:k<(s.extract a b).size:=by rw [za0];omega
 have h2:a + k<s.size:=by omega
 rw [zdm _ k h1,zdm s _ h2];simp [ByteArray.getElem_extract]
theorem size_app (a b:ByteArray):(a ++ b).size=a.size + b.size:=by simp
theorem zbS (a b:ByteArray) (k:Nat) (h:k<a.size):bt (a ++ b) k=bt a k:=by
 rw [zdm _ k (by rw [size_app];omega),zdm a k h,ByteArray.getElem_append_left h]
theorem zbx (a b:ByteArray) (k:Nat) (h:k<b.size):bt (a ++ b) (a.size + k)=bt b k:=by
 rw [zdm _ _ (by rw [size_app];omega),zdm b k h,ByteArray.getElem_append_right (by omega)];simp
theorem ziJ (s:ByteArray):s.extract 0 s.size=s:=zc7 (by rw [za0];omega) fun k hk=>by rw [za0] at hk;rw [zbU _ _ _ _ (by omega),Nat.zero_add]
theorem toList_inj {a b:ByteArray}:(a.toList == b.toList)=decide (a=b):=by
 rw [Bool.eq_iff_iff];simp only [beq_iff_eq,decide_eq_true_eq];constructor
 · intro h;rw [ByteArray.toList_eq,ByteArray.toList_eq] at h;exact ByteArray.ext (Array.toList_inj.1 h)
 · intro h;rw [h]
theorem zmM {a b:ByteArray} (h:¬a=b):(a.toList == b.toList)=false:=by rw [toList_inj];exact decide_eq_false h
theorem list_ne {s:ByteArray} (h:0<s.size):(!s.toList.isEmpty)=true:=by
 rw [ByteArray.toList_eq];have hl:0<s.data.toList.length:=by simpa using h
 revert hl
 cases s.data.toList with
 | nil=>intro hl;exact absurd hl (Nat.not_lt_zero _)
 | cons a r=>intro _;rfl
theorem zg5 {s:ByteArray} (h:0<s.size):s.toList.isEmpty=false:=by have:=list_ne h;simpa using this
def sBad:ByteArray:=⟨#[239,191,189]⟩
theorem zif:sBad.size=3:=rfl
theorem pre_bad {s:ByteArray} {i:Nat} (h:i<s.size):decide (sBad.size≤(s.extract i s.size).size∧(s.extract i s.size).extract 0 sBad.size=sBad)=decide (i + 3≤s.size∧bt s i=239∧bt s (i + 1)=191∧bt s (i + 2)=189):=by
 rw [Bool.eq_iff_iff];simp only [decide_eq_true_eq,zif,za0];have hsz:∀k,k<min 3 (s.size-i)→bt ((s.extract i s.size).extract 0 3) k=bt s (i + k):=fun k hk=>by
  rw [zbU _ _ _ _ (by rw [za0];omega),zbU _ _ _ _ (by omega),Nat.zero_add]
 constructor
 · rintro ⟨h1,h2⟩;refine ⟨by omega,?_,?_,?_⟩
   · have:=hsz 0 (by omega);rw [h2] at this;exact this.symm
   · have:=hsz 1 (by omega);rw [h2] at this;exact this.symm
   · have:=hsz 2 (by omega);rw [h2] at this;exact this.symm
 · rintro ⟨h1,h2,h3,h4⟩;refine ⟨by omega,zc7 (by rw [za0,za0,zif];omega) fun k hk=>?_⟩;rw [za0,za0] at hk;rw [hsz k (by omega)];obtain rfl | rfl | rfl:k=0∨k=1∨k=2:=by omega
   · rw [Nat.add_zero,h2];rfl
   · rw [h3];rfl
   · rw [h4];rfl
theorem zhJ {n b0 b1 b2 b3 c1 c2 c3:Nat} (h1:1<n→b1=c1) (h2:2<n→b2=c2) (h3:3<n→b3=c3):dec n b0 b1 b2 b3=dec n b0 c1 c2 c3:=by
 by_cases n1:1<n
 · rw [h1 n1];by_cases n2:2<n
   · rw [h2 n2];by_cases n3:3<n
     · rw [h3 n3]
     · have e:∀x y,dec n b0 c1 c2 x=dec n b0 c1 c2 y:=fun x y=>by
        unfold dec;simp only [n3,false_and,and_false,if_false]
       exact e _ _
   · have n3:¬3<n:=by omega
     have e:∀x y x' y',dec n b0 c1 x y=dec n b0 c1 x' y':=fun x y x' y'=>by
      unfold dec;simp only [n2,n3,false_and,and_false,if_false]
     exact e _ _ _ _
 · have n2:¬2<n:=by omega
   have n3:¬3<n:=by omega
   have e:∀z x y z' x' y',dec n b0 z x y=dec n b0 z' x' y':=fun z x y z' x' y'=>by
    unfold dec;simp only [n1,n2,n3,false_and,and_false,if_false]
   exact e _ _ _ _ _ _
theorem dec_pre (n m b0 b1 b2 b3:Nat) (hn:n≤m):dec n b0 b1 b2 b3=dec m b0 b1 b2 b3∨(dec n b0 b1 b2 b3=(65533,1)∧n<(dec m b0 b1 b2 b3).2):=by
 rcases zcK m b0 b1 b2 b3 with ⟨c,e⟩ | ⟨c,e⟩ | ⟨c,e⟩ | ⟨c,e⟩ | ⟨c,e⟩
 · left;rw [e];unfold dec;rw [if_pos c]
 · by_cases h:1<n
   · left;rw [e];unfold dec;rw [if_neg (by omega),if_pos (by omega)]
   · right;rw [e];unfold dec;rw [if_neg (by omega),if_neg (by omega),if_neg (by omega),if_neg (by omega)];exact ⟨rfl,by dsimp only;omega⟩
 · by_cases h:2<n
   · left;rw [e];unfold dec;rw [if_neg (by omega),if_neg (by omega),if_pos (by omega)]
   · right;rw [e];unfold dec;rw [if_neg (by omega),if_neg (by omega),if_neg (by omega),if_neg (by omega)];exact ⟨rfl,by dsimp only;omega⟩
 · by_cases h:3<n
   · left;rw [e];unfold dec;rw [if_neg (by omega),if_neg (by omega),if_neg (by omega),if_pos (by omega)]
   · right;rw [e];unfold dec;rw [if_neg (by omega),if_neg (by omega),if_neg (by omega),if_neg (by omega)];exact ⟨rfl,by dsimp only;omega⟩
 · left;rcases zcK n b0 b1 b2 b3 with ⟨c',e'⟩ | ⟨c',e'⟩ | ⟨c',e'⟩ | ⟨c',e'⟩ | ⟨c',e'⟩
   · omega
   · exfalso;revert e;unfold dec;rw [if_neg (by omega),if_pos (by omega)];simp
   · exfalso;revert e;unfold dec;rw [if_neg (by omega),if_neg (by omega),if_pos (by omega)];simp
   · exfalso;revert e;unfold dec;rw [if_neg (by omega),if_neg (by omega),if_neg (by omega),if_pos (by omega)];simp
   · rw [e',e]
theorem zcL {s t:ByteArray} {p i:Nat} (hz:p + t.size=s.size) (hb:∀j,j<t.size→bt t j=bt s (p + j)) (hi:i<t.size):Utf8.decode t i=Utf8.decode s (p + i):=by
 rw [zaA t i hi,zaA s (p + i) (by omega),hb i hi,show s.size-(p + i)=t.size-i from by omega];refine zhJ (fun h=>?_) (fun h=>?_) (fun h=>?_)
 · rw [hb _ (by omega),Nat.add_assoc]
 · rw [hb _ (by omega),Nat.add_assoc]
 · rw [hb _ (by omega),Nat.add_assoc]
theorem zgp {s t:ByteArray} {i:Nat} (hz:t.size≤s.size) (hb:∀j,j<t.size→bt t j=bt s j) (hi:i<t.size) :
 Utf8.decode t i=Utf8.decode s i∨(Utf8.decode t i=(65533,1)∧t.size<i + wd s i):=by
 have h1:Utf8.decode t i=dec (t.size-i) (bt s i) (bt s (i + 1)) (bt s (i + 2)) (bt s (i + 3)):=by
  rw [zaA t i hi,hb i hi];exact zhJ (fun h=>hb _ (by omega)) (fun h=>hb _ (by omega)) (fun h=>hb _ (by omega))
 have h2:Utf8.decode s i=dec (s.size-i) (bt s i) (bt s (i + 1)) (bt s (i + 2)) (bt s (i + 3)):=zaA s i (by omega);unfold wd;rw [h1,h2];rcases dec_pre (t.size-i) (s.size-i) (bt s i) (bt s (i + 1)) (bt s (i + 2)) (bt s (i + 3)) (by omega) with h | ⟨h,h'⟩
 · exact .inl h
 · exact .inr ⟨h,by omega⟩
theorem zi5 {s t:ByteArray} {k:Nat} (ht:t.size=plc s k) (hb:∀j,j<t.size→bt t j=bt s j):∀j,j≤k→plc t j=plc s j
 | 0,_=>rfl
 | j + 1,hj=>by
  have ih:=zi5 ht hb j (by omega);have hle:=zaU s k;by_cases h:plc t j<t.size
  · have hs:plc s j<s.size:=by omega
    rw [zaJ h,zaJ hs,ih];have hm:plc s (j + 1)≤plc s k:=zaX s hj;rw [zaJ hs] at hm;rcases zgp (s:=s) (t:=t) (i:=plc s j) (by omega) hb (by omega) with e | ⟨_,e⟩
    · unfold wd;rw [e]
    · omega
  · have h1:=zaU t j;have hm:plc s (j + 1)≤plc s k:=zaX s hj;have hm2:=zf2 s j;rw [zet h];omega
theorem ze3 {s t:ByteArray} {k j:Nat} (ht:t.size=plc s k) (hb:∀j,j<t.size→bt t j=bt s j) (hj:plc s j<plc s k):Utf8.decode t (plc s j)=Utf8.decode s (plc s j):=by
 have hle:=zaU s k;have hs:plc s j<s.size:=by omega
 have hjk:j + 1≤k:=by
  rcases Nat.lt_or_ge j k with h | h
  · omega
  · have:=zaX s h;omega
 have hm:plc s (j + 1)≤plc s k:=zaX s hjk;rw [zaJ hs] at hm;rcases zgp (s:=s) (t:=t) (i:=plc s j) (by omega) hb (by omega) with e | ⟨_,e⟩
 · exact e
 · omega
theorem cnt_pre {s t:ByteArray} {k:Nat} (ht:t.size=plc s k) (hb:∀j,j<t.size→bt t j=bt s j):cnt t=min k (cnt s):=by
 have hp:=zi5 ht hb;refine zdX ?_ fun j hj=>?_
 · rw [hp _ (Nat.min_le_left _ _),ht];rcases Nat.lt_or_ge k (cnt s) with h | h
   · rw [Nat.min_eq_left (Nat.le_of_lt h)];omega
   · rw [Nat.min_eq_right h,zhf h,(zcy s).1];omega
 · rw [hp _ (by omega),ht];have h1:=(zcy s).2 j (by omega);have h2:=zaQ h1;have h3:=zaX s (show j + 1≤k by omega);omega
theorem zi6 {s t:ByteArray} {k:Nat} (hz:plc s k + t.size=s.size) (hb:∀j,j<t.size→bt t j=bt s (plc s k + j)):∀j,plc s k + plc t j=plc s (k + j)
 | 0=>rfl
 | j + 1=>by
  have ih:=zi6 hz hb j;by_cases h:plc t j<t.size
  · have hs:plc s (k + j)<s.size:=by omega
    rw [←Nat.add_assoc,zaJ h,zaJ hs,←ih];unfold wd;rw [zcL hz hb h];omega
  · rw [←Nat.add_assoc,zet h,zet (by omega),ih]
theorem cnt_suf {s t:ByteArray} {k:Nat} (hz:plc s k + t.size=s.size) (hb:∀j,j<t.size→bt t j=bt s (plc s k + j)):cnt t=cnt s-k:=by
 have hp:=zi6 hz hb;refine zdX ?_ fun j hj=>?_
 · have h:=hp (cnt s-k);rw [zhf (s:=s) (k:=k + (cnt s-k)) (by omega)] at h;omega
 · have h:=hp j;have:=za1.1 (show k + j<cnt s by omega);omega
theorem zbc (s:ByteArray) (n:Nat):(cutA s n).size=plc s n:=by unfold cutA;rw [za0];have:=zaU s n;omega
theorem zeI (s:ByteArray) (n:Nat):∀j,j<(cutA s n).size→bt (cutA s n) j=bt s j:=fun j hj=>by
 rw [zbc] at hj;have:=zaU s n;unfold cutA;rw [zbU _ _ _ _ (by omega),Nat.zero_add]
theorem zax (s:ByteArray) (n:Nat):plc s n + (cutB s n).size=s.size:=by unfold cutB;rw [za0];have:=zaU s n;omega
theorem zcl (s:ByteArray) (n:Nat):∀j,j<(cutB s n).size→bt (cutB s n) j=bt s (plc s n + j):=fun j hj=>by
 have:=zax s n;unfold cutB;rw [zbU _ _ _ _ (by omega)]
theorem zgP (s:ByteArray) (n:Nat):cnt (cutA s n)=min n (cnt s):=cnt_pre (zbc s n) (zeI s n)
theorem zgQ (s:ByteArray) (n:Nat):cnt (cutB s n)=cnt s-n:=cnt_suf (zax s n) (zcl s n)
theorem zbK (s:ByteArray) (n j:Nat):plc s n + plc (cutB s n) j=plc s (n + j):=zi6 (zax s n) (zcl s n) j
theorem zhI (s:ByteArray) (n m:Nat):cutB (cutB s n) m=cutB s (n + m):=by
 have h1:=zbK s n m;have h2:=zax s n;have h3:=zax (cutB s n) m;have h4:=zax s (n + m);refine zc7 (by omega) fun k hk=>?_;rw [zcl _ _ k hk,zcl _ _ _ (by omega),zcl _ _ k (by omega)];congr 1
 omega
theorem zee (s:ByteArray):cutB s 0=s:=by unfold cutB;exact ziJ s
theorem zln (s:ByteArray):cutA s 0=⟨#[]⟩:=zc7 (by rw [zbc];rfl) fun k hk=>by rw [zbc] at hk;exact absurd hk (Nat.not_lt_zero _)
section
variable {a b:ByteArray}
end
def zig (n:Nat):ByteArray:=⟨#[UInt8.ofNat n]⟩
theorem zcS (n:Nat):(zig n).size=1:=rfl
theorem zhu {n:Nat} (h:n<256):bt (zig n) 0=n:=by
 show (UInt8.ofNat n).toNat=n;simp;omega
theorem ziG {s:ByteArray} (h:0<s.size):0<cnt s:=za1.2 h
theorem sOne_cnt (n:Nat):cnt (zig n)=1:=by
 have h1:=ziG (s:=zig n) (by rw [zcS];omega);have h2:=zc8 (zig n);rw [zcS] at h2;omega
theorem ziU {s:ByteArray} {i:Nat} (h:i<s.size) (hb:bt s i<128):zci s i=zgN (bt s i):=by
 have hl:lng s i=1:=by rw [lng_eq h,if_pos hb]
 rw [zlY h,if_pos hl]
theorem zlZ {n:Nat} (h:n<256):zci (zig n) 0=zgN n:=by
 by_cases hn:n<128
 · rw [ziU (by rw [zcS];omega) (by rw [zhu h];exact hn),zhu h]
 · have hs:0<(zig n).size:=by rw [zcS];omega
   have e:Utf8.decode (zig n) 0=(65533,1):=by
    rw [zaA _ 0 hs,zhu h,zcS];rcases zcK (1-0) n (bt (zig n) (0 + 1)) (bt (zig n) (0 + 2)) (bt (zig n) (0 + 3)) with ⟨c,e⟩ | ⟨c,e⟩ | ⟨c,e⟩ | ⟨c,e⟩ | ⟨c,e⟩
    · omega
    · omega
    · omega
    · omega
    · exact e
   have hb:brk (zig n) 0=true:=by unfold brk rn wd;rw [e];rfl
   unfold zci;rw [hb];symm
   unfold zgN;simp;omega
theorem name_one {n:Nat} (h:n<256):zep (zig n)=zgN n:=by
 rw [Bool.eq_iff_iff,zbH,sOne_cnt];constructor
 · rintro ⟨_,_,ha⟩;have:=ha 0 (by omega);rw [←zlZ h];exact this
 · intro hb;refine ⟨by omega,by omega,fun k hk=>?_⟩;obtain rfl:k=0:=by omega
   show zci (zig n) 0=true;rw [zlZ h];exact hb
theorem zmB {s:ByteArray} {k:Nat}:∀m,k<plc s m→∃j,plc s j≤k∧k<plc s (j + 1)
 | 0,h=>absurd h (Nat.not_lt_zero _)
 | m + 1,h=>by
  by_cases hm:k<plc s m
  · exact zmB m hm
  · exact ⟨m,by omega,h⟩
theorem zkv {s:ByteArray} {p k:Nat} (hp:p<s.size) (h1:p<k) (h2:k<p + wd s p):128≤bt s k∧bt s k≤191:=by
 unfold wd at h2;rw [zaA s p hp] at h2;rcases zcK (s.size-p) (bt s p) (bt s (p + 1)) (bt s (p + 2)) (bt s (p + 3)) with ⟨c,e⟩ | ⟨c,e⟩ | ⟨c,e⟩ | ⟨c,e⟩ | ⟨c,e⟩
 · rw [e] at h2;dsimp only at h2;omega
 · rw [e] at h2;dsimp only at h2;obtain rfl:k=p + 1:=by omega
   omega
 · rw [e] at h2;dsimp only at h2;obtain rfl | rfl:k=p + 1∨k=p + 2:=by omega
   · omega
   · omega
 · rw [e] at h2;dsimp only at h2;obtain rfl | rfl | rfl:k=p + 1∨k=p + 2∨k=p + 3:=by omega
   · omega
   · omega
   · omega
 · rw [e] at h2;dsimp only at h2;omega
theorem zg9 {s:ByteArray} (h:s.size=0):s=⟨#[]⟩:=zc7 h fun k hk=>by omega
def sNl:ByteArray:=⟨#[10]⟩
end Go.Proofs.YtiepddmagfmllaaGreat
