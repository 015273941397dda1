import Derived.Test.YtmblgnddgmfkhaaGreatQ00
import Derived.WalkKit
import Derived.WalkSpells
import Derived.WalkLawsBesides
import Derived.Handy
import Derived.Lib.Hide
import Derived.Deep.AppendSrc
import Derived.Deep.Draws
import Derived.Maps.AppendAt
import Derived.OrdersHeld
import Derived.RegionTactic
import Derived.Deep.RegionWith
import Derived.BigQuiet
import Derived.Deep.QuietTactic
set_option maxRecDepth 100000
set_option maxHeartbeats 4000000
namespace Go.Proofs.YtmblgnddgmfkhaaGreat
section
open Go.RowKit
variable {k base:Nat} {v:Value}
structure Rd (w:World) (B size:Nat) (A:Option Addr) (n c:Nat) (xs:List Value):Prop where
 len:xs.length=n * size
 cap:n≤c
 capm:c≤maxLen
 nil:A=none→n=0∧c=0
 at_:0<n→∃b o,A=some ⟨b,o,none⟩∧b<B∧∀j u,xs[j]? = some u→w.cell? ⟨b,o + j,none⟩=some u
section
variable {w w':World} {B B' size n c:Nat} {A:Option Addr} {xs:List Value}
theorem Rd.keep (h:Rd w B size A n c xs) (hk:∀p:Addr,p.block<B→w'.cell? p=w.cell? p):Rd w' B size A n c xs :=
 ⟨h.len,h.cap,h.capm,h.nil,fun d=>by
  obtain ⟨b,o,e,hb,f⟩:=h.at_ d;exact ⟨b,o,e,hb,fun j u g=>(hk _ hb).trans (f j u g)⟩⟩
theorem Rd.below (h:Rd w B size A n c xs) (hb:Below B w w'):Rd w' B size A n c xs:=h.keep fun _ b=>hb.cell b
theorem Rd.belowLe (h:Rd w B size A n c xs) (hb:Below B' w w') (hB:B≤B'):Rd w' B size A n c xs:=h.below (hb.mono hB)
theorem Rd.more (h:Rd w B size A n c xs) (hB:B≤B'):Rd w B' size A n c xs :=
 ⟨h.len,h.cap,h.capm,h.nil,fun d=>by
  obtain ⟨b,o,e,hb,f⟩:=h.at_ d;exact ⟨b,o,e,yaw hb hB,f⟩⟩
theorem Rd.up {w w':World} {size n c:Nat} {A:Option Addr} {xs:List Value} (h:Rd w w.heap.size size A n c xs) (hb:Below w.heap.size w w'):Rd w' w'.heap.size size A n c xs:=(h.below hb).more hb.size
theorem Rd.alloc (h:Rd w B size A n c xs) (hB:B≤w.heap.size) (o:Obj):Rd (w.alloc o) B size A n c xs:=h.below ((Below.refl _ _).alloc hB o)
theorem Rd.none_ (w:World) (B size:Nat):Rd w B size none 0 0 []:=⟨by simp,yaj _,by simp [maxLen],fun _=>⟨rfl,rfl⟩,fun h=>absurd h yab⟩
theorem Rd.get (h:Rd w B 1 A n c xs) (hk:k<n):∃b o u,A=some ⟨b,o,none⟩∧b<B∧xs[k]? = some u∧w.cell? ⟨b,o + k,none⟩=some u:=by
 obtain ⟨b,o,e,hb,f⟩:=h.at_ yab;have d:k<xs.length:=by have:=h.len;omega
 exact ⟨b,o,xs[k],e,hb,yal d,f k _ (yal d)⟩
theorem Rd.cut (h:Rd w B size A n c xs) (hk:k≤n):Rd w B size (if c=k then A else A.map (·.add (k * size))) (n-k) (c-k) (xs.drop (k * size)):=by
 have d:=h.cap;refine ⟨by rw [List.length_drop,h.len,Nat.sub_mul],by omega,by have:=h.capm;omega,?_,?_⟩
 · intro e;have f:A=none:=by
    split at e
    · exact e
    · simpa using e
   have:=h.nil f;omega
 · intro p;obtain ⟨b,o,rfl,hb,g⟩:=h.at_ yab;rw [yak (by omega)];refine ⟨b,o + k * size,by simp [Addr.add_lit],hb,fun j u m=>?_⟩;rw [ya4];exact g _ u (by rw [←m,List.getElem?_drop])
theorem Rd.cutE (h:Rd w B 1 A n c xs) (hk:k≤n) (hc:c=k):Rd w B 1 A (n-k) 0 (xs.drop k):=by
 have:=h.cut hk;rwa [yan hc,ycA,show c-k=0 from by omega] at this
theorem Rd.cutN (h:Rd w B 1 A n c xs) (hk:k≤n) (hc:¬c=k):Rd w B 1 (A.map fun a=>a.add k) (n-k) (c-k) (xs.drop k):=by
 have:=h.cut hk;rwa [yak hc,ycA] at this
theorem Rd.pre (h:Rd w B size A n c xs) (hk:k≤n):Rd w B size A k c (xs.take (k * size)):=by
 have f:=h.cap;refine ⟨by rw [yaK,h.len];exact ybK (ybo _ hk),by omega,h.capm,fun e=>by have:=h.nil e;omega,fun m=>?_⟩;obtain ⟨b,o,e,hb,g⟩:=h.at_ yab;refine ⟨b,o,e,hb,fun j u d=>g j u ?_⟩;rw [List.getElem?_take] at d;split at d
 · exact d
 · cases d
theorem Rd.of_cells {a:Addr} (hl:xs.length=n * size) (hs:0<size) (hn:n≤c) (hc:c≤maxLen) (hb:a.block<B) (h:∀j u,xs[j]? = some u→w.cell? (a.add j)=some u):Rd w B size (some a) n c xs:=by
 refine ⟨hl,hn,hc,fun e=>(by cases e),fun g=>?_⟩;obtain ⟨b,o,d⟩:=a;have k:0<xs.length:=by rw [hl];exact Nat.mul_pos g hs
 have f:d=none:=by simpa [Addr.add] using World.cell?_spot (h 0 _ (yal k))
 subst f;exact ⟨b,o,rfl,hb,fun j u m=>by rw [←Addr.add_lit];exact h j u m⟩
theorem Rd.own {e:TypeId} (h:w.ownsRow base e size v n xs):∃A c,v = .slice A n c∧Rd w w.heap.size size A n c xs:=by
 rcases h.2 with ⟨rfl,rfl⟩ | ⟨g,cap,b,rfl,hb,d,f,k,o,p⟩
 · exact ⟨none,0,rfl,⟨h.1,yaj _,by simp [maxLen],fun _=>⟨rfl,rfl⟩,fun h=>absurd h yab⟩⟩
 · refine ⟨_,_,rfl,⟨h.1,f,k,fun e=>(by cases e),fun q=>?_⟩⟩;exact ⟨g,0,rfl,(yaO.1 d).1,fun j u m=>by rw [←Addr.add_lit];exact h.cells (g:=g) rfl j u m⟩
theorem Rd.src {P:Program} {tx e':TypeId} (hk:P.underlying tx=some (.slice e')) (h:Rd w B size A n c xs) (h1:∀u ∈ xs,u.oneCell'=true):Src P size tx (.slice A n c) n xs w:=by
 rcases ybh n with d | d
 · subst d;have:xs=[]:=yaY (by simpa using h.len);subst this;rcases A with _ | g
   · exact Src.ofNil w hk c
   · exact Src.ofSlice w hk g 0 c [] yaf (fun j u f=>by simp at f) h1
 · obtain ⟨b,o,rfl,_,k⟩:=h.at_ d;exact Src.ofSlice w hk _ n c xs h.len (fun j u f=>by rw [Addr.add_lit];exact k j u f) h1
end
theorem zax {w:World} {base':Nat} {e:TypeId} {size n:Nat} {xs:List Value} (h:w.ownsRow base e size v n xs) (hb:base'≤base):w.ownsRow base' e size v n xs:=by
 refine ⟨h.1,?_⟩;rcases h.2 with d | ⟨g,cap,b,f,j,r⟩
 · exact .inl d
 · exact .inr ⟨g,cap,b,f,by omega,r⟩
theorem Rd.lit (w:World) (cs:Array Value) (t:TypeId) (n size:Nat) (h:cs.size=n * size) (hn:n≤maxLen):Rd (w.alloc (.cells cs t)) (w.heap.size + 1) size (some ⟨w.heap.size,0,none⟩) n n cs.toList :=
 ⟨by rw [ybm];exact h,yaj _,hn,fun e=>(by cases e),fun _=>⟨_,_,rfl,ycs _,fun j u b=>by
  rw [cell_of_row _ _ _ cs t (0,0) (heap_alloc_new w _)];simpa using b⟩⟩
theorem Rd.litX (w:World) (cs:Array Value) (t:TypeId) (n size:Nat) (xs:List Value) (hx:cs.toList=xs) (h:cs.size=n * size) (hn:n≤maxLen):Rd (w.alloc (.cells cs t)) (w.alloc (.cells cs t)).heap.size size (some ⟨w.heap.size,0,none⟩) n n xs:=by
 subst hx;simpa using Rd.lit w cs t n size h hn
theorem zjh (w:World) (cs:Array Value) (t:TypeId) (n size base:Nat) (h:cs.size=n * size) (hn:n≤maxLen) (hb:base≤w.heap.size):(w.alloc (.cells cs t)).ownsRow base t size (.slice (some ⟨w.heap.size,0,none⟩) n n) n cs.toList :=
 ⟨by rw [ybm];exact h,.inr ⟨w.heap.size,n,cs,rfl,hb,heap_alloc_new w _,yaj _,hn,h,ybi (by rw [ybm,h];exact yaj _)⟩⟩
theorem zby (b:Nat):∀(vs:List Value) (o:Nat) (w:World) (k:Nat),k≠b→(w.setCells b o vs).heap[k]? = w.heap[k]?
 | [],_,_,_,_=>rfl
 | v::r,o,w,k,h=>by
  show ((w.setCell ⟨b,o,none⟩ v).setCells b (o + 1) r).heap[k]? = _;rw [zby b r (o + 1) _ k h,Below.heap_setCell _ _ _ _ h]
theorem zdk (b:Nat):∀(vs:List Value) (o:Nat) (w:World),(w.setCells b o vs).heap.size=w.heap.size
 | [],_,_=>rfl
 | v::r,o,w=>by
  show ((w.setCell ⟨b,o,none⟩ v).setCells b (o + 1) r).heap.size=_;rw [zdk b r];simp [World.setCell]
theorem za3 (b:Nat):∀(vs:List Value) (o:Nat) (w:World),(w.setCells b o vs).os=w.os∧(w.setCells b o vs).tape=w.tape∧(w.setCells b o vs).output=w.output
 | [],_,_=>⟨rfl,rfl,rfl⟩
 | v::r,o,w=>za3 b r (o + 1) (w.setCell ⟨b,o,none⟩ v)
theorem zbK (b:Nat) (t:TypeId) (fr:Nat × Nat):∀(vs:List Value) (o:Nat) (w:World) (cur:Array Value),w.heap[b]? = some (.cells cur t fr)→o + vs.length≤cur.size →
 ∃cur',(w.setCells b o vs).heap[b]? = some (.cells cur' t fr)∧cur'.size=cur.size∧cur'.toList.take (o + vs.length)=cur.toList.take o ++ vs
 | [],o,w,cur,h,_=>⟨cur,h,rfl,by simp⟩
 | v::r,o,w,cur,h,d=>by
  simp only [yaq] at d;have f:(w.setCell ⟨b,o,none⟩ v).heap[b]? = some (.cells (cur.setIfInBounds o v) t fr):=by
   simp [World.setCell,ybx,h]
  obtain ⟨cur',g,j,k⟩:=zbK b t fr r (o + 1) _ _ f yag;refine ⟨cur',g,by rw [j];simp,?_⟩;rw [show o + (v::r).length=o + 1 + r.length from by simp;omega,k];have:(cur.setIfInBounds o v).toList.take (o + 1)=cur.toList.take o ++ [v]:=by
   rw [ycH,List.take_set,ybB (by simp;omega)];rw [List.set_append_right _ _ (by simp;omega)];simp [show min o cur.size=o from by omega]
  rw [this];simp
section
variable {P:Program} (w:World)
theorem zcR (base:Nat) (t tx ty e:TypeId) (i:TypeInfo) (z:Value) (size bytes:Nat) (ht:P.underlying t=some (.slice e)) (hi:P.info? e=some i) (hz:i.zero=some z)
 (hsize:i.size=size) (hby:i.bytes=bytes) (hzs:z.cells.size=size) (hsz:0<size)
 (v:Value) (n:Nat) (xs:List Value) (hown:w.ownsRow base e size v n xs) (x:Value) (m:Nat) (news:List Value) (hs:Src P size tx x m news w)
 (h63:n + m≤maxLen) (hbytes:(n + m) * bytes≤140737488355328) (hbase:base≤w.heap.size) :
 ∃v' w',(Builtin.append_ #[t,tx] ty #[v,x]).run P w = .ok v' w'∧w'.ownsRow base e size v' (n + m) (xs ++ news)∧w.grownBy w' v.ownBlock∧(v'.ownBlock=v.ownBlock∨v'.ownBlock=some w.heap.size):=by
 subst hsize;subst hby;have F:n + m≤9223372036854775807:=by simp only [maxLen] at h63;omega
 have d:(xs ++ news).length=(n + m) * i.size:=by rw [yam,hown.1,hs.newsLen,ycb]
 have f:∀(old:Nat),old<n + m→∀(row:Option Nat),(w.drew.alloc (.cells ((xs ++ news).toArray ++ Builtin.zeroCells z.cells (grownCap w (n + m) old e-(n + m))) e)).ownsRow base e i.size
   (.slice (some ⟨w.heap.size,0,none⟩) (n + m) (grownCap w (n + m) old e)) (n + m) (xs ++ news) ∧
  w.grownBy (w.drew.alloc (.cells ((xs ++ news).toArray ++ Builtin.zeroCells z.cells (grownCap w (n + m) old e-(n + m))) e)) row:=by
  intro old ho row;have G:=grownCap_ge w (n + m) old e;have q:grownCap w (n + m) old e≤maxLen:=grownCap_le_maxLen w (n + m) old e h63;refine ⟨⟨d,.inr ⟨w.heap.size,_,_,rfl,hbase,heap_alloc_new w.drew _,G,q,?_,?_⟩⟩,⟨rfl,rfl,rfl,by simp,fun k hk _=>heap_alloc_old w.drew _ hk⟩⟩
  · simp only [Array.size_append,ybv,size_zeroCells,hzs,d,←ycb];congr 1
    omega
  · simp only [ybY,←d];exact ycM
 rcases hown.2 with ⟨rfl,rfl⟩ | ⟨g,cap,p,rfl,H,I,N,q,C,s⟩
 · have O:xs=[]:=yaY (by simpa using hown.1);subst O;by_cases Q:m=0
   · subst Q;have R:news=[]:=yaY (by simpa using hs.newsLen);subst R;refine ⟨.slice none 0 0,w,?_,by simpa using World.ownsRow_nil w base e i.size,⟨rfl,rfl,rfl,yaj _,fun _ _ _=>rfl⟩,Or.inl rfl⟩;have J:=hs.len;have K:=hs.cells;rcases hs.kind with ⟨e',hk⟩ | hk <;> simp [Builtin.append_,run_underlying ht,run_underlying hk,sizeOf,typeInfo,hi,J,K]
   · have B:=run_append_grow_src (P:=P) w t tx ty e i z ht hi hz none 0 0 [] (by simp [Builtin.firstCells]) x m news hs yab yab (growslice_fits yab hbytes);have o:=f 0 yab (Value.ownBlock (.slice none 0 0));exact ⟨_,_,B,o.1,o.2,Or.inr rfl⟩
 · by_cases b:n + m≤cap
   · have D:n * i.size + news.length≤p.size:=by rw [hs.newsLen,C,←ycb];exact ybo _ b
     have y:∀j,j<p.size→(w.cell? ⟨g,j,none⟩).isSome=true:=fun j L=>by
      rw [cell_of_row w g j p e (0,0) I];simp [L]
     have M:∀j,w.frozen? ⟨g,j,none⟩=false:=fun j=>by simp [World.frozen?,I]
     have B:=run_append_room_src (P:=P) w t tx ty e i ht hi g 0 n cap x m news hs b (fun j L=>y _ yab) (fun j L=>M _);rw [yaG] at B;obtain ⟨E,T,U,V⟩:=zbK g e (0,0) news (n * i.size) w p I D;obtain ⟨X,Y,Z⟩:=za3 g news (n * i.size) w;refine ⟨_,_,B,⟨d,.inr ⟨g,cap,E,rfl,H,T,b,q,by rw [U,C],?_⟩⟩,⟨X,Y,Z,by rw [zdk];exact yaj _,fun k _ hk=>zby g _ _ _ k (fun e=>hk (by simp [Value.ownBlock,e]))⟩,Or.inl rfl⟩;rw [←s,←V,hs.newsLen,←ycb]
   · have A:∀j u,xs[j]? = some u→w.cell? ((⟨g,0,none⟩:Addr).add j)=some u:=hown.cells (g:=g) rfl;have B:=run_append_grow_src (P:=P) w t tx ty e i z ht hi hz (some ⟨g,0,none⟩) n cap xs (run_firstCells_some w.drew i.size n ⟨g,0,none⟩ n cap xs hown.1 (by simpa using A)) x m news hs yab yab (growslice_fits yab hbytes);have o:=f cap yab (Value.ownBlock (.slice (some ⟨g,0,none⟩) n cap));exact ⟨_,_,B,o.1,o.2,Or.inr rfl⟩
theorem zab {ops:Array Oper} {rest:List Oper} {o:Oper} {a:Act} {Q:Exit→Act→World→Prop} (hgd:o.guard=none) (s x:Operand) (t tx:TypeId)
 (ho:o.op = .call { callee:=.builtin .append,args:=#[s,x],argTypes:=#[t,tx] })
 (base:Nat) (e:TypeId) (i:TypeInfo) (z:Value) (size bytes:Nat) (ht:P.underlying t=some (.slice e)) (hi:P.info? e=some i) (hz:i.zero=some z)
 (hsize:i.size=size) (hby:i.bytes=bytes) (hzs:z.cells.size=size) (hsz:0<size)
 (v:Value) (n:Nat) (xs:List Value) (hv:a.eval s=v) (hown:w.ownsRow base e size v n xs) (y:Value) (m:Nat) (news:List Value) (hx:a.eval x=y) (hs:Src P size tx y m news w)
 (h63:n + m≤maxLen) (hbytes:(n + m) * bytes≤140737488355328) (hbase:base≤w.heap.size)
 (h:∀v' w',w'.ownsRow base e size v' (n + m) (xs ++ news)→w.grownBy w' v.ownBlock→(v'.ownBlock=v.ownBlock∨v'.ownBlock=some w.heap.size)→wpList P ops Q rest (a.put o.dst v') w') :
 wpList P ops Q (o::rest) a w:=by
 refine wpList_plain hgd fun K b=>?_;obtain ⟨v',w',d,f,g,j⟩:=zcR (P:=P) w base t tx o.type e i z size bytes ht hi hz hsize hby hzs hsz v n xs hown y m news hs h63 hbytes hbase;unfold Oper.wp execOp;simp only [ho,resolve,invoke,builtin,Sem.run_bind,Sem.run_pure,Result.andThen_ok,List.map_toArray,yaW,ycC,hv,hx,d];exact b _ _ (h v' w' f g j)
end
theorem zaf {B:Nat} {w0 w w':World} {e:TypeId} {size n:Nat} {xs:List Value} (hb:Below B w0 w) (hg:w.grownBy w' v.ownBlock) (hown:w.ownsRow base e size v n xs) (hB:B≤w.heap.size) (hle:B≤base):Below B w0 w' :=
 hb.grown hg hB fun k hk=>yax hle (hown.lt k hk).1
def bv (l:List UInt8):List Value:=l.map fun b=>Value.int .u8 b.toNat
theorem zaY (a b:List UInt8):bv (a ++ b)=bv a ++ bv b:=by simp [bv]
theorem zgC (l:List UInt8):(bv l).length=l.length:=by simp [bv]
theorem zfQ (l:List UInt8):∀u ∈ bv l,u.oneCell'=true:=by
 intro u b;obtain ⟨_,_,rfl⟩:=yaN.1 b;rfl
theorem bv_get (l:List UInt8) (k:Nat):(bv l)[k]? = l[k]?.map fun b=>Value.int .u8 b.toNat:=by simp [bv]
theorem ziK (l:List UInt8) (k:Nat):(bv l).drop k=bv (l.drop k):=by simp [bv]
theorem bv_take (l:List UInt8) (k:Nat):(bv l).take k=bv (l.take k):=by simp [bv]
def strOf (l:List UInt8):ByteArray:=⟨l.toArray⟩
theorem zou (l:List UInt8):(strOf l).data.toList=l:=by simp [strOf]
theorem zfZ (l:List UInt8):(strOf l).toList=l:=by rw [ByteArray.toList_eq,zou]
theorem zc9 (l:List UInt8):(strOf l).size=l.length:=by simp [strOf,ByteArray.size]
theorem zcl (s:ByteArray):strOf s.data.toList=s:=by unfold strOf;simp
theorem Rd.lenB {w:World} {B n c:Nat} {A:Option Addr} {l:List UInt8} (h:Rd w B 1 A n c (bv l)):n=l.length:=by have:=h.len;rw [zgC] at this;omega
theorem Rd.conv {P:Program} {w:World} {B n c:Nat} {A:Option Addr} {l:List UInt8} (h:Rd w B 1 A n c (bv l)) (src dst e:TypeId) (hs:P.underlying src=some (.slice e)) (he:P.underlying e=some (.int .u8)) (hd:P.underlying dst=some .string) :
 (convert src dst (.slice A n c)).run P w = .ok (.string (strOf l)) w:=by
 have f:n=l.length:=by have:=h.len;rw [zgC] at this;omega
 subst f;rcases A with _ | a
 · obtain ⟨g,rfl⟩:=h.nil rfl;have:l=[]:=yaY g;subst this;rw [run_convert_bytes_string w src dst e none _ _ hs he hd];rfl
 · refine run_convert_bytes_back w src dst e a c l hs he hd fun j k=>?_;obtain ⟨b,o,d,_,m⟩:=h.at_ yab;simp at d;subst d;rw [Addr.add_lit];exact m j _ (by rw [bv_get,yal k];rfl)
def nb (n:Nat):Nat:=if n=0 then 0 else nb (n / 256) + 1
theorem zew:nb 0=0:=by unfold nb;rfl
theorem zis {n:Nat} (h:0<n):nb n=nb (n / 256) + 1:=by rw [nb,yak (by omega)]
def be (n:Nat):List UInt8:=if n=0 then [] else be (n / 256) ++ [UInt8.ofNat (n % 256)]
theorem zgz:be 0=[]:=by unfold be;rfl
theorem zjN {n:Nat} (h:0<n):be n=be (n / 256) ++ [UInt8.ofNat (n % 256)]:=by rw [be,yak (by omega)]
theorem zbV (n:Nat):(be n).length=nb n:=by
 induction n using Nat.strongRecOn with
 | _ n ih =>
  by_cases h:n=0
  · subst h;rw [zgz,zew];rfl
  · rw [zjN yab,zis yab,yam,ih _ (by omega)];rfl
def num (n:Nat):List UInt8:=UInt8.ofNat (nb n)::be n
theorem zcs (n:Nat):(num n).length=nb n + 1:=by simp [num,zbV]
theorem nb_le {n:Nat} (h:n<256 ^ k):nb n≤k:=by
 induction k generalizing n with
 | zero=>rw [show n=0 from by simpa using h,zew];exact yaj _
 | succ k ih =>
  by_cases b:n=0
  · subst b;rw [zew];omega
  · rw [zis (by omega)];have:=ih (n:=n / 256) (by rw [Nat.pow_succ] at h;omega);omega
theorem zir {n:Nat} (h:n<2 ^ 64):nb n≤8:=nb_le (k:=8) yab
theorem be_get (n i:Nat) (h:i<nb n):(be n)[i]? = some (UInt8.ofNat (n / 256 ^ (nb n-1-i) % 256)):=by
 induction n using Nat.strongRecOn with
 | _ n ih =>
  have b:0<n:=by
   rcases ybh n with b | b
   · subst b;rw [zew] at h;omega
   · exact b
  have d:=zis b;rw [zjN b];by_cases hi:i<nb (n / 256)
  · rw [ybr (by rw [zbV];exact hi),ih (n / 256) yab hi,Nat.div_div_eq_div_mul,d];rw [show nb (n / 256) + 1-1-i=(nb (n / 256)-1-i) + 1 from by omega,Nat.pow_succ,Nat.mul_comm]
  · have:i=nb (n / 256):=by omega
    rw [yaF (by rw [zbV];omega),zbV,d,this];simp
end
section
open Go.RowKit
variable {oi:Oper} {fuel:Nat} {listed:Array Bool} {a:Act} {w:World}
section
variable {P:Program} {ops:Array Oper} {Q:Exit→Act→World→Prop} {md:Region.Mode}
theorem zfG (i:Nat) (d:Option Tmp) {v:Value} (hi:ops[i]? = some oi) (hd:oi.dst=d)
 (hs:Region.noSelect ops=true) (hf:Region.free md ops listed i=true) (hr:(Region.ready md ops listed).contains i=true)
 (hQ:∀c a w,Q (.panic c) (a.put oi.dst v) w→Q (.panic c) a w) (hw:Region.wanted oi (yielded ops a.tmps)=true) (hy:∀w,(execOp a.eval oi).run P w = .ok (.value v) w)
 (h:wpAny P md ops Q fuel (listed.setIfInBounds i true) (a.put d v) w):wpAny P md ops Q (fuel + 1) listed a w:=by
 subst hd;exact wpAny_take hi hs hf hr hQ (.inl ⟨hw,hy⟩) h
theorem roH_take (i:Nat) (d:Option Tmp) {S:World→Prop} {v:Value} (hi:ops[i]? = some oi) (hd:oi.dst=d)
 (hs:Region.noSelect ops=true) (hf:Region.free md ops listed i=true) (hr:(Region.ready md ops listed).contains i=true)
 (hQ:∀c a w,Q (.panic c) (a.put oi.dst v) w→Q (.panic c) a w) (hw:Region.wanted oi (yielded ops a.tmps)=true) (hy:∀w,S w→(execOp a.eval oi).run P w = .ok (.value v) w) (hS:S w)
 (h:wpAnyH P md ops Q S fuel (listed.setIfInBounds i true) (a.put d v) w):wpAnyH P md ops Q S (fuel + 1) listed a w:=by
 subst hd;exact wpAnyH_take hi hs hf hr hQ (.inl ⟨hw,hy⟩) hS h
theorem zgo (i:Nat) (d:Option Tmp) {S:World→Prop} (hi:ops[i]? = some oi) (hd:oi.dst=d)
 (hs:Region.noSelect ops=true) (hf:Region.free md ops listed i=true) (hr:(Region.ready md ops listed).contains i=true)
 (hQ:∀c a w,Q (.panic c) (a.put oi.dst undef) w→Q (.panic c) a w) (hw:Region.wanted oi (yielded ops a.tmps)=false) (hS:S w)
 (h:wpAnyH P md ops Q S fuel (listed.setIfInBounds i true) (a.put d undef) w):wpAnyH P md ops Q S (fuel + 1) listed a w:=by
 subst hd;exact wpAnyH_take hi hs hf hr hQ (.inr ⟨hw,rfl⟩) hS h
theorem zaP (i:Nat) {S:World→Prop} (hi:ops[i]? = some oi) (hr:Region.ready md ops listed=[i])
 (h:∀K':Act→World→Prop,(∀a w,S w→wpAnyH P md ops Q S fuel (listed.setIfInBounds i true) a w→K' a w)→if Region.wanted oi (yielded ops a.tmps)=true then Oper.wp P oi a w K' Q else K' (a.put oi.dst undef) w) :
 wpAnyH P md ops Q S (fuel + 1) listed a w :=
 wpAnyH_all hr yaf fun k hk=>by
  simp at hk;subst hk;exact wpOp_step hi fun K' b=>h K' fun a w s x=>b a w ⟨s,x⟩
end
end
section
open Go.RowKit
variable {a:Act} {w:World} {l:Array Bool} {oi:Oper} {v:Value} {i:Nat}
section
variable {P:Program} {ops:Array Oper} {Q:Exit→Act→World→Prop} {md:Region.Mode}
theorem zm8 (i j k:Nat) (d:Option Tmp) (S:World→Prop) {oj ok:Oper} {fuel:Nat} {listed:Array Bool} (hi:ops[i]? = some oi) (hj:ops[j]? = some oj) (hk:ops[k]? = some ok) (hd:oi.dst=d)
 (hs:Region.noSelect ops=true) (hap:oi.apart ops oj=true) (hap2:oi.apart ops ok=true) (hij:(i == j)=false) (hik:(i == k)=false) (hjk:(j == k)=false)
 (h0:(Region.ready md ops listed).all (fun m=>m == i || m == j)=true) (h0':(Region.ready md ops listed).contains i=true)
 (h1:(Region.ready md ops (listed.setIfInBounds i true)).all (· == j)=true) (h1':(Region.ready md ops (listed.setIfInBounds i true)).contains j=true)
 (h2:(Region.ready md ops (listed.setIfInBounds j true)).all (fun m=>m == i || m == k)=true) (h2':(Region.ready md ops (listed.setIfInBounds j true)).contains i=true)
 (h3:(Region.ready md ops ((listed.setIfInBounds i true).setIfInBounds j true)).all (· == k)=true) (h3':(Region.ready md ops ((listed.setIfInBounds i true).setIfInBounds j true)).contains k=true)
 (h4:(Region.ready md ops ((listed.setIfInBounds j true).setIfInBounds k true)).all (· == i)=true) (h4':(Region.ready md ops ((listed.setIfInBounds j true).setIfInBounds k true)).contains i=true)
 (hQ:∀c a w,Q (.panic c) (a.put oi.dst v) w→Q (.panic c) a w) (hw:Region.wanted oi (yielded ops a.tmps)=true) (hy:∀w,S w→(execOp a.eval oi).run P w = .ok (.value v) w) (hS:S w)
 (h:∀K':Act→World→Prop,(∀a w,S w→wpOp P ops Q k (fun a w=>S w∧wpAny P md ops Q fuel (((listed.setIfInBounds i true).setIfInBounds j true).setIfInBounds k true) a w) a w→K' a w) →
  if Region.wanted oj (yielded ops (a.put d v).tmps)=true then Oper.wp P oj (a.put d v) w K' Q else K' ((a.put d v).put oj.dst undef) w):wpAny P md ops Q (fuel + 3) listed a w:=by
 subst hd;have K:YieldsIf P ops S oi v a:=.inl ⟨hw,hy⟩;have H:wpOp P ops Q j (fun C w'=>S w'∧wpOp P ops Q k (fun a w=>S w∧wpAny P md ops Q fuel (((listed.setIfInBounds i true).setIfInBounds j true).setIfInBounds k true) a w) C w') (a.put oi.dst v) w :=
  wpOp_step hj fun K' D=>h K' fun a w s x=>D a w ⟨s,x⟩
 have g:=Region.noSelect_spec hs;have ne:∀{l:Array Bool} {k:Nat},(Region.ready md ops l).contains k=true→Region.ready md ops l≠[]:=fun L e=>by rw [e] at L;simp at L
 have p:i≠j:=by simpa using hij
 have u:i≠k:=by simpa using hik
 have M:j≠k:=by simpa using hjk
 refine ⟨fun e=>absurd e (ne h0'),fun m O=>?_⟩;have z:=ybN.1 h0 m O;simp at z;rcases z with rfl | rfl
 · refine K.wpOp hi hS ⟨fun e=>absurd e (ne h1'),fun n E=>?_⟩;have o:=ybN.1 h1 n E;simp at o;subst o;refine wpOp_mono (fun C w' x=>?_) H;refine ⟨fun e=>absurd e (ne h3'),fun q A=>?_⟩;have f:=ybN.1 h3 q A;simp at f;subst f;exact wpOp_mono (fun _ _ y=>y.2) x.2
 · refine wpOp_mono ?_ (wpOp_putIf hj hap (fun cs b=>g i oi cs b hi) (fun cs b=>g m oj cs b hj) hQ K H);rintro C w' ⟨B,F,N⟩;refine ⟨fun e=>absurd e (ne h2'),fun n E=>?_⟩;have o:=ybN.1 h2 n E;simp at o;rcases o with rfl | rfl
   · refine B.wpOp hi F ?_;rw [ycr _ _ (Ne.symm p)];refine ⟨fun e=>absurd e (ne h3'),fun q A=>?_⟩;have f:=ybN.1 h3 q A;simp at f;subst f;exact wpOp_mono (fun _ _ y=>y.2) N
   · refine wpOp_mono ?_ (wpOp_putIf hk hap2 (fun cs b=>g i oi cs b hi) (fun cs b=>g n ok cs b hk) hQ B N);rintro R T ⟨G,I,J⟩;refine ⟨fun e=>absurd e (ne h4'),fun q A=>?_⟩;have f:=ybN.1 h4 q A;simp at f;subst f;refine G.wpOp hi I ?_;rw [ycr (i:=n) (j:=q) _ _ (Ne.symm u),ycr (i:=m) (j:=q) _ _ (Ne.symm p)];exact J
def zcd (P:Program) (md:Region.Mode) (ops:Array Oper) (Q:Exit→Act→World→Prop) (S:World→Prop) (z:Nat):Nat→Array Bool→Act→World→Prop
 | 0,l,a,w=>Region.ready md ops l=[]∧Q .normal a w
 | n + 1,l,a,w=>(Region.ready md ops l=[]→Q .normal a w)∧∀i ∈ Region.ready md ops l,wpOp P ops Q i (fun b u=>(i≠z→S u)∧zcd P md ops Q S z n (l.setIfInBounds i true) b u) a w
variable {S:World→Prop} {z:Nat}
theorem ziC:∀(n:Nat) (l:Array Bool) (a:Act) (w:World),zcd P md ops Q S z n l a w→wpAny P md ops Q n l a w
 | 0,_,_,_,h=>h
 | n + 1,_,_,_,h=>⟨h.1,fun i hi=>wpOp_mono (fun b u k=>ziC n _ b u k.2) (h.2 i hi)⟩
def ziB (md:Region.Mode) (ops:Array Oper) (z i:Nat):Bool:=match ops[z]? with
 | some o=>o.after.any fun e=>Region.binds md e && e.on == i
 | none=>false
theorem zkZ {j:Nat} (h:ziB md ops j i=true) (hi:i ∈ Region.ready md ops l):j ∉ Region.ready md ops l:=by
 intro o;obtain ⟨_,p,f,b⟩:=mem_ready.1 o;unfold ziB at h;rw [f] at h;obtain ⟨k,hk,g⟩:=Array.any_eq_true.1 h;simp only [ya9,ybS] at g;have d:=b _ (Array.getElem_mem hk) g.1;have n:=(mem_ready.1 hi).1;rw [g.2] at d;rcases ybH i l.size with m | m
 · simp [m] at n d;rw [n] at d;cases d
 · simp [Array.getElem?_eq_none m] at d
theorem zql {j:Nat} {oj:Oper} (hoj:ops[j]? = some oj) (hi:i ∈ Region.ready md ops l) (hj:j ∈ Region.ready md ops l):∀e ∈ oj.after,Region.binds md e=true→e.on≠i:=by
 intro e f hb b;refine zkZ (i:=i) (j:=j) ?_ hi hj;unfold ziB;rw [hoj];obtain ⟨k,hk,d⟩:=Array.getElem_of_mem f;exact Array.any_eq_true.2 ⟨k,hk,by rw [d,hb,b];simp⟩
theorem zk0 (hi:ops[i]? = some oi) (hz:ziB md ops z i=true) (hiz:i≠z) (hs:Region.noSelect ops=true) (hQ:∀c a w,Q (.panic c) (a.put oi.dst v) w→Q (.panic c) a w) :
 ∀(n:Nat) (l:Array Bool) (a:Act) (w:World),(∀j oj,ops[j]? = some oj→j≠i→l.getD j true=false→(∀e ∈ oj.after,Region.binds md e=true→e.on≠i)→oi.apart ops oj=true) →
  i ∈ Region.ready md ops l→YieldsIf P ops S oi v a→S w→zcd P md ops Q S z n (l.setIfInBounds i true) (a.put oi.dst v) w→zcd P md ops Q S z (n + 1) l a w:=by
 have m:=Region.noSelect_spec hs;intro n;induction n with
 | zero =>
  intro l a w _ o A hS H;refine ⟨fun e=>(by rw [e] at o;cases o),fun j q=>?_⟩;by_cases d:j=i
  · subst d;exact A.wpOp hi hS ⟨fun _=>hS,H⟩
  · have E:=ready_mono q d;rw [H.1] at E;cases E
 | succ n ih =>
  intro l a w f o A hS H;refine ⟨fun e=>(by rw [e] at o;cases o),fun j q=>?_⟩;by_cases d:j=i
  · subst d;exact A.wpOp hi hS ⟨fun _=>hS,H⟩
  · have s:j≠z:=fun e=>zkZ (e ▸ hz) o q;obtain ⟨p,oj,g,_⟩:=mem_ready.1 q;have F:=wpOp_putIf g (f j oj g d p (zql g o q)) (fun cs b=>m i oi cs b hi) (fun cs b=>m j oj cs b g) hQ A (H.2 j (ready_mono q d));refine wpOp_mono (fun b u B=>⟨fun _=>B.2.1 s,ih (l.setIfInBounds j true) b u (fun k ok hk C x D=>f k ok hk C ?_ D) (ready_mono o (Ne.symm d)) B.1 (B.2.1 s) ?_⟩) F
    · by_cases y:j=k
      · subst y;exact p
      · rw [getD_set_ne true y] at x;exact x
    · rw [ycr _ _ d];exact B.2.2
theorem ze9 (S:World→Prop) (z:Nat) {id:Nat} (hm:P.follows .mixedOrders=true) (h:zcd P .any ops Q S z ops.size (Array.replicate ops.size false) a (World.drew w)):(Code.region id ops true).wp P Q a w :=
 wp_region_any hm (ziC _ _ _ _ h)
theorem roL_take (i:Nat) (d:Option Tmp) {n:Nat} (hi:ops[i]? = some oi) (hd:oi.dst=d)
 (hz:ziB md ops z i=true) (hiz:(i == z)=false) (hs:Region.noSelect ops=true) (hf:Region.free md ops l i=true) (hr:(Region.ready md ops l).contains i=true)
 (hQ:∀c a w,Q (.panic c) (a.put oi.dst v) w→Q (.panic c) a w) (hw:Region.wanted oi (yielded ops a.tmps)=true) (hy:∀w,S w→(execOp a.eval oi).run P w = .ok (.value v) w) (hS:S w)
 (h:zcd P md ops Q S z n (l.setIfInBounds i true) (a.put d v) w):zcd P md ops Q S z (n + 1) l a w:=by
 subst hd;exact zk0 hi hz (by simpa using hiz) hs hQ n l a w (Region.free_spec hi hf) (by simpa using hr) (.inl ⟨hw,hy⟩) hS h
theorem zdj (i:Nat) {n:Nat} (hi:ops[i]? = some oi) (hr:Region.ready md ops l=[i])
 (h:∀K':Act→World→Prop,(∀a w,(i≠z→S w)→zcd P md ops Q S z n (l.setIfInBounds i true) a w→K' a w)→if Region.wanted oi (yielded ops a.tmps)=true then Oper.wp P oi a w K' Q else K' (a.put oi.dst undef) w) :
 zcd P md ops Q S z (n + 1) l a w :=
 ⟨fun e=>(by rw [hr] at e;cases e),fun k hk=>by
  rw [hr] at hk;simp at hk;subst hk;exact wpOp_step hi fun K' b=>h K' fun a w s x=>b a w ⟨s,x⟩⟩
theorem zgp (hr:Region.ready md ops l=[]) (h:Q .normal a w):∀n,zcd P md ops Q S z n l a w
 | 0=>⟨hr,h⟩
 | _ + 1=>⟨fun _=>h,by rw [hr];simp⟩
theorem zci (w:World) {o:Oper} {K:Act→World→Prop} (d:Option Tmp) (hd:o.dst=d) (s x:Operand) (t tx:TypeId)
 (ho:o.op = .call { callee:=.builtin .append,args:=#[s,x],argTypes:=#[t,tx] })
 (base:Nat) (e:TypeId) (i:TypeInfo) (z:Value) (size bytes:Nat) (ht:P.underlying t=some (.slice e)) (hi:P.info? e=some i) (hz:i.zero=some z)
 (hsize:i.size=size) (hby:i.bytes=bytes) (hzs:z.cells.size=size) (hsz:0<size)
 (v:Value) (n:Nat) (xs:List Value) (hv:a.eval s=v) (hown:w.ownsRow base e size v n xs) (y:Value) (m:Nat) (news:List Value) (hx:a.eval x=y) (hs:Src P size tx y m news w)
 (h63:n + m≤maxLen) (hbytes:(n + m) * bytes≤140737488355328) (hbase:base≤w.heap.size)
 (h:∀v' w',w'.ownsRow base e size v' (n + m) (xs ++ news)→w.grownBy w' v.ownBlock→K (a.put d v') w') :
 Oper.wp P o a w K Q:=by
 subst hd;obtain ⟨v',w',b,f,g,j⟩:=zcR (P:=P) w base t tx o.type e i z size bytes ht hi hz hsize hby hzs hsz v n xs hown y m news hs h63 hbytes hbase;unfold Oper.wp execOp;simp only [ho,resolve,invoke,builtin,Sem.run_bind,Sem.run_pure,Result.andThen_ok,List.map_toArray,yaW,ycC,hv,hx,b];exact h v' w' f g
end
end
section
open Go.RowKit
variable {oi:Oper} {n:Nat} {l:Array Bool} {a a':Act} {w:World}
section
variable {P:Program} {ops:Array Oper} {Q:Exit→Act→World→Prop} {md:Region.Mode}
theorem zal {S:World→Prop} {z:Nat} (i:Nat) (d:Option Tmp) {v:Value} (hS:S w) (h:zcd P md ops Q S z n (l.setIfInBounds i true) a' w) (hi:ops[i]? = some oi:=by rfl) (hd:oi.dst=d:=by rfl)
 (hz:ziB md ops z i=true:=by kernel_rfl) (hiz:(i == z)=false:=by decide) (hs:Region.noSelect ops=true:=by kernel_rfl) (hf:Region.free md ops l i=true:=by kernel_rfl) (hr:(Region.ready md ops l).contains i=true:=by kernel_rfl)
 (hQ:∀c a w,Q (.panic c) (a.put oi.dst v) w→Q (.panic c) a w:=by exact fun _ _ _ h=>h) (hw:Region.wanted oi (yielded ops a.tmps)=true:=by rfl) (hy:∀w,S w→(execOp a.eval oi).run P w = .ok (.value v) w:=by intro w hS;(try dsimp only at hS);go_simp;try with_reducible rfl)
 (ha:a.put d v=a':=by (simp only [Act.put,yaE,yaU,yaV];rfl)):zcd P md ops Q S z (n + 1) l a w :=
 roL_take i d hi hd hz hiz hs hf hr hQ hw hy hS (by rw [ha];exact h)
theorem zaa {S:World→Prop} (i:Nat) (d:Option Tmp) {v:Value} (hS:S w) (h:wpAnyH P md ops Q S n (l.setIfInBounds i true) a' w) (hi:ops[i]? = some oi:=by rfl) (hd:oi.dst=d:=by rfl)
 (hs:Region.noSelect ops=true:=by kernel_rfl) (hf:Region.free md ops l i=true:=by kernel_rfl) (hr:(Region.ready md ops l).contains i=true:=by kernel_rfl)
 (hQ:∀c a w,Q (.panic c) (a.put oi.dst v) w→Q (.panic c) a w:=by exact fun _ _ _ h=>h) (hw:Region.wanted oi (yielded ops a.tmps)=true:=by rfl) (hy:∀w,S w→(execOp a.eval oi).run P w = .ok (.value v) w:=by intro w hS;(try dsimp only at hS);go_simp;try with_reducible rfl)
 (ha:a.put d v=a':=by (simp only [Act.put,yaE,yaU,yaV];rfl)):wpAnyH P md ops Q S (n + 1) l a w :=
 roH_take i d hi hd hs hf hr hQ hw hy hS (by rw [ha];exact h)
theorem zb2 {S:World→Prop} (i:Nat) (d:Option Tmp) (hS:S w) (h:wpAnyH P md ops Q S n (l.setIfInBounds i true) a' w) (hi:ops[i]? = some oi:=by rfl) (hd:oi.dst=d:=by rfl)
 (hs:Region.noSelect ops=true:=by kernel_rfl) (hf:Region.free md ops l i=true:=by kernel_rfl) (hr:(Region.ready md ops l).contains i=true:=by kernel_rfl)
 (hQ:∀c a w,Q (.panic c) (a.put oi.dst undef) w→Q (.panic c) a w:=by exact fun _ _ _ h=>h) (hw:Region.wanted oi (yielded ops a.tmps)=false:=by rfl)
 (ha:a.put d undef=a':=by (simp only [Act.put,yaE,yaU,yaV];rfl)):wpAnyH P md ops Q S (n + 1) l a w :=
 zgo i d hi hd hs hf hr hQ hw hS (by rw [ha];exact h)
end
theorem zy1 {p:Prop} (h:p:=by intro w hS;(try dsimp only at hS);obtain s0:=hS;go_simp;try with_reducible rfl):p:=h
theorem zy2 {p:Prop} (h:p:=by intro w hS;(try dsimp only at hS);obtain ⟨q0,q1⟩:=hS;go_simp;try with_reducible rfl):p:=h
theorem zy4 {p:Prop} (h:p:=by intro w hS;(try dsimp only at hS);obtain ⟨q0,q1,q2,q3⟩:=hS;go_simp;try with_reducible rfl):p:=h
theorem zy5 {p:Prop} (h:p:=by intro w hS;(try dsimp only at hS);obtain ⟨q0,q1,q2,q3,q4⟩:=hS;go_simp;try with_reducible rfl):p:=h
theorem zy8 {p:Prop} (h:p:=by intro w hS;(try dsimp only at hS);obtain ⟨q0,q1,q2,q3,q4,q5,q6,q7⟩:=hS;go_simp;try with_reducible rfl):p:=h
theorem zu4 {p:Prop} (h:p:=by intro w hS;obtain ⟨q0,q1,q2,q3⟩:=hSc w hS;go_simp;try with_reducible rfl):p:=h
theorem zu8 {p:Prop} (h:p:=by intro w hS;obtain ⟨q0,q1,q2,q3,q4,q5,q6,q7⟩:=hSc w hS;go_simp;try with_reducible rfl):p:=h
end
section
open Go.RowKit
variable {i B:Nat} {w:World}
def ks (s:List ByteArray):List Value:=s.map Value.string
theorem zmG (s:List ByteArray):(ks s).length=s.length:=by simp [ks]
theorem zpQ (s:List ByteArray):∀u ∈ ks s,u.oneCell'=true:=by
 intro u b;obtain ⟨_,_,rfl⟩:=yaN.1 b;rfl
theorem zmF {s:List ByteArray} {k:ByteArray} (h:s[i]? = some k):(ks s)[i]? = some (.string k):=by simp [ks,h]
theorem zpP (a b:List ByteArray):ks (a ++ b)=ks a ++ ks b:=by simp [ks]
theorem zg4 {α:Type} {l:List α} {x:α} (h:l[i]? = some x):i<l.length:=(yao.1 h).1
theorem zad {w1 w2:World} (h:Below B w w1) (hB:B≤w1.heap.size) (k:Below w1.heap.size w1 w2):Below B w w2:=h.trans (k.mono hB)
theorem zav (w:World) (B q:Nat):Below B w (w.drewN q):=⟨rfl,rfl,rfl,yaj _,fun _ _=>rfl⟩
theorem zaM (w:World) (o:Obj):Below w.heap.size w (w.alloc o):=(Below.refl _ w).alloc (yaj _) o
def zkG (p:ByteArray × Bool):List Value:=[.string p.1,.bool p.2]
def pcs (l:List (ByteArray × Bool)):List Value:=l.flatMap zkG
theorem zd2 (p:ByteArray × Bool):∀u ∈ zkG p,u.oneCell'=true:=by
 intro u b;simp only [zkG,yav,ya1,ybw] at b;rcases b with rfl | rfl <;> rfl
theorem pcs_len (l:List (ByteArray × Bool)):(pcs l).length=l.length * 2:=by
 induction l with
 | nil=>rfl
 | cons a t ih=>rw [pcs,yaS,yam,←pcs,ih];simp [zkG];omega
theorem pcs_app (a b:List (ByteArray × Bool)):pcs (a ++ b)=pcs a ++ pcs b:=yaZ
theorem zd3 (l:List (ByteArray × Bool)) (k:ByteArray) (b:Bool):pcs (l ++ [(k,b)])=pcs l ++ [.string k,.bool b]:=by rw [pcs_app];simp [pcs,zkG]
theorem pcs_get {l:List (ByteArray × Bool)} {p:ByteArray × Bool} (h:l[i]? = some p):(pcs l)[i * 2]? = some (.string p.1)∧(pcs l)[i * 2 + 1]? = some (.bool p.2):=by
 induction l generalizing i with
 | nil=>simp at h
 | cons a t ih =>
  rw [pcs,yaS,←pcs];cases i with
  | zero =>
   simp at h;subst h;exact ⟨rfl,rfl⟩
  | succ i =>
   obtain ⟨b,d⟩:=ih (by simpa using h);rw [yaF (by simp [zkG];omega),yaF (by simp [zkG];omega)];simp only [zkG,yaq,yaI];rw [show (i + 1) * 2-(0 + 1 + 1)=i * 2 by omega,show (i + 1) * 2 + 1-(0 + 1 + 1)=i * 2 + 1 by omega];exact ⟨b,d⟩
theorem zfC {n c:Nat} {A:Option Addr} {l:List (ByteArray × Bool)} (h:Rd w B 2 A n c (pcs l)) {p:ByteArray × Bool} (hi:l[i]? = some p) :
 ∃b o,A=some ⟨b,o,none⟩∧b<B∧w.cell? ⟨b,o + i * 2,none⟩=some (.string p.1)∧w.cell? ⟨b,o + i * 2 + 1,none⟩=some (.bool p.2):=by
 have j:0<n:=by
  have d:=h.len;have f:=pcs_len l;have k:=zg4 hi;omega
 obtain ⟨b,o,e,hb,g⟩:=h.at_ j;obtain ⟨d,f⟩:=pcs_get hi;exact ⟨b,o,e,hb,g _ _ d,by rw [ya4];exact g _ _ f⟩
theorem zhk {n c:Nat} {A:Option Addr} {l:List ByteArray} (h:Rd w B 1 A n c (ks l)) {k:ByteArray} (hi:l[i]? = some k) :
 ∃b o,A=some ⟨b,o,none⟩∧b<B∧w.cell? ⟨b,o + i,none⟩=some (.string k):=by
 have d:0<n:=by
  have g:=h.len;have j:=zmG l;have m:=zg4 hi;omega
 obtain ⟨b,o,e,hb,f⟩:=h.at_ d;exact ⟨b,o,e,hb,f _ _ (zmF hi)⟩
theorem zbB (w:World) (cs:Array Value) (t:TypeId) (j:Nat) (u:Value) (h:cs.toList[j]? = some u):(w.alloc (.cells cs t)).cell? ((⟨w.heap.size,0,none⟩:Addr).add j)=some u:=by
 rw [Addr.add_lit,cell_of_row _ _ _ _ _ _ (heap_alloc_new w _),yaG];simpa using h
theorem cells_at (w:World) (cs:Array Value) (t:TypeId) (bb:Nat) (hb:bb=w.heap.size) (j:Nat) (u:Value) (h:cs.toList[j]? = some u):(w.alloc (.cells cs t)).cell? ((⟨bb,0,none⟩:Addr).add j)=some u:=by
 subst hb;exact zbB w cs t j u h
theorem zae {o:Obj} (h:B≤w.heap.size):B≤(w.alloc o).heap.size:=by simp;omega
theorem zdd {α:Type} {l:List α} {x:α} (h:l[i]? = some x):l.drop i=x::l.drop (i + 1):=by
 obtain ⟨b,d⟩:=yao.1 h;rw [ya3 b,d]
theorem box2 (w:World) (x y:Value) (t:TypeId):(w.alloc (.cells #[x,y] t)).cell? ⟨w.heap.size,0,none⟩=some x∧(w.alloc (.cells #[x,y] t)).cell? ⟨w.heap.size,1,none⟩=some y:=by
 constructor
 · rw [cell_of_row _ _ _ _ _ _ (heap_alloc_new w _)];rfl
 · rw [cell_of_row _ _ _ _ _ _ (heap_alloc_new w _)];rfl
theorem zhZ {W:World} {x y:Value} {t:TypeId} (h:(w.alloc (.cells #[x,y] t)).grownBy W none):W.cell? ⟨w.heap.size,0,none⟩=some x∧W.cell? ⟨w.heap.size,1,none⟩=some y:=by
 obtain ⟨b,d⟩:=box2 w x y t;exact ⟨h.cell b yaf,h.cell d yaf⟩
end
end Go.Proofs.YtmblgnddgmfkhaaGreat
