import Derived.Test.YtmblgnddgmfkhaaGreatK00
import Derived.WalkKit
import Derived.WalkSpells
import Derived.WalkLawsBesides
import Derived.Handy
import Derived.Lib.Hide
import Derived.Deep.AppendSrc
import Derived.Deep.Draws
import Derived.Maps.AppendAt
import Derived.OrdersHeld
import Derived.RegionTactic
import Derived.Deep.RegionWith
set_option maxRecDepth 100000
set_option maxHeartbeats 4000000
namespace Go.Proofs.YtmblgnddgmfkhaaGreat
section
open Go.RowKit
variable {k base:Nat} {v:Value}
theorem blk_add (a:Addr) (i:Nat):(a.add i).block=a.block:=by unfold Addr.add;split <;> rfl
theorem add_add' (a:Addr) (i j:Nat):(a.add i).add j=a.add (i + j):=by
 unfold Addr.add;by_cases b:i=0 <;> by_cases f:j=0 <;> simp [b,f,ya7]
structure Rd (w:World) (B size:Nat) (A:Option Addr) (n c:Nat) (xs:List Value):Prop where
 len:xs.length=n * size
 cap:n≤c
 capm:c≤maxLen
 nil:A=none→n=0∧c=0
 at_:0<n→∃b o,A=some ⟨b,o,none⟩∧b<B∧∀j u,xs[j]? = some u→w.cell? ⟨b,o + j,none⟩=some u
section
variable {w w':World} {B B' size n c:Nat} {A:Option Addr} {xs:List Value}
theorem Rd.keep (h:Rd w B size A n c xs) (hk:∀p:Addr,p.block<B→w'.cell? p=w.cell? p):Rd w' B size A n c xs :=
 ⟨h.len,h.cap,h.capm,h.nil,fun f=>by
  obtain ⟨b,o,e,hb,g⟩:=h.at_ f;exact ⟨b,o,e,hb,fun j u k=>(hk _ hb).trans (g j u k)⟩⟩
theorem Rd.below (h:Rd w B size A n c xs) (hb:Below B w w'):Rd w' B size A n c xs:=h.keep fun _ b=>hb.cell b
theorem Rd.belowLe (h:Rd w B size A n c xs) (hb:Below B' w w') (hB:B≤B'):Rd w' B size A n c xs:=h.below (hb.mono hB)
theorem Rd.more (h:Rd w B size A n c xs) (hB:B≤B'):Rd w B' size A n c xs :=
 ⟨h.len,h.cap,h.capm,h.nil,fun f=>by
  obtain ⟨b,o,e,hb,g⟩:=h.at_ f;exact ⟨b,o,e,yas hb hB,g⟩⟩
theorem Rd.up {w w':World} {size n c:Nat} {A:Option Addr} {xs:List Value} (h:Rd w w.heap.size size A n c xs) (hb:Below w.heap.size w w'):Rd w' w'.heap.size size A n c xs:=(h.below hb).more hb.size
theorem Rd.alloc (h:Rd w B size A n c xs) (hB:B≤w.heap.size) (o:Obj):Rd (w.alloc o) B size A n c xs:=h.below ((Below.refl _ _).alloc hB o)
theorem Rd.none_ (w:World) (B size:Nat):Rd w B size none 0 0 []:=⟨by simp,yaj _,by simp [maxLen],fun _=>⟨rfl,rfl⟩,fun h=>absurd h yab⟩
theorem Rd.get (h:Rd w B 1 A n c xs) (hk:k<n):∃b o u,A=some ⟨b,o,none⟩∧b<B∧xs[k]? = some u∧w.cell? ⟨b,o + k,none⟩=some u:=by
 obtain ⟨b,o,e,hb,g⟩:=h.at_ yab;have f:k<xs.length:=by have:=h.len;omega
 exact ⟨b,o,xs[k],e,hb,yal f,g k _ (yal f)⟩
theorem Rd.cut (h:Rd w B size A n c xs) (hk:k≤n):Rd w B size (if c=k then A else A.map (·.add (k * size))) (n-k) (c-k) (xs.drop (k * size)):=by
 have f:=h.cap;refine ⟨by rw [ycL,h.len,Nat.sub_mul],by omega,by have:=h.capm;omega,?_,?_⟩
 · intro e;have g:A=none:=by
    split at e
    · exact e
    · simpa using e
   have:=h.nil g;omega
 · intro s;obtain ⟨b,o,rfl,hb,m⟩:=h.at_ yab;rw [yak (by omega)];refine ⟨b,o + k * size,by simp [Addr.add_lit],hb,fun j u q=>?_⟩;rw [ya7];exact m _ u (by rw [←q,ycC])
theorem Rd.cutE (h:Rd w B 1 A n c xs) (hk:k≤n) (hc:c=k):Rd w B 1 A (n-k) 0 (xs.drop k):=by
 have:=h.cut hk;rwa [yan hc,yb4,show c-k=0 from by omega] at this
theorem Rd.cutN (h:Rd w B 1 A n c xs) (hk:k≤n) (hc:¬c=k):Rd w B 1 (A.map fun a=>a.add k) (n-k) (c-k) (xs.drop k):=by
 have:=h.cut hk;rwa [yak hc,yb4] at this
theorem Rd.pre (h:Rd w B size A n c xs) (hk:k≤n):Rd w B size A k c (xs.take (k * size)):=by
 have g:=h.cap;refine ⟨by rw [yaN,h.len];exact ybT (ybm _ hk),by omega,h.capm,fun e=>by have:=h.nil e;omega,fun q=>?_⟩;obtain ⟨b,o,e,hb,m⟩:=h.at_ yab;refine ⟨b,o,e,hb,fun j u f=>m j u ?_⟩;rw [List.getElem?_take] at f;split at f
 · exact f
 · cases f
theorem Rd.of_cells {a:Addr} (hl:xs.length=n * size) (hs:0<size) (hn:n≤c) (hc:c≤maxLen) (hb:a.block<B) (h:∀j u,xs[j]? = some u→w.cell? (a.add j)=some u):Rd w B size (some a) n c xs:=by
 refine ⟨hl,hn,hc,fun e=>(by cases e),fun k=>?_⟩;obtain ⟨b,o,f⟩:=a;have m:0<xs.length:=by rw [hl];exact Nat.mul_pos k hs
 have g:f=none:=by simpa [Addr.add] using World.cell?_spot (h 0 _ (yal m))
 subst g;exact ⟨b,o,rfl,hb,fun j u q=>by rw [←Addr.add_lit];exact h j u q⟩
theorem Rd.own {e:TypeId} (h:w.ownsRow base e size v n xs):∃A c,v = .slice A n c∧Rd w w.heap.size size A n c xs:=by
 rcases h.2 with ⟨rfl,rfl⟩ | ⟨g,cap,b,rfl,hb,f,k,m,q,s⟩
 · exact ⟨none,0,rfl,⟨h.1,yaj _,by simp [maxLen],fun _=>⟨rfl,rfl⟩,fun h=>absurd h yab⟩⟩
 · refine ⟨_,_,rfl,⟨h.1,k,m,fun e=>(by cases e),fun x=>?_⟩⟩;exact ⟨g,0,rfl,(yaR.1 f).1,fun j u o=>by rw [←Addr.add_lit];exact h.cells (g:=g) rfl j u o⟩
theorem Rd.src {P:Program} {tx e':TypeId} (hk:P.underlying tx=some (.slice e')) (h:Rd w B size A n c xs) (h1:∀u ∈ xs,u.oneCell'=true):Src P size tx (.slice A n c) n xs w:=by
 rcases ybg n with f | f
 · subst f;have:xs=[]:=yaU (by simpa using h.len);subst this;rcases A with _ | k
   · exact Src.ofNil w hk c
   · exact Src.ofSlice w hk k 0 c [] yaf (fun j u g=>by simp at g) h1
 · obtain ⟨b,o,rfl,_,m⟩:=h.at_ f;exact Src.ofSlice w hk _ n c xs h.len (fun j u g=>by rw [Addr.add_lit];exact m j u g) h1
end
theorem zaA {w:World} {base':Nat} {e:TypeId} {size n:Nat} {xs:List Value} (h:w.ownsRow base e size v n xs) (hb:base'≤base):w.ownsRow base' e size v n xs:=by
 refine ⟨h.1,?_⟩;rcases h.2 with f | ⟨g,cap,b,j,k,r⟩
 · exact .inl f
 · exact .inr ⟨g,cap,b,j,by omega,r⟩
theorem Rd.lit (w:World) (cs:Array Value) (t:TypeId) (n size:Nat) (h:cs.size=n * size) (hn:n≤maxLen):Rd (w.alloc (.cells cs t)) (w.heap.size + 1) size (some ⟨w.heap.size,0,none⟩) n n cs.toList :=
 ⟨by rw [ybo];exact h,yaj _,hn,fun e=>(by cases e),fun _=>⟨_,_,rfl,ycv _,fun j u b=>by
  rw [cell_of_row _ _ _ cs t (0,0) (heap_alloc_new w _)];simpa using b⟩⟩
theorem Rd.litX (w:World) (cs:Array Value) (t:TypeId) (n size:Nat) (xs:List Value) (hx:cs.toList=xs) (h:cs.size=n * size) (hn:n≤maxLen):Rd (w.alloc (.cells cs t)) (w.alloc (.cells cs t)).heap.size size (some ⟨w.heap.size,0,none⟩) n n xs:=by
 subst hx;simpa using Rd.lit w cs t n size h hn
theorem zhK (w:World) (cs:Array Value) (t:TypeId) (n size base:Nat) (h:cs.size=n * size) (hn:n≤maxLen) (hb:base≤w.heap.size):(w.alloc (.cells cs t)).ownsRow base t size (.slice (some ⟨w.heap.size,0,none⟩) n n) n cs.toList :=
 ⟨by rw [ybo];exact h,.inr ⟨w.heap.size,n,cs,rfl,hb,heap_alloc_new w _,yaj _,hn,h,ybl (by rw [ybo,h];exact yaj _)⟩⟩
theorem zbF (b:Nat):∀(vs:List Value) (o:Nat) (w:World) (k:Nat),k≠b→(w.setCells b o vs).heap[k]? = w.heap[k]?
 | [],_,_,_,_=>rfl
 | v::r,o,w,k,h=>by
  show ((w.setCell ⟨b,o,none⟩ v).setCells b (o + 1) r).heap[k]? = _;rw [zbF b r (o + 1) _ k h,Below.heap_setCell _ _ _ _ h]
theorem zdD (b:Nat):∀(vs:List Value) (o:Nat) (w:World),(w.setCells b o vs).heap.size=w.heap.size
 | [],_,_=>rfl
 | v::r,o,w=>by
  show ((w.setCell ⟨b,o,none⟩ v).setCells b (o + 1) r).heap.size=_;rw [zdD b r];simp [World.setCell]
theorem zbc (b:Nat):∀(vs:List Value) (o:Nat) (w:World),(w.setCells b o vs).os=w.os∧(w.setCells b o vs).tape=w.tape∧(w.setCells b o vs).output=w.output
 | [],_,_=>⟨rfl,rfl,rfl⟩
 | v::r,o,w=>zbc b r (o + 1) (w.setCell ⟨b,o,none⟩ v)
theorem zbU (b:Nat) (t:TypeId) (fr:Nat × Nat):∀(vs:List Value) (o:Nat) (w:World) (cur:Array Value),w.heap[b]? = some (.cells cur t fr)→o + vs.length≤cur.size →
 ∃cur',(w.setCells b o vs).heap[b]? = some (.cells cur' t fr)∧cur'.size=cur.size∧cur'.toList.take (o + vs.length)=cur.toList.take o ++ vs
 | [],o,w,cur,h,_=>⟨cur,h,rfl,by simp⟩
 | v::r,o,w,cur,h,f=>by
  simp only [yat] at f;have g:(w.setCell ⟨b,o,none⟩ v).heap[b]? = some (.cells (cur.setIfInBounds o v) t fr):=by
   simp [World.setCell,ybB,h]
  obtain ⟨cur',j,k,m⟩:=zbU b t fr r (o + 1) _ _ g yag;refine ⟨cur',j,by rw [k];simp,?_⟩;rw [show o + (v::r).length=o + 1 + r.length from by simp;omega,m];have:(cur.setIfInBounds o v).toList.take (o + 1)=cur.toList.take o ++ [v]:=by
   rw [ycN,List.take_set,ybI (by simp;omega)];rw [List.set_append_right _ _ (by simp;omega)];simp [show min o cur.size=o from by omega]
  rw [this];simp
section
variable {P:Program} (w:World)
theorem zc7 (base:Nat) (t tx ty e:TypeId) (i:TypeInfo) (z:Value) (size bytes:Nat) (ht:P.underlying t=some (.slice e)) (hi:P.info? e=some i) (hz:i.zero=some z)
 (hsize:i.size=size) (hby:i.bytes=bytes) (hzs:z.cells.size=size) (hsz:0<size)
 (v:Value) (n:Nat) (xs:List Value) (hown:w.ownsRow base e size v n xs) (x:Value) (m:Nat) (news:List Value) (hs:Src P size tx x m news w)
 (h63:n + m≤maxLen) (hbytes:(n + m) * bytes≤140737488355328) (hbase:base≤w.heap.size) :
 ∃v' w',(Builtin.append_ #[t,tx] ty #[v,x]).run P w = .ok v' w'∧w'.ownsRow base e size v' (n + m) (xs ++ news)∧w.grownBy w' v.ownBlock∧(v'.ownBlock=v.ownBlock∨v'.ownBlock=some w.heap.size):=by
 subst hsize;subst hby;have H:n + m≤9223372036854775807:=by simp only [maxLen] at h63;omega
 have f:(xs ++ news).length=(n + m) * i.size:=by rw [yam,hown.1,hs.newsLen,ycg]
 have o:∀(old:Nat),old<n + m→∀(row:Option Nat),(w.drew.alloc (.cells ((xs ++ news).toArray ++ Builtin.zeroCells z.cells (grownCap w (n + m) old e-(n + m))) e)).ownsRow base e i.size
   (.slice (some ⟨w.heap.size,0,none⟩) (n + m) (grownCap w (n + m) old e)) (n + m) (xs ++ news) ∧
  w.grownBy (w.drew.alloc (.cells ((xs ++ news).toArray ++ Builtin.zeroCells z.cells (grownCap w (n + m) old e-(n + m))) e)) row:=by
  intro old ho row;have I:=grownCap_ge w (n + m) old e;have y:grownCap w (n + m) old e≤maxLen:=grownCap_le_maxLen w (n + m) old e h63;refine ⟨⟨f,.inr ⟨w.heap.size,_,_,rfl,hbase,heap_alloc_new w.drew _,I,y,?_,?_⟩⟩,⟨rfl,rfl,rfl,by simp,fun k hk _=>heap_alloc_old w.drew _ hk⟩⟩
  · simp only [Array.size_append,ybu,size_zeroCells,hzs,f,←ycg];congr 1
    omega
  · simp only [yb3,←f];exact ycV
 rcases hown.2 with ⟨rfl,rfl⟩ | ⟨g,cap,s,rfl,J,K,Q,y,E,A⟩
 · have R:xs=[]:=yaU (by simpa using hown.1);subst R;by_cases T:m=0
   · subst T;have U:news=[]:=yaU (by simpa using hs.newsLen);subst U;refine ⟨.slice none 0 0,w,?_,by simpa using World.ownsRow_nil w base e i.size,⟨rfl,rfl,rfl,yaj _,fun _ _ _=>rfl⟩,Or.inl rfl⟩;have L:=hs.len;have M:=hs.cells;rcases hs.kind with ⟨e',hk⟩ | hk <;> simp [Builtin.append_,run_underlying ht,run_underlying hk,sizeOf,typeInfo,hi,L,M]
   · have D:=run_append_grow_src (P:=P) w t tx ty e i z ht hi hz none 0 0 [] (by simp [Builtin.firstCells]) x m news hs yab yab (growslice_fits yab hbytes);have q:=o 0 yab (Value.ownBlock (.slice none 0 0));exact ⟨_,_,D,q.1,q.2,Or.inr rfl⟩
 · by_cases b:n + m≤cap
   · have F:n * i.size + news.length≤s.size:=by rw [hs.newsLen,E,←ycg];exact ybm _ b
     have B:∀j,j<s.size→(w.cell? ⟨g,j,none⟩).isSome=true:=fun j N=>by
      rw [cell_of_row w g j s e (0,0) K];simp [N]
     have O:∀j,w.frozen? ⟨g,j,none⟩=false:=fun j=>by simp [World.frozen?,K]
     have D:=run_append_room_src (P:=P) w t tx ty e i ht hi g 0 n cap x m news hs b (fun j N=>B _ yab) (fun j N=>O _);rw [yaI] at D;obtain ⟨G,V,X,Y⟩:=zbU g e (0,0) news (n * i.size) w s K F;obtain ⟨Z,s2,s3⟩:=zbc g news (n * i.size) w;refine ⟨_,_,D,⟨f,.inr ⟨g,cap,G,rfl,J,V,b,y,by rw [X,E],?_⟩⟩,⟨Z,s2,s3,by rw [zdD];exact yaj _,fun k _ hk=>zbF g _ _ _ k (fun e=>hk (by simp [Value.ownBlock,e]))⟩,Or.inl rfl⟩;rw [←A,←Y,hs.newsLen,←ycg]
   · have C:∀j u,xs[j]? = some u→w.cell? ((⟨g,0,none⟩:Addr).add j)=some u:=hown.cells (g:=g) rfl;have D:=run_append_grow_src (P:=P) w t tx ty e i z ht hi hz (some ⟨g,0,none⟩) n cap xs (run_firstCells_some w.drew i.size n ⟨g,0,none⟩ n cap xs hown.1 (by simpa using C)) x m news hs yab yab (growslice_fits yab hbytes);have q:=o cap yab (Value.ownBlock (.slice (some ⟨g,0,none⟩) n cap));exact ⟨_,_,D,q.1,q.2,Or.inr rfl⟩
theorem zab {ops:Array Oper} {rest:List Oper} {o:Oper} {a:Act} {Q:Exit→Act→World→Prop} (hgd:o.guard=none) (s x:Operand) (t tx:TypeId)
 (ho:o.op = .call { callee:=.builtin .append,args:=#[s,x],argTypes:=#[t,tx] })
 (base:Nat) (e:TypeId) (i:TypeInfo) (z:Value) (size bytes:Nat) (ht:P.underlying t=some (.slice e)) (hi:P.info? e=some i) (hz:i.zero=some z)
 (hsize:i.size=size) (hby:i.bytes=bytes) (hzs:z.cells.size=size) (hsz:0<size)
 (v:Value) (n:Nat) (xs:List Value) (hv:a.eval s=v) (hown:w.ownsRow base e size v n xs) (y:Value) (m:Nat) (news:List Value) (hx:a.eval x=y) (hs:Src P size tx y m news w)
 (h63:n + m≤maxLen) (hbytes:(n + m) * bytes≤140737488355328) (hbase:base≤w.heap.size)
 (h:∀v' w',w'.ownsRow base e size v' (n + m) (xs ++ news)→w.grownBy w' v.ownBlock→(v'.ownBlock=v.ownBlock∨v'.ownBlock=some w.heap.size)→wpList P ops Q rest (a.put o.dst v') w') :
 wpList P ops Q (o::rest) a w:=by
 refine wpList_plain hgd fun K b=>?_;obtain ⟨v',w',f,g,j,k⟩:=zc7 (P:=P) w base t tx o.type e i z size bytes ht hi hz hsize hby hzs hsz v n xs hown y m news hs h63 hbytes hbase;unfold Oper.wp execOp;simp only [ho,resolve,invoke,builtin,Sem.run_bind,Sem.run_pure,Result.andThen_ok,List.map_toArray,yaX,ycw,hv,hx,f];exact b _ _ (h v' w' g j k)
end
theorem zae {B:Nat} {w0 w w':World} {e:TypeId} {size n:Nat} {xs:List Value} (hb:Below B w0 w) (hg:w.grownBy w' v.ownBlock) (hown:w.ownsRow base e size v n xs) (hB:B≤w.heap.size) (hle:B≤base):Below B w0 w' :=
 hb.grown hg hB fun k hk=>yay hle (hown.lt k hk).1
def bv (l:List UInt8):List Value:=l.map fun b=>Value.int .u8 b.toNat
theorem za6 (a b:List UInt8):bv (a ++ b)=bv a ++ bv b:=by simp [bv]
theorem zg8 (l:List UInt8):(bv l).length=l.length:=by simp [bv]
theorem zgm (l:List UInt8):∀u ∈ bv l,u.oneCell'=true:=by
 intro u b;obtain ⟨_,_,rfl⟩:=yaH.1 b;rfl
theorem bv_get (l:List UInt8) (k:Nat):(bv l)[k]? = l[k]?.map fun b=>Value.int .u8 b.toNat:=by simp [bv]
theorem zjn (l:List UInt8) (k:Nat):(bv l).drop k=bv (l.drop k):=by simp [bv]
theorem bv_take (l:List UInt8) (k:Nat):(bv l).take k=bv (l.take k):=by simp [bv]
def strOf (l:List UInt8):ByteArray:=⟨l.toArray⟩
theorem zpg (l:List UInt8):(strOf l).data.toList=l:=by simp [strOf]
theorem zgt (l:List UInt8):(strOf l).toList=l:=by rw [ByteArray.toList_eq,zpg]
theorem zdm (l:List UInt8):(strOf l).size=l.length:=by simp [strOf,ByteArray.size]
theorem zcD (s:ByteArray):strOf s.data.toList=s:=by unfold strOf;simp
theorem Rd.lenB {w:World} {B n c:Nat} {A:Option Addr} {l:List UInt8} (h:Rd w B 1 A n c (bv l)):n=l.length:=by have:=h.len;rw [zg8] at this;omega
theorem Rd.conv {P:Program} {w:World} {B n c:Nat} {A:Option Addr} {l:List UInt8} (h:Rd w B 1 A n c (bv l)) (src dst e:TypeId) (hs:P.underlying src=some (.slice e)) (he:P.underlying e=some (.int .u8)) (hd:P.underlying dst=some .string) :
 (convert src dst (.slice A n c)).run P w = .ok (.string (strOf l)) w:=by
 have g:n=l.length:=by have:=h.len;rw [zg8] at this;omega
 subst g;rcases A with _ | a
 · obtain ⟨k,rfl⟩:=h.nil rfl;have:l=[]:=yaU k;subst this;rw [run_convert_bytes_string w src dst e none _ _ hs he hd];rfl
 · refine run_convert_bytes_back w src dst e a c l hs he hd fun j m=>?_;obtain ⟨b,o,f,_,q⟩:=h.at_ yab;simp at f;subst f;rw [Addr.add_lit];exact q j _ (by rw [bv_get,yal m];rfl)
def nb (n:Nat):Nat:=if n=0 then 0 else nb (n / 256) + 1
theorem ze6:nb 0=0:=by unfold nb;rfl
theorem zi7 {n:Nat} (h:0<n):nb n=nb (n / 256) + 1:=by rw [nb,yak (by omega)]
def be (n:Nat):List UInt8:=if n=0 then [] else be (n / 256) ++ [UInt8.ofNat (n % 256)]
theorem zg5:be 0=[]:=by unfold be;rfl
theorem zkl {n:Nat} (h:0<n):be n=be (n / 256) ++ [UInt8.ofNat (n % 256)]:=by rw [be,yak (by omega)]
theorem zca (n:Nat):(be n).length=nb n:=by
 induction n using Nat.strongRecOn with
 | _ n ih =>
  by_cases h:n=0
  · subst h;rw [zg5,ze6];rfl
  · rw [zkl yab,zi7 yab,yam,ih _ (by omega)];rfl
def num (n:Nat):List UInt8:=UInt8.ofNat (nb n)::be n
theorem zb4 (n:Nat):(num n).length=nb n + 1:=by simp [num,zca]
theorem nb_le {n:Nat} (h:n<256 ^ k):nb n≤k:=by
 induction k generalizing n with
 | zero=>rw [show n=0 from by simpa using h,ze6];exact yaj _
 | succ k ih =>
  by_cases b:n=0
  · subst b;rw [ze6];omega
  · rw [zi7 (by omega)];have:=ih (n:=n / 256) (by rw [Nat.pow_succ] at h;omega);omega
theorem zi6 {n:Nat} (h:n<2 ^ 64):nb n≤8:=nb_le (k:=8) yab
theorem be_get (n i:Nat) (h:i<nb n):(be n)[i]? = some (UInt8.ofNat (n / 256 ^ (nb n-1-i) % 256)):=by
 induction n using Nat.strongRecOn with
 | _ n ih =>
  have b:0<n:=by
   rcases ybg n with b | b
   · subst b;rw [ze6] at h;omega
   · exact b
  have f:=zi7 b;rw [zkl b];by_cases hi:i<nb (n / 256)
  · rw [ybt (by rw [zca];exact hi),ih (n / 256) yab hi,Nat.div_div_eq_div_mul,f];rw [show nb (n / 256) + 1-1-i=(nb (n / 256)-1-i) + 1 from by omega,Nat.pow_succ,Nat.mul_comm]
  · have:i=nb (n / 256):=by omega
    rw [yaJ (by rw [zca];omega),zca,f,this];simp
end
section
open Go.RowKit
variable {oi:Oper} {fuel:Nat} {listed:Array Bool} {a:Act} {w:World}
section
variable {P:Program} {ops:Array Oper} {Q:Exit→Act→World→Prop} {md:Region.Mode}
theorem ro_take (i:Nat) (d:Option Tmp) {v:Value} (hi:ops[i]? = some oi) (hd:oi.dst=d)
 (hs:Region.noSelect ops=true) (hf:Region.free md ops listed i=true) (hr:(Region.ready md ops listed).contains i=true)
 (hQ:∀c a w,Q (.panic c) (a.put oi.dst v) w→Q (.panic c) a w) (hw:Region.wanted oi (yielded ops a.tmps)=true) (hy:∀w,(execOp a.eval oi).run P w = .ok (.value v) w)
 (h:wpAny P md ops Q fuel (listed.setIfInBounds i true) (a.put d v) w):wpAny P md ops Q (fuel + 1) listed a w:=by
 subst hd;exact wpAny_take hi hs hf hr hQ (.inl ⟨hw,hy⟩) h
theorem roH_take (i:Nat) (d:Option Tmp) {S:World→Prop} {v:Value} (hi:ops[i]? = some oi) (hd:oi.dst=d)
 (hs:Region.noSelect ops=true) (hf:Region.free md ops listed i=true) (hr:(Region.ready md ops listed).contains i=true)
 (hQ:∀c a w,Q (.panic c) (a.put oi.dst v) w→Q (.panic c) a w) (hw:Region.wanted oi (yielded ops a.tmps)=true) (hy:∀w,S w→(execOp a.eval oi).run P w = .ok (.value v) w) (hS:S w)
 (h:wpAnyH P md ops Q S fuel (listed.setIfInBounds i true) (a.put d v) w):wpAnyH P md ops Q S (fuel + 1) listed a w:=by
 subst hd;exact wpAnyH_take hi hs hf hr hQ (.inl ⟨hw,hy⟩) hS h
theorem zgU (i:Nat) (d:Option Tmp) {S:World→Prop} (hi:ops[i]? = some oi) (hd:oi.dst=d)
 (hs:Region.noSelect ops=true) (hf:Region.free md ops listed i=true) (hr:(Region.ready md ops listed).contains i=true)
 (hQ:∀c a w,Q (.panic c) (a.put oi.dst undef) w→Q (.panic c) a w) (hw:Region.wanted oi (yielded ops a.tmps)=false) (hS:S w)
 (h:wpAnyH P md ops Q S fuel (listed.setIfInBounds i true) (a.put d undef) w):wpAnyH P md ops Q S (fuel + 1) listed a w:=by
 subst hd;exact wpAnyH_take hi hs hf hr hQ (.inr ⟨hw,rfl⟩) hS h
theorem zaS (i:Nat) {S:World→Prop} (hi:ops[i]? = some oi) (hr:Region.ready md ops listed=[i])
 (h:∀K':Act→World→Prop,(∀a w,S w→wpAnyH P md ops Q S fuel (listed.setIfInBounds i true) a w→K' a w)→if Region.wanted oi (yielded ops a.tmps)=true then Oper.wp P oi a w K' Q else K' (a.put oi.dst undef) w) :
 wpAnyH P md ops Q S (fuel + 1) listed a w :=
 wpAnyH_all hr yaf fun k hk=>by
  simp at hk;subst hk;exact wpOp_step hi fun K' b=>h K' fun a w s x=>b a w ⟨s,x⟩
end
end
section
open Go.RowKit
variable {a:Act} {w:World} {l:Array Bool} {oi:Oper} {v:Value} {i:Nat}
section
variable {P:Program} {ops:Array Oper} {Q:Exit→Act→World→Prop} {md:Region.Mode}
theorem znU (i j k:Nat) (d:Option Tmp) (S:World→Prop) {oj ok:Oper} {fuel:Nat} {listed:Array Bool} (hi:ops[i]? = some oi) (hj:ops[j]? = some oj) (hk:ops[k]? = some ok) (hd:oi.dst=d)
 (hs:Region.noSelect ops=true) (hap:oi.apart ops oj=true) (hap2:oi.apart ops ok=true) (hij:(i == j)=false) (hik:(i == k)=false) (hjk:(j == k)=false)
 (h0:(Region.ready md ops listed).all (fun m=>m == i || m == j)=true) (h0':(Region.ready md ops listed).contains i=true)
 (h1:(Region.ready md ops (listed.setIfInBounds i true)).all (· == j)=true) (h1':(Region.ready md ops (listed.setIfInBounds i true)).contains j=true)
 (h2:(Region.ready md ops (listed.setIfInBounds j true)).all (fun m=>m == i || m == k)=true) (h2':(Region.ready md ops (listed.setIfInBounds j true)).contains i=true)
 (h3:(Region.ready md ops ((listed.setIfInBounds i true).setIfInBounds j true)).all (· == k)=true) (h3':(Region.ready md ops ((listed.setIfInBounds i true).setIfInBounds j true)).contains k=true)
 (h4:(Region.ready md ops ((listed.setIfInBounds j true).setIfInBounds k true)).all (· == i)=true) (h4':(Region.ready md ops ((listed.setIfInBounds j true).setIfInBounds k true)).contains i=true)
 (hQ:∀c a w,Q (.panic c) (a.put oi.dst v) w→Q (.panic c) a w) (hw:Region.wanted oi (yielded ops a.tmps)=true) (hy:∀w,S w→(execOp a.eval oi).run P w = .ok (.value v) w) (hS:S w)
 (h:∀K':Act→World→Prop,(∀a w,S w→wpOp P ops Q k (fun a w=>S w∧wpAny P md ops Q fuel (((listed.setIfInBounds i true).setIfInBounds j true).setIfInBounds k true) a w) a w→K' a w) →
  if Region.wanted oj (yielded ops (a.put d v).tmps)=true then Oper.wp P oj (a.put d v) w K' Q else K' ((a.put d v).put oj.dst undef) w):wpAny P md ops Q (fuel + 3) listed a w:=by
 subst hd;have L:YieldsIf P ops S oi v a:=.inl ⟨hw,hy⟩;have H:wpOp P ops Q j (fun D w'=>S w'∧wpOp P ops Q k (fun a w=>S w∧wpAny P md ops Q fuel (((listed.setIfInBounds i true).setIfInBounds j true).setIfInBounds k true) a w) D w') (a.put oi.dst v) w :=
  wpOp_step hj fun K' E=>h K' fun a w s x=>E a w ⟨s,x⟩
 have g:=Region.noSelect_spec hs;have ne:∀{l:Array Bool} {k:Nat},(Region.ready md ops l).contains k=true→Region.ready md ops l≠[]:=fun M e=>by rw [e] at M;simp at M
 have u:i≠j:=by simpa using hij
 have z:i≠k:=by simpa using hik
 have N:j≠k:=by simpa using hjk
 refine ⟨fun e=>absurd e (ne h0'),fun m R=>?_⟩;have A:=ybr.1 h0 m R;simp at A;rcases A with rfl | rfl
 · refine L.wpOp hi hS ⟨fun e=>absurd e (ne h1'),fun n F=>?_⟩;have o:=ybr.1 h1 n F;simp at o;subst o;refine wpOp_mono (fun D w' x=>?_) H;refine ⟨fun e=>absurd e (ne h3'),fun q B=>?_⟩;have f:=ybr.1 h3 q B;simp at f;subst f;exact wpOp_mono (fun _ _ y=>y.2) x.2
 · refine wpOp_mono ?_ (wpOp_putIf hj hap (fun cs b=>g i oi cs b hi) (fun cs b=>g m oj cs b hj) hQ L H);rintro D w' ⟨C,G,O⟩;refine ⟨fun e=>absurd e (ne h2'),fun n F=>?_⟩;have o:=ybr.1 h2 n F;simp at o;rcases o with rfl | rfl
   · refine C.wpOp hi G ?_;rw [ycx _ _ (Ne.symm u)];refine ⟨fun e=>absurd e (ne h3'),fun q B=>?_⟩;have f:=ybr.1 h3 q B;simp at f;subst f;exact wpOp_mono (fun _ _ y=>y.2) O
   · refine wpOp_mono ?_ (wpOp_putIf hk hap2 (fun cs b=>g i oi cs b hi) (fun cs b=>g n ok cs b hk) hQ C O);rintro T U ⟨I,J,K⟩;refine ⟨fun e=>absurd e (ne h4'),fun q B=>?_⟩;have f:=ybr.1 h4 q B;simp at f;subst f;refine I.wpOp hi J ?_;rw [ycx (i:=n) (j:=q) _ _ (Ne.symm z),ycx (i:=m) (j:=q) _ _ (Ne.symm u)];exact K
def zcl (P:Program) (md:Region.Mode) (ops:Array Oper) (Q:Exit→Act→World→Prop) (S:World→Prop) (z:Nat):Nat→Array Bool→Act→World→Prop
 | 0,l,a,w=>Region.ready md ops l=[]∧Q .normal a w
 | n + 1,l,a,w=>(Region.ready md ops l=[]→Q .normal a w)∧∀i ∈ Region.ready md ops l,wpOp P ops Q i (fun b u=>(i≠z→S u)∧zcl P md ops Q S z n (l.setIfInBounds i true) b u) a w
variable {S:World→Prop} {z:Nat}
theorem zgk:∀(n:Nat) (l:Array Bool) (a:Act) (w:World),zcl P md ops Q S z n l a w→wpAny P md ops Q n l a w
 | 0,_,_,_,h=>h
 | n + 1,_,_,_,h=>⟨h.1,fun i hi=>wpOp_mono (fun b u k=>zgk n _ b u k.2) (h.2 i hi)⟩
def zjg (md:Region.Mode) (ops:Array Oper) (z i:Nat):Bool:=match ops[z]? with
 | some o=>o.after.any fun e=>Region.binds md e && e.on == i
 | none=>false
theorem zlA {j:Nat} (h:zjg md ops j i=true) (hi:i ∈ Region.ready md ops l):j ∉ Region.ready md ops l:=by
 intro q;obtain ⟨_,s,g,b⟩:=mem_ready.1 q;unfold zjg at h;rw [g] at h;obtain ⟨k,hk,m⟩:=Array.any_eq_true.1 h;simp only [ybc,ybY] at m;have f:=b _ (Array.getElem_mem hk) m.1;have o:=(mem_ready.1 hi).1;rw [m.2] at f;rcases ybM i l.size with n | n
 · simp [n] at o f;rw [o] at f;cases f
 · simp [Array.getElem?_eq_none n] at f
theorem zq9 {j:Nat} {oj:Oper} (hoj:ops[j]? = some oj) (hi:i ∈ Region.ready md ops l) (hj:j ∈ Region.ready md ops l):∀e ∈ oj.after,Region.binds md e=true→e.on≠i:=by
 intro e g hb b;refine zlA (i:=i) (j:=j) ?_ hi hj;unfold zjg;rw [hoj];obtain ⟨k,hk,f⟩:=Array.getElem_of_mem g;exact Array.any_eq_true.2 ⟨k,hk,by rw [f,hb,b];simp⟩
theorem zlB (hi:ops[i]? = some oi) (hz:zjg md ops z i=true) (hiz:i≠z) (hs:Region.noSelect ops=true) (hQ:∀c a w,Q (.panic c) (a.put oi.dst v) w→Q (.panic c) a w) :
 ∀(n:Nat) (l:Array Bool) (a:Act) (w:World),(∀j oj,ops[j]? = some oj→j≠i→l.getD j true=false→(∀e ∈ oj.after,Region.binds md e=true→e.on≠i)→oi.apart ops oj=true) →
  i ∈ Region.ready md ops l→YieldsIf P ops S oi v a→S w→zcl P md ops Q S z n (l.setIfInBounds i true) (a.put oi.dst v) w→zcl P md ops Q S z (n + 1) l a w:=by
 have o:=Region.noSelect_spec hs;intro n;induction n with
 | zero =>
  intro l a w _ q C hS H;refine ⟨fun e=>(by rw [e] at q;cases q),fun j x=>?_⟩;by_cases f:j=i
  · subst f;exact C.wpOp hi hS ⟨fun _=>hS,H⟩
  · have G:=ready_mono x f;rw [H.1] at G;cases G
 | succ n ih =>
  intro l a w g q C hS H;refine ⟨fun e=>(by rw [e] at q;cases q),fun j x=>?_⟩;by_cases f:j=i
  · subst f;exact C.wpOp hi hS ⟨fun _=>hS,H⟩
  · have y:j≠z:=fun e=>zlA (e ▸ hz) q x;obtain ⟨s,oj,m,_⟩:=mem_ready.1 x;have I:=wpOp_putIf m (g j oj m f s (zq9 m q x)) (fun cs b=>o i oi cs b hi) (fun cs b=>o j oj cs b m) hQ C (H.2 j (ready_mono x f));refine wpOp_mono (fun b u D=>⟨fun _=>D.2.1 y,ih (l.setIfInBounds j true) b u (fun k ok hk E A F=>g k ok hk E ?_ F) (ready_mono q (Ne.symm f)) D.1 (D.2.1 y) ?_⟩) I
    · by_cases B:j=k
      · subst B;exact s
      · rw [getD_set_ne true B] at A;exact A
    · rw [ycx _ _ f];exact D.2.2
theorem zeh (S:World→Prop) (z:Nat) {id:Nat} (hm:P.follows .mixedOrders=true) (h:zcl P .any ops Q S z ops.size (Array.replicate ops.size false) a (World.drew w)):(Code.region id ops true).wp P Q a w :=
 wp_region_any hm (zgk _ _ _ _ h)
theorem roL_take (i:Nat) (d:Option Tmp) {n:Nat} (hi:ops[i]? = some oi) (hd:oi.dst=d)
 (hz:zjg md ops z i=true) (hiz:(i == z)=false) (hs:Region.noSelect ops=true) (hf:Region.free md ops l i=true) (hr:(Region.ready md ops l).contains i=true)
 (hQ:∀c a w,Q (.panic c) (a.put oi.dst v) w→Q (.panic c) a w) (hw:Region.wanted oi (yielded ops a.tmps)=true) (hy:∀w,S w→(execOp a.eval oi).run P w = .ok (.value v) w) (hS:S w)
 (h:zcl P md ops Q S z n (l.setIfInBounds i true) (a.put d v) w):zcl P md ops Q S z (n + 1) l a w:=by
 subst hd;exact zlB hi hz (by simpa using hiz) hs hQ n l a w (Region.free_spec hi hf) (by simpa using hr) (.inl ⟨hw,hy⟩) hS h
theorem zbE (i:Nat) {n:Nat} (hi:ops[i]? = some oi) (hr:Region.ready md ops l=[i])
 (h:∀K':Act→World→Prop,(∀a w,(i≠z→S w)→zcl P md ops Q S z n (l.setIfInBounds i true) a w→K' a w)→if Region.wanted oi (yielded ops a.tmps)=true then Oper.wp P oi a w K' Q else K' (a.put oi.dst undef) w) :
 zcl P md ops Q S z (n + 1) l a w :=
 ⟨fun e=>(by rw [hr] at e;cases e),fun k hk=>by
  rw [hr] at hk;simp at hk;subst hk;exact wpOp_step hi fun K' b=>h K' fun a w s x=>b a w ⟨s,x⟩⟩
theorem zeL (hr:Region.ready md ops l=[]) (h:Q .normal a w):∀n,zcl P md ops Q S z n l a w
 | 0=>⟨hr,h⟩
 | _ + 1=>⟨fun _=>h,by rw [hr];simp⟩
theorem zcx (w:World) {o:Oper} {K:Act→World→Prop} (d:Option Tmp) (hd:o.dst=d) (s x:Operand) (t tx:TypeId)
 (ho:o.op = .call { callee:=.builtin .append,args:=#[s,x],argTypes:=#[t,tx] })
 (base:Nat) (e:TypeId) (i:TypeInfo) (z:Value) (size bytes:Nat) (ht:P.underlying t=some (.slice e)) (hi:P.info? e=some i) (hz:i.zero=some z)
 (hsize:i.size=size) (hby:i.bytes=bytes) (hzs:z.cells.size=size) (hsz:0<size)
 (v:Value) (n:Nat) (xs:List Value) (hv:a.eval s=v) (hown:w.ownsRow base e size v n xs) (y:Value) (m:Nat) (news:List Value) (hx:a.eval x=y) (hs:Src P size tx y m news w)
 (h63:n + m≤maxLen) (hbytes:(n + m) * bytes≤140737488355328) (hbase:base≤w.heap.size)
 (h:∀v' w',w'.ownsRow base e size v' (n + m) (xs ++ news)→w.grownBy w' v.ownBlock→K (a.put d v') w') :
 Oper.wp P o a w K Q:=by
 subst hd;obtain ⟨v',w',b,f,g,j⟩:=zc7 (P:=P) w base t tx o.type e i z size bytes ht hi hz hsize hby hzs hsz v n xs hown y m news hs h63 hbytes hbase;unfold Oper.wp execOp;simp only [ho,resolve,invoke,builtin,Sem.run_bind,Sem.run_pure,Result.andThen_ok,List.map_toArray,yaX,ycw,hv,hx,b];exact h v' w' f g
end
end
end Go.Proofs.YtmblgnddgmfkhaaGreat
