import Derived.Shelf.Strings.OnBuilder
import Derived.Shelf.Strings.BuilderK
import Derived.Test.YtmblgnddgmfkhaaGreatQ14
set_option maxRecDepth 100000
set_option maxHeartbeats 4000000
namespace Go.Proofs.YtmblgnddgmfkhaaGreat
section
open Go.RowKit
open Go.RowKit Go.ChangeMaps
variable {w w':World} {n s b:Nat} {gs:List Gp} {xs:List Value}
def zcj:Nat→List Gp→List Value
 | _,[]=>[]
 | p,x::r=>[.int .i64 (p:Nat),.bool x.2] ++ zcj (p + 1 + x.1.length) r
theorem zcB:∀(p:Nat) (gs:List Gp),(zcj p gs).length=gs.length * 2
 | _,[]=>rfl
 | p,x::r=>by
  show (zcj (p + 1 + x.1.length) r).length + 2=_;rw [zcB,yaq];omega
theorem zeQ (a b:List Gp):zat (a ++ b)=zat a ++ zat b:=by unfold zat;rw [yaZ]
theorem zc6:∀(p:Nat) (a b:List Gp),zcj p (a ++ b)=zcj p a ++ zcj (p + (zat a).length) b
 | p,[],b=>rfl
 | p,x::r,b=>by
  show [Value.int .i64 (p:Nat),.bool x.2] ++ zcj (p + 1 + x.1.length) (r ++ b)=[Value.int .i64 (p:Nat),.bool x.2] ++ zcj (p + 1 + x.1.length) r ++ _;rw [zc6 (p + 1 + x.1.length) r b,yaB];congr 3
  show p + 1 + x.1.length + (zat r).length=p + ((⟨#[]⟩::x.1) ++ zat r).length;rw [yam,yaq];omega
structure LnAt (w:World) (B g:Nat) (Ap:Option Addr) (cp:Nat) (Aq:Option Addr) (cq:Nat) (gs:List Gp):Prop where
 cells:Bk w g #[.slice Ap (zat gs).length cp,.slice Aq gs.length cq] 350
 ps:w.ownsRow B 9 1 (.slice Ap (zat gs).length cp) (zat gs).length ((zat gs).map .string)
 qs:w.ownsRow B 386 2 (.slice Aq gs.length cq) gs.length (zcj 0 gs)
def Ln (B:Nat) (w:World) (g:Nat) (gs:List Gp):Prop:=∃Ap cp Aq cq,LnAt w B g Ap cp Aq cq gs
theorem LnAt.below {B g:Nat} {Ap:Option Addr} {cp:Nat} {Aq:Option Addr} {cq:Nat} (h:LnAt w B g Ap cp Aq cq gs) (hb:Below w.heap.size w w'):LnAt w' B g Ap cp Aq cq gs :=
 ⟨h.cells.below hb,zan h.ps hb,zan h.qs hb⟩
theorem Ln.below {B g:Nat} (h:Ln B w g gs) (hb:Below w.heap.size w w'):Ln B w' g gs:=by
 obtain ⟨b,d,f,j,h⟩:=h;exact ⟨b,d,f,j,h.below hb⟩
theorem zgE (w:World) (a:Value) (t:TypeId):∀j u,[a][j]? = some u→(w.alloc (.cells #[a] t)).cell? ((⟨w.heap.size,0,none⟩:Addr).add j)=some u:=by
 intro j u b;rw [Addr.add_lit,cell_of_row _ _ _ _ _ _ (heap_alloc_new w _),yaG];simpa using b
theorem ziW:(Tryz.prog.info? 9).map (fun i=>(i.zero,i.size,i.bytes))=some (some (.string .empty),1,16):=by kernel_rfl
theorem zpw:(Tryz.prog.info? 386).map (fun i=>(i.zero,i.size,i.bytes))=some (some (.agg #[.int .i64 0,.bool false]),2,16):=by kernel_rfl
theorem zqw {B B2:Nat} {e e2:TypeId} {s2 n2:Nat} {u v:Value} {ys:List Value} (h:w.ownsRow B e s v n xs) (hu:w.ownsRow B2 e2 s2 u n2 ys) (hne:e≠e2):v.ownBlock=none∨v.ownBlock≠u.ownBlock:=by
 rcases h.2 with ⟨rfl,_⟩ | ⟨g,c,j,rfl,_,k,_⟩
 · exact .inl rfl
 · refine .inr fun d=>?_;rcases hu.2 with ⟨rfl,_⟩ | ⟨g2,m,f,rfl,_,b,_⟩
   · cases d
   · have:g=g2:=by injection d
     subst this;rw [k] at b;injection b with b
     injection b with _ b _
     exact hne b
theorem zqB (p:Nat) (b:Bool):∀u ∈ [Value.int .i64 (p:Nat),.bool b],u.oneCell'=true:=by
 intro u d;simp only [yav,ya1,ybw] at d;rcases d with rfl | rfl <;> rfl
theorem zl3 (l:List ByteArray):∀u ∈ l.map Value.string,u.oneCell'=true:=by
 intro u b;obtain ⟨x,_,rfl⟩:=yaN.1 b;rfl
theorem zg0 (g B:Nat) (w:World) (k:Nat) (v:Value):Kp g B w (w.setCell ⟨g,k,none⟩ v):=⟨rfl,rfl,rfl,by simp [World.setCell],fun _ _ b=>Below.heap_setCell _ _ _ _ b⟩
def zk6 (B:Nat) (w:World) (g:Nat) (gs:List Gp) (e:Ending) (w':World):Prop:=e = .returned (.tuple #[])∧Ln B w' g gs∧Kp g B w w'
theorem put_any {B g:Nat} (x:ByteArray) (h:Ln B w g gs) (hg:g<B) (hB:B≤w.heap.size) (hn:gs.length≤1000000) (hp:(zat gs).length≤1000000) :
 Calls Tryz.prog 261 #[.pointer (some ⟨g,0,none⟩),.string x] w (zk6 B w g (zoa x gs)):=by
 obtain ⟨q,s,H,I,h⟩:=h;go_enter Tryz.func261,Tryz.ntmps261
 go_wp2_with fail
 refine ze9 (fun W=>W.cell? ⟨g,0,none⟩=some (.slice q (zat gs).length s)∧W.cell? ⟨g,1,none⟩=some (.slice H gs.length I)) 15 yaa ?_;change zcd _ _ _ _ _ _ _ _ _ (World.drew _);have u:Below w.heap.size w (World.drew w):=⟨rfl,rfl,rfl,yaj _,fun _ _=>rfl⟩;have a2:w.heap.size=(World.drew w).heap.size:=rfl;generalize World.drew w=wd at *
 replace h:=h.below u;have d:wd.cell? ⟨g,0,none⟩=some (.slice q (zat gs).length s)∧wd.cell? ⟨g,1,none⟩=some (.slice H gs.length I):=⟨h.cells.cell 0,h.cells.cell 1⟩;refine zal 0 (some 4) d ?_ (hy:=zy2);refine zal 1 (some 5) d ?_ (hy:=zy2);refine zal 2 (some 6) d ?_ (hy:=zy2);refine zal 3 (some 7) d ?_ (hy:=zy2);refine zal 4 (some 8) d ?_ (hy:=zy2);refine zal 5 (some 9) d ?_ (hy:=zy2);refine zal 6 (some 10) d ?_ (hy:=zy2);refine zal 7 (some 11) d ?_ (hy:=zy2);refine zal 8 (some 12) d ?_ (hy:=zy2);refine zal 9 (some 13) d ?_ (hy:=zy2);refine zal 10 (some 14) d ?_ (hy:=zy2);refine zdj 11 rfl yaa fun K b=>?_;go_simp;refine b _ _ (fun _=>⟨zaI d.1 _,zaI d.2 _⟩) ?_;clear b K;obtain ⟨R,y,z,A,C⟩:=info_parts zpw;have J:B≤wd.heap.size:=by omega
 refine zdj 12 rfl yaa fun K b=>?_;rw [yan (by rfl)];refine zci _ (some 16) rfl (.tmp 8) (.tmp 15) 348 348 rfl B 386 R (.agg #[.int .i64 0,.bool false]) 2 16 Tryz.underlying348 y z A C rfl yac (.slice H gs.length I) gs.length (zcj 0 gs) rfl (World.ownsRow.alloc h.qs _) _ 1 [.int .i64 ((zat gs).length:Nat),.bool false] rfl (Src.ofSlice _ Tryz.underlying348 _ 1 1 _ rfl (zcq _ _ _ _) (zqB _ _)) yad yab (size_alloc J) ?_;intro v8 Q f m;have j:=h.cells.grown (v:=.slice H gs.length I) m h.qs hg;have L:=zdf (v:=.slice H gs.length I) (Kp.of_below (u.mono hB) g) m h.qs J (yaj _);have M:=zb1 (World.ownsRow.alloc h.ps (.cells #[.int .i64 ((zat gs).length:Nat),.bool false] 386)) (World.ownsRow.alloc h.qs _) yac m;obtain ⟨D,E,rfl,_⟩:=Rd.own f;have F:Q.cell? ⟨g,0,none⟩=some (.slice q (zat gs).length s)∧Q.cell? ⟨g,1,none⟩=some (.slice H gs.length I):=⟨j.cell 0,j.cell 1⟩;refine b _ _ (fun _=>F) ?_;clear b K d m;have d:=F;clear F;simp only [Act.put,yaE,yaU,yaV];refine zdj 13 rfl yaa fun K b=>?_;go_simp;refine b _ _ (fun _=>d) ?_;clear b K;refine zal 14 (some 18) d ?_ (hy:=zy2);refine zdj 15 rfl yaa fun K b=>?_;have T:=j.fz 1;have q8:=j.cell 1;go_simp;refine b _ _ (fun h=>absurd rfl h) ?_;clear b K
 refine zgp yaa ?_ _;have n:Bk _ g #[.slice q (zat gs).length s,.slice D (gs.length + 1) E] 350:=j.set 1 (.slice D (gs.length + 1) E);have N:=L.trans (zg0 g B Q 1 (.slice D (gs.length + 1) E));have o:=own_set (a:=⟨g,1,none⟩) M yah (.slice D (gs.length + 1) E);have U:=own_set (a:=⟨g,1,none⟩) f yah (.slice D (gs.length + 1) E);clear d j L M f T q8;generalize Q.setCell ⟨g,1,none⟩ (.slice D (gs.length + 1) E)=Y at *
 have x0:Y.cell? ⟨g,0,none⟩=some (.slice q (zat gs).length s):=n.cell 0;have lg:=n.lt;have a6:=n.fz 0;obtain ⟨R,y,z,A,C⟩:=info_parts ziW;have O:B≤Y.heap.size:=yax hB N.size;clear h u;go_wp2_with (at_builtin;refine zab _ rfl (.tmp 23) (.tmp 25) 46 46 rfl B 9 R (.string .empty) 1 16 Tryz.underlying46 y z A C rfl yac _ (zat gs).length ((zat gs).map .string) rfl (World.ownsRow.alloc o _) _ 2 [.string ⟨#[]⟩,.string x] rfl (Src.ofSlice _ Tryz.underlying46 _ 2 2 _ rfl (zcq _ _ _ _) (zl3 [⟨#[]⟩,x])) yad yab (size_alloc O) ?_;intro v1 Z k G a1;obtain ⟨A1,c1,rfl,_⟩:=Rd.own k;have p:=n.grown (v:=.slice q (zat gs).length s) G o hg;have y0:Z.cell? ⟨g,0,none⟩=some (.slice q (zat gs).length s):=p.cell 0;have a7:=p.fz 0;have a8:=p.lt)
 have V:=zdf (v:=.slice q (zat gs).length s) N G o O (yaj _);have X:=zb1 (World.ownsRow.alloc U (.cells #[.string ⟨#[]⟩,.string x] 9)) (World.ownsRow.alloc o _) yac G;go_returns
 refine ⟨rfl,⟨A1,c1,D,E,?_⟩,V.trans (zg0 g B Z 0 _)⟩;have hf:zat (zoa x gs)=zat gs ++ [⟨#[]⟩,x]:=by unfold zoa;rw [zeQ];rfl
 have hl:(zat (zoa x gs)).length=(zat gs).length + 2:=by rw [hf,yam];rfl
 have P:(zoa x gs).length=gs.length + 1:=by unfold zoa;rw [yam];rfl
 have hc:zcj 0 (zoa x gs)=zcj 0 gs ++ [.int .i64 ((zat gs).length:Nat),.bool false]:=by unfold zoa;rw [zc6,yaG];rfl
 refine ⟨?_,?_,?_⟩
 · rw [hl,P];exact p.set 0 _
 · rw [hl,hf,yaL];exact own_set (a:=⟨g,0,none⟩) k yah _
 · rw [P,hc];exact own_set (a:=⟨g,0,none⟩) X yah _
theorem zmW (p:Nat) (a:List Gp) (x:Gp) (b:List Gp):(zcj p (a ++ x::b))[a.length * 2]? = some (.int .i64 ((p + (zat a).length:Nat):Int))∧(zcj p (a ++ x::b))[a.length * 2 + 1]? = some (.bool x.2):=by
 rw [zc6];constructor
 · rw [yaF (by rw [zcB];exact yaj _),zcB,yct];rfl
 · rw [yaF (by rw [zcB];omega),zcB,show a.length * 2 + 1-a.length * 2=1 by omega];rfl
theorem zqy {B:Nat} {e:TypeId} {m:Nat} {A:Option Addr} {c:Nat} (h:w.ownsRow B e s (.slice A n c) n xs) (hm:m≤n):w.ownsRow B e s (.slice A m c) m (xs.take (m * s)):=by
 have f:m * s≤n * s:=ybo s hm;refine ⟨by rw [yaK,h.1];omega,?_⟩;rcases h.2 with ⟨b,u⟩ | ⟨g,cap,d,b,j,k,x,o,p,q⟩
 · cases b;obtain rfl:m=0:=by omega
   exact .inl ⟨rfl,rfl⟩
 · cases b;exact .inr ⟨g,_,d,rfl,j,k,by omega,o,p,by rw [←q,List.take_take,ybK f]⟩
theorem zhc {B:Nat} {e:TypeId} {v:Value} (h:w.ownsRow B e s v n xs) {a:Addr} (ha:v.ownBlock≠some a.block) (u:Value):(w.setCell a u).ownsRow B e s v n xs:=by
 refine ⟨h.1,?_⟩;rcases h.2 with ⟨b,f⟩ | ⟨g,cap,d,b,j,k,m⟩
 · exact .inl ⟨b,f⟩
 · subst b;refine .inr ⟨g,cap,d,rfl,j,?_,m⟩;rw [Below.heap_setCell _ _ _ _ (fun e=>ha (by rw [←e];rfl))];exact k
theorem zju {α:Type} (y c:α):∀(xs ys:List α),(xs ++ y::ys).set xs.length c=xs ++ c::ys
 | [],_=>rfl
 | x::xs,ys=>by
  show x::(xs ++ y::ys).set xs.length c=_;rw [zju y c xs ys];rfl
theorem zmw (l:List Gp) (a b:Gp):zat (l ++ [a,b])=zat (l ++ [a]) ++ ⟨#[]⟩::b.1:=by
 rw [show l ++ [a,b]=l ++ [a] ++ [b] by simp,zeQ (l ++ [a])];unfold zat;simp
theorem zh8 (c:ByteArray) (l:List Gp) (a b:Gp):zat (l ++ [zfX c a b])=zat (l ++ [a]) ++ (if b.2=true then c ++ ⟨#[40]⟩ else c)::(b.1 ++ if b.2=true then [⟨#[41]⟩] else []):=by
 rw [zeQ,zeQ];unfold zat zfX;simp
theorem zkE (l:List Gp) (a b:Gp):(zcj 0 (l ++ [a,b])).take ((l.length + 1) * 2)=zcj 0 (l ++ [a]):=by
 rw [show l ++ [a,b]=l ++ [a] ++ [b] by simp,zc6 0 (l ++ [a])];have:(zcj 0 (l ++ [a])).length=(l.length + 1) * 2:=by rw [zcB,yam];rfl
 rw [←this,ycM]
theorem zmY (l:List Gp) (a x:Gp) (hx:x.2=true):(zcj 0 (l ++ [a])).set (l.length * 2 + 1) (.bool true)=zcj 0 (l ++ [x]):=by
 rw [zc6,zc6,yaG];have e:∀y:Gp,zcj (zat l).length [y]=[Value.int .i64 ((zat l).length:Nat),.bool y.2]:=fun y=>rfl;rw [e,e,hx,show l.length * 2 + 1=(zcj 0 l ++ [Value.int .i64 ((zat l).length:Nat)]).length by rw [yam,zcB];rfl,show zcj 0 l ++ [Value.int .i64 ((zat l).length:Nat),.bool a.2]=zcj 0 l ++ [Value.int .i64 ((zat l).length:Nat)] ++ Value.bool a.2::[] by simp,zju]
 simp
theorem zp5 (c:ByteArray) (a b:Gp):(zfX c a b).2=true:=rfl
theorem zmT {B:Nat} {e:TypeId} {c:Nat} {A:Option Addr} (h:w.ownsRow B e s (.slice A n c) n xs) (hn:0<n):∃g,A=some ⟨g,0,none⟩∧B≤g∧g<w.heap.size∧n≤c:=by
 rcases h.2 with ⟨b,m⟩ | ⟨g,cap,d,b,f,j,k,_⟩
 · omega
 · cases b;exact ⟨g,rfl,f,(yaO.1 j).1,k⟩
theorem zmM {W:World} {B g gq cp cq:Nat} {Ap:Option Addr} {l:List Gp} {a b x:Gp} (hln:l.length=n) (hx:x.2=true) (hg:g<B)
 (hc:Bk W g #[.slice Ap (zat (l ++ [x])).length cp,.slice (some ⟨gq,0,none⟩) (n + 1 + 1) cq] 350)
 (hps:W.ownsRow B 9 1 (.slice Ap (zat (l ++ [x])).length cp) (zat (l ++ [x])).length ((zat (l ++ [x])).map .string))
 (hqs:W.ownsRow B 386 2 (.slice (some ⟨gq,0,none⟩) (n + 1 + 1) cq) (n + 1 + 1) (zcj 0 (l ++ [a,b]))) (hgq:B≤gq) :
 Ln B ((W.setCell ⟨g,1,none⟩ (.slice (some ⟨gq,0,none⟩) (n + 1) cq)).setCell ⟨gq,n * 2 + 1,none⟩ (.bool true)) g (l ++ [x]):=by
 have q:(l ++ [x]).length=n + 1:=by rw [yam,hln];rfl
 have d:=zqy (own_set (a:=⟨g,1,none⟩) hqs hg (.slice (some ⟨gq,0,none⟩) (n + 1) cq)) (show n + 1≤n + 1 + 1 by omega);rw [←hln,zkE,hln] at d;have f:=(d.stored (n * 2 + 1) (.bool true)).1;rw [←hln,zmY l a x hx,hln] at f;have j:=own_set (a:=⟨g,1,none⟩) hps hg (.slice (some ⟨gq,0,none⟩) (n + 1) cq);have k:=zhc (a:=⟨gq,n * 2 + 1,none⟩) j (by
  have:=zqw j d yac;intro e;rcases this with m | m
  · rw [m] at e;cases e
  · exact m e) (.bool true)
 have o:Bk _ g #[.slice Ap (zat (l ++ [x])).length cp,.slice (some ⟨gq,0,none⟩) (n + 1) cq] 350:=hc.set 1 (.slice (some ⟨gq,0,none⟩) (n + 1) cq);have p:=o.other (a:=⟨gq,n * 2 + 1,none⟩) yah (.bool true);exact ⟨Ap,cp,_,cq,⟨by rw [q];exact p,k,by rw [q];exact f⟩⟩
theorem join_any {B g:Nat} (c:ByteArray) (h:Ln B w g gs) (hg:g<B) (hB:B≤w.heap.size) (hn:gs.length≤1000000) (hp:(zat gs).length≤1000000) (hc:c.size≤100) :
 Calls Tryz.prog 259 #[.pointer (some ⟨g,0,none⟩),.string c] w (zk6 B w g (zly c gs)):=by
 have O:(gs.length<2∧zly c gs=gs)∨∃l a b,gs=l ++ [a,b]:=by
  rcases ybI gs with rfl | ⟨l1,b,rfl⟩
  · exact .inl ⟨by decide,rfl⟩
  · rcases ybI l1 with rfl | ⟨l,a,rfl⟩
    · exact .inl ⟨by simp,rfl⟩
    · exact .inr ⟨l,a,b,by simp⟩
 rcases O with ⟨b6,hj⟩ | ⟨l,a,b,rfl⟩
 · rw [hj];have hq:=h;obtain ⟨Ap,Q,Aq,Y,h⟩:=h;have x1:w.cell? ⟨g,1,none⟩=some (.slice Aq gs.length Y):=h.cells.cell 1;have lg:=h.cells.lt;have d1:((gs.length:Nat):Int)-1<1:=by omega
   go_enter Tryz.func259,Tryz.ntmps259
   go_wp2_with fail
   go_returns
   exact ⟨rfl,hq,Kp.refl _ _ _⟩
 · rw [zgU];obtain ⟨Ap,Q,Aq,Y,h⟩:=h;have hP:=zmw l a b;obtain ⟨m,hm⟩:∃m,l.length + 1=m:=⟨_,rfl⟩;have an:(l ++ [a,b]).length=m + 1:=by rw [yam,←hm];rfl
   obtain ⟨f,y⟩:∃p,(zat (l ++ [a])).length=p:=⟨_,rfl⟩;obtain ⟨P,Z⟩:∃p,(zat (l ++ [a,b])).length=p:=⟨_,rfl⟩;have b7:f<P:=by rw [←Z,hP,yam,yaq];omega
   obtain ⟨p0,p1⟩:=zmW 0 (l ++ [a]) b [];rw [show l ++ [a] ++ b::[]=l ++ [a,b] by simp,show (l ++ [a]).length=m by rw [yam,←hm];rfl] at p0 p1;rw [yaG,y] at p0;obtain ⟨o,d,k⟩:=h;rw [an] at o k hn;rw [Z] at o d hp;obtain ⟨s,rfl,a8,lp,_⟩:=zmT d yab;obtain ⟨gq,rfl,R,lq,b8⟩:=zmT k yab;have aa:s≠gq:=by
    have:=zqw d k yac;rcases this with e | e
    · cases e
    · intro e2;subst e2;exact e rfl
   have r0:w.cell? ⟨gq,m * 2,none⟩=some (.int .i64 (f:Nat)):=(k.cellAt _ yab).trans p0;have r1:w.cell? ⟨gq,m * 2 + 1,none⟩=some (.bool b.2):=(k.cellAt _ yab).trans p1;have x1:w.cell? ⟨g,1,none⟩=some (.slice (some ⟨gq,0,none⟩) (m + 1) Y):=o.cell 1;have lg:=o.lt;have d1:¬((m:Nat):Int)<1:=by omega
   have d2:((m:Nat):Int)<((m:Nat):Int) + 1:=by omega
   have ab:=Lib.hid d;have ac:=Lib.hid k;clear p0 p1 d k;go_enter Tryz.func259,Tryz.ntmps259
   go_wp2_with fail
   have D:=Bk.new w #[.int .i64 (f:Nat),.bool b.2] 386;have F:Below w.heap.size w (w.alloc (.cells #[.int .i64 (f:Nat),.bool b.2] 386)):=(Below.refl _ w).alloc (yaj _) _;replace o:=o.below F;have d:=zan ab.out F;have k:=zan ac.out F;have hK:Kp g B w _:=Kp.of_below (F.mono hB) g;have b9:¬9223372036854775807<c.size + 1:=by omega
   clear ab ac F r0 r1 x1;generalize w.alloc (.cells #[.int .i64 (f:Nat),.bool b.2] 386)=W0 at *
   have b4:=D.lt;have ba:((f:Nat):Int)<(P:Nat):=by omega
   refine ze9 (fun W=>W.cell? ⟨g,0,none⟩=some (.slice (some ⟨s,0,none⟩) P Q)∧W.cell? ⟨w.heap.size,0,none⟩=some (.int .i64 (f:Nat))) 8 yaa ?_;change zcd _ _ _ _ _ _ _ _ _ (World.drew _);have j:Below W0.heap.size W0 (World.drew W0):=⟨rfl,rfl,rfl,yaj _,fun _ _=>rfl⟩;have ao:W0.heap.size=(World.drew W0).heap.size:=rfl;generalize World.drew W0=W1 at *
   replace o:=o.below j;replace D:=D.below j;replace d:=zan d j;replace k:=zan k j;replace hK:=hK.trans ((Kp.of_below j g).more yab);have x:W1.cell? ⟨g,0,none⟩=some (.slice (some ⟨s,0,none⟩) P Q)∧W1.cell? ⟨w.heap.size,0,none⟩=some (.int .i64 (f:Nat)):=⟨o.cell 0,D.cell 0⟩;refine zal 0 (some 21) x ?_ (hy:=zy2);refine zal 1 (some 22) x ?_ (hy:=zy2);refine zal 2 (some 23) x ?_ (hy:=zy2);refine zal 3 (some 24) x ?_ (hy:=zy2);refine zal 4 (some 25) x ?_ (hy:=zy2);refine zal 5 (some 26) x ?_ (hy:=zy2);refine zal 6 (some 27) x ?_ (hy:=zy2);refine zal 7 (some 28) x ?_ (hy:=zy2);refine zdj 8 rfl yaa fun K G=>?_;have fz:=d.frozenAt f;have q8:W1.cell? ⟨s,f,none⟩=some (.string ⟨#[]⟩):=by rw [d.cellAt _ yab,hP,yaL,yaF (by rw [yay,y];exact yaj _),yay,y,yct];rfl
   go_simp;refine G _ _ (fun h=>absurd rfl h) ?_;clear G K;refine zgp yaa ?_ _;have T:=d.stored f (.string c);have q:=zhc k (a:=⟨s,f,none⟩) (by intro e;cases e;exact aa rfl) (.string c);have u:=o.other (a:=⟨s,f,none⟩) yah (.string c);have z:=D.other (a:=⟨s,f,none⟩) yah (.string c);have H:=hK.set (a:=⟨s,f,none⟩) a8 (.string c);clear x d k o D hK fz q8 j;generalize W1.setCell ⟨s,f,none⟩ (.string c)=I at *
   have ad:((zat (l ++ [a,b])).map Value.string).set f (.string c)=(zat (l ++ [a]) ++ c::b.1).map Value.string:=by
    rw [hP,←y,yaL,yaW,yaL,yaW];have:=zju (Value.string ⟨#[]⟩) (.string c) ((zat (l ++ [a])).map Value.string) (b.1.map Value.string);rw [yay] at this;exact this
   have d:=T.1;rw [ad] at d;clear T ad;have aq:∃n,l.length=n∧m=n + 1:=⟨_,rfl,hm.symm⟩;obtain ⟨n,a1,rfl⟩:=aq;have ar:=zkE l a b;have au:=zmY l a (zfX c a b) rfl;have a2:=(zmW 0 l a [b]).2;rw [a1] at ar au a2;have dn:((n:Nat):Int)<((n:Nat):Int) + 1 + 1:=by omega
   have bb:((n:Nat):Int) + 1≤((n:Nat):Int) + 1 + 1:=by omega
   have bc:(0:Int)≤((n:Nat):Int) + 1:=by omega
   have bd:((n:Nat):Int) + 1≤(Y:Nat):=by omega
   have A:=zh8 c l a b;have y0:I.cell? ⟨w.heap.size,0,none⟩=some (.int .i64 (f:Nat)):=z.cell 0;have y1:I.cell? ⟨w.heap.size,1,none⟩=some (.bool b.2):=z.cell 1;have bf:=z.lt;have ae:Hid (P=(zat (l ++ [a]) ++ c::b.1).length):=Lib.hid (by rw [←Z,hP,yam,yam];rfl);cases af:b.2 with
   | false =>
    rw [af] at y1 A;simp only [ycc,↓reduceIte,yaJ] at A;have x1:I.cell? ⟨g,1,none⟩=some (.slice (some ⟨gq,0,none⟩) (n + 1 + 1) Y):=u.cell 1;have fg:=u.fz 1;have bg:=u.lt;have fq:=q.frozenAt (n * 2 + 1);have qc:I.cell? ⟨gq,n * 2 + 1,none⟩=some (.bool a.2):=(q.cellAt _ yab).trans a2;have ag:g≠gq:=by omega
    have ah:gq≠g:=by omega
    rw [ae.out,←A] at u d;go_wp2_with fail
    go_returns
    exact ⟨rfl,zmM a1 rfl hg u d q R,(H.trans (zg0 g B I 1 _)).set R _⟩
   | true =>
    rw [af] at y1 A;simp only [↓reduceIte] at A;go_wp2_with fail
    refine ze9 (fun W=>W.cell? ⟨g,0,none⟩=some (.slice (some ⟨s,0,none⟩) P Q)∧W.cell? ⟨w.heap.size,0,none⟩=some (.int .i64 (f:Nat))) 9 yaa ?_;change zcd _ _ _ _ _ _ _ _ _ (World.drew _);have j:Below I.heap.size I (World.drew I):=⟨rfl,rfl,rfl,yaj _,fun _ _=>rfl⟩;have ao:I.heap.size=(World.drew I).heap.size:=rfl;generalize World.drew I=W3 at *
    replace u:=u.below j;replace z:=z.below j;replace d:=zan d j;replace q:=zan q j;replace H:=H.trans ((Kp.of_below j g).more yab);have x:W3.cell? ⟨g,0,none⟩=some (.slice (some ⟨s,0,none⟩) P Q)∧W3.cell? ⟨w.heap.size,0,none⟩=some (.int .i64 (f:Nat)):=⟨u.cell 0,z.cell 0⟩;refine zal 0 (some 31) x ?_ (hy:=zy2);refine zal 1 (some 32) x ?_ (hy:=zy2);refine zal 2 (some 33) x ?_ (hy:=zy2);refine zal 3 (some 34) x ?_ (hy:=zy2);refine zal 4 (some 35) x ?_ (hy:=zy2);refine zal 5 (some 36) x ?_ (hy:=zy2);refine zal 6 (some 37) x ?_ (hy:=zy2);refine zal 7 (some 38) x ?_ (hy:=zy2);refine zal 8 (some 39) x ?_ (hy:=zy2);refine zdj 9 rfl yaa fun K G=>?_;have fz:=d.frozenAt f;have q8:W3.cell? ⟨s,f,none⟩=some (.string c):=by rw [d.cellAt _ yab,yaL,yaF (by rw [yay,y];exact yaj _),yay,y,yct];rfl
    go_simp;refine G _ _ (fun h=>absurd rfl h) ?_;clear G K;refine zgp yaa ?_ _;have J:=(d.stored f (.string (c ++ ⟨#[40]⟩))).1;have U:((zat (l ++ [a]) ++ c::b.1).map Value.string).set f (.string (c ++ ⟨#[40]⟩))=(zat (l ++ [a]) ++ (c ++ ⟨#[40]⟩)::b.1).map Value.string:=by rw [←y,yaL,yaW,yaL,yaW];have:=zju (Value.string c) (.string (c ++ ⟨#[40]⟩)) ((zat (l ++ [a])).map Value.string) (b.1.map Value.string);rw [yay] at this;exact this
    rw [U] at J;have V:=zhc q (a:=⟨s,f,none⟩) (by intro e;cases e;exact aa rfl) (.string (c ++ ⟨#[40]⟩));have ai:=u.other (a:=⟨s,f,none⟩) yah (.string (c ++ ⟨#[40]⟩));have aj:=H.set (a:=⟨s,f,none⟩) a8 (.string (c ++ ⟨#[40]⟩));have C:=J;have X:=V;have a6:=ai;have av:=aj;have bh:W3.heap.size=(W3.setCell ⟨s,f,none⟩ (.string (c ++ ⟨#[40]⟩))).heap.size:=by simp [World.setCell]
    clear x d J q V u ai z H aj fz q8 j U y0 y1;generalize W3.setCell ⟨s,f,none⟩ (.string (c ++ ⟨#[40]⟩))=W4 at *
    have x0:W4.cell? ⟨g,0,none⟩=some (.slice (some ⟨s,0,none⟩) P Q):=a6.cell 0;have bi:=a6.lt;obtain ⟨i0,aw,ax,ay,az⟩:=info_parts ziW;have ak:B≤W4.heap.size:=by omega
    have bj:=X.frozenAt (n * 2 + 1);have bl:P≤1000000:=hp;go_wp2_with (at_builtin;refine zab _ rfl (.tmp 44) (.tmp 45) 46 46 rfl B 9 i0 (.string .empty) 1 16 Tryz.underlying46 aw ax ay az rfl yac _ P ((zat (l ++ [a]) ++ (c ++ ⟨#[40]⟩)::b.1).map .string) rfl (World.ownsRow.alloc C _) _ 1 [.string ⟨#[41]⟩] rfl (Src.ofSlice _ Tryz.underlying46 _ 1 1 _ rfl (zgE _ _ _) (zl3 [⟨#[41]⟩])) yad yab (size_alloc ak) ?_;intro v1 W5 L a7 b5;obtain ⟨A1,c1,rfl,_⟩:=Rd.own L;have E:=a6.grown (v:=.slice (some ⟨s,0,none⟩) P Q) a7 C hg;have M:=zb1 (World.ownsRow.alloc X (.cells #[.string ⟨#[41]⟩] 9)) (World.ownsRow.alloc C _) yac a7;have w0:W5.cell? ⟨g,0,none⟩=some (.slice (some ⟨s,0,none⟩) P Q):=E.cell 0;have w1:W5.cell? ⟨g,1,none⟩=some (.slice (some ⟨gq,0,none⟩) (n + 1 + 1) Y):=E.cell 1;have bm:=E.fz 0;have bn:=E.fz 1;have bo:=M.frozenAt (n * 2 + 1);have bp:=E.lt;have bq:W5.cell? ⟨gq,n * 2 + 1,none⟩=some (.bool a.2):=(M.cellAt (n * 2 + 1) (show n * 2 + 1<(n + 1 + 1) * 2 by omega)).trans a2;have ag:g≠gq:=(by omega);have ah:gq≠g:=(by omega))
    have b0:=zdf (v:=.slice (some ⟨s,0,none⟩) P Q) av a7 C ak (yaj _);have al:Bk _ g #[.slice A1 (P + 1) c1,.slice (some ⟨gq,0,none⟩) (n + 1 + 1) Y] 350:=E.set 0 (.slice A1 (P + 1) c1);have N:=own_set (a:=⟨g,0,none⟩) L hg (.slice A1 (P + 1) c1);have am:=own_set (a:=⟨g,0,none⟩) M hg (.slice A1 (P + 1) c1);have b1:=b0.trans (zg0 g B W5 0 (.slice A1 (P + 1) c1));have b2:P + 1=(zat (l ++ [zfX c a b])).length:=by
     rw [A,ae.out];simp only [yam,yaq,yaI];omega
    have b3:(zat (l ++ [a]) ++ (c ++ ⟨#[40]⟩)::b.1).map Value.string ++ [.string ⟨#[41]⟩]=(zat (l ++ [zfX c a b])).map Value.string:=by
     rw [A];simp
    go_returns
    generalize W5.setCell ⟨g,0,none⟩ (.slice A1 (P + 1) c1)=W6 at *
    rw [b2] at al N;rw [b3] at N;exact ⟨rfl,zmM a1 (zp5 c a b) hg al N am R,(b1.trans (zg0 g B W6 1 _)).set R _⟩
def entV (i:Nat) (p:Nat × Value):MapEntry:=⟨.int .i64 p.1,p.2,i⟩
def entsV (l:List (Nat × Value)):Array MapEntry:=(l.mapIdx entV).toArray
theorem znE (l:List (Nat × Value)) (p:Nat × Value):entsV (l ++ [p])=(entsV l).push (entV l.length p):=by
 unfold entsV;rw [List.mapIdx_append];simp
theorem zeP (z:Int):∀(l:List (Nat × Value)) (i k:Nat),Instr.findNow (.int .i64) (.int .i64 z) (l.mapIdx fun j p=>entV (j + k) p) i=some ((l.zipIdx i).find? (fun q=>decide ((q.1.1:Int)=z)) |>.map fun q=>(q.2,q.1.2))
 | [],_,_=>rfl
 | p::r,i,k=>by
  rw [List.mapIdx_cons];show Instr.findNow (.int .i64) (.int .i64 z) (entV (0 + k) p::_) i=_;have ih:=zeP z r (i + 1) (k + 1);unfold Instr.findNow;rw [List.zipIdx_cons,ycL];by_cases h:(p.1:Int)=z
  · have:Instr.sameNow (.int .i64) (.int .i64 z) (entV (0 + k) p).key=some true:=by simp [Instr.sameNow,entV,h]
    rw [this];simp [h,entV]
  · have b:¬z=(p.1:Int):=fun e=>h e.symm;have:Instr.sameNow (.int .i64) (.int .i64 z) (entV (0 + k) p).key=some false:=by simp [Instr.sameNow,entV,b]
    rw [this];simp only [h,decide_false];rw [←ih];congr 2
    funext j q
    rw [show j + 1 + k=j + (k + 1) by omega]
theorem zfw (z:Int) (l:List (Nat × Value)):Instr.findNow (.int .i64) (.int .i64 z) (entsV l).toList 0=some ((l.zipIdx 0).find? (fun q=>decide ((q.1.1:Int)=z)) |>.map fun q=>(q.2,q.1.2)):=by
 have:=zeP z l 0 0;simpa [entsV] using this
theorem zgI (b:Bool) (z:Int) (W:World):(Instr.checkKey b 10000 3 (.int .i64 z)).run Tryz.prog W = .ok () W:=by
 unfold Instr.checkKey;simp [run_underlying Tryz.underlying3]
def fnV (f:Nat) (caps:Array Value):Value:=.func (.func f) #[] caps
theorem run_updV (W:World) {clk:Nat} {l:List (Nat × Value)} (hb:W.heap[b]? = some (.map (entsV l) clk)) (hc:clk=l.length) (z f:Nat) (caps:Array Value) (hf:(l.zipIdx 0).find? (fun q=>decide ((q.1.1:Int)=(z:Int)))=none) :
 (Instr.mapUpdate 351 (.map (some b)) (.int .i64 z) (fnV f caps)).run Tryz.prog W = .ok () (setBlock W b (.map (entsV (l ++ [(z,fnV f caps)])) (l ++ [(z,fnV f caps)]).length)):=by
 subst hc;rw [znE];have d:=zfw z l;rw [hf] at d;simp [Instr.mapUpdate,Instr.findKey,run_underlying Tryz.underlying351,run_underlying Tryz.underlying3,MapKept.run_getObj_map hb,zgI,d,MapKept.run_setObj_map _ hb,Result.andThen,setBlock,entV]
structure Kb8 (b:Nat) (w w':World):Prop where
 os:w'.os=w.os
 tape:w'.tape=w.tape
 output:w'.output=w.output
 size:w'.heap.size=w.heap.size
 block:∀k,k≠b→w'.heap[k]? = w.heap[k]?
theorem Kb8.below {B:Nat} {w0:World} (h:Kb8 b w w') (hb:Below B w0 w) (hB:B≤b):Below B w0 w' :=
 hb.trans ⟨h.os,h.tape,h.output,by rw [h.size];exact yaj _,fun k hk=>h.block k yab⟩
theorem zfP (W:World) {clk:Nat} {l:List (Nat × Value)} (hb:W.heap[b]? = some (.map (entsV l) clk)) (hc:clk=l.length) (z:Int) (c f:Nat) (caps:Array Value) (hz:z=(c:Int)) (hf:(l.zipIdx 0).find? (fun q=>decide ((q.1.1:Int)=(c:Int)))=none) :
 ∃W',(Instr.mapUpdate 351 (.map (some b)) (.int .i64 z) (.func (.func f) #[] caps)).run Tryz.prog W = .ok () W'∧W'.heap[b]? = some (.map (entsV (l ++ [(c,fnV f caps)])) (l ++ [(c,fnV f caps)]).length)∧Kb8 b W W':=by
 subst hz;have d:b<W.heap.size:=(yaO.1 hb).1;refine ⟨_,run_updV W hb hc c f caps hf,?_,⟨rfl,rfl,rfl,by simp [setBlock],fun k hk=>by simp only [setBlock];rw [Array.getElem?_setIfInBounds,yak (by omega)]⟩⟩;simp [setBlock,d]
def actL (bx t4 t5 t6:Nat):List (Nat × Value):=[(1,fnV 260 #[.pointer (some ⟨bx,0,none⟩)]),(2,fnV 262 #[.pointer (some ⟨bx,0,none⟩)]),(3,fnV 263 #[.pointer (some ⟨bx,0,none⟩)]),
 (4,fnV 258 #[.pointer (some ⟨bx,0,none⟩),.pointer (some ⟨t4,0,none⟩)]),(5,fnV 258 #[.pointer (some ⟨bx,0,none⟩),.pointer (some ⟨t5,0,none⟩)]),(6,fnV 258 #[.pointer (some ⟨bx,0,none⟩),.pointer (some ⟨t6,0,none⟩)])]
structure Mp (B g m:Nat) (w:World) (bx t4 t5 t6:Nat):Prop where
 map:w.heap[m]? = some (.map (entsV (actL bx t4 t5 t6)) 6)
 box:Bk w bx #[.pointer (some ⟨g,0,none⟩)] 347
 s4:Bk w t4 #[.string (sgnS 4)] 9
 s5:Bk w t5 #[.string (sgnS 5)] 9
 s6:Bk w t6 #[.string (sgnS 6)] 9
 lt:m<B∧bx<B∧t4<B∧t5<B∧t6<B
 ne:m≠g∧bx≠g∧t4≠g∧t5≠g∧t6≠g
theorem Mp.kp {B g m bx t4 t5 t6:Nat} (h:Mp B g m w bx t4 t5 t6) (hk:Kp g B w w'):Mp B g m w' bx t4 t5 t6 :=
 have b:=hk.block
 ⟨(b _ h.lt.1 h.ne.1).trans h.map,(b _ h.lt.2.1 h.ne.2.1).trans h.box,(b _ h.lt.2.2.1 h.ne.2.2.1).trans h.s4,(b _ h.lt.2.2.2.1 h.ne.2.2.2.1).trans h.s5,(b _ h.lt.2.2.2.2 h.ne.2.2.2.2).trans h.s6,h.lt,h.ne⟩
section
variable {W:World} {B g m bx t4 t5 t6:Nat} (hb:Mp B g m W bx t4 t5 t6)
include hb
theorem zp0 (k i:Nat) (f:Nat) (caps:Array Value) (hf:((actL bx t4 t5 t6).zipIdx 0).find? (fun q=>decide ((q.1.1:Int)=(k:Int)))=some ((k,fnV f caps),i)) :
 (Instr.lookup 351 (.map (some m)) (.int .i64 (k:Int)) true).run Tryz.prog W = .ok (.tuple #[.func (.func f) #[] caps,.bool true]) W:=by
 have h:=zfw (k:Int) (actL bx t4 t5 t6);rw [hf] at h;simp [Instr.lookup,Instr.findKey,run_underlying Tryz.underlying351,run_underlying Tryz.underlying3,MapKept.run_getObj_map hb.map,zgI,h,Result.andThen,fnV]
theorem look_no {k:Nat} (h:¬(1≤k∧k≤6)):(Instr.lookup 351 (.map (some m)) (.int .i64 (k:Int)) true).run Tryz.prog W = .ok (.tuple #[.nilFunc,.bool false]) W:=by
 have f:∀W,(zeroValue 353).run Tryz.prog W = .ok .nilFunc W:=(zero_of_info (P:=Tryz.prog) (t:=353) (v:=.nilFunc) (n:=1) yaa).1;have g:((actL bx t4 t5 t6).zipIdx 0).find? (fun q=>decide ((q.1.1:Int)=(k:Int)))=none:=by
  rw [List.find?_eq_none];intro q b;simp only [actL,List.zipIdx_cons,List.zipIdx_nil,yav,ya1,ybw] at b;simp only [yaP];intro e;rcases b with rfl | rfl | rfl | rfl | rfl | rfl <;> (dsimp only at e;omega)
 have d:=zfw (k:Int) (actL bx t4 t5 t6);rw [g] at d;simp [Instr.lookup,Instr.findKey,run_underlying Tryz.underlying351,run_underlying Tryz.underlying3,MapKept.run_getObj_map hb.map,zgI,d,f,Result.andThen]
end
theorem does_any (w:World) (g:Nat) (hg:g<w.heap.size) :
 Calls Tryz.prog 229 #[.pointer (some ⟨g,0,none⟩)] w fun e w'=>(∃m bx t4 t5 t6,e = .returned (.map (some m))∧Mp w'.heap.size g m w' bx t4 t5 t6)∧Below w.heap.size w w':=by
 have a1:=@run_makeMap Tryz.prog;have o:=Bk.new w #[.pointer (some ⟨g,0,none⟩)] 347;have p:Below w.heap.size w (w.alloc (.cells #[.pointer (some ⟨g,0,none⟩)] 347)):=(Below.refl _ w).alloc (yaj _) _;have U:((w.alloc (.cells #[.pointer (some ⟨g,0,none⟩)] 347)).alloc (.map #[] 0)).heap[w.heap.size + 1]? = some (.map (entsV []) 0):=by
  have:=heap_alloc_new (w.alloc (.cells #[.pointer (some ⟨g,0,none⟩)] 347)) (.map #[] 0);rw [show (w.alloc (.cells #[.pointer (some ⟨g,0,none⟩)] 347)).heap.size=w.heap.size + 1 by simp] at this;exact this
 have q:Below (w.heap.size + 1) (w.alloc (.cells #[.pointer (some ⟨g,0,none⟩)] 347)) ((w.alloc (.cells #[.pointer (some ⟨g,0,none⟩)] 347)).alloc (.map #[] 0)):=(Below.refl _ _).alloc yaf _;have s:((w.alloc (.cells #[.pointer (some ⟨g,0,none⟩)] 347)).alloc (.map #[] 0)).heap.size=w.heap.size + 2:=by simp
 obtain ⟨V,a2,X,M⟩:=zfP ((w.alloc (.cells #[.pointer (some ⟨g,0,none⟩)] 347)).alloc (.map #[] 0)) U rfl 1 1 260 #[.pointer (some ⟨w.heap.size,0,none⟩)] rfl rfl;have u:=M.below q (yaj _);have x:V.heap.size=w.heap.size + 2:=by rw [M.size];exact s
 obtain ⟨Y,a6,Z,N⟩:=zfP V X rfl 2 2 262 #[.pointer (some ⟨w.heap.size,0,none⟩)] rfl rfl;have y:=N.below u (yaj _);have z:Y.heap.size=w.heap.size + 2:=by rw [N.size];exact x
 obtain ⟨b,a7,h3,O⟩:=zfP Y Z rfl 3 3 263 #[.pointer (some ⟨w.heap.size,0,none⟩)] rfl rfl;have A:=O.below y (yaj _);have P:b.heap.size=w.heap.size + 2:=by rw [O.size];exact z
 have g4:(b.alloc (.cells #[.string ⟨#[32,124,32]⟩] 9)).heap[w.heap.size + 1]? = _:=(heap_alloc_old b _ yab).trans h3;obtain ⟨d,a8,h4,L⟩:=zfP (b.alloc (.cells #[.string ⟨#[32,124,32]⟩] 9)) g4 rfl 4 4 258 #[.pointer (some ⟨w.heap.size,0,none⟩),.pointer (some ⟨b.heap.size,0,none⟩)] rfl rfl;have B:=L.below (A.alloc yab (.cells #[.string ⟨#[32,124,32]⟩] 9)) (yaj _);have Q:d.heap.size=w.heap.size + 3:=by rw [L.size];simp;omega
 have C:=Bk.new b #[.string ⟨#[32,124,32]⟩] 9;have g5:(d.alloc (.cells #[.string ⟨#[32,38,32]⟩] 9)).heap[w.heap.size + 1]? = _:=(heap_alloc_old d _ yab).trans h4;obtain ⟨f,aa,h5,D⟩:=zfP (d.alloc (.cells #[.string ⟨#[32,38,32]⟩] 9)) g5 rfl 5 5 258 #[.pointer (some ⟨w.heap.size,0,none⟩),.pointer (some ⟨d.heap.size,0,none⟩)] rfl rfl;have E:=D.below (B.alloc yab (.cells #[.string ⟨#[32,38,32]⟩] 9)) (yaj _);have R:f.heap.size=w.heap.size + 4:=by rw [D.size];simp;omega
 have F:=Bk.new d #[.string ⟨#[32,38,32]⟩] 9;have g6:(f.alloc (.cells #[.string ⟨#[32,45,32]⟩] 9)).heap[w.heap.size + 1]? = _:=(heap_alloc_old f _ yab).trans h5;obtain ⟨j,ab,h6,n⟩:=zfP (f.alloc (.cells #[.string ⟨#[32,45,32]⟩] 9)) g6 rfl 6 6 258 #[.pointer (some ⟨w.heap.size,0,none⟩),.pointer (some ⟨f.heap.size,0,none⟩)] rfl rfl;have k:=n.below (E.alloc yab (.cells #[.string ⟨#[32,45,32]⟩] 9)) (yaj _);have T:j.heap.size=w.heap.size + 5:=by rw [n.size];simp;omega
 have G:=Bk.new f #[.string ⟨#[32,45,32]⟩] 9;have q4:Bk d b.heap.size #[.string ⟨#[32,124,32]⟩] 9:=(L.block _ yab).trans C;have H:Bk (d.alloc (.cells #[.string ⟨#[32,38,32]⟩] 9)) b.heap.size #[.string ⟨#[32,124,32]⟩] 9:=q4.alloc _;have I:Bk f b.heap.size #[.string ⟨#[32,124,32]⟩] 9:=(D.block _ yab).trans H;have J:Bk j b.heap.size #[.string ⟨#[32,124,32]⟩] 9:=(n.block _ yab).trans (I.alloc _);have q5:Bk f d.heap.size #[.string ⟨#[32,38,32]⟩] 9:=(D.block _ yab).trans F;have K:Bk j d.heap.size #[.string ⟨#[32,38,32]⟩] 9:=(n.block _ yab).trans (q5.alloc _);have q6:Bk j f.heap.size #[.string ⟨#[32,45,32]⟩] 9:=(n.block _ yab).trans G;have qb:Bk j w.heap.size #[.pointer (some ⟨g,0,none⟩)] 347:=(k.block _ yab).trans o;have HM:Hid (Mp j.heap.size g (w.heap.size + 1) j w.heap.size b.heap.size d.heap.size f.heap.size):=Lib.hid ⟨h6,qb,J,K,q6,by omega,by omega⟩;have HB:Hid (Below w.heap.size w j):=Lib.hid (p.trans (k.mono (ya8 _)));clear U q s X Z h3 h4 h5 h6 M N O L D n u y A B E k g4 g5 g6 C F G q4 H I J q5 K q6 qb o p x z P Q R T;go_enter Tryz.func229,Tryz.ntmps229
 go_wp2
 go_returns
 exact ⟨⟨_,_,_,_,_,rfl,HM.out⟩,HB.out⟩
end
section
open Go.Shelf Go.RowKit
def zg2:Go.Shelf.Ren:=⟨fun | 156=>104 | 165=>150 | 166=>127 | 169=>129 | 240=>178 | 241=>198 | 276=>227 | 277=>239 | n=>n,fun | 31=>46 | 9=>9 | 3=>3 | 4=>4 | 0=>0 | 20=>20 | 72=>231 | 76=>234 | 70=>229 | 37=>24 | 75=>233 | 127=>302 | 164=>344 | 5=>5 | 80=>63 | n=>n,fun | n=>n⟩
theorem zi5:Go.Proofs.Lays.n156 Tryz.prog zg2:={
 mixed:=by kernel_rfl
 f156:=Tryz.func104.trans (congrArg some yaa)
 f165:=Tryz.func150.trans (congrArg some yaa)
 f166:=Tryz.func127.trans (congrArg some yaa)
 f169:=Tryz.func129.trans (congrArg some yaa)
 f240:=Tryz.func178.trans (congrArg some yaa)
 f241:=Tryz.func198.trans (congrArg some yaa)
 f276:=Tryz.func227.trans (congrArg some yaa)
 f277:=Tryz.func239.trans (congrArg some yaa)
 t0:=Tryz.underlying0
 a0:=Tryz.isAgg0
 z0:=Tryz.sizeOf0
 v0:=Tryz.zeroValue0
 t3:=Tryz.underlying3
 a3:=Tryz.isAgg3
 z3:=Tryz.sizeOf3
 v3:=Tryz.zeroValue3
 t4:=Tryz.underlying4
 a4:=Tryz.isAgg4
 z4:=Tryz.sizeOf4
 v4:=Tryz.zeroValue4
 t9:=Tryz.underlying9
 a9:=Tryz.isAgg9
 z9:=Tryz.sizeOf9
 v9:=Tryz.zeroValue9
 t20:=Tryz.underlying20
 a20:=Tryz.isAgg20
 z20:=Tryz.sizeOf20
 v20:=Tryz.zeroValue20
 t31:=Tryz.underlying46
 a31:=Tryz.isAgg46
 z31:=Tryz.sizeOf46
 v31:=Tryz.zeroValue46
 t37:=Tryz.underlying24
 a37:=Tryz.isAgg24
 z37:=Tryz.sizeOf24
 v37:=Tryz.zeroValue24
 t70:=Tryz.underlying229
 a70:=Tryz.isAgg229
 z70:=Tryz.sizeOf229
 v70:=Tryz.zeroValue229
 t72:=Tryz.underlying231
 a72:=Tryz.isAgg231
 z72:=Tryz.sizeOf231
 v72:=Tryz.zeroValue231
 t75:=Tryz.underlying233
 a75:=Tryz.isAgg233
 z75:=Tryz.sizeOf233
 v75:=Tryz.zeroValue233
 t76:=Tryz.underlying234
 a76:=Tryz.isAgg234
 z76:=Tryz.sizeOf234
 v76:=Tryz.zeroValue234
 t127:=Tryz.underlying302
 a127:=Tryz.isAgg302
 z127:=Tryz.sizeOf302
 v127:=Tryz.zeroValue302
 t164:=Tryz.underlying344
 a164:=Tryz.isAgg344
 z164:=Tryz.sizeOf344
 v164:=Tryz.zeroValue344 }
theorem zgf:Builder.Extra Tryz.prog zg2:={
 sizeBuilder:=by kernel_rfl
 liesBuilder:=by kernel_rfl
 t5:=Tryz.underlying5
 a5:=Tryz.isAgg5
 z5:=Tryz.sizeOf5
 v5:=Tryz.zeroValue5
 infoByte:=by kernel_rfl
 cellsByte:=by kernel_rfl
 sizeByte:=by kernel_rfl
 neB5:=by decide }
theorem zkg (a:Option Addr) (c:Nat) (sep:ByteArray) (w:World) :
 Calls Tryz.prog 104 #[.slice a 0 c,.string sep] w fun e w'=>e = .returned (.string ⟨#[]⟩)∧w'=w:=Any.strings_Join_none zi5 zgf a c sep w
theorem zgV (bk o c:Nat) (xs:List ByteArray) (sep:ByteArray) (w:World) (hcells:∀(j:Nat) x,xs[j]? = some x→w.cell? ⟨bk,o + j,none⟩=some (.string x)) (hbk:bk<w.heap.size) (hN:xs.length≤140737488355328) (hcap:xs.length≤c) (hlen:(Lib.join (xs.map (·.data.toList)) sep.data.toList).length≤140737488355328) :
 Calls Tryz.prog 104 #[.slice (some ⟨bk,o,none⟩) xs.length c,.string sep] w fun e w'=>e = .returned (.string ⟨(Lib.join (xs.map (·.data.toList)) sep.data.toList).toArray⟩)∧Below w.heap.size w w':=Any.strings_Join zi5 zgf bk o c xs sep w hcells hbk hN hcap hlen
theorem znu (B b:Nat) (bs:List Value) (s:ByteArray) (w:World) (h:Lib.IsBuilderF 231 5 B b bs w) (hlen:bs.length + s.size≤140737488355328) (hBw:B≤w.heap.size) :
 Calls Tryz.prog 127 #[.pointer (some ⟨b,0,none⟩),.string s] w fun e w'=>e = .returned (.tuple #[.int .i64 s.size,.nilIface])∧(Lib.BuilderAtF 231 5 B b (.pointer (some ⟨b,0,none⟩)) (bs ++ Lib.strCells s) w'∧Below B w w'∧Lib.OthersKept 5 (some b) w w'):=Any.Builder_WriteString_k { zi5 with } zgf B b bs s w h hlen hBw
theorem zlb (B b:Nat) (l:List UInt8) (w:World) (h:Lib.IsBuilderF 231 5 B b (Lib.byteCells l) w) (hBw:B≤w.heap.size) :
 Calls Tryz.prog 129 #[.pointer (some ⟨b,0,none⟩)] w fun e w'=>e = .returned (.string ⟨l.toArray⟩)∧(Lib.IsBuilderF 231 5 B b (Lib.byteCells l) w'∧Below B w w'∧Lib.OthersKept 5 (some b) w w'):=Any.Builder_String_any_k { zi5 with } zgf B b l w h hBw
end
end Go.Proofs.YtmblgnddgmfkhaaGreat
