import Derived.Shelf.Strings.OnBuilder
import Derived.Shelf.Strings.BuilderK
import Derived.Test.YtmblgnddgmfkhaaGreatK10
import Derived.Test.YtmblgnddgmfkhaaGreatK12
set_option maxRecDepth 100000
set_option maxHeartbeats 4000000
namespace Go.Proofs.YtmblgnddgmfkhaaGreat
section
open Go.RowKit
open Go.RowKit Go.ChangeMaps
variable {w w':World} {n s b:Nat} {gs:List Gp} {xs:List Value}
def zcy:Nat→List Gp→List Value
 | _,[]=>[]
 | p,x::r=>[.int .i64 (p:Nat),.bool x.2] ++ zcy (p + 1 + x.1.length) r
theorem zcR:∀(p:Nat) (gs:List Gp),(zcy p gs).length=gs.length * 2
 | _,[]=>rfl
 | p,x::r=>by
  show (zcy (p + 1 + x.1.length) r).length + 2=_;rw [zcR,yat];omega
theorem zfn (a b:List Gp):zax (a ++ b)=zax a ++ zax b:=by unfold zax;rw [ya0]
theorem zdj:∀(p:Nat) (a b:List Gp),zcy p (a ++ b)=zcy p a ++ zcy (p + (zax a).length) b
 | p,[],b=>rfl
 | p,x::r,b=>by
  show [Value.int .i64 (p:Nat),.bool x.2] ++ zcy (p + 1 + x.1.length) (r ++ b)=[Value.int .i64 (p:Nat),.bool x.2] ++ zcy (p + 1 + x.1.length) r ++ _;rw [zdj (p + 1 + x.1.length) r b,yaD];congr 3
  show p + 1 + x.1.length + (zax r).length=p + ((⟨#[]⟩::x.1) ++ zax r).length;rw [yam,yat];omega
structure LnAt (w:World) (B g:Nat) (Ap:Option Addr) (cp:Nat) (Aq:Option Addr) (cq:Nat) (gs:List Gp):Prop where
 cells:Bk w g #[.slice Ap (zax gs).length cp,.slice Aq gs.length cq] 350
 ps:w.ownsRow B 9 1 (.slice Ap (zax gs).length cp) (zax gs).length ((zax gs).map .string)
 qs:w.ownsRow B 386 2 (.slice Aq gs.length cq) gs.length (zcy 0 gs)
def Ln (B:Nat) (w:World) (g:Nat) (gs:List Gp):Prop:=∃Ap cp Aq cq,LnAt w B g Ap cp Aq cq gs
theorem LnAt.below {B g:Nat} {Ap:Option Addr} {cp:Nat} {Aq:Option Addr} {cq:Nat} (h:LnAt w B g Ap cp Aq cq gs) (hb:Below w.heap.size w w'):LnAt w' B g Ap cp Aq cq gs :=
 ⟨h.cells.below hb,zao h.ps hb,zao h.qs hb⟩
theorem Ln.below {B g:Nat} (h:Ln B w g gs) (hb:Below w.heap.size w w'):Ln B w' g gs:=by
 obtain ⟨b,cp,f,j,h⟩:=h;exact ⟨b,cp,f,j,h.below hb⟩
theorem zha (w:World) (a:Value) (t:TypeId):∀j u,[a][j]? = some u→(w.alloc (.cells #[a] t)).cell? ((⟨w.heap.size,0,none⟩:Addr).add j)=some u:=by
 intro j u b;rw [Addr.add_lit,cell_of_row _ _ _ _ _ _ (heap_alloc_new w _),yaI];simpa using b
theorem zjB:(Tryz.prog.info? 9).map (fun i=>(i.zero,i.size,i.bytes))=some (some (.string .empty),1,16):=by kernel_rfl
theorem zql:(Tryz.prog.info? 386).map (fun i=>(i.zero,i.size,i.bytes))=some (some (.agg #[.int .i64 0,.bool false]),2,16):=by kernel_rfl
theorem zrj {B B2:Nat} {e e2:TypeId} {s2 n2:Nat} {u v:Value} {ys:List Value} (h:w.ownsRow B e s v n xs) (hu:w.ownsRow B2 e2 s2 u n2 ys) (hne:e≠e2):v.ownBlock=none∨v.ownBlock≠u.ownBlock:=by
 rcases h.2 with ⟨rfl,_⟩ | ⟨g,c,k,rfl,_,m,_⟩
 · exact .inl rfl
 · refine .inr fun f=>?_;rcases hu.2 with ⟨rfl,_⟩ | ⟨g2,o,j,rfl,_,b,_⟩
   · cases f
   · have:g=g2:=by injection f
     subst this;rw [m] at b;injection b with b
     injection b with _ b _
     exact hne b
theorem zrn (p:Nat) (b:Bool):∀u ∈ [Value.int .i64 (p:Nat),.bool b],u.oneCell'=true:=by
 intro u f;simp only [yaw,ya1,ybA] at f;rcases f with rfl | rfl <;> rfl
theorem zmL (l:List ByteArray):∀u ∈ l.map Value.string,u.oneCell'=true:=by
 intro u b;obtain ⟨x,_,rfl⟩:=yaH.1 b;rfl
theorem zhz (g B:Nat) (w:World) (k:Nat) (v:Value):Kp g B w (w.setCell ⟨g,k,none⟩ v):=⟨rfl,rfl,rfl,by simp [World.setCell],fun _ _ b=>Below.heap_setCell _ _ _ _ b⟩
def zlJ (B:Nat) (w:World) (g:Nat) (gs:List Gp) (e:Ending) (w':World):Prop:=e = .returned (.tuple #[])∧Ln B w' g gs∧Kp g B w w'
theorem put_any {B g:Nat} (x:ByteArray) (h:Ln B w g gs) (hg:g<B) (hB:B≤w.heap.size) (hn:gs.length≤1000000) (hp:(zax gs).length≤1000000) :
 Calls Tryz.prog 261 #[.pointer (some ⟨g,0,none⟩),.string x] w (zlJ B w g (zoU x gs)):=by
 obtain ⟨u,cp,I,J,h⟩:=h;go_enter Tryz.func261,Tryz.ntmps261
 go_wp2_with fail
 refine zeh (fun W=>W.cell? ⟨g,0,none⟩=some (.slice u (zax gs).length cp)∧W.cell? ⟨g,1,none⟩=some (.slice I gs.length J)) 15 yaa ?_;change zcl _ _ _ _ _ _ _ _ _ (World.drew _);have y:Below w.heap.size w (World.drew w):=⟨rfl,rfl,rfl,yaj _,fun _ _=>rfl⟩;have a2:w.heap.size=(World.drew w).heap.size:=rfl;generalize World.drew w=wd at *
 replace h:=h.below y;have f:wd.cell? ⟨g,0,none⟩=some (.slice u (zax gs).length cp)∧wd.cell? ⟨g,1,none⟩=some (.slice I gs.length J):=⟨h.cells.cell 0,h.cells.cell 1⟩;refine zag 0 (some 4) f ?_ (hy:=zy2);refine zag 1 (some 5) f ?_ (hy:=zy2);refine zag 2 (some 6) f ?_ (hy:=zy2);refine zag 3 (some 7) f ?_ (hy:=zy2);refine zag 4 (some 8) f ?_ (hy:=zy2);refine zag 5 (some 9) f ?_ (hy:=zy2);refine zag 6 (some 10) f ?_ (hy:=zy2);refine zag 7 (some 11) f ?_ (hy:=zy2);refine zag 8 (some 12) f ?_ (hy:=zy2);refine zag 9 (some 13) f ?_ (hy:=zy2);refine zag 10 (some 14) f ?_ (hy:=zy2);refine zbE 11 rfl yaa fun K b=>?_;go_simp;refine b _ _ (fun _=>⟨zaN f.1 _,zaN f.2 _⟩) ?_;clear b K;obtain ⟨T,z,A,C,D⟩:=info_parts zql;have L:B≤wd.heap.size:=by omega
 refine zbE 12 rfl yaa fun K b=>?_;rw [yan (by rfl)];refine zcx _ (some 16) rfl (.tmp 8) (.tmp 15) 348 348 rfl B 386 T (.agg #[.int .i64 0,.bool false]) 2 16 Tryz.underlying348 z A C D rfl yac (.slice I gs.length J) gs.length (zcy 0 gs) rfl (World.ownsRow.alloc h.qs _) _ 1 [.int .i64 ((zax gs).length:Nat),.bool false] rfl (Src.ofSlice _ Tryz.underlying348 _ 1 1 _ rfl (zcG _ _ _ _) (zrn _ _)) yad yab (size_alloc L) ?_;intro v8 R j n;have k:=h.cells.grown (v:=.slice I gs.length J) n h.qs hg;have M:=zdx (v:=.slice I gs.length J) (Kp.of_below (y.mono hB) g) n h.qs L (yaj _);have N:=zch (World.ownsRow.alloc h.ps (.cells #[.int .i64 ((zax gs).length:Nat),.bool false] 386)) (World.ownsRow.alloc h.qs _) yac n;obtain ⟨E,F,rfl,_⟩:=Rd.own j;have G:R.cell? ⟨g,0,none⟩=some (.slice u (zax gs).length cp)∧R.cell? ⟨g,1,none⟩=some (.slice I gs.length J):=⟨k.cell 0,k.cell 1⟩;refine b _ _ (fun _=>G) ?_;clear b K f n;have f:=G;clear G;simp only [Act.put,yaG,yaV,yaW];refine zbE 13 rfl yaa fun K b=>?_;go_simp;refine b _ _ (fun _=>f) ?_;clear b K;refine zag 14 (some 18) f ?_ (hy:=zy2);refine zbE 15 rfl yaa fun K b=>?_;have U:=k.fz 1;have q8:=k.cell 1;go_simp;refine b _ _ (fun h=>absurd rfl h) ?_;clear b K
 refine zeL yaa ?_ _;have o:Bk _ g #[.slice u (zax gs).length cp,.slice E (gs.length + 1) F] 350:=k.set 1 (.slice E (gs.length + 1) F);have O:=M.trans (zhz g B R 1 (.slice E (gs.length + 1) F));have q:=own_set (a:=⟨g,1,none⟩) N yah (.slice E (gs.length + 1) F);have V:=own_set (a:=⟨g,1,none⟩) j yah (.slice E (gs.length + 1) F);clear f k M N j U q8;generalize R.setCell ⟨g,1,none⟩ (.slice E (gs.length + 1) F)=Z at *
 have x0:Z.cell? ⟨g,0,none⟩=some (.slice u (zax gs).length cp):=o.cell 0;have lg:=o.lt;have a6:=o.fz 0;obtain ⟨T,z,A,C,D⟩:=info_parts zjB;have P:B≤Z.heap.size:=yay hB O.size;clear h y;go_wp2_with (at_builtin;refine zab _ rfl (.tmp 23) (.tmp 25) 46 46 rfl B 9 T (.string .empty) 1 16 Tryz.underlying46 z A C D rfl yac _ (zax gs).length ((zax gs).map .string) rfl (World.ownsRow.alloc q _) _ 2 [.string ⟨#[]⟩,.string x] rfl (Src.ofSlice _ Tryz.underlying46 _ 2 2 _ rfl (zcG _ _ _ _) (zmL [⟨#[]⟩,x])) yad yab (size_alloc P) ?_;intro v1 W1 m H a1;obtain ⟨A1,c1,rfl,_⟩:=Rd.own m;have s:=o.grown (v:=.slice u (zax gs).length cp) H q hg;have y0:W1.cell? ⟨g,0,none⟩=some (.slice u (zax gs).length cp):=s.cell 0;have a7:=s.fz 0;have a8:=s.lt)
 have X:=zdx (v:=.slice u (zax gs).length cp) O H q P (yaj _);have Y:=zch (World.ownsRow.alloc V (.cells #[.string ⟨#[]⟩,.string x] 9)) (World.ownsRow.alloc q _) yac H;go_returns
 refine ⟨rfl,⟨A1,c1,E,F,?_⟩,X.trans (zhz g B W1 0 _)⟩;have hf:zax (zoU x gs)=zax gs ++ [⟨#[]⟩,x]:=by unfold zoU;rw [zfn];rfl
 have hl:(zax (zoU x gs)).length=(zax gs).length + 2:=by rw [hf,yam];rfl
 have Q:(zoU x gs).length=gs.length + 1:=by unfold zoU;rw [yam];rfl
 have hc:zcy 0 (zoU x gs)=zcy 0 gs ++ [.int .i64 ((zax gs).length:Nat),.bool false]:=by unfold zoU;rw [zdj,yaI];rfl
 refine ⟨?_,?_,?_⟩
 · rw [hl,Q];exact s.set 0 _
 · rw [hl,hf,yaM];exact own_set (a:=⟨g,0,none⟩) m yah _
 · rw [Q,hc];exact own_set (a:=⟨g,0,none⟩) Y yah _
theorem znI (p:Nat) (a:List Gp) (x:Gp) (b:List Gp):(zcy p (a ++ x::b))[a.length * 2]? = some (.int .i64 ((p + (zax a).length:Nat):Int))∧(zcy p (a ++ x::b))[a.length * 2 + 1]? = some (.bool x.2):=by
 rw [zdj];constructor
 · rw [yaJ (by rw [zcR];exact yaj _),zcR,ycu];rfl
 · rw [yaJ (by rw [zcR];omega),zcR,show a.length * 2 + 1-a.length * 2=1 by omega];rfl
theorem zrk {B:Nat} {e:TypeId} {m:Nat} {A:Option Addr} {c:Nat} (h:w.ownsRow B e s (.slice A n c) n xs) (hm:m≤n):w.ownsRow B e s (.slice A m c) m (xs.take (m * s)):=by
 have j:m * s≤n * s:=ybm s hm;refine ⟨by rw [yaN,h.1];omega,?_⟩;rcases h.2 with ⟨b,y⟩ | ⟨g,cap,f,b,k,o,z,q,u,x⟩
 · cases b;obtain rfl:m=0:=by omega
   exact .inl ⟨rfl,rfl⟩
 · cases b;exact .inr ⟨g,_,f,rfl,k,o,by omega,q,u,by rw [←x,List.take_take,ybT j]⟩
theorem zhL {B:Nat} {e:TypeId} {v:Value} (h:w.ownsRow B e s v n xs) {a:Addr} (ha:v.ownBlock≠some a.block) (u:Value):(w.setCell a u).ownsRow B e s v n xs:=by
 refine ⟨h.1,?_⟩;rcases h.2 with ⟨b,j⟩ | ⟨g,cap,f,b,k,m,o⟩
 · exact .inl ⟨b,j⟩
 · subst b;refine .inr ⟨g,cap,f,rfl,k,?_,o⟩;rw [Below.heap_setCell _ _ _ _ (fun e=>ha (by rw [←e];rfl))];exact m
theorem zj6 {α:Type} (y c:α):∀(xs ys:List α),(xs ++ y::ys).set xs.length c=xs ++ c::ys
 | [],_=>rfl
 | x::xs,ys=>by
  show x::(xs ++ y::ys).set xs.length c=_;rw [zj6 y c xs ys];rfl
theorem znf (l:List Gp) (a b:Gp):zax (l ++ [a,b])=zax (l ++ [a]) ++ ⟨#[]⟩::b.1:=by
 rw [show l ++ [a,b]=l ++ [a] ++ [b] by simp,zfn (l ++ [a])];unfold zax;simp
theorem ziP (c:ByteArray) (l:List Gp) (a b:Gp):zax (l ++ [zgs c a b])=zax (l ++ [a]) ++ (if b.2=true then c ++ ⟨#[40]⟩ else c)::(b.1 ++ if b.2=true then [⟨#[41]⟩] else []):=by
 rw [zfn,zfn];unfold zax zgs;simp
theorem zle (l:List Gp) (a b:Gp):(zcy 0 (l ++ [a,b])).take ((l.length + 1) * 2)=zcy 0 (l ++ [a]):=by
 rw [show l ++ [a,b]=l ++ [a] ++ [b] by simp,zdj 0 (l ++ [a])];have:(zcy 0 (l ++ [a])).length=(l.length + 1) * 2:=by rw [zcR,yam];rfl
 rw [←this,ycV]
theorem znK (l:List Gp) (a x:Gp) (hx:x.2=true):(zcy 0 (l ++ [a])).set (l.length * 2 + 1) (.bool true)=zcy 0 (l ++ [x]):=by
 rw [zdj,zdj,yaI];have e:∀y:Gp,zcy (zax l).length [y]=[Value.int .i64 ((zax l).length:Nat),.bool y.2]:=fun y=>rfl;rw [e,e,hx,show l.length * 2 + 1=(zcy 0 l ++ [Value.int .i64 ((zax l).length:Nat)]).length by rw [yam,zcR];rfl,show zcy 0 l ++ [Value.int .i64 ((zax l).length:Nat),.bool a.2]=zcy 0 l ++ [Value.int .i64 ((zax l).length:Nat)] ++ Value.bool a.2::[] by simp,zj6]
 simp
theorem zqT (c:ByteArray) (a b:Gp):(zgs c a b).2=true:=rfl
theorem znE {B:Nat} {e:TypeId} {c:Nat} {A:Option Addr} (h:w.ownsRow B e s (.slice A n c) n xs) (hn:0<n):∃g,A=some ⟨g,0,none⟩∧B≤g∧g<w.heap.size∧n≤c:=by
 rcases h.2 with ⟨b,o⟩ | ⟨g,cap,f,b,j,k,m,_⟩
 · omega
 · cases b;exact ⟨g,rfl,j,(yaR.1 k).1,m⟩
theorem znw {W:World} {B g gq cp cq:Nat} {Ap:Option Addr} {l:List Gp} {a b x:Gp} (hln:l.length=n) (hx:x.2=true) (hg:g<B)
 (hc:Bk W g #[.slice Ap (zax (l ++ [x])).length cp,.slice (some ⟨gq,0,none⟩) (n + 1 + 1) cq] 350)
 (hps:W.ownsRow B 9 1 (.slice Ap (zax (l ++ [x])).length cp) (zax (l ++ [x])).length ((zax (l ++ [x])).map .string))
 (hqs:W.ownsRow B 386 2 (.slice (some ⟨gq,0,none⟩) (n + 1 + 1) cq) (n + 1 + 1) (zcy 0 (l ++ [a,b]))) (hgq:B≤gq) :
 Ln B ((W.setCell ⟨g,1,none⟩ (.slice (some ⟨gq,0,none⟩) (n + 1) cq)).setCell ⟨gq,n * 2 + 1,none⟩ (.bool true)) g (l ++ [x]):=by
 have u:(l ++ [x]).length=n + 1:=by rw [yam,hln];rfl
 have f:=zrk (own_set (a:=⟨g,1,none⟩) hqs hg (.slice (some ⟨gq,0,none⟩) (n + 1) cq)) (show n + 1≤n + 1 + 1 by omega);rw [←hln,zle,hln] at f;have j:=(f.stored (n * 2 + 1) (.bool true)).1;rw [←hln,znK l a x hx,hln] at j;have k:=own_set (a:=⟨g,1,none⟩) hps hg (.slice (some ⟨gq,0,none⟩) (n + 1) cq);have m:=zhL (a:=⟨gq,n * 2 + 1,none⟩) k (by
  have:=zrj k f yac;intro e;rcases this with o | o
  · rw [o] at e;cases e
  · exact o e) (.bool true)
 have q:Bk _ g #[.slice Ap (zax (l ++ [x])).length cp,.slice (some ⟨gq,0,none⟩) (n + 1) cq] 350:=hc.set 1 (.slice (some ⟨gq,0,none⟩) (n + 1) cq);have s:=q.other (a:=⟨gq,n * 2 + 1,none⟩) yah (.bool true);exact ⟨Ap,cp,_,cq,⟨by rw [u];exact s,m,by rw [u];exact j⟩⟩
theorem join_any {B g:Nat} (c:ByteArray) (h:Ln B w g gs) (hg:g<B) (hB:B≤w.heap.size) (hn:gs.length≤1000000) (hp:(zax gs).length≤1000000) (hc:c.size≤100) :
 Calls Tryz.prog 259 #[.pointer (some ⟨g,0,none⟩),.string c] w (zlJ B w g (zmc c gs)):=by
 have Q:(gs.length<2∧zmc c gs=gs)∨∃l a b,gs=l ++ [a,b]:=by
  rcases ybR gs with rfl | ⟨l1,b,rfl⟩
  · exact .inl ⟨by decide,rfl⟩
  · rcases ybR l1 with rfl | ⟨l,a,rfl⟩
    · exact .inl ⟨by simp,rfl⟩
    · exact .inr ⟨l,a,b,by simp⟩
 rcases Q with ⟨b6,hj⟩ | ⟨l,a,b,rfl⟩
 · rw [hj];have hq:=h;obtain ⟨Ap,cp,Aq,Y,h⟩:=h;have x1:w.cell? ⟨g,1,none⟩=some (.slice Aq gs.length Y):=h.cells.cell 1;have lg:=h.cells.lt;have d1:((gs.length:Nat):Int)-1<1:=by omega
   go_enter Tryz.func259,Tryz.ntmps259
   go_wp2_with fail
   go_returns
   exact ⟨rfl,hq,Kp.refl _ _ _⟩
 · rw [zhq];obtain ⟨Ap,cp,Aq,Y,h⟩:=h;have hP:=znf l a b;obtain ⟨m,hm⟩:∃m,l.length + 1=m:=⟨_,rfl⟩;have an:(l ++ [a,b]).length=m + 1:=by rw [yam,←hm];rfl
   obtain ⟨j,z⟩:∃p,(zax (l ++ [a])).length=p:=⟨_,rfl⟩;obtain ⟨P,Z⟩:∃p,(zax (l ++ [a,b])).length=p:=⟨_,rfl⟩;have b7:j<P:=by rw [←Z,hP,yam,yat];omega
   obtain ⟨p0,p1⟩:=znI 0 (l ++ [a]) b [];rw [show l ++ [a] ++ b::[]=l ++ [a,b] by simp,show (l ++ [a]).length=m by rw [yam,←hm];rfl] at p0 p1;rw [yaI,z] at p0;obtain ⟨q,f,o⟩:=h;rw [an] at q o hn;rw [Z] at q f hp;obtain ⟨u,rfl,a8,lp,_⟩:=znE f yab;obtain ⟨gq,rfl,R,lq,b8⟩:=znE o yab;have aa:u≠gq:=by
    have:=zrj f o yac;rcases this with e | e
    · cases e
    · intro e2;subst e2;exact e rfl
   have r0:w.cell? ⟨gq,m * 2,none⟩=some (.int .i64 (j:Nat)):=(o.cellAt _ yab).trans p0;have r1:w.cell? ⟨gq,m * 2 + 1,none⟩=some (.bool b.2):=(o.cellAt _ yab).trans p1;have x1:w.cell? ⟨g,1,none⟩=some (.slice (some ⟨gq,0,none⟩) (m + 1) Y):=q.cell 1;have lg:=q.lt;have d1:¬((m:Nat):Int)<1:=by omega
   have d2:((m:Nat):Int)<((m:Nat):Int) + 1:=by omega
   have ab:=Lib.hid f;have ac:=Lib.hid o;clear p0 p1 f o;go_enter Tryz.func259,Tryz.ntmps259
   go_wp2_with fail
   have E:=Bk.new w #[.int .i64 (j:Nat),.bool b.2] 386;have G:Below w.heap.size w (w.alloc (.cells #[.int .i64 (j:Nat),.bool b.2] 386)):=(Below.refl _ w).alloc (yaj _) _;replace q:=q.below G;have f:=zao ab.out G;have o:=zao ac.out G;have hK:Kp g B w _:=Kp.of_below (G.mono hB) g;have b9:¬9223372036854775807<c.size + 1:=by omega
   clear ab ac G r0 r1 x1;generalize w.alloc (.cells #[.int .i64 (j:Nat),.bool b.2] 386)=W0 at *
   have b4:=E.lt;have ba:((j:Nat):Int)<(P:Nat):=by omega
   refine zeh (fun W=>W.cell? ⟨g,0,none⟩=some (.slice (some ⟨u,0,none⟩) P cp)∧W.cell? ⟨w.heap.size,0,none⟩=some (.int .i64 (j:Nat))) 8 yaa ?_;change zcl _ _ _ _ _ _ _ _ _ (World.drew _);have k:Below W0.heap.size W0 (World.drew W0):=⟨rfl,rfl,rfl,yaj _,fun _ _=>rfl⟩;have ao:W0.heap.size=(World.drew W0).heap.size:=rfl;generalize World.drew W0=W1 at *
   replace q:=q.below k;replace E:=E.below k;replace f:=zao f k;replace o:=zao o k;replace hK:=hK.trans ((Kp.of_below k g).more yab);have y:W1.cell? ⟨g,0,none⟩=some (.slice (some ⟨u,0,none⟩) P cp)∧W1.cell? ⟨w.heap.size,0,none⟩=some (.int .i64 (j:Nat)):=⟨q.cell 0,E.cell 0⟩;refine zag 0 (some 21) y ?_ (hy:=zy2);refine zag 1 (some 22) y ?_ (hy:=zy2);refine zag 2 (some 23) y ?_ (hy:=zy2);refine zag 3 (some 24) y ?_ (hy:=zy2);refine zag 4 (some 25) y ?_ (hy:=zy2);refine zag 5 (some 26) y ?_ (hy:=zy2);refine zag 6 (some 27) y ?_ (hy:=zy2);refine zag 7 (some 28) y ?_ (hy:=zy2);refine zbE 8 rfl yaa fun K H=>?_;have fz:=f.frozenAt j;have q8:W1.cell? ⟨u,j,none⟩=some (.string ⟨#[]⟩):=by rw [f.cellAt _ yab,hP,yaM,yaJ (by rw [yax,z];exact yaj _),yax,z,ycu];rfl
   go_simp;refine H _ _ (fun h=>absurd rfl h) ?_;clear H K;refine zeL yaa ?_ _;have T:=f.stored j (.string c);have s:=zhL o (a:=⟨u,j,none⟩) (by intro e;cases e;exact aa rfl) (.string c);have x:=q.other (a:=⟨u,j,none⟩) yah (.string c);have A:=E.other (a:=⟨u,j,none⟩) yah (.string c);have I:=hK.set (a:=⟨u,j,none⟩) a8 (.string c);clear y f o q E hK fz q8 k;generalize W1.setCell ⟨u,j,none⟩ (.string c)=J at *
   have ad:((zax (l ++ [a,b])).map Value.string).set j (.string c)=(zax (l ++ [a]) ++ c::b.1).map Value.string:=by
    rw [hP,←z,yaM,yaX,yaM,yaX];have:=zj6 (Value.string ⟨#[]⟩) (.string c) ((zax (l ++ [a])).map Value.string) (b.1.map Value.string);rw [yax] at this;exact this
   have f:=T.1;rw [ad] at f;clear T ad;have aq:∃n,l.length=n∧m=n + 1:=⟨_,rfl,hm.symm⟩;obtain ⟨n,a1,rfl⟩:=aq;have ar:=zle l a b;have au:=znK l a (zgs c a b) rfl;have a2:=(znI 0 l a [b]).2;rw [a1] at ar au a2;have dn:((n:Nat):Int)<((n:Nat):Int) + 1 + 1:=by omega
   have bb:((n:Nat):Int) + 1≤((n:Nat):Int) + 1 + 1:=by omega
   have bc:(0:Int)≤((n:Nat):Int) + 1:=by omega
   have bd:((n:Nat):Int) + 1≤(Y:Nat):=by omega
   have C:=ziP c l a b;have y0:J.cell? ⟨w.heap.size,0,none⟩=some (.int .i64 (j:Nat)):=A.cell 0;have y1:J.cell? ⟨w.heap.size,1,none⟩=some (.bool b.2):=A.cell 1;have bf:=A.lt;have ae:Hid (P=(zax (l ++ [a]) ++ c::b.1).length):=Lib.hid (by rw [←Z,hP,yam,yam];rfl);cases af:b.2 with
   | false =>
    rw [af] at y1 C;simp only [ycj,↓reduceIte,yaK] at C;have x1:J.cell? ⟨g,1,none⟩=some (.slice (some ⟨gq,0,none⟩) (n + 1 + 1) Y):=x.cell 1;have fg:=x.fz 1;have bg:=x.lt;have fq:=s.frozenAt (n * 2 + 1);have qc:J.cell? ⟨gq,n * 2 + 1,none⟩=some (.bool a.2):=(s.cellAt _ yab).trans a2;have ag:g≠gq:=by omega
    have ah:gq≠g:=by omega
    rw [ae.out,←C] at x f;go_wp2_with fail
    go_returns
    exact ⟨rfl,znw a1 rfl hg x f s R,(I.trans (zhz g B J 1 _)).set R _⟩
   | true =>
    rw [af] at y1 C;simp only [↓reduceIte] at C;go_wp2_with fail
    refine zeh (fun W=>W.cell? ⟨g,0,none⟩=some (.slice (some ⟨u,0,none⟩) P cp)∧W.cell? ⟨w.heap.size,0,none⟩=some (.int .i64 (j:Nat))) 9 yaa ?_;change zcl _ _ _ _ _ _ _ _ _ (World.drew _);have k:Below J.heap.size J (World.drew J):=⟨rfl,rfl,rfl,yaj _,fun _ _=>rfl⟩;have ao:J.heap.size=(World.drew J).heap.size:=rfl;generalize World.drew J=W3 at *
    replace x:=x.below k;replace A:=A.below k;replace f:=zao f k;replace s:=zao s k;replace I:=I.trans ((Kp.of_below k g).more yab);have y:W3.cell? ⟨g,0,none⟩=some (.slice (some ⟨u,0,none⟩) P cp)∧W3.cell? ⟨w.heap.size,0,none⟩=some (.int .i64 (j:Nat)):=⟨x.cell 0,A.cell 0⟩;refine zag 0 (some 31) y ?_ (hy:=zy2);refine zag 1 (some 32) y ?_ (hy:=zy2);refine zag 2 (some 33) y ?_ (hy:=zy2);refine zag 3 (some 34) y ?_ (hy:=zy2);refine zag 4 (some 35) y ?_ (hy:=zy2);refine zag 5 (some 36) y ?_ (hy:=zy2);refine zag 6 (some 37) y ?_ (hy:=zy2);refine zag 7 (some 38) y ?_ (hy:=zy2);refine zag 8 (some 39) y ?_ (hy:=zy2);refine zbE 9 rfl yaa fun K H=>?_;have fz:=f.frozenAt j;have q8:W3.cell? ⟨u,j,none⟩=some (.string c):=by rw [f.cellAt _ yab,yaM,yaJ (by rw [yax,z];exact yaj _),yax,z,ycu];rfl
    go_simp;refine H _ _ (fun h=>absurd rfl h) ?_;clear H K;refine zeL yaa ?_ _;have L:=(f.stored j (.string (c ++ ⟨#[40]⟩))).1;have U:((zax (l ++ [a]) ++ c::b.1).map Value.string).set j (.string (c ++ ⟨#[40]⟩))=(zax (l ++ [a]) ++ (c ++ ⟨#[40]⟩)::b.1).map Value.string:=by rw [←z,yaM,yaX,yaM,yaX];have:=zj6 (Value.string c) (.string (c ++ ⟨#[40]⟩)) ((zax (l ++ [a])).map Value.string) (b.1.map Value.string);rw [yax] at this;exact this
    rw [U] at L;have V:=zhL s (a:=⟨u,j,none⟩) (by intro e;cases e;exact aa rfl) (.string (c ++ ⟨#[40]⟩));have ai:=x.other (a:=⟨u,j,none⟩) yah (.string (c ++ ⟨#[40]⟩));have aj:=I.set (a:=⟨u,j,none⟩) a8 (.string (c ++ ⟨#[40]⟩));have D:=L;have X:=V;have a6:=ai;have av:=aj;have bh:W3.heap.size=(W3.setCell ⟨u,j,none⟩ (.string (c ++ ⟨#[40]⟩))).heap.size:=by simp [World.setCell]
    clear y f L s V x ai A I aj fz q8 k U y0 y1;generalize W3.setCell ⟨u,j,none⟩ (.string (c ++ ⟨#[40]⟩))=W4 at *
    have x0:W4.cell? ⟨g,0,none⟩=some (.slice (some ⟨u,0,none⟩) P cp):=a6.cell 0;have bi:=a6.lt;obtain ⟨i0,aw,ax,ay,az⟩:=info_parts zjB;have ak:B≤W4.heap.size:=by omega
    have bj:=X.frozenAt (n * 2 + 1);have bl:P≤1000000:=hp;go_wp2_with (at_builtin;refine zab _ rfl (.tmp 44) (.tmp 45) 46 46 rfl B 9 i0 (.string .empty) 1 16 Tryz.underlying46 aw ax ay az rfl yac _ P ((zax (l ++ [a]) ++ (c ++ ⟨#[40]⟩)::b.1).map .string) rfl (World.ownsRow.alloc D _) _ 1 [.string ⟨#[41]⟩] rfl (Src.ofSlice _ Tryz.underlying46 _ 1 1 _ rfl (zha _ _ _) (zmL [⟨#[41]⟩])) yad yab (size_alloc ak) ?_;intro v1 W5 M a7 b5;obtain ⟨A1,c1,rfl,_⟩:=Rd.own M;have F:=a6.grown (v:=.slice (some ⟨u,0,none⟩) P cp) a7 D hg;have N:=zch (World.ownsRow.alloc X (.cells #[.string ⟨#[41]⟩] 9)) (World.ownsRow.alloc D _) yac a7;have w0:W5.cell? ⟨g,0,none⟩=some (.slice (some ⟨u,0,none⟩) P cp):=F.cell 0;have w1:W5.cell? ⟨g,1,none⟩=some (.slice (some ⟨gq,0,none⟩) (n + 1 + 1) Y):=F.cell 1;have bm:=F.fz 0;have bn:=F.fz 1;have bo:=N.frozenAt (n * 2 + 1);have bp:=F.lt;have bq:W5.cell? ⟨gq,n * 2 + 1,none⟩=some (.bool a.2):=(N.cellAt (n * 2 + 1) (show n * 2 + 1<(n + 1 + 1) * 2 by omega)).trans a2;have ag:g≠gq:=(by omega);have ah:gq≠g:=(by omega))
    have b0:=zdx (v:=.slice (some ⟨u,0,none⟩) P cp) av a7 D ak (yaj _);have al:Bk _ g #[.slice A1 (P + 1) c1,.slice (some ⟨gq,0,none⟩) (n + 1 + 1) Y] 350:=F.set 0 (.slice A1 (P + 1) c1);have O:=own_set (a:=⟨g,0,none⟩) M hg (.slice A1 (P + 1) c1);have am:=own_set (a:=⟨g,0,none⟩) N hg (.slice A1 (P + 1) c1);have b1:=b0.trans (zhz g B W5 0 (.slice A1 (P + 1) c1));have b2:P + 1=(zax (l ++ [zgs c a b])).length:=by
     rw [C,ae.out];simp only [yam,yat,yaE];omega
    have b3:(zax (l ++ [a]) ++ (c ++ ⟨#[40]⟩)::b.1).map Value.string ++ [.string ⟨#[41]⟩]=(zax (l ++ [zgs c a b])).map Value.string:=by
     rw [C];simp
    go_returns
    generalize W5.setCell ⟨g,0,none⟩ (.slice A1 (P + 1) c1)=W6 at *
    rw [b2] at al O;rw [b3] at O;exact ⟨rfl,znw a1 (zqT c a b) hg al O am R,(b1.trans (zhz g B W6 1 _)).set R _⟩
def entV (i:Nat) (p:Nat × Value):MapEntry:=⟨.int .i64 p.1,p.2,i⟩
def entsV (l:List (Nat × Value)):Array MapEntry:=(l.mapIdx entV).toArray
theorem zoq (l:List (Nat × Value)) (p:Nat × Value):entsV (l ++ [p])=(entsV l).push (entV l.length p):=by
 unfold entsV;rw [List.mapIdx_append];simp
theorem zfm (z:Int):∀(l:List (Nat × Value)) (i k:Nat),Instr.findNow (.int .i64) (.int .i64 z) (l.mapIdx fun j p=>entV (j + k) p) i=some ((l.zipIdx i).find? (fun q=>decide ((q.1.1:Int)=z)) |>.map fun q=>(q.2,q.1.2))
 | [],_,_=>rfl
 | p::r,i,k=>by
  rw [List.mapIdx_cons];show Instr.findNow (.int .i64) (.int .i64 z) (entV (0 + k) p::_) i=_;have ih:=zfm z r (i + 1) (k + 1);unfold Instr.findNow;rw [List.zipIdx_cons,ycQ];by_cases h:(p.1:Int)=z
  · have:Instr.sameNow (.int .i64) (.int .i64 z) (entV (0 + k) p).key=some true:=by simp [Instr.sameNow,entV,h]
    rw [this];simp [h,entV]
  · have b:¬z=(p.1:Int):=fun e=>h e.symm;have:Instr.sameNow (.int .i64) (.int .i64 z) (entV (0 + k) p).key=some false:=by simp [Instr.sameNow,entV,b]
    rw [this];simp only [h,decide_false];rw [←ih];congr 2
    funext j q
    rw [show j + 1 + k=j + (k + 1) by omega]
theorem zf2 (z:Int) (l:List (Nat × Value)):Instr.findNow (.int .i64) (.int .i64 z) (entsV l).toList 0=some ((l.zipIdx 0).find? (fun q=>decide ((q.1.1:Int)=z)) |>.map fun q=>(q.2,q.1.2)):=by
 have:=zfm z l 0 0;simpa [entsV] using this
theorem zhd (b:Bool) (z:Int) (W:World):(Instr.checkKey b 10000 3 (.int .i64 z)).run Tryz.prog W = .ok () W:=by
 unfold Instr.checkKey;simp [run_underlying Tryz.underlying3]
def fnV (f:Nat) (caps:Array Value):Value:=.func (.func f) #[] caps
theorem run_updV (W:World) {clk:Nat} {l:List (Nat × Value)} (hb:W.heap[b]? = some (.map (entsV l) clk)) (hc:clk=l.length) (z f:Nat) (caps:Array Value) (hf:(l.zipIdx 0).find? (fun q=>decide ((q.1.1:Int)=(z:Int)))=none) :
 (Instr.mapUpdate 351 (.map (some b)) (.int .i64 z) (fnV f caps)).run Tryz.prog W = .ok () (setBlock W b (.map (entsV (l ++ [(z,fnV f caps)])) (l ++ [(z,fnV f caps)]).length)):=by
 subst hc;rw [zoq];have g:=zf2 z l;rw [hf] at g;simp [Instr.mapUpdate,Instr.findKey,run_underlying Tryz.underlying351,run_underlying Tryz.underlying3,MapKept.run_getObj_map hb,zhd,g,MapKept.run_setObj_map _ hb,Result.andThen,setBlock,entV]
structure Kb8 (b:Nat) (w w':World):Prop where
 os:w'.os=w.os
 tape:w'.tape=w.tape
 output:w'.output=w.output
 size:w'.heap.size=w.heap.size
 block:∀k,k≠b→w'.heap[k]? = w.heap[k]?
theorem Kb8.below {B:Nat} {w0:World} (h:Kb8 b w w') (hb:Below B w0 w) (hB:B≤b):Below B w0 w' :=
 hb.trans ⟨h.os,h.tape,h.output,by rw [h.size];exact yaj _,fun k hk=>h.block k yab⟩
theorem zgj (W:World) {clk:Nat} {l:List (Nat × Value)} (hb:W.heap[b]? = some (.map (entsV l) clk)) (hc:clk=l.length) (z:Int) (c f:Nat) (caps:Array Value) (hz:z=(c:Int)) (hf:(l.zipIdx 0).find? (fun q=>decide ((q.1.1:Int)=(c:Int)))=none) :
 ∃W',(Instr.mapUpdate 351 (.map (some b)) (.int .i64 z) (.func (.func f) #[] caps)).run Tryz.prog W = .ok () W'∧W'.heap[b]? = some (.map (entsV (l ++ [(c,fnV f caps)])) (l ++ [(c,fnV f caps)]).length)∧Kb8 b W W':=by
 subst hz;have g:b<W.heap.size:=(yaR.1 hb).1;refine ⟨_,run_updV W hb hc c f caps hf,?_,⟨rfl,rfl,rfl,by simp [setBlock],fun k hk=>by simp only [setBlock];rw [Array.getElem?_setIfInBounds,yak (by omega)]⟩⟩;simp [setBlock,g]
def actL (bx t4 t5 t6:Nat):List (Nat × Value):=[(1,fnV 260 #[.pointer (some ⟨bx,0,none⟩)]),(2,fnV 262 #[.pointer (some ⟨bx,0,none⟩)]),(3,fnV 263 #[.pointer (some ⟨bx,0,none⟩)]),
 (4,fnV 258 #[.pointer (some ⟨bx,0,none⟩),.pointer (some ⟨t4,0,none⟩)]),(5,fnV 258 #[.pointer (some ⟨bx,0,none⟩),.pointer (some ⟨t5,0,none⟩)]),(6,fnV 258 #[.pointer (some ⟨bx,0,none⟩),.pointer (some ⟨t6,0,none⟩)])]
structure Mp (B g m:Nat) (w:World) (bx t4 t5 t6:Nat):Prop where
 map:w.heap[m]? = some (.map (entsV (actL bx t4 t5 t6)) 6)
 box:Bk w bx #[.pointer (some ⟨g,0,none⟩)] 347
 s4:Bk w t4 #[.string (sgnS 4)] 9
 s5:Bk w t5 #[.string (sgnS 5)] 9
 s6:Bk w t6 #[.string (sgnS 6)] 9
 lt:m<B∧bx<B∧t4<B∧t5<B∧t6<B
 ne:m≠g∧bx≠g∧t4≠g∧t5≠g∧t6≠g
theorem Mp.kp {B g m bx t4 t5 t6:Nat} (h:Mp B g m w bx t4 t5 t6) (hk:Kp g B w w'):Mp B g m w' bx t4 t5 t6 :=
 have b:=hk.block
 ⟨(b _ h.lt.1 h.ne.1).trans h.map,(b _ h.lt.2.1 h.ne.2.1).trans h.box,(b _ h.lt.2.2.1 h.ne.2.2.1).trans h.s4,(b _ h.lt.2.2.2.1 h.ne.2.2.2.1).trans h.s5,(b _ h.lt.2.2.2.2 h.ne.2.2.2.2).trans h.s6,h.lt,h.ne⟩
section
variable {W:World} {B g m bx t4 t5 t6:Nat} (hb:Mp B g m W bx t4 t5 t6)
include hb
theorem zqO (k i:Nat) (f:Nat) (caps:Array Value) (hf:((actL bx t4 t5 t6).zipIdx 0).find? (fun q=>decide ((q.1.1:Int)=(k:Int)))=some ((k,fnV f caps),i)) :
 (Instr.lookup 351 (.map (some m)) (.int .i64 (k:Int)) true).run Tryz.prog W = .ok (.tuple #[.func (.func f) #[] caps,.bool true]) W:=by
 have h:=zf2 (k:Int) (actL bx t4 t5 t6);rw [hf] at h;simp [Instr.lookup,Instr.findKey,run_underlying Tryz.underlying351,run_underlying Tryz.underlying3,MapKept.run_getObj_map hb.map,zhd,h,Result.andThen,fnV]
theorem look_no {k:Nat} (h:¬(1≤k∧k≤6)):(Instr.lookup 351 (.map (some m)) (.int .i64 (k:Int)) true).run Tryz.prog W = .ok (.tuple #[.nilFunc,.bool false]) W:=by
 have g:∀W,(zeroValue 353).run Tryz.prog W = .ok .nilFunc W:=(zero_of_info (P:=Tryz.prog) (t:=353) (v:=.nilFunc) (n:=1) yaa).1;have j:((actL bx t4 t5 t6).zipIdx 0).find? (fun q=>decide ((q.1.1:Int)=(k:Int)))=none:=by
  rw [List.find?_eq_none];intro q b;simp only [actL,List.zipIdx_cons,List.zipIdx_nil,yaw,ya1,ybA] at b;simp only [yaP];intro e;rcases b with rfl | rfl | rfl | rfl | rfl | rfl <;> (dsimp only at e;omega)
 have f:=zf2 (k:Int) (actL bx t4 t5 t6);rw [j] at f;simp [Instr.lookup,Instr.findKey,run_underlying Tryz.underlying351,run_underlying Tryz.underlying3,MapKept.run_getObj_map hb.map,zhd,f,g,Result.andThen]
end
theorem does_any (w:World) (g:Nat) (hg:g<w.heap.size) :
 Calls Tryz.prog 229 #[.pointer (some ⟨g,0,none⟩)] w fun e w'=>(∃m bx t4 t5 t6,e = .returned (.map (some m))∧Mp w'.heap.size g m w' bx t4 t5 t6)∧Below w.heap.size w w':=by
 have a1:=@run_makeMap Tryz.prog;have q:=Bk.new w #[.pointer (some ⟨g,0,none⟩)] 347;have s:Below w.heap.size w (w.alloc (.cells #[.pointer (some ⟨g,0,none⟩)] 347)):=(Below.refl _ w).alloc (yaj _) _;have X:((w.alloc (.cells #[.pointer (some ⟨g,0,none⟩)] 347)).alloc (.map #[] 0)).heap[w.heap.size + 1]? = some (.map (entsV []) 0):=by
  have:=heap_alloc_new (w.alloc (.cells #[.pointer (some ⟨g,0,none⟩)] 347)) (.map #[] 0);rw [show (w.alloc (.cells #[.pointer (some ⟨g,0,none⟩)] 347)).heap.size=w.heap.size + 1 by simp] at this;exact this
 have u:Below (w.heap.size + 1) (w.alloc (.cells #[.pointer (some ⟨g,0,none⟩)] 347)) ((w.alloc (.cells #[.pointer (some ⟨g,0,none⟩)] 347)).alloc (.map #[] 0)):=(Below.refl _ _).alloc yaf _;have x:((w.alloc (.cells #[.pointer (some ⟨g,0,none⟩)] 347)).alloc (.map #[] 0)).heap.size=w.heap.size + 2:=by simp
 obtain ⟨Y,a2,Z,O⟩:=zgj ((w.alloc (.cells #[.pointer (some ⟨g,0,none⟩)] 347)).alloc (.map #[] 0)) X rfl 1 1 260 #[.pointer (some ⟨w.heap.size,0,none⟩)] rfl rfl;have y:=O.below u (yaj _);have z:Y.heap.size=w.heap.size + 2:=by rw [O.size];exact x
 obtain ⟨W2,a6,h2,P⟩:=zgj Y Z rfl 2 2 262 #[.pointer (some ⟨w.heap.size,0,none⟩)] rfl rfl;have A:=P.below y (yaj _);have B:W2.heap.size=w.heap.size + 2:=by rw [P.size];exact z
 obtain ⟨b,a7,h3,Q⟩:=zgj W2 h2 rfl 3 3 263 #[.pointer (some ⟨w.heap.size,0,none⟩)] rfl rfl;have C:=Q.below A (yaj _);have R:b.heap.size=w.heap.size + 2:=by rw [Q.size];exact B
 have g4:(b.alloc (.cells #[.string ⟨#[32,124,32]⟩] 9)).heap[w.heap.size + 1]? = _:=(heap_alloc_old b _ yab).trans h3;obtain ⟨f,a8,h4,N⟩:=zgj (b.alloc (.cells #[.string ⟨#[32,124,32]⟩] 9)) g4 rfl 4 4 258 #[.pointer (some ⟨w.heap.size,0,none⟩),.pointer (some ⟨b.heap.size,0,none⟩)] rfl rfl;have D:=N.below (C.alloc yab (.cells #[.string ⟨#[32,124,32]⟩] 9)) (yaj _);have T:f.heap.size=w.heap.size + 3:=by rw [N.size];simp;omega
 have E:=Bk.new b #[.string ⟨#[32,124,32]⟩] 9;have g5:(f.alloc (.cells #[.string ⟨#[32,38,32]⟩] 9)).heap[w.heap.size + 1]? = _:=(heap_alloc_old f _ yab).trans h4;obtain ⟨j,aa,h5,F⟩:=zgj (f.alloc (.cells #[.string ⟨#[32,38,32]⟩] 9)) g5 rfl 5 5 258 #[.pointer (some ⟨w.heap.size,0,none⟩),.pointer (some ⟨f.heap.size,0,none⟩)] rfl rfl;have G:=F.below (D.alloc yab (.cells #[.string ⟨#[32,38,32]⟩] 9)) (yaj _);have U:j.heap.size=w.heap.size + 4:=by rw [F.size];simp;omega
 have H:=Bk.new f #[.string ⟨#[32,38,32]⟩] 9;have g6:(j.alloc (.cells #[.string ⟨#[32,45,32]⟩] 9)).heap[w.heap.size + 1]? = _:=(heap_alloc_old j _ yab).trans h5;obtain ⟨k,ab,h6,o⟩:=zgj (j.alloc (.cells #[.string ⟨#[32,45,32]⟩] 9)) g6 rfl 6 6 258 #[.pointer (some ⟨w.heap.size,0,none⟩),.pointer (some ⟨j.heap.size,0,none⟩)] rfl rfl;have n:=o.below (G.alloc yab (.cells #[.string ⟨#[32,45,32]⟩] 9)) (yaj _);have V:k.heap.size=w.heap.size + 5:=by rw [o.size];simp;omega
 have I:=Bk.new j #[.string ⟨#[32,45,32]⟩] 9;have q4:Bk f b.heap.size #[.string ⟨#[32,124,32]⟩] 9:=(N.block _ yab).trans E;have J:Bk (f.alloc (.cells #[.string ⟨#[32,38,32]⟩] 9)) b.heap.size #[.string ⟨#[32,124,32]⟩] 9:=q4.alloc _;have K:Bk j b.heap.size #[.string ⟨#[32,124,32]⟩] 9:=(F.block _ yab).trans J;have L:Bk k b.heap.size #[.string ⟨#[32,124,32]⟩] 9:=(o.block _ yab).trans (K.alloc _);have q5:Bk j f.heap.size #[.string ⟨#[32,38,32]⟩] 9:=(F.block _ yab).trans H;have M:Bk k f.heap.size #[.string ⟨#[32,38,32]⟩] 9:=(o.block _ yab).trans (q5.alloc _);have q6:Bk k j.heap.size #[.string ⟨#[32,45,32]⟩] 9:=(o.block _ yab).trans I;have qb:Bk k w.heap.size #[.pointer (some ⟨g,0,none⟩)] 347:=(n.block _ yab).trans q;have HM:Hid (Mp k.heap.size g (w.heap.size + 1) k w.heap.size b.heap.size f.heap.size j.heap.size):=Lib.hid ⟨h6,qb,L,M,q6,by omega,by omega⟩;have HB:Hid (Below w.heap.size w k):=Lib.hid (s.trans (n.mono (ybd _)));clear X u x Z h2 h3 h4 h5 h6 O P Q N F o y A C D G n g4 g5 g6 E H I q4 J K L q5 M q6 qb q s z B R T U V;go_enter Tryz.func229,Tryz.ntmps229
 go_wp2
 go_returns
 exact ⟨⟨_,_,_,_,_,rfl,HM.out⟩,HB.out⟩
end
section
open Go.Shelf Go.RowKit
def zhB:Go.Shelf.Ren:=⟨fun | 156=>104 | 165=>150 | 166=>127 | 169=>129 | 240=>178 | 241=>198 | 276=>227 | 277=>239 | n=>n,fun | 31=>46 | 9=>9 | 3=>3 | 4=>4 | 0=>0 | 20=>20 | 72=>231 | 76=>234 | 70=>229 | 37=>24 | 75=>233 | 127=>302 | 164=>344 | 5=>5 | 80=>63 | n=>n,fun | n=>n⟩
theorem zjJ:Go.Proofs.Lays.n156 Tryz.prog zhB:={
 mixed:=by kernel_rfl
 f156:=Tryz.func104.trans (congrArg some yaa)
 f165:=Tryz.func150.trans (congrArg some yaa)
 f166:=Tryz.func127.trans (congrArg some yaa)
 f169:=Tryz.func129.trans (congrArg some yaa)
 f240:=Tryz.func178.trans (congrArg some yaa)
 f241:=Tryz.func198.trans (congrArg some yaa)
 f276:=Tryz.func227.trans (congrArg some yaa)
 f277:=Tryz.func239.trans (congrArg some yaa)
 t0:=Tryz.underlying0
 a0:=Tryz.isAgg0
 z0:=Tryz.sizeOf0
 v0:=Tryz.zeroValue0
 t3:=Tryz.underlying3
 a3:=Tryz.isAgg3
 z3:=Tryz.sizeOf3
 v3:=Tryz.zeroValue3
 t4:=Tryz.underlying4
 a4:=Tryz.isAgg4
 z4:=Tryz.sizeOf4
 v4:=Tryz.zeroValue4
 t9:=Tryz.underlying9
 a9:=Tryz.isAgg9
 z9:=Tryz.sizeOf9
 v9:=Tryz.zeroValue9
 t20:=Tryz.underlying20
 a20:=Tryz.isAgg20
 z20:=Tryz.sizeOf20
 v20:=Tryz.zeroValue20
 t31:=Tryz.underlying46
 a31:=Tryz.isAgg46
 z31:=Tryz.sizeOf46
 v31:=Tryz.zeroValue46
 t37:=Tryz.underlying24
 a37:=Tryz.isAgg24
 z37:=Tryz.sizeOf24
 v37:=Tryz.zeroValue24
 t70:=Tryz.underlying229
 a70:=Tryz.isAgg229
 z70:=Tryz.sizeOf229
 v70:=Tryz.zeroValue229
 t72:=Tryz.underlying231
 a72:=Tryz.isAgg231
 z72:=Tryz.sizeOf231
 v72:=Tryz.zeroValue231
 t75:=Tryz.underlying233
 a75:=Tryz.isAgg233
 z75:=Tryz.sizeOf233
 v75:=Tryz.zeroValue233
 t76:=Tryz.underlying234
 a76:=Tryz.isAgg234
 z76:=Tryz.sizeOf234
 v76:=Tryz.zeroValue234
 t127:=Tryz.underlying302
 a127:=Tryz.isAgg302
 z127:=Tryz.sizeOf302
 v127:=Tryz.zeroValue302
 t164:=Tryz.underlying344
 a164:=Tryz.isAgg344
 z164:=Tryz.sizeOf344
 v164:=Tryz.zeroValue344 }
theorem zgL:Builder.Extra Tryz.prog zhB:={
 sizeBuilder:=by kernel_rfl
 liesBuilder:=by kernel_rfl
 t5:=Tryz.underlying5
 a5:=Tryz.isAgg5
 z5:=Tryz.sizeOf5
 v5:=Tryz.zeroValue5
 infoByte:=by kernel_rfl
 cellsByte:=by kernel_rfl
 sizeByte:=by kernel_rfl
 neB5:=by decide }
theorem zkP (a:Option Addr) (c:Nat) (sep:ByteArray) (w:World) :
 Calls Tryz.prog 104 #[.slice a 0 c,.string sep] w fun e w'=>e = .returned (.string ⟨#[]⟩)∧w'=w:=Any.strings_Join_none zjJ zgL a c sep w
theorem zhr (bk o c:Nat) (xs:List ByteArray) (sep:ByteArray) (w:World) (hcells:∀(j:Nat) x,xs[j]? = some x→w.cell? ⟨bk,o + j,none⟩=some (.string x)) (hbk:bk<w.heap.size) (hN:xs.length≤140737488355328) (hcap:xs.length≤c) (hlen:(Lib.join (xs.map (·.data.toList)) sep.data.toList).length≤140737488355328) :
 Calls Tryz.prog 104 #[.slice (some ⟨bk,o,none⟩) xs.length c,.string sep] w fun e w'=>e = .returned (.string ⟨(Lib.join (xs.map (·.data.toList)) sep.data.toList).toArray⟩)∧Below w.heap.size w w':=Any.strings_Join zjJ zgL bk o c xs sep w hcells hbk hN hcap hlen
theorem zog (B b:Nat) (bs:List Value) (s:ByteArray) (w:World) (h:Lib.IsBuilderF 231 5 B b bs w) (hlen:bs.length + s.size≤140737488355328) (hBw:B≤w.heap.size) :
 Calls Tryz.prog 127 #[.pointer (some ⟨b,0,none⟩),.string s] w fun e w'=>e = .returned (.tuple #[.int .i64 s.size,.nilIface])∧(Lib.BuilderAtF 231 5 B b (.pointer (some ⟨b,0,none⟩)) (bs ++ Lib.strCells s) w'∧Below B w w'∧Lib.OthersKept 5 (some b) w w'):=Any.Builder_WriteString_k { zjJ with } zgL B b bs s w h hlen hBw
theorem zlO (B b:Nat) (l:List UInt8) (w:World) (h:Lib.IsBuilderF 231 5 B b (Lib.byteCells l) w) (hBw:B≤w.heap.size) :
 Calls Tryz.prog 129 #[.pointer (some ⟨b,0,none⟩)] w fun e w'=>e = .returned (.string ⟨l.toArray⟩)∧(Lib.IsBuilderF 231 5 B b (Lib.byteCells l) w'∧Below B w w'∧Lib.OthersKept 5 (some b) w w'):=Any.Builder_String_any_k { zjJ with } zgL B b l w h hBw
end
end Go.Proofs.YtmblgnddgmfkhaaGreat
