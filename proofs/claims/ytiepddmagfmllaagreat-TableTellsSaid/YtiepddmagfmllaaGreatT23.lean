import Derived.Test.YtiepddmagfmllaaGreatT18
set_option maxRecDepth 100000
set_option maxHeartbeats 4000000
namespace Go.Proofs.YtiepddmagfmllaaGreat
open Go.RowKit
open Go.RowKit Go.ChangeMaps
def zcf:Nat→List Gp→List Value
 | _,[]=>[]
 | p,x::r=>[.int .i64 (p:Nat),.bool x.2] ++ zcf (p + 1 + x.1.length) r
theorem zco:∀(p:Nat) (gs:List Gp),(zcf p gs).length=gs.length * 2
 | _,[]=>rfl
 | p,x::r=>by
  show (zcf (p + 1 + x.1.length) r).length + 2=_;rw [zco,List.length_cons];omega
theorem zei (a b:List Gp):zaw (a ++ b)=zaw a ++ zaw b:=by unfold zaw;rw [List.flatMap_append]
theorem zcP:∀(p:Nat) (a b:List Gp),zcf p (a ++ b)=zcf p a ++ zcf (p + (zaw a).length) b
 | p,[],b=>rfl
 | p,x::r,b=>by
  show [Value.int .i64 (p:Nat),.bool x.2] ++ zcf (p + 1 + x.1.length) (r ++ b)=[Value.int .i64 (p:Nat),.bool x.2] ++ zcf (p + 1 + x.1.length) r ++ _;rw [zcP (p + 1 + x.1.length) r b,List.append_assoc];congr 3
  show p + 1 + x.1.length + (zaw r).length=p + ((⟨#[]⟩::x.1) ++ zaw r).length;rw [List.length_append,List.length_cons];omega
structure LnAt (w:World) (B g:Nat) (Ap:Option Addr) (cp:Nat) (Aq:Option Addr) (cq:Nat) (gs:List Gp):Prop where
 cells:Bk w g #[.slice Ap (zaw gs).length cp,.slice Aq gs.length cq] 249
 ps:w.ownsRow B 9 1 (.slice Ap (zaw gs).length cp) (zaw gs).length ((zaw gs).map .string)
 qs:w.ownsRow B 283 2 (.slice Aq gs.length cq) gs.length (zcf 0 gs)
def Ln (B:Nat) (w:World) (g:Nat) (gs:List Gp):Prop:=∃Ap cp Aq cq,LnAt w B g Ap cp Aq cq gs
theorem LnAt.below {w w':World} {B g:Nat} {Ap:Option Addr} {cp:Nat} {Aq:Option Addr} {cq:Nat} {gs:List Gp} (h:LnAt w B g Ap cp Aq cq gs) (hb:Below w.heap.size w w'):LnAt w' B g Ap cp Aq cq gs :=
 ⟨h.cells.below hb,zag h.ps hb,zag h.qs hb⟩
theorem Ln.below {w w':World} {B g:Nat} {gs:List Gp} (h:Ln B w g gs) (hb:Below w.heap.size w w'):Ln B w' g gs:=by
 obtain ⟨Ap,cp,Aq,cq,h⟩:=h;exact ⟨Ap,cp,Aq,cq,h.below hb⟩
theorem zfA (w:World) (a:Value) (t:TypeId):∀j u,[a][j]? = some u→(w.alloc (.cells #[a] t)).cell? ((⟨w.heap.size,0,none⟩:Addr).add j)=some u:=by
 intro j u hj;rw [Addr.add_lit,cell_of_row _ _ _ _ _ _ (heap_alloc_new w _),Nat.zero_add];simpa using hj
theorem zgX:(Tryz.prog.info? 9).map (fun i=>(i.zero,i.size,i.bytes))=some (some (.string .empty),1,16):=by kernel_rfl
theorem zlC:(Tryz.prog.info? 283).map (fun i=>(i.zero,i.size,i.bytes))=some (some (.agg #[.int .i64 0,.bool false]),2,16):=by kernel_rfl
theorem zmf {w:World} {B B2:Nat} {e e2:TypeId} {s s2 n n2:Nat} {u v:Value} {xs ys:List Value} (h:w.ownsRow B e s v n xs) (hu:w.ownsRow B2 e2 s2 u n2 ys) (hne:e≠e2):v.ownBlock=none∨v.ownBlock≠u.ownBlock:=by
 rcases h.2 with ⟨rfl,_⟩ | ⟨g,c,cur,rfl,_,h1,_⟩
 · exact .inl rfl
 · refine .inr fun e3=>?_;rcases hu.2 with ⟨rfl,_⟩ | ⟨g2,c2,cur2,rfl,_,h2,_⟩
   · cases e3
   · have:g=g2:=by injection e3
     subst this;rw [h1] at h2;injection h2 with h2
     injection h2 with _ h2 _
     exact hne h2
theorem zmj (p:Nat) (b:Bool):∀u ∈ [Value.int .i64 (p:Nat),.bool b],u.oneCell'=true:=by
 intro u hu;simp only [List.mem_cons,List.not_mem_nil,or_false] at hu;rcases hu with rfl | rfl <;> rfl
theorem zjf (l:List ByteArray):∀u ∈ l.map Value.string,u.oneCell'=true:=by
 intro u hu;obtain ⟨x,_,rfl⟩:=List.mem_map.1 hu;rfl
theorem zfM (g B:Nat) (w:World) (k:Nat) (v:Value):Kp g B w (w.setCell ⟨g,k,none⟩ v):=⟨rfl,rfl,rfl,by simp [World.setCell],fun _ _ hn=>Below.heap_setCell _ _ _ _ hn⟩
def zix (B:Nat) (w:World) (g:Nat) (gs:List Gp) (e:Ending) (w':World):Prop:=e = .returned (.tuple #[])∧Ln B w' g gs∧Kp g B w w'
theorem put_any {w:World} {B g:Nat} {gs:List Gp} (x:ByteArray) (h:Ln B w g gs) (hg:g<B) (hB:B≤w.heap.size) (hn:gs.length≤1000000) (hp:(zaw gs).length≤1000000) :
 Calls Tryz.prog 166 #[.pointer (some ⟨g,0,none⟩),.string x] w (zix B w g (zkI x gs)):=by
 obtain ⟨Ap,cp,Aq,cq,h⟩:=h;go_enter Tryz.func166,Tryz.ntmps166
 go_wp2_with fail
 refine zbL (fun W=>W.cell? ⟨g,0,none⟩=some (.slice Ap (zaw gs).length cp)∧W.cell? ⟨g,1,none⟩=some (.slice Aq gs.length cq)) 15 (by kernel_rfl) ?_;change zbs _ _ _ _ _ _ _ _ _ (World.drew _);have hbd:Below w.heap.size w (World.drew w):=⟨rfl,rfl,rfl,Nat.le_refl _,fun _ _=>rfl⟩;have hzd:w.heap.size=(World.drew w).heap.size:=rfl;generalize World.drew w=wd at *
 replace h:=h.below hbd;have HS:wd.cell? ⟨g,0,none⟩=some (.slice Ap (zaw gs).length cp)∧wd.cell? ⟨g,1,none⟩=some (.slice Aq gs.length cq):=⟨h.cells.cell 0,h.cells.cell 1⟩;refine zad 0 (some 4) (v:=?v0r0) rfl rfl (by kernel_rfl) (by decide) (by kernel_rfl) (by kernel_rfl) (by kernel_rfl) (fun _ _ _ h=>h) (by rfl) ?y0r0 HS ?r0r0;case y0r0=>(intro w hS;(try dsimp only at hS);obtain ⟨q0,q1⟩:=hS;go_simp;try with_reducible rfl)
 simp only [Act.put,List.setIfInBounds_toArray,List.set_cons_zero,List.set_cons_succ];refine zad 1 (some 5) (v:=?v1r0) rfl rfl (by kernel_rfl) (by decide) (by kernel_rfl) (by kernel_rfl) (by kernel_rfl) (fun _ _ _ h=>h) (by rfl) ?y1r0 HS ?r1r0;case y1r0=>(intro w hS;(try dsimp only at hS);obtain ⟨q0,q1⟩:=hS;go_simp;try with_reducible rfl)
 simp only [Act.put,List.setIfInBounds_toArray,List.set_cons_zero,List.set_cons_succ];refine zad 2 (some 6) (v:=?v2r0) rfl rfl (by kernel_rfl) (by decide) (by kernel_rfl) (by kernel_rfl) (by kernel_rfl) (fun _ _ _ h=>h) (by rfl) ?y2r0 HS ?r2r0;case y2r0=>(intro w hS;(try dsimp only at hS);obtain ⟨q0,q1⟩:=hS;go_simp;try with_reducible rfl)
 simp only [Act.put,List.setIfInBounds_toArray,List.set_cons_zero,List.set_cons_succ];refine zad 3 (some 7) (v:=?v3r0) rfl rfl (by kernel_rfl) (by decide) (by kernel_rfl) (by kernel_rfl) (by kernel_rfl) (fun _ _ _ h=>h) (by rfl) ?y3r0 HS ?r3r0;case y3r0=>(intro w hS;(try dsimp only at hS);obtain ⟨q0,q1⟩:=hS;go_simp;try with_reducible rfl)
 simp only [Act.put,List.setIfInBounds_toArray,List.set_cons_zero,List.set_cons_succ];refine zad 4 (some 8) (v:=?v4r0) rfl rfl (by kernel_rfl) (by decide) (by kernel_rfl) (by kernel_rfl) (by kernel_rfl) (fun _ _ _ h=>h) (by rfl) ?y4r0 HS ?r4r0;case y4r0=>(intro w hS;(try dsimp only at hS);obtain ⟨q0,q1⟩:=hS;go_simp;try with_reducible rfl)
 simp only [Act.put,List.setIfInBounds_toArray,List.set_cons_zero,List.set_cons_succ];refine zad 5 (some 9) (v:=?v5r0) rfl rfl (by kernel_rfl) (by decide) (by kernel_rfl) (by kernel_rfl) (by kernel_rfl) (fun _ _ _ h=>h) (by rfl) ?y5r0 HS ?r5r0;case y5r0=>(intro w hS;(try dsimp only at hS);obtain ⟨q0,q1⟩:=hS;go_simp;try with_reducible rfl)
 simp only [Act.put,List.setIfInBounds_toArray,List.set_cons_zero,List.set_cons_succ];refine zad 6 (some 10) (v:=?v6r0) rfl rfl (by kernel_rfl) (by decide) (by kernel_rfl) (by kernel_rfl) (by kernel_rfl) (fun _ _ _ h=>h) (by rfl) ?y6r0 HS ?r6r0;case y6r0=>(intro w hS;(try dsimp only at hS);obtain ⟨q0,q1⟩:=hS;go_simp;try with_reducible rfl)
 simp only [Act.put,List.setIfInBounds_toArray,List.set_cons_zero,List.set_cons_succ];refine zad 7 (some 11) (v:=?v7r0) rfl rfl (by kernel_rfl) (by decide) (by kernel_rfl) (by kernel_rfl) (by kernel_rfl) (fun _ _ _ h=>h) (by rfl) ?y7r0 HS ?r7r0;case y7r0=>(intro w hS;(try dsimp only at hS);obtain ⟨q0,q1⟩:=hS;go_simp;try with_reducible rfl)
 simp only [Act.put,List.setIfInBounds_toArray,List.set_cons_zero,List.set_cons_succ];refine zad 8 (some 12) (v:=?v8r0) rfl rfl (by kernel_rfl) (by decide) (by kernel_rfl) (by kernel_rfl) (by kernel_rfl) (fun _ _ _ h=>h) (by rfl) ?y8r0 HS ?r8r0;case y8r0=>(intro w hS;(try dsimp only at hS);obtain ⟨q0,q1⟩:=hS;go_simp;try with_reducible rfl)
 simp only [Act.put,List.setIfInBounds_toArray,List.set_cons_zero,List.set_cons_succ];refine zad 9 (some 13) (v:=?v9r0) rfl rfl (by kernel_rfl) (by decide) (by kernel_rfl) (by kernel_rfl) (by kernel_rfl) (fun _ _ _ h=>h) (by rfl) ?y9r0 HS ?r9r0;case y9r0=>(intro w hS;(try dsimp only at hS);obtain ⟨q0,q1⟩:=hS;go_simp;try with_reducible rfl)
 simp only [Act.put,List.setIfInBounds_toArray,List.set_cons_zero,List.set_cons_succ];refine zad 10 (some 14) (v:=?v10r0) rfl rfl (by kernel_rfl) (by decide) (by kernel_rfl) (by kernel_rfl) (by kernel_rfl) (fun _ _ _ h=>h) (by rfl) ?y10r0 HS ?r10r0;case y10r0=>(intro w hS;(try dsimp only at hS);obtain ⟨q0,q1⟩:=hS;go_simp;try with_reducible rfl)
 simp only [Act.put,List.setIfInBounds_toArray,List.set_cons_zero,List.set_cons_succ];refine zaD 11 rfl (by kernel_rfl) fun K hK'=>?_;go_simp;refine hK' _ _ (fun _=>⟨zar HS.1 _,zar HS.2 _⟩) ?_;clear hK' K;obtain ⟨i0,hi0,hz0,hz1,hz2⟩:=info_parts zlC;have hz7:B≤wd.heap.size:=by omega
 refine zaD 12 rfl (by kernel_rfl) fun K hK'=>?_;rw [if_pos (by rfl)];refine zbI _ (some 16) rfl (.tmp 8) (.tmp 15) 247 247 rfl B 283 i0 (.agg #[.int .i64 0,.bool false]) 2 16 Tryz.underlying247 hi0 hz0 hz1 hz2 rfl (by decide) (.slice Aq gs.length cq) gs.length (zcf 0 gs) rfl (World.ownsRow.alloc h.qs _) _ 1 [.int .i64 ((zaw gs).length:Nat),.bool false] rfl (Src.ofSlice _ Tryz.underlying247 _ 1 1 _ rfl (zbo _ _ _ _) (zmj _ _)) (by simp only [maxLen];omega) (by omega) (size_alloc hz7) ?_;intro v8 W8 hown8 hg8;have hc8:=h.cells.grown (v:=.slice Aq gs.length cq) hg8 h.qs hg;have hK8:=za7 (v:=.slice Aq gs.length cq) (Kp.of_below (hbd.mono hB) g) hg8 h.qs hz7 (Nat.le_refl _);have hp8:=zbf (World.ownsRow.alloc h.ps (.cells #[.int .i64 ((zaw gs).length:Nat),.bool false] 283)) (World.ownsRow.alloc h.qs _) (by decide) hg8;obtain ⟨A8,c8,rfl,_⟩:=Rd.own hown8;have HS8:W8.cell? ⟨g,0,none⟩=some (.slice Ap (zaw gs).length cp)∧W8.cell? ⟨g,1,none⟩=some (.slice Aq gs.length cq):=⟨hc8.cell 0,hc8.cell 1⟩;refine hK' _ _ (fun _=>HS8) ?_;clear hK' K HS hg8;have HS:=HS8;clear HS8;simp only [Act.put,List.setIfInBounds_toArray,List.set_cons_zero,List.set_cons_succ];refine zaD 13 rfl (by kernel_rfl) fun K hK'=>?_;go_simp;refine hK' _ _ (fun _=>HS) ?_;clear hK' K;refine zad 14 (some 18) (v:=?v14r0) rfl rfl (by kernel_rfl) (by decide) (by kernel_rfl) (by kernel_rfl) (by kernel_rfl) (fun _ _ _ h=>h) (by rfl) ?y14r0 HS ?r14r0;case y14r0=>(intro w hS;(try dsimp only at hS);obtain ⟨q0,q1⟩:=hS;go_simp;try with_reducible rfl)
 simp only [Act.put,List.setIfInBounds_toArray,List.set_cons_zero,List.set_cons_succ];refine zaD 15 rfl (by kernel_rfl) fun K hK'=>?_;have fz8:=hc8.fz 1;have q8:=hc8.cell 1;go_simp;refine hK' _ _ (fun h=>absurd rfl h) ?_;clear hK' K;refine zbq (by kernel_rfl) ?_ _;have hc9:Bk _ g #[.slice Ap (zaw gs).length cp,.slice A8 (gs.length + 1) c8] 249:=hc8.set 1 (.slice A8 (gs.length + 1) c8);have hK9:=hK8.trans (zfM g B W8 1 (.slice A8 (gs.length + 1) c8));have hp9:=zai (a:=⟨g,1,none⟩) hp8 (by dsimp only;omega) (.slice A8 (gs.length + 1) c8);have hq9:=zai (a:=⟨g,1,none⟩) hown8 (by dsimp only;omega) (.slice A8 (gs.length + 1) c8);clear HS hc8 hK8 hp8 hown8 fz8 q8;generalize W8.setCell ⟨g,1,none⟩ (.slice A8 (gs.length + 1) c8)=W9 at *
 have x0:W9.cell? ⟨g,0,none⟩=some (.slice Ap (zaw gs).length cp):=hc9.cell 0;have lg:=hc9.lt;have fz0:=hc9.fz 0;obtain ⟨i0,hi0,hz0,hz1,hz2⟩:=info_parts zgX;have hz9:B≤W9.heap.size:=Nat.le_trans hB hK9.size;clear h hbd;go_wp2_with (at_builtin;refine zab _ rfl (.tmp 23) (.tmp 25) 23 23 rfl B 9 i0 (.string .empty) 1 16 Tryz.underlying23 hi0 hz0 hz1 hz2 rfl (by decide) _ (zaw gs).length ((zaw gs).map .string) rfl (World.ownsRow.alloc hp9 _) _ 2 [.string ⟨#[]⟩,.string x] rfl (Src.ofSlice _ Tryz.underlying23 _ 2 2 _ rfl (zbo _ _ _ _) (zjf [⟨#[]⟩,x])) (by simp only [maxLen];omega) (by omega) (size_alloc hz9) ?_;intro v1 W1 hown1 hg1 hat1;obtain ⟨A1,c1,rfl,_⟩:=Rd.own hown1;have hc1:=hc9.grown (v:=.slice Ap (zaw gs).length cp) hg1 hp9 hg;have y0:W1.cell? ⟨g,0,none⟩=some (.slice Ap (zaw gs).length cp):=hc1.cell 0;have fz1:=hc1.fz 0;have lc1:=hc1.lt)
 have hK1:=za7 (v:=.slice Ap (zaw gs).length cp) hK9 hg1 hp9 hz9 (Nat.le_refl _);have hq1:=zbf (World.ownsRow.alloc hq9 (.cells #[.string ⟨#[]⟩,.string x] 9)) (World.ownsRow.alloc hp9 _) (by decide) hg1;go_returns
 refine ⟨rfl,⟨A1,c1,A8,c8,?_⟩,hK1.trans (zfM g B W1 0 _)⟩;have hf:zaw (zkI x gs)=zaw gs ++ [⟨#[]⟩,x]:=by unfold zkI;rw [zei];rfl
 have hl:(zaw (zkI x gs)).length=(zaw gs).length + 2:=by rw [hf,List.length_append];rfl
 have hl2:(zkI x gs).length=gs.length + 1:=by unfold zkI;rw [List.length_append];rfl
 have hc:zcf 0 (zkI x gs)=zcf 0 gs ++ [.int .i64 ((zaw gs).length:Nat),.bool false]:=by unfold zkI;rw [zcP,Nat.zero_add];rfl
 refine ⟨?_,?_,?_⟩
 · rw [hl,hl2];exact hc1.set 0 _
 · rw [hl,hf,List.map_append];exact zai (a:=⟨g,0,none⟩) hown1 (by dsimp only;omega) _
 · rw [hl2,hc];exact zai (a:=⟨g,0,none⟩) hq1 (by dsimp only;omega) _
theorem zjN (p:Nat) (a:List Gp) (x:Gp) (b:List Gp):(zcf p (a ++ x::b))[a.length * 2]? = some (.int .i64 ((p + (zaw a).length:Nat):Int))∧(zcf p (a ++ x::b))[a.length * 2 + 1]? = some (.bool x.2):=by
 rw [zcP];constructor
 · rw [List.getElem?_append_right (by rw [zco];exact Nat.le_refl _),zco,Nat.sub_self];rfl
 · rw [List.getElem?_append_right (by rw [zco];omega),zco,show a.length * 2 + 1-a.length * 2=1 by omega];rfl
theorem zmg {w:World} {B:Nat} {e:TypeId} {s n m:Nat} {A:Option Addr} {c:Nat} {xs:List Value} (h:w.ownsRow B e s (.slice A n c) n xs) (hm:m≤n):w.ownsRow B e s (.slice A m c) m (xs.take (m * s)):=by
 have hs:m * s≤n * s:=Nat.mul_le_mul_right s hm;refine ⟨by rw [List.length_take,h.1];omega,?_⟩;rcases h.2 with ⟨e1,e2⟩ | ⟨g,cap,cur,e1,h1,h2,h3,h4,h5,h6⟩
 · cases e1;obtain rfl:m=0:=by omega
   exact .inl ⟨rfl,rfl⟩
 · cases e1;exact .inr ⟨g,_,cur,rfl,h1,h2,by omega,h4,h5,by rw [←h6,List.take_take,Nat.min_eq_left hs]⟩
theorem zfZ {w:World} {B:Nat} {e:TypeId} {s n:Nat} {v:Value} {xs:List Value} (h:w.ownsRow B e s v n xs) {a:Addr} (ha:v.ownBlock≠some a.block) (u:Value):(w.setCell a u).ownsRow B e s v n xs:=by
 refine ⟨h.1,?_⟩;rcases h.2 with ⟨e1,e2⟩ | ⟨g,cap,cur,e1,h1,h2,h3⟩
 · exact .inl ⟨e1,e2⟩
 · subst e1;refine .inr ⟨g,cap,cur,rfl,h1,?_,h3⟩;rw [Below.heap_setCell _ _ _ _ (fun e=>ha (by rw [←e];rfl))];exact h2
theorem zhz {α:Type} (y c:α):∀(xs ys:List α),(xs ++ y::ys).set xs.length c=xs ++ c::ys
 | [],_=>rfl
 | x::xs,ys=>by
  show x::(xs ++ y::ys).set xs.length c=_;rw [zhz y c xs ys];rfl
theorem zju (l:List Gp) (a b:Gp):zaw (l ++ [a,b])=zaw (l ++ [a]) ++ ⟨#[]⟩::b.1:=by
 rw [show l ++ [a,b]=l ++ [a] ++ [b] by simp,zei (l ++ [a])];unfold zaw;simp
theorem zgt (c:ByteArray) (l:List Gp) (a b:Gp):zaw (l ++ [ze7 c a b])=zaw (l ++ [a]) ++ (if b.2=true then c ++ ⟨#[40]⟩ else c)::(b.1 ++ if b.2=true then [⟨#[41]⟩] else []):=by
 rw [zei,zei];unfold zaw ze7;simp
theorem zh9 (l:List Gp) (a b:Gp):(zcf 0 (l ++ [a,b])).take ((l.length + 1) * 2)=zcf 0 (l ++ [a]):=by
 rw [show l ++ [a,b]=l ++ [a] ++ [b] by simp,zcP 0 (l ++ [a])];have:(zcf 0 (l ++ [a])).length=(l.length + 1) * 2:=by rw [zco,List.length_append];rfl
 rw [←this,List.take_left]
theorem zjP (l:List Gp) (a x:Gp) (hx:x.2=true):(zcf 0 (l ++ [a])).set (l.length * 2 + 1) (.bool true)=zcf 0 (l ++ [x]):=by
 rw [zcP,zcP,Nat.zero_add];have e:∀y:Gp,zcf (zaw l).length [y]=[Value.int .i64 ((zaw l).length:Nat),.bool y.2]:=fun y=>rfl;rw [e,e,hx,show l.length * 2 + 1=(zcf 0 l ++ [Value.int .i64 ((zaw l).length:Nat)]).length by rw [List.length_append,zco];rfl,show zcf 0 l ++ [Value.int .i64 ((zaw l).length:Nat),.bool a.2]=zcf 0 l ++ [Value.int .i64 ((zaw l).length:Nat)] ++ Value.bool a.2::[] by simp,zhz]
 simp
theorem zl0 (c:ByteArray) (a b:Gp):(ze7 c a b).2=true:=rfl
theorem zjL {w:World} {B:Nat} {e:TypeId} {s n c:Nat} {A:Option Addr} {xs:List Value} (h:w.ownsRow B e s (.slice A n c) n xs) (hn:0<n):∃g,A=some ⟨g,0,none⟩∧B≤g∧g<w.heap.size∧n≤c:=by
 rcases h.2 with ⟨e1,e2⟩ | ⟨g,cap,cur,e1,h1,h2,h3,_⟩
 · omega
 · cases e1;exact ⟨g,rfl,h1,(Array.getElem?_eq_some_iff.1 h2).1,h3⟩
theorem zjC {W:World} {B g gq n cp cq:Nat} {Ap:Option Addr} {l:List Gp} {a b x:Gp} (hln:l.length=n) (hx:x.2=true) (hg:g<B)
 (hc:Bk W g #[.slice Ap (zaw (l ++ [x])).length cp,.slice (some ⟨gq,0,none⟩) (n + 1 + 1) cq] 249)
 (hps:W.ownsRow B 9 1 (.slice Ap (zaw (l ++ [x])).length cp) (zaw (l ++ [x])).length ((zaw (l ++ [x])).map .string))
 (hqs:W.ownsRow B 283 2 (.slice (some ⟨gq,0,none⟩) (n + 1 + 1) cq) (n + 1 + 1) (zcf 0 (l ++ [a,b]))) (hgq:B≤gq) :
 Ln B ((W.setCell ⟨g,1,none⟩ (.slice (some ⟨gq,0,none⟩) (n + 1) cq)).setCell ⟨gq,n * 2 + 1,none⟩ (.bool true)) g (l ++ [x]):=by
 have hl:(l ++ [x]).length=n + 1:=by rw [List.length_append,hln];rfl
 have hq1:=zmg (zai (a:=⟨g,1,none⟩) hqs hg (.slice (some ⟨gq,0,none⟩) (n + 1) cq)) (show n + 1≤n + 1 + 1 by omega);rw [←hln,zh9,hln] at hq1;have hq2:=(hq1.stored (n * 2 + 1) (.bool true)).1;rw [←hln,zjP l a x hx,hln] at hq2;have hp1:=zai (a:=⟨g,1,none⟩) hps hg (.slice (some ⟨gq,0,none⟩) (n + 1) cq);have hp2:=zfZ (a:=⟨gq,n * 2 + 1,none⟩) hp1 (by
  have:=zmf hp1 hq1 (by decide);intro e;rcases this with e2 | e2
  · rw [e2] at e;cases e
  · exact e2 e) (.bool true)
 have hc1:Bk _ g #[.slice Ap (zaw (l ++ [x])).length cp,.slice (some ⟨gq,0,none⟩) (n + 1) cq] 249:=hc.set 1 (.slice (some ⟨gq,0,none⟩) (n + 1) cq);have hc2:=hc1.other (a:=⟨gq,n * 2 + 1,none⟩) (by dsimp only;omega) (.bool true);exact ⟨Ap,cp,_,cq,⟨by rw [hl];exact hc2,hp2,by rw [hl];exact hq2⟩⟩
theorem join_any {w:World} {B g:Nat} {gs:List Gp} (c:ByteArray) (h:Ln B w g gs) (hg:g<B) (hB:B≤w.heap.size) (hn:gs.length≤1000000) (hp:(zaw gs).length≤1000000) (hc:c.size≤100) :
 Calls Tryz.prog 164 #[.pointer (some ⟨g,0,none⟩),.string c] w (zix B w g (zhR c gs)):=by
 have hsplit:(gs.length<2∧zhR c gs=gs)∨∃l a b,gs=l ++ [a,b]:=by
  rcases List.eq_nil_or_concat gs with rfl | ⟨l1,b,rfl⟩
  · exact .inl ⟨by decide,rfl⟩
  · rcases List.eq_nil_or_concat l1 with rfl | ⟨l,a,rfl⟩
    · exact .inl ⟨by simp,rfl⟩
    · exact .inr ⟨l,a,b,by simp⟩
 rcases hsplit with ⟨hlt,hj⟩ | ⟨l,a,b,rfl⟩
 · rw [hj];have hq:=h;obtain ⟨Ap,cp,Aq,cq,h⟩:=h;have x1:w.cell? ⟨g,1,none⟩=some (.slice Aq gs.length cq):=h.cells.cell 1;have lg:=h.cells.lt;have d1:((gs.length:Nat):Int)-1<1:=by omega
   go_enter Tryz.func164,Tryz.ntmps164
   go_wp2_with fail
   go_returns
   exact ⟨rfl,hq,Kp.refl _ _ _⟩
 · rw [zel];obtain ⟨Ap,cp,Aq,cq,h⟩:=h;have hP:=zju l a b;obtain ⟨m,hm⟩:∃m,l.length + 1=m:=⟨_,rfl⟩;have hl2:(l ++ [a,b]).length=m + 1:=by rw [List.length_append,←hm];rfl
   obtain ⟨pb,hpb⟩:∃p,(zaw (l ++ [a])).length=p:=⟨_,rfl⟩;obtain ⟨P,hPl⟩:∃p,(zaw (l ++ [a,b])).length=p:=⟨_,rfl⟩;have hpP:pb<P:=by rw [←hPl,hP,List.length_append,List.length_cons];omega
   obtain ⟨p0,p1⟩:=zjN 0 (l ++ [a]) b [];rw [show l ++ [a] ++ b::[]=l ++ [a,b] by simp,show (l ++ [a]).length=m by rw [List.length_append,←hm];rfl] at p0 p1;rw [Nat.zero_add,hpb] at p0;obtain ⟨hc0,hps,hqs⟩:=h;rw [hl2] at hc0 hqs hn;rw [hPl] at hc0 hps hp;obtain ⟨gp,rfl,hgp,lp,_⟩:=zjL hps (by omega);obtain ⟨gq,rfl,hgq,lq,hcq⟩:=zjL hqs (by omega);have hne:gp≠gq:=by
    have:=zmf hps hqs (by decide);rcases this with e | e
    · cases e
    · intro e2;subst e2;exact e rfl
   have r0:w.cell? ⟨gq,m * 2,none⟩=some (.int .i64 (pb:Nat)):=(hqs.cellAt _ (by omega)).trans p0;have r1:w.cell? ⟨gq,m * 2 + 1,none⟩=some (.bool b.2):=(hqs.cellAt _ (by omega)).trans p1;have x1:w.cell? ⟨g,1,none⟩=some (.slice (some ⟨gq,0,none⟩) (m + 1) cq):=hc0.cell 1;have lg:=hc0.lt;have d1:¬((m:Nat):Int)<1:=by omega
   have d2:((m:Nat):Int)<((m:Nat):Int) + 1:=by omega
   have hPs:=Lib.hid hps;have hQs:=Lib.hid hqs;clear p0 p1 hps hqs;go_enter Tryz.func164,Tryz.ntmps164
   go_wp2_with fail
   have hb5:=Bk.new w #[.int .i64 (pb:Nat),.bool b.2] 283;have hal:Below w.heap.size w (w.alloc (.cells #[.int .i64 (pb:Nat),.bool b.2] 283)):=(Below.refl _ w).alloc (Nat.le_refl _) _;replace hc0:=hc0.below hal;have hps:=zag hPs.out hal;have hqs:=zag hQs.out hal;have hK:Kp g B w _:=Kp.of_below (hal.mono hB) g;have h63:¬9223372036854775807<c.size + 1:=by omega
   clear hPs hQs hal r0 r1 x1;generalize w.alloc (.cells #[.int .i64 (pb:Nat),.bool b.2] 283)=W0 at *
   have hlt5:=hb5.lt;have hdi:((pb:Nat):Int)<(P:Nat):=by omega
   refine zbL (fun W=>W.cell? ⟨g,0,none⟩=some (.slice (some ⟨gp,0,none⟩) P cp)∧W.cell? ⟨w.heap.size,0,none⟩=some (.int .i64 (pb:Nat))) 8 (by kernel_rfl) ?_;change zbs _ _ _ _ _ _ _ _ _ (World.drew _);have hbd:Below W0.heap.size W0 (World.drew W0):=⟨rfl,rfl,rfl,Nat.le_refl _,fun _ _=>rfl⟩;have hzd:W0.heap.size=(World.drew W0).heap.size:=rfl;generalize World.drew W0=W1 at *
   replace hc0:=hc0.below hbd;replace hb5:=hb5.below hbd;replace hps:=zag hps hbd;replace hqs:=zag hqs hbd;replace hK:=hK.trans ((Kp.of_below hbd g).more (by omega));have HS:W1.cell? ⟨g,0,none⟩=some (.slice (some ⟨gp,0,none⟩) P cp)∧W1.cell? ⟨w.heap.size,0,none⟩=some (.int .i64 (pb:Nat)):=⟨hc0.cell 0,hb5.cell 0⟩;refine zad 0 (some 21) (v:=?v0r3) rfl rfl (by kernel_rfl) (by decide) (by kernel_rfl) (by kernel_rfl) (by kernel_rfl) (fun _ _ _ h=>h) (by rfl) ?y0r3 HS ?r0r3;case y0r3=>(intro w hS;(try dsimp only at hS);obtain ⟨q0,q1⟩:=hS;go_simp;try with_reducible rfl)
   simp only [Act.put,List.setIfInBounds_toArray,List.set_cons_zero,List.set_cons_succ];refine zad 1 (some 22) (v:=?v1r3) rfl rfl (by kernel_rfl) (by decide) (by kernel_rfl) (by kernel_rfl) (by kernel_rfl) (fun _ _ _ h=>h) (by rfl) ?y1r3 HS ?r1r3;case y1r3=>(intro w hS;(try dsimp only at hS);obtain ⟨q0,q1⟩:=hS;go_simp;try with_reducible rfl)
   simp only [Act.put,List.setIfInBounds_toArray,List.set_cons_zero,List.set_cons_succ];refine zad 2 (some 23) (v:=?v2r3) rfl rfl (by kernel_rfl) (by decide) (by kernel_rfl) (by kernel_rfl) (by kernel_rfl) (fun _ _ _ h=>h) (by rfl) ?y2r3 HS ?r2r3;case y2r3=>(intro w hS;(try dsimp only at hS);obtain ⟨q0,q1⟩:=hS;go_simp;try with_reducible rfl)
   simp only [Act.put,List.setIfInBounds_toArray,List.set_cons_zero,List.set_cons_succ];refine zad 3 (some 24) (v:=?v3r3) rfl rfl (by kernel_rfl) (by decide) (by kernel_rfl) (by kernel_rfl) (by kernel_rfl) (fun _ _ _ h=>h) (by rfl) ?y3r3 HS ?r3r3;case y3r3=>(intro w hS;(try dsimp only at hS);obtain ⟨q0,q1⟩:=hS;go_simp;try with_reducible rfl)
   simp only [Act.put,List.setIfInBounds_toArray,List.set_cons_zero,List.set_cons_succ];refine zad 4 (some 25) (v:=?v4r3) rfl rfl (by kernel_rfl) (by decide) (by kernel_rfl) (by kernel_rfl) (by kernel_rfl) (fun _ _ _ h=>h) (by rfl) ?y4r3 HS ?r4r3;case y4r3=>(intro w hS;(try dsimp only at hS);obtain ⟨q0,q1⟩:=hS;go_simp;try with_reducible rfl)
   simp only [Act.put,List.setIfInBounds_toArray,List.set_cons_zero,List.set_cons_succ];refine zad 5 (some 26) (v:=?v5r3) rfl rfl (by kernel_rfl) (by decide) (by kernel_rfl) (by kernel_rfl) (by kernel_rfl) (fun _ _ _ h=>h) (by rfl) ?y5r3 HS ?r5r3;case y5r3=>(intro w hS;(try dsimp only at hS);obtain ⟨q0,q1⟩:=hS;go_simp;try with_reducible rfl)
   simp only [Act.put,List.setIfInBounds_toArray,List.set_cons_zero,List.set_cons_succ];refine zad 6 (some 27) (v:=?v6r3) rfl rfl (by kernel_rfl) (by decide) (by kernel_rfl) (by kernel_rfl) (by kernel_rfl) (fun _ _ _ h=>h) (by rfl) ?y6r3 HS ?r6r3;case y6r3=>(intro w hS;(try dsimp only at hS);obtain ⟨q0,q1⟩:=hS;go_simp;try with_reducible rfl)
   simp only [Act.put,List.setIfInBounds_toArray,List.set_cons_zero,List.set_cons_succ];refine zad 7 (some 28) (v:=?v7r3) rfl rfl (by kernel_rfl) (by decide) (by kernel_rfl) (by kernel_rfl) (by kernel_rfl) (fun _ _ _ h=>h) (by rfl) ?y7r3 HS ?r7r3;case y7r3=>(intro w hS;(try dsimp only at hS);obtain ⟨q0,q1⟩:=hS;go_simp;try with_reducible rfl)
   simp only [Act.put,List.setIfInBounds_toArray,List.set_cons_zero,List.set_cons_succ];refine zaD 8 rfl (by kernel_rfl) fun K hK'=>?_;have fz:=hps.frozenAt pb;have q8:W1.cell? ⟨gp,pb,none⟩=some (.string ⟨#[]⟩):=by rw [hps.cellAt _ (by omega),hP,List.map_append,List.getElem?_append_right (by rw [List.length_map,hpb];exact Nat.le_refl _),List.length_map,hpb,Nat.sub_self];rfl
   go_simp;refine hK' _ _ (fun h=>absurd rfl h) ?_;clear hK' K;refine zbq (by kernel_rfl) ?_ _;have hps2:=hps.stored pb (.string c);have hqs2:=zfZ hqs (a:=⟨gp,pb,none⟩) (by intro e;cases e;exact hne rfl) (.string c);have hc2:=hc0.other (a:=⟨gp,pb,none⟩) (by dsimp only;omega) (.string c);have hb2:=hb5.other (a:=⟨gp,pb,none⟩) (by dsimp only;omega) (.string c);have hK2:=hK.set (a:=⟨gp,pb,none⟩) hgp (.string c);clear HS hps hqs hc0 hb5 hK fz q8 hbd;generalize W1.setCell ⟨gp,pb,none⟩ (.string c)=W2 at *
   have hxs:((zaw (l ++ [a,b])).map Value.string).set pb (.string c)=(zaw (l ++ [a]) ++ c::b.1).map Value.string:=by
    rw [hP,←hpb,List.map_append,List.map_cons,List.map_append,List.map_cons];have:=zhz (Value.string ⟨#[]⟩) (.string c) ((zaw (l ++ [a])).map Value.string) (b.1.map Value.string);rw [List.length_map] at this;exact this
   have hps:=hps2.1;rw [hxs] at hps;clear hps2 hxs;have hn2:∃n,l.length=n∧m=n + 1:=⟨_,rfl,hm.symm⟩;obtain ⟨n,hln,rfl⟩:=hn2;have hpp:=zh9 l a b;have hpt:=zjP l a (ze7 c a b) rfl;have hqa:=(zjN 0 l a [b]).2;rw [hln] at hpp hpt hqa;have dn:((n:Nat):Int)<((n:Nat):Int) + 1 + 1:=by omega
   have dn2:((n:Nat):Int) + 1≤((n:Nat):Int) + 1 + 1:=by omega
   have dn3:(0:Int)≤((n:Nat):Int) + 1:=by omega
   have dn4:((n:Nat):Int) + 1≤(cq:Nat):=by omega
   have hfm:=zgt c l a b;have y0:W2.cell? ⟨w.heap.size,0,none⟩=some (.int .i64 (pb:Nat)):=hb2.cell 0;have y1:W2.cell? ⟨w.heap.size,1,none⟩=some (.bool b.2):=hb2.cell 1;have lt5:=hb2.lt;have HP2:Hid (P=(zaw (l ++ [a]) ++ c::b.1).length):=Lib.hid (by rw [←hPl,hP,List.length_append,List.length_append];rfl);cases hbb:b.2 with
   | false =>
    rw [hbb] at y1 hfm;simp only [Bool.false_eq_true,↓reduceIte,List.append_nil] at hfm;have x1:W2.cell? ⟨g,1,none⟩=some (.slice (some ⟨gq,0,none⟩) (n + 1 + 1) cq):=hc2.cell 1;have fg:=hc2.fz 1;have lg2:=hc2.lt;have fq:=hqs2.frozenAt (n * 2 + 1);have qc:W2.cell? ⟨gq,n * 2 + 1,none⟩=some (.bool a.2):=(hqs2.cellAt _ (by omega)).trans hqa;have hgq2:g≠gq:=by omega
    have hgq3:gq≠g:=by omega
    rw [HP2.out,←hfm] at hc2 hps;go_wp2_with fail
    go_returns
    exact ⟨rfl,zjC hln rfl hg hc2 hps hqs2 hgq,(hK2.trans (zfM g B W2 1 _)).set hgq _⟩
   | true =>
    rw [hbb] at y1 hfm;simp only [↓reduceIte] at hfm;go_wp2_with fail
    refine zbL (fun W=>W.cell? ⟨g,0,none⟩=some (.slice (some ⟨gp,0,none⟩) P cp)∧W.cell? ⟨w.heap.size,0,none⟩=some (.int .i64 (pb:Nat))) 9 (by kernel_rfl) ?_;change zbs _ _ _ _ _ _ _ _ _ (World.drew _);have hbd:Below W2.heap.size W2 (World.drew W2):=⟨rfl,rfl,rfl,Nat.le_refl _,fun _ _=>rfl⟩;have hzd:W2.heap.size=(World.drew W2).heap.size:=rfl;generalize World.drew W2=W3 at *
    replace hc2:=hc2.below hbd;replace hb2:=hb2.below hbd;replace hps:=zag hps hbd;replace hqs2:=zag hqs2 hbd;replace hK2:=hK2.trans ((Kp.of_below hbd g).more (by omega));have HS:W3.cell? ⟨g,0,none⟩=some (.slice (some ⟨gp,0,none⟩) P cp)∧W3.cell? ⟨w.heap.size,0,none⟩=some (.int .i64 (pb:Nat)):=⟨hc2.cell 0,hb2.cell 0⟩;refine zad 0 (some 31) (v:=?v0r5) rfl rfl (by kernel_rfl) (by decide) (by kernel_rfl) (by kernel_rfl) (by kernel_rfl) (fun _ _ _ h=>h) (by rfl) ?y0r5 HS ?r0r5;case y0r5=>(intro w hS;(try dsimp only at hS);obtain ⟨q0,q1⟩:=hS;go_simp;try with_reducible rfl)
    simp only [Act.put,List.setIfInBounds_toArray,List.set_cons_zero,List.set_cons_succ];refine zad 1 (some 32) (v:=?v1r5) rfl rfl (by kernel_rfl) (by decide) (by kernel_rfl) (by kernel_rfl) (by kernel_rfl) (fun _ _ _ h=>h) (by rfl) ?y1r5 HS ?r1r5;case y1r5=>(intro w hS;(try dsimp only at hS);obtain ⟨q0,q1⟩:=hS;go_simp;try with_reducible rfl)
    simp only [Act.put,List.setIfInBounds_toArray,List.set_cons_zero,List.set_cons_succ];refine zad 2 (some 33) (v:=?v2r5) rfl rfl (by kernel_rfl) (by decide) (by kernel_rfl) (by kernel_rfl) (by kernel_rfl) (fun _ _ _ h=>h) (by rfl) ?y2r5 HS ?r2r5;case y2r5=>(intro w hS;(try dsimp only at hS);obtain ⟨q0,q1⟩:=hS;go_simp;try with_reducible rfl)
    simp only [Act.put,List.setIfInBounds_toArray,List.set_cons_zero,List.set_cons_succ];refine zad 3 (some 34) (v:=?v3r5) rfl rfl (by kernel_rfl) (by decide) (by kernel_rfl) (by kernel_rfl) (by kernel_rfl) (fun _ _ _ h=>h) (by rfl) ?y3r5 HS ?r3r5;case y3r5=>(intro w hS;(try dsimp only at hS);obtain ⟨q0,q1⟩:=hS;go_simp;try with_reducible rfl)
    simp only [Act.put,List.setIfInBounds_toArray,List.set_cons_zero,List.set_cons_succ];refine zad 4 (some 35) (v:=?v4r5) rfl rfl (by kernel_rfl) (by decide) (by kernel_rfl) (by kernel_rfl) (by kernel_rfl) (fun _ _ _ h=>h) (by rfl) ?y4r5 HS ?r4r5;case y4r5=>(intro w hS;(try dsimp only at hS);obtain ⟨q0,q1⟩:=hS;go_simp;try with_reducible rfl)
    simp only [Act.put,List.setIfInBounds_toArray,List.set_cons_zero,List.set_cons_succ];refine zad 5 (some 36) (v:=?v5r5) rfl rfl (by kernel_rfl) (by decide) (by kernel_rfl) (by kernel_rfl) (by kernel_rfl) (fun _ _ _ h=>h) (by rfl) ?y5r5 HS ?r5r5;case y5r5=>(intro w hS;(try dsimp only at hS);obtain ⟨q0,q1⟩:=hS;go_simp;try with_reducible rfl)
    simp only [Act.put,List.setIfInBounds_toArray,List.set_cons_zero,List.set_cons_succ];refine zad 6 (some 37) (v:=?v6r5) rfl rfl (by kernel_rfl) (by decide) (by kernel_rfl) (by kernel_rfl) (by kernel_rfl) (fun _ _ _ h=>h) (by rfl) ?y6r5 HS ?r6r5;case y6r5=>(intro w hS;(try dsimp only at hS);obtain ⟨q0,q1⟩:=hS;go_simp;try with_reducible rfl)
    simp only [Act.put,List.setIfInBounds_toArray,List.set_cons_zero,List.set_cons_succ];refine zad 7 (some 38) (v:=?v7r5) rfl rfl (by kernel_rfl) (by decide) (by kernel_rfl) (by kernel_rfl) (by kernel_rfl) (fun _ _ _ h=>h) (by rfl) ?y7r5 HS ?r7r5;case y7r5=>(intro w hS;(try dsimp only at hS);obtain ⟨q0,q1⟩:=hS;go_simp;try with_reducible rfl)
    simp only [Act.put,List.setIfInBounds_toArray,List.set_cons_zero,List.set_cons_succ];refine zad 8 (some 39) (v:=?v8r5) rfl rfl (by kernel_rfl) (by decide) (by kernel_rfl) (by kernel_rfl) (by kernel_rfl) (fun _ _ _ h=>h) (by rfl) ?y8r5 HS ?r8r5;case y8r5=>(intro w hS;(try dsimp only at hS);obtain ⟨q0,q1⟩:=hS;go_simp;try with_reducible rfl)
    simp only [Act.put,List.setIfInBounds_toArray,List.set_cons_zero,List.set_cons_succ];refine zaD 9 rfl (by kernel_rfl) fun K hK'=>?_;have fz:=hps.frozenAt pb;have q8:W3.cell? ⟨gp,pb,none⟩=some (.string c):=by rw [hps.cellAt _ (by omega),List.map_append,List.getElem?_append_right (by rw [List.length_map,hpb];exact Nat.le_refl _),List.length_map,hpb,Nat.sub_self];rfl
    go_simp;refine hK' _ _ (fun h=>absurd rfl h) ?_;clear hK' K;refine zbq (by kernel_rfl) ?_ _;have hps3:=(hps.stored pb (.string (c ++ ⟨#[40]⟩))).1;have hxs2:((zaw (l ++ [a]) ++ c::b.1).map Value.string).set pb (.string (c ++ ⟨#[40]⟩))=(zaw (l ++ [a]) ++ (c ++ ⟨#[40]⟩)::b.1).map Value.string:=by rw [←hpb,List.map_append,List.map_cons,List.map_append,List.map_cons];have:=zhz (Value.string c) (.string (c ++ ⟨#[40]⟩)) ((zaw (l ++ [a])).map Value.string) (b.1.map Value.string);rw [List.length_map] at this;exact this
    rw [hxs2] at hps3;have hqs3:=zfZ hqs2 (a:=⟨gp,pb,none⟩) (by intro e;cases e;exact hne rfl) (.string (c ++ ⟨#[40]⟩));have hc3:=hc2.other (a:=⟨gp,pb,none⟩) (by dsimp only;omega) (.string (c ++ ⟨#[40]⟩));have hK3:=hK2.set (a:=⟨gp,pb,none⟩) hgp (.string (c ++ ⟨#[40]⟩));have hps4:=hps3;have hqs4:=hqs3;have hc4:=hc3;have hK4:=hK3;have hz4:W3.heap.size=(W3.setCell ⟨gp,pb,none⟩ (.string (c ++ ⟨#[40]⟩))).heap.size:=by simp [World.setCell]
    clear HS hps hps3 hqs2 hqs3 hc2 hc3 hb2 hK2 hK3 fz q8 hbd hxs2 y0 y1;generalize W3.setCell ⟨gp,pb,none⟩ (.string (c ++ ⟨#[40]⟩))=W4 at *
    have x0:W4.cell? ⟨g,0,none⟩=some (.slice (some ⟨gp,0,none⟩) P cp):=hc4.cell 0;have lg4:=hc4.lt;obtain ⟨i0,hi0,hz0,hz1,hz2⟩:=info_parts zgX;have hz9:B≤W4.heap.size:=by omega
    have fq4:=hqs4.frozenAt (n * 2 + 1);have hPm:P≤1000000:=hp;go_wp2_with (at_builtin;refine zab _ rfl (.tmp 44) (.tmp 45) 23 23 rfl B 9 i0 (.string .empty) 1 16 Tryz.underlying23 hi0 hz0 hz1 hz2 rfl (by decide) _ P ((zaw (l ++ [a]) ++ (c ++ ⟨#[40]⟩)::b.1).map .string) rfl (World.ownsRow.alloc hps4 _) _ 1 [.string ⟨#[41]⟩] rfl (Src.ofSlice _ Tryz.underlying23 _ 1 1 _ rfl (zfA _ _ _) (zjf [⟨#[41]⟩])) (by simp only [maxLen];omega) (by omega) (size_alloc hz9) ?_;intro v1 W5 hown1 hg1 hat1;obtain ⟨A1,c1,rfl,_⟩:=Rd.own hown1;have hc5:=hc4.grown (v:=.slice (some ⟨gp,0,none⟩) P cp) hg1 hps4 hg;have hqs5:=zbf (World.ownsRow.alloc hqs4 (.cells #[.string ⟨#[41]⟩] 9)) (World.ownsRow.alloc hps4 _) (by decide) hg1;have w0:W5.cell? ⟨g,0,none⟩=some (.slice (some ⟨gp,0,none⟩) P cp):=hc5.cell 0;have w1:W5.cell? ⟨g,1,none⟩=some (.slice (some ⟨gq,0,none⟩) (n + 1 + 1) cq):=hc5.cell 1;have fg0:=hc5.fz 0;have fg1:=hc5.fz 1;have fq5:=hqs5.frozenAt (n * 2 + 1);have lg5:=hc5.lt;have qc5:W5.cell? ⟨gq,n * 2 + 1,none⟩=some (.bool a.2):=(hqs5.cellAt (n * 2 + 1) (show n * 2 + 1<(n + 1 + 1) * 2 by omega)).trans hqa;have hgq2:g≠gq:=(by omega);have hgq3:gq≠g:=(by omega))
    have hK5:=za7 (v:=.slice (some ⟨gp,0,none⟩) P cp) hK4 hg1 hps4 hz9 (Nat.le_refl _);have hc6:Bk _ g #[.slice A1 (P + 1) c1,.slice (some ⟨gq,0,none⟩) (n + 1 + 1) cq] 249:=hc5.set 0 (.slice A1 (P + 1) c1);have hps6:=zai (a:=⟨g,0,none⟩) hown1 hg (.slice A1 (P + 1) c1);have hqs6:=zai (a:=⟨g,0,none⟩) hqs5 hg (.slice A1 (P + 1) c1);have hK6:=hK5.trans (zfM g B W5 0 (.slice A1 (P + 1) c1));have hfl:P + 1=(zaw (l ++ [ze7 c a b])).length:=by
     rw [hfm,HP2.out];simp only [List.length_append,List.length_cons,List.length_nil];omega
    have hfx:(zaw (l ++ [a]) ++ (c ++ ⟨#[40]⟩)::b.1).map Value.string ++ [.string ⟨#[41]⟩]=(zaw (l ++ [ze7 c a b])).map Value.string:=by
     rw [hfm];simp
    go_returns
    generalize W5.setCell ⟨g,0,none⟩ (.slice A1 (P + 1) c1)=W6 at *
    rw [hfl] at hc6 hps6;rw [hfx] at hps6;exact ⟨rfl,zjC hln (zl0 c a b) hg hc6 hps6 hqs6 hgq,(hK6.trans (zfM g B W6 1 _)).set hgq _⟩
def entV (i:Nat) (p:Nat × Value):MapEntry:=⟨.int .i64 p.1,p.2,i⟩
def entsV (l:List (Nat × Value)):Array MapEntry:=(l.mapIdx entV).toArray
theorem zkl (l:List (Nat × Value)) (p:Nat × Value):entsV (l ++ [p])=(entsV l).push (entV l.length p):=by
 unfold entsV;rw [List.mapIdx_append];simp
theorem zef (z:Int):∀(l:List (Nat × Value)) (i k:Nat),Instr.findNow (.int .i64) (.int .i64 z) (l.mapIdx fun j p=>entV (j + k) p) i=some ((l.zipIdx i).find? (fun q=>decide ((q.1.1:Int)=z)) |>.map fun q=>(q.2,q.1.2))
 | [],_,_=>rfl
 | p::r,i,k=>by
  rw [List.mapIdx_cons];show Instr.findNow (.int .i64) (.int .i64 z) (entV (0 + k) p::_) i=_;have ih:=zef z r (i + 1) (k + 1);unfold Instr.findNow;rw [List.zipIdx_cons,List.find?_cons];by_cases h:(p.1:Int)=z
  · have:Instr.sameNow (.int .i64) (.int .i64 z) (entV (0 + k) p).key=some true:=by simp [Instr.sameNow,entV,h]
    rw [this];simp [h,entV]
  · have h':¬z=(p.1:Int):=fun e=>h e.symm;have:Instr.sameNow (.int .i64) (.int .i64 z) (entV (0 + k) p).key=some false:=by simp [Instr.sameNow,entV,h']
    rw [this];simp only [h,decide_false];rw [←ih];congr 2
    funext j q
    rw [show j + 1 + k=j + (k + 1) by omega]
theorem zeL (z:Int) (l:List (Nat × Value)):Instr.findNow (.int .i64) (.int .i64 z) (entsV l).toList 0=some ((l.zipIdx 0).find? (fun q=>decide ((q.1.1:Int)=z)) |>.map fun q=>(q.2,q.1.2)):=by
 have:=zef z l 0 0;simpa [entsV] using this
theorem zfC (b:Bool) (z:Int) (W:World):(Instr.checkKey b 10000 3 (.int .i64 z)).run Tryz.prog W = .ok () W:=by
 unfold Instr.checkKey;simp [run_underlying Tryz.underlying3]
def fnV (f:Nat) (caps:Array Value):Value:=.func (.func f) #[] caps
theorem run_updV (W:World) {b clk:Nat} {l:List (Nat × Value)} (hb:W.heap[b]? = some (.map (entsV l) clk)) (hc:clk=l.length) (z f:Nat) (caps:Array Value) (hf:(l.zipIdx 0).find? (fun q=>decide ((q.1.1:Int)=(z:Int)))=none) :
 (Instr.mapUpdate 250 (.map (some b)) (.int .i64 z) (fnV f caps)).run Tryz.prog W = .ok () (setBlock W b (.map (entsV (l ++ [(z,fnV f caps)])) (l ++ [(z,fnV f caps)]).length)):=by
 subst hc;rw [zkl];have h1:=zeL z l;rw [hf] at h1;simp [Instr.mapUpdate,Instr.findKey,run_underlying Tryz.underlying250,run_underlying Tryz.underlying3,MapKept.run_getObj_map hb,zfC,h1,MapKept.run_setObj_map _ hb,Result.andThen,setBlock,entV]
structure Kb8 (b:Nat) (w w':World):Prop where
 os:w'.os=w.os
 tape:w'.tape=w.tape
 output:w'.output=w.output
 size:w'.heap.size=w.heap.size
 block:∀k,k≠b→w'.heap[k]? = w.heap[k]?
theorem Kb8.below {b B:Nat} {w0 w w':World} (h:Kb8 b w w') (hb:Below B w0 w) (hB:B≤b):Below B w0 w' :=
 hb.trans ⟨h.os,h.tape,h.output,by rw [h.size];exact Nat.le_refl _,fun k hk=>h.block k (by omega)⟩
theorem ze2 (W:World) {b clk:Nat} {l:List (Nat × Value)} (hb:W.heap[b]? = some (.map (entsV l) clk)) (hc:clk=l.length) (z:Int) (c f:Nat) (caps:Array Value) (hz:z=(c:Int)) (hf:(l.zipIdx 0).find? (fun q=>decide ((q.1.1:Int)=(c:Int)))=none) :
 ∃W',(Instr.mapUpdate 250 (.map (some b)) (.int .i64 z) (.func (.func f) #[] caps)).run Tryz.prog W = .ok () W'∧W'.heap[b]? = some (.map (entsV (l ++ [(c,fnV f caps)])) (l ++ [(c,fnV f caps)]).length)∧Kb8 b W W':=by
 subst hz;have hlt:b<W.heap.size:=(Array.getElem?_eq_some_iff.1 hb).1;refine ⟨_,run_updV W hb hc c f caps hf,?_,⟨rfl,rfl,rfl,by simp [setBlock],fun k hk=>by simp only [setBlock];rw [Array.getElem?_setIfInBounds,if_neg (by omega)]⟩⟩;simp [setBlock,hlt]
def actL (bx t4 t5 t6:Nat):List (Nat × Value):=[(1,fnV 165 #[.pointer (some ⟨bx,0,none⟩)]),(2,fnV 167 #[.pointer (some ⟨bx,0,none⟩)]),(3,fnV 168 #[.pointer (some ⟨bx,0,none⟩)]),
 (4,fnV 163 #[.pointer (some ⟨bx,0,none⟩),.pointer (some ⟨t4,0,none⟩)]),(5,fnV 163 #[.pointer (some ⟨bx,0,none⟩),.pointer (some ⟨t5,0,none⟩)]),(6,fnV 163 #[.pointer (some ⟨bx,0,none⟩),.pointer (some ⟨t6,0,none⟩)])]
structure Mp (B g m:Nat) (w:World) (bx t4 t5 t6:Nat):Prop where
 map:w.heap[m]? = some (.map (entsV (actL bx t4 t5 t6)) 6)
 box:Bk w bx #[.pointer (some ⟨g,0,none⟩)] 246
 s4:Bk w t4 #[.string (zgj 4)] 9
 s5:Bk w t5 #[.string (zgj 5)] 9
 s6:Bk w t6 #[.string (zgj 6)] 9
 lt:m<B∧bx<B∧t4<B∧t5<B∧t6<B
 ne:m≠g∧bx≠g∧t4≠g∧t5≠g∧t6≠g
theorem Mp.kp {B g m bx t4 t5 t6:Nat} {w w':World} (h:Mp B g m w bx t4 t5 t6) (hk:Kp g B w w'):Mp B g m w' bx t4 t5 t6 :=
 have b:=hk.block
 ⟨(b _ h.lt.1 h.ne.1).trans h.map,(b _ h.lt.2.1 h.ne.2.1).trans h.box,(b _ h.lt.2.2.1 h.ne.2.2.1).trans h.s4,(b _ h.lt.2.2.2.1 h.ne.2.2.2.1).trans h.s5,(b _ h.lt.2.2.2.2 h.ne.2.2.2.2).trans h.s6,h.lt,h.ne⟩
section
variable {W:World} {B g m bx t4 t5 t6:Nat} (hb:Mp B g m W bx t4 t5 t6)
include hb
theorem zlV (k i:Nat) (f:Nat) (caps:Array Value) (hf:((actL bx t4 t5 t6).zipIdx 0).find? (fun q=>decide ((q.1.1:Int)=(k:Int)))=some ((k,fnV f caps),i)) :
 (Instr.lookup 250 (.map (some m)) (.int .i64 (k:Int)) true).run Tryz.prog W = .ok (.tuple #[.func (.func f) #[] caps,.bool true]) W:=by
 have h:=zeL (k:Int) (actL bx t4 t5 t6);rw [hf] at h;simp [Instr.lookup,Instr.findKey,run_underlying Tryz.underlying250,run_underlying Tryz.underlying3,MapKept.run_getObj_map hb.map,zfC,h,Result.andThen,fnV]
theorem look_no {k:Nat} (h:¬(1≤k∧k≤6)):(Instr.lookup 250 (.map (some m)) (.int .i64 (k:Int)) true).run Tryz.prog W = .ok (.tuple #[.nilFunc,.bool false]) W:=by
 have hz:∀W,(zeroValue 252).run Tryz.prog W = .ok .nilFunc W:=(zero_of_info (P:=Tryz.prog) (t:=252) (v:=.nilFunc) (n:=1) (by kernel_rfl)).1;have hn:((actL bx t4 t5 t6).zipIdx 0).find? (fun q=>decide ((q.1.1:Int)=(k:Int)))=none:=by
  rw [List.find?_eq_none];intro q hq;simp only [actL,List.zipIdx_cons,List.zipIdx_nil,List.mem_cons,List.not_mem_nil,or_false] at hq;simp only [decide_eq_true_eq];intro e;rcases hq with rfl | rfl | rfl | rfl | rfl | rfl <;> (dsimp only at e;omega)
 have h4:=zeL (k:Int) (actL bx t4 t5 t6);rw [hn] at h4;simp [Instr.lookup,Instr.findKey,run_underlying Tryz.underlying250,run_underlying Tryz.underlying3,MapKept.run_getObj_map hb.map,zfC,h4,hz,Result.andThen]
end
theorem does_any (w:World) (g:Nat) (hg:g<w.heap.size) :
 Calls Tryz.prog 138 #[.pointer (some ⟨g,0,none⟩)] w fun e w'=>(∃m bx t4 t5 t6,e = .returned (.map (some m))∧Mp w'.heap.size g m w' bx t4 t5 t6)∧Below w.heap.size w w':=by
 have hmm:=@run_makeMap Tryz.prog;have hbx:=Bk.new w #[.pointer (some ⟨g,0,none⟩)] 246;have hB0:Below w.heap.size w (w.alloc (.cells #[.pointer (some ⟨g,0,none⟩)] 246)):=(Below.refl _ w).alloc (Nat.le_refl _) _;have h0:((w.alloc (.cells #[.pointer (some ⟨g,0,none⟩)] 246)).alloc (.map #[] 0)).heap[w.heap.size + 1]? = some (.map (entsV []) 0):=by
  have:=heap_alloc_new (w.alloc (.cells #[.pointer (some ⟨g,0,none⟩)] 246)) (.map #[] 0);rw [show (w.alloc (.cells #[.pointer (some ⟨g,0,none⟩)] 246)).heap.size=w.heap.size + 1 by simp] at this;exact this
 have hb0:Below (w.heap.size + 1) (w.alloc (.cells #[.pointer (some ⟨g,0,none⟩)] 246)) ((w.alloc (.cells #[.pointer (some ⟨g,0,none⟩)] 246)).alloc (.map #[] 0)):=(Below.refl _ _).alloc (by simp) _;have hs0:((w.alloc (.cells #[.pointer (some ⟨g,0,none⟩)] 246)).alloc (.map #[] 0)).heap.size=w.heap.size + 2:=by simp
 obtain ⟨W1,hu1,h1,k1⟩:=ze2 ((w.alloc (.cells #[.pointer (some ⟨g,0,none⟩)] 246)).alloc (.map #[] 0)) h0 rfl 1 1 165 #[.pointer (some ⟨w.heap.size,0,none⟩)] rfl rfl;have hb1:=k1.below hb0 (Nat.le_refl _);have hs1:W1.heap.size=w.heap.size + 2:=by rw [k1.size];exact hs0
 obtain ⟨W2,hu2,h2,k2⟩:=ze2 W1 h1 rfl 2 2 167 #[.pointer (some ⟨w.heap.size,0,none⟩)] rfl rfl;have hb2:=k2.below hb1 (Nat.le_refl _);have hs2:W2.heap.size=w.heap.size + 2:=by rw [k2.size];exact hs1
 obtain ⟨W3,hu3,h3,k3⟩:=ze2 W2 h2 rfl 3 3 168 #[.pointer (some ⟨w.heap.size,0,none⟩)] rfl rfl;have hb3:=k3.below hb2 (Nat.le_refl _);have hs3:W3.heap.size=w.heap.size + 2:=by rw [k3.size];exact hs2
 have g4:(W3.alloc (.cells #[.string ⟨#[32,124,32]⟩] 9)).heap[w.heap.size + 1]? = _:=(heap_alloc_old W3 _ (by omega)).trans h3;obtain ⟨W4,hu4,h4,k4⟩:=ze2 (W3.alloc (.cells #[.string ⟨#[32,124,32]⟩] 9)) g4 rfl 4 4 163 #[.pointer (some ⟨w.heap.size,0,none⟩),.pointer (some ⟨W3.heap.size,0,none⟩)] rfl rfl;have hb4:=k4.below (hb3.alloc (by omega) (.cells #[.string ⟨#[32,124,32]⟩] 9)) (Nat.le_refl _);have hs4:W4.heap.size=w.heap.size + 3:=by rw [k4.size];simp;omega
 have hv4:=Bk.new W3 #[.string ⟨#[32,124,32]⟩] 9;have g5:(W4.alloc (.cells #[.string ⟨#[32,38,32]⟩] 9)).heap[w.heap.size + 1]? = _:=(heap_alloc_old W4 _ (by omega)).trans h4;obtain ⟨W5,hu5,h5,k5⟩:=ze2 (W4.alloc (.cells #[.string ⟨#[32,38,32]⟩] 9)) g5 rfl 5 5 163 #[.pointer (some ⟨w.heap.size,0,none⟩),.pointer (some ⟨W4.heap.size,0,none⟩)] rfl rfl;have hb5:=k5.below (hb4.alloc (by omega) (.cells #[.string ⟨#[32,38,32]⟩] 9)) (Nat.le_refl _);have hs5:W5.heap.size=w.heap.size + 4:=by rw [k5.size];simp;omega
 have hv5:=Bk.new W4 #[.string ⟨#[32,38,32]⟩] 9;have g6:(W5.alloc (.cells #[.string ⟨#[32,45,32]⟩] 9)).heap[w.heap.size + 1]? = _:=(heap_alloc_old W5 _ (by omega)).trans h5;obtain ⟨W6,hu6,h6,k6⟩:=ze2 (W5.alloc (.cells #[.string ⟨#[32,45,32]⟩] 9)) g6 rfl 6 6 163 #[.pointer (some ⟨w.heap.size,0,none⟩),.pointer (some ⟨W5.heap.size,0,none⟩)] rfl rfl;have hb6:=k6.below (hb5.alloc (by omega) (.cells #[.string ⟨#[32,45,32]⟩] 9)) (Nat.le_refl _);have hs6:W6.heap.size=w.heap.size + 5:=by rw [k6.size];simp;omega
 have hv6:=Bk.new W5 #[.string ⟨#[32,45,32]⟩] 9;have q4:Bk W4 W3.heap.size #[.string ⟨#[32,124,32]⟩] 9:=(k4.block _ (by omega)).trans hv4;have q42:Bk (W4.alloc (.cells #[.string ⟨#[32,38,32]⟩] 9)) W3.heap.size #[.string ⟨#[32,124,32]⟩] 9:=q4.alloc _;have q43:Bk W5 W3.heap.size #[.string ⟨#[32,124,32]⟩] 9:=(k5.block _ (by omega)).trans q42;have q44:Bk W6 W3.heap.size #[.string ⟨#[32,124,32]⟩] 9:=(k6.block _ (by omega)).trans (q43.alloc _);have q5:Bk W5 W4.heap.size #[.string ⟨#[32,38,32]⟩] 9:=(k5.block _ (by omega)).trans hv5;have q54:Bk W6 W4.heap.size #[.string ⟨#[32,38,32]⟩] 9:=(k6.block _ (by omega)).trans (q5.alloc _);have q6:Bk W6 W5.heap.size #[.string ⟨#[32,45,32]⟩] 9:=(k6.block _ (by omega)).trans hv6;have qb:Bk W6 w.heap.size #[.pointer (some ⟨g,0,none⟩)] 246:=(hb6.block _ (by omega)).trans hbx;have HM:Hid (Mp W6.heap.size g (w.heap.size + 1) W6 w.heap.size W3.heap.size W4.heap.size W5.heap.size):=Lib.hid ⟨h6,qb,q44,q54,q6,by omega,by omega⟩;have HB:Hid (Below w.heap.size w W6):=Lib.hid (hB0.trans (hb6.mono (Nat.le_succ _)));clear h0 hb0 hs0 h1 h2 h3 h4 h5 h6 k1 k2 k3 k4 k5 k6 hb1 hb2 hb3 hb4 hb5 hb6 g4 g5 g6 hv4 hv5 hv6 q4 q42 q43 q44 q5 q54 q6 qb hbx hB0 hs1 hs2 hs3 hs4 hs5 hs6;go_enter Tryz.func138,Tryz.ntmps138
 go_wp2
 go_returns
 exact ⟨⟨_,_,_,_,_,rfl,HM.out⟩,HB.out⟩
end Go.Proofs.YtiepddmagfmllaaGreat
