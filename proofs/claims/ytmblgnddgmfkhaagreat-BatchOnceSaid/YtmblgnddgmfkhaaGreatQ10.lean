import Derived.RangeFuncNested
import Derived.RangeFuncBound
import Derived.RangeFuncCalls
import Derived.RangeFuncLeaves
import Derived.Shelf.Abstract
import Derived.Shelf.RegionOpen
import Derived.OwnWalkIn
import Derived.TacticsInMore
import Derived.LoopNIn
import Derived.LoopIn
import Derived.Lib.SliceRun
import Derived.Great.BuildSlice
import Derived.Laws.MakeOwn
import Derived.Outline
import Derived.Test.YtmblgnddgmfkhaaGreatQ09
set_option maxRecDepth 100000
set_option maxHeartbeats 4000000
namespace Go.Proofs.YtmblgnddgmfkhaaGreat
section
open Go.RowKit Go.Shelf
attribute [local go_sem] Oper.semAt_some
open Go.RowKit Go.Shelf
attribute [local go_sem] Oper.semAt_some
variable {n B M y:Nat} {X Y:World} {v:Value} {row:Option Nat}
structure Kq (M x y:Nat) (W W':World):Prop where
 size:W.heap.size≤W'.heap.size
 same:∀g,g<M→g≠x→g≠y→W'.heap[g]? = W.heap[g]?
theorem Kq.refl (M x y:Nat) (W:World):Kq M x y W W:=⟨yaj _,fun _ _ _ _=>rfl⟩
theorem Kq.trans {x:Nat} {A B C:World} (h:Kq M x y A B) (k:Kq M x y B C):Kq M x y A C:=⟨yax h.size k.size,fun g b d f=>(k.same g b d f).trans (h.same g b d f)⟩
theorem Kq.cell {x:Nat} {A B:World} (h:Kq M x y A B) {p:Addr} (h1:p.block<M) (h2:p.block≠x) (h3:p.block≠y):B.cell? p=A.cell? p:=World.cell?_of_block (h.same _ h1 h2 h3)
theorem Kq.putObj {x:Nat} (W:World) (l:Nat) (o:Obj) (hl:M≤l):Kq M x y W (W.putObj l o) :=
 ⟨(grownBy_putObj' W l o).size,fun g d _ _=>by
  by_cases b:g<W.heap.size
  · exact (grownBy_putObj' W l o).block g b (fun e=>by cases e;omega)
  · rw [World.putObj_heap_other (by omega)]⟩
abbrev Pl (n:Nat):=Nat × { k:Nat // k<n }
def plEnc {n:Nat} (x:Pl n):Array Value:=#[.int .i64 (x.1:Int),.int .i64 (x.2.1:Int)]
def zhG {n:Nat} (L:List { k:Nat // k<n }):List Nat:=L.map (·.1)
def bk {n:Nat} (L:List { k:Nat // k<n }):List (Pl n):=((List.range L.length).zip L).reverse
theorem bk_len (L:List { k:Nat // k<n }):(bk L).length=L.length:=by simp [bk]
theorem bk_at {L:List { k:Nat // k<n }} {i j:Nat} {q:{ k:Nat // k<n }} (hi:i + j + 1=L.length) (h:L[i]? = some q):(bk L)[j]? = some (i,q):=by
 unfold bk;rw [List.getElem?_reverse yag,show ((List.range L.length).zip L).length-1-j=i by simp;omega,List.getElem?_zip_eq_some];exact ⟨by rw [List.getElem?_range (by omega)],h⟩
theorem bk_pre {L:List { k:Nat // k<n }} {pre:List (Pl n)} {x:Pl n} (h:pre ++ [x] <+: bk L):∃P Q,L=P ++ x.2::Q∧Q=(pre.map (·.2)).reverse:=by
 obtain ⟨r,b⟩:=h;have e:L=(bk L).reverse.map (·.2):=by
  unfold bk;rw [List.reverse_reverse,List.map_snd_zip (by simp)]
 refine ⟨(r.map (·.2)).reverse,(pre.map (·.2)).reverse,?_,rfl⟩;rw [e,←b];simp
theorem back_in {k:Nat} (n:Nat) (hn:1≤n) (l Bx:Nat) (L:List { i:Nat // i<k }) (A:Option Addr) (c:Nat) (M x y:Nat) (J Jx:List (Pl k)→World→Prop) (W:World)
 (hBx:W.cell? ⟨Bx,0,none⟩=some (.slice A L.length c)) (hrow:Rd W W.heap.size 1 A L.length c (ints (zhG L))) (hA:∀bb o,A=some ⟨bb,o,none⟩→bb<M∧bb≠x∧bb≠y)
 (h2:Bx<M∧Bx≠x∧Bx≠y) (hlen:L.length≤1000000)
 (hY:∀pre x1 W1,J pre W1→pre.length<L.length→YieldAt Fence.wide (n-1) Tryz.prog l (plEnc x1) W1 fun e W' =>
  (e = .returned (.bool true)∧J (pre ++ [x1]) W'∧Kq M x y W1 W')∨(e = .returned (.bool false)∧Jx (pre ++ [x1]) W'))
 (h0:J [] W) :
 CallsIn Fence.wide n Tryz.prog 224 #[.func (.yield l) #[] #[],.pointer (some ⟨Bx,0,none⟩)] W fun e W'=>(∃v,e = .returned v) ∧
  ((∃ys,ys=bk L∧J ys W')∨(∃pre,True∧Jx pre W')):=by
 refine callsIn_of_wp Tryz.func224 rfl trivial ?_ rfl;simp only [Tryz.ntmps224,ybv,yaq,yaI,Nat.reduceAdd,Nat.reduceSub,ybL,ybO,ybX,ybR,yba,ybs];gi_wp2
 gi_loopw [3] (fun i wr=>∃j:Nat,j≤L.length∧i = .int .i64 ((L.length:Int)-1-j)∧J ((bk L).take j) wr∧Kq M x y W wr)
  (fun i _=>(intOf i + 1).toNat)
 case atStart=>exact ⟨0,yap _,by simp,h0,Kq.refl _ _ _ _⟩
 case round =>
  obtain ⟨j,X,rfl,d,b⟩:=hrel;by_cases P:j<L.length
  · have Q:=b.size;obtain ⟨i,hi⟩:∃i:Nat,(L.length:Int)-1-j=(i:Int):=⟨L.length-1-j,by omega⟩;have f:i<L.length:=by omega
    obtain ⟨q,I⟩:∃q,L[i]? = some q:=⟨_,yal f⟩;have hb:=bk_at (j:=j) yab I;obtain ⟨bb,o,u,rfl,_,K,s⟩:=hrow.get f;obtain ⟨z,B,C⟩:=hA bb o rfl;have D:u = .int .i64 (q.1:Int):=by
     simp only [ints,zhG,ybn,ya0,I,ybE,Function.comp,yaT] at K;exact K.symm
    subst D;have Y:=(b.cell (p:=⟨bb,o + i,none⟩) z B C).trans s;have Z:=(b.cell (p:=⟨Bx,0,none⟩) h2.1 h2.2.1 h2.2.2).trans hBx;obtain ⟨fn,N,m,O,E,R⟩:=hY ((bk L).take j) (i,q) wr d (by rw [yaK,bk_len];omega);simp only [plEnc] at E;have F:(bk L).take (j + 1)=(bk L).take j ++ [(i,q)]:=by rw [yaC,hb];rfl
    have T:(i:Int)<(L.length:Int):=by omega
    have U:(i:Int) ≥ 0:=by omega
    rw [hi];have hi:=Lib.hid hi;gi_wp2
    refine R.mono ?_;rintro e W3 (⟨rfl,G,H⟩ | ⟨rfl,g⟩)
    · gi_wp2
      go_roundw
      case rel=>exact ⟨j + 1,by omega,by have:=hi.out;(congr 1 <;> omega),by rw [F];exact G,b.trans H⟩
      case measure=>simp [intOf] <;> omega
    · gi_wp2
      refine bodyPost_ret (results_none rfl _ _ _) rfl ?_;exact ⟨⟨_,rfl⟩,.inr ⟨_,trivial,g⟩⟩
  · obtain rfl:j=L.length:=by omega
    have V:¬((L.length:Int)-1-(L.length:Nat)) ≥ 0:=by omega
    gi_wp2
    go_end0
    rw [ybi (Nat.le_of_eq (bk_len L))] at d;exact ⟨⟨_,rfl⟩,.inl d⟩
theorem zoR {k:Nat} (n:Nat) (hn:1≤n) (Bx:Nat) (L:List { i:Nat // i<k }) (A:Option Addr) (c:Nat) (M x y:Nat) (w:World) (hM:M≤w.heap.size)
 (hBx:w.cell? ⟨Bx,0,none⟩=some (.slice A L.length c)) (hrow:Rd w w.heap.size 1 A L.length c (ints (zhG L))) (hA:∀bb o,A=some ⟨bb,o,none⟩→bb<M∧bb≠x∧bb≠y)
 (h2:Bx<M∧Bx≠x∧Bx≠y) (hlen:L.length≤1000000) :
 SeqStopsK Fence.wide n Tryz.prog 224 #[.pointer (some ⟨Bx,0,none⟩)] (plEnc (n:=k)) (Kq M x y) (fun ys=>ys=bk L) (fun _=>True) L.length w:=fun l J d W b _ _ f g =>
 back_in n hn l Bx L A c M x y J d W ((b.cell (p:=⟨Bx,0,none⟩) (by show Bx<_;omega)).trans hBx) ((hrow.below b).more b.size) hA h2 hlen f g
def VRing (B:Nat) (w:World) (v:Value) (all:List (List Nat)):Prop :=
 ∃vs,w.ownsRow B 146 1 v all.length vs∧∀(i:Nat) (r:List Nat),all[i]? = some r→∃u:Value,vs[i]? = some u∧w.ownsRow B 3 1 u r.length (ints r)
theorem zpt:(Tryz.prog.info? 4).map (fun i=>(i.zero,i.size,i.bytes))=some (some (.bool false),1,1):=by kernel_rfl
theorem znY (n:Nat):madeCells #[.bool false] n=bools (List.replicate n false):=by
 apply ycN;rw [toList_madeCells_one];simp [bools]
theorem zeroF (w:World):(zeroValue 4).run Tryz.prog w = .ok (.bool false) w:=by kernel_rfl
theorem back_any (w:World) (A:Option Addr) (n c:Nat):Calls Tryz.prog 169 #[.slice A n c] w fun e w' =>
 e = .returned (.func (.func 224) #[] #[.pointer (some ⟨w.heap.size,0,none⟩)])∧w'=w.alloc (.cells #[.slice A n c] 146):=by
 go_enter Tryz.func169,Tryz.ntmps169
 go_wp2
 go_ret
 exact ⟨rfl,rfl⟩
theorem zle {w:World} {gs:Nat} {s:List Bool} (h:Bk w gs (bools s) 4) (hs:s.length=n):∃W',(∀ty,(Builtin.clear_ #[288] ty #[.slice (some ⟨gs,0,none⟩) n n]).run Tryz.prog w = .ok (.tuple #[]) W') ∧
 Bk W' gs (bools (List.replicate n false)) 4∧W'.heap.size=w.heap.size∧W'.os=w.os∧W'.tape=w.tape∧W'.output=w.output∧∀g,g≠gs→W'.heap[g]? = w.heap[g]?:=by
 by_cases k:0<n
 · refine ⟨w.setCells gs 0 (List.replicate n (.bool false)),fun ty=>Lib.run_clear_slice w 288 4 ty (.bool false) Tryz.underlying288 zeroF rfl rfl gs 0 n n k (fun j m=>?_) (fun j m=>?_),?_,zdk _ _ _ _,(za3 _ _ _ _).1,(za3 _ _ _ _).2.1,(za3 _ _ _ _).2.2,fun g o=>zby gs _ _ _ g o⟩
   · rw [yaG,h.cell j,zgB,yal (by omega)];rfl
   · exact h.fz _
   · obtain ⟨b,d,p,f⟩:=zbK gs 4 (0,0) (List.replicate n (.bool false)) 0 w (bools s) h (by simp [zhY,hs]);have e:b=bools (List.replicate n false):=by
      apply ycN;rw [zhY,hs] at p;rw [ybJ,yaG,ybi (by rw [ybm];omega)] at f;rw [f];simp [bools]
     rw [e] at d;exact d
 · obtain rfl:n=0:=by omega
   refine ⟨w,fun ty=>by simp [Builtin.clear_,run_underlying Tryz.underlying288],?_,rfl,rfl,rfl,rfl,fun _ _=>rfl⟩;rw [yaY hs] at h;exact h
theorem zpu:(Tryz.prog.info? 146).map (fun i=>(i.zero,i.size,i.bytes))=some (some (.slice none 0 0),1,24):=by kernel_rfl
theorem Bk.stay {b:Nat} {cs:Array Value} {t:TypeId} (h:Bk X b cs t) (hg:X.grownBy Y row) (hr:∀r,row=some r→∃o:Obj,X.heap[r]? = some o∧o.isCells=false):Bk Y b cs t :=
 (hg.block b h.lt fun e=>by
  obtain ⟨o,d,f⟩:=hr b e.symm;rw [show X.heap[b]? = _ from h] at d;cases d;cases f).trans h
theorem zji {e:TypeId} {s:Nat} {xs:List Value} (h:X.ownsRow B e s v n xs) (hg:X.grownBy Y row) (hr:∀r,row=some r→∃o:Obj,X.heap[r]? = some o∧o.isCells=false):Y.ownsRow B e s v n xs :=
 zaD h fun g b=>hg.block g (h.lt g b).2 fun m=>by
  obtain ⟨o,f,p⟩:=hr g m.symm;rcases h.2 with ⟨rfl,_⟩ | ⟨q,j,k,rfl,_,d,_⟩
  · simp [Value.ownBlock] at b
  simp only [Value.ownBlock,yaT] at b;subst b;rw [d] at f;cases f;cases p
theorem Bk.cell' {w:World} {b:Nat} {t:TypeId} (h:Bk w b #[v] t):w.cell? ⟨b,0,none⟩=some v:=h.cell 0
theorem VRing.map {all:List (List Nat)} (h:VRing B X v all) (k1:∀v n xs,X.ownsRow B 146 1 v n xs→Y.ownsRow B 146 1 v n xs) (k2:∀v n xs,X.ownsRow B 3 1 v n xs→Y.ownsRow B 3 1 v n xs):VRing B Y v all:=by
 obtain ⟨b,d,f⟩:=h;exact ⟨b,k1 _ _ _ d,fun i r hi=>by obtain ⟨u,g,j⟩:=f i r hi;exact ⟨u,g,k2 _ _ _ j⟩⟩
structure RI (w W4:World) (l:List Ed) (k gs b8:Nat) (L:List { i:Nat // i<k }) (pre:List (Pl k)) (W:World):Prop where
 one:∃s all v8,Bk W gs (bools s) 4∧s.length=k∧Bk W b8 #[v8] 211∧VRing W4.heap.size W v8 all∧all.length≤pre.length∧(pre <+: bk L→Told l k (zhG ((pre.map (·.2)).reverse)) s all)
 kq:Kq W4.heap.size gs b8 W4 W
 below:Below w.heap.size w W
theorem RI.stay {w W4:World} {l:List Ed} {k gs b8:Nat} {L:List { i:Nat // i<k }} {pre:List (Pl k)} (h:RI w W4 l k gs b8 L pre X) (hw:w.heap.size≤W4.heap.size) (hg:X.grownBy Y row) (hr:∀r,row=some r→W4.heap.size≤r∧∃o:Obj,X.heap[r]? = some o∧o.isCells=false):RI w W4 l k gs b8 L pre Y:=by
 obtain ⟨⟨s,all,m,n,p,q,u,x,y⟩,f,j⟩:=h;have d:∀r,row=some r→∃o:Obj,X.heap[r]? = some o∧o.isCells=false:=fun r e=>(hr r e).2;refine ⟨⟨s,all,m,n.stay hg d,p,q.stay hg d,u.map (fun _ _ _ h=>zji h hg d) (fun _ _ _ h=>zji h hg d),x,y⟩,⟨yax f.size hg.size,fun g a b c=>(hg.block g (by have:=f.size;omega) (fun e=>by have:=(hr g e.symm).1;omega)).trans (f.same g a b c)⟩,?_⟩;exact j.grown hg j.size fun r e=>by have:=(hr r e).1;omega
section
variable {w W4 W w3:World} {l:List Ed} {k gs b8:Nat} {L:List { i:Nat // i<k }} {pre:List (Pl k)} {x:Pl k} {s s6:List Bool} {all:List (List Nat)} {L6:List Nat} {v8 rv:Value}
theorem zrh (hl:InR k l) (hO:OrdOk l k (zhG L)) (m6:pre <+: bk L→Told l k (zhG ((pre.map (·.2)).reverse)) s all) (hW6:Walks (goE l) s [x.2.1] s6 L6) :
 pre ++ [x] <+: bk L→Told l k (zhG (((pre ++ [x]).map (·.2)).reverse)) s6 (if L6=[] then all else all ++ [L6]):=fun d=>by
 obtain ⟨P,Q,e,f⟩:=bk_pre d;have g:=m6 ((List.prefix_append pre [x]).trans d);rw [←f] at g;have b:OrdOk l k (zhG P ++ x.2.1::zhG Q):=by
  have j:zhG L=zhG P ++ x.2.1::zhG Q:=by rw [e];simp [zhG]
  rwa [j] at hO
 have m:=Told.step hl b g hW6;have n:zhG (((pre ++ [x]).map (·.2)).reverse)=x.2.1::zhG Q:=by rw [f];simp [zhG]
 rw [n];exact m
theorem zq4 (hw4:w.heap.size≤gs∧gs<W4.heap.size∧w.heap.size≤W4.heap.size) (m7:Kq W4.heap.size gs b8 W4 W) (m8:Below w.heap.size w W)
 (hK6:Kp gs W.heap.size (W.alloc (.cells #[.slice none 0 0] 146)) w3):KeepsFrom W4.heap.size W w3∧Kq W4.heap.size gs b8 W w3∧Below w.heap.size w w3∧∀g,g<W.heap.size→g≠gs→w3.heap[g]? = W.heap[g]?:=by
 have f:=hK6.size;have j:=m7.size;simp only [World.size_alloc] at f;have hk:∀g,g<W.heap.size→g≠gs→w3.heap[g]? = W.heap[g]?:=fun g d b=>(hK6.block g d b).trans (Below.heap_alloc _ _ _ d);refine ⟨⟨by omega,fun g o d b _=>(hk g (yaO.1 b).1 yab).trans b⟩,⟨by omega,fun g d b _=>hk g yab b⟩,m8.trans (((Below.refl _ W).alloc yab _).trans (hK6.below yab hw4.1)),hk⟩
theorem zm7 {w5:World} {o:Obj} {vs:List Value} (h8:Bk w3 b8 #[v8] 211) (h1:w3.ownsRow W4.heap.size 146 1 v8 all.length vs) (hg:(w3.alloc o).grownBy w5 v8.ownBlock):Bk w5 b8 #[v8] 211 :=
 zbt (h8.alloc o) (h1.alloc o) yac hg
theorem zqO {w5:World} {o:Obj} {vs:List Value} {v9:Value} (hw4:w.heap.size≤b8∧b8<W4.heap.size∧w.heap.size≤W4.heap.size∧W4.heap.size≤w3.heap.size) (h8:Bk w3 b8 #[v8] 211) (hgs:Bk w3 gs (bools s6) 4)
 (h1:w3.ownsRow W4.heap.size 146 1 v8 all.length vs) (h2:∀(i:Nat) (r:List Nat),all[i]? = some r→∃u:Value,vs[i]? = some u∧w3.ownsRow W4.heap.size 3 1 u r.length (ints r)) (hrr:w3.ownsRow W4.heap.size 3 1 rv L6.length (ints L6))
 (hg:(w3.alloc o).grownBy w5 v8.ownBlock) (h5:w5.ownsRow W4.heap.size 146 1 v9 (all.length + 1) (vs ++ [rv])) :
 KeepsFrom W4.heap.size w3 (w5.setCell ⟨b8,0,none⟩ v9)∧Kq W4.heap.size gs b8 w3 (w5.setCell ⟨b8,0,none⟩ v9)∧Below w.heap.size w3 (w5.setCell ⟨b8,0,none⟩ v9)∧Bk (w5.setCell ⟨b8,0,none⟩ v9) gs (bools s6) 4∧Bk (w5.setCell ⟨b8,0,none⟩ v9) b8 #[v9] 211∧VRing W4.heap.size (w5.setCell ⟨b8,0,none⟩ v9) v9 (all ++ [L6]):=by
 have m:=hg.size;simp only [World.size_alloc] at m;have d:=h1.alloc o;have hk:∀g,g<w3.heap.size→g≠b8→v8.ownBlock≠some g→(w5.setCell ⟨b8,0,none⟩ v9).heap[g]? = w3.heap[g]?:=fun g a b c =>
  ((Below.heap_setCell _ _ _ _ b).trans (hg.block g yag fun e=>c e.symm)).trans (Below.heap_alloc _ _ _ a)
 have z:(w5.setCell ⟨b8,0,none⟩ v9).heap.size=w5.heap.size:=by simp [World.setCell]
 have f:=zm7 h8 h1 hg;have hint:∀(v:Value) (n:Nat) (xs:List Value),w3.ownsRow W4.heap.size 3 1 v n xs→(w5.setCell ⟨b8,0,none⟩ v9).ownsRow W4.heap.size 3 1 v n xs:=fun v n xs h=>by
  have q:=zb1 (h.alloc o) d yac hg;exact zaD q fun g j=>Below.heap_setCell _ _ _ _ fun e=>zdK f q yac ((show g=b8 from e) ▸ j)
 refine ⟨⟨by omega,fun g G a b c=>?_⟩,⟨by omega,fun g a b c=>hk g yab c fun e=>by have:=(h1.lt g e).1;omega⟩,?_,?_,?_,vs ++ [rv],?_,fun i r hi=>?_⟩
 · have p:=(yaO.1 b).1;refine (hk g p yab fun e=>?_).trans b;rcases h1.2 with ⟨rfl,_⟩ | ⟨H,x,y,rfl,_,s,_⟩
   · simp [Value.ownBlock] at e
   simp only [Value.ownBlock,yaT] at e;subst e;rw [s] at b;cases b;cases c
 · exact (zaf ((Below.refl _ w3).alloc yab o) hg d yag yab).setCell hw4.1 _
 · exact (zbt (hgs.alloc o) d yac hg).other (a:=⟨b8,0,none⟩) (fun e=>by
    have A:gs=b8:=e;subst A;have:=hgs.symm.trans h8;injection this with this
    injection this with _ B _
    exact absurd B yac) _
 · have:=f.set 0 v9;simpa using this
 · rw [yam];exact zaD h5 fun g j=>Below.heap_setCell _ _ _ _ fun e=>zdK f h5 yac ((show g=b8 from e) ▸ j)
 · have C:vs.length=all.length:=by have:=h1.1;omega
   rcases ybH i all.length with k | k
   · rw [ybr k] at hi;obtain ⟨u,D,E⟩:=h2 i r hi;exact ⟨u,by rw [ybr (by omega)];exact D,hint _ _ _ E⟩
   · rw [yaF k] at hi;obtain ⟨F,hi⟩:=yao.1 hi;simp at F hi;subst hi;exact ⟨rv,by rw [yaF yab,show i-vs.length=0 by omega];rfl,hint _ _ _ hrr⟩
theorem zmS {e:TypeId} {sz:Nat} {xs:List Value} (h:W.ownsRow B e sz v n xs) (hne:e≠4) (hgs:Bk W gs (bools s) 4) (hk:∀g,g<W.heap.size→g≠gs→w3.heap[g]? = W.heap[g]?):w3.ownsRow B e sz v n xs :=
 zaD h fun g d=>hk g (h.lt g d).2 fun f=>zdK hgs h (fun b=>hne b.symm) (f ▸ d)
end
theorem rings_in (m:Nat) (hm:6≤m) {w:World} {c c':Nat} {A A':Option Addr} {l:List Ed} (h1:Gr w B A c n l) (h2:Gr w B A' c' n (l.map turn)) (hB:B≤w.heap.size) :
 CallsIn Fence.wide m Tryz.prog 118 #[.slice A n c,.slice A' n c'] w fun e w'=>∃v all ord s,e = .returned v∧OrdOk l n ord∧Told l n ord s all∧VRing w.heap.size w' v all∧Below w.heap.size w w':=by
 have hn:=h1.few;obtain ⟨i1,ak,al,am,an⟩:=info_parts zpt;have bo:∀W:World,(Instr.makeSlice 288 (.int .i64 (n:Int)) (.int .i64 (n:Int))).run Tryz.prog W = .ok (.slice (some ⟨W.heap.size,0,none⟩) n n) (W.alloc (.cells (bools (List.replicate n false)) 4)):=fun W=>by
  have:=run_make (P:=Tryz.prog) W 288 4 i1 _ Tryz.underlying288 ak al .i64 .i64 n n yab (ybp _) (by rw [an];omega) yab;rw [ybk,am,ycA] at this;rw [←znY];exact this
 refine callsIn_of_wp_marks Tryz.func118 rfl trivial ?_ rfl;simp only [Tryz.ntmps118,ybv,yaq,yaI,Nat.reduceAdd,Nat.reduceSub,ybL,ybO,ybX,ybR,yba,ybs];gi_wp2
 have O:Below w.heap.size w ((((w.alloc (.cells #[.slice A n c] 208)).alloc (.cells #[.slice none 0 0] 146)).alloc (.cells (bools (List.replicate n false)) 4)).alloc (.cells #[.slice (some ⟨w.heap.size + 1 + 1,0,none⟩) n n] 288)) :=
  ((((Below.refl _ w).alloc (yaj _) _).alloc yaf _).alloc yag _).alloc yag _
 have bp:((((w.alloc (.cells #[.slice A n c] 208)).alloc (.cells #[.slice none 0 0] 146)).alloc (.cells (bools (List.replicate n false)) 4)).alloc (.cells #[.slice (some ⟨w.heap.size + 1 + 1,0,none⟩) n n] 288)).heap.size=w.heap.size + 4:=by simp
 have d0:=(((Bk.new w #[.slice A n c] 208).alloc (.cells #[.slice none 0 0] 146)).alloc (.cells (bools (List.replicate n false)) 4)).alloc (.cells #[.slice (some ⟨w.heap.size + 1 + 1,0,none⟩) n n] 288);have d1:=((Bk.new (w.alloc (.cells #[.slice A n c] 208)) #[.slice none 0 0] 146).alloc (.cells (bools (List.replicate n false)) 4)).alloc (.cells #[.slice (some ⟨w.heap.size + 1 + 1,0,none⟩) n n] 288);have d2:=(Bk.new ((w.alloc (.cells #[.slice A n c] 208)).alloc (.cells #[.slice none 0 0] 146)) (bools (List.replicate n false)) 4).alloc (.cells #[.slice (some ⟨w.heap.size + 1 + 1,0,none⟩) n n] 288);have d3:=Bk.new (((w.alloc (.cells #[.slice A n c] 208)).alloc (.cells #[.slice none 0 0] 146)).alloc (.cells (bools (List.replicate n false)) 4)) #[.slice (some ⟨w.heap.size + 1 + 1,0,none⟩) n n] 288;simp only [World.size_alloc] at d1 d2 d3;generalize (((w.alloc (.cells #[.slice A n c] 208)).alloc (.cells #[.slice none 0 0] 146)).alloc (.cells (bools (List.replicate n false)) 4)).alloc (.cells #[.slice (some ⟨w.heap.size + 1 + 1,0,none⟩) n n] 288)=W1 at *
 have ao:Sw W1 (w.heap.size + 1) (w.heap.size + 1 + 1) (w.heap.size + 1) n (List.replicate n false) []:=⟨d2,⟨⟨_,d1,World.ownsRow_nil _ _ _ _⟩,yaj _⟩,by simp⟩;have bq:=h1.below (O.mono hB);have aq:=h2.below (O.mono hB);gi_loopw [17] (fun vi wr=>∃(k:Nat) (s:List Bool) (L:List Nat),vi = .int .i64 k∧k≤n∧Walks (goE (l.map turn)) (List.replicate n false) (List.range k) s L∧Sw wr (w.heap.size + 1) (w.heap.size + 1 + 1) (w.heap.size + 1) n s L∧Kp (w.heap.size + 1 + 1) (w.heap.size + 1) W1 wr∧Bw W1 wr)
  (fun vi _=>n-(intOf vi).toNat)
 case atStart=>exact ⟨0,_,[],rfl,yap _,.nil _,ao,Kp.refl _ _ _,Bw.refl _⟩
 case round =>
  obtain ⟨k,s,L,rfl,hk,hW,hS,hK,hV⟩:=hrel;have G:=hV _ _ _ yac yac yac d3;by_cases a2:k<n
  · have a6:(k:Int)<(n:Int):=by omega
    have c6:=G.cell 0;have ar:=hW.cf;rw [List.count_replicate_self] at ar;have kw:=walk_any (w:=wr) (s:=s) (L:=L) (a:=k) 168 (M0:=B) (M:=w.heap.size + 1) (gs:=w.heap.size + 1 + 1) (go:=w.heap.size + 1) (n:=n) (c:=c') (cs:=n) (A:=A') (l:=l.map turn) yab yab yab
     (enters_of Tryz.func168 yaa rfl) (fun w L k h hl=>leave1_any h k hl) (s.count false) (yaj _) a2 (aq.below (hK.below yab yab)) hS yab
    gi_wp2_with (refine ⟨trivial,fun e=>(by cases e),?_⟩;(with_reducible refine (callsIn_wide.2 kw).mono ?_);rintro e w2 ⟨rfl,s2,L2,au,av,Q,aw⟩)
    go_roundw
    case rel=>exact ⟨k + 1,s2,L ++ L2,by simp,by omega,by rw [List.range_succ];exact hW.app au,av,hK.trans Q,hV.trans aw⟩
    case measure=>simp [intOf];omega
  · obtain rfl:k=n:=by omega
    have a6:¬((k:Int)<(k:Nat)):=by omega
    have hO:=ord_of h1.inr hW;obtain ⟨ov,hv,y⟩:=hS.od.one;obtain ⟨z,C,rfl,ax⟩:=Rd.own y;have R:L.length=k:=by
     have:=hW.cf;have h0:s.count false=0:=by
      rw [List.count_eq_zero];intro m;obtain ⟨i,hi,e⟩:=yb9 m;have h3:s[i]? = some false:=by rw [yal hi,e]
      have ay:i<k:=by rw [hS.len] at hi;exact hi
      exact absurd ((hO.mem i).2 ay) ((hW.seen.2.1 i).1 h3).2
     rw [List.count_replicate_self] at this;omega
    replace R:=Lib.hid R;obtain ⟨W3,az,e3,s3,a7,a8,aa,T⟩:=zle (hS.seen.alloc (.cells #[.slice none 0 0] 211)) hS.len;have H:W3.heap.size=wr.heap.size + 1:=by rw [s3];simp
    have br:=hS.seen.lt;have bs:=hv.lt;have b3:Kp (w.heap.size + 1 + 1) (w.heap.size + 1) (wr.alloc (.cells #[.slice none 0 0] 211)) W3:=⟨a7,a8,aa,by omega,fun g _ hg=>T g hg⟩;have x6:Bk W3 (w.heap.size + 1 + 1 + 1) _ _:=(T _ yab).trans (G.alloc _);have x5:Bk W3 (w.heap.size + 1) _ _:=(T _ yab).trans (hv.alloc _);have x8:Bk W3 wr.heap.size #[.slice none 0 0] 211:=(T _ yab).trans (Bk.new wr _ _);have r5:W3.ownsRow (w.heap.size + 1) 3 1 (.slice z L.length C) L.length (ints L):=zaD (y.alloc (.cells #[.slice none 0 0] 211)) fun g hg=>T g fun e=>zdK hS.seen y yac (e ▸ hg);have c6:=(G.alloc (.cells #[.slice none 0 0] 211)).cell 0;have c5:=x5.cell 0;have kb:=back_any W3 z L.length C;clear s3;replace H:=Lib.hid H;gi_wp2_with (refine ⟨trivial,fun e=>(by cases e),?_⟩;(with_reducible refine (callsIn_wide.2 kb).mono ?_);rintro e w2 ⟨rfl,b⟩)
    replace H:=H.out;have bu:=hS.od.ge;have bm:w2.heap.size=W3.heap.size + 1:=by rw [b];simp
    have bx:=b ▸ Bk.new W3 #[.slice z L.length C] 146;have y6:Bk w2 _ _ _:=b ▸ x6.alloc (.cells #[.slice z L.length C] 146);have y8:Bk w2 _ _ _:=b ▸ x8.alloc (.cells #[.slice z L.length C] 146);have y0:Bk W3 w.heap.size #[.slice A k c] 208:=(T _ yab).trans ((hV _ _ _ yac yac yac d0).alloc _);replace y0:Bk w2 _ _ _:=b ▸ y0.alloc (.cells #[.slice z L.length C] 146);have e4:Bk w2 _ _ _:=b ▸ e3.alloc (.cells #[.slice z L.length C] 146);have r4:w2.ownsRow (w.heap.size + 1) 3 1 (.slice z L.length C) L.length (ints L):=b ▸ r5.alloc (.cells #[.slice z L.length C] 146);have j:Below w.heap.size w w2:=by
     have q1:Below w.heap.size W1 wr:=hK.below yab yab;have q2:Below w.heap.size wr W3:=((Below.refl _ wr).alloc yab _).trans (b3.below yab yab);rw [b];exact ((O.trans q1).trans q2).alloc yab _
    rw [←b];clear b kb az e3 a7 a8 aa T b3 x6 x5 x8 r5 c5 c6 hv y ax G;obtain ⟨E,b0⟩:∃E:List { i:Nat // i<k },zhG E=L:=⟨L.pmap Subtype.mk fun a ha=>(hO.mem a).1 ha,by simp [zhG,List.map_pmap]⟩;subst b0;have b1:(zhG E).length=E.length:=by simp [zhG]
    have b2:=R.out;rw [b1] at b2 r4 bx;obtain ⟨A3,c3,U,b4⟩:=Rd.own r4;injection U with U _ b5
    subst U b5;have bw:=h1.below (j.mono hB);have hseq:=zoR (m-1) yab W3.heap.size E z C w2.heap.size (w.heap.size + 1 + 1) wr.heap.size w2 (yaj _) bx.cell' b4
     (fun bb o e=>by
      have V:(Value.slice z E.length C).ownBlock=some bb:=by rw [e];rfl
      refine ⟨(r4.lt bb V).2,fun e'=>zdK e4 r4 yac (e' ▸ V),fun e'=>zdK y8 r4 yac (e' ▸ V)⟩)
     ⟨by omega,by omega,by omega⟩ yab
    obtain ⟨i0,b6,ab,ac,ad⟩:=info_parts zpu;have bz:W1.heap.size≤wr.heap.size:=hK.size;refine wpIn_rangeFunc_ownH (w0:=w2) rfl yab (gf:=224) (lb:=#[.pointer (some ⟨W3.heap.size,0,none⟩)]) rfl trivial (enters_of Tryz.func224 yaa rfl)
     hseq (fun h k=>h.trans k) (fun W l o o' h1 _ _ _=>Kq.putObj W l o' h1) (Below.refl _ _) (fun _=>rfl)
     (RI w w2 l k (w.heap.size + 1 + 1) wr.heap.size E)
     (fun _ _ _=>False)
     (fun pre X Y row J hg y=>J.stay j.size hg y)
     (fun _ _ _ _ _ hs _ _=>hs)
     ⟨⟨_,[],_,e4,by simp,y8,⟨[],World.ownsRow_nil _ _ _ _,fun i r h=>by simp at h⟩,by simp,fun _=>Told.start⟩,Kq.refl _ _ _ _,j⟩
     (fun x a' W=>a'={ tmps:=#[.slice A k c,.slice A' k c',.pointer (some ⟨w.heap.size,0,none⟩),undef,.slice none 0 0,.pointer (some ⟨w.heap.size + 1,0,none⟩),.pointer (some ⟨w.heap.size + 1 + 1 + 1,0,none⟩),u7,.pointer (some ⟨wr.heap.size,0,none⟩),undef,.int .i64 (x.2.1:Int),undef,.slice A' k c',.int .i64 (k:Int),.slice (some ⟨w.heap.size + 1 + 1,0,none⟩) k k,.slice A' k c',.int .i64 (k:Int),.int .i64 (k:Int),.bool false,u19,u20,u21,u22,u23,u24,u25,.slice (some ⟨w.heap.size + 1 + 1,0,none⟩) k k,.slice z k C,.func (.func 224) #[] #[.pointer (some ⟨wr.heap.size + 1,0,none⟩)],.int .i64 (x.1:Int),.int .i64 (x.2.1:Int),undef,undef,undef,undef,undef,undef,undef,undef,undef,undef,undef,undef,undef],defers:=[] })
     (fun x a' _ X Y row hs hg y=>hs)
     ?assign ?body ?done ?stop
    case assign =>
     intro l2 pre x W K J Q;simp only [plEnc];gi_wp2
     exact Q _ _ ((KeepsOthers.refl _).from _) (Kq.refl _ _ _ _) J rfl
    case body =>
     rintro l2 pre x a' W c1 ⟨r,y⟩ J rfl a2;obtain ⟨⟨s5,all,v8,m1,m2,m3,m4,m5,m6⟩,Z,m8⟩:=J;have c4:=Z.size;have b7:=x.2.2;have z0:Bk W _ _ _:=(Z.same w.heap.size yab yab yab).trans y0;have z6:Bk W _ _ _:=(Z.same (w.heap.size + 1 + 1 + 1) yab yab yab).trans y6;have c0:=(z0.alloc (.cells #[.slice none 0 0] 146)).cell';have c6:=(z6.alloc (.cells #[.slice none 0 0] 146)).cell';have b8:Gr W B A c k l:=h1.below (m8.mono hB);have b9:Sw (W.alloc (.cells #[.slice none 0 0] 146)) W.heap.size (w.heap.size + 1 + 1) W.heap.size k s5 []:=⟨m1.alloc _,⟨⟨_,Bk.new W _ _,World.ownsRow_nil _ _ _ _⟩,yaj _⟩,m2⟩;have bn:s5.count false≤k:=by rw [←m2];exact List.count_le_length
     have kw:=walk_any (w:=W.alloc (.cells #[.slice none 0 0] 146)) (s:=s5) (L:=[]) (a:=x.2.1) 170 (M0:=B) (M:=W.heap.size) (gs:=w.heap.size + 1 + 1) (go:=W.heap.size) (n:=k) (c:=c) (cs:=k) (A:=A) (l:=l) yab yab yab
      (enters_of Tryz.func170 yaa rfl) (fun w L k h hl=>leave2_any h k hl) (s5.count false) (yaj _) b7 (b8.below ((Below.refl _ _).alloc yab _)) b9 yag
     gi_wp2
     refine ⟨trivial,fun e=>(by cases e),CallsIn.inRound l2 ((callsIn_wide.2 kw).mono ?_)⟩;rintro e w3 ⟨rfl,s6,L6,ba,p,bc,bd⟩;rw [yba] at p;obtain ⟨rv,bf,ae⟩:=p.od.one;obtain ⟨A6,bg,rfl,_⟩:=Rd.own ae;obtain ⟨k1,k2,af,k4⟩:=zq4 (w:=w) (W4:=w2) (gs:=w.heap.size + 1 + 1) ⟨by omega,by omega,by omega⟩ Z m8 bc;have I:=zrh h1.inr hO m6 ba;have n8:Bk w3 wr.heap.size #[v8] 211:=bd _ _ _ yac yac yac (m3.alloc _);obtain ⟨vs,bh,bi⟩:=m4;have d:=zmS bh yac m1 k4;have N:∀(i:Nat) (r:List Nat),all[i]? = some r→∃u:Value,vs[i]? = some u∧w3.ownsRow w2.heap.size 3 1 u r.length (ints r):=fun i r hi=>by
      obtain ⟨u,hu,y⟩:=bi i r hi;exact ⟨u,hu,zmS y yac m1 k4⟩
     have cr:=bf.cell';have bj:w2.heap.size≤w3.heap.size:=by have:=k1.size;omega
     by_cases f:L6=[]
     · have hz:¬((L6.length:Int) > 0):=by rw [f];simp
       rw [yan f] at I;have f:=Lib.hid f;gi_wp2
       exact ⟨k1,k2,⟨s6,all,v8,p.seen,p.len,n8,⟨vs,d,N⟩,by rw [yam];omega,I⟩,Z.trans k2,af⟩
     · have hz:((L6.length:Int) > 0):=by have:=ybG.2 f;omega
       rw [yak f] at I;have f:=Lib.hid f;have c8:=n8.cell';have f8:=n8.fz 0;obtain ⟨A8,c7,rfl,_⟩:=Rd.own d;gi_wp2_with (gi_at_builtin;refine wpListIn_append_own _ rfl (.tmp 39) (.tmp 41) 211 rfl w2.heap.size 146 i0 (.slice none 0 0) 1 24 Tryz.underlying211 b6 ab ac ad rfl yac _ all.length vs rfl (d.alloc _) ⟨w3.heap.size,0,none⟩ 1 1 [.slice A6 L6.length bg] rfl rfl (zbA _ _ _) (fun u hu=>by simp at hu;subst hu;rfl) yad yab yag ?_;intro v9 w5 F ag _;obtain ⟨A9,c9,rfl,_⟩:=Rd.own F;have ah:=zm7 n8 d ag;have ca:=ah.cell';have cb:=ah.fz 0)
       obtain ⟨j1,j2,j3,j4,j5,j6⟩:=zqO (w:=w) ⟨by omega,by omega,by omega,bj⟩ n8 p.seen d N (zax ae yab) ag F;exact ⟨k1.trans j1,k2.trans j2,⟨s6,all ++ [L6],_,j4,p.len,j5,j6,by rw [yam,yam];simp;omega,I⟩,Z.trans (k2.trans j2),af.trans j3⟩
    case done =>
     rintro D ys W hD rfl J a1;have c8:∃v8,W.cell? ⟨wr.heap.size,0,none⟩=some v8∧∃s5 all,VRing w2.heap.size (W.putObj D (.deferred none)) v8 all∧Told l k (zhG E) s5 all∧Below w.heap.size w (W.putObj D (.deferred none)):=by
      have bl:=J.stay j.size (grownBy_putObj' W D (.deferred none)) (fun r e=>by cases e;exact ⟨hD,_,a1,rfl⟩);obtain ⟨⟨s5,all,v8,m1,m2,m3,m4,m5,m6⟩,Z,m8⟩:=bl;obtain ⟨⟨_,_,ai,_,_,aj,_,_,_⟩,_,_⟩:=J;have e8:ai=v8:=by
       have q:=aj.stay (grownBy_putObj' W D (.deferred none)) (fun r e=>by cases e;exact ⟨_,a1,rfl⟩);have:=q.cell'.symm.trans m3.cell';exact yaX this
      subst e8;have hb:(bk E).map (·.2)=E.reverse:=by
       unfold bk;rw [List.map_reverse,List.map_snd_zip (by simp)]
      have I:=m6 (List.prefix_rfl);rw [hb,List.reverse_reverse] at I;exact ⟨ai,aj.cell',s5,all,m4,I,m8⟩
     obtain ⟨v8,c8,s5,all,m4,I,m8⟩:=c8;gi_wp2
     refine ⟨by simp,.inl ⟨_,_,rfl,run_takeDeferred a1,?_⟩⟩;obtain ⟨vs,q1,q2⟩:=m4;exact ⟨_,results_tmp rfl _ _ _,_,rfl,all,zhG E,hO,⟨s5,I⟩,⟨vs,zax q1 j.size,fun i r hi=>by obtain ⟨u,hu,y⟩:=q2 i r hi;exact ⟨u,hu,zax y j.size⟩⟩,m8⟩
    case stop =>
     rintro D c pre W _ _ h _;exact h.elim
end
section
open Go.RowKit
structure LvO (w:World) (base g n:Nat) (l:List Ed) (vs:List Value):Prop where
 blk:Bk w g vs.toArray 149
 len:vs.length=n
 rows:∀i,i<n→∃u,vs[i]? = some u∧w.ownsRow base 207 3 u (outE l i).length (zay (outE l i))
 ap:∀(i j:Nat) (u v:Value) (b:Nat),i≠j→vs[i]? = some u→vs[j]? = some v→u.ownBlock=some b→v.ownBlock≠some b
theorem zqu (l:List Ed) (e:Ed) (i:Nat):outE (l ++ [e]) i=outE l i ++ if fr e=i then [e] else []:=by
 unfold outE;rw [yb2];by_cases h:fr e=i <;> simp [h]
section
variable {w w':World} {base g n:Nat} {l:List Ed} {vs:List Value}
theorem LvO.same (h:LvO w base g n l vs) (hg:w'.heap[g]? = w.heap[g]?) (hb:∀v m xs,w.ownsRow base 207 3 v m xs→w'.ownsRow base 207 3 v m xs):LvO w' base g n l vs :=
 ⟨hg.trans h.blk,h.len,fun i hi=>by obtain ⟨u,b,d⟩:=h.rows i hi;exact ⟨u,b,hb _ _ _ d⟩,h.ap⟩
theorem LvO.alloc (h:LvO w base g n l vs) (o:Obj):LvO (w.alloc o) base g n l vs:=h.same (Below.heap_alloc _ _ _ h.blk.lt) fun _ _ _ b=>b.alloc o
theorem LvO.drew (h:LvO w base g n l vs):LvO w.drew base g n l vs:=h.same rfl fun _ _ _ b=>own_drew b
theorem LvO.start (n:Nat) (hw:w.heap[g]? = some (.cells (Array.replicate n (.slice none 0 0)) 149 (0,0))):LvO w base g n [] (List.replicate n (.slice none 0 0)) :=
 ⟨by rw [List.toArray_replicate];exact hw,by simp,fun i hi=>⟨.slice none 0 0,by rw [ybC];simp [hi],World.ownsRow_nil _ _ _ _⟩,fun i j u v b _ d f e=>by
  rw [ybC] at d;split at d
  · cases d;simp [Value.ownBlock] at e
  · cases d⟩
theorem LvO.cell (h:LvO w base g n l vs) {i:Nat} {u:Value} (hu:vs[i]? = some u):w.cell? ⟨g,i,none⟩=some u:=by
 rw [h.blk.cell i];simpa using hu
theorem LvO.step {w8:World} {e:Ed} {u v9:Value} {o:Obj} (h:LvO w base g n l vs) (hu:vs[fr e]? = some u) (hr:w.ownsRow base 207 3 u (outE l (fr e)).length (zay (outE l (fr e))))
 (hg:(w.alloc o).grownBy w8 u.ownBlock) (hown:w8.ownsRow base 207 3 v9 ((outE l (fr e)).length + 1) (zay (outE l (fr e)) ++ za0 e)) (hat:v9.ownBlock=u.ownBlock∨v9.ownBlock=some (w.alloc o).heap.size) :
 Bk w8 g vs.toArray 149∧LvO (w8.setCell ⟨g,fr e,none⟩ v9) base g n (l ++ [e]) (vs.set (fr e) v9):=by
 have B:Bk w8 g vs.toArray 149:=zbt (h.blk.alloc o) (hr.alloc o) yac hg;have s:∀{v:Value} {m:Nat} {xs:List Value},w8.ownsRow base 207 3 v m xs→(w8.setCell ⟨g,fr e,none⟩ v9).ownsRow base 207 3 v m xs:=fun q =>
  zaD q fun k hk=>Below.heap_setCell _ _ _ _ fun H=>zdK B q yac ((show k=g from H) ▸ hk)
 have C:fr e<vs.length:=(yao.1 hu).1;refine ⟨B,?_,by rw [yb8];exact h.len,fun i hi=>?_,fun i j x y b f p D hb=>?_⟩
 · have:=B.set (fr e) v9;simpa using this
 · rw [zqu];by_cases d:fr e=i
   · subst d;refine ⟨v9,by rw [List.getElem?_set_self C],?_⟩;rw [yan rfl,yam,zfu];have:zay [e]=za0 e:=by simp [zay]
     rw [this];exact s hown
   · obtain ⟨x,p,I⟩:=h.rows i hi;refine ⟨x,by rw [ycm d];exact p,?_⟩;rw [yak d,yaJ];refine s (World.ownsRow.kept (I.alloc o) hg ?_);rcases hb:x.ownBlock with _ | b
     · exact .inl rfl
     · exact .inr fun H=>h.ap i (fr e) x u b (fun q=>d q.symm) p hu hb H.symm
 · have old:∀(k:Nat) (z:Value) (c:Nat),vs[k]? = some z→z.ownBlock=some c→c<w.heap.size:=fun k z c K A=>by
    have hk:k<n:=by have:=(yao.1 K).1;rw [h.len] at this;exact this
    obtain ⟨L,F,J⟩:=h.rows k hk;rw [K] at F;cases F;exact (J.lt c A).2
   by_cases d:fr e=i
   · subst d;rw [List.getElem?_set_self C] at p;cases p;rw [ycm f] at D;rcases hat with E | E
     · rw [E] at hb;exact h.ap _ _ _ _ _ f hu D hb
     · rw [E] at hb;cases hb;intro A;have:=old j y _ D A;simp at this;omega
   · rw [ycm d] at p;by_cases G:fr e=j
     · subst G;rw [List.getElem?_set_self C] at D;cases D;intro A;rcases hat with E | E
       · rw [E] at A;exact h.ap _ _ _ _ _ f p hu hb A
       · rw [E] at A;cases A;have:=old i x _ p hb;simp at this;omega
     · rw [ycm G] at D;exact h.ap _ _ _ _ _ f p D hb
theorem LvO.gr (h:LvO w base g n l vs) (hi:InR n l) (hn:n≤4096):Gr w w.heap.size (some ⟨g,0,none⟩) n n l:=by
 refine ⟨⟨vs,⟨by rw [h.len];omega,yaj _,by simp only [maxLen];omega,fun e=>(by cases e),fun _=>⟨g,0,rfl,h.blk.lt,fun j u d=>by rw [yaG];exact h.cell d⟩⟩,fun i b=>?_⟩,hi,hn⟩;obtain ⟨u,f,k⟩:=h.rows i b;obtain ⟨A,c,rfl,m⟩:=Rd.own k;exact ⟨A,c,f,m⟩
end
theorem zgT:(Tryz.prog.info? 207).map (fun i=>(i.zero,i.size,i.bytes))=some (some (.agg #[.int .i64 0,.int .i64 0,.bool false]),3,24):=by kernel_rfl
theorem znN:(Tryz.prog.info? 149).map (fun i=>(i.zero,i.size,i.bytes))=some (some (.slice none 0 0),1,24):=by kernel_rfl
theorem zky {P:Program} (w:World) {Q:Exit→Act→World→Prop} {o:Oper} {a:Act} {K:Act→World→Prop} (d:Option Tmp) (hd:o.dst=d) (s x:Operand) (t tx:TypeId)
 (ho:o.op = .call { callee:=.builtin .append,args:=#[s,x],argTypes:=#[t,tx] })
 (base:Nat) (e:TypeId) (i:TypeInfo) (z:Value) (size bytes:Nat) (ht:P.underlying t=some (.slice e)) (hi:P.info? e=some i) (hz:i.zero=some z)
 (hsize:i.size=size) (hby:i.bytes=bytes) (hzs:z.cells.size=size) (hsz:0<size)
 (v:Value) (n:Nat) (xs:List Value) (hv:a.eval s=v) (hown:w.ownsRow base e size v n xs) (y:Value) (m:Nat) (news:List Value) (hx:a.eval x=y) (hs:Src P size tx y m news w)
 (h63:n + m≤maxLen) (hbytes:(n + m) * bytes≤140737488355328) (hbase:base≤w.heap.size)
 (h:∀v' w',w'.ownsRow base e size v' (n + m) (xs ++ news)→w.grownBy w' v.ownBlock→(v'.ownBlock=v.ownBlock∨v'.ownBlock=some w.heap.size)→K (a.put d v') w') :
 Oper.wp P o a w K Q:=by
 subst hd;obtain ⟨v',w',b,f,g,j⟩:=zcR (P:=P) w base t tx o.type e i z size bytes ht hi hz hsize hby hzs hsz v n xs hown y m news hs h63 hbytes hbase;unfold Oper.wp execOp;simp only [ho,resolve,invoke,builtin,Sem.run_bind,Sem.run_pure,Result.andThen_ok,List.map_toArray,yaW,ycC,hv,hx,b];exact h v' w' f g j
theorem outE_le (l:List Ed) (i:Nat):(outE l i).length≤l.length:=ybf _ _
theorem zp2 (n:Nat):madeCells #[.slice none 0 0] n=Array.replicate n (Value.slice none 0 0):=by
 apply ycN;rw [toList_madeCells_one,Array.toList_replicate]
theorem leaving_any {w:World} {n c:Nat} {A:Option Addr} {l:List Ed} (h:Rd w w.heap.size 3 A l.length c (zay l)) (hi:InR n l) (hn:n≤4096) (hl:l.length≤1000000) :
 Calls Tryz.prog 116 #[.int .i64 (n:Int),.slice A l.length c] w fun e w'=>e = .returned (.slice (some ⟨w.heap.size,0,none⟩) n n)∧Gr w' w'.heap.size (some ⟨w.heap.size,0,none⟩) n n l∧Below w.heap.size w w':=by
 obtain ⟨i1,M,N,O,Q⟩:=info_parts znN;obtain ⟨i0,R,T,U,V⟩:=info_parts zgT;have X:∀W:World,(Instr.makeSlice 208 (.int .i64 (n:Int)) (.int .i64 (n:Int))).run Tryz.prog W = .ok (.slice (some ⟨W.heap.size,0,none⟩) n n) (W.alloc (.cells (Array.replicate n (.slice none 0 0)) 149)):=fun W=>by
  have:=run_make (P:=Tryz.prog) W 208 149 i1 _ Tryz.underlying208 M N .i64 .i64 n n yab (ybp _) (by rw [Q];omega) yab;rw [ybk,O,ycA] at this;rw [←zp2];exact this
 go_enter Tryz.func116,Tryz.ntmps116
 go_wp2_with fail
 have Y:Below w.heap.size w (w.alloc (.cells (Array.replicate n (.slice none 0 0)) 149)):=(Below.refl _ w).alloc (yaj _) _;have Z:=LvO.start (w:=w.alloc (.cells (Array.replicate n (.slice none 0 0)) 149)) (base:=w.heap.size) (g:=w.heap.size) n (heap_alloc_new w _);clear X;generalize w.alloc (.cells (Array.replicate n (.slice none 0 0)) 149)=w0 at *
 go_loopw [12] (fun vi wx=>∃(j:Nat) (vs:List Value),vi = .int .i64 j∧j≤l.length∧LvO wx w.heap.size w.heap.size n (l.take j) vs∧Below w.heap.size w wx) (fun vi _=>l.length-(intOf vi).toNat)
 case atStart=>exact ⟨0,_,rfl,yap _,Z,Y⟩
 case round =>
  obtain ⟨j,vs,rfl,hj,G,k⟩:=hrel;by_cases a1:j<l.length
  · have a2:(j:Int)<(l.length:Int):=by omega
    obtain ⟨e,he⟩:∃e,l[j]? = some e:=⟨_,yal a1⟩;have H:=yar he;have I:e.1=((fr e:Nat):Int):=by have:=hi e H;unfold fr;omega
    have a6:=hi.fr H;have ad:((fr e:Nat):Int)<(n:Int):=by omega
    obtain ⟨b,o,rfl,hb,c0,c1,c2⟩:=zhj ((h.below k).more k.size) he;rw [I] at c0;obtain ⟨u,F,hr⟩:=G.rows (fr e) a6;have a7:∀b,u.ownBlock=some b→b<wr.heap.size:=fun b e'=>(hr.lt b e').2;have a8:=outE_le (l.take j) (fr e);rw [yaK] at a8;go_upto_region 5 with (fail)
    have D:=(G.alloc (.cells #[.int .i64 ((fr e:Nat):Int),.int .i64 e.2.1,.bool e.2.2] 207)).drew;have s:=own_drew (hr.alloc (.cells #[.int .i64 ((fr e:Nat):Int),.int .i64 e.2.1,.bool e.2.2] 207));have m:Below w.heap.size w (World.drew (wr.alloc (.cells #[.int .i64 ((fr e:Nat):Int),.int .i64 e.2.1,.bool e.2.2] 207))):=(k.alloc k.size _).drew;have q:Bk (World.drew (wr.alloc (.cells #[.int .i64 ((fr e:Nat):Int),.int .i64 e.2.1,.bool e.2.2] 207))) wr.heap.size _ _:=Bk.new wr _ _;have ae:=k.size;refine ze9 (fun W=>W.cell? ⟨wr.heap.size,0,none⟩=some (.int .i64 ((fr e:Nat):Int))∧W.cell? ⟨wr.heap.size,1,none⟩=some (.int .i64 e.2.1)∧W.cell? ⟨wr.heap.size,2,none⟩=some (.bool e.2.2)∧W.cell? ⟨w.heap.size,fr e,none⟩=some u) 12 yaa ?_;change zcd _ _ _ _ _ _ _ _ _ (World.drew _);clear G hr c0 c1 c2 k;generalize hdw:World.drew (wr.alloc (.cells #[.int .i64 ((fr e:Nat):Int),.int .i64 e.2.1,.bool e.2.2] 207))=wd at *
    have J:Hid (wd.heap.size=wr.heap.size + 1):=Lib.hid (by subst hdw;show (wr.alloc _).heap.size=_;simp);have p:wd.cell? ⟨wr.heap.size,0,none⟩=some (.int .i64 ((fr e:Nat):Int))∧wd.cell? ⟨wr.heap.size,1,none⟩=some (.int .i64 e.2.1)∧wd.cell? ⟨wr.heap.size,2,none⟩=some (.bool e.2.2)∧wd.cell? ⟨w.heap.size,fr e,none⟩=some u:=⟨q.cell 0,q.cell 1,q.cell 2,D.cell F⟩;clear hdw;refine zal 0 (some 16) p ?_ (hy:=zy4);refine zal 1 (some 17) p ?_ (hy:=zy4);refine zal 2 (some 18) p ?_ (hy:=zy4);refine zal 3 (some 19) p ?_ (hy:=zy4);refine zal 4 (some 20) p ?_ (hy:=zy4);refine zal 5 (some 21) p ?_ (hy:=zy4);refine zal 6 (some 22) p ?_ (hy:=zy4);refine zal 7 (some 23) p ?_ (hy:=zy4);refine zal 8 (some 24) p ?_ (hy:=zy4);refine zdj 9 rfl yaa fun K f=>?_;go_simp;refine f _ _ (fun _=>⟨zaI p.1 _,zaI p.2.1 _,zaI p.2.2.1 _,zaI p.2.2.2 _⟩) ?_;clear f K;refine zdj 10 rfl yaa fun K f=>?_;rw [yan (by rfl)];refine zky _ (some 26) rfl (.tmp 23) (.tmp 25) 149 149 rfl w.heap.size 207 i0 (.agg #[.int .i64 0,.int .i64 0,.bool false]) 3 24 Tryz.underlying149 R T U V rfl yac u (outE (l.take j) (fr e)).length (zay (outE (l.take j) (fr e))) rfl (World.ownsRow.alloc s _) _ 1 [.int .i64 ((fr e:Nat):Int),.int .i64 e.2.1,.bool e.2.2] rfl (Src.ofSlice _ Tryz.underlying149 _ 1 1 _ rfl (zeK _ _ _ _ _) (by intro u F;simp only [yav,ya1,ybw] at F;rcases F with rfl | rfl | rfl <;> rfl)) yad yab (size_alloc (by have:=J.out;omega)) ?_
    intro v9 w8 d x B;rw [←I] at d;obtain ⟨E,aa⟩:=D.step F s x d B;have y:Bk w8 wr.heap.size _ _:=(x.block wr.heap.size (by have:=J.out;simp;omega) fun e'=>by have:=a7 _ e'.symm;omega).trans (q.alloc _);have z:w8.cell? ⟨wr.heap.size,0,none⟩=some (.int .i64 ((fr e:Nat):Int))∧w8.cell? ⟨wr.heap.size,1,none⟩=some (.int .i64 e.2.1)∧w8.cell? ⟨wr.heap.size,2,none⟩=some (.bool e.2.2)∧w8.cell? ⟨w.heap.size,fr e,none⟩=some u:=⟨y.cell 0,y.cell 1,y.cell 2,by rw [E.cell];simpa using F⟩;have C:Below w.heap.size w w8:=zaf (m.alloc m.size _) x (World.ownsRow.alloc s _) (by have:=m.size;simp;omega) (yaj _);refine f _ _ (fun _=>z) ?_;clear f K p D s m q x B;simp only [Act.put,yaE,yaU,yaV];refine zal 11 (some 27) z ?_ (hy:=zy4);refine zdj 12 rfl yaa fun K f=>?_;obtain ⟨A9,c9,rfl,_⟩:=Rd.own d;have ab:=E.fz (fr e);have q8:=z.2.2.2;go_simp;refine f _ _ (fun h=>absurd rfl h) ?_;clear f K;refine zgp yaa ?_ _;have L:Below w.heap.size w (w8.setCell ⟨w.heap.size,fr e,none⟩ (.slice A9 ((outE (l.take j) (fr e)).length + 1) c9)):=C.setCell (yaj _) _;clear y E z C d ab q8;generalize World.setCell w8 _ _=w9 at *
    go_wp2_with fail
    have ac:LvO w9 w.heap.size w.heap.size n (l.take (j + 1)) (vs.set (fr e) (.slice A9 ((outE (l.take j) (fr e)).length + 1) c9)):=by
     rw [yaC,he];exact aa
    exact ⟨⟨j + 1,_,by go_num,by omega,ac,L⟩,by simp [intOf];omega⟩
  · obtain rfl:j=l.length:=by omega
    have a2:¬(((l.length:Nat):Int)<(l.length:Int)):=by omega
    rw [yaA] at G;go_wp2_with fail
    go_ret
    exact ⟨rfl,G.gr hi hn,k⟩
end
end Go.Proofs.YtmblgnddgmfkhaaGreat
