import Derived.RangeFuncNested
import Derived.RangeFuncBound
import Derived.RangeFuncCalls
import Derived.RangeFuncLeaves
import Derived.Shelf.Abstract
import Derived.Shelf.RegionOpen
import Derived.OwnWalkIn
import Derived.TacticsInMore
import Derived.LoopNIn
import Derived.LoopIn
import Derived.Lib.SliceRun
import Derived.Great.BuildSlice
import Derived.Laws.MakeOwn
import Derived.Outline
import Derived.Test.YtmblgnddgmfkhaaGreatK17
set_option maxRecDepth 100000
set_option maxHeartbeats 4000000
namespace Go.Proofs.YtmblgnddgmfkhaaGreat
section
open Go.RowKit Go.Shelf
attribute [local go_sem] Oper.semAt_some
open Go.RowKit Go.Shelf
attribute [local go_sem] Oper.semAt_some
variable {n B M y:Nat} {X Y:World} {v:Value} {row:Option Nat}
structure Kq (M x y:Nat) (W W':World):Prop where
 size:W.heap.size≤W'.heap.size
 same:∀g,g<M→g≠x→g≠y→W'.heap[g]? = W.heap[g]?
theorem Kq.refl (M x y:Nat) (W:World):Kq M x y W W:=⟨yaj _,fun _ _ _ _=>rfl⟩
theorem Kq.trans {x:Nat} {A B C:World} (h:Kq M x y A B) (k:Kq M x y B C):Kq M x y A C:=⟨yay h.size k.size,fun g b f j=>(k.same g b f j).trans (h.same g b f j)⟩
theorem Kq.cell {x:Nat} {A B:World} (h:Kq M x y A B) {p:Addr} (h1:p.block<M) (h2:p.block≠x) (h3:p.block≠y):B.cell? p=A.cell? p:=World.cell?_of_block (h.same _ h1 h2 h3)
theorem Kq.putObj {x:Nat} (W:World) (l:Nat) (o:Obj) (hl:M≤l):Kq M x y W (W.putObj l o) :=
 ⟨(grownBy_putObj' W l o).size,fun g f _ _=>by
  by_cases b:g<W.heap.size
  · exact (grownBy_putObj' W l o).block g b (fun e=>by cases e;omega)
  · rw [World.putObj_heap_other (by omega)]⟩
abbrev Pl (n:Nat):=Nat × { k:Nat // k<n }
def plEnc {n:Nat} (x:Pl n):Array Value:=#[.int .i64 (x.1:Int),.int .i64 (x.2.1:Int)]
def zif {n:Nat} (L:List { k:Nat // k<n }):List Nat:=L.map (·.1)
def bk {n:Nat} (L:List { k:Nat // k<n }):List (Pl n):=((List.range L.length).zip L).reverse
theorem bk_len (L:List { k:Nat // k<n }):(bk L).length=L.length:=by simp [bk]
theorem bk_at {L:List { k:Nat // k<n }} {i j:Nat} {q:{ k:Nat // k<n }} (hi:i + j + 1=L.length) (h:L[i]? = some q):(bk L)[j]? = some (i,q):=by
 unfold bk;rw [List.getElem?_reverse yag,show ((List.range L.length).zip L).length-1-j=i by simp;omega,List.getElem?_zip_eq_some];exact ⟨by rw [List.getElem?_range (by omega)],h⟩
theorem bk_pre {L:List { k:Nat // k<n }} {pre:List (Pl n)} {x:Pl n} (h:pre ++ [x] <+: bk L):∃P Q,L=P ++ x.2::Q∧Q=(pre.map (·.2)).reverse:=by
 obtain ⟨r,b⟩:=h;have e:L=(bk L).reverse.map (·.2):=by
  unfold bk;rw [List.reverse_reverse,List.map_snd_zip (by simp)]
 refine ⟨(r.map (·.2)).reverse,(pre.map (·.2)).reverse,?_,rfl⟩;rw [e,←b];simp
theorem back_in {k:Nat} (n:Nat) (hn:1≤n) (l Bx:Nat) (L:List { i:Nat // i<k }) (A:Option Addr) (c:Nat) (M x y:Nat) (J Jx:List (Pl k)→World→Prop) (W:World)
 (hBx:W.cell? ⟨Bx,0,none⟩=some (.slice A L.length c)) (hrow:Rd W W.heap.size 1 A L.length c (ints (zif L))) (hA:∀bb o,A=some ⟨bb,o,none⟩→bb<M∧bb≠x∧bb≠y)
 (h2:Bx<M∧Bx≠x∧Bx≠y) (hlen:L.length≤1000000)
 (hY:∀pre x1 W1,J pre W1→pre.length<L.length→YieldAt Fence.wide (n-1) Tryz.prog l (plEnc x1) W1 fun e W' =>
  (e = .returned (.bool true)∧J (pre ++ [x1]) W'∧Kq M x y W1 W')∨(e = .returned (.bool false)∧Jx (pre ++ [x1]) W'))
 (h0:J [] W) :
 CallsIn Fence.wide n Tryz.prog 224 #[.func (.yield l) #[] #[],.pointer (some ⟨Bx,0,none⟩)] W fun e W'=>(∃v,e = .returned v) ∧
  ((∃ys,ys=bk L∧J ys W')∨(∃pre,True∧Jx pre W')):=by
 refine callsIn_of_wp Tryz.func224 rfl trivial ?_ rfl;simp only [Tryz.ntmps224,ybu,yat,yaE,Nat.reduceAdd,Nat.reduceSub,ybL,ybK,ybX,ybO,ya6,ybq];gi_wp2
 gi_loopw [3] (fun i wr=>∃j:Nat,j≤L.length∧i = .int .i64 ((L.length:Int)-1-j)∧J ((bk L).take j) wr∧Kq M x y W wr)
  (fun i _=>(intOf i + 1).toNat)
 case atStart=>exact ⟨0,yao _,by simp,h0,Kq.refl _ _ _ _⟩
 case round =>
  obtain ⟨j,X,rfl,f,b⟩:=hrel;by_cases P:j<L.length
  · have Q:=b.size;obtain ⟨i,hi⟩:∃i:Nat,(L.length:Int)-1-j=(i:Int):=⟨L.length-1-j,by omega⟩;have g:i<L.length:=by omega
    obtain ⟨q,K⟩:∃q,L[i]? = some q:=⟨_,yal g⟩;have hb:=bk_at (j:=j) yab K;obtain ⟨bb,o,u,rfl,_,N,z⟩:=hrow.get g;obtain ⟨B,C,D⟩:=hA bb o rfl;have E:u = .int .i64 (q.1:Int):=by
     simp only [ints,zif,ybp,yaY,K,ybG,Function.comp,yaT] at N;exact N.symm
    subst E;have Y:=(b.cell (p:=⟨bb,o + i,none⟩) B C D).trans z;have Z:=(b.cell (p:=⟨Bx,0,none⟩) h2.1 h2.2.1 h2.2.2).trans hBx;obtain ⟨fn,tmps,s,O,F,R⟩:=hY ((bk L).take j) (i,q) wr f (by rw [yaN,bk_len];omega);simp only [plEnc] at F;have G:(bk L).take (j + 1)=(bk L).take j ++ [(i,q)]:=by rw [yaC,hb];rfl
    have T:(i:Int)<(L.length:Int):=by omega
    have U:(i:Int) ≥ 0:=by omega
    rw [hi];have hi:=Lib.hid hi;gi_wp2
    refine R.mono ?_;rintro e W3 (⟨rfl,H,I⟩ | ⟨rfl,m⟩)
    · gi_wp2
      go_roundw
      case rel=>exact ⟨j + 1,by omega,by have:=hi.out;(congr 1 <;> omega),by rw [G];exact H,b.trans I⟩
      case measure=>simp [intOf] <;> omega
    · gi_wp2
      refine bodyPost_ret (results_none rfl _ _ _) rfl ?_;exact ⟨⟨_,rfl⟩,.inr ⟨_,trivial,m⟩⟩
  · obtain rfl:j=L.length:=by omega
    have V:¬((L.length:Int)-1-(L.length:Nat)) ≥ 0:=by omega
    gi_wp2
    go_end0
    rw [ybl (Nat.le_of_eq (bk_len L))] at f;exact ⟨⟨_,rfl⟩,.inl f⟩
theorem zpG {k:Nat} (n:Nat) (hn:1≤n) (Bx:Nat) (L:List { i:Nat // i<k }) (A:Option Addr) (c:Nat) (M x y:Nat) (w:World) (hM:M≤w.heap.size)
 (hBx:w.cell? ⟨Bx,0,none⟩=some (.slice A L.length c)) (hrow:Rd w w.heap.size 1 A L.length c (ints (zif L))) (hA:∀bb o,A=some ⟨bb,o,none⟩→bb<M∧bb≠x∧bb≠y)
 (h2:Bx<M∧Bx≠x∧Bx≠y) (hlen:L.length≤1000000) :
 SeqStopsK Fence.wide n Tryz.prog 224 #[.pointer (some ⟨Bx,0,none⟩)] (plEnc (n:=k)) (Kq M x y) (fun ys=>ys=bk L) (fun _=>True) L.length w:=fun l J f W b _ _ g j =>
 back_in n hn l Bx L A c M x y J f W ((b.cell (p:=⟨Bx,0,none⟩) (by show Bx<_;omega)).trans hBx) ((hrow.below b).more b.size) hA h2 hlen g j
def VRing (B:Nat) (w:World) (v:Value) (all:List (List Nat)):Prop :=
 ∃vs,w.ownsRow B 146 1 v all.length vs∧∀(i:Nat) (r:List Nat),all[i]? = some r→∃u:Value,vs[i]? = some u∧w.ownsRow B 3 1 u r.length (ints r)
theorem zqi:(Tryz.prog.info? 4).map (fun i=>(i.zero,i.size,i.bytes))=some (some (.bool false),1,1):=by kernel_rfl
theorem zoK (n:Nat):madeCells #[.bool false] n=bools (List.replicate n false):=by
 apply ycU;rw [toList_madeCells_one];simp [bools]
theorem zeroF (w:World):(zeroValue 4).run Tryz.prog w = .ok (.bool false) w:=by kernel_rfl
theorem back_any (w:World) (A:Option Addr) (n c:Nat):Calls Tryz.prog 169 #[.slice A n c] w fun e w' =>
 e = .returned (.func (.func 224) #[] #[.pointer (some ⟨w.heap.size,0,none⟩)])∧w'=w.alloc (.cells #[.slice A n c] 146):=by
 go_enter Tryz.func169,Tryz.ntmps169
 go_wp2
 go_ret
 exact ⟨rfl,rfl⟩
theorem zlR {w:World} {gs:Nat} {s:List Bool} (h:Bk w gs (bools s) 4) (hs:s.length=n):∃W',(∀ty,(Builtin.clear_ #[288] ty #[.slice (some ⟨gs,0,none⟩) n n]).run Tryz.prog w = .ok (.tuple #[]) W') ∧
 Bk W' gs (bools (List.replicate n false)) 4∧W'.heap.size=w.heap.size∧W'.os=w.os∧W'.tape=w.tape∧W'.output=w.output∧∀g,g≠gs→W'.heap[g]? = w.heap[g]?:=by
 by_cases m:0<n
 · refine ⟨w.setCells gs 0 (List.replicate n (.bool false)),fun ty=>Lib.run_clear_slice w 288 4 ty (.bool false) Tryz.underlying288 zeroF rfl rfl gs 0 n n m (fun j o=>?_) (fun j o=>?_),?_,zdD _ _ _ _,(zbc _ _ _ _).1,(zbc _ _ _ _).2.1,(zbc _ _ _ _).2.2,fun g q=>zbF gs _ _ _ g q⟩
   · rw [yaI,h.cell j,zg7,yal (by omega)];rfl
   · exact h.fz _
   · obtain ⟨b,f,u,k⟩:=zbU gs 4 (0,0) (List.replicate n (.bool false)) 0 w (bools s) h (by simp [ziD,hs]);have e:b=bools (List.replicate n false):=by
      apply ycU;rw [ziD,hs] at u;rw [ybQ,yaI,ybl (by rw [ybo];omega)] at k;rw [k];simp [bools]
     rw [e] at f;exact f
 · obtain rfl:n=0:=by omega
   refine ⟨w,fun ty=>by simp [Builtin.clear_,run_underlying Tryz.underlying288],?_,rfl,rfl,rfl,rfl,fun _ _=>rfl⟩;rw [yaU hs] at h;exact h
theorem zqj:(Tryz.prog.info? 146).map (fun i=>(i.zero,i.size,i.bytes))=some (some (.slice none 0 0),1,24):=by kernel_rfl
theorem Bk.stay {b:Nat} {cs:Array Value} {t:TypeId} (h:Bk X b cs t) (hg:X.grownBy Y row) (hr:∀r,row=some r→∃o:Obj,X.heap[r]? = some o∧o.isCells=false):Bk Y b cs t :=
 (hg.block b h.lt fun e=>by
  obtain ⟨o,f,g⟩:=hr b e.symm;rw [show X.heap[b]? = _ from h] at f;cases f;cases g).trans h
theorem zjV {e:TypeId} {s:Nat} {xs:List Value} (h:X.ownsRow B e s v n xs) (hg:X.grownBy Y row) (hr:∀r,row=some r→∃o:Obj,X.heap[r]? = some o∧o.isCells=false):Y.ownsRow B e s v n xs :=
 zaH h fun g b=>hg.block g (h.lt g b).2 fun q=>by
  obtain ⟨o,j,u⟩:=hr g q.symm;rcases h.2 with ⟨rfl,_⟩ | ⟨x,k,m,rfl,_,f,_⟩
  · simp [Value.ownBlock] at b
  simp only [Value.ownBlock,yaT] at b;subst b;rw [f] at j;cases j;cases u
theorem Bk.cell' {w:World} {b:Nat} {t:TypeId} (h:Bk w b #[v] t):w.cell? ⟨b,0,none⟩=some v:=h.cell 0
theorem VRing.map {all:List (List Nat)} (h:VRing B X v all) (k1:∀v n xs,X.ownsRow B 146 1 v n xs→Y.ownsRow B 146 1 v n xs) (k2:∀v n xs,X.ownsRow B 3 1 v n xs→Y.ownsRow B 3 1 v n xs):VRing B Y v all:=by
 obtain ⟨b,f,g⟩:=h;exact ⟨b,k1 _ _ _ f,fun i r hi=>by obtain ⟨u,j,k⟩:=g i r hi;exact ⟨u,j,k2 _ _ _ k⟩⟩
structure RI (w W4:World) (l:List Ed) (k gs b8:Nat) (L:List { i:Nat // i<k }) (pre:List (Pl k)) (W:World):Prop where
 one:∃s all v8,Bk W gs (bools s) 4∧s.length=k∧Bk W b8 #[v8] 211∧VRing W4.heap.size W v8 all∧all.length≤pre.length∧(pre <+: bk L→Told l k (zif ((pre.map (·.2)).reverse)) s all)
 kq:Kq W4.heap.size gs b8 W4 W
 below:Below w.heap.size w W
theorem RI.stay {w W4:World} {l:List Ed} {k gs b8:Nat} {L:List { i:Nat // i<k }} {pre:List (Pl k)} (h:RI w W4 l k gs b8 L pre X) (hw:w.heap.size≤W4.heap.size) (hg:X.grownBy Y row) (hr:∀r,row=some r→W4.heap.size≤r∧∃o:Obj,X.heap[r]? = some o∧o.isCells=false):RI w W4 l k gs b8 L pre Y:=by
 obtain ⟨⟨s,all,n,q,u,x,y,z,A⟩,j,m⟩:=h;have f:∀r,row=some r→∃o:Obj,X.heap[r]? = some o∧o.isCells=false:=fun r e=>(hr r e).2;refine ⟨⟨s,all,n,q.stay hg f,u,x.stay hg f,y.map (fun _ _ _ h=>zjV h hg f) (fun _ _ _ h=>zjV h hg f),z,A⟩,⟨yay j.size hg.size,fun g a b c=>(hg.block g (by have:=j.size;omega) (fun e=>by have:=(hr g e.symm).1;omega)).trans (j.same g a b c)⟩,?_⟩;exact m.grown hg m.size fun r e=>by have:=(hr r e).1;omega
section
variable {w W4 W w3:World} {l:List Ed} {k gs b8:Nat} {L:List { i:Nat // i<k }} {pre:List (Pl k)} {x:Pl k} {s s6:List Bool} {all:List (List Nat)} {L6:List Nat} {v8 rv:Value}
theorem zr6 (hl:InR k l) (hO:OrdOk l k (zif L)) (m6:pre <+: bk L→Told l k (zif ((pre.map (·.2)).reverse)) s all) (hW6:Walks (goE l) s [x.2.1] s6 L6) :
 pre ++ [x] <+: bk L→Told l k (zif (((pre ++ [x]).map (·.2)).reverse)) s6 (if L6=[] then all else all ++ [L6]):=fun f=>by
 obtain ⟨P,Q,e,g⟩:=bk_pre f;have j:=m6 ((List.prefix_append pre [x]).trans f);rw [←g] at j;have b:OrdOk l k (zif P ++ x.2.1::zif Q):=by
  have m:zif L=zif P ++ x.2.1::zif Q:=by rw [e];simp [zif]
  rwa [m] at hO
 have n:=Told.step hl b j hW6;have o:zif (((pre ++ [x]).map (·.2)).reverse)=x.2.1::zif Q:=by rw [g];simp [zif]
 rw [o];exact n
theorem zrT (hw4:w.heap.size≤gs∧gs<W4.heap.size∧w.heap.size≤W4.heap.size) (m7:Kq W4.heap.size gs b8 W4 W) (m8:Below w.heap.size w W)
 (hK6:Kp gs W.heap.size (W.alloc (.cells #[.slice none 0 0] 146)) w3):KeepsFrom W4.heap.size W w3∧Kq W4.heap.size gs b8 W w3∧Below w.heap.size w w3∧∀g,g<W.heap.size→g≠gs→w3.heap[g]? = W.heap[g]?:=by
 have j:=hK6.size;have k:=m7.size;simp only [World.size_alloc] at j;have hk:∀g,g<W.heap.size→g≠gs→w3.heap[g]? = W.heap[g]?:=fun g f b=>(hK6.block g f b).trans (Below.heap_alloc _ _ _ f);refine ⟨⟨by omega,fun g o f b _=>(hk g (yaR.1 b).1 yab).trans b⟩,⟨by omega,fun g f b _=>hk g yab b⟩,m8.trans (((Below.refl _ W).alloc yab _).trans (hK6.below yab hw4.1)),hk⟩
theorem znT {w5:World} {o:Obj} {vs:List Value} (h8:Bk w3 b8 #[v8] 211) (h1:w3.ownsRow W4.heap.size 146 1 v8 all.length vs) (hg:(w3.alloc o).grownBy w5 v8.ownBlock):Bk w5 b8 #[v8] 211 :=
 zbB (h8.alloc o) (h1.alloc o) yac hg
theorem zrD {w5:World} {o:Obj} {vs:List Value} {v9:Value} (hw4:w.heap.size≤b8∧b8<W4.heap.size∧w.heap.size≤W4.heap.size∧W4.heap.size≤w3.heap.size) (h8:Bk w3 b8 #[v8] 211) (hgs:Bk w3 gs (bools s6) 4)
 (h1:w3.ownsRow W4.heap.size 146 1 v8 all.length vs) (h2:∀(i:Nat) (r:List Nat),all[i]? = some r→∃u:Value,vs[i]? = some u∧w3.ownsRow W4.heap.size 3 1 u r.length (ints r)) (hrr:w3.ownsRow W4.heap.size 3 1 rv L6.length (ints L6))
 (hg:(w3.alloc o).grownBy w5 v8.ownBlock) (h5:w5.ownsRow W4.heap.size 146 1 v9 (all.length + 1) (vs ++ [rv])) :
 KeepsFrom W4.heap.size w3 (w5.setCell ⟨b8,0,none⟩ v9)∧Kq W4.heap.size gs b8 w3 (w5.setCell ⟨b8,0,none⟩ v9)∧Below w.heap.size w3 (w5.setCell ⟨b8,0,none⟩ v9)∧Bk (w5.setCell ⟨b8,0,none⟩ v9) gs (bools s6) 4∧Bk (w5.setCell ⟨b8,0,none⟩ v9) b8 #[v9] 211∧VRing W4.heap.size (w5.setCell ⟨b8,0,none⟩ v9) v9 (all ++ [L6]):=by
 have s:=hg.size;simp only [World.size_alloc] at s;have f:=h1.alloc o;have hk:∀g,g<w3.heap.size→g≠b8→v8.ownBlock≠some g→(w5.setCell ⟨b8,0,none⟩ v9).heap[g]? = w3.heap[g]?:=fun g a b c =>
  ((Below.heap_setCell _ _ _ _ b).trans (hg.block g yag fun e=>c e.symm)).trans (Below.heap_alloc _ _ _ a)
 have B:(w5.setCell ⟨b8,0,none⟩ v9).heap.size=w5.heap.size:=by simp [World.setCell]
 have j:=znT h8 h1 hg;have hint:∀(v:Value) (n:Nat) (xs:List Value),w3.ownsRow W4.heap.size 3 1 v n xs→(w5.setCell ⟨b8,0,none⟩ v9).ownsRow W4.heap.size 3 1 v n xs:=fun v n xs h=>by
  have q:=zch (h.alloc o) f yac hg;exact zaH q fun g k=>Below.heap_setCell _ _ _ _ fun e=>zeb j q yac ((show g=b8 from e) ▸ k)
 refine ⟨⟨by omega,fun g I a b c=>?_⟩,⟨by omega,fun g a b c=>hk g yab c fun e=>by have:=(h1.lt g e).1;omega⟩,?_,?_,?_,vs ++ [rv],?_,fun i r hi=>?_⟩
 · have x:=(yaR.1 b).1;refine (hk g x yab fun e=>?_).trans b;rcases h1.2 with ⟨rfl,_⟩ | ⟨J,z,A,rfl,_,y,_⟩
   · simp [Value.ownBlock] at e
   simp only [Value.ownBlock,yaT] at e;subst e;rw [y] at b;cases b;cases c
 · exact (zae ((Below.refl _ w3).alloc yab o) hg f yag yab).setCell hw4.1 _
 · exact (zbB (hgs.alloc o) f yac hg).other (a:=⟨b8,0,none⟩) (fun e=>by
    have C:gs=b8:=e;subst C;have:=hgs.symm.trans h8;injection this with this
    injection this with _ D _
    exact absurd D yac) _
 · have:=j.set 0 v9;simpa using this
 · rw [yam];exact zaH h5 fun g k=>Below.heap_setCell _ _ _ _ fun e=>zeb j h5 yac ((show g=b8 from e) ▸ k)
 · have E:vs.length=all.length:=by have:=h1.1;omega
   rcases ybM i all.length with m | m
   · rw [ybt m] at hi;obtain ⟨u,F,G⟩:=h2 i r hi;exact ⟨u,by rw [ybt (by omega)];exact F,hint _ _ _ G⟩
   · rw [yaJ m] at hi;obtain ⟨H,hi⟩:=yap.1 hi;simp at H hi;subst hi;exact ⟨rv,by rw [yaJ yab,show i-vs.length=0 by omega];rfl,hint _ _ _ hrr⟩
theorem znD {e:TypeId} {sz:Nat} {xs:List Value} (h:W.ownsRow B e sz v n xs) (hne:e≠4) (hgs:Bk W gs (bools s) 4) (hk:∀g,g<W.heap.size→g≠gs→w3.heap[g]? = W.heap[g]?):w3.ownsRow B e sz v n xs :=
 zaH h fun g f=>hk g (h.lt g f).2 fun j=>zeb hgs h (fun b=>hne b.symm) (j ▸ f)
end
theorem rings_in (m:Nat) (hm:6≤m) {w:World} {c c':Nat} {A A':Option Addr} {l:List Ed} (h1:Gr w B A c n l) (h2:Gr w B A' c' n (l.map turn)) (hB:B≤w.heap.size) :
 CallsIn Fence.wide m Tryz.prog 118 #[.slice A n c,.slice A' n c'] w fun e w'=>∃v all ord s,e = .returned v∧OrdOk l n ord∧Told l n ord s all∧VRing w.heap.size w' v all∧Below w.heap.size w w':=by
 have hn:=h1.few;obtain ⟨i1,al,am,an,ao⟩:=info_parts zqi;have bp:∀W:World,(Instr.makeSlice 288 (.int .i64 (n:Int)) (.int .i64 (n:Int))).run Tryz.prog W = .ok (.slice (some ⟨W.heap.size,0,none⟩) n n) (W.alloc (.cells (bools (List.replicate n false)) 4)):=fun W=>by
  have:=run_make (P:=Tryz.prog) W 288 4 i1 _ Tryz.underlying288 al am .i64 .i64 n n yab (ybf _) (by rw [ao];omega) yab;rw [ybn,an,yb4] at this;rw [←zoK];exact this
 refine callsIn_of_wp_marks Tryz.func118 rfl trivial ?_ rfl;simp only [Tryz.ntmps118,ybu,yat,yaE,Nat.reduceAdd,Nat.reduceSub,ybL,ybK,ybX,ybO,ya6,ybq];gi_wp2
 have R:Below w.heap.size w ((((w.alloc (.cells #[.slice A n c] 208)).alloc (.cells #[.slice none 0 0] 146)).alloc (.cells (bools (List.replicate n false)) 4)).alloc (.cells #[.slice (some ⟨w.heap.size + 1 + 1,0,none⟩) n n] 288)) :=
  ((((Below.refl _ w).alloc (yaj _) _).alloc yaf _).alloc yag _).alloc yag _
 have bq:((((w.alloc (.cells #[.slice A n c] 208)).alloc (.cells #[.slice none 0 0] 146)).alloc (.cells (bools (List.replicate n false)) 4)).alloc (.cells #[.slice (some ⟨w.heap.size + 1 + 1,0,none⟩) n n] 288)).heap.size=w.heap.size + 4:=by simp
 have d0:=(((Bk.new w #[.slice A n c] 208).alloc (.cells #[.slice none 0 0] 146)).alloc (.cells (bools (List.replicate n false)) 4)).alloc (.cells #[.slice (some ⟨w.heap.size + 1 + 1,0,none⟩) n n] 288);have d1:=((Bk.new (w.alloc (.cells #[.slice A n c] 208)) #[.slice none 0 0] 146).alloc (.cells (bools (List.replicate n false)) 4)).alloc (.cells #[.slice (some ⟨w.heap.size + 1 + 1,0,none⟩) n n] 288);have d2:=(Bk.new ((w.alloc (.cells #[.slice A n c] 208)).alloc (.cells #[.slice none 0 0] 146)) (bools (List.replicate n false)) 4).alloc (.cells #[.slice (some ⟨w.heap.size + 1 + 1,0,none⟩) n n] 288);have d3:=Bk.new (((w.alloc (.cells #[.slice A n c] 208)).alloc (.cells #[.slice none 0 0] 146)).alloc (.cells (bools (List.replicate n false)) 4)) #[.slice (some ⟨w.heap.size + 1 + 1,0,none⟩) n n] 288;simp only [World.size_alloc] at d1 d2 d3;generalize (((w.alloc (.cells #[.slice A n c] 208)).alloc (.cells #[.slice none 0 0] 146)).alloc (.cells (bools (List.replicate n false)) 4)).alloc (.cells #[.slice (some ⟨w.heap.size + 1 + 1,0,none⟩) n n] 288)=W1 at *
 have aq:Sw W1 (w.heap.size + 1) (w.heap.size + 1 + 1) (w.heap.size + 1) n (List.replicate n false) []:=⟨d2,⟨⟨_,d1,World.ownsRow_nil _ _ _ _⟩,yaj _⟩,by simp⟩;have br:=h1.below (R.mono hB);have ar:=h2.below (R.mono hB);gi_loopw [17] (fun vi wr=>∃(k:Nat) (s:List Bool) (L:List Nat),vi = .int .i64 k∧k≤n∧Walks (goE (l.map turn)) (List.replicate n false) (List.range k) s L∧Sw wr (w.heap.size + 1) (w.heap.size + 1 + 1) (w.heap.size + 1) n s L∧Kp (w.heap.size + 1 + 1) (w.heap.size + 1) W1 wr∧Bw W1 wr)
  (fun vi _=>n-(intOf vi).toNat)
 case atStart=>exact ⟨0,_,[],rfl,yao _,.nil _,aq,Kp.refl _ _ _,Bw.refl _⟩
 case round =>
  obtain ⟨k,s,L,rfl,hk,hW,hS,hK,hV⟩:=hrel;have I:=hV _ _ _ yac yac yac d3;by_cases a6:k<n
  · have a7:(k:Int)<(n:Int):=by omega
    have c6:=I.cell 0;have au:=hW.cf;rw [List.count_replicate_self] at au;have kw:=walk_any (w:=wr) (s:=s) (L:=L) (a:=k) 168 (M0:=B) (M:=w.heap.size + 1) (gs:=w.heap.size + 1 + 1) (go:=w.heap.size + 1) (n:=n) (c:=c') (cs:=n) (A:=A') (l:=l.map turn) yab yab yab
     (enters_of Tryz.func168 yaa rfl) (fun w L k h hl=>leave1_any h k hl) (s.count false) (yaj _) a6 (ar.below (hK.below yab yab)) hS yab
    gi_wp2_with (refine ⟨trivial,fun e=>(by cases e),?_⟩;(with_reducible refine (callsIn_wide.2 kw).mono ?_);rintro e w2 ⟨rfl,s2,L2,av,aw,T,ax⟩)
    go_roundw
    case rel=>exact ⟨k + 1,s2,L ++ L2,by simp,by omega,by rw [List.range_succ];exact hW.app av,aw,hK.trans T,hV.trans ax⟩
    case measure=>simp [intOf];omega
  · obtain rfl:k=n:=by omega
    have a7:¬((k:Int)<(k:Nat)):=by omega
    have hO:=ord_of h1.inr hW;obtain ⟨ov,hv,C⟩:=hS.od.one;obtain ⟨E,F,rfl,ay⟩:=Rd.own C;have U:L.length=k:=by
     have:=hW.cf;have h0:s.count false=0:=by
      rw [List.count_eq_zero];intro m;obtain ⟨i,hi,e⟩:=ycf m;have h3:s[i]? = some false:=by rw [yal hi,e]
      have az:i<k:=by rw [hS.len] at hi;exact hi
      exact absurd ((hO.mem i).2 az) ((hW.seen.2.1 i).1 h3).2
     rw [List.count_replicate_self] at this;omega
    replace U:=Lib.hid U;obtain ⟨W3,b0,e3,s3,a8,aa,ab,V⟩:=zlR (hS.seen.alloc (.cells #[.slice none 0 0] 211)) hS.len;have J:W3.heap.size=wr.heap.size + 1:=by rw [s3];simp
    have bs:=hS.seen.lt;have bu:=hv.lt;have b3:Kp (w.heap.size + 1 + 1) (w.heap.size + 1) (wr.alloc (.cells #[.slice none 0 0] 211)) W3:=⟨a8,aa,ab,by omega,fun g _ hg=>V g hg⟩;have x6:Bk W3 (w.heap.size + 1 + 1 + 1) _ _:=(V _ yab).trans (I.alloc _);have x5:Bk W3 (w.heap.size + 1) _ _:=(V _ yab).trans (hv.alloc _);have x8:Bk W3 wr.heap.size #[.slice none 0 0] 211:=(V _ yab).trans (Bk.new wr _ _);have r5:W3.ownsRow (w.heap.size + 1) 3 1 (.slice E L.length F) L.length (ints L):=zaH (C.alloc (.cells #[.slice none 0 0] 211)) fun g hg=>V g fun e=>zeb hS.seen C yac (e ▸ hg);have c6:=(I.alloc (.cells #[.slice none 0 0] 211)).cell 0;have c5:=x5.cell 0;have kb:=back_any W3 E L.length F;clear s3;replace J:=Lib.hid J;gi_wp2_with (refine ⟨trivial,fun e=>(by cases e),?_⟩;(with_reducible refine (callsIn_wide.2 kb).mono ?_);rintro e w2 ⟨rfl,b⟩)
    replace J:=J.out;have bw:=hS.od.ge;have bn:w2.heap.size=W3.heap.size + 1:=by rw [b];simp
    have bx:=b ▸ Bk.new W3 #[.slice E L.length F] 146;have y6:Bk w2 _ _ _:=b ▸ x6.alloc (.cells #[.slice E L.length F] 146);have y8:Bk w2 _ _ _:=b ▸ x8.alloc (.cells #[.slice E L.length F] 146);have y0:Bk W3 w.heap.size #[.slice A k c] 208:=(V _ yab).trans ((hV _ _ _ yac yac yac d0).alloc _);replace y0:Bk w2 _ _ _:=b ▸ y0.alloc (.cells #[.slice E L.length F] 146);have e4:Bk w2 _ _ _:=b ▸ e3.alloc (.cells #[.slice E L.length F] 146);have r4:w2.ownsRow (w.heap.size + 1) 3 1 (.slice E L.length F) L.length (ints L):=b ▸ r5.alloc (.cells #[.slice E L.length F] 146);have y:Below w.heap.size w w2:=by
     have q1:Below w.heap.size W1 wr:=hK.below yab yab;have q2:Below w.heap.size wr W3:=((Below.refl _ wr).alloc yab _).trans (b3.below yab yab);rw [b];exact ((R.trans q1).trans q2).alloc yab _
    rw [←b];clear b kb b0 e3 a8 aa ab V b3 x6 x5 x8 r5 c5 c6 hv C ay I;obtain ⟨G,b1⟩:∃G:List { i:Nat // i<k },zif G=L:=⟨L.pmap Subtype.mk fun a ha=>(hO.mem a).1 ha,by simp [zif,List.map_pmap]⟩;subst b1;have b2:(zif G).length=G.length:=by simp [zif]
    have b4:=U.out;rw [b2] at b4 r4 bx;obtain ⟨A3,c3,Z,b5⟩:=Rd.own r4;injection Z with Z _ b6
    subst Z b6;have bz:=h1.below (y.mono hB);have hseq:=zpG (m-1) yab W3.heap.size G E F w2.heap.size (w.heap.size + 1 + 1) wr.heap.size w2 (yaj _) bx.cell' b5
     (fun bb o e=>by
      have a1:(Value.slice E G.length F).ownBlock=some bb:=by rw [e];rfl
      refine ⟨(r4.lt bb a1).2,fun e'=>zeb e4 r4 yac (e' ▸ a1),fun e'=>zeb y8 r4 yac (e' ▸ a1)⟩)
     ⟨by omega,by omega,by omega⟩ yab
    obtain ⟨i0,b7,ac,ad,ae⟩:=info_parts zqj;have c1:W1.heap.size≤wr.heap.size:=hK.size;refine wpIn_rangeFunc_ownH (w0:=w2) rfl yab (gf:=224) (lb:=#[.pointer (some ⟨W3.heap.size,0,none⟩)]) rfl trivial (enters_of Tryz.func224 yaa rfl)
     hseq (fun h k=>h.trans k) (fun W l o o' h1 _ _ _=>Kq.putObj W l o' h1) (Below.refl _ _) (fun _=>rfl)
     (RI w w2 l k (w.heap.size + 1 + 1) wr.heap.size G)
     (fun _ _ _=>False)
     (fun pre X Y row O hg C=>O.stay y.size hg C)
     (fun _ _ _ _ _ hs _ _=>hs)
     ⟨⟨_,[],_,e4,by simp,y8,⟨[],World.ownsRow_nil _ _ _ _,fun i r h=>by simp at h⟩,by simp,fun _=>Told.start⟩,Kq.refl _ _ _ _,y⟩
     (fun x a' W=>a'={ tmps:=#[.slice A k c,.slice A' k c',.pointer (some ⟨w.heap.size,0,none⟩),undef,.slice none 0 0,.pointer (some ⟨w.heap.size + 1,0,none⟩),.pointer (some ⟨w.heap.size + 1 + 1 + 1,0,none⟩),u7,.pointer (some ⟨wr.heap.size,0,none⟩),undef,.int .i64 (x.2.1:Int),undef,.slice A' k c',.int .i64 (k:Int),.slice (some ⟨w.heap.size + 1 + 1,0,none⟩) k k,.slice A' k c',.int .i64 (k:Int),.int .i64 (k:Int),.bool false,u19,u20,u21,u22,u23,u24,u25,.slice (some ⟨w.heap.size + 1 + 1,0,none⟩) k k,.slice E k F,.func (.func 224) #[] #[.pointer (some ⟨wr.heap.size + 1,0,none⟩)],.int .i64 (x.1:Int),.int .i64 (x.2.1:Int),undef,undef,undef,undef,undef,undef,undef,undef,undef,undef,undef,undef,undef],defers:=[] })
     (fun x a' _ X Y row hs hg C=>hs)
     ?assign ?body ?done ?stop
    case assign =>
     intro l2 pre x W K O T;simp only [plEnc];gi_wp2
     exact T _ _ ((KeepsOthers.refl _).from _) (Kq.refl _ _ _ _) O rfl
    case body =>
     rintro l2 pre x a' W c4 ⟨r,C⟩ O rfl a6;obtain ⟨⟨s5,all,v8,m1,m2,m3,m4,m5,m6⟩,m7,m8⟩:=O;have c7:=m7.size;have b8:=x.2.2;have z0:Bk W _ _ _:=(m7.same w.heap.size yab yab yab).trans y0;have z6:Bk W _ _ _:=(m7.same (w.heap.size + 1 + 1 + 1) yab yab yab).trans y6;have c0:=(z0.alloc (.cells #[.slice none 0 0] 146)).cell';have c6:=(z6.alloc (.cells #[.slice none 0 0] 146)).cell';have b9:Gr W B A c k l:=h1.below (m8.mono hB);have ba:Sw (W.alloc (.cells #[.slice none 0 0] 146)) W.heap.size (w.heap.size + 1 + 1) W.heap.size k s5 []:=⟨m1.alloc _,⟨⟨_,Bk.new W _ _,World.ownsRow_nil _ _ _ _⟩,yaj _⟩,m2⟩;have bo:s5.count false≤k:=by rw [←m2];exact List.count_le_length
     have kw:=walk_any (w:=W.alloc (.cells #[.slice none 0 0] 146)) (s:=s5) (L:=[]) (a:=x.2.1) 170 (M0:=B) (M:=W.heap.size) (gs:=w.heap.size + 1 + 1) (go:=W.heap.size) (n:=k) (c:=c) (cs:=k) (A:=A) (l:=l) yab yab yab
      (enters_of Tryz.func170 yaa rfl) (fun w L k h hl=>leave2_any h k hl) (s5.count false) (yaj _) b8 (b9.below ((Below.refl _ _).alloc yab _)) ba yag
     gi_wp2
     refine ⟨trivial,fun e=>(by cases e),CallsIn.inRound l2 ((callsIn_wide.2 kw).mono ?_)⟩;rintro e w3 ⟨rfl,s6,L6,bc,z,bd,bf⟩;rw [ya6] at z;obtain ⟨rv,bg,af⟩:=z.od.one;obtain ⟨A6,bh,rfl,_⟩:=Rd.own af;obtain ⟨k1,k2,ag,k4⟩:=zrT (w:=w) (W4:=w2) (gs:=w.heap.size + 1 + 1) ⟨by omega,by omega,by omega⟩ m7 m8 bd;have N:=zr6 h1.inr hO m6 bc;have n8:Bk w3 wr.heap.size #[v8] 211:=bf _ _ _ yac yac yac (m3.alloc _);obtain ⟨vs,bi,bj⟩:=m4;have f:=znD bi yac m1 k4;have Q:∀(i:Nat) (r:List Nat),all[i]? = some r→∃u:Value,vs[i]? = some u∧w3.ownsRow w2.heap.size 3 1 u r.length (ints r):=fun i r hi=>by
      obtain ⟨u,hu,C⟩:=bj i r hi;exact ⟨u,hu,znD C yac m1 k4⟩
     have cr:=bg.cell';have bl:w2.heap.size≤w3.heap.size:=by have:=k1.size;omega
     by_cases j:L6=[]
     · have hz:¬((L6.length:Int) > 0):=by rw [j];simp
       rw [yan j] at N;have j:=Lib.hid j;gi_wp2
       exact ⟨k1,k2,⟨s6,all,v8,z.seen,z.len,n8,⟨vs,f,Q⟩,by rw [yam];omega,N⟩,m7.trans k2,ag⟩
     · have hz:((L6.length:Int) > 0):=by have:=ybD.2 j;omega
       rw [yak j] at N;have j:=Lib.hid j;have c8:=n8.cell';have f8:=n8.fz 0;obtain ⟨A8,c9,rfl,_⟩:=Rd.own f;gi_wp2_with (gi_at_builtin;refine wpListIn_append_own _ rfl (.tmp 39) (.tmp 41) 211 rfl w2.heap.size 146 i0 (.slice none 0 0) 1 24 Tryz.underlying211 b7 ac ad ae rfl yac _ all.length vs rfl (f.alloc _) ⟨w3.heap.size,0,none⟩ 1 1 [.slice A6 L6.length bh] rfl rfl (zbH _ _ _) (fun u hu=>by simp at hu;subst hu;rfl) yad yab yag ?_;intro v9 w5 H ah _;obtain ⟨A9,ca,rfl,_⟩:=Rd.own H;have ai:=znT n8 f ah;have cb:=ai.cell';have cc:=ai.fz 0)
       obtain ⟨j1,j2,j3,j4,j5,j6⟩:=zrD (w:=w) ⟨by omega,by omega,by omega,bl⟩ n8 z.seen f Q (zaA af yab) ah H;exact ⟨k1.trans j1,k2.trans j2,⟨s6,all ++ [L6],_,j4,z.len,j5,j6,by rw [yam,yam];simp;omega,N⟩,m7.trans (k2.trans j2),ag.trans j3⟩
    case done =>
     rintro D ys W hD rfl O a2;have c8:∃v8,W.cell? ⟨wr.heap.size,0,none⟩=some v8∧∃s5 all,VRing w2.heap.size (W.putObj D (.deferred none)) v8 all∧Told l k (zif G) s5 all∧Below w.heap.size w (W.putObj D (.deferred none)):=by
      have bm:=O.stay y.size (grownBy_putObj' W D (.deferred none)) (fun r e=>by cases e;exact ⟨hD,_,a2,rfl⟩);obtain ⟨⟨s5,all,v8,m1,m2,m3,m4,m5,m6⟩,m7,m8⟩:=bm;obtain ⟨⟨_,_,aj,_,_,ak,_,_,_⟩,_,_⟩:=O;have e8:aj=v8:=by
       have q:=ak.stay (grownBy_putObj' W D (.deferred none)) (fun r e=>by cases e;exact ⟨_,a2,rfl⟩);have:=q.cell'.symm.trans m3.cell';exact yaZ this
      subst e8;have hb:(bk G).map (·.2)=G.reverse:=by
       unfold bk;rw [List.map_reverse,List.map_snd_zip (by simp)]
      have N:=m6 (List.prefix_rfl);rw [hb,List.reverse_reverse] at N;exact ⟨aj,ak.cell',s5,all,m4,N,m8⟩
     obtain ⟨v8,c8,s5,all,m4,N,m8⟩:=c8;gi_wp2
     refine ⟨by simp,.inl ⟨_,_,rfl,run_takeDeferred a2,?_⟩⟩;obtain ⟨vs,q1,q2⟩:=m4;exact ⟨_,results_tmp rfl _ _ _,_,rfl,all,zif G,hO,⟨s5,N⟩,⟨vs,zaA q1 y.size,fun i r hi=>by obtain ⟨u,hu,C⟩:=q2 i r hi;exact ⟨u,hu,zaA C y.size⟩⟩,m8⟩
    case stop =>
     rintro D c pre W _ _ h _;exact h.elim
end
section
open Go.RowKit
structure LvO (w:World) (base g n:Nat) (l:List Ed) (vs:List Value):Prop where
 blk:Bk w g vs.toArray 149
 len:vs.length=n
 rows:∀i,i<n→∃u,vs[i]? = some u∧w.ownsRow base 207 3 u (outE l i).length (zaB (outE l i))
 ap:∀(i j:Nat) (u v:Value) (b:Nat),i≠j→vs[i]? = some u→vs[j]? = some v→u.ownBlock=some b→v.ownBlock≠some b
theorem zrh (l:List Ed) (e:Ed) (i:Nat):outE (l ++ [e]) i=outE l i ++ if fr e=i then [e] else []:=by
 unfold outE;rw [ybv];by_cases h:fr e=i <;> simp [h]
section
variable {w w':World} {base g n:Nat} {l:List Ed} {vs:List Value}
theorem LvO.same (h:LvO w base g n l vs) (hg:w'.heap[g]? = w.heap[g]?) (hb:∀v m xs,w.ownsRow base 207 3 v m xs→w'.ownsRow base 207 3 v m xs):LvO w' base g n l vs :=
 ⟨hg.trans h.blk,h.len,fun i hi=>by obtain ⟨u,b,f⟩:=h.rows i hi;exact ⟨u,b,hb _ _ _ f⟩,h.ap⟩
theorem LvO.alloc (h:LvO w base g n l vs) (o:Obj):LvO (w.alloc o) base g n l vs:=h.same (Below.heap_alloc _ _ _ h.blk.lt) fun _ _ _ b=>b.alloc o
theorem LvO.drew (h:LvO w base g n l vs):LvO w.drew base g n l vs:=h.same rfl fun _ _ _ b=>own_drew b
theorem LvO.start (n:Nat) (hw:w.heap[g]? = some (.cells (Array.replicate n (.slice none 0 0)) 149 (0,0))):LvO w base g n [] (List.replicate n (.slice none 0 0)) :=
 ⟨by rw [List.toArray_replicate];exact hw,by simp,fun i hi=>⟨.slice none 0 0,by rw [ybJ];simp [hi],World.ownsRow_nil _ _ _ _⟩,fun i j u v b _ f k e=>by
  rw [ybJ] at f;split at f
  · cases f;simp [Value.ownBlock] at e
  · cases f⟩
theorem LvO.cell (h:LvO w base g n l vs) {i:Nat} {u:Value} (hu:vs[i]? = some u):w.cell? ⟨g,i,none⟩=some u:=by
 rw [h.blk.cell i];simpa using hu
theorem LvO.step {w8:World} {e:Ed} {u v9:Value} {o:Obj} (h:LvO w base g n l vs) (hu:vs[fr e]? = some u) (hr:w.ownsRow base 207 3 u (outE l (fr e)).length (zaB (outE l (fr e))))
 (hg:(w.alloc o).grownBy w8 u.ownBlock) (hown:w8.ownsRow base 207 3 v9 ((outE l (fr e)).length + 1) (zaB (outE l (fr e)) ++ za8 e)) (hat:v9.ownBlock=u.ownBlock∨v9.ownBlock=some (w.alloc o).heap.size) :
 Bk w8 g vs.toArray 149∧LvO (w8.setCell ⟨g,fr e,none⟩ v9) base g n (l ++ [e]) (vs.set (fr e) v9):=by
 have D:Bk w8 g vs.toArray 149:=zbB (h.blk.alloc o) (hr.alloc o) yac hg;have B:∀{v:Value} {m:Nat} {xs:List Value},w8.ownsRow base 207 3 v m xs→(w8.setCell ⟨g,fr e,none⟩ v9).ownsRow base 207 3 v m xs:=fun q =>
  zaH q fun k hk=>Below.heap_setCell _ _ _ _ fun J=>zeb D q yac ((show k=g from J) ▸ hk)
 have E:fr e<vs.length:=(yap.1 hu).1;refine ⟨D,?_,by rw [ycc];exact h.len,fun i hi=>?_,fun i j x y b s A F hb=>?_⟩
 · have:=D.set (fr e) v9;simpa using this
 · rw [zrh];by_cases f:fr e=i
   · subst f;refine ⟨v9,by rw [List.getElem?_set_self E],?_⟩;rw [yan rfl,yam,zf0];have:zaB [e]=za8 e:=by simp [zaB]
     rw [this];exact B hown
   · obtain ⟨x,A,K⟩:=h.rows i hi;refine ⟨x,by rw [ycq f];exact A,?_⟩;rw [yak f,yaK];refine B (World.ownsRow.kept (K.alloc o) hg ?_);rcases hb:x.ownBlock with _ | b
     · exact .inl rfl
     · exact .inr fun J=>h.ap i (fr e) x u b (fun q=>f q.symm) A hu hb J.symm
 · have old:∀(k:Nat) (z:Value) (c:Nat),vs[k]? = some z→z.ownBlock=some c→c<w.heap.size:=fun k z c M C=>by
    have hk:k<n:=by have:=(yap.1 M).1;rw [h.len] at this;exact this
    obtain ⟨N,H,L⟩:=h.rows k hk;rw [M] at H;cases H;exact (L.lt c C).2
   by_cases f:fr e=i
   · subst f;rw [List.getElem?_set_self E] at A;cases A;rw [ycq s] at F;rcases hat with G | G
     · rw [G] at hb;exact h.ap _ _ _ _ _ s hu F hb
     · rw [G] at hb;cases hb;intro C;have:=old j y _ F C;simp at this;omega
   · rw [ycq f] at A;by_cases I:fr e=j
     · subst I;rw [List.getElem?_set_self E] at F;cases F;intro C;rcases hat with G | G
       · rw [G] at C;exact h.ap _ _ _ _ _ s A hu hb C
       · rw [G] at C;cases C;have:=old i x _ A hb;simp at this;omega
     · rw [ycq I] at F;exact h.ap _ _ _ _ _ s A F hb
theorem LvO.gr (h:LvO w base g n l vs) (hi:InR n l) (hn:n≤4096):Gr w w.heap.size (some ⟨g,0,none⟩) n n l:=by
 refine ⟨⟨vs,⟨by rw [h.len];omega,yaj _,by simp only [maxLen];omega,fun e=>(by cases e),fun _=>⟨g,0,rfl,h.blk.lt,fun j u f=>by rw [yaI];exact h.cell f⟩⟩,fun i b=>?_⟩,hi,hn⟩;obtain ⟨u,k,m⟩:=h.rows i b;obtain ⟨A,c,rfl,o⟩:=Rd.own m;exact ⟨A,c,k,o⟩
end
theorem zhp:(Tryz.prog.info? 207).map (fun i=>(i.zero,i.size,i.bytes))=some (some (.agg #[.int .i64 0,.int .i64 0,.bool false]),3,24):=by kernel_rfl
theorem zoz:(Tryz.prog.info? 149).map (fun i=>(i.zero,i.size,i.bytes))=some (some (.slice none 0 0),1,24):=by kernel_rfl
theorem zk7 {P:Program} (w:World) {Q:Exit→Act→World→Prop} {o:Oper} {a:Act} {K:Act→World→Prop} (d:Option Tmp) (hd:o.dst=d) (s x:Operand) (t tx:TypeId)
 (ho:o.op = .call { callee:=.builtin .append,args:=#[s,x],argTypes:=#[t,tx] })
 (base:Nat) (e:TypeId) (i:TypeInfo) (z:Value) (size bytes:Nat) (ht:P.underlying t=some (.slice e)) (hi:P.info? e=some i) (hz:i.zero=some z)
 (hsize:i.size=size) (hby:i.bytes=bytes) (hzs:z.cells.size=size) (hsz:0<size)
 (v:Value) (n:Nat) (xs:List Value) (hv:a.eval s=v) (hown:w.ownsRow base e size v n xs) (y:Value) (m:Nat) (news:List Value) (hx:a.eval x=y) (hs:Src P size tx y m news w)
 (h63:n + m≤maxLen) (hbytes:(n + m) * bytes≤140737488355328) (hbase:base≤w.heap.size)
 (h:∀v' w',w'.ownsRow base e size v' (n + m) (xs ++ news)→w.grownBy w' v.ownBlock→(v'.ownBlock=v.ownBlock∨v'.ownBlock=some w.heap.size)→K (a.put d v') w') :
 Oper.wp P o a w K Q:=by
 subst hd;obtain ⟨v',w',b,f,g,j⟩:=zc7 (P:=P) w base t tx o.type e i z size bytes ht hi hz hsize hby hzs hsz v n xs hown y m news hs h63 hbytes hbase;unfold Oper.wp execOp;simp only [ho,resolve,invoke,builtin,Sem.run_bind,Sem.run_pure,Result.andThen_ok,List.map_toArray,yaX,ycw,hv,hx,b];exact h v' w' f g j
theorem outE_le (l:List Ed) (i:Nat):(outE l i).length≤l.length:=yba _ _
theorem zqQ (n:Nat):madeCells #[.slice none 0 0] n=Array.replicate n (Value.slice none 0 0):=by
 apply ycU;rw [toList_madeCells_one,Array.toList_replicate]
theorem leaving_any {w:World} {n c:Nat} {A:Option Addr} {l:List Ed} (h:Rd w w.heap.size 3 A l.length c (zaB l)) (hi:InR n l) (hn:n≤4096) (hl:l.length≤1000000) :
 Calls Tryz.prog 116 #[.int .i64 (n:Int),.slice A l.length c] w fun e w'=>e = .returned (.slice (some ⟨w.heap.size,0,none⟩) n n)∧Gr w' w'.heap.size (some ⟨w.heap.size,0,none⟩) n n l∧Below w.heap.size w w':=by
 obtain ⟨i1,O,Q,R,T⟩:=info_parts zoz;obtain ⟨i0,U,V,X,Y⟩:=info_parts zhp;have Z:∀W:World,(Instr.makeSlice 208 (.int .i64 (n:Int)) (.int .i64 (n:Int))).run Tryz.prog W = .ok (.slice (some ⟨W.heap.size,0,none⟩) n n) (W.alloc (.cells (Array.replicate n (.slice none 0 0)) 149)):=fun W=>by
  have:=run_make (P:=Tryz.prog) W 208 149 i1 _ Tryz.underlying208 O Q .i64 .i64 n n yab (ybf _) (by rw [T];omega) yab;rw [ybn,R,yb4] at this;rw [←zqQ];exact this
 go_enter Tryz.func116,Tryz.ntmps116
 go_wp2_with fail
 have a1:Below w.heap.size w (w.alloc (.cells (Array.replicate n (.slice none 0 0)) 149)):=(Below.refl _ w).alloc (yaj _) _;have a2:=LvO.start (w:=w.alloc (.cells (Array.replicate n (.slice none 0 0)) 149)) (base:=w.heap.size) (g:=w.heap.size) n (heap_alloc_new w _);clear Z;generalize w.alloc (.cells (Array.replicate n (.slice none 0 0)) 149)=w0 at *
 go_loopw [12] (fun vi wx=>∃(j:Nat) (vs:List Value),vi = .int .i64 j∧j≤l.length∧LvO wx w.heap.size w.heap.size n (l.take j) vs∧Below w.heap.size w wx) (fun vi _=>l.length-(intOf vi).toNat)
 case atStart=>exact ⟨0,_,rfl,yao _,a2,a1⟩
 case round =>
  obtain ⟨j,vs,rfl,hj,I,m⟩:=hrel;by_cases a6:j<l.length
  · have a7:(j:Int)<(l.length:Int):=by omega
    obtain ⟨e,he⟩:∃e,l[j]? = some e:=⟨_,yal a6⟩;have J:=yaq he;have L:e.1=((fr e:Nat):Int):=by have:=hi e J;unfold fr;omega
    have a8:=hi.fr J;have af:((fr e:Nat):Int)<(n:Int):=by omega
    obtain ⟨b,o,rfl,hb,c0,c1,c2⟩:=zhS ((h.below m).more m.size) he;rw [L] at c0;obtain ⟨u,H,hr⟩:=I.rows (fr e) a8;have aa:∀b,u.ownBlock=some b→b<wr.heap.size:=fun b e'=>(hr.lt b e').2;have ab:=outE_le (l.take j) (fr e);rw [yaN] at ab;go_upto_region 5 with (fail)
    have F:=(I.alloc (.cells #[.int .i64 ((fr e:Nat):Int),.int .i64 e.2.1,.bool e.2.2] 207)).drew;have y:=own_drew (hr.alloc (.cells #[.int .i64 ((fr e:Nat):Int),.int .i64 e.2.1,.bool e.2.2] 207));have q:Below w.heap.size w (World.drew (wr.alloc (.cells #[.int .i64 ((fr e:Nat):Int),.int .i64 e.2.1,.bool e.2.2] 207))):=(m.alloc m.size _).drew;have x:Bk (World.drew (wr.alloc (.cells #[.int .i64 ((fr e:Nat):Int),.int .i64 e.2.1,.bool e.2.2] 207))) wr.heap.size _ _:=Bk.new wr _ _;have ag:=m.size;refine zeh (fun W=>W.cell? ⟨wr.heap.size,0,none⟩=some (.int .i64 ((fr e:Nat):Int))∧W.cell? ⟨wr.heap.size,1,none⟩=some (.int .i64 e.2.1)∧W.cell? ⟨wr.heap.size,2,none⟩=some (.bool e.2.2)∧W.cell? ⟨w.heap.size,fr e,none⟩=some u) 12 yaa ?_;change zcl _ _ _ _ _ _ _ _ _ (World.drew _);clear I hr c0 c1 c2 m;generalize hdw:World.drew (wr.alloc (.cells #[.int .i64 ((fr e:Nat):Int),.int .i64 e.2.1,.bool e.2.2] 207))=wd at *
    have M:Hid (wd.heap.size=wr.heap.size + 1):=Lib.hid (by subst hdw;show (wr.alloc _).heap.size=_;simp);have s:wd.cell? ⟨wr.heap.size,0,none⟩=some (.int .i64 ((fr e:Nat):Int))∧wd.cell? ⟨wr.heap.size,1,none⟩=some (.int .i64 e.2.1)∧wd.cell? ⟨wr.heap.size,2,none⟩=some (.bool e.2.2)∧wd.cell? ⟨w.heap.size,fr e,none⟩=some u:=⟨x.cell 0,x.cell 1,x.cell 2,F.cell H⟩;clear hdw;refine zag 0 (some 16) s ?_ (hy:=zy4);refine zag 1 (some 17) s ?_ (hy:=zy4);refine zag 2 (some 18) s ?_ (hy:=zy4);refine zag 3 (some 19) s ?_ (hy:=zy4);refine zag 4 (some 20) s ?_ (hy:=zy4);refine zag 5 (some 21) s ?_ (hy:=zy4);refine zag 6 (some 22) s ?_ (hy:=zy4);refine zag 7 (some 23) s ?_ (hy:=zy4);refine zag 8 (some 24) s ?_ (hy:=zy4);refine zbE 9 rfl yaa fun K k=>?_;go_simp;refine k _ _ (fun _=>⟨zaN s.1 _,zaN s.2.1 _,zaN s.2.2.1 _,zaN s.2.2.2 _⟩) ?_;clear k K;refine zbE 10 rfl yaa fun K k=>?_;rw [yan (by rfl)];refine zk7 _ (some 26) rfl (.tmp 23) (.tmp 25) 149 149 rfl w.heap.size 207 i0 (.agg #[.int .i64 0,.int .i64 0,.bool false]) 3 24 Tryz.underlying149 U V X Y rfl yac u (outE (l.take j) (fr e)).length (zaB (outE (l.take j) (fr e))) rfl (World.ownsRow.alloc y _) _ 1 [.int .i64 ((fr e:Nat):Int),.int .i64 e.2.1,.bool e.2.2] rfl (Src.ofSlice _ Tryz.underlying149 _ 1 1 _ rfl (zfh _ _ _ _ _) (by intro u H;simp only [yaw,ya1,ybA] at H;rcases H with rfl | rfl | rfl <;> rfl)) yad yab (size_alloc (by have:=M.out;omega)) ?_
    intro v9 w8 f z D;rw [←L] at f;obtain ⟨G,ac⟩:=F.step H y z f D;have B:Bk w8 wr.heap.size _ _:=(z.block wr.heap.size (by have:=M.out;simp;omega) fun e'=>by have:=aa _ e'.symm;omega).trans (x.alloc _);have C:w8.cell? ⟨wr.heap.size,0,none⟩=some (.int .i64 ((fr e:Nat):Int))∧w8.cell? ⟨wr.heap.size,1,none⟩=some (.int .i64 e.2.1)∧w8.cell? ⟨wr.heap.size,2,none⟩=some (.bool e.2.2)∧w8.cell? ⟨w.heap.size,fr e,none⟩=some u:=⟨B.cell 0,B.cell 1,B.cell 2,by rw [G.cell];simpa using H⟩;have E:Below w.heap.size w w8:=zae (q.alloc q.size _) z (World.ownsRow.alloc y _) (by have:=q.size;simp;omega) (yaj _);refine k _ _ (fun _=>C) ?_;clear k K s F y q x z D;simp only [Act.put,yaG,yaV,yaW];refine zag 11 (some 27) C ?_ (hy:=zy4);refine zbE 12 rfl yaa fun K k=>?_;obtain ⟨A9,c9,rfl,_⟩:=Rd.own f;have ad:=G.fz (fr e);have q8:=C.2.2.2;go_simp;refine k _ _ (fun h=>absurd rfl h) ?_;clear k K;refine zeL yaa ?_ _;have N:Below w.heap.size w (w8.setCell ⟨w.heap.size,fr e,none⟩ (.slice A9 ((outE (l.take j) (fr e)).length + 1) c9)):=E.setCell (yaj _) _;clear B G C E f ad q8;generalize World.setCell w8 _ _=w9 at *
    go_wp2_with fail
    have ae:LvO w9 w.heap.size w.heap.size n (l.take (j + 1)) (vs.set (fr e) (.slice A9 ((outE (l.take j) (fr e)).length + 1) c9)):=by
     rw [yaC,he];exact ac
    exact ⟨⟨j + 1,_,by go_num,by omega,ae,N⟩,by simp [intOf];omega⟩
  · obtain rfl:j=l.length:=by omega
    have a7:¬(((l.length:Nat):Int)<(l.length:Int)):=by omega
    rw [yaz] at I;go_wp2_with fail
    go_ret
    exact ⟨rfl,I.gr hi hn,m⟩
end
end Go.Proofs.YtmblgnddgmfkhaaGreat
