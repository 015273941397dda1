import Derived.RangeFuncNested
import Derived.RangeFuncBound
import Derived.RangeFuncCalls
import Derived.RangeFuncLeaves
import Derived.Shelf.Abstract
import Derived.Shelf.RegionOpen
import Derived.OwnWalkIn
import Derived.TacticsInMore
import Derived.LoopNIn
import Derived.LoopIn
import Derived.Lib.SliceRun
import Derived.Great.BuildSlice
import Derived.Laws.MakeOwn
import Derived.Outline
import Derived.Test.YtiepddmagfmllaaGreatT07
set_option maxRecDepth 100000
set_option maxHeartbeats 4000000
namespace Go.Proofs.YtiepddmagfmllaaGreat
open Go.RowKit Go.Shelf
attribute [local go_sem] Oper.semAt_some
open Go.RowKit Go.Shelf
attribute [local go_sem] Oper.semAt_some
structure Kq (M x y:Nat) (W W':World):Prop where
 size:W.heap.size≤W'.heap.size
 same:∀g,g<M→g≠x→g≠y→W'.heap[g]? = W.heap[g]?
theorem Kq.refl (M x y:Nat) (W:World):Kq M x y W W:=⟨Nat.le_refl _,fun _ _ _ _=>rfl⟩
theorem Kq.trans {M x y:Nat} {A B C:World} (h:Kq M x y A B) (k:Kq M x y B C):Kq M x y A C:=⟨Nat.le_trans h.size k.size,fun g h1 h2 h3=>(k.same g h1 h2 h3).trans (h.same g h1 h2 h3)⟩
theorem Kq.alloc {M x y:Nat} {A B:World} (h:Kq M x y A B) (hM:M≤B.heap.size) (o:Obj):Kq M x y A (B.alloc o):=⟨by simp;have:=h.size;omega,fun g h1 h2 h3=>(Below.heap_alloc _ _ _ (by omega)).trans (h.same g h1 h2 h3)⟩
theorem Kq.cell {M x y:Nat} {A B:World} (h:Kq M x y A B) {p:Addr} (h1:p.block<M) (h2:p.block≠x) (h3:p.block≠y):B.cell? p=A.cell? p:=World.cell?_of_block (h.same _ h1 h2 h3)
theorem Kq.putObj {M x y:Nat} (W:World) (l:Nat) (o:Obj) (hl:M≤l):Kq M x y W (W.putObj l o) :=
 ⟨(grownBy_putObj' W l o).size,fun g h1 _ _=>by
  by_cases hg:g<W.heap.size
  · exact (grownBy_putObj' W l o).block g hg (fun e=>by cases e;omega)
  · rw [World.putObj_heap_other (by omega)]⟩
abbrev Pl (n:Nat):=Nat × { k:Nat // k<n }
def plEnc {n:Nat} (x:Pl n):Array Value:=#[.int .i64 (x.1:Int),.int .i64 (x.2.1:Int)]
def zgc {n:Nat} (L:List { k:Nat // k<n }):List Nat:=L.map (·.1)
def bk {n:Nat} (L:List { k:Nat // k<n }):List (Pl n):=((List.range L.length).zip L).reverse
theorem bk_len {n:Nat} (L:List { k:Nat // k<n }):(bk L).length=L.length:=by simp [bk]
theorem bk_at {n:Nat} {L:List { k:Nat // k<n }} {i j:Nat} {q:{ k:Nat // k<n }} (hi:i + j + 1=L.length) (h:L[i]? = some q):(bk L)[j]? = some (i,q):=by
 unfold bk;rw [List.getElem?_reverse (by simp;omega),show ((List.range L.length).zip L).length-1-j=i by simp;omega,List.getElem?_zip_eq_some];exact ⟨by rw [List.getElem?_range (by omega)],h⟩
theorem bk_pre {n:Nat} {L:List { k:Nat // k<n }} {pre:List (Pl n)} {x:Pl n} (h:pre ++ [x] <+: bk L):∃P Q,L=P ++ x.2::Q∧Q=(pre.map (·.2)).reverse:=by
 obtain ⟨r,hr⟩:=h;have e:L=(bk L).reverse.map (·.2):=by
  unfold bk;rw [List.reverse_reverse,List.map_snd_zip (by simp)]
 refine ⟨(r.map (·.2)).reverse,(pre.map (·.2)).reverse,?_,rfl⟩;rw [e,←hr];simp
theorem back_in {k:Nat} (n:Nat) (hn:1≤n) (l Bx:Nat) (L:List { i:Nat // i<k }) (A:Option Addr) (c:Nat) (M x y:Nat) (J Jx:List (Pl k)→World→Prop) (W:World)
 (hBx:W.cell? ⟨Bx,0,none⟩=some (.slice A L.length c)) (hrow:Rd W W.heap.size 1 A L.length c (ints (zgc L))) (hA:∀bb o,A=some ⟨bb,o,none⟩→bb<M∧bb≠x∧bb≠y)
 (h2:Bx<M∧Bx≠x∧Bx≠y) (hlen:L.length≤1000000)
 (hY:∀pre x1 W1,J pre W1→pre.length<L.length→YieldAt Fence.wide (n-1) Tryz.prog l (plEnc x1) W1 fun e W' =>
  (e = .returned (.bool true)∧J (pre ++ [x1]) W'∧Kq M x y W1 W')∨(e = .returned (.bool false)∧Jx (pre ++ [x1]) W'))
 (h0:J [] W) :
 CallsIn Fence.wide n Tryz.prog 130 #[.func (.yield l) #[] #[],.pointer (some ⟨Bx,0,none⟩)] W fun e W'=>(∃v,e = .returned v) ∧
  ((∃ys,ys=bk L∧J ys W')∨(∃pre,True∧Jx pre W')):=by
 refine callsIn_of_wp Tryz.func130 rfl trivial ?_ rfl;simp only [Tryz.ntmps130,List.size_toArray,List.length_cons,List.length_nil,Nat.reduceAdd,Nat.reduceSub,Array.replicate_succ,Array.replicate_zero,List.push_toArray,List.append_toArray,List.nil_append,List.cons_append];gi_wp2
 gi_loopw [3] (fun i wr=>∃j:Nat,j≤L.length∧i = .int .i64 ((L.length:Int)-1-j)∧J ((bk L).take j) wr∧Kq M x y W wr)
  (fun i _=>(intOf i + 1).toNat)
 case atStart=>exact ⟨0,Nat.zero_le _,by simp,h0,Kq.refl _ _ _ _⟩
 case round =>
  obtain ⟨j,hj,rfl,hJs,hnx⟩:=hrel;by_cases hlt:j<L.length
  · have hmM:=hnx.size;obtain ⟨i,hi⟩:∃i:Nat,(L.length:Int)-1-j=(i:Int):=⟨L.length-1-j,by omega⟩;have hiL:i<L.length:=by omega
    obtain ⟨q,hq⟩:∃q,L[i]? = some q:=⟨_,List.getElem?_eq_getElem hiL⟩;have hb:=bk_at (j:=j) (by omega) hq;obtain ⟨bb,o,u,rfl,_,hu,hcc⟩:=hrow.get hiL;obtain ⟨hbM,hbx,hby⟩:=hA bb o rfl;have hu':u = .int .i64 (q.1:Int):=by
     simp only [ints,zgc,List.map_map,List.getElem?_map,hq,Option.map_some,Function.comp,Option.some.injEq] at hu;exact hu.symm
    subst hu';have c1:=(hnx.cell (p:=⟨bb,o + i,none⟩) hbM hbx hby).trans hcc;have c0:=(hnx.cell (p:=⟨Bx,0,none⟩) h2.1 h2.2.1 h2.2.2).trans hBx;obtain ⟨fn,tmps,assign,body,hyy,hR⟩:=hY ((bk L).take j) (i,q) wr hJs (by rw [List.length_take,bk_len];omega);simp only [plEnc] at hyy;have htk:(bk L).take (j + 1)=(bk L).take j ++ [(i,q)]:=by rw [List.take_add_one,hb];rfl
    have hil:(i:Int)<(L.length:Int):=by omega
    have hi0:(i:Int) ≥ 0:=by omega
    rw [hi];have hi:=Lib.hid hi;gi_wp2
    refine hR.mono ?_;rintro e W3 (⟨rfl,hJ3,hk3⟩ | ⟨rfl,hJx3⟩)
    · gi_wp2
      go_roundw
      case rel=>exact ⟨j + 1,by omega,by have:=hi.out;(congr 1 <;> omega),by rw [htk];exact hJ3,hnx.trans hk3⟩
      case measure=>simp [intOf] <;> omega
    · gi_wp2
      refine bodyPost_ret (results_none rfl _ _ _) rfl ?_;exact ⟨⟨_,rfl⟩,.inr ⟨_,trivial,hJx3⟩⟩
  · obtain rfl:j=L.length:=by omega
    have hge:¬((L.length:Int)-1-(L.length:Nat)) ≥ 0:=by omega
    gi_wp2
    go_end0
    rw [List.take_of_length_le (Nat.le_of_eq (bk_len L))] at hJs;exact ⟨⟨_,rfl⟩,.inl hJs⟩
theorem zlc {k:Nat} (n:Nat) (hn:1≤n) (Bx:Nat) (L:List { i:Nat // i<k }) (A:Option Addr) (c:Nat) (M x y:Nat) (w:World) (hM:M≤w.heap.size)
 (hBx:w.cell? ⟨Bx,0,none⟩=some (.slice A L.length c)) (hrow:Rd w w.heap.size 1 A L.length c (ints (zgc L))) (hA:∀bb o,A=some ⟨bb,o,none⟩→bb<M∧bb≠x∧bb≠y)
 (h2:Bx<M∧Bx≠x∧Bx≠y) (hlen:L.length≤1000000) :
 SeqStopsK Fence.wide n Tryz.prog 130 #[.pointer (some ⟨Bx,0,none⟩)] (plEnc (n:=k)) (Kq M x y) (fun ys=>ys=bk L) (fun _=>True) L.length w:=fun l J Jx W hW _ _ hY h0 =>
 back_in n hn l Bx L A c M x y J Jx W ((hW.cell (p:=⟨Bx,0,none⟩) (by show Bx<_;omega)).trans hBx) ((hrow.below hW).more hW.size) hA h2 hlen hY h0
def VRing (B:Nat) (w:World) (v:Value) (all:List (List Nat)):Prop :=
 ∃vs,w.ownsRow B 32 1 v all.length vs∧∀(i:Nat) (r:List Nat),all[i]? = some r→∃u:Value,vs[i]? = some u∧w.ownsRow B 3 1 u r.length (ints r)
theorem zhO:(Tryz.prog.info? 4).map (fun i=>(i.zero,i.size,i.bytes))=some (some (.bool false),1,1):=by kernel_rfl
theorem zgx (n:Nat):madeCells #[.bool false] n=bools (List.replicate n false):=by
 apply Array.ext';rw [toList_madeCells_one];simp [bools]
theorem zeroF (w:World):(zeroValue 4).run Tryz.prog w = .ok (.bool false) w:=by kernel_rfl
theorem back_any (w:World) (A:Option Addr) (n c:Nat):Calls Tryz.prog 88 #[.slice A n c] w fun e w' =>
 e = .returned (.func (.func 130) #[] #[.pointer (some ⟨w.heap.size,0,none⟩)])∧w'=w.alloc (.cells #[.slice A n c] 32):=by
 go_enter Tryz.func88,Tryz.ntmps88
 go_wp2
 go_ret
 exact ⟨rfl,rfl⟩
theorem ziF {w:World} {gs n:Nat} {s:List Bool} (h:Bk w gs (bools s) 4) (hs:s.length=n):∃W',(∀ty,(Builtin.clear_ #[169] ty #[.slice (some ⟨gs,0,none⟩) n n]).run Tryz.prog w = .ok (.tuple #[]) W') ∧
 Bk W' gs (bools (List.replicate n false)) 4∧W'.heap.size=w.heap.size∧W'.os=w.os∧W'.tape=w.tape∧W'.output=w.output∧∀g,g≠gs→W'.heap[g]? = w.heap[g]?:=by
 by_cases hn:0<n
 · refine ⟨w.setCells gs 0 (List.replicate n (.bool false)),fun ty=>Lib.run_clear_slice w 169 4 ty (.bool false) Tryz.underlying169 zeroF rfl rfl gs 0 n n hn (fun j hj=>?_) (fun j hj=>?_),?_,zc5 _ _ _ _,(zbg _ _ _ _).1,(zbg _ _ _ _).2.1,(zbg _ _ _ _).2.2,fun g hg=>zbv gs _ _ _ g hg⟩
   · rw [Nat.zero_add,h.cell j,zed,List.getElem?_eq_getElem (by omega)];rfl
   · exact h.fz _
   · obtain ⟨cur,g1,g2,g3⟩:=zbM gs 4 (0,0) (List.replicate n (.bool false)) 0 w (bools s) h (by simp [zgo,hs]);have e:cur=bools (List.replicate n false):=by
      apply Array.ext';rw [zgo,hs] at g2;rw [List.length_replicate,Nat.zero_add,List.take_of_length_le (by rw [Array.length_toList];omega)] at g3;rw [g3];simp [bools]
     rw [e] at g1;exact g1
 · obtain rfl:n=0:=by omega
   refine ⟨w,fun ty=>by simp [Builtin.clear_,run_underlying Tryz.underlying169],?_,rfl,rfl,rfl,rfl,fun _ _=>rfl⟩;rw [List.eq_nil_of_length_eq_zero hs] at h;exact h
theorem zlB:(Tryz.prog.info? 32).map (fun i=>(i.zero,i.size,i.bytes))=some (some (.slice none 0 0),1,24):=by kernel_rfl
theorem Bk.stay {X Y:World} {b:Nat} {cs:Array Value} {t:TypeId} {row:Option Nat} (h:Bk X b cs t) (hg:X.grownBy Y row) (hr:∀r,row=some r→∃o:Obj,X.heap[r]? = some o∧o.isCells=false):Bk Y b cs t :=
 (hg.block b h.lt fun e=>by
  obtain ⟨o,ho,hc⟩:=hr b e.symm;rw [show X.heap[b]? = _ from h] at ho;cases ho;cases hc).trans h
theorem zhd {X Y:World} {B:Nat} {e:TypeId} {s n:Nat} {v:Value} {xs:List Value} {row:Option Nat} (h:X.ownsRow B e s v n xs) (hg:X.grownBy Y row) (hr:∀r,row=some r→∃o:Obj,X.heap[r]? = some o∧o.isCells=false):Y.ownsRow B e s v n xs :=
 zaI h fun g hg2=>hg.block g (h.lt g hg2).2 fun e'=>by
  obtain ⟨o,ho,hc⟩:=hr g e'.symm;rcases h.2 with ⟨rfl,_⟩ | ⟨g2,cap2,cur2,rfl,_,hh2,_⟩
  · simp [Value.ownBlock] at hg2
  simp only [Value.ownBlock,Option.some.injEq] at hg2;subst hg2;rw [hh2] at ho;cases ho;cases hc
theorem Bk.cell' {w:World} {b:Nat} {v:Value} {t:TypeId} (h:Bk w b #[v] t):w.cell? ⟨b,0,none⟩=some v:=h.cell 0
theorem VRing.map {B:Nat} {X Y:World} {v:Value} {all:List (List Nat)} (h:VRing B X v all) (k1:∀v n xs,X.ownsRow B 32 1 v n xs→Y.ownsRow B 32 1 v n xs) (k2:∀v n xs,X.ownsRow B 3 1 v n xs→Y.ownsRow B 3 1 v n xs):VRing B Y v all:=by
 obtain ⟨vs,h1,h2⟩:=h;exact ⟨vs,k1 _ _ _ h1,fun i r hi=>by obtain ⟨u,hu,hr⟩:=h2 i r hi;exact ⟨u,hu,k2 _ _ _ hr⟩⟩
structure RI (w W4:World) (l:List Ed) (k gs b8:Nat) (L:List { i:Nat // i<k }) (pre:List (Pl k)) (W:World):Prop where
 one:∃s all v8,Bk W gs (bools s) 4∧s.length=k∧Bk W b8 #[v8] 121∧VRing W4.heap.size W v8 all∧all.length≤pre.length∧(pre <+: bk L→Told l k (zgc ((pre.map (·.2)).reverse)) s all)
 kq:Kq W4.heap.size gs b8 W4 W
 below:Below w.heap.size w W
theorem RI.stay {w W4 X Y:World} {l:List Ed} {k gs b8:Nat} {L:List { i:Nat // i<k }} {pre:List (Pl k)} {row:Option Nat} (h:RI w W4 l k gs b8 L pre X) (hw:w.heap.size≤W4.heap.size) (hg:X.grownBy Y row) (hr:∀r,row=some r→W4.heap.size≤r∧∃o:Obj,X.heap[r]? = some o∧o.isCells=false):RI w W4 l k gs b8 L pre Y:=by
 obtain ⟨⟨s,all,v8,h1,h2,h3,h4,h5,h6⟩,h7,h8⟩:=h;have hr':∀r,row=some r→∃o:Obj,X.heap[r]? = some o∧o.isCells=false:=fun r e=>(hr r e).2;refine ⟨⟨s,all,v8,h1.stay hg hr',h2,h3.stay hg hr',h4.map (fun _ _ _ h=>zhd h hg hr') (fun _ _ _ h=>zhd h hg hr'),h5,h6⟩,⟨Nat.le_trans h7.size hg.size,fun g a b c=>(hg.block g (by have:=h7.size;omega) (fun e=>by have:=(hr g e.symm).1;omega)).trans (h7.same g a b c)⟩,?_⟩;exact h8.grown hg h8.size fun r e=>by have:=(hr r e).1;omega
section
variable {w W4 W w3:World} {l:List Ed} {k gs b8:Nat} {L:List { i:Nat // i<k }} {pre:List (Pl k)} {x:Pl k} {s s6:List Bool} {all:List (List Nat)} {L6:List Nat} {v8 rv:Value}
theorem zmN (hl:InR k l) (hO:OrdOk l k (zgc L)) (m6:pre <+: bk L→Told l k (zgc ((pre.map (·.2)).reverse)) s all) (hW6:Walks (goE l) s [x.2.1] s6 L6) :
 pre ++ [x] <+: bk L→Told l k (zgc (((pre ++ [x]).map (·.2)).reverse)) s6 (if L6=[] then all else all ++ [L6]):=fun hp=>by
 obtain ⟨P,Q,e,hQ⟩:=bk_pre hp;have h1:=m6 ((List.prefix_append pre [x]).trans hp);rw [←hQ] at h1;have hO':OrdOk l k (zgc P ++ x.2.1::zgc Q):=by
  have e2:zgc L=zgc P ++ x.2.1::zgc Q:=by rw [e];simp [zgc]
  rwa [e2] at hO
 have h2:=Told.step hl hO' h1 hW6;have e3:zgc (((pre ++ [x]).map (·.2)).reverse)=x.2.1::zgc Q:=by rw [hQ];simp [zgc]
 rw [e3];exact h2
theorem zmI (hw4:w.heap.size≤gs∧gs<W4.heap.size∧w.heap.size≤W4.heap.size) (m7:Kq W4.heap.size gs b8 W4 W) (m8:Below w.heap.size w W)
 (hK6:Kp gs W.heap.size (W.alloc (.cells #[.slice none 0 0] 32)) w3):KeepsFrom W4.heap.size W w3∧Kq W4.heap.size gs b8 W w3∧Below w.heap.size w w3∧∀g,g<W.heap.size→g≠gs→w3.heap[g]? = W.heap[g]?:=by
 have hs:=hK6.size;have h7:=m7.size;simp only [World.size_alloc] at hs;have hk:∀g,g<W.heap.size→g≠gs→w3.heap[g]? = W.heap[g]?:=fun g h1 h2=>(hK6.block g h1 h2).trans (Below.heap_alloc _ _ _ h1);refine ⟨⟨by omega,fun g o h1 h2 _=>(hk g (Array.getElem?_eq_some_iff.1 h2).1 (by omega)).trans h2⟩,⟨by omega,fun g h1 h2 _=>hk g (by omega) h2⟩,m8.trans (((Below.refl _ W).alloc (by omega) _).trans (hK6.below (by omega) hw4.1)),hk⟩
theorem zjV {w5:World} {o:Obj} {vs:List Value} (h8:Bk w3 b8 #[v8] 121) (h1:w3.ownsRow W4.heap.size 32 1 v8 all.length vs) (hg:(w3.alloc o).grownBy w5 v8.ownBlock):Bk w5 b8 #[v8] 121 :=
 zbh (h8.alloc o) (h1.alloc o) (by decide) hg
theorem zmv {w5:World} {o:Obj} {vs:List Value} {v9:Value} (hw4:w.heap.size≤b8∧b8<W4.heap.size∧w.heap.size≤W4.heap.size∧W4.heap.size≤w3.heap.size) (h8:Bk w3 b8 #[v8] 121) (hgs:Bk w3 gs (bools s6) 4)
 (h1:w3.ownsRow W4.heap.size 32 1 v8 all.length vs) (h2:∀(i:Nat) (r:List Nat),all[i]? = some r→∃u:Value,vs[i]? = some u∧w3.ownsRow W4.heap.size 3 1 u r.length (ints r)) (hrr:w3.ownsRow W4.heap.size 3 1 rv L6.length (ints L6))
 (hg:(w3.alloc o).grownBy w5 v8.ownBlock) (h5:w5.ownsRow W4.heap.size 32 1 v9 (all.length + 1) (vs ++ [rv])) :
 KeepsFrom W4.heap.size w3 (w5.setCell ⟨b8,0,none⟩ v9)∧Kq W4.heap.size gs b8 w3 (w5.setCell ⟨b8,0,none⟩ v9)∧Below w.heap.size w3 (w5.setCell ⟨b8,0,none⟩ v9)∧Bk (w5.setCell ⟨b8,0,none⟩ v9) gs (bools s6) 4∧Bk (w5.setCell ⟨b8,0,none⟩ v9) b8 #[v9] 121∧VRing W4.heap.size (w5.setCell ⟨b8,0,none⟩ v9) v9 (all ++ [L6]):=by
 have hsz:=hg.size;simp only [World.size_alloc] at hsz;have h1':=h1.alloc o;have hk:∀g,g<w3.heap.size→g≠b8→v8.ownBlock≠some g→(w5.setCell ⟨b8,0,none⟩ v9).heap[g]? = w3.heap[g]?:=fun g a b c =>
  ((Below.heap_setCell _ _ _ _ b).trans (hg.block g (by simp;omega) fun e=>c e.symm)).trans (Below.heap_alloc _ _ _ a)
 have hss:(w5.setCell ⟨b8,0,none⟩ v9).heap.size=w5.heap.size:=by simp [World.setCell]
 have hb5:=zjV h8 h1 hg;have hint:∀(v:Value) (n:Nat) (xs:List Value),w3.ownsRow W4.heap.size 3 1 v n xs→(w5.setCell ⟨b8,0,none⟩ v9).ownsRow W4.heap.size 3 1 v n xs:=fun v n xs h=>by
  have q:=zbf (h.alloc o) h1' (by decide) hg;exact zaI q fun g hg2=>Below.heap_setCell _ _ _ _ fun e=>zdc hb5 q (by decide) ((show g=b8 from e) ▸ hg2)
 refine ⟨⟨by omega,fun g o' a b c=>?_⟩,⟨by omega,fun g a b c=>hk g (by omega) c fun e=>by have:=(h1.lt g e).1;omega⟩,?_,?_,?_,vs ++ [rv],?_,fun i r hi=>?_⟩
 · have hgl:=(Array.getElem?_eq_some_iff.1 b).1;refine (hk g hgl (by omega) fun e=>?_).trans b;rcases h1.2 with ⟨rfl,_⟩ | ⟨g2,cap2,cur2,rfl,_,hh2,_⟩
   · simp [Value.ownBlock] at e
   simp only [Value.ownBlock,Option.some.injEq] at e;subst e;rw [hh2] at b;cases b;cases c
 · exact (zak ((Below.refl _ w3).alloc (by omega) o) hg h1' (by simp;omega) (by omega)).setCell hw4.1 _
 · exact (zbh (hgs.alloc o) h1' (by decide) hg).other (a:=⟨b8,0,none⟩) (fun e=>by
    have e':gs=b8:=e;subst e';have:=hgs.symm.trans h8;injection this with this
    injection this with _ h3 _
    exact absurd h3 (by decide)) _
 · have:=hb5.set 0 v9;simpa using this
 · rw [List.length_append];exact zaI h5 fun g hg2=>Below.heap_setCell _ _ _ _ fun e=>zdc hb5 h5 (by decide) ((show g=b8 from e) ▸ hg2)
 · have hlv:vs.length=all.length:=by have:=h1.1;omega
   rcases Nat.lt_or_ge i all.length with hi2 | hi2
   · rw [List.getElem?_append_left hi2] at hi;obtain ⟨u,hu,hr⟩:=h2 i r hi;exact ⟨u,by rw [List.getElem?_append_left (by omega)];exact hu,hint _ _ _ hr⟩
   · rw [List.getElem?_append_right hi2] at hi;obtain ⟨h0,hi⟩:=List.getElem?_eq_some_iff.1 hi;simp at h0 hi;subst hi;exact ⟨rv,by rw [List.getElem?_append_right (by omega),show i-vs.length=0 by omega];rfl,hint _ _ _ hrr⟩
theorem zjK {B:Nat} {e:TypeId} {sz n:Nat} {v:Value} {xs:List Value} (h:W.ownsRow B e sz v n xs) (hne:e≠4) (hgs:Bk W gs (bools s) 4) (hk:∀g,g<W.heap.size→g≠gs→w3.heap[g]? = W.heap[g]?):w3.ownsRow B e sz v n xs :=
 zaI h fun g hg=>hk g (h.lt g hg).2 fun e'=>zdc hgs h (fun e''=>hne e''.symm) (e' ▸ hg)
end
theorem rings_in (m:Nat) (hm:6≤m) {w:World} {B n c c':Nat} {A A':Option Addr} {l:List Ed} (h1:Gr w B A c n l) (h2:Gr w B A' c' n (l.map turn)) (hB:B≤w.heap.size) :
 CallsIn Fence.wide m Tryz.prog 47 #[.slice A n c,.slice A' n c'] w fun e w'=>∃v all ord s,e = .returned v∧OrdOk l n ord∧Told l n ord s all∧VRing w.heap.size w' v all∧Below w.heap.size w w':=by
 have hn:=h1.few;obtain ⟨i1,hi1,hy0,hy1,hy2⟩:=info_parts zhO;have hmk:∀W:World,(Instr.makeSlice 169 (.int .i64 (n:Int)) (.int .i64 (n:Int))).run Tryz.prog W = .ok (.slice (some ⟨W.heap.size,0,none⟩) n n) (W.alloc (.cells (bools (List.replicate n false)) 4)):=fun W=>by
  have:=run_make (P:=Tryz.prog) W 169 4 i1 _ Tryz.underlying169 hi1 hy0 .i64 .i64 n n (by omega) (Int.le_refl _) (by rw [hy2];omega) (by omega);rw [Int.toNat_natCast,hy1,Nat.mul_one] at this;rw [←zgx];exact this
 refine callsIn_of_wp_marks Tryz.func47 rfl trivial ?_ rfl;simp only [Tryz.ntmps47,List.size_toArray,List.length_cons,List.length_nil,Nat.reduceAdd,Nat.reduceSub,Array.replicate_succ,Array.replicate_zero,List.push_toArray,List.append_toArray,List.nil_append,List.cons_append];gi_wp2
 have hW0:Below w.heap.size w ((((w.alloc (.cells #[.slice A n c] 118)).alloc (.cells #[.slice none 0 0] 32)).alloc (.cells (bools (List.replicate n false)) 4)).alloc (.cells #[.slice (some ⟨w.heap.size + 1 + 1,0,none⟩) n n] 169)) :=
  ((((Below.refl _ w).alloc (Nat.le_refl _) _).alloc (by simp) _).alloc (by simp;omega) _).alloc (by simp;omega) _
 have hz0:((((w.alloc (.cells #[.slice A n c] 118)).alloc (.cells #[.slice none 0 0] 32)).alloc (.cells (bools (List.replicate n false)) 4)).alloc (.cells #[.slice (some ⟨w.heap.size + 1 + 1,0,none⟩) n n] 169)).heap.size=w.heap.size + 4:=by simp
 have d0:=(((Bk.new w #[.slice A n c] 118).alloc (.cells #[.slice none 0 0] 32)).alloc (.cells (bools (List.replicate n false)) 4)).alloc (.cells #[.slice (some ⟨w.heap.size + 1 + 1,0,none⟩) n n] 169);have d1:=((Bk.new (w.alloc (.cells #[.slice A n c] 118)) #[.slice none 0 0] 32).alloc (.cells (bools (List.replicate n false)) 4)).alloc (.cells #[.slice (some ⟨w.heap.size + 1 + 1,0,none⟩) n n] 169);have d2:=(Bk.new ((w.alloc (.cells #[.slice A n c] 118)).alloc (.cells #[.slice none 0 0] 32)) (bools (List.replicate n false)) 4).alloc (.cells #[.slice (some ⟨w.heap.size + 1 + 1,0,none⟩) n n] 169);have d3:=Bk.new (((w.alloc (.cells #[.slice A n c] 118)).alloc (.cells #[.slice none 0 0] 32)).alloc (.cells (bools (List.replicate n false)) 4)) #[.slice (some ⟨w.heap.size + 1 + 1,0,none⟩) n n] 169;simp only [World.size_alloc] at d1 d2 d3;generalize (((w.alloc (.cells #[.slice A n c] 118)).alloc (.cells #[.slice none 0 0] 32)).alloc (.cells (bools (List.replicate n false)) 4)).alloc (.cells #[.slice (some ⟨w.heap.size + 1 + 1,0,none⟩) n n] 169)=W1 at *
 have hS1:Sw W1 (w.heap.size + 1) (w.heap.size + 1 + 1) (w.heap.size + 1) n (List.replicate n false) []:=⟨d2,⟨⟨_,d1,World.ownsRow_nil _ _ _ _⟩,Nat.le_refl _⟩,by simp⟩;have h1':=h1.below (hW0.mono hB);have h2':=h2.below (hW0.mono hB);gi_loopw [17] (fun vi wr=>∃(k:Nat) (s:List Bool) (L:List Nat),vi = .int .i64 k∧k≤n∧Walks (goE (l.map turn)) (List.replicate n false) (List.range k) s L∧Sw wr (w.heap.size + 1) (w.heap.size + 1 + 1) (w.heap.size + 1) n s L∧Kp (w.heap.size + 1 + 1) (w.heap.size + 1) W1 wr∧Bw W1 wr)
  (fun vi _=>n-(intOf vi).toNat)
 case atStart=>exact ⟨0,_,[],rfl,Nat.zero_le _,.nil _,hS1,Kp.refl _ _ _,Bw.refl _⟩
 case round =>
  obtain ⟨k,s,L,rfl,hk,hW,hS,hK,hV⟩:=hrel;have hb6:=hV _ _ _ (by decide) (by decide) (by decide) d3;by_cases hlt:k<n
  · have hlt':(k:Int)<(n:Int):=by omega
    have c6:=hb6.cell 0;have hcf:=hW.cf;rw [List.count_replicate_self] at hcf;have kw:=walk_any (w:=wr) (s:=s) (L:=L) (a:=k) 87 (M0:=B) (M:=w.heap.size + 1) (gs:=w.heap.size + 1 + 1) (go:=w.heap.size + 1) (n:=n) (c:=c') (cs:=n) (A:=A') (l:=l.map turn) (by omega) (by omega) (by omega)
     (enters_of Tryz.func87 (by kernel_rfl) rfl) (fun w L k h hl=>leave1_any h k hl) (s.count false) (Nat.le_refl _) hlt (h2'.below (hK.below (by omega) (by omega))) hS (by omega)
    gi_wp2_with (refine ⟨trivial,fun e=>(by cases e),?_⟩;(with_reducible refine (callsIn_wide.2 kw).mono ?_);rintro e w2 ⟨rfl,s2,L2,hW2,hS2,hK2,hV2⟩)
    go_roundw
    case rel=>exact ⟨k + 1,s2,L ++ L2,by simp,by omega,by rw [List.range_succ];exact hW.app hW2,hS2,hK.trans hK2,hV.trans hV2⟩
    case measure=>simp [intOf];omega
  · obtain rfl:k=n:=by omega
    have hlt':¬((k:Int)<(k:Nat)):=by omega
    have hO:=ord_of h1.inr hW;obtain ⟨ov,hv,hr⟩:=hS.od.one;obtain ⟨A2,c2,rfl,hrR⟩:=Rd.own hr;have hlo:L.length=k:=by
     have:=hW.cf;have h0:s.count false=0:=by
      rw [List.count_eq_zero];intro m;obtain ⟨i,hi,e⟩:=List.getElem_of_mem m;have h3:s[i]? = some false:=by rw [List.getElem?_eq_getElem hi,e]
      have hik:i<k:=by rw [hS.len] at hi;exact hi
      exact absurd ((hO.mem i).2 hik) ((hW.seen.2.1 i).1 h3).2
     rw [List.count_replicate_self] at this;omega
    replace hlo:=Lib.hid hlo;obtain ⟨W3,hcl,e3,s3,s3a,s3b,s3c,k3⟩:=ziF (hS.seen.alloc (.cells #[.slice none 0 0] 121)) hS.len;have s3':W3.heap.size=wr.heap.size + 1:=by rw [s3];simp
    have hgl:=hS.seen.lt;have hol:=hv.lt;have b3:Kp (w.heap.size + 1 + 1) (w.heap.size + 1) (wr.alloc (.cells #[.slice none 0 0] 121)) W3:=⟨s3a,s3b,s3c,by omega,fun g _ hg=>k3 g hg⟩;have x6:Bk W3 (w.heap.size + 1 + 1 + 1) _ _:=(k3 _ (by omega)).trans (hb6.alloc _);have x5:Bk W3 (w.heap.size + 1) _ _:=(k3 _ (by omega)).trans (hv.alloc _);have x8:Bk W3 wr.heap.size #[.slice none 0 0] 121:=(k3 _ (by omega)).trans (Bk.new wr _ _);have r5:W3.ownsRow (w.heap.size + 1) 3 1 (.slice A2 L.length c2) L.length (ints L):=zaI (hr.alloc (.cells #[.slice none 0 0] 121)) fun g hg=>k3 g fun e=>zdc hS.seen hr (by decide) (e ▸ hg);have c6:=(hb6.alloc (.cells #[.slice none 0 0] 121)).cell 0;have c5:=x5.cell 0;have kb:=back_any W3 A2 L.length c2;clear s3;replace s3':=Lib.hid s3';gi_wp2_with (refine ⟨trivial,fun e=>(by cases e),?_⟩;(with_reducible refine (callsIn_wide.2 kb).mono ?_);rintro e w2 ⟨rfl,hw2⟩)
    replace s3':=s3'.out;have hM0:=hS.od.ge;have hsz4:w2.heap.size=W3.heap.size + 1:=by rw [hw2];simp
    have bx:=hw2 ▸ Bk.new W3 #[.slice A2 L.length c2] 32;have y6:Bk w2 _ _ _:=hw2 ▸ x6.alloc (.cells #[.slice A2 L.length c2] 32);have y8:Bk w2 _ _ _:=hw2 ▸ x8.alloc (.cells #[.slice A2 L.length c2] 32);have y0:Bk W3 w.heap.size #[.slice A k c] 118:=(k3 _ (by omega)).trans ((hV _ _ _ (by decide) (by decide) (by decide) d0).alloc _);replace y0:Bk w2 _ _ _:=hw2 ▸ y0.alloc (.cells #[.slice A2 L.length c2] 32);have e4:Bk w2 _ _ _:=hw2 ▸ e3.alloc (.cells #[.slice A2 L.length c2] 32);have r4:w2.ownsRow (w.heap.size + 1) 3 1 (.slice A2 L.length c2) L.length (ints L):=hw2 ▸ r5.alloc (.cells #[.slice A2 L.length c2] 32);have bw4:Below w.heap.size w w2:=by
     have q1:Below w.heap.size W1 wr:=hK.below (by omega) (by omega);have q2:Below w.heap.size wr W3:=((Below.refl _ wr).alloc (by omega) _).trans (b3.below (by omega) (by omega));rw [hw2];exact ((hW0.trans q1).trans q2).alloc (by omega) _
    rw [←hw2];clear hw2 kb hcl e3 s3a s3b s3c k3 b3 x6 x5 x8 r5 c5 c6 hv hr hrR hb6;obtain ⟨L',hL'⟩:∃L':List { i:Nat // i<k },zgc L'=L:=⟨L.pmap Subtype.mk fun a ha=>(hO.mem a).1 ha,by simp [zgc,List.map_pmap]⟩;subst hL';have hln:(zgc L').length=L'.length:=by simp [zgc]
    have hlk:=hlo.out;rw [hln] at hlk r4 bx;obtain ⟨A3,c3,e34,hrd⟩:=Rd.own r4;injection e34 with e34 _ e35
    subst e34 e35;have hg4:=h1.below (bw4.mono hB);have hseq:=zlc (m-1) (by omega) W3.heap.size L' A2 c2 w2.heap.size (w.heap.size + 1 + 1) wr.heap.size w2 (Nat.le_refl _) bx.cell' hrd
     (fun bb o e=>by
      have hob:(Value.slice A2 L'.length c2).ownBlock=some bb:=by rw [e];rfl
      refine ⟨(r4.lt bb hob).2,fun e'=>zdc e4 r4 (by decide) (e' ▸ hob),fun e'=>zdc y8 r4 (by decide) (e' ▸ hob)⟩)
     ⟨by omega,by omega,by omega⟩ (by omega)
    obtain ⟨i0,hi0,hz0',hz1',hz2'⟩:=info_parts zlB;have hs0:W1.heap.size≤wr.heap.size:=hK.size;refine wpIn_rangeFunc_ownH (w0:=w2) rfl (by omega) (gf:=130) (lb:=#[.pointer (some ⟨W3.heap.size,0,none⟩)]) rfl trivial (enters_of Tryz.func130 (by kernel_rfl) rfl)
     hseq (fun h k=>h.trans k) (fun W l o o' h1 _ _ _=>Kq.putObj W l o' h1) (Below.refl _ _) (fun _=>rfl)
     (RI w w2 l k (w.heap.size + 1 + 1) wr.heap.size L')
     (fun _ _ _=>False)
     (fun pre X Y row hI hg hr=>hI.stay bw4.size hg hr)
     (fun _ _ _ _ _ hs _ _=>hs)
     ⟨⟨_,[],_,e4,by simp,y8,⟨[],World.ownsRow_nil _ _ _ _,fun i r h=>by simp at h⟩,by simp,fun _=>Told.start⟩,Kq.refl _ _ _ _,bw4⟩
     (fun x a' W=>a'={ tmps:=#[.slice A k c,.slice A' k c',.pointer (some ⟨w.heap.size,0,none⟩),undef,.slice none 0 0,.pointer (some ⟨w.heap.size + 1,0,none⟩),.pointer (some ⟨w.heap.size + 1 + 1 + 1,0,none⟩),u7,.pointer (some ⟨wr.heap.size,0,none⟩),undef,.int .i64 (x.2.1:Int),undef,.slice A' k c',.int .i64 (k:Int),.slice (some ⟨w.heap.size + 1 + 1,0,none⟩) k k,.slice A' k c',.int .i64 (k:Int),.int .i64 (k:Int),.bool false,u19,u20,u21,u22,u23,u24,u25,.slice (some ⟨w.heap.size + 1 + 1,0,none⟩) k k,.slice A2 k c2,.func (.func 130) #[] #[.pointer (some ⟨wr.heap.size + 1,0,none⟩)],.int .i64 (x.1:Int),.int .i64 (x.2.1:Int),undef,undef,undef,undef,undef,undef,undef,undef,undef,undef,undef,undef,undef],defers:=[] })
     (fun x a' _ X Y row hs hg hr=>hs)
     ?assign ?body ?done ?stop
    case assign =>
     intro l2 pre x W K hI hK2;simp only [plEnc];gi_wp2
     exact hK2 _ _ ((KeepsOthers.refl _).from _) (Kq.refl _ _ _ _) hI rfl
    case body =>
     rintro l2 pre x a' W hl2 ⟨r,hr⟩ hI rfl hlt;obtain ⟨⟨s5,all,v8,m1,m2,m3,m4,m5,m6⟩,m7,m8⟩:=hI;have hWs:=m7.size;have hxk:=x.2.2;have z0:Bk W _ _ _:=(m7.same w.heap.size (by omega) (by omega) (by omega)).trans y0;have z6:Bk W _ _ _:=(m7.same (w.heap.size + 1 + 1 + 1) (by omega) (by omega) (by omega)).trans y6;have c0:=(z0.alloc (.cells #[.slice none 0 0] 32)).cell';have c6:=(z6.alloc (.cells #[.slice none 0 0] 32)).cell';have hGw:Gr W B A c k l:=h1.below (m8.mono hB);have hS5:Sw (W.alloc (.cells #[.slice none 0 0] 32)) W.heap.size (w.heap.size + 1 + 1) W.heap.size k s5 []:=⟨m1.alloc _,⟨⟨_,Bk.new W _ _,World.ownsRow_nil _ _ _ _⟩,Nat.le_refl _⟩,m2⟩;have hcl5:s5.count false≤k:=by rw [←m2];exact List.count_le_length
     have kw:=walk_any (w:=W.alloc (.cells #[.slice none 0 0] 32)) (s:=s5) (L:=[]) (a:=x.2.1) 89 (M0:=B) (M:=W.heap.size) (gs:=w.heap.size + 1 + 1) (go:=W.heap.size) (n:=k) (c:=c) (cs:=k) (A:=A) (l:=l) (by omega) (by omega) (by omega)
      (enters_of Tryz.func89 (by kernel_rfl) rfl) (fun w L k h hl=>leave2_any h k hl) (s5.count false) (Nat.le_refl _) hxk (hGw.below ((Below.refl _ _).alloc (by omega) _)) hS5 (by simp;omega)
     gi_wp2
     refine ⟨trivial,fun e=>(by cases e),CallsIn.inRound l2 ((callsIn_wide.2 kw).mono ?_)⟩;rintro e w3 ⟨rfl,s6,L6,hW6,hS6,hK6,hV6⟩;rw [List.nil_append] at hS6;obtain ⟨rv,hrv,hrr⟩:=hS6.od.one;obtain ⟨A6,c6',rfl,_⟩:=Rd.own hrr;obtain ⟨k1,k2,k3',k4⟩:=zmI (w:=w) (W4:=w2) (gs:=w.heap.size + 1 + 1) ⟨by omega,by omega,by omega⟩ m7 m8 hK6;have t6:=zmN h1.inr hO m6 hW6;have n8:Bk w3 wr.heap.size #[v8] 121:=hV6 _ _ _ (by decide) (by decide) (by decide) (m3.alloc _);obtain ⟨vs,mv1,mv2⟩:=m4;have mv1':=zjK mv1 (by decide) m1 k4;have mv2':∀(i:Nat) (r:List Nat),all[i]? = some r→∃u:Value,vs[i]? = some u∧w3.ownsRow w2.heap.size 3 1 u r.length (ints r):=fun i r hi=>by
      obtain ⟨u,hu,hr⟩:=mv2 i r hi;exact ⟨u,hu,zjK hr (by decide) m1 k4⟩
     have cr:=hrv.cell';have hl3:w2.heap.size≤w3.heap.size:=by have:=k1.size;omega
     by_cases h60:L6=[]
     · have hz:¬((L6.length:Int) > 0):=by rw [h60];simp
       rw [if_pos h60] at t6;have h60:=Lib.hid h60;gi_wp2
       exact ⟨k1,k2,⟨s6,all,v8,hS6.seen,hS6.len,n8,⟨vs,mv1',mv2'⟩,by rw [List.length_append];omega,t6⟩,m7.trans k2,k3'⟩
     · have hz:((L6.length:Int) > 0):=by have:=List.length_pos_iff.2 h60;omega
       rw [if_neg h60] at t6;have h60:=Lib.hid h60;have c8:=n8.cell';have f8:=n8.fz 0;obtain ⟨A8,c8',rfl,_⟩:=Rd.own mv1';gi_wp2_with (gi_at_builtin;refine wpListIn_append_own _ rfl (.tmp 39) (.tmp 41) 121 rfl w2.heap.size 32 i0 (.slice none 0 0) 1 24 Tryz.underlying121 hi0 hz0' hz1' hz2' rfl (by decide) _ all.length vs rfl (mv1'.alloc _) ⟨w3.heap.size,0,none⟩ 1 1 [.slice A6 L6.length c6'] rfl rfl (zbn _ _ _) (fun u hu=>by simp at hu;subst hu;rfl) (by simp only [maxLen];omega) (by omega) (by simp;omega) ?_;intro v9 w5 hown5 hg5 _;obtain ⟨A9,c9',rfl,_⟩:=Rd.own hown5;have hb5:=zjV n8 mv1' hg5;have cb5:=hb5.cell';have fb5:=hb5.fz 0)
       obtain ⟨j1,j2,j3,j4,j5,j6⟩:=zmv (w:=w) ⟨by omega,by omega,by omega,hl3⟩ n8 hS6.seen mv1' mv2' (zav hrr (by omega)) hg5 hown5;exact ⟨k1.trans j1,k2.trans j2,⟨s6,all ++ [L6],_,j4,hS6.len,j5,j6,by rw [List.length_append,List.length_append];simp;omega,t6⟩,m7.trans (k2.trans j2),k3'.trans j3⟩
    case done =>
     rintro D ys W hD rfl hI hK3;have c8:∃v8,W.cell? ⟨wr.heap.size,0,none⟩=some v8∧∃s5 all,VRing w2.heap.size (W.putObj D (.deferred none)) v8 all∧Told l k (zgc L') s5 all∧Below w.heap.size w (W.putObj D (.deferred none)):=by
      have hI2:=hI.stay bw4.size (grownBy_putObj' W D (.deferred none)) (fun r e=>by cases e;exact ⟨hD,_,hK3,rfl⟩);obtain ⟨⟨s5,all,v8,m1,m2,m3,m4,m5,m6⟩,m7,m8⟩:=hI2;obtain ⟨⟨_,_,v8',_,_,m3',_,_,_⟩,_,_⟩:=hI;have e8:v8'=v8:=by
       have q:=m3'.stay (grownBy_putObj' W D (.deferred none)) (fun r e=>by cases e;exact ⟨_,hK3,rfl⟩);have:=q.cell'.symm.trans m3.cell';exact Option.some.inj this
      subst e8;have hb:(bk L').map (·.2)=L'.reverse:=by
       unfold bk;rw [List.map_reverse,List.map_snd_zip (by simp)]
      have t6:=m6 (List.prefix_rfl);rw [hb,List.reverse_reverse] at t6;exact ⟨v8',m3'.cell',s5,all,m4,t6,m8⟩
     obtain ⟨v8,c8,s5,all,m4,t6,m8⟩:=c8;gi_wp2
     refine ⟨by simp,.inl ⟨_,_,rfl,run_takeDeferred hK3,?_⟩⟩;obtain ⟨vs,q1,q2⟩:=m4;exact ⟨_,results_tmp rfl _ _ _,_,rfl,all,zgc L',hO,⟨s5,t6⟩,⟨vs,zav q1 bw4.size,fun i r hi=>by obtain ⟨u,hu,hr⟩:=q2 i r hi;exact ⟨u,hu,zav hr bw4.size⟩⟩,m8⟩
    case stop =>
     rintro D c pre W _ _ h _;exact h.elim
end Go.Proofs.YtiepddmagfmllaaGreat
