import Derived.Maps.Range
import Derived.Sort.MapsRangeIn
import Derived.ProofKit
import Derived.OpenShut
import Derived.ShutString
import Derived.ChangeOld
import Derived.SliceStrings
import Derived.ChangeMaps
import Derived.SizedLaws
import Derived.Deep.Slices
import Derived.Deep.Fields
import Derived.Test.YtmblgnddgmfkhaaGreatQ11
set_option maxRecDepth 100000
set_option maxHeartbeats 4000000
namespace Go.Proofs.YtmblgnddgmfkhaaGreat
section
open Go.RowKit Go.Maps Go.Shelf
attribute [local go_sem] Oper.semAt_some
open Go.RowKit Go.Shelf Go.Maps
attribute [local go_sem] Oper.semAt_some
variable {L ss:List Ed} {left:Lit→Bool}
def ziO (e:Ed):Value:=.agg (za0 e).toArray
def Fits (e:Ed):Prop:=(Lit.int .i64 e.1).wf=true∧(Lit.int .i64 e.2.1).wf=true
theorem zi2 {e:Ed} (h:Fits e):keyOf Tryz.prog 207 (ziO e)=some (kE e):=zi1 h.1 h.2
structure KeysAre {H:Type} (D0:DataW H) (L:List Ed):Prop where
 fits:∀e ∈ L,Fits e
 nodup:L.Nodup
 mem:∀e ∈ L,has D0 (kE e)=true
 only:∀kl,has D0 kl=true→∃e ∈ L,kE e=kl
structure CollE (L:List Ed) (left:Lit→Bool) (ss:List Ed):Prop where
 nodup:ss.Nodup
 mem:∀x ∈ ss,x ∈ L
 iff:∀x ∈ L,x ∈ ss↔left (kE x)=false
theorem CollE.start {H:Type} {D0:DataW H} (h:KeysAre D0 L):CollE L (has D0) []:=⟨ycO,fun _ h=>by simp at h,fun x b=>by simp [h.mem x b]⟩
theorem CollE.step {H:Type} {D0:DataW H} (hK:KeysAre D0 L) (h:CollE L left ss) {x:Ed} (hx:x ∈ L) (hl:left (kE x)=true):CollE L (fun z=>left z && !z.sameKey (kE x)) (ss ++ [x]):=by
 have j:x ∉ ss:=fun k=>by rw [(h.iff x hx).1 k] at hl;cases hl
 refine ⟨ya7.2 ⟨h.nodup,by simp,fun a m b hb=>by simp at hb;subst hb;exact fun e=>j (e ▸ m)⟩,fun y d=>?_,fun y d=>?_⟩
 · rcases yaz.1 d with d | d
   · exact h.mem y d
   · simp at d;exact d ▸ hx
 · by_cases e:y=x
   · subst e;simp [kE,Lit.sameKey]
   · have f:kE y≠kE x:=fun g=>e (kE_inj (hK.fits y d).1 (hK.fits y d).2 (hK.fits x hx).1 (hK.fits x hx).2 g);have n:(kE y).sameKey (kE x)=false:=by
      simp only [kE,Lit.sameKey,ybc,ne_eq];exact fun g=>f (by simp only [kE];rw [g])
     simp [h.iff y d,n,e]
theorem CollE.perm (h:CollE L left ss) (hn:L.Nodup) (hl:∀kl,left kl=false):ss.Perm L :=
 (ych h.nodup hn).2 fun x=>⟨h.mem x,fun b=>(h.iff x b).2 (hl _)⟩
theorem CollE.short (h:CollE L left ss) (hL:L.Nodup) {x:Ed} (hx:x ∈ L) (hl:left (kE x)=true):ss.length<L.length:=by
 have d:x ∉ ss:=fun f=>by rw [(h.iff x hx).1 f] at hl;cases hl
 have g:(L.filter fun y=>decide (y ∈ x::ss)).Perm (x::ss):=(ych (hL.filter _) (ybT.2 ⟨d,h.nodup⟩)).2 fun y=>by
  rw [ybd,yaP];refine ⟨fun b=>b.2,fun b=>⟨?_,b⟩⟩;rcases yav.1 b with rfl | b
  · exact hx
  · exact h.mem y b
 have j:=g.length_eq;have b:=ybf (fun y=>decide (y ∈ x::ss)) L;rw [yaq] at j;omega
theorem keys_in {H:Type} {R:Value→Option (DataW H × List MemPlace)} {D0:DataW H} (hK:KeysAre D0 L) (n:Nat) (hn:1≤n) (l Bm b nn:Nat) (J Jx:List Ed→World→Prop) (W:World) (hJ:AbidesFrom W.heap.size J)
 (hm:W.cell? ⟨Bm,0,none⟩=some (.map (some b))) (hown:W.ownsMap Tryz.prog 207 R b nn D0)
 (hY:∀pre x W1,J pre W1→pre.length<L.length→YieldAt Fence.wide (n-1) Tryz.prog l #[ziO x] W1 fun e W' =>
  (e = .returned (.bool true)∧J (pre ++ [x]) W'∧KeepsWalks W1 W')∨(e = .returned (.bool false)∧Jx (pre ++ [x]) W'))
 (h0:J [] W) :
 CallsIn Fence.wide n Tryz.prog 177 #[.func (.yield l) #[] #[],.pointer (some ⟨Bm,0,none⟩)] W fun e W'=>(∃v,e = .returned v) ∧
  ((∃ys,ys.Perm L∧J ys W')∨(∃pre,True∧Jx pre W')):=by
 refine callsIn_of_wp Tryz.func177 rfl trivial ?_ rfl;simp only [Tryz.ntmps177,ybv,yaq,yaI,Nat.reduceAdd,Nat.reduceSub,ybL,ybO,ybX,ybR,yba,ybs];gi_wp2_with (first
  | (gi_at_range;refine wpListIn_range_own _ rfl _ 219 rfl 207 168 zii Tryz.underlying219 _ b nn _ rfl hown ?_;intro Q k A T)
  | fail)
 go_frame
 gi_loopw [3] (fun _ wr=>∃(left:Lit→Bool) (cnt:Nat) (d:List Ed),wr.ranges Tryz.prog 207 R b W.heap.size nn D0 left cnt∧CollE L left d∧J d wr)
  (fun _ wr=>wr.rangeLeft b W.heap.size)
 case atStart =>
  exact ⟨_,_,[],k,CollE.start hK,hJ [] W Q none h0 A (fun r e=>by cases e)⟩
 case round =>
  obtain ⟨left,cnt,d,g,B,m⟩:=hrel;gi_wp2_with (first
   | (gi_at_next;refine wpListIn_next_ranges _ rfl _ rfl 207 zii R (id:Value→Value) (id:Value→Value) (fun key _ _=>⟨key,rfl⟩) (fun v _ _=>⟨v,rfl⟩) b W.heap.size nn _ _ _ rfl g ?_ ?_)
   | fail)
  · intro U C;gi_wp2
    go_end0
    exact ⟨⟨_,rfl⟩,.inl ⟨d,B.perm hK.nodup C,m⟩⟩
  · intro x c kl yd yp w2 o p q hv D s E F G V;obtain ⟨e,j,rfl⟩:=hK.only kl (has_true_of_atKey D);obtain rfl:x=ziO e:=zii.inj p (zi2 (hK.fits e j));have I:J d w2:=hJ d wr w2 (some W.heap.size) m F (fun r e=>by cases e;exact ⟨yaj _,g.iter_walk⟩);have K:J d (w2.alloc (.cells (za0 e).toArray 207)):=hJ d w2 _ none I (World.grownBy_alloc _ _ _) (fun r e=>by cases e);have u:=s.of_walks (KeepsWalks.alloc w2 (.cells (za0 e).toArray 207));obtain ⟨fn,O,z,P,hy,X⟩:=hY d e _ K (B.short hK.nodup j q);clear G;obtain ⟨Y,Z,e3⟩:=e;simp only [ziO,za0] at *
    gi_wp2
    refine X.mono ?_;rintro r W3 (⟨rfl,M,N⟩ | ⟨rfl,y⟩)
    · gi_wp2
      have f:=u.of_walks N;go_roundw
      case rel=>exact ⟨_,o,d ++ [(Y,Z,e3)],f,B.step hK j q,M⟩
      case measure=>rw [f.left_eq,g.left_eq];exact E
    · gi_wp2
      refine bodyPost_ret (results_none rfl _ _ _) rfl ?_;exact ⟨⟨_,rfl⟩,.inr ⟨_,trivial,y⟩⟩
theorem zpM {H:Type} {R:Value→Option (DataW H × List MemPlace)} {D0:DataW H} (hK:KeysAre D0 L) (n:Nat) (hn:1≤n) (Bm b nn:Nat) (w:World)
 (hm:w.cell? ⟨Bm,0,none⟩=some (.map (some b))) (hown:w.ownsMap Tryz.prog 207 R b nn D0) :
 SeqStopsK Fence.wide n Tryz.prog 177 #[.pointer (some ⟨Bm,0,none⟩)] (fun e:Ed=>#[ziO e]) KeepsWalks (fun ys=>ys.Perm L) (fun _=>True) L.length w:=fun l J k W j m _ o q=>by
 have d:W.ownsMap Tryz.prog 207 R b nn D0:=by
  have g:=hown.lt;obtain ⟨s,f,hb,u,x,y⟩:=hown;exact ⟨s,f,(j.block b g).trans hb,u,x,y⟩
 exact keys_in hK n hn l Bm b nn J k W m ((j.cell (p:=⟨Bm,0,none⟩) (World.block_lt_of_cell? w _ hm)).trans hm) d o q
theorem keys_any (m:Option Nat) (w:World):Calls Tryz.prog 125 #[.map m] w fun e w' =>
 e = .returned (.func (.func 177) #[] #[.pointer (some ⟨w.heap.size,0,none⟩)])∧w'=w.alloc (.cells #[.map m] 219):=by
 go_enter Tryz.func125,Tryz.ntmps125
 go_wp2
 go_ret
 exact ⟨rfl,rfl⟩
structure ApI (w0:World) (Bs:Nat) (pre:List Ed) (W:World):Prop where
 one:∃v,Bk W Bs #[v] 149∧W.ownsRow w0.heap.size 207 3 v pre.length (zay pre)
 below:Below w0.heap.size w0 W
theorem ApI.stay {w0 X Y:World} {Bs:Nat} {pre:List Ed} {row:Option Nat} (h:ApI w0 Bs pre X) (hg:X.grownBy Y row) (hr:∀r,row=some r→w0.heap.size≤r∧∃o:Obj,X.heap[r]? = some o∧o.isCells=false):ApI w0 Bs pre Y:=by
 obtain ⟨⟨v,f,g⟩,d⟩:=h;have b:∀r,row=some r→∃o:Obj,X.heap[r]? = some o∧o.isCells=false:=fun r e=>(hr r e).2;exact ⟨⟨v,f.stay hg b,zji g hg b⟩,d.grown hg d.size fun r e=>(hr r e).1⟩
theorem zqv {w:World} {B e s n:Nat} {v:Value} {xs:List Value} (h:w.ownsRow B e s v n xs):∀(j:Nat) (o:Obj),v.ownBlock=some j→w.heap[j]? = some o→o.isCells=true:=fun j o b f=>by
 rcases h.2 with ⟨rfl,_⟩ | ⟨m,g,k,rfl,_,d,_⟩
 · simp [Value.ownBlock] at b
 simp only [Value.ownBlock,yaT] at b;subst b;rw [d] at f;cases f;rfl
theorem zqe (W:World) (e:Ed):∀j u,(za0 e)[j]? = some u→(W.alloc (.cells (za0 e).toArray 207)).cell? (Addr.add ⟨W.heap.size,0,none⟩ j)=some u:=fun j u h=>by
 have:=(Bk.new W (za0 e).toArray 207).cell j;rw [ybU,h] at this;rw [←this];by_cases b:j=0
 · subst b;rfl
 · simp [Addr.add,b]
theorem zmd {w0 W w5:World} {Bs:Nat} {pre:List Ed} {x:Ed} {v v9:Value} (o:Obj) (hBs:w0.heap.size≤Bs) (h1:Bk W Bs #[v] 149) (h2:W.ownsRow w0.heap.size 207 3 v pre.length (zay pre)) (h3:Below w0.heap.size w0 W)
 (hg:(W.alloc o).grownBy w5 v.ownBlock) (h5:w5.ownsRow w0.heap.size 207 3 v9 (pre.length + 1) (zay pre ++ za0 x)) :
 KeepsOthers W (w5.setCell ⟨Bs,0,none⟩ v9)∧ApI w0 Bs (pre ++ [x]) (w5.setCell ⟨Bs,0,none⟩ v9):=by
 have b:Bk w5 Bs #[v] 149:=zbt (h1.alloc o) (h2.alloc o) yac hg;refine ⟨((KeepsOthers.alloc W o).trans (KeepsOthers.of_grownBy hg (zqv (h2.alloc o)))).trans (KeepsOthers.setCell _ _ _),⟨v9,?_,?_⟩,?_⟩
 · have:=b.set 0 v9;simpa using this
 · rw [yam,zfu];have e:zay [x]=za0 x:=by simp [zay]
   rw [e];exact zaD h5 fun g d=>Below.heap_setCell _ _ _ _ fun e=>zdK b h5 yac ((show g=Bs from e) ▸ d)
 · exact (zaf (h3.alloc h3.size o) hg (h2.alloc o) (size_alloc h3.size) (yaj _)).setCell hBs _
theorem appendSeq_in (m:Nat) (hm:4≤m) {H:Type} {R:Value→Option (DataW H × List MemPlace)} {D0:DataW H} (hK:KeysAre D0 L) (hL:L.length≤1000000) (Bm b nn:Nat) (w:World)
 (hmm:w.cell? ⟨Bm,0,none⟩=some (.map (some b))) (hown:w.ownsMap Tryz.prog 207 R b nn D0) :
 CallsIn Fence.wide m Tryz.prog 225 #[.slice none 0 0,.func (.func 177) #[] #[.pointer (some ⟨Bm,0,none⟩)]] w fun e w' =>
  ∃v ys,e = .returned v∧ys.Perm L∧w'.ownsRow w.heap.size 207 3 v ys.length (zay ys)∧Below w.heap.size w w':=by
 obtain ⟨i0,B,C,E,F⟩:=info_parts zgT;refine callsIn_of_wp_marks Tryz.func225 rfl trivial ?_ rfl;simp only [Tryz.ntmps225,ybv,yaq,yaI,Nat.reduceAdd,Nat.reduceSub,ybL,ybO,ybX,ybR,yba,ybs];gi_wp2
 have hseq:=zpM hK (m-1) yab Bm b nn w hmm hown;have q:Below w.heap.size w (w.alloc (.cells #[.slice none 0 0] 149)):=(Below.refl _ w).alloc (yaj _) _;have x2:=Bk.new w #[.slice none 0 0] 149;have a6:(w.alloc (.cells #[.slice none 0 0] 149)).heap.size=w.heap.size + 1:=by simp
 generalize w.alloc (.cells #[.slice none 0 0] 149)=w2 at *
 refine wpIn_rangeFunc_ownH (w0:=w) rfl yab (gf:=177) (lb:=#[.pointer (some ⟨Bm,0,none⟩)]) rfl trivial (enters_of Tryz.func177 yaa rfl)
  hseq (fun h k=>h.trans k) (fun W l o o' _ f _ h4=>KeepsWalks.putObj o' f h4) q (fun _=>rfl)
  (ApI w w.heap.size)
  (fun _ _ _=>False)
  (fun pre X Y row j G s=>j.stay G (fun r e=>⟨by have:=(s r e).1;omega,(s r e).2⟩))
  (fun _ _ _ _ _ I _ _=>I)
  ⟨⟨_,x2,World.ownsRow_nil _ _ _ _⟩,q⟩
  (fun x J W=>∃g,Bk W g (za0 x).toArray 207∧J={ tmps:=#[.slice none 0 0,.func (.func 177) #[] #[.pointer (some ⟨Bm,0,none⟩)],.pointer (some ⟨w.heap.size,0,none⟩),undef,.slice none 0 0,.pointer (some ⟨g,0,none⟩),.func (.func 177) #[] #[.pointer (some ⟨Bm,0,none⟩)],ziO x,undef,undef,undef,undef,undef],defers:=[] })
  (fun x J _ X Y row I G s=>by
   obtain ⟨g,n,f⟩:=I;exact ⟨g,n.stay G (fun r e=>(s r e).2),f⟩)
  ?assign ?body ?done ?stop
 case assign =>
  intro l2 pre x W K j M;obtain ⟨N,O,P⟩:=x;simp only [ziO,za0] at *
  gi_wp2
  exact M _ _ ((KeepsOthers.alloc _ _).from _) (KeepsWalks.alloc _ _) (j.stay (World.grownBy_alloc _ _ none) (fun r e=>by cases e)) ⟨_,Bk.new W _ _,rfl⟩
 case body =>
  rintro l2 pre x J W a7 ⟨r,s⟩ j ⟨g,Q,rfl⟩ a8;obtain ⟨⟨v,n,f⟩,T⟩:=j;have aa:=Q.cell 0;have ab:=Q.cell 1;have ac:=Q.cell 2;have U:=zqe W x;have u:=zgK x;have ad:=@zmd w W;obtain ⟨A,c,rfl,_⟩:=Rd.own f;have c2:=n.cell';obtain ⟨N,O,P⟩:=x;simp only [ziO,za0,ybU,ybq,ybe] at *
  gi_wp2_with (gi_at_builtin;refine wpListIn_append_own _ rfl (.tmp 8) (.tmp 10) 149 rfl w.heap.size 207 i0 (.agg #[.int .i64 0,.int .i64 0,.bool false]) 3 24 Tryz.underlying149 B C E F rfl yac _ pre.length (zay pre) rfl (f.alloc _) ⟨W.heap.size,0,none⟩ 1 1 [.int .i64 N,.int .i64 O,.bool P] rfl rfl U u yad yab (size_alloc T.size) ?_;intro v9 w5 d y _;obtain ⟨q1,q2⟩:=zmd (x:=(N,O,P)) _ (yaj _) n f T y d;have z:=zbt (n.alloc _) (f.alloc _) yac y;obtain ⟨A9,c9,rfl,_⟩:=Rd.own d;have f5:=z.fz 0;have c5:=z.cell')
  exact ⟨q1.from _,q1.walks,q2⟩
 case done =>
  rintro D ys W hD hp j p;have V:=j.stay (grownBy_putObj' W D (.deferred none)) (fun r e=>by cases e;exact ⟨by omega,_,p,rfl⟩);obtain ⟨⟨v,n,f⟩,T⟩:=j;have c2:=n.cell';obtain ⟨⟨v',Z,a1⟩,a2⟩:=V;obtain rfl:v=v':=yaX ((n.stay (grownBy_putObj' W D (.deferred none)) (fun r e=>by cases e;exact ⟨_,p,rfl⟩)).cell'.symm.trans Z.cell');gi_wp2
  refine ⟨by simp,.inl ⟨_,_,rfl,run_takeDeferred p,?_⟩⟩;exact ⟨_,results_tmp rfl _ _ _,v,ys,rfl,hp,a1,a2⟩
 case stop =>
  rintro D c pre W _ _ h _;exact h.elim
end
section
open Go.ChangeShapes Go.WideShapes Go.ChangeAt Go.RowKit
theorem own_:ownKnob Tryz.prog.godebug=none:=by kernel_rfl
theorem zmH:laidOutB Tryz.prog=true:=by kernel_rfl
section
variable {H:Type} {enc:TypeId × Value→H} {P:Program} {W:World} {base:Nat} {spare:Nat→Bool} {held:Bool}
end
theorem wf_i64 {z:Int} (h:(Lit.int .i64 z).wf=true) : -9223372036854775808≤z∧z≤9223372036854775807:=by
 simpa [Lit.wf,IntKind.min,IntKind.max,IntKind.signed,IntKind.bits] using h
end
section
open Go.ChangeShapes Go.WideShapes Go.ChangeAt Go.RowKit
theorem zgQ {α:Type} {sz:Nat}:∀{E:List (List α)},(∀l ∈ E,l.length=sz)→∀{i r:Nat} {l:List α},E[i]? = some l→r<sz→E.flatten[i * sz + r]? = l[r]?
 | [],_,i,r,l,h,_=>by simp at h
 | c::E,f,i,r,l,h,g=>by
  have b:=f c (yat ..);rw [ybQ];cases i with
  | zero =>
   simp at h;subst h;rw [Nat.zero_mul,yaG,ybr (by rw [b];exact g)]
  | succ i =>
   rw [yaF (by rw [b,ycE];omega),b,show (i + 1) * sz + r-sz=i * sz + r from by rw [ycE];omega];exact zgQ (fun d j=>f d (yau _ j)) (by simpa using h) g
section
variable {H:Type} {enc:TypeId × Value→H} {P:Program} {W:World} {base:Nat} {spare:Nat→Bool} {held:Bool}
def Sz (P:Program) (R:Nat) (t:TypeId) (d:DataW H):Prop:=∀k ∈ d.weights P t,k≤R
theorem zfD {R:Nat} {t:TypeId} {fuel:Nat} {cs:List Value} {y:DataW H × List MemPlace} (ht:P.underlying t=some .string) (h:DataW.trod enc P W base spare held fuel t cs=some y) (hS:Sz P R t y.1):∃s:ByteArray,cs=[.string s]∧s.size≤R:=by
 obtain ⟨s,b,rfl,_⟩:=DataW.trod_string ht h;exact ⟨s,b,hS _ (by simp [DataW.weights])⟩
end
end
section
open Go.ChangeShapes Go.WideShapes Go.ChangeAt Go.RowKit
section
variable {H:Type} {enc:TypeId × Value→H} {P:Program} {W:World} {base:Nat} {spare:Nat→Bool} {held:Bool}
def zoH (s:ByteArray × ByteArray):List Value:=[.string s.1,.string s.2]
def aOp (o:OpI):List Value:=[.int .i64 o.1,.string o.2.1,.string o.2.2]
end
structure RelA where
 name:ByteArray
 view:ByteArray
 edit:ByteArray
 check:ByteArray
 As:Option Addr
 cs:Nat
 subs:List (ByteArray × ByteArray)
 Ao:Option Addr
 co:Nat
 ops:List OpI
def RelA.cells (a:RelA):List Value:=[.string a.name,.string a.view,.string a.edit,.string a.check,.slice a.As a.subs.length a.cs,.slice a.Ao a.ops.length a.co]
def RelA.says (a:RelA):RelI:=⟨a.name,a.view,a.edit,a.check,a.subs,a.ops⟩
structure RelA.ok (W:World) (R:Nat) (a:RelA):Prop where
 name:a.name.size≤R
 view:a.view.size≤R
 edit:a.edit.size≤R
 check:a.check.size≤R
 subs:Rd W W.heap.size 2 a.As a.subs.length a.cs (a.subs.flatMap zoH)
 subn:a.subs.length * 32≤R
 subz:∀s ∈ a.subs,s.1.size≤R∧s.2.size≤R
 ops:Rd W W.heap.size 3 a.Ao a.ops.length a.co (a.ops.flatMap aOp)
 opn:a.ops.length * 40≤R
 opz:∀o ∈ a.ops,(Lit.int .i64 o.1).wf=true∧o.2.1.size≤R∧o.2.2.size≤R
structure TypA where
 name:ByteArray
 A:Option Addr
 c:Nat
 rels:List RelA
def TypA.cells (a:TypA):List Value:=[.string a.name,.slice a.A a.rels.length a.c]
def TypA.says (a:TypA):TypI:=⟨a.name,a.rels.map RelA.says⟩
structure TypA.ok (W:World) (R:Nat) (a:TypA):Prop where
 name:a.name.size≤R
 rels:Rd W W.heap.size 6 a.A a.rels.length a.c (a.rels.flatMap RelA.cells)
 reln:a.rels.length * 112≤R
 relz:∀r ∈ a.rels,r.ok W R
section
variable {H:Type} {enc:TypeId × Value→H} {W:World} {base:Nat} {spare:Nat→Bool} {held:Bool}
end
end
section
open Go.RowKit
open Go.RowKit
open Go.RowKit
variable {B:Nat} {w':World}
def TypC (w:World) (B:Nat) (ys:List Value) (t:TypP):Prop:=∃vr,ys=[.string t.name,vr]∧VRels B w vr t.rels
def TypsC (w:World) (B:Nat):List TypP→List Value→Prop
 | [],xs=>xs=[]
 | x::r,xs=>∃ys zs,xs=ys ++ zs∧TypC w B ys x∧TypsC w B r zs
def zgt (w w':World) (B:Nat):Prop:=Keeps w w' B∧∀v n xs,w.ownsRow B 203 6 v n xs→w'.ownsRow B 203 6 v n xs
theorem VRels.keep {w:World} (hk:zgt w w' B) {v:Value} {l:List RelP} (h:VRels B w v l):VRels B w' v l:=by
 obtain ⟨b,d,f⟩:=h;exact ⟨b,hk.2 _ _ _ d,f.keep hk.1⟩
theorem TypsC.keep {w:World} (hk:zgt w w' B):∀{l:List TypP} {xs:List Value},TypsC w B l xs→TypsC w' B l xs
 | [],_,h=>h
 | _::_,_,h=>by
  obtain ⟨b,d,e,⟨f,g,j⟩,k⟩:=h;exact ⟨b,d,e,⟨f,g,j.keep hk⟩,TypsC.keep hk k⟩
theorem TypsC.snoc {w:World} {y:TypP} {ws:List Value} (hy:TypC w B ws y):∀{l:List TypP} {xs:List Value},TypsC w B l xs→TypsC w B (l ++ [y]) (xs ++ ws)
 | [],xs,h=>by
  have:xs=[]:=h;subst this;exact ⟨ws,[],by simp,hy,rfl⟩
 | x::r,xs,h=>by
  obtain ⟨b,d,e,f,g⟩:=h;exact ⟨b,d ++ ws,by rw [e,yaB],f,TypsC.snoc hy g⟩
theorem VRels.base {w:World} {B':Nat} (h:B'≤B) {v:Value} {l:List RelP} (hr:VRels B w v l):VRels B' w v l:=by
 obtain ⟨b,d,f⟩:=hr;exact ⟨b,zax d h,Keeps.base h f⟩
theorem TypsC.base {w:World} {B':Nat} (h:B'≤B):∀{l:List TypP} {xs:List Value},TypsC w B l xs→TypsC w B' l xs
 | [],_,h=>h
 | _::_,_,b=>by
  obtain ⟨d,f,e,⟨g,j,k⟩,m⟩:=b;exact ⟨d,f,e,⟨g,j,k.base h⟩,TypsC.base h m⟩
def VTyps (B:Nat) (w:World) (v:Value) (l:List TypP):Prop:=∃xs,w.ownsRow B 199 2 v l.length xs∧TypsC w B l xs
def zk7 (B:Nat) (w:World) (v:Value) (l:List TypP):Prop:=∃vt,v = .agg #[vt]∧VTyps B w vt l
theorem zpG {g:Nat} {w:World} (hk:Kp g w.heap.size w w') (hg:g<B):zgt w w' B:=⟨zgh hk hg,fun _ _ _ h=>zcc h hk hg⟩
theorem zdE {w:World} (hk:Below w.heap.size w w'):zgt w w' B:=⟨⟨fun _ _ _ h=>zan h hk,fun _ _ _ h=>zan h hk⟩,fun _ _ _ h=>zan h hk⟩
theorem zcr {w:World} {a:Addr} (ha:a.block<B) (u:Value):zgt w (w.setCell a u) B:=⟨zeV ha u,fun _ _ _ h=>own_set h ha u⟩
theorem zlz (w:World) (B:Nat):zgt w w.drew B:=⟨zie w B,fun _ _ _ h=>own_drew h⟩
theorem zkh {w:World} {B2:Nat} {e2:TypeId} {s2 n2:Nat} {u:Value} {ys:List Value} {o:Obj} (hu:w.ownsRow B2 e2 s2 u n2 ys) (h1:246≠e2) (h2:222≠e2) (h3:203≠e2) (hg:(w.alloc o).grownBy w' u.ownBlock):zgt w w' B :=
 ⟨zgW hu h1 h2 hg,fun _ _ _ h=>zb1 (World.ownsRow.alloc h o) (World.ownsRow.alloc hu o) h3 hg⟩
theorem zoD (a:ByteArray) (p:Option Addr) (m r:Nat):∀u ∈ [Value.string a,.slice p m r],u.oneCell'=true:=by
 intro u b;simp only [yav,ya1,ybw] at b;rcases b with rfl | rfl <;> rfl
def zfg (acc:List TypP) (l:List Tk):Rs (List TypP):=zaG (zdp acc l) fun t r=>if (hdT r).1=3 then .ok (t,r) else zns 30 r
theorem zoE {acc:List TypP} {l:List Tk} (hf:Fine l) (h:(hdT l).1=3):zfg acc l = .ok (acc,l):=by
 have b:isT zeB l=false:=by
  rw [hf.isT zme];rcases hf.hd with f | ⟨g,_⟩ | ⟨_,d⟩
  · omega
  · omega
  · rw [d];decide
 unfold zfg;rw [zda,b,yak yac,zb6,yan h]
theorem zl6 {acc:List TypP} {l:List Tk} (h:¬(hdT l).1=3):zfg acc l=zaG (typT l) fun t r=>zfg (acc ++ [t]) r:=by
 unfold zfg;rw [zda];cases b:isT zeB l with
 | true =>
  rw [yan rfl];unfold typT;rw [show zaK zeB l = .ok ((),l.tail) from by unfold zaK;rw [b,yan rfl],zb6];simp only [zcp,zjq,zb6]
 | false =>
  rw [yak yac,zb6,yak h];unfold typT;rw [show zaK zeB l=zns 30 l from by unfold zaK;rw [b,yak (by decide)]];rfl
theorem typT_len {l r:List Tk} {x:TypP} (h:typT l = .ok (x,r)):r.length<l.length:=by
 unfold typT at h;obtain ⟨_,m,d,h⟩:=zac h;obtain ⟨_,n,f,h⟩:=zac h;obtain ⟨_,o,g,h⟩:=zac h;obtain ⟨_,p,b,h⟩:=zac h;unfold zjq at b;obtain ⟨_,q,j,b⟩:=zac b;obtain ⟨_,s,k,b⟩:=zac b;have u:=zap zbQ d;have y:=zaq f;have a3:=zap (zao _) g;have a5:=zd8 _ _ _ _ _ _ yab j;have z:=zap (zao _) k;cases b;cases h;omega
section
variable {w:World} {g:Nat} {l:List Tk}
theorem Bk.c1 {w:World} {b:Nat} {x:Value} {t:TypeId} (h:Bk w b #[x] t):w.cell? ⟨b,0,none⟩=some x:=h.cell 0
theorem schema_any (h:Rdr w g l):Calls Tryz.prog 161 #[.pointer (some ⟨g,0,none⟩)] w (Post (zk7 w.heap.size) w.heap.size w g (zfg [] l)):=by
 suffices HH:∀R,To (Post (zk7 w.heap.size) w.heap.size w g (zfg [] l)) R→Calls Tryz.prog 161 #[.pointer (some ⟨g,0,none⟩)] w R from HH _ fun _ _ h=>h
 intro R E;have hg:=h.size;go_enter Tryz.func161,Tryz.ntmps161
 go_wp2_with fail
 have f:=(Bk.new w #[.slice none 0 0] 140).alloc (.cells #[.slice none 0 0] 140);have d:Bk ((w.alloc (.cells #[.slice none 0 0] 140)).alloc (.cells #[.slice none 0 0] 140)) (w.heap.size + 1) #[.slice none 0 0] 140:=by have:=Bk.new (w.alloc (.cells #[.slice none 0 0] 140)) #[.slice none 0 0] 140;rwa [World.size_alloc] at this
 have n:=(h.alloc (.cells #[.slice none 0 0] 140)).alloc (.cells #[.slice none 0 0] 140);have o:Kp g w.heap.size w _:=((Kp.refl g _ w).alloc (yaj _) (.cells #[.slice none 0 0] 140)).alloc (size_alloc (yaj _)) (.cells #[.slice none 0 0] 140);clear h;generalize (w.alloc (.cells #[.slice none 0 0] 140)).alloc (.cells #[.slice none 0 0] 140)=W at *
 generalize w.heap.size=B at *
 obtain ⟨BT,O⟩:∃BT,BT=B + 1:=⟨_,rfl⟩;rw [←O] at d;go_loopw [] (fun wr=>∃b F P,Bk wr (B + 1) #[P] 140∧VTyps (B + 2) wr P b∧Rdr wr g F∧Kp g B w wr∧Bk wr B #[.slice none 0 0] 140∧To (Post (zk7 B) B w g (zfg b F)) R∧b.length + F.length≤2000000) (fun wr=>left wr g)
 case atStart=>exact ⟨[],l,_,by rw [←O];exact d,⟨[],World.ownsRow_nil _ _ _ _,rfl⟩,n,o,f,E,by have:=n.few;simp;omega⟩
 case round =>
  clear E f d n o;obtain ⟨b,F,P,d,hv,n,o,f,E,hl⟩:=hrel;have ac:=n.left;have L:=n.fine;have f0:=tok_f0;have kf:=zbY n;obtain ⟨xs,j,k⟩:=hv;by_cases h3:(hdT F).1=3
  · have d3:((((hdT F).1:Nat):Int) == 3)=true:=by rw [ybS];omega
    rw [zoE L h3] at E;generalize (hdT F).1=z at *
    go_wp2_with fail
    refine kf.mono ?_;rintro e Q ⟨rfl,hb⟩;have C:=n.below hb;replace o:=o.trans ((Kp.of_below hb g).more (ya2 f.lt));replace f:=f.below hb;replace d:=d.below hb;replace k:=k.keep (zdE hb);replace j:=zan j hb;clear hb n kf;obtain ⟨A,c,rfl,_⟩:=Rd.own j;have x0:=d.c1;have y0:=f.c1;have fy:=f.fz;have al:¬B + 1=B:=by omega
    have aj:¬B=B + 1:=by omega
    go_wp2_with fail
    refine bodyPost_ret (v:=.agg #[.slice A b.length c]) (by simp [results,Tryz.results161,go_sem,y0];try rfl) rfl ?_;refine E.ret rfl ?_ ⟨_,rfl,xs,?_,?_⟩ ?_
    · refine Kp.set o ?_ _;exact yaj _
    · exact zax (own_set j (show B<B + 2 by omega) _) (show B≤B + 2 by omega)
    · exact TypsC.base (show B≤B + 2 by omega) (k.keep (zcr (show B<B + 2 by omega) _))
    · refine Rdr.set C ?_ _;exact hg
  · have d3:((((hdT F).1:Nat):Int) == 3)=false:=by rw [ybc];omega
    rw [zl6 h3] at E;generalize (hdT F).1=z at *
    go_wp2_with fail
    refine kf.mono ?_;rintro e Q ⟨rfl,hb⟩;have C:=n.below hb;replace o:=o.trans ((Kp.of_below hb g).more (ya2 f.lt));replace f:=f.below hb;replace d:=d.below hb;replace k:=k.keep (zdE hb);replace j:=zan j hb;clear hb n kf;obtain ⟨A,c,rfl,_⟩:=Rd.own j;go_wp2_with fail
    replace C:=C.drew;replace o:=o.drew;replace f:Bk Q.drew _ _ _:=f;replace d:Bk Q.drew _ _ _:=d;replace k:=k.keep (zlz Q (B + 2));replace j:=own_drew j;refine wp_region_any yaa ?_;change wpAny _ _ _ _ _ _ _ (World.drew _);generalize Q.drew=W6 at *
    refine zfG 0 (some 8) (v:=?v0) rfl rfl yaa yaa yaa (fun _ _ _ h=>h) yae ?y0 ?r0;case y0=>(intro w;go_simp;try with_reducible rfl)
    simp only [Act.put,yaE,yaU,yaV];refine zfG 2 (some 10) (v:=?v2) rfl rfl yaa yaa yaa (fun _ _ _ h=>h) yae ?y2 ?r2;case y2=>(intro w;go_simp;try with_reducible rfl)
    simp only [Act.put,yaE,yaU,yaV];refine zm8 1 3 4 (some 9) (fun W=>W.cell? ⟨B + 1,0,none⟩=some (.slice A b.length c)) (v:=?v1) rfl rfl rfl rfl yaa yaa yaa yac yac yac yaa yaa yaa yaa yaa yaa yaa yaa yaa yaa (fun _ _ _ h=>h) yae ?y1 (d.cell 0) ?r1;case y1=>(intro w hS;(try dsimp only at hS);go_simp;try with_reducible rfl)
    simp only [Act.put,yaE,yaU,yaV];intro K m;go_simp;refine (typ_any C).mono ?_;intro e W7 hp;obtain ⟨hk,hc⟩:=hp.cases_;have hz:=ya2 f.lt;have am:=d.lt;replace o:=o.trans (hk.more hz);replace f:=f.kp hk yab;replace d:=d.kp hk yab;replace k:=k.keep (zpG hk yab);replace j:=zcc j hk yab;clear hp hk C hz;rcases hc with ⟨c,p,T,rfl⟩ | ⟨x,l5,v,T,rfl,⟨P,rfl,U⟩,n⟩
    · go_wp2_with fail
      exact ⟨rfl,E.bad T o⟩
    replace E:=E.bind T;have V:=typT_len T;clear T;have X:VRels (B + 2) W7 P x.rels:=U.base yab;obtain ⟨ys,M,Y⟩:=X;obtain ⟨As,cS,rfl,_⟩:=Rd.own M;clear U;refine m _ _ (d.cell 0) ?_;clear m K;refine wpOp_step rfl fun K2 Z=>?_;go_simp;refine Z _ _ ⟨zaI (d.cell 0) _,?_⟩;clear Z K2;have ad:B + 2≤W7.heap.size:=d.lt;obtain ⟨i0,ae,af,ag,ah⟩:=info_parts info_typ;have ak:=n.few;refine wpAny_ready (rs:=[5]) yaa yaf ?_;refine AllReady.cons rfl (fun K m=>?_) AllReady.nil;rw [yan (by rfl)];refine zci _ (some 13) rfl (.tmp 9) (.tmp 12) 138 138 rfl (B + 2) 199 i0 (.agg #[.string .empty,.slice none 0 0]) 2 40 Tryz.underlying138 ae af ag ah rfl yac (.slice A b.length c) b.length xs rfl (World.ownsRow.alloc j _) _ 1 [.string x.name,.slice As x.rels.length cS] rfl (Src.ofSlice _ Tryz.underlying138 _ 1 1 _ rfl (zcq _ _ _ _) (zoD _ _ _ _)) yad yab (size_alloc ad) ?_;intro v8 W8 q D;refine m _ _ ?_;clear m K;simp only [Act.put,yaE,yaU,yaV];have a1:=ze7 (v:=.slice A b.length c) n D j yab;have a2:=zdf (v:=.slice A b.length c) o D j (ya2 f.lt) yab;have G:=f.grown (v:=.slice A b.length c) D j yab;have s:=d.grown (v:=.slice A b.length c) D j yab;have N:=zkh (B:=B + 2) (u:=.slice A b.length c) j yac yac yac D
    have H:=TypsC.snoc (y:=x) ⟨_,rfl,VRels.keep N ⟨ys,M,Y⟩⟩ (k.keep N);clear D N k j M Y f d o n;obtain ⟨I,J,rfl,_⟩:=Rd.own q;refine zfG 6 (some 14) (v:=?v6) rfl rfl yaa yaa yaa (fun _ _ _ h=>h) yae ?y6 ?r6;case y6=>(intro w;go_simp;try with_reducible rfl)
    simp only [Act.put,yaE,yaU,yaV];have x0:=s.c1;have fx:=s.fz;refine wpAny_ready (rs:=[7]) yaa yaf ?_;refine AllReady.cons rfl (fun K m=>?_) AllReady.nil;go_simp;refine m _ _ ?_;clear m K;refine wpAny_done yaa ?_ _;have a6:=a1.set (a:=⟨B + 1,0,none⟩) (show g<B + 1 by omega) (.slice I (b.length + 1) J);have ai:=a2.set (a:=⟨B + 1,0,none⟩) (show B≤B + 1 by omega) (.slice I (b.length + 1) J);have a7:=G.other (a:=⟨B + 1,0,none⟩) (show B≠B + 1 by omega) (.slice I (b.length + 1) J);have a8:Bk _ (B + 1) #[.slice I (b.length + 1) J] 140:=s.set 0 (.slice I (b.length + 1) J);have aa:=H.keep (zcr (a:=⟨B + 1,0,none⟩) (show B + 1<B + 2 by omega) (.slice I (b.length + 1) J));have ab:=own_set (a:=⟨B + 1,0,none⟩) q (show B + 1<B + 2 by omega) (.slice I (b.length + 1) J);clear a1 a2 G s H q x0 fx;generalize W8.setCell ⟨B + 1,0,none⟩ (.slice I (b.length + 1) J)=W9 at *
    go_wp2_with fail
    refine ⟨⟨b ++ [x],l5,_,a8,⟨_,?_,aa⟩,a6,ai,a7,E,?_⟩,?_⟩
    · rw [yam];exact ab
    · rw [yam,ybu];omega
    · rw [a6.left,ac];exact V
end
theorem catch_idle (p q r:Addr) (w:World) :
 CallsD Tryz.prog 160 #[.pointer (some p),.pointer (some q),.pointer (some r)] .returning w fun e u' w'=>e = .returned (.tuple #[])∧u' = .returning∧w'=w:=by
 refine callsD_of_wpS Tryz.func160 rfl fun d cs b=>?_;apply wpS_seq;apply wpS_region;simp [wpOpsS,go_sem,recoverD,b,Exit.thenS,Tryz.ntmps160];rw [show (#[.pointer (some p),.pointer (some q),.pointer (some r)]:Array Value) ++ ((Array.replicate 19 undef).setIfInBounds 3 (.nilIface)).setIfInBounds 0 (.nilIface)=#[.pointer (some p),.pointer (some q),.pointer (some r),.nilIface,undef,undef,.nilIface,undef,undef,undef,undef,undef,undef,undef,undef,undef,undef,undef,undef,undef,undef,undef] from by kernel_rfl];refine wpS_of_wp ?_;go_wp2
 refine ⟨rfl,.returning,by rw [←b],.tuple #[],?_,rfl,rfl,rfl⟩;simp [results,Tryz.results160,go_sem]
theorem zjM (x y:Value) (W:World):(Instr.typeAssert (.iface 276 (.agg #[x,y])) 20 276 true).run Tryz.prog W = .ok (.tuple #[.agg #[x,y],.bool true]) W:=by kernel_rfl
theorem catch_fault (c k:Nat) (bs be ba:Nat) (v0 v1 v2:Value) (w:World) (h0:Bk w bs #[v0] 140) (h1:Bk w be #[v1] 36) (h2:Bk w ba #[v2] 3) (n1:bs<be) (n2:be<ba) :
 CallsD Tryz.prog 160 #[.pointer (some ⟨bs,0,none⟩),.pointer (some ⟨be,0,none⟩),.pointer (some ⟨ba,0,none⟩)] (.panicking [{ v:=.iface 276 (.agg #[.int .i64 c,.int .i64 k]),recovered:=false }]) w fun e u' w' =>
  e = .returned (.tuple #[])∧u' = .panicking [{ v:=.iface 276 (.agg #[.int .i64 c,.int .i64 k]),recovered:=true }] ∧
  Bk w' bs #[.slice none 0 0] 140∧Bk w' be #[.int .i64 c] 36∧Bk w' ba #[.int .i64 k] 3∧Below bs w w':=by
 have j:=Bk.new w #[.int .i64 c,.int .i64 k] 276;have B:=h2.lt;have hb:Below bs w (w.alloc (.cells #[.int .i64 c,.int .i64 k] 276)):=(Below.refl _ w).alloc yab _;have hS:w.heap.size≤(w.alloc (.cells #[.int .i64 c,.int .i64 k] 276)).heap.size:=size_alloc (yaj _);have g0:=h0.alloc (.cells #[.int .i64 c,.int .i64 k] 276);have f:=h1.alloc (.cells #[.int .i64 c,.int .i64 k] 276);have g:=h2.alloc (.cells #[.int .i64 c,.int .i64 k] 276);refine callsD_of_wpS Tryz.func160 rfl fun C cs o=>?_;apply wpS_seq;apply wpS_region;simp [wpOpsS,go_sem,recoverD,o,Exit.thenS,Tryz.ntmps160];rw [show (#[.pointer (some ⟨bs,0,none⟩),.pointer (some ⟨be,0,none⟩),.pointer (some ⟨ba,0,none⟩)]:Array Value) ++ ((Array.replicate 19 undef).setIfInBounds 3 (.iface 276 (.agg #[.int .i64 c,.int .i64 k]))).setIfInBounds 0 (.iface 276 (.agg #[.int .i64 c,.int .i64 k]))=#[.pointer (some ⟨bs,0,none⟩),.pointer (some ⟨be,0,none⟩),.pointer (some ⟨ba,0,none⟩),.iface 276 (.agg #[.int .i64 c,.int .i64 k]),undef,undef,.iface 276 (.agg #[.int .i64 c,.int .i64 k]),undef,undef,undef,undef,undef,undef,undef,undef,undef,undef,undef,undef,undef,undef,undef] from by kernel_rfl];refine wpS_of_wp ?_;have p:=zjM;go_wp2
 replace g0:Bk (w.alloc (.cells #[.int .i64 c,.int .i64 k] 276)).drew _ _ _:=g0;replace f:Bk (w.alloc (.cells #[.int .i64 c,.int .i64 k] 276)).drew _ _ _:=f;replace g:Bk (w.alloc (.cells #[.int .i64 c,.int .i64 k] 276)).drew _ _ _:=g;replace j:Bk (w.alloc (.cells #[.int .i64 c,.int .i64 k] 276)).drew _ _ _:=j;replace hb:=hb.drew;refine wp_region_held (S:=fun W=>W.cell? ⟨w.heap.size,0,none⟩=some (.int .i64 c)∧W.cell? ⟨w.heap.size,1,none⟩=some (.int .i64 k)) yaa ?_;change wpAnyH _ _ _ _ _ _ _ _ (World.drew _);generalize (w.alloc (.cells #[.int .i64 c,.int .i64 k] 276)).drew=W at *
 have D:=g0.c1;have E:=f.c1;have F:=g.c1;have z0:=g0.fz;have G:=f.fz;have H:=g.fz;have b:W.cell? ⟨w.heap.size,0,none⟩=some (.int .i64 c)∧W.cell? ⟨w.heap.size,1,none⟩=some (.int .i64 k):=j.c2;have q:¬bs=be:=by omega
 have s:¬be=bs:=by omega
 have u:¬bs=ba:=by omega
 have x:¬ba=bs:=by omega
 have y:¬be=ba:=by omega
 have z:¬ba=be:=by omega
 refine zaa 1 (some 18) b ?_;refine zaa 3 (some 20) b ?_;refine zaa 2 (some 19) b ?_;refine zaa 4 (some 21) b ?_;refine zaP 0 rfl yaa ?_;intro K d;go_simp;refine d _ _ b ?_;clear d K;refine zaP 5 rfl yaa ?_;intro K d;go_simp;have m:=j.other (a:=⟨bs,0,none⟩) (show w.heap.size≠bs by omega) (.slice none 0 0);refine d _ _ m.c2 ?_;clear d K;refine zaP 6 rfl yaa ?_;intro K d;go_simp;have n:=m.other (a:=⟨be,0,none⟩) (show w.heap.size≠be by omega) (.int .i64 c);refine d _ _ n.c2 ?_;clear d K;refine zaP 7 rfl yaa ?_;intro K d;go_simp;have A:=n.other (a:=⟨ba,0,none⟩) (show w.heap.size≠ba by omega) (.int .i64 k);refine d _ _ A.c2 ?_;clear d K;refine wpAnyH_done yaa ?_ _;refine ⟨rfl,_,rfl,.tuple #[],?_,rfl,rfl,?_,?_,?_,?_⟩
 · simp [results,Tryz.results160,go_sem]
 · exact (((g0.set 0 (.slice none 0 0)).other (a:=⟨be,0,none⟩) (show bs≠be by omega) (.int .i64 c)).other (a:=⟨ba,0,none⟩) (show bs≠ba by omega) (.int .i64 k))
 · exact (((f.other (a:=⟨bs,0,none⟩) (show be≠bs by omega) (.slice none 0 0)).set 0 (.int .i64 c)).other (a:=⟨ba,0,none⟩) (show be≠ba by omega) (.int .i64 k))
 · exact (((g.other (a:=⟨bs,0,none⟩) (show ba≠bs by omega) (.slice none 0 0)).other (a:=⟨be,0,none⟩) (show ba≠be by omega) (.int .i64 c)).set 0 (.int .i64 k))
 · refine Below.setCell (Below.setCell (Below.setCell hb ?_ _) ?_ _) ?_ _ <;> (dsimp only;omega)
def SPost (o:List TypP × Nat × Nat) (w:World) (e:Ending) (w':World):Prop :=
 ∃vt,e = .returned (.tuple #[.agg #[vt],.int .i64 o.2.1,.int .i64 o.2.2])∧VTyps w.heap.size w' vt o.1∧Below w.heap.size w w'
theorem read_any {w:World} {A:Option Addr} {c:Nat} {l:List Tk} (hr:Rd w w.heap.size 3 A l.length c (tcells l)) (hf:Fine l) :
 Calls Tryz.prog 113 #[.slice A l.length c] w (SPost (outS (zfH l)) w):=by
 have F:∀(C:Fn) (first cap:Array Value) (w:World),(Instr.makeFunc C first cap).run Tryz.prog w = .ok (.func C first cap) w:=fun _ _ _ _=>rfl;rw [zfI];change Calls _ _ _ _ (SPost (outS (zfg [] l)) w);go_enter_defers Tryz.func113,Tryz.ntmps113
 go_wp2_with fail
 have q:=(Bk.new w #[.slice none 0 0] 140);have j:=(Bk.new (w.alloc (.cells #[.slice none 0 0] 140)) #[.int .i64 0] 36);have m:=(Bk.new ((w.alloc (.cells #[.slice none 0 0] 140)).alloc (.cells #[.int .i64 0] 36)) #[.int .i64 0] 3);have n:=(Bk.new (((w.alloc (.cells #[.slice none 0 0] 140)).alloc (.cells #[.int .i64 0] 36)).alloc (.cells #[.int .i64 0] 3)) #[.slice A l.length c] 280);simp only [World.size_alloc] at j m n;have b:=((q.alloc (.cells #[.int .i64 0] 36)).alloc (.cells #[.int .i64 0] 3)).alloc (.cells #[.slice A l.length c] 280);have d:=(j.alloc (.cells #[.int .i64 0] 3)).alloc (.cells #[.slice A l.length c] 280);have g:=m.alloc (.cells #[.slice A l.length c] 280);have s:Below w.heap.size w ((((w.alloc (.cells #[.slice none 0 0] 140)).alloc (.cells #[.int .i64 0] 36)).alloc (.cells #[.int .i64 0] 3)).alloc (.cells #[.slice A l.length c] 280)):=by
  refine Below.alloc (Below.alloc (Below.alloc (Below.alloc (Below.refl _ w) (yaj _) _) ?_ _) ?_ _) ?_ _ <;> (simp only [World.size_alloc];omega)
 have u:Rdr ((((w.alloc (.cells #[.slice none 0 0] 140)).alloc (.cells #[.int .i64 0] 36)).alloc (.cells #[.int .i64 0] 3)).alloc (.cells #[.slice A l.length c] 280)) (w.heap.size + 1 + 1 + 1) l:=⟨A,c,n,(hr.below s).more yab,hf⟩;clear q j m n;generalize (((w.alloc (.cells #[.slice none 0 0] 140)).alloc (.cells #[.int .i64 0] 36)).alloc (.cells #[.int .i64 0] 3)).alloc (.cells #[.slice A l.length c] 280)=W at *
 refine (schema_any u).mono ?_;intro e G D;obtain ⟨hk,H⟩:=D.cases_;have I:=u.size;replace b:=b.kp hk yab;replace d:=d.kp hk yab;replace g:=g.kp hk yab;replace s:=s.trans (Kp.below hk (B':=w.heap.size) yab yab);clear D hk u;rcases H with ⟨k,p,hr,rfl⟩ | ⟨o,T,v,hr,rfl,⟨U,rfl,E⟩,u⟩
 · rw [hr];have J:=catch_fault k p _ _ _ _ _ _ G b d g yab yab;clear b d g;go_wp2_with fail
   refine leaves_cons (f:=160) (args:=#[.pointer (some ⟨w.heap.size,0,none⟩),.pointer (some ⟨w.heap.size + 1,0,none⟩),.pointer (some ⟨w.heap.size + 1 + 1,0,none⟩)]) yaf (by simp [go_sem]) ?_;refine J.mono ?_;rintro e K x ⟨rfl,rfl,g0,L,M,hb⟩;have y:=g0.c1;have z:=L.c1;have B:=M.c1;simp [Leaves,settle,results,Tryz.results113,go_sem,y,z,B];exact ⟨.slice none 0 0,rfl,⟨[],World.ownsRow_nil _ _ _ _,rfl⟩,s.trans hb⟩
 · rw [hr];have y:=b.c1;have z:=d.c1;have B:=g.c1;have z0:=b.fz;have V:=d.fz;have X:=g.fz;have Y:¬w.heap.size=w.heap.size + 1:=by omega
   obtain ⟨N,O,rfl,_⟩:=Rd.own E.choose_spec.1;go_wp2_with fail
   rw [hr];refine leaves_cons (f:=160) (args:=#[.pointer (some ⟨w.heap.size,0,none⟩),.pointer (some ⟨w.heap.size + 1,0,none⟩),.pointer (some ⟨w.heap.size + 1 + 1,0,none⟩)]) yaf (by simp [go_sem]) ?_;refine (catch_idle _ _ _ _).mono ?_;rintro e K x ⟨rfl,rfl,rfl⟩;simp [Leaves,settle,results,Tryz.results113,go_sem,y,z,B];obtain ⟨P,Q,R⟩:=E;refine ⟨.slice N o.length O,rfl,⟨P,?_,?_⟩,?_⟩
   · refine zax (own_set (own_set (own_set Q ?_ _) ?_ _) ?_ _) (show w.heap.size≤W.heap.size by omega) <;> (dsimp only;omega)
   · exact TypsC.base (show w.heap.size≤W.heap.size by omega) (((R.keep (zcr (a:=⟨w.heap.size,0,none⟩) yah _)).keep (zcr (a:=⟨w.heap.size + 1,0,none⟩) yah _)).keep (zcr (a:=⟨w.heap.size + 1 + 1,0,none⟩) yah _))
   · refine Below.setCell (Below.setCell (Below.setCell s ?_ _) ?_ _) ?_ _ <;> (dsimp only;omega)
end
end Go.Proofs.YtmblgnddgmfkhaaGreat
