import Derived.Maps.Range
import Derived.Sort.MapsRangeIn
import Derived.Test.YtmblgnddgmfkhaaGreatK10
import Derived.Test.YtmblgnddgmfkhaaGreatK19
set_option maxRecDepth 100000
set_option maxHeartbeats 4000000
namespace Go.Proofs.YtmblgnddgmfkhaaGreat
section
open Go.RowKit Go.Maps Go.Shelf
attribute [local go_sem] Oper.semAt_some
open Go.RowKit Go.Shelf Go.Maps
attribute [local go_sem] Oper.semAt_some
variable {L ss:List Ed} {left:Lit→Bool}
def zjt (e:Ed):Value:=.agg (za8 e).toArray
def Fits (e:Ed):Prop:=(Lit.int .i64 e.1).wf=true∧(Lit.int .i64 e.2.1).wf=true
theorem zjG {e:Ed} (h:Fits e):keyOf Tryz.prog 207 (zjt e)=some (kE e):=zjF h.1 h.2
structure KeysAre {H:Type} (D0:DataW H) (L:List Ed):Prop where
 fits:∀e ∈ L,Fits e
 nodup:L.Nodup
 mem:∀e ∈ L,has D0 (kE e)=true
 only:∀kl,has D0 kl=true→∃e ∈ L,kE e=kl
structure CollE (L:List Ed) (left:Lit→Bool) (ss:List Ed):Prop where
 nodup:ss.Nodup
 mem:∀x ∈ ss,x ∈ L
 iff:∀x ∈ L,x ∈ ss↔left (kE x)=false
theorem CollE.start {H:Type} {D0:DataW H} (h:KeysAre D0 L):CollE L (has D0) []:=⟨ycT,fun _ h=>by simp at h,fun x b=>by simp [h.mem x b]⟩
theorem CollE.step {H:Type} {D0:DataW H} (hK:KeysAre D0 L) (h:CollE L left ss) {x:Ed} (hx:x ∈ L) (hl:left (kE x)=true):CollE L (fun z=>left z && !z.sameKey (kE x)) (ss ++ [x]):=by
 have k:x ∉ ss:=fun m=>by rw [(h.iff x hx).1 m] at hl;cases hl
 refine ⟨ybb.2 ⟨h.nodup,by simp,fun a n b hb=>by simp at hb;subst hb;exact fun e=>k (e ▸ n)⟩,fun y f=>?_,fun y f=>?_⟩
 · rcases yaA.1 f with f | f
   · exact h.mem y f
   · simp at f;exact f ▸ hx
 · by_cases e:y=x
   · subst e;simp [kE,Lit.sameKey]
   · have g:kE y≠kE x:=fun j=>e (kE_inj (hK.fits y f).1 (hK.fits y f).2 (hK.fits x hx).1 (hK.fits x hx).2 j);have o:(kE y).sameKey (kE x)=false:=by
      simp only [kE,Lit.sameKey,ybh,ne_eq];exact fun j=>g (by simp only [kE];rw [j])
     simp [h.iff y f,o,e]
theorem CollE.perm (h:CollE L left ss) (hn:L.Nodup) (hl:∀kl,left kl=false):ss.Perm L :=
 (yck h.nodup hn).2 fun x=>⟨h.mem x,fun b=>(h.iff x b).2 (hl _)⟩
theorem CollE.short (h:CollE L left ss) (hL:L.Nodup) {x:Ed} (hx:x ∈ L) (hl:left (kE x)=true):ss.length<L.length:=by
 have f:x ∉ ss:=fun g=>by rw [(h.iff x hx).1 g] at hl;cases hl
 have j:(L.filter fun y=>decide (y ∈ x::ss)).Perm (x::ss):=(yck (hL.filter _) (ybS.2 ⟨f,h.nodup⟩)).2 fun y=>by
  rw [ya4,yaP];refine ⟨fun b=>b.2,fun b=>⟨?_,b⟩⟩;rcases yaw.1 b with rfl | b
  · exact hx
  · exact h.mem y b
 have k:=j.length_eq;have b:=yba (fun y=>decide (y ∈ x::ss)) L;rw [yat] at k;omega
theorem keys_in {H:Type} {R:Value→Option (DataW H × List MemPlace)} {D0:DataW H} (hK:KeysAre D0 L) (n:Nat) (hn:1≤n) (l Bm b nn:Nat) (J Jx:List Ed→World→Prop) (W:World) (hJ:AbidesFrom W.heap.size J)
 (hm:W.cell? ⟨Bm,0,none⟩=some (.map (some b))) (hown:W.ownsMap Tryz.prog 207 R b nn D0)
 (hY:∀pre x W1,J pre W1→pre.length<L.length→YieldAt Fence.wide (n-1) Tryz.prog l #[zjt x] W1 fun e W' =>
  (e = .returned (.bool true)∧J (pre ++ [x]) W'∧KeepsWalks W1 W')∨(e = .returned (.bool false)∧Jx (pre ++ [x]) W'))
 (h0:J [] W) :
 CallsIn Fence.wide n Tryz.prog 177 #[.func (.yield l) #[] #[],.pointer (some ⟨Bm,0,none⟩)] W fun e W'=>(∃v,e = .returned v) ∧
  ((∃ys,ys.Perm L∧J ys W')∨(∃pre,True∧Jx pre W')):=by
 refine callsIn_of_wp Tryz.func177 rfl trivial ?_ rfl;simp only [Tryz.ntmps177,ybu,yat,yaE,Nat.reduceAdd,Nat.reduceSub,ybL,ybK,ybX,ybO,ya6,ybq];gi_wp2_with (first
  | (gi_at_range;refine wpListIn_range_own _ rfl _ 219 rfl 207 168 ziY Tryz.underlying219 _ b nn _ rfl hown ?_;intro T m C U)
  | fail)
 go_frame
 gi_loopw [3] (fun _ wr=>∃(left:Lit→Bool) (cnt:Nat) (f:List Ed),wr.ranges Tryz.prog 207 R b W.heap.size nn D0 left cnt∧CollE L left f∧J f wr)
  (fun _ wr=>wr.rangeLeft b W.heap.size)
 case atStart =>
  exact ⟨_,_,[],m,CollE.start hK,hJ [] W T none h0 C (fun r e=>by cases e)⟩
 case round =>
  obtain ⟨left,cnt,f,j,D,o⟩:=hrel;gi_wp2_with (first
   | (gi_at_next;refine wpListIn_next_ranges _ rfl _ rfl 207 ziY R (id:Value→Value) (id:Value→Value) (fun key _ _=>⟨key,rfl⟩) (fun v _ _=>⟨v,rfl⟩) b W.heap.size nn _ _ _ rfl j ?_ ?_)
   | fail)
  · intro V E;gi_wp2
    go_end0
    exact ⟨⟨_,rfl⟩,.inl ⟨f,D.perm hK.nodup E,o⟩⟩
  · intro x c kl yd yp w2 q s u hv F y G I K X;obtain ⟨e,k,rfl⟩:=hK.only kl (has_true_of_atKey F);obtain rfl:x=zjt e:=ziY.inj s (zjG (hK.fits e k));have M:J f w2:=hJ f wr w2 (some W.heap.size) o I (fun r e=>by cases e;exact ⟨yaj _,j.iter_walk⟩);have N:J f (w2.alloc (.cells (za8 e).toArray 207)):=hJ f w2 _ none M (World.grownBy_alloc _ _ _) (fun r e=>by cases e);have z:=y.of_walks (KeepsWalks.alloc w2 (.cells (za8 e).toArray 207));obtain ⟨fn,tmps,B,Q,hy,Y⟩:=hY f e _ N (D.short hK.nodup k u);clear K;obtain ⟨Z,e2,e3⟩:=e;simp only [zjt,za8] at *
    gi_wp2
    refine Y.mono ?_;rintro r W3 (⟨rfl,O,P⟩ | ⟨rfl,A⟩)
    · gi_wp2
      have g:=z.of_walks P;go_roundw
      case rel=>exact ⟨_,q,f ++ [(Z,e2,e3)],g,D.step hK k u,O⟩
      case measure=>rw [g.left_eq,j.left_eq];exact G
    · gi_wp2
      refine bodyPost_ret (results_none rfl _ _ _) rfl ?_;exact ⟨⟨_,rfl⟩,.inr ⟨_,trivial,A⟩⟩
theorem zqB {H:Type} {R:Value→Option (DataW H × List MemPlace)} {D0:DataW H} (hK:KeysAre D0 L) (n:Nat) (hn:1≤n) (Bm b nn:Nat) (w:World)
 (hm:w.cell? ⟨Bm,0,none⟩=some (.map (some b))) (hown:w.ownsMap Tryz.prog 207 R b nn D0) :
 SeqStopsK Fence.wide n Tryz.prog 177 #[.pointer (some ⟨Bm,0,none⟩)] (fun e:Ed=>#[zjt e]) KeepsWalks (fun ys=>ys.Perm L) (fun _=>True) L.length w:=fun l J m W k o _ q s=>by
 have f:W.ownsMap Tryz.prog 207 R b nn D0:=by
  have j:=hown.lt;obtain ⟨u,g,hb,x,y,z⟩:=hown;exact ⟨u,g,(k.block b j).trans hb,x,y,z⟩
 exact keys_in hK n hn l Bm b nn J m W o ((k.cell (p:=⟨Bm,0,none⟩) (World.block_lt_of_cell? w _ hm)).trans hm) f q s
theorem keys_any (m:Option Nat) (w:World):Calls Tryz.prog 125 #[.map m] w fun e w' =>
 e = .returned (.func (.func 177) #[] #[.pointer (some ⟨w.heap.size,0,none⟩)])∧w'=w.alloc (.cells #[.map m] 219):=by
 go_enter Tryz.func125,Tryz.ntmps125
 go_wp2
 go_ret
 exact ⟨rfl,rfl⟩
structure ApI (w0:World) (Bs:Nat) (pre:List Ed) (W:World):Prop where
 one:∃v,Bk W Bs #[v] 149∧W.ownsRow w0.heap.size 207 3 v pre.length (zaB pre)
 below:Below w0.heap.size w0 W
theorem ApI.stay {w0 X Y:World} {Bs:Nat} {pre:List Ed} {row:Option Nat} (h:ApI w0 Bs pre X) (hg:X.grownBy Y row) (hr:∀r,row=some r→w0.heap.size≤r∧∃o:Obj,X.heap[r]? = some o∧o.isCells=false):ApI w0 Bs pre Y:=by
 obtain ⟨⟨v,g,j⟩,f⟩:=h;have b:∀r,row=some r→∃o:Obj,X.heap[r]? = some o∧o.isCells=false:=fun r e=>(hr r e).2;exact ⟨⟨v,g.stay hg b,zjV j hg b⟩,f.grown hg f.size fun r e=>(hr r e).1⟩
theorem zri {w:World} {B e s n:Nat} {v:Value} {xs:List Value} (h:w.ownsRow B e s v n xs):∀(j:Nat) (o:Obj),v.ownBlock=some j→w.heap[j]? = some o→o.isCells=true:=fun j o b g=>by
 rcases h.2 with ⟨rfl,_⟩ | ⟨q,k,m,rfl,_,f,_⟩
 · simp [Value.ownBlock] at b
 simp only [Value.ownBlock,yaT] at b;subst b;rw [f] at g;cases g;rfl
theorem zq2 (W:World) (e:Ed):∀j u,(za8 e)[j]? = some u→(W.alloc (.cells (za8 e).toArray 207)).cell? (Addr.add ⟨W.heap.size,0,none⟩ j)=some u:=fun j u h=>by
 have:=(Bk.new W (za8 e).toArray 207).cell j;rw [ybZ,h] at this;rw [←this];by_cases b:j=0
 · subst b;rfl
 · simp [Addr.add,b]
theorem zmW {w0 W w5:World} {Bs:Nat} {pre:List Ed} {x:Ed} {v v9:Value} (o:Obj) (hBs:w0.heap.size≤Bs) (h1:Bk W Bs #[v] 149) (h2:W.ownsRow w0.heap.size 207 3 v pre.length (zaB pre)) (h3:Below w0.heap.size w0 W)
 (hg:(W.alloc o).grownBy w5 v.ownBlock) (h5:w5.ownsRow w0.heap.size 207 3 v9 (pre.length + 1) (zaB pre ++ za8 x)) :
 KeepsOthers W (w5.setCell ⟨Bs,0,none⟩ v9)∧ApI w0 Bs (pre ++ [x]) (w5.setCell ⟨Bs,0,none⟩ v9):=by
 have b:Bk w5 Bs #[v] 149:=zbB (h1.alloc o) (h2.alloc o) yac hg;refine ⟨((KeepsOthers.alloc W o).trans (KeepsOthers.of_grownBy hg (zri (h2.alloc o)))).trans (KeepsOthers.setCell _ _ _),⟨v9,?_,?_⟩,?_⟩
 · have:=b.set 0 v9;simpa using this
 · rw [yam,zf0];have e:zaB [x]=za8 x:=by simp [zaB]
   rw [e];exact zaH h5 fun g f=>Below.heap_setCell _ _ _ _ fun e=>zeb b h5 yac ((show g=Bs from e) ▸ f)
 · exact (zae (h3.alloc h3.size o) hg (h2.alloc o) (size_alloc h3.size) (yaj _)).setCell hBs _
theorem appendSeq_in (m:Nat) (hm:4≤m) {H:Type} {R:Value→Option (DataW H × List MemPlace)} {D0:DataW H} (hK:KeysAre D0 L) (hL:L.length≤1000000) (Bm b nn:Nat) (w:World)
 (hmm:w.cell? ⟨Bm,0,none⟩=some (.map (some b))) (hown:w.ownsMap Tryz.prog 207 R b nn D0) :
 CallsIn Fence.wide m Tryz.prog 225 #[.slice none 0 0,.func (.func 177) #[] #[.pointer (some ⟨Bm,0,none⟩)]] w fun e w' =>
  ∃v ys,e = .returned v∧ys.Perm L∧w'.ownsRow w.heap.size 207 3 v ys.length (zaB ys)∧Below w.heap.size w w':=by
 obtain ⟨i0,E,F,G,I⟩:=info_parts zhp;refine callsIn_of_wp_marks Tryz.func225 rfl trivial ?_ rfl;simp only [Tryz.ntmps225,ybu,yat,yaE,Nat.reduceAdd,Nat.reduceSub,ybL,ybK,ybX,ybO,ya6,ybq];gi_wp2
 have hseq:=zqB hK (m-1) yab Bm b nn w hmm hown;have u:Below w.heap.size w (w.alloc (.cells #[.slice none 0 0] 149)):=(Below.refl _ w).alloc (yaj _) _;have x2:=Bk.new w #[.slice none 0 0] 149;have a8:(w.alloc (.cells #[.slice none 0 0] 149)).heap.size=w.heap.size + 1:=by simp
 generalize w.alloc (.cells #[.slice none 0 0] 149)=w2 at *
 refine wpIn_rangeFunc_ownH (w0:=w) rfl yab (gf:=177) (lb:=#[.pointer (some ⟨Bm,0,none⟩)]) rfl trivial (enters_of Tryz.func177 yaa rfl)
  hseq (fun h k=>h.trans k) (fun W l o o' _ j _ h4=>KeepsWalks.putObj o' j h4) u (fun _=>rfl)
  (ApI w w.heap.size)
  (fun _ _ _=>False)
  (fun pre X Y row n J y=>n.stay J (fun r e=>⟨by have:=(y r e).1;omega,(y r e).2⟩))
  (fun _ _ _ _ _ M _ _=>M)
  ⟨⟨_,x2,World.ownsRow_nil _ _ _ _⟩,u⟩
  (fun x N W=>∃g,Bk W g (za8 x).toArray 207∧N={ tmps:=#[.slice none 0 0,.func (.func 177) #[] #[.pointer (some ⟨Bm,0,none⟩)],.pointer (some ⟨w.heap.size,0,none⟩),undef,.slice none 0 0,.pointer (some ⟨g,0,none⟩),.func (.func 177) #[] #[.pointer (some ⟨Bm,0,none⟩)],zjt x,undef,undef,undef,undef,undef],defers:=[] })
  (fun x N _ X Y row M J y=>by
   obtain ⟨g,q,j⟩:=M;exact ⟨g,q.stay J (fun r e=>(y r e).2),j⟩)
  ?assign ?body ?done ?stop
 case assign =>
  intro l2 pre x W K n O;obtain ⟨P,Q,T⟩:=x;simp only [zjt,za8] at *
  gi_wp2
  exact O _ _ ((KeepsOthers.alloc _ _).from _) (KeepsWalks.alloc _ _) (n.stay (World.grownBy_alloc _ _ none) (fun r e=>by cases e)) ⟨_,Bk.new W _ _,rfl⟩
 case body =>
  rintro l2 pre x N W aa ⟨r,y⟩ n ⟨g,U,rfl⟩ ab;obtain ⟨⟨v,q,j⟩,V⟩:=n;have ac:=U.cell 0;have ad:=U.cell 1;have ae:=U.cell 2;have Z:=zq2 W x;have z:=zhf x;have af:=@zmW w W;obtain ⟨A,c,rfl,_⟩:=Rd.own j;have c2:=q.cell';obtain ⟨P,Q,T⟩:=x;simp only [zjt,za8,ybZ,ybs,ybj] at *
  gi_wp2_with (gi_at_builtin;refine wpListIn_append_own _ rfl (.tmp 8) (.tmp 10) 149 rfl w.heap.size 207 i0 (.agg #[.int .i64 0,.int .i64 0,.bool false]) 3 24 Tryz.underlying149 E F G I rfl yac _ pre.length (zaB pre) rfl (j.alloc _) ⟨W.heap.size,0,none⟩ 1 1 [.int .i64 P,.int .i64 Q,.bool T] rfl rfl Z z yad yab (size_alloc V.size) ?_;intro v9 w5 f B _;obtain ⟨q1,q2⟩:=zmW (x:=(P,Q,T)) _ (yaj _) q j V B f;have C:=zbB (q.alloc _) (j.alloc _) yac B;obtain ⟨A9,c9,rfl,_⟩:=Rd.own f;have f5:=C.fz 0;have c5:=C.cell')
  exact ⟨q1.from _,q1.walks,q2⟩
 case done =>
  rintro D ys W hD hp n s;have a1:=n.stay (grownBy_putObj' W D (.deferred none)) (fun r e=>by cases e;exact ⟨by omega,_,s,rfl⟩);obtain ⟨⟨v,q,j⟩,V⟩:=n;have c2:=q.cell';obtain ⟨⟨v',a2,a6⟩,a7⟩:=a1;obtain rfl:v=v':=yaZ ((q.stay (grownBy_putObj' W D (.deferred none)) (fun r e=>by cases e;exact ⟨_,s,rfl⟩)).cell'.symm.trans a2.cell');gi_wp2
  refine ⟨by simp,.inl ⟨_,_,rfl,run_takeDeferred s,?_⟩⟩;exact ⟨_,results_tmp rfl _ _ _,v,ys,rfl,hp,a6,a7⟩
 case stop =>
  rintro D c pre W _ _ h _;exact h.elim
end
section
open Go.RowKit
open Go.RowKit Go.Maps
variable {w:World} {l ps:List Path} {i b:Nat} {s:Path}
def zb9 (l:List Path):List Value:=l.flatMap zpt
theorem ziw (a b:List Path):zb9 (a ++ b)=zb9 a ++ zb9 b:=ya0
theorem zdU {B c n:Nat} {A:Option Addr} (h:Rd w B 2 A n c (zb9 l)) (hi:l[i]? = some s) (hn:n=l.length) :
 ∃b o,A=some ⟨b,o,none⟩∧b<B∧w.cell? ⟨b,o + i * 2,none⟩=some (.string s.1)∧w.cell? ⟨b,o + i * 2 + 1,none⟩=some (.string s.2):=by
 subst hn;obtain ⟨b,o,e,hb,f⟩:=h.at_ (zd8 hi);have g:=fun k (hk:k<2)=>zbf zpt (sz:=2) (fun _=>rfl) hi (k:=k) hk;exact ⟨b,o,e,hb,f _ _ (g 0 yab),by rw [ya7];exact f _ _ (g 1 yab)⟩
theorem zgK (x:ByteArray):x.toList.isEmpty=decide (x=⟨#[]⟩):=by
 have:x.toList.isEmpty=(x.toList == (⟨#[]⟩:ByteArray).toList):=by
  have e:(⟨#[]⟩:ByteArray).toList=[]:=by decide +kernel
  rw [e];cases x.toList <;> rfl
 rw [this];exact toList_inj
theorem zpd (h:l[i]? = some s):zfb (l.take (i + 1))=zfb (l.take i) ++ if s.2=⟨#[]⟩ then [] else [s]:=by
 unfold zfb;rw [yaC,h,yaO,ybv];by_cases e:s.2=⟨#[]⟩ <;> simp [e]
theorem zmo {n:ByteArray} (h:l[i]? = some s):zbR (l.take (i + 1)) n=zbR (l.take i) n ++ if s.2=⟨#[]⟩ then [(s.1,n)] else []:=by
 unfold zbR;rw [yaC,h,yaO,ybv,yaM];by_cases e:s.2=⟨#[]⟩ <;> simp [e]
theorem setsP_le (l:List Path) (i:Nat):(zfb (l.take i)).length≤i:=yay (yba _ _) (by rw [yaN];omega)
theorem zq3 (l:List Path) (n:ByteArray) (i:Nat):(zbR (l.take i) n).length≤i:=by
 unfold zbR;rw [yax];exact yay (yba _ _) (by rw [yaN];omega)
theorem sets_any {As:Option Addr} {cs:Nat} {nm vi ed ch:ByteArray} {vo:Value} (hvo:∃Ao no co,vo = .slice Ao no co) (h:Rd w w.heap.size 2 As l.length cs (zb9 l)) (hl:l.length≤100000) :
 Calls Tryz.prog 173 #[.agg #[.string nm,.string vi,.string ed,.string ch,.slice As l.length cs,vo]] w fun e w'=>(∃A' c',e = .returned (.slice A' (zfb l).length c')∧w'.ownsRow w.heap.size 246 2 (.slice A' (zfb l).length c') (zfb l).length (zb9 (zfb l)))∧Below w.heap.size w w':=by
 obtain ⟨Ao,no,co,rfl⟩:=hvo;obtain ⟨O,y,z,A,B⟩:=info_parts zjC;go_enter Tryz.func173,Tryz.ntmps173
 go_wp2_with fail
 have C:Below w.heap.size w (w.alloc (.cells #[.string nm,.string vi,.string ed,.string ch,.slice As l.length cs,.slice Ao no co] 203)):=(Below.refl _ w).alloc (yaj _) _;generalize w.alloc (.cells #[.string nm,.string vi,.string ed,.string ch,.slice As l.length cs,.slice Ao no co] 203)=T at *
 go_loopw [3,9] (fun v vi K=>∃j:Nat,vi = .int .i64 j∧j≤l.length∧K.ownsRow w.heap.size 246 2 v (zfb (l.take j)).length (zb9 (zfb (l.take j)))∧Below w.heap.size w K) (fun _ vi _=>l.length-(intOf vi).toNat)
 case atStart=>exact ⟨0,rfl,yao _,World.ownsRow_nil _ _ _ _,C⟩
 case round =>
  obtain ⟨j,rfl,U,q,f⟩:=hrel;by_cases D:j<l.length
  · have E:(j:Int)<(l.length:Int):=by omega
    obtain ⟨s,L⟩:∃s,l[j]? = some s:=⟨_,yal D⟩;obtain ⟨b,o,rfl,hb,P,Q⟩:=zdU (h.below f) L rfl;have R:=setsP_le l j;have u:=Lib.hid (zpd L);obtain ⟨F,G,rfl,_⟩:=Rd.own q;have H:=f.size;have k:=q.alloc (.cells #[.string s.1,.string s.2] 246);have g:=f.alloc H (.cells #[.string s.1,.string s.2] 246);have I:=Bk.new wr #[.string s.1,.string s.2] 246;go_upto_region 5 with (fail)
    have V:=I.cell 0;have X:=I.cell 1;clear P Q I q f;generalize wr.alloc (.cells #[.string s.1,.string s.2] 246)=Y at *
    have M:=zgK s.2;cases x:decide (s.2=(⟨#[]⟩:ByteArray)) with
    | true =>
     rw [x] at M;go_wp2_with fail
     have m:=yaL x;refine ⟨⟨j + 1,by go_num,by omega,?_,g⟩,by simp [intOf];omega⟩;rw [u.out,yan m,yaK];exact k
    | false =>
     rw [x] at M;go_wp2_with (at_builtin;go_loud (refine zab _ rfl (.tmp 16) (.tmp 18) 200 200 rfl w.heap.size 246 O (.agg #[.string .empty,.string .empty]) 2 32 Tryz.underlying200 y z A B rfl yac (.slice F (zfb (l.take j)).length G) (zfb (l.take j)).length (zb9 (zfb (l.take j))) rfl (k.alloc _) _ 1 [.string s.1,.string s.2] rfl (Src.ofSlice _ Tryz.underlying200 _ 1 1 _ rfl (zcG _ _ _ _) (zh2 s)) yad yab (size_alloc g.size) ?_;intro v9 Z n J N))
     have m:=of_decide_eq_false x;refine ⟨⟨j + 1,by go_num,by omega,?_,zae (g.alloc g.size _) J (k.alloc _) (size_alloc g.size) (yaj _)⟩,by simp [intOf];omega⟩;rw [u.out,yak m,yam,ziw];exact n
  · obtain rfl:j=l.length:=by omega
    have E:¬(((l.length:Nat):Int)<(l.length:Int)):=by omega
    rw [yaz] at q;obtain ⟨F,G,rfl,hR⟩:=Rd.own q;go_wp2_with fail
    go_ret
    exact ⟨⟨F,G,rfl,q⟩,f⟩
theorem nexts_any {As:Option Addr} {cs:Nat} {nm vi ed ch:ByteArray} {vo:Value} (n:ByteArray) (hvo:∃Ao no co,vo = .slice Ao no co) (h:Rd w w.heap.size 2 As l.length cs (zb9 l)) (hl:l.length≤100000) :
 Calls Tryz.prog 174 #[.agg #[.string nm,.string vi,.string ed,.string ch,.slice As l.length cs,vo],.string n] w fun e w'=>(∃A' c',e = .returned (.slice A' (zbR l n).length c')∧w'.ownsRow w.heap.size 246 2 (.slice A' (zbR l n).length c') (zbR l n).length (zb9 (zbR l n)))∧Below w.heap.size w w':=by
 obtain ⟨Ao,no,co,rfl⟩:=hvo;obtain ⟨P,z,A,B,C⟩:=info_parts zjC;go_enter Tryz.func174,Tryz.ntmps174
 go_wp2_with fail
 have D:Below w.heap.size w (w.alloc (.cells #[.string nm,.string vi,.string ed,.string ch,.slice As l.length cs,.slice Ao no co] 203)):=(Below.refl _ w).alloc (yaj _) _;generalize w.alloc (.cells #[.string nm,.string vi,.string ed,.string ch,.slice As l.length cs,.slice Ao no co] 203)=U at *
 go_loopw [5,11] (fun v vi L=>∃j:Nat,vi = .int .i64 j∧j≤l.length∧L.ownsRow w.heap.size 246 2 v (zbR (l.take j) n).length (zb9 (zbR (l.take j) n))∧Below w.heap.size w L) (fun _ vi _=>l.length-(intOf vi).toNat)
 case atStart=>exact ⟨0,rfl,yao _,World.ownsRow_nil _ _ _ _,D⟩
 case round =>
  obtain ⟨j,rfl,V,u,f⟩:=hrel;by_cases E:j<l.length
  · have F:(j:Int)<(l.length:Int):=by omega
    obtain ⟨s,M⟩:∃s,l[j]? = some s:=⟨_,yal E⟩;obtain ⟨b,o,rfl,hb,Q,R⟩:=zdU (h.below f) M rfl;have T:=zq3 l n j;have x:=Lib.hid (zmo (n:=n) M);obtain ⟨G,H,rfl,_⟩:=Rd.own u;have I:=f.size;have k:=u.alloc (.cells #[.string s.1,.string s.2] 246);have g:=f.alloc I (.cells #[.string s.1,.string s.2] 246);have J:=Bk.new wr #[.string s.1,.string s.2] 246;go_upto_region 5 with (fail)
    have X:=J.cell 0;have Y:=J.cell 1;clear Q R J u f;generalize wr.alloc (.cells #[.string s.1,.string s.2] 246)=Z at *
    have N:=zgK s.2;cases y:decide (s.2=(⟨#[]⟩:ByteArray)) with
    | false =>
     rw [y] at N;go_wp2_with fail
     have m:=of_decide_eq_false y;refine ⟨⟨j + 1,by go_num,by omega,?_,g⟩,by simp [intOf];omega⟩;rw [x.out,yak m,yaK];exact k
    | true =>
     rw [y] at N;go_wp2_with (at_builtin;go_loud (refine zab _ rfl (.tmp 18) (.tmp 23) 200 200 rfl w.heap.size 246 P (.agg #[.string .empty,.string .empty]) 2 32 Tryz.underlying200 z A B C rfl yac (.slice G (zbR (l.take j) n).length H) (zbR (l.take j) n).length (zb9 (zbR (l.take j) n)) rfl (k.alloc _) _ 1 [.string s.1,.string n] rfl (Src.ofSlice _ Tryz.underlying200 _ 1 1 _ rfl (zcG _ _ _ _) (zh2 (s.1,n))) yad yab (size_alloc g.size) ?_;intro v9 w8 q K O))
     have m:=yaL y;refine ⟨⟨j + 1,by go_num,by omega,?_,zae (g.alloc g.size _) K (k.alloc _) (size_alloc g.size) (yaj _)⟩,by simp [intOf];omega⟩;rw [x.out,yan m,yam,ziw];exact q
  · obtain rfl:j=l.length:=by omega
    have F:¬(((l.length:Nat):Int)<(l.length:Int)):=by omega
    rw [yaz] at u;obtain ⟨G,H,rfl,hR⟩:=Rd.own u;go_wp2_with fail
    go_ret
    exact ⟨⟨G,H,rfl,u⟩,f⟩
def zdQ (ps:List Path):DataW Unit:=ps.zipIdx.foldl (fun D p=>D.put (kS p.1) (.lit (.int .i64 (p.2:Int)))) (.map [])
theorem zew (ps:List Path) (p:Path):zdQ (ps ++ [p])=(zdQ ps).put (kS p) (.lit (.int .i64 (ps.length:Int))):=by
 unfold zdQ;rw [ycB,ycn];simp
def SmP (p:Path):Prop:=p.1.size≤maxLen∧p.2.size≤maxLen
theorem zqu {p:Path} (h:SmP p):WideAt.IsKeyLit (kS p):=zd6.key (zd5 h.1 h.2)
theorem zhG (ps:List Path):IsMap (zdQ ps):=by
 suffices H:∀(l:List (Path × Nat)) (D:DataW Unit),IsMap D→IsMap (l.foldl (fun D p=>D.put (kS p.1) (.lit (.int .i64 (p.2:Int)))) D) from H _ _ isMap_empty
 intro l;induction l with
 | nil=>intro D h;exact h
 | cons a t ih=>intro D h;exact ih _ (h.put _ _)
theorem zcI (hs:∀p ∈ ps,SmP p) {q:Path} (hq:SmP q):Maps.has (zdQ ps) (kS q)=(zat ps q).isSome∧∀z,(zdQ ps).atKey (kS q) z=match zat ps q with | some i=>.lit (.int .i64 (i:Int)) | none=>z:=by
 suffices H:∀n (ps:List Path),ps.length=n→(∀p ∈ ps,SmP p)→Maps.has (zdQ ps) (kS q)=(zat ps q).isSome∧∀z,(zdQ ps).atKey (kS q) z=match zat ps q with | some i=>.lit (.int .i64 (i:Int)) | none=>z from H _ ps rfl hs
 intro n;induction n with
 | zero =>
  intro ps f _;rw [yaU f];exact ⟨rfl,fun z=>rfl⟩
 | succ n ih =>
  intro ps f hs;rcases ybR ps with rfl | ⟨j,p,rfl⟩
  · simp at f
  · rw [yb8] at *
    have g:=hs p yaf;obtain ⟨k,m⟩:=ih j (by simpa using f) fun x o=>hs x (by simp [o]);rw [zew,zhA];by_cases e:p=q
    · subst e;rw [yan rfl,has_put_same (zhG _) (zqu g)];exact ⟨rfl,fun z=>atKey_put_same (zhG _) (zqu g) _ z⟩
    · have b:kS q≠kS p:=fun s=>e (kS_inj g.1 g.2 hq.1 hq.2 s.symm);rw [yak e,has_put_other b];exact ⟨k,fun z=>(atKey_put_other b _ z).trans (m z)⟩
def MapS (w:World) (b:Nat) (ps:List Path):Prop:=w.ownsMap Tryz.prog 246 (plainElem Tryz.prog 3) b ps.length (zdQ ps)∧∀p ∈ ps,SmP p
theorem MapS.same {w':World} (h:MapS w b ps) (hb:w'.heap[b]? = w.heap[b]?):MapS w' b ps:=by
 obtain ⟨⟨g,f,j,k⟩,m⟩:=h;exact ⟨⟨g,f,hb.trans j,k⟩,m⟩
theorem MapS.lt (h:MapS w b ps):b<w.heap.size:=h.1.lt
theorem MapS.below {w':World} (h:MapS w b ps) (hb:Below w.heap.size w w'):MapS w' b ps:=h.same (hb.block b h.lt)
def relsA (l:List TypA):List (TypA × RelA):=l.flatMap fun t=>t.rels.map fun r=>(t,r)
def zal (k:List (TypA × RelA)):List Path:=k.map fun x=>(x.1.name,x.2.name)
def zed (k:List (TypA × RelA)):List Value:=k.flatMap fun x=>x.2.cells
theorem zoV (a b:List (TypA × RelA)):zed (a ++ b)=zed a ++ zed b:=ya0
theorem zeF {l:List TypA} {t:TypA} (h:l[i]? = some t):relsA (l.take (i + 1))=relsA (l.take i) ++ t.rels.map fun r=>(t,r):=by
 unfold relsA;rw [yaC,h,yaO,ya0,List.flatMap_singleton]
theorem zgT {l:List TypA} (i:Nat):(relsA (l.take i)).length≤(relsA l).length:=by
 conv=>rhs;rw [←ybk i l]
 unfold relsA;rw [ya0,yam];omega
structure KI (w wx:World) (done:List (TypA × RelA)):Prop where
 one:∃v,Bk wx (w.heap.size + 1 + 1 + 1) #[v,.map (some (w.heap.size + 1 + 1))] 217∧wx.ownsRow (w.heap.size + 4) 203 6 v done.length (zed done)
 map:MapS wx (w.heap.size + 1 + 1) (zal done)
 res:Bk wx (w.heap.size + 1) #[.slice none 0 0,.map none] 217
 below:Below w.heap.size w wx
theorem KI.alloc {wx:World} {done:List (TypA × RelA)} (h:KI w wx done) (o:Obj):KI w (wx.alloc o) done:=by
 obtain ⟨⟨v,f,g⟩,j,k,b⟩:=h;exact ⟨⟨v,f.alloc o,g.alloc o⟩,j.below ((Below.refl _ wx).alloc (yaj _) o),k.alloc o,b.alloc b.size o⟩
theorem zj0 (x:RelA):∀u ∈ x.cells,u.oneCell'=true:=zll _ _ _ _ _ _ _ _ _ _
theorem zoc {n:Nat} (h:n≤100000):(Lit.int .i64 (n:Int)).wf=true:=WalkArith.wf_i64 yab
theorem knownOf_any {R c:Nat} {A:Option Addr} {l:List TypA} (h:SchA w R A c l) (hR:R≤140737488351232) (hl:(relsA l).length≤100000) :
 Calls Tryz.prog 121 #[.agg #[.slice A l.length c]] w fun e w'=>(∃A' c' b,e = .returned (.agg #[.slice A' (relsA l).length c',.map (some b)])∧w.heap.size≤b ∧
  w'.ownsRow w.heap.size 203 6 (.slice A' (relsA l).length c') (relsA l).length (zed (relsA l))∧MapS w' b (zal (relsA l)))∧Below w.heap.size w w':=by
 have ae:=@run_makeMap Tryz.prog;have b4:(l.length:Int)≤9223372036854775807:=by have:=h.rows.cap;have:=h.rows.capm;simp only [maxLen] at this;omega
 obtain ⟨i0,af,ag,ah,ai⟩:=info_parts zni;go_enter Tryz.func121,Tryz.ntmps121
 go_wp2_with fail
 have d0:=((Bk.new w #[.slice A l.length c] 140).alloc (.cells #[.slice none 0 0,.map none] 217)).alloc (.map #[] 0) |>.alloc (.cells #[.slice none 0 0,.map (some (w.heap.size + 1 + 1))] 217);have d1:=((Bk.new (w.alloc (.cells #[.slice A l.length c] 140)) #[.slice none 0 0,.map none] 217).alloc (.map #[] 0)).alloc (.cells #[.slice none 0 0,.map (some (w.heap.size + 1 + 1))] 217);have Y:MapS (((w.alloc (.cells #[.slice A l.length c] 140)).alloc (.cells #[.slice none 0 0,.map none] 217)).alloc (.map #[] 0)) ((w.alloc (.cells #[.slice A l.length c] 140)).alloc (.cells #[.slice none 0 0,.map none] 217)).heap.size (zal []):=⟨World.ownsMap_made _ _ _ _,fun p hp=>by cases hp⟩;have d3:=Bk.new (((w.alloc (.cells #[.slice A l.length c] 140)).alloc (.cells #[.slice none 0 0,.map none] 217)).alloc (.map #[] 0)) #[.slice none 0 0,.map (some (w.heap.size + 1 + 1))] 217;replace Y:=Y.below ((Below.refl _ _).alloc (yaj _) (.cells #[.slice none 0 0,.map (some (w.heap.size + 1 + 1))] 217));simp only [World.size_alloc] at d1 Y d3;have Z:Below w.heap.size w ((((w.alloc (.cells #[.slice A l.length c] 140)).alloc (.cells #[.slice none 0 0,.map none] 217)).alloc (.map #[] 0)).alloc (.cells #[.slice none 0 0,.map (some (w.heap.size + 1 + 1))] 217)):=((((Below.refl _ w).alloc (yaj _) _).alloc yaf _).alloc yag _).alloc yag _;generalize (((w.alloc (.cells #[.slice A l.length c] 140)).alloc (.cells #[.slice none 0 0,.map none] 217)).alloc (.map #[] 0)).alloc (.cells #[.slice none 0 0,.map (some (w.heap.size + 1 + 1))] 217)=w0 at *
 have aj:KI w w0 (relsA (l.take 0)):=⟨⟨_,d3,World.ownsRow_nil _ _ _ _⟩,Y,d1,Z⟩;clear ae d0 d1 Y d3 Z;go_loopw [13] (fun K wx=>∃i:Nat,K = .int .i64 i∧i≤l.length∧KI w wx (relsA (l.take i))) (fun K _=>l.length-(intOf K).toNat)
 case atStart=>exact ⟨0,rfl,yao _,aj⟩
 case round =>
  obtain ⟨i,rfl,hi,C⟩:=hrel;by_cases ak:i<l.length
  · have al:(i:Int)<(l.length:Int):=by omega
    obtain ⟨t,ht⟩:∃t,l[i]? = some t:=⟨_,yal ak⟩;obtain ⟨b,o,rfl,t0,t1,F⟩:=h.get ht;replace t0:=zaj t0 C.below;replace t1:=zaj t1 C.below;have a1:=F.rels;have b5:(t.rels.length:Int)≤9223372036854775807:=by have:=a1.cap;have:=a1.capm;simp only [maxLen] at this;omega
    have a2:=zeF ht;have am:=zgT (l:=l) (i + 1);rw [a2,yam,yax] at am;have an:=C.alloc (.cells #[.string t.name,.slice t.A t.rels.length t.c] 199);have x1:=Bk.new wr #[.string t.name,.slice t.A t.rels.length t.c] 199;have b6:=C.below.size;have az:w.heap.size + 4≤wr.heap.size:=by obtain ⟨v,q,_⟩:=C.one;have:=q.lt;omega
    go_upto_region 5 with (fail)
    clear t0 t1;generalize hq5:wr.heap.size=q5 at *
    generalize wr.alloc (.cells #[.string t.name,.slice t.A t.rels.length t.c] 199)=w1 at *
    have y0:=x1.cell 0;have y1:=x1.cell 1;go_wp2_with fail
    go_loopw [20] (fun K wx=>∃j:Nat,K = .int .i64 j∧j≤t.rels.length∧KI w wx (relsA (l.take i) ++ (t.rels.take j).map fun r=>(t,r))∧Bk wx q5 #[.string t.name,.slice t.A t.rels.length t.c] 199) (fun K _=>t.rels.length-(intOf K).toNat)
    case atStart=>exact ⟨0,rfl,yao _,by simpa using an,x1⟩
    case round =>
     obtain ⟨j,rfl,hj,B,L⟩:=hrel;by_cases ao:j<t.rels.length
     · have aq:(j:Int)<(t.rels.length:Int):=by omega
       obtain ⟨x,hx⟩:∃x,t.rels[j]? = some x:=⟨_,yal ao⟩;obtain ⟨g,k,e5,g0,g1,g2,g3,g4,g5,a6⟩:=(F.up B.below).get hx;have b7:=F.name;have b8:=a6.name;obtain ⟨dn,G⟩:∃dn,relsA (l.take i) ++ (t.rels.take j).map (fun r=>(t,r))=dn:=⟨_,rfl⟩;have b9:dn.length≤99999:=by rw [←G,yam,yax,yaN];omega
       have ar:Hid (relsA (l.take i) ++ (t.rels.take (j + 1)).map (fun r=>(t,r))=dn ++ [(t,x)]):=Lib.hid (by rw [yaC,hx,yaO,yaM,←yaD,G];rfl);rw [G] at B;have G:=Lib.hid G;have b0:w.heap.size + 4≤wr.heap.size:=by obtain ⟨v,q,_⟩:=B.one;have:=q.lt;omega
       have m:=B.alloc (.cells x.cells.toArray 203);have n:=L.alloc (.cells x.cells.toArray 203);have x7:=Bk.new wr x.cells.toArray 203;have a7:wr.heap.size<(wr.alloc (.cells x.cells.toArray 203)).heap.size:=by simp
       have b1:=L.lt;have au:x.cells.toArray=#[.string x.name,.string x.view,.string x.edit,.string x.check,.slice x.As x.subs.length x.cs,.slice x.Ao x.ops.length x.co]:=rfl;rw [au] at m n x7 a7;rw [e5] at *
       go_upto_region 8 with (fail)
       clear g0 g1 g2 g3 g4 g5 B L;generalize hq7e:wr.heap.size=M at *
       generalize wr.alloc (.cells #[.string x.name,.string x.view,.string x.edit,.string x.check,.slice x.As x.subs.length x.cs,.slice x.Ao x.ops.length x.co] 203)=w2 at *
       obtain ⟨v,u,y⟩:=m.one;obtain ⟨T,U,rfl,av⟩:=Rd.own y;have z0:=u.cell 0;have z1:=u.cell 1;have z5:=n.cell 0;have z7:=x7.cell 0;have D:=m.map;have a8:keyOf Tryz.prog 246 (.agg #[.string t.name,.string x.name])=some (kS (t.name,x.name)):=zd5 (s:=(t.name,x.name)) yad yad;have N:(zal dn).length=dn.length:=by simp [zal]
       have O:=D.1;rw [N] at O;have ba:=D.lt;go_upto_region 9 with (at_mapUpdate;refine wpList_mapUpdate_own _ rfl _ _ _ 215 rfl 246 3 zd6 Tryz.underlying215 _ (w.heap.size + 1 + 1) dn.length _ rfl O (by unfold maxLen;omega) _ _ _ rfl rfl a8 _ [] (plainElem_int Tryz.underlying3 (zoc yab)) ?_;intro w3 aa P)
       have V:∀f,f<w2.heap.size→f≠w.heap.size + 1 + 1→w3.heap[f]? = w2.heap[f]?:=fun f X h2=>P.block f X fun e'=>h2 (yaZ e');have k3:Bk w3 (w.heap.size + 1 + 1 + 1) _ _:=(V _ u.lt yab).trans u;have z:w3.ownsRow (w.heap.size + 4) 203 6 (.slice T dn.length U) dn.length (zed dn):=zaH y fun f X=>V f (y.lt f X).2 (by have:=(y.lt f X).1;omega);have J:Bk w3 (w.heap.size + 1) _ _:=(V _ m.res.lt yab).trans m.res;have aw:Bk w3 q5 _ _:=(V _ n.lt yab).trans n;have E:Bk w3 M _ _:=(V _ a7 yab).trans x7;have Q:Below w.heap.size w w3:=m.below.grown P m.below.size fun r e'=>by cases e';omega
       have ab:zal (dn ++ [(t,x)])=zal dn ++ [(t.name,x.name)]:=by simp [zal]
       have ac:MapS w3 (w.heap.size + 1 + 1) (zal (dn ++ [(t,x)])):=by
        refine ⟨?_,fun q hq=>?_⟩
        · rw [ab,zew,N,yam,N];exact aa
        · rw [ab,yaA,yav] at hq;rcases hq with hq | rfl
          · exact D.2 q hq
          · exact ⟨by simp only [maxLen];omega,by simp only [maxLen];omega⟩
       clear aa D O m u y n x7 z0 z1 z5 z7 P V;have z0:=k3.cell 0;have zf:=k3.fz 0;obtain ⟨s0,s1,s2,s3,s4,s5⟩:w3.cell? ⟨M,0,none⟩=some (.string x.name)∧w3.cell? ⟨M,1,none⟩=some (.string x.view)∧w3.cell? ⟨M,2,none⟩=some (.string x.edit)∧w3.cell? ⟨M,3,none⟩=some (.string x.check)∧w3.cell? ⟨M,4,none⟩=some (.slice x.As x.subs.length x.cs)∧w3.cell? ⟨M,5,none⟩=some (.slice x.Ao x.ops.length x.co):=⟨E.cell 0,E.cell 1,E.cell 2,E.cell 3,E.cell 4,E.cell 5⟩;have b2:=k3.lt;go_wp2_with (at_builtin;go_loud (refine zab _ rfl (.tmp 35) (.tmp 37) 197 197 rfl (w.heap.size + 4) 203 i0 _ 6 112 Tryz.underlying197 af ag ah ai rfl yac (.slice T dn.length U) dn.length (zed dn) rfl (z.alloc _) _ 1 x.cells rfl (Src.ofSlice _ Tryz.underlying197 _ 1 1 _ rfl (ziF _ _ _ _ _ _ _ _) (zj0 x)) yad yab (size_alloc yab) ?_;intro v9 w8 H I b3;obtain ⟨A9,c9,rfl,_⟩:=Rd.own H;have k8:=zbB (k3.alloc _) (z.alloc _) yac I;have y8:=k8.cell 0;have bb:=k8.fz 0))
       have ad:=I.size;simp only [World.size_alloc] at ad;have o8:∀f,f<w3.heap.size→f<w.heap.size + 4→f≠w.heap.size + 1 + 1 + 1→(w8.setCell ⟨w.heap.size + 1 + 1 + 1,0,none⟩ (.slice A9 (dn.length + 1) c9)).heap[f]? = w3.heap[f]?:=fun f X h2 h3 =>
        ((Below.heap_setCell _ _ _ _ h3).trans (I.block f yag fun e'=>by have:=(z.lt f e'.symm).1;omega)).trans (Below.heap_alloc _ _ _ X)
       have ax:Bk (w8.setCell ⟨w.heap.size + 1 + 1 + 1,0,none⟩ (.slice A9 (dn.length + 1) c9)) q5 _ _:=(zbB (aw.alloc _) (z.alloc _) yac I).other (a:=⟨w.heap.size + 1 + 1 + 1,0,none⟩) (by show q5≠w.heap.size + 1 + 1 + 1;omega) _;have ay:Below w.heap.size w (w8.setCell ⟨w.heap.size + 1 + 1 + 1,0,none⟩ (.slice A9 (dn.length + 1) c9)):=(zae (Q.alloc Q.size _) I (z.alloc _) (size_alloc Q.size) yab).setCell (by show w.heap.size≤w.heap.size + 1 + 1 + 1;omega) _;refine ⟨⟨j + 1,by go_num,by omega,?_,ax⟩,by simp [intOf];omega⟩;rw [ar.out];refine ⟨⟨_,by simpa using k8.set 0 (.slice A9 (dn.length + 1) c9),?_⟩,ac.same (o8 _ ac.lt yab yab),(o8 _ J.lt yab yab).trans J,ay⟩;rw [yam,zoV];have e9:zed [(t,x)]=x.cells:=by simp [zed]
       rw [e9];exact own_set H (by show w.heap.size + 1 + 1 + 1<_;omega) _
     · obtain rfl:j=t.rels.length:=by omega
       have aq:¬(((t.rels.length:Nat):Int)<(t.rels.length:Int)):=by omega
       rw [yaz,←a2] at B;go_wp2_with fail
       exact ⟨⟨i + 1,by go_num,by omega,B⟩,by simp [intOf];omega⟩
  · obtain rfl:i=l.length:=by omega
    have al:¬(((l.length:Nat):Int)<(l.length:Int)):=by omega
    rw [yaz] at C;obtain ⟨v,u,y⟩:=C.one;obtain ⟨T,U,rfl,av⟩:=Rd.own y;have z0:=u.cell 0;have z1:=u.cell 1;have r0:=C.res.cell 0;have r1:=C.res.cell 1;have bc:=C.res.fz 0;have bd:=C.res.fz 1;go_wp2_with fail
    have hw:=(C.res.set 0 (.slice T (relsA l).length U)).set 1 (.map (some (w.heap.size + 1 + 1)));obtain ⟨y0,y1⟩:=Bk.c2 hw;refine bodyPost_ret (v:=.agg #[.slice T (relsA l).length U,.map (some (w.heap.size + 1 + 1))]) (by simp [results,Tryz.results121,go_sem,y0,y1];try rfl) rfl ?_;refine ⟨⟨T,U,w.heap.size + 1 + 1,rfl,by omega,zaA (own_set (own_set y (by show w.heap.size + 1<_;omega) _) (by show w.heap.size + 1<_;omega) _) yab,(C.map.same ?_)⟩,(C.below.setCell (by show w.heap.size≤w.heap.size + 1;omega) _).setCell (by show w.heap.size≤w.heap.size + 1;omega) _⟩;exact (Below.heap_setCell _ _ _ _ (by show w.heap.size + 1 + 1≠w.heap.size + 1;omega)).trans (Below.heap_setCell _ _ _ _ (by show w.heap.size + 1 + 1≠w.heap.size + 1;omega))
end
end Go.Proofs.YtmblgnddgmfkhaaGreat
