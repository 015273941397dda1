import Derived.Test.YtmblgnddgmfkhaaGreatK41
set_option maxRecDepth 100000
set_option maxHeartbeats 4000000
namespace Go.Proofs.YtmblgnddgmfkhaaGreat
section
open Go.RowKit Go.Shelf
attribute [local go_sem] Oper.semAt_some
variable {L:List Sp} {w A B C X Y:World} {row:Option Nat} {M b g i:Nat} {last:Int} {left:Lit→Bool} {ss:List ByteArray} {k:ByteArray} {cs:Array Value}
structure Kx (F X:Nat→Prop) (W W':World):Prop where
 size:W.heap.size≤W'.heap.size
 own:∀k,F k→W'.heap[k]? = W.heap[k]?
 walk:∀(k:Nat) (o:Obj),W.heap[k]? = some o→o.isWalk=true→¬X k→W'.heap[k]? = some o
theorem Kx.refl (F X:Nat→Prop) (W:World):Kx F X W W:=⟨yaj _,fun _ _=>rfl,fun _ _ h _ _=>h⟩
theorem Kx.trans {F X:Nat→Prop} (h:Kx F X A B) (k:Kx F X B C):Kx F X A C:=⟨yay h.size k.size,fun j b=>(k.own j b).trans (h.own j b),fun j o b f g=>k.walk j o (h.walk j o b f g) f g⟩
theorem Kx.grown {F X:Nat→Prop} (h:Kx F X A B) (hg:B.grownBy C row) (hF:∀k,F k→k<B.heap.size) (hr:∀r,row=some r→¬F r∧(X r∨∃o:Obj,B.heap[r]? = some o∧o.isWalk=false)):Kx F X A C :=
 h.trans ⟨hg.size,fun k hk=>hg.block k (hF k hk) fun e=>(hr k e.symm).1 hk,fun k o hk g j=>(hg.block k (yaR.1 hk).1 fun e=>by
  rcases (hr k e.symm).2 with q | ⟨m,b,f⟩
  · exact j q
  · rw [hk] at b;cases b;rw [g] at f;cases f).trans hk⟩
theorem Kx.putObj {F X:Nat→Prop} (hF:∀k,F k→k<M) (W:World) (l:Nat) (o o':Obj) (hl:M≤l) (h1:W.heap[l]? = some o) (h3:o.isWalk=false):Kx F X W (W.putObj l o') :=
 (Kx.refl F X W).trans ⟨(grownBy_putObj' W l o').size,fun k hk=>World.putObj_heap_other (by have:=hF k hk;omega),fun k f hk b _=>(World.putObj_heap_other fun e=>by
  subst e;rw [hk] at h1;cases h1;rw [b] at h3;cases h3).trans hk⟩
theorem zmz {w':World} {r n cnt:Nat} {D:DataW Value} (h:w.ranges Tryz.prog 9 zru b r n D left cnt) (hb:w'.heap[b]? = w.heap[b]?) (hr:w'.heap[r]? = w.heap[r]?):w'.ranges Tryz.prog 9 zru b r n D left cnt:=by
 obtain ⟨j,f,g,seen,k,m,F,o,q,s,rest⟩:=h;exact ⟨j,f,g,seen,k,hb.trans m,F,o,q,hr.trans s,rest⟩
def zmJ (x:Sp):Array Value:=#[.string x.1,.agg #[.int .i64 x.2.1,.int .i64 x.2.2]]
structure Coll (L:List Sp) (left:Lit→Bool) (ss:List ByteArray):Prop where
 nodup:ss.Nodup
 some_:∀k ∈ ss,ofK L k≠[]
 iff:∀k:ByteArray,ofK L k≠[]→(k ∈ ss↔left (kL k)=false)
def Telling (L ys:List Sp):Prop:=∃ks:List ByteArray,ks.Nodup∧(∀x ∈ L,x.1 ∈ ks)∧ys=ks.flatMap (withK L)
theorem Telling.perm {ys:List Sp} (h:Telling L ys):ys.Perm L:=by
 obtain ⟨ks,b,f,rfl⟩:=h;exact zlz b f
theorem Telling.ofK {ys:List Sp} (h:Telling L ys) (k:ByteArray):ofK ys k=ofK L k:=by
 obtain ⟨ks,b,f,rfl⟩:=h;exact ofK_told b f k
theorem Coll.step (h:Coll L left ss) (hk:ofK L k≠[]) (hl:left (kL k)=true):Coll L (fun z=>left z && !z.sameKey (kL k)) (ss ++ [k]):=by
 have g:k ∉ ss:=fun j=>by rw [(h.iff k hk).1 j] at hl;cases hl
 refine ⟨ybb.2 ⟨h.nodup,by simp,fun a m b hb=>by simp at hb;subst hb;exact fun e=>g (e ▸ m)⟩,fun c f=>?_,fun c f=>?_⟩
 · rcases yaA.1 f with f | f
   · exact h.some_ c f
   · rw [yav] at f;rw [f];exact hk
 · rw [kL_same];by_cases e:c=k
   · subst e;simp
   · simp [h.iff c f,e]
theorem Coll.done (h:Coll L left ss) (hl:∀kl,left kl=false):Telling L (ss.flatMap (withK L)) :=
 ⟨ss,h.nodup,fun x b=>(h.iff x.1 fun e=>zgP.1 e x b rfl).2 (hl _),rfl⟩
theorem zie (L:List Sp) (k:ByteArray):(withK L k).length=(ofK L k).length:=by unfold withK;rw [yax]
theorem zsd {y:Iv} (h:(ofK L k)[i]? = some y):(withK L k)[i]? = some (k,y):=by unfold withK;rw [yaY,h];rfl
theorem zpl (hn:(ss ++ [k]).Nodup) (hi:i<(ofK L k).length):(ss.flatMap (withK L) ++ (withK L k).take i).length<L.length:=by
 have key:∀(ks:List ByteArray) (L:List Sp),ks.Nodup→(ks.flatMap (withK L)).length≤L.length:=by
  intro ks;induction ks with
  | nil=>intro L _;exact yao _
  | cons c ks ih =>
   intro L hn;obtain ⟨b,f⟩:=ybS.1 hn;have e:ks.flatMap (withK L)=ks.flatMap (withK (L.filter fun x=>!decide (x.1=c))):=by
    rw [ybU,ybU];congr 1
    refine ybC fun d g=>(zgv fun e=>b (by rw [←e];exact g)).symm
   have m:=ih (L.filter fun x=>!decide (x.1=c)) f;have j:=(List.filter_append_perm (fun x:Sp=>decide (x.1=c)) L).length_eq;rw [yam] at j;rw [yaS,yam,e,zfP];omega
 have h:=key _ L hn;rw [ya0,yam,yaS,List.flatMap_nil,yaK,zie] at h;rw [yam,yaN,zie];omega
theorem zqw {v:Value} {kl:Lit} (h:keyOf Tryz.prog 9 v=some kl):∃k:ByteArray,v = .string k∧kl=kL k∧k.size≤maxLen:=by
 unfold keyOf at h;simp only [Tryz.underlying9] at h;unfold mapKey at h;simp only [Tryz.underlying9] at h;cases v <;> simp at h;obtain ⟨b,rfl⟩:=h;exact ⟨_,rfl,rfl,b⟩
theorem all_in (n:Nat) (hn:1≤n) (l Bs g b nn:Nat) (last:Value) (L:List Sp) (V:ByteArray→Value) (F X:Nat→Prop) (J Jx:List Sp→World→Prop) (W:World) (hJ:AbidesFrom W.heap.size J)
 (hBs:W.cell? ⟨Bs,0,none⟩=some (.pointer (some ⟨g,0,none⟩))) (hg:Rk W g #[.map (some b),last] 124) (hM:MapR W 0 b nn (ofK L) V) (hF:∀j,(j=b∨∃k,(V k).ownBlock=some j)→F j) (hFl:∀j,F j→j<W.heap.size) (hX:∀j,X j→j<W.heap.size) (hsz:∀x ∈ L,x.1.size≤1000000) (hlen:L.length≤1000000)
 (hY:∀pre x W1,x ∈ L→J pre W1→pre.length<L.length→YieldAt Fence.wide (n-1) Tryz.prog l (zmJ x) W1 fun e W' =>
  (e = .returned (.bool true)∧J (pre ++ [x]) W'∧Kx F X W1 W')∨(e = .returned (.bool false)∧Jx (pre ++ [x]) W'))
 (h0:J [] W) :
 CallsIn Fence.wide n Tryz.prog 136 #[.func (.yield l) #[] #[],.pointer (some ⟨Bs,0,none⟩)] W fun e W'=>(∃v,e = .returned v) ∧
  ((∃ys,Telling L ys∧J ys W')∨(∃pre,True∧Jx pre W')):=by
 obtain ⟨D,U,ah,E⟩:=hM.own;have Y:=hM.row;have Z:F b:=hF b (.inl rfl);have ai:∀k j,(V k).ownBlock=some j→F j:=fun k j f=>hF j (.inr ⟨k,f⟩);obtain ⟨g0,g1⟩:=hg.two;have b7:=hM.lt;refine callsIn_of_wp Tryz.func136 rfl trivial ?_ rfl;simp only [Tryz.ntmps136,ybu,yat,yaE,Nat.reduceAdd,Nat.reduceSub,ybL,ybK,ybX,ybO,ya6,ybq];gi_wp2_with (first
  | (gi_at_range;refine wpListIn_range_own _ rfl _ 122 rfl 9 164 zjI Tryz.underlying122 _ b nn _ rfl U ?_;intro w0 a1 a2 b8)
  | fail)
 go_frame
 have a6:∀j,F j→w0.heap[j]? = W.heap[j]?:=fun j f=>a2.block j (hFl j f) yaf;gi_loopw [3] (fun _ wr=>∃(left:Lit→Bool) (cnt:Nat) (M:List ByteArray),wr.ranges Tryz.prog 9 zru b W.heap.size nn D left cnt∧Coll L left M∧J (M.flatMap (withK L)) wr∧(∀j,F j→wr.heap[j]? = W.heap[j]?)∧W.heap.size<wr.heap.size)
  (fun _ wr=>wr.rangeLeft b W.heap.size)
 case atStart =>
  refine ⟨_,_,[],a1,⟨ycT,fun _ h=>by simp at h,fun k hk=>?_⟩,hJ [] W w0 none h0 a2 (fun r e=>by cases e),a6,by omega⟩;have B:k.size≤maxLen:=by
   obtain ⟨y,T⟩:=List.exists_mem_of_ne_nil _ hk;have:=hsz _ (zhD.1 T);simp only [maxLen];dsimp only at this;omega
  rw [E k B];simp [hk]
 case round =>
  obtain ⟨left,cnt,M,N,hC,a7,aj,b9⟩:=hrel;gi_wp2_with (first
   | (gi_at_next;refine wpListIn_next_ranges _ rfl _ rfl 9 zjI zru (id:Value→Value) (id:Value→Value) (fun key _ _=>⟨key,rfl⟩) (fun v _ _=>⟨v,rfl⟩) b W.heap.size nn _ _ _ rfl N ?_ ?_)
   | fail)
  · intro ba ak;gi_wp2
    go_end0
    exact ⟨⟨_,rfl⟩,.inl ⟨_,hC.done ak,a7⟩⟩
  · intro x c kl yd yp w2 cnt2 G a8 hv u H al O am an;obtain ⟨k,rfl,rfl,B⟩:=zqw G;have ao:c=V k:=by
     have h1:=u (.held nilS);rw [ah k B] at h1;simp only [zru,yaT,Prod.mk.injEq] at hv;have h2:=h1.trans hv.1.symm;simp only [DataW.held.injEq] at h2;exact h2.symm
    have aa:ofK L k≠[]:=fun e=>by
     have h1:=Maps.has_true_of_atKey u;rw [E k B,e] at h1;cases h1
    subst ao;have I:∀j,F j→w2.heap[j]? = W.heap[j]?:=fun j f=>(O.block j (by have:=hFl j f;omega) (by have:=hFl j f;simp;omega)).trans (aj j f);have m:∀W':World,(∀j,F j→W'.heap[j]? = W.heap[j]?)→W'.ownsRow 0 163 2 (V k) (ofK L k).length (ics (ofK L k)):=fun W' h=>zau (Y k) fun j f=>h j (ai k j f);have aq:J (M.flatMap (withK L)) w2:=hJ _ wr w2 (some W.heap.size) a7 O (fun r e=>by cases e;exact ⟨yaj _,N.iter_walk⟩);have ar:(M ++ [k]).Nodup:=(hC.step aa a8).nodup;obtain ⟨A,cap,P,au⟩:=Rd.own (m W fun _ _=>rfl);have s:∀W':World,(∀j,F j→W'.heap[j]? = W.heap[j]?)→Rd W' W'.heap.size 2 A (ofK L k).length cap (ics (ofK L k)):=fun W' h=>by
     obtain ⟨A',b4,e,hr⟩:=Rd.own (m W' h);rw [P] at e;injection e with e1 _ e2
     rw [e1,e2];exact hr
    have av:=zhH L k;rw [P] at an ⊢;clear am u hv G P m au;gi_wp2
    have b5:=O.size;gi_loopw [21] (fun vi wx=>∃i:Nat,vi = .int .i64 i∧i≤(ofK L k).length∧J (M.flatMap (withK L) ++ (withK L k).take i) wx∧(∀j,F j→wx.heap[j]? = W.heap[j]?)∧wx.heap[W.heap.size]? = w2.heap[W.heap.size]?∧W.heap.size<wx.heap.size)
     (fun vi _=>(ofK L k).length-(intOf vi).toNat)
    case atStart=>exact ⟨0,rfl,yao _,by rw [List.take_zero,yaK];exact aq,I,rfl,by omega⟩
    case round =>
     obtain ⟨i,rfl,hi,Q,C,ab,ac⟩:=hrel;obtain ⟨oi,ad,aw⟩:=H.iter_walk;by_cases ae:i<(ofK L k).length
     · have di:(i:Int)<((ofK L k).length:Int):=by omega
       obtain ⟨y,T⟩:∃y,(ofK L k)[i]? = some y:=⟨_,yal ae⟩;obtain ⟨bb,o,rfl,bc,c0,c1⟩:=rd_iv (s wr C) T;obtain ⟨y1,y2⟩:=y;dsimp only at c0 c1;have ax:=hJ _ wr (wr.alloc (.cells #[.int .i64 y1,.int .i64 y2] 163)) none Q (World.grownBy_alloc _ _ _) (fun r e=>by cases e);have ay:=zpl ar ae;have az:(withK L k).take (i + 1)=(withK L k).take i ++ [(k,y1,y2)]:=by rw [yaC,zsd T];rfl
       obtain ⟨fn,tmps,ag,b6,b0,hR⟩:=hY _ (k,y1,y2) _ (zhD.1 (yaq T)) ax ay;have b1:∀j,F j→(wr.alloc (.cells #[.int .i64 y1,.int .i64 y2] 163)).heap[j]? = W.heap[j]?:=fun j f=>(Below.heap_alloc _ _ _ (by have:=hFl j f;omega)).trans (C j f);have b2:(wr.alloc (.cells #[.int .i64 y1,.int .i64 y2] 163)).heap[W.heap.size]? = some oi:=(Below.heap_alloc _ _ _ ac).trans (ab.trans ad);simp only [zmJ] at b0;clear s T;gi_wp2
       refine hR.mono ?_;rintro e W3 (⟨rfl,b3,R⟩ | ⟨rfl,af⟩)
       · gi_wp2
         go_roundw
         case rel =>
          refine ⟨i + 1,by go_num,by omega,by rw [az,←yaD];exact b3,fun j f=>(R.own j f).trans (b1 j f),(R.walk _ _ b2 aw fun q=>by have:=hX _ q;omega).trans ad.symm,?_⟩;have:=R.size;simp at this;omega
         case measure=>simp [intOf];omega
       · gi_wp2
         refine bodyPost_ret (results_none rfl _ _ _) rfl ?_;exact ⟨⟨_,rfl⟩,.inr ⟨_,trivial,af⟩⟩
     · obtain rfl:i=(ofK L k).length:=by omega
       have di:¬(((ofK L k).length:Nat):Int)<((ofK L k).length:Int):=by omega
       have K:wr.ranges Tryz.prog 9 zru b W.heap.size nn D (fun z=>left z && !z.sameKey (kL k)) cnt2:=zmz H ((C b Z).trans (I b Z).symm) ab;rw [ybl (by rw [zie];exact yaj _)] at Q;clear s;gi_wp2
       go_roundw
       case rel=>exact ⟨_,cnt2,M ++ [k],K,hC.step aa a8,by rw [ya0,yaS,List.flatMap_nil,yaK];exact Q,C,ac⟩
       case measure=>rw [K.left_eq,N.left_eq];exact al
theorem zg3 (p:Option Addr) (w:World):Calls Tryz.prog 85 #[.pointer p] w fun e w'=>e = .returned (.func (.func 136) #[] #[.pointer (some ⟨w.heap.size,0,none⟩)])∧w'=w.alloc (.cells #[.pointer p] 76):=by
 go_enter Tryz.func85,Tryz.ntmps85
 go_wp2
 go_ret
 exact ⟨rfl,rfl⟩
theorem zmU (n:Nat) (hn:1≤n) {Bs:Nat} {F X:Nat→Prop} (h:Sk w F g L last) (hX:∀j,X j→j<w.heap.size) (hlen:L.length≤1000000)
 (hBs:w.cell? ⟨Bs,0,none⟩=some (.pointer (some ⟨g,0,none⟩))) :
 SeqStopsK Fence.wide n Tryz.prog 136 #[.pointer (some ⟨Bs,0,none⟩)] zmJ (Kx F X) (Telling L) (fun _=>True) L.length w:=fun l J o W m q _ s u=>by
 have f:=h.lt;have y:=h.keep (w':=W) fun b hb=>m.block b (f b hb);obtain ⟨b,V,z,A,B,C⟩:=y;exact all_in n hn l Bs g b _ _ L V F X J o W q ((m.cell (p:=⟨Bs,0,none⟩) (World.block_lt_of_cell? w _ hBs)).trans hBs) A B (fun j k=>(z j).2 (Or.inr k)) (fun j k=>yas (f j k) m.size) (fun j k=>yas (hX j k) m.size) C hlen (fun pre x D _=>s pre x D) u
theorem zpB (n:Nat) (hn:1≤n) {Bs:Nat} {F X:Nat→Prop} (h:Sk w F g L last) (hX:∀j,X j→j<w.heap.size) (hlen:L.length≤1000000)
 (hBs:w.cell? ⟨Bs,0,none⟩=some (.pointer (some ⟨g,0,none⟩))) :
 SeqStopsK Fence.wide n Tryz.prog 136 #[.pointer (some ⟨Bs,0,none⟩)] (fun x:{ x:Sp // x ∈ L }=>zmJ x.1) (Kx F X) (fun ys=>Telling L (ys.map (·.1))) (fun _=>True) L.length w:=fun l J D W q E _ G H=>by
 have k:=h.lt;have I:=h.keep (w':=W) fun b hb=>q.block b (k b hb);obtain ⟨b,V,K,M,N,O⟩:=I;refine (all_in n hn l Bs g b _ _ L V F X (fun pre W=>∃p:List { x:Sp // x ∈ L },p.map (·.1)=pre∧J p W) (fun pre W=>∃p:List { x:Sp // x ∈ L },p.map (·.1)=pre∧D p W) W
  (fun s A B row P Q R=>by obtain ⟨p,e,f⟩:=P;exact ⟨p,e,E p A B row f Q R⟩) ((q.cell (p:=⟨Bs,0,none⟩) (World.block_lt_of_cell? w _ hBs)).trans hBs) M N (fun j m=>(K j).2 (Or.inr m)) (fun j m=>yas (k j m) q.size) (fun j m=>yas (hX j m) q.size) O hlen ?_ ⟨[],rfl,H⟩).mono ?_
 · rintro pre x T u ⟨p,e,f⟩ z;refine (G p ⟨x,u⟩ T f (by rw [←e,yax] at z;exact z)).mono ?_;rintro r w' (⟨o,y,U⟩ | ⟨o,y⟩)
   · exact .inl ⟨o,⟨p ++ [⟨x,u⟩],by rw [yaM,e];rfl,y⟩,U⟩
   · exact .inr ⟨o,⟨p ++ [⟨x,u⟩],by rw [yaM,e];rfl,y⟩⟩
 · rintro r w' ⟨C,(⟨ys,o,p,e,f⟩ | ⟨pre,_,p,e,f⟩)⟩
   · exact ⟨C,.inl ⟨p,by show Telling L (p.map (·.1));rw [e];exact o,f⟩⟩
   · exact ⟨C,.inr ⟨p,trivial,f⟩⟩
structure Kz (M:Nat) (F X:Nat→Prop) (W W':World):Prop where
 frm:KeepsFrom M W W'
 kx:Kx F X W W'
theorem Kz.refl (M:Nat) (F X:Nat→Prop) (W:World):Kz M F X W W:=⟨KeepsFrom.refl _ _,Kx.refl _ _ _⟩
theorem Kz.trans {F X:Nat→Prop} (h:Kz M F X A B) (k:Kz M F X B C):Kz M F X A C:=⟨h.frm.trans k.frm,h.kx.trans k.kx⟩
theorem zps {o:Obj} (h:o.isCells=true):o.isWalk=false:=by
 cases o <;> first | rfl | cases h
theorem Kz.step {F X:Nat→Prop} (h:Kz M F X A B) (hg:B.grownBy C row) (hF:∀k,F k→k<B.heap.size) (hr:∀r,row=some r→¬F r∧((∃o:Obj,B.heap[r]? = some o∧o.isCells=true)∨(X r∧r<M))):Kz M F X A C:=by
 refine ⟨h.frm.trans ⟨hg.size,fun k o hk g m=>(hg.block k (yaR.1 g).1 fun e=>?_).trans g⟩,h.kx.grown hg hF fun r e=>⟨(hr r e).1,?_⟩⟩
 · rcases (hr k e.symm).2 with ⟨j,b,f⟩ | ⟨_,q⟩
   · rw [g] at b;cases b;rw [m] at f;cases f
   · omega
 · rcases (hr r e).2 with ⟨j,b,f⟩ | ⟨q,_⟩
   · exact .inr ⟨j,b,zps f⟩
   · exact .inl q
theorem Kz.new {M:Nat} {F X:Nat→Prop} {A B C:World} (h:Kz M F X A B) (hg:B.grownBy C none) (hF:∀k,F k→k<B.heap.size):Kz M F X A C:=h.step hg hF fun r e=>by cases e
theorem zl7 (w:World) (b i:Nat) (v:Value):w.grownBy (w.setCell ⟨b,i,none⟩ v) (some b):=⟨rfl,rfl,rfl,by simp [World.setCell],fun k _ f=>Below.heap_setCell _ _ _ _ fun e=>f (congrArg some e)⟩
theorem Kz.set {F X:Nat→Prop} {t:TypeId} (h:Kz M F X A B) (hF:∀k,F k→k<B.heap.size) (hb:Rk B b cs t) (hn:¬F b) (v:Value):Kz M F X A (B.setCell ⟨b,i,none⟩ v) :=
 h.step (zl7 B b i v) hF fun r e=>by cases e;exact ⟨hn,.inl ⟨_,hb,rfl⟩⟩
theorem Rk.stay {t:TypeId} (h:Rk X b cs t) (hg:X.grownBy Y row) (hr:∀r,row=some r→∃o:Obj,X.heap[r]? = some o∧o.isCells=false):Rk Y b cs t :=
 h.same (hg.block b h.lt fun e=>by
  obtain ⟨o,f,g⟩:=hr b e.symm;rw [show X.heap[b]? = _ from h] at f;cases f;cases g)
theorem Rk.up {t:TypeId} (h:Rk X b cs t) (hg:X.grownBy Y none):Rk Y b cs t:=h.same (hg.block b h.lt yaf)
theorem zol (l:List Sp) (x:Sp) (r:Int):zcZ (l ++ [x]) r=zcZ l r + (if zbs x r then 1 else 0):=by
 unfold zcZ;rw [ybv,yam];cases q:zbs x r <;> simp [q]
theorem zpQ (l:List Sp) (r:Int):zcZ l r≤l.length:=yba _ _
structure CnI (w:World) (r:Int) (Br Bn:Nat) (pre:List Sp) (W:World):Prop where
 rev:Rk W Br #[.int .i64 r] 3
 cnt:Rk W Bn #[.int .i64 (zcZ pre r)] 3
 below:Below w.heap.size w W
theorem CnI.stay {r:Int} {Br Bn:Nat} {pre:List Sp} (h:CnI w r Br Bn pre X) (hg:X.grownBy Y row) (hr:∀j,row=some j→w.heap.size≤j∧∃o:Obj,X.heap[j]? = some o∧o.isCells=false):CnI w r Br Bn pre Y :=
 ⟨h.rev.stay hg fun j e=>(hr j e).2,h.cnt.stay hg fun j e=>(hr j e).2,h.below.grown hg h.below.size fun j e=>(hr j e).1⟩
theorem count_in (m:Nat) (hm:6≤m) {F:Nat→Prop} (r:Int) (h:Sk w F g L last) (hL:L.length≤100000) :
 CallsIn Fence.wide m Tryz.prog 56 #[.pointer (some ⟨g,0,none⟩),.int .i64 r] w fun e w'=>e = .returned (.int .i64 (zcZ L r))∧Below w.heap.size w w':=by
 have s:=h.lt;have ka:=fun W=>zg3 (some ⟨g,0,none⟩) W;refine callsIn_of_wp_marks Tryz.func56 rfl trivial ?_ rfl;simp only [Tryz.ntmps56,ybu,yat,yaE,Nat.reduceAdd,Nat.reduceSub,ybL,ybK,ybX,ybO,ya6,ybq];have P:=zaI w (.cells #[.int .i64 r] 3);have x0:=Rk.new w #[.int .i64 r] 3;have M:=h.keep (w':=w.alloc (.cells #[.int .i64 r] 3)) fun b hb=>Below.heap_alloc _ _ _ (s b hb);have Q:=P.alloc P.size (.cells #[.int .i64 0] 3);have z:=x0.alloc (.cells #[.int .i64 0] 3);have R:=Rk.new (w.alloc (.cells #[.int .i64 r] 3)) #[.int .i64 0] 3;have N:=M.keep (w':=(w.alloc (.cells #[.int .i64 r] 3)).alloc (.cells #[.int .i64 0] 3)) fun b hb=>Below.heap_alloc _ _ _ (by have:=s b hb;simp;omega);simp only [World.size_alloc] at R;gi_wp2_with (refine ⟨trivial,fun e=>(by cases e),?_⟩;(with_reducible refine (callsIn_wide.2 (ka _)).mono ?_);rintro e w2 ⟨rfl,T⟩)
 clear T ka;obtain ⟨w3,n⟩:∃w3,((w.alloc (.cells #[.int .i64 r] 3)).alloc (.cells #[.int .i64 0] 3)).alloc (.cells #[.pointer (some ⟨g,0,none⟩)] 76)=w3:=⟨_,rfl⟩;have b3:Below w.heap.size w w3:=n ▸ Q.alloc Q.size _;have x3:Rk w3 w.heap.size #[.int .i64 r] 3:=n ▸ z.alloc _;have y3:Rk w3 (w.heap.size + 1) #[.int .i64 0] 3:=n ▸ R.alloc _;have z3:Rk w3 (w.heap.size + 1 + 1) #[.pointer (some ⟨g,0,none⟩)] 76:=by
  have:=Rk.new ((w.alloc (.cells #[.int .i64 r] 3)).alloc (.cells #[.int .i64 0] 3)) #[.pointer (some ⟨g,0,none⟩)] 76;simp only [World.size_alloc] at this;rw [n] at this;exact this
 have h3:Sk w3 F g L last:=n ▸ N.keep fun b hb=>Below.heap_alloc _ _ _ (by have:=s b hb;simp;omega);rw [n];clear n P x0 M Q z R N;have U:=h3.lt;have a8:=b3.size;have V:∀j,w.heap.size≤j→¬F j:=fun j G hf=>by have:=s j hf;omega
 have hseq:=zmU (X:=fun _=>False) (m-1) yab h3 (fun _ h=>h.elim) yab z3.one;refine wpIn_rangeFunc_ownH (w0:=w3) rfl yab (gf:=136) (lb:=#[.pointer (some ⟨w.heap.size + 1 + 1,0,none⟩)]) rfl trivial (enters_of Tryz.func136 yaa rfl)
  hseq (fun h k=>h.trans k) (fun W l o o' hl ho _ hw=>Kx.putObj U W l o o' hl ho hw) (Below.refl _ _) (fun _=>rfl)
  (CnI w r w.heap.size (w.heap.size + 1))
  (fun _ _ _=>False)
  (fun pre X Y row u Z O=>u.stay Z fun j e=>⟨by have:=(O j e).1;omega,(O j e).2⟩)
  (fun _ _ _ _ _ hs _ _=>hs)
  ⟨x3,y3,b3⟩
  (fun x a' W=>∃H,¬F H∧Rk W H #[.int .i64 x.2.1,.int .i64 x.2.2] 163∧a'={ tmps:=#[.pointer (some ⟨g,0,none⟩),.int .i64 r,undef,.pointer (some ⟨w.heap.size,0,none⟩),.int .i64 0,.pointer (some ⟨w.heap.size + 1,0,none⟩),undef,.pointer (some ⟨H,0,none⟩),.pointer (some ⟨g,0,none⟩),.func (.func 136) #[] #[.pointer (some ⟨w.heap.size + 1 + 1,0,none⟩)],.string x.1,.agg #[.int .i64 x.2.1,.int .i64 x.2.2],undef,undef,undef,undef,undef,undef],defers:=[] })
  (fun x a' _ X Y row hs Z O=>by
   obtain ⟨H,h0,M,N⟩:=hs;exact ⟨H,h0,M.stay Z fun j e=>(O j e).2,N⟩)
  ?assign ?body ?done ?stop
 case assign =>
  intro l2 pre x W K u a1;obtain ⟨k,z,A⟩:=x;have y:∀j,F j→j<W.heap.size:=fun j G=>yas (s j G) u.below.size;have hz:=(Kz.refl w3.heap.size F (fun _=>False) W).new (zaG W (.cells #[.int .i64 z,.int .i64 A] 163)) y;simp only [zmJ] at *
  gi_wp2
  exact a1 _ _ hz.frm hz.kx (u.stay (zaG _ _) fun j e=>by cases e) ⟨W.heap.size,fun h=>by have:=y _ h;omega,Rk.new W _ _,rfl⟩
 case body =>
  rintro l2 pre x a' W aa ⟨rr,ab⟩ u ⟨H,ac,hx,rfl⟩ ad;obtain ⟨k,z,A⟩:=x;have y:∀j,F j→j<W.heap.size:=fun j G=>yas (s j G) u.below.size;have cr:=u.rev.one;obtain ⟨c0,c1⟩:=hx.two;have kh:=holds14_any z A r W;have B:=zol pre (k,z,A) r;obtain ⟨q,hq⟩:∃q,zbs (k,z,A) r=q:=⟨_,rfl⟩;rw [show (decide (z≤r) && (decide (A=0) || decide (r<A)))=zbs (k,z,A) r from rfl,hq] at kh;rw [hq] at B;have ae:zcZ pre r≤100000:=by
   have:=zpQ pre r;omega
  have a2:¬F (w.heap.size + 1):=V _ yab;clear hq;dsimp only at c0 c1;gi_wp2
  refine ⟨trivial,fun e=>(by cases e),CallsIn.inRound l2 ((callsIn_wide.2 kh).mono ?_)⟩;rintro e w4 ⟨rfl,C⟩;have E:=(Kz.refl w3.heap.size F (fun _=>False) W).new C y;have f:=u.stay C fun j e=>by cases e
  cases q with
  | false =>
   gi_wp2
   exact ⟨E.frm,E.kx,⟨f.rev,by rw [B];exact f.cnt,f.below⟩⟩
  | true =>
   have cn:=f.cnt.one;have fn:=f.cnt.fz 0;have a6:∀j,F j→j<w4.heap.size:=fun j G=>yas (y j G) C.size;have I:=E.set (i:=0) a6 f.cnt a2 (.int .i64 ((zcZ pre r:Int) + 1));have af:=f.below.size;gi_wp2
   refine ⟨I.frm,I.kx,⟨f.rev.other (by show w.heap.size≠w.heap.size + 1;omega) _,?_,f.below.setCell (by show w.heap.size≤w.heap.size + 1;omega) _⟩⟩;rw [B];exact f.cnt.set 0 _
 case done =>
  rintro D ys W hD hT u J;have cn:=u.cnt.one;have a7:=u.stay (grownBy_putObj' W D (.deferred none)) (fun r e=>by cases e;exact ⟨by omega,_,J,rfl⟩);gi_wp2
  refine ⟨by simp,.inl ⟨_,_,rfl,run_takeDeferred J,?_⟩⟩;exact ⟨_,results_tmp rfl _ _ _,by rw [zlU hT.perm];rfl,a7.below⟩
 case stop =>
  rintro D c pre W _ _ h _;exact h.elim
theorem zlT {F:Nat→Prop} (r:Int) (h:Sk w F g L last) (hL:L.length≤100000) :
 Calls Tryz.prog 56 #[.pointer (some ⟨g,0,none⟩),.int .i64 r] w fun e w'=>e = .returned (.int .i64 (zcZ L r))∧Below w.heap.size w w':=callsIn_wide.1 (count_in 6 (yaj _) r h hL)
end
section
open Go.Shelf Go.RowKit Go.Lib Go.Sort
variable {w w':World} {g cap:Nat} {ys:List Ev} {d:Array Ev}
def zjL:Go.Shelf.Ren:=⟨fun | 5=>146 | 7=>196 | n=>n,fun | 22=>3 | 3=>3 | 4=>4 | n=>n,fun | n=>n⟩
theorem zqF:Go.Proofs.SlLaysC2.n5 Tryz.prog zjL:={
 mixed:=by kernel_rfl
 f5:=⟨Tryz.f146.name,by decide,Tryz.func146.trans (congrArg some yaa)⟩
 f7:=⟨Tryz.f196.name,by decide,Tryz.func196.trans (congrArg some yaa)⟩
 t3:=Tryz.underlying3
 a3:=Tryz.isAgg3
 z3:=Tryz.sizeOf3
 v3:=Tryz.zeroValue3
 t4:=Tryz.underlying4
 a4:=Tryz.isAgg4
 z4:=Tryz.sizeOf4
 v4:=Tryz.zeroValue4
 t22:=Tryz.underlying3
 a22:=Tryz.isAgg3
 z22:=Tryz.sizeOf3
 v22:=Tryz.zeroValue3 }
def zeW:Go.Shelf.Ren:=⟨fun | 6=>99 | 15=>144 | 14=>143 | 28=>195 | 29=>137 | 20=>187 | 21=>188 | 22=>189 | 23=>190 | 24=>191 | 25=>192 | 26=>193 | 27=>194 | 46=>234 | 47=>235 | 48=>236 | 49=>237 | 50=>238 | 57=>268 | n=>n,fun | 22=>115 | 24=>118 | 25=>181 | 3=>3 | 39=>258 | 0=>0 | 53=>315 | 55=>103 | 4=>4 | 46=>309 | 45=>308 | 50=>154 | 5=>5 | 9=>9 | 66=>358 | 70=>361 | 76=>375 | 77=>376 | n=>n,fun | n=>n⟩
theorem zi2:Go.Proofs.SlLaysF0.n6 Tryz.prog zeW:={
 mixed:=by kernel_rfl
 f6:=⟨Tryz.f99.name,by decide,Tryz.func99.trans (congrArg some yaa)⟩
 f14:=⟨Tryz.f143.name,by decide,Tryz.func143.trans (congrArg some yaa)⟩
 f15:=Tryz.func144.trans (congrArg some yaa)
 f20:=⟨Tryz.f187.name,by decide,Tryz.func187.trans (congrArg some yaa)⟩
 f21:=⟨Tryz.f188.name,by decide,Tryz.func188.trans (congrArg some yaa)⟩
 f22:=⟨Tryz.f189.name,by decide,Tryz.func189.trans (congrArg some yaa)⟩
 f23:=⟨Tryz.f190.name,by decide,Tryz.func190.trans (congrArg some yaa)⟩
 f24:=⟨Tryz.f191.name,by decide,Tryz.func191.trans (congrArg some yaa)⟩
 f25:=⟨Tryz.f192.name,by decide,Tryz.func192.trans (congrArg some yaa)⟩
 f26:=⟨Tryz.f193.name,by decide,Tryz.func193.trans (congrArg some yaa)⟩
 f27:=⟨Tryz.f194.name,by decide,Tryz.func194.trans (congrArg some yaa)⟩
 f28:=Tryz.func195.trans (congrArg some yaa)
 f29:=Tryz.func137.trans (congrArg some yaa)
 f46:=⟨Tryz.f234.name,by decide,Tryz.func234.trans (congrArg some yaa)⟩
 f47:=Tryz.func235.trans (congrArg some yaa)
 f48:=Tryz.func236.trans (congrArg some yaa)
 f49:=⟨Tryz.f237.name,by decide,Tryz.func237.trans (congrArg some yaa)⟩
 f50:=⟨Tryz.f238.name,by decide,Tryz.func238.trans (congrArg some yaa)⟩
 f57:=⟨Tryz.f268.name,by decide,Tryz.func268.trans (congrArg some yaa)⟩
 t0:=Tryz.underlying0
 a0:=Tryz.isAgg0
 z0:=Tryz.sizeOf0
 v0:=Tryz.zeroValue0
 t3:=Tryz.underlying3
 a3:=Tryz.isAgg3
 z3:=Tryz.sizeOf3
 v3:=Tryz.zeroValue3
 t4:=Tryz.underlying4
 a4:=Tryz.isAgg4
 z4:=Tryz.sizeOf4
 v4:=Tryz.zeroValue4
 t5:=Tryz.underlying5
 a5:=Tryz.isAgg5
 z5:=Tryz.sizeOf5
 v5:=Tryz.zeroValue5
 t9:=Tryz.underlying9
 a9:=Tryz.isAgg9
 z9:=Tryz.sizeOf9
 v9:=Tryz.zeroValue9
 t22:=Tryz.underlying115
 a22:=Tryz.isAgg115
 z22:=Tryz.sizeOf115
 v22:=Tryz.zeroValue115
 t25:=Tryz.underlying181
 a25:=Tryz.isAgg181
 z25:=Tryz.sizeOf181
 v25:=Tryz.zeroValue181
 t39:=Tryz.underlying258
 a39:=Tryz.isAgg258
 z39:=Tryz.sizeOf258
 v39:=Tryz.zeroValue258
 t45:=Tryz.underlying308
 a45:=Tryz.isAgg308
 z45:=Tryz.sizeOf308
 v45:=Tryz.zeroValue308
 t46:=Tryz.underlying309
 a46:=Tryz.isAgg309
 z46:=Tryz.sizeOf309
 v46:=Tryz.zeroValue309
 t50:=Tryz.underlying154
 a50:=Tryz.isAgg154
 z50:=Tryz.sizeOf154
 v50:=Tryz.zeroValue154
 t53:=Tryz.underlying315
 a53:=Tryz.isAgg315
 z53:=Tryz.sizeOf315
 v53:=Tryz.zeroValue315
 t55:=Tryz.underlying103
 a55:=Tryz.isAgg103
 z55:=Tryz.sizeOf103
 v55:=Tryz.zeroValue103
 t66:=Tryz.underlying358
 a66:=Tryz.isAgg358
 z66:=Tryz.sizeOf358
 v66:=Tryz.zeroValue358
 t70:=Tryz.underlying361
 a70:=Tryz.isAgg361
 z70:=Tryz.sizeOf361
 v70:=Tryz.zeroValue361
 t76:=Tryz.underlying375
 a76:=Tryz.isAgg375
 z76:=Tryz.sizeOf375
 v76:=Tryz.zeroValue375
 t77:=Tryz.underlying376
 a77:=Tryz.isAgg376
 z77:=Tryz.sizeOf376
 v77:=Tryz.zeroValue376 }
theorem zot {α:Type} (g:α→List Value) {sz:Nat} (hg:∀a,(g a).length=sz) {l:List α} {i k:Nat} {a:α} (hi:l[i]? = some a) (hk:k<sz):(l.flatMap g)[i * sz + k]? = (g a)[k]?:=by
 induction l generalizing i with
 | nil=>simp at hi
 | cons b t ih =>
  rw [yaS];cases i with
  | zero =>
   simp at hi;subst hi;rw [Nat.zero_mul,yaI,ybt (by rw [hg];exact hk)]
  | succ i =>
   rw [yaJ (by rw [hg,ycg];omega),hg,show (i + 1) * sz + k-sz=i * sz + k by rw [ycg];omega];exact ih (by simpa using hi)
structure Far4 (w w':World):Prop where
 out:∃q os,w'=grow (w.drewN q) os
theorem Far4.refl (w:World):Far4 w w:=⟨0,#[],by rw [grow_empty];rfl⟩
theorem Far4.drew (h:Far4 w w'):Far4 w w'.drew:=by
 obtain ⟨q,os,rfl⟩:=h;exact ⟨q + 1,os,rfl⟩
theorem Far4.alloc (h:Far4 w w') (o:Obj):Far4 w (w'.alloc o):=by
 obtain ⟨q,os,rfl⟩:=h;exact ⟨q,os ++ #[o],by rw [alloc_eq_grow,grow_grow]⟩
theorem Far4.cell (h:Far4 w w') {a:Addr} {v:Value} (hc:w.cell? a=some v):w'.cell? a=some v:=by
 obtain ⟨q,os,rfl⟩:=h;rw [cell?_grow _ _ _ (by exact World.block_lt_of_cell? w a hc)];exact hc
def ti (e:Ev):Int:=if e.2.2 then 1 else 0
theorem zr9 (e:Ev) (w:World):Calls Tryz.prog 148 #[.agg (ecl e).toArray] w fun r w'=>r = .returned (.int .i64 (ti e))∧w'=w.alloc (.cells (ecl e).toArray 118):=by
 obtain ⟨x,y,b⟩:=e;simp only [ecl];cases b
 · go_enter Tryz.func148,Tryz.ntmps148
   go_wp2
   go_ret
   exact ⟨rfl,rfl⟩
 · go_enter Tryz.func148,Tryz.ntmps148
   go_wp2
   go_ret
   exact ⟨rfl,rfl⟩
theorem nan_is (x:ByteArray) (w:World):Calls Tryz.prog 197 #[.string x] w fun r w'=>r = .returned (.bool false)∧w'=w:=by
 go_enter Tryz.func197,Tryz.ntmps197
 go_wp2
 go_ret
 exact ⟨rfl,rfl⟩
def cmpS (x y:ByteArray):Int:=if kl x y then -1 else if kl y x then 1 else 0
theorem cmpS_is (x y:ByteArray) (w:World):Calls Tryz.prog 147 #[.string x,.string y] w fun r w'=>r = .returned (.int .i64 (cmpS x y))∧w'=w:=by
 have kx:=nan_is x w;have j:=nan_is y w;unfold cmpS;cases f:kl x y with
 | true =>
  have k:Op.bytesLess x.toList y.toList=true:=f;rw [yan rfl];clear f;go_enter Tryz.func147,Tryz.ntmps147
  go_wp2_with (go_at_call 197;first
   | (with_reducible refine kx.mono ?_;rintro e g ⟨rfl,rfl⟩)
   | (with_reducible refine j.mono ?_;rintro e g ⟨rfl,rfl⟩))
  go_ret
  exact ⟨rfl,rfl⟩
 | false =>
  have k:Op.bytesLess x.toList y.toList=false:=f;rw [yak (by decide)];clear f;cases b:kl y x with
  | true =>
   have m:Op.bytesLess y.toList x.toList=true:=b;have n:(x.toList == y.toList)=false:=beq_false_of_ne fun z=>zfv b (zr4 z).symm;rw [yan rfl];clear b;go_enter Tryz.func147,Tryz.ntmps147
   go_wp2_with (go_at_call 197;first
    | (with_reducible refine kx.mono ?_;rintro e g ⟨rfl,rfl⟩)
    | (with_reducible refine j.mono ?_;rintro e g ⟨rfl,rfl⟩))
   go_ret
   exact ⟨rfl,rfl⟩
  | false =>
   rw [yak (by decide)];obtain rfl:=zkS k b;clear b j;go_enter Tryz.func147,Tryz.ntmps147
   go_wp2_with (go_at_call 197;refine kx.mono ?_;rintro e g ⟨rfl,rfl⟩)
   go_ret
   exact ⟨rfl,rfl⟩
def orV:List Int→Int
 | []=>0
 | x::l=>if x=0 then orV l else x
theorem zja {l:List Int} {j:Nat} (h:∀i,i<j→l[i]? = some 0):orV l=orV (l.drop j):=by
 induction j with
 | zero=>rfl
 | succ j ih =>
  rw [ih fun i hi=>h i (by omega)];have b:=h j yab;rw [ya8 (zgB b),orV,yan];exact yaZ ((yal _).symm.trans b)
theorem or14_is {b n c:Nat} {l:List Int} (hn:l.length=n) (hb:n≤1000000) (h:∀i x,l[i]? = some x→w.cell? ⟨b,i,none⟩=some (.int .i64 x)) :
 Calls Tryz.prog 145 #[.slice (some ⟨b,0,none⟩) n c] w fun e w'=>e = .returned (.int .i64 (orV l))∧w'=w:=by
 go_enter Tryz.func145,Tryz.ntmps145
 go_wp2_with fail
 go_loopw [8] (fun m u=>∃j:Nat,m = .int .i64 j∧j≤n∧u=w∧∀i,i<j→l[i]? = some 0) (fun m _=>n-(intOf m).toNat)
 case atStart=>exact ⟨0,rfl,yao _,rfl,fun i hi=>by omega⟩
 case round =>
  obtain ⟨j,rfl,A,rfl,g⟩:=hrel;by_cases y:j<n
  · have k:(j:Int)<(n:Int):=by omega
    obtain ⟨x,f⟩:∃x,l[j]? = some x:=⟨_,yal yab⟩;have B:=h j x f;by_cases o:x=0
    · subst o;have q:∀i,i<j + 1→l[i]? = some 0:=fun i hi=>by
       by_cases e:i=j
       · rw [e,f]
       · exact g i yab
      clear g f h;go_wp2_with fail
      exact ⟨⟨j + 1,by go_num,by omega,trivial,q⟩,by simp [intOf];omega⟩
    · have z:(x != 0)=true:=by simpa using o
      have s:Hid (orV l=x):=Lib.hid (by
       rw [zja g,ya8 (zgB f),orV];have e:l[j]'(zgB f)=x:=yaZ ((yal _).symm.trans f);rw [yak (by rw [e];exact o),e])
      clear g f h;go_wp2_with fail
      go_ret
      rw [s.out];exact ⟨rfl,rfl⟩
  · obtain rfl:j=n:=by omega
    have k:¬(((j:Nat):Int)<(j:Int)):=by omega
    have s:Hid (orV l=0):=Lib.hid (by rw [zja g,ycG (by omega)];rfl);clear g h;go_wp2_with fail
    go_ret
    rw [s.out];exact ⟨rfl,rfl⟩
def cfV (a b:Ev):Int:=orV [compareInt a.1 b.1,cmpS a.2.1 b.2.1,compareInt (ti a) (ti b)]
theorem zlQ (a b:Ev):cfV a b<0↔zbe a b=true:=by
 have g:∀x y:Int,compareInt x y=0↔x=y:=fun x y=>by unfold compareInt;split <;> first | omega | (split <;> omega)
 have k:∀x y:Int,compareInt x y<0↔x<y:=fun x y=>by unfold compareInt;split <;> first | omega | (split <;> omega)
 have m:∀x y:ByteArray,cmpS x y=0↔x=y:=fun x y=>by
  unfold cmpS;cases p:kl x y with
  | true=>simp;exact zfv p
  | false =>
   cases q:kl y x with
   | true=>simp;exact Ne.symm (zfv q)
   | false=>simp;exact zkS p q
 have s:∀x y:ByteArray,cmpS x y<0↔kl x y=true:=fun x y=>by
  unfold cmpS;cases p:kl x y with
  | true=>simp
  | false=>cases q:kl y x <;> simp
 have n:ti a<ti b↔(a.2.2=false∧b.2.2=true):=by
  unfold ti;cases a.2.2 <;> cases b.2.2 <;> simp
 rw [zbZ];simp only [cfV,orV];by_cases f:a.1=b.1
 · rw [yan ((g _ _).2 f)];by_cases j:a.2.1=b.2.1
   · rw [yan ((m _ _).2 j),f,j,zi1];by_cases o:ti a=ti b
     · rw [yan ((g _ _).2 o)];have:¬ti a<ti b:=by omega
       rw [n] at this;simp only [Int.lt_irrefl,false_or,true_and,false_iff];rintro (z | z)
       · cases z
       · exact this z
     · rw [yak fun e=>o ((g _ _).1 e),k,n];simp
   · rw [yak fun e=>j ((m _ _).1 e),s,f];simp [j]
 · rw [yak fun e=>f ((g _ _).1 e),k];simp [f]
theorem swoV:SWO (ltOf cfV):=by
 have hb:∀x y,ltOf cfV x y=zbe x y:=fun x y=>by
  simp only [ltOf];cases h:zbe x y with
  | true=>exact yaB ((zlQ _ _).2 h)
  | false=>exact yaF fun q=>by rw [(zlQ _ _).1 q] at h;cases h
 refine ⟨fun x=>?_,fun x y z f g=>?_,fun x y z f g=>?_⟩
 · rw [hb];exact ziB x
 · rw [hb] at *;exact zdV f g
 · rw [hb] at *;exact LeE.trans (a:=z) (b:=y) (c:=x) g f
theorem inOrder_any (a b:Ev) (w:World):Calls Tryz.prog 100 #[.agg (ecl a).toArray,.agg (ecl b).toArray] w fun e w'=>e = .returned (.int .i64 (cfV a b))∧Far4 w w':=by
 have A:=zr9 a;have B:=zr9 b;obtain ⟨f,g,a3⟩:=a;obtain ⟨j,k,m⟩:=b;simp only [ecl] at *
 obtain ⟨O,n⟩:∃r:Int,ti (f,g,a3)=r:=⟨_,rfl⟩;obtain ⟨P,o⟩:∃r:Int,ti (j,k,m)=r:=⟨_,rfl⟩;have D:Hid (cfV (f,g,a3) (j,k,m)=orV [compareInt f j,cmpS g k,compareInt O P]):=Lib.hid (by subst n o;rfl);simp only [n] at A;simp only [o] at B;clear n o;have q:=Rk.new w #[.int .i64 f,.string g,.bool a3] 118;replace q:=q.alloc (.cells #[.int .i64 j,.string k,.bool m] 118);have s:=Rk.new (w.alloc (.cells #[.int .i64 f,.string g,.bool a3] 118)) #[.int .i64 j,.string k,.bool m] 118;have N:Far4 w ((w.alloc (.cells #[.int .i64 f,.string g,.bool a3] 118)).alloc (.cells #[.int .i64 j,.string k,.bool m] 118)):=((Far4.refl w).alloc _).alloc _;simp only [World.size_alloc] at s;have cs:=fun x y W=>cmpS_is x y W;have Q:=fun x y=>AnyG.cmp_Compare_int zqF x y;go_enter Tryz.func100,Tryz.ntmps100
 go_upto_region 1 with (fail)
 obtain ⟨w1,C⟩:∃w1,(w.alloc (.cells #[.int .i64 f,.string g,.bool a3] 118)).alloc (.cells #[.int .i64 j,.string k,.bool m] 118)=w1:=⟨_,rfl⟩;rw [C] at q s N ⊢;clear C;have E:=q.cell 0;have F:=q.cell 1;have G:=q.cell 2;have H:=s.cell 0;have I:=s.cell 1;have J:=s.cell 2;simp only [ybZ,ybs,ybj] at E F G H I J;have hS:∀W,Far4 w1 W→(W.cell? ⟨w.heap.size,0,none⟩=some (.int .i64 f)∧W.cell? ⟨w.heap.size,1,none⟩=some (.string g)∧W.cell? ⟨w.heap.size,2,none⟩=some (.bool a3)∧W.cell? ⟨w.heap.size + 1,0,none⟩=some (.int .i64 j)∧W.cell? ⟨w.heap.size + 1,1,none⟩=some (.string k)∧W.cell? ⟨w.heap.size + 1,2,none⟩=some (.bool m)∧Far4 w1 W) :=
  fun W h=>⟨h.cell E,h.cell F,h.cell G,h.cell H,h.cell I,h.cell J,h⟩
 have K:∀(W:World) (L:Nat) (x y z:Int),L=W.heap.size→Calls Tryz.prog 145 #[.slice (some ⟨L,0,none⟩) 3 3] (W.alloc (.cells #[.int .i64 x,.int .i64 y,.int .i64 z] 3)).drew fun e w'=>e = .returned (.int .i64 (orV [x,y,z]))∧w'=(W.alloc (.cells #[.int .i64 x,.int .i64 y,.int .i64 z] 3)).drew:=fun W L x y z M=>M ▸
  or14_is rfl yab fun i u hi=>by
   show (W.alloc (.cells #[.int .i64 x,.int .i64 y,.int .i64 z] 3)).cell? _=_;rw [(Rk.new W #[.int .i64 x,.int .i64 y,.int .i64 z] 3).cell i];rcases i with _ | _ | _ | i <;> simp at hi ⊢ <;> exact hi
 clear q s E F G H I J;go_region_held3 (fun w'=>w'.cell? ⟨w.heap.size,0,none⟩=some (.int .i64 f)∧w'.cell? ⟨w.heap.size,1,none⟩=some (.string g)∧w'.cell? ⟨w.heap.size,2,none⟩=some (.bool a3)∧w'.cell? ⟨w.heap.size + 1,0,none⟩=some (.int .i64 j)∧w'.cell? ⟨w.heap.size + 1,1,none⟩=some (.string k)∧w'.cell? ⟨w.heap.size + 1,2,none⟩=some (.bool m)∧Far4 w1 w')
  (first | assumption | exact hS _ (Far4.refl _).drew | exact hS _ ((Far4.refl _).drew.alloc _) | exact hS _ (((Far4.refl _).drew.alloc _).alloc _) | exact hS _ ((((Far4.refl _).drew.alloc _).alloc _).alloc _) | fail)
  (first | (go_at_call 147;refine (cs _ _ _).mono ?_;rintro e w' ⟨rfl,rfl⟩) | (go_at_call 146;refine (Q _ _ _).mono ?_;rintro e w' ⟨rfl,rfl⟩) | (go_at_call 148;refine (A _).mono ?_;rintro e w' ⟨rfl,rfl⟩) | (go_at_call 148;refine (B _).mono ?_;rintro e w' ⟨rfl,rfl⟩) | (go_at_call 145;refine (K _ _ _ _ _ yaf).mono ?_;rintro e w' ⟨rfl,rfl⟩) | fail)
 go_wp2_with fail
 go_ret
 rw [D.out];exact ⟨rfl,(((N.alloc _).alloc _).alloc _).drew⟩
theorem ziO {t:Nat} (h:t<ys.length * 3):(ecs ys)[t]? = some (flatK ecl 3 ys.toArray)[t]!:=by
 have hi:t / 3<ys.length:=by omega
 have e:=zot ecl (sz:=3) (fun _=>rfl) (l:=ys) (i:=t / 3) (k:=t % 3) (a:=ys[t / 3]) (yal hi) yab;rw [show t / 3 * 3 + t % 3=t by omega] at e;rw [get_flatK _ _ _ _ (by simpa using h)];show (ys.flatMap ecl)[t]? = _;rw [e];have b:ys.toArray[t / 3]! = ys[t / 3]:=by simp [hi]
 rw [b,yal (by show t % 3<3;omega),getElem!_pos _ _ (by show t % 3<3;omega)]
theorem zma {B:Nat} (h:w.ownsRow B 118 3 (.slice (some ⟨g,0,none⟩) ys.length cap) ys.length (ecs ys)):HoldsK ecl 3 w g 0 ys.toArray:=fun j b=>by
 rw [size_flatK,ybu] at b;rcases h.2 with ⟨e,_⟩ | ⟨o,f,m,e,_,k,_,_,_,n⟩
 · cases e
 injection e with e _ _
 injection e with e
 injection e with e _ _
 subst e;refine ⟨?_,Rk.fz k _⟩;rw [yaI,Rk.cell k j,←ycJ,id_eq,←ziO b,←n,List.getElem?_take_of_lt b]
theorem zoX (h:HoldsK ecl 3 w g 0 d) (hg:g<w.heap.size) (hc:d.size≤cap) (hm:cap≤maxLen):Rd w w.heap.size 3 (some ⟨g,0,none⟩) d.size cap (ecs d.toList):=by
 refine ⟨by rw [zlY];simp,hc,hm,fun e=>(by cases e),fun _=>⟨g,0,rfl,hg,fun j u f=>?_⟩⟩;have b:j<d.size * 3:=by
  have:=(yap.1 f).1;rwa [zlY] at this
 rw [ziO (by simpa using b)] at f;have:=(h j (by rw [size_flatK];exact b)).1;rw [this];simpa using f
theorem zkI {n:Nat} {os:Array Obj}:w.grownBy (sortWorldK ecl 3 w g 0 n d os) (some g):=by
 refine ⟨rfl,rfl,rfl,size_sortWorldK_c ecl 3 w g 0 n d os,fun k hk b=>?_⟩;have:g≠k:=fun e=>b (by rw [e]);rw [sortWorldK,heap_grow_old _ _ (by simpa [putRowK,putRow,mapBlock,Sort.ahead] using hk)];simp [putRowK,putRow,mapBlock,Sort.ahead,ybB,this]
theorem zmD (hs:SortedIn (ltOf cfV) 0 d.size d):zfT d.toList:=by
 refine ybN.2 fun i j hi b f=>?_;simp only [ybo] at hi b;have:=hs i j (yao _) f b;simp only [ltOf,yby] at this;rw [getElem!_pos d i hi,getElem!_pos d j b,zlQ] at this;simp only [Array.getElem_toList];unfold LeE;exact ya3.2 this
theorem aggE14 (w:World):(isAgg 118).run Tryz.prog w = .ok true w:=Tryz.isAgg118 w
theorem sizeE14 (w:World):(Go.sizeOf 118).run Tryz.prog w = .ok 3 w:=Tryz.sizeOf118 w
theorem sort_any14 {B:Nat} (h:w.ownsRow B 118 3 (.slice (some ⟨g,0,none⟩) ys.length cap) ys.length (ecs ys)) (h0:0<ys.length) (hl:ys.length≤1000000) :
 Calls Tryz.prog 99 #[.slice (some ⟨g,0,none⟩) ys.length cap,.func (.func 100) #[] #[]] w fun e w'=>e = .returned (.tuple #[])∧∃zs:List Ev,zs.Perm ys∧zfT zs ∧
  Rd w' w'.heap.size 3 (some ⟨g,0,none⟩) ys.length cap (ecs zs)∧w.grownBy w' (some g):=by
 have k:=(h.lt g rfl).2;have q:=zma h;have j:ys.length≤cap∧cap≤maxLen:=by
  obtain ⟨A,c,e,s⟩:=Rd.own h;injection e with _ _ e
  subst e;exact ⟨s.cap,s.capm⟩
 have z:CmpLays Tryz.prog 100 #[] ecl 3 cfV g 0 ys.toArray.size w:=fun m os G _ x y=>(inOrder_any x y _).mono fun _ _ ⟨C,D⟩=>⟨C,D.out⟩;have:=AnyQ.slices_SortFunc zi2 3 aggE14 sizeE14 ecl (fun _=>rfl) zhg cfV swoV 100 #[] g 0 cap ys.toArray w (enters_of Tryz.func100 yaa rfl) z q k yag;rw [ybu] at this;refine this.mono ?_;rintro e w' ⟨rfl,f,n,os,u,E,rfl⟩;have b:f.size=ys.length:=by simpa using u.1
 have o:f.toList.Perm ys:=by
  have:=u.2.2;have e:f.toList.take ys.length=f.toList:=ybl (by simp [b]);simpa [e,b] using this
 refine ⟨rfl,f.toList,o,zmD (by rw [b];exact E),?_,zkI⟩;have F:=holdsK_sortWorldK_c ecl 3 w g 0 ys.toArray f n os q k (by simpa using b);have:=zoX (cap:=cap) F (lt_sortWorldK ecl 3 w g 0 n f os k) yab j.2;rwa [b] at this
theorem zgz (p:Option Addr) (cap:Nat) (fv:Value) (w:World):Calls Tryz.prog 187 #[.slice p 0 cap,.int .i64 0,.int .i64 0,fv] w fun e w'=>e = .returned (.tuple #[])∧w'=w:=by
 go_enter Tryz.func187,Tryz.ntmps187
 go_wp2_with fail
 refine wp_loop_rounds 1 ?_;rw [rounds_succ];go_wp2_with fail
 go_end0
 exact ⟨rfl,rfl⟩
theorem pdq_none14 (p:Option Addr) (cap:Nat) (lim:Int) (fv:Value) (w:World):Calls Tryz.prog 143 #[.slice p 0 cap,.int .i64 0,.int .i64 0,.int .i64 lim,fv] w fun e w'=>e = .returned (.tuple #[])∧w'=w:=by
 have hi:=fun W=>zgz p cap fv W;go_enter Tryz.func143,Tryz.ntmps143
 go_wp2_with fail
 refine wp_loop_rounds 1 ?_;rw [rounds_succ];go_wp2_with (go_at_call 187;refine (hi _).mono ?_;rintro e w' ⟨rfl,rfl⟩)
 (try simp only [Exit.inBlock,Exit.then])
 refine bodyPost_ret (results_none rfl _ _ _) rfl ?_;exact ⟨rfl,rfl⟩
theorem zmI (p:Option Addr) (cap:Nat) (fv:Value) (w:World):Calls Tryz.prog 99 #[.slice p 0 cap,fv] w fun e w'=>e = .returned (.tuple #[])∧w'=w:=by
 have f:=fun b W=>pdq_none14 p cap b fv W;have g:∀W,Calls Tryz.prog 144 #[.int .u64 0] W fun e w'=>e = .returned (.int .i64 (Lib.bitLen 0:Nat))∧w'=W:=fun W=>by
  have h:=Any.bits_Len (SlLaysF0.n15.bits (P:=Tryz.prog) (ρ:=zeW) { zi2 with }) 0 W yab yab;exact h
 go_enter Tryz.func99,Tryz.ntmps99
 go_wp2_with (first | (go_at_call 144;refine (g _).mono ?_;rintro e w' ⟨rfl,rfl⟩) | (go_at_call 143;refine (f _ _).mono ?_;rintro e w' ⟨rfl,rfl⟩))
 go_end0
 exact ⟨rfl,rfl⟩
end
end Go.Proofs.YtmblgnddgmfkhaaGreat
