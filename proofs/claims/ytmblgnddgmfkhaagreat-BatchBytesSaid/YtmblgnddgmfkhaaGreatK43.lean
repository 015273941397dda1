import Derived.Test.YtmblgnddgmfkhaaGreatK42
set_option maxRecDepth 100000
set_option maxHeartbeats 4000000
namespace Go.Proofs.YtmblgnddgmfkhaaGreat
section
open Go.RowKit Go.Shelf
attribute [local go_sem] Oper.semAt_some
variable {w:World}
theorem zoA:(Tryz.prog.info? 118).map (fun i=>(i.zero,i.size,i.bytes))=some (some (.agg #[.int .i64 0,.string ⟨#[]⟩,.bool false]),3,32):=by kernel_rfl
theorem zm8 (l:List Sp) (a b:Int):(l.flatMap fun x=>zkD x a b).length≤2 * l.length:=by
 induction l with
 | nil=>exact yaj _
 | cons x l ih =>
  rw [yaS,yam,yat];have:(zkD x a b).length≤2:=by
   unfold zkD;rw [yam];split <;> split <;> simp
  omega
structure EvI (w:World) (a b:Int) (E:List Ev) (W:World):Prop where
 lo:Rk W w.heap.size #[.int .i64 a] 3
 hi:Rk W (w.heap.size + 1) #[.int .i64 b] 3
 out:∃v,Rk W (w.heap.size + 1 + 1) #[v] 115∧W.ownsRow w.heap.size 118 3 v E.length (ecs E)
 below:Below w.heap.size w W
theorem zoQ {X Y:World} {B:Nat} {e:TypeId} {s n:Nat} {v:Value} {xs:List Value} {row:Option Nat} (h:X.ownsRow B e s v n xs) (hg:X.grownBy Y row) (hr:∀r,row=some r→∃o:Obj,X.heap[r]? = some o∧o.isCells=false):Y.ownsRow B e s v n xs :=
 zau h fun g b=>hg.block g (h.lt g b).2 fun q=>by
  obtain ⟨o,j,u⟩:=hr g q.symm;rcases h.2 with ⟨rfl,_⟩ | ⟨x,k,m,rfl,_,f,_⟩
  · simp [Value.ownBlock] at b
  simp only [Value.ownBlock,yaT] at b;subst b;rw [f] at j;cases j;cases u
theorem EvI.stay {X Y:World} {a b:Int} {E:List Ev} {row:Option Nat} (h:EvI w a b E X) (hg:X.grownBy Y row) (hr:∀j,row=some j→w.heap.size≤j∧∃o:Obj,X.heap[j]? = some o∧o.isCells=false):EvI w a b E Y:=by
 have f:=fun j e=>(hr j e).2;obtain ⟨v,g,k⟩:=h.out;exact ⟨h.lo.stay hg f,h.hi.stay hg f,⟨v,g.stay hg f,zoQ k hg f⟩,h.below.grown hg h.below.size fun j e=>(hr j e).1⟩
theorem zhJ {B e s n:Nat} {v:Value} {xs:List Value} (h:w.ownsRow B e s v n xs) {j:Nat} (hj:v.ownBlock=some j):∃o:Obj,w.heap[j]? = some o∧o.isCells=true:=by
 rcases h.2 with ⟨rfl,_⟩ | ⟨k,f,g,rfl,_,b,_⟩
 · simp [Value.ownBlock] at hj
 simp only [Value.ownBlock,yaT] at hj;subst hj;exact ⟨_,b,rfl⟩
theorem EvI.push {w W w5:World} {a b:Int} {E:List Ev} {v v9:Value} {e:Ev} {o:Obj} {M:Nat} {F X:Nat→Prop} (h:EvI w a b E W) (h1:Rk W (w.heap.size + 1 + 1) #[v] 115) (h2:W.ownsRow w.heap.size 118 3 v E.length (ecs E))
 (hg:(W.alloc o).grownBy w5 v.ownBlock) (h5:w5.ownsRow w.heap.size 118 3 v9 (E.length + 1) (ecs E ++ ecl e)) (hF:∀j,F j→j<w.heap.size) :
 EvI w a b (E ++ [e]) (w5.setCell ⟨w.heap.size + 1 + 1,0,none⟩ v9)∧Kz M F X W (w5.setCell ⟨w.heap.size + 1 + 1,0,none⟩ v9)∧(∀(gx:Nat) (cs:Array Value) (t:TypeId),Rk W gx cs t→t≠118→gx≠w.heap.size + 1 + 1→Rk (w5.setCell ⟨w.heap.size + 1 + 1,0,none⟩ v9) gx cs t)∧Rk w5 (w.heap.size + 1 + 1) #[v] 115∧Rk (w5.setCell ⟨w.heap.size + 1 + 1,0,none⟩ v9) (w.heap.size + 1 + 1) #[v9] 115∧(w5.setCell ⟨w.heap.size + 1 + 1,0,none⟩ v9).ownsRow w.heap.size 118 3 v9 (E ++ [e]).length (ecs (E ++ [e])):=by
 have f:=h2.alloc o;have hk:∀(gx:Nat) (cs:Array Value) (t:TypeId),Rk W gx cs t→t≠118→Rk w5 gx cs t:=fun gx cs t s z=>(s.alloc o).same (hg.block gx (s.alloc o).lt fun e=>(s.alloc o).apart f z e.symm);have n:∀(gx:Nat) (cs:Array Value) (t:TypeId),Rk W gx cs t→t≠118→gx≠w.heap.size + 1 + 1→Rk (w5.setCell ⟨w.heap.size + 1 + 1,0,none⟩ v9) gx cs t:=fun gx cs t s z A=>(hk gx cs t s z).other A _;have m:=hk _ _ _ h1 yac;have u:∀j,F j→j<W.heap.size:=fun j x=>yas (hF j x) h.below.size;have y:∀j,F j→j<(W.alloc o).heap.size:=fun j x=>by have:=u j x;simp;omega
 have B:∀j,F j→j<w5.heap.size:=fun j x=>yas (y j x) hg.size;have I:Kz M F X W w5:=((Kz.refl M F X W).new (zaG W o) u).step hg y fun r e=>⟨fun C=>by have:=(zdK f e).1;have:=hF r C;omega,.inl (zhJ f e)⟩;have G:Rk (w5.setCell ⟨w.heap.size + 1 + 1,0,none⟩ v9) (w.heap.size + 1 + 1) #[v9] 115:=by
  have:=m.set 0 v9;simpa using this
 have H:(w5.setCell ⟨w.heap.size + 1 + 1,0,none⟩ v9).ownsRow w.heap.size 118 3 v9 (E ++ [e]).length (ecs (E ++ [e])):=by
  rw [yam];have J:ecs (E ++ [e])=ecs E ++ ecl e:=by simp [ecs]
  rw [J];exact zau h5 fun g D=>Below.heap_setCell _ _ _ _ fun q=>m.apart h5 yac (by rw [D];exact congrArg some q)
 refine ⟨⟨n _ _ _ h.lo yac yab,n _ _ _ h.hi yac yab,⟨v9,G,H⟩,?_⟩,I.set B m (fun C=>by have:=hF _ C;omega) v9,n,m,G,H⟩;exact ((h.below.alloc h.below.size o).grown hg (zad h.below.size) fun k hk=>(zdK f hk).1).setCell (by show w.heap.size≤w.heap.size + 1 + 1;omega) _
theorem events_in (m:Nat) (hm:6≤m) {F:Nat→Prop} {g:Nat} {L:List Sp} {last:Int} (a b:Int) (h:Sk w F g L last) (hf:FineS L last) (hL:L.length≤100000) :
 CallsIn Fence.wide m Tryz.prog 60 #[.pointer (some ⟨g,0,none⟩),.int .i64 a,.int .i64 b] w fun e w'=>∃A c,e = .returned (.slice A (eventsP L a b).length c)∧Rd w' w'.heap.size 3 A (eventsP L a b).length c (ecs (eventsP L a b))∧Below w.heap.size w w':=by
 obtain ⟨i0,a1,a2,a6,a7⟩:=info_parts zoA;have O:=h.lt;have ka:=fun W=>zg3 (some ⟨g,0,none⟩) W;refine callsIn_of_wp_marks Tryz.func60 rfl trivial ?_ rfl;simp only [Tryz.ntmps60,ybu,yat,yaE,Nat.reduceAdd,Nat.reduceSub,ybL,ybK,ybX,ybO,ya6,ybq];obtain ⟨w1,ac⟩:∃w1,((w.alloc (.cells #[.int .i64 a] 3)).alloc (.cells #[.int .i64 b] 3)).alloc (.cells #[.slice none 0 0] 115)=w1:=⟨_,rfl⟩;have au:EvI w a b [] w1:=by
  rw [←ac];have e1:=Rk.new w #[.int .i64 a] 3;have e2:=Rk.new (w.alloc (.cells #[.int .i64 a] 3)) #[.int .i64 b] 3;have e3:=Rk.new ((w.alloc (.cells #[.int .i64 a] 3)).alloc (.cells #[.int .i64 b] 3)) #[.slice none 0 0] 115;simp only [World.size_alloc] at e2 e3;have b1:=zaI w (.cells #[.int .i64 a] 3);have b2:=b1.alloc b1.size (.cells #[.int .i64 b] 3);exact ⟨(e1.alloc _).alloc _,e2.alloc _,⟨_,e3,World.ownsRow_nil _ _ _ _⟩,b2.alloc b2.size _⟩
 have ba:w1.heap.size=w.heap.size + 3:=by rw [←ac];simp
 replace ac:=Lib.hid ac;gi_wp2_with (refine ⟨trivial,fun e=>(by cases e),?_⟩;(with_reducible refine (callsIn_wide.2 (ka _)).mono ?_);rintro e w2 ⟨rfl,bb⟩)
 rw [ac.out];clear bb ka ac;obtain ⟨w3,ah⟩:∃w3,w1.alloc (.cells #[.pointer (some ⟨g,0,none⟩)] 76)=w3:=⟨_,rfl⟩;have hI3:EvI w a b [] w3:=ah ▸ au.stay (zaG _ _) fun j e=>by cases e
 have z3:Rk w3 (w.heap.size + 1 + 1 + 1) #[.pointer (some ⟨g,0,none⟩)] 76:=by
  have:=Rk.new w1 #[.pointer (some ⟨g,0,none⟩)] 76;rw [ah,ba] at this;exact this
 have h3:Sk w3 F g L last:=h.keep fun b hb=>hI3.below.block b (O b hb);rw [ah];clear ah au;have bc:=h3.lt;have br:=hI3.below.size;have bs:∀j,w.heap.size≤j→¬F j:=fun j hj hf=>by have:=O j hf;omega
 have hseq:=zmU (X:=fun _=>False) (m-1) yab h3 (fun _ h=>h.elim) yab z3.one;refine wpIn_rangeFunc_ownH (w0:=w3) rfl yab (gf:=136) (lb:=#[.pointer (some ⟨w.heap.size + 1 + 1 + 1,0,none⟩)]) rfl trivial (enters_of Tryz.func136 yaa rfl)
  hseq (fun h k=>h.trans k) (fun W l o o' hl ho _ hw=>Kx.putObj bc W l o o' hl ho hw) (Below.refl _ _) (fun _=>rfl)
  (fun pre W=>EvI w a b (pre.flatMap fun x=>zkD x a b) W)
  (fun _ _ _=>False)
  (fun pre X Y row y hg hr=>y.stay hg fun j e=>⟨by have:=(hr j e).1;omega,(hr j e).2⟩)
  (fun _ _ _ _ _ hs _ _=>hs)
  hI3
  (fun x a' W=>∃gx,¬F gx∧w.heap.size + 1 + 1<gx∧Rk W gx #[.int .i64 x.2.1,.int .i64 x.2.2] 163∧a'={ tmps:=#[.pointer (some ⟨g,0,none⟩),.int .i64 a,.int .i64 b,undef,.pointer (some ⟨w.heap.size,0,none⟩),.pointer (some ⟨w.heap.size + 1,0,none⟩),.slice none 0 0,.pointer (some ⟨w.heap.size + 1 + 1,0,none⟩),.string x.1,.pointer (some ⟨gx,0,none⟩),.pointer (some ⟨g,0,none⟩),.func (.func 136) #[] #[.pointer (some ⟨w.heap.size + 1 + 1 + 1,0,none⟩)],.string x.1,.agg #[.int .i64 x.2.1,.int .i64 x.2.2],undef,undef,undef,undef,undef,undef,undef,undef,undef,undef,undef,undef,undef,undef,undef,undef,undef,undef,undef,undef,undef,undef,undef,undef,undef,undef,undef,undef,undef,undef,undef,undef,undef,undef,undef,undef,undef,undef,undef,undef,undef,undef],defers:=[] })
  (fun x a' _ X Y row hs hg hr=>by
   obtain ⟨gx,h0,hl,h1,h2⟩:=hs;exact ⟨gx,h0,hl,h1.stay hg fun j e=>(hr j e).2,h2⟩)
  ?assign ?body ?done ?stop
 case assign =>
  intro l2 pre x W K y bd;obtain ⟨k,P,C⟩:=x;have av:∀j,F j→j<W.heap.size:=fun j hj=>yas (O j hj) y.below.size;have hz:=(Kz.refl w3.heap.size F (fun _=>False) W).new (zaG W (.cells #[.int .i64 P,.int .i64 C] 163)) av;obtain ⟨_,aw,_⟩:=y.out;have ax:=aw.lt;simp only [zmJ] at *
  gi_wp2
  exact bd _ _ hz.frm hz.kx (y.stay (zaG _ _) fun j e=>by cases e) ⟨W.heap.size,fun h=>by have:=av _ h;omega,ax,Rk.new W _ _,rfl⟩
 case body =>
  rintro l2 pre x a' W bu ⟨rr,bf⟩ y ⟨gx,bg,bh,hx,rfl⟩ bi;obtain ⟨k,P,C⟩:=x;dsimp only at hx;have ai:(pre.flatMap fun x=>zkD x a b).length≤2 * pre.length:=zm8 pre a b;have s:(pre ++ [(k,P,C)]).flatMap (fun x=>zkD x a b)=(pre.flatMap fun x=>zkD x a b) ++ (if a<P∧P≤b then [(P,k,true)] else []) ++ (if C≠0∧a<C∧C≤b then [(C,k,false)] else []):=by
   rw [ya0,yaS,List.flatMap_nil,yaK,yaD];rfl
  have T:=Kz.refl w3.heap.size F (fun _=>False) W;have f:∀(W5:World) (E5:List Ev),(pre ++ [(k,P,C)]).flatMap (fun x=>zkD x a b)=E5→EvI w a b E5 W5→Kz w3.heap.size F (fun _=>False) W W5→KeepsFrom w3.heap.size W W5∧Kx F (fun _=>False) W W5∧EvI w a b ((pre ++ [(k,P,C)]).flatMap fun x=>zkD x a b) W5:=fun W5 E5 e bj ay=>⟨ay.frm,ay.kx,by rw [e];exact bj⟩;have bw:pre.length<100000:=by omega
  clear bf bg bi;generalize hEq:(pre.flatMap fun x=>zkD x a b)=E at y ai s;clear hEq;by_cases s1:a<P
  · by_cases s2:P≤b
    · rw [yan ⟨s1,s2⟩] at s;obtain ⟨c0,c1⟩:=hx.two;have ca:=y.lo.one;have cb:=y.hi.one;obtain ⟨v,q1,Q⟩:=y.out;have cl:=q1.one;have U:=fun v9 w5 o=>@EvI.push w W w5 a b E v v9 (P,k,true) o w3.heap.size F (fun _=>False) y q1 Q;obtain ⟨A,c,rfl,_⟩:=Rd.own Q;have V:=y.below.size;have H:∀j u,(ecl (P,k,true))[j]? = some u→(W.alloc (.cells #[.int .i64 P,.string k,.bool true] 118)).cell? ((⟨W.heap.size,0,none⟩:Addr).add j)=some u:=zbI W #[.int .i64 P,.string k,.bool true] _;have G:=zhg (P,k,true);by_cases I:C=0
      · rw [yak (by rintro ⟨z,_⟩;exact z I),yaK] at s;subst I;gi_wp2_with (gi_at_builtin;(refine wpListIn_append_own _ rfl (.tmp 24) (.tmp 29) 115 rfl w.heap.size 118 i0 (.agg #[.int .i64 0,.string ⟨#[]⟩,.bool false]) 3 32 Tryz.underlying115 a1 a2 a6 a7 rfl yac _ E.length (ecs E) rfl (Q.alloc _) ⟨W.heap.size,0,none⟩ 1 1 (ecl (P,k,true)) rfl rfl H G yad yab (zad V) ?_;intro v9 w5 q J _;obtain ⟨B,N,R,Z,r9,o9⟩:=U v9 w5 _ J q O;have f9:=Z.fz 0;have c9:=Z.one;have a8:=R _ _ _ hx yac yab;obtain ⟨aj,ak⟩:=a8.two;have al:=B.lo.one;have am:=B.hi.one;have an:=r9.one;obtain ⟨A9,d9,rfl,_⟩:=Rd.own q))
        exact f _ _ s B N
      · have n1:(C != 0)=true:=by simpa using I
        by_cases t2:a<C
        · by_cases t3:C≤b
          · rw [yan ⟨I,t2,t3⟩] at s;clear I;gi_wp2_with (first | (gi_at_builtin;(refine wpListIn_append_own _ rfl (.tmp 24) (.tmp 29) 115 rfl w.heap.size 118 i0 (.agg #[.int .i64 0,.string ⟨#[]⟩,.bool false]) 3 32 Tryz.underlying115 a1 a2 a6 a7 rfl yac _ E.length (ecs E) rfl (Q.alloc _) ⟨W.heap.size,0,none⟩ 1 1 (ecl (P,k,true)) rfl rfl H G yad yab (zad V) ?_;intro v9 w5 q J _;obtain ⟨B,N,R,Z,r9,o9⟩:=U v9 w5 _ J q O;have f9:=Z.fz 0;have c9:=Z.one;have a8:=R _ _ _ hx yac yab;obtain ⟨aj,ak⟩:=a8.two;have al:=B.lo.one;have am:=B.hi.one;have an:=r9.one;rw [show (E ++ [((P,k,true):Ev)]).length=E.length + 1 by simp] at o9;have az:=B.below.size;have b0:=fun ao aq o h1 h2=>(EvI.push (v:=v9) (v9:=ao) (w5:=aq) (e:=(C,k,false)) (o:=o) (M:=w3.heap.size) (F:=F) (X:=fun _=>False) B r9 (by rw [yam];exact o9) h1 (by rw [yam];exact h2) O);have b3:∀j u,(ecl (C,k,false))[j]? = some u→((w5.setCell ⟨w.heap.size + 1 + 1,0,none⟩ v9).alloc (.cells #[.int .i64 C,.string k,.bool false] 118)).cell? ((⟨w5.heap.size,0,none⟩:Addr).add j)=some u:=cells_at _ #[.int .i64 C,.string k,.bool false] _ w5.heap.size (by simp [World.setCell]);have ar:=zhg (C,k,false);obtain ⟨A9,d9,rfl,_⟩:=Rd.own q)) | (gi_at_builtin;(refine wpListIn_append_own _ rfl (.tmp 46) (.tmp 51) 115 rfl w.heap.size 118 i0 (.agg #[.int .i64 0,.string ⟨#[]⟩,.bool false]) 3 32 Tryz.underlying115 a1 a2 a6 a7 rfl yac _ (E.length + 1) (ecs (E ++ [(P,k,true)])) rfl (o9.alloc _) _ 1 1 (ecl (C,k,false)) rfl rfl b3 ar yad yab (zad az) ?_;intro ao aq ab b4 _;obtain ⟨b5,b6,_,b7,_⟩:=b0 ao aq _ b4 ab;have f19:=b7.fz 0;have bx:=b7.one;obtain ⟨bz,c2,rfl,_⟩:=Rd.own ab)))
            exact f _ _ s b5 (N.trans b6)
          · rw [yak (by rintro ⟨_,_,z⟩;exact t3 z),yaK] at s;clear I;gi_wp2_with (gi_at_builtin;(refine wpListIn_append_own _ rfl (.tmp 24) (.tmp 29) 115 rfl w.heap.size 118 i0 (.agg #[.int .i64 0,.string ⟨#[]⟩,.bool false]) 3 32 Tryz.underlying115 a1 a2 a6 a7 rfl yac _ E.length (ecs E) rfl (Q.alloc _) ⟨W.heap.size,0,none⟩ 1 1 (ecl (P,k,true)) rfl rfl H G yad yab (zad V) ?_;intro v9 w5 q J _;obtain ⟨B,N,R,Z,r9,o9⟩:=U v9 w5 _ J q O;have f9:=Z.fz 0;have c9:=Z.one;have a8:=R _ _ _ hx yac yab;obtain ⟨aj,ak⟩:=a8.two;have al:=B.lo.one;have am:=B.hi.one;have an:=r9.one;obtain ⟨A9,d9,rfl,_⟩:=Rd.own q))
            exact f _ _ s B N
        · rw [yak (by rintro ⟨_,z,_⟩;exact t2 z),yaK] at s;clear I;gi_wp2_with (gi_at_builtin;(refine wpListIn_append_own _ rfl (.tmp 24) (.tmp 29) 115 rfl w.heap.size 118 i0 (.agg #[.int .i64 0,.string ⟨#[]⟩,.bool false]) 3 32 Tryz.underlying115 a1 a2 a6 a7 rfl yac _ E.length (ecs E) rfl (Q.alloc _) ⟨W.heap.size,0,none⟩ 1 1 (ecl (P,k,true)) rfl rfl H G yad yab (zad V) ?_;intro v9 w5 q J _;obtain ⟨B,N,R,Z,r9,o9⟩:=U v9 w5 _ J q O;have f9:=Z.fz 0;have c9:=Z.one;have a8:=R _ _ _ hx yac yab;obtain ⟨aj,ak⟩:=a8.two;have al:=B.lo.one;have am:=B.hi.one;have an:=r9.one;obtain ⟨A9,d9,rfl,_⟩:=Rd.own q))
          exact f _ _ s B N
    · rw [yak (by rintro ⟨_,z⟩;exact s2 z),yaK] at s;have ca:=y.lo.one;have cb:=y.hi.one;obtain ⟨c0,c1⟩:=hx.two;by_cases I:C=0
      · rw [yak (by rintro ⟨z,_⟩;exact z I),yaK] at s;have f:=f _ _ s y T;subst I;clear s;gi_wp2
        exact f
      · have n1:(C != 0)=true:=by simpa using I
        by_cases t2:a<C
        · by_cases t3:C≤b
          · rw [yan ⟨I,t2,t3⟩] at s;have ca:=y.lo.one;have cb:=y.hi.one;obtain ⟨v,q1,Q⟩:=y.out;have cl:=q1.one;have U:=fun v9 w5 o=>@EvI.push w W w5 a b E v v9 (C,k,false) o w3.heap.size F (fun _=>False) y q1 Q;obtain ⟨A,c,rfl,_⟩:=Rd.own Q;have V:=y.below.size;have H:∀j u,(ecl (C,k,false))[j]? = some u→(W.alloc (.cells #[.int .i64 C,.string k,.bool false] 118)).cell? ((⟨W.heap.size,0,none⟩:Addr).add j)=some u:=zbI W #[.int .i64 C,.string k,.bool false] _;have G:=zhg (C,k,false);clear I;gi_wp2_with (gi_at_builtin;(refine wpListIn_append_own _ rfl (.tmp 46) (.tmp 51) 115 rfl w.heap.size 118 i0 (.agg #[.int .i64 0,.string ⟨#[]⟩,.bool false]) 3 32 Tryz.underlying115 a1 a2 a6 a7 rfl yac _ E.length (ecs E) rfl (Q.alloc _) ⟨W.heap.size,0,none⟩ 1 1 (ecl (C,k,false)) rfl rfl H G yad yab (zad V) ?_;intro v9 w5 q J _;obtain ⟨B,N,R,Z,_⟩:=U v9 w5 _ J q O;have f9:=Z.fz 0;have c9:=Z.one;obtain ⟨A9,d9,rfl,_⟩:=Rd.own q))
            exact f _ _ s B (T.trans N)
          · rw [yak (by rintro ⟨_,_,z⟩;exact t3 z),yaK] at s;have f:=f _ _ s y T;have ca:=y.lo.one;have cb:=y.hi.one;clear s I;gi_wp2
            exact f
        · rw [yak (by rintro ⟨_,z,_⟩;exact t2 z),yaK] at s;have f:=f _ _ s y T;have ca:=y.lo.one;clear s I;gi_wp2
          exact f
  · rw [yak (by rintro ⟨z,_⟩;exact s1 z),yaK] at s;have ca:=y.lo.one;obtain ⟨c0,c1⟩:=hx.two;by_cases I:C=0
    · rw [yak (by rintro ⟨z,_⟩;exact z I),yaK] at s;have f:=f _ _ s y T;subst I;clear s;gi_wp2
      exact f
    · have n1:(C != 0)=true:=by simpa using I
      by_cases t2:a<C
      · by_cases t3:C≤b
        · rw [yan ⟨I,t2,t3⟩] at s;have ca:=y.lo.one;have cb:=y.hi.one;obtain ⟨v,q1,Q⟩:=y.out;have cl:=q1.one;have U:=fun v9 w5 o=>@EvI.push w W w5 a b E v v9 (C,k,false) o w3.heap.size F (fun _=>False) y q1 Q;obtain ⟨A,c,rfl,_⟩:=Rd.own Q;have V:=y.below.size;have H:∀j u,(ecl (C,k,false))[j]? = some u→(W.alloc (.cells #[.int .i64 C,.string k,.bool false] 118)).cell? ((⟨W.heap.size,0,none⟩:Addr).add j)=some u:=zbI W #[.int .i64 C,.string k,.bool false] _;have G:=zhg (C,k,false);clear I;gi_wp2_with (gi_at_builtin;(refine wpListIn_append_own _ rfl (.tmp 46) (.tmp 51) 115 rfl w.heap.size 118 i0 (.agg #[.int .i64 0,.string ⟨#[]⟩,.bool false]) 3 32 Tryz.underlying115 a1 a2 a6 a7 rfl yac _ E.length (ecs E) rfl (Q.alloc _) ⟨W.heap.size,0,none⟩ 1 1 (ecl (C,k,false)) rfl rfl H G yad yab (zad V) ?_;intro v9 w5 q J _;obtain ⟨B,N,R,Z,_⟩:=U v9 w5 _ J q O;have f9:=Z.fz 0;have c9:=Z.one;obtain ⟨A9,d9,rfl,_⟩:=Rd.own q))
          exact f _ _ s B (T.trans N)
        · rw [yak (by rintro ⟨_,_,z⟩;exact t3 z),yaK] at s;have f:=f _ _ s y T;have ca:=y.lo.one;have cb:=y.hi.one;clear s I;gi_wp2
          exact f
      · rw [yak (by rintro ⟨_,z,_⟩;exact t2 z),yaK] at s;have f:=f _ _ s y T;have ca:=y.lo.one;clear s I;gi_wp2
        exact f
 case done =>
  rintro D ys W hD hT y ae;have aa:∀(W4:World) (A:Option Addr) (c:Nat) (zs:List Ev),zs.Perm (ys.flatMap fun x=>zkD x a b)→zfT zs→Rd W4 W4.heap.size 3 A (ys.flatMap fun x=>zkD x a b).length c (ecs zs)→Below w.heap.size w W4→W4.heap[D]? = some (.deferred (some [])) →
   ∃A' c',(Ending.returned (.slice A (ys.flatMap fun x=>zkD x a b).length c):Ending) = .returned (.slice A' (eventsP L a b).length c')∧Rd (W4.putObj D (.deferred none)) (W4.putObj D (.deferred none)).heap.size 3 A' (eventsP L a b).length c' (ecs (eventsP L a b))∧Below w.heap.size w (W4.putObj D (.deferred none)):=fun W4 A c zs hp hr hR hb ad=>by
   have bl:=zkC hf hT.perm hp hr;have b8:=hp.length_eq;rw [bl] at b8 hR;rw [←b8] at hR ⊢;refine ⟨A,c,rfl,?_,hb.grown (grownBy_putObj' W4 D (.deferred none)) hb.size fun r e=>by cases e;omega⟩;rw [World.putObj_size];exact hR.keep fun p _=>by
    by_cases e:p.block=D
    · have h1:(W4.putObj D (.deferred none)).heap[p.block]? = some (.deferred none):=by rw [e];exact World.putObj_heap_same (yaR.1 ad).1
      rw [←e] at ad;simp [World.cell?,h1,ad]
    · exact World.cell?_of_block (World.putObj_heap_other e)
  have ai:=zm8 ys a b;have c3:=hT.perm.length_eq;generalize hEq:(ys.flatMap fun x=>zkD x a b)=E at y aa ai;obtain ⟨v,q1,Q⟩:=y.out;have cl:=q1.one;rcases ybg E.length with h0 | h0
  · obtain ⟨A,c,rfl,hR⟩:=Rd.own Q;obtain rfl:E=[]:=yaU h0;have ks:=fun W'=>zmI A c (.func (.func 100) #[] #[]) W';gi_wp2_with (refine ⟨trivial,fun e=>(by cases e),?_⟩;(with_reducible refine (callsIn_wide.2 (ks _)).mono ?_);rintro e w4 ⟨rfl,rfl⟩)
    have f:=aa w4 A c [] (ycs _) List.Pairwise.nil hR y.below ae;refine ⟨by simp,.inl ⟨_,_,rfl,run_takeDeferred ae,?_⟩⟩;obtain ⟨A',c',e1,e2,e3⟩:=f;refine ⟨_,results_tmp rfl _ _ _,?_⟩;exact ⟨A',c',e1,e2,e3⟩
  · obtain ⟨gg,c,rfl,bm,bh⟩:=Q.form h0;have ks:=sort_any14 Q h0 yab;have af:(Value.slice (some ⟨gg,0,none⟩) E.length c).ownBlock=some gg:=rfl;have H:gg≠w.heap.size + 1 + 1:=fun e=>q1.apart Q yac (by rw [af,e]);have b9:D≠gg:=fun e=>by
     obtain ⟨o,h1,h2⟩:=zhJ Q af;rw [←e,ae] at h1;cases h1;cases h2
    have q4:∀w4,W.grownBy w4 (some gg)→w4.cell? ⟨w.heap.size + 1 + 1,0,none⟩=some (.slice (some ⟨gg,0,none⟩) E.length c)∧w4.heap[D]? = some (.deferred (some []))∧Below w.heap.size w w4:=fun w4 ag =>
     ⟨(q1.same (ag.block _ q1.lt fun e=>H (by cases e;rfl))).one,(ag.block D (yaR.1 ae).1 fun e=>b9 (by cases e;rfl)).trans ae,y.below.grown ag y.below.size fun k e=>by cases e;exact bm⟩
    clear af H b9;generalize hn:E.length=n at *
    gi_wp2_with (refine ⟨trivial,fun e=>(by cases e),?_⟩;(with_reducible refine (callsIn_wide.2 ks).mono ?_);rintro e w4 ⟨rfl,zs,bn,bo,bp,ag⟩;obtain ⟨c4,ad,bq⟩:=q4 w4 ag)
    obtain ⟨A',c',e1,e2,e3⟩:=aa w4 _ c zs bn bo bp bq ad;refine ⟨by simp,.inl ⟨_,_,rfl,run_takeDeferred ad,?_⟩⟩;refine ⟨_,results_tmp rfl _ _ _,?_⟩;exact ⟨A',c',e1,e2,e3⟩
 case stop =>
  rintro D c pre W _ _ h _;exact h.elim
theorem zkB {F:Nat→Prop} {g:Nat} {L:List Sp} {last:Int} (a b:Int) (h:Sk w F g L last) (hf:FineS L last) (hL:L.length≤100000) :
 Calls Tryz.prog 60 #[.pointer (some ⟨g,0,none⟩),.int .i64 a,.int .i64 b] w fun e w'=>∃A c,e = .returned (.slice A (eventsP L a b).length c)∧Rd w' w'.heap.size 3 A (eventsP L a b).length c (ecs (eventsP L a b))∧Below w.heap.size w w':=callsIn_wide.1 (events_in 6 (yaj _) a b h hf hL)
end
section
open Go.RowKit Go.Shelf
attribute [local go_sem] Oper.semAt_some
variable {w:World} {B:Nat}
def zmS (Q:Exit→Act→World→Prop):Exit→Act→World→Prop
 | .normal,a,w=>Q .normal a w
 | _,_,_=>False
section
variable {l0 n:Nat} {P:Program} {ops:Array Oper} {md:Region.Mode} {Q:Exit→Act→World→Prop}
theorem zms {o:Oper} {a:Act} {K:Act→World→Prop} (hd:∀c,o.op≠.defer c) (h:o.wp P a w K (zmS Q)):o.wpIn (Fence.wide.inRound l0) n P a w K Q:=by
 have b:¬LetsOut (zmS Q):=fun ⟨_,_,h⟩=>h;refine ⟨fun _ _=>trivial,?_⟩;rw [Oper.semAt_plain _ _ _ hd];unfold Oper.wp at h;generalize (execOp a.eval o).run P w=r at *
 cases r with
 | ok x w' =>
  cases x <;> simp only [Oper.upon] at h <;> simp only [Oper.uponIn];case value=>exact h
  case skip=>exact h
  case defer=>exact h
  case enter f args =>
   refine ⟨fun e=>(by cases e),CallsIn.inRound l0 ((callsIn_wide.2 h).mono fun e g j=>?_)⟩;cases e with
   | returned v=>exact j
   | panicked c=>exact (j:False).elim
   | outgrown=>exact (b j).elim
  case row row args =>
   refine ⟨fun e=>(by cases e),fun c cs _=>?_⟩;obtain ⟨v,g,k,m⟩:=h c cs;exact ⟨v,g,k,stepsIn_wide.2 m⟩
 | halt x w' =>
  cases x <;> simp only [Oper.upon] at h;case panic v=>exact (h:False).elim
theorem zbV (hd:∀(j:Nat) (o:Oper) c,ops[j]? = some o→o.op≠.defer c) :
 ∀(f:Nat) (listed:Array Bool) (a:Act) (w:World),wpAny P md ops (zmS Q) f listed a w→wpAnyIn (Fence.wide.inRound l0) n P md ops Q f listed a w
 | 0,listed,a,w,h=>⟨h.1,h.2⟩
 | f + 1,listed,a,w,h=>by
  refine ⟨fun m=>h.1 m,fun i hi=>?_⟩;have b:=h.2 i hi;unfold wpOp at b;unfold wpOpIn;split
  · rename_i g;simp only [g] at b;exact zbV hd f _ _ _ b
  · rename_i o g
    simp only [g] at b;split
    · rename_i k
      simp only [k,if_true] at b;rcases b with b | ⟨_,_,_,q⟩
      · exact zms (fun c=>hd i o c g) (Oper.wp_mono (fun s w' u=>zbV hd f _ s w' u) b)
      · exact (q:False).elim
    · rename_i k
      simp only [k] at b;exact ⟨fun _ _=>trivial,zbV hd f _ _ _ b⟩
theorem roL_in4 (S:World→Prop) (z:Nat) {id:Nat} {a:Act} {l:List Oper} (hm:P.follows .mixedOrders=true) (hd:l.all (fun o=>match o.op with | .defer _=>false | _=>true)=true)
 (h:zcl P .any l.toArray (zmS Q) S z l.toArray.size (Array.replicate l.toArray.size false) a (World.drew w)):(Code.region id l.toArray true).wpIn (Fence.wide.inRound l0) n P Q a w :=
 wpIn_region_any hm (zbV (fun j o c b e=>by
  have:=ybr.1 hd o (yaq (by simpa using b));rw [e] at this;cases this) _ _ _ _ (zgk _ _ _ _ h))
end
structure TrI (w:World) (r:Int) (pre:List Sp) (W:World):Prop where
 rev:Rk W w.heap.size #[.int .i64 r] 3
 box:Rk W (w.heap.size + 1 + 1) #[.map (some (w.heap.size + 1))] 122
 cnt:Rk W (w.heap.size + 1 + 1 + 1) #[.int .i64 (pre.filter fun x=>!keptB r x).length] 3
 map:∃V,MapR W w.heap.size (w.heap.size + 1) (pre.filter (keptB r)).length (ofK (pre.filter (keptB r))) V
 below:Below w.heap.size w W
theorem MapR.stay {X Y:World} {b n:Nat} {G:ByteArray→List Iv} {V:ByteArray→Value} {row:Option Nat} (h:MapR X B b n G V) (hg:X.grownBy Y row) (hr:∀r,row=some r→r≠b∧∃o:Obj,X.heap[r]? = some o∧o.isCells=false):MapR Y B b n G V :=
 h.same (hg.block b h.lt fun e=>(hr b e.symm).1 rfl) fun k j f=>hg.block j (zdK (h.row k) f).2 fun e=>by
  obtain ⟨o,q,x⟩:=(hr j e.symm).2;rcases (h.row k).2 with ⟨g,_⟩ | ⟨y,s,u,g,_,m,_⟩
  · rw [g] at f;simp [Value.ownBlock] at f
  rw [g] at f;simp only [Value.ownBlock,yaT] at f;subst f;rw [m] at q;cases q;cases x
theorem TrI.stay {X Y:World} {r:Int} {pre:List Sp} {row:Option Nat} (h:TrI w r pre X) (hg:X.grownBy Y row) (hr:∀j,row=some j→w.heap.size + 1<j∧∃o:Obj,X.heap[j]? = some o∧o.isCells=false):TrI w r pre Y:=by
 have b:=fun j e=>(hr j e).2;obtain ⟨V,f⟩:=h.map;exact ⟨h.rev.stay hg b,h.box.stay hg b,h.cnt.stay hg b,⟨V,f.stay hg fun j e=>⟨by have:=(hr j e).1;omega,(hr j e).2⟩⟩,h.below.grown hg h.below.size fun j e=>by have:=(hr j e).1;omega⟩
theorem zmv {e s n:Nat} {v:Value} {xs:List Value} (h:w.ownsRow B e s v n xs) {j:Nat} (hj:v.ownBlock=some j):∃o:Obj,w.heap[j]? = some o∧o.isCells=true:=by
 rcases h.2 with ⟨rfl,_⟩ | ⟨k,f,g,rfl,_,b,_⟩
 · simp [Value.ownBlock] at hj
 simp only [Value.ownBlock,yaT] at hj;subst hj;exact ⟨_,b,rfl⟩
def TrJ (w:World) (r:Int) (L:List Sp) (pre:List { x:Sp // x ∈ L }) (W:World):Prop:=TrI w r (pre.map (·.1)) W
theorem MapR.one {b n1 n2:Nat} {G1 G2:ByteArray→List Iv} {V1 V2:ByteArray→Value} (h1:MapR w B b n1 G1 V1) (h2:MapR w B b n2 G2 V2) {k:ByteArray} (hk:k.size≤maxLen):V1 k=V2 k:=by
 have e:=(h1.look hk w rfl).symm.trans (h2.look hk w rfl);injection e
theorem trim_in (m:Nat) (hm:6≤m) {F:Nat→Prop} {g:Nat} {L:List Sp} {last:Int} (r:Int) (h:Sk w F g L last) (hL:L.length≤100000) :
 CallsIn Fence.wide m Tryz.prog 46 #[.pointer (some ⟨g,0,none⟩),.int .i64 r] w fun e w'=>∃F',e = .returned (.int .i64 ((L.length:Int)-(zfc L r).length))∧Sk w' F' g (zfc L r) last∧Own14 F F' w w':=by
 have T:=h.lt;have ka:=fun W=>zg3 (some ⟨g,0,none⟩) W;have bu:=@run_makeMap Tryz.prog;refine callsIn_of_wp_marks Tryz.func46 rfl trivial ?_ rfl;simp only [Tryz.ntmps46,ybu,yat,yaE,Nat.reduceAdd,Nat.reduceSub,ybL,ybK,ybX,ybO,ya6,ybq];obtain ⟨w1,Q⟩:∃w1,(((w.alloc (.cells #[.int .i64 r] 3)).alloc (.map #[] 0)).alloc (.cells #[.map (some (w.heap.size + 1))] 122)).alloc (.cells #[.int .i64 0] 3)=w1:=⟨_,rfl⟩;have aq:TrI w r [] w1:=by
  rw [←Q];have e1:=Rk.new w #[.int .i64 r] 3;have b1:=zaI w (.cells #[.int .i64 r] 3);have hm:=(MapR.made (w.alloc (.cells #[.int .i64 r] 3))).base (B':=w.heap.size) yaf;have b2:=b1.alloc b1.size (.map #[] 0);have e3:=Rk.new ((w.alloc (.cells #[.int .i64 r] 3)).alloc (.map #[] 0)) #[.map (some (w.heap.size + 1))] 122;have e4:=Rk.new (((w.alloc (.cells #[.int .i64 r] 3)).alloc (.map #[] 0)).alloc (.cells #[.map (some (w.heap.size + 1))] 122)) #[.int .i64 0] 3;simp only [World.size_alloc] at e3 e4 hm;have b3:=b2.alloc b2.size (.cells #[.map (some (w.heap.size + 1))] 122);exact ⟨((e1.alloc _).alloc _).alloc _,e3.alloc _,e4,⟨_,(hm.stay (zaG _ _) fun j e=>by cases e).stay (zaG _ _) fun j e=>by cases e⟩,b3.alloc b3.size _⟩
 have bc:w1.heap.size=w.heap.size + 4:=by rw [←Q];simp
 replace Q:=Lib.hid Q;gi_wp2_with (refine ⟨trivial,fun e=>(by cases e),?_⟩;(with_reducible refine (callsIn_wide.2 (ka _)).mono ?_);rintro e w2 ⟨rfl,bd⟩)
 rw [Q.out];clear bd ka Q;obtain ⟨w3,a8⟩:∃w3,w1.alloc (.cells #[.pointer (some ⟨g,0,none⟩)] 76)=w3:=⟨_,rfl⟩;have hI3:TrI w r [] w3:=a8 ▸ aq.stay (zaG _ _) fun j e=>by cases e
 have z3:Rk w3 (w.heap.size + 1 + 1 + 1 + 1) #[.pointer (some ⟨g,0,none⟩)] 76:=by
  have:=Rk.new w1 #[.pointer (some ⟨g,0,none⟩)] 76;rw [a8,bc] at this;exact this
 have h3:Sk w3 F g L last:=h.keep fun b hb=>hI3.below.block b (T b hb);have bw:w.heap.size + 1 + 1 + 1 + 1<w3.heap.size:=z3.lt;rw [a8];clear a8 aq;have bf:=h3.lt;have ag:∀j,w.heap.size≤j→¬F j:=fun j E hf=>by have:=T j hf;omega
 have hseq:=zpB (X:=fun j=>j=w.heap.size + 1) (m-1) yab h3 (fun j h=>by rw [h];omega) yab z3.one;refine wpIn_rangeFunc_ownH (w0:=w3) rfl yab (gf:=136) (lb:=#[.pointer (some ⟨w.heap.size + 1 + 1 + 1 + 1,0,none⟩)]) rfl trivial (enters_of Tryz.func136 yaa rfl)
  hseq (fun h k=>h.trans k) (fun W l o o' hl ho _ hw=>Kx.putObj bf W l o o' hl ho hw) (Below.refl _ _) (fun _=>rfl)
  (TrJ w r L)
  (fun _ _ _=>False)
  (fun pre X Y row y hg hr=>show TrI w r (pre.map (·.1)) Y from TrI.stay y hg fun j e=>⟨by have:=(hr j e).1;omega,(hr j e).2⟩)
  (fun _ _ _ _ _ hs _ _=>hs)
  hI3
  (fun x a' W=>∃gx,¬F gx∧w.heap.size + 1 + 1 + 1<gx∧Rk W gx #[.int .i64 x.1.2.1,.int .i64 x.1.2.2] 163∧(∃n G V,MapR W w.heap.size (w.heap.size + 1) n G V∧∀k j,(V k).ownBlock=some j→j≠gx)∧a'={
   tmps:=#[.pointer (some ⟨g,0,none⟩),.int .i64 r,undef,.pointer (some ⟨w.heap.size,0,none⟩),.int .i64 0,.pointer (some ⟨w.heap.size + 1 + 1,0,none⟩),.pointer (some ⟨w.heap.size + 1 + 1 + 1,0,none⟩),.string x.1.1,.pointer (some ⟨gx,0,none⟩),.pointer (some ⟨g,0,none⟩),.bool false,.map (some (w.heap.size + 1)),.pointer (some ⟨g,0,none⟩),.func (.func 136) #[] #[.pointer (some ⟨w.heap.size + 1 + 1 + 1 + 1,0,none⟩)],.string x.1.1,.agg #[.int .i64 x.1.2.1,.int .i64 x.1.2.2],undef,undef,undef,undef,undef,undef,undef,undef,undef,undef,undef,undef,undef,undef,undef,undef,undef,undef],defers:=[] })
  (fun x a' _ X Y row hs hg hr=>by
   obtain ⟨gx,h0,hl,h1,⟨n2,G2,V2,h4,h5⟩,h2⟩:=hs;exact ⟨gx,h0,hl,h1.stay hg fun j e=>(hr j e).2,⟨n2,G2,V2,h4.stay hg fun j e=>⟨by have:=(hr j e).1;omega,(hr j e).2⟩,h5⟩,h2⟩)
  ?assign ?body ?done ?stop
 case assign =>
  intro l2 pre x W K y bg;change TrI w r (pre.map (·.1)) W at y;obtain ⟨⟨k,u,s⟩,aa⟩:=x;have U:∀j,F j→j<W.heap.size:=fun j E=>yas (T j E) y.below.size;have hz:=(Kz.refl w3.heap.size F (fun j=>j=w.heap.size + 1) W).new (zaG W (.cells #[.int .i64 u,.int .i64 s] 163)) U;obtain ⟨V,N⟩:=y.map;have ar:=y.cnt.lt;simp only [zmJ] at *
  gi_wp2
  exact bg _ _ hz.frm hz.kx (show TrJ w r L pre _ from y.stay (zaG _ _) fun j e=>by cases e) ⟨W.heap.size,fun h=>by have:=U _ h;omega,ar,Rk.new W _ _,⟨_,_,V,N.stay (zaG _ _) fun j e=>(by cases e),fun c j E=>by have:=(zdK (N.row c) E).2;omega⟩,rfl⟩
 case body =>
  rintro l2 pre x a' W bx ⟨rr,bh⟩ y ⟨gx,bz,au,hx,⟨n2,G2,V2,av,af⟩,rfl⟩ bi;change TrI w r (pre.map (·.1)) W at y;obtain ⟨⟨k,u,s⟩,aa⟩:=x;obtain ⟨_,_,_,_,_,Z⟩:=h;have Z:=Z _ aa;dsimp only at hx Z;have ah:k.size≤maxLen:=by simp only [maxLen];omega
  have U:∀j,F j→j<W.heap.size:=fun j E=>yas (T j E) y.below.size;have ke:=ended_any u s r W;have c2:pre.length<100000:=by omega
  have bj:=Kz.refl w3.heap.size F (fun j=>j=w.heap.size + 1) W;obtain ⟨c0,c1⟩:=hx.two;have cr:=y.rev.one;have aw:(pre ++ [(⟨(k,u,s),aa⟩:{ x:Sp // x ∈ L })]).map (·.1)=pre.map (·.1) ++ [(k,u,s)]:=by simp
  have bs:(pre.map (·.1)).length=pre.length:=yax _;obtain ⟨q,hq⟩:∃q,keptB r (k,u,s)=q:=⟨_,rfl⟩;rw [show (decide (s=0) || decide (r<s))=keptB r (k,u,s) from rfl,hq] at ke;clear bh bi;generalize hP:pre.map (·.1)=P at *
  gi_wp2
  refine ⟨trivial,fun e=>(by cases e),CallsIn.inRound l2 ((callsIn_wide.2 ke).mono ?_)⟩;rintro e B ⟨rfl,a1⟩;have ax:=bj.new a1 U;have f:=y.stay a1 fun j e=>by cases e
  have ab:∀j,F j→j<B.heap.size:=fun j E=>yas (U j E) a1.size;cases q with
  | false =>
   have cn:=f.cnt.one;have fn:=f.cnt.fz 0;have c3:(P.filter fun x=>!keptB r x).length≤100000:=by
    have:=yba (fun x=>!keptB r x) P;omega
   have e1:(P ++ [(k,u,s)]).filter (keptB r)=P.filter (keptB r):=by rw [ybv,ybE,hq,yak yac,List.filter_nil,yaK]
   have e2:((P ++ [(k,u,s)]).filter fun x=>!keptB r x).length=(P.filter fun x=>!keptB r x).length + 1:=by rw [ybv,yam,ybE,hq,yan (by decide)];rfl
   have a2:=ax.set (i:=0) ab f.cnt (ag _ yab) (.int .i64 (((P.filter fun x=>!keptB r x).length:Int) + 1));have H:TrI w r (P ++ [(k,u,s)]) (B.setCell ⟨w.heap.size + 1 + 1 + 1,0,none⟩ (.int .i64 (((P.filter fun x=>!keptB r x).length:Int) + 1))):=by
    obtain ⟨V,N⟩:=f.map;refine ⟨f.rev.other (by show w.heap.size≠w.heap.size + 1 + 1 + 1;omega) _,f.box.other (by show w.heap.size + 1 + 1≠w.heap.size + 1 + 1 + 1;omega) _,by rw [e2];exact f.cnt.set 0 _,⟨V,?_⟩,f.below.setCell (by show w.heap.size≤w.heap.size + 1 + 1 + 1;omega) _⟩;rw [e1];exact N.same (Below.heap_setCell _ _ _ _ (by show w.heap.size + 1≠w.heap.size + 1 + 1 + 1;omega)) fun c j E=>Below.heap_setCell _ _ _ _ fun e=>f.cnt.apart (N.row c) yac (by rw [E];exact congrArg some e)
   generalize (P.filter fun x=>!keptB r x).length=z at *
   gi_wp2
   exact ⟨a2.frm,a2.kx,by show TrI w r _ _;rw [aw];exact H⟩
  | true =>
   obtain ⟨V,ai⟩:=y.map;have N:=ai.stay a1 fun j e=>(by cases e);have a6:∀j,(V k).ownBlock=some j→j≠gx:=fun j E=>af k j (by rw [←ai.one av ah];exact E);obtain ⟨A,c,ay,_⟩:=N.read k;have c4:(P.filter (keptB r)).length≤100000:=by
    have:=yba (keptB r) P;omega
   have c5:=zhH (P.filter (keptB r)) k;have e1:(P ++ [(k,u,s)]).filter (keptB r)=P.filter (keptB r) ++ [(k,u,s)]:=by rw [ybv,ybE,hq,yan rfl];rfl
   have e2:((P ++ [(k,u,s)]).filter fun x=>!keptB r x).length=(P.filter fun x=>!keptB r x).length:=by rw [ybv,yam,ybE,hq,yak (by decide)];rfl
   have x4:=hx.up a1;have ac:=f.box;have hS:∀W',W'.heap[w.heap.size + 1]? = B.heap[w.heap.size + 1]?→Rk W' (w.heap.size + 1 + 1) #[.map (some (w.heap.size + 1))] 122→Rk W' gx #[.int .i64 u,.int .i64 s] 163→W'.cell? ⟨w.heap.size + 1 + 1,0,none⟩=some (.map (some (w.heap.size + 1)))∧W'.cell? ⟨gx,0,none⟩=some (.int .i64 u)∧W'.cell? ⟨gx,1,none⟩=some (.int .i64 s)∧(Instr.lookup 122 (.map (some (w.heap.size + 1))) (.string k) false).run Tryz.prog W' = .ok (.slice A (ofK (P.filter (keptB r)) k).length c) W':=fun W' h1 h2 h3=>⟨h2.one,h3.two.1,h3.two.2,by rw [N.look ah W' h1,ay]⟩;have R:=hS B.drew rfl (ac.same rfl) (x4.same rfl);have aj:(B.drew.alloc (.cells #[.int .i64 u,.int .i64 s] 163)).heap[w.heap.size + 1]? = B.heap[w.heap.size + 1]?:=Below.heap_alloc _ _ _ N.lt;have x5:Rk (B.drew.alloc (.cells #[.int .i64 u,.int .i64 s] 163)) gx _ _:=(x4.same (w':=B.drew) rfl).alloc _;have a7:Rk (B.drew.alloc (.cells #[.int .i64 u,.int .i64 s] 163)) (w.heap.size + 1 + 1) _ _:=(ac.same (w':=B.drew) rfl).alloc _;have bl:=hS _ aj a7 x5;have I:MapR (B.drew.alloc (.cells #[.int .i64 u,.int .i64 s] 163)) w.heap.size (w.heap.size + 1) _ _ V:=(N.same (w':=B.drew) rfl fun _ _ _=>rfl).stay (zaG _ _) fun j e=>(by cases e);have az:w.heap.size≤(B.drew.alloc (.cells #[.int .i64 u,.int .i64 s] 163)).heap.size:=zad f.below.size;obtain ⟨gg,cap,w6,w7,V',r6,r7,b0,J,ad,_⟩:=I.push ah (u,s) yab yab az ⟨B.heap.size,0,none⟩ (cells_at _ #[.int .i64 u,.int .i64 s] _ _ rfl) 164
   have b4:Rk w6 (w.heap.size + 1 + 1) _ _:=a7.same (J.block _ a7.lt fun e=>a7.apart (I.row k) yac e.symm);have x6:Rk w6 gx _ _:=x5.same (J.block _ x5.lt fun e=>a6 gx e.symm rfl);have b5:w6.heap[w.heap.size + 1]? = B.heap[w.heap.size + 1]?:=(J.block _ I.lt fun e=>I.ne e.symm rfl).trans aj;have bm:=hS w6 b5 b4 x6;have b6:∀j,F j→j<(B.drew.alloc (.cells #[.int .i64 u,.int .i64 s] 163)).heap.size:=fun j E=>by have:=ab j E;simp;omega
   have bn:∀j,F j→j<w6.heap.size:=fun j E=>yas (b6 j E) J.size;have a2:Kz w3.heap.size F (fun j=>j=w.heap.size + 1) W (B.drew.alloc (.cells #[.int .i64 u,.int .i64 s] 163)):=(ax.new (C:=B.drew) ⟨rfl,rfl,rfl,yaj _,fun _ _ _=>rfl⟩ ab).new (zaG _ _) ab;have ak:=(a2.step J b6 fun j e=>⟨ag j (zdK (I.row k) e).1,.inl (zmv (I.row k) e)⟩).step ad bn fun j e=>by cases e;exact ⟨ag _ yab,.inr ⟨rfl,by omega⟩⟩
   have O:∀(b':Nat) (cs:Array Value) (t:TypeId),b'≠w.heap.size + 1→Rk B b' cs t→t≠163→Rk w7 b' cs t:=fun b' cs t hb h ht=>by
    have h5:Rk (B.drew.alloc (.cells #[.int .i64 u,.int .i64 s] 163)) b' cs t:=(h.same (w':=B.drew) rfl).alloc _;have h6:=h5.same (J.block _ h5.lt fun e=>h5.apart (I.row k) ht e.symm);exact h6.same (ad.block _ h6.lt fun e=>hb (by cases e;rfl))
   have H:TrI w r (P ++ [(k,u,s)]) w7:=by
    refine ⟨O _ _ _ yab f.rev yac,O _ _ _ yab ac yac,by rw [e2];exact O _ _ _ yab f.cnt yac,⟨V',?_⟩,?_⟩
    · rw [e1,yam];refine b0.congr fun d=>?_;rw [zea,zmr];unfold zrr;by_cases e:d=k
      · subst e;simp
      · rw [yak e,yak (Ne.symm e),yaK]
    · exact (((f.below.drew).alloc (by exact f.below.size) _).grown J az fun j e=>(zdK (I.row k) e).1).grown ad (by have:=J.size;omega) fun j e=>by cases e;omega
   have al:KeepsFrom w3.heap.size W w7∧Kx F (fun j=>j=w.heap.size + 1) W w7∧TrJ w r L (pre ++ [⟨(k,u,s),aa⟩]) w7:=⟨ak.frm,ak.kx,by show TrI w r _ _;rw [aw];exact H⟩;rw [ay] at r6;clear H ak a2 O b0 I aj b5 x5 x6 a7 b4 N ai av hS J ad a6 af e1 e2;generalize (ofK (P.filter (keptB r)) k).length=z at *
   gi_wp2
   refine roL_in4 (fun W'=>W'.cell? ⟨w.heap.size + 1 + 1,0,none⟩=some (.map (some (w.heap.size + 1)))∧W'.cell? ⟨gx,0,none⟩=some (.int .i64 u)∧W'.cell? ⟨gx,1,none⟩=some (.int .i64 s)∧(Instr.lookup 122 (.map (some (w.heap.size + 1))) (.string k) false).run Tryz.prog W' = .ok (.slice A z c) W') 8 yaa yaa ?_;refine zag 0 (some 21) R ?_ (hy:=zy4);refine zag 1 (some 22) R ?_ (hy:=zy4);refine zag 2 (some 23) R ?_ (hy:=zy4);refine zag 3 (some 24) R ?_ (hy:=zy4);refine zag 4 (some 25) R ?_ (hy:=zy4);refine zag 5 (some 26) R ?_ (hy:=zy4);refine zbE 6 rfl yaa fun K M=>?_;go_simp;refine M _ _ (fun _=>bl) ?_;clear M K;refine zbE 7 rfl yaa fun K M=>?_;refine zej yae _ _ _ yae _ _ _ yae yae r6 ?_;refine M _ _ (fun _=>bm) ?_;clear M K;refine zbE 8 rfl yaa fun K M=>?_;refine zek yae _ _ _ _ yae _ _ _ yae yae yae r7 ?_;refine M _ _ (fun h=>absurd rfl h) ?_;clear M K;refine zeL yaa ?_ _;exact al
 case done =>
  rintro D ys W hD hT y b7;change TrI w r (ys.map (·.1)) W at y;change Telling L (ys.map (·.1)) at hT;generalize ys.map (·.1)=P at hT y;have hp:=hT.perm;have am:(P.filter (keptB r)).length=(zfc L r).length:=zr7 r hp;have b8:=(List.filter_append_perm (keptB r) P).length_eq;rw [yam,hp.length_eq,am] at b8;obtain ⟨b,V0,b9,ba,bo,bp⟩:=h;obtain ⟨V,N⟩:=y.map;have an:F g:=(b9 g).2 (.inl rfl);have au:=T g an;have xg:Rk W g #[.map (some b),.int .i64 last] 124:=ba.same (y.below.block g au);have pg:=xg.two;have fg:=xg.fz 0;obtain ⟨pg,_⟩:=pg;have cn:=y.cnt.one;have c6:g≠D:=by omega
  have H:∃F',Sk ((W.setCell ⟨g,0,none⟩ (.map (some (w.heap.size + 1)))).putObj D (.deferred none)) F' g (zfc L r) last∧Own14 F F' w ((W.setCell ⟨g,0,none⟩ (.map (some (w.heap.size + 1)))).putObj D (.deferred none)):=by
   have ae:(W.setCell ⟨g,0,none⟩ (.map (some (w.heap.size + 1)))).heap[D]? = some (.deferred (some [])):=(Below.heap_setCell _ _ _ _ (by show D≠g;omega)).trans b7;have ao:=grownBy_putObj' (W.setCell ⟨g,0,none⟩ (.map (some (w.heap.size + 1)))) D (.deferred none);have bq:Rk (W.setCell ⟨g,0,none⟩ (.map (some (w.heap.size + 1)))) g #[.map (some (w.heap.size + 1)),.int .i64 last] 124:=xg.set 0 (.map (some (w.heap.size + 1)));have br:MapR (W.setCell ⟨g,0,none⟩ (.map (some (w.heap.size + 1)))) w.heap.size (w.heap.size + 1) (P.filter (keptB r)).length (ofK (P.filter (keptB r))) V:=N.same (Below.heap_setCell _ _ _ _ (by show w.heap.size + 1≠g;omega)) fun c j E=>Below.heap_setCell _ _ _ _ fun e=>xg.apart (N.row c) zia (by rw [E];exact congrArg some e);refine ⟨fun j=>j=g∨j=w.heap.size + 1∨∃k,(V k).ownBlock=some j,⟨w.heap.size + 1,V,fun _=>Iff.rfl,bq.stay ao (fun j e=>by cases e;exact ⟨_,ae,rfl⟩),?_,fun x hx=>bp x (ya4.1 hx).1⟩,?_⟩
   · rw [←am];refine ((br.stay ao fun j e=>by cases e;exact ⟨by omega,_,ae,rfl⟩).base (yao _)).congr fun k=>?_;unfold zfc;rw [zi9,zi9,hT.ofK]
   · refine ((((OnlyF.refl F w).below y.below).set (a:=⟨g,0,none⟩) (.inl an) _).grown ao fun j e=>by cases e;exact .inr yab).own fun j E=>?_;rcases E with rfl | rfl | ⟨k,hk⟩
     · exact .inl an
     · exact .inr yab
     · exact .inr (zdK (N.row k) hk).1
  have ae:(W.setCell ⟨g,0,none⟩ (.map (some (w.heap.size + 1)))).heap[D]? = some (.deferred (some [])):=(Below.heap_setCell _ _ _ _ (by show D≠g;omega)).trans b7;have c7:(W.setCell ⟨g,0,none⟩ (.map (some (w.heap.size + 1)))).cell? ⟨w.heap.size + 1 + 1 + 1,0,none⟩=some (.int .i64 (P.filter fun x=>!keptB r x).length):=(y.cnt.other (a:=⟨g,0,none⟩) (by show w.heap.size + 1 + 1 + 1≠g;omega) _).one;have ac:=y.box.one;have bb:((P.filter fun x=>!keptB r x).length:Int)=(L.length:Int)-(zfc L r).length:=by omega
  clear N y ba bo xg b9 am b8 hT hp;gi_wp2
  obtain ⟨F',h1,h2⟩:=H;refine ⟨by simp,.inl ⟨_,_,rfl,run_takeDeferred ae,?_⟩⟩;refine ⟨_,results_tmp rfl _ _ _,F',?_,h1,h2⟩;rw [←bb];rfl
 case stop =>
  rintro D c pre W _ _ h _;exact h.elim
theorem zpm {F:Nat→Prop} {g:Nat} {L:List Sp} {last:Int} (r:Int) (h:Sk w F g L last) (hL:L.length≤100000) :
 Calls Tryz.prog 46 #[.pointer (some ⟨g,0,none⟩),.int .i64 r] w fun e w'=>∃F',e = .returned (.int .i64 ((L.length:Int)-(zfc L r).length))∧Sk w' F' g (zfc L r) last∧Own14 F F' w w':=callsIn_wide.1 (trim_in 6 (yaj _) r h hL)
end
section
open Go.RowKit
theorem zcC:SpK Sk where
 lt:=fun h=>h.lt
 keep:=fun h hk=>h.keep hk
 new:=zq1
 put:=fun k r h g f hk=>put14_any k r h g f hk
 drop:=fun k r h g f hk=>drop14_any k r h g f hk
 has:=fun k r h _ f hk=>has14_any k r h f hk
 count:=fun r h _ f=>zlT r h f
 events:=fun a b h g f=>zkB a b h g f
theorem spk14t:SpKT Sk:={ zcC with trim:=fun r h _ b=>zpm r h b }
end
end Go.Proofs.YtmblgnddgmfkhaaGreat
