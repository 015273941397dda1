import Derived.Test.YtmblgnddgmfkhaaGreatQ38
set_option maxRecDepth 100000
set_option maxHeartbeats 4000000
namespace Go.Proofs.YtmblgnddgmfkhaaGreat
section
open Go.RowKit Go.Shelf
attribute [local go_sem] Oper.semAt_some
variable {w:World}
theorem znO:(Tryz.prog.info? 118).map (fun i=>(i.zero,i.size,i.bytes))=some (some (.agg #[.int .i64 0,.string ⟨#[]⟩,.bool false]),3,32):=by kernel_rfl
theorem zmp (l:List Sp) (a b:Int):(l.flatMap fun x=>zj4 x a b).length≤2 * l.length:=by
 induction l with
 | nil=>exact yaj _
 | cons x l ih =>
  rw [yaS,yam,yaq];have:(zj4 x a b).length≤2:=by
   unfold zj4;rw [yam];split <;> split <;> simp
  omega
structure EvI (w:World) (a b:Int) (E:List Ev) (W:World):Prop where
 lo:Rk W w.heap.size #[.int .i64 a] 3
 hi:Rk W (w.heap.size + 1) #[.int .i64 b] 3
 out:∃v,Rk W (w.heap.size + 1 + 1) #[v] 115∧W.ownsRow w.heap.size 118 3 v E.length (ecs E)
 below:Below w.heap.size w W
theorem zn6 {X Y:World} {B:Nat} {e:TypeId} {s n:Nat} {v:Value} {xs:List Value} {row:Option Nat} (h:X.ownsRow B e s v n xs) (hg:X.grownBy Y row) (hr:∀r,row=some r→∃o:Obj,X.heap[r]? = some o∧o.isCells=false):Y.ownsRow B e s v n xs :=
 zau h fun g b=>hg.block g (h.lt g b).2 fun m=>by
  obtain ⟨o,f,p⟩:=hr g m.symm;rcases h.2 with ⟨rfl,_⟩ | ⟨q,j,k,rfl,_,d,_⟩
  · simp [Value.ownBlock] at b
  simp only [Value.ownBlock,yaT] at b;subst b;rw [d] at f;cases f;cases p
theorem EvI.stay {X Y:World} {a b:Int} {E:List Ev} {row:Option Nat} (h:EvI w a b E X) (hg:X.grownBy Y row) (hr:∀j,row=some j→w.heap.size≤j∧∃o:Obj,X.heap[j]? = some o∧o.isCells=false):EvI w a b E Y:=by
 have d:=fun j e=>(hr j e).2;obtain ⟨v,f,g⟩:=h.out;exact ⟨h.lo.stay hg d,h.hi.stay hg d,⟨v,f.stay hg d,zn6 g hg d⟩,h.below.grown hg h.below.size fun j e=>(hr j e).1⟩
theorem zhb {B e s n:Nat} {v:Value} {xs:List Value} (h:w.ownsRow B e s v n xs) {j:Nat} (hj:v.ownBlock=some j):∃o:Obj,w.heap[j]? = some o∧o.isCells=true:=by
 rcases h.2 with ⟨rfl,_⟩ | ⟨g,d,f,rfl,_,b,_⟩
 · simp [Value.ownBlock] at hj
 simp only [Value.ownBlock,yaT] at hj;subst hj;exact ⟨_,b,rfl⟩
theorem EvI.push {w W w5:World} {a b:Int} {E:List Ev} {v v9:Value} {e:Ev} {o:Obj} {M:Nat} {F X:Nat→Prop} (h:EvI w a b E W) (h1:Rk W (w.heap.size + 1 + 1) #[v] 115) (h2:W.ownsRow w.heap.size 118 3 v E.length (ecs E))
 (hg:(W.alloc o).grownBy w5 v.ownBlock) (h5:w5.ownsRow w.heap.size 118 3 v9 (E.length + 1) (ecs E ++ ecl e)) (hF:∀j,F j→j<w.heap.size) :
 EvI w a b (E ++ [e]) (w5.setCell ⟨w.heap.size + 1 + 1,0,none⟩ v9)∧Kz M F X W (w5.setCell ⟨w.heap.size + 1 + 1,0,none⟩ v9)∧(∀(gx:Nat) (cs:Array Value) (t:TypeId),Rk W gx cs t→t≠118→gx≠w.heap.size + 1 + 1→Rk (w5.setCell ⟨w.heap.size + 1 + 1,0,none⟩ v9) gx cs t)∧Rk w5 (w.heap.size + 1 + 1) #[v] 115∧Rk (w5.setCell ⟨w.heap.size + 1 + 1,0,none⟩ v9) (w.heap.size + 1 + 1) #[v9] 115∧(w5.setCell ⟨w.heap.size + 1 + 1,0,none⟩ v9).ownsRow w.heap.size 118 3 v9 (E ++ [e]).length (ecs (E ++ [e])):=by
 have d:=h2.alloc o;have hk:∀(gx:Nat) (cs:Array Value) (t:TypeId),Rk W gx cs t→t≠118→Rk w5 gx cs t:=fun gx cs t n x=>(n.alloc o).same (hg.block gx (n.alloc o).lt fun e=>(n.alloc o).apart d x e.symm);have m:∀(gx:Nat) (cs:Array Value) (t:TypeId),Rk W gx cs t→t≠118→gx≠w.heap.size + 1 + 1→Rk (w5.setCell ⟨w.heap.size + 1 + 1,0,none⟩ v9) gx cs t:=fun gx cs t n x y=>(hk gx cs t n x).other y _;have f:=hk _ _ _ h1 yac;have p:∀j,F j→j<W.heap.size:=fun j s=>yaw (hF j s) h.below.size;have u:∀j,F j→j<(W.alloc o).heap.size:=fun j s=>by have:=p j s;simp;omega
 have z:∀j,F j→j<w5.heap.size:=fun j s=>yaw (u j s) hg.size;have G:Kz M F X W w5:=((Kz.refl M F X W).new (zba W o) p).step hg u fun r e=>⟨fun A=>by have:=(zfY d e).1;have:=hF r A;omega,.inl (zhb d e)⟩;have C:Rk (w5.setCell ⟨w.heap.size + 1 + 1,0,none⟩ v9) (w.heap.size + 1 + 1) #[v9] 115:=by
  have:=f.set 0 v9;simpa using this
 have D:(w5.setCell ⟨w.heap.size + 1 + 1,0,none⟩ v9).ownsRow w.heap.size 118 3 v9 (E ++ [e]).length (ecs (E ++ [e])):=by
  rw [yam];have H:ecs (E ++ [e])=ecs E ++ ecl e:=by simp [ecs]
  rw [H];exact zau h5 fun g B=>Below.heap_setCell _ _ _ _ fun q=>f.apart h5 yac (by rw [B];exact congrArg some q)
 refine ⟨⟨m _ _ _ h.lo yac yab,m _ _ _ h.hi yac yab,⟨v9,C,D⟩,?_⟩,G.set z f (fun A=>by have:=hF _ A;omega) v9,m,f,C,D⟩;exact ((h.below.alloc h.below.size o).grown hg (zae h.below.size) fun k hk=>(zfY d hk).1).setCell (by show w.heap.size≤w.heap.size + 1 + 1;omega) _
theorem events_in (m:Nat) (hm:6≤m) {F:Nat→Prop} {g:Nat} {L:List Sp} {last:Int} (a b:Int) (h:Sk w F g L last) (hf:FineS L last) (hL:L.length≤100000) :
 CallsIn Fence.wide m Tryz.prog 60 #[.pointer (some ⟨g,0,none⟩),.int .i64 a,.int .i64 b] w fun e w'=>∃A c,e = .returned (.slice A (eventsP L a b).length c)∧Rd w' w'.heap.size 3 A (eventsP L a b).length c (ecs (eventsP L a b))∧Below w.heap.size w w':=by
 obtain ⟨i0,Z,a1,a2,a6⟩:=info_parts znO;have N:=h.lt;have ka:=fun W=>zjL (some ⟨g,0,none⟩) W;refine callsIn_of_wp_marks Tryz.func60 rfl trivial ?_ rfl;simp only [Tryz.ntmps60,ybv,yaq,yaI,Nat.reduceAdd,Nat.reduceSub,ybL,ybO,ybX,ybR,yba,ybs];obtain ⟨w1,ab⟩:∃w1,((w.alloc (.cells #[.int .i64 a] 3)).alloc (.cells #[.int .i64 b] 3)).alloc (.cells #[.slice none 0 0] 115)=w1:=⟨_,rfl⟩;have ar:EvI w a b [] w1:=by
  rw [←ab];have e1:=Rk.new w #[.int .i64 a] 3;have e2:=Rk.new (w.alloc (.cells #[.int .i64 a] 3)) #[.int .i64 b] 3;have e3:=Rk.new ((w.alloc (.cells #[.int .i64 a] 3)).alloc (.cells #[.int .i64 b] 3)) #[.slice none 0 0] 115;simp only [World.size_alloc] at e2 e3;have b1:=zaM w (.cells #[.int .i64 a] 3);have b2:=b1.alloc b1.size (.cells #[.int .i64 b] 3);exact ⟨(e1.alloc _).alloc _,e2.alloc _,⟨_,e3,World.ownsRow_nil _ _ _ _⟩,b2.alloc b2.size _⟩
 have b9:w1.heap.size=w.heap.size + 3:=by rw [←ab];simp
 replace ab:=Lib.hid ab;gi_wp2_with (refine ⟨trivial,fun e=>(by cases e),?_⟩;(with_reducible refine (callsIn_wide.2 (ka _)).mono ?_);rintro e w2 ⟨rfl,ba⟩)
 rw [ab.out];clear ba ka ab;obtain ⟨w3,ag⟩:∃w3,w1.alloc (.cells #[.pointer (some ⟨g,0,none⟩)] 76)=w3:=⟨_,rfl⟩;have hI3:EvI w a b [] w3:=ag ▸ ar.stay (zba _ _) fun j e=>by cases e
 have z3:Rk w3 (w.heap.size + 1 + 1 + 1) #[.pointer (some ⟨g,0,none⟩)] 76:=by
  have:=Rk.new w1 #[.pointer (some ⟨g,0,none⟩)] 76;rw [ag,b9] at this;exact this
 have h3:Sk w3 F g L last:=h.keep fun b hb=>hI3.below.block b (N b hb);rw [ag];clear ag ar;have bb:=h3.lt;have bq:=hI3.below.size;have br:∀j,w.heap.size≤j→¬F j:=fun j hj hf=>by have:=N j hf;omega
 have hseq:=zmb (X:=fun _=>False) (m-1) yab h3 (fun _ h=>h.elim) yab z3.one;refine wpIn_rangeFunc_ownH (w0:=w3) rfl yab (gf:=136) (lb:=#[.pointer (some ⟨w.heap.size + 1 + 1 + 1,0,none⟩)]) rfl trivial (enters_of Tryz.func136 yaa rfl)
  hseq (fun h k=>h.trans k) (fun W l o o' hl ho _ hw=>Kx.putObj bb W l o o' hl ho hw) (Below.refl _ _) (fun _=>rfl)
  (fun pre W=>EvI w a b (pre.flatMap fun x=>zj4 x a b) W)
  (fun _ _ _=>False)
  (fun pre X Y row s hg hr=>s.stay hg fun j e=>⟨by have:=(hr j e).1;omega,(hr j e).2⟩)
  (fun _ _ _ _ _ hs _ _=>hs)
  hI3
  (fun x a' W=>∃gx,¬F gx∧w.heap.size + 1 + 1<gx∧Rk W gx #[.int .i64 x.2.1,.int .i64 x.2.2] 163∧a'={ tmps:=#[.pointer (some ⟨g,0,none⟩),.int .i64 a,.int .i64 b,undef,.pointer (some ⟨w.heap.size,0,none⟩),.pointer (some ⟨w.heap.size + 1,0,none⟩),.slice none 0 0,.pointer (some ⟨w.heap.size + 1 + 1,0,none⟩),.string x.1,.pointer (some ⟨gx,0,none⟩),.pointer (some ⟨g,0,none⟩),.func (.func 136) #[] #[.pointer (some ⟨w.heap.size + 1 + 1 + 1,0,none⟩)],.string x.1,.agg #[.int .i64 x.2.1,.int .i64 x.2.2],undef,undef,undef,undef,undef,undef,undef,undef,undef,undef,undef,undef,undef,undef,undef,undef,undef,undef,undef,undef,undef,undef,undef,undef,undef,undef,undef,undef,undef,undef,undef,undef,undef,undef,undef,undef,undef,undef,undef,undef,undef,undef],defers:=[] })
  (fun x a' _ X Y row hs hg hr=>by
   obtain ⟨gx,h0,hl,h1,h2⟩:=hs;exact ⟨gx,h0,hl,h1.stay hg fun j e=>(hr j e).2,h2⟩)
  ?assign ?body ?done ?stop
 case assign =>
  intro l2 pre x W K s bc;obtain ⟨k,O,B⟩:=x;have au:∀j,F j→j<W.heap.size:=fun j hj=>yaw (N j hj) s.below.size;have hz:=(Kz.refl w3.heap.size F (fun _=>False) W).new (zba W (.cells #[.int .i64 O,.int .i64 B] 163)) au;obtain ⟨_,av,_⟩:=s.out;have aw:=av.lt;simp only [zq2] at *
  gi_wp2
  exact bc _ _ hz.frm hz.kx (s.stay (zba _ _) fun j e=>by cases e) ⟨W.heap.size,fun h=>by have:=au _ h;omega,aw,Rk.new W _ _,rfl⟩
 case body =>
  rintro l2 pre x a' W bs ⟨rr,bd⟩ s ⟨gx,bf,bg,hx,rfl⟩ bh;obtain ⟨k,O,B⟩:=x;dsimp only at hx;have ah:(pre.flatMap fun x=>zj4 x a b).length≤2 * pre.length:=zmp pre a b;have q:(pre ++ [(k,O,B)]).flatMap (fun x=>zj4 x a b)=(pre.flatMap fun x=>zj4 x a b) ++ (if a<O∧O≤b then [(O,k,true)] else []) ++ (if B≠0∧a<B∧B≤b then [(B,k,false)] else []):=by
   rw [yaZ,yaS,List.flatMap_nil,yaJ,yaB];rfl
  have R:=Kz.refl w3.heap.size F (fun _=>False) W;have d:∀(W5:World) (E5:List Ev),(pre ++ [(k,O,B)]).flatMap (fun x=>zj4 x a b)=E5→EvI w a b E5 W5→Kz w3.heap.size F (fun _=>False) W W5→KeepsFrom w3.heap.size W W5∧Kx F (fun _=>False) W W5∧EvI w a b ((pre ++ [(k,O,B)]).flatMap fun x=>zj4 x a b) W5:=fun W5 E5 e bi ax=>⟨ax.frm,ax.kx,by rw [e];exact bi⟩;have bu:pre.length<100000:=by omega
  clear bd bf bh;generalize hEq:(pre.flatMap fun x=>zj4 x a b)=E at s ah q;clear hEq;by_cases s1:a<O
  · by_cases s2:O≤b
    · rw [yan ⟨s1,s2⟩] at q;obtain ⟨c0,c1⟩:=hx.two;have ca:=s.lo.one;have cb:=s.hi.one;obtain ⟨v,q1,P⟩:=s.out;have cl:=q1.one;have T:=fun v9 w5 o=>@EvI.push w W w5 a b E v v9 (O,k,true) o w3.heap.size F (fun _=>False) s q1 P;obtain ⟨A,c,rfl,_⟩:=Rd.own P;have U:=s.below.size;have G:∀j u,(ecl (O,k,true))[j]? = some u→(W.alloc (.cells #[.int .i64 O,.string k,.bool true] 118)).cell? ((⟨W.heap.size,0,none⟩:Addr).add j)=some u:=zbB W #[.int .i64 O,.string k,.bool true] _;have C:=zgL (O,k,true);by_cases H:B=0
      · rw [yak (by rintro ⟨z,_⟩;exact z H),yaJ] at q;subst H;gi_wp2_with (gi_at_builtin;(refine wpListIn_append_own _ rfl (.tmp 24) (.tmp 29) 115 rfl w.heap.size 118 i0 (.agg #[.int .i64 0,.string ⟨#[]⟩,.bool false]) 3 32 Tryz.underlying115 Z a1 a2 a6 rfl yac _ E.length (ecs E) rfl (P.alloc _) ⟨W.heap.size,0,none⟩ 1 1 (ecl (O,k,true)) rfl rfl G C yad yab (zae U) ?_;intro v9 w5 f I _;obtain ⟨y,J,Q,V,r9,o9⟩:=T v9 w5 _ I f N;have f9:=V.fz 0;have c9:=V.one;have a7:=Q _ _ _ hx yac yab;obtain ⟨ai,aj⟩:=a7.two;have ak:=y.lo.one;have al:=y.hi.one;have am:=r9.one;obtain ⟨A9,d9,rfl,_⟩:=Rd.own f))
        exact d _ _ q y J
      · have n1:(B != 0)=true:=by simpa using H
        by_cases t2:a<B
        · by_cases t3:B≤b
          · rw [yan ⟨H,t2,t3⟩] at q;clear H;gi_wp2_with (first | (gi_at_builtin;(refine wpListIn_append_own _ rfl (.tmp 24) (.tmp 29) 115 rfl w.heap.size 118 i0 (.agg #[.int .i64 0,.string ⟨#[]⟩,.bool false]) 3 32 Tryz.underlying115 Z a1 a2 a6 rfl yac _ E.length (ecs E) rfl (P.alloc _) ⟨W.heap.size,0,none⟩ 1 1 (ecl (O,k,true)) rfl rfl G C yad yab (zae U) ?_;intro v9 w5 f I _;obtain ⟨y,J,Q,V,r9,o9⟩:=T v9 w5 _ I f N;have f9:=V.fz 0;have c9:=V.one;have a7:=Q _ _ _ hx yac yab;obtain ⟨ai,aj⟩:=a7.two;have ak:=y.lo.one;have al:=y.hi.one;have am:=r9.one;rw [show (E ++ [((O,k,true):Ev)]).length=E.length + 1 by simp] at o9;have ay:=y.below.size;have az:=fun an ao o h1 h2=>(EvI.push (v:=v9) (v9:=an) (w5:=ao) (e:=(B,k,false)) (o:=o) (M:=w3.heap.size) (F:=F) (X:=fun _=>False) y r9 (by rw [yam];exact o9) h1 (by rw [yam];exact h2) N);have b0:∀j u,(ecl (B,k,false))[j]? = some u→((w5.setCell ⟨w.heap.size + 1 + 1,0,none⟩ v9).alloc (.cells #[.int .i64 B,.string k,.bool false] 118)).cell? ((⟨w5.heap.size,0,none⟩:Addr).add j)=some u:=cells_at _ #[.int .i64 B,.string k,.bool false] _ w5.heap.size (by simp [World.setCell]);have aq:=zgL (B,k,false);obtain ⟨A9,d9,rfl,_⟩:=Rd.own f)) | (gi_at_builtin;(refine wpListIn_append_own _ rfl (.tmp 46) (.tmp 51) 115 rfl w.heap.size 118 i0 (.agg #[.int .i64 0,.string ⟨#[]⟩,.bool false]) 3 32 Tryz.underlying115 Z a1 a2 a6 rfl yac _ (E.length + 1) (ecs (E ++ [(O,k,true)])) rfl (o9.alloc _) _ 1 1 (ecl (B,k,false)) rfl rfl b0 aq yad yab (zae ay) ?_;intro an ao aa b3 _;obtain ⟨b4,b5,_,b6,_⟩:=az an ao _ b3 aa;have f19:=b6.fz 0;have bw:=b6.one;obtain ⟨bx,bz,rfl,_⟩:=Rd.own aa)))
            exact d _ _ q b4 (J.trans b5)
          · rw [yak (by rintro ⟨_,_,z⟩;exact t3 z),yaJ] at q;clear H;gi_wp2_with (gi_at_builtin;(refine wpListIn_append_own _ rfl (.tmp 24) (.tmp 29) 115 rfl w.heap.size 118 i0 (.agg #[.int .i64 0,.string ⟨#[]⟩,.bool false]) 3 32 Tryz.underlying115 Z a1 a2 a6 rfl yac _ E.length (ecs E) rfl (P.alloc _) ⟨W.heap.size,0,none⟩ 1 1 (ecl (O,k,true)) rfl rfl G C yad yab (zae U) ?_;intro v9 w5 f I _;obtain ⟨y,J,Q,V,r9,o9⟩:=T v9 w5 _ I f N;have f9:=V.fz 0;have c9:=V.one;have a7:=Q _ _ _ hx yac yab;obtain ⟨ai,aj⟩:=a7.two;have ak:=y.lo.one;have al:=y.hi.one;have am:=r9.one;obtain ⟨A9,d9,rfl,_⟩:=Rd.own f))
            exact d _ _ q y J
        · rw [yak (by rintro ⟨_,z,_⟩;exact t2 z),yaJ] at q;clear H;gi_wp2_with (gi_at_builtin;(refine wpListIn_append_own _ rfl (.tmp 24) (.tmp 29) 115 rfl w.heap.size 118 i0 (.agg #[.int .i64 0,.string ⟨#[]⟩,.bool false]) 3 32 Tryz.underlying115 Z a1 a2 a6 rfl yac _ E.length (ecs E) rfl (P.alloc _) ⟨W.heap.size,0,none⟩ 1 1 (ecl (O,k,true)) rfl rfl G C yad yab (zae U) ?_;intro v9 w5 f I _;obtain ⟨y,J,Q,V,r9,o9⟩:=T v9 w5 _ I f N;have f9:=V.fz 0;have c9:=V.one;have a7:=Q _ _ _ hx yac yab;obtain ⟨ai,aj⟩:=a7.two;have ak:=y.lo.one;have al:=y.hi.one;have am:=r9.one;obtain ⟨A9,d9,rfl,_⟩:=Rd.own f))
          exact d _ _ q y J
    · rw [yak (by rintro ⟨_,z⟩;exact s2 z),yaJ] at q;have ca:=s.lo.one;have cb:=s.hi.one;obtain ⟨c0,c1⟩:=hx.two;by_cases H:B=0
      · rw [yak (by rintro ⟨z,_⟩;exact z H),yaJ] at q;have d:=d _ _ q s R;subst H;clear q;gi_wp2
        exact d
      · have n1:(B != 0)=true:=by simpa using H
        by_cases t2:a<B
        · by_cases t3:B≤b
          · rw [yan ⟨H,t2,t3⟩] at q;have ca:=s.lo.one;have cb:=s.hi.one;obtain ⟨v,q1,P⟩:=s.out;have cl:=q1.one;have T:=fun v9 w5 o=>@EvI.push w W w5 a b E v v9 (B,k,false) o w3.heap.size F (fun _=>False) s q1 P;obtain ⟨A,c,rfl,_⟩:=Rd.own P;have U:=s.below.size;have G:∀j u,(ecl (B,k,false))[j]? = some u→(W.alloc (.cells #[.int .i64 B,.string k,.bool false] 118)).cell? ((⟨W.heap.size,0,none⟩:Addr).add j)=some u:=zbB W #[.int .i64 B,.string k,.bool false] _;have C:=zgL (B,k,false);clear H;gi_wp2_with (gi_at_builtin;(refine wpListIn_append_own _ rfl (.tmp 46) (.tmp 51) 115 rfl w.heap.size 118 i0 (.agg #[.int .i64 0,.string ⟨#[]⟩,.bool false]) 3 32 Tryz.underlying115 Z a1 a2 a6 rfl yac _ E.length (ecs E) rfl (P.alloc _) ⟨W.heap.size,0,none⟩ 1 1 (ecl (B,k,false)) rfl rfl G C yad yab (zae U) ?_;intro v9 w5 f I _;obtain ⟨y,J,Q,V,_⟩:=T v9 w5 _ I f N;have f9:=V.fz 0;have c9:=V.one;obtain ⟨A9,d9,rfl,_⟩:=Rd.own f))
            exact d _ _ q y (R.trans J)
          · rw [yak (by rintro ⟨_,_,z⟩;exact t3 z),yaJ] at q;have d:=d _ _ q s R;have ca:=s.lo.one;have cb:=s.hi.one;clear q H;gi_wp2
            exact d
        · rw [yak (by rintro ⟨_,z,_⟩;exact t2 z),yaJ] at q;have d:=d _ _ q s R;have ca:=s.lo.one;clear q H;gi_wp2
          exact d
  · rw [yak (by rintro ⟨z,_⟩;exact s1 z),yaJ] at q;have ca:=s.lo.one;obtain ⟨c0,c1⟩:=hx.two;by_cases H:B=0
    · rw [yak (by rintro ⟨z,_⟩;exact z H),yaJ] at q;have d:=d _ _ q s R;subst H;clear q;gi_wp2
      exact d
    · have n1:(B != 0)=true:=by simpa using H
      by_cases t2:a<B
      · by_cases t3:B≤b
        · rw [yan ⟨H,t2,t3⟩] at q;have ca:=s.lo.one;have cb:=s.hi.one;obtain ⟨v,q1,P⟩:=s.out;have cl:=q1.one;have T:=fun v9 w5 o=>@EvI.push w W w5 a b E v v9 (B,k,false) o w3.heap.size F (fun _=>False) s q1 P;obtain ⟨A,c,rfl,_⟩:=Rd.own P;have U:=s.below.size;have G:∀j u,(ecl (B,k,false))[j]? = some u→(W.alloc (.cells #[.int .i64 B,.string k,.bool false] 118)).cell? ((⟨W.heap.size,0,none⟩:Addr).add j)=some u:=zbB W #[.int .i64 B,.string k,.bool false] _;have C:=zgL (B,k,false);clear H;gi_wp2_with (gi_at_builtin;(refine wpListIn_append_own _ rfl (.tmp 46) (.tmp 51) 115 rfl w.heap.size 118 i0 (.agg #[.int .i64 0,.string ⟨#[]⟩,.bool false]) 3 32 Tryz.underlying115 Z a1 a2 a6 rfl yac _ E.length (ecs E) rfl (P.alloc _) ⟨W.heap.size,0,none⟩ 1 1 (ecl (B,k,false)) rfl rfl G C yad yab (zae U) ?_;intro v9 w5 f I _;obtain ⟨y,J,Q,V,_⟩:=T v9 w5 _ I f N;have f9:=V.fz 0;have c9:=V.one;obtain ⟨A9,d9,rfl,_⟩:=Rd.own f))
          exact d _ _ q y (R.trans J)
        · rw [yak (by rintro ⟨_,_,z⟩;exact t3 z),yaJ] at q;have d:=d _ _ q s R;have ca:=s.lo.one;have cb:=s.hi.one;clear q H;gi_wp2
          exact d
      · rw [yak (by rintro ⟨_,z,_⟩;exact t2 z),yaJ] at q;have d:=d _ _ q s R;have ca:=s.lo.one;clear q H;gi_wp2
        exact d
 case done =>
  rintro D ys W hD hT s ad;have a8:∀(W4:World) (A:Option Addr) (c:Nat) (zs:List Ev),zs.Perm (ys.flatMap fun x=>zj4 x a b)→zfl zs→Rd W4 W4.heap.size 3 A (ys.flatMap fun x=>zj4 x a b).length c (ecs zs)→Below w.heap.size w W4→W4.heap[D]? = some (.deferred (some [])) →
   ∃A' c',(Ending.returned (.slice A (ys.flatMap fun x=>zj4 x a b).length c):Ending) = .returned (.slice A' (eventsP L a b).length c')∧Rd (W4.putObj D (.deferred none)) (W4.putObj D (.deferred none)).heap.size 3 A' (eventsP L a b).length c' (ecs (eventsP L a b))∧Below w.heap.size w (W4.putObj D (.deferred none)):=fun W4 A c zs hp hr hR hb ac=>by
   have bj:=zj3 hf hT.perm hp hr;have b7:=hp.length_eq;rw [bj] at b7 hR;rw [←b7] at hR ⊢;refine ⟨A,c,rfl,?_,hb.grown (grownBy_putObj' W4 D (.deferred none)) hb.size fun r e=>by cases e;omega⟩;rw [World.putObj_size];exact hR.keep fun p _=>by
    by_cases e:p.block=D
    · have h1:(W4.putObj D (.deferred none)).heap[p.block]? = some (.deferred none):=by rw [e];exact World.putObj_heap_same (yaO.1 ac).1
      rw [←e] at ac;simp [World.cell?,h1,ac]
    · exact World.cell?_of_block (World.putObj_heap_other e)
  have ah:=zmp ys a b;have c2:=hT.perm.length_eq;generalize hEq:(ys.flatMap fun x=>zj4 x a b)=E at s a8 ah;obtain ⟨v,q1,P⟩:=s.out;have cl:=q1.one;rcases ybh E.length with h0 | h0
  · obtain ⟨A,c,rfl,hR⟩:=Rd.own P;obtain rfl:E=[]:=yaY h0;have ks:=fun W'=>zl1 A c (.func (.func 100) #[] #[]) W';gi_wp2_with (refine ⟨trivial,fun e=>(by cases e),?_⟩;(with_reducible refine (callsIn_wide.2 (ks _)).mono ?_);rintro e w4 ⟨rfl,rfl⟩)
    have d:=a8 w4 A c [] (yco _) List.Pairwise.nil hR s.below ad;refine ⟨by simp,.inl ⟨_,_,rfl,run_takeDeferred ad,?_⟩⟩;obtain ⟨A',c',e1,e2,e3⟩:=d;refine ⟨_,results_tmp rfl _ _ _,?_⟩;exact ⟨A',c',e1,e2,e3⟩
  · obtain ⟨gg,c,rfl,bl,bg⟩:=P.form h0;have ks:=sort_any14 P h0 yab;have ae:(Value.slice (some ⟨gg,0,none⟩) E.length c).ownBlock=some gg:=rfl;have G:gg≠w.heap.size + 1 + 1:=fun e=>q1.apart P yac (by rw [ae,e]);have b8:D≠gg:=fun e=>by
     obtain ⟨o,h1,h2⟩:=zhb P ae;rw [←e,ad] at h1;cases h1;cases h2
    have q4:∀w4,W.grownBy w4 (some gg)→w4.cell? ⟨w.heap.size + 1 + 1,0,none⟩=some (.slice (some ⟨gg,0,none⟩) E.length c)∧w4.heap[D]? = some (.deferred (some []))∧Below w.heap.size w w4:=fun w4 af =>
     ⟨(q1.same (af.block _ q1.lt fun e=>G (by cases e;rfl))).one,(af.block D (yaO.1 ad).1 fun e=>b8 (by cases e;rfl)).trans ad,s.below.grown af s.below.size fun k e=>by cases e;exact bl⟩
    clear ae G b8;generalize hn:E.length=n at *
    gi_wp2_with (refine ⟨trivial,fun e=>(by cases e),?_⟩;(with_reducible refine (callsIn_wide.2 ks).mono ?_);rintro e w4 ⟨rfl,zs,bm,bn,bo,af⟩;obtain ⟨c4,ac,bp⟩:=q4 w4 af)
    obtain ⟨A',c',e1,e2,e3⟩:=a8 w4 _ c zs bm bn bo bp ac;refine ⟨by simp,.inl ⟨_,_,rfl,run_takeDeferred ac,?_⟩⟩;refine ⟨_,results_tmp rfl _ _ _,?_⟩;exact ⟨A',c',e1,e2,e3⟩
 case stop =>
  rintro D c pre W _ _ h _;exact h.elim
theorem zj2 {F:Nat→Prop} {g:Nat} {L:List Sp} {last:Int} (a b:Int) (h:Sk w F g L last) (hf:FineS L last) (hL:L.length≤100000) :
 Calls Tryz.prog 60 #[.pointer (some ⟨g,0,none⟩),.int .i64 a,.int .i64 b] w fun e w'=>∃A c,e = .returned (.slice A (eventsP L a b).length c)∧Rd w' w'.heap.size 3 A (eventsP L a b).length c (ecs (eventsP L a b))∧Below w.heap.size w w':=callsIn_wide.1 (events_in 6 (yaj _) a b h hf hL)
end
section
open Go.RowKit Go.Shelf
attribute [local go_sem] Oper.semAt_some
section
variable {l0 n:Nat} {P:Program} {ops:Array Oper} {md:Region.Mode} {Q:Exit→Act→World→Prop}
end
structure TrI (w:World) (r:Int) (pre:List Sp) (W:World):Prop where
 rev:Rk W w.heap.size #[.int .i64 r] 3
 box:Rk W (w.heap.size + 1 + 1) #[.map (some (w.heap.size + 1))] 122
 cnt:Rk W (w.heap.size + 1 + 1 + 1) #[.int .i64 (pre.filter fun x=>!keptB r x).length] 3
 map:∃V,MapR W w.heap.size (w.heap.size + 1) (pre.filter (keptB r)).length (ofK (pre.filter (keptB r))) V
 below:Below w.heap.size w W
theorem MapR.stay {X Y:World} {B b n:Nat} {G:ByteArray→List Iv} {V:ByteArray→Value} {row:Option Nat} (h:MapR X B b n G V) (hg:X.grownBy Y row) (hr:∀r,row=some r→r≠b∧∃o:Obj,X.heap[r]? = some o∧o.isCells=false):MapR Y B b n G V :=
 h.same (hg.block b h.lt fun e=>(hr b e.symm).1 rfl) fun k j d=>hg.block j (zfY (h.row k) d).2 fun e=>by
  obtain ⟨o,m,s⟩:=(hr j e.symm).2;rcases (h.row k).2 with ⟨f,_⟩ | ⟨u,p,q,f,_,g,_⟩
  · rw [f] at d;simp [Value.ownBlock] at d
  rw [f] at d;simp only [Value.ownBlock,yaT] at d;subst d;rw [g] at m;cases m;cases s
theorem TrI.stay {w X Y:World} {r:Int} {pre:List Sp} {row:Option Nat} (h:TrI w r pre X) (hg:X.grownBy Y row) (hr:∀j,row=some j→w.heap.size + 1<j∧∃o:Obj,X.heap[j]? = some o∧o.isCells=false):TrI w r pre Y:=by
 have b:=fun j e=>(hr j e).2;obtain ⟨V,d⟩:=h.map;exact ⟨h.rev.stay hg b,h.box.stay hg b,h.cnt.stay hg b,⟨V,d.stay hg fun j e=>⟨by have:=(hr j e).1;omega,(hr j e).2⟩⟩,h.below.grown hg h.below.size fun j e=>by have:=(hr j e).1;omega⟩
theorem MapR.one {w:World} {B b n1 n2:Nat} {G1 G2:ByteArray→List Iv} {V1 V2:ByteArray→Value} (h1:MapR w B b n1 G1 V1) (h2:MapR w B b n2 G2 V2) {k:ByteArray} (hk:k.size≤maxLen):V1 k=V2 k:=by
 have e:=(h1.look hk w rfl).symm.trans (h2.look hk w rfl);injection e
end
section
open Go.RowKit
theorem zfK:SpK Sk where
 lt:=fun h=>h.lt
 keep:=fun h hk=>h.keep hk
 new:=zqd
 put:=fun k r h f d hk=>put14_any k r h f d hk
 drop:=fun k r h f d hk=>drop14_any k r h f d hk
 has:=fun k r h _ d hk=>has14_any k r h d hk
 count:=fun r h _ d=>zlg r h d
 events:=fun a b h f d=>zj2 a b h f d
end
section
open Go.RowKit
theorem rk_rd {w:World} {g n sz:Nat} {cs:Array Value} {t:TypeId} {xs:List Value} (h:Rk w g cs t) (hx:cs.toList=xs) (hl:xs.length=n * sz) (hs:0<sz) (hn:n≤maxLen):Rd w w.heap.size sz (some ⟨g,0,none⟩) n n xs :=
 Rd.of_cells hl hs (yaj _) hn h.lt fun j u b=>by
  show w.cell? ((⟨g,0,none⟩:Addr).add j)=some u;rw [Addr.add_lit,yaG,h.cell j,←ycf,hx];exact b
structure On15 (f:CoF) (w0 w:World) (g gt gb ga gd:Nat) (u:TuP) (b:Nd15) (s:Sto Tb Nd15) (n:Nat):Prop where
 sto:Ib Sk f (fun j=>j<w0.heap.size∨j=gt∨j=gb∨j=ga∨j=gd) w g s n
 tup:Rk w gt #[.string u.1.1,.string u.1.2.1,.string u.1.2.2,.string u.2.1,.string u.2.2.1,.string u.2.2.2] 51
 nod:Rk w gb #[.string b.1,.string b.2.1,.string b.2.2] 31
 add:Rk w ga #[.string u.1.1,.string u.1.2.1,.string u.1.2.2,.string u.2.1,.string u.2.2.1,.string u.2.2.2,.bool true] 54
 drop:Rk w gd #[.string u.1.1,.string u.1.2.1,.string u.1.2.2,.string u.2.1,.string u.2.2.1,.string u.2.2.2,.bool false] 54
 old:Below w0.heap.size w0 w
section
variable {f:CoF} {w0 w w':World} {g gt gb ga gd n n':Nat} {u:TuP} {b:Nd15} {s s':Sto Tb Nd15}
theorem On15.up (h:On15 f w0 w g gt gb ga gd u b s n) (hb:Below w.heap.size w w'):On15 f w0 w' g gt gb ga gd u b s n :=
 ⟨h.sto.up zfK hb,h.tup.same (hb.block _ h.tup.lt),h.nod.same (hb.block _ h.nod.lt),h.add.same (hb.block _ h.add.lt),h.drop.same (hb.block _ h.drop.lt),zad h.old h.old.size hb⟩
theorem On15.to (h:On15 f w0 w g gt gb ga gd u b s n) (hs:Ib Sk f (fun j=>j<w0.heap.size∨j=gt∨j=gb∨j=ga∨j=gd) w' g s' n') (hz:KpZ (fun j=>j<w0.heap.size∨j=gt∨j=gb∨j=ga∨j=gd) w w'):On15 f w0 w' g gt gb ga gd u b s' n' :=
 ⟨hs,h.tup.same (hz.old _ (.inr (.inl rfl))),h.nod.same (hz.old _ (.inr (.inr (.inl rfl)))),h.add.same (hz.old _ (.inr (.inr (.inr (.inl rfl))))),h.drop.same (hz.old _ (.inr (.inr (.inr (.inr rfl))))),h.old.trans (hz.below fun _ q=>.inl q)⟩
theorem rd_pre15 (w:World) (u:TuP) (z:Bool) (t:TypeId):Rd (w.alloc (.cells #[.string u.1.1,.string u.1.2.1,.string u.1.2.2,.string u.2.1,.string u.2.2.1,.string u.2.2.2,.bool z] t)) (w.alloc (.cells #[.string u.1.1,.string u.1.2.1,.string u.1.2.2,.string u.2.1,.string u.2.2.1,.string u.2.2.2,.bool z] t)).heap.size 7 (some ⟨w.heap.size,0,none⟩) [(u,z)].length 1 ([(u,z)].flatMap zco):=Rd.litX w _ _ 1 7 _ rfl rfl yac
theorem On15.pre (h:On15 f w0 w g gt gb ga gd u b s n) (z d:Bool) (hk:(zbu u).size≤100000) (hmax:revB s + 1≤9223372036854775807) (hn:n + 16≤50000) {E:Sto Tb Nd15 × Int × Nat} (hE:zaA (p15 f) s b [(u,z)] [(u,d)]=E) :
 Calls Tryz.prog 12 #[.pointer (some ⟨g,0,none⟩),.agg #[.string b.1,.string b.2.1,.string b.2.2],.slice (some ⟨w.heap.size,0,none⟩) 1 1,.slice (some ⟨if d=true then ga else gd,0,none⟩) 1 1] (w.alloc (.cells #[.string u.1.1,.string u.1.2.1,.string u.1.2.2,.string u.2.1,.string u.2.2.1,.string u.2.2.2,.bool z] 66)) fun e w'=>e = .returned (.tuple #[.int .i64 E.2.1,.int .i64 (E.2.2:Nat)])∧On15 f w0 w' g gt gb ga gd u b E.1 (n + 16):=by
 have hb:=zaM w (.cells #[.string u.1.1,.string u.1.2.1,.string u.1.2.2,.string u.2.1,.string u.2.2.1,.string u.2.2.2,.bool z] 66);have j:=h.up hb;have o:=rd_pre15 w u z 66;have p:Rd (w.alloc (.cells #[.string u.1.1,.string u.1.2.1,.string u.1.2.2,.string u.2.1,.string u.2.2.1,.string u.2.2.2,.bool z] 66)) (w.alloc (.cells #[.string u.1.1,.string u.1.2.1,.string u.1.2.2,.string u.2.1,.string u.2.2.1,.string u.2.2.2,.bool z] 66)).heap.size 7 (some ⟨if d=true then ga else gd,0,none⟩) [(u,d)].length 1 ([(u,d)].flatMap zco):=by
  cases d with
  | true=>exact rk_rd j.add rfl rfl yac (by simp [maxLen])
  | false=>exact rk_rd j.drop rfl rfl yac (by simp [maxLen])
 have k:=j.sto.write zfK b.1 b.2.1 b.2.2 o p (fun x m=>by rw [yas.1 m];exact hk) (fun x m=>by rw [yas.1 m];exact hk) hmax hn;rw [hE] at k;simp only [yaI,yaq,yaG] at k;exact k.mono fun e w' ⟨a,q,y⟩=>⟨a,j.to q y⟩
theorem On15.one (h:On15 f w0 w g gt gb ga gd u b s n) (d:Bool) (hk:(zbu u).size≤100000) (hmax:revB s + 1≤9223372036854775807) (hn:n + 16≤50000) {E:Sto Tb Nd15 × Int × Nat} (hE:zaA (p15 f) s b [] [(u,d)]=E) :
 Calls Tryz.prog 12 #[.pointer (some ⟨g,0,none⟩),.agg #[.string b.1,.string b.2.1,.string b.2.2],.slice none 0 0,.slice (some ⟨if d=true then ga else gd,0,none⟩) 1 1] w fun e w'=>e = .returned (.tuple #[.int .i64 E.2.1,.int .i64 (E.2.2:Nat)])∧On15 f w0 w' g gt gb ga gd u b E.1 (n + 16):=by
 have j:Rd w w.heap.size 7 (some ⟨if d=true then ga else gd,0,none⟩) [(u,d)].length 1 ([(u,d)].flatMap zco):=by
  cases d with
  | true=>exact rk_rd h.add rfl rfl yac (by simp [maxLen])
  | false=>exact rk_rd h.drop rfl rfl yac (by simp [maxLen])
 have k:=h.sto.write zfK b.1 b.2.1 b.2.2 (p:=[]) (Rd.none_ _ _ 7) j (fun _ q=>absurd q yaf) (fun x m=>by rw [yas.1 m];exact hk) hmax hn;rw [hE] at k;simp only [yaI,yaq,yaG] at k;exact k.mono fun e w' ⟨a,o,y⟩=>⟨a,h.to o y⟩
end
end
section
open Go.ChangeShapes Go.WideShapes Go.ChangeAt Go.RowKit
variable {R:Nat}
section
variable {H:Type} {enc:TypeId × Value→H} {P:Program} {W:World} {base:Nat} {spare:Nat→Bool} {held:Bool} {y:DataW H × List MemPlace}
theorem znd {e:TypeId} {fs:Array Field} {ys:List (DataW H × List MemPlace)} (he:P.underlying e=some (.struct fs)) (hS:Sz P R e (.agg (ys.map Prod.fst))) {i:Nat} {f:Field} (hi:fs[i]? = some f) (hy:ys[i]? = some y):Sz P R f.type y.1:=fun k hk=>hS k (by
 rw [DataW.weights,he];refine DataW.weights_mem_each (j:=i) (t:=f.type) (d:=y.1) ?_ ?_ k hk
 · rw [ya0,ycf,hi];rfl
 · rw [ya0,hy];rfl)
theorem rd_nodeW {fuel:Nat} {cs:List Value} (h:DataW.trod enc Tryz.prog W base spare held fuel 31 cs=some y) (hS:Sz Tryz.prog R 31 y.1) :
 ∃n:Nd15,cs=[.string n.1,.string n.2.1,.string n.2.2]∧n.1.size≤R∧n.2.1.size≤R∧n.2.2.size≤R:=by
 obtain ⟨B,d,_,rfl,q,g,j⟩:=DataW.trod_struct Tryz.underlying31 h;rw [show Tryz.prog.cellsOf 31=3 by kernel_rfl] at q;have C:Tryz.prog.cellsOf 9=1:=by kernel_rfl
 have k:=fun (i:Nat) f y hi D=>znd (i:=i) (f:=f) (y:=y) Tryz.underlying31 hS hi D;match cs,q,B,g with
 | [m,o,p],_,[y0,y1,y2],_ =>
  have g0:DataW.trod enc Tryz.prog W base spare held d 9 (([m,o,p].drop 0).take (Tryz.prog.cellsOf 9))=some y0:=j 0 _ rfl;have s:DataW.trod enc Tryz.prog W base spare held d 9 (([m,o,p].drop 1).take (Tryz.prog.cellsOf 9))=some y1:=j 1 _ rfl;have u:DataW.trod enc Tryz.prog W base spare held d 9 (([m,o,p].drop 2).take (Tryz.prog.cellsOf 9))=some y2:=j 2 _ rfl;rw [C] at g0 s u;obtain ⟨a,x,E⟩:=zfD Tryz.underlying9 (y:=y0) (by simpa using g0) (k 0 _ _ rfl rfl);obtain ⟨b,z,F⟩:=zfD Tryz.underlying9 (y:=y1) (by simpa using s) (k 1 _ _ rfl rfl);obtain ⟨c,A,G⟩:=zfD Tryz.underlying9 (y:=y2) (by simpa using u) (k 2 _ _ rfl rfl);simp at x z A;subst x z A;exact ⟨(a,b,c),rfl,E,F,G⟩
theorem rd_tupleW {fuel:Nat} {cs:List Value} (h:DataW.trod enc Tryz.prog W base spare held fuel 51 cs=some y) (hS:Sz Tryz.prog R 51 y.1) :
 ∃u:TuP,cs=zeE u∧∀x ∈ zaE u,x.size≤R:=by
 obtain ⟨E,g,_,rfl,j,d,k⟩:=DataW.trod_struct Tryz.underlying51 h;rw [show Tryz.prog.cellsOf 51=6 by kernel_rfl] at j;have F:Tryz.prog.cellsOf 31=3:=by kernel_rfl
 have m:=fun (i:Nat) f y hi G=>znd (i:=i) (f:=f) (y:=y) Tryz.underlying51 hS hi G;match cs,j,E,d with
 | [n,o,p,q,s,z],_,[y0,y1],_ =>
  have g0:DataW.trod enc Tryz.prog W base spare held g 31 (([n,o,p,q,s,z].drop 0).take (Tryz.prog.cellsOf 31))=some y0:=k 0 _ rfl;have A:DataW.trod enc Tryz.prog W base spare held g 31 (([n,o,p,q,s,z].drop 3).take (Tryz.prog.cellsOf 31))=some y1:=k 1 _ rfl;rw [F] at g0 A;obtain ⟨a,B,H,I,a3⟩:=rd_nodeW (y:=y0) (by simpa using g0) (m 0 _ _ rfl rfl);obtain ⟨b,C,J,K,L⟩:=rd_nodeW (y:=y1) (by simpa using A) (m 1 _ _ rfl rfl);simp at B C;obtain ⟨rfl,rfl,rfl⟩:=B;obtain ⟨rfl,rfl,rfl⟩:=C;exact ⟨(a,b),rfl,fun x D=>by
   simp only [zaE,yav,ya1,ybw] at D;rcases D with rfl | rfl | rfl | rfl | rfl | rfl <;> assumption⟩
theorem rd_node15 {v:Value} {d:DataW H} {p:List MemPlace} {r:Go.Reach} {b0:Nat} (hv:Value.okWide Tryz.prog W r b0 31 v) (h:DataW.Trod enc Tryz.prog W base spare held 31 v d p) (hS:Sz Tryz.prog R 31 d) :
 ∃n:Nd15,v = .agg #[.string n.1,.string n.2.1,.string n.2.2]∧n.1.size≤R∧n.2.1.size≤R∧n.2.2.size≤R:=by
 obtain ⟨cs,rfl,_⟩:=okWide_struct Tryz.underlying31 hv;obtain ⟨fuel,b⟩:=h;obtain ⟨n,f,g⟩:=rd_nodeW (y:=(d,p)) (by simpa [Value.cells] using b) hS;exact ⟨n,by rw [←Array.toArray_toList (xs:=cs),f],g⟩
theorem rd_tuple15 {v:Value} {d:DataW H} {p:List MemPlace} {r:Go.Reach} {b0:Nat} (hv:Value.okWide Tryz.prog W r b0 51 v) (h:DataW.Trod enc Tryz.prog W base spare held 51 v d p) (hS:Sz Tryz.prog R 51 d) :
 ∃u:TuP,v=zf0 u∧∀x ∈ zaE u,x.size≤R:=by
 obtain ⟨cs,rfl,_⟩:=okWide_struct Tryz.underlying51 hv;obtain ⟨fuel,b⟩:=h;obtain ⟨u,f,g⟩:=rd_tupleW (y:=(d,p)) (by simpa [Value.cells] using b) hS;exact ⟨u,by rw [←Array.toArray_toList (xs:=cs),f];rfl,g⟩
end
end
end Go.Proofs.YtmblgnddgmfkhaaGreat
