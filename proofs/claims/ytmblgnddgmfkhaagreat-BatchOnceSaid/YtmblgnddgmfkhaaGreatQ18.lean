import Derived.Test.YtmblgnddgmfkhaaGreatQ17
set_option maxRecDepth 100000
set_option maxHeartbeats 4000000
namespace Go.Proofs.YtmblgnddgmfkhaaGreat
section
open Go.RowKit
variable {w wx:World} {n c i:Nat} {A:Option Addr} {v:Value} {l:List OpI} {m:List Int} {s:List Int × List Nat}
theorem own_pre {B:Nat} {e:TypeId} {m:Nat} {xs:List Value} (h:w.ownsRow B e 1 (.slice A n c) n xs) (hm:m≤n) (hn:0<n):w.ownsRow B e 1 (.slice A m c) m (xs.take m):=by
 rcases h.2 with ⟨j,u⟩ | ⟨g,cap,b,j,hb,k,o,d,f,p⟩
 · omega
 · injection j with q _ s
   subst q s;refine ⟨by rw [yaK,h.1];omega,.inr ⟨g,c,b,rfl,hb,k,by omega,d,f,?_⟩⟩;rw [←p,List.take_take];congr 1
   omega
theorem ops_at {B:Nat} (h:Rd w B 3 A n c (l.flatMap aOp)) {o:OpI} (hi:l[i]? = some o) (hn:n=l.length) :
 ∃b k,A=some ⟨b,k,none⟩∧b<B∧w.cell? ⟨b,k + i * 3,none⟩=some (.int .i64 o.1)∧w.cell? ⟨b,k + i * 3 + 1,none⟩=some (.string o.2.1)∧w.cell? ⟨b,k + i * 3 + 2,none⟩=some (.string o.2.2):=by
 subst hn;obtain ⟨b,k,e,hb,d⟩:=h.at_ (zdI hi);have g:=fun j (f:j<3)=>za6 aOp (sz:=3) (fun _=>rfl) hi (k:=j) f;exact ⟨b,k,e,hb,d _ _ (g 0 yab),by rw [ya4];exact d _ _ (g 1 yab),by rw [ya4];exact d _ _ (g 2 yab)⟩
theorem zkn {g:Nat} (h:Bk w g (lvs m).toArray 3) (hi:i<m.length):w.cell? ⟨g,i,none⟩=some (.int .i64 (m.getD i 0)):=by
 rw [h.cell i,ya5,yal hi];simp [lvs,hi]
theorem zgs {k:Int} (h:Small m k) (hk:0≤k) (i:Nat) : -k≤m.getD i 0∧m.getD i 0≤k:=by
 rw [ya5];cases hi:m[i]? with
 | none=>simp;omega
 | some y=>have:=h y (yar hi);simpa using this
structure BI (w wx:World) (n:Nat) (s:List Int × List Nat) (v:Value):Prop where
 more:Bk wx w.heap.size (lvs s.1).toArray 3
 var:Bk wx (w.heap.size + 1) #[.slice (some ⟨w.heap.size,0,none⟩) (n + 1) (n + 1)] 146
 beg:wx.ownsRow (w.heap.size + 2) 3 1 v s.2.length (ints s.2)
 below:Below w.heap.size w wx
 len:s.1.length=n + 1
theorem BI.alloc (h:BI w wx n s v) (o:Obj):BI w (wx.alloc o) n s v:=⟨h.more.alloc o,h.var.alloc o,h.beg.alloc o,h.below.alloc h.below.size o,h.len⟩
theorem BI.drew (h:BI w wx n s v):BI w wx.drew n s v:=⟨h.more,h.var,own_drew h.beg,h.below.drew,h.len⟩
theorem BI.add {d:Int} (h:BI w wx n s v):BI w (wx.setCell ⟨w.heap.size,i,none⟩ (.int .i64 (s.1.getD i 0 + d))) n (zfm s.1 i d,s.2) v:=by
 refine ⟨?_,h.var.other (a:=⟨w.heap.size,i,none⟩) (by show w.heap.size + 1≠w.heap.size;omega) _,own_set h.beg (by show w.heap.size<_;omega) _,h.below.setCell (yaj _) _,by rw [zgv];exact h.len⟩;have:=h.more.set i (.int .i64 (s.1.getD i 0 + d));rw [zlF] at this;exact this
theorem BI.app {w1 w8:World} {j:Nat} {bg:List Nat} {v9:Value} {o:Obj} (h:BI w w1 n (m,bg) v) (hg:(w1.alloc o).grownBy w8 v.ownBlock) (hown:w8.ownsRow (w.heap.size + 2) 3 1 v9 (bg.length + 1) (ints bg ++ [.int .i64 (j:Int)])):BI w w8 n (m,bg ++ [j]) v9:=by
 have hb:=h.beg.alloc o;have b:=hg.size;simp only [World.size_alloc] at b;have k:∀g,g<w.heap.size + 2→g<w1.heap.size→w8.heap[g]? = w1.heap[g]?:=fun g f d=>(hg.block g yag fun e=>by have:=(hb.lt g e.symm).1;omega).trans (Below.heap_alloc _ _ _ d);refine ⟨(k _ yab h.more.lt).trans h.more,(k _ yab h.var.lt).trans h.var,?_,zaf (h.below.alloc h.below.size o) hg hb (size_alloc h.below.size) yab,h.len⟩;show w8.ownsRow _ _ _ v9 (bg ++ [j]).length (ints (bg ++ [j]));rw [yam,zeU];exact hown
theorem BI.cut {k:Nat} {s:List Int} {bg:List Nat} (h:BI w wx n (s,bg) (.slice A bg.length c)) (hk:k≤bg.length) (h0:0<bg.length):BI w wx n (s,bg.take k) (.slice A k c):=by
 refine ⟨h.more,h.var,?_,h.below,h.len⟩;have:=own_pre h.beg hk h0;show wx.ownsRow _ _ _ _ (bg.take k).length (ints (bg.take k));rw [yaK,ybK hk];unfold ints at *
 rw [List.map_take];exact this
theorem behindNotOf_any (h:Rd w w.heap.size 3 A l.length c (l.flatMap aOp)) (hl:l.length≤100000) :
 Calls Tryz.prog 122 #[.slice A l.length c] w fun e w'=>e = .returned (.func (.func 172) #[] #[.pointer (some ⟨w.heap.size + 1,0,none⟩)]) ∧
  Bk w' w.heap.size (lvs (zf9 (zkq l) l.length)).toArray 3∧Bk w' (w.heap.size + 1) #[.slice (some ⟨w.heap.size,0,none⟩) (l.length + 1) (l.length + 1)] 146∧Below w.heap.size w w':=by
 obtain ⟨i0,a6,M,C,q⟩:=info_parts zeS;have an:∀W:World,(Instr.makeSlice 146 (.int .i64 ((l.length:Int) + 1)) (.int .i64 ((l.length:Int) + 1))).run Tryz.prog W = .ok (.slice (some ⟨W.heap.size,0,none⟩) (l.length + 1) (l.length + 1)) (W.alloc (.cells (lvs (List.replicate (l.length + 1) 0)).toArray 3)):=fun W=>by
  have:=run_make (P:=Tryz.prog) W 146 3 i0 _ Tryz.underlying146 a6 M .i64 .i64 (l.length + 1) ((l.length:Int) + 1) yab yab (by rw [q];omega) yab;have e1:((l.length:Int) + 1).toNat=l.length + 1:=by omega
  rw [e1,C,ycA] at this;rw [this];congr 3
  apply ycN;show (madeCells #[.int .i64 0] (l.length + 1)).toList=_;rw [toList_madeCells_one];simp [lvs]
 go_enter Tryz.func122,Tryz.ntmps122
 go_wp2_with fail
 have a7:Below w.heap.size w ((w.alloc (.cells (lvs (List.replicate (l.length + 1) 0)).toArray 3)).alloc (.cells #[.slice (some ⟨w.heap.size,0,none⟩) (l.length + 1) (l.length + 1)] 146)):=((Below.refl _ w).alloc (yaj _) _).alloc yaf _;have d0:=(Bk.new w (lvs (List.replicate (l.length + 1) 0)).toArray 3).alloc (.cells #[.slice (some ⟨w.heap.size,0,none⟩) (l.length + 1) (l.length + 1)] 146);have d1:=Bk.new (w.alloc (.cells (lvs (List.replicate (l.length + 1) 0)).toArray 3)) #[.slice (some ⟨w.heap.size,0,none⟩) (l.length + 1) (l.length + 1)] 146;simp only [World.size_alloc] at d1;generalize (w.alloc (.cells (lvs (List.replicate (l.length + 1) 0)).toArray 3)).alloc (.cells #[.slice (some ⟨w.heap.size,0,none⟩) (l.length + 1) (l.length + 1)] 146)=w0 at *
 have ao:BI w w0 l.length (List.replicate (l.length + 1) 0,[]) (.slice none 0 0):=⟨d0,d1,World.ownsRow_nil _ _ _ _,a7,by simp⟩;have aq:(l.length:Int)≤9223372036854775807:=by omega
 clear an d0 d1 a7;go_loopw [4,15] (fun v N wx=>∃j:Nat,N = .int .i64 j∧j≤l.length∧BI w wx l.length (zin (List.replicate (l.length + 1) 0,[]) 0 (l.take j)) v) (fun _ N _=>l.length-(intOf N).toNat)
 case atStart=>exact ⟨0,rfl,yap _,ao⟩
 case round =>
  obtain ⟨j,rfl,hj,H⟩:=hrel;by_cases a8:j<l.length
  · have O:(j:Int)<(l.length:Int):=by omega
    obtain ⟨⟨k,on,ox⟩,ho⟩:∃o,l[j]? = some o:=⟨_,yal a8⟩;obtain ⟨b,o,rfl,bb,c0,c1,c2⟩:=ops_at (h.below H.below) ho rfl;have s:Hid (zin (List.replicate (l.length + 1) 0,[]) 0 (l.take (j + 1))=zcA (zin (List.replicate (l.length + 1) 0,[]) 0 (l.take j)) j k):=Lib.hid (by
     rw [yaC,ho,yaR,zp6,yaK,yaG,ybK (by omega)])
    have B:Small (zin (List.replicate (l.length + 1) 0,[]) 0 (l.take j)).1 200000:=fun x hx=>by
     have:=zio (l.take j) (List.replicate (l.length + 1) 0,[]) 0 0 yab (fun y hy=>by rw [List.mem_replicate] at hy;omega) x hx;rw [yaK] at this;omega
    have I:=mrun_lt (l.take j) (List.replicate (l.length + 1) 0,[]) 0 (fun b hb=>by cases hb);rw [yaK,ybK yab,yaG] at I;have Q:=mrun_beg (l.take j) (List.replicate (l.length + 1) 0,[]) 0;rw [yaK,ybK yab,yaI,yaG] at Q;obtain ⟨⟨m,g⟩,aa⟩:∃st,zin (List.replicate (l.length + 1) 0,[]) 0 (l.take j)=st:=⟨_,rfl⟩;rw [aa] at H s B I Q;clear aa;simp only at B I Q;have f:=H.alloc (.cells #[.int .i64 k,.string on,.string ox] 222);have x1:=Bk.new wr #[.int .i64 k,.string on,.string ox] 222;obtain ⟨A3,c3,rfl,R⟩:=Rd.own H.beg;have ab:=R.cap;have ar:=R.capm;simp only at ab;clear R;go_upto_region 6 with (fail)
    clear c0 c1 c2;generalize hq1:wr.heap.size=q1 at *
    generalize wr.alloc (.cells #[.int .i64 k,.string on,.string ox] 222)=w1 at *
    have y0:=x1.cell 0;have bc:=f.below.size;have au:w.heap.size + 2≤w1.heap.size:=by have:=f.var.lt;omega
    by_cases hk:k=1∨k=2∨k=3
    · have n:Hid (zcA (m,g) j k=(m,g ++ [j])):=Lib.hid (by unfold zcA;rw [yan hk]);rcases hk with rfl | rfl | rfl;all_goals
       go_wp2_with (at_builtin;go_loud (refine zab _ rfl (.tmp 29) (.tmp 31) 146 146 rfl (w.heap.size + 2) 3 i0 (.int .i64 0) 1 8 Tryz.underlying146 a6 M C q rfl yac (.slice A3 g.length c3) g.length (ints g) rfl (f.beg.alloc _) _ 1 [.int .i64 (j:Int)] rfl (Src.ofSlice _ Tryz.underlying146 _ 1 1 _ rfl (zbA _ _ _) (zdX [j])) yad yab (size_alloc au) ?_;intro v9 w8 T av b6))
       exact ⟨⟨j + 1,by go_num,by omega,by rw [s.out,n.out];exact f.app av T⟩,by simp [intOf];omega⟩
    · have bd:(k == 1)=false:=by simp;omega
      have bf:(k == 2)=false:=by simp;omega
      have bh:(k == 3)=false:=by simp;omega
      by_cases D:k=4∨k=5∨k=6
      · by_cases h2:g.length<2
        · have n:Hid (zcA (m,g) j k=(m,g)):=Lib.hid (by unfold zcA;rw [yak hk,yan D,yan h2]);have aw:(g.length:Int)-1<1:=by omega
          rcases D with rfl | rfl | rfl;all_goals
           go_wp2_with fail
           exact ⟨⟨j + 1,by go_num,by omega,by rw [s.out,n.out];exact f⟩,by simp [intOf];omega⟩
        · obtain ⟨nn,bi⟩:∃nn:Nat,(g.length:Int)-1=(nn:Int):=⟨g.length-1,by omega⟩;have E:g.length-1=nn:=by omega
          have aw:¬((nn:Int)<1):=by omega
          have bj:(nn:Int)≤(c3:Int):=by omega
          have ac:nn≤g.length:=by omega
          have ad:0<g.length:=by omega
          have U:=Lib.hid (f.cut ac ad);by_cases J:k=6
          · subst J;obtain ⟨p,hp⟩:∃p,g[nn]? = some p:=⟨_,yal yab⟩;have bl:=I p (yar hp);have ax:=f.len;simp only at ax;have n:Hid (zcA (m,g) j 6=(zfm (zfm m p 1) j (-1),g.take nn)):=Lib.hid (by
             unfold zcA;rw [yak hk,yan D,yak h2,yan rfl];simp only [E];rw [ya5,hp];rfl)
            replace E:=Lib.hid E;obtain ⟨A4,c4,e4,ay⟩:=Rd.own f.beg;injection e4 with e4 _ az
            subst e4 az;obtain ⟨ob,oo,u,rfl,_,hu,bm⟩:=ay.get (k:=nn) (by simp only;omega);have b0:u = .int .i64 (p:Int):=by
             simp only [ints,ya0,hp,ybE,yaT] at hu;exact hu.symm
            subst b0;have V:=zkn f.more (i:=p) (by simp only;omega);simp only at V;have ae:=f.more.fz p;have af:=f.var.cell';have bn:(p:Int)<(l.length:Int) + 1:=by omega
            have bo:(nn:Int)<(g.length:Int):=by omega
            have ag:=zgs B yab p;obtain ⟨z,hz⟩:∃z,m.getD p 0=z:=⟨_,rfl⟩;rw [hz] at V ag;obtain ⟨M,C⟩:=ag;have F:=f.add (i:=p) (d:=1);simp only [hz] at F;replace F:=Lib.hid F;clear hz;go_upto_region 17 with (fail)
            go_region
            have G:=Lib.hid F.out.drew;clear V ae af F;generalize (World.setCell w1 ⟨w.heap.size,p,none⟩ (.int .i64 (z + 1))).drew=w2 at *
            have b7:(zfm m p 1).length=l.length + 1:=G.out.len;have ah:=zkn G.out.more (i:=j) (by show j<(zfm m p 1).length;omega);simp only at ah;have L:Small (zfm m p 1) 200001:=zeo B p 1 yab yab;obtain ⟨q,b1⟩:=zgs L yab j;obtain ⟨z2,X⟩:∃z,(zfm m p 1).getD j 0=z:=⟨_,rfl⟩;have K:=G.out.add (i:=j) (d:=-1);have ae:=G.out.more.fz j;have af:=G.out.var.cell';simp only [X] at K;rw [X] at ah q b1;replace K:=Lib.hid K;clear X L;have bp:(j:Int)<(l.length:Int) + 1:=by omega
            go_wp2_with fail
            refine ⟨⟨j + 1,by go_num,by omega,?_⟩,by simp [intOf];omega⟩;rw [s.out,n.out];have ai:=K.out;rw [←Int.sub_eq_add_neg] at ai;clear U;have hc:nn=(g.take nn).length:=by rw [yaK];omega
            exact ai.cut ac ad
          · have n:Hid (zcA (m,g) j k=(m,g.take nn)):=Lib.hid (by unfold zcA;rw [yak hk,yan D,yak h2,yak J];simp only [E]);replace E:=Lib.hid E;have aj:(k == 6)=false:=by simpa using J
            rcases D with rfl | rfl | rfl
            · go_wp2_with fail
              exact ⟨⟨j + 1,by go_num,by omega,by rw [s.out,n.out];exact U.out⟩,by simp [intOf];omega⟩
            · go_wp2_with fail
              exact ⟨⟨j + 1,by go_num,by omega,by rw [s.out,n.out];exact U.out⟩,by simp [intOf];omega⟩
            · exact absurd rfl J
      · have n:Hid (zcA (m,g) j k=(m,g)):=Lib.hid (by unfold zcA;rw [yak hk,yak D]);have b8:(k == 4)=false:=by simp;omega
        have b9:(k == 5)=false:=by simp;omega
        have aj:(k == 6)=false:=by simp;omega
        go_wp2_with fail
        exact ⟨⟨j + 1,by go_num,by omega,by rw [s.out,n.out];exact f⟩,by simp [intOf];omega⟩
  · obtain rfl:j=l.length:=by omega
    have O:¬(((l.length:Nat):Int)<(l.length:Int)):=by omega
    rw [yaA] at H;clear aq;obtain ⟨m0,Y⟩:∃m0,zin (List.replicate (l.length + 1) 0,[]) 0 l=m0:=⟨_,rfl⟩;have B:Small (zin (List.replicate (l.length + 1) 0,[]) 0 l).1 200000:=fun x hx=>by
     have:=zio l (List.replicate (l.length + 1) 0,[]) 0 0 yab (fun y hy=>by rw [List.mem_replicate] at hy;omega) x hx;omega
    have b2:Hid (zkq l=m0.1):=Lib.hid (by rw [zkq,Y]);rw [Y] at H B;clear Y;go_wp2_with fail
    go_loopw [63] (fun N wx=>∃j:Nat,N = .int .i64 j∧j≤l.length∧Bk wx w.heap.size (lvs (zf9 m0.1 j)).toArray 3∧Bk wx (w.heap.size + 1) #[.slice (some ⟨w.heap.size,0,none⟩) (l.length + 1) (l.length + 1)] 146∧Below w.heap.size w wx) (fun N _=>l.length-(intOf N).toNat)
    case atStart=>exact ⟨0,rfl,yap _,H.more,H.var,H.below⟩
    case round =>
     obtain ⟨j,rfl,hj,hM,hV,ak⟩:=hrel;by_cases a8:j<l.length
     · have O:(j:Int)<(l.length:Int):=by omega
       have bq:(zf9 m0.1 j).length=l.length + 1:=by rw [zmZ];exact H.len
       have p0:=zkn hM (i:=j) yab;have p1:=zkn hM (i:=j + 1) yab;have pf:=hM.fz (j + 1);have v0:=hV.cell';obtain ⟨Z,b3⟩:=zn9 B yab j;obtain ⟨b4,al⟩:=zgs Z yab j;obtain ⟨b5,am⟩:=zgs Z yab (j + 1);have a1:Hid (zf9 m0.1 (j + 1)=(zf9 m0.1 j).set (j + 1) ((zf9 m0.1 j).getD (j + 1) 0 + (zf9 m0.1 j).getD j 0)):=Lib.hid rfl;have a2:=Lib.hid (hM.set (j + 1) (.int .i64 ((zf9 m0.1 j).getD (j + 1) 0 + (zf9 m0.1 j).getD j 0)));obtain ⟨z1,C⟩:∃z,(zf9 m0.1 j).getD j 0=z:=⟨_,rfl⟩;obtain ⟨z2,q⟩:∃z,(zf9 m0.1 j).getD (j + 1) 0=z:=⟨_,rfl⟩;rw [C] at p0 b4 al a1 a2;rw [q] at p1 b5 am a1 a2;clear C q Z b3;have br:(j:Int)<(l.length:Int) + 1:=by omega
       have ba:(j:Int) + 1<(l.length:Int) + 1:=by omega
       go_upto_region 24 with (fail)
       go_region
       go_wp2_with fail
       refine ⟨⟨j + 1,by go_num,by omega,?_,hV.other (a:=⟨w.heap.size,j + 1,none⟩) (by show w.heap.size + 1≠w.heap.size;omega) _,(ak.setCell (yaj _) _).drew⟩,by simp [intOf];omega⟩;rw [a1.out,←zlF];exact a2.out
     · obtain rfl:j=l.length:=by omega
       have O:¬(((l.length:Nat):Int)<(l.length:Int)):=by omega
       go_wp2_with fail
       go_ret
       exact ⟨rfl,by rw [b2.out];exact hM,hV,ak⟩
theorem zk9 {g b:Nat} (hm:Bk w g (lvs (zf9 (zkq l) l.length)).toArray 3) (hv:Bk w b #[.slice (some ⟨g,0,none⟩) (l.length + 1) (l.length + 1)] 146) (hi:i<l.length) :
 Calls Tryz.prog 172 #[.int .i64 (i:Int),.pointer (some ⟨b,0,none⟩)] w fun e w'=>e = .returned (.bool (zb7 l i))∧w'=w:=by
 have o:=hv.cell';have d:(zf9 (zkq l) l.length).length=l.length + 1:=by rw [zmZ,zkq,mrun_len,ybJ]
 have m:=zkn hm (i:=i) yab;have n:(i:Int)<((l.length + 1:Nat):Int):=by omega
 have k:(i:Int)<(l.length:Int) + 1:=by omega
 obtain ⟨z,f⟩:∃z,(zf9 (zkq l) l.length).getD i 0=z:=⟨_,rfl⟩;have j:Hid (zb7 l i=decide (0<z)):=Lib.hid (by rw [zb7,f]);rw [f] at m;clear f d;go_enter Tryz.func172,Tryz.ntmps172
 go_wp2_with fail
 go_ret
 rw [j.out];exact ⟨rfl,rfl⟩
end
section
open Go.RowKit Go.Maps
open Go.RowKit Go.Maps
variable {ps:List Path} {rs:List RelI} {mb b:Nat} {e:Ed} {tn:ByteArray} {o:OpI}
def unitE:Value→Option (DataW Unit × List MemPlace):=unitElem
structure FoundM (W:World) (mb:Nat) (E:List Ed) (N:Nat):Prop where
 out:∃nn D0 L,nn≤N∧W.ownsMap Tryz.prog 207 unitE mb nn D0∧KeysAre D0 L∧∀e,e ∈ L↔e ∈ E
theorem FoundM.isMap {W:World} {N:Nat} {E:List Ed} (h:FoundM W mb E N):∃es clock,W.heap[mb]? = some (.map es clock):=by
 obtain ⟨_,_,_,_,⟨es,clock,hb,_⟩,_⟩:=h.out;exact ⟨es,clock,hb⟩
theorem FoundM.same {W W':World} {N:Nat} {E:List Ed} (h:FoundM W mb E N) (hb:W'.heap[mb]? = W.heap[mb]?):FoundM W' mb E N:=by
 obtain ⟨d,f,L,g,⟨j,b,k,m⟩,n⟩:=h.out;exact ⟨d,f,L,g,⟨j,b,hb.trans k,m⟩,n⟩
theorem FoundM.lt {W:World} {N:Nat} {E:List Ed} (h:FoundM W mb E N):mb<W.heap.size:=by
 obtain ⟨_,_,h⟩:=h.isMap;exact (yaO.1 h).1
theorem FoundM.more {W:World} {N N':Nat} {E:List Ed} (h:FoundM W mb E N) (hN:N≤N'):FoundM W mb E N':=by
 obtain ⟨b,d,L,g,f⟩:=h.out;exact ⟨b,d,L,by omega,f⟩
theorem kE_lit (h:Fits e):WideAt.IsKeyLit (kE e):=zii.key (zi2 h)
theorem KeysAre.put {H:Type} {D0 d:DataW H} {L:List Ed} (hm:IsMap D0) (h:KeysAre D0 L) (he:Fits e):∃L',KeysAre (D0.put (kE e) d) L'∧∀x,x ∈ L'↔x ∈ L∨x=e:=by
 have k:∀x,Fits x→(has (D0.put (kE e) d) (kE x)=true↔has D0 (kE x)=true∨x=e):=fun x f=>by
  by_cases g:x=e
  · subst g;simp [has_put_same hm (kE_lit he)]
  · rw [has_put_other fun o=>g (kE_inj f.1 f.2 he.1 he.2 o)];simp [g]
 have m:∀kl,has (D0.put (kE e) d) kl=true→has D0 kl=true∨kl=kE e:=fun kl hk=>by
  by_cases g:kl=kE e
  · exact .inr g
  · rw [has_put_other g] at hk;exact .inl hk
 by_cases j:e ∈ L
 · refine ⟨L,⟨h.fits,h.nodup,fun x f=>(k x (h.fits x f)).2 (.inl (h.mem x f)),fun kl hk=>?_⟩,fun x=>⟨.inl,fun p=>p.elim id fun g=>g ▸ j⟩⟩;rcases m kl hk with hk | rfl
   · exact h.only kl hk
   · exact ⟨e,j,rfl⟩
 · have n:∀x ∈ L ++ [e],Fits x:=fun x f=>by
    rcases yaz.1 f with f | f
    · exact h.fits x f
    · simp at f;exact f ▸ he
   refine ⟨L ++ [e],⟨n,ya7.2 ⟨h.nodup,by simp,fun a q b hb=>by simp at hb;subst hb;exact fun g=>j (g ▸ q)⟩,fun x f=>(k x (n x f)).2 ?_,fun kl hk=>?_⟩,fun x=>by simp⟩
   · rcases yaz.1 f with f | f
     · exact .inl (h.mem x f)
     · simp at f;exact .inr f
   · rcases m kl hk with hk | rfl
     · obtain ⟨x,f,g⟩:=h.only kl hk;exact ⟨x,List.mem_append_left _ f,g⟩
     · exact ⟨e,by simp,rfl⟩
theorem FoundM.made (w:World):FoundM (w.alloc (.map #[] 0)) w.heap.size [] 0:=⟨0,_,[],yaj _,World.ownsMap_made _ _ _ _,⟨fun _ h=>(by cases h),ycO,fun _ h=>(by cases h),fun kl h=>(by simp [has] at h)⟩,fun _=>Iff.rfl⟩
structure EW (Wk X W:World) (E:List Ed) (N:Nat):Prop where
 below:Below Wk.heap.size Wk W
 found:FoundM W Wk.heap.size E N
 mapX:∃es clock,X.heap[Wk.heap.size]? = some (.map es clock)
 size:X.heap.size≤W.heap.size
 same:∀g,g<X.heap.size→g≠Wk.heap.size→W.heap[g]? = X.heap[g]?
section
variable {Wk X W W':World} {E E':List Ed} {N N':Nat}
theorem EW.base (h:EW Wk X W E N):EW Wk W W E N:=⟨h.below,h.found,h.found.isMap,yaj _,fun _ _ _=>rfl⟩
theorem EW.join (h:EW Wk X W E N) (k:EW Wk W W' E' N'):EW Wk X W' E' N':=⟨k.below,k.found,h.mapX,yax h.size k.size,fun g b d=>(k.same g (yaw b h.size) d).trans (h.same g b d)⟩
theorem EW.call (h:EW Wk X W E N) (hb:Below W.heap.size W W'):EW Wk X W' E N :=
 ⟨h.below.trans (hb.mono (by have:=h.below.size;omega)),h.found.same (hb.block _ h.found.lt),h.mapX,yax h.size hb.size,fun g b d=>(hb.block g (by have:=h.size;omega)).trans (h.same g b d)⟩
theorem EW.alloc (h:EW Wk X W E N) (o:Obj):EW Wk X (W.alloc o) E N:=h.call ((Below.refl _ W).alloc (yaj _) o)
theorem EW.more (h:EW Wk X W E N) (hN:N≤N'):EW Wk X W E N':=⟨h.below,h.found.more hN,h.mapX,h.size,h.same⟩
theorem EW.turn (h:EW Wk X W E N) (hg:W.grownBy W' (some Wk.heap.size)) (hf:FoundM W' Wk.heap.size E' N'):EW Wk X W' E' N' :=
 ⟨h.below.grown hg h.below.size fun k e=>by cases e;exact yaj _,hf,h.mapX,yax h.size hg.size,fun g d b=>(hg.block g (by have:=h.size;omega) fun e=>b (yaX e)).trans (h.same g d b)⟩
theorem EW.bk {cs:Array Value} {t:TypeId} (h:EW Wk X W E N) (hb:Bk X b cs t):Bk W b cs t:=(h.same b hb.lt fun e=>by
 obtain ⟨f,g,d⟩:=h.mapX;rw [←e,show X.heap[b]? = _ from hb] at d;cases d).trans hb
theorem EW.cell {a:Addr} {v:Value} (h:EW Wk X W E N) (hc:X.cell? a=some v):W.cell? a=some v:=by
 have d:=World.block_lt_of_cell? X a hc;have b:a.block≠Wk.heap.size:=fun e=>by
  obtain ⟨g,j,f⟩:=h.mapX;unfold World.cell? at hc;rw [e,f] at hc;simp at hc
 exact (World.cell?_of_block (h.same _ d b)).trans hc
theorem EW.rd {sz n c:Nat} {A:Option Addr} {xs:List Value} (h:EW Wk X W E N) (hr:Rd X X.heap.size sz A n c xs):Rd W W.heap.size sz A n c xs :=
 ⟨hr.len,hr.cap,hr.capm,hr.nil,fun d=>by
  obtain ⟨b,o,e,hb,f⟩:=hr.at_ d;exact ⟨b,o,e,yaw hb h.size,fun j u g=>h.cell (f j u g)⟩⟩
end
def relsD (ps:List Path) (rs:List RelI) (xs:List (TypA × RelA)):List Ed:=xs.zipIdx.flatMap fun x=>relE ps rs x.1.1.name x.1.2.says x.2
theorem zoe (ps:List Path) (rs:List RelI) (xs:List (TypA × RelA)) (x:TypA × RelA):relsD ps rs (xs ++ [x])=relsD ps rs xs ++ relE ps rs x.1.name x.2.says xs.length:=by
 unfold relsD;rw [ycx,yaZ];simp
def zf8 (ps:List Path) (rs:List RelI) (tn:ByteArray) (r:RelI) (f k:Nat):List Ed:=((r.ops.take k).zipIdx).flatMap fun x=>opsE ps rs tn r f x.2 x.1
theorem zn4 {r:RelI} {f k:Nat} (h:r.ops[k]? = some o):zf8 ps rs tn r f (k + 1)=zf8 ps rs tn r f k ++ opsE ps rs tn r f k o:=by
 have hk:k<r.ops.length:=(yao.1 h).1;unfold zf8;rw [yaC,h,yaR,ycx,yaZ,yaK,ybK (by omega)];simp
theorem zqt {r:RelI} {f:Nat}:zf8 ps rs tn r f r.ops.length=relE ps rs tn r f:=by
 unfold zf8 relE;rw [yaA]
theorem zcu (l:List TypA):(relsA l).map (fun x=>(x.1.says,x.2.says))=zbc (l.map TypA.says):=by
 unfold zbc relsA;induction l with
 | nil=>rfl
 | cons t r ih =>
  rw [yaW,yaS,yaS,yaL,ih];congr 1
  simp [TypA.says]
theorem zjZ (l:List TypA):zbq (l.map TypA.says)=relsD (zaj (relsA l)) ((relsA l).map fun x=>x.2.says) (relsA l):=by
 have b:=(zcu l).symm;unfold zbq relsD;rw [za4,b,ybn,ybn,List.zipIdx_map,List.flatMap_map];rfl
def zkB (n:Nat):List Ed:=(List.range n).flatMap fun (a:Nat)=>(List.range n).flatMap fun (b:Nat)=>[((a:Int),(b:Int),false),((a:Int),(b:Int),true)]
theorem ziv (n:Nat):(zkB n).length=n * (n * 2):=by
 have h:∀(l:List Nat) (k:Nat),(l.map fun _=>k).sum=l.length * k:=fun l k=>by
  induction l with
  | nil=>simp
  | cons a t ih=>rw [yaW,List.sum_cons,ih,yaq,ycb];omega
 unfold zkB;simp only [List.length_flatMap,yaq,yaI,yaG,Nat.reduceAdd,h,List.length_range]
theorem ze2 {α:Type} [DecidableEq α] {L E:List α} (hn:L.Nodup) (h:∀x ∈ L,x ∈ E):L.length≤E.length:=by
 induction L generalizing E with
 | nil=>simp
 | cons a t ih =>
  obtain ⟨d,f⟩:=ybT.1 hn;have:=ih (E:=E.erase a) f fun x b=>(List.mem_erase_of_ne fun (e:x=a)=>d (e ▸ b)).2 (h x (yau _ b));rw [List.length_erase_of_mem (h a yat)] at this;have g:=List.length_pos_of_mem (h a yat);rw [yaq];omega
theorem zkp {xs:List (TypA × RelA)} (h:e ∈ relsD ps rs xs):∃a b:Nat,a<xs.length∧b<ps.length∧e.1=a∧e.2.1=b:=by
 obtain ⟨⟨x,i⟩,d,h⟩:=ybz.1 h;obtain ⟨⟨o,k⟩,n,h⟩:=ybz.1 h;obtain ⟨u,f,rfl⟩:=yaN.1 h;obtain ⟨q,_,g⟩:=List.mem_filterMap.1 f;have j:=(yao.1 (zb0 g)).1;have m:=(yao.1 (List.mem_zipIdx_iff_getElem?.1 d)).1;exact ⟨i,u,m,j,rfl,rfl⟩
theorem zko {n:Nat} {a:Nat} (ha:a<n) (hb:b<n) (h1:e.1=a) (h2:e.2.1=b):e ∈ zkB n:=by
 obtain ⟨f,g,d⟩:=e;simp only at h1 h2;subst h1 h2;refine ybz.2 ⟨a,List.mem_range.2 ha,ybz.2 ⟨b,List.mem_range.2 hb,?_⟩⟩;cases d <;> simp
theorem fits_of {a:Nat} {x:Bool} (ha:a≤600) (hb:b≤600):Fits ((a:Int),(b:Int),x):=⟨znq yab,znq yab⟩
theorem named_lt {subs:List Path}:∀v ∈ zc3 ps rs tn subs o,v<ps.length:=fun v b=>by
 obtain ⟨q,_,d⟩:=List.mem_filterMap.1 b;exact (yao.1 (zb0 d)).1
theorem zqa {subs:List Path} (h1:subs.length≤100000) (h2:∀r ∈ rs,r.subs.length≤100000):(zc3 ps rs tn subs o).length≤100000:=by
 have b:=ycq (zar ps) (zdL ps rs tn subs o);refine yax b ?_;unfold zdL;split
 · exact yax (ybf _ _) h1
 split
 · simp
 split
 · split
   · split
     · rename_i x d
       unfold zbI;rw [yay];exact yax (ybf _ _) (h2 x (yar d))
     · simp
   · simp
 · simp
theorem edges_any {w:World} {R c:Nat} {A:Option Addr} {l:List TypA} (h:SchA w R A c l) (hR:R≤140737488351232) (hl:(relsA l).length≤600) (ho:∀x ∈ relsA l,x.2.subs.length≤100000∧x.2.ops.length≤100000) :
 Calls Tryz.prog 77 #[.agg #[.slice A l.length c]] w fun e w'=>∃A' c' zs,e = .returned (.slice A' zs.length c')∧zhR zs∧(∀e,e ∈ zs↔e ∈ zbq (l.map TypA.says))∧Rd w' w'.heap.size 3 A' zs.length c' (zay zs)∧Below w.heap.size w w':=by
 have ca:=@run_makeMap Tryz.prog;have d6:(l.length:Int)≤9223372036854775807:=by have:=h.rows.cap;have:=h.rows.capm;simp only [maxLen] at this;omega
 have aa:Below w.heap.size w (w.alloc (.cells #[.slice A l.length c] 140)):=(Below.refl _ w).alloc (yaj _) _;have hk:=knownOf_any (h.up aa) hR yab;rw [zjZ];obtain ⟨K,hK⟩:∃K,relsA l=K:=⟨_,rfl⟩;obtain ⟨ps,ab⟩:∃ps,zaj K=ps:=⟨_,rfl⟩;obtain ⟨rs,ao⟩:∃rs:List RelI,K.map (fun x=>x.2.says)=rs:=⟨_,rfl⟩;have cb:ps.length=K.length:=by rw [←ab];simp [zaj]
 rw [hK] at hl ho hk ⊢;rw [ao];simp only [ab] at hk ⊢;go_enter Tryz.func77,Tryz.ntmps77
 have x0:=Bk.new w #[.slice A l.length c] 140;go_upto_region 4 with (go_at_call 121;refine hk.mono ?_;rintro e w1 ⟨⟨A1,c1,b1,rfl,cc,P,Q⟩,C⟩)
 have x1:Bk w1 w.heap.size #[.slice A l.length c] 140:=(C.block _ yaf).trans x0;have b3:=(h.up aa).up C;have af:Below w.heap.size w w1:=aa.trans (C.mono yaf);have ag:Rd w1 w1.heap.size 6 A1 K.length c1 (zdM K):=by
  obtain ⟨A3,c3,e3,cd⟩:=Rd.own P;injection e3 with e3 _ e4
  subst e3 e4;exact cd
 have d7:w.heap.size<w1.heap.size:=by have:=C.size;simp at this;omega
 clear C cc P hk ca aa x0;have b4:=Bk.new w1 #[.slice A1 K.length c1,.map (some b1)] 217;have T:Below w1.heap.size w1 (w1.alloc (.cells #[.slice A1 K.length c1,.map (some b1)] 217)):=(Below.refl _ _).alloc (yaj _) _;have aq:(w1.alloc (.cells #[.slice A1 K.length c1,.map (some b1)] 217)).heap.size=w1.heap.size + 1:=by simp
 have x2:=x1.alloc (.cells #[.slice A1 K.length c1,.map (some b1)] 217);have b5:=b3.up T;have b8:=ag.up T;have ar:=Q.below T;have b9:Below w.heap.size w (w1.alloc (.cells #[.slice A1 K.length c1,.map (some b1)] 217)):=af.trans (T.mono yab);have ce:=b5.each;generalize hw1s:w1.heap.size=kb at *
 generalize w1.alloc (.cells #[.slice A1 K.length c1,.map (some b1)] 217)=H at *
 have cf:EW H (H.alloc (.map #[] 0)) (H.alloc (.map #[] 0)) [] 0:=(EW.mk ((Below.refl _ H).alloc (yaj _) _) (FoundM.made H) (FoundM.made H).isMap (yaj _) fun _ _ _=>rfl);have d8:=(x2.alloc (.map #[] 0)).cell';clear b3 ag Q af x1 x2 T;generalize H.alloc (.map #[] 0)=w0 at *
 have ba:∀r ∈ rs,r.subs.length≤100000:=fun r hr=>by
  rw [←ao] at hr;obtain ⟨x,U,rfl⟩:=yaN.1 hr;exact (ho x U).1
 have ac:∀W,Below H.heap.size H W→MapS W b1 (zaj K):=fun W hW=>by rw [ab];exact ar.below hW
 have bb:∀x ∈ K,x.2.ok H R:=fun x U=>by
  rw [←hK] at U;obtain ⟨t,ht,U⟩:=ybz.1 U;obtain ⟨r,hr,rfl⟩:=yaN.1 U;exact (ce t ht).relz r hr
 go_wp2_with fail
 go_loopw [5,21] (fun vf D wx=>∃i:Nat,D = .int .i64 i∧vf = .int .i64 (relsA (l.take i)).length∧i≤l.length∧EW H w0 wx (relsD ps rs (relsA (l.take i))) ((relsA (l.take i)).length * 10000000000)) (fun _ D _=>l.length-(intOf D).toNat)
 case atStart=>exact ⟨0,rfl,rfl,yap _,cf.more (yap _)⟩
 case round =>
  obtain ⟨i,rfl,rfl,hi,hE⟩:=hrel;by_cases cg:i<l.length
  · have ch:(i:Int)<(l.length:Int):=by omega
    obtain ⟨t,ht⟩:∃t,l[i]? = some t:=⟨_,yal cg⟩;obtain ⟨b,o,rfl,t0,t1,I⟩:=b5.get ht;replace t0:=zah t0 hE.below;replace t1:=zah t1 hE.below;have d9:(t.rels.length:Int)≤9223372036854775807:=by have:=I.rels.cap;have:=I.rels.capm;simp only [maxLen] at this;omega
    have au:=zd7 ht;have bc:=zgn (l:=l) (i + 1);rw [au,yam,yay,hK] at bc;have av:=hE.alloc (.cells #[.string t.name,.slice t.A t.rels.length t.c] 199);have x1:=Bk.new wr #[.string t.name,.slice t.A t.rels.length t.c] 199;go_upto_region 7 with (fail)
    clear t0 t1;generalize hq5:wr.heap.size=q5 at *
    generalize wr.alloc (.cells #[.string t.name,.slice t.A t.rels.length t.c] 199)=w2 at *
    have y0:=x1.cell 0;have y1:=x1.cell 1;obtain ⟨n0,bd⟩:∃n0,(relsA (l.take i)).length=n0:=⟨_,rfl⟩;rw [bd] at bc av ⊢;go_wp2_with fail
    go_loopw [5,28] (fun vf D wx=>∃j f:Nat,D = .int .i64 j∧vf = .int .i64 f∧f=n0 + j∧j≤t.rels.length∧EW H w2 wx (relsD ps rs (relsA (l.take i) ++ (t.rels.take j).map fun r=>(t,r))) (f * 10000000000)) (fun _ D _=>t.rels.length-(intOf D).toNat)
    case atStart=>exact ⟨0,n0,rfl,rfl,rfl,yap _,by simpa using av.base⟩
    case round =>
     obtain ⟨j,f,rfl,rfl,hf,hj,n⟩:=hrel;replace hf:=Lib.hid hf;by_cases ci:j<t.rels.length
     · have cj:(j:Int)<(t.rels.length:Int):=by omega
       obtain ⟨x,U⟩:∃x,t.rels[j]? = some x:=⟨_,yal ci⟩;obtain ⟨g,k',e5,g0,g1,g2,g3,g4,g5,V⟩:=I.get U;replace g0:=zah g0 n.below;replace g1:=zah g1 n.below;replace g2:=zah g2 n.below;replace g3:=zah g3 n.below;replace g4:=zah g4 n.below;replace g5:=zah g5 n.below;have bf:(t,x) ∈ K:=by
        rw [←hK];exact ybz.2 ⟨t,yar ht,yaN.2 ⟨x,yar U,rfl⟩⟩
       obtain ⟨bg,cl⟩:=ho _ bf;have bi:Hid (relsD ps rs (relsA (l.take i) ++ (t.rels.take (j + 1)).map fun r=>(t,r))=relsD ps rs (relsA (l.take i) ++ (t.rels.take j).map fun r=>(t,r)) ++ relE ps rs t.name x.says f):=Lib.hid (by
        rw [yaC,U,yaR,yaL,←yaB];show relsD ps rs (_ ++ [(t,x)])=_;rw [zoe,yam,bd,yay,yaK,ybK yab,←hf.out])
       obtain ⟨E2,ah⟩:∃E2,relsD ps rs (relsA (l.take i) ++ (t.rels.take j).map fun r=>(t,r))=E2:=⟨_,rfl⟩;rw [ah] at bi n;clear ah;have ad:=n.alloc (.cells x.cells.toArray 203);have x7:=Bk.new wr x.cells.toArray 203;have cm:x.cells.toArray=#[.string x.name,.string x.view,.string x.edit,.string x.check,.slice x.As x.subs.length x.cs,.slice x.Ao x.ops.length x.co]:=rfl;rw [cm] at ad x7;rw [e5] at *
       go_upto_region 10 with (fail)
       clear g0 g1 g2 g3 g4 g5 n;generalize hq7:wr.heap.size=J at *
       generalize wr.alloc (.cells #[.string x.name,.string x.view,.string x.edit,.string x.check,.slice x.As x.subs.length x.cs,.slice x.Ao x.ops.length x.co] 203)=w3 at *
       obtain ⟨z0,z1,z2,z3,z4,z5⟩:w3.cell? ⟨J,0,none⟩=some (.string x.name)∧w3.cell? ⟨J,1,none⟩=some (.string x.view)∧w3.cell? ⟨J,2,none⟩=some (.string x.edit)∧w3.cell? ⟨J,3,none⟩=some (.string x.check)∧w3.cell? ⟨J,4,none⟩=some (.slice x.As x.subs.length x.cs)∧w3.cell? ⟨J,5,none⟩=some (.slice x.Ao x.ops.length x.co):=⟨x7.cell 0,x7.cell 1,x7.cell 2,x7.cell 3,x7.cell 4,x7.cell 5⟩;have bj:=behindNotOf_any (V.ops.up ad.below) cl;go_upto_region 11 with (go_at_call 122;refine bj.mono ?_;rintro e w4 ⟨rfl,m0,m1,aw⟩)
       have X:=ad.call aw;have da:=(X).bk x1;have bl:Bk w4 J _ _:=(aw.block _ x7.lt).trans x7;have cn:=bl.cell 5;have db:(x.ops.length:Int)≤9223372036854775807:=by omega
       generalize hq8:w3.heap.size=q8 at *
       clear z0 z1 z2 z3 z4 z5 ad x7 bj aw;simp only [ybU,ybq,ybe] at cn;go_wp2_with fail
       go_loopw [38] (fun D wx=>∃k:Nat,D = .int .i64 k∧k≤x.ops.length∧EW H w4 wx (E2 ++ zf8 ps rs t.name x.says f k) (f * 10000000000 + k * 100000)) (fun D _=>x.ops.length-(intOf D).toNat)
       case atStart=>exact ⟨0,rfl,yap _,by simpa [zf8] using X.base⟩
       case round =>
        obtain ⟨k,rfl,hk,B⟩:=hrel;by_cases bm:k<x.ops.length
        · have cp:(k:Int)<(x.ops.length:Int):=by omega
          obtain ⟨⟨ok,on,ox⟩,ax⟩:∃o,x.ops[k]? = some o:=⟨_,yal bm⟩;obtain ⟨b6,k6,e6,p0,p1,p2,_,bn,bo⟩:=V.op ax;replace p0:=zah p0 B.below;replace p1:=zah p1 B.below;replace p2:=zah p2 B.below;simp only at p0 p1 p2 bn bo;have Y:Hid (zf8 ps rs t.name x.says f (k + 1)=zf8 ps rs t.name x.says f k ++ opsE ps rs t.name x.says f k (ok,on,ox)):=Lib.hid (zn4 ax);obtain ⟨E3,Z⟩:∃E3,E2 ++ zf8 ps rs t.name x.says f k=E3:=⟨_,rfl⟩;have cq:Hid (E2 ++ zf8 ps rs t.name x.says f (k + 1)=E3 ++ opsE ps rs t.name x.says f k (ok,on,ox)):=Lib.hid (by rw [Y.out,←yaB,Z]);rw [Z] at B;clear Z Y;have m:=B.alloc (.cells #[.int .i64 ok,.string on,.string ox] 222);have x9:=Bk.new wr #[.int .i64 ok,.string on,.string ox] 222;rw [e6] at *
          go_upto_region 14 with (fail)
          clear p0 p1 p2 B;generalize hq9:wr.heap.size=q9 at *
          generalize wr.alloc (.cells #[.int .i64 ok,.string on,.string ox] 222)=F at *
          have ai:=(X.join m);have r5:=ai.bk x1;have r7:=m.bk bl;obtain ⟨s0,s1⟩:F.cell? ⟨kb,0,none⟩=some (.slice A1 K.length c1)∧F.cell? ⟨kb,1,none⟩=some (.map (some b1)):=⟨zah (b4.cell 0) m.below,zah (b4.cell 1) m.below⟩;obtain ⟨s2,s3⟩:F.cell? ⟨q5,0,none⟩=some (.string t.name)∧F.cell? ⟨q5,1,none⟩=some (.slice t.A t.rels.length t.c):=⟨r5.cell 0,r5.cell 1⟩;obtain ⟨z0,z1,z2,z3,z4,z5⟩:F.cell? ⟨J,0,none⟩=some (.string x.name)∧F.cell? ⟨J,1,none⟩=some (.string x.view)∧F.cell? ⟨J,2,none⟩=some (.string x.edit)∧F.cell? ⟨J,3,none⟩=some (.string x.check)∧F.cell? ⟨J,4,none⟩=some (.slice x.As x.subs.length x.cs)∧F.cell? ⟨J,5,none⟩=some (.slice x.Ao x.ops.length x.co):=⟨r7.cell 0,r7.cell 1,r7.cell 2,r7.cell 3,r7.cell 4,r7.cell 5⟩;obtain ⟨v0,v1,v2⟩:F.cell? ⟨q9,0,none⟩=some (.int .i64 ok)∧F.cell? ⟨q9,1,none⟩=some (.string on)∧F.cell? ⟨q9,2,none⟩=some (.string ox):=⟨x9.cell 0,x9.cell 1,x9.cell 2⟩;have kn:=named_any (w:=F) (R:=R) (K:=K) (t:=t) (r:=x) (o:=(ok,on,ox)) (b8.up m.below) (ac F m.below) (fun y hy=>(bb y hy).up m.below) (V.up m.below) I.name ⟨bn,bo⟩ hR (fun y hy=>(ho y hy).1) bg;obtain ⟨nm,M⟩:∃nm,zc3 (zaj K) (K.map fun x=>x.2.says) t.name x.subs (ok,on,ox)=nm:=⟨_,rfl⟩;rw [M] at kn;rw [ab,ao] at M;have bp:nm.length≤100000:=by rw [←M];exact zqa bg ba
          have bq:∀v ∈ nm,v<K.length:=fun v hv=>by rw [←cb];exact named_lt v (by rw [M];exact hv)
          have ct:Hid (opsE ps rs t.name x.says f k (ok,on,ox)=nm.map fun u=>((f:Int),((u:Nat):Int),zb7 x.ops k)):=Lib.hid (by rw [←M];rfl);clear M;clear e5 e6 ax U ht bf r5 r7 x9 ai;go_upto_region 15 with (go_at_call 123;refine kn.mono ?_;rintro e w6 ⟨⟨A7,c7,rfl,cu⟩,br⟩)
          have a1:=m.call br;have cw:=a1.bk m0;have cx:=a1.bk m1;have d5:(nm.length:Int)≤9223372036854775807:=by omega
          clear s0 s1 s2 s3 z0 z1 z2 z3 z4 z5 v0 v1 v2 br kn m;go_wp2_with fail
          go_loopw [49] (fun D wx=>∃q:Nat,D = .int .i64 q∧q≤nm.length∧EW H w6 wx (E3 ++ (nm.take q).map fun u=>((f:Int),((u:Nat):Int),zb7 x.ops k)) (f * 10000000000 + k * 100000 + q)) (fun D _=>nm.length-(intOf D).toNat)
          case atStart=>exact ⟨0,rfl,yap _,by simpa using a1.base⟩
          case round =>
           obtain ⟨q,rfl,hq,z⟩:=hrel;by_cases bs:q<nm.length
           · have cz:(q:Int)<(nm.length:Int):=by omega
             obtain ⟨u,hu⟩:∃u,nm[q]? = some u:=⟨_,yal bs⟩;have dc:=bq u (yar hu);obtain ⟨b7,o7,v,rfl,_,hv,cv⟩:=(z.rd cu).get bs;obtain rfl:v = .int .i64 (u:Int):=by
              simp only [ints,ya0,hu,ybE,yaT] at hv;exact hv.symm
             have bu:=zk9 (w:=wr) (z.bk cw) (z.bk cx) bm;have ay:Hid (E3 ++ (nm.take (q + 1)).map (fun u=>((f:Int),((u:Nat):Int),zb7 x.ops k))=(E3 ++ (nm.take q).map fun u=>((f:Int),((u:Nat):Int),zb7 x.ops k)) ++ [((f:Int),((u:Nat):Int),zb7 x.ops k)]):=Lib.hid (by
              rw [yaC,hu,yaR,yaL,←yaB];rfl)
             obtain ⟨E8,aj⟩:∃E8,(E3 ++ (nm.take q).map fun u=>((f:Int),((u:Nat):Int),zb7 x.ops k))=E8:=⟨_,rfl⟩;rw [aj] at ay z;clear aj hv hu;obtain ⟨nn,D0,L,a2,p,N,s⟩:=z.found.out;have a6:f≤600:=by have:=hf.out;omega
             have bw:nn<maxLen:=by
              have h1:f * 10000000000≤600 * 10000000000:=ybo _ a6;have h2:k * 100000≤100000 * 100000:=ybo _ yab;exact ybt (yax a2 (Nat.add_le_add (Nat.add_le_add h1 h2) (yax hq bp))) yac
             have a7:Fits ((f:Int),((u:Nat):Int),zb7 x.ops k):=fits_of a6 yab;have a8:=zi2 a7;have ak:=p.isMap;have al:=Lib.hid z;simp only [ziO,za0] at a8;obtain ⟨bh,ae⟩:∃bh,zb7 x.ops k=bh:=⟨_,rfl⟩;rw [ae] at bu a8 ay a7;rw [aq] at p;have bx:=Lib.hid a2;replace ae:=Lib.hid ae;clear z a2;go_upto_region 18 with (first | (go_at_call 172;refine bu.mono ?_;rintro e w9 ⟨rfl,bz⟩;have h9:=bz.symm;clear bz;subst h9) | (at_mapUpdate;refine wpList_mapUpdate_own _ rfl _ _ _ 219 rfl 207 168 zii Tryz.underlying219 _ (kb + 1) nn _ rfl p bw _ _ _ rfl rfl a8 _ [] unitElem_mk ?_;intro w7 az b0))
             obtain ⟨L',c0,c2⟩:=KeysAre.put (d:=.agg []) ak N a7;rw [←aq] at az b0;have O:=al.out.turn b0 (E':=E8 ++ [((f:Int),((u:Nat):Int),bh)]) (N':=nn + 1) ⟨nn + 1,_,L',yaj _,az,c0,fun y=>by rw [c2 y,s y,yaz,yas]⟩;rw [←ay.out,←ae.out] at O;replace O:=Lib.hid (O.more (N':=f * 10000000000 + k * 100000 + (q + 1)) (by rw [←ya4];exact Nat.succ_le_succ bx.out));clear az b0 al p c0 c2 s N ak;go_wp2_with fail
             exact ⟨⟨q + 1,by go_num,by omega,O.out⟩,by simp [intOf];omega⟩
           · obtain rfl:q=nm.length:=by omega
             have cz:¬(((nm.length:Nat):Int)<(nm.length:Int)):=by omega
             rw [yaA,←ct.out,←cq.out] at z;have hN:f * 10000000000 + k * 100000 + nm.length≤f * 10000000000 + (k + 1) * 100000:=by
              rw [ycb,Nat.one_mul,←ya4];exact Nat.add_le_add_left bp _
             have O:=(a1.join z).more hN;clear hN z a1;go_wp2_with fail
             exact ⟨⟨k + 1,by go_num,by omega,O⟩,by simp [intOf];omega⟩
        · obtain rfl:k=x.ops.length:=by omega
          have cp:¬(((x.ops.length:Nat):Int)<(x.ops.length:Int)):=by omega
          have am:zf8 ps rs t.name x.says f x.ops.length=relE ps rs t.name x.says f:=zqt;rw [am] at B;have c4:x.ops.length * 100000≤10000000000:=by omega
          have b2:f + 1=n0 + (j + 1):=by have:=hf.out;omega
          have hN:f * 10000000000 + x.ops.length * 100000≤(f + 1) * 10000000000:=by
           rw [ycb,Nat.one_mul];exact Nat.add_le_add_left c4 _
          have m:=(X.join B).more hN;rw [←bi.out] at m;have b2:=Lib.hid b2;clear hN c4 am B X;go_wp2_with fail
          refine ⟨⟨j + 1,f + 1,by go_num,by go_num,b2.out,by omega,?_⟩,?_⟩
          · exact m
          · simp [intOf];omega
     · obtain rfl:j=t.rels.length:=by omega
       have cj:¬(((t.rels.length:Nat):Int)<(t.rels.length:Int)):=by omega
       rw [yaA,←au] at n;have an:Hid ((relsA (l.take (i + 1))).length=f):=Lib.hid (by have:=hf.out;rw [au,yam,yay];omega);go_wp2_with fail
       exact ⟨⟨i + 1,by go_num,by rw [an.out],by omega,by rw [an.out];exact av.join n⟩,by simp [intOf];omega⟩
  · obtain rfl:i=l.length:=by omega
    have ch:¬(((l.length:Nat):Int)<(l.length:Int)):=by omega
    rw [yaA,hK] at hE;obtain ⟨nn,D0,L,a2,p,N,s⟩:=hE.found.out;have d0:L.length≤1000000:=by
     have h1:=ze2 (E:=zkB 600) N.nodup fun e he=>by
      obtain ⟨a,b,ha,hb,h1,h2⟩:=zkp ((s e).1 he);exact zko yab yab h1 h2
     rw [ziv] at h1;omega
    have kk:=keys_any (some (kb + 1)) wr;have c5:Below w.heap.size w (wr.alloc (.cells #[.map (some (kb + 1))] 219)):=(b9.trans (hE.below.mono yab)).alloc (by have:=hE.below.size;omega) _;have c6:=(Bk.new wr #[.map (some (kb + 1))] 219).cell';have G:=p.alloc (.cells #[.map (some (kb + 1))] 219);rw [aq] at G;have ks:=sortedFunc_any N d0 wr.heap.size (kb + 1) nn _ c6 G;have s:=Lib.hid s;clear N p hE G c6 a2;go_wp2_with (first | (go_at_call 125;refine kk.mono ?_;rintro e w8 ⟨rfl,d1⟩;subst d1) | (go_at_call 124;refine ks.mono ?_;rintro e w9 ⟨A9,c9,zs,rfl,c8,d2,d3,d4⟩))
    go_ret
    rw [←c8.length_eq] at *
    exact ⟨_,_,zs,rfl,d2,fun e=>(c8.mem_iff).trans (s.out e),d3,c5.trans (d4.mono c5.size)⟩
end
end Go.Proofs.YtmblgnddgmfkhaaGreat
