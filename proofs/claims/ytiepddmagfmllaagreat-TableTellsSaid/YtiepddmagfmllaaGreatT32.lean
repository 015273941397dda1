import Derived.Test.YtiepddmagfmllaaGreatT30
import Derived.Test.YtiepddmagfmllaaGreatT31
set_option maxRecDepth 100000
set_option maxHeartbeats 4000000
namespace Go.Proofs.YtiepddmagfmllaaGreat
open Go.RowKit
theorem ziR:∀(f:Nat) (acc:List zb7) (q:St),zbr (zir f acc q).2≤zbr q
 | 0,acc,q=>by unfold zir;exact zdK
 | f + 1,acc,q=>by
  unfold zir;have a:=@za8 q;have b:=@ze6 (zaF q).2;have c:=@za8 (upU (zaF q).2);by_cases h:isU (sg 35) (zaF q).2=true
  · simp only [zd2,if_pos h];split
    · refine Nat.le_trans (ziR f _ _) ?_;have:=@ze6 (zaF (upU (zaF q).2)).2;omega
    · show zbr (zaF (upU (zaF q).2)).2≤_;omega
  · simp only [zd2,if_neg h];split
    · refine Nat.le_trans (ziR f _ _) ?_;omega
    · exact a
theorem len_rew {f d:Nat} {q:St}:zbr (zjb f d q).2≤zbr q:=by
 have a:=((zbV f).1 d q).2;have b:=((zbV f).2 d (partU f d q).1 (partU f d q).2).2;show zbr (moreU f d (partU f d q).1 (partU f d q).2).2≤_;omega
theorem len_tail (f:Nat) (n v e c:ByteArray) (q:St):zbr (zkY f n v e c q).2≤zbr q:=by
 show zbr (zaC (sg 59) (if isU sIs (if zgf q && !isU sIs q && !isU (sg 59) q then zir f [] q else ([],q)).2=true then zjb f 0 (upU (if zgf q && !isU sIs q && !isU (sg 59) q then zir f [] q else ([],q)).2) else ([(1,⟨#[]⟩,⟨#[]⟩)],(if zgf q && !isU sIs q && !isU (sg 59) q then zir f [] q else ([],q)).2)).2)≤_;refine Nat.le_trans zbi ?_;have h1:zbr (if zgf q && !isU sIs q && !isU (sg 59) q then zir f [] q else ([],q)).2≤zbr q:=by
  split
  · exact ziR f _ _
  · exact Nat.le_refl _
 generalize (if zgf q && !isU sIs q && !isU (sg 59) q then zir f [] q else ([],q)).2=m at *
 split
 · refine Nat.le_trans len_rew ?_;have:=@ze6 m;omega
 · exact h1
theorem len_rel {f:Nat} {q:St}:zbr (zk4 f q).2≤zbr q:=by
 have a1:=@za8 q;have a2:=@zbi (sg 40) (zaF q).2;generalize hv:zaF (zaC (sg 40) (zaF q).2)=nv;have a3:=@za8 (zaC (sg 40) (zaF q).2);rw [hv] at a3;have a4:=@zbi (sg 44) nv.2;generalize he:zaF (zaC (sg 44) nv.2)=ne;have a5:=@za8 (zaC (sg 44) nv.2);rw [he] at a5;have a6:=@zbi (sg 44) ne.2;generalize hc:zaF (zaC (sg 44) ne.2)=nc;have a7:=@za8 (zaC (sg 44) ne.2);rw [hc] at a7;have a8:=@zbi (sg 41) nc.2;have a9:=@zbi (sg 58) (zaC (sg 41) nc.2);have h:zk4 f q=zkY f (zaF q).1 nv.1 ne.1 nc.1 (zaC (sg 58) (zaC (sg 41) nc.2)):=by
  unfold zk4;simp only [zd2,hv,he,hc];rfl
 rw [h];have:=len_tail f (zaF q).1 nv.1 ne.1 nc.1 (zaC (sg 58) (zaC (sg 41) nc.2));omega
def zkf (o:List TypP × Nat × Nat) (w:World) (e:Ending) (w':World):Prop :=
 ∃v,e = .returned (.tuple #[v,.int .i64 o.2.1,.int .i64 o.2.2])∧NDVTyps w.heap.size w' v o.1∧Below w.heap.size w w'
theorem zbp (B:Nat) (w:World):NDVTyps B w (.slice none 0 0) []:=⟨[],World.ownsRow_nil _ _ _ _,rfl⟩
theorem rparse_any (s:ByteArray) (w:World) (f0:s.size≤maxLen):Calls Tryz.prog 30 #[.string s] w (zkf (zaf s) w):=by
 have ka:=rall_any s w f0;unfold AllPost at ka;by_cases h0:(zbP s).2.1=0
 · have hp:zaf s=zgk (zbO (2 * (zbP s).1.length + 2) (2 * (zbP s).1.length + 2) [] (.ok (zbP s).1)):=by unfold zaf;rw [if_pos h0];exact zii
   have hf:=zji (zfi h0) h0;rw [hp];rw [h0] at ka;clear h0 hp f0;generalize (zbP s).1=T at *
   generalize (zbP s).2.2=p0 at *
   have hT:=hf.1;obtain ⟨F,hF⟩:∃F,2 * T.length + 2=F:=⟨_,rfl⟩;rw [hF];obtain ⟨R,hR⟩:∃R,zbO F F [] (.ok T)=R:=⟨_,rfl⟩;rw [hR];go_enter Tryz.func30,Tryz.ntmps30
   go_wp2_with fail
   refine ka.mono ?_;rintro e W1 ⟨⟨A,c,rfl,ht⟩,hB⟩;clear ka;go_wp2_with fail
   have hS:PSt (W1.alloc (.cells #[.slice A T.length c,.int .i64 0,.int .i64 0,.int .i64 0] 156)) W1.heap.size (.ok T) :=
    ⟨A,c,T,0,0,0,⟨Bk.new W1 _ _,Rd.below ht ((Below.refl _ W1).alloc (Nat.le_refl _) _),hf,hT⟩,rfl,rfl⟩
   have hK:Kp W1.heap.size w.heap.size w (W1.alloc (.cells #[.slice A T.length c,.int .i64 0,.int .i64 0,.int .i64 0] 156)):=Kp.of_below (hB.alloc hB.size _) _;have hgB:w.heap.size≤W1.heap.size:=hB.size;clear ht hB;generalize W1.alloc (.cells #[.slice A T.length c,.int .i64 0,.int .i64 0,.int .i64 0] 156)=W2 at *
   generalize W1.heap.size=g at *
   go_loopw [9] (fun vo wr=>∃acc q n,PSt wr g q∧Kp g w.heap.size w wr∧NDVTyps (g + 1) wr vo acc∧zbr q<n∧zbO F n acc q=R∧acc.length + zbr q≤1000000∧zbr q<F) (fun _ wr=>zff wr g)
   case atStart=>exact ⟨[],.ok T,F,hS,hK,zbp _ _,(show T.length<F by omega),hR,(by show 0 + T.length≤_;omega),(show T.length<F by omega)⟩
   case round =>
    clear hS hK hR;obtain ⟨acc,q,n,hS,hK,hv,hn,hM,hl,hlF⟩:=hrel;obtain ⟨n,rfl⟩:∃m,n=m + 1:=⟨n-1,by omega⟩;unfold zbO at hM;have hlf:=hS.left;have k:=ris_any hS zcr;obtain ⟨xs,hv1,hv2⟩:=hv;obtain ⟨Ao,co,rfl,_⟩:=Rd.own hv1;cases hi:isU zcr q with
    | true =>
     rw [hi] at k;rw [if_pos hi] at hM;go_wp2_with fail
     refine k.mono ?_;rintro e X0 ⟨rfl,hx⟩;obtain ⟨l,rfl,he⟩:=zcN hi;have hl1:=zfO (show 0<zcr.size by decide) hi;replace hS:=hS.below hx;replace hv1:=zag hv1 hx;replace hv2:=hv2.keep (zbY hx);replace hK:=hK.trans ((Kp.of_below hx g).more hK.size);clear k hx;obtain ⟨A2,c2,T2,i,e,p,hP,rfl,rfl⟩:=hS;have hf2:=hP.fine.next (show 0<zcr.size by decide) he;obtain ⟨_,_,_,hiT,_⟩:=hP.get;have hmT:=hP.few;have u1:X0.cell? ⟨g,1,none⟩=some (.int .i64 i):=hP.cells.cell 1;have z1:=hP.cells.fz 1;have lt1:=hP.cells.lt;go_wp2_with fail
     have hS:=hP.up hf2;replace hK:=hK.trans (zdu g w.heap.size X0 1 (.int .i64 ((i:Int) + 1)));replace hv2:=hv2.keep (zdk (a:=⟨g,1,none⟩) (show g<g + 1 by omega) (.int .i64 ((i:Int) + 1)));replace hv1:=zai (a:=⟨g,1,none⟩) hv1 (show g<g + 1 by omega) (.int .i64 ((i:Int) + 1));clear hP u1 z1 lt1;generalize X0.setCell ⟨g,1,none⟩ (.int .i64 ((i:Int) + 1))=X1 at *
     generalize hq1:upU (.ok (T2.drop i))=q1 at *
     obtain ⟨na,hna⟩:∃r,zaF q1=r:=⟨_,rfl⟩;have hl2:=@za8 q1;rw [hna] at hl2;refine (pname_any hS).mono ?_;rw [hna];rintro e X2 ⟨hk,⟨v,rfl,hvs⟩,hS2⟩;obtain rfl:v = .string na.1:=hvs;replace hv1:=zaM hv1 hk (by omega);replace hv2:=hv2.keep (zfw hk (by omega));replace hK:=hK.trans (hk.more hK.size);clear hS hk;go_wp2_with fail
     have hgX:=hS2.size;have hBT:w.heap.size≤X2.heap.size:=hK.size;have hb:=Bk.new X2 #[.string na.1,.slice none 0 0] 93;have hS:=hS2.alloc (.cells #[.string na.1,.slice none 0 0] 93);have hX:Kp g X2.heap.size X2 (X2.alloc (.cells #[.string na.1,.slice none 0 0] 93)):=(Kp.refl g X2.heap.size X2).alloc (Nat.le_refl _) _;clear hS2;obtain ⟨BT,hBTe⟩:∃b,X2.heap.size=b:=⟨_,rfl⟩;rw [hBTe] at hgX hBT hb hX ⊢;generalize X2.alloc (.cells #[.string na.1,.slice none 0 0] 93)=X3 at *
     refine (rneed_any hS (zam 123)).mono ?_;rintro e X4 ⟨hk,⟨v,rfl,rfl⟩,hS2⟩;have hl3:=@zbi (sg 123) na.2;replace hX:=hX.trans (hk.more (by have:=hX.size;omega));replace hb:=hb.kp hk (by omega);clear hS hk;obtain ⟨q2,hq2⟩:∃r,zaC (sg 123) na.2=r:=⟨_,rfl⟩;rw [hq2] at hS2 hl3;obtain ⟨R2,hR2⟩:∃r,zd5 F F [] q2=r:=⟨_,rfl⟩;have hM2:zbO F n (acc ++ [⟨na.1,R2.1⟩]) (zaC (sg 125) R2.2)=R:=by
      rw [←hM];simp only [zd2,hna,hq2,hR2]
     have HM:=Lib.hid hM2;clear hM hM2 hna hq2 hi he hq1;have hS:=hS2;clear hS2;go_wp2_with fail
     go_loopw [] (fun wx=>∃acc2 q3 vr n2,Bk wx BT #[.string na.1,vr] 93∧NDVRels (BT + 1) wx vr acc2∧PSt wx g q3∧Kp g BT X2 wx∧zbr q3<n2∧zd5 F n2 acc2 q3=R2∧acc2.length + zbr q3≤1000000∧zbr q3≤zbr q2) (fun wx=>zff wx g)
     case atStart=>exact ⟨[],q2,_,F,hb,⟨[],World.ownsRow_nil _ _ _ _,rfl⟩,hS,hX,by omega,hR2,by have:=hS.few;simp only [List.length_nil];omega,Nat.le_refl _⟩
     case round =>
      clear hb hS hX hR2;obtain ⟨acc2,q3,vr,n2,hb,hvr,hS,hX,hn2,hM2,hl4,hl5⟩:=hrel;obtain ⟨n2,rfl⟩:∃m,n2=m + 1:=⟨n2-1,by omega⟩;unfold zd5 at hM2;have hlf2:=hS.left;have k:=ris_any hS zgd;obtain ⟨ys,hr1,hr2⟩:=hvr;obtain ⟨Ar,cr,rfl,_⟩:=Rd.own hr1;cases hi:isU zgd q3 with
      | true =>
       rw [hi] at k;rw [if_pos hi] at hM2;go_wp2_with fail
       refine k.mono ?_;rintro e Y0 ⟨rfl,hx⟩;clear HM;obtain ⟨l3,rfl,he⟩:=zcN hi;have hl6:=zfO (show 0<zgd.size by decide) hi;replace hS:=hS.below hx;replace hr1:=zag hr1 hx;replace hr2:=hr2.keep ⟨fun _ _ _ h=>zag h hx,fun _ _ _ h=>zag h hx⟩;replace hb:=hb.below hx;have hXz:BT≤wr.heap.size:=by have:=hX.size;omega
       replace hX:=hX.trans ((Kp.of_below hx g).more hXz);clear k hx hXz;obtain ⟨A3,c3,T3,i3,e3,p3,hP,rfl,rfl⟩:=hS;have hf3:=hP.fine.next (show 0<zgd.size by decide) he;obtain ⟨_,_,_,hiT3,_⟩:=hP.get;have hmT3:=hP.few;have u1:Y0.cell? ⟨g,1,none⟩=some (.int .i64 i3):=hP.cells.cell 1;have z1:=hP.cells.fz 1;have lt1:=hP.cells.lt;go_wp2_with fail
       have hS:=(hP.up hf3).drew;replace hX:=(hX.trans (zdu g BT Y0 1 (.int .i64 ((i3:Int) + 1)))).drew;replace hb:Bk _ BT #[.string na.1,.slice Ar acc2.length cr] 93:=hb.other (a:=⟨g,1,none⟩) (by dsimp only;omega) (.int .i64 ((i3:Int) + 1));replace hr2:=(hr2.keep (zdY (a:=⟨g,1,none⟩) (show g<BT + 1 by omega) (.int .i64 ((i3:Int) + 1)))).keep (zhD _ (BT + 1));replace hr1:=zbJ (zai (a:=⟨g,1,none⟩) hr1 (show g<BT + 1 by omega) (.int .i64 ((i3:Int) + 1)));replace hb:Bk (Y0.setCell ⟨g,1,none⟩ (.int .i64 ((i3:Int) + 1))).drew BT #[.string na.1,.slice Ar acc2.length cr] 93:=hb;clear hP u1 z1 lt1;refine wp_region_any (by kernel_rfl) ?_;change wpAny _ _ _ _ _ _ _ (World.drew _);generalize (Y0.setCell ⟨g,1,none⟩ (.int .i64 ((i3:Int) + 1))).drew=W6 at *
       generalize hq4:upU (.ok (T3.drop i3))=q4 at *
       refine zc4 0 (some 47) (v:=?v0) rfl rfl (by kernel_rfl) (by kernel_rfl) (by kernel_rfl) (fun _ _ _ h=>h) (by rfl) ?y0 ?r0;case y0=>(intro w;go_simp;try with_reducible rfl)
       simp only [Act.put,List.setIfInBounds_toArray,List.set_cons_zero,List.set_cons_succ];refine zc4 2 (some 49) (v:=?v2) rfl rfl (by kernel_rfl) (by kernel_rfl) (by kernel_rfl) (fun _ _ _ h=>h) (by rfl) ?y2 ?r2;case y2=>(intro w;go_simp;try with_reducible rfl)
       simp only [Act.put,List.setIfInBounds_toArray,List.set_cons_zero,List.set_cons_succ];refine zhs 1 3 4 (some 48) (fun W=>W.cell? ⟨BT,1,none⟩=some (.slice Ar acc2.length cr)) (v:=?v1) rfl rfl rfl rfl (by kernel_rfl) (by kernel_rfl) (by kernel_rfl) (by decide) (by decide) (by decide) (by kernel_rfl) (by kernel_rfl) (by kernel_rfl) (by kernel_rfl) (by kernel_rfl) (by kernel_rfl) (by kernel_rfl) (by kernel_rfl) (by kernel_rfl) (by kernel_rfl) (fun _ _ _ h=>h) (by rfl) ?y1 (hb.cell 1) ?r1;case y1=>(intro w hS;(try dsimp only at hS);go_simp;try with_reducible rfl)
       simp only [Act.put,List.setIfInBounds_toArray,List.set_cons_zero,List.set_cons_succ];intro K hK';go_simp;obtain ⟨xr,hxr⟩:∃r,zk4 F q4=r:=⟨_,rfl⟩;have hl8:zbr xr.2≤zbr q4:=by rw [←hxr];exact len_rel
       refine (rrel_any (f:=F) hS (by omega)).mono ?_;rw [hxr];rintro e W7 ⟨hk,⟨v,rfl,vs,vo,rfl,hs1,hs2⟩,hS7⟩;have hlt:=hb.lt;have hM3:zd5 F n2 (acc2 ++ [xr.1]) xr.2=R2:=by rw [←hM2];simp only [zd2,hxr]
       clear hM2 hxr hi he hq4;replace hX:=hX.trans (hk.more (by have:=hX.size;omega));replace hb:=hb.kp hk (by omega);replace hr2:=hr2.keep (zeE hk (by omega));replace hr1:=zaM hr1 hk (by omega);have hs1':NDVSubs (BT + 1) W7 vs xr.1.subs:=zav hs1 (by omega);have hs2':NDVOps (BT + 1) W7 vo xr.1.ops:=zav hs2 (by omega);obtain ⟨As,cS,rfl,_⟩:=Rd.own hs1';obtain ⟨Ap,cP,rfl,_⟩:=Rd.own hs2';clear hs1 hs2 hk hS;refine hK' _ _ (hb.cell 1) ?_;clear hK' K;refine wpOp_step rfl fun K2 hK2=>?_;go_simp;refine hK2 _ _ ⟨zar (hb.cell 1) _,?_⟩;clear hK2 K2;have hz7:BT + 1≤W7.heap.size:=hb.lt;obtain ⟨i0,hi0,hz0,hz1,hz2⟩:=info_parts zkd;refine wpAny_ready (rs:=[5]) (by kernel_rfl) (by simp) ?_;refine AllReady.cons rfl (fun K hK'=>?_) AllReady.nil;rw [if_pos (by rfl)];refine zbI _ (some 52) rfl (.tmp 48) (.tmp 51) 91 91 rfl (BT + 1) 48 i0 (.agg #[.string .empty,.string .empty,.string .empty,.string .empty,.slice none 0 0,.slice none 0 0]) 6 112 Tryz.underlying91 hi0 hz0 hz1 hz2 rfl (by decide) (.slice Ar acc2.length cr) acc2.length ys rfl (World.ownsRow.alloc hr1 _) _ 1 [.string xr.1.name,.string xr.1.view,.string xr.1.edit,.string xr.1.check,.slice As xr.1.subs.length cS,.slice Ap xr.1.ops.length cP] rfl (Src.ofSlice _ Tryz.underlying91 _ 1 1 _ rfl (zeH _ _ _ _ _ _ _ _) (zf3 _ _ _ _ _ _ _ _ _ _)) (by simp only [maxLen];omega) (by omega) (size_alloc hz7) ?_;intro v8 W8 hown8 hg8;refine hK' _ _ ?_;clear hK' K;simp only [Act.put,List.setIfInBounds_toArray,List.set_cons_zero,List.set_cons_succ]
       have hS8:=hS7.grown (v:=.slice Ar acc2.length cr) hg8 hr1 (by omega);have hX8:=za7 (v:=.slice Ar acc2.length cr) hX hg8 hr1 (by omega) (by omega);have hb8:=hb.grown (v:=.slice Ar acc2.length cr) hg8 hr1 (by omega);have hkp:=zea (B:=BT + 1) (u:=.slice Ar acc2.length cr) hr1 (by decide) (by decide) hg8;have hr8:=NDRelsC.snoc (y:=xr.1) ⟨_,_,rfl,hkp.1 _ _ _ hs1',hkp.2 _ _ _ hs2'⟩ (hr2.keep hkp);clear hg8 hkp hr2 hr1 hs1' hs2' hb hX hS7;obtain ⟨A8,c8,rfl,_⟩:=Rd.own hown8;refine zc4 6 (some 53) (v:=?v6) rfl rfl (by kernel_rfl) (by kernel_rfl) (by kernel_rfl) (fun _ _ _ h=>h) (by rfl) ?y6 ?r6;case y6=>(intro w;go_simp;try with_reducible rfl)
       simp only [Act.put,List.setIfInBounds_toArray,List.set_cons_zero,List.set_cons_succ];obtain ⟨x0,x1⟩:=hb8.c2;have fx:=hb8.fz;refine wpAny_ready (rs:=[7]) (by kernel_rfl) (by simp) ?_;refine AllReady.cons rfl (fun K hK'=>?_) AllReady.nil;go_simp;refine hK' _ _ ?_;clear hK' K;refine wpAny_done (by kernel_rfl) ?_ _;have hS9:=hS8.set (a:=⟨BT,1,none⟩) (show g<BT by omega) (.slice A8 (acc2.length + 1) c8);have hX9:=hX8.set (a:=⟨BT,1,none⟩) (show BT≤BT by omega) (.slice A8 (acc2.length + 1) c8);have hb9:Bk _ BT #[.string na.1,.slice A8 (acc2.length + 1) c8] 93:=hb8.set 1 (.slice A8 (acc2.length + 1) c8);have hr9:=hr8.keep (zdY (a:=⟨BT,1,none⟩) (show BT<BT + 1 by omega) (.slice A8 (acc2.length + 1) c8));have ho9:=zai (a:=⟨BT,1,none⟩) hown8 (show BT<BT + 1 by omega) (.slice A8 (acc2.length + 1) c8);clear hS8 hX8 hb8 hr8 hown8 x0 x1 fx;generalize W8.setCell ⟨BT,1,none⟩ (.slice A8 (acc2.length + 1) c8)=W9 at *
       go_wp2_with fail
       refine ⟨⟨acc2 ++ [xr.1],xr.2,_,n2,hb9,⟨_,?_,hr9⟩,hS9,hX9,by omega,hM3,?_,by omega⟩,?_⟩
       · rw [List.length_append];exact ho9
       · rw [List.length_append,List.length_singleton];omega
       · rw [hS9.left,hlf2];omega
      | false =>
       rw [hi] at k;rw [if_neg (by rw [hi];decide)] at hM2;subst hM2;have hM3:zbO F n (acc ++ [⟨na.1,acc2⟩]) (zaC (sg 125) q3)=R:=HM.out;go_wp2_with fail
       refine k.mono ?_;rintro e Y0 ⟨rfl,hx⟩;replace hS:=hS.below hx;replace hr1:=zag hr1 hx;replace hr2:=hr2.keep ⟨fun _ _ _ h=>zag h hx,fun _ _ _ h=>zag h hx⟩;replace hb:=hb.below hx;have hXz:BT≤wr.heap.size:=by have:=hX.size;omega
       replace hX:=hX.trans ((Kp.of_below hx g).more hXz);clear k hx hXz HM hi;go_wp2_with fail
       refine (rneed_any hS (zam 125)).mono ?_;rintro e Y1 ⟨hk,⟨v,rfl,rfl⟩,hS2⟩;have hl7:=@zbi (sg 125) q3;replace hb:=hb.kp hk (by omega);replace hr1:=zaM hr1 hk (by omega);replace hr2:=hr2.keep (zeE hk (by omega));replace hX:=hX.trans (hk.more (by have:=hX.size;omega));clear hS hk;have hX':Kp g X2.heap.size X2 Y1:=by rw [hBTe];exact hX
       replace hv1:=zaM hv1 hX' (by omega);replace hv2:=hv2.keep (zfw hX' (by omega));replace hK:=hK.trans (hX.more hBT);have b0:Y1.cell? ⟨BT,0,none⟩=some (.string na.1):=hb.cell 0;have b1:Y1.cell? ⟨BT,1,none⟩=some (.slice Ar acc2.length cr):=hb.cell 1;have lb:=hb.lt;have hgz:g + 1≤Y1.heap.size:=by omega
       obtain ⟨i0,hi0,hz0,hz1,hz2⟩:=info_parts zke;have hlT:T2.length≤1000000:=hmT;have hacc:acc.length + 1≤1000001:=by omega
       go_wp2_with (at_builtin;refine zab _ rfl (.tmp 56) (.tmp 58) 31 31 rfl (g + 1) 93 i0 (.agg #[.string .empty,.slice none 0 0]) 2 40 Tryz.underlying31 hi0 hz0 hz1 hz2 rfl (by decide) _ acc.length xs rfl (World.ownsRow.alloc hv1 _) _ 1 [.string na.1,.slice Ar acc2.length cr] rfl (Src.ofSlice _ Tryz.underlying31 _ 1 1 _ rfl (zbo _ _ _ _) (ziy _ _ _ _)) (by simp only [maxLen];omega) (by omega) (size_alloc hgz) ?_;intro v8 W8 hown8 hg8 hat8;obtain ⟨A8,c8,rfl,_⟩:=Rd.own hown8)
       have hS8:=hS2.grown (v:=.slice Ao acc.length co) hg8 hv1 (by omega);have hK8:=za7 (v:=.slice Ao acc.length co) hK hg8 hv1 hK.size (by omega);have hkp:=zge (B:=g + 1) (u:=.slice Ao acc.length co) hv1 (by decide) (by decide) (by decide) hg8;have hvr8:NDVRels (g + 1) W8 (.slice Ar acc2.length cr) acc2:=NDVRels.keep hkp (NDVRels.base (show g + 1≤BT + 1 by omega) ⟨ys,hr1,hr2⟩);have hv8:=NDTypsC.snoc (y:=⟨na.1,acc2⟩) ⟨_,rfl,hvr8⟩ (hv2.keep hkp);refine ⟨⟨acc ++ [⟨na.1,acc2⟩],zaC (sg 125) q3,n,hS8,hK8,⟨_,?_,hv8⟩,by omega,hM3,?_,by omega⟩,?_⟩
       · rw [List.length_append];exact hown8
       · rw [List.length_append,List.length_singleton];omega
       · rw [hS8.left,hlf];omega
    | false =>
     rw [hi] at k;rw [if_neg (by rw [hi];decide)] at hM;subst hM;go_wp2_with fail
     refine k.mono ?_;rintro e X0 ⟨rfl,hx⟩;replace hS:=hS.below hx;replace hv1:=zag hv1 hx;replace hv2:=hv2.keep (zbY hx);replace hK:=hK.trans ((Kp.of_below hx g).more hK.size);clear k hx hi;have hq:=hS;obtain ⟨A2,c2,T2,i,e,p,hP,hs⟩:=hS;obtain ⟨b,o,rfl,hiT,hbg,s0,_,_⟩:=hP.get;have hmT:=hP.few;have u0:X0.cell? ⟨g,0,none⟩=some (.slice (some ⟨b,o,none⟩) T2.length c2):=hP.cells.cell 0;have u1:X0.cell? ⟨g,1,none⟩=some (.int .i64 i):=hP.cells.cell 1;have hi2:(i:Int)<(T2.length:Nat):=by omega
     go_wp2
     go_quiet (fail)
     have hbq:Below X0.heap.size X0 (X0.drewN nq):=⟨rfl,rfl,rfl,Nat.le_refl _,fun _ _=>rfl⟩;replace hq:=hq.below hbq;replace hP:=hP.below hbq;replace hv1:=zag hv1 hbq;replace hv2:=hv2.keep (zbY hbq);replace hK:=hK.trans ((Kp.of_below hbq g).more hK.size);clear hbq s0 u0 u1;generalize X0.drewN nq=X1 at *
     have u2:X1.cell? ⟨g,2,none⟩=some (.int .i64 e):=hP.cells.cell 2;have u3:X1.cell? ⟨g,3,none⟩=some (.int .i64 p):=hP.cells.cell 3;obtain ⟨kk,hkk⟩:∃k,(hdT (T2.drop i)).1=k:=⟨_,rfl⟩;rw [hkk];cases q with
     | error x =>
      obtain ⟨rfl,hx,rfl⟩:=hs;have d0:(((x.1:Nat):Int) == 0)=false:=by rw [beq_eq_false_iff_ne];omega
      have HR:Hid (zgk (acc,.error x)=([],x)):=Lib.hid rfl;by_cases h3:kk=3
      · subst h3;go_wp2
        go_quiet (fail)
        have hbq:Below X1.heap.size X1 (X1.drewN nq):=⟨rfl,rfl,rfl,Nat.le_refl _,fun _ _=>rfl⟩;go_wp2_with fail
        go_returns
        unfold zkf;rw [HR.out];exact ⟨_,rfl,zbp _ _,(hK.trans ((Kp.of_below hbq g).more hK.size)).belowG hgB⟩
      · have d3:(((kk:Nat):Int) == 3)=false:=by rw [beq_eq_false_iff_ne];omega
        go_wp2_with fail
        refine (zhq hq).mono ?_;rintro e5 X2 ⟨hk,⟨v,rfl,hvu⟩,hS2⟩;obtain rfl:=hvu;have hK2:=hK.trans (hk.more hK.size);clear hk hq hP u2 u3;obtain ⟨A5,c5,T5,i5,e5,p5,hP,hs5⟩:=hS2;obtain ⟨rfl,hx5,rfl⟩:=hs5;have u2:X2.cell? ⟨g,2,none⟩=some (.int .i64 _):=hP.cells.cell 2;have u3:X2.cell? ⟨g,3,none⟩=some (.int .i64 _):=hP.cells.cell 3;go_wp2
        go_quiet (fail)
        have hbq:Below X2.heap.size X2 (X2.drewN nq):=⟨rfl,rfl,rfl,Nat.le_refl _,fun _ _=>rfl⟩;go_wp2_with fail
        go_returns
        unfold zkf;rw [HR.out];exact ⟨_,rfl,zbp _ _,(hK2.trans ((Kp.of_below hbq g).more hK2.size)).belowG hgB⟩
     | ok l =>
      obtain ⟨rfl,rfl⟩:=hs;by_cases h3:kk=3
      · subst h3;have hR:zgk (acc,.ok (T2.drop i))=(acc,0,0):=by unfold zgk endU;dsimp only;rw [if_pos hkk]
        have HR:=Lib.hid hR;clear hR;go_wp2_with fail
        go_returns
        unfold zkf;rw [HR.out];exact ⟨_,rfl,⟨xs,zav hv1 (by omega),NDTypsC.base (show w.heap.size≤g + 1 by omega) hv2⟩,hK.belowG hgB⟩
      · have d3:(((kk:Nat):Int) == 3)=false:=by rw [beq_eq_false_iff_ne];omega
        have hR:zgk (acc,.ok (T2.drop i))=([],30,(hdT (T2.drop i)).2.2):=by unfold zgk endU;dsimp only;rw [if_neg (by rw [hkk];exact h3)];rfl
        have HR:=Lib.hid hR;clear hR;go_wp2_with fail
        refine (zhq hq).mono ?_;rintro e5 X2 ⟨hk,⟨v,rfl,hvu⟩,hS2⟩;obtain rfl:=hvu;have hK2:=hK.trans (hk.more hK.size);clear hk hq hP u2 u3;obtain ⟨A5,c5,T5,i5,e5,p5,hP,hs5⟩:=hS2;obtain ⟨rfl,hx5,rfl⟩:=hs5;have u2:X2.cell? ⟨g,2,none⟩=some (.int .i64 _):=hP.cells.cell 2;have u3:X2.cell? ⟨g,3,none⟩=some (.int .i64 _):=hP.cells.cell 3;go_wp2
        go_quiet (fail)
        have hbq:Below X2.heap.size X2 (X2.drewN nq):=⟨rfl,rfl,rfl,Nat.le_refl _,fun _ _=>rfl⟩;go_wp2_with fail
        go_returns
        unfold zkf;rw [HR.out];exact ⟨_,rfl,zbp _ _,(hK2.trans ((Kp.of_below hbq g).more hK2.size)).belowG hgB⟩
 · have hp:zaf s=([],(zbP s).2):=by unfold zaf;rw [if_neg h0]
   rw [hp];have d0:((((zbP s).2.1:Nat):Int) == 0)=false:=by rw [beq_eq_false_iff_ne];omega
   clear h0 hp f0;generalize (zbP s).2=q at *
   generalize (zbP s).1=l at *
   go_enter Tryz.func30,Tryz.ntmps30
   go_wp2_with fail
   refine ka.mono ?_;rintro e W1 ⟨⟨A,c,rfl,ht⟩,hbw⟩;go_wp2_with fail
   go_returns
   exact ⟨_,rfl,zbp _ _,hbw⟩
theorem type9_any {w:World} {R:Nat} {A:Option Addr} {c:Nat} {l:List TypA} (h:SchA w R A c l) (n:ByteArray) :
 Calls Tryz.prog 12 #[.slice A l.length c,.string n] w fun e w'=>(∃z:Int,e = .returned (.int .i64 z)∧AtZ (fun t:TypA=>decide (t.name=n)) l z)∧Below w.heap.size w w':=by
 have hl:(l.length:Int)≤9223372036854775807:=by have:=h.rows.cap;have:=h.rows.capm;simp only [maxLen] at this;omega
 go_enter Tryz.func12,Tryz.ntmps12
 go_wp2_with fail
 go_loopw [5] (fun vi wx=>∃i:Nat,vi = .int .i64 i∧i≤l.length∧(∀t ∈ l.take i,decide (t.name=n)=false)∧Below w.heap.size w wx) (fun vi _=>l.length-(intOf vi).toNat)
 case atStart=>exact ⟨0,rfl,Nat.zero_le _,fun t ht=>(by simp at ht),Below.refl _ _⟩
 case round =>
  obtain ⟨i,rfl,hi,hn,hbx⟩:=hrel;by_cases hil:i<l.length
  · have hdi:(i:Int)<(l.length:Nat):=by omega
    obtain ⟨t,ht⟩:∃t,l[i]? = some t:=⟨l[i],List.getElem?_eq_getElem hil⟩;obtain ⟨g,o,rfl,g0,g1,hk⟩:=(h.up hbx).get ht;have lg:=World.block_lt_of_cell? _ _ g0;dsimp only at lg;have hq:=zaE t.name n;cases hd:decide (t.name=n) with
    | false =>
     rw [hd] at hq;go_wp2
     refine ⟨⟨i + 1,by go_num,by omega,zbZ ht hn hd,hbx⟩,?_⟩;simp [intOf];omega
    | true =>
     rw [hd] at hq;go_wp2
     go_ret
     exact ⟨⟨_,rfl,Or.inr ⟨i,t,rfl,ht,zfF ht hn hd,hn⟩⟩,hbx⟩
  · have hdi:¬((i:Int)<(l.length:Nat)):=by omega
    obtain rfl:i=l.length:=by omega
    rw [List.take_length] at hn;go_wp2
    go_ret
    exact ⟨⟨_,rfl,Or.inl ⟨rfl,zeg hn⟩⟩,hbx⟩
theorem has9_any {w:World} {R:Nat} {A:Option Addr} {c:Nat} {l:List TypA} (h:SchA w R A c l) (ty re:ByteArray) :
 Calls Tryz.prog 109 #[.slice A l.length c,.string ty,.string re] w fun e w'=>e = .returned (.bool (hasI (l.map TypA.says) ty re))∧Below w.heap.size w w':=by
 obtain ⟨b,hB⟩:∃b,hasI (l.map TypA.says) ty re=b:=⟨_,rfl⟩;rw [hB];rw [zfJ] at hB;replace hB:=Lib.hid hB;go_enter Tryz.func109,Tryz.ntmps109
 go_wp2_with fail
 refine (type9_any h ty).mono ?_;rintro e w1 ⟨⟨z,rfl,hz⟩,hb1⟩;rcases hz with ⟨rfl,hf⟩ | ⟨i,t,rfl,ht,hf,_⟩
 · have hB':=hB.out;rw [show zbu l ty=none from hf] at hB';subst hB';go_wp2
   go_ret
   exact ⟨rfl,hb1⟩
 · have hB':=hB.out;rw [show zbu l ty=some t from hf] at hB';replace hB:=Lib.hid hB';clear hB' hf;have hi:(0:Int)≤(i:Nat):=by omega
   have hil:i<l.length:=(List.getElem?_eq_some_iff.1 ht).1;have hdi:(i:Int)<(l.length:Nat):=by omega
   obtain ⟨g,o,rfl,g0,g1,hk⟩:=(h.up hb1).get ht;have lg:=World.block_lt_of_cell? _ _ g0;dsimp only at lg;go_wp2_with fail
   refine (rel9_any hk re).mono ?_;rintro e w2 ⟨⟨z,rfl,hz⟩,hb2⟩;have hp:=hz.pos;rw [show (t.rels.find? fun t=>decide (t.name=re)).isSome=b by rw [←hB.out,zfK];rfl] at hp;clear hz;cases b with
   | true =>
    have hp:=of_decide_eq_true hp;go_wp2
    go_ret
    exact ⟨rfl,zaj hb1 hb1.size hb2⟩
   | false =>
    have hp:=of_decide_eq_false hp;go_wp2
    go_ret
    exact ⟨rfl,zaj hb1 hb1.size hb2⟩
theorem eqDSub (a b c d:ByteArray) (w:World):(binOp .eql 64 (.agg #[.string a,.string b]) (.agg #[.string c,.string d])).run Tryz.prog w = .ok (.bool (decide ((a,b)=(c,d)))) w:=by
 have hS:Tryz.prog.underlying 64=some (.struct (Tryz.prog.fieldsOf 64)):=by kernel_rfl
 have hp:Tryz.prog.stoodInHeld 64=false:=by kernel_rfl
 have u:=Tryz.underlying9;rw [run_eql_struct,show (10000:Nat)=9999 + 1 from rfl,run_equalIn_agg w 9999 64 _ _ hS hp];simp only [Program.fieldsOf,Tryz.underlying64];go_simp;have i1:=zhA a c;have i2:=zhA b d;by_cases e1:a=c <;> by_cases e2:b=d <;> simp [e1,e2,i1,i2]
theorem zh5 (s t:ByteArray × ByteArray):decide ((s.1,s.2)=(t.1,t.2))=decide (s=t):=rfl
theorem AtZ.rel {t:TypA} {n:ByteArray} {z:Int} (h:AtZ (fun x:RelA=>decide (x.name=n)) t.rels z):decide (z<0) = !(zcb t.says n):=by
 rw [h.neg,zfK];rfl
theorem AtZ.typ {l:List TypA} {n:ByteArray} {z:Int} (h:AtZ (fun x:TypA=>decide (x.name=n)) l z):decide (z<0) = !(hasT (l.map TypA.says) n):=by
 rw [h.neg,zhN];rfl
theorem and3_a {b c:Bool}:(false && (b && c))=false:=rfl
theorem and3_b {a c:Bool}:(a && (false && c))=false:=by cases a <;> rfl
theorem and3_c {a b:Bool}:(a && (b && false))=false:=by cases a <;> cases b <;> rfl
theorem opOk3 {L:List TypI} {t:TypA} {n x:ByteArray} {r:RelA} (h:za2 t n=some r):zdg L t.says (3,n,x)=r.subs.any (zfe L x):=by
 unfold zdg;rw [zb2,h];rfl
theorem opOk3n {L:List TypI} {t:TypA} {n x:ByteArray} (h:za2 t n=none):zdg L t.says (3,n,x)=false:=by
 unfold zdg;rw [zb2,h];rfl
theorem opOk2 {L:List TypI} {t:TypA} {n x:ByteArray}:zdg L t.says (2,n,x)=zcb t.says n:=rfl
theorem opOkO {L:List TypI} {t:TypA} {z:Int} {n x:ByteArray} (h2:¬z=2) (h3:¬z=3):zdg L t.says (z,n,x)=true:=by
 unfold zdg;rw [if_neg h2,if_neg h3]
theorem any_snoc {α:Type} {p:α→Bool} {l:List α} {j:Nat} {a:α} (h:l[j]? = some a):(l.take (j + 1)).any p=((l.take j).any p || p a):=by
 rw [zcs h,List.any_append];simp
theorem named9_any {w:World} {R:Nat} {A:Option Addr} {c:Nat} {l:List TypA} {t:TypA} {r:RelA} (h:SchA w R A c l) (ht:t.ok w R) (hr:r.ok w R) :
 Calls Tryz.prog 68 #[.slice A l.length c,.agg #[.string t.name,.slice t.A t.rels.length t.c],.agg #[.string r.name,.string r.view,.string r.edit,.string r.check,.slice r.As r.subs.length r.cs,.slice r.Ao r.ops.length r.co]] w fun e w' =>
  e = .returned (.int .i64 (zbQ (l.map TypA.says) t.says r.says:Nat))∧Below w.heap.size w w':=by
 have hls:(r.subs.length:Int)≤9223372036854775807:=by have:=hr.subs.cap;have:=hr.subs.capm;simp only [maxLen] at this;omega
 have hlo:(r.ops.length:Int)≤9223372036854775807:=by have:=hr.ops.cap;have:=hr.ops.capm;simp only [maxLen] at this;omega
 obtain ⟨As,hAs⟩:∃As,r.As=As:=⟨_,rfl⟩;obtain ⟨Ao,hAo⟩:∃Ao,r.Ao=Ao:=⟨_,rfl⟩;obtain ⟨tA,htA⟩:∃tA,t.A=tA:=⟨_,rfl⟩;obtain ⟨L,hL⟩:∃L,l.map TypA.says=L:=⟨_,rfl⟩;rw [hAs,hAo,htA,hL];have hNE:Hid (zbQ L t.says r.says=if (zcb t.says r.view && (zcb t.says r.edit && zcb t.says r.check))=false then 31 else if zcg L [] r.subs≠0 then zcg L [] r.subs else if r.ops.all (zdg L t.says)=false then 31 else 0):=Lib.hid rfl;generalize zbQ L t.says r.says=NE at *
 have hL:=Lib.hid hL;have hb1:=(zck w (.cells #[.string t.name,.slice tA t.rels.length t.c] 93)).alloc (size_alloc (Nat.le_refl _)) (.cells #[.string r.name,.string r.view,.string r.edit,.string r.check,.slice As r.subs.length r.cs,.slice Ao r.ops.length r.co] 48);have d1:=(Bk.new w #[.string t.name,.slice tA t.rels.length t.c] 93).alloc (.cells #[.string r.name,.string r.view,.string r.edit,.string r.check,.slice As r.subs.length r.cs,.slice Ao r.ops.length r.co] 48);have d2:=Bk.new2 w (.cells #[.string t.name,.slice tA t.rels.length t.c] 93) #[.string r.name,.string r.view,.string r.edit,.string r.check,.slice As r.subs.length r.cs,.slice Ao r.ops.length r.co] 48;have h1:=h.up hb1;have ht1:=ht.up hb1;have hr1:=hr.up hb1;go_enter Tryz.func68,Tryz.ntmps68
 go_upto_region 1 with (fail)
 generalize (w.alloc (.cells #[.string t.name,.slice tA t.rels.length t.c] 93)).alloc (.cells #[.string r.name,.string r.view,.string r.edit,.string r.check,.slice As r.subs.length r.cs,.slice Ao r.ops.length r.co] 48)=w1 at *
 clear h ht hr;obtain ⟨y0,y1⟩:=d1.c2;have yl:=d1.lt;obtain ⟨x0,x1,x2,x3,x4,x5⟩:=d2.c6;have xl:=d2.lt;have k1:=fun n=>rel9_any ht1 n;rw [htA] at k1;go_wp2_with fail
 refine (k1 _).mono ?_;rintro e w2 ⟨⟨z,rfl,hz⟩,hb2⟩;have hz:=hz.rel;cases hv:zcb t.says r.view with
 | false =>
  rw [hv] at hz;have hz:=of_decide_eq_true hz;go_wp2
  go_ret
  refine ⟨?_,zaj hb1 hb1.size hb2⟩;rw [hNE.out,hv,if_pos and3_a];rfl
 | true =>
  rw [hv] at hz;have hz:=of_decide_eq_false hz;replace hb1:=zaj hb1 hb1.size hb2;replace d1:=d1.below hb2;replace d2:=d2.below hb2;replace h1:=h1.up hb2;replace ht1:=ht1.up hb2;replace hr1:=hr1.up hb2;clear hb2 y0 y1 yl x0 x1 x2 x3 x4 x5 xl k1;obtain ⟨y0,y1⟩:=d1.c2;have yl:=d1.lt;obtain ⟨x0,x1,x2,x3,x4,x5⟩:=d2.c6;have xl:=d2.lt;have k1:=fun n=>rel9_any ht1 n;rw [htA] at k1;go_wp2_with fail
  refine (k1 _).mono ?_;rintro e w3 ⟨⟨z2,rfl,hz2⟩,hb2⟩;have hz2:=hz2.rel;cases hv2:zcb t.says r.edit with
  | false =>
   rw [hv2] at hz2;have hz2:=of_decide_eq_true hz2;go_wp2
   go_ret
   refine ⟨?_,zaj hb1 hb1.size hb2⟩;rw [hNE.out,hv2,if_pos and3_b];rfl
  | true =>
   rw [hv2] at hz2;have hz2:=of_decide_eq_false hz2;replace hb1:=zaj hb1 hb1.size hb2;replace d1:=d1.below hb2;replace d2:=d2.below hb2;replace h1:=h1.up hb2;replace ht1:=ht1.up hb2;replace hr1:=hr1.up hb2;clear hb2 y0 y1 yl x0 x1 x2 x3 x4 x5 xl k1 hz;obtain ⟨y0,y1⟩:=d1.c2;have yl:=d1.lt;obtain ⟨x0,x1,x2,x3,x4,x5⟩:=d2.c6;have xl:=d2.lt;have k1:=fun n=>rel9_any ht1 n;rw [htA] at k1;go_wp2_with fail
   refine (k1 _).mono ?_;rintro e w4 ⟨⟨z3,rfl,hz3⟩,hb2⟩;have hz3:=hz3.rel;cases hv3:zcb t.says r.check with
   | false =>
    rw [hv3] at hz3;have hz3:=of_decide_eq_true hz3;go_wp2
    go_ret
    refine ⟨?_,zaj hb1 hb1.size hb2⟩;rw [hNE.out,hv3,if_pos and3_c];rfl
   | true =>
    rw [hv3] at hz3;have hz3:=of_decide_eq_false hz3;replace hb1:=zaj hb1 hb1.size hb2;replace d1:=d1.below hb2;replace d2:=d2.below hb2;replace h1:=h1.up hb2;replace ht1:=ht1.up hb2;replace hr1:=hr1.up hb2;clear hb2 y0 y1 yl x0 x1 x2 x3 x4 x5 xl k1 hz2;replace hNE:Hid (NE=if zcg L [] r.subs≠0 then zcg L [] r.subs else if r.ops.all (zdg L t.says)=false then 31 else 0):=Lib.hid (by rw [hNE.out,hv,hv2,hv3,if_neg (by decide)]);clear hv hv2 hv3;go_wp2_with fail
    clear hz3;go_loopw [7] (fun vi wx=>∃i:Nat,vi = .int .i64 i∧i≤r.subs.length∧Hid (zcg L [] r.subs=zcg L (r.subs.take i) (r.subs.drop i))∧Below w4.heap.size w4 wx) (fun vi _=>r.subs.length-(intOf vi).toNat)
    case atStart=>exact ⟨0,rfl,Nat.zero_le _,Lib.hid rfl,Below.refl _ _⟩
    case round =>
     obtain ⟨j,rfl,hj,hE,hbx⟩:=hrel;have e2:=d2.below hbx;obtain ⟨x0,x1,x2,x3,x4,x5⟩:=e2.c6;have xl:=e2.lt;by_cases hjl:j<r.subs.length
     · have hdj:(j:Int)<(r.subs.length:Nat):=by omega
       obtain ⟨s,hs⟩:∃s,r.subs[j]? = some s:=⟨r.subs[j],List.getElem?_eq_getElem hjl⟩;obtain ⟨g,o,eA,g0,g1,_,_⟩:=(hr1.up hbx).sub hs;have lg:=World.block_lt_of_cell? _ _ g0;dsimp only at lg;rw [hAs] at eA;subst eA;go_upto_region 7 with (fail)
       have hbs:=zck wr (.cells #[.string s.1,.string s.2] 64);have dS:=Bk.new wr #[.string s.1,.string s.2] 64;have hbx2:=zaj hbx hbx.size hbs;clear hbs x0 x1 x2 x3 x4 x5 xl e2 g0 g1 lg;generalize wr.alloc (.cells #[.string s.1,.string s.2] 64)=w5 at *
       generalize wr.heap.size=B5 at *
       obtain ⟨s0,s1⟩:=dS.c2;have sl:=dS.lt;have hEs:=Lib.hid (zj2 (l:=L) hs);have hc:=has9_any (h1.up hbx2) s.1 s.2;rw [hL.out] at hc;go_wp2_with fail
       refine hc.mono ?_;rintro e w6 ⟨rfl,hb6⟩;replace hbx2:=zaj hbx2 hbx2.size hb6;replace dS:=dS.below hb6;clear hb6 s0 s1 sl hc hbx;obtain ⟨s0,s1⟩:=dS.c2;have sl:=dS.lt;have hc:=type9_any (h1.up hbx2) s.1;go_wp2_with fail
       refine hc.mono ?_;rintro e w7 ⟨⟨z,rfl,hz⟩,hb6⟩;have hz:=hz.typ;rw [hL.out] at hz;replace hbx2:=zaj hbx2 hbx2.size hb6;replace dS:=dS.below hb6;clear hb6 s0 s1 sl hc;obtain ⟨s0,s1⟩:=dS.c2;have sl:=dS.lt;have hO:Hid (zdD L s=(hasT L s.1 && (decide (s.2=⟨#[]⟩) || hasI L s.1 s.2))):=Lib.hid rfl;have he:=zcM s.2;have hfin:Hid (zdD L s=false→NE=31):=Lib.hid (fun e=>by
        rw [hNE.out,hE.out,hEs.out,if_pos e,if_pos (by decide)])
       cases hT:hasT L s.1 with
       | false =>
        rw [hT] at hz;have hz:=of_decide_eq_true hz;go_wp2
        go_ret
        exact ⟨by rw [hfin.out (by rw [hO.out,hT];rfl)];rfl,zaj hb1 hb1.size hbx2⟩
       | true =>
        rw [hT] at hz;have hz:=of_decide_eq_false hz;replace hO:Hid (zdD L s=(decide (s.2=⟨#[]⟩) || hasI L s.1 s.2)):=Lib.hid (by rw [hO.out,hT];rfl);generalize decide (s.2=⟨#[]⟩)=be at *
        generalize hasI L s.1 s.2=bh at *
        obtain ⟨hne,hno⟩ | hyes:(be=false∧bh=false)∨(be=false∧bh=true∨be=true):=by cases be <;> cases bh <;> simp
        · subst hne;subst hno;go_wp2
          go_ret
          exact ⟨by rw [hfin.out hO.out];rfl,zaj hb1 hb1.size hbx2⟩
        · have hok:zdD L s=true:=by
           rw [hO.out];rcases hyes with ⟨rfl,rfl⟩ | rfl <;> simp
          replace hEs:Hid (zcg L (r.subs.take j) (r.subs.drop j)=if (r.subs.take j).any (fun y=>decide (y=s))=true then 32 else zcg L (r.subs.take (j + 1)) (r.subs.drop (j + 1))):=Lib.hid (by rw [hEs.out,hok,if_neg (by decide)]);clear hok hfin hO hT;rcases hyes with ⟨hq1,hq2⟩ | hq1;all_goals
           (try subst hq2)
           subst hq1;go_wp2_with fail
           clear hz s0 s1 sl he;go_loopw [10] (fun vk wz=>∃k:Nat,vk = .int .i64 k∧k≤j∧(∀y ∈ r.subs.take k,decide (y=s)=false)∧Below w7.heap.size w7 wz) (fun vk _=>j-(intOf vk).toNat)
           case atStart=>exact ⟨0,rfl,Nat.zero_le _,fun t ht=>(by simp at ht),Below.refl _ _⟩
           case round =>
            obtain ⟨k,rfl,hk,hn,hbz⟩:=hrel;have dSz:=dS.below hbz;have hbxz:=zaj hbx2 hbx2.size hbz;by_cases hkj:k<j
            · have hdk:(k:Int)<(j:Nat):=by omega
              have hdk2:(k:Int)<(r.subs.length:Nat):=by omega
              obtain ⟨y,hy⟩:∃y,r.subs[k]? = some y:=⟨r.subs[k],List.getElem?_eq_getElem (by omega)⟩;obtain ⟨g2,o2,eA,v0,v1,_,_⟩:=(hr1.up hbxz).sub hy;rw [hAs] at eA;injection eA with eA
              injection eA with eg eo _
              subst eg;subst eo;have lg:=World.block_lt_of_cell? _ _ v0;dsimp only at lg;have e2:=d2.below hbxz;obtain ⟨x0,x1,x2,x3,x4,x5⟩:=e2.c6;have xl:=e2.lt;obtain ⟨s0,s1⟩:=dSz.c2;have sl:=dSz.lt;have hEq:=eqDSub y.1 y.2 s.1 s.2;cases hd:decide (y=s) with
              | true =>
               rw [zh5,hd] at hEq;go_wp2_with fail
               go_quiet (fail)
               go_wp2
               go_ret
               refine ⟨?_,zaj hb1 hb1.size (zaj hbxz hbxz.size (zcJ wr nq))⟩;have ha:(r.subs.take j).any (fun y=>decide (y=s))=true:=List.any_eq_true.2 ⟨y,List.mem_of_getElem? (i:=k) (by rw [List.getElem?_take_of_lt hkj];exact hy),hd⟩;rw [hNE.out,hE.out,hEs.out,if_pos ha,if_pos (by decide)];rfl
              | false =>
               rw [zh5,hd] at hEq;go_wp2_with fail
               go_quiet (fail)
               go_wp2
               refine ⟨⟨k + 1,by go_num,by omega,zbZ hy hn hd,zaj hbz hbz.size (zcJ wr nq)⟩,?_⟩;simp [intOf];omega
            · have hdk:¬(k:Int)<(j:Nat):=by omega
              obtain rfl:k=j:=by omega
              have ha:¬(r.subs.take k).any (fun y=>decide (y=s))=true:=by rw [zeF hn];decide
              go_wp2_with fail
              refine ⟨⟨k + 1,by go_num,by omega,Lib.hid (by rw [hE.out,hEs.out,if_neg ha]),hbxz⟩,?_⟩;simp [intOf];omega
     · obtain rfl:j=r.subs.length:=by omega
       have hE0:zcg L [] r.subs=0:=by
        rw [hE.out,List.take_length,List.drop_length];rfl
       replace hNE:Hid (NE=if r.ops.all (zdg L t.says)=false then 31 else 0):=Lib.hid (by rw [hNE.out,hE0,if_neg (by decide)]);clear hE0 hE;go_wp2_with fail
       clear x0 x1 x2 x3 x4 x5 xl e2;replace hb1:=zaj hb1 hb1.size hbx;replace d1:=d1.below hbx;replace d2:=d2.below hbx;replace h1:=h1.up hbx;replace ht1:=ht1.up hbx;replace hr1:=hr1.up hbx;generalize wr=w5 at *
       clear hbx;go_loopw [11] (fun vi wx=>∃i:Nat,vi = .int .i64 i∧i≤r.ops.length∧(∀o ∈ r.ops.take i,zdg L t.says o=true)∧Below w5.heap.size w5 wx) (fun vi _=>r.ops.length-(intOf vi).toNat)
       case atStart=>exact ⟨0,rfl,Nat.zero_le _,fun o ho=>(by simp at ho),Below.refl _ _⟩
       case round =>
        obtain ⟨k,rfl,hk,hE,hbx⟩:=hrel;have e2:=d2.below hbx;obtain ⟨x0,x1,x2,x3,x4,x5⟩:=e2.c6;have xl:=e2.lt;by_cases hkl:k<r.ops.length
        · have hdk:(k:Int)<(r.ops.length:Nat):=by omega
          obtain ⟨q,hq⟩:∃q,r.ops[k]? = some q:=⟨r.ops[k],List.getElem?_eq_getElem hkl⟩;obtain ⟨g,o,eA,g0,g1,g2,_,_,_⟩:=(hr1.up hbx).op hq;have lg:=World.block_lt_of_cell? _ _ g0;dsimp only at lg;rw [hAo] at eA;subst eA;go_upto_region 19 with (fail)
          have hbs:=zck wr (.cells #[.int .i64 q.1,.string q.2.1,.string q.2.2] 60);have dS:=Bk.new wr #[.int .i64 q.1,.string q.2.1,.string q.2.2] 60;have hbx2:=zaj hbx hbx.size hbs;clear hbs x0 x1 x2 x3 x4 x5 xl e2 g0 g1 g2 lg hbx;generalize wr.alloc (.cells #[.int .i64 q.1,.string q.2.1,.string q.2.2] 60)=w6 at *
          generalize wr.heap.size=B6 at *
          obtain ⟨q1,q2,q3⟩:=q;dsimp only at dS ⊢;have hmem:=Lib.hid (List.mem_of_getElem? hq);have hbad:Hid (zdg L t.says (q1,q2,q3)=false→NE=31):=Lib.hid (fun e=>by rw [hNE.out,if_pos (List.all_eq_false.2 ⟨_,hmem.out,by rw [e];decide⟩)]);have hnext:Hid (zdg L t.says (q1,q2,q3)=true→∀o ∈ r.ops.take (k + 1),zdg L t.says o=true):=Lib.hid (fun e o ho=>by
           rw [zcs hq] at ho;rcases List.mem_append.1 ho with ho | ho
           · exact hE o ho
           · simp at ho;subst ho;exact e)
          clear hE hmem hq;have s0:w6.cell? ⟨B6,0,none⟩=some (.int .i64 q1):=dS.cell 0;have s1:w6.cell? ⟨B6,1,none⟩=some (.string q2):=dS.cell 1;have s2:w6.cell? ⟨B6,2,none⟩=some (.string q3):=dS.cell 2;have sl:=dS.lt;have e1:=d1.below hbx2;obtain ⟨y0,y1⟩:=e1.c2;have yl:=e1.lt;have k1:=rel9_any (ht1.up hbx2) q2;rw [htA] at k1;by_cases h2:q1=2
          · subst h2;go_wp2_with fail
            refine k1.mono ?_;rintro e w7 ⟨⟨z,rfl,hz⟩,hb7⟩;have hz:=hz.rel;have dS7:=dS.below hb7;clear s0 s1 s2 sl y0 y1 yl e1 k1;have s0:w7.cell? ⟨B6,0,none⟩=some (.int .i64 2):=dS7.cell 0;have sl:=dS7.lt;rw [opOk2] at hbad hnext;cases hv:zcb t.says q2 with
            | false =>
             rw [hv] at hz;have hz:=of_decide_eq_true hz;go_wp2
             go_ret
             exact ⟨by rw [hbad.out hv];rfl,zaj hb1 hb1.size (zaj hbx2 hbx2.size hb7)⟩
            | true =>
             rw [hv] at hz;have hz:=of_decide_eq_false hz;go_wp2
             refine ⟨⟨k + 1,by go_num,by omega,hnext.out hv,zaj hbx2 hbx2.size hb7⟩,?_⟩;simp [intOf];omega
          · by_cases h3:q1=3
            · subst h3;go_wp2_with fail
              refine k1.mono ?_;rintro e w7 ⟨⟨z,rfl,hz⟩,hb7⟩;replace hbx2:=zaj hbx2 hbx2.size hb7;replace dS:=dS.below hb7;clear s0 s1 s2 sl y0 y1 yl e1 k1 hb7;have s0:w7.cell? ⟨B6,0,none⟩=some (.int .i64 3):=dS.cell 0;have sl:=dS.lt;rcases hz with ⟨rfl,hf⟩ | ⟨i,x,rfl,hx,hf,_⟩
              · go_wp2
                go_ret
                exact ⟨by rw [hbad.out (opOk3n hf)];rfl,zaj hb1 hb1.size hbx2⟩
              · rw [opOk3 (show za2 t q2=some x from hf)] at hbad hnext;clear hf;have hil:i<t.rels.length:=(List.getElem?_eq_some_iff.1 hx).1;have hdi:(i:Int)<(t.rels.length:Nat):=by omega
                have hdn:¬(i:Int)<0:=by omega
                go_wp2_with fail
                clear s0 sl;obtain ⟨xA,hxA⟩:∃B,x.As=B:=⟨_,rfl⟩;have hxl:(x.subs.length:Int)≤9223372036854775807:=by have:=(ht1.relz x (List.mem_of_getElem? hx)).subs.cap;have:=(ht1.relz x (List.mem_of_getElem? hx)).subs.capm;simp only [maxLen] at this;omega
                go_loopw [14,15] (fun vb vj wz=>∃j:Nat,vj = .int .i64 j∧j≤x.subs.length∧vb = .bool ((x.subs.take j).any (zfe L q3))∧Below w7.heap.size w7 wz) (fun _ vj _=>x.subs.length-(intOf vj).toNat)
                case atStart=>exact ⟨0,rfl,Nat.zero_le _,rfl,Below.refl _ _⟩
                case round =>
                 obtain ⟨j,rfl,hj,rfl,hbz⟩:=hrel;have hbxz:=zaj hbx2 hbx2.size hbz;have e1:=d1.below hbxz;obtain ⟨y0,y1⟩:=e1.c2;have yl:=e1.lt;obtain ⟨gt,ot,eA,_,_,_,_,v4,_,hkx⟩:=(ht1.up hbxz).get hx;rw [htA] at eA;subst eA;rw [hxA] at v4;have lv:=World.block_lt_of_cell? _ _ v4;dsimp only at lv;have dSz:=dS.below hbz;have s2:World.cell? _ ⟨B6,2,none⟩=some (.string q3):=dSz.cell 2;have sl:=dSz.lt;by_cases hjl:j<x.subs.length
                 · have hdj:(j:Int)<(x.subs.length:Nat):=by omega
                   obtain ⟨s,hs⟩:∃s,x.subs[j]? = some s:=⟨x.subs[j],List.getElem?_eq_getElem hjl⟩;obtain ⟨g2,o2,eA,g0,g1,_,_⟩:=hkx.sub hs;rw [hxA] at eA;subst eA;have lg:=World.block_lt_of_cell? _ _ g0;dsimp only at lg;have hL1:=any_snoc (p:=zfe L q3) hs;generalize (x.subs.take j).any (zfe L q3)=vb at *
                   go_upto_region 29 with (fail)
                   have hbs:=zck wr (.cells #[.string s.1,.string s.2] 64);have dT:=Bk.new wr #[.string s.1,.string s.2] 64;have hbz2:=zaj hbz hbz.size hbs;have dSy:=dSz.below hbs;clear hbs y0 y1 yl e1 v4 lv s2 sl g0 g1 lg hbz dSz hkx;generalize wr.alloc (.cells #[.string s.1,.string s.2] 64)=w8 at *
                   generalize wr.heap.size=B8 at *
                   obtain ⟨s0,s1⟩:=dT.c2;have tl:=dT.lt;have s2:w8.cell? ⟨B6,2,none⟩=some (.string q3):=dSy.cell 2;have sl:=dSy.lt;have hc:=has9_any (h1.up (zaj hbx2 hbx2.size hbz2)) s.1 q3;rw [hL.out] at hc;go_wp2_with fail
                   refine hc.mono ?_;rintro e w9 ⟨rfl,hb9⟩;have dT9:=dT.below hb9;have hbz9:=zaj hbz2 hbz2.size hb9;clear s0 s1 tl s2 sl hc dT dSy hb9 hbz2;obtain ⟨s0,s1⟩:=dT9.c2;have tl:=dT9.lt;replace hL1:Hid ((x.subs.take (j + 1)).any (zfe L q3)=(vb || (decide (s.2=⟨#[]⟩) && hasI L s.1 q3))):=Lib.hid hL1;have he:=zcM s.2;generalize decide (s.2=⟨#[]⟩)=be at *
                   generalize hasI L s.1 q3=bh at *
                   cases vb with
                   | true =>
                    go_wp2
                    refine ⟨⟨j + 1,by go_num,by omega,by rw [hL1.out];rfl,hbz9⟩,?_⟩;simp [intOf];omega
                   | false =>
                    cases be with
                    | false =>
                     go_wp2
                     refine ⟨⟨j + 1,by go_num,by omega,by rw [hL1.out];rfl,hbz9⟩,?_⟩;simp [intOf];omega
                    | true =>
                     cases bh with
                     | false =>
                      go_wp2
                      refine ⟨⟨j + 1,by go_num,by omega,by rw [hL1.out];rfl,hbz9⟩,?_⟩;simp [intOf];omega
                     | true =>
                      go_wp2
                      refine ⟨⟨j + 1,by go_num,by omega,by rw [hL1.out];rfl,hbz9⟩,?_⟩;simp [intOf];omega
                 · have hdj:¬((j:Int)<(x.subs.length:Nat)):=by omega
                   obtain rfl:j=x.subs.length:=by omega
                   rw [List.take_length];cases hv:x.subs.any (zfe L q3) with
                   | false =>
                    go_wp2
                    go_ret
                    exact ⟨by rw [hbad.out hv];rfl,zaj hb1 hb1.size hbxz⟩
                   | true =>
                    go_wp2
                    refine ⟨⟨k + 1,by go_num,by omega,hnext.out hv,hbxz⟩,?_⟩;simp [intOf];omega
            · clear k1;have b2:(q1 != 2)=true:=by simpa using h2
              have b3:(q1 != 3)=true:=by simpa using h3
              go_wp2
              refine ⟨⟨k + 1,by go_num,by omega,hnext.out (opOkO h2 h3),hbx2⟩,?_⟩;simp [intOf];omega
        · obtain rfl:k=r.ops.length:=by omega
          have hdk:¬((r.ops.length:Int)<(r.ops.length:Nat)):=by omega
          rw [List.take_length] at hE;go_wp2
          go_ret
          refine ⟨?_,zaj hb1 hb1.size hbx⟩;rw [hNE.out,if_neg (by rw [List.all_eq_true.2 hE];decide)];rfl
end Go.Proofs.YtiepddmagfmllaaGreat
