import Derived.Test.YtiepddmagfmllaaGreatT28
set_option maxRecDepth 100000
set_option maxHeartbeats 4000000
namespace Go.Proofs.YtiepddmagfmllaaGreat
open Go.RowKit
theorem opU_eq (q:St):opU q=if isU (sg 124) q=true then 4 else if isU (sg 38) q=true then 5 else if isU (sg 45) q=true then 6 else 0:=by
 cases q with
 | error x=>rfl
 | ok l=>rfl
theorem rrew_any {f:Nat} (H:∀f'≤f,zhE f'):RewUp f:=by
 intro w g q d h hl hd;have hg:=h.size;have hfew:=h.few;obtain ⟨o1,ho1⟩:∃o,(partU f d q).1=o:=⟨_,rfl⟩;obtain ⟨q1,hq1⟩:∃o,(partU f d q).2=o:=⟨_,rfl⟩;have hlen:=(zbV f).1 d q;have kp:=H f (Nat.le_refl _) w g q d h hl hd;have hr:moreU f d o1 q1=zjb f d q:=by rw [←ho1,←hq1];rfl
 unfold zdZ at kp;rw [ho1,hq1] at hlen kp;generalize zjb f d q=R at *
 clear ho1 hq1;go_enter Tryz.func108,Tryz.ntmps108
 go_wp2_with fail
 refine kp.mono ?_;rintro e1 w1 ⟨k1,⟨v,rfl,hv⟩,h1⟩;obtain ⟨A1,c1,rfl,hrd⟩:=Rd.own hv;have hsrc:=hrd.src Tryz.underlying46 (zcO o1);have hz1w:=k1.size;obtain ⟨i0,hi0,hz0,hz1,hz2⟩:=info_parts zdj;clear hrd kp h;go_wp2_with (at_builtin;refine zab _ rfl (.tmp 7) (.tmp 10) 46 46 rfl w.heap.size 60 i0 (.agg #[.int .i64 0,.string .empty,.string .empty]) 3 40 Tryz.underlying46 hi0 hz0 hz1 hz2 rfl (by decide) _ 0 [] rfl (World.ownsRow_nil _ _ _ _) _ o1.length (ocells o1) rfl hsrc (by simp only [maxLen];omega) (by omega) hz1w ?_;intro v2 w2 hown hgr hat;obtain ⟨A3,c3,rfl,_⟩:=Rd.own hown)
 have hn0:w1.ownsRow w.heap.size 60 3 (.slice none 0 0) 0 []:=World.ownsRow_nil _ _ _ _;have h2:=h1.grown0 (v:=.slice none 0 0) hgr hn0 hg;have k2:Kp g w.heap.size w w2:=zdv (v:=.slice none 0 0) k1 hgr hn0 hz1w (Nat.le_refl _);have hv2:NDVOps w.heap.size w2 (.slice A3 (0 + o1.length) c3) o1:=by
  have:=hown;rw [List.nil_append,Nat.zero_add] at this;rw [Nat.zero_add];exact this
 clear hv hown hgr hsrc hn0 h1 k1 hat;go_loopw [5] (fun vi wr=>∃f2 acc q2,f2≤f∧NDVOps w.heap.size wr vi acc∧PSt wr g q2∧Kp g w.heap.size w wr∧zbr q2<f2∧moreU f2 d acc q2=R∧acc.length + 2 * zbr q2≤2000001) (fun _ wr=>zff wr g)
 case atStart =>
  refine ⟨f,o1,q1,Nat.le_refl _,?_,h2,k2,by omega,hr,by omega⟩;first | exact hv2 | (rw [Nat.zero_add] at hv2;exact hv2)
 case round =>
  clear hv2 h2 k2 hr hlen hi0 hz0 hz1 hz2;obtain ⟨f2,acc,q2,hf2,hv,h3,k3,hl2,hM,hacc⟩:=hrel;obtain ⟨A,c,rfl,_⟩:=Rd.own hv;have hlf:=h3.left;obtain ⟨n,rfl⟩:∃n,f2=n + 1:=⟨f2-1,by omega⟩;have k1:=fun W H=>ris_any (w:=W) (g:=g) (q:=q2) H (sg 124);have k2:=fun W H=>ris_any (w:=W) (g:=g) (q:=q2) H (sg 38);have k4:=fun W H=>ris_any (w:=W) (g:=g) (q:=q2) H (sg 45);have hop:=opU_eq q2;unfold moreU at hM;cases hb1:isU (sg 124) q2 with
  | true =>
   rw [hb1] at k1 hop;rw [if_pos rfl] at hop;have hb2:=True.intro;have hb3:=True.intro;rw [if_neg (by rw [hop];decide)] at hM;have hlu:=zjH (q:=q2) (by rw [hop];decide);have hyes:isU (sg 124) q2=true:=hb1;obtain ⟨l,rfl,he⟩:=zcN hyes;have hq:=h3;obtain ⟨A2,c2,T,i,e,p,h3,rfl,rfl⟩:=h3;have hf:=h3.fine.next (zam 124) he;have hmT:=h3.few;rw [hop] at hM;clear hop;go_wp2_with fail
   refine (k1 _ hq).mono ?_;rintro e0 x0 ⟨rfl,hx0⟩;have g0:=hq.below hx0;have p0:=h3.below hx0;replace hv:=zag hv hx0;replace k3:=k3.trans ((Kp.of_below hx0 g).more k3.size);clear k1 k2 k4 hb1 hb2 hb3 hq h3 hx0 g0;obtain ⟨b,o,rfl,hi,hbg,s0,s1,s2⟩:=p0.get;rw [he,show sg 124=⟨#[124]⟩ from rfl] at s1;have u0:x0.cell? ⟨g,0,none⟩=some (.slice (some ⟨b,o,none⟩) T.length c2):=p0.cells.cell 0;have u1:x0.cell? ⟨g,1,none⟩=some (.int .i64 i):=p0.cells.cell 1;have hi2:(i:Int)<(T.length:Nat):=by omega
   go_wp2
   go_quiet (fail)
   go_wp2
   have hbq:Below x0.heap.size x0 (x0.drewN nq):=⟨rfl,rfl,rfl,Nat.le_refl _,fun _ _=>rfl⟩;replace hv:=zag hv hbq;replace k3:=k3.trans ((Kp.of_below hbq g).more k3.size);replace p0:=p0.below hbq;replace s1:=zaP s1 hbq;replace u0:=zaP u0 hbq;replace u1:=zaP u1 hbq;clear hbq s0 s2;generalize x0.drewN nq=y1 at *
   go_quiet (fail)
   have hbq:Below y1.heap.size y1 (y1.drewN nq):=⟨rfl,rfl,rfl,Nat.le_refl _,fun _ _=>rfl⟩;replace hv:=zag hv hbq;replace k3:=k3.trans ((Kp.of_below hbq g).more k3.size);replace p0:=p0.below hbq;replace u1:=zaP u1 hbq;clear hbq s1 u0;generalize y1.drewN nq=y2 at *
   have z1:=p0.cells.fz 1;have lt1:=p0.cells.lt;go_wp2_with fail
   have h4:=p0.up hf;replace k3:=k3.trans (zdu g w.heap.size y2 1 (.int .i64 ((i:Int) + 1)));replace hv:=zai (a:=⟨g,1,none⟩) hv hg (.int .i64 ((i:Int) + 1));clear p0 u1 z1 lt1;generalize y2.setCell ⟨g,1,none⟩ (.int .i64 ((i:Int) + 1))=y3 at *
   have kp2:=H n (by omega) y3 g _ d h4 (by omega) hd;have hle:=(zbV n).1 d (upU (.ok (T.drop i)));obtain ⟨o5,ho5⟩:∃o,(partU n d (upU (.ok (T.drop i)))).1=o:=⟨_,rfl⟩;obtain ⟨q5,hq5⟩:∃o,(partU n d (upU (.ok (T.drop i)))).2=o:=⟨_,rfl⟩;unfold zdZ at kp2;have hM2:moreU n d (acc ++ (partU n d (upU (.ok (T.drop i)))).1 ++ [(4,⟨#[]⟩,⟨#[]⟩)]) (partU n d (upU (.ok (T.drop i)))).2=R:=hM;rw [ho5,hq5] at kp2 hle hM2;refine kp2.mono ?_;rintro e5 w5 ⟨hk5,⟨v5,rfl,hv5⟩,h5⟩;clear hM ho5 hq5 kp2 h4;have hv6:=zaM hv hk5 hg;have k6:=k3.trans (hk5.more k3.size);have hz6:=k6.size;obtain ⟨A5,c5,rfl,hrd5⟩:=Rd.own hv5;have hsrc5:=hrd5.src Tryz.underlying46 (zcO o5);obtain ⟨i0,hi0,hz0,hz1,hz2⟩:=info_parts zdj;clear hrd5 hv hk5 k3;go_wp2_with (first | (at_builtin;refine zab _ rfl (.tmp 53) (.tmp 56) 46 46 rfl w.heap.size 60 i0 (.agg #[.int .i64 0,.string .empty,.string .empty]) 3 40 Tryz.underlying46 hi0 hz0 hz1 hz2 rfl (by decide) _ acc.length (ocells acc) rfl hv6 _ o5.length (ocells o5) rfl hsrc5 (by simp only [maxLen];omega) (by omega) hz6 ?_;intro v1 w6 hown1 hg1 hat;obtain ⟨A6,c6,rfl,_⟩:=Rd.own hown1;have k7:=zdv (v:=.slice A acc.length c) k6 hg1 hv6 hz6 (Nat.le_refl _);have h7:=h5.grown0 (v:=.slice A acc.length c) hg1 hv6 hg;have hz7:=k7.size) | (at_builtin;refine zab _ rfl (.tmp 58) (.tmp 61) 46 46 rfl w.heap.size 60 i0 (.agg #[.int .i64 0,.string .empty,.string .empty]) 3 40 Tryz.underlying46 hi0 hz0 hz1 hz2 rfl (by decide) _ (acc.length + o5.length) (ocells acc ++ ocells o5) rfl (World.ownsRow.alloc hown1 _) _ 1 [.int .i64 4,.string ⟨#[]⟩,.string ⟨#[]⟩] rfl (Src.ofSlice _ Tryz.underlying46 _ 1 1 _ rfl (zcW _ _ _ _ _) (zdy (4,⟨#[]⟩,⟨#[]⟩))) (by simp only [maxLen];omega) (by omega) (size_alloc hz7) ?_;intro v2 w7 hown2 hg2 hat;obtain ⟨A7,c7,rfl,_⟩:=Rd.own hown2;have k8:=za7 (v:=.slice A6 (acc.length + o5.length) c6) k7 hg2 hown1 hz7 (Nat.le_refl _);have h8:=h7.grown (v:=.slice A6 (acc.length + o5.length) c6) hg2 hown1 hg))
   refine ⟨⟨n,acc ++ o5 ++ [(4,⟨#[]⟩,⟨#[]⟩)],q5,by omega,?_,h8,k8,by omega,hM2,?_⟩,?_⟩
   · unfold NDVOps;rw [List.length_append,List.length_append,zbz,zbz];exact hown2
   · rw [List.length_append,List.length_append,List.length_singleton];omega
   · rw [h8.left,hlf];omega
  | false =>
   rw [hb1] at k1 hop;rw [if_neg (by decide)] at hop;cases hb2:isU (sg 38) q2 with
   | true =>
    rw [hb2] at k2 hop;rw [if_pos rfl] at hop;have hb3:=True.intro;rw [if_neg (by rw [hop];decide)] at hM;have hlu:=zjH (q:=q2) (by rw [hop];decide);have hyes:isU (sg 38) q2=true:=hb2;obtain ⟨l,rfl,he⟩:=zcN hyes;have hq:=h3;obtain ⟨A2,c2,T,i,e,p,h3,rfl,rfl⟩:=h3;have hf:=h3.fine.next (zam 38) he;have hmT:=h3.few;rw [hop] at hM;clear hop;go_wp2_with fail
    refine (k1 _ hq).mono ?_;rintro e0 x0 ⟨rfl,hx0⟩;have g0:=hq.below hx0;have p0:=h3.below hx0;replace hv:=zag hv hx0;replace k3:=k3.trans ((Kp.of_below hx0 g).more k3.size);go_wp2_with fail
    refine (k2 _ g0).mono ?_;rintro e1 x1 ⟨rfl,hx1⟩;have g1:=g0.below hx1;have p1:=p0.below hx1;replace hv:=zag hv hx1;replace k3:=k3.trans ((Kp.of_below hx1 g).more k3.size);clear k1 k2 k4 hb1 hb2 hb3 hq h3 hx0 hx1 g0 g1 p0;obtain ⟨b,o,rfl,hi,hbg,s0,s1,s2⟩:=p1.get;rw [he,show sg 38=⟨#[38]⟩ from rfl] at s1;have u0:x1.cell? ⟨g,0,none⟩=some (.slice (some ⟨b,o,none⟩) T.length c2):=p1.cells.cell 0;have u1:x1.cell? ⟨g,1,none⟩=some (.int .i64 i):=p1.cells.cell 1;have hi2:(i:Int)<(T.length:Nat):=by omega
    go_wp2
    go_quiet (fail)
    go_wp2
    have hbq:Below x1.heap.size x1 (x1.drewN nq):=⟨rfl,rfl,rfl,Nat.le_refl _,fun _ _=>rfl⟩;replace hv:=zag hv hbq;replace k3:=k3.trans ((Kp.of_below hbq g).more k3.size);replace p1:=p1.below hbq;replace s1:=zaP s1 hbq;replace u0:=zaP u0 hbq;replace u1:=zaP u1 hbq;clear hbq s0 s2;generalize x1.drewN nq=y1 at *
    go_quiet (fail)
    have hbq:Below y1.heap.size y1 (y1.drewN nq):=⟨rfl,rfl,rfl,Nat.le_refl _,fun _ _=>rfl⟩;replace hv:=zag hv hbq;replace k3:=k3.trans ((Kp.of_below hbq g).more k3.size);replace p1:=p1.below hbq;replace u1:=zaP u1 hbq;clear hbq s1 u0;generalize y1.drewN nq=y2 at *
    have z1:=p1.cells.fz 1;have lt1:=p1.cells.lt;go_wp2_with fail
    have h4:=p1.up hf;replace k3:=k3.trans (zdu g w.heap.size y2 1 (.int .i64 ((i:Int) + 1)));replace hv:=zai (a:=⟨g,1,none⟩) hv hg (.int .i64 ((i:Int) + 1));clear p1 u1 z1 lt1;generalize y2.setCell ⟨g,1,none⟩ (.int .i64 ((i:Int) + 1))=y3 at *
    have kp2:=H n (by omega) y3 g _ d h4 (by omega) hd;have hle:=(zbV n).1 d (upU (.ok (T.drop i)));obtain ⟨o5,ho5⟩:∃o,(partU n d (upU (.ok (T.drop i)))).1=o:=⟨_,rfl⟩;obtain ⟨q5,hq5⟩:∃o,(partU n d (upU (.ok (T.drop i)))).2=o:=⟨_,rfl⟩;unfold zdZ at kp2;have hM2:moreU n d (acc ++ (partU n d (upU (.ok (T.drop i)))).1 ++ [(5,⟨#[]⟩,⟨#[]⟩)]) (partU n d (upU (.ok (T.drop i)))).2=R:=hM;rw [ho5,hq5] at kp2 hle hM2;refine kp2.mono ?_;rintro e5 w5 ⟨hk5,⟨v5,rfl,hv5⟩,h5⟩;clear hM ho5 hq5 kp2 h4;have hv6:=zaM hv hk5 hg;have k6:=k3.trans (hk5.more k3.size);have hz6:=k6.size;obtain ⟨A5,c5,rfl,hrd5⟩:=Rd.own hv5;have hsrc5:=hrd5.src Tryz.underlying46 (zcO o5);obtain ⟨i0,hi0,hz0,hz1,hz2⟩:=info_parts zdj;clear hrd5 hv hk5 k3;go_wp2_with (first | (at_builtin;refine zab _ rfl (.tmp 53) (.tmp 56) 46 46 rfl w.heap.size 60 i0 (.agg #[.int .i64 0,.string .empty,.string .empty]) 3 40 Tryz.underlying46 hi0 hz0 hz1 hz2 rfl (by decide) _ acc.length (ocells acc) rfl hv6 _ o5.length (ocells o5) rfl hsrc5 (by simp only [maxLen];omega) (by omega) hz6 ?_;intro v1 w6 hown1 hg1 hat;obtain ⟨A6,c6,rfl,_⟩:=Rd.own hown1;have k7:=zdv (v:=.slice A acc.length c) k6 hg1 hv6 hz6 (Nat.le_refl _);have h7:=h5.grown0 (v:=.slice A acc.length c) hg1 hv6 hg;have hz7:=k7.size) | (at_builtin;refine zab _ rfl (.tmp 58) (.tmp 61) 46 46 rfl w.heap.size 60 i0 (.agg #[.int .i64 0,.string .empty,.string .empty]) 3 40 Tryz.underlying46 hi0 hz0 hz1 hz2 rfl (by decide) _ (acc.length + o5.length) (ocells acc ++ ocells o5) rfl (World.ownsRow.alloc hown1 _) _ 1 [.int .i64 5,.string ⟨#[]⟩,.string ⟨#[]⟩] rfl (Src.ofSlice _ Tryz.underlying46 _ 1 1 _ rfl (zcW _ _ _ _ _) (zdy (5,⟨#[]⟩,⟨#[]⟩))) (by simp only [maxLen];omega) (by omega) (size_alloc hz7) ?_;intro v2 w7 hown2 hg2 hat;obtain ⟨A7,c7,rfl,_⟩:=Rd.own hown2;have k8:=za7 (v:=.slice A6 (acc.length + o5.length) c6) k7 hg2 hown1 hz7 (Nat.le_refl _);have h8:=h7.grown (v:=.slice A6 (acc.length + o5.length) c6) hg2 hown1 hg))
    refine ⟨⟨n,acc ++ o5 ++ [(5,⟨#[]⟩,⟨#[]⟩)],q5,by omega,?_,h8,k8,by omega,hM2,?_⟩,?_⟩
    · unfold NDVOps;rw [List.length_append,List.length_append,zbz,zbz];exact hown2
    · rw [List.length_append,List.length_append,List.length_singleton];omega
    · rw [h8.left,hlf];omega
   | false =>
    rw [hb2] at k2 hop;rw [if_neg (by decide)] at hop;cases hb3:isU (sg 45) q2 with
    | true =>
     rw [hb3] at k4 hop;rw [if_pos rfl] at hop;rw [if_neg (by rw [hop];decide)] at hM;have hlu:=zjH (q:=q2) (by rw [hop];decide);have hyes:isU (sg 45) q2=true:=hb3;obtain ⟨l,rfl,he⟩:=zcN hyes;have hq:=h3;obtain ⟨A2,c2,T,i,e,p,h3,rfl,rfl⟩:=h3;have hf:=h3.fine.next (zam 45) he;have hmT:=h3.few;rw [hop] at hM;clear hop;go_wp2_with fail
     refine (k1 _ hq).mono ?_;rintro e0 x0 ⟨rfl,hx0⟩;have g0:=hq.below hx0;have p0:=h3.below hx0;replace hv:=zag hv hx0;replace k3:=k3.trans ((Kp.of_below hx0 g).more k3.size);go_wp2_with fail
     refine (k2 _ g0).mono ?_;rintro e1 x1 ⟨rfl,hx1⟩;have g1:=g0.below hx1;have p1:=p0.below hx1;replace hv:=zag hv hx1;replace k3:=k3.trans ((Kp.of_below hx1 g).more k3.size);go_wp2_with fail
     refine (k4 _ g1).mono ?_;rintro e2 x2 ⟨rfl,hx2⟩;have g2:=g1.below hx2;have p2:=p1.below hx2;replace hv:=zag hv hx2;replace k3:=k3.trans ((Kp.of_below hx2 g).more k3.size);clear k1 k2 k4 hb1 hb2 hb3 hq h3 hx0 hx1 hx2 g0 g1 g2 p0 p1;obtain ⟨b,o,rfl,hi,hbg,s0,s1,s2⟩:=p2.get;rw [he,show sg 45=⟨#[45]⟩ from rfl] at s1;have u0:x2.cell? ⟨g,0,none⟩=some (.slice (some ⟨b,o,none⟩) T.length c2):=p2.cells.cell 0;have u1:x2.cell? ⟨g,1,none⟩=some (.int .i64 i):=p2.cells.cell 1;have hi2:(i:Int)<(T.length:Nat):=by omega
     go_wp2
     go_quiet (fail)
     go_wp2
     have hbq:Below x2.heap.size x2 (x2.drewN nq):=⟨rfl,rfl,rfl,Nat.le_refl _,fun _ _=>rfl⟩;replace hv:=zag hv hbq;replace k3:=k3.trans ((Kp.of_below hbq g).more k3.size);replace p2:=p2.below hbq;replace s1:=zaP s1 hbq;replace u0:=zaP u0 hbq;replace u1:=zaP u1 hbq;clear hbq s0 s2;generalize x2.drewN nq=y1 at *
     go_quiet (fail)
     have hbq:Below y1.heap.size y1 (y1.drewN nq):=⟨rfl,rfl,rfl,Nat.le_refl _,fun _ _=>rfl⟩;replace hv:=zag hv hbq;replace k3:=k3.trans ((Kp.of_below hbq g).more k3.size);replace p2:=p2.below hbq;replace u1:=zaP u1 hbq;clear hbq s1 u0;generalize y1.drewN nq=y2 at *
     have z1:=p2.cells.fz 1;have lt1:=p2.cells.lt;go_wp2_with fail
     have h4:=p2.up hf;replace k3:=k3.trans (zdu g w.heap.size y2 1 (.int .i64 ((i:Int) + 1)));replace hv:=zai (a:=⟨g,1,none⟩) hv hg (.int .i64 ((i:Int) + 1));clear p2 u1 z1 lt1;generalize y2.setCell ⟨g,1,none⟩ (.int .i64 ((i:Int) + 1))=y3 at *
     have kp2:=H n (by omega) y3 g _ d h4 (by omega) hd;have hle:=(zbV n).1 d (upU (.ok (T.drop i)));obtain ⟨o5,ho5⟩:∃o,(partU n d (upU (.ok (T.drop i)))).1=o:=⟨_,rfl⟩;obtain ⟨q5,hq5⟩:∃o,(partU n d (upU (.ok (T.drop i)))).2=o:=⟨_,rfl⟩;unfold zdZ at kp2;have hM2:moreU n d (acc ++ (partU n d (upU (.ok (T.drop i)))).1 ++ [(6,⟨#[]⟩,⟨#[]⟩)]) (partU n d (upU (.ok (T.drop i)))).2=R:=hM;rw [ho5,hq5] at kp2 hle hM2;refine kp2.mono ?_;rintro e5 w5 ⟨hk5,⟨v5,rfl,hv5⟩,h5⟩;clear hM ho5 hq5 kp2 h4;have hv6:=zaM hv hk5 hg;have k6:=k3.trans (hk5.more k3.size);have hz6:=k6.size;obtain ⟨A5,c5,rfl,hrd5⟩:=Rd.own hv5;have hsrc5:=hrd5.src Tryz.underlying46 (zcO o5);obtain ⟨i0,hi0,hz0,hz1,hz2⟩:=info_parts zdj;clear hrd5 hv hk5 k3;go_wp2_with (first | (at_builtin;refine zab _ rfl (.tmp 53) (.tmp 56) 46 46 rfl w.heap.size 60 i0 (.agg #[.int .i64 0,.string .empty,.string .empty]) 3 40 Tryz.underlying46 hi0 hz0 hz1 hz2 rfl (by decide) _ acc.length (ocells acc) rfl hv6 _ o5.length (ocells o5) rfl hsrc5 (by simp only [maxLen];omega) (by omega) hz6 ?_;intro v1 w6 hown1 hg1 hat;obtain ⟨A6,c6,rfl,_⟩:=Rd.own hown1;have k7:=zdv (v:=.slice A acc.length c) k6 hg1 hv6 hz6 (Nat.le_refl _);have h7:=h5.grown0 (v:=.slice A acc.length c) hg1 hv6 hg;have hz7:=k7.size) | (at_builtin;refine zab _ rfl (.tmp 58) (.tmp 61) 46 46 rfl w.heap.size 60 i0 (.agg #[.int .i64 0,.string .empty,.string .empty]) 3 40 Tryz.underlying46 hi0 hz0 hz1 hz2 rfl (by decide) _ (acc.length + o5.length) (ocells acc ++ ocells o5) rfl (World.ownsRow.alloc hown1 _) _ 1 [.int .i64 6,.string ⟨#[]⟩,.string ⟨#[]⟩] rfl (Src.ofSlice _ Tryz.underlying46 _ 1 1 _ rfl (zcW _ _ _ _ _) (zdy (6,⟨#[]⟩,⟨#[]⟩))) (by simp only [maxLen];omega) (by omega) (size_alloc hz7) ?_;intro v2 w7 hown2 hg2 hat;obtain ⟨A7,c7,rfl,_⟩:=Rd.own hown2;have k8:=za7 (v:=.slice A6 (acc.length + o5.length) c6) k7 hg2 hown1 hz7 (Nat.le_refl _);have h8:=h7.grown (v:=.slice A6 (acc.length + o5.length) c6) hg2 hown1 hg))
     refine ⟨⟨n,acc ++ o5 ++ [(6,⟨#[]⟩,⟨#[]⟩)],q5,by omega,?_,h8,k8,by omega,hM2,?_⟩,?_⟩
     · unfold NDVOps;rw [List.length_append,List.length_append,zbz,zbz];exact hown2
     · rw [List.length_append,List.length_append,List.length_singleton];omega
     · rw [h8.left,hlf];omega
    | false =>
     rw [hb3] at k4 hop;rw [if_neg (by decide)] at hop;rw [if_pos hop] at hM;subst hM;clear hop hb1 hb2 hb3;go_wp2_with fail
     refine (k1 _ h3).mono ?_;rintro e1 x0 ⟨rfl,hx⟩;have g0:=h3.below hx;replace hv:=zag hv hx;replace k3:=k3.trans ((Kp.of_below hx g).more k3.size);clear hx h3 k1;go_wp2_with fail
     refine (k2 _ g0).mono ?_;rintro e2 x1 ⟨rfl,hx⟩;have g1:=g0.below hx;replace hv:=zag hv hx;replace k3:=k3.trans ((Kp.of_below hx g).more k3.size);clear hx g0 k2;go_wp2_with fail
     refine (k4 _ g1).mono ?_;rintro e3 x2 ⟨rfl,hx⟩;have g2:=g1.below hx;replace hv:=zag hv hx;replace k3:=k3.trans ((Kp.of_below hx g).more k3.size);clear hx g1 k4;go_wp2_with fail
     go_returns
     exact ⟨k3,⟨_,rfl,hv⟩,g2⟩
theorem zgE:∀f,(∀f'≤f,zhE f')∧RewUp f
 | 0=>by
  have h:∀f'≤0,zhE f':=fun f' hf w g q d _ hl _=>absurd hl (by omega);exact ⟨h,rrew_any h⟩
 | f + 1=>by
  obtain ⟨h1,h2⟩:=zgE f;have h:∀f'≤f + 1,zhE f':=fun f' hf=>by
   rcases Nat.lt_or_ge f f' with hlt | hge
   · obtain rfl:f'=f + 1:=by omega
     exact rpart_any h2
   · exact h1 f' hge
  exact ⟨h,rrew_any h⟩
end Go.Proofs.YtiepddmagfmllaaGreat
