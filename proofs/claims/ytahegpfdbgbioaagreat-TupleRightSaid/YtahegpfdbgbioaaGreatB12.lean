import Derived.Test.YtahegpfdbgbioaaGreatB11
set_option maxRecDepth 100000
set_option maxHeartbeats 4000000
namespace Go.Proofs.YtahegpfdbgbioaaGreat
open Go.RowKit
section
variable {w:World}
theorem names_any12 (a b c x y z:ByteArray) :
 Calls Tryz.prog 72 #[.agg #[.string a,.string b,.string c,.string x,.string y,.string z]] w fun e w'=>e = .returned (.agg #[.string a,.string b,.string c,.string x,.string y,.string z])∧Below w.heap.size w w':=by
 have hb0:=Bk.new w #[.string a,.string b,.string c,.string x,.string y,.string z] 71;have hz0:=Bk.new2 w (.cells #[.string a,.string b,.string c,.string x,.string y,.string z] 71) #[.string ⟨#[]⟩,.string ⟨#[]⟩,.string ⟨#[]⟩,.string ⟨#[]⟩,.string ⟨#[]⟩,.string ⟨#[]⟩] 133;have hB0:Below w.heap.size w ((w.alloc (.cells #[.string a,.string b,.string c,.string x,.string y,.string z] 71)).alloc (.cells #[.string ⟨#[]⟩,.string ⟨#[]⟩,.string ⟨#[]⟩,.string ⟨#[]⟩,.string ⟨#[]⟩,.string ⟨#[]⟩] 133)):=((Below.refl _ w).alloc (Nat.le_refl _) _).alloc (size_alloc (Nat.le_refl _)) _;have hT:=hb0.alloc (.cells #[.string ⟨#[]⟩,.string ⟨#[]⟩,.string ⟨#[]⟩,.string ⟨#[]⟩,.string ⟨#[]⟩,.string ⟨#[]⟩] 133);go_enter Tryz.func72,Tryz.ntmps72
 go_upto_region 1 with (fail)
 generalize (w.alloc (.cells #[.string a,.string b,.string c,.string x,.string y,.string z] 71)).alloc (.cells #[.string ⟨#[]⟩,.string ⟨#[]⟩,.string ⟨#[]⟩,.string ⟨#[]⟩,.string ⟨#[]⟩,.string ⟨#[]⟩] 133)=w0 at *
 obtain ⟨t0,t1,t2,t3,t4,t5⟩:=hT.c6;have tl:=hT.lt;obtain ⟨z0,z1,z2,z3,z4,z5⟩:=hz0.c6;have zl:=hz0.lt;have zf:=hz0.fz;go_wp2_with fail
 obtain ⟨hw,hb⟩:=zkD hz0 hB0 (Nat.le_succ _) (.string a) (.string b) (.string c) (.string x) (.string y) (.string z);obtain ⟨y0,y1,y2,y3,y4,y5⟩:=hw.c6;refine bodyPost_ret (v:=.agg #[.string a,.string b,.string c,.string x,.string y,.string z]) (by simp [results,Tryz.results72,go_sem,y0,y1,y2,y3,y4,y5];try rfl) rfl ?_;exact ⟨rfl,hb⟩
theorem tupleOf_any12 (a b c x y z:ByteArray) :
 Calls Tryz.prog 71 #[.agg #[.string a,.string b,.string c,.string x,.string y,.string z]] w fun e w'=>e = .returned (.agg #[.string a,.string b,.string c,.string x,.string y,.string z])∧Below w.heap.size w w':=by
 have hb0:=Bk.new w #[.string a,.string b,.string c,.string x,.string y,.string z] 133;have hz0:=Bk.new2 w (.cells #[.string a,.string b,.string c,.string x,.string y,.string z] 133) #[.string ⟨#[]⟩,.string ⟨#[]⟩,.string ⟨#[]⟩,.string ⟨#[]⟩,.string ⟨#[]⟩,.string ⟨#[]⟩] 71;have hB0:Below w.heap.size w ((w.alloc (.cells #[.string a,.string b,.string c,.string x,.string y,.string z] 133)).alloc (.cells #[.string ⟨#[]⟩,.string ⟨#[]⟩,.string ⟨#[]⟩,.string ⟨#[]⟩,.string ⟨#[]⟩,.string ⟨#[]⟩] 71)):=((Below.refl _ w).alloc (Nat.le_refl _) _).alloc (size_alloc (Nat.le_refl _)) _;have hT:=hb0.alloc (.cells #[.string ⟨#[]⟩,.string ⟨#[]⟩,.string ⟨#[]⟩,.string ⟨#[]⟩,.string ⟨#[]⟩,.string ⟨#[]⟩] 71);go_enter Tryz.func71,Tryz.ntmps71
 go_upto_region 1 with (fail)
 generalize (w.alloc (.cells #[.string a,.string b,.string c,.string x,.string y,.string z] 133)).alloc (.cells #[.string ⟨#[]⟩,.string ⟨#[]⟩,.string ⟨#[]⟩,.string ⟨#[]⟩,.string ⟨#[]⟩,.string ⟨#[]⟩] 71)=w0 at *
 obtain ⟨t0,t1,t2,t3,t4,t5⟩:=hT.c6;have tl:=hT.lt;obtain ⟨z0,z1,z2,z3,z4,z5⟩:=hz0.c6;have zl:=hz0.lt;have zf:=hz0.fz;go_wp2_with fail
 obtain ⟨hw,hb⟩:=zkD hz0 hB0 (Nat.le_succ _) (.string a) (.string b) (.string c) (.string x) (.string y) (.string z);obtain ⟨y0,y1,y2,y3,y4,y5⟩:=hw.c6;refine bodyPost_ret (v:=.agg #[.string a,.string b,.string c,.string x,.string y,.string z]) (by simp [results,Tryz.results71,go_sem,y0,y1,y2,y3,y4,y5];try rfl) rfl ?_;exact ⟨rfl,hb⟩
end
theorem zkd:∀(r:List ByteArray) (x:ByteArray),x ++ zd8 ⟨#[0]⟩ r=keyL (x::r)
 | [],x=>by
  show x ++ ⟨#[]⟩=x;exact ByteArray.append_empty
 | y::r,x=>by
  show x ++ ((⟨#[0]⟩:ByteArray) ++ y ++ zd8 ⟨#[0]⟩ r)=x ++ zeN 0 ++ keyL (y::r);rw [←zkd r y,show zeN 0=⟨#[0]⟩ from rfl];simp only [ByteArray.append_assoc]
theorem key_size (a b c x y z:ByteArray):(keyT ((a,b,c),(x,y,z))).size=a.size + 1 + (b.size + 1 + (c.size + 1 + (x.size + 1 + (y.size + 1 + z.size)))):=by
 show (a ++ zeN 0 ++ (b ++ zeN 0 ++ (c ++ zeN 0 ++ (x ++ zeN 0 ++ (y ++ zeN 0 ++ z))))).size=_;simp only [size_app,zby]
section
variable {w:World}
theorem join6 {g:Nat} {t:TypeId} {a b c x y z:ByteArray} (h:Bk w g #[.string a,.string b,.string c,.string x,.string y,.string z] t) (ha:a.size≤100000) (hb:b.size≤100000) (hc:c.size≤100000) (hx:x.size≤100000) (hy:y.size≤100000) (hz:z.size≤100000) :
 Calls Tryz.prog 73 #[.slice (some ⟨g,0,none⟩) 6 6,.string ⟨#[0]⟩] w fun e w'=>e = .returned (.string (keyT ((a,b,c),(x,y,z))))∧Below w.heap.size w w':=by
 have hj:zlb ⟨#[0]⟩ [a,b,c,x,y,z]=keyT ((a,b,c),(x,y,z)):=zkd _ _;have hk:=key_size a b c x y z;refine (zf7 g 0 6 [a,b,c,x,y,z] ⟨#[0]⟩ w (fun j u hj=>?_) h.lt (by simp) (by simp) ?_).mono fun e w' ⟨h1,h2⟩=>⟨?_,h2⟩
 · rw [Nat.zero_add,h.cell j];rcases j with _ | _ | _ | _ | _ | _ | j;all_goals simp at hj ⊢
   all_goals exact hj
 · rw [zfG,Array.length_toList,hj];show (keyT ((a,b,c),(x,y,z))).size≤_;omega
 · rw [h1,zfG,hj]
theorem key_any12 (a b c x y z:ByteArray) (ha:a.size≤100000) (hb:b.size≤100000) (hc:c.size≤100000) (hx:x.size≤100000) (hy:y.size≤100000) (hz:z.size≤100000) :
 Calls Tryz.prog 40 #[.agg #[.string a,.string b,.string c,.string x,.string y,.string z]] w fun e w'=>e = .returned (.string (keyT ((a,b,c),(x,y,z))))∧Below w.heap.size w w':=by
 obtain ⟨K,hK⟩:∃K,Hid (keyT ((a,b,c),(x,y,z))=K):=⟨_,Lib.hid rfl⟩;rw [hK.out];have hk:=Bk.new w #[.string a,.string b,.string c,.string x,.string y,.string z] 71;have hB:=zb0 w (.cells #[.string a,.string b,.string c,.string x,.string y,.string z] 71);obtain ⟨c0,c1,c2,c3,c4,c5⟩:=hk.c6;have lk:=hk.lt;go_enter Tryz.func40,Tryz.ntmps40
 go_upto_region 1 with (fail)
 generalize w.alloc (.cells #[.string a,.string b,.string c,.string x,.string y,.string z] 71)=w1 at *
 have k1:=names_any12 (w:=w1) a b c x y z;go_upto_region 2 with (go_at_call 72;refine k1.mono ?_;rintro e w2 ⟨rfl,hb1⟩)
 have hN:=Bk.new w2 #[.string a,.string b,.string c,.string x,.string y,.string z] 133;replace hB:=(zad hB hB.size hb1).alloc (zad hB hB.size hb1).size (.cells #[.string a,.string b,.string c,.string x,.string y,.string z] 133);clear hb1 k1 c0 c1 c2 c3 c4 c5;generalize w2.alloc (.cells #[.string a,.string b,.string c,.string x,.string y,.string z] 133)=w3 at *
 generalize w2.heap.size=g at *
 have kj:=join6 hN ha hb hc hx hy hz;rw [hK.out] at kj;go_wp2_with (go_at_call 73;refine kj.mono ?_;rintro e w4 ⟨rfl,hb2⟩)
 go_ret
 exact ⟨rfl,zad hB hB.size hb2⟩
end
theorem ziR:∀(i:Nat) (s:ByteArray),zfd (i + 1) s=(zcO (zfd i s) 0).2
 | 0,_=>rfl
 | i + 1,s=>ziR i (zcO s 0).2
theorem zek:∀(i:Nat) (s:ByteArray),(zfd i s).size≤s.size
 | 0,_=>Nat.le_refl _
 | i + 1,s=>Nat.le_trans (zek i _) (zdR s 0)
theorem zbW (i:Nat) (s:ByteArray):(zcO (zfd i s) 0).1.size≤s.size:=by
 have h1:=zev (zfd i s) 0;have h2:=(zcS (zfd i s) 0).1;have h3:=zek i s;omega
def nmB (s:ByteArray) (i:Nat):ByteArray:=(zcO (zfd i s) 0).1
def zie (s:ByteArray) (i:Nat):Array Value:=#[.string (if 0<i then nmB s 0 else ⟨#[]⟩),.string (if 1<i then nmB s 1 else ⟨#[]⟩),.string (if 2<i then nmB s 2 else ⟨#[]⟩),.string (if 3<i then nmB s 3 else ⟨#[]⟩),.string (if 4<i then nmB s 4 else ⟨#[]⟩),.string (if 5<i then nmB s 5 else ⟨#[]⟩)]
theorem zkZ (s:ByteArray) {i:Nat} (h:i<6):(zie s i).setIfInBounds i (.string (nmB s i))=zie s (i + 1):=by
 obtain rfl | rfl | rfl | rfl | rfl | rfl:i=0∨i=1∨i=2∨i=3∨i=4∨i=5:=by omega
 all_goals rfl
theorem zl1 (s:ByteArray) {i:Nat} (h:i<6):∃v,(zie s i)[i]? = some v:=by
 obtain rfl | rfl | rfl | rfl | rfl | rfl:i=0∨i=1∨i=2∨i=3∨i=4∨i=5:=by omega
 all_goals exact ⟨_,rfl⟩
section
variable {w:World}
theorem from_any12 (s:ByteArray) (hs:s.size≤100000) :
 Calls Tryz.prog 34 #[.string s] w fun e w'=>e = .returned (.tuple #[.agg #[.string (zlN (zgG s)).1.1,.string (zlN (zgG s)).1.2.1,.string (zlN (zgG s)).1.2.2,.string (zlN (zgG s)).2.1,.string (zlN (zgG s)).2.2.1,.string (zlN (zgG s)).2.2.2],.bool (zgG s).isSome])∧Below w.heap.size w w':=by
 obtain ⟨R,hRd⟩:∃R,Hid (zgG s=R):=⟨_,Lib.hid rfl⟩;rw [hRd.out];have hR:=Bk.new w #[.string ⟨#[]⟩,.string ⟨#[]⟩,.string ⟨#[]⟩,.string ⟨#[]⟩,.string ⟨#[]⟩,.string ⟨#[]⟩] 71;have hB:=zb0 w (.cells #[.string ⟨#[]⟩,.string ⟨#[]⟩,.string ⟨#[]⟩,.string ⟨#[]⟩,.string ⟨#[]⟩,.string ⟨#[]⟩] 71);go_enter Tryz.func34,Tryz.ntmps34
 go_upto_region 1 with (fail)
 generalize w.alloc (.cells #[.string ⟨#[]⟩,.string ⟨#[]⟩,.string ⟨#[]⟩,.string ⟨#[]⟩,.string ⟨#[]⟩,.string ⟨#[]⟩] 71)=w1 at *
 have hN:Bk _ w1.heap.size (zie s 0) 133:=Bk.new w1 #[.string ⟨#[]⟩,.string ⟨#[]⟩,.string ⟨#[]⟩,.string ⟨#[]⟩,.string ⟨#[]⟩,.string ⟨#[]⟩] 133;go_upto_region 2 with (fail)
 have hgl:=hR.lt;replace hR:=hR.alloc (.cells #[.string ⟨#[]⟩,.string ⟨#[]⟩,.string ⟨#[]⟩,.string ⟨#[]⟩,.string ⟨#[]⟩,.string ⟨#[]⟩] 133);replace hB:=hB.alloc hB.size (.cells #[.string ⟨#[]⟩,.string ⟨#[]⟩,.string ⟨#[]⟩,.string ⟨#[]⟩,.string ⟨#[]⟩,.string ⟨#[]⟩] 133);generalize w1.alloc (.cells #[.string ⟨#[]⟩,.string ⟨#[]⟩,.string ⟨#[]⟩,.string ⟨#[]⟩,.string ⟨#[]⟩,.string ⟨#[]⟩] 133)=w2 at *
 generalize w1.heap.size=g at *
 go_wp2_with fail
 go_loopw [5,9] (fun vr vi wx=>∃i:Nat,vi = .int .i64 i∧i≤6∧vr = .string (zfd i s)∧Bk wx g (zie s i) 133∧Bk wx w.heap.size #[.string ⟨#[]⟩,.string ⟨#[]⟩,.string ⟨#[]⟩,.string ⟨#[]⟩,.string ⟨#[]⟩,.string ⟨#[]⟩] 71∧Below w.heap.size w wx) (fun _ vi _=>6-(intOf vi).toNat)
 case atStart=>exact ⟨0,rfl,by omega,rfl,hN,hR,hB⟩
 case round =>
  obtain ⟨i,rfl,hi,rfl,hN,hR,hB⟩:=hrel;by_cases hil:i<6
  · have hdi:(i:Int)<6:=by omega
    have zr:=zek i s;have k1:=fun W=>cut00 (zfd i s) W (by simp only [maxLen];omega);rw [←ziR i s] at k1;change ∀W,Calls _ _ _ W fun e w'=>e = .returned (.tuple #[.string (nmB s i),_,_])∧_ at k1;have hst:=zkZ s hil;obtain ⟨v0,hv0⟩:=zl1 s hil;generalize nmB s i=nm at *
    obtain ⟨rs,hrs⟩:∃rs,Hid (zfd (i + 1) s=rs):=⟨_,Lib.hid rfl⟩;rw [hrs.out] at k1;generalize decide (zdi (zfd i s) 0<(zfd i s).size)=g1 at k1;go_upto_region 6 with (fail)
    go_upto_region 7 with (go_at_call 67;refine (k1 _).mono ?_;rintro e w5 ⟨rfl,hb⟩;have hN5:=hN.below hb;have hR5:=hR.below hb;have hB5:=zad hB hB.size hb;have q0:w5.cell? ⟨g,i,none⟩=some v0:=(hN5.cell i).trans hv0;have q1:=hN5.fz i;have q2:=hN5.lt)
    have hN6:=hN5.set i (.string nm);rw [hst] at hN6;have hR6:=hR5.other (a:=⟨g,i,none⟩) (by dsimp only;omega) (.string nm);have hB6:=hB5.setCell (p:=⟨g,i,none⟩) (Nat.le_of_lt hgl) (.string nm);go_wp2_with fail
    refine ⟨⟨i + 1,by go_num,by omega,by rw [hrs.out],hN6,hR6,hB6⟩,?_⟩;simp [intOf];omega
  · obtain rfl:i=6:=by omega
    have z0:(nmB s 0).size≤s.size:=zbW 0 s;have z1:(nmB s 1).size≤s.size:=zbW 1 s;have z2:(nmB s 2).size≤s.size:=zbW 2 s;have z3:(nmB s 3).size≤s.size:=zbW 3 s;have z4:(nmB s 4).size≤s.size:=zbW 4 s;have z5:(nmB s 5).size≤s.size:=zbW 5 s;have hN:Bk wr g #[.string (nmB s 0),.string (nmB s 1),.string (nmB s 2),.string (nmB s 3),.string (nmB s 4),.string (nmB s 5)] 133:=hN;have hf:Hid (zgG s=if zj8 ((nmB s 0,nmB s 1,nmB s 2),(nmB s 3,nmB s 4,nmB s 5))=true∧keyT ((nmB s 0,nmB s 1,nmB s 2),(nmB s 3,nmB s 4,nmB s 5))=s then some ((nmB s 0,nmB s 1,nmB s 2),(nmB s 3,nmB s 4,nmB s 5)) else none):=Lib.hid rfl;generalize nmB s 0=a at *
    generalize nmB s 1=b at *
    generalize nmB s 2=c at *
    generalize nmB s 3=x at *
    generalize nmB s 4=y at *
    generalize nmB s 5=z at *
    have k1:=tupleOf_any12 a b c x y z (w:=wr);obtain ⟨t0,t1,t2,t3,t4,t5⟩:=hN.c6;have tl:=hN.lt;go_upto_region 9 with (go_at_call 71;refine k1.mono ?_;rintro e w5 ⟨rfl,hb⟩)
    have hT:=Bk.new w5 #[.string a,.string b,.string c,.string x,.string y,.string z] 71;replace hR:=(hR.below hb).alloc (.cells #[.string a,.string b,.string c,.string x,.string y,.string z] 71);replace hB:=(zad hB hB.size hb).alloc (zad hB hB.size hb).size (.cells #[.string a,.string b,.string c,.string x,.string y,.string z] 71);clear hb k1 hN t0 t1 t2 t3 t4 t5 tl;generalize w5.alloc (.cells #[.string a,.string b,.string c,.string x,.string y,.string z] 71)=w6 at *
    generalize w5.heap.size=gt at *
    obtain ⟨t0,t1,t2,t3,t4,t5⟩:=hT.c6;have tl:=hT.lt;obtain ⟨p,hp⟩:∃p,Hid (zj8 ((a,b,c),(x,y,z))=p):=⟨_,Lib.hid rfl⟩;have kf:=fun W=>fmd_is hp.out (by omega) (by omega) (by omega) (by omega) (by omega) (by omega) W;cases p with
    | false =>
     obtain rfl:R=none:=by rw [←hRd.out,hf.out,if_neg fun h=>by rw [hp.out] at h;cases h.1]
     clear hRd hf;go_wp2_with (go_at_call 70;refine (kf _).mono ?_;rintro e w8 ⟨rfl,hb⟩;have hR3:=hR.below hb;have hB3:=zad hB hB.size hb;obtain ⟨r0,r1,r2,r3,r4,r5⟩:=hR3.c6;have rl:=hR3.lt;have rf:=hR3.fz)
     obtain ⟨hw,hb6⟩:=zkD hR3 hB3 (Nat.le_refl _) (.string ⟨#[]⟩) (.string ⟨#[]⟩) (.string ⟨#[]⟩) (.string ⟨#[]⟩) (.string ⟨#[]⟩) (.string ⟨#[]⟩);obtain ⟨y0,y1,y2,y3,y4,y5⟩:=hw.c6;refine bodyPost_ret (v:=.tuple #[.agg #[.string ⟨#[]⟩,.string ⟨#[]⟩,.string ⟨#[]⟩,.string ⟨#[]⟩,.string ⟨#[]⟩,.string ⟨#[]⟩],.bool false]) (by simp [results,Tryz.results34,go_sem,y0,y1,y2,y3,y4,y5];try rfl) rfl ?_;exact ⟨rfl,hb6⟩
    | true =>
     have kk:=fun W=>key_any12 (w:=W) a b c x y z (by omega) (by omega) (by omega) (by omega) (by omega) (by omega);obtain ⟨K,hK⟩:∃K,Hid (keyT ((a,b,c),(x,y,z))=K):=⟨_,Lib.hid rfl⟩;rw [hK.out] at kk;by_cases he:K=s
     · obtain rfl:R=some ((a,b,c),(x,y,z)):=by rw [←hRd.out,hf.out,if_pos ⟨hp.out,by rw [hK.out,he]⟩]
       have d:(K.toList == s.toList)=true:=zb2 he;clear hRd hf he;go_wp2_with (first
        | (go_at_call 70;refine (kf _).mono ?_;rintro e w8 ⟨rfl,hb⟩;have hT8:=hT.below hb;have hR8:=hR.below hb;have hB8:=zad hB hB.size hb;obtain ⟨s0,s1,s2,s3,s4,s5⟩:=hT8.c6)
        | (go_at_call 40;refine (kk _).mono ?_;rintro e w9 ⟨rfl,hb⟩;have hT9:=hT8.below hb;obtain ⟨u0,u1,u2,u3,u4,u5⟩:=hT9.c6;have hR3:=hR8.below hb;have hB3:=zad hB8 hB8.size hb;obtain ⟨r0,r1,r2,r3,r4,r5⟩:=hR3.c6;have rl:=hR3.lt;have rf:=hR3.fz))
       obtain ⟨hw,hb6⟩:=zkD hR3 hB3 (Nat.le_refl _) (.string a) (.string b) (.string c) (.string x) (.string y) (.string z);obtain ⟨y0,y1,y2,y3,y4,y5⟩:=hw.c6;refine bodyPost_ret (v:=.tuple #[.agg #[.string a,.string b,.string c,.string x,.string y,.string z],.bool true]) (by simp [results,Tryz.results34,go_sem,y0,y1,y2,y3,y4,y5];try rfl) rfl ?_;exact ⟨rfl,hb6⟩
     · obtain rfl:R=none:=by rw [←hRd.out,hf.out,if_neg fun h=>he (by rw [←hK.out];exact h.2)]
       have d:(K.toList == s.toList)=false:=zbo he;clear hRd hf he;go_wp2_with (first
        | (go_at_call 70;refine (kf _).mono ?_;rintro e w8 ⟨rfl,hb⟩;have hT8:=hT.below hb;have hR8:=hR.below hb;have hB8:=zad hB hB.size hb;obtain ⟨s0,s1,s2,s3,s4,s5⟩:=hT8.c6)
        | (go_at_call 40;refine (kk _).mono ?_;rintro e w9 ⟨rfl,hb⟩;have hR3:=hR8.below hb;have hB3:=zad hB8 hB8.size hb;obtain ⟨r0,r1,r2,r3,r4,r5⟩:=hR3.c6;have rl:=hR3.lt;have rf:=hR3.fz))
       obtain ⟨hw,hb6⟩:=zkD hR3 hB3 (Nat.le_refl _) (.string ⟨#[]⟩) (.string ⟨#[]⟩) (.string ⟨#[]⟩) (.string ⟨#[]⟩) (.string ⟨#[]⟩) (.string ⟨#[]⟩);obtain ⟨y0,y1,y2,y3,y4,y5⟩:=hw.c6;refine bodyPost_ret (v:=.tuple #[.agg #[.string ⟨#[]⟩,.string ⟨#[]⟩,.string ⟨#[]⟩,.string ⟨#[]⟩,.string ⟨#[]⟩,.string ⟨#[]⟩],.bool false]) (by simp [results,Tryz.results34,go_sem,y0,y1,y2,y3,y4,y5];try rfl) rfl ?_;exact ⟨rfl,hb6⟩
end
end Go.Proofs.YtahegpfdbgbioaaGreat
namespace Go.Proofs.YtahegpfdbgbioaaGreat
open Go.RowKit
theorem zct {P:Program} {md:Region.Mode} {ops:Array Oper} {Q:Exit→Act→World→Prop} {S:World→Prop} {z:Nat} (i j:Nat) {oi oj:Oper} {n:Nat} {l:Array Bool} {a:Act} {w:World} (hi:ops[i]? = some oi) (hj:ops[j]? = some oj) (hr:Region.ready md ops l=[i,j])
 (h1:∀K':Act→World→Prop,(∀a w,(i≠z→S w)→zaY P md ops Q S z n (l.setIfInBounds i true) a w→K' a w)→if Region.wanted oi (yielded ops a.tmps)=true then Oper.wp P oi a w K' Q else K' (a.put oi.dst undef) w)
 (h2:∀K':Act→World→Prop,(∀a w,(j≠z→S w)→zaY P md ops Q S z n (l.setIfInBounds j true) a w→K' a w)→if Region.wanted oj (yielded ops a.tmps)=true then Oper.wp P oj a w K' Q else K' (a.put oj.dst undef) w) :
 zaY P md ops Q S z (n + 1) l a w :=
 ⟨fun e=>(by rw [hr] at e;cases e),fun k hk=>by
  rw [hr] at hk;simp at hk;rcases hk with rfl | rfl
  · exact wpOp_step hi fun K' hK'=>h1 K' fun a w s x=>hK' a w ⟨s,x⟩
  · exact wpOp_step hj fun K' hK'=>h2 K' fun a w s x=>hK' a w ⟨s,x⟩⟩
theorem ziS {P:Program} {md:Region.Mode} {ops:Array Oper} {Q:Exit→Act→World→Prop} {S:World→Prop} {z:Nat} (i j m:Nat) {oi oj om:Oper} {n:Nat} {l:Array Bool} {a:Act} {w:World} (hi:ops[i]? = some oi) (hj:ops[j]? = some oj) (hm:ops[m]? = some om) (hr:Region.ready md ops l=[i,j,m])
 (h1:∀K':Act→World→Prop,(∀a w,(i≠z→S w)→zaY P md ops Q S z n (l.setIfInBounds i true) a w→K' a w)→if Region.wanted oi (yielded ops a.tmps)=true then Oper.wp P oi a w K' Q else K' (a.put oi.dst undef) w)
 (h2:∀K':Act→World→Prop,(∀a w,(j≠z→S w)→zaY P md ops Q S z n (l.setIfInBounds j true) a w→K' a w)→if Region.wanted oj (yielded ops a.tmps)=true then Oper.wp P oj a w K' Q else K' (a.put oj.dst undef) w)
 (h3:∀K':Act→World→Prop,(∀a w,(m≠z→S w)→zaY P md ops Q S z n (l.setIfInBounds m true) a w→K' a w)→if Region.wanted om (yielded ops a.tmps)=true then Oper.wp P om a w K' Q else K' (a.put om.dst undef) w) :
 zaY P md ops Q S z (n + 1) l a w :=
 ⟨fun e=>(by rw [hr] at e;cases e),fun k hk=>by
  rw [hr] at hk;simp at hk;rcases hk with rfl | rfl | rfl
  · exact wpOp_step hi fun K' hK'=>h1 K' fun a w s x=>hK' a w ⟨s,x⟩
  · exact wpOp_step hj fun K' hK'=>h2 K' fun a w s x=>hK' a w ⟨s,x⟩
  · exact wpOp_step hm fun K' hK'=>h3 K' fun a w s x=>hK' a w ⟨s,x⟩⟩
theorem viaT {T:Array Bool→Nat→Act→World→Prop} {F:World→Nat→Nat→Prop} {l:Array Bool} {n:Nat} {a:Act} {w:World} (l':Array Bool) (n':Nat) (a':Nat→Nat→Act) (hT:∀W g5 g6,F W g5 g6→T l' n' (a' g5 g6) W) (hgo:(∀W g5 g6,F W g5 g6→T l' n' (a' g5 g6) W)→T l n a w):T l n a w:=hgo hT
theorem other6 {w0:World} {g b:Nat} {cs:Array Value} {t:TypeId} (h:Bk w0 g cs t) (hne:g≠b) (v0 v1 v2 v3 v4 v5:Value) :
 Bk ((((((w0.setCell ⟨b,0,none⟩ v0).setCell ⟨b,1,none⟩ v1).setCell ⟨b,2,none⟩ v2).setCell ⟨b,3,none⟩ v3).setCell ⟨b,4,none⟩ v4).setCell ⟨b,5,none⟩ v5) g cs t :=
 (((((h.other (a:=⟨b,0,none⟩) hne v0).other (a:=⟨b,1,none⟩) hne v1).other (a:=⟨b,2,none⟩) hne v2).other (a:=⟨b,3,none⟩) hne v3).other (a:=⟨b,4,none⟩) hne v4).other (a:=⟨b,5,none⟩) hne v5
theorem ziD (a b c x y z a' b' c' x' y' z':ByteArray) (w:World):(Op.equalIn 10000 133 (.agg #[.string a,.string b,.string c,.string x,.string y,.string z]) (.agg #[.string a',.string b',.string c',.string x',.string y',.string z'])).run Tryz.prog w = .ok (decide (a=a'∧b=b'∧c=c'∧x=x'∧y=y'∧z=z')) w:=by
 have u9:=Tryz.underlying9;have a9:=Tryz.isAgg9;have z9:=Tryz.sizeOf9;rw [show (10000:Nat)=9999 + 1 from rfl,Op.equalIn];simp only [Sem.run_bind,run_underlying Tryz.underlying133,Result.andThen_ok];simp only [Std.Legacy.Range.forIn_eq_forIn_range',Std.Legacy.Range.size,Nat.sub_zero,Nat.add_sub_cancel,Nat.div_one,List.range'_succ,List.range'_zero,List.forIn_cons,List.forIn_nil];by_cases h1:a=a'
 · by_cases h2:b=b'
   · by_cases h3:c=c'
     · by_cases h4:x=x'
       · by_cases h5:y=y'
         · by_cases h6:z=z'
           · subst h1 h2 h3 h4 h5 h6;go_simp
           · subst h1 h2 h3 h4 h5;have d:=zbo h6;go_simp
         · subst h1 h2 h3 h4;have d:=zbo h5;go_simp
       · subst h1 h2 h3;have d:=zbo h4;go_simp
     · subst h1 h2;have d:=zbo h3;go_simp
   · subst h1;have d:=zbo h2;go_simp
 · have d:=zbo h1;go_simp
theorem zih:∀(l m:List ByteArray) (i:Nat) (u v:ByteArray),l[i]? = some u→m[i]? = some v→u≠v→(∀j,j<i→l[j]? = m[j]?)→cmpL l m=zl3 u v
 | [],_,_,_,_,h,_,_,_=>by simp at h
 | _::_,[],_,_,_,_,h,_,_=>by simp at h
 | x::l,y::m,0,u,v,h,k,hn,_=>by
  simp at h k;subst h k;show (if x=y then _ else _)=_;rw [if_neg hn]
 | x::l,y::m,i + 1,u,v,h,k,hn,he=>by
  have e0:=he 0 (by omega);simp at e0;subst e0;show (if x=x then cmpL l m else _)=_;rw [if_pos rfl];refine zih l m i u v (by simpa using h) (by simpa using k) hn fun j hj=>?_;have:=he (j + 1) (by omega);simpa using this
def nth6 (a b c x y z:ByteArray) (i:Nat):ByteArray:=[a,b,c,x,y,z].getD i ⟨#[]⟩
theorem at6 (a b c x y z:ByteArray) {i:Nat} (h:i<6):(#[.string a,.string b,.string c,.string x,.string y,.string z]:Array Value)[i]? = some (.string (nth6 a b c x y z i))∧[a,b,c,x,y,z][i]? = some (nth6 a b c x y z i):=by
 obtain rfl | rfl | rfl | rfl | rfl | rfl:i=0∨i=1∨i=2∨i=3∨i=4∨i=5:=by omega
 all_goals exact ⟨rfl,rfl⟩
section
variable {w:World}
theorem cmp_any12 (a b c x y z a' b' c' x' y' z':ByteArray) :
 Calls Tryz.prog 43 #[.agg #[.string a,.string b,.string c,.string x,.string y,.string z],.agg #[.string a',.string b',.string c',.string x',.string y',.string z']] w fun e w'=>e = .returned (.int .i64 (cmpT ((a,b,c),(x,y,z)) ((a',b',c'),(x',y',z'))))∧Below w.heap.size w w':=by
 obtain ⟨R,hRd⟩:∃R,Hid (cmpT ((a,b,c),(x,y,z)) ((a',b',c'),(x',y',z'))=R):=⟨_,Lib.hid rfl⟩;rw [hRd.out];have hk:=(Bk.new w #[.string a,.string b,.string c,.string x,.string y,.string z] 71).alloc (.cells #[.string a',.string b',.string c',.string x',.string y',.string z'] 71);have hl:=Bk.new2 w (.cells #[.string a,.string b,.string c,.string x,.string y,.string z] 71) #[.string a',.string b',.string c',.string x',.string y',.string z'] 71;have hB:Below w.heap.size w ((w.alloc (.cells #[.string a,.string b,.string c,.string x,.string y,.string z] 71)).alloc (.cells #[.string a',.string b',.string c',.string x',.string y',.string z'] 71)):=((Below.refl _ w).alloc (Nat.le_refl _) _).alloc (size_alloc (Nat.le_refl _)) _;have k1:∀W:World,_:=fun W=>names_any12 (w:=W) a b c x y z;have k2:∀W:World,_:=fun W=>names_any12 (w:=W) a' b' c' x' y' z';go_enter Tryz.func43,Tryz.ntmps43
 go_upto_region 1 with (fail)
 generalize (w.alloc (.cells #[.string a,.string b,.string c,.string x,.string y,.string z] 71)).alloc (.cells #[.string a',.string b',.string c',.string x',.string y',.string z'] 71)=w1 at *
 go_wp2_with fail
 refine zbx (fun W=>Below w1.heap.size w1 W) 7 (by kernel_rfl) ?_;change zaY _ _ _ _ _ _ _ _ _ (World.drew _);have hW0:Below w1.heap.size w1 (World.drew w1):=(Below.refl _ _).drew;generalize World.drew w1=W0 at *
 refine zab 0 (some 8) (v:=?v0) rfl rfl (by kernel_rfl) (by decide) (by kernel_rfl) (by kernel_rfl) (by kernel_rfl) (fun _ _ _ h=>h) (by rfl) ?y0 hW0 ?r0;case y0=>(intro W hS;have q:=hk.below hS;obtain ⟨q0,q1,q2,q3,q4,q5⟩:=q.c6;have ql:=q.lt;go_simp;try with_reducible rfl)
 simp only [Act.put,List.setIfInBounds_toArray,List.set_cons_zero,List.set_cons_succ];refine zab 2 (some 10) (v:=?v1) rfl rfl (by kernel_rfl) (by decide) (by kernel_rfl) (by kernel_rfl) (by kernel_rfl) (fun _ _ _ h=>h) (by rfl) ?y1 hW0 ?r1;case y1=>(intro W hS;have q:=hl.below hS;obtain ⟨q0,q1,q2,q3,q4,q5⟩:=q.c6;have ql:=q.lt;go_simp;try with_reducible rfl)
 simp only [Act.put,List.setIfInBounds_toArray,List.set_cons_zero,List.set_cons_succ];clear hk hl;refine viaT (T:=fun l n a w=>zaY _ _ _ _ _ _ n l a w) (F:=fun W g5 g6=>Bk W g5 #[.string ⟨#[]⟩,.string ⟨#[]⟩,.string ⟨#[]⟩,.string ⟨#[]⟩,.string ⟨#[]⟩,.string ⟨#[]⟩] 133∧Bk W g6 #[.string ⟨#[]⟩,.string ⟨#[]⟩,.string ⟨#[]⟩,.string ⟨#[]⟩,.string ⟨#[]⟩,.string ⟨#[]⟩] 133∧g5≠g6∧w1.heap.size≤g5∧w1.heap.size≤g6∧Below w1.heap.size w1 W) #[true,true,true,true,true,true,false,false] 2 (fun g5 g6=>{ tmps:=#[.agg #[.string a,.string b,.string c,.string x,.string y,.string z],.agg #[.string a',.string b',.string c',.string x',.string y',.string z'],.pointer (some ⟨w.heap.size,0,none⟩),.pointer (some ⟨w.heap.size + 1,0,none⟩),.int .i64 0,.pointer (some ⟨g5,0,none⟩),.pointer (some ⟨g6,0,none⟩),undef,.agg #[.string a,.string b,.string c,.string x,.string y,.string z],.agg #[.string a,.string b,.string c,.string x,.string y,.string z],.agg #[.string a',.string b',.string c',.string x',.string y',.string z'],.agg #[.string a',.string b',.string c',.string x',.string y',.string z'],undef,undef,undef,undef,undef,undef,undef,undef,undef,undef,undef,undef,undef,undef,undef,undef,undef,undef,undef],defers:=[] }) ?fin (fun fin=>?tree);case tree =>
  refine ziS 1 4 5 rfl rfl rfl (by kernel_rfl) (fun K hK'=>?_) (fun K hK'=>?_) (fun K hK'=>?_)
  · go_simp;refine (k1 W0).mono ?_;rintro e W1 ⟨rfl,hbx⟩;have hW1:=zad hW0 hW0.size hbx;refine hK' _ _ (fun _=>hW1) ?_;clear hK' K hbx
    (try simp only [Act.put,List.setIfInBounds_toArray,List.set_cons_zero,List.set_cons_succ])
    refine ziS 3 4 5 rfl rfl rfl (by kernel_rfl) (fun K hK'=>?_) (fun K hK'=>?_) (fun K hK'=>?_)
    · go_simp;refine (k2 W1).mono ?_;rintro e W2 ⟨rfl,hbx⟩;have hW2:=zad hW1 hW1.size hbx;refine hK' _ _ (fun _=>hW2) ?_;clear hK' K hbx
      (try simp only [Act.put,List.setIfInBounds_toArray,List.set_cons_zero,List.set_cons_succ])
      refine zct 4 5 rfl rfl (by kernel_rfl) (fun K hK'=>?_) (fun K hK'=>?_)
      · go_simp;have hg5:=Bk.new W2 #[.string ⟨#[]⟩,.string ⟨#[]⟩,.string ⟨#[]⟩,.string ⟨#[]⟩,.string ⟨#[]⟩,.string ⟨#[]⟩] 133;have hg5l:=hW2.size;have hW3:=hW2.alloc hW2.size (.cells #[.string ⟨#[]⟩,.string ⟨#[]⟩,.string ⟨#[]⟩,.string ⟨#[]⟩,.string ⟨#[]⟩,.string ⟨#[]⟩] 133);refine hK' _ _ (fun _=>hW3) ?_;clear hK' K;generalize W2.alloc (.cells #[.string ⟨#[]⟩,.string ⟨#[]⟩,.string ⟨#[]⟩,.string ⟨#[]⟩,.string ⟨#[]⟩,.string ⟨#[]⟩] 133)=W3 at *
        generalize W2.heap.size=g5 at *
        (try simp only [Act.put,List.setIfInBounds_toArray,List.set_cons_zero,List.set_cons_succ])
        refine zat 5 rfl (by kernel_rfl) (fun K hK'=>?_);go_simp;have hg6:=Bk.new W3 #[.string ⟨#[]⟩,.string ⟨#[]⟩,.string ⟨#[]⟩,.string ⟨#[]⟩,.string ⟨#[]⟩,.string ⟨#[]⟩] 133;have hg6l:=hW3.size;have hne:=Nat.ne_of_lt hg5.lt;replace hg5:=hg5.alloc (.cells #[.string ⟨#[]⟩,.string ⟨#[]⟩,.string ⟨#[]⟩,.string ⟨#[]⟩,.string ⟨#[]⟩,.string ⟨#[]⟩] 133);have hW4:=hW3.alloc hW3.size (.cells #[.string ⟨#[]⟩,.string ⟨#[]⟩,.string ⟨#[]⟩,.string ⟨#[]⟩,.string ⟨#[]⟩,.string ⟨#[]⟩] 133);refine hK' _ _ (fun _=>hW4) ?_;clear hK' K;generalize W3.alloc (.cells #[.string ⟨#[]⟩,.string ⟨#[]⟩,.string ⟨#[]⟩,.string ⟨#[]⟩,.string ⟨#[]⟩,.string ⟨#[]⟩] 133)=W4 at *
        generalize W3.heap.size=g6 at *
        (try simp only [Act.put,List.setIfInBounds_toArray,List.set_cons_zero,List.set_cons_succ])
        exact fin W4 g5 g6 ⟨hg5,hg6,hne,hg5l,hg6l,hW4⟩
      · go_simp;have hg6:=Bk.new W2 #[.string ⟨#[]⟩,.string ⟨#[]⟩,.string ⟨#[]⟩,.string ⟨#[]⟩,.string ⟨#[]⟩,.string ⟨#[]⟩] 133;have hg6l:=hW2.size;have hW3:=hW2.alloc hW2.size (.cells #[.string ⟨#[]⟩,.string ⟨#[]⟩,.string ⟨#[]⟩,.string ⟨#[]⟩,.string ⟨#[]⟩,.string ⟨#[]⟩] 133);refine hK' _ _ (fun _=>hW3) ?_;clear hK' K;generalize W2.alloc (.cells #[.string ⟨#[]⟩,.string ⟨#[]⟩,.string ⟨#[]⟩,.string ⟨#[]⟩,.string ⟨#[]⟩,.string ⟨#[]⟩] 133)=W3 at *
        generalize W2.heap.size=g6 at *
        (try simp only [Act.put,List.setIfInBounds_toArray,List.set_cons_zero,List.set_cons_succ])
        refine zat 4 rfl (by kernel_rfl) (fun K hK'=>?_);go_simp;have hg5:=Bk.new W3 #[.string ⟨#[]⟩,.string ⟨#[]⟩,.string ⟨#[]⟩,.string ⟨#[]⟩,.string ⟨#[]⟩,.string ⟨#[]⟩] 133;have hg5l:=hW3.size;have hne:=(Nat.ne_of_lt hg6.lt).symm;replace hg6:=hg6.alloc (.cells #[.string ⟨#[]⟩,.string ⟨#[]⟩,.string ⟨#[]⟩,.string ⟨#[]⟩,.string ⟨#[]⟩,.string ⟨#[]⟩] 133);have hW4:=hW3.alloc hW3.size (.cells #[.string ⟨#[]⟩,.string ⟨#[]⟩,.string ⟨#[]⟩,.string ⟨#[]⟩,.string ⟨#[]⟩,.string ⟨#[]⟩] 133);refine hK' _ _ (fun _=>hW4) ?_;clear hK' K;generalize W3.alloc (.cells #[.string ⟨#[]⟩,.string ⟨#[]⟩,.string ⟨#[]⟩,.string ⟨#[]⟩,.string ⟨#[]⟩,.string ⟨#[]⟩] 133)=W4 at *
        generalize W3.heap.size=g5 at *
        (try simp only [Act.put,List.setIfInBounds_toArray,List.set_cons_zero,List.set_cons_succ])
        exact fin W4 g5 g6 ⟨hg5,hg6,hne,hg5l,hg6l,hW4⟩
    · go_simp;have hg5:=Bk.new W1 #[.string ⟨#[]⟩,.string ⟨#[]⟩,.string ⟨#[]⟩,.string ⟨#[]⟩,.string ⟨#[]⟩,.string ⟨#[]⟩] 133;have hg5l:=hW1.size;have hW2:=hW1.alloc hW1.size (.cells #[.string ⟨#[]⟩,.string ⟨#[]⟩,.string ⟨#[]⟩,.string ⟨#[]⟩,.string ⟨#[]⟩,.string ⟨#[]⟩] 133);refine hK' _ _ (fun _=>hW2) ?_;clear hK' K;generalize W1.alloc (.cells #[.string ⟨#[]⟩,.string ⟨#[]⟩,.string ⟨#[]⟩,.string ⟨#[]⟩,.string ⟨#[]⟩,.string ⟨#[]⟩] 133)=W2 at *
      generalize W1.heap.size=g5 at *
      (try simp only [Act.put,List.setIfInBounds_toArray,List.set_cons_zero,List.set_cons_succ])
      refine zct 3 5 rfl rfl (by kernel_rfl) (fun K hK'=>?_) (fun K hK'=>?_)
      · go_simp;refine (k2 W2).mono ?_;rintro e W3 ⟨rfl,hbx⟩;have hW3:=zad hW2 hW2.size hbx;replace hg5:=hg5.below hbx;refine hK' _ _ (fun _=>hW3) ?_;clear hK' K hbx
        (try simp only [Act.put,List.setIfInBounds_toArray,List.set_cons_zero,List.set_cons_succ])
        refine zat 5 rfl (by kernel_rfl) (fun K hK'=>?_);go_simp;have hg6:=Bk.new W3 #[.string ⟨#[]⟩,.string ⟨#[]⟩,.string ⟨#[]⟩,.string ⟨#[]⟩,.string ⟨#[]⟩,.string ⟨#[]⟩] 133;have hg6l:=hW3.size;have hne:=Nat.ne_of_lt hg5.lt;replace hg5:=hg5.alloc (.cells #[.string ⟨#[]⟩,.string ⟨#[]⟩,.string ⟨#[]⟩,.string ⟨#[]⟩,.string ⟨#[]⟩,.string ⟨#[]⟩] 133);have hW4:=hW3.alloc hW3.size (.cells #[.string ⟨#[]⟩,.string ⟨#[]⟩,.string ⟨#[]⟩,.string ⟨#[]⟩,.string ⟨#[]⟩,.string ⟨#[]⟩] 133);refine hK' _ _ (fun _=>hW4) ?_;clear hK' K;generalize W3.alloc (.cells #[.string ⟨#[]⟩,.string ⟨#[]⟩,.string ⟨#[]⟩,.string ⟨#[]⟩,.string ⟨#[]⟩,.string ⟨#[]⟩] 133)=W4 at *
        generalize W3.heap.size=g6 at *
        (try simp only [Act.put,List.setIfInBounds_toArray,List.set_cons_zero,List.set_cons_succ])
        exact fin W4 g5 g6 ⟨hg5,hg6,hne,hg5l,hg6l,hW4⟩
      · go_simp;have hg6:=Bk.new W2 #[.string ⟨#[]⟩,.string ⟨#[]⟩,.string ⟨#[]⟩,.string ⟨#[]⟩,.string ⟨#[]⟩,.string ⟨#[]⟩] 133;have hg6l:=hW2.size;have hne:=Nat.ne_of_lt hg5.lt;replace hg5:=hg5.alloc (.cells #[.string ⟨#[]⟩,.string ⟨#[]⟩,.string ⟨#[]⟩,.string ⟨#[]⟩,.string ⟨#[]⟩,.string ⟨#[]⟩] 133);have hW3:=hW2.alloc hW2.size (.cells #[.string ⟨#[]⟩,.string ⟨#[]⟩,.string ⟨#[]⟩,.string ⟨#[]⟩,.string ⟨#[]⟩,.string ⟨#[]⟩] 133);refine hK' _ _ (fun _=>hW3) ?_;clear hK' K;generalize W2.alloc (.cells #[.string ⟨#[]⟩,.string ⟨#[]⟩,.string ⟨#[]⟩,.string ⟨#[]⟩,.string ⟨#[]⟩,.string ⟨#[]⟩] 133)=W3 at *
        generalize W2.heap.size=g6 at *
        (try simp only [Act.put,List.setIfInBounds_toArray,List.set_cons_zero,List.set_cons_succ])
        refine zat 3 rfl (by kernel_rfl) (fun K hK'=>?_);go_simp;refine (k2 W3).mono ?_;rintro e W4 ⟨rfl,hbx⟩;have hW4:=zad hW3 hW3.size hbx;replace hg5:=hg5.below hbx;replace hg6:=hg6.below hbx;refine hK' _ _ (fun _=>hW4) ?_;clear hK' K hbx
        (try simp only [Act.put,List.setIfInBounds_toArray,List.set_cons_zero,List.set_cons_succ])
        exact fin W4 g5 g6 ⟨hg5,hg6,hne,hg5l,hg6l,hW4⟩
    · go_simp;have hg6:=Bk.new W1 #[.string ⟨#[]⟩,.string ⟨#[]⟩,.string ⟨#[]⟩,.string ⟨#[]⟩,.string ⟨#[]⟩,.string ⟨#[]⟩] 133;have hg6l:=hW1.size;have hW2:=hW1.alloc hW1.size (.cells #[.string ⟨#[]⟩,.string ⟨#[]⟩,.string ⟨#[]⟩,.string ⟨#[]⟩,.string ⟨#[]⟩,.string ⟨#[]⟩] 133);refine hK' _ _ (fun _=>hW2) ?_;clear hK' K;generalize W1.alloc (.cells #[.string ⟨#[]⟩,.string ⟨#[]⟩,.string ⟨#[]⟩,.string ⟨#[]⟩,.string ⟨#[]⟩,.string ⟨#[]⟩] 133)=W2 at *
      generalize W1.heap.size=g6 at *
      (try simp only [Act.put,List.setIfInBounds_toArray,List.set_cons_zero,List.set_cons_succ])
      refine zct 3 4 rfl rfl (by kernel_rfl) (fun K hK'=>?_) (fun K hK'=>?_)
      · go_simp;refine (k2 W2).mono ?_;rintro e W3 ⟨rfl,hbx⟩;have hW3:=zad hW2 hW2.size hbx;replace hg6:=hg6.below hbx;refine hK' _ _ (fun _=>hW3) ?_;clear hK' K hbx
        (try simp only [Act.put,List.setIfInBounds_toArray,List.set_cons_zero,List.set_cons_succ])
        refine zat 4 rfl (by kernel_rfl) (fun K hK'=>?_);go_simp;have hg5:=Bk.new W3 #[.string ⟨#[]⟩,.string ⟨#[]⟩,.string ⟨#[]⟩,.string ⟨#[]⟩,.string ⟨#[]⟩,.string ⟨#[]⟩] 133;have hg5l:=hW3.size;have hne:=(Nat.ne_of_lt hg6.lt).symm;replace hg6:=hg6.alloc (.cells #[.string ⟨#[]⟩,.string ⟨#[]⟩,.string ⟨#[]⟩,.string ⟨#[]⟩,.string ⟨#[]⟩,.string ⟨#[]⟩] 133);have hW4:=hW3.alloc hW3.size (.cells #[.string ⟨#[]⟩,.string ⟨#[]⟩,.string ⟨#[]⟩,.string ⟨#[]⟩,.string ⟨#[]⟩,.string ⟨#[]⟩] 133);refine hK' _ _ (fun _=>hW4) ?_;clear hK' K;generalize W3.alloc (.cells #[.string ⟨#[]⟩,.string ⟨#[]⟩,.string ⟨#[]⟩,.string ⟨#[]⟩,.string ⟨#[]⟩,.string ⟨#[]⟩] 133)=W4 at *
        generalize W3.heap.size=g5 at *
        (try simp only [Act.put,List.setIfInBounds_toArray,List.set_cons_zero,List.set_cons_succ])
        exact fin W4 g5 g6 ⟨hg5,hg6,hne,hg5l,hg6l,hW4⟩
      · go_simp;have hg5:=Bk.new W2 #[.string ⟨#[]⟩,.string ⟨#[]⟩,.string ⟨#[]⟩,.string ⟨#[]⟩,.string ⟨#[]⟩,.string ⟨#[]⟩] 133;have hg5l:=hW2.size;have hne:=(Nat.ne_of_lt hg6.lt).symm;replace hg6:=hg6.alloc (.cells #[.string ⟨#[]⟩,.string ⟨#[]⟩,.string ⟨#[]⟩,.string ⟨#[]⟩,.string ⟨#[]⟩,.string ⟨#[]⟩] 133);have hW3:=hW2.alloc hW2.size (.cells #[.string ⟨#[]⟩,.string ⟨#[]⟩,.string ⟨#[]⟩,.string ⟨#[]⟩,.string ⟨#[]⟩,.string ⟨#[]⟩] 133);refine hK' _ _ (fun _=>hW3) ?_;clear hK' K;generalize W2.alloc (.cells #[.string ⟨#[]⟩,.string ⟨#[]⟩,.string ⟨#[]⟩,.string ⟨#[]⟩,.string ⟨#[]⟩,.string ⟨#[]⟩] 133)=W3 at *
        generalize W2.heap.size=g5 at *
        (try simp only [Act.put,List.setIfInBounds_toArray,List.set_cons_zero,List.set_cons_succ])
        refine zat 3 rfl (by kernel_rfl) (fun K hK'=>?_);go_simp;refine (k2 W3).mono ?_;rintro e W4 ⟨rfl,hbx⟩;have hW4:=zad hW3 hW3.size hbx;replace hg5:=hg5.below hbx;replace hg6:=hg6.below hbx;refine hK' _ _ (fun _=>hW4) ?_;clear hK' K hbx
        (try simp only [Act.put,List.setIfInBounds_toArray,List.set_cons_zero,List.set_cons_succ])
        exact fin W4 g5 g6 ⟨hg5,hg6,hne,hg5l,hg6l,hW4⟩
  · go_simp;have hg5:=Bk.new W0 #[.string ⟨#[]⟩,.string ⟨#[]⟩,.string ⟨#[]⟩,.string ⟨#[]⟩,.string ⟨#[]⟩,.string ⟨#[]⟩] 133;have hg5l:=hW0.size;have hW1:=hW0.alloc hW0.size (.cells #[.string ⟨#[]⟩,.string ⟨#[]⟩,.string ⟨#[]⟩,.string ⟨#[]⟩,.string ⟨#[]⟩,.string ⟨#[]⟩] 133);refine hK' _ _ (fun _=>hW1) ?_;clear hK' K;generalize W0.alloc (.cells #[.string ⟨#[]⟩,.string ⟨#[]⟩,.string ⟨#[]⟩,.string ⟨#[]⟩,.string ⟨#[]⟩,.string ⟨#[]⟩] 133)=W1 at *
    generalize W0.heap.size=g5 at *
    (try simp only [Act.put,List.setIfInBounds_toArray,List.set_cons_zero,List.set_cons_succ])
    refine zct 1 5 rfl rfl (by kernel_rfl) (fun K hK'=>?_) (fun K hK'=>?_)
    · go_simp;refine (k1 W1).mono ?_;rintro e W2 ⟨rfl,hbx⟩;have hW2:=zad hW1 hW1.size hbx;replace hg5:=hg5.below hbx;refine hK' _ _ (fun _=>hW2) ?_;clear hK' K hbx
      (try simp only [Act.put,List.setIfInBounds_toArray,List.set_cons_zero,List.set_cons_succ])
      refine zct 3 5 rfl rfl (by kernel_rfl) (fun K hK'=>?_) (fun K hK'=>?_)
      · go_simp;refine (k2 W2).mono ?_;rintro e W3 ⟨rfl,hbx⟩;have hW3:=zad hW2 hW2.size hbx;replace hg5:=hg5.below hbx;refine hK' _ _ (fun _=>hW3) ?_;clear hK' K hbx
        (try simp only [Act.put,List.setIfInBounds_toArray,List.set_cons_zero,List.set_cons_succ])
        refine zat 5 rfl (by kernel_rfl) (fun K hK'=>?_);go_simp;have hg6:=Bk.new W3 #[.string ⟨#[]⟩,.string ⟨#[]⟩,.string ⟨#[]⟩,.string ⟨#[]⟩,.string ⟨#[]⟩,.string ⟨#[]⟩] 133;have hg6l:=hW3.size;have hne:=Nat.ne_of_lt hg5.lt;replace hg5:=hg5.alloc (.cells #[.string ⟨#[]⟩,.string ⟨#[]⟩,.string ⟨#[]⟩,.string ⟨#[]⟩,.string ⟨#[]⟩,.string ⟨#[]⟩] 133);have hW4:=hW3.alloc hW3.size (.cells #[.string ⟨#[]⟩,.string ⟨#[]⟩,.string ⟨#[]⟩,.string ⟨#[]⟩,.string ⟨#[]⟩,.string ⟨#[]⟩] 133);refine hK' _ _ (fun _=>hW4) ?_;clear hK' K;generalize W3.alloc (.cells #[.string ⟨#[]⟩,.string ⟨#[]⟩,.string ⟨#[]⟩,.string ⟨#[]⟩,.string ⟨#[]⟩,.string ⟨#[]⟩] 133)=W4 at *
        generalize W3.heap.size=g6 at *
        (try simp only [Act.put,List.setIfInBounds_toArray,List.set_cons_zero,List.set_cons_succ])
        exact fin W4 g5 g6 ⟨hg5,hg6,hne,hg5l,hg6l,hW4⟩
      · go_simp;have hg6:=Bk.new W2 #[.string ⟨#[]⟩,.string ⟨#[]⟩,.string ⟨#[]⟩,.string ⟨#[]⟩,.string ⟨#[]⟩,.string ⟨#[]⟩] 133;have hg6l:=hW2.size;have hne:=Nat.ne_of_lt hg5.lt;replace hg5:=hg5.alloc (.cells #[.string ⟨#[]⟩,.string ⟨#[]⟩,.string ⟨#[]⟩,.string ⟨#[]⟩,.string ⟨#[]⟩,.string ⟨#[]⟩] 133);have hW3:=hW2.alloc hW2.size (.cells #[.string ⟨#[]⟩,.string ⟨#[]⟩,.string ⟨#[]⟩,.string ⟨#[]⟩,.string ⟨#[]⟩,.string ⟨#[]⟩] 133);refine hK' _ _ (fun _=>hW3) ?_;clear hK' K;generalize W2.alloc (.cells #[.string ⟨#[]⟩,.string ⟨#[]⟩,.string ⟨#[]⟩,.string ⟨#[]⟩,.string ⟨#[]⟩,.string ⟨#[]⟩] 133)=W3 at *
        generalize W2.heap.size=g6 at *
        (try simp only [Act.put,List.setIfInBounds_toArray,List.set_cons_zero,List.set_cons_succ])
        refine zat 3 rfl (by kernel_rfl) (fun K hK'=>?_);go_simp;refine (k2 W3).mono ?_;rintro e W4 ⟨rfl,hbx⟩;have hW4:=zad hW3 hW3.size hbx;replace hg5:=hg5.below hbx;replace hg6:=hg6.below hbx;refine hK' _ _ (fun _=>hW4) ?_;clear hK' K hbx
        (try simp only [Act.put,List.setIfInBounds_toArray,List.set_cons_zero,List.set_cons_succ])
        exact fin W4 g5 g6 ⟨hg5,hg6,hne,hg5l,hg6l,hW4⟩
    · go_simp;have hg6:=Bk.new W1 #[.string ⟨#[]⟩,.string ⟨#[]⟩,.string ⟨#[]⟩,.string ⟨#[]⟩,.string ⟨#[]⟩,.string ⟨#[]⟩] 133;have hg6l:=hW1.size;have hne:=Nat.ne_of_lt hg5.lt;replace hg5:=hg5.alloc (.cells #[.string ⟨#[]⟩,.string ⟨#[]⟩,.string ⟨#[]⟩,.string ⟨#[]⟩,.string ⟨#[]⟩,.string ⟨#[]⟩] 133);have hW2:=hW1.alloc hW1.size (.cells #[.string ⟨#[]⟩,.string ⟨#[]⟩,.string ⟨#[]⟩,.string ⟨#[]⟩,.string ⟨#[]⟩,.string ⟨#[]⟩] 133);refine hK' _ _ (fun _=>hW2) ?_;clear hK' K;generalize W1.alloc (.cells #[.string ⟨#[]⟩,.string ⟨#[]⟩,.string ⟨#[]⟩,.string ⟨#[]⟩,.string ⟨#[]⟩,.string ⟨#[]⟩] 133)=W2 at *
      generalize W1.heap.size=g6 at *
      (try simp only [Act.put,List.setIfInBounds_toArray,List.set_cons_zero,List.set_cons_succ])
      refine zat 1 rfl (by kernel_rfl) (fun K hK'=>?_);go_simp;refine (k1 W2).mono ?_;rintro e W3 ⟨rfl,hbx⟩;have hW3:=zad hW2 hW2.size hbx;replace hg5:=hg5.below hbx;replace hg6:=hg6.below hbx;refine hK' _ _ (fun _=>hW3) ?_;clear hK' K hbx
      (try simp only [Act.put,List.setIfInBounds_toArray,List.set_cons_zero,List.set_cons_succ])
      refine zat 3 rfl (by kernel_rfl) (fun K hK'=>?_);go_simp;refine (k2 W3).mono ?_;rintro e W4 ⟨rfl,hbx⟩;have hW4:=zad hW3 hW3.size hbx;replace hg5:=hg5.below hbx;replace hg6:=hg6.below hbx;refine hK' _ _ (fun _=>hW4) ?_;clear hK' K hbx
      (try simp only [Act.put,List.setIfInBounds_toArray,List.set_cons_zero,List.set_cons_succ])
      exact fin W4 g5 g6 ⟨hg5,hg6,hne,hg5l,hg6l,hW4⟩
  · go_simp;have hg6:=Bk.new W0 #[.string ⟨#[]⟩,.string ⟨#[]⟩,.string ⟨#[]⟩,.string ⟨#[]⟩,.string ⟨#[]⟩,.string ⟨#[]⟩] 133;have hg6l:=hW0.size;have hW1:=hW0.alloc hW0.size (.cells #[.string ⟨#[]⟩,.string ⟨#[]⟩,.string ⟨#[]⟩,.string ⟨#[]⟩,.string ⟨#[]⟩,.string ⟨#[]⟩] 133);refine hK' _ _ (fun _=>hW1) ?_;clear hK' K;generalize W0.alloc (.cells #[.string ⟨#[]⟩,.string ⟨#[]⟩,.string ⟨#[]⟩,.string ⟨#[]⟩,.string ⟨#[]⟩,.string ⟨#[]⟩] 133)=W1 at *
    generalize W0.heap.size=g6 at *
    (try simp only [Act.put,List.setIfInBounds_toArray,List.set_cons_zero,List.set_cons_succ])
    refine zct 1 4 rfl rfl (by kernel_rfl) (fun K hK'=>?_) (fun K hK'=>?_)
    · go_simp;refine (k1 W1).mono ?_;rintro e W2 ⟨rfl,hbx⟩;have hW2:=zad hW1 hW1.size hbx;replace hg6:=hg6.below hbx;refine hK' _ _ (fun _=>hW2) ?_;clear hK' K hbx
      (try simp only [Act.put,List.setIfInBounds_toArray,List.set_cons_zero,List.set_cons_succ])
      refine zct 3 4 rfl rfl (by kernel_rfl) (fun K hK'=>?_) (fun K hK'=>?_)
      · go_simp;refine (k2 W2).mono ?_;rintro e W3 ⟨rfl,hbx⟩;have hW3:=zad hW2 hW2.size hbx;replace hg6:=hg6.below hbx;refine hK' _ _ (fun _=>hW3) ?_;clear hK' K hbx
        (try simp only [Act.put,List.setIfInBounds_toArray,List.set_cons_zero,List.set_cons_succ])
        refine zat 4 rfl (by kernel_rfl) (fun K hK'=>?_);go_simp;have hg5:=Bk.new W3 #[.string ⟨#[]⟩,.string ⟨#[]⟩,.string ⟨#[]⟩,.string ⟨#[]⟩,.string ⟨#[]⟩,.string ⟨#[]⟩] 133;have hg5l:=hW3.size;have hne:=(Nat.ne_of_lt hg6.lt).symm;replace hg6:=hg6.alloc (.cells #[.string ⟨#[]⟩,.string ⟨#[]⟩,.string ⟨#[]⟩,.string ⟨#[]⟩,.string ⟨#[]⟩,.string ⟨#[]⟩] 133);have hW4:=hW3.alloc hW3.size (.cells #[.string ⟨#[]⟩,.string ⟨#[]⟩,.string ⟨#[]⟩,.string ⟨#[]⟩,.string ⟨#[]⟩,.string ⟨#[]⟩] 133);refine hK' _ _ (fun _=>hW4) ?_;clear hK' K;generalize W3.alloc (.cells #[.string ⟨#[]⟩,.string ⟨#[]⟩,.string ⟨#[]⟩,.string ⟨#[]⟩,.string ⟨#[]⟩,.string ⟨#[]⟩] 133)=W4 at *
        generalize W3.heap.size=g5 at *
        (try simp only [Act.put,List.setIfInBounds_toArray,List.set_cons_zero,List.set_cons_succ])
        exact fin W4 g5 g6 ⟨hg5,hg6,hne,hg5l,hg6l,hW4⟩
      · go_simp;have hg5:=Bk.new W2 #[.string ⟨#[]⟩,.string ⟨#[]⟩,.string ⟨#[]⟩,.string ⟨#[]⟩,.string ⟨#[]⟩,.string ⟨#[]⟩] 133;have hg5l:=hW2.size;have hne:=(Nat.ne_of_lt hg6.lt).symm;replace hg6:=hg6.alloc (.cells #[.string ⟨#[]⟩,.string ⟨#[]⟩,.string ⟨#[]⟩,.string ⟨#[]⟩,.string ⟨#[]⟩,.string ⟨#[]⟩] 133);have hW3:=hW2.alloc hW2.size (.cells #[.string ⟨#[]⟩,.string ⟨#[]⟩,.string ⟨#[]⟩,.string ⟨#[]⟩,.string ⟨#[]⟩,.string ⟨#[]⟩] 133);refine hK' _ _ (fun _=>hW3) ?_;clear hK' K;generalize W2.alloc (.cells #[.string ⟨#[]⟩,.string ⟨#[]⟩,.string ⟨#[]⟩,.string ⟨#[]⟩,.string ⟨#[]⟩,.string ⟨#[]⟩] 133)=W3 at *
        generalize W2.heap.size=g5 at *
        (try simp only [Act.put,List.setIfInBounds_toArray,List.set_cons_zero,List.set_cons_succ])
        refine zat 3 rfl (by kernel_rfl) (fun K hK'=>?_);go_simp;refine (k2 W3).mono ?_;rintro e W4 ⟨rfl,hbx⟩;have hW4:=zad hW3 hW3.size hbx;replace hg5:=hg5.below hbx;replace hg6:=hg6.below hbx;refine hK' _ _ (fun _=>hW4) ?_;clear hK' K hbx
        (try simp only [Act.put,List.setIfInBounds_toArray,List.set_cons_zero,List.set_cons_succ])
        exact fin W4 g5 g6 ⟨hg5,hg6,hne,hg5l,hg6l,hW4⟩
    · go_simp;have hg5:=Bk.new W1 #[.string ⟨#[]⟩,.string ⟨#[]⟩,.string ⟨#[]⟩,.string ⟨#[]⟩,.string ⟨#[]⟩,.string ⟨#[]⟩] 133;have hg5l:=hW1.size;have hne:=(Nat.ne_of_lt hg6.lt).symm;replace hg6:=hg6.alloc (.cells #[.string ⟨#[]⟩,.string ⟨#[]⟩,.string ⟨#[]⟩,.string ⟨#[]⟩,.string ⟨#[]⟩,.string ⟨#[]⟩] 133);have hW2:=hW1.alloc hW1.size (.cells #[.string ⟨#[]⟩,.string ⟨#[]⟩,.string ⟨#[]⟩,.string ⟨#[]⟩,.string ⟨#[]⟩,.string ⟨#[]⟩] 133);refine hK' _ _ (fun _=>hW2) ?_;clear hK' K;generalize W1.alloc (.cells #[.string ⟨#[]⟩,.string ⟨#[]⟩,.string ⟨#[]⟩,.string ⟨#[]⟩,.string ⟨#[]⟩,.string ⟨#[]⟩] 133)=W2 at *
      generalize W1.heap.size=g5 at *
      (try simp only [Act.put,List.setIfInBounds_toArray,List.set_cons_zero,List.set_cons_succ])
      refine zat 1 rfl (by kernel_rfl) (fun K hK'=>?_);go_simp;refine (k1 W2).mono ?_;rintro e W3 ⟨rfl,hbx⟩;have hW3:=zad hW2 hW2.size hbx;replace hg5:=hg5.below hbx;replace hg6:=hg6.below hbx;refine hK' _ _ (fun _=>hW3) ?_;clear hK' K hbx
      (try simp only [Act.put,List.setIfInBounds_toArray,List.set_cons_zero,List.set_cons_succ])
      refine zat 3 rfl (by kernel_rfl) (fun K hK'=>?_);go_simp;refine (k2 W3).mono ?_;rintro e W4 ⟨rfl,hbx⟩;have hW4:=zad hW3 hW3.size hbx;replace hg5:=hg5.below hbx;replace hg6:=hg6.below hbx;refine hK' _ _ (fun _=>hW4) ?_;clear hK' K hbx
      (try simp only [Act.put,List.setIfInBounds_toArray,List.set_cons_zero,List.set_cons_succ])
      exact fin W4 g5 g6 ⟨hg5,hg6,hne,hg5l,hg6l,hW4⟩
 case fin =>
  rintro W g5 g6 ⟨hg5,hg6,hne,hg5l,hg6l,hW⟩;clear k1 k2 hW0;obtain ⟨a0,a1,a2,a3,a4,a5⟩:=hg5.c6;have al:=hg5.lt;have af:=hg5.fz;refine zat 6 rfl (by kernel_rfl) (fun K hK'=>?_);go_simp;obtain ⟨hs5,hW5⟩:=zkD hg5 hW hg5l (.string a) (.string b) (.string c) (.string x) (.string y) (.string z);have hs6:=other6 hg6 hne.symm (.string a) (.string b) (.string c) (.string x) (.string y) (.string z);refine hK' _ _ (fun _=>hW5) ?_;clear hK' K a0 a1 a2 a3 a4 a5 al af hg5 hg6 hW;generalize (((((W.setCell ⟨g5,0,none⟩ (.string a)).setCell ⟨g5,1,none⟩ (.string b)).setCell ⟨g5,2,none⟩ (.string c)).setCell ⟨g5,3,none⟩ (.string x)).setCell ⟨g5,4,none⟩ (.string y)).setCell ⟨g5,5,none⟩ (.string z)=X at *
  obtain ⟨a0,a1,a2,a3,a4,a5⟩:=hs6.c6;have al:=hs6.lt;have af:=hs6.fz;refine zat 7 rfl (by kernel_rfl) (fun K hK'=>?_);go_simp;obtain ⟨ht6,hW6⟩:=zkD hs6 hW5 hg6l (.string a') (.string b') (.string c') (.string x') (.string y') (.string z');have ht5:=other6 hs5 hne (.string a') (.string b') (.string c') (.string x') (.string y') (.string z');refine hK' _ _ (fun h=>absurd rfl h) ?_;clear hK' K a0 a1 a2 a3 a4 a5 al af hs5 hs6 hW5;generalize (((((X.setCell ⟨g6,0,none⟩ (.string a')).setCell ⟨g6,1,none⟩ (.string b')).setCell ⟨g6,2,none⟩ (.string c')).setCell ⟨g6,3,none⟩ (.string x')).setCell ⟨g6,4,none⟩ (.string y')).setCell ⟨g6,5,none⟩ (.string z')=Y at *
  refine zbl (by kernel_rfl) ?_ _;have hY:=zad hB hB.size hW6;obtain ⟨a0,a1,a2,a3,a4,a5⟩:=ht5.c6;have al:=ht5.lt;obtain ⟨b0,b1,b2,b3,b4,b5⟩:=ht6.c6;have bl:=ht6.lt;by_cases heq:a=a'∧b=b'∧c=c'∧x=x'∧y=y'∧z=z'
  · have hq:∀W,(Op.equalIn 10000 133 (.agg #[.string a,.string b,.string c,.string x,.string y,.string z]) (.agg #[.string a',.string b',.string c',.string x',.string y',.string z'])).run Tryz.prog W = .ok true W:=fun W=>by rw [ziD,decide_eq_true heq]
    obtain rfl:R=0:=by
     rw [←hRd.out,zig];obtain ⟨rfl,rfl,rfl,rfl,rfl,rfl⟩:=heq;rfl
    clear heq;go_wp2_with fail
    go_ret
    exact ⟨rfl,hY⟩
  · have hq:∀W,(Op.equalIn 10000 133 (.agg #[.string a,.string b,.string c,.string x,.string y,.string z]) (.agg #[.string a',.string b',.string c',.string x',.string y',.string z'])).run Tryz.prog W = .ok false W:=fun W=>by rw [ziD,decide_eq_false heq]
    have Heq:=Lib.hid heq;clear heq;go_wp2_with fail
    clear a0 a1 a2 a3 a4 a5 b0 b1 b2 b3 b4 b5 al bl hq;go_loopw [7] (fun vi wx=>∃i:Nat,vi = .int .i64 i∧(∀j,j<i→[a,b,c,x,y,z][j]? = [a',b',c',x',y',z'][j]?)∧i≤5∧Below Y.heap.size Y wx) (fun vi _=>6-(intOf vi).toNat)
    case atStart=>exact ⟨0,rfl,fun j hj=>absurd hj (Nat.not_lt_zero _),by omega,Below.refl _ _⟩
    case round =>
     obtain ⟨i,rfl,hj,hi,hbx⟩:=hrel;have Hj:=Lib.hid hj;clear hj;have hi0:(0:Int)≤(i:Int):=by omega
     have hi6:(i:Int)<6:=by omega
     obtain ⟨e1,f1⟩:=at6 a b c x y z (i:=i) (by omega);obtain ⟨e2,f2⟩:=at6 a' b' c' x' y' z' (i:=i) (by omega);have g1:=ht5.below hbx;have g2:=ht6.below hbx;have c1:wr.cell? ⟨g5,i,none⟩=_:=(g1.cell i).trans e1;have c2:wr.cell? ⟨g6,i,none⟩=_:=(g2.cell i).trans e2;have l1:=g1.lt;have l2:=g2.lt;clear e1 e2;have F1:=Lib.hid f1;have F2:=Lib.hid f2;clear f1 f2 g1 g2;generalize nth6 a b c x y z i=u at *
     generalize nth6 a' b' c' x' y' z' i=v at *
     by_cases huv:u=v
     · have d:(u.toList == v.toList)=true:=zb2 huv;have hi5:i<5:=by
        rcases Nat.lt_or_ge i 5 with h | h
        · exact h
        · obtain rfl:i=5:=by omega
          have q0:=Hj.out 0 (by omega);have q1:=Hj.out 1 (by omega);have q2:=Hj.out 2 (by omega);have q3:=Hj.out 3 (by omega);have q4:=Hj.out 4 (by omega);have r1:=F1.out;have r2:=F2.out;simp at q0 q1 q2 q3 q4 r1 r2;exact absurd ⟨q0,q1,q2,q3,q4,by rw [r1,r2,huv]⟩ Heq.out
       have hn:Hid (∀j,j<i + 1→[a,b,c,x,y,z][j]? = [a',b',c',x',y',z'][j]?):=Lib.hid fun j hj=>by
        rcases Nat.lt_or_ge j i with h | h
        · exact Hj.out j h
        · obtain rfl:j=i:=by omega
          rw [F1.out,F2.out,huv]
       clear huv;go_wp2_with fail
       go_quiet (fail)
       go_wp2_with fail
       refine ⟨⟨i + 1,by go_num,hn.out,by omega,hbx.trans ⟨rfl,rfl,rfl,Nat.le_refl _,fun _ _=>rfl⟩⟩,?_⟩;simp [intOf];omega
     · have d:(u.toList == v.toList)=false:=zbo huv;have hR:R=zl3 u v:=by
        rw [←hRd.out];exact zih _ _ i u v F1.out F2.out huv Hj.out
       clear huv;go_wp2_with fail
       go_quiet (fail)
       go_wp2_with fail
       replace c1:(wr.drewN nq).cell? ⟨g5,i,none⟩=some (.string u):=c1;replace c2:(wr.drewN nq).cell? ⟨g6,i,none⟩=some (.string v):=c2;replace l1:g5<(wr.drewN nq).heap.size:=l1;replace l2:g6<(wr.drewN nq).heap.size:=l2;replace hbx:Below Y.heap.size Y (wr.drewN nq):=hbx.trans ⟨rfl,rfl,rfl,Nat.le_refl _,fun _ _=>rfl⟩;generalize wr.drewN nq=wd at *
       go_quiet (first | (go_at_call 75;exact Calls.quiet_of_same (scmp_any u v _)) | fail)
       go_wp2_with fail
       go_ret
       exact ⟨by rw [hR];rfl,(zad hY hY.size hbx).trans ⟨rfl,rfl,rfl,Nat.le_refl _,fun _ _=>rfl⟩⟩
end
end Go.Proofs.YtahegpfdbgbioaaGreat
namespace Go.Proofs.YtahegpfdbgbioaaGreat
open Go.RowKit
theorem ret_bool {a b:Bool} (h:a=b):Ending.returned (.bool a) = .returned (.bool b):=by rw [h]
theorem zhW {k:IntKind} {a b:Int} (h:a=b):Ending.returned (.int k a) = .returned (.int k b):=by rw [h]
theorem in_any (s:ByteArray) (z l u:Int) (i lo hi:Nat) (w:World) (hz:z=i) (hl:l=lo) (hu:u=hi) :
 Calls Tryz.prog 185 #[.string s,.int .i64 z,.int .u8 l,.int .u8 u] w fun e w'=>e = .returned (.bool (inB s i lo hi))∧w=w':=by
 subst hz hl hu;by_cases h:i<s.size
 · have hb:=zdp s i h;go_enter Tryz.func185,Tryz.ntmps185
   go_wp2
   all_goals go_ret
   all_goals (refine ⟨ret_bool ?_,rfl⟩;unfold inB;simp [*])
 · go_enter Tryz.func185,Tryz.ntmps185
   go_wp2
   go_ret
   refine ⟨ret_bool ?_,rfl⟩;unfold inB;simp [h]
theorem lng_wd (s:ByteArray) (i:Nat):lng s i=0∧wd s i=1∨lng s i=wd s i:=by
 unfold lng;by_cases hb:brk s i=true
 · refine .inl ⟨by rw [if_pos hb],?_⟩;unfold brk at hb;exact (of_decide_eq_true hb).2
 · exact .inr (if_neg hb)
theorem long_any (s:ByteArray) (i:Nat) (w:World) (hs:s.size≤1000000) (h:i<s.size) :
 Calls Tryz.prog 147 #[.string s,.int .i64 i] w fun e w'=>e = .returned (.int .i64 (lng s i))∧w=w':=by
 have HE:=Lib.hid (lng_eq h);have hb:=zdp s i h;have HB:=Lib.hid hb;clear hb;go_enter Tryz.func147,Tryz.ntmps147
 go_wp2_with (first
  | ((with_reducible refine (in_any _ _ 128 191 (i + 1) _ _ _ (by omega) rfl rfl).mono ?_);rintro e w' ⟨rfl,rfl⟩)
  | ((with_reducible refine (in_any _ _ 160 191 (i + 1) _ _ _ (by omega) rfl rfl).mono ?_);rintro e w' ⟨rfl,rfl⟩)
  | ((with_reducible refine (in_any _ _ 128 159 (i + 1) _ _ _ (by omega) rfl rfl).mono ?_);rintro e w' ⟨rfl,rfl⟩)
  | ((with_reducible refine (in_any _ _ 144 191 (i + 1) _ _ _ (by omega) rfl rfl).mono ?_);rintro e w' ⟨rfl,rfl⟩)
  | ((with_reducible refine (in_any _ _ 128 143 (i + 1) _ _ _ (by omega) rfl rfl).mono ?_);rintro e w' ⟨rfl,rfl⟩)
  | ((with_reducible refine (in_any _ _ 128 191 (i + 2) _ _ _ (by omega) rfl rfl).mono ?_);rintro e w' ⟨rfl,rfl⟩)
  | ((with_reducible refine (in_any _ _ 128 191 (i + 3) _ _ _ (by omega) rfl rfl).mono ?_);rintro e w' ⟨rfl,rfl⟩))
 all_goals go_ret
 all_goals (refine ⟨zhW ?_,rfl⟩;rw [HE.out,HB.out];clear HE HB;generalize s[i].toNat=b at *;try simp only [beq_iff_eq,beq_eq_false_iff_ne,ne_eq,Bool.not_eq_true] at *)
 all_goals (repeat' split)
 all_goals (first | rfl | (exfalso;omega) | (exfalso;simp_all;done) | (exfalso;simp_all;omega))
theorem step_any (s:ByteArray) (z:Int) (i:Nat) (w:World) (hz:z=i) (hs:s.size≤1000000) (h:i<s.size) :
 Calls Tryz.prog 115 #[.string s,.int .i64 z] w fun e w'=>e = .returned (.int .i64 ((i + wd s i:Nat):Int))∧w=w':=by
 subst hz;have h1:=zcF h;have h2:=wd_le h;have hl:(0:Int)≤lng s i:=by omega
 rcases lng_wd s i with ⟨e,e'⟩ | e
 · have hd:(((lng s i:Nat):Int) == 0)=true:=by simp [e]
   have E':=Lib.hid e';clear e e';go_enter Tryz.func115,Tryz.ntmps115
   go_wp2_with ((with_reducible refine (long_any _ _ _ hs h).mono ?_);rintro e w' ⟨rfl,rfl⟩)
   go_ret
   exact ⟨zhW (by have:=E'.out;omega),rfl⟩
 · have hd:(((lng s i:Nat):Int) == 0)=false:=by simp;omega
   have hq:(lng s i:Int)≤1000000:=by omega
   have E':=Lib.hid e;clear e;go_enter Tryz.func115,Tryz.ntmps115
   go_wp2_with ((with_reducible refine (long_any _ _ _ hs h).mono ?_);rintro e w' ⟨rfl,rfl⟩)
   go_ret
   exact ⟨zhW (by have:=E'.out;omega),rfl⟩
theorem rmay_any (s:ByteArray) (i:Nat) (w:World) (hs:s.size≤1000000) (h:i<s.size) :
 Calls Tryz.prog 116 #[.string s,.int .i64 i] w fun e w'=>e = .returned (.bool (zcg s i))∧w=w':=by
 have E:=Lib.hid (zmI h);have hb:=zdp s i h;have hl:=lng_le h;by_cases h1:lng s i=1
 · have hd:(((lng s i:Nat):Int) == 1)=true:=by simp [h1]
   have HB:=Lib.hid hb;have H1:=Lib.hid h1;clear hb h1;go_enter Tryz.func116,Tryz.ntmps116
   go_wp2_with ((with_reducible refine (long_any s i _ hs h).mono ?_);rintro e w' ⟨rfl,rfl⟩)
   all_goals go_ret
   all_goals (refine ⟨ret_bool ?_,rfl⟩;rw [E.out,if_pos H1.out,HB.out];unfold zgF;try simp only [beq_iff_eq] at *)
   all_goals first
    | (symm;exact decide_eq_true (by omega))
    | (rw [Bool.eq_iff_iff];simp only [decide_eq_true_eq,beq_iff_eq,Bool.or_eq_true];omega)
 · have hd:(((lng s i:Nat):Int) == 1)=false:=by simp;omega
   have HB:=Lib.hid hb;have H1:=Lib.hid h1;clear hb h1;by_cases h2:1<lng s i
   · have hn:=lng_next h h2;have HB1:=Lib.hid (zdp s (i + 1) hn);have hd2:(1:Int)<lng s i:=by omega
     go_enter Tryz.func116,Tryz.ntmps116
     go_wp2_with ((with_reducible refine (long_any s i _ hs h).mono ?_);rintro e w' ⟨rfl,rfl⟩)
     all_goals go_ret
     all_goals (refine ⟨ret_bool ?_,rfl⟩;rw [E.out,if_neg H1.out,HB.out,HB1.out,decide_eq_true h2,Bool.eq_iff_iff];simp only [Bool.true_and,Bool.or_eq_true,Bool.not_eq_true',decide_eq_true_eq,decide_eq_false_iff_not];first | omega | (simp only [true_iff];omega))
   · have hd2:¬(1:Int)<lng s i:=by omega
     go_enter Tryz.func116,Tryz.ntmps116
     go_wp2_with ((with_reducible refine (long_any s i _ hs h).mono ?_);rintro e w' ⟨rfl,rfl⟩)
     go_ret
     exact ⟨ret_bool (by rw [E.out,if_neg H1.out,decide_eq_false h2];rfl),rfl⟩
theorem rcount12 (s:ByteArray) (w:World) (hs:s.size≤1000000) :
 Calls Tryz.prog 117 #[.string s] w fun e w'=>e = .returned (.int .i64 (cnt s))∧w=w':=by
 go_enter Tryz.func117,Tryz.ntmps117
 go_wp2
 go_loop [3,4] (fun n i=>∃k:Nat,k≤cnt s∧n = .int .i64 k∧i = .int .i64 (plc s k)) (fun _ i=>s.size-(intOf i).toNat)
 case atStart=>exact ⟨0,Nat.zero_le _,rfl,rfl⟩
 case round =>
  obtain ⟨k,hk,rfl,rfl⟩:=hrel;have hc:=zcD s;have hl:=zaM s k;by_cases h:plc s k<s.size
  · have hk2:=zaR.2 h;have hw:=zcF h;have HS:=Lib.hid (zaC h);go_wp2_with ((with_reducible refine (step_any s _ (plc s k) _ rfl hs h).mono ?_);rintro e w' ⟨rfl,rfl⟩)
    go_round
    case rel=>exact ⟨k + 1,by omega,by go_num,by rw [HS.out];go_num⟩
    case measure=>simp [intOf];omega
  · have e:=zdh h fun j hj=>zaR.1 (by omega);have E:=Lib.hid e;clear e;go_wp2
    go_ret
    exact ⟨zhW (by rw [E.out]),rfl⟩
theorem rname12 (s:ByteArray) (w:World) (hs:s.size≤1000000) :
 Calls Tryz.prog 74 #[.string s] w fun e w'=>e = .returned (.bool (nameS s))∧w=w':=by
 go_enter Tryz.func74,Tryz.ntmps74
 go_wp2
 go_loop [3] (fun i=>∃k:Nat,k≤cnt s∧i = .int .i64 (plc s k)∧∀j,j<k→zcg s (plc s j)=true) (fun i=>s.size-(intOf i).toNat)
 case atStart=>exact ⟨0,Nat.zero_le _,rfl,fun j hj=>by omega⟩
 case round =>
  obtain ⟨k,hk,rfl,hall⟩:=hrel;have Hall:=Lib.hid hall;clear hall;have hc:=zcD s;have hl:=zaM s k;by_cases h:plc s k<s.size
  · have hk2:=zaR.2 h;have hw:=zcF h;have HS:=Lib.hid (zaC h);by_cases hm:zcg s (plc s k)=true
    · go_wp2_with (first
       | ((with_reducible refine (rmay_any s (plc s k) _ hs h).mono ?_);rintro e w' ⟨rfl,rfl⟩)
       | ((with_reducible refine (step_any s _ (plc s k) _ rfl hs h).mono ?_);rintro e w' ⟨rfl,rfl⟩))
      go_round
      case rel =>
       refine ⟨k + 1,by omega,by rw [HS.out];go_num,fun j hj=>?_⟩;by_cases e:j=k
       · subst e;exact hm
       · exact Hall.out j (by omega)
      case measure=>simp [intOf];omega
    · rw [Bool.not_eq_true] at hm;go_wp2_with (first
       | ((with_reducible refine (rmay_any s (plc s k) _ hs h).mono ?_);rintro e w' ⟨rfl,rfl⟩)
       | ((with_reducible refine (step_any s _ (plc s k) _ rfl hs h).mono ?_);rintro e w' ⟨rfl,rfl⟩))
      go_ret
      refine ⟨ret_bool ?_,rfl⟩;symm
      rw [Bool.eq_false_iff];intro hv;have:=(za4.1 hv).2.2 k hk2;rw [hm] at this;cases this
  · have e:=zdh h fun j hj=>zaR.1 (by omega);have E:=Lib.hid e;clear e;by_cases h0:0<cnt s
    · have hd:(0:Int)<(cnt s:Int):=by omega
      go_wp2_with ((with_reducible refine (rcount12 s _ hs).mono ?_);rintro e w' ⟨rfl,rfl⟩)
      go_ret
      refine ⟨ret_bool ?_,rfl⟩;rw [Bool.eq_iff_iff,za4,E.out];simp only [decide_eq_true_eq];refine ⟨fun h24=>⟨by have:=E.out;omega,by omega,Hall.out⟩,fun h24=>by omega⟩
    · have hd:¬(0:Int)<(cnt s:Int):=by omega
      go_wp2_with ((with_reducible refine (rcount12 s _ hs).mono ?_);rintro e w' ⟨rfl,rfl⟩)
      go_ret
      refine ⟨ret_bool ?_,rfl⟩;symm
      rw [Bool.eq_false_iff];intro hv;exact h0 (za4.1 hv).1
end Go.Proofs.YtahegpfdbgbioaaGreat
