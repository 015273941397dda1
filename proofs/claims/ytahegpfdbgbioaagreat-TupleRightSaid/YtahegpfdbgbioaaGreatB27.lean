import Derived.Test.YtahegpfdbgbioaaGreatB26
set_option maxRecDepth 100000
set_option maxHeartbeats 4000000
namespace Go.Proofs.YtahegpfdbgbioaaGreat
open Go.RowKit
theorem eqDSub (a b c d:ByteArray) (w:World):(binOp .eql 64 (.agg #[.string a,.string b]) (.agg #[.string c,.string d])).run Tryz.prog w = .ok (.bool (decide ((a,b)=(c,d)))) w:=by
 have hS:Tryz.prog.underlying 64=some (.struct (Tryz.prog.fieldsOf 64)):=by kernel_rfl
 have hp:Tryz.prog.stoodInHeld 64=false:=by kernel_rfl
 have u:=Tryz.underlying9;rw [run_eql_struct,show (10000:Nat)=9999 + 1 from rfl,run_equalIn_agg w 9999 64 _ _ hS hp];simp only [Program.fieldsOf,Tryz.underlying64];go_simp;have i1:=zh7 a c;have i2:=zh7 b d;by_cases e1:a=c <;> by_cases e2:b=d <;> simp [e1,e2,i1,i2]
theorem ziJ (s t:ByteArray × ByteArray):decide ((s.1,s.2)=(t.1,t.2))=decide (s=t):=rfl
theorem AtZ.rel {t:TypA} {n:ByteArray} {z:Int} (h:AtZ (fun x:RelA=>decide (x.name=n)) t.rels z):decide (z<0) = !(zcf t.says n):=by
 rw [h.neg,zf5];rfl
theorem AtZ.typ {l:List TypA} {n:ByteArray} {z:Int} (h:AtZ (fun x:TypA=>decide (x.name=n)) l z):decide (z<0) = !(zio (l.map TypA.says) n):=by
 rw [h.neg,ziq];rfl
theorem and3_a {b c:Bool}:(false && (b && c))=false:=rfl
theorem and3_b {a c:Bool}:(a && (false && c))=false:=by cases a <;> rfl
theorem and3_c {a b:Bool}:(a && (b && false))=false:=by cases a <;> cases b <;> rfl
theorem opOk3 {L:List TypI} {t:TypA} {n x:ByteArray} {r:RelA} (h:za3 t n=some r):zdr L t.says (3,n,x)=r.subs.any (zfw L x):=by
 unfold zdr;rw [zb5,h];rfl
theorem opOk3n {L:List TypI} {t:TypA} {n x:ByteArray} (h:za3 t n=none):zdr L t.says (3,n,x)=false:=by
 unfold zdr;rw [zb5,h];rfl
theorem opOk2 {L:List TypI} {t:TypA} {n x:ByteArray}:zdr L t.says (2,n,x)=zcf t.says n:=rfl
theorem opOkO {L:List TypI} {t:TypA} {z:Int} {n x:ByteArray} (h2:¬z=2) (h3:¬z=3):zdr L t.says (z,n,x)=true:=by
 unfold zdr;rw [if_neg h2,if_neg h3]
theorem any_snoc {α:Type} {p:α→Bool} {l:List α} {j:Nat} {a:α} (h:l[j]? = some a):(l.take (j + 1)).any p=((l.take j).any p || p a):=by
 rw [zcw h,List.any_append];simp
theorem named9_any {w:World} {R:Nat} {A:Option Addr} {c:Nat} {l:List TypA} {t:TypA} {r:RelA} (h:SchA w R A c l) (ht:t.ok w R) (hr:r.ok w R) :
 Calls Tryz.prog 105 #[.slice A l.length c,.agg #[.string t.name,.slice t.A t.rels.length t.c],.agg #[.string r.name,.string r.view,.string r.edit,.string r.check,.slice r.As r.subs.length r.cs,.slice r.Ao r.ops.length r.co]] w fun e w' =>
  e = .returned (.int .i64 (zbR (l.map TypA.says) t.says r.says:Nat))∧Below w.heap.size w w':=by
 have hls:(r.subs.length:Int)≤9223372036854775807:=by have:=hr.subs.cap;have:=hr.subs.capm;simp only [maxLen] at this;omega
 have hlo:(r.ops.length:Int)≤9223372036854775807:=by have:=hr.ops.cap;have:=hr.ops.capm;simp only [maxLen] at this;omega
 obtain ⟨As,hAs⟩:∃As,r.As=As:=⟨_,rfl⟩;obtain ⟨Ao,hAo⟩:∃Ao,r.Ao=Ao:=⟨_,rfl⟩;obtain ⟨tA,htA⟩:∃tA,t.A=tA:=⟨_,rfl⟩;obtain ⟨L,hL⟩:∃L,l.map TypA.says=L:=⟨_,rfl⟩;rw [hAs,hAo,htA,hL];have hNE:Hid (zbR L t.says r.says=if (zcf t.says r.view && (zcf t.says r.edit && zcf t.says r.check))=false then 31 else if zcm L [] r.subs≠0 then zcm L [] r.subs else if r.ops.all (zdr L t.says)=false then 31 else 0):=Lib.hid rfl;generalize zbR L t.says r.says=NE at *
 have hL:=Lib.hid hL;have hb1:=(zb0 w (.cells #[.string t.name,.slice tA t.rels.length t.c] 115)).alloc (size_alloc (Nat.le_refl _)) (.cells #[.string r.name,.string r.view,.string r.edit,.string r.check,.slice As r.subs.length r.cs,.slice Ao r.ops.length r.co] 48);have d1:=(Bk.new w #[.string t.name,.slice tA t.rels.length t.c] 115).alloc (.cells #[.string r.name,.string r.view,.string r.edit,.string r.check,.slice As r.subs.length r.cs,.slice Ao r.ops.length r.co] 48);have d2:=Bk.new2 w (.cells #[.string t.name,.slice tA t.rels.length t.c] 115) #[.string r.name,.string r.view,.string r.edit,.string r.check,.slice As r.subs.length r.cs,.slice Ao r.ops.length r.co] 48;have h1:=h.up hb1;have ht1:=ht.up hb1;have hr1:=hr.up hb1;go_enter Tryz.func105,Tryz.ntmps105
 go_upto_region 1 with (fail)
 generalize (w.alloc (.cells #[.string t.name,.slice tA t.rels.length t.c] 115)).alloc (.cells #[.string r.name,.string r.view,.string r.edit,.string r.check,.slice As r.subs.length r.cs,.slice Ao r.ops.length r.co] 48)=w1 at *
 clear h ht hr;obtain ⟨y0,y1⟩:=d1.c2;have yl:=d1.lt;obtain ⟨x0,x1,x2,x3,x4,x5⟩:=d2.c6;have xl:=d2.lt;have k1:=fun n=>rel9_any ht1 n;rw [htA] at k1;go_wp2_with fail
 refine (k1 _).mono ?_;rintro e w2 ⟨⟨z,rfl,hz⟩,hb2⟩;have hz:=hz.rel;cases hv:zcf t.says r.view with
 | false =>
  rw [hv] at hz;have hz:=of_decide_eq_true hz;go_wp2
  go_ret
  refine ⟨?_,zad hb1 hb1.size hb2⟩;rw [hNE.out,hv,if_pos and3_a];rfl
 | true =>
  rw [hv] at hz;have hz:=of_decide_eq_false hz;replace hb1:=zad hb1 hb1.size hb2;replace d1:=d1.below hb2;replace d2:=d2.below hb2;replace h1:=h1.up hb2;replace ht1:=ht1.up hb2;replace hr1:=hr1.up hb2;clear hb2 y0 y1 yl x0 x1 x2 x3 x4 x5 xl k1;obtain ⟨y0,y1⟩:=d1.c2;have yl:=d1.lt;obtain ⟨x0,x1,x2,x3,x4,x5⟩:=d2.c6;have xl:=d2.lt;have k1:=fun n=>rel9_any ht1 n;rw [htA] at k1;go_wp2_with fail
  refine (k1 _).mono ?_;rintro e w3 ⟨⟨z2,rfl,hz2⟩,hb2⟩;have hz2:=hz2.rel;cases hv2:zcf t.says r.edit with
  | false =>
   rw [hv2] at hz2;have hz2:=of_decide_eq_true hz2;go_wp2
   go_ret
   refine ⟨?_,zad hb1 hb1.size hb2⟩;rw [hNE.out,hv2,if_pos and3_b];rfl
  | true =>
   rw [hv2] at hz2;have hz2:=of_decide_eq_false hz2;replace hb1:=zad hb1 hb1.size hb2;replace d1:=d1.below hb2;replace d2:=d2.below hb2;replace h1:=h1.up hb2;replace ht1:=ht1.up hb2;replace hr1:=hr1.up hb2;clear hb2 y0 y1 yl x0 x1 x2 x3 x4 x5 xl k1 hz;obtain ⟨y0,y1⟩:=d1.c2;have yl:=d1.lt;obtain ⟨x0,x1,x2,x3,x4,x5⟩:=d2.c6;have xl:=d2.lt;have k1:=fun n=>rel9_any ht1 n;rw [htA] at k1;go_wp2_with fail
   refine (k1 _).mono ?_;rintro e w4 ⟨⟨z3,rfl,hz3⟩,hb2⟩;have hz3:=hz3.rel;cases hv3:zcf t.says r.check with
   | false =>
    rw [hv3] at hz3;have hz3:=of_decide_eq_true hz3;go_wp2
    go_ret
    refine ⟨?_,zad hb1 hb1.size hb2⟩;rw [hNE.out,hv3,if_pos and3_c];rfl
   | true =>
    rw [hv3] at hz3;have hz3:=of_decide_eq_false hz3;replace hb1:=zad hb1 hb1.size hb2;replace d1:=d1.below hb2;replace d2:=d2.below hb2;replace h1:=h1.up hb2;replace ht1:=ht1.up hb2;replace hr1:=hr1.up hb2;clear hb2 y0 y1 yl x0 x1 x2 x3 x4 x5 xl k1 hz2;replace hNE:Hid (NE=if zcm L [] r.subs≠0 then zcm L [] r.subs else if r.ops.all (zdr L t.says)=false then 31 else 0):=Lib.hid (by rw [hNE.out,hv,hv2,hv3,if_neg (by decide)]);clear hv hv2 hv3;go_wp2_with fail
    clear hz3;go_loopw [7] (fun vi wx=>∃i:Nat,vi = .int .i64 i∧i≤r.subs.length∧Hid (zcm L [] r.subs=zcm L (r.subs.take i) (r.subs.drop i))∧Below w4.heap.size w4 wx) (fun vi _=>r.subs.length-(intOf vi).toNat)
    case atStart=>exact ⟨0,rfl,Nat.zero_le _,Lib.hid rfl,Below.refl _ _⟩
    case round =>
     obtain ⟨j,rfl,hj,hE,hbx⟩:=hrel;have e2:=d2.below hbx;obtain ⟨x0,x1,x2,x3,x4,x5⟩:=e2.c6;have xl:=e2.lt;by_cases hjl:j<r.subs.length
     · have hdj:(j:Int)<(r.subs.length:Nat):=by omega
       obtain ⟨s,hs⟩:∃s,r.subs[j]? = some s:=⟨r.subs[j],List.getElem?_eq_getElem hjl⟩;obtain ⟨g,o,eA,g0,g1,_,_⟩:=(hr1.up hbx).sub hs;have lg:=World.block_lt_of_cell? _ _ g0;dsimp only at lg;rw [hAs] at eA;subst eA;go_upto_region 7 with (fail)
       have hbs:=zb0 wr (.cells #[.string s.1,.string s.2] 64);have dS:=Bk.new wr #[.string s.1,.string s.2] 64;have hbx2:=zad hbx hbx.size hbs;clear hbs x0 x1 x2 x3 x4 x5 xl e2 g0 g1 lg;generalize wr.alloc (.cells #[.string s.1,.string s.2] 64)=w5 at *
       generalize wr.heap.size=B5 at *
       obtain ⟨s0,s1⟩:=dS.c2;have sl:=dS.lt;have hEs:=Lib.hid (zkH (l:=L) hs);have hc:=has9_any (h1.up hbx2) s.1 s.2;rw [hL.out] at hc;go_wp2_with fail
       refine hc.mono ?_;rintro e w6 ⟨rfl,hb6⟩;replace hbx2:=zad hbx2 hbx2.size hb6;replace dS:=dS.below hb6;clear hb6 s0 s1 sl hc hbx;obtain ⟨s0,s1⟩:=dS.c2;have sl:=dS.lt;have hc:=type9_any (h1.up hbx2) s.1;go_wp2_with fail
       refine hc.mono ?_;rintro e w7 ⟨⟨z,rfl,hz⟩,hb6⟩;have hz:=hz.typ;rw [hL.out] at hz;replace hbx2:=zad hbx2 hbx2.size hb6;replace dS:=dS.below hb6;clear hb6 s0 s1 sl hc;obtain ⟨s0,s1⟩:=dS.c2;have sl:=dS.lt;have hO:Hid (zdN L s=(zio L s.1 && (decide (s.2=⟨#[]⟩) || hasI L s.1 s.2))):=Lib.hid rfl;have he:=zcR s.2;have hfin:Hid (zdN L s=false→NE=31):=Lib.hid (fun e=>by
        rw [hNE.out,hE.out,hEs.out,if_pos e,if_pos (by decide)])
       cases hT:zio L s.1 with
       | false =>
        rw [hT] at hz;have hz:=of_decide_eq_true hz;go_wp2
        go_ret
        exact ⟨by rw [hfin.out (by rw [hO.out,hT];rfl)];rfl,zad hb1 hb1.size hbx2⟩
       | true =>
        rw [hT] at hz;have hz:=of_decide_eq_false hz;replace hO:Hid (zdN L s=(decide (s.2=⟨#[]⟩) || hasI L s.1 s.2)):=Lib.hid (by rw [hO.out,hT];rfl);generalize decide (s.2=⟨#[]⟩)=be at *
        generalize hasI L s.1 s.2=bh at *
        obtain ⟨hne,hno⟩ | hyes:(be=false∧bh=false)∨(be=false∧bh=true∨be=true):=by cases be <;> cases bh <;> simp
        · subst hne;subst hno;go_wp2
          go_ret
          exact ⟨by rw [hfin.out hO.out];rfl,zad hb1 hb1.size hbx2⟩
        · have hok:zdN L s=true:=by
           rw [hO.out];rcases hyes with ⟨rfl,rfl⟩ | rfl <;> simp
          replace hEs:Hid (zcm L (r.subs.take j) (r.subs.drop j)=if (r.subs.take j).any (fun y=>decide (y=s))=true then 32 else zcm L (r.subs.take (j + 1)) (r.subs.drop (j + 1))):=Lib.hid (by rw [hEs.out,hok,if_neg (by decide)]);clear hok hfin hO hT;rcases hyes with ⟨hq1,hq2⟩ | hq1;all_goals
           (try subst hq2)
           subst hq1;go_wp2_with fail
           clear hz s0 s1 sl he;go_loopw [10] (fun vk wz=>∃k:Nat,vk = .int .i64 k∧k≤j∧(∀y ∈ r.subs.take k,decide (y=s)=false)∧Below w7.heap.size w7 wz) (fun vk _=>j-(intOf vk).toNat)
           case atStart=>exact ⟨0,rfl,Nat.zero_le _,fun t ht=>(by simp at ht),Below.refl _ _⟩
           case round =>
            obtain ⟨k,rfl,hk,hn,hbz⟩:=hrel;have dSz:=dS.below hbz;have hbxz:=zad hbx2 hbx2.size hbz;by_cases hkj:k<j
            · have hdk:(k:Int)<(j:Nat):=by omega
              have hdk2:(k:Int)<(r.subs.length:Nat):=by omega
              obtain ⟨y,hy⟩:∃y,r.subs[k]? = some y:=⟨r.subs[k],List.getElem?_eq_getElem (by omega)⟩;obtain ⟨g2,o2,eA,v0,v1,_,_⟩:=(hr1.up hbxz).sub hy;rw [hAs] at eA;injection eA with eA
              injection eA with eg eo _
              subst eg;subst eo;have lg:=World.block_lt_of_cell? _ _ v0;dsimp only at lg;have e2:=d2.below hbxz;obtain ⟨x0,x1,x2,x3,x4,x5⟩:=e2.c6;have xl:=e2.lt;obtain ⟨s0,s1⟩:=dSz.c2;have sl:=dSz.lt;have hEq:=eqDSub y.1 y.2 s.1 s.2;cases hd:decide (y=s) with
              | true =>
               rw [ziJ,hd] at hEq;go_wp2_with fail
               go_quiet (fail)
               go_wp2
               go_ret
               refine ⟨?_,zad hb1 hb1.size (zad hbxz hbxz.size (zdo wr nq))⟩;have ha:(r.subs.take j).any (fun y=>decide (y=s))=true:=List.any_eq_true.2 ⟨y,List.mem_of_getElem? (i:=k) (by rw [List.getElem?_take_of_lt hkj];exact hy),hd⟩;rw [hNE.out,hE.out,hEs.out,if_pos ha,if_pos (by decide)];rfl
              | false =>
               rw [ziJ,hd] at hEq;go_wp2_with fail
               go_quiet (fail)
               go_wp2
               refine ⟨⟨k + 1,by go_num,by omega,zb1 hy hn hd,zad hbz hbz.size (zdo wr nq)⟩,?_⟩;simp [intOf];omega
            · have hdk:¬(k:Int)<(j:Nat):=by omega
              obtain rfl:k=j:=by omega
              have ha:¬(r.subs.take k).any (fun y=>decide (y=s))=true:=by rw [zeV hn];decide
              go_wp2_with fail
              refine ⟨⟨k + 1,by go_num,by omega,Lib.hid (by rw [hE.out,hEs.out,if_neg ha]),hbxz⟩,?_⟩;simp [intOf];omega
     · obtain rfl:j=r.subs.length:=by omega
       have hE0:zcm L [] r.subs=0:=by
        rw [hE.out,List.take_length,List.drop_length];rfl
       replace hNE:Hid (NE=if r.ops.all (zdr L t.says)=false then 31 else 0):=Lib.hid (by rw [hNE.out,hE0,if_neg (by decide)]);clear hE0 hE;go_wp2_with fail
       clear x0 x1 x2 x3 x4 x5 xl e2;replace hb1:=zad hb1 hb1.size hbx;replace d1:=d1.below hbx;replace d2:=d2.below hbx;replace h1:=h1.up hbx;replace ht1:=ht1.up hbx;replace hr1:=hr1.up hbx;generalize wr=w5 at *
       clear hbx;go_loopw [11] (fun vi wx=>∃i:Nat,vi = .int .i64 i∧i≤r.ops.length∧(∀o ∈ r.ops.take i,zdr L t.says o=true)∧Below w5.heap.size w5 wx) (fun vi _=>r.ops.length-(intOf vi).toNat)
       case atStart=>exact ⟨0,rfl,Nat.zero_le _,fun o ho=>(by simp at ho),Below.refl _ _⟩
       case round =>
        obtain ⟨k,rfl,hk,hE,hbx⟩:=hrel;have e2:=d2.below hbx;obtain ⟨x0,x1,x2,x3,x4,x5⟩:=e2.c6;have xl:=e2.lt;by_cases hkl:k<r.ops.length
        · have hdk:(k:Int)<(r.ops.length:Nat):=by omega
          obtain ⟨q,hq⟩:∃q,r.ops[k]? = some q:=⟨r.ops[k],List.getElem?_eq_getElem hkl⟩;obtain ⟨g,o,eA,g0,g1,g2,_,_,_⟩:=(hr1.up hbx).op hq;have lg:=World.block_lt_of_cell? _ _ g0;dsimp only at lg;rw [hAo] at eA;subst eA;go_upto_region 19 with (fail)
          have hbs:=zb0 wr (.cells #[.int .i64 q.1,.string q.2.1,.string q.2.2] 60);have dS:=Bk.new wr #[.int .i64 q.1,.string q.2.1,.string q.2.2] 60;have hbx2:=zad hbx hbx.size hbs;clear hbs x0 x1 x2 x3 x4 x5 xl e2 g0 g1 g2 lg hbx;generalize wr.alloc (.cells #[.int .i64 q.1,.string q.2.1,.string q.2.2] 60)=w6 at *
          generalize wr.heap.size=B6 at *
          obtain ⟨q1,q2,q3⟩:=q;dsimp only at dS ⊢;have hmem:=Lib.hid (List.mem_of_getElem? hq);have hbad:Hid (zdr L t.says (q1,q2,q3)=false→NE=31):=Lib.hid (fun e=>by rw [hNE.out,if_pos (List.all_eq_false.2 ⟨_,hmem.out,by rw [e];decide⟩)]);have hnext:Hid (zdr L t.says (q1,q2,q3)=true→∀o ∈ r.ops.take (k + 1),zdr L t.says o=true):=Lib.hid (fun e o ho=>by
           rw [zcw hq] at ho;rcases List.mem_append.1 ho with ho | ho
           · exact hE o ho
           · simp at ho;subst ho;exact e)
          clear hE hmem hq;have s0:w6.cell? ⟨B6,0,none⟩=some (.int .i64 q1):=dS.cell 0;have s1:w6.cell? ⟨B6,1,none⟩=some (.string q2):=dS.cell 1;have s2:w6.cell? ⟨B6,2,none⟩=some (.string q3):=dS.cell 2;have sl:=dS.lt;have e1:=d1.below hbx2;obtain ⟨y0,y1⟩:=e1.c2;have yl:=e1.lt;have k1:=rel9_any (ht1.up hbx2) q2;rw [htA] at k1;by_cases h2:q1=2
          · subst h2;go_wp2_with fail
            refine k1.mono ?_;rintro e w7 ⟨⟨z,rfl,hz⟩,hb7⟩;have hz:=hz.rel;have dS7:=dS.below hb7;clear s0 s1 s2 sl y0 y1 yl e1 k1;have s0:w7.cell? ⟨B6,0,none⟩=some (.int .i64 2):=dS7.cell 0;have sl:=dS7.lt;rw [opOk2] at hbad hnext;cases hv:zcf t.says q2 with
            | false =>
             rw [hv] at hz;have hz:=of_decide_eq_true hz;go_wp2
             go_ret
             exact ⟨by rw [hbad.out hv];rfl,zad hb1 hb1.size (zad hbx2 hbx2.size hb7)⟩
            | true =>
             rw [hv] at hz;have hz:=of_decide_eq_false hz;go_wp2
             refine ⟨⟨k + 1,by go_num,by omega,hnext.out hv,zad hbx2 hbx2.size hb7⟩,?_⟩;simp [intOf];omega
          · by_cases h3:q1=3
            · subst h3;go_wp2_with fail
              refine k1.mono ?_;rintro e w7 ⟨⟨z,rfl,hz⟩,hb7⟩;replace hbx2:=zad hbx2 hbx2.size hb7;replace dS:=dS.below hb7;clear s0 s1 s2 sl y0 y1 yl e1 k1 hb7;have s0:w7.cell? ⟨B6,0,none⟩=some (.int .i64 3):=dS.cell 0;have sl:=dS.lt;rcases hz with ⟨rfl,hf⟩ | ⟨i,x,rfl,hx,hf,_⟩
              · go_wp2
                go_ret
                exact ⟨by rw [hbad.out (opOk3n hf)];rfl,zad hb1 hb1.size hbx2⟩
              · rw [opOk3 (show za3 t q2=some x from hf)] at hbad hnext;clear hf;have hil:i<t.rels.length:=(List.getElem?_eq_some_iff.1 hx).1;have hdi:(i:Int)<(t.rels.length:Nat):=by omega
                have hdn:¬(i:Int)<0:=by omega
                go_wp2_with fail
                clear s0 sl;obtain ⟨xA,hxA⟩:∃B,x.As=B:=⟨_,rfl⟩;have hxl:(x.subs.length:Int)≤9223372036854775807:=by have:=(ht1.relz x (List.mem_of_getElem? hx)).subs.cap;have:=(ht1.relz x (List.mem_of_getElem? hx)).subs.capm;simp only [maxLen] at this;omega
                go_loopw [14,15] (fun vb vj wz=>∃j:Nat,vj = .int .i64 j∧j≤x.subs.length∧vb = .bool ((x.subs.take j).any (zfw L q3))∧Below w7.heap.size w7 wz) (fun _ vj _=>x.subs.length-(intOf vj).toNat)
                case atStart=>exact ⟨0,rfl,Nat.zero_le _,rfl,Below.refl _ _⟩
                case round =>
                 obtain ⟨j,rfl,hj,rfl,hbz⟩:=hrel;have hbxz:=zad hbx2 hbx2.size hbz;have e1:=d1.below hbxz;obtain ⟨y0,y1⟩:=e1.c2;have yl:=e1.lt;obtain ⟨gt,ot,eA,_,_,_,_,v4,_,hkx⟩:=(ht1.up hbxz).get hx;rw [htA] at eA;subst eA;rw [hxA] at v4;have lv:=World.block_lt_of_cell? _ _ v4;dsimp only at lv;have dSz:=dS.below hbz;have s2:World.cell? _ ⟨B6,2,none⟩=some (.string q3):=dSz.cell 2;have sl:=dSz.lt;by_cases hjl:j<x.subs.length
                 · have hdj:(j:Int)<(x.subs.length:Nat):=by omega
                   obtain ⟨s,hs⟩:∃s,x.subs[j]? = some s:=⟨x.subs[j],List.getElem?_eq_getElem hjl⟩;obtain ⟨g2,o2,eA,g0,g1,_,_⟩:=hkx.sub hs;rw [hxA] at eA;subst eA;have lg:=World.block_lt_of_cell? _ _ g0;dsimp only at lg;have hL1:=any_snoc (p:=zfw L q3) hs;generalize (x.subs.take j).any (zfw L q3)=vb at *
                   go_upto_region 29 with (fail)
                   have hbs:=zb0 wr (.cells #[.string s.1,.string s.2] 64);have dT:=Bk.new wr #[.string s.1,.string s.2] 64;have hbz2:=zad hbz hbz.size hbs;have dSy:=dSz.below hbs;clear hbs y0 y1 yl e1 v4 lv s2 sl g0 g1 lg hbz dSz hkx;generalize wr.alloc (.cells #[.string s.1,.string s.2] 64)=w8 at *
                   generalize wr.heap.size=B8 at *
                   obtain ⟨s0,s1⟩:=dT.c2;have tl:=dT.lt;have s2:w8.cell? ⟨B6,2,none⟩=some (.string q3):=dSy.cell 2;have sl:=dSy.lt;have hc:=has9_any (h1.up (zad hbx2 hbx2.size hbz2)) s.1 q3;rw [hL.out] at hc;go_wp2_with fail
                   refine hc.mono ?_;rintro e w9 ⟨rfl,hb9⟩;have dT9:=dT.below hb9;have hbz9:=zad hbz2 hbz2.size hb9;clear s0 s1 tl s2 sl hc dT dSy hb9 hbz2;obtain ⟨s0,s1⟩:=dT9.c2;have tl:=dT9.lt;replace hL1:Hid ((x.subs.take (j + 1)).any (zfw L q3)=(vb || (decide (s.2=⟨#[]⟩) && hasI L s.1 q3))):=Lib.hid hL1;have he:=zcR s.2;generalize decide (s.2=⟨#[]⟩)=be at *
                   generalize hasI L s.1 q3=bh at *
                   cases vb with
                   | true =>
                    go_wp2
                    refine ⟨⟨j + 1,by go_num,by omega,by rw [hL1.out];rfl,hbz9⟩,?_⟩;simp [intOf];omega
                   | false =>
                    cases be with
                    | false =>
                     go_wp2
                     refine ⟨⟨j + 1,by go_num,by omega,by rw [hL1.out];rfl,hbz9⟩,?_⟩;simp [intOf];omega
                    | true =>
                     cases bh with
                     | false =>
                      go_wp2
                      refine ⟨⟨j + 1,by go_num,by omega,by rw [hL1.out];rfl,hbz9⟩,?_⟩;simp [intOf];omega
                     | true =>
                      go_wp2
                      refine ⟨⟨j + 1,by go_num,by omega,by rw [hL1.out];rfl,hbz9⟩,?_⟩;simp [intOf];omega
                 · have hdj:¬((j:Int)<(x.subs.length:Nat)):=by omega
                   obtain rfl:j=x.subs.length:=by omega
                   rw [List.take_length];cases hv:x.subs.any (zfw L q3) with
                   | false =>
                    go_wp2
                    go_ret
                    exact ⟨by rw [hbad.out hv];rfl,zad hb1 hb1.size hbxz⟩
                   | true =>
                    go_wp2
                    refine ⟨⟨k + 1,by go_num,by omega,hnext.out hv,hbxz⟩,?_⟩;simp [intOf];omega
            · clear k1;have b2:(q1 != 2)=true:=by simpa using h2
              have b3:(q1 != 3)=true:=by simpa using h3
              go_wp2
              refine ⟨⟨k + 1,by go_num,by omega,hnext.out (opOkO h2 h3),hbx2⟩,?_⟩;simp [intOf];omega
        · obtain rfl:k=r.ops.length:=by omega
          have hdk:¬((r.ops.length:Int)<(r.ops.length:Nat)):=by omega
          rw [List.take_length] at hE;go_wp2
          go_ret
          refine ⟨?_,zad hb1 hb1.size hbx⟩;rw [hNE.out,if_neg (by rw [List.all_eq_true.2 hE];decide)];rfl
theorem tyE_any {l:List TypA} {t:TypA}:tyE l t=if l.any (fun x=>decide (x.name=t.name))=true then 32 else if 12<t.rels.length then 13 else 0:=by
 unfold tyE zbw;rw [zbH]
theorem reE_any {A:Option Addr} {c:Nat} {q:List RelA} {r:RelA}:reE ⟨⟨#[]⟩,A,c,q⟩ r=if q.any (fun x=>decide (x.name=r.name))=true then 32 else if 16<r.ops.length then 13 else 0:=by
 unfold reE za3;rw [zbH]
theorem ziO (t:TypA) (r:RelA):zgJ t.says r.says=t.name ++ ⟨#[46]⟩ ++ r.name:=rfl
theorem check9_any {w:World} {R:Nat} {A:Option Addr} {c:Nat} {l:List TypA} (h:SchA w R A c l) (hR:R≤140737488351232) :
 Calls Tryz.prog 56 #[.slice A l.length c] w fun e w' =>
  e = .returned (.tuple #[.int .i64 ((zbh (l.map TypA.says)).1:Nat),.string (zbh (l.map TypA.says)).2])∧Below w.heap.size w w':=by
 have hll:(l.length:Int)≤9223372036854775807:=by have:=h.rows.cap;have:=h.rows.capm;simp only [maxLen] at this;omega
 obtain ⟨L,hL⟩:∃L,l.map TypA.says=L:=⟨_,rfl⟩;have hC:zbh (l.map TypA.says)=if 8<l.length then (13,⟨#[]⟩) else if (zbB [] (l.map TypA.says)).1≠0 then zbB [] (l.map TypA.says) else zbj L (l.map TypA.says):=by
  unfold zbh;rw [List.length_map,hL]
 generalize zbh (l.map TypA.says)=CE at *
 by_cases h8:8<l.length
 · have hdi:(8:Int)<(l.length:Nat):=by omega
   rw [if_pos h8] at hC;subst hC;go_enter Tryz.func56,Tryz.ntmps56
   go_wp2
   refine bodyPost_ret (v:=.tuple #[.int .i64 13,.string ⟨#[]⟩]) (by simp [results,Tryz.results56,go_sem];try rfl) rfl ?_;exact ⟨rfl,Below.refl _ _⟩
 · have hdi:¬(8:Int)<(l.length:Nat):=by omega
   rw [if_neg h8] at hC;have hNE:Hid (zbB [] (l.map TypA.says)=zbB ((l.take 0).map TypA.says) ((l.drop 0).map TypA.says)):=Lib.hid rfl;generalize zbB [] (l.map TypA.says)=NE at *
   have hNM:Hid (zbj L (l.map TypA.says)=zbj L ((l.drop 0).map TypA.says)):=Lib.hid rfl;generalize zbj L (l.map TypA.says)=NM at *
   replace hC:=Lib.hid hC;replace hL:=Lib.hid hL;go_enter Tryz.func56,Tryz.ntmps56
   go_wp2_with fail
   clear hdi;go_loopw [4] (fun vi wx=>∃i:Nat,vi = .int .i64 i∧i≤l.length∧Hid (NE=zbB ((l.take i).map TypA.says) ((l.drop i).map TypA.says))∧Below w.heap.size w wx) (fun vi _=>l.length-(intOf vi).toNat)
   case atStart=>exact ⟨0,rfl,Nat.zero_le _,hNE,Below.refl _ _⟩
   case round =>
    clear hNE;obtain ⟨i,rfl,hi,hNE,hbx⟩:=hrel;by_cases hil:i<l.length
    · have hdi:(i:Int)<(l.length:Nat):=by omega
      obtain ⟨t,ht⟩:∃t,l[i]? = some t:=⟨l[i],List.getElem?_eq_getElem hil⟩;have hx:=h.up hbx;obtain ⟨g,o,rfl,g0,g1,hk⟩:=hx.get ht;have lg:=World.block_lt_of_cell? _ _ g0;dsimp only at lg;have hS:=zkL ht;rw [tyE_any] at hS;go_wp2_with fail
      refine (type9_any hx t.name).mono ?_;rintro e w2 ⟨⟨z,rfl,hz⟩,hb2⟩;have hzb:=hz.ahead ht (decide_eq_true rfl);clear hz hx;replace hbx:=zad hbx hbx.size hb2;replace g0:=zaq g0 hb2;replace g1:=zaq g1 hb2;replace hk:=hk.up hb2;replace lg:g<w2.heap.size:=Nat.lt_of_lt_of_le lg hb2.size;clear hb2;generalize (l.take i).any (fun x=>decide (x.name=t.name))=tb at *
      cases tb with
      | true =>
       replace hzb:=of_decide_eq_true hzb;rw [if_pos rfl,if_pos (by decide)] at hS;replace hS:=Lib.hid hS;go_wp2_with fail
       go_quiet (fail)
       go_wp2
       refine bodyPost_ret (v:=.tuple #[.int .i64 32,.string t.name]) (by simp [results,Tryz.results56,go_sem];try rfl) rfl ?_;refine ⟨?_,zad hbx hbx.size (zdo w2 nq)⟩;rw [hC.out,hNE.out,hS.out];rfl
      | false =>
       replace hzb:=of_decide_eq_false hzb;rw [if_neg (show ¬(false=true) by decide)] at hS;by_cases h12:12<t.rels.length
       · have h12i:(12:Int)<(t.rels.length:Nat):=by omega
         rw [if_pos h12,if_pos (by decide)] at hS;replace hS:=Lib.hid hS;go_wp2_with fail
         go_quiet (fail)
         go_wp2
         refine bodyPost_ret (v:=.tuple #[.int .i64 13,.string t.name]) (by simp [results,Tryz.results56,go_sem];try rfl) rfl ?_;refine ⟨?_,zad hbx hbx.size (zdo w2 nq)⟩;rw [hC.out,hNE.out,hS.out];rfl
       · have h12i:¬(12:Int)<(t.rels.length:Nat):=by omega
         rw [if_neg h12,if_neg (by decide)] at hS;have hRE:Hid (zcB t.says [] (t.rels.map RelA.says)=zcB t.says ((t.rels.take 0).map RelA.says) ((t.rels.drop 0).map RelA.says)):=Lib.hid rfl;generalize zcB t.says [] (t.rels.map RelA.says)=RE at *
         replace hS:=Lib.hid hS;go_wp2_with fail
         obtain ⟨tA,htA⟩:∃tA,t.A=tA:=⟨_,rfl⟩;rw [htA] at g1 ⊢;clear hzb h12i;go_loopw [5] (fun vi wx=>∃i:Nat,vi = .int .i64 i∧i≤t.rels.length∧Hid (RE=zcB t.says ((t.rels.take i).map RelA.says) ((t.rels.drop i).map RelA.says))∧Below w2.heap.size w2 wx) (fun vi _=>t.rels.length-(intOf vi).toNat)
         case atStart=>exact ⟨0,rfl,Nat.zero_le _,hRE,Below.refl _ _⟩
         case round =>
          clear hRE;obtain ⟨j,rfl,hj,hRE,hby⟩:=hrel;have hby2:=zad hbx hbx.size hby;have t0:=zaq g0 hby;have t1:=zaq g1 hby;have tl:g<wr.heap.size:=Nat.lt_of_lt_of_le lg hby.size;by_cases hjl:j<t.rels.length
          · have hdj:(j:Int)<(t.rels.length:Nat):=by omega
            obtain ⟨r,hr⟩:∃r,t.rels[j]? = some r:=⟨t.rels[j],List.getElem?_eq_getElem hjl⟩;obtain ⟨gr,o',eA,r0,r1,r2,r3,r4,r5,hkr⟩:=(hk.up hby).get hr;have lgr:=World.block_lt_of_cell? _ _ r0;dsimp only at lgr;rw [htA] at eA;subst eA;go_upto_region 14 with (fail)
            have hbs:=zb0 wr (.cells #[.string r.name,.string r.view,.string r.edit,.string r.check,.slice r.As r.subs.length r.cs,.slice r.Ao r.ops.length r.co] 48);have dR:=Bk.new wr #[.string r.name,.string r.view,.string r.edit,.string r.check,.slice r.As r.subs.length r.cs,.slice r.Ao r.ops.length r.co] 48;have hby3:=zad hby hby.size hbs;have hkr2:=hkr.up hbs;clear hby hby2 hkr r0 r1 r2 r3 r4 r5 lgr t0 t1 tl hbs;generalize wr.alloc (.cells #[.string r.name,.string r.view,.string r.edit,.string r.check,.slice r.As r.subs.length r.cs,.slice r.Ao r.ops.length r.co] 48)=wq at *
            generalize wr.heap.size=B7 at *
            have t0:=zaq g0 hby3;have t1:=zaq g1 hby3;have tl:g<wq.heap.size:=Nat.lt_of_lt_of_le lg hby3.size;obtain ⟨r0,r1,r2,r3,r4,r5⟩:=dR.c6;have rl:=dR.lt;have hS2:=zkx (A:=some ⟨gr,o',none⟩) (c:=t.c) (t:=t.says) hr;rw [reE_any,ziO] at hS2;have hkq:=Lib.hid (fun (W:World) (hW:Below wq.heap.size wq W)=>(hk.up (zad hby3 hby3.size hW)));go_cut [71] from 63 to 71 (fun b wc=>∃bz:Bool,b = .bool bz∧bz=(t.rels.take j).any (fun x=>decide (x.name=r.name))∧Below wq.heap.size wq wc)
            case first =>
             have hSc:∀W:World,Below wq.heap.size wq W→W.cell? ⟨g,o + i * 2,none⟩=some (.string t.name)∧W.cell? ⟨g,o + i * 2 + 1,none⟩=some (.slice (some ⟨gr,o',none⟩) t.rels.length t.c)∧W.cell? ⟨B7,0,none⟩=some (.string r.name):=fun W h=>⟨zaq t0 h,zaq t1 h,zaq r0 h⟩;have hS0:Below wq.heap.size wq wq.drew:=(Below.refl _ _).drew;refine wp_region_any (by kernel_rfl) ?_;change wpAny _ _ _ _ _ _ _ (World.drew _);refine wpAny_of_held (S:=fun W=>Below wq.heap.size wq W) _ _ _ _ ?_;refine zac 0 (some 63) (v:=?v0c) rfl rfl (by kernel_rfl) (by kernel_rfl) (by kernel_rfl) (fun _ _ _ h=>h) (by rfl) ?y0c (by assumption) ?r0c;case y0c=>(intro W hS;go_simp;try with_reducible rfl)
             simp only [Act.put,List.setIfInBounds_toArray,List.set_cons_zero,List.set_cons_succ];refine zac 1 (some 64) (v:=?v1c) rfl rfl (by kernel_rfl) (by kernel_rfl) (by kernel_rfl) (fun _ _ _ h=>h) (by rfl) ?y1c (by assumption) ?r1c;case y1c=>(intro W hS;go_simp;try with_reducible rfl)
             simp only [Act.put,List.setIfInBounds_toArray,List.set_cons_zero,List.set_cons_succ];refine zac 2 (some 65) (v:=?v2c) rfl rfl (by kernel_rfl) (by kernel_rfl) (by kernel_rfl) (fun _ _ _ h=>h) (by rfl) ?y2c (by assumption) ?r2c;case y2c=>(intro W hS;obtain ⟨s0,s1,s2⟩:=hSc W hS;go_simp;try with_reducible rfl)
             simp only [Act.put,List.setIfInBounds_toArray,List.set_cons_zero,List.set_cons_succ];refine zac 3 (some 66) (v:=?v3c) rfl rfl (by kernel_rfl) (by kernel_rfl) (by kernel_rfl) (fun _ _ _ h=>h) (by rfl) ?y3c (by assumption) ?r3c;case y3c=>(intro W hS;obtain ⟨s0,s1,s2⟩:=hSc W hS;go_simp;try with_reducible rfl)
             simp only [Act.put,List.setIfInBounds_toArray,List.set_cons_zero,List.set_cons_succ];refine zac 4 (some 67) (v:=?v4c) rfl rfl (by kernel_rfl) (by kernel_rfl) (by kernel_rfl) (fun _ _ _ h=>h) (by rfl) ?y4c (by assumption) ?r4c;case y4c=>(intro W hS;go_simp;try with_reducible rfl)
             simp only [Act.put,List.setIfInBounds_toArray,List.set_cons_zero,List.set_cons_succ];refine zac 5 (some 68) (v:=?v5c) rfl rfl (by kernel_rfl) (by kernel_rfl) (by kernel_rfl) (fun _ _ _ h=>h) (by rfl) ?y5c (by assumption) ?r5c;case y5c=>(intro W hS;obtain ⟨s0,s1,s2⟩:=hSc W hS;go_simp;try with_reducible rfl)
             simp only [Act.put,List.setIfInBounds_toArray,List.set_cons_zero,List.set_cons_succ];refine zac 7 (some 70) (v:=?v7c) rfl rfl (by kernel_rfl) (by kernel_rfl) (by kernel_rfl) (fun _ _ _ h=>h) (by rfl) ?y7c (by assumption) ?r7c;case y7c=>(intro W hS;go_simp;try with_reducible rfl)
             simp only [Act.put,List.setIfInBounds_toArray,List.set_cons_zero,List.set_cons_succ];have hcn:=rel9_any (hkq.out _ hS0) r.name;rw [htA] at hcn;refine za2 6 rfl (by kernel_rfl) ?_;intro K hK;go_simp;refine hcn.mono ?_;rintro e w4 ⟨⟨z,rfl,hz⟩,hb4⟩;have hzb:=hz.ahead hr (decide_eq_true rfl);have hS4:Below wq.heap.size wq w4:=zad hS0 hS0.size hb4;refine hK _ _ hS4 ?_;clear hK K hz hb4;refine zac 8 (some 71) (v:=?v8c) rfl rfl (by kernel_rfl) (by kernel_rfl) (by kernel_rfl) (fun _ _ _ h=>h) (by rfl) ?y8c (by assumption) ?r8c;case y8c=>(intro W hS;go_simp;try with_reducible rfl)
             simp only [Act.put,List.setIfInBounds_toArray,List.set_cons_zero,List.set_cons_succ];refine wpAnyH_done (by kernel_rfl) ?_ _;go_wp2_with fail
             go_meet
             exact ⟨_,rfl,rfl,hS4⟩
            case rest =>
             obtain ⟨bz,rfl,hbz,hb5⟩:=hcut;generalize wc=w5 at *
             replace hby3:=zad hby3 hby3.size hb5;have dR5:=dR.below hb5;clear t0 t1 tl r0 r1 r2 r3 r4 r5 rl dR hkq hb5;have t0:=zaq g0 hby3;have t1:=zaq g1 hby3;have tl:g<w5.heap.size:=Nat.lt_of_lt_of_le lg hby3.size;obtain ⟨r0,r1,r2,r3,r4,r5⟩:=dR5.c6;have rl:=dR5.lt;have z1:t.name.size≤140737488351232:=Nat.le_trans hk.name hR;have z2:r.name.size≤140737488351232:=Nat.le_trans hkr2.name hR;have n1:¬9223372036854775807<t.name.size + 1:=by omega
             have n2:¬9223372036854775807<t.name.size + 1 + r.name.size:=by omega
             rw [←hbz] at hS2;clear hbz;cases bz with
             | true =>
              rw [if_pos rfl,if_pos (by decide)] at hS2;replace hS2:=Lib.hid hS2;go_wp2_with fail
              go_quiet (fail)
              go_wp2
              refine bodyPost_ret (v:=.tuple #[.int .i64 32,.string (t.name ++ ⟨#[46]⟩ ++ r.name)]) (by simp [results,Tryz.results56,go_sem];try rfl) rfl ?_;refine ⟨?_,zad hbx hbx.size (zad hby3 hby3.size (zdo w5 nq))⟩;have e1:RE=(32,t.name ++ ⟨#[46]⟩ ++ r.name):=by rw [hRE.out,hS2.out]
              have e2:NE=(32,t.name ++ ⟨#[46]⟩ ++ r.name):=by rw [hNE.out,hS.out,e1];rfl
              rw [hC.out,e2];rfl
             | false =>
              rw [if_neg (show ¬(false=true) by decide)] at hS2;by_cases h16:16<r.ops.length
              · have h16i:(16:Int)<(r.ops.length:Nat):=by omega
                rw [if_pos h16,if_pos (by decide)] at hS2;replace hS2:=Lib.hid hS2;go_wp2_with fail
                go_quiet (fail)
                go_wp2
                refine bodyPost_ret (v:=.tuple #[.int .i64 13,.string (t.name ++ ⟨#[46]⟩ ++ r.name)]) (by simp [results,Tryz.results56,go_sem];try rfl) rfl ?_;refine ⟨?_,zad hbx hbx.size (zad hby3 hby3.size (zdo w5 nq))⟩;have e1:RE=(13,t.name ++ ⟨#[46]⟩ ++ r.name):=by rw [hRE.out,hS2.out]
                have e2:NE=(13,t.name ++ ⟨#[46]⟩ ++ r.name):=by rw [hNE.out,hS.out,e1];rfl
                rw [hC.out,e2];rfl
              · have h16i:¬(16:Int)<(r.ops.length:Nat):=by omega
                rw [if_neg h16,if_neg (by decide)] at hS2;replace hS2:=Lib.hid hS2;go_wp2_with fail
                refine ⟨⟨j + 1,by go_num,by omega,Lib.hid (by rw [hRE.out,hS2.out]),hby3⟩,?_⟩;simp [intOf];omega
          · have hdj:¬((j:Int)<(t.rels.length:Nat)):=by omega
            obtain rfl:j=t.rels.length:=by omega
            have hRE0:RE=(0,⟨#[]⟩):=by
             rw [hRE.out,List.take_length,List.drop_length];rfl
            have hS':=hS.out;rw [hRE0,if_neg (show ¬((0,⟨#[]⟩):Nat × ByteArray).1≠0 by decide)] at hS';replace hS':=Lib.hid hS';clear hRE0;go_wp2_with fail
            refine ⟨⟨i + 1,by go_num,by omega,Lib.hid (by rw [hNE.out,hS'.out]),hby2⟩,?_⟩;simp [intOf];omega
    · have hdi:¬(i:Int)<(l.length:Nat):=by omega
      obtain rfl:i=l.length:=by omega
      have hNE0:NE=(0,⟨#[]⟩):=by
       rw [hNE.out,List.take_length,List.drop_length];rfl
      replace hC:Hid (CE=NM):=Lib.hid (by rw [hC.out,hNE0,if_neg (show ¬((0,⟨#[]⟩):Nat × ByteArray).1≠0 by decide)]);clear hNE0 hNE;go_wp2_with fail
      clear hdi;have h1:=h.up hbx;generalize wr=w1 at *
      go_loopw [7] (fun vi wx=>∃i:Nat,vi = .int .i64 i∧i≤l.length∧Hid (NM=zbj L ((l.drop i).map TypA.says))∧Below w1.heap.size w1 wx) (fun vi _=>l.length-(intOf vi).toNat)
      case atStart=>exact ⟨0,rfl,Nat.zero_le _,hNM,Below.refl _ _⟩
      case round =>
       clear hNM;obtain ⟨i,rfl,hi,hNM,hby⟩:=hrel;by_cases hil:i<l.length
       · have hdi:(i:Int)<(l.length:Nat):=by omega
         obtain ⟨t,ht⟩:∃t,l[i]? = some t:=⟨l[i],List.getElem?_eq_getElem hil⟩;obtain ⟨g,o,rfl,g0,g1,hk⟩:=(h1.up hby).get ht;have lg:=World.block_lt_of_cell? _ _ g0;dsimp only at lg;have hS:=ziB (L:=L) ht;have hRE:Hid (za5 L t.says (t.rels.map RelA.says)=za5 L t.says ((t.rels.drop 0).map RelA.says)):=Lib.hid rfl;generalize za5 L t.says (t.rels.map RelA.says)=RE at *
         replace hS:=Lib.hid hS;go_wp2_with fail
         obtain ⟨tA,htA⟩:∃tA,t.A=tA:=⟨_,rfl⟩;rw [htA] at g1;have h2:=h1.up hby;have hlr:(t.rels.length:Int)≤9223372036854775807:=by have:=hk.rels.cap;have:=hk.rels.capm;simp only [maxLen] at this;omega
         generalize wr=w2 at *
         go_loopw [8] (fun vi wx=>∃i:Nat,vi = .int .i64 i∧i≤t.rels.length∧Hid (RE=za5 L t.says ((t.rels.drop i).map RelA.says))∧Below w2.heap.size w2 wx) (fun vi _=>t.rels.length-(intOf vi).toNat)
         case atStart=>exact ⟨0,rfl,Nat.zero_le _,hRE,Below.refl _ _⟩
         case round =>
          clear hRE;obtain ⟨j,rfl,hj,hRE,hbz⟩:=hrel;have t0:=zaq g0 hbz;have t1:=zaq g1 hbz;have tl:g<wr.heap.size:=Nat.lt_of_lt_of_le lg hbz.size;by_cases hjl:j<t.rels.length
          · have hdj:(j:Int)<(t.rels.length:Nat):=by omega
            obtain ⟨r,hr⟩:∃r,t.rels[j]? = some r:=⟨t.rels[j],List.getElem?_eq_getElem hjl⟩;obtain ⟨gr,o',eA,r0,r1,r2,r3,r4,r5,hkr⟩:=(hk.up hbz).get hr;have lgr:=World.block_lt_of_cell? _ _ r0;dsimp only at lgr;rw [htA] at eA;subst eA;have hS2:=zg5 (l:=L) (t:=t.says) hr;rw [ziO] at hS2;have hbd:Below wr.heap.size wr wr.drew:=⟨rfl,rfl,rfl,Nat.le_refl _,fun _ _=>rfl⟩;have hbz2:=zad hbz hbz.size hbd;have hcn:=named9_any (h2.up hbz2) (hk.up hbz2) (hkr.up hbd);rw [htA,hL.out] at hcn;generalize zbR L t.says r.says=k at *
            obtain ⟨As,hAs⟩:∃As,r.As=As:=⟨_,rfl⟩;obtain ⟨Ao,hAo⟩:∃Ao,r.Ao=Ao:=⟨_,rfl⟩;rw [hAs] at r4 hcn;rw [hAo] at r5 hcn;go_wp2_with fail
            go_still_tail 13,(by kernel_rfl)
            change wpList _ _ _ _ _ (World.drew _);have z1:t.name.size≤140737488351232:=Nat.le_trans hk.name hR;have z2:r.name.size≤140737488351232:=Nat.le_trans hkr.name hR;have n1:¬9223372036854775807<t.name.size + 1:=by omega
            have n2:¬9223372036854775807<t.name.size + 1 + r.name.size:=by omega
            by_cases hk0:k=0
            · subst hk0;rw [if_neg (by decide)] at hS2;replace hS2:=Lib.hid hS2;simp only [show ((0:Nat):Int)=0 from rfl] at hcn;go_wp2_with ((with_reducible refine hcn.mono ?_);rintro e w6 ⟨rfl,hb6⟩)
              refine ⟨⟨j + 1,by go_num,by omega,Lib.hid (by rw [hRE.out,hS2.out]),zad hbz2 hbz2.size hb6⟩,?_⟩;simp [intOf];omega
            · have hki:¬((k:Nat):Int)=0:=by omega
              rw [if_pos hk0] at hS2;replace hS2:=Lib.hid hS2;go_wp2_with ((with_reducible refine hcn.mono ?_);rintro e w6 ⟨rfl,hb6⟩;have hbw:=hbd.trans hb6;have p0:=zaq t0 hbw;have p1:=zaq t1 hbw;have q0:=zaq r0 hbw;have pl:=World.block_lt_of_cell? _ _ p0;dsimp only at pl;have ql:=World.block_lt_of_cell? _ _ q0;dsimp only at ql)
              clear t0 t1 tl r0 r1 r2 r3 r4 r5 lgr;go_quiet (fail)
              go_wp2
              refine bodyPost_ret (v:=.tuple #[.int .i64 (k:Nat),.string (t.name ++ ⟨#[46]⟩ ++ r.name)]) (by simp [results,Tryz.results56,go_sem];try rfl) rfl ?_;refine ⟨?_,zad hbx hbx.size (zad hby hby.size (zad hbz2 hbz2.size (zad hb6 hb6.size (zdo w6 nq))))⟩;have e1:RE=(k,t.name ++ ⟨#[46]⟩ ++ r.name):=by rw [hRE.out,hS2.out]
              have e2:NM=(k,t.name ++ ⟨#[46]⟩ ++ r.name):=by rw [hNM.out,hS.out,e1,if_pos hk0]
              rw [hC.out,e2]
          · have hdj:¬((j:Int)<(t.rels.length:Nat)):=by omega
            obtain rfl:j=t.rels.length:=by omega
            have hRE0:RE=(0,⟨#[]⟩):=by
             rw [hRE.out,List.drop_length];rfl
            have hS':=hS.out;rw [hRE0,if_neg (show ¬((0,⟨#[]⟩):Nat × ByteArray).1≠0 by decide)] at hS';replace hS':=Lib.hid hS';clear hRE0;go_wp2_with fail
            refine ⟨⟨i + 1,by go_num,by omega,Lib.hid (by rw [hNM.out,hS'.out]),zad hby hby.size hbz⟩,?_⟩;simp [intOf];omega
       · have hdi:¬(i:Int)<(l.length:Nat):=by omega
         obtain rfl:i=l.length:=by omega
         have hNM0:CE=(0,⟨#[]⟩):=by
          rw [hC.out,hNM.out,List.drop_length];rfl
         subst hNM0;go_wp2
         refine bodyPost_ret (v:=.tuple #[.int .i64 0,.string ⟨#[]⟩]) (by simp [results,Tryz.results56,go_sem];try rfl) rfl ?_;exact ⟨rfl,zad hbx hbx.size hby⟩
end Go.Proofs.YtahegpfdbgbioaaGreat
