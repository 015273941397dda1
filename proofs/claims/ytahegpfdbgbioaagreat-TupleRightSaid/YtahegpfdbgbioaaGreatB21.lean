import Derived.StillTailTactics
import Derived.WalkMore
import Derived.Test.YtahegpfdbgbioaaGreatB20
set_option maxRecDepth 100000
set_option maxHeartbeats 4000000
namespace Go.Proofs.YtahegpfdbgbioaaGreat
open Go.RowKit
open Go.RowKit
open Go.RowKit
open Go.RowKit
theorem zez {α:Type} (g:α→List Value) {sz:Nat} (hg:∀a,(g a).length=sz):∀(l:List α) (i:Nat),(l.take i).flatMap g=(l.flatMap g).take (i * sz)
 | [],i=>by simp
 | x::r,0=>by simp
 | x::r,i + 1=>by
  have e1:(g x).take ((i + 1) * sz)=g x:=List.take_of_length_le (by rw [hg,Nat.succ_mul];omega);rw [List.take_succ_cons,List.flatMap_cons,List.flatMap_cons,zez g hg r i,List.take_append,e1,hg,show (i + 1) * sz-sz=i * sz by rw [Nat.succ_mul];omega]
theorem SubsA.pre {w:World} {A:Option Addr} {c:Nat} {l:List (ByteArray × ByteArray)} (h:SubsA w A c l) {i:Nat} (hi:i≤l.length):SubsA w A c (l.take i):=by
 have e:(l.take i).length=i:=by rw [List.length_take];omega
 refine ⟨?_⟩;rw [e,zez zjU (sz:=2) (fun _=>rfl)];exact h.rows.pre hi
theorem zkH {l:List TypI} {s:List (ByteArray × ByteArray)} {i:Nat} {x:ByteArray × ByteArray} (hx:s[i]? = some x) :
 zcm l (s.take i) (s.drop i)=if zdN l x=false then 31 else if (s.take i).any (fun y=>decide (y=x))=true then 32 else zcm l (s.take (i + 1)) (s.drop (i + 1)):=by
 rw [List.drop_eq_getElem_cons (List.getElem?_eq_some_iff.1 hx).1,(List.getElem?_eq_some_iff.1 hx).2,zcw hx];rfl
theorem zmR {q:TypI} {a b c n:ByteArray} {i:Nat} (h:[a,b,c][i]? = some n) (hn:zcf q n=false):(zcf q a && (zcf q b && zcf q c))=false:=by
 match i,h with
 | 0,h=>simp at h;subst h;rw [hn];rfl
 | 1,h=>simp at h;subst h;rw [hn];simp
 | 2,h=>simp at h;subst h;rw [hn];simp
theorem relNames_any {w:World} {R:Nat} {A:Option Addr} {c:Nat} {l:List TypA} {t:TypA} {r:RelA} (h:SchA w R A c l) (ht:t.ok w R) (hr:r.ok w R) :
 Calls Tryz.prog 128 #[.agg #[.slice A l.length c],.agg #[.string t.name,.slice t.A t.rels.length t.c],.agg #[.string r.name,.string r.view,.string r.edit,.string r.check,.slice r.As r.subs.length r.cs,.slice r.Ao r.ops.length r.co]] w fun e w' =>
  e = .returned (.int .i64 (zbR (l.map TypA.says) t.says r.says:Nat))∧Below w.heap.size w w':=by
 have hls:(r.subs.length:Int)≤9223372036854775807:=by have:=hr.subs.cap;have:=hr.subs.capm;simp only [maxLen] at this;omega
 have hlo:(r.ops.length:Int)≤9223372036854775807:=by have:=hr.ops.cap;have:=hr.ops.capm;simp only [maxLen] at this;omega
 obtain ⟨As,hAs⟩:∃As,r.As=As:=⟨_,rfl⟩;obtain ⟨Ao,hAo⟩:∃Ao,r.Ao=Ao:=⟨_,rfl⟩;rw [hAs,hAo];have hNE:Hid (zbR (l.map TypA.says) t.says r.says=if (zcf t.says r.view && (zcf t.says r.edit && zcf t.says r.check))=false then 31 else if zcm (l.map TypA.says) [] r.subs≠0 then zcm (l.map TypA.says) [] r.subs else if r.ops.all (zdr (l.map TypA.says) t.says)=false then 31 else 0):=Lib.hid rfl;generalize zbR (l.map TypA.says) t.says r.says=NE at *
 have hb0:=((zb0 w (.cells #[.slice A l.length c] 92)).alloc (size_alloc (Nat.le_refl _)) (.cells #[.string t.name,.slice t.A t.rels.length t.c] 146));have hb1:=hb0.alloc hb0.size (.cells #[.string r.name,.string r.view,.string r.edit,.string r.check,.slice As r.subs.length r.cs,.slice Ao r.ops.length r.co] 149);have d0:=((Bk.new w #[.slice A l.length c] 92).alloc (.cells #[.string t.name,.slice t.A t.rels.length t.c] 146)).alloc (.cells #[.string r.name,.string r.view,.string r.edit,.string r.check,.slice As r.subs.length r.cs,.slice Ao r.ops.length r.co] 149);have d1:=(Bk.new2 w (.cells #[.slice A l.length c] 92) #[.string t.name,.slice t.A t.rels.length t.c] 146).alloc (.cells #[.string r.name,.string r.view,.string r.edit,.string r.check,.slice As r.subs.length r.cs,.slice Ao r.ops.length r.co] 149);have d2:=Bk.new2 (w.alloc (.cells #[.slice A l.length c] 92)) (.cells #[.string t.name,.slice t.A t.rels.length t.c] 146) #[.string r.name,.string r.view,.string r.edit,.string r.check,.slice As r.subs.length r.cs,.slice Ao r.ops.length r.co] 149;rw [show (w.alloc (.cells #[.slice A l.length c] 92)).heap.size + 1=w.heap.size + 1 + 1 by simp] at d2;have hz1:((((w.alloc (.cells #[.slice A l.length c] 92)).alloc (.cells #[.string t.name,.slice t.A t.rels.length t.c] 146)).alloc (.cells #[.string r.name,.string r.view,.string r.edit,.string r.check,.slice As r.subs.length r.cs,.slice Ao r.ops.length r.co] 149))).heap.size=w.heap.size + 1 + 1 + 1:=by simp
 go_enter Tryz.func128,Tryz.ntmps128
 go_upto_region 1 with (fail)
 generalize ((w.alloc (.cells #[.slice A l.length c] 92)).alloc (.cells #[.string t.name,.slice t.A t.rels.length t.c] 146)).alloc (.cells #[.string r.name,.string r.view,.string r.edit,.string r.check,.slice As r.subs.length r.cs,.slice Ao r.ops.length r.co] 149)=w1 at *
 obtain ⟨x0,x1,x2,x3,x4,x5⟩:=d2.c6;have xl:=d2.lt;clear hb0;go_wp2_with fail
 replace d0:=d0.alloc (.cells #[.string r.view,.string r.edit,.string r.check] 9);replace d1:=d1.alloc (.cells #[.string r.view,.string r.edit,.string r.check] 9);replace d2:=d2.alloc (.cells #[.string r.view,.string r.edit,.string r.check] 9);have d3:=Bk.new w1 #[.string r.view,.string r.edit,.string r.check] 9;have hb2:=hb1.alloc hb1.size (.cells #[.string r.view,.string r.edit,.string r.check] 9);rw [hz1] at d3;have ht2:=ht.up hb2;have h2:=h.up hb2;have hr2:=hr.up hb2;clear hb1 x0 x1 x2 x3 x4 x5 xl h ht hr;generalize w1.alloc (.cells #[.string r.view,.string r.edit,.string r.check] 9)=w2 at *
 clear hz1;go_loopw [21] (fun vi wx=>∃i:Nat,vi = .int .i64 i∧i≤3∧(∀n ∈ [r.view,r.edit,r.check].take i,zcf t.says n=true)∧Below w2.heap.size w2 wx) (fun vi _=>3-(intOf vi).toNat)
 case atStart=>exact ⟨0,rfl,Nat.zero_le _,fun n hn=>(by simp at hn),Below.refl _ _⟩
 case round =>
  obtain ⟨i,rfl,hi,hn,hbx⟩:=hrel;by_cases hil:i<3
  · obtain ⟨n,hni⟩:∃n,[r.view,r.edit,r.check][i]? = some n:=⟨_,List.getElem?_eq_getElem hil⟩;have hdi:(i:Int)<3:=by omega
    have g0:wr.cell? ⟨w.heap.size + 1 + 1 + 1,i,none⟩=some (.string n):=by
     rw [(d3.below hbx).cell i];match i,hil with
     | 0,_=>simpa using hni
     | 1,_=>simpa using hni
     | 2,_=>simpa using hni
    have e1:=d1.below hbx;obtain ⟨y0,y1⟩:=e1.c2;have yl:=e1.lt;have gl:=(d3.below hbx).lt;have hc:=hasRel_any (ht2.up hbx) n;cases hd:zcf t.says n with
    | false =>
     rw [hd] at hc;go_wp2_with (with_reducible refine hc.mono ?_;rintro e w3 ⟨rfl,hb3⟩)
     go_ret
     refine ⟨?_,hb2.trans ((hbx.trans (hb3.mono hbx.size)).mono hb2.size)⟩;have:(zcf t.says r.view && (zcf t.says r.edit && zcf t.says r.check))=false:=zmR hni hd;rw [hNE.out,if_pos this];rfl
    | true =>
     rw [hd] at hc;go_wp2_with (with_reducible refine hc.mono ?_;rintro e w3 ⟨rfl,hb3⟩)
     refine ⟨⟨i + 1,by go_num,by omega,fun m hm=>?_,zad hbx hbx.size hb3⟩,?_⟩
     · rw [zcw hni] at hm;rcases List.mem_append.1 hm with hm | hm
       · exact hn m hm
       · simp at hm;subst hm;exact hd
     · simp [intOf];omega
  · obtain rfl:i=3:=by omega
    have e2:=d2.below hbx;obtain ⟨x0,x1,x2,x3,x4,x5⟩:=e2.c6;have xl:=e2.lt;have hA:¬(zcf t.says r.view && (zcf t.says r.edit && zcf t.says r.check))=false:=by
     rw [hn r.view (by simp),hn r.edit (by simp),hn r.check (by simp)];decide
    replace hNE:Hid (NE=if zcm (l.map TypA.says) [] r.subs≠0 then zcm (l.map TypA.says) [] r.subs else if r.ops.all (zdr (l.map TypA.says) t.says)=false then 31 else 0):=Lib.hid (by rw [hNE.out,if_neg hA]);clear hA hn d3;go_wp2_with fail
    clear x0 x1 x2 x3 x4 x5 xl;have hb4:=zad hb2 hb2.size hbx;have d0':=d0.below hbx;have d1':=d1.below hbx;have d2':=d2.below hbx;have ht4:=ht2.up hbx;have h4:=h2.up hbx;have hr4:=hr2.up hbx;clear hb2 d0 d1 d2 ht2 h2 hr2;generalize wr=w4 at *
    clear hbx;simp only [show ((3:Nat):Int)=3 from rfl];go_loopw [33] (fun vi wx=>∃i:Nat,vi = .int .i64 i∧i≤r.subs.length∧Hid (zcm (l.map TypA.says) [] r.subs=zcm (l.map TypA.says) (r.subs.take i) (r.subs.drop i))∧Below w4.heap.size w4 wx) (fun vi _=>r.subs.length-(intOf vi).toNat)
    case atStart=>exact ⟨0,rfl,Nat.zero_le _,Lib.hid rfl,Below.refl _ _⟩
    case round =>
     obtain ⟨j,rfl,hj,hE,hbx⟩:=hrel;by_cases hjl:j<r.subs.length
     · have hdj:(j:Int)<(r.subs.length:Nat):=by omega
       obtain ⟨s,hs⟩:∃s,r.subs[j]? = some s:=⟨r.subs[j],List.getElem?_eq_getElem hjl⟩;obtain ⟨g,o,eA,g0,g1,_,_⟩:=(hr4.up hbx).sub hs;have lg:=World.block_lt_of_cell? _ _ g0;dsimp only at lg;rw [hAs] at eA;subst eA;go_upto_region 10 with (fail)
       have hbs:=zb0 wr (.cells #[.string s.1,.string s.2] 126);have dS:=Bk.new wr #[.string s.1,.string s.2] 126;have hbx2:=zad hbx hbx.size hbs;clear hbs;generalize wr.alloc (.cells #[.string s.1,.string s.2] 126)=w5 at *
       obtain ⟨s0,s1⟩:=dS.c2;have sl:=dS.lt;have e0:=d0'.below hbx2;have q0:=e0.c1;have ql:=e0.lt;have hc:=isThere_any (h4.up hbx2) s;have hEs:=zkH (l:=l.map TypA.says) hs;cases hd:zdN (l.map TypA.says) s with
       | false =>
        rw [hd] at hc;rw [if_pos hd] at hEs;go_wp2_with (with_reducible refine hc.mono ?_;rintro e w6 ⟨rfl,hb6⟩)
        go_ret
        refine ⟨?_,zad hb4 hb4.size (zad hbx2 hbx2.size hb6)⟩;rw [hNE.out,hE.out,hEs,if_pos (by decide)];rfl
       | true =>
        rw [hd] at hc;rw [if_neg (by rw [hd];decide)] at hEs;go_wp2_with (with_reducible refine hc.mono ?_;rintro e w6 ⟨rfl,hb6⟩)
        have hbx6:=zad hbx2 hbx2.size hb6;have dS6:=dS.below hb6;clear s0 s1 sl q0 ql e0 dS;obtain ⟨s0,s1⟩:=dS6.c2;have sl:=dS6.lt;have e2:=d2'.below hbx6;obtain ⟨x0,x1,x2,x3,x4,x5⟩:=e2.c6;have xl:=e2.lt;have hcap:=hr4.subs.cap;have hjc:(j:Int)≤(r.cs:Nat):=by omega
        have hbd:Below w6.heap.size w6 w6.drew:=⟨rfl,rfl,rfl,Nat.le_refl _,fun _ _=>rfl⟩;have hbx7:=zad hbx6 hbx6.size hbd;have hcn:=contains_any (((SubsA.mk hr4.subs).up hbx7).pre (Nat.le_of_lt hjl)) s;rw [hAs,show (r.subs.take j).length=j by rw [List.length_take];omega] at hcn;go_still_tail 5,(by kernel_rfl)
        change wpList _ _ _ _ _ (World.drew _);cases hcb:(r.subs.take j).any fun y=>decide (y=s) with
        | true =>
         rw [hcb] at hcn;rw [if_pos hcb] at hEs;go_wp2_with (with_reducible refine hcn.mono ?_;rintro e w8 ⟨rfl,hb8⟩)
         go_ret
         refine ⟨?_,zad hb4 hb4.size (zad hbx7 hbx7.size hb8)⟩;rw [hNE.out,hE.out,hEs,if_pos (by decide)];rfl
        | false =>
         rw [hcb] at hcn;rw [if_neg (by rw [hcb];decide)] at hEs;go_wp2_with (with_reducible refine hcn.mono ?_;rintro e w8 ⟨rfl,hb8⟩)
         refine ⟨⟨j + 1,by go_num,by omega,Lib.hid (by rw [hE.out,hEs]),zad hbx7 hbx7.size hb8⟩,?_⟩;simp [intOf];omega
     · obtain rfl:j=r.subs.length:=by omega
       have hE0:zcm (l.map TypA.says) [] r.subs=0:=by
        rw [hE.out,List.take_length,List.drop_length];rfl
       replace hNE:Hid (NE=if r.ops.all (zdr (l.map TypA.says) t.says)=false then 31 else 0):=Lib.hid (by rw [hNE.out,hE0,if_neg (by decide)]);clear hE0 hE;have e2:=d2'.below hbx;obtain ⟨x0,x1,x2,x3,x4,x5⟩:=e2.c6;have xl:=e2.lt;go_wp2_with fail
       clear x0 x1 x2 x3 x4 x5 xl e2;have hb5:=zad hb4 hb4.size hbx;have d0'':=d0'.below hbx;have d1'':=d1'.below hbx;have ht5:=ht4.up hbx;have h5:=h4.up hbx;have hr5:=hr4.up hbx;clear hb4 d0' d1' d2' ht4 h4 hr4;generalize wr=w5 at *
       clear hbx;go_loopw [52] (fun vi wx=>∃i:Nat,vi = .int .i64 i∧i≤r.ops.length∧(∀o ∈ r.ops.take i,zdr (l.map TypA.says) t.says o=true)∧Below w5.heap.size w5 wx) (fun vi _=>r.ops.length-(intOf vi).toNat)
       case atStart=>exact ⟨0,rfl,Nat.zero_le _,fun o ho=>(by simp at ho),Below.refl _ _⟩
       case round =>
        obtain ⟨k,rfl,hk,hE,hbx⟩:=hrel;by_cases hkl:k<r.ops.length
        · have hdk:(k:Int)<(r.ops.length:Nat):=by omega
          obtain ⟨q,hq⟩:∃q,r.ops[k]? = some q:=⟨r.ops[k],List.getElem?_eq_getElem hkl⟩;obtain ⟨g,o,eA,g0,g1,g2,_,_,_⟩:=(hr5.up hbx).op hq;have lg:=World.block_lt_of_cell? _ _ g0;dsimp only at lg;rw [hAo] at eA;subst eA;go_upto_region 18 with (fail)
          have hbs:=zb0 wr (.cells #[.int .i64 q.1,.string q.2.1,.string q.2.2] 166);have dS:=Bk.new wr #[.int .i64 q.1,.string q.2.1,.string q.2.2] 166;have hbx2:=zad hbx hbx.size hbs;clear hbs;generalize wr.alloc (.cells #[.int .i64 q.1,.string q.2.1,.string q.2.2] 166)=w6 at *
          have s0:w6.cell? ⟨wr.heap.size,0,none⟩=some (.int .i64 q.1):=dS.cell 0;have s1:w6.cell? ⟨wr.heap.size,1,none⟩=some (.string q.2.1):=dS.cell 1;have s2:w6.cell? ⟨wr.heap.size,2,none⟩=some (.string q.2.2):=dS.cell 2;have sl:=dS.lt;have e0:=d0''.below hbx2;have q0:=e0.c1;have ql:=e0.lt;have e1:=d1''.below hbx2;obtain ⟨y0,y1⟩:=e1.c2;have yl:=e1.lt;have hc:=opHolds_any q (h5.up hbx2) (ht5.up hbx2);cases hd:zdr (l.map TypA.says) t.says q with
          | false =>
           rw [hd] at hc;go_wp2_with (with_reducible refine hc.mono ?_;rintro e w7 ⟨rfl,hb7⟩)
           go_ret
           refine ⟨?_,zad hb5 hb5.size (zad hbx2 hbx2.size hb7)⟩;rw [hNE.out,if_pos (List.all_eq_false.2 ⟨q,List.mem_of_getElem? hq,by rw [hd];decide⟩)];rfl
          | true =>
           rw [hd] at hc;go_wp2_with (with_reducible refine hc.mono ?_;rintro e w7 ⟨rfl,hb7⟩)
           refine ⟨⟨k + 1,by go_num,by omega,fun o ho=>?_,zad hbx2 hbx2.size hb7⟩,?_⟩
           · rw [zcw hq] at ho;rcases List.mem_append.1 ho with ho | ho
             · exact hE o ho
             · simp at ho;subst ho;exact hd
           · simp [intOf];omega
        · obtain rfl:k=r.ops.length:=by omega
          have hdk:¬((r.ops.length:Int)<(r.ops.length:Nat)):=by omega
          rw [List.take_length] at hE;go_wp2
          go_ret
          refine ⟨?_,zad hb5 hb5.size hbx⟩;rw [hNE.out,if_neg (by rw [List.all_eq_true.2 hE];decide)];rfl
theorem zbH {α:Type} (p:α→Bool):∀l:List α,(l.find? p).isSome=l.any p
 | []=>rfl
 | x::r=>by
  rw [List.find?_cons,List.any_cons];cases h:p x with
  | true=>rfl
  | false=>exact zbH p r
theorem SchA.pre {w:World} {R:Nat} {A:Option Addr} {c:Nat} {l:List TypA} (h:SchA w R A c l) {i:Nat} (hi:i≤l.length):SchA w R A c (l.take i):=by
 have e:(l.take i).length=i:=by rw [List.length_take];omega
 refine ⟨?_,?_,fun a ha=>h.each a (List.mem_of_mem_take ha)⟩
 · rw [e,zez TypA.cells (sz:=2) (fun _=>rfl)];exact h.rows.pre hi
 · have:=h.few;rw [e];exact Nat.le_trans (Nat.mul_le_mul_right _ hi) this
theorem TypA.ok.pre {w:World} {R:Nat} {t:TypA} (h:t.ok w R) {i:Nat} (hi:i≤t.rels.length):TypA.ok w R ⟨⟨#[]⟩,t.A,t.c,t.rels.take i⟩:=by
 have e:(t.rels.take i).length=i:=by rw [List.length_take];omega
 refine ⟨Nat.zero_le _,?_,?_,fun a ha=>h.relz a (List.mem_of_mem_take ha)⟩
 · show Rd w w.heap.size 6 t.A (t.rels.take i).length t.c _;rw [e,zez RelA.cells (sz:=6) (fun _=>rfl)];exact h.rels.pre hi
 · have:=h.reln;show (t.rels.take i).length * 112≤R;rw [e];exact Nat.le_trans (Nat.mul_le_mul_right _ hi) this
theorem zkx {A:Option Addr} {c:Nat} {t:TypI} {q:List RelA} {j:Nat} {r:RelA} (hr:q[j]? = some r) :
 zcB t ((q.take j).map RelA.says) ((q.drop j).map RelA.says)=if reE ⟨⟨#[]⟩,A,c,q.take j⟩ r≠0 then (reE ⟨⟨#[]⟩,A,c,q.take j⟩ r,zgJ t r.says) else zcB t ((q.take (j + 1)).map RelA.says) ((q.drop (j + 1)).map RelA.says):=by
 rw [List.drop_eq_getElem_cons (List.getElem?_eq_some_iff.1 hr).1,(List.getElem?_eq_some_iff.1 hr).2,zcw hr,List.map_cons,List.map_append];have e:((q.take j).map RelA.says).any (fun x=>decide (x.name=r.says.name))=(za3 ⟨⟨#[]⟩,A,c,q.take j⟩ r.name).isSome:=by
  unfold za3;rw [zbH,List.any_map];rfl
 have eo:r.says.ops=r.ops:=rfl;unfold reE;rw [zcB,e,eo];by_cases h1:(za3 ⟨⟨#[]⟩,A,c,q.take j⟩ r.name).isSome=true
 · rw [if_pos h1,if_pos h1,if_pos (by decide)]
 · rw [if_neg h1,if_neg h1];by_cases h2:16<r.ops.length
   · rw [if_pos h2,if_pos h2,if_pos (by decide)]
   · rw [if_neg h2,if_neg h2,if_neg (by decide)];rfl
theorem zkL {l:List TypA} {i:Nat} {t:TypA} (ht:l[i]? = some t) :
 zbB ((l.take i).map TypA.says) ((l.drop i).map TypA.says)=if tyE (l.take i) t≠0 then (tyE (l.take i) t,t.name) else if (zcB t.says [] (t.rels.map RelA.says)).1≠0 then zcB t.says [] (t.rels.map RelA.says) else zbB ((l.take (i + 1)).map TypA.says) ((l.drop (i + 1)).map TypA.says):=by
 rw [List.drop_eq_getElem_cons (List.getElem?_eq_some_iff.1 ht).1,(List.getElem?_eq_some_iff.1 ht).2,zcw ht,List.map_cons,List.map_append];have e:((l.take i).map TypA.says).any (fun x=>decide (x.name=t.says.name))=(zbw (l.take i) t.name).isSome:=by
  unfold zbw;rw [zbH,List.any_map];rfl
 have eo:t.says.rels=t.rels.map RelA.says:=rfl;have el:(t.rels.map RelA.says).length=t.rels.length:=List.length_map ..;unfold tyE;rw [zbB,e,eo,el];by_cases h1:(zbw (l.take i) t.name).isSome=true
 · rw [if_pos h1,if_pos h1,if_pos (by decide)];rfl
 · rw [if_neg h1,if_neg h1];by_cases h2:12<t.rels.length
   · rw [if_pos h2,if_pos h2,if_pos (by decide)];rfl
   · rw [if_neg h2,if_neg h2,if_neg (show ¬((0:Nat)≠0) by decide)];rfl
theorem zg5 {l:List TypI} {t:TypI} {q:List RelA} {j:Nat} {r:RelA} (hr:q[j]? = some r) :
 za5 l t ((q.drop j).map RelA.says)=if zbR l t r.says≠0 then (zbR l t r.says,zgJ t r.says) else za5 l t ((q.drop (j + 1)).map RelA.says):=by
 rw [List.drop_eq_getElem_cons (List.getElem?_eq_some_iff.1 hr).1,(List.getElem?_eq_some_iff.1 hr).2,List.map_cons];rfl
theorem ziB {L:List TypI} {l:List TypA} {i:Nat} {t:TypA} (ht:l[i]? = some t) :
 zbj L ((l.drop i).map TypA.says)=if (za5 L t.says (t.rels.map RelA.says)).1≠0 then za5 L t.says (t.rels.map RelA.says) else zbj L ((l.drop (i + 1)).map TypA.says):=by
 rw [List.drop_eq_getElem_cons (List.getElem?_eq_some_iff.1 ht).1,(List.getElem?_eq_some_iff.1 ht).2,List.map_cons];rfl
theorem partsFault_any {w:World} {R:Nat} {A:Option Addr} {c:Nat} {l:List TypA} (h:SchA w R A c l) (hR:R≤140737488351232) :
 Calls Tryz.prog 80 #[.agg #[.slice A l.length c]] w fun e w' =>
  e = .returned (.tuple #[.int .i64 ((zbB [] (l.map TypA.says)).1:Nat),.string (zbB [] (l.map TypA.says)).2])∧Below w.heap.size w w':=by
 have hll:(l.length:Int)≤9223372036854775807:=by have:=h.rows.cap;have:=h.rows.capm;simp only [maxLen] at this;omega
 have hcap:=h.rows.cap;have hNE:Hid (zbB [] (l.map TypA.says)=zbB ((l.take 0).map TypA.says) ((l.drop 0).map TypA.says)):=Lib.hid rfl;generalize zbB [] (l.map TypA.says)=NE at *
 have hb0:=zb0 w (.cells #[.slice A l.length c] 92);have d0:=Bk.new w #[.slice A l.length c] 92;have h0:=h.up hb0;go_enter Tryz.func80,Tryz.ntmps80
 go_upto_region 1 with (fail)
 clear h;generalize w.alloc (.cells #[.slice A l.length c] 92)=w1 at *
 have x0:=d0.c1;have xl:=d0.lt;go_wp2_with fail
 go_step3
 go_wp2_with fail
 go_step3
 go_wp2_with fail
 go_loopw [2,3,11] (fun ve va vi wx=>ve = .int .i64 0∧va = .string ⟨#[]⟩∧∃i:Nat,vi = .int .i64 i∧i≤l.length∧Hid (NE=zbB ((l.take i).map TypA.says) ((l.drop i).map TypA.says))∧Below w1.heap.size w1 wx) (fun _ _ vi _=>l.length-(intOf vi).toNat)
 case atStart=>exact ⟨rfl,rfl,0,rfl,Nat.zero_le _,hNE,Below.refl _ _⟩
 case round =>
  clear hNE x0 xl;obtain ⟨rfl,rfl,i,rfl,hi,hNE,hbx⟩:=hrel;by_cases hil:i<l.length
  · have hdi:(i:Int)<(l.length:Nat):=by omega
    have hic:(i:Int)≤(c:Nat):=by omega
    obtain ⟨t,ht⟩:∃t,l[i]? = some t:=⟨l[i],List.getElem?_eq_getElem hil⟩;obtain ⟨g,o,rfl,g0,g1,hk⟩:=(h0.up hbx).get ht;have lg:=World.block_lt_of_cell? _ _ g0;dsimp only at lg;go_upto_region 4 with (fail)
    have hbs:=zb0 wr (.cells #[.string t.name,.slice t.A t.rels.length t.c] 146);have dT:=Bk.new wr #[.string t.name,.slice t.A t.rels.length t.c] 146;have hbx2:=zad hbx hbx.size hbs;have hk2:=hk.up hbs;clear hbs hk;generalize wr.alloc (.cells #[.string t.name,.slice t.A t.rels.length t.c] 146)=w2 at *
    obtain ⟨t0,t1⟩:=dT.c2;have tl:=dT.lt;have e0:=d0.below hbx2;have x0:=e0.c1;have xl:=e0.lt;have hbd:Below w2.heap.size w2 w2.drew:=⟨rfl,rfl,rfl,Nat.le_refl _,fun _ _=>rfl⟩;have hbx3:=zad hbx2 hbx2.size hbd;have hcn:=typeFault_any (t:=t) ((h0.up hbx3).pre hi);rw [show (l.take i).length=i by rw [List.length_take];omega] at hcn;have hS:=zkL ht;go_still_tail 5,(by kernel_rfl)
    change wpList _ _ _ _ _ (World.drew _);generalize tyE (l.take i) t=k at *
    by_cases hk0:k=0
    · subst hk0;rw [if_neg (by decide)] at hS;simp only [show ((0:Nat):Int)=0 from rfl] at hcn;go_wp2_with ((with_reducible refine hcn.mono ?_);rintro e w4 ⟨rfl,hb4⟩;have dT4:=(dT.below hbd).below hb4;have t4:=dT4.c2.2;have tl4:=dT4.lt)
      have hbx4:=zad hbx3 hbx3.size hb4;have hk4:=(hk2.up hbd).up hb4;have hlr:(t.rels.length:Int)≤9223372036854775807:=by have:=hk2.rels.cap;have:=hk2.rels.capm;simp only [maxLen] at this;omega
      have hrc:=hk2.rels.cap;have hRE:Hid (zcB t.says [] (t.rels.map RelA.says)=zcB t.says ((t.rels.take 0).map RelA.says) ((t.rels.drop 0).map RelA.says)):=Lib.hid rfl;generalize zcB t.says [] (t.rels.map RelA.says)=RE at *
      obtain ⟨tA,htA⟩:∃tA,t.A=tA:=⟨_,rfl⟩;rw [htA] at dT4 t4 ⊢;clear hbx hbx2 hbx3 hb4 hbd hk2 dT t0 t1 tl g0 g1 lg x0 xl e0 hcn;generalize wr.heap.size=B5 at *
      go_loopw [2,3,29] (fun ve va vi wx=>ve = .int .i64 0∧va = .string ⟨#[]⟩∧∃i:Nat,vi = .int .i64 i∧i≤t.rels.length∧Hid (RE=zcB t.says ((t.rels.take i).map RelA.says) ((t.rels.drop i).map RelA.says))∧Below w4.heap.size w4 wx) (fun _ _ vi _=>t.rels.length-(intOf vi).toNat)
      case atStart=>exact ⟨rfl,rfl,0,rfl,Nat.zero_le _,hRE,Below.refl _ _⟩
      case round =>
       clear hRE;obtain ⟨rfl,rfl,j,rfl,hj,hRE,hby⟩:=hrel;by_cases hjl:j<t.rels.length
       · have hdj:(j:Int)<(t.rels.length:Nat):=by omega
         have hjc:(j:Int)≤(t.c:Nat):=by omega
         obtain ⟨r,hr⟩:∃r,t.rels[j]? = some r:=⟨t.rels[j],List.getElem?_eq_getElem hjl⟩;obtain ⟨gr,o',eA,r0,r1,r2,r3,r4,r5,hkr⟩:=(hk4.up hby).get hr;have lgr:=World.block_lt_of_cell? _ _ r0;dsimp only at lgr;rw [htA] at eA;subst eA;go_upto_region 10 with (fail)
         have hbs:=zb0 wr (.cells #[.string r.name,.string r.view,.string r.edit,.string r.check,.slice r.As r.subs.length r.cs,.slice r.Ao r.ops.length r.co] 149);have dR:=Bk.new wr #[.string r.name,.string r.view,.string r.edit,.string r.check,.slice r.As r.subs.length r.cs,.slice r.Ao r.ops.length r.co] 149;have hby2:=zad hby hby.size hbs;clear hbs hkr hby r0 r1 r2 r3 r4 r5 lgr;generalize wr.alloc (.cells #[.string r.name,.string r.view,.string r.edit,.string r.check,.slice r.As r.subs.length r.cs,.slice r.Ao r.ops.length r.co] 149)=w5 at *
         generalize wr.heap.size=B7 at *
         obtain ⟨r0,r1,r2,r3,r4,r5⟩:=dR.c6;have rl:=dR.lt;have e4:=dT4.below hby2;obtain ⟨t0,t1⟩:=e4.c2;have tl:=e4.lt;have hbd:Below w5.heap.size w5 w5.drew:=⟨rfl,rfl,rfl,Nat.le_refl _,fun _ _=>rfl⟩;have hby3:=zad hby2 hby2.size hbd;have hcn:=relFault_any (t:=r) ((hk4.up hby3).pre hj);rw [htA,show (t.rels.take j).length=j by rw [List.length_take];omega] at hcn;have hS2:=zkx (A:=some ⟨gr,o',none⟩) (c:=t.c) (t:=t.says) hr;go_still_tail 5,(by kernel_rfl)
         change wpList _ _ _ _ _ (World.drew _);generalize reE ⟨⟨#[]⟩,some ⟨gr,o',none⟩,t.c,t.rels.take j⟩ r=k at *
         by_cases hk0:k=0
         · subst hk0;rw [if_neg (by decide)] at hS2;simp only [show ((0:Nat):Int)=0 from rfl] at hcn;go_wp2_with ((with_reducible refine hcn.mono ?_);rintro e w6 ⟨rfl,hb6⟩)
           refine ⟨⟨rfl,rfl,j + 1,by go_num,by omega,Lib.hid (by rw [hRE.out,hS2]),zad hby3 hby3.size hb6⟩,?_⟩;simp [intOf];omega
         · have hki:¬((k:Nat):Int)=0:=by omega
           rw [if_pos hk0] at hS2;go_wp2_with ((with_reducible refine hcn.mono ?_);rintro e w6 ⟨rfl,hb6⟩;have dR6:=(dR.below hbd).below hb6;have dT6:=(e4.below hbd).below hb6;have p4:=dT6.c2.1;have p5:=dT6.c2.2;have pl:=dT6.lt;obtain ⟨s0,s1,s2,s3,s4,s5⟩:=dR6.c6;have sl:=dR6.lt)
           have hpc:=path_any (w:=w6) (q:=t) (r:=r) (Nat.le_trans hk4.name hR) (Nat.le_trans (hk4.relz r (List.mem_of_getElem? hr)).name hR);rw [htA] at hpc;refine hpc.mono ?_;rintro e w8 ⟨rfl,hb8⟩;go_wp2_with fail
           rw [Exit.noGoto_ret];refine bodyPost_ret (v:=.tuple #[.int .i64 (k:Nat),.string (zgJ t.says r.says)]) (by simp [results,Tryz.results80,go_sem];try rfl) rfl ?_;refine ⟨?_,zad hb0 hb0.size (zad hbx4 hbx4.size (zad hby3 hby3.size (zad hb6 hb6.size hb8)))⟩;have hne:RE.1≠0:=by rw [hRE.out,hS2];exact hk0
           rw [hNE.out,hS,if_pos hne,hRE.out,hS2]
       · obtain rfl:j=t.rels.length:=by omega
         have hRE0:RE=(0,⟨#[]⟩):=by
          rw [hRE.out,List.take_length,List.drop_length];rfl
         subst hRE0;rw [if_neg (show ¬((0,⟨#[]⟩):Nat × ByteArray).1≠0 by decide)] at hS;replace hS:=Lib.hid hS;go_wp2
         refine ⟨⟨rfl,rfl,i + 1,by go_num,by omega,Lib.hid (by rw [hNE.out,hS.out]),zad hbx4 hbx4.size hby⟩,?_⟩;simp [intOf];omega
    · have hki:¬((k:Nat):Int)=0:=by omega
      rw [if_pos hk0] at hS;go_wp2_with ((with_reducible refine hcn.mono ?_);rintro e w4 ⟨rfl,hb4⟩;have dT4:=(dT.below hbd).below hb4;have t4:=dT4.c2.1;have tl4:=dT4.lt)
      rw [Exit.noGoto_ret];refine bodyPost_ret (v:=.tuple #[.int .i64 (k:Nat),.string t.name]) (by simp [results,Tryz.results80,go_sem];try rfl) rfl ?_;refine ⟨?_,zad hb0 hb0.size (zad hbx3 hbx3.size hb4)⟩;rw [hNE.out,hS]
  · have hdi:¬(i:Int)<(l.length:Nat):=by omega
    obtain rfl:i=l.length:=by omega
    go_wp2
    refine bodyPost_ret (v:=.tuple #[.int .i64 0,.string ⟨#[]⟩]) (by simp [results,Tryz.results80,go_sem];try rfl) rfl ?_;refine ⟨?_,zad hb0 hb0.size hbx⟩;rw [hNE.out,List.take_length,List.drop_length];rfl
theorem namesFault_any {w:World} {R:Nat} {A:Option Addr} {c:Nat} {l:List TypA} (h:SchA w R A c l) (hR:R≤140737488351232) :
 Calls Tryz.prog 81 #[.agg #[.slice A l.length c]] w fun e w' =>
  e = .returned (.tuple #[.int .i64 ((zbj (l.map TypA.says) (l.map TypA.says)).1:Nat),.string (zbj (l.map TypA.says) (l.map TypA.says)).2])∧Below w.heap.size w w':=by
 have hll:(l.length:Int)≤9223372036854775807:=by have:=h.rows.cap;have:=h.rows.capm;simp only [maxLen] at this;omega
 obtain ⟨L,hL⟩:∃L,l.map TypA.says=L:=⟨_,rfl⟩;have hNE:Hid (zbj L (l.map TypA.says)=zbj L ((l.drop 0).map TypA.says)):=Lib.hid rfl;rw [show zbj (l.map TypA.says) (l.map TypA.says)=zbj L (l.map TypA.says) by rw [hL]];generalize zbj L (l.map TypA.says)=NE at *
 have hL:=Lib.hid hL;have hb0:=zb0 w (.cells #[.slice A l.length c] 92);have d0:=Bk.new w #[.slice A l.length c] 92;have h0:=h.up hb0;go_enter Tryz.func81,Tryz.ntmps81
 go_upto_region 1 with (fail)
 clear h;generalize w.alloc (.cells #[.slice A l.length c] 92)=w1 at *
 have x0:=d0.c1;have xl:=d0.lt;go_wp2_with fail
 go_step3
 go_wp2_with fail
 go_step3
 go_wp2_with fail
 go_loopw [2,3,11] (fun ve va vi wx=>ve = .int .i64 0∧va = .string ⟨#[]⟩∧∃i:Nat,vi = .int .i64 i∧i≤l.length∧Hid (NE=zbj L ((l.drop i).map TypA.says))∧Below w1.heap.size w1 wx) (fun _ _ vi _=>l.length-(intOf vi).toNat)
 case atStart=>exact ⟨rfl,rfl,0,rfl,Nat.zero_le _,hNE,Below.refl _ _⟩
 case round =>
  clear hNE x0 xl;obtain ⟨rfl,rfl,i,rfl,hi,hNE,hbx⟩:=hrel;by_cases hil:i<l.length
  · have hdi:(i:Int)<(l.length:Nat):=by omega
    obtain ⟨t,ht⟩:∃t,l[i]? = some t:=⟨l[i],List.getElem?_eq_getElem hil⟩;obtain ⟨g,o,rfl,g0,g1,hk⟩:=(h0.up hbx).get ht;have lg:=World.block_lt_of_cell? _ _ g0;dsimp only at lg;go_upto_region 4 with (fail)
    have hbs:=zb0 wr (.cells #[.string t.name,.slice t.A t.rels.length t.c] 146);have dT:=Bk.new wr #[.string t.name,.slice t.A t.rels.length t.c] 146;have hbx2:=zad hbx hbx.size hbs;have hk2:=hk.up hbs;clear hbs hk;generalize wr.alloc (.cells #[.string t.name,.slice t.A t.rels.length t.c] 146)=w4 at *
    have d04:=d0.below hbx2;obtain ⟨t0,t1⟩:=dT.c2;have tl:=dT.lt;have hS:=ziB (L:=L) ht;have hlr:(t.rels.length:Int)≤9223372036854775807:=by have:=hk2.rels.cap;have:=hk2.rels.capm;simp only [maxLen] at this;omega
    have hRE:Hid (za5 L t.says (t.rels.map RelA.says)=za5 L t.says ((t.rels.drop 0).map RelA.says)):=Lib.hid rfl;generalize za5 L t.says (t.rels.map RelA.says)=RE at *
    obtain ⟨tA,htA⟩:∃tA,t.A=tA:=⟨_,rfl⟩;rw [htA] at dT t1 ⊢;go_wp2_with fail
    clear hbx g0 g1 lg t0 t1 tl;generalize wr.heap.size=B5 at *
    go_loopw [2,3,18] (fun ve va vi wx=>ve = .int .i64 0∧va = .string ⟨#[]⟩∧∃i:Nat,vi = .int .i64 i∧i≤t.rels.length∧Hid (RE=za5 L t.says ((t.rels.drop i).map RelA.says))∧Below w4.heap.size w4 wx) (fun _ _ vi _=>t.rels.length-(intOf vi).toNat)
    case atStart=>exact ⟨rfl,rfl,0,rfl,Nat.zero_le _,hRE,Below.refl _ _⟩
    case round =>
     clear hRE;obtain ⟨rfl,rfl,j,rfl,hj,hRE,hby⟩:=hrel;by_cases hjl:j<t.rels.length
     · have hdj:(j:Int)<(t.rels.length:Nat):=by omega
       obtain ⟨r,hr⟩:∃r,t.rels[j]? = some r:=⟨t.rels[j],List.getElem?_eq_getElem hjl⟩;obtain ⟨gr,o',eA,r0,r1,r2,r3,r4,r5,hkr⟩:=(hk2.up hby).get hr;have lgr:=World.block_lt_of_cell? _ _ r0;dsimp only at lgr;rw [htA] at eA;subst eA;go_upto_region 7 with (fail)
       have hbs:=zb0 wr (.cells #[.string r.name,.string r.view,.string r.edit,.string r.check,.slice r.As r.subs.length r.cs,.slice r.Ao r.ops.length r.co] 149);have dR:=Bk.new wr #[.string r.name,.string r.view,.string r.edit,.string r.check,.slice r.As r.subs.length r.cs,.slice r.Ao r.ops.length r.co] 149;have hby2:=zad hby hby.size hbs;have hkr2:=hkr.up hbs;clear hbs hkr hby r0 r1 r2 r3 r4 r5 lgr;generalize wr.alloc (.cells #[.string r.name,.string r.view,.string r.edit,.string r.check,.slice r.As r.subs.length r.cs,.slice r.Ao r.ops.length r.co] 149)=w5 at *
       generalize wr.heap.size=B7 at *
       obtain ⟨r0,r1,r2,r3,r4,r5⟩:=dR.c6;have rl:=dR.lt;have e4:=dT.below hby2;obtain ⟨t0,t1⟩:=e4.c2;have tl:=e4.lt;have e0:=d04.below hby2;have x0:=e0.c1;have xl:=e0.lt;have hcn:=relNames_any ((h0.up hbx2).up hby2) (hk2.up hby2) hkr2;rw [htA,hL.out] at hcn;have hS2:=zg5 (l:=L) (t:=t.says) hr;generalize zbR L t.says r.says=k at *
       by_cases hk0:k=0
       · subst hk0;rw [if_neg (by decide)] at hS2;replace hS2:=Lib.hid hS2;simp only [show ((0:Nat):Int)=0 from rfl] at hcn;go_wp2_with ((with_reducible refine hcn.mono ?_);rintro e w6 ⟨rfl,hb6⟩)
         refine ⟨⟨rfl,rfl,j + 1,by go_num,by omega,Lib.hid (by rw [hRE.out,hS2.out]),zad hby2 hby2.size hb6⟩,?_⟩;simp [intOf];omega
       · have hki:¬((k:Nat):Int)=0:=by omega
         rw [if_pos hk0] at hS2;replace hS2:=Lib.hid hS2;go_wp2_with ((with_reducible refine hcn.mono ?_);rintro e w6 ⟨rfl,hb6⟩;have dR6:=dR.below hb6;have dT6:=e4.below hb6;have p4:=dT6.c2.1;have p5:=dT6.c2.2;have pl:=dT6.lt;obtain ⟨s0,s1,s2,s3,s4,s5⟩:=dR6.c6;have sl:=dR6.lt)
         have hpc:=path_any (w:=w6) (q:=t) (r:=r) (Nat.le_trans hk2.name hR) (Nat.le_trans hkr2.name hR);rw [htA] at hpc;refine hpc.mono ?_;rintro e w8 ⟨rfl,hb8⟩;go_wp2_with fail
         rw [Exit.noGoto_ret];refine bodyPost_ret (v:=.tuple #[.int .i64 (k:Nat),.string (zgJ t.says r.says)]) (by simp [results,Tryz.results81,go_sem];try rfl) rfl ?_;refine ⟨?_,zad hb0 hb0.size (zad hbx2 hbx2.size (zad hby2 hby2.size (zad hb6 hb6.size hb8)))⟩;have hne:RE.1≠0:=by rw [hRE.out,hS2.out];exact hk0
         rw [hNE.out,hS,if_pos hne,hRE.out,hS2.out]
     · obtain rfl:j=t.rels.length:=by omega
       have hRE0:RE=(0,⟨#[]⟩):=by
        rw [hRE.out,List.drop_length];rfl
       subst hRE0;rw [if_neg (show ¬((0,⟨#[]⟩):Nat × ByteArray).1≠0 by decide)] at hS;replace hS:=Lib.hid hS;go_wp2
       refine ⟨⟨rfl,rfl,i + 1,by go_num,by omega,Lib.hid (by rw [hNE.out,hS.out]),zad hbx2 hbx2.size hby⟩,?_⟩;simp [intOf];omega
  · have hdi:¬(i:Int)<(l.length:Nat):=by omega
    obtain rfl:i=l.length:=by omega
    go_wp2
    refine bodyPost_ret (v:=.tuple #[.int .i64 0,.string ⟨#[]⟩]) (by simp [results,Tryz.results81,go_sem];try rfl) rfl ?_;refine ⟨?_,zad hb0 hb0.size hbx⟩;rw [hNE.out,List.drop_length];rfl
theorem check_any {w:World} {R:Nat} {A:Option Addr} {c:Nat} {l:List TypA} (h:SchA w R A c l) (hR:R≤140737488351232) :
 Calls Tryz.prog 48 #[.agg #[.slice A l.length c]] w fun e w' =>
  e = .returned (.tuple #[.int .i64 ((zbh (l.map TypA.says)).1:Nat),.string (zbh (l.map TypA.says)).2])∧Below w.heap.size w w':=by
 have hb0:=zb0 w (.cells #[.slice A l.length c] 92);have d0:=Bk.new w #[.slice A l.length c] 92;have h0:=h.up hb0;have hC:zbh (l.map TypA.says)=if 8<l.length then (13,⟨#[]⟩) else if (zbB [] (l.map TypA.says)).1≠0 then zbB [] (l.map TypA.says) else zbj (l.map TypA.says) (l.map TypA.says):=by
  unfold zbh;rw [List.length_map]
 by_cases h8:8<l.length
 · have hdi:(8:Int)<(l.length:Nat):=by omega
   rw [if_pos h8] at hC;rw [hC];go_enter Tryz.func48,Tryz.ntmps48
   go_wp2
   refine bodyPost_ret (v:=.tuple #[.int .i64 13,.string ⟨#[]⟩]) (by simp [results,Tryz.results48,go_sem];try rfl) rfl ?_;exact ⟨rfl,hb0⟩
 · have hdi:¬(8:Int)<(l.length:Nat):=by omega
   rw [if_neg h8] at hC;have k1:=partsFault_any h0 hR;generalize zbB [] (l.map TypA.says)=T at *
   by_cases hT:T.1≠0
   · rw [if_pos hT] at hC;rw [hC];have hki:¬((T.1:Nat):Int)=0:=by omega
     clear hC;go_enter Tryz.func48,Tryz.ntmps48
     go_wp2_with (with_reducible refine k1.mono ?_;rintro e w2 ⟨rfl,hb2⟩)
     refine bodyPost_ret (v:=.tuple #[.int .i64 (T.1:Nat),.string T.2]) (by simp [results,Tryz.results48,go_sem];try rfl) rfl ?_;exact ⟨rfl,zad hb0 hb0.size hb2⟩
   · rw [if_neg hT] at hC;rw [hC];have hT0:T.1=0:=by omega
     rw [hT0] at k1;simp only [show ((0:Nat):Int)=0 from rfl] at k1;clear hC hT;go_enter Tryz.func48,Tryz.ntmps48
     go_wp2_with (with_reducible refine k1.mono ?_;rintro e w2 ⟨rfl,hb2⟩;have d2:=d0.below hb2;have x0:=d2.c1;have xl:=d2.lt)
     refine (namesFault_any (h0.up hb2) hR).mono ?_;rintro e w3 ⟨rfl,hb3⟩;go_wp2
     refine bodyPost_ret (v:=.tuple #[.int .i64 ((zbj (l.map TypA.says) (l.map TypA.says)).1:Nat),.string (zbj (l.map TypA.says) (l.map TypA.says)).2]) (by simp [results,Tryz.results48,go_sem];try rfl) rfl ?_;exact ⟨rfl,zad hb0 hb0.size (zad hb2 hb2.size hb3)⟩
end Go.Proofs.YtahegpfdbgbioaaGreat
namespace Go.Proofs.YtahegpfdbgbioaaGreat
open Go.RowKit Go.Maps
def zft (T:List TypI) (v:List Int):List RelT:=(zaA T).zipIdx.map fun x=>zcY (zap T) (zaK v x.2) x.1
theorem relsK_T (l:List TypA) (v:List Int):zhT (zan (relsA l)) v (relsA l)=zft (l.map TypA.says) v:=by
 unfold zhT zft;rw [zgn,←zaN,List.zipIdx_map,List.map_map];rfl
inductive CompIs (s:ByteArray):Nat→ByteArray→List ByteArray→List Path→List RelT→Prop
 | parse (e:Nat) (h:(zah s).2.1=e) (h0:e≠0):CompIs s e ⟨#[]⟩ [] [] []
 | check (e:Nat) (h1:(zah s).2.1=0) (h:(zbh ((zah s).1.map zbf)).1=e) (h0:e≠0):CompIs s e ⟨#[]⟩ [] [] []
 | cyc (h1:(zah s).2.1=0) (hR:Right ((zah s).1.map zbf)) (hc:Cyc (zaV ((zah s).1.map zbf))):CompIs s 33 ⟨#[]⟩ [] [] []
 | long (h1:(zah s).2.1=0) (hR:Right ((zah s).1.map zbf)) (hc:¬Cyc (zaV ((zah s).1.map zbf))) (hz:2048<(zb8 (zah s).1).size):CompIs s 13 ⟨#[]⟩ [] [] []
 | ok (h1:(zah s).2.1=0) (hR:Right ((zah s).1.map zbf)) (v:List Int) (hv:v.length=(zaA ((zah s).1.map zbf)).length) (hi:InR v.length (zaV ((zah s).1.map zbf))) (hL:Least v.length (zaV ((zah s).1.map zbf)) (zaK v)) (hz:(zb8 (zah s).1).size≤2048) :
  CompIs s 0 (zb8 (zah s).1) ((zah s).1.map (·.name)) (zap ((zah s).1.map zbf)) (zft ((zah s).1.map zbf) v)
structure TabA (w:World) (Ay:Option Addr) (cy:Nat) (ty:List ByteArray) (mb:Option Nat) (ps:List Path) (Ar:Option Addr) (cr:Nat) (K:List TabR):Prop where
 types:Rd w w.heap.size 1 Ay ty.length cy (ty.map Value.string)
 ids:MapO w mb ps
 rels:TabK w Ar cr K
theorem TabA.up {w w':World} {Ay:Option Addr} {cy:Nat} {ty:List ByteArray} {mb:Option Nat} {ps:List Path} {Ar:Option Addr} {cr:Nat} {K:List TabR} (h:TabA w Ay cy ty mb ps Ar cr K) (hb:Below w.heap.size w w'):TabA w' Ay cy ty mb ps Ar cr K:=⟨h.types.up hb,h.ids.up hb,h.rels.up hb⟩
theorem TabA.none_ (w:World):TabA w none 0 [] none [] none 0 []:=⟨Rd.none_ _ _ _,.inl ⟨rfl,rfl⟩,⟨Rd.none_ _ _ _,fun x hx=>by cases hx⟩⟩
def CompPost (s:ByteArray) (w:World) (e:Ending) (w':World):Prop :=
 (∃tx Ay cy ty mb ps Ar cr K,∃err:Nat,e = .returned (.tuple #[.agg #[.string tx,.slice Ay ty.length cy,.map mb,.slice Ar K.length cr],.int .i64 err])∧TabA w' Ay cy ty mb ps Ar cr K∧CompIs s err tx ty ps (K.map (·.r)))∧Below w.heap.size w w'
theorem set4 {w w0:World} {B b:Nat} {t:TypeId} {x0 x1 x2 x3:Value} (h:Bk w0 b #[x0,x1,x2,x3] t) (hb:Below B w w0) (hB:B≤b) (v0 v1 v2 v3:Value) :
 Bk ((((w0.setCell ⟨b,0,none⟩ v0).setCell ⟨b,1,none⟩ v1).setCell ⟨b,2,none⟩ v2).setCell ⟨b,3,none⟩ v3) b #[v0,v1,v2,v3] t ∧
 Below B w ((((w0.setCell ⟨b,0,none⟩ v0).setCell ⟨b,1,none⟩ v1).setCell ⟨b,2,none⟩ v2).setCell ⟨b,3,none⟩ v3) :=
 ⟨by
  have hw:=(((h.set 0 v0).set 1 v1).set 2 v2).set 3 v3;simp only [List.setIfInBounds_toArray,List.set_cons_zero,List.set_cons_succ] at hw;exact hw,(((hb.setCell hB _).setCell hB _).setCell hB _).setCell hB _⟩
theorem Bk.c4 {w:World} {b:Nat} {t:TypeId} {x0 x1 x2 x3:Value} (h:Bk w b #[x0,x1,x2,x3] t):w.cell? ⟨b,0,none⟩=some x0∧w.cell? ⟨b,1,none⟩=some x1∧w.cell? ⟨b,2,none⟩=some x2∧w.cell? ⟨b,3,none⟩=some x3:=⟨h.cell 0,h.cell 1,h.cell 2,h.cell 3⟩
theorem sub_rows {w:World} {B R c:Nat} {A:Option Addr} {l:List TypA} {T:List TypP} (hv:VTyps B w (.slice A T.length c) T) (hs:SchA w R A c l) (hl:l.map TypA.says=T.map zbf) :
 ∀y ∈ relsA l,w.ownsRow B 126 2 (.slice y.2.As y.2.subs.length y.2.cs) y.2.subs.length (y.2.subs.flatMap zjU):=by
 intro y hy;unfold relsA at hy;obtain ⟨t,ht,hy⟩:=List.mem_flatMap.1 hy;obtain ⟨r,hr,rfl⟩:=List.mem_map.1 hy;obtain ⟨i,hi⟩:=List.getElem?_of_mem ht;obtain ⟨j,hj⟩:=List.getElem?_of_mem hr;have h1:(T.map zbf)[i]? = some t.says:=by rw [←hl,List.getElem?_map,hi];rfl
 rw [List.getElem?_map] at h1;obtain ⟨t0,ht0,e0⟩:=Option.map_eq_some_iff.1 h1;obtain ⟨g,c2,vr,e1,hvr,k0,k1⟩:=hv.get ht0;obtain ⟨b,o,e2,m0,m1,hok⟩:=hs.get hi;injection e1 with e1 _ _
 rw [e1] at e2;injection e2 with e2
 injection e2 with e3 e4 _
 subst e3;subst e4;rw [Nat.zero_add] at m1;rw [m1] at k1;obtain rfl:=Option.some.inj k1;have h2:(t0.rels.map relI)[j]? = some r.says:=by
  have:t0.rels.map relI=t.rels.map RelA.says:=congrArg TypI.rels e0;rw [this,List.getElem?_map,hj];rfl
 rw [List.getElem?_map] at h2;obtain ⟨x0,hx0,e5⟩:=Option.map_eq_some_iff.1 h2;obtain ⟨g2,c3,vs,vo,e6,hvs,_,_,_,_,_,q4,_⟩:=hvr.get hx0;obtain ⟨b2,o2,e7,_,_,_,_,n4,_,_⟩:=hok.get hj;injection e6 with e6 _ _
 rw [e6] at e7;injection e7 with e7
 injection e7 with e8 e9 _
 subst e8;subst e9;rw [Nat.zero_add] at n4;rw [n4] at q4;obtain rfl:=Option.some.inj q4;have e10:x0.subs=r.subs:=congrArg RelI.subs e5;have h3:w.ownsRow B 126 2 (.slice r.As r.subs.length r.cs) x0.subs.length (x0.subs.flatMap zjU):=hvs;rw [e10] at h3;exact h3
theorem compile_any (s:ByteArray) (hs:s.size≤1000000) (w:World):Calls Tryz.prog 11 #[.string s] w (CompPost s w):=by
 obtain ⟨T,ea,pa,ha⟩:∃T e p,zah s=(T,e,p):=⟨_,_,_,rfl⟩;have kp:=fun W=>zjF s hs ha W;have hT:(zah s).1=T:=by rw [ha]
 have hE1:(zah s).2.1=ea:=by rw [ha]
 have hsm:=zfg s;have hsf:=zh2 s;have hss:=zkC s;rw [hT] at hsm hsf hss;replace hT:=Lib.hid hT;replace hE1:=Lib.hid hE1;clear ha;have hbr:=zkX w (.cells #[.string ⟨#[]⟩,.slice none 0 0,.map none,.slice none 0 0] 27);have hres:=Bk.new w #[.string ⟨#[]⟩,.slice none 0 0,.map none,.slice none 0 0] 27;go_enter Tryz.func11,Tryz.ntmps11
 go_upto_region 1 with (fail)
 generalize w.alloc (.cells #[.string ⟨#[]⟩,.slice none 0 0,.map none,.slice none 0 0] 27)=w0 at *
 go_upto_region 2 with (go_at_call 47;refine (kp _).mono ?_;rintro e w2 ⟨⟨A,c,rfl,hv⟩,hb1⟩)
 obtain ⟨l,hl,hsc⟩:=hv.sch (R:=140737488351232) hsf hsm;have hn:l.length=T.length:=by have:=congrArg List.length hl;rwa [List.length_map,List.length_map] at this
 have hb:=zaz hbr hbr.size hb1;have hgs:w.heap.size<w2.heap.size:=Nat.lt_of_lt_of_le hres.lt hb1.size;have hlt0:w.heap.size<w0.heap.size:=hres.lt;replace hres:=hres.below hb1;have hbn:=zkX w2 (.cells #[.slice A T.length c] 92);replace hsc:=hsc.up hbn;replace hv:=hv.below hbn;replace hres:=hres.below hbn;replace hb:=zaz hb hb.size hbn;have d0:=Bk.new w2 #[.slice A T.length c] 92;clear hbn hbr hb1 kp;generalize w2.alloc (.cells #[.slice A T.length c] 92)=w3 at *
 rw [←hn] at d0 ⊢;replace hn:=Lib.hid hn;replace hl:=Lib.hid hl;have hE1':=hE1.out;by_cases he:ea=0
 · subst he;have x0:=d0.c1;have xl:=d0.lt;have kc:=check_any hsc (Nat.le_refl _);obtain ⟨E,hE⟩:∃E,zbh (l.map TypA.says)=E:=⟨_,rfl⟩;rw [hE] at kc;replace hE:=Lib.hid hE;go_upto_region 5 with (go_at_call 48;refine kc.mono ?_;rintro e w4 ⟨rfl,hb1⟩)
   replace hsc:=hsc.up hb1;replace hv:=hv.below hb1;replace hres:=hres.below hb1;replace d0:=d0.below hb1;replace hb:=zaz hb hb.size hb1;clear hb1 x0 xl kc;obtain ⟨E1,E2⟩:=E;simp only;by_cases hf:E1=0
   · subst hf;have hR:Right (l.map TypA.says):=(zdy _).1.1 (by rw [hE.out]);have hlT:l.map TypA.says=(zah s).1.map zbf:=by rw [hT.out];exact hl.out
     have hn96:=zeM hR;obtain ⟨hr6,hro⟩:=zlx (s:=s) hlT hR;have hnd:(zan (relsA l)).Nodup:=by rw [←zgn];exact hR.paths
     replace hR:=Lib.hid hR;replace hnd:=Lib.hid hnd;have x0:=d0.c1;have xl:=d0.lt;have ki:=idsOf_any hsc (Nat.le_refl _) (by omega) hnd.out;go_upto_region 8 with (go_at_call 49;refine ki.mono ?_;rintro e w5 ⟨⟨b,rfl,hm⟩,hb1⟩)
     replace hsc:=hsc.up hb1;replace hv:=hv.below hb1;replace hres:=hres.below hb1;replace d0:=d0.below hb1;replace hb:=zaz hb hb.size hb1;clear hb1 x0 xl ki;have hpl:(zan (relsA l)).length=(relsA l).length:=by simp [zan]
     have hsz:Maps.size (zdq (zan (relsA l)))=(relsA l).length:=by rw [(ziF hm.2 hnd.out).2,hpl]
     have hlen:∀ty,(Builtin.len_ #[24] ty #[.map (some b)]).run Tryz.prog w5 = .ok (.int .i64 ((relsA l).length:Nat)) w5:=fun ty=>by have:=hm.1.len Tryz.underlying24 ty;rw [hsz] at this;exact this
     replace hsz:=Lib.hid hsz;replace hpl:=Lib.hid hpl;have x0:=d0.c1;have xl:=d0.lt;have ke:=edges_any hsc (Nat.le_refl _) hr6 hro;obtain ⟨n,hnN⟩:∃n,(relsA l).length=n:=⟨_,rfl⟩;rw [hnN] at hlen hn96;replace hnN:=Lib.hid hnN;have hlg:∀(zs:List Ed),(∀e,e ∈ zs↔e ∈ zaV (l.map TypA.says))→InR n zs:=fun zs h2 e he=>by
      have:=zfE ((h2 e).1 he);rw [hnN.out] at this;exact ⟨this.1,this.2.1,this.2.2.1,this.2.2.2.1⟩
     go_upto_region 9 with (first
      | (go_at_call 51;refine ke.mono ?_;rintro e w6 ⟨A2,c2,zs,rfl,hz1,hz2,hz3,hb1⟩;have kl:=zlf (n:=n) hz3 (by have:=zma hR.out hz1 hz2;omega) (by omega))
      | (go_at_call 50;refine kl.mono ?_;rintro e w7 ⟨⟨A7,c7,v,sn,rfl,hlv,hans⟩,hb7⟩))
     have hb17:Below w5.heap.size w5 w7:=zaz hb1 hb1.size hb7;replace hsc:=hsc.up hb17;replace hv:=hv.below hb17;replace hres:=hres.below hb17;replace d0:=d0.below hb17;replace hb:=zaz hb hb.size hb17;replace hm:=hm.below hb17;clear hb1 hb7 hb17 x0 xl ke kl hlen hz3;have hT':(zah s).1.map zbf=l.map TypA.says:=hlT.symm;have hTe:(zah s).2.1=0:=hE1.out;cases hans with
     | arg hi=>exact absurd (hlg zs hz2) hi
     | cyc hi hc =>
      have hc2:Cyc (zaV ((zah s).1.map zbf)):=by rw [hT'];exact hc.sub fun e he=>(hz2 e).1 he
      have hR2:Right ((zah s).1.map zbf):=by rw [hT'];exact hR.out
      clear hc;replace hc2:=Lib.hid hc2;obtain ⟨r0,r1,r2,r3⟩:=hres.c4;have rf:=hres.fz;have rl:=hres.lt;go_wp2_with fail
      obtain ⟨hw,hbz⟩:=set4 hres hb (Nat.le_refl _) (.string ⟨#[]⟩) (.slice none 0 0) (.map none) (.slice none 0 0);obtain ⟨y0,y1,y2,y3⟩:=hw.c4;refine bodyPost_ret (v:=.tuple #[.agg #[.string ⟨#[]⟩,.slice none 0 0,.map none,.slice none 0 0],.int .i64 33]) (by simp [results,Tryz.results11,go_sem,y0,y1,y2,y3];try rfl) rfl ?_;exact ⟨⟨⟨#[]⟩,none,0,[],none,[],none,0,[],33,rfl,TabA.none_ _,.cyc hTe hR2 hc2.out⟩,hbz⟩
     | ok hi v hvl hL hbd =>
      have hL2:Hid (Least v.length (zaV ((zah s).1.map zbf)) (zaK v)):=Lib.hid (by rw [hvl,hT'];exact hL.congr hz2);have hi2:Hid (InR v.length (zaV ((zah s).1.map zbf))):=Lib.hid (by rw [hvl,hT'];exact fun e he=>hi e ((hz2 e).2 he));have hnc:Hid (¬Cyc (zaV ((zah s).1.map zbf))):=Lib.hid fun hc=>Cyc.none hc hL2.out.1;have hv2:Hid (v.length=(zaA ((zah s).1.map zbf)).length):=Lib.hid (by rw [hvl,hT',←zaN,List.length_map];exact hnN.out.symm);have hR2:Hid (Right ((zah s).1.map zbf)):=Lib.hid (by rw [hT'];exact hR.out);have hsub:Hid (∀y ∈ relsA l,w7.ownsRow w0.heap.size 126 2 (.slice y.2.As y.2.subs.length y.2.cs) y.2.subs.length (y.2.subs.flatMap zjU)):=Lib.hid (sub_rows hv hsc hl.out);have h8:l.length≤8:=by have:=hR.out.few;rwa [List.length_map] at this
      clear hL hbd hi hz2 hz1 hlg hT';have x0:=d0.c1;have xl:=d0.lt;obtain ⟨tx,htx⟩:∃tx,zb8 T=tx:=⟨_,rfl⟩;have ks:=show_any8 hv hss.1 hss.2.1 hss.2.2;have hz9:=hss.2.2;rw [htx] at ks hz9;rw [←hn.out] at ks;replace htx:=Lib.hid htx;clear hss hsm hsf;go_upto_region 12 with (go_at_call 52;refine ks.mono ?_;rintro e w8 ⟨rfl,hb1⟩)
      replace hsc:=hsc.up hb1;replace hv:=hv.below hb1;replace hres:=hres.below hb1;replace d0:=d0.below hb1;replace hb:=zaz hb hb.size hb1;replace hm:=hm.below hb1;replace hlv:=hlv.up hb1;replace hsub:=Lib.hid fun y hy=>zag (hsub.out y hy) hb1;clear hb1 x0 xl ks;by_cases hz:2048<tx.size
      · have hz':(tx.size:Int) > 2048:=by omega
        have hzs:Hid (2048<(zb8 (zah s).1).size):=Lib.hid (by rw [hT.out,htx.out];exact hz);obtain ⟨r0,r1,r2,r3⟩:=hres.c4;have rf:=hres.fz;have rl:=hres.lt;go_wp2_with fail
        obtain ⟨hw,hbz⟩:=set4 hres hb (Nat.le_refl _) (.string ⟨#[]⟩) (.slice none 0 0) (.map none) (.slice none 0 0);obtain ⟨y0,y1,y2,y3⟩:=hw.c4;refine bodyPost_ret (v:=.tuple #[.agg #[.string ⟨#[]⟩,.slice none 0 0,.map none,.slice none 0 0],.int .i64 13]) (by simp [results,Tryz.results11,go_sem,y0,y1,y2,y3];try rfl) rfl ?_;exact ⟨⟨⟨#[]⟩,none,0,[],none,[],none,0,[],13,rfl,TabA.none_ _,.long hTe hR2.out hnc.out hzs.out⟩,hbz⟩
      · have hz':¬(tx.size:Int) > 2048:=by omega
        go_upto_region 14 with (fail)
        refine wp_region_any (by kernel_rfl) ?_;change wpAny _ _ _ _ _ _ _ (World.drew _);generalize hdw:World.drew w8=wz at *
        have hbd:Below w8.heap.size w8 wz:=by subst hdw;exact ⟨rfl,rfl,rfl,Nat.le_refl _,fun _ _=>rfl⟩
        replace hsc:=hsc.up hbd;replace hv:=hv.below hbd;replace hres:=hres.below hbd;replace d0:=d0.below hbd;replace hb:=zaz hb hb.size hbd;replace hm:=hm.below hbd;replace hlv:=hlv.up hbd;replace hsub:=Lib.hid fun y hy=>zag (hsub.out y hy) hbd;clear hdw hbd;have kt:=fun (W:World) (hb:Below wz.heap.size wz W)=>typesOf_any (hsc.up hb) (by omega);have kr:=fun (W:World) (hb:Below wz.heap.size wz W)=>relsOf_any (hsc.up hb) (Nat.le_refl _) (hm.below hb) (by have:=hnN.out;omega) (hlv.up hb) (hvl.trans hnN.out.symm) (fun x hx=>(hro x hx).2);rw [hvl] at kr;have hSk:∀W,Below wz.heap.size wz W→W.cell? ⟨w2.heap.size,0,none⟩=some (.slice A l.length c):=fun W hb=>(d0.below hb).cell 0;have hb0:=Below.refl wz.heap.size wz;have HS:=hSk _ hb0;refine wpAny_of_held (S:=fun W=>W.cell? ⟨w2.heap.size,0,none⟩=some (.slice A l.length c)) _ _ _ _ ?_;refine zac 0 (some 51) (v:=?v0z) rfl rfl (by kernel_rfl) (by kernel_rfl) (by kernel_rfl) (fun _ _ _ h=>h) (by rfl) ?y0z HS ?r0z;case y0z=>(intro W hS;go_simp;try with_reducible rfl)
        simp only [Act.put,List.setIfInBounds_toArray,List.set_cons_zero,List.set_cons_succ];refine zac 1 (some 52) (v:=?v1z) rfl rfl (by kernel_rfl) (by kernel_rfl) (by kernel_rfl) (fun _ _ _ h=>h) (by rfl) ?y1z HS ?r1z;case y1z=>(intro W hS;go_simp;try with_reducible rfl)
        simp only [Act.put,List.setIfInBounds_toArray,List.set_cons_zero,List.set_cons_succ];refine zac 3 (some 54) (v:=?v3z) rfl rfl (by kernel_rfl) (by kernel_rfl) (by kernel_rfl) (fun _ _ _ h=>h) (by rfl) ?y3z HS ?r3z;case y3z=>(intro W hS;go_simp;try with_reducible rfl)
        simp only [Act.put,List.setIfInBounds_toArray,List.set_cons_zero,List.set_cons_succ];refine zac 4 (some 55) (v:=?v4z) rfl rfl (by kernel_rfl) (by kernel_rfl) (by kernel_rfl) (fun _ _ _ h=>h) (by rfl) ?y4z HS ?r4z;case y4z=>(intro W hS;go_simp;try with_reducible rfl)
        simp only [Act.put,List.setIfInBounds_toArray,List.set_cons_zero,List.set_cons_succ];refine zac 5 (some 56) (v:=?v5z) rfl rfl (by kernel_rfl) (by kernel_rfl) (by kernel_rfl) (fun _ _ _ h=>h) (by rfl) ?y5z HS ?r5z;case y5z=>(intro W hS;go_simp;try with_reducible rfl)
        simp only [Act.put,List.setIfInBounds_toArray,List.set_cons_zero,List.set_cons_succ];refine zac 6 (some 57) (v:=?v6z) rfl rfl (by kernel_rfl) (by kernel_rfl) (by kernel_rfl) (fun _ _ _ h=>h) (by rfl) ?y6z HS ?r6z;case y6z=>(intro W hS;go_simp;try with_reducible rfl)
        simp only [Act.put,List.setIfInBounds_toArray,List.set_cons_zero,List.set_cons_succ];refine za2 2 rfl (by kernel_rfl) ?_;intro Kf hKf;go_simp;refine (kt _ hb0).mono ?_;rintro e W1 ⟨⟨Ay,cy,rfl,hty⟩,hc1⟩;replace HS:=hSk _ hc1;refine hKf _ _ HS ?_;clear hKf Kf;refine za2 7 rfl (by kernel_rfl) ?_;intro Kf hKf;go_simp;with_reducible refine (kr _ hc1).mono ?_
        rintro e W2 ⟨⟨Ar,cr,rfl,K,hK1,hK2,hK3,hK4⟩,hc2⟩;have hb2:Below wz.heap.size wz W2:=zaz hc1 hc1.size hc2;replace HS:=hSk _ hb2;refine hKf _ _ HS ?_;clear hKf Kf;refine zac 8 (some 59) (v:=?v8z) rfl rfl (by kernel_rfl) (by kernel_rfl) (by kernel_rfl) (fun _ _ _ h=>h) (by rfl) ?y8z HS ?r8z;case y8z=>(intro W hS;go_simp;try with_reducible rfl)
        simp only [Act.put,List.setIfInBounds_toArray,List.set_cons_zero,List.set_cons_succ];have hres2:=hres.below hb2;obtain ⟨r0,r1,r2,r3⟩:=hres2.c4;have rf:=hres2.fz;have rl:=hres2.lt;refine za2 9 rfl (by kernel_rfl) ?_;intro Kf hKf;go_simp;obtain ⟨hw,hbz⟩:=set4 hres2 (zaz hb hb.size hb2) (Nat.le_refl _) (.string tx) (.slice Ay l.length cy) (.map (some b)) (.slice Ar (relsA l).length cr);have hne1:w2.heap.size≠w.heap.size:=by omega
        have HS3:((((W2.setCell ⟨w.heap.size,0,none⟩ (.string tx)).setCell ⟨w.heap.size,1,none⟩ (.slice Ay l.length cy)).setCell ⟨w.heap.size,2,none⟩ (.map (some b))).setCell ⟨w.heap.size,3,none⟩ (.slice Ar (relsA l).length cr)).cell? ⟨w2.heap.size,0,none⟩=some (.slice A l.length c) :=
         ((((d0.below hb2).other (a:=⟨w.heap.size,0,none⟩) hne1 _).other (a:=⟨w.heap.size,1,none⟩) hne1 _).other (a:=⟨w.heap.size,2,none⟩) hne1 _).other (a:=⟨w.heap.size,3,none⟩) hne1 _ |>.cell 0
        have hset:∀{base:Nat} {e:TypeId} {sz m:Nat} {u:Value} {ys:List Value},W2.ownsRow base e sz u m ys→w.heap.size<base→((((W2.setCell ⟨w.heap.size,0,none⟩ (.string tx)).setCell ⟨w.heap.size,1,none⟩ (.slice Ay l.length cy)).setCell ⟨w.heap.size,2,none⟩ (.map (some b))).setCell ⟨w.heap.size,3,none⟩ (.slice Ar (relsA l).length cr)).ownsRow base e sz u m ys:=fun h hlt =>
         zai (zai (zai (zai h (a:=⟨w.heap.size,0,none⟩) hlt _) (a:=⟨w.heap.size,1,none⟩) hlt _) (a:=⟨w.heap.size,2,none⟩) hlt _) (a:=⟨w.heap.size,3,none⟩) hlt _
        have hmb:b≠w.heap.size:=by
         intro e;obtain ⟨⟨es,clock,q1,_⟩,_⟩:=hm;rw [e,show wz.heap[w.heap.size]? = _ from hres] at q1;cases q1
        have hmz:MapT ((((W2.setCell ⟨w.heap.size,0,none⟩ (.string tx)).setCell ⟨w.heap.size,1,none⟩ (.slice Ay l.length cy)).setCell ⟨w.heap.size,2,none⟩ (.map (some b))).setCell ⟨w.heap.size,3,none⟩ (.slice Ar (relsA l).length cr)) b (zan (relsA l)):=(hm.below hb2).same ((Below.heap_setCell _ _ _ _ hmb).trans ((Below.heap_setCell _ _ _ _ hmb).trans ((Below.heap_setCell _ _ _ _ hmb).trans (Below.heap_setCell _ _ _ _ hmb))));have hgz:w.heap.size<wz.heap.size:=hres.lt;have hty3:=hset (zag hty hc2) hgz;have hK33:=hset hK3 (Nat.lt_of_lt_of_le hgz hc1.size);have hK43:∀x ∈ K,x.ok ((((W2.setCell ⟨w.heap.size,0,none⟩ (.string tx)).setCell ⟨w.heap.size,1,none⟩ (.slice Ay l.length cy)).setCell ⟨w.heap.size,2,none⟩ (.map (some b))).setCell ⟨w.heap.size,3,none⟩ (.slice Ar (relsA l).length cr)):=fun x hx=>by
         obtain ⟨⟨y,hy,a1,a2,a3⟩,o2,o3⟩:=hK4 x hx;have s1:=hset (zag (hsub.out y hy) hb2) hlt0;have s2:=hset o2 (Nat.lt_of_lt_of_le hgz hc1.size);obtain ⟨A4,c4,e4,r4⟩:=Rd.own s1;obtain ⟨A5,c5,e5,r5⟩:=Rd.own s2;cases e4;cases e5;refine ⟨?_,r5,o3⟩;rw [a1,a2,a3];exact r4
        refine hKf _ _ HS3 ?_;clear hKf Kf r0 r1 r2 r3 rf rl HS hset hSk kt kr;refine zac 10 (some 3) (v:=?v10z) rfl rfl (by kernel_rfl) (by kernel_rfl) (by kernel_rfl) (fun _ _ _ h=>h) (by rfl) ?y10z HS3 ?r10z;case y10z=>(intro W hS;go_simp;try with_reducible rfl)
        simp only [Act.put,List.setIfInBounds_toArray,List.set_cons_zero,List.set_cons_succ];refine wpAnyH_done (by kernel_rfl) ?_ _;obtain ⟨y0,y1,y2,y3⟩:=hw.c4;generalize (((W2.setCell ⟨w.heap.size,0,none⟩ (.string tx)).setCell ⟨w.heap.size,1,none⟩ (.slice Ay l.length cy)).setCell ⟨w.heap.size,2,none⟩ (.map (some b))).setCell ⟨w.heap.size,3,none⟩ (.slice Ar (relsA l).length cr)=W3 at *
        go_wp2_with fail
        refine bodyPost_ret (v:=.tuple #[.agg #[.string tx,.slice Ay l.length cy,.map (some b),.slice Ar (relsA l).length cr],.int .i64 0]) (by simp [results,Tryz.results11,go_sem,y0,y1,y2,y3];try rfl) rfl ?_;have hln:(l.map (·.name)).length=l.length:=List.length_map _;obtain ⟨A6,c6,e6,r6⟩:=Rd.own hty3;obtain ⟨A7',c7',e7,r7⟩:=Rd.own hK33;cases e6;cases e7;refine ⟨⟨tx,Ay,cy,l.map (·.name),some b,zan (relsA l),Ar,cr,K,0,by rw [hln,hK1];rfl,⟨?_,.inr ⟨b,rfl,hmz⟩,⟨by rw [hK1];exact r7,hK43⟩⟩,?_⟩,hbz⟩
        · rw [hln,List.map_map];exact r6
        · have hTn:l.map (·.name)=(zah s).1.map (·.name):=by
           have:=congrArg (List.map TypI.name) hlT;rw [List.map_map,List.map_map] at this;exact this
          have hps:zan (relsA l)=zap ((zah s).1.map zbf):=by rw [←hlT,zgn]
          have hRR:K.map (·.r)=zft ((zah s).1.map zbf) v:=by rw [hK2,←hlT,relsK_T]
          rw [hTn,hps,hRR,←htx.out,←hT.out];exact .ok hTe hR2.out v hv2.out hi2.out hL2.out (by rw [hT.out,htx.out];omega)
   · have hf':¬((E1:Int)=0):=by omega
     have hcs:(zbh ((zah s).1.map zbf)).1=E1:=by rw [hT.out,←hl.out,hE.out]
     obtain ⟨r0,r1,r2,r3⟩:=hres.c4;have rf:=hres.fz;have rl:=hres.lt;go_wp2_with fail
     obtain ⟨hw,hbz⟩:=set4 hres hb (Nat.le_refl _) (.string ⟨#[]⟩) (.slice none 0 0) (.map none) (.slice none 0 0);obtain ⟨y0,y1,y2,y3⟩:=hw.c4;refine bodyPost_ret (v:=.tuple #[.agg #[.string ⟨#[]⟩,.slice none 0 0,.map none,.slice none 0 0],.int .i64 (E1:Nat)]) (by simp [results,Tryz.results11,go_sem,y0,y1,y2,y3];try rfl) rfl ?_;exact ⟨⟨⟨#[]⟩,none,0,[],none,[],none,0,[],E1,rfl,TabA.none_ _,.check E1 hE1' hcs hf⟩,hbz⟩
 · have he':¬((ea:Int)=0):=by omega
   obtain ⟨r0,r1,r2,r3⟩:=hres.c4;have rf:=hres.fz;have rl:=hres.lt;go_wp2_with fail
   obtain ⟨hw,hbz⟩:=set4 hres hb (Nat.le_refl _) (.string ⟨#[]⟩) (.slice none 0 0) (.map none) (.slice none 0 0);obtain ⟨y0,y1,y2,y3⟩:=hw.c4;refine bodyPost_ret (v:=.tuple #[.agg #[.string ⟨#[]⟩,.slice none 0 0,.map none,.slice none 0 0],.int .i64 (ea:Nat)]) (by simp [results,Tryz.results11,go_sem,y0,y1,y2,y3];try rfl) rfl ?_;exact ⟨⟨⟨#[]⟩,none,0,[],none,[],none,0,[],ea,rfl,TabA.none_ _,.parse ea hE1' he⟩,hbz⟩
end Go.Proofs.YtahegpfdbgbioaaGreat
