import Derived.StillTailTactics
import Derived.WalkMore
import Derived.Test.YtiepddmagfmllaaGreatT19
import Derived.Test.YtiepddmagfmllaaGreatT25
set_option maxRecDepth 100000
set_option maxHeartbeats 4000000
namespace Go.Proofs.YtiepddmagfmllaaGreat
open Go.RowKit
theorem NmW.sizeS {n:ByteArray} (h:NmW n):n.size≤1000:=Nat.le_trans (zfS h.1) (by decide)
theorem zhb:∀t:Ex,t.nm→∀o ∈ t.ops,o.2.1.size≤1000∧o.2.2.size≤1000
 | .this,_=>fun o ho=>by rw [List.mem_singleton.1 ho];exact ⟨Nat.zero_le _,Nat.zero_le _⟩
 | .same n,h=>by
  have h2:NmW n:=h;exact fun o ho=>by rw [List.mem_singleton.1 ho];exact ⟨h2.sizeS,Nat.zero_le _⟩
 | .via n m,h=>fun o ho=>by rw [List.mem_singleton.1 ho];exact ⟨h.1.sizeS,h.2.sizeS⟩
 | .bin k a b,h=>fun o ho=>by
  rcases List.mem_append.1 ho with ho | ho
  · rcases List.mem_append.1 ho with ho | ho
    · exact zhb a h.1 o ho
    · exact zhb b h.2 o ho
  · rw [List.mem_singleton.1 ho];exact ⟨Nat.zero_le _,Nat.zero_le _⟩
theorem sml_relS {x:RelP} (g:RelG x) (f:FewR 2049 x):Sml x∧(zbm x).size≤10300000:=by
 obtain ⟨t,h1,h2,h3,h4⟩:=g.ops;have s2:=zhb t h3;have hs:Sml x:=⟨g.name.sizeS,g.view.sizeS,g.edit.sizeS,g.check.sizeS,⟨Nat.le_trans f.1 (by decide),fun s hs=>⟨(g.subs s hs).1.sizeS,by
  rcases (g.subs s hs).2 with e | e
  · rw [e];exact Nat.zero_le _
  · exact e.sizeS⟩⟩,⟨Nat.le_trans f.2 (by decide),fun o ho=>by rw [h1] at ho;exact s2 o ho⟩⟩
 refine ⟨hs,?_⟩;have w:=(zeD hs).2;have r:=zfs hs.ops.2;have f1:=f.1;have f2:=f.2;have:(relS x).size≤(zk5 x).size + 4 + (ziv x.ops).size + 1:=by
  unfold relS;rw [size_app];split
  · show _ + 1≤_;omega
  · rw [size_app,size_app];show _ + (4 + _) + 1≤_;omega
 unfold zbm;rw [size_app,size_app];show 1 + _ + 1≤_;omega
theorem zfy {α:Type} (f:α→ByteArray) (N:Nat):∀l:List α,(∀x ∈ l,(f x).size≤N)→(zba (l.map f)).size≤l.length * N
 | [],_=>Nat.zero_le _
 | x::r,h=>by
  have h1:=h x List.mem_cons_self;have h2:=zfy f N r fun y hy=>h y (List.mem_cons_of_mem _ hy);show (f x ++ zba (r.map f)).size≤_;rw [size_app,List.length_cons,Nat.succ_mul];omega
theorem zjY (s:ByteArray):(zaf s).1.length≤1000000∧(∀t ∈ (zaf s).1,SmlT t)∧(zbN (zaf s).1).size≤90000000000000:=by
 have hf:=few10 s;have hg:=zc1 s;generalize (zaf s).1=T at *
 have hr:∀t ∈ T,∀x ∈ t.rels,Sml x∧(zbm x).size≤10300000:=fun t ht x hx=>sml_relS ((hg t ht).rels x hx) ((hf.2 t ht).2 x hx);refine ⟨Nat.le_trans hf.1 (by decide),fun t ht=>⟨(hg t ht).name.sizeS,Nat.le_trans (hf.2 t ht).1 (by decide),fun x hx=>(hr t ht x hx).1⟩,?_⟩;have h1:∀t ∈ T,(zeA t).size≤21200000000:=fun t ht=>by
  have h2:=zfy zbm 10300000 t.rels fun x hx=>(hr t ht x hx).2;have h3:=(hf.2 t ht).1;have h4:=(hg t ht).name.sizeS;have h5:t.rels.length * 10300000≤2049 * 10300000:=Nat.mul_le_mul_right _ h3;unfold zeA zk0;rw [size_app,size_app,size_app,size_app];show 5 + _ + 3 + _ + 2≤_;omega
 have h2:=zfy zeA 21200000000 T h1;have h3:T.length * 21200000000≤2049 * 21200000000:=Nat.mul_le_mul_right _ hf.1;show (zba (T.map zeA)).size≤_;omega
theorem zew {l:List TypA} (h:Right (l.map TypA.says)):(relsA l).length≤96:=by
 have:=h.rels_le;rw [←zaO,List.length_map] at this;exact this
theorem zfl {l:List TypA} {e:Ed} (h:e ∈ zaN (l.map TypA.says)):0≤e.1∧e.1<(relsA l).length∧0≤e.2.1∧e.2.1<(relsA l).length∧e ∈ ze8 (relsA l).length:=by
 rw [zfD] at h;obtain ⟨a,b,ha,hb,e1,e2⟩:=zhV h;have hb:b<(relsA l).length:=by simpa [zao] using hb
 exact ⟨by omega,by omega,by omega,by omega,zfQ ha hb e1 e2⟩
theorem zlq {l:List TypA} {zs:List Ed} (hR:Right (l.map TypA.says)) (h1:zec zs) (h2:∀e,e ∈ zs↔e ∈ zaN (l.map TypA.says)):zs.length≤18432:=by
 have h3:=zc0 (zfa h1) fun e he=>(zfl ((h2 e).1 he)).2.2.2.2;rw [zeT] at h3;have h4:=zew hR;have h5:(relsA l).length * ((relsA l).length * 2)≤96 * (96 * 2):=Nat.mul_le_mul h4 (Nat.mul_le_mul h4 (Nat.le_refl _));omega
theorem zkR {s:ByteArray} {l:List TypA} (hl:l.map TypA.says=(zaf s).1.map za5) (hR:Right (l.map TypA.says)):(relsA l).length≤600∧∀x ∈ relsA l,x.2.subs.length≤100000∧x.2.ops.length≤100000 :=
 few_of (Nat.le_trans hR.rels_le (by decide)) fun x hx=>by
  unfold zaz at hx;obtain ⟨t,ht,hx⟩:=List.mem_flatMap.1 hx;obtain ⟨r,hr,rfl⟩:=List.mem_map.1 hx;obtain ⟨_,_,_,h1,h2⟩:=zf7 (hl ▸ ht) hr;exact ⟨Nat.le_trans h2 (by decide),Nat.le_trans h1 (by decide)⟩
theorem zf0 (l:List TypA):zap (l.map TypA.says)=zao (relsA l):=by
 unfold zap zao;rw [←zaO,List.map_map];rfl
end Go.Proofs.YtiepddmagfmllaaGreat
namespace Go.Proofs.YtiepddmagfmllaaGreat
open Go.RowKit
open Go.RowKit
open Go.RowKit
open Go.RowKit
theorem zej {α:Type} (g:α→List Value) {sz:Nat} (hg:∀a,(g a).length=sz):∀(l:List α) (i:Nat),(l.take i).flatMap g=(l.flatMap g).take (i * sz)
 | [],i=>by simp
 | x::r,0=>by simp
 | x::r,i + 1=>by
  have e1:(g x).take ((i + 1) * sz)=g x:=List.take_of_length_le (by rw [hg,Nat.succ_mul];omega);rw [List.take_succ_cons,List.flatMap_cons,List.flatMap_cons,zej g hg r i,List.take_append,e1,hg,show (i + 1) * sz-sz=i * sz by rw [Nat.succ_mul];omega]
theorem SubsA.pre {w:World} {A:Option Addr} {c:Nat} {l:List (ByteArray × ByteArray)} (h:SubsA w A c l) {i:Nat} (hi:i≤l.length):SubsA w A c (l.take i):=by
 have e:(l.take i).length=i:=by rw [List.length_take];omega
 refine ⟨?_⟩;rw [e,zej ziu (sz:=2) (fun _=>rfl)];exact h.rows.pre hi
theorem zj2 {l:List TypI} {s:List (ByteArray × ByteArray)} {i:Nat} {x:ByteArray × ByteArray} (hx:s[i]? = some x) :
 zcg l (s.take i) (s.drop i)=if zdD l x=false then 31 else if (s.take i).any (fun y=>decide (y=x))=true then 32 else zcg l (s.take (i + 1)) (s.drop (i + 1)):=by
 rw [List.drop_eq_getElem_cons (List.getElem?_eq_some_iff.1 hx).1,(List.getElem?_eq_some_iff.1 hx).2,zcs hx];rfl
theorem zl5 {q:TypI} {a b c n:ByteArray} {i:Nat} (h:[a,b,c][i]? = some n) (hn:zcb q n=false):(zcb q a && (zcb q b && zcb q c))=false:=by
 match i,h with
 | 0,h=>simp at h;subst h;rw [hn];rfl
 | 1,h=>simp at h;subst h;rw [hn];simp
 | 2,h=>simp at h;subst h;rw [hn];simp
theorem relNames_any {w:World} {R:Nat} {A:Option Addr} {c:Nat} {l:List TypA} {t:TypA} {r:RelA} (h:SchA w R A c l) (ht:t.ok w R) (hr:r.ok w R) :
 Calls Tryz.prog 84 #[.agg #[.slice A l.length c],.agg #[.string t.name,.slice t.A t.rels.length t.c],.agg #[.string r.name,.string r.view,.string r.edit,.string r.check,.slice r.As r.subs.length r.cs,.slice r.Ao r.ops.length r.co]] w fun e w' =>
  e = .returned (.int .i64 (zbQ (l.map TypA.says) t.says r.says:Nat))∧Below w.heap.size w w':=by
 have hls:(r.subs.length:Int)≤9223372036854775807:=by have:=hr.subs.cap;have:=hr.subs.capm;simp only [maxLen] at this;omega
 have hlo:(r.ops.length:Int)≤9223372036854775807:=by have:=hr.ops.cap;have:=hr.ops.capm;simp only [maxLen] at this;omega
 obtain ⟨As,hAs⟩:∃As,r.As=As:=⟨_,rfl⟩;obtain ⟨Ao,hAo⟩:∃Ao,r.Ao=Ao:=⟨_,rfl⟩;rw [hAs,hAo];have hNE:Hid (zbQ (l.map TypA.says) t.says r.says=if (zcb t.says r.view && (zcb t.says r.edit && zcb t.says r.check))=false then 31 else if zcg (l.map TypA.says) [] r.subs≠0 then zcg (l.map TypA.says) [] r.subs else if r.ops.all (zdg (l.map TypA.says) t.says)=false then 31 else 0):=Lib.hid rfl;generalize zbQ (l.map TypA.says) t.says r.says=NE at *
 have hb0:=((zck w (.cells #[.slice A l.length c] 70)).alloc (size_alloc (Nat.le_refl _)) (.cells #[.string t.name,.slice t.A t.rels.length t.c] 112));have hb1:=hb0.alloc hb0.size (.cells #[.string r.name,.string r.view,.string r.edit,.string r.check,.slice As r.subs.length r.cs,.slice Ao r.ops.length r.co] 115);have d0:=((Bk.new w #[.slice A l.length c] 70).alloc (.cells #[.string t.name,.slice t.A t.rels.length t.c] 112)).alloc (.cells #[.string r.name,.string r.view,.string r.edit,.string r.check,.slice As r.subs.length r.cs,.slice Ao r.ops.length r.co] 115);have d1:=(Bk.new2 w (.cells #[.slice A l.length c] 70) #[.string t.name,.slice t.A t.rels.length t.c] 112).alloc (.cells #[.string r.name,.string r.view,.string r.edit,.string r.check,.slice As r.subs.length r.cs,.slice Ao r.ops.length r.co] 115);have d2:=Bk.new2 (w.alloc (.cells #[.slice A l.length c] 70)) (.cells #[.string t.name,.slice t.A t.rels.length t.c] 112) #[.string r.name,.string r.view,.string r.edit,.string r.check,.slice As r.subs.length r.cs,.slice Ao r.ops.length r.co] 115;rw [show (w.alloc (.cells #[.slice A l.length c] 70)).heap.size + 1=w.heap.size + 1 + 1 by simp] at d2;have hz1:((((w.alloc (.cells #[.slice A l.length c] 70)).alloc (.cells #[.string t.name,.slice t.A t.rels.length t.c] 112)).alloc (.cells #[.string r.name,.string r.view,.string r.edit,.string r.check,.slice As r.subs.length r.cs,.slice Ao r.ops.length r.co] 115))).heap.size=w.heap.size + 1 + 1 + 1:=by simp
 go_enter Tryz.func84,Tryz.ntmps84
 go_upto_region 1 with (fail)
 generalize ((w.alloc (.cells #[.slice A l.length c] 70)).alloc (.cells #[.string t.name,.slice t.A t.rels.length t.c] 112)).alloc (.cells #[.string r.name,.string r.view,.string r.edit,.string r.check,.slice As r.subs.length r.cs,.slice Ao r.ops.length r.co] 115)=w1 at *
 obtain ⟨x0,x1,x2,x3,x4,x5⟩:=d2.c6;have xl:=d2.lt;clear hb0;go_wp2_with fail
 replace d0:=d0.alloc (.cells #[.string r.view,.string r.edit,.string r.check] 9);replace d1:=d1.alloc (.cells #[.string r.view,.string r.edit,.string r.check] 9);replace d2:=d2.alloc (.cells #[.string r.view,.string r.edit,.string r.check] 9);have d3:=Bk.new w1 #[.string r.view,.string r.edit,.string r.check] 9;have hb2:=hb1.alloc hb1.size (.cells #[.string r.view,.string r.edit,.string r.check] 9);rw [hz1] at d3;have ht2:=ht.up hb2;have h2:=h.up hb2;have hr2:=hr.up hb2;clear hb1 x0 x1 x2 x3 x4 x5 xl h ht hr;generalize w1.alloc (.cells #[.string r.view,.string r.edit,.string r.check] 9)=w2 at *
 clear hz1;go_loopw [21] (fun vi wx=>∃i:Nat,vi = .int .i64 i∧i≤3∧(∀n ∈ [r.view,r.edit,r.check].take i,zcb t.says n=true)∧Below w2.heap.size w2 wx) (fun vi _=>3-(intOf vi).toNat)
 case atStart=>exact ⟨0,rfl,Nat.zero_le _,fun n hn=>(by simp at hn),Below.refl _ _⟩
 case round =>
  obtain ⟨i,rfl,hi,hn,hbx⟩:=hrel;by_cases hil:i<3
  · obtain ⟨n,hni⟩:∃n,[r.view,r.edit,r.check][i]? = some n:=⟨_,List.getElem?_eq_getElem hil⟩;have hdi:(i:Int)<3:=by omega
    have g0:wr.cell? ⟨w.heap.size + 1 + 1 + 1,i,none⟩=some (.string n):=by
     rw [(d3.below hbx).cell i];match i,hil with
     | 0,_=>simpa using hni
     | 1,_=>simpa using hni
     | 2,_=>simpa using hni
    have e1:=d1.below hbx;obtain ⟨y0,y1⟩:=e1.c2;have yl:=e1.lt;have gl:=(d3.below hbx).lt;have hc:=hasRel_any (ht2.up hbx) n;cases hd:zcb t.says n with
    | false =>
     rw [hd] at hc;go_wp2_with (with_reducible refine hc.mono ?_;rintro e w3 ⟨rfl,hb3⟩)
     go_ret
     refine ⟨?_,hb2.trans ((hbx.trans (hb3.mono hbx.size)).mono hb2.size)⟩;have:(zcb t.says r.view && (zcb t.says r.edit && zcb t.says r.check))=false:=zl5 hni hd;rw [hNE.out,if_pos this];rfl
    | true =>
     rw [hd] at hc;go_wp2_with (with_reducible refine hc.mono ?_;rintro e w3 ⟨rfl,hb3⟩)
     refine ⟨⟨i + 1,by go_num,by omega,fun m hm=>?_,zaj hbx hbx.size hb3⟩,?_⟩
     · rw [zcs hni] at hm;rcases List.mem_append.1 hm with hm | hm
       · exact hn m hm
       · simp at hm;subst hm;exact hd
     · simp [intOf];omega
  · obtain rfl:i=3:=by omega
    have e2:=d2.below hbx;obtain ⟨x0,x1,x2,x3,x4,x5⟩:=e2.c6;have xl:=e2.lt;have hA:¬(zcb t.says r.view && (zcb t.says r.edit && zcb t.says r.check))=false:=by
     rw [hn r.view (by simp),hn r.edit (by simp),hn r.check (by simp)];decide
    replace hNE:Hid (NE=if zcg (l.map TypA.says) [] r.subs≠0 then zcg (l.map TypA.says) [] r.subs else if r.ops.all (zdg (l.map TypA.says) t.says)=false then 31 else 0):=Lib.hid (by rw [hNE.out,if_neg hA]);clear hA hn d3;go_wp2_with fail
    clear x0 x1 x2 x3 x4 x5 xl;have hb4:=zaj hb2 hb2.size hbx;have d0':=d0.below hbx;have d1':=d1.below hbx;have d2':=d2.below hbx;have ht4:=ht2.up hbx;have h4:=h2.up hbx;have hr4:=hr2.up hbx;clear hb2 d0 d1 d2 ht2 h2 hr2;generalize wr=w4 at *
    clear hbx;simp only [show ((3:Nat):Int)=3 from rfl];go_loopw [33] (fun vi wx=>∃i:Nat,vi = .int .i64 i∧i≤r.subs.length∧Hid (zcg (l.map TypA.says) [] r.subs=zcg (l.map TypA.says) (r.subs.take i) (r.subs.drop i))∧Below w4.heap.size w4 wx) (fun vi _=>r.subs.length-(intOf vi).toNat)
    case atStart=>exact ⟨0,rfl,Nat.zero_le _,Lib.hid rfl,Below.refl _ _⟩
    case round =>
     obtain ⟨j,rfl,hj,hE,hbx⟩:=hrel;by_cases hjl:j<r.subs.length
     · have hdj:(j:Int)<(r.subs.length:Nat):=by omega
       obtain ⟨s,hs⟩:∃s,r.subs[j]? = some s:=⟨r.subs[j],List.getElem?_eq_getElem hjl⟩;obtain ⟨g,o,eA,g0,g1,_,_⟩:=(hr4.up hbx).sub hs;have lg:=World.block_lt_of_cell? _ _ g0;dsimp only at lg;rw [hAs] at eA;subst eA;go_upto_region 10 with (fail)
       have hbs:=zck wr (.cells #[.string s.1,.string s.2] 104);have dS:=Bk.new wr #[.string s.1,.string s.2] 104;have hbx2:=zaj hbx hbx.size hbs;clear hbs;generalize wr.alloc (.cells #[.string s.1,.string s.2] 104)=w5 at *
       obtain ⟨s0,s1⟩:=dS.c2;have sl:=dS.lt;have e0:=d0'.below hbx2;have q0:=e0.c1;have ql:=e0.lt;have hc:=isThere_any (h4.up hbx2) s;have hEs:=zj2 (l:=l.map TypA.says) hs;cases hd:zdD (l.map TypA.says) s with
       | false =>
        rw [hd] at hc;rw [if_pos hd] at hEs;go_wp2_with (with_reducible refine hc.mono ?_;rintro e w6 ⟨rfl,hb6⟩)
        go_ret
        refine ⟨?_,zaj hb4 hb4.size (zaj hbx2 hbx2.size hb6)⟩;rw [hNE.out,hE.out,hEs,if_pos (by decide)];rfl
       | true =>
        rw [hd] at hc;rw [if_neg (by rw [hd];decide)] at hEs;go_wp2_with (with_reducible refine hc.mono ?_;rintro e w6 ⟨rfl,hb6⟩)
        have hbx6:=zaj hbx2 hbx2.size hb6;have dS6:=dS.below hb6;clear s0 s1 sl q0 ql e0 dS;obtain ⟨s0,s1⟩:=dS6.c2;have sl:=dS6.lt;have e2:=d2'.below hbx6;obtain ⟨x0,x1,x2,x3,x4,x5⟩:=e2.c6;have xl:=e2.lt;have hcap:=hr4.subs.cap;have hjc:(j:Int)≤(r.cs:Nat):=by omega
        have hbd:Below w6.heap.size w6 w6.drew:=⟨rfl,rfl,rfl,Nat.le_refl _,fun _ _=>rfl⟩;have hbx7:=zaj hbx6 hbx6.size hbd;have hcn:=contains_any (((SubsA.mk hr4.subs).up hbx7).pre (Nat.le_of_lt hjl)) s;rw [hAs,show (r.subs.take j).length=j by rw [List.length_take];omega] at hcn;go_still_tail 5,(by kernel_rfl)
        change wpList _ _ _ _ _ (World.drew _);cases hcb:(r.subs.take j).any fun y=>decide (y=s) with
        | true =>
         rw [hcb] at hcn;rw [if_pos hcb] at hEs;go_wp2_with (with_reducible refine hcn.mono ?_;rintro e w8 ⟨rfl,hb8⟩)
         go_ret
         refine ⟨?_,zaj hb4 hb4.size (zaj hbx7 hbx7.size hb8)⟩;rw [hNE.out,hE.out,hEs,if_pos (by decide)];rfl
        | false =>
         rw [hcb] at hcn;rw [if_neg (by rw [hcb];decide)] at hEs;go_wp2_with (with_reducible refine hcn.mono ?_;rintro e w8 ⟨rfl,hb8⟩)
         refine ⟨⟨j + 1,by go_num,by omega,Lib.hid (by rw [hE.out,hEs]),zaj hbx7 hbx7.size hb8⟩,?_⟩;simp [intOf];omega
     · obtain rfl:j=r.subs.length:=by omega
       have hE0:zcg (l.map TypA.says) [] r.subs=0:=by
        rw [hE.out,List.take_length,List.drop_length];rfl
       replace hNE:Hid (NE=if r.ops.all (zdg (l.map TypA.says) t.says)=false then 31 else 0):=Lib.hid (by rw [hNE.out,hE0,if_neg (by decide)]);clear hE0 hE;have e2:=d2'.below hbx;obtain ⟨x0,x1,x2,x3,x4,x5⟩:=e2.c6;have xl:=e2.lt;go_wp2_with fail
       clear x0 x1 x2 x3 x4 x5 xl e2;have hb5:=zaj hb4 hb4.size hbx;have d0'':=d0'.below hbx;have d1'':=d1'.below hbx;have ht5:=ht4.up hbx;have h5:=h4.up hbx;have hr5:=hr4.up hbx;clear hb4 d0' d1' d2' ht4 h4 hr4;generalize wr=w5 at *
       clear hbx;go_loopw [52] (fun vi wx=>∃i:Nat,vi = .int .i64 i∧i≤r.ops.length∧(∀o ∈ r.ops.take i,zdg (l.map TypA.says) t.says o=true)∧Below w5.heap.size w5 wx) (fun vi _=>r.ops.length-(intOf vi).toNat)
       case atStart=>exact ⟨0,rfl,Nat.zero_le _,fun o ho=>(by simp at ho),Below.refl _ _⟩
       case round =>
        obtain ⟨k,rfl,hk,hE,hbx⟩:=hrel;by_cases hkl:k<r.ops.length
        · have hdk:(k:Int)<(r.ops.length:Nat):=by omega
          obtain ⟨q,hq⟩:∃q,r.ops[k]? = some q:=⟨r.ops[k],List.getElem?_eq_getElem hkl⟩;obtain ⟨g,o,eA,g0,g1,g2,_,_,_⟩:=(hr5.up hbx).op hq;have lg:=World.block_lt_of_cell? _ _ g0;dsimp only at lg;rw [hAo] at eA;subst eA;go_upto_region 18 with (fail)
          have hbs:=zck wr (.cells #[.int .i64 q.1,.string q.2.1,.string q.2.2] 132);have dS:=Bk.new wr #[.int .i64 q.1,.string q.2.1,.string q.2.2] 132;have hbx2:=zaj hbx hbx.size hbs;clear hbs;generalize wr.alloc (.cells #[.int .i64 q.1,.string q.2.1,.string q.2.2] 132)=w6 at *
          have s0:w6.cell? ⟨wr.heap.size,0,none⟩=some (.int .i64 q.1):=dS.cell 0;have s1:w6.cell? ⟨wr.heap.size,1,none⟩=some (.string q.2.1):=dS.cell 1;have s2:w6.cell? ⟨wr.heap.size,2,none⟩=some (.string q.2.2):=dS.cell 2;have sl:=dS.lt;have e0:=d0''.below hbx2;have q0:=e0.c1;have ql:=e0.lt;have e1:=d1''.below hbx2;obtain ⟨y0,y1⟩:=e1.c2;have yl:=e1.lt;have hc:=opHolds_any q (h5.up hbx2) (ht5.up hbx2);cases hd:zdg (l.map TypA.says) t.says q with
          | false =>
           rw [hd] at hc;go_wp2_with (with_reducible refine hc.mono ?_;rintro e w7 ⟨rfl,hb7⟩)
           go_ret
           refine ⟨?_,zaj hb5 hb5.size (zaj hbx2 hbx2.size hb7)⟩;rw [hNE.out,if_pos (List.all_eq_false.2 ⟨q,List.mem_of_getElem? hq,by rw [hd];decide⟩)];rfl
          | true =>
           rw [hd] at hc;go_wp2_with (with_reducible refine hc.mono ?_;rintro e w7 ⟨rfl,hb7⟩)
           refine ⟨⟨k + 1,by go_num,by omega,fun o ho=>?_,zaj hbx2 hbx2.size hb7⟩,?_⟩
           · rw [zcs hq] at ho;rcases List.mem_append.1 ho with ho | ho
             · exact hE o ho
             · simp at ho;subst ho;exact hd
           · simp [intOf];omega
        · obtain rfl:k=r.ops.length:=by omega
          have hdk:¬((r.ops.length:Int)<(r.ops.length:Nat)):=by omega
          rw [List.take_length] at hE;go_wp2
          go_ret
          refine ⟨?_,zaj hb5 hb5.size hbx⟩;rw [hNE.out,if_neg (by rw [List.all_eq_true.2 hE];decide)];rfl
theorem zbE {α:Type} (p:α→Bool):∀l:List α,(l.find? p).isSome=l.any p
 | []=>rfl
 | x::r=>by
  rw [List.find?_cons,List.any_cons];cases h:p x with
  | true=>rfl
  | false=>exact zbE p r
theorem SchA.pre {w:World} {R:Nat} {A:Option Addr} {c:Nat} {l:List TypA} (h:SchA w R A c l) {i:Nat} (hi:i≤l.length):SchA w R A c (l.take i):=by
 have e:(l.take i).length=i:=by rw [List.length_take];omega
 refine ⟨?_,?_,fun a ha=>h.each a (List.mem_of_mem_take ha)⟩
 · rw [e,zej TypA.cells (sz:=2) (fun _=>rfl)];exact h.rows.pre hi
 · have:=h.few;rw [e];exact Nat.le_trans (Nat.mul_le_mul_right _ hi) this
theorem TypA.ok.pre {w:World} {R:Nat} {t:TypA} (h:t.ok w R) {i:Nat} (hi:i≤t.rels.length):TypA.ok w R ⟨⟨#[]⟩,t.A,t.c,t.rels.take i⟩:=by
 have e:(t.rels.take i).length=i:=by rw [List.length_take];omega
 refine ⟨Nat.zero_le _,?_,?_,fun a ha=>h.relz a (List.mem_of_mem_take ha)⟩
 · show Rd w w.heap.size 6 t.A (t.rels.take i).length t.c _;rw [e,zej RelA.cells (sz:=6) (fun _=>rfl)];exact h.rels.pre hi
 · have:=h.reln;show (t.rels.take i).length * 112≤R;rw [e];exact Nat.le_trans (Nat.mul_le_mul_right _ hi) this
theorem zjS {A:Option Addr} {c:Nat} {t:TypI} {q:List RelA} {j:Nat} {r:RelA} (hr:q[j]? = some r) :
 zcw t ((q.take j).map RelA.says) ((q.drop j).map RelA.says)=if reE ⟨⟨#[]⟩,A,c,q.take j⟩ r≠0 then (reE ⟨⟨#[]⟩,A,c,q.take j⟩ r,zgh t r.says) else zcw t ((q.take (j + 1)).map RelA.says) ((q.drop (j + 1)).map RelA.says):=by
 rw [List.drop_eq_getElem_cons (List.getElem?_eq_some_iff.1 hr).1,(List.getElem?_eq_some_iff.1 hr).2,zcs hr,List.map_cons,List.map_append];have e:((q.take j).map RelA.says).any (fun x=>decide (x.name=r.says.name))=(za2 ⟨⟨#[]⟩,A,c,q.take j⟩ r.name).isSome:=by
  unfold za2;rw [zbE,List.any_map];rfl
 have eo:r.says.ops=r.ops:=rfl;unfold reE;rw [zcw,e,eo];by_cases h1:(za2 ⟨⟨#[]⟩,A,c,q.take j⟩ r.name).isSome=true
 · rw [if_pos h1,if_pos h1,if_pos (by decide)]
 · rw [if_neg h1,if_neg h1];by_cases h2:16<r.ops.length
   · rw [if_pos h2,if_pos h2,if_pos (by decide)]
   · rw [if_neg h2,if_neg h2,if_neg (by decide)];rfl
theorem zj6 {l:List TypA} {i:Nat} {t:TypA} (ht:l[i]? = some t) :
 zbw ((l.take i).map TypA.says) ((l.drop i).map TypA.says)=if tyE (l.take i) t≠0 then (tyE (l.take i) t,t.name) else if (zcw t.says [] (t.rels.map RelA.says)).1≠0 then zcw t.says [] (t.rels.map RelA.says) else zbw ((l.take (i + 1)).map TypA.says) ((l.drop (i + 1)).map TypA.says):=by
 rw [List.drop_eq_getElem_cons (List.getElem?_eq_some_iff.1 ht).1,(List.getElem?_eq_some_iff.1 ht).2,zcs ht,List.map_cons,List.map_append];have e:((l.take i).map TypA.says).any (fun x=>decide (x.name=t.says.name))=(zbu (l.take i) t.name).isSome:=by
  unfold zbu;rw [zbE,List.any_map];rfl
 have eo:t.says.rels=t.rels.map RelA.says:=rfl;have el:(t.rels.map RelA.says).length=t.rels.length:=List.length_map ..;unfold tyE;rw [zbw,e,eo,el];by_cases h1:(zbu (l.take i) t.name).isSome=true
 · rw [if_pos h1,if_pos h1,if_pos (by decide)];rfl
 · rw [if_neg h1,if_neg h1];by_cases h2:12<t.rels.length
   · rw [if_pos h2,if_pos h2,if_pos (by decide)];rfl
   · rw [if_neg h2,if_neg h2,if_neg (show ¬((0:Nat)≠0) by decide)];rfl
theorem zgz {l:List TypI} {t:TypI} {q:List RelA} {j:Nat} {r:RelA} (hr:q[j]? = some r) :
 za4 l t ((q.drop j).map RelA.says)=if zbQ l t r.says≠0 then (zbQ l t r.says,zgh t r.says) else za4 l t ((q.drop (j + 1)).map RelA.says):=by
 rw [List.drop_eq_getElem_cons (List.getElem?_eq_some_iff.1 hr).1,(List.getElem?_eq_some_iff.1 hr).2,List.map_cons];rfl
theorem zhY {L:List TypI} {l:List TypA} {i:Nat} {t:TypA} (ht:l[i]? = some t) :
 zbj L ((l.drop i).map TypA.says)=if (za4 L t.says (t.rels.map RelA.says)).1≠0 then za4 L t.says (t.rels.map RelA.says) else zbj L ((l.drop (i + 1)).map TypA.says):=by
 rw [List.drop_eq_getElem_cons (List.getElem?_eq_some_iff.1 ht).1,(List.getElem?_eq_some_iff.1 ht).2,List.map_cons];rfl
theorem partsFault_any {w:World} {R:Nat} {A:Option Addr} {c:Nat} {l:List TypA} (h:SchA w R A c l) (hR:R≤140737488351232) :
 Calls Tryz.prog 43 #[.agg #[.slice A l.length c]] w fun e w' =>
  e = .returned (.tuple #[.int .i64 ((zbw [] (l.map TypA.says)).1:Nat),.string (zbw [] (l.map TypA.says)).2])∧Below w.heap.size w w':=by
 have hll:(l.length:Int)≤9223372036854775807:=by have:=h.rows.cap;have:=h.rows.capm;simp only [maxLen] at this;omega
 have hcap:=h.rows.cap;have hNE:Hid (zbw [] (l.map TypA.says)=zbw ((l.take 0).map TypA.says) ((l.drop 0).map TypA.says)):=Lib.hid rfl;generalize zbw [] (l.map TypA.says)=NE at *
 have hb0:=zck w (.cells #[.slice A l.length c] 70);have d0:=Bk.new w #[.slice A l.length c] 70;have h0:=h.up hb0;go_enter Tryz.func43,Tryz.ntmps43
 go_upto_region 1 with (fail)
 clear h;generalize w.alloc (.cells #[.slice A l.length c] 70)=w1 at *
 have x0:=d0.c1;have xl:=d0.lt;go_wp2_with fail
 go_step3
 go_wp2_with fail
 go_step3
 go_wp2_with fail
 go_loopw [2,3,11] (fun ve va vi wx=>ve = .int .i64 0∧va = .string ⟨#[]⟩∧∃i:Nat,vi = .int .i64 i∧i≤l.length∧Hid (NE=zbw ((l.take i).map TypA.says) ((l.drop i).map TypA.says))∧Below w1.heap.size w1 wx) (fun _ _ vi _=>l.length-(intOf vi).toNat)
 case atStart=>exact ⟨rfl,rfl,0,rfl,Nat.zero_le _,hNE,Below.refl _ _⟩
 case round =>
  clear hNE x0 xl;obtain ⟨rfl,rfl,i,rfl,hi,hNE,hbx⟩:=hrel;by_cases hil:i<l.length
  · have hdi:(i:Int)<(l.length:Nat):=by omega
    have hic:(i:Int)≤(c:Nat):=by omega
    obtain ⟨t,ht⟩:∃t,l[i]? = some t:=⟨l[i],List.getElem?_eq_getElem hil⟩;obtain ⟨g,o,rfl,g0,g1,hk⟩:=(h0.up hbx).get ht;have lg:=World.block_lt_of_cell? _ _ g0;dsimp only at lg;go_upto_region 4 with (fail)
    have hbs:=zck wr (.cells #[.string t.name,.slice t.A t.rels.length t.c] 112);have dT:=Bk.new wr #[.string t.name,.slice t.A t.rels.length t.c] 112;have hbx2:=zaj hbx hbx.size hbs;have hk2:=hk.up hbs;clear hbs hk;generalize wr.alloc (.cells #[.string t.name,.slice t.A t.rels.length t.c] 112)=w2 at *
    obtain ⟨t0,t1⟩:=dT.c2;have tl:=dT.lt;have e0:=d0.below hbx2;have x0:=e0.c1;have xl:=e0.lt;have hbd:Below w2.heap.size w2 w2.drew:=⟨rfl,rfl,rfl,Nat.le_refl _,fun _ _=>rfl⟩;have hbx3:=zaj hbx2 hbx2.size hbd;have hcn:=typeFault_any (t:=t) ((h0.up hbx3).pre hi);rw [show (l.take i).length=i by rw [List.length_take];omega] at hcn;have hS:=zj6 ht;go_still_tail 5,(by kernel_rfl)
    change wpList _ _ _ _ _ (World.drew _);generalize tyE (l.take i) t=k at *
    by_cases hk0:k=0
    · subst hk0;rw [if_neg (by decide)] at hS;simp only [show ((0:Nat):Int)=0 from rfl] at hcn;go_wp2_with ((with_reducible refine hcn.mono ?_);rintro e w4 ⟨rfl,hb4⟩;have dT4:=(dT.below hbd).below hb4;have t4:=dT4.c2.2;have tl4:=dT4.lt)
      have hbx4:=zaj hbx3 hbx3.size hb4;have hk4:=(hk2.up hbd).up hb4;have hlr:(t.rels.length:Int)≤9223372036854775807:=by have:=hk2.rels.cap;have:=hk2.rels.capm;simp only [maxLen] at this;omega
      have hrc:=hk2.rels.cap;have hRE:Hid (zcw t.says [] (t.rels.map RelA.says)=zcw t.says ((t.rels.take 0).map RelA.says) ((t.rels.drop 0).map RelA.says)):=Lib.hid rfl;generalize zcw t.says [] (t.rels.map RelA.says)=RE at *
      obtain ⟨tA,htA⟩:∃tA,t.A=tA:=⟨_,rfl⟩;rw [htA] at dT4 t4 ⊢;clear hbx hbx2 hbx3 hb4 hbd hk2 dT t0 t1 tl g0 g1 lg x0 xl e0 hcn;generalize wr.heap.size=B5 at *
      go_loopw [2,3,29] (fun ve va vi wx=>ve = .int .i64 0∧va = .string ⟨#[]⟩∧∃i:Nat,vi = .int .i64 i∧i≤t.rels.length∧Hid (RE=zcw t.says ((t.rels.take i).map RelA.says) ((t.rels.drop i).map RelA.says))∧Below w4.heap.size w4 wx) (fun _ _ vi _=>t.rels.length-(intOf vi).toNat)
      case atStart=>exact ⟨rfl,rfl,0,rfl,Nat.zero_le _,hRE,Below.refl _ _⟩
      case round =>
       clear hRE;obtain ⟨rfl,rfl,j,rfl,hj,hRE,hby⟩:=hrel;by_cases hjl:j<t.rels.length
       · have hdj:(j:Int)<(t.rels.length:Nat):=by omega
         have hjc:(j:Int)≤(t.c:Nat):=by omega
         obtain ⟨r,hr⟩:∃r,t.rels[j]? = some r:=⟨t.rels[j],List.getElem?_eq_getElem hjl⟩;obtain ⟨gr,o',eA,r0,r1,r2,r3,r4,r5,hkr⟩:=(hk4.up hby).get hr;have lgr:=World.block_lt_of_cell? _ _ r0;dsimp only at lgr;rw [htA] at eA;subst eA;go_upto_region 10 with (fail)
         have hbs:=zck wr (.cells #[.string r.name,.string r.view,.string r.edit,.string r.check,.slice r.As r.subs.length r.cs,.slice r.Ao r.ops.length r.co] 115);have dR:=Bk.new wr #[.string r.name,.string r.view,.string r.edit,.string r.check,.slice r.As r.subs.length r.cs,.slice r.Ao r.ops.length r.co] 115;have hby2:=zaj hby hby.size hbs;clear hbs hkr hby r0 r1 r2 r3 r4 r5 lgr;generalize wr.alloc (.cells #[.string r.name,.string r.view,.string r.edit,.string r.check,.slice r.As r.subs.length r.cs,.slice r.Ao r.ops.length r.co] 115)=w5 at *
         generalize wr.heap.size=B7 at *
         obtain ⟨r0,r1,r2,r3,r4,r5⟩:=dR.c6;have rl:=dR.lt;have e4:=dT4.below hby2;obtain ⟨t0,t1⟩:=e4.c2;have tl:=e4.lt;have hbd:Below w5.heap.size w5 w5.drew:=⟨rfl,rfl,rfl,Nat.le_refl _,fun _ _=>rfl⟩;have hby3:=zaj hby2 hby2.size hbd;have hcn:=relFault_any (t:=r) ((hk4.up hby3).pre hj);rw [htA,show (t.rels.take j).length=j by rw [List.length_take];omega] at hcn;have hS2:=zjS (A:=some ⟨gr,o',none⟩) (c:=t.c) (t:=t.says) hr;go_still_tail 5,(by kernel_rfl)
         change wpList _ _ _ _ _ (World.drew _);generalize reE ⟨⟨#[]⟩,some ⟨gr,o',none⟩,t.c,t.rels.take j⟩ r=k at *
         by_cases hk0:k=0
         · subst hk0;rw [if_neg (by decide)] at hS2;simp only [show ((0:Nat):Int)=0 from rfl] at hcn;go_wp2_with ((with_reducible refine hcn.mono ?_);rintro e w6 ⟨rfl,hb6⟩)
           refine ⟨⟨rfl,rfl,j + 1,by go_num,by omega,Lib.hid (by rw [hRE.out,hS2]),zaj hby3 hby3.size hb6⟩,?_⟩;simp [intOf];omega
         · have hki:¬((k:Nat):Int)=0:=by omega
           rw [if_pos hk0] at hS2;go_wp2_with ((with_reducible refine hcn.mono ?_);rintro e w6 ⟨rfl,hb6⟩;have dR6:=(dR.below hbd).below hb6;have dT6:=(e4.below hbd).below hb6;have p4:=dT6.c2.1;have p5:=dT6.c2.2;have pl:=dT6.lt;obtain ⟨s0,s1,s2,s3,s4,s5⟩:=dR6.c6;have sl:=dR6.lt)
           have hpc:=path_any (w:=w6) (q:=t) (r:=r) (Nat.le_trans hk4.name hR) (Nat.le_trans (hk4.relz r (List.mem_of_getElem? hr)).name hR);rw [htA] at hpc;refine hpc.mono ?_;rintro e w8 ⟨rfl,hb8⟩;go_wp2_with fail
           rw [Exit.noGoto_ret];refine bodyPost_ret (v:=.tuple #[.int .i64 (k:Nat),.string (zgh t.says r.says)]) (by simp [results,Tryz.results43,go_sem];try rfl) rfl ?_;refine ⟨?_,zaj hb0 hb0.size (zaj hbx4 hbx4.size (zaj hby3 hby3.size (zaj hb6 hb6.size hb8)))⟩;have hne:RE.1≠0:=by rw [hRE.out,hS2];exact hk0
           rw [hNE.out,hS,if_pos hne,hRE.out,hS2]
       · obtain rfl:j=t.rels.length:=by omega
         have hRE0:RE=(0,⟨#[]⟩):=by
          rw [hRE.out,List.take_length,List.drop_length];rfl
         subst hRE0;rw [if_neg (show ¬((0,⟨#[]⟩):Nat × ByteArray).1≠0 by decide)] at hS;replace hS:=Lib.hid hS;go_wp2
         refine ⟨⟨rfl,rfl,i + 1,by go_num,by omega,Lib.hid (by rw [hNE.out,hS.out]),zaj hbx4 hbx4.size hby⟩,?_⟩;simp [intOf];omega
    · have hki:¬((k:Nat):Int)=0:=by omega
      rw [if_pos hk0] at hS;go_wp2_with ((with_reducible refine hcn.mono ?_);rintro e w4 ⟨rfl,hb4⟩;have dT4:=(dT.below hbd).below hb4;have t4:=dT4.c2.1;have tl4:=dT4.lt)
      rw [Exit.noGoto_ret];refine bodyPost_ret (v:=.tuple #[.int .i64 (k:Nat),.string t.name]) (by simp [results,Tryz.results43,go_sem];try rfl) rfl ?_;refine ⟨?_,zaj hb0 hb0.size (zaj hbx3 hbx3.size hb4)⟩;rw [hNE.out,hS]
  · have hdi:¬(i:Int)<(l.length:Nat):=by omega
    obtain rfl:i=l.length:=by omega
    go_wp2
    refine bodyPost_ret (v:=.tuple #[.int .i64 0,.string ⟨#[]⟩]) (by simp [results,Tryz.results43,go_sem];try rfl) rfl ?_;refine ⟨?_,zaj hb0 hb0.size hbx⟩;rw [hNE.out,List.take_length,List.drop_length];rfl
theorem namesFault_any {w:World} {R:Nat} {A:Option Addr} {c:Nat} {l:List TypA} (h:SchA w R A c l) (hR:R≤140737488351232) :
 Calls Tryz.prog 44 #[.agg #[.slice A l.length c]] w fun e w' =>
  e = .returned (.tuple #[.int .i64 ((zbj (l.map TypA.says) (l.map TypA.says)).1:Nat),.string (zbj (l.map TypA.says) (l.map TypA.says)).2])∧Below w.heap.size w w':=by
 have hll:(l.length:Int)≤9223372036854775807:=by have:=h.rows.cap;have:=h.rows.capm;simp only [maxLen] at this;omega
 obtain ⟨L,hL⟩:∃L,l.map TypA.says=L:=⟨_,rfl⟩;have hNE:Hid (zbj L (l.map TypA.says)=zbj L ((l.drop 0).map TypA.says)):=Lib.hid rfl;rw [show zbj (l.map TypA.says) (l.map TypA.says)=zbj L (l.map TypA.says) by rw [hL]];generalize zbj L (l.map TypA.says)=NE at *
 have hL:=Lib.hid hL;have hb0:=zck w (.cells #[.slice A l.length c] 70);have d0:=Bk.new w #[.slice A l.length c] 70;have h0:=h.up hb0;go_enter Tryz.func44,Tryz.ntmps44
 go_upto_region 1 with (fail)
 clear h;generalize w.alloc (.cells #[.slice A l.length c] 70)=w1 at *
 have x0:=d0.c1;have xl:=d0.lt;go_wp2_with fail
 go_step3
 go_wp2_with fail
 go_step3
 go_wp2_with fail
 go_loopw [2,3,11] (fun ve va vi wx=>ve = .int .i64 0∧va = .string ⟨#[]⟩∧∃i:Nat,vi = .int .i64 i∧i≤l.length∧Hid (NE=zbj L ((l.drop i).map TypA.says))∧Below w1.heap.size w1 wx) (fun _ _ vi _=>l.length-(intOf vi).toNat)
 case atStart=>exact ⟨rfl,rfl,0,rfl,Nat.zero_le _,hNE,Below.refl _ _⟩
 case round =>
  clear hNE x0 xl;obtain ⟨rfl,rfl,i,rfl,hi,hNE,hbx⟩:=hrel;by_cases hil:i<l.length
  · have hdi:(i:Int)<(l.length:Nat):=by omega
    obtain ⟨t,ht⟩:∃t,l[i]? = some t:=⟨l[i],List.getElem?_eq_getElem hil⟩;obtain ⟨g,o,rfl,g0,g1,hk⟩:=(h0.up hbx).get ht;have lg:=World.block_lt_of_cell? _ _ g0;dsimp only at lg;go_upto_region 4 with (fail)
    have hbs:=zck wr (.cells #[.string t.name,.slice t.A t.rels.length t.c] 112);have dT:=Bk.new wr #[.string t.name,.slice t.A t.rels.length t.c] 112;have hbx2:=zaj hbx hbx.size hbs;have hk2:=hk.up hbs;clear hbs hk;generalize wr.alloc (.cells #[.string t.name,.slice t.A t.rels.length t.c] 112)=w4 at *
    have d04:=d0.below hbx2;obtain ⟨t0,t1⟩:=dT.c2;have tl:=dT.lt;have hS:=zhY (L:=L) ht;have hlr:(t.rels.length:Int)≤9223372036854775807:=by have:=hk2.rels.cap;have:=hk2.rels.capm;simp only [maxLen] at this;omega
    have hRE:Hid (za4 L t.says (t.rels.map RelA.says)=za4 L t.says ((t.rels.drop 0).map RelA.says)):=Lib.hid rfl;generalize za4 L t.says (t.rels.map RelA.says)=RE at *
    obtain ⟨tA,htA⟩:∃tA,t.A=tA:=⟨_,rfl⟩;rw [htA] at dT t1 ⊢;go_wp2_with fail
    clear hbx g0 g1 lg t0 t1 tl;generalize wr.heap.size=B5 at *
    go_loopw [2,3,18] (fun ve va vi wx=>ve = .int .i64 0∧va = .string ⟨#[]⟩∧∃i:Nat,vi = .int .i64 i∧i≤t.rels.length∧Hid (RE=za4 L t.says ((t.rels.drop i).map RelA.says))∧Below w4.heap.size w4 wx) (fun _ _ vi _=>t.rels.length-(intOf vi).toNat)
    case atStart=>exact ⟨rfl,rfl,0,rfl,Nat.zero_le _,hRE,Below.refl _ _⟩
    case round =>
     clear hRE;obtain ⟨rfl,rfl,j,rfl,hj,hRE,hby⟩:=hrel;by_cases hjl:j<t.rels.length
     · have hdj:(j:Int)<(t.rels.length:Nat):=by omega
       obtain ⟨r,hr⟩:∃r,t.rels[j]? = some r:=⟨t.rels[j],List.getElem?_eq_getElem hjl⟩;obtain ⟨gr,o',eA,r0,r1,r2,r3,r4,r5,hkr⟩:=(hk2.up hby).get hr;have lgr:=World.block_lt_of_cell? _ _ r0;dsimp only at lgr;rw [htA] at eA;subst eA;go_upto_region 7 with (fail)
       have hbs:=zck wr (.cells #[.string r.name,.string r.view,.string r.edit,.string r.check,.slice r.As r.subs.length r.cs,.slice r.Ao r.ops.length r.co] 115);have dR:=Bk.new wr #[.string r.name,.string r.view,.string r.edit,.string r.check,.slice r.As r.subs.length r.cs,.slice r.Ao r.ops.length r.co] 115;have hby2:=zaj hby hby.size hbs;have hkr2:=hkr.up hbs;clear hbs hkr hby r0 r1 r2 r3 r4 r5 lgr;generalize wr.alloc (.cells #[.string r.name,.string r.view,.string r.edit,.string r.check,.slice r.As r.subs.length r.cs,.slice r.Ao r.ops.length r.co] 115)=w5 at *
       generalize wr.heap.size=B7 at *
       obtain ⟨r0,r1,r2,r3,r4,r5⟩:=dR.c6;have rl:=dR.lt;have e4:=dT.below hby2;obtain ⟨t0,t1⟩:=e4.c2;have tl:=e4.lt;have e0:=d04.below hby2;have x0:=e0.c1;have xl:=e0.lt;have hcn:=relNames_any ((h0.up hbx2).up hby2) (hk2.up hby2) hkr2;rw [htA,hL.out] at hcn;have hS2:=zgz (l:=L) (t:=t.says) hr;generalize zbQ L t.says r.says=k at *
       by_cases hk0:k=0
       · subst hk0;rw [if_neg (by decide)] at hS2;replace hS2:=Lib.hid hS2;simp only [show ((0:Nat):Int)=0 from rfl] at hcn;go_wp2_with ((with_reducible refine hcn.mono ?_);rintro e w6 ⟨rfl,hb6⟩)
         refine ⟨⟨rfl,rfl,j + 1,by go_num,by omega,Lib.hid (by rw [hRE.out,hS2.out]),zaj hby2 hby2.size hb6⟩,?_⟩;simp [intOf];omega
       · have hki:¬((k:Nat):Int)=0:=by omega
         rw [if_pos hk0] at hS2;replace hS2:=Lib.hid hS2;go_wp2_with ((with_reducible refine hcn.mono ?_);rintro e w6 ⟨rfl,hb6⟩;have dR6:=dR.below hb6;have dT6:=e4.below hb6;have p4:=dT6.c2.1;have p5:=dT6.c2.2;have pl:=dT6.lt;obtain ⟨s0,s1,s2,s3,s4,s5⟩:=dR6.c6;have sl:=dR6.lt)
         have hpc:=path_any (w:=w6) (q:=t) (r:=r) (Nat.le_trans hk2.name hR) (Nat.le_trans hkr2.name hR);rw [htA] at hpc;refine hpc.mono ?_;rintro e w8 ⟨rfl,hb8⟩;go_wp2_with fail
         rw [Exit.noGoto_ret];refine bodyPost_ret (v:=.tuple #[.int .i64 (k:Nat),.string (zgh t.says r.says)]) (by simp [results,Tryz.results44,go_sem];try rfl) rfl ?_;refine ⟨?_,zaj hb0 hb0.size (zaj hbx2 hbx2.size (zaj hby2 hby2.size (zaj hb6 hb6.size hb8)))⟩;have hne:RE.1≠0:=by rw [hRE.out,hS2.out];exact hk0
         rw [hNE.out,hS,if_pos hne,hRE.out,hS2.out]
     · obtain rfl:j=t.rels.length:=by omega
       have hRE0:RE=(0,⟨#[]⟩):=by
        rw [hRE.out,List.drop_length];rfl
       subst hRE0;rw [if_neg (show ¬((0,⟨#[]⟩):Nat × ByteArray).1≠0 by decide)] at hS;replace hS:=Lib.hid hS;go_wp2
       refine ⟨⟨rfl,rfl,i + 1,by go_num,by omega,Lib.hid (by rw [hNE.out,hS.out]),zaj hbx2 hbx2.size hby⟩,?_⟩;simp [intOf];omega
  · have hdi:¬(i:Int)<(l.length:Nat):=by omega
    obtain rfl:i=l.length:=by omega
    go_wp2
    refine bodyPost_ret (v:=.tuple #[.int .i64 0,.string ⟨#[]⟩]) (by simp [results,Tryz.results44,go_sem];try rfl) rfl ?_;refine ⟨?_,zaj hb0 hb0.size hbx⟩;rw [hNE.out,List.drop_length];rfl
theorem check_any {w:World} {R:Nat} {A:Option Addr} {c:Nat} {l:List TypA} (h:SchA w R A c l) (hR:R≤140737488351232) :
 Calls Tryz.prog 23 #[.agg #[.slice A l.length c]] w fun e w' =>
  e = .returned (.tuple #[.int .i64 ((zbb (l.map TypA.says)).1:Nat),.string (zbb (l.map TypA.says)).2])∧Below w.heap.size w w':=by
 have hb0:=zck w (.cells #[.slice A l.length c] 70);have d0:=Bk.new w #[.slice A l.length c] 70;have h0:=h.up hb0;have hC:zbb (l.map TypA.says)=if 8<l.length then (13,⟨#[]⟩) else if (zbw [] (l.map TypA.says)).1≠0 then zbw [] (l.map TypA.says) else zbj (l.map TypA.says) (l.map TypA.says):=by
  unfold zbb;rw [List.length_map]
 by_cases h8:8<l.length
 · have hdi:(8:Int)<(l.length:Nat):=by omega
   rw [if_pos h8] at hC;rw [hC];go_enter Tryz.func23,Tryz.ntmps23
   go_wp2
   refine bodyPost_ret (v:=.tuple #[.int .i64 13,.string ⟨#[]⟩]) (by simp [results,Tryz.results23,go_sem];try rfl) rfl ?_;exact ⟨rfl,hb0⟩
 · have hdi:¬(8:Int)<(l.length:Nat):=by omega
   rw [if_neg h8] at hC;have k1:=partsFault_any h0 hR;generalize zbw [] (l.map TypA.says)=T at *
   by_cases hT:T.1≠0
   · rw [if_pos hT] at hC;rw [hC];have hki:¬((T.1:Nat):Int)=0:=by omega
     clear hC;go_enter Tryz.func23,Tryz.ntmps23
     go_wp2_with (with_reducible refine k1.mono ?_;rintro e w2 ⟨rfl,hb2⟩)
     refine bodyPost_ret (v:=.tuple #[.int .i64 (T.1:Nat),.string T.2]) (by simp [results,Tryz.results23,go_sem];try rfl) rfl ?_;exact ⟨rfl,zaj hb0 hb0.size hb2⟩
   · rw [if_neg hT] at hC;rw [hC];have hT0:T.1=0:=by omega
     rw [hT0] at k1;simp only [show ((0:Nat):Int)=0 from rfl] at k1;clear hC hT;go_enter Tryz.func23,Tryz.ntmps23
     go_wp2_with (with_reducible refine k1.mono ?_;rintro e w2 ⟨rfl,hb2⟩;have d2:=d0.below hb2;have x0:=d2.c1;have xl:=d2.lt)
     refine (namesFault_any (h0.up hb2) hR).mono ?_;rintro e w3 ⟨rfl,hb3⟩;go_wp2
     refine bodyPost_ret (v:=.tuple #[.int .i64 ((zbj (l.map TypA.says) (l.map TypA.says)).1:Nat),.string (zbj (l.map TypA.says) (l.map TypA.says)).2]) (by simp [results,Tryz.results23,go_sem];try rfl) rfl ?_;exact ⟨rfl,zaj hb0 hb0.size (zaj hb2 hb2.size hb3)⟩
end Go.Proofs.YtiepddmagfmllaaGreat
