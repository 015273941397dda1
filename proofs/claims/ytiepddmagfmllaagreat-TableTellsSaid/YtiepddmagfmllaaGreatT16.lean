import Derived.Maps.Range
import Derived.Sort.MapsRangeIn
import Derived.Test.YtiepddmagfmllaaGreatT15
set_option maxRecDepth 100000
set_option maxHeartbeats 4000000
namespace Go.Proofs.YtiepddmagfmllaaGreat
open Go.RowKit Go.Maps
theorem zgl (w:World):(zeroValue 3).run Tryz.prog w = .ok (.int .i64 0) w:=by kernel_rfl
theorem named_any {w:World} {R c b:Nat} {A:Option Addr} {K:List (TypA × RelA)} {t:TypA} {r:RelA} {o:OpI} (hK:Rd w w.heap.size 6 A K.length c (zdz K)) (hM:MapS w b (zao K)) (hok:∀x ∈ K,x.2.ok w R) (hr:r.ok w R) (ht:t.name.size≤R) (ho:o.2.1.size≤R∧o.2.2.size≤R)
 (hR:R≤140737488351232) (hf:∀x ∈ K,x.2.subs.length≤100000) (hf2:r.subs.length≤100000) :
 Calls Tryz.prog 52 #[.agg #[.slice A K.length c,.map (some b)],.agg #[.string t.name,.slice t.A t.rels.length t.c],.agg #[.string r.name,.string r.view,.string r.edit,.string r.check,.slice r.As r.subs.length r.cs,.slice r.Ao r.ops.length r.co],.agg #[.int .i64 o.1,.string o.2.1,.string o.2.2]] w fun e w' =>
  (∃A2 c2,e = .returned (.slice A2 (zcz (zao K) (K.map fun x=>x.2.says) t.name r.subs o).length c2)∧Rd w' w'.heap.size 1 A2 (zcz (zao K) (K.map fun x=>x.2.says) t.name r.subs o).length c2 (ints (zcz (zao K) (K.map fun x=>x.2.says) t.name r.subs o)))∧Below w.heap.size w w':=by
 obtain ⟨nm,hnm⟩:∃nm,zcz (zao K) (K.map fun x=>x.2.says) t.name r.subs o=nm:=⟨_,rfl⟩;rw [hnm];replace hnm:=Lib.hid hnm;obtain ⟨i0,hi0,hz0,hz1,hz2⟩:=info_parts zdH;have hkl:(zao K).length=K.length:=by simp [zao]
 replace hkl:=Lib.hid hkl;have hkc:=hK.cap;have hkcm:=hK.capm;go_enter Tryz.func52,Tryz.ntmps52
 go_upto_region 2 with (fail)
 have hb0:Below w.heap.size w ((((w.alloc (.cells #[.slice A K.length c,.map (some b)] 127)).alloc (.cells #[.string t.name,.slice t.A t.rels.length t.c] 112)).alloc (.cells #[.string r.name,.string r.view,.string r.edit,.string r.check,.slice r.As r.subs.length r.cs,.slice r.Ao r.ops.length r.co] 115)).alloc (.cells #[.int .i64 o.1,.string o.2.1,.string o.2.2] 132)):=((((Below.refl _ w).alloc (Nat.le_refl _) _).alloc (by simp) _).alloc (by simp;omega) _).alloc (by simp;omega) _;have d0:=((Bk.new w #[.slice A K.length c,.map (some b)] 127).alloc (.cells #[.string t.name,.slice t.A t.rels.length t.c] 112)).alloc (.cells #[.string r.name,.string r.view,.string r.edit,.string r.check,.slice r.As r.subs.length r.cs,.slice r.Ao r.ops.length r.co] 115) |>.alloc (.cells #[.int .i64 o.1,.string o.2.1,.string o.2.2] 132);have d1:=((Bk.new (w.alloc (.cells #[.slice A K.length c,.map (some b)] 127)) #[.string t.name,.slice t.A t.rels.length t.c] 112).alloc (.cells #[.string r.name,.string r.view,.string r.edit,.string r.check,.slice r.As r.subs.length r.cs,.slice r.Ao r.ops.length r.co] 115)).alloc (.cells #[.int .i64 o.1,.string o.2.1,.string o.2.2] 132);have d2:=(Bk.new ((w.alloc (.cells #[.slice A K.length c,.map (some b)] 127)).alloc (.cells #[.string t.name,.slice t.A t.rels.length t.c] 112)) #[.string r.name,.string r.view,.string r.edit,.string r.check,.slice r.As r.subs.length r.cs,.slice r.Ao r.ops.length r.co] 115).alloc (.cells #[.int .i64 o.1,.string o.2.1,.string o.2.2] 132)
 have d3:=Bk.new (((w.alloc (.cells #[.slice A K.length c,.map (some b)] 127)).alloc (.cells #[.string t.name,.slice t.A t.rels.length t.c] 112)).alloc (.cells #[.string r.name,.string r.view,.string r.edit,.string r.check,.slice r.As r.subs.length r.cs,.slice r.Ao r.ops.length r.co] 115)) #[.int .i64 o.1,.string o.2.1,.string o.2.2] 132;simp only [World.size_alloc] at d1 d2 d3;generalize (((w.alloc (.cells #[.slice A K.length c,.map (some b)] 127)).alloc (.cells #[.string t.name,.slice t.A t.rels.length t.c] 112)).alloc (.cells #[.string r.name,.string r.view,.string r.edit,.string r.check,.slice r.As r.subs.length r.cs,.slice r.Ao r.ops.length r.co] 115)).alloc (.cells #[.int .i64 o.1,.string o.2.1,.string o.2.2] 132)=w0 at *
 have a0:=d0.cell 0;have a1:=d0.cell 1;have b0:=d1.cell 0;have b1:=d1.cell 1;obtain ⟨r0,r1,r2,r3,r4,r5⟩:w0.cell? ⟨w.heap.size + 1 + 1,0,none⟩=some (.string r.name)∧w0.cell? ⟨w.heap.size + 1 + 1,1,none⟩=some (.string r.view)∧w0.cell? ⟨w.heap.size + 1 + 1,2,none⟩=some (.string r.edit)∧w0.cell? ⟨w.heap.size + 1 + 1,3,none⟩=some (.string r.check)∧w0.cell? ⟨w.heap.size + 1 + 1,4,none⟩=some (.slice r.As r.subs.length r.cs)∧w0.cell? ⟨w.heap.size + 1 + 1,5,none⟩=some (.slice r.Ao r.ops.length r.co):=⟨d2.cell 0,d2.cell 1,d2.cell 2,d2.cell 3,d2.cell 4,d2.cell 5⟩;have o0:=d3.cell 0;have o1:=d3.cell 1;have o2:=d3.cell 2;have hbq2:=hb0;by_cases h1:o.1=1
 · have e1:(o.1 == 1)=true:=by simpa using h1
   obtain ⟨ps,hps⟩:∃ps,zbk (zao K) (K.map fun x=>x.2.says) t.name r.subs o=ps:=⟨_,rfl⟩;have hps0:zcU r.subs=ps:=by rw [←hps];unfold zbk;rw [if_pos h1]
   have hsm:∀p ∈ ps,SmP p:=fun p hp=>by
    rw [←hps0] at hp;have:=hr.subz p (List.mem_filter.1 hp).1;exact ⟨by simp only [maxLen];omega,by simp only [maxLen];omega⟩
   have hpl0:ps.length≤100000:=by rw [←hps0];exact Nat.le_trans (List.length_filter_le _ _) hf2
   have kS:=sets_any (w:=w0) (nm:=r.name) (vi:=r.view) (ed:=r.edit) (ch:=r.check) (vo:=.slice r.Ao r.ops.length r.co) ⟨_,_,_,rfl⟩ ((hr.subs.below hb0).more hb0.size) hf2;rw [hps0] at kS;clear hps0;replace hps:=Lib.hid hps;go_upto_region 12 with (go_at_call 92;refine kS.mono ?_;rintro e wq ⟨⟨Ap,cp,rfl,hP0⟩,hbq⟩)
   have hP:Rd wq wq.heap.size 2 Ap ps.length cp (zb0 ps):=by obtain ⟨A9,c9,e9,hR9⟩:=Rd.own hP0;cases e9;exact hR9
   have hbq2:=hb0.trans (hbq.mono hb0.size);have d0q:=d0.below hbq;clear a0 a1 b0 b1 r0 r1 r2 r3 r4 r5 o0 o1 o2 d0 d1 d2 d3 hb0 kS hbq hP0;clear h1 e1;have hq0:=hbq2.size;have a1:=d0q.cell 1;have hpl:(ps.length:Int)≤9223372036854775807:=by omega
   have hmq:=hM.below hbq2;go_wp2_with fail
   go_loopw [12,55] (fun v vi wx=>∃j:Nat,vi = .int .i64 j∧j≤ps.length∧wx.ownsRow wq.heap.size 3 1 v ((ps.take j).filterMap (zas (zao K))).length (ints ((ps.take j).filterMap (zas (zao K))))∧Below wq.heap.size wq wx) (fun _ vi _=>ps.length-(intOf vi).toNat)
   case atStart=>exact ⟨0,rfl,Nat.zero_le _,World.ownsRow_nil _ _ _ _,Below.refl _ _⟩
   case round =>
    obtain ⟨j,rfl,hj,hO,hbx⟩:=hrel;obtain ⟨A3,c3,rfl,hR3⟩:=Rd.own hO;by_cases hjl:j<ps.length
    · have hdj:(j:Int)<(ps.length:Int):=by omega
      obtain ⟨p,hp⟩:∃p,ps[j]? = some p:=⟨_,List.getElem?_eq_getElem hjl⟩;have hpsm:=hsm p (List.mem_of_getElem? hp);obtain ⟨bp,op,rfl,hbp,q0,q1⟩:=zdl (hP.below hbx) hp rfl;have hle:((ps.take j).filterMap (zas (zao K))).length≤j:=Nat.le_trans (List.length_filterMap_le _ _) (by rw [List.length_take];omega);have hws:=hbx.size;have hO1:=hO.alloc (.cells #[.string p.1,.string p.2] 104);have hbx1:=hbx.alloc hws (.cells #[.string p.1,.string p.2] 104);have x1:=Bk.new wr #[.string p.1,.string p.2] 104;go_upto_region 15 with (fail)
      clear q0 q1 hO hbx;generalize wr.alloc (.cells #[.string p.1,.string p.2] 104)=w1 at *
      have q0:=x1.cell 0;have q1:=x1.cell 1;have a1':=zac a1 hbx1;have hm1:=(hmq.below hbx1).1;have hkey:=zds hpsm.1 hpsm.2;obtain ⟨hh,hat⟩:=zcj hM.2 hpsm;have hsn:Hid ((ps.take (j + 1)).filterMap (zas (zao K))=(ps.take j).filterMap (zas (zao K)) ++ (zas (zao K) p).toList):=Lib.hid (by
       rw [List.take_add_one,hp,Option.toList_some,List.filterMap_append];cases hl:zas (zao K) p <;> simp [hl])
      have hat:=Lib.hid hat;cases hl:zas (zao K) p with
      | none =>
       rw [hl] at hh hsn;have hl:=Lib.hid hl;go_wp2_with (at_lookup;refine wpList_lookup_own_ok_int _ rfl _ _ 125 rfl 104 3 .i64 zdt Tryz.underlying125 Tryz.underlying3 (zgl _) b (zao K).length _ rfl hm1 _ _ rfl hkey ?_;intro cc hat2 hwc)
       refine ⟨⟨j + 1,by go_num,by omega,?_,hbx1⟩,by simp [intOf];omega⟩;rw [hsn.out,Option.toList_none,List.append_nil];exact hO1
      | some i =>
       rw [hl] at hh hsn;have hik:=(List.getElem?_eq_some_iff.1 (za3 hl)).1;have hl:=Lib.hid hl;go_wp2_with (first
        | (at_lookup;refine wpList_lookup_own_ok_int _ rfl _ _ 125 rfl 104 3 .i64 zdt Tryz.underlying125 Tryz.underlying3 (zgl _) b (zao K).length _ rfl hm1 _ _ rfl hkey ?_;intro cc hat2 hwc;have hcc:cc=(i:Int):=by { have h9:=(hat.out _).symm.trans hat2;rw [hl.out] at h9;cases h9;rfl };subst hcc)
        | (at_builtin;go_loud (refine zab _ rfl (.tmp 67) (.tmp 69) 32 32 rfl wq.heap.size 3 i0 (.int .i64 0) 1 8 Tryz.underlying32 hi0 hz0 hz1 hz2 rfl (by decide) (.slice A3 ((ps.take j).filterMap (zas (zao K))).length c3) _ _ rfl (hO1.alloc _) _ 1 [.int .i64 (i:Int)] rfl (Src.ofSlice _ Tryz.underlying32 _ 1 1 _ rfl (zbn _ _ _) (zdI [i])) (by simp only [maxLen];omega) (by omega) (size_alloc hbx1.size) ?_;intro v9 w8 hown8 hg8 hat8)))
       refine ⟨⟨j + 1,by go_num,by omega,?_,zak (hbx1.alloc hbx1.size _) hg8 (hO1.alloc _) (size_alloc hbx1.size) (Nat.le_refl _)⟩,by simp [intOf];omega⟩;rw [hsn.out,Option.toList_some,List.length_append,zek];exact hown8
    · obtain rfl:j=ps.length:=by omega
      have hdj:¬(((ps.length:Nat):Int)<(ps.length:Int)):=by omega
      rw [List.take_length] at hO hR3;have hnm2:Hid (nm=ps.filterMap (zas (zao K))):=Lib.hid (by rw [←hnm.out,zcz,hps.out]);go_wp2_with fail
      go_ret
      rw [hnm2.out];exact ⟨⟨A3,c3,rfl,hR3⟩,hbq2.trans (hbx.mono hq0)⟩
 · by_cases h2:o.1=2
   · have e1:(o.1 == 1)=false:=by simpa using h1
     have e2:(o.1 == 2)=true:=by simpa using h2
     obtain ⟨ps,hps⟩:∃ps,zbk (zao K) (K.map fun x=>x.2.says) t.name r.subs o=ps:=⟨_,rfl⟩;have hps0:ps=[(t.name,o.2.1)]:=by rw [←hps];unfold zbk;rw [if_neg h1,if_pos h2]
     have hsm:∀p ∈ ps,SmP p:=fun p hp=>by
      rw [hps0,List.mem_singleton] at hp;subst hp;exact ⟨by simp only [maxLen];omega,by simp only [maxLen];omega⟩
     have hP1:∀W:World,Rd (W.alloc (.cells #[.string t.name,.string o.2.1] 104)) (W.alloc (.cells #[.string t.name,.string o.2.1] 104)).heap.size 2 (some ⟨W.heap.size,0,none⟩) ps.length 1 (zb0 ps):=fun W=>by
      rw [hps0];exact Rd.litX W _ _ 1 2 _ rfl rfl (by simp [maxLen])
     have hpl1:Hid (ps.length=1):=Lib.hid (by rw [hps0];rfl);have hpl0:ps.length≤100000:=by have:=hpl1.out;omega
     clear hps0;replace hps:=Lib.hid hps;have hP:=hP1 w0;have hbq2:=hb0.alloc hb0.size (.cells #[.string t.name,.string o.2.1] 104);have d0q:=d0.alloc (.cells #[.string t.name,.string o.2.1] 104);go_upto_region 11 with (fail)
     clear a0 a1 b0 b1 r0 r1 r2 r3 r4 r5 o0 o1 o2 d0 d1 d2 d3 hb0 hP1;generalize w0.alloc (.cells #[.string t.name,.string o.2.1] 104)=wq at *
     obtain ⟨Ap,cp,hv,hP⟩:∃Ap cp,(Value.slice (some ⟨w0.heap.size,0,none⟩) 1 1) = .slice Ap ps.length cp∧Rd wq wq.heap.size 2 Ap ps.length cp (zb0 ps):=⟨_,1,by rw [hpl1.out],hP⟩;rw [hv];clear hv h1 h2 e1 e2;go_upto_region 12 with (fail)
     have hq0:=hbq2.size;have a1:=d0q.cell 1;have hpl:(ps.length:Int)≤9223372036854775807:=by omega
     have hmq:=hM.below hbq2;go_wp2_with fail
     go_loopw [12,55] (fun v vi wx=>∃j:Nat,vi = .int .i64 j∧j≤ps.length∧wx.ownsRow wq.heap.size 3 1 v ((ps.take j).filterMap (zas (zao K))).length (ints ((ps.take j).filterMap (zas (zao K))))∧Below wq.heap.size wq wx) (fun _ vi _=>ps.length-(intOf vi).toNat)
     case atStart=>exact ⟨0,rfl,Nat.zero_le _,World.ownsRow_nil _ _ _ _,Below.refl _ _⟩
     case round =>
      obtain ⟨j,rfl,hj,hO,hbx⟩:=hrel;obtain ⟨A3,c3,rfl,hR3⟩:=Rd.own hO;by_cases hjl:j<ps.length
      · have hdj:(j:Int)<(ps.length:Int):=by omega
        obtain ⟨p,hp⟩:∃p,ps[j]? = some p:=⟨_,List.getElem?_eq_getElem hjl⟩;have hpsm:=hsm p (List.mem_of_getElem? hp);obtain ⟨bp,op,rfl,hbp,q0,q1⟩:=zdl (hP.below hbx) hp rfl;have hle:((ps.take j).filterMap (zas (zao K))).length≤j:=Nat.le_trans (List.length_filterMap_le _ _) (by rw [List.length_take];omega);have hws:=hbx.size;have hO1:=hO.alloc (.cells #[.string p.1,.string p.2] 104);have hbx1:=hbx.alloc hws (.cells #[.string p.1,.string p.2] 104);have x1:=Bk.new wr #[.string p.1,.string p.2] 104;go_upto_region 15 with (fail)
        clear q0 q1 hO hbx;generalize wr.alloc (.cells #[.string p.1,.string p.2] 104)=w1 at *
        have q0:=x1.cell 0;have q1:=x1.cell 1;have a1':=zac a1 hbx1;have hm1:=(hmq.below hbx1).1;have hkey:=zds hpsm.1 hpsm.2;obtain ⟨hh,hat⟩:=zcj hM.2 hpsm;have hsn:Hid ((ps.take (j + 1)).filterMap (zas (zao K))=(ps.take j).filterMap (zas (zao K)) ++ (zas (zao K) p).toList):=Lib.hid (by
         rw [List.take_add_one,hp,Option.toList_some,List.filterMap_append];cases hl:zas (zao K) p <;> simp [hl])
        have hat:=Lib.hid hat;cases hl:zas (zao K) p with
        | none =>
         rw [hl] at hh hsn;have hl:=Lib.hid hl;go_wp2_with (at_lookup;refine wpList_lookup_own_ok_int _ rfl _ _ 125 rfl 104 3 .i64 zdt Tryz.underlying125 Tryz.underlying3 (zgl _) b (zao K).length _ rfl hm1 _ _ rfl hkey ?_;intro cc hat2 hwc)
         refine ⟨⟨j + 1,by go_num,by omega,?_,hbx1⟩,by simp [intOf];omega⟩;rw [hsn.out,Option.toList_none,List.append_nil];exact hO1
        | some i =>
         rw [hl] at hh hsn;have hik:=(List.getElem?_eq_some_iff.1 (za3 hl)).1;have hl:=Lib.hid hl;go_wp2_with (first
          | (at_lookup;refine wpList_lookup_own_ok_int _ rfl _ _ 125 rfl 104 3 .i64 zdt Tryz.underlying125 Tryz.underlying3 (zgl _) b (zao K).length _ rfl hm1 _ _ rfl hkey ?_;intro cc hat2 hwc;have hcc:cc=(i:Int):=by { have h9:=(hat.out _).symm.trans hat2;rw [hl.out] at h9;cases h9;rfl };subst hcc)
          | (at_builtin;go_loud (refine zab _ rfl (.tmp 67) (.tmp 69) 32 32 rfl wq.heap.size 3 i0 (.int .i64 0) 1 8 Tryz.underlying32 hi0 hz0 hz1 hz2 rfl (by decide) (.slice A3 ((ps.take j).filterMap (zas (zao K))).length c3) _ _ rfl (hO1.alloc _) _ 1 [.int .i64 (i:Int)] rfl (Src.ofSlice _ Tryz.underlying32 _ 1 1 _ rfl (zbn _ _ _) (zdI [i])) (by simp only [maxLen];omega) (by omega) (size_alloc hbx1.size) ?_;intro v9 w8 hown8 hg8 hat8)))
         refine ⟨⟨j + 1,by go_num,by omega,?_,zak (hbx1.alloc hbx1.size _) hg8 (hO1.alloc _) (size_alloc hbx1.size) (Nat.le_refl _)⟩,by simp [intOf];omega⟩;rw [hsn.out,Option.toList_some,List.length_append,zek];exact hown8
      · obtain rfl:j=ps.length:=by omega
        have hdj:¬(((ps.length:Nat):Int)<(ps.length:Int)):=by omega
        rw [List.take_length] at hO hR3;have hnm2:Hid (nm=ps.filterMap (zas (zao K))):=Lib.hid (by rw [←hnm.out,zcz,hps.out]);go_wp2_with fail
        go_ret
        rw [hnm2.out];exact ⟨⟨A3,c3,rfl,hR3⟩,hbq2.trans (hbx.mono hq0)⟩
   · by_cases h3:o.1=3
     · have e1:(o.1 == 1)=false:=by simpa using h1
       have e2:(o.1 == 2)=false:=by simpa using h2
       have e3:(o.1 == 3)=true:=by simpa using h3
       have hq9:SmP (t.name,o.2.1):=⟨by simp only [maxLen];omega,by simp only [maxLen];omega⟩;have hm0:=(hM.below hb0).1;have hkey0:=zds hq9.1 hq9.2;obtain ⟨hh0,hat0⟩:=zcj hM.2 hq9;have hat0:=Lib.hid hat0;cases hl0:zas (zao K) (t.name,o.2.1) with
       | none =>
        have hps0:Hid (nm=[]):=Lib.hid (by rw [←hnm.out,zcz,zbk,if_neg h1,if_neg h2,if_pos h3,hl0];rfl);rw [hl0] at hh0;replace hl0:=Lib.hid hl0;go_upto_region 12 with (at_lookup;refine wpList_lookup_own_ok_int _ rfl _ _ 125 rfl 104 3 .i64 zdt Tryz.underlying125 Tryz.underlying3 (zgl _) b (zao K).length _ rfl hm0 _ _ rfl hkey0 ?_;intro cc hat2 hwc)
        clear h1 h2 h3 e1 e2 e3 hh0 hat2;go_wp2_with fail
        go_loopw [12,55] (fun v vi wx=>v = .slice none 0 0∧vi = .int .i64 0∧wx=w0) (fun _ _ _=>0)
        case atStart=>exact ⟨rfl,rfl,rfl⟩
        case round =>
         obtain ⟨rfl,rfl,hwx⟩:=hrel;have hwx:=hwx.symm;subst hwx;go_wp2_with fail
         go_ret
         rw [hps0.out];exact ⟨⟨none,0,rfl,Rd.none_ _ _ _⟩,hb0⟩
       | some i =>
        have hiK:=(List.getElem?_eq_some_iff.1 (za3 hl0)).1;rw [hkl.out] at hiK;obtain ⟨x,hx⟩:∃x,K[i]? = some x:=⟨_,List.getElem?_eq_getElem hiK⟩;have hxm:=List.mem_of_getElem? hx;obtain ⟨ps,hps⟩:∃ps,zbk (zao K) (K.map fun x=>x.2.says) t.name r.subs o=ps:=⟨_,rfl⟩;have hps0:zbe x.2.subs o.2.2=ps:=by
         rw [←hps];unfold zbk;rw [if_neg h1,if_neg h2,if_pos h3,hl0];simp only [List.getElem?_map,hx,Option.map_some];rfl
        have hxok:=hok x hxm;have hsm:∀p ∈ ps,SmP p:=fun p hp=>by
         rw [←hps0] at hp;unfold zbe at hp;obtain ⟨s,hs,rfl⟩:=List.mem_map.1 hp;have:=hxok.subz s (List.mem_filter.1 hs).1;exact ⟨by simp only [maxLen];omega,by simp only [maxLen];omega⟩
        have hpl0:ps.length≤100000:=by
         rw [←hps0];unfold zbe;rw [List.length_map];exact Nat.le_trans (List.length_filter_le _ _) (hf x hxm)
        obtain ⟨gb,go,gA,gb0,gc⟩:=hK.at_ (by omega);have gg:=fun k (hk:k<6)=>za6 (fun x:TypA × RelA=>x.2.cells) (sz:=6) (fun _=>rfl) hx (k:=k) hk;have hcs:∀W,Below w.heap.size w W→W.cell? ⟨gb,go + i * 6,none⟩=some (.string x.2.name)∧W.cell? ⟨gb,go + i * 6 + 1,none⟩=some (.string x.2.view)∧W.cell? ⟨gb,go + i * 6 + 2,none⟩=some (.string x.2.edit)∧W.cell? ⟨gb,go + i * 6 + 3,none⟩=some (.string x.2.check)∧W.cell? ⟨gb,go + i * 6 + 4,none⟩=some (.slice x.2.As x.2.subs.length x.2.cs)∧W.cell? ⟨gb,go + i * 6 + 5,none⟩=some (.slice x.2.Ao x.2.ops.length x.2.co):=fun W hW =>
         ⟨zac (gc _ _ (gg 0 (by omega))) hW,by rw [Nat.add_assoc];exact zac (gc _ _ (gg 1 (by omega))) hW,by rw [Nat.add_assoc];exact zac (gc _ _ (gg 2 (by omega))) hW,by rw [Nat.add_assoc];exact zac (gc _ _ (gg 3 (by omega))) hW,by rw [Nat.add_assoc];exact zac (gc _ _ (gg 4 (by omega))) hW,by rw [Nat.add_assoc];exact zac (gc _ _ (gg 5 (by omega))) hW⟩
        have kN:∀W,Below w0.heap.size w0 W→Calls Tryz.prog 93 #[.agg #[.string x.2.name,.string x.2.view,.string x.2.edit,.string x.2.check,.slice x.2.As x.2.subs.length x.2.cs,.slice x.2.Ao x.2.ops.length x.2.co],.string o.2.2] W fun e w'=>(∃A' c',e = .returned (.slice A' ps.length c')∧w'.ownsRow W.heap.size 104 2 (.slice A' ps.length c') ps.length (zb0 ps))∧Below W.heap.size W w':=fun W hW=>by
         have hwW:=hb0.trans (hW.mono hb0.size);have:=nexts_any (w:=W) (nm:=x.2.name) (vi:=x.2.view) (ed:=x.2.edit) (ch:=x.2.check) (vo:=.slice x.2.Ao x.2.ops.length x.2.co) o.2.2 ⟨_,_,_,rfl⟩ ((hxok.subs.below hwW).more hwW.size) (hf x hxm);rw [hps0] at this;exact this
        have hii:(i:Int)<(K.length:Int):=by omega
        rw [hl0] at hh0;replace hl0:=Lib.hid hl0;replace hx:=Lib.hid hx;clear hps0 gg;replace hps:=Lib.hid hps;replace kN:=Lib.hid kN;replace hcs:=Lib.hid hcs;subst gA;go_upto_region 10 with (at_lookup;refine wpList_lookup_own_ok_int _ rfl _ _ 125 rfl 104 3 .i64 zdt Tryz.underlying125 Tryz.underlying3 (zgl _) b (zao K).length _ rfl hm0 _ _ rfl hkey0 ?_;intro cc hat2 hwc;have hcc:cc=(i:Int):=by { have h9:=(hat0.out _).symm.trans hat2;rw [hl0.out] at h9;cases h9;rfl };subst hcc)
        have hSc:∀W:World,Below w0.heap.size w0 W→W.cell? ⟨w.heap.size,0,none⟩=some (.slice (some ⟨gb,go,none⟩) K.length c)∧W.cell? ⟨w.heap.size + 1 + 1 + 1,2,none⟩=some (.string o.2.2)∧W.cell? ⟨gb,go + i * 6,none⟩=some (.string x.2.name)∧W.cell? ⟨gb,go + i * 6 + 1,none⟩=some (.string x.2.view)∧W.cell? ⟨gb,go + i * 6 + 2,none⟩=some (.string x.2.edit)∧W.cell? ⟨gb,go + i * 6 + 3,none⟩=some (.string x.2.check)∧W.cell? ⟨gb,go + i * 6 + 4,none⟩=some (.slice x.2.As x.2.subs.length x.2.cs)∧W.cell? ⟨gb,go + i * 6 + 5,none⟩=some (.slice x.2.Ao x.2.ops.length x.2.co):=fun W h=>⟨zac a0 h,zac o2 h,hcs.out W (hb0.trans (h.mono hb0.size))⟩;clear h1 h2 h3 e1 e2 e3 hh0 hat2;have hS0:Below w0.heap.size w0 w0.drew:=(Below.refl _ _).drew;refine wp_region_any (by kernel_rfl) ?_;change wpAny _ _ _ _ _ _ _ (World.drew _);refine wpAny_of_held (S:=fun W=>Below w0.heap.size w0 W) _ _ _ _ ?_;refine zaa 0 (some 45) (v:=?v0n) rfl rfl (by kernel_rfl) (by kernel_rfl) (by kernel_rfl) (fun _ _ _ h=>h) (by rfl) ?y0n (by assumption) ?r0n;case y0n=>(intro W hS;obtain ⟨s0,s1,s2,s3,s4,s5,s6,s7⟩:=hSc W hS;go_simp;try with_reducible rfl)
        simp only [Act.put,List.setIfInBounds_toArray,List.set_cons_zero,List.set_cons_succ];refine zaa 1 (some 46) (v:=?v1n) rfl rfl (by kernel_rfl) (by kernel_rfl) (by kernel_rfl) (fun _ _ _ h=>h) (by rfl) ?y1n (by assumption) ?r1n;case y1n=>(intro W hS;obtain ⟨s0,s1,s2,s3,s4,s5,s6,s7⟩:=hSc W hS;go_simp;try with_reducible rfl)
        simp only [Act.put,List.setIfInBounds_toArray,List.set_cons_zero,List.set_cons_succ];refine zaa 2 (some 47) (v:=?v2n) rfl rfl (by kernel_rfl) (by kernel_rfl) (by kernel_rfl) (fun _ _ _ h=>h) (by rfl) ?y2n (by assumption) ?r2n;case y2n=>(intro W hS;obtain ⟨s0,s1,s2,s3,s4,s5,s6,s7⟩:=hSc W hS;go_simp;try with_reducible rfl)
        simp only [Act.put,List.setIfInBounds_toArray,List.set_cons_zero,List.set_cons_succ];refine zaa 3 (some 48) (v:=?v3n) rfl rfl (by kernel_rfl) (by kernel_rfl) (by kernel_rfl) (fun _ _ _ h=>h) (by rfl) ?y3n (by assumption) ?r3n;case y3n=>(intro W hS;obtain ⟨s0,s1,s2,s3,s4,s5,s6,s7⟩:=hSc W hS;go_simp;try with_reducible rfl)
        simp only [Act.put,List.setIfInBounds_toArray,List.set_cons_zero,List.set_cons_succ];refine zaa 4 (some 49) (v:=?v4n) rfl rfl (by kernel_rfl) (by kernel_rfl) (by kernel_rfl) (fun _ _ _ h=>h) (by rfl) ?y4n (by assumption) ?r4n;case y4n=>(intro W hS;obtain ⟨s0,s1,s2,s3,s4,s5,s6,s7⟩:=hSc W hS;go_simp;try with_reducible rfl)
        simp only [Act.put,List.setIfInBounds_toArray,List.set_cons_zero,List.set_cons_succ];refine zaa 5 (some 50) (v:=?v5n) rfl rfl (by kernel_rfl) (by kernel_rfl) (by kernel_rfl) (fun _ _ _ h=>h) (by rfl) ?y5n (by assumption) ?r5n;case y5n=>(intro W hS;obtain ⟨s0,s1,s2,s3,s4,s5,s6,s7⟩:=hSc W hS;go_simp;try with_reducible rfl)
        simp only [Act.put,List.setIfInBounds_toArray,List.set_cons_zero,List.set_cons_succ];refine zaa 6 (some 51) (v:=?v6n) rfl rfl (by kernel_rfl) (by kernel_rfl) (by kernel_rfl) (fun _ _ _ h=>h) (by rfl) ?y6n (by assumption) ?r6n;case y6n=>(intro W hS;obtain ⟨s0,s1,s2,s3,s4,s5,s6,s7⟩:=hSc W hS;go_simp;try with_reducible rfl)
        simp only [Act.put,List.setIfInBounds_toArray,List.set_cons_zero,List.set_cons_succ];refine zaB 7 rfl (by kernel_rfl) ?_;intro K9 hK9;go_simp;refine (kN.out _ hS0).mono ?_;rintro e4 wq ⟨⟨Ap,cp,rfl,hP0⟩,hb4⟩;have hS4:Below w0.heap.size w0 wq:=hS0.trans (hb4.mono hS0.size);refine hK9 _ _ hS4 ?_;clear hK9 K9 hb4;refine zaa 8 (some 9) (v:=?v8n) rfl rfl (by kernel_rfl) (by kernel_rfl) (by kernel_rfl) (fun _ _ _ h=>h) (by rfl) ?y8n (by assumption) ?r8n;case y8n=>(intro W hS;go_simp;try with_reducible rfl)
        simp only [Act.put,List.setIfInBounds_toArray,List.set_cons_zero,List.set_cons_succ];refine wpAnyH_done (by kernel_rfl) ?_ _;go_upto_region 12 with (fail)
        have hP:Rd wq wq.heap.size 2 Ap ps.length cp (zb0 ps):=by obtain ⟨A9,c9,e9,hR9⟩:=Rd.own hP0;cases e9;exact hR9
        have hbq2:=hb0.trans (hS4.mono hb0.size);have d0q:=d0.below hS4;clear a0 a1 b0 b1 r0 r1 r2 r3 r4 r5 o0 o1 o2 d0 d1 d2 d3 hb0 hP0 hSc hS0 hS4 hcs;have hq0:=hbq2.size;have a1:=d0q.cell 1;have hpl:(ps.length:Int)≤9223372036854775807:=by omega
        have hmq:=hM.below hbq2;go_wp2_with fail
        go_loopw [12,55] (fun v vi wx=>∃j:Nat,vi = .int .i64 j∧j≤ps.length∧wx.ownsRow wq.heap.size 3 1 v ((ps.take j).filterMap (zas (zao K))).length (ints ((ps.take j).filterMap (zas (zao K))))∧Below wq.heap.size wq wx) (fun _ vi _=>ps.length-(intOf vi).toNat)
        case atStart=>exact ⟨0,rfl,Nat.zero_le _,World.ownsRow_nil _ _ _ _,Below.refl _ _⟩
        case round =>
         obtain ⟨j,rfl,hj,hO,hbx⟩:=hrel;obtain ⟨A3,c3,rfl,hR3⟩:=Rd.own hO;by_cases hjl:j<ps.length
         · have hdj:(j:Int)<(ps.length:Int):=by omega
           obtain ⟨p,hp⟩:∃p,ps[j]? = some p:=⟨_,List.getElem?_eq_getElem hjl⟩;have hpsm:=hsm p (List.mem_of_getElem? hp);obtain ⟨bp,op,rfl,hbp,q0,q1⟩:=zdl (hP.below hbx) hp rfl;have hle:((ps.take j).filterMap (zas (zao K))).length≤j:=Nat.le_trans (List.length_filterMap_le _ _) (by rw [List.length_take];omega);have hws:=hbx.size;have hO1:=hO.alloc (.cells #[.string p.1,.string p.2] 104);have hbx1:=hbx.alloc hws (.cells #[.string p.1,.string p.2] 104);have x1:=Bk.new wr #[.string p.1,.string p.2] 104;go_upto_region 15 with (fail)
           clear q0 q1 hO hbx;generalize wr.alloc (.cells #[.string p.1,.string p.2] 104)=w1 at *
           have q0:=x1.cell 0;have q1:=x1.cell 1;have a1':=zac a1 hbx1;have hm1:=(hmq.below hbx1).1;have hkey:=zds hpsm.1 hpsm.2;obtain ⟨hh,hat⟩:=zcj hM.2 hpsm;have hsn:Hid ((ps.take (j + 1)).filterMap (zas (zao K))=(ps.take j).filterMap (zas (zao K)) ++ (zas (zao K) p).toList):=Lib.hid (by
            rw [List.take_add_one,hp,Option.toList_some,List.filterMap_append];cases hl:zas (zao K) p <;> simp [hl])
           have hat:=Lib.hid hat;cases hl:zas (zao K) p with
           | none =>
            rw [hl] at hh hsn;have hl:=Lib.hid hl;go_wp2_with (at_lookup;refine wpList_lookup_own_ok_int _ rfl _ _ 125 rfl 104 3 .i64 zdt Tryz.underlying125 Tryz.underlying3 (zgl _) b (zao K).length _ rfl hm1 _ _ rfl hkey ?_;intro cc hat2 hwc)
            refine ⟨⟨j + 1,by go_num,by omega,?_,hbx1⟩,by simp [intOf];omega⟩;rw [hsn.out,Option.toList_none,List.append_nil];exact hO1
           | some i =>
            rw [hl] at hh hsn;have hik:=(List.getElem?_eq_some_iff.1 (za3 hl)).1;have hl:=Lib.hid hl;go_wp2_with (first
             | (at_lookup;refine wpList_lookup_own_ok_int _ rfl _ _ 125 rfl 104 3 .i64 zdt Tryz.underlying125 Tryz.underlying3 (zgl _) b (zao K).length _ rfl hm1 _ _ rfl hkey ?_;intro cc hat2 hwc;have hcc:cc=(i:Int):=by { have h9:=(hat.out _).symm.trans hat2;rw [hl.out] at h9;cases h9;rfl };subst hcc)
             | (at_builtin;go_loud (refine zab _ rfl (.tmp 67) (.tmp 69) 32 32 rfl wq.heap.size 3 i0 (.int .i64 0) 1 8 Tryz.underlying32 hi0 hz0 hz1 hz2 rfl (by decide) (.slice A3 ((ps.take j).filterMap (zas (zao K))).length c3) _ _ rfl (hO1.alloc _) _ 1 [.int .i64 (i:Int)] rfl (Src.ofSlice _ Tryz.underlying32 _ 1 1 _ rfl (zbn _ _ _) (zdI [i])) (by simp only [maxLen];omega) (by omega) (size_alloc hbx1.size) ?_;intro v9 w8 hown8 hg8 hat8)))
            refine ⟨⟨j + 1,by go_num,by omega,?_,zak (hbx1.alloc hbx1.size _) hg8 (hO1.alloc _) (size_alloc hbx1.size) (Nat.le_refl _)⟩,by simp [intOf];omega⟩;rw [hsn.out,Option.toList_some,List.length_append,zek];exact hown8
         · obtain rfl:j=ps.length:=by omega
           have hdj:¬(((ps.length:Nat):Int)<(ps.length:Int)):=by omega
           rw [List.take_length] at hO hR3;have hnm2:Hid (nm=ps.filterMap (zas (zao K))):=Lib.hid (by rw [←hnm.out,zcz,hps.out]);go_wp2_with fail
           go_ret
           rw [hnm2.out];exact ⟨⟨A3,c3,rfl,hR3⟩,hbq2.trans (hbx.mono hq0)⟩
     · have e1:(o.1 == 1)=false:=by simpa using h1
       have e2:(o.1 == 2)=false:=by simpa using h2
       have e3:(o.1 == 3)=false:=by simpa using h3
       have hps0:Hid (nm=[]):=Lib.hid (by rw [←hnm.out,zcz,zbk,if_neg h1,if_neg h2,if_neg h3];rfl);go_wp2_with fail
       go_loopw [12,55] (fun v vi wx=>v = .slice none 0 0∧vi = .int .i64 0∧wx=w0) (fun _ _ _=>0)
       case atStart=>exact ⟨rfl,rfl,rfl⟩
       case round =>
        obtain ⟨rfl,rfl,hwx⟩:=hrel;have hwx:=hwx.symm;subst hwx;go_wp2_with fail
        go_ret
        rw [hps0.out];exact ⟨⟨none,0,rfl,Rd.none_ _ _ _⟩,hb0⟩
end Go.Proofs.YtiepddmagfmllaaGreat
namespace Go.Proofs.YtiepddmagfmllaaGreat
open Go.RowKit Go.Maps Go.Shelf
attribute [local go_sem] Oper.semAt_some
open Go.RowKit Go.Shelf Go.Maps
attribute [local go_sem] Oper.semAt_some
def zgS (e:Ed):Value:=.agg (zaT e).toArray
def Fits (e:Ed):Prop:=(Lit.int .i64 e.1).wf=true∧(Lit.int .i64 e.2.1).wf=true
theorem zg2 {e:Ed} (h:Fits e):keyOf Tryz.prog 117 (zgS e)=some (kE e):=zg1 h.1 h.2
structure KeysAre {H:Type} (D0:DataW H) (L:List Ed):Prop where
 fits:∀e ∈ L,Fits e
 nodup:L.Nodup
 mem:∀e ∈ L,has D0 (kE e)=true
 only:∀kl,has D0 kl=true→∃e ∈ L,kE e=kl
structure CollE (L:List Ed) (left:Lit→Bool) (ss:List Ed):Prop where
 nodup:ss.Nodup
 mem:∀x ∈ ss,x ∈ L
 iff:∀x ∈ L,x ∈ ss↔left (kE x)=false
theorem CollE.start {H:Type} {D0:DataW H} {L:List Ed} (h:KeysAre D0 L):CollE L (has D0) []:=⟨List.nodup_nil,fun _ h=>by simp at h,fun x hx=>by simp [h.mem x hx]⟩
theorem CollE.step {H:Type} {D0:DataW H} {L ss:List Ed} {left:Lit→Bool} (hK:KeysAre D0 L) (h:CollE L left ss) {x:Ed} (hx:x ∈ L) (hl:left (kE x)=true):CollE L (fun z=>left z && !z.sameKey (kE x)) (ss ++ [x]):=by
 have hn:x ∉ ss:=fun hm=>by rw [(h.iff x hx).1 hm] at hl;cases hl
 refine ⟨List.nodup_append.2 ⟨h.nodup,by simp,fun a ha b hb=>by simp at hb;subst hb;exact fun e=>hn (e ▸ ha)⟩,fun y hy=>?_,fun y hy=>?_⟩
 · rcases List.mem_append.1 hy with hy | hy
   · exact h.mem y hy
   · simp at hy;exact hy ▸ hx
 · by_cases e:y=x
   · subst e;simp [kE,Lit.sameKey]
   · have hne:kE y≠kE x:=fun e2=>e (kE_inj (hK.fits y hy).1 (hK.fits y hy).2 (hK.fits x hx).1 (hK.fits x hx).2 e2);have hs:(kE y).sameKey (kE x)=false:=by
      simp only [kE,Lit.sameKey,beq_eq_false_iff_ne,ne_eq];exact fun e2=>hne (by simp only [kE];rw [e2])
     simp [h.iff y hy,hs,e]
theorem CollE.perm {L ss:List Ed} {left:Lit→Bool} (h:CollE L left ss) (hn:L.Nodup) (hl:∀kl,left kl=false):ss.Perm L :=
 (List.perm_ext_iff_of_nodup h.nodup hn).2 fun x=>⟨h.mem x,fun hx=>(h.iff x hx).2 (hl _)⟩
theorem CollE.short {L ss:List Ed} {left:Lit→Bool} (h:CollE L left ss) (hL:L.Nodup) {x:Ed} (hx:x ∈ L) (hl:left (kE x)=true):ss.length<L.length:=by
 have hn:x ∉ ss:=fun hm=>by rw [(h.iff x hx).1 hm] at hl;cases hl
 have hp:(L.filter fun y=>decide (y ∈ x::ss)).Perm (x::ss):=(List.perm_ext_iff_of_nodup (hL.filter _) (List.nodup_cons.2 ⟨hn,h.nodup⟩)).2 fun y=>by
  rw [List.mem_filter,decide_eq_true_eq];refine ⟨fun h2=>h2.2,fun h2=>⟨?_,h2⟩⟩;rcases List.mem_cons.1 h2 with rfl | h2
  · exact hx
  · exact h.mem y h2
 have h1:=hp.length_eq;have h2:=List.length_filter_le (fun y=>decide (y ∈ x::ss)) L;rw [List.length_cons] at h1;omega
theorem keys_in {H:Type} {R:Value→Option (DataW H × List MemPlace)} {D0:DataW H} {L:List Ed} (hK:KeysAre D0 L) (n:Nat) (hn:1≤n) (l Bm b nn:Nat) (J Jx:List Ed→World→Prop) (W:World) (hJ:AbidesFrom W.heap.size J)
 (hm:W.cell? ⟨Bm,0,none⟩=some (.map (some b))) (hown:W.ownsMap Tryz.prog 117 R b nn D0)
 (hY:∀pre x W1,J pre W1→pre.length<L.length→YieldAt Fence.wide (n-1) Tryz.prog l #[zgS x] W1 fun e W' =>
  (e = .returned (.bool true)∧J (pre ++ [x]) W'∧KeepsWalks W1 W')∨(e = .returned (.bool false)∧Jx (pre ++ [x]) W'))
 (h0:J [] W) :
 CallsIn Fence.wide n Tryz.prog 96 #[.func (.yield l) #[] #[],.pointer (some ⟨Bm,0,none⟩)] W fun e W'=>(∃v,e = .returned v) ∧
  ((∃ys,ys.Perm L∧J ys W')∨(∃pre,True∧Jx pre W')):=by
 refine callsIn_of_wp Tryz.func96 rfl trivial ?_ rfl;simp only [Tryz.ntmps96,List.size_toArray,List.length_cons,List.length_nil,Nat.reduceAdd,Nat.reduceSub,Array.replicate_succ,Array.replicate_zero,List.push_toArray,List.append_toArray,List.nil_append,List.cons_append];gi_wp2_with (first
  | (gi_at_range;refine wpListIn_range_own _ rfl _ 129 rfl 117 134 zgu Tryz.underlying129 _ b nn _ rfl hown ?_;intro w0 hrg0 hg0 hs0)
  | fail)
 go_frame
 gi_loopw [3] (fun _ wr=>∃(left:Lit→Bool) (cnt:Nat) (ss:List Ed),wr.ranges Tryz.prog 117 R b W.heap.size nn D0 left cnt∧CollE L left ss∧J ss wr)
  (fun _ wr=>wr.rangeLeft b W.heap.size)
 case atStart =>
  exact ⟨_,_,[],hrg0,CollE.start hK,hJ [] W w0 none h0 hg0 (fun r e=>by cases e)⟩
 case round =>
  obtain ⟨left,cnt,ss,hrg,hC,hJs⟩:=hrel;gi_wp2_with (first
   | (gi_at_next;refine wpListIn_next_ranges _ rfl _ rfl 117 zgu R (id:Value→Value) (id:Value→Value) (fun key _ _=>⟨key,rfl⟩) (fun v _ _=>⟨v,rfl⟩) b W.heap.size nn _ _ _ rfl hrg ?_ ?_)
   | fail)
  · intro hc0 hl0;gi_wp2
    go_end0
    exact ⟨⟨_,rfl⟩,.inl ⟨ss,hC.perm hK.nodup hl0,hJs⟩⟩
  · intro x c kl yd yp w2 cnt2 hkey hlk hv hat hrg2 hlt hg2 hs2 hen;obtain ⟨e,heL,rfl⟩:=hK.only kl (has_true_of_atKey hat);obtain rfl:x=zgS e:=zgu.inj hkey (zg2 (hK.fits e heL));have hJ2:J ss w2:=hJ ss wr w2 (some W.heap.size) hJs hg2 (fun r e=>by cases e;exact ⟨Nat.le_refl _,hrg.iter_walk⟩);have hJ3:J ss (w2.alloc (.cells (zaT e).toArray 117)):=hJ ss w2 _ none hJ2 (World.grownBy_alloc _ _ _) (fun r e=>by cases e);have hrg3:=hrg2.of_walks (KeepsWalks.alloc w2 (.cells (zaT e).toArray 117));obtain ⟨fn,tmps,assign,body,hy,hR⟩:=hY ss e _ hJ3 (hC.short hK.nodup heL hlk);clear hs2;obtain ⟨e1,e2,e3⟩:=e;simp only [zgS,zaT] at *
    gi_wp2
    refine hR.mono ?_;rintro r W3 (⟨rfl,hJ4,hk3⟩ | ⟨rfl,hJx3⟩)
    · gi_wp2
      have hrg4:=hrg3.of_walks hk3;go_roundw
      case rel=>exact ⟨_,cnt2,ss ++ [(e1,e2,e3)],hrg4,hC.step hK heL hlk,hJ4⟩
      case measure=>rw [hrg4.left_eq,hrg.left_eq];exact hlt
    · gi_wp2
      refine bodyPost_ret (results_none rfl _ _ _) rfl ?_;exact ⟨⟨_,rfl⟩,.inr ⟨_,trivial,hJx3⟩⟩
theorem zlK {H:Type} {R:Value→Option (DataW H × List MemPlace)} {D0:DataW H} {L:List Ed} (hK:KeysAre D0 L) (n:Nat) (hn:1≤n) (Bm b nn:Nat) (w:World)
 (hm:w.cell? ⟨Bm,0,none⟩=some (.map (some b))) (hown:w.ownsMap Tryz.prog 117 R b nn D0) :
 SeqStopsK Fence.wide n Tryz.prog 96 #[.pointer (some ⟨Bm,0,none⟩)] (fun e:Ed=>#[zgS e]) KeepsWalks (fun ys=>ys.Perm L) (fun _=>True) L.length w:=fun l J Jx W hW hJ _ hY h0=>by
 have hown':W.ownsMap Tryz.prog 117 R b nn D0:=by
  have hbl:=hown.lt;obtain ⟨es,clock,hb,Ft,hs,hD⟩:=hown;exact ⟨es,clock,(hW.block b hbl).trans hb,Ft,hs,hD⟩
 exact keys_in hK n hn l Bm b nn J Jx W hJ ((hW.cell (p:=⟨Bm,0,none⟩) (World.block_lt_of_cell? w _ hm)).trans hm) hown' hY h0
theorem keys_any (m:Option Nat) (w:World):Calls Tryz.prog 54 #[.map m] w fun e w' =>
 e = .returned (.func (.func 96) #[] #[.pointer (some ⟨w.heap.size,0,none⟩)])∧w'=w.alloc (.cells #[.map m] 129):=by
 go_enter Tryz.func54,Tryz.ntmps54
 go_wp2
 go_ret
 exact ⟨rfl,rfl⟩
structure ApI (w0:World) (Bs:Nat) (pre:List Ed) (W:World):Prop where
 one:∃v,Bk W Bs #[v] 78∧W.ownsRow w0.heap.size 117 3 v pre.length (zan pre)
 below:Below w0.heap.size w0 W
theorem ApI.stay {w0 X Y:World} {Bs:Nat} {pre:List Ed} {row:Option Nat} (h:ApI w0 Bs pre X) (hg:X.grownBy Y row) (hr:∀r,row=some r→w0.heap.size≤r∧∃o:Obj,X.heap[r]? = some o∧o.isCells=false):ApI w0 Bs pre Y:=by
 obtain ⟨⟨v,h1,h2⟩,h3⟩:=h;have hr':∀r,row=some r→∃o:Obj,X.heap[r]? = some o∧o.isCells=false:=fun r e=>(hr r e).2;exact ⟨⟨v,h1.stay hg hr',zhd h2 hg hr'⟩,h3.grown hg h3.size fun r e=>(hr r e).1⟩
theorem zme {w:World} {B e s n:Nat} {v:Value} {xs:List Value} (h:w.ownsRow B e s v n xs):∀(j:Nat) (o:Obj),v.ownBlock=some j→w.heap[j]? = some o→o.isCells=true:=fun j o hj ho=>by
 rcases h.2 with ⟨rfl,_⟩ | ⟨g2,cap2,cur2,rfl,_,hh2,_⟩
 · simp [Value.ownBlock] at hj
 simp only [Value.ownBlock,Option.some.injEq] at hj;subst hj;rw [hh2] at ho;cases ho;rfl
theorem zl6 (W:World) (e:Ed):∀j u,(zaT e)[j]? = some u→(W.alloc (.cells (zaT e).toArray 117)).cell? (Addr.add ⟨W.heap.size,0,none⟩ j)=some u:=fun j u h=>by
 have:=(Bk.new W (zaT e).toArray 117).cell j;rw [List.getElem?_toArray,h] at this;rw [←this];by_cases h0:j=0
 · subst h0;rfl
 · simp [Addr.add,h0]
theorem zjj {w0 W w5:World} {Bs:Nat} {pre:List Ed} {x:Ed} {v v9:Value} (o:Obj) (hBs:w0.heap.size≤Bs) (h1:Bk W Bs #[v] 78) (h2:W.ownsRow w0.heap.size 117 3 v pre.length (zan pre)) (h3:Below w0.heap.size w0 W)
 (hg:(W.alloc o).grownBy w5 v.ownBlock) (h5:w5.ownsRow w0.heap.size 117 3 v9 (pre.length + 1) (zan pre ++ zaT x)) :
 KeepsOthers W (w5.setCell ⟨Bs,0,none⟩ v9)∧ApI w0 Bs (pre ++ [x]) (w5.setCell ⟨Bs,0,none⟩ v9):=by
 have hb5:Bk w5 Bs #[v] 78:=zbh (h1.alloc o) (h2.alloc o) (by decide) hg;refine ⟨((KeepsOthers.alloc W o).trans (KeepsOthers.of_grownBy hg (zme (h2.alloc o)))).trans (KeepsOthers.setCell _ _ _),⟨v9,?_,?_⟩,?_⟩
 · have:=hb5.set 0 v9;simpa using this
 · rw [List.length_append,zeJ];have e:zan [x]=zaT x:=by simp [zan]
   rw [e];exact zaI h5 fun g hg2=>Below.heap_setCell _ _ _ _ fun e=>zdc hb5 h5 (by decide) ((show g=Bs from e) ▸ hg2)
 · exact (zak (h3.alloc h3.size o) hg (h2.alloc o) (size_alloc h3.size) (Nat.le_refl _)).setCell hBs _
theorem appendSeq_in (m:Nat) (hm:4≤m) {H:Type} {R:Value→Option (DataW H × List MemPlace)} {D0:DataW H} {L:List Ed} (hK:KeysAre D0 L) (hL:L.length≤1000000) (Bm b nn:Nat) (w:World)
 (hmm:w.cell? ⟨Bm,0,none⟩=some (.map (some b))) (hown:w.ownsMap Tryz.prog 117 R b nn D0) :
 CallsIn Fence.wide m Tryz.prog 131 #[.slice none 0 0,.func (.func 96) #[] #[.pointer (some ⟨Bm,0,none⟩)]] w fun e w' =>
  ∃v ys,e = .returned v∧ys.Perm L∧w'.ownsRow w.heap.size 117 3 v ys.length (zan ys)∧Below w.heap.size w w':=by
 obtain ⟨i0,hi0,hz0,hz1,hz2⟩:=info_parts zfL;refine callsIn_of_wp_marks Tryz.func131 rfl trivial ?_ rfl;simp only [Tryz.ntmps131,List.size_toArray,List.length_cons,List.length_nil,Nat.reduceAdd,Nat.reduceSub,Array.replicate_succ,Array.replicate_zero,List.push_toArray,List.append_toArray,List.nil_append,List.cons_append];gi_wp2
 have hseq:=zlK hK (m-1) (by omega) Bm b nn w hmm hown;have hb0:Below w.heap.size w (w.alloc (.cells #[.slice none 0 0] 78)):=(Below.refl _ w).alloc (Nat.le_refl _) _;have x2:=Bk.new w #[.slice none 0 0] 78;have hs0:(w.alloc (.cells #[.slice none 0 0] 78)).heap.size=w.heap.size + 1:=by simp
 generalize w.alloc (.cells #[.slice none 0 0] 78)=w2 at *
 refine wpIn_rangeFunc_ownH (w0:=w) rfl (by omega) (gf:=96) (lb:=#[.pointer (some ⟨Bm,0,none⟩)]) rfl trivial (enters_of Tryz.func96 (by kernel_rfl) rfl)
  hseq (fun h k=>h.trans k) (fun W l o o' _ h2 _ h4=>KeepsWalks.putObj o' h2 h4) hb0 (fun _=>rfl)
  (ApI w w.heap.size)
  (fun _ _ _=>False)
  (fun pre X Y row hI hg hr=>hI.stay hg (fun r e=>⟨by have:=(hr r e).1;omega,(hr r e).2⟩))
  (fun _ _ _ _ _ hs _ _=>hs)
  ⟨⟨_,x2,World.ownsRow_nil _ _ _ _⟩,hb0⟩
  (fun x a' W=>∃g,Bk W g (zaT x).toArray 117∧a'={ tmps:=#[.slice none 0 0,.func (.func 96) #[] #[.pointer (some ⟨Bm,0,none⟩)],.pointer (some ⟨w.heap.size,0,none⟩),undef,.slice none 0 0,.pointer (some ⟨g,0,none⟩),.func (.func 96) #[] #[.pointer (some ⟨Bm,0,none⟩)],zgS x,undef,undef,undef,undef,undef],defers:=[] })
  (fun x a' _ X Y row hs hg hr=>by
   obtain ⟨g,h1,h2⟩:=hs;exact ⟨g,h1.stay hg (fun r e=>(hr r e).2),h2⟩)
  ?assign ?body ?done ?stop
 case assign =>
  intro l2 pre x W K hI hK2;obtain ⟨e1,e2,e3⟩:=x;simp only [zgS,zaT] at *
  gi_wp2
  exact hK2 _ _ ((KeepsOthers.alloc _ _).from _) (KeepsWalks.alloc _ _) (hI.stay (World.grownBy_alloc _ _ none) (fun r e=>by cases e)) ⟨_,Bk.new W _ _,rfl⟩
 case body =>
  rintro l2 pre x a' W hl2 ⟨r,hr⟩ hI ⟨g,hx,rfl⟩ hlt;obtain ⟨⟨v,h1,h2⟩,h3⟩:=hI;have hx0:=hx.cell 0;have hx1:=hx.cell 1;have hx2:=hx.cell 2;have hne:=zl6 W x;have hone:=zb1 x;have hdn:=@zjj w W;obtain ⟨A,c,rfl,_⟩:=Rd.own h2;have c2:=h1.cell';obtain ⟨e1,e2,e3⟩:=x;simp only [zgS,zaT,List.getElem?_toArray,List.getElem?_cons_zero,List.getElem?_cons_succ] at *
  gi_wp2_with (gi_at_builtin;refine wpListIn_append_own _ rfl (.tmp 8) (.tmp 10) 78 rfl w.heap.size 117 i0 (.agg #[.int .i64 0,.int .i64 0,.bool false]) 3 24 Tryz.underlying78 hi0 hz0 hz1 hz2 rfl (by decide) _ pre.length (zan pre) rfl (h2.alloc _) ⟨W.heap.size,0,none⟩ 1 1 [.int .i64 e1,.int .i64 e2,.bool e3] rfl rfl hne hone (by simp only [maxLen];omega) (by omega) (size_alloc h3.size) ?_;intro v9 w5 hown5 hg5 _;obtain ⟨q1,q2⟩:=zjj (x:=(e1,e2,e3)) _ (Nat.le_refl _) h1 h2 h3 hg5 hown5;have hb5:=zbh (h1.alloc _) (h2.alloc _) (by decide) hg5;obtain ⟨A9,c9,rfl,_⟩:=Rd.own hown5;have f5:=hb5.fz 0;have c5:=hb5.cell')
  exact ⟨q1.from _,q1.walks,q2⟩
 case done =>
  rintro D ys W hD hp hI hK3;have hI2:=hI.stay (grownBy_putObj' W D (.deferred none)) (fun r e=>by cases e;exact ⟨by omega,_,hK3,rfl⟩);obtain ⟨⟨v,h1,h2⟩,h3⟩:=hI;have c2:=h1.cell';obtain ⟨⟨v',h1',h2'⟩,h3'⟩:=hI2;obtain rfl:v=v':=Option.some.inj ((h1.stay (grownBy_putObj' W D (.deferred none)) (fun r e=>by cases e;exact ⟨_,hK3,rfl⟩)).cell'.symm.trans h1'.cell');gi_wp2
  refine ⟨by simp,.inl ⟨_,_,rfl,run_takeDeferred hK3,?_⟩⟩;exact ⟨_,results_tmp rfl _ _ _,v,ys,rfl,hp,h2',h3'⟩
 case stop =>
  rintro D c pre W _ _ h _;exact h.elim
end Go.Proofs.YtiepddmagfmllaaGreat
