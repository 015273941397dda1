import Derived.Test.YtahegpfdbgbioaaGreatB16
set_option maxRecDepth 100000
set_option maxHeartbeats 4000000
namespace Go.Proofs.YtahegpfdbgbioaaGreat
open Go.RowKit Go.Maps
theorem zgN (w:World):(zeroValue 3).run Tryz.prog w = .ok (.int .i64 0) w:=by kernel_rfl
theorem named_any {w:World} {R c b:Nat} {A:Option Addr} {K:List (TypA × RelA)} {t:TypA} {r:RelA} {o:OpI} (hK:Rd w w.heap.size 6 A K.length c (zdJ K)) (hM:MapS w b (zan K)) (hok:∀x ∈ K,x.2.ok w R) (hr:r.ok w R) (ht:t.name.size≤R) (ho:o.2.1.size≤R∧o.2.2.size≤R)
 (hR:R≤140737488351232) (hf:∀x ∈ K,x.2.subs.length≤100000) (hf2:r.subs.length≤100000) :
 Calls Tryz.prog 89 #[.agg #[.slice A K.length c,.map (some b)],.agg #[.string t.name,.slice t.A t.rels.length t.c],.agg #[.string r.name,.string r.view,.string r.edit,.string r.check,.slice r.As r.subs.length r.cs,.slice r.Ao r.ops.length r.co],.agg #[.int .i64 o.1,.string o.2.1,.string o.2.2]] w fun e w' =>
  (∃A2 c2,e = .returned (.slice A2 (zcE (zan K) (K.map fun x=>x.2.says) t.name r.subs o).length c2)∧Rd w' w'.heap.size 1 A2 (zcE (zan K) (K.map fun x=>x.2.says) t.name r.subs o).length c2 (ints (zcE (zan K) (K.map fun x=>x.2.says) t.name r.subs o)))∧Below w.heap.size w w':=by
 obtain ⟨nm,hnm⟩:∃nm,zcE (zan K) (K.map fun x=>x.2.says) t.name r.subs o=nm:=⟨_,rfl⟩;rw [hnm];replace hnm:=Lib.hid hnm;obtain ⟨i0,hi0,hz0,hz1,hz2⟩:=info_parts zdS;have hkl:(zan K).length=K.length:=by simp [zan]
 replace hkl:=Lib.hid hkl;have hkc:=hK.cap;have hkcm:=hK.capm;go_enter Tryz.func89,Tryz.ntmps89
 go_upto_region 2 with (fail)
 have hb0:Below w.heap.size w ((((w.alloc (.cells #[.slice A K.length c,.map (some b)] 161)).alloc (.cells #[.string t.name,.slice t.A t.rels.length t.c] 146)).alloc (.cells #[.string r.name,.string r.view,.string r.edit,.string r.check,.slice r.As r.subs.length r.cs,.slice r.Ao r.ops.length r.co] 149)).alloc (.cells #[.int .i64 o.1,.string o.2.1,.string o.2.2] 166)):=((((Below.refl _ w).alloc (Nat.le_refl _) _).alloc (by simp) _).alloc (by simp;omega) _).alloc (by simp;omega) _;have d0:=((Bk.new w #[.slice A K.length c,.map (some b)] 161).alloc (.cells #[.string t.name,.slice t.A t.rels.length t.c] 146)).alloc (.cells #[.string r.name,.string r.view,.string r.edit,.string r.check,.slice r.As r.subs.length r.cs,.slice r.Ao r.ops.length r.co] 149) |>.alloc (.cells #[.int .i64 o.1,.string o.2.1,.string o.2.2] 166);have d1:=((Bk.new (w.alloc (.cells #[.slice A K.length c,.map (some b)] 161)) #[.string t.name,.slice t.A t.rels.length t.c] 146).alloc (.cells #[.string r.name,.string r.view,.string r.edit,.string r.check,.slice r.As r.subs.length r.cs,.slice r.Ao r.ops.length r.co] 149)).alloc (.cells #[.int .i64 o.1,.string o.2.1,.string o.2.2] 166);have d2:=(Bk.new ((w.alloc (.cells #[.slice A K.length c,.map (some b)] 161)).alloc (.cells #[.string t.name,.slice t.A t.rels.length t.c] 146)) #[.string r.name,.string r.view,.string r.edit,.string r.check,.slice r.As r.subs.length r.cs,.slice r.Ao r.ops.length r.co] 149).alloc (.cells #[.int .i64 o.1,.string o.2.1,.string o.2.2] 166)
 have d3:=Bk.new (((w.alloc (.cells #[.slice A K.length c,.map (some b)] 161)).alloc (.cells #[.string t.name,.slice t.A t.rels.length t.c] 146)).alloc (.cells #[.string r.name,.string r.view,.string r.edit,.string r.check,.slice r.As r.subs.length r.cs,.slice r.Ao r.ops.length r.co] 149)) #[.int .i64 o.1,.string o.2.1,.string o.2.2] 166;simp only [World.size_alloc] at d1 d2 d3;generalize (((w.alloc (.cells #[.slice A K.length c,.map (some b)] 161)).alloc (.cells #[.string t.name,.slice t.A t.rels.length t.c] 146)).alloc (.cells #[.string r.name,.string r.view,.string r.edit,.string r.check,.slice r.As r.subs.length r.cs,.slice r.Ao r.ops.length r.co] 149)).alloc (.cells #[.int .i64 o.1,.string o.2.1,.string o.2.2] 166)=w0 at *
 have a0:=d0.cell 0;have a1:=d0.cell 1;have b0:=d1.cell 0;have b1:=d1.cell 1;obtain ⟨r0,r1,r2,r3,r4,r5⟩:w0.cell? ⟨w.heap.size + 1 + 1,0,none⟩=some (.string r.name)∧w0.cell? ⟨w.heap.size + 1 + 1,1,none⟩=some (.string r.view)∧w0.cell? ⟨w.heap.size + 1 + 1,2,none⟩=some (.string r.edit)∧w0.cell? ⟨w.heap.size + 1 + 1,3,none⟩=some (.string r.check)∧w0.cell? ⟨w.heap.size + 1 + 1,4,none⟩=some (.slice r.As r.subs.length r.cs)∧w0.cell? ⟨w.heap.size + 1 + 1,5,none⟩=some (.slice r.Ao r.ops.length r.co):=⟨d2.cell 0,d2.cell 1,d2.cell 2,d2.cell 3,d2.cell 4,d2.cell 5⟩;have o0:=d3.cell 0;have o1:=d3.cell 1;have o2:=d3.cell 2;have hbq2:=hb0;by_cases h1:o.1=1
 · have e1:(o.1 == 1)=true:=by simpa using h1
   obtain ⟨ps,hps⟩:∃ps,zbk (zan K) (K.map fun x=>x.2.says) t.name r.subs o=ps:=⟨_,rfl⟩;have hps0:zc1 r.subs=ps:=by rw [←hps];unfold zbk;rw [if_pos h1]
   have hsm:∀p ∈ ps,SmP p:=fun p hp=>by
    rw [←hps0] at hp;have:=hr.subz p (List.mem_filter.1 hp).1;exact ⟨by simp only [maxLen];omega,by simp only [maxLen];omega⟩
   have hpl0:ps.length≤100000:=by rw [←hps0];exact Nat.le_trans (List.length_filter_le _ _) hf2
   have kS:=sets_any (w:=w0) (nm:=r.name) (vi:=r.view) (ed:=r.edit) (ch:=r.check) (vo:=.slice r.Ao r.ops.length r.co) ⟨_,_,_,rfl⟩ ((hr.subs.below hb0).more hb0.size) hf2;rw [hps0] at kS;clear hps0;replace hps:=Lib.hid hps;go_upto_region 12 with (go_at_call 136;refine kS.mono ?_;rintro e wq ⟨⟨Ap,cp,rfl,hP0⟩,hbq⟩)
   have hP:Rd wq wq.heap.size 2 Ap ps.length cp (zb3 ps):=by obtain ⟨A9,c9,e9,hR9⟩:=Rd.own hP0;cases e9;exact hR9
   have hbq2:=hb0.trans (hbq.mono hb0.size);have d0q:=d0.below hbq;clear a0 a1 b0 b1 r0 r1 r2 r3 r4 r5 o0 o1 o2 d0 d1 d2 d3 hb0 kS hbq hP0;clear h1 e1;have hq0:=hbq2.size;have a1:=d0q.cell 1;have hpl:(ps.length:Int)≤9223372036854775807:=by omega
   have hmq:=hM.below hbq2;go_wp2_with fail
   go_loopw [12,55] (fun v vi wx=>∃j:Nat,vi = .int .i64 j∧j≤ps.length∧wx.ownsRow wq.heap.size 3 1 v ((ps.take j).filterMap (zao (zan K))).length (ints ((ps.take j).filterMap (zao (zan K))))∧Below wq.heap.size wq wx) (fun _ vi _=>ps.length-(intOf vi).toNat)
   case atStart=>exact ⟨0,rfl,Nat.zero_le _,World.ownsRow_nil _ _ _ _,Below.refl _ _⟩
   case round =>
    obtain ⟨j,rfl,hj,hO,hbx⟩:=hrel;obtain ⟨A3,c3,rfl,hR3⟩:=Rd.own hO;by_cases hjl:j<ps.length
    · have hdj:(j:Int)<(ps.length:Int):=by omega
      obtain ⟨p,hp⟩:∃p,ps[j]? = some p:=⟨_,List.getElem?_eq_getElem hjl⟩;have hpsm:=hsm p (List.mem_of_getElem? hp);obtain ⟨bp,op,rfl,hbp,q0,q1⟩:=zdw (hP.below hbx) hp rfl;have hle:((ps.take j).filterMap (zao (zan K))).length≤j:=Nat.le_trans (List.length_filterMap_le _ _) (by rw [List.length_take];omega);have hws:=hbx.size;have hO1:=hO.alloc (.cells #[.string p.1,.string p.2] 126);have hbx1:=hbx.alloc hws (.cells #[.string p.1,.string p.2] 126);have x1:=Bk.new wr #[.string p.1,.string p.2] 126;go_upto_region 15 with (fail)
      clear q0 q1 hO hbx;generalize wr.alloc (.cells #[.string p.1,.string p.2] 126)=w1 at *
      have q0:=x1.cell 0;have q1:=x1.cell 1;have a1':=zaf a1 hbx1;have hm1:=(hmq.below hbx1).1;have hkey:=zdC hpsm.1 hpsm.2;obtain ⟨hh,hat⟩:=zco hM.2 hpsm;have hsn:Hid ((ps.take (j + 1)).filterMap (zao (zan K))=(ps.take j).filterMap (zao (zan K)) ++ (zao (zan K) p).toList):=Lib.hid (by
       rw [List.take_add_one,hp,Option.toList_some,List.filterMap_append];cases hl:zao (zan K) p <;> simp [hl])
      have hat:=Lib.hid hat;cases hl:zao (zan K) p with
      | none =>
       rw [hl] at hh hsn;have hl:=Lib.hid hl;go_wp2_with (at_lookup;refine wpList_lookup_own_ok_int _ rfl _ _ 159 rfl 126 3 .i64 zdD Tryz.underlying159 Tryz.underlying3 (zgN _) b (zan K).length _ rfl hm1 _ _ rfl hkey ?_;intro cc hat2 hwc)
       refine ⟨⟨j + 1,by go_num,by omega,?_,hbx1⟩,by simp [intOf];omega⟩;rw [hsn.out,Option.toList_none,List.append_nil];exact hO1
      | some i =>
       rw [hl] at hh hsn;have hik:=(List.getElem?_eq_some_iff.1 (zaX hl)).1;have hl:=Lib.hid hl;go_wp2_with (first
        | (at_lookup;refine wpList_lookup_own_ok_int _ rfl _ _ 159 rfl 126 3 .i64 zdD Tryz.underlying159 Tryz.underlying3 (zgN _) b (zan K).length _ rfl hm1 _ _ rfl hkey ?_;intro cc hat2 hwc;have hcc:cc=(i:Int):=by { have h9:=(hat.out _).symm.trans hat2;rw [hl.out] at h9;cases h9;rfl };subst hcc)
        | (at_builtin;go_loud (refine zaa _ rfl (.tmp 67) (.tmp 69) 32 32 rfl wq.heap.size 3 i0 (.int .i64 0) 1 8 Tryz.underlying32 hi0 hz0 hz1 hz2 rfl (by decide) (.slice A3 ((ps.take j).filterMap (zao (zan K))).length c3) _ _ rfl (hO1.alloc _) _ 1 [.int .i64 (i:Int)] rfl (Src.ofSlice _ Tryz.underlying32 _ 1 1 _ rfl (zbp _ _ _) (zdT [i])) (by simp only [maxLen];omega) (by omega) (size_alloc hbx1.size) ?_;intro v9 w8 hown8 hg8 hat8)))
       refine ⟨⟨j + 1,by go_num,by omega,?_,zaj (hbx1.alloc hbx1.size _) hg8 (hO1.alloc _) (size_alloc hbx1.size) (Nat.le_refl _)⟩,by simp [intOf];omega⟩;rw [hsn.out,Option.toList_some,List.length_append,zeA];exact hown8
    · obtain rfl:j=ps.length:=by omega
      have hdj:¬(((ps.length:Nat):Int)<(ps.length:Int)):=by omega
      rw [List.take_length] at hO hR3;have hnm2:Hid (nm=ps.filterMap (zao (zan K))):=Lib.hid (by rw [←hnm.out,zcE,hps.out]);go_wp2_with fail
      go_ret
      rw [hnm2.out];exact ⟨⟨A3,c3,rfl,hR3⟩,hbq2.trans (hbx.mono hq0)⟩
 · by_cases h2:o.1=2
   · have e1:(o.1 == 1)=false:=by simpa using h1
     have e2:(o.1 == 2)=true:=by simpa using h2
     obtain ⟨ps,hps⟩:∃ps,zbk (zan K) (K.map fun x=>x.2.says) t.name r.subs o=ps:=⟨_,rfl⟩;have hps0:ps=[(t.name,o.2.1)]:=by rw [←hps];unfold zbk;rw [if_neg h1,if_pos h2]
     have hsm:∀p ∈ ps,SmP p:=fun p hp=>by
      rw [hps0,List.mem_singleton] at hp;subst hp;exact ⟨by simp only [maxLen];omega,by simp only [maxLen];omega⟩
     have hP1:∀W:World,Rd (W.alloc (.cells #[.string t.name,.string o.2.1] 126)) (W.alloc (.cells #[.string t.name,.string o.2.1] 126)).heap.size 2 (some ⟨W.heap.size,0,none⟩) ps.length 1 (zb3 ps):=fun W=>by
      rw [hps0];exact Rd.litX W _ _ 1 2 _ rfl rfl (by simp [maxLen])
     have hpl1:Hid (ps.length=1):=Lib.hid (by rw [hps0];rfl);have hpl0:ps.length≤100000:=by have:=hpl1.out;omega
     clear hps0;replace hps:=Lib.hid hps;have hP:=hP1 w0;have hbq2:=hb0.alloc hb0.size (.cells #[.string t.name,.string o.2.1] 126);have d0q:=d0.alloc (.cells #[.string t.name,.string o.2.1] 126);go_upto_region 11 with (fail)
     clear a0 a1 b0 b1 r0 r1 r2 r3 r4 r5 o0 o1 o2 d0 d1 d2 d3 hb0 hP1;generalize w0.alloc (.cells #[.string t.name,.string o.2.1] 126)=wq at *
     obtain ⟨Ap,cp,hv,hP⟩:∃Ap cp,(Value.slice (some ⟨w0.heap.size,0,none⟩) 1 1) = .slice Ap ps.length cp∧Rd wq wq.heap.size 2 Ap ps.length cp (zb3 ps):=⟨_,1,by rw [hpl1.out],hP⟩;rw [hv];clear hv h1 h2 e1 e2;go_upto_region 12 with (fail)
     have hq0:=hbq2.size;have a1:=d0q.cell 1;have hpl:(ps.length:Int)≤9223372036854775807:=by omega
     have hmq:=hM.below hbq2;go_wp2_with fail
     go_loopw [12,55] (fun v vi wx=>∃j:Nat,vi = .int .i64 j∧j≤ps.length∧wx.ownsRow wq.heap.size 3 1 v ((ps.take j).filterMap (zao (zan K))).length (ints ((ps.take j).filterMap (zao (zan K))))∧Below wq.heap.size wq wx) (fun _ vi _=>ps.length-(intOf vi).toNat)
     case atStart=>exact ⟨0,rfl,Nat.zero_le _,World.ownsRow_nil _ _ _ _,Below.refl _ _⟩
     case round =>
      obtain ⟨j,rfl,hj,hO,hbx⟩:=hrel;obtain ⟨A3,c3,rfl,hR3⟩:=Rd.own hO;by_cases hjl:j<ps.length
      · have hdj:(j:Int)<(ps.length:Int):=by omega
        obtain ⟨p,hp⟩:∃p,ps[j]? = some p:=⟨_,List.getElem?_eq_getElem hjl⟩;have hpsm:=hsm p (List.mem_of_getElem? hp);obtain ⟨bp,op,rfl,hbp,q0,q1⟩:=zdw (hP.below hbx) hp rfl;have hle:((ps.take j).filterMap (zao (zan K))).length≤j:=Nat.le_trans (List.length_filterMap_le _ _) (by rw [List.length_take];omega);have hws:=hbx.size;have hO1:=hO.alloc (.cells #[.string p.1,.string p.2] 126);have hbx1:=hbx.alloc hws (.cells #[.string p.1,.string p.2] 126);have x1:=Bk.new wr #[.string p.1,.string p.2] 126;go_upto_region 15 with (fail)
        clear q0 q1 hO hbx;generalize wr.alloc (.cells #[.string p.1,.string p.2] 126)=w1 at *
        have q0:=x1.cell 0;have q1:=x1.cell 1;have a1':=zaf a1 hbx1;have hm1:=(hmq.below hbx1).1;have hkey:=zdC hpsm.1 hpsm.2;obtain ⟨hh,hat⟩:=zco hM.2 hpsm;have hsn:Hid ((ps.take (j + 1)).filterMap (zao (zan K))=(ps.take j).filterMap (zao (zan K)) ++ (zao (zan K) p).toList):=Lib.hid (by
         rw [List.take_add_one,hp,Option.toList_some,List.filterMap_append];cases hl:zao (zan K) p <;> simp [hl])
        have hat:=Lib.hid hat;cases hl:zao (zan K) p with
        | none =>
         rw [hl] at hh hsn;have hl:=Lib.hid hl;go_wp2_with (at_lookup;refine wpList_lookup_own_ok_int _ rfl _ _ 159 rfl 126 3 .i64 zdD Tryz.underlying159 Tryz.underlying3 (zgN _) b (zan K).length _ rfl hm1 _ _ rfl hkey ?_;intro cc hat2 hwc)
         refine ⟨⟨j + 1,by go_num,by omega,?_,hbx1⟩,by simp [intOf];omega⟩;rw [hsn.out,Option.toList_none,List.append_nil];exact hO1
        | some i =>
         rw [hl] at hh hsn;have hik:=(List.getElem?_eq_some_iff.1 (zaX hl)).1;have hl:=Lib.hid hl;go_wp2_with (first
          | (at_lookup;refine wpList_lookup_own_ok_int _ rfl _ _ 159 rfl 126 3 .i64 zdD Tryz.underlying159 Tryz.underlying3 (zgN _) b (zan K).length _ rfl hm1 _ _ rfl hkey ?_;intro cc hat2 hwc;have hcc:cc=(i:Int):=by { have h9:=(hat.out _).symm.trans hat2;rw [hl.out] at h9;cases h9;rfl };subst hcc)
          | (at_builtin;go_loud (refine zaa _ rfl (.tmp 67) (.tmp 69) 32 32 rfl wq.heap.size 3 i0 (.int .i64 0) 1 8 Tryz.underlying32 hi0 hz0 hz1 hz2 rfl (by decide) (.slice A3 ((ps.take j).filterMap (zao (zan K))).length c3) _ _ rfl (hO1.alloc _) _ 1 [.int .i64 (i:Int)] rfl (Src.ofSlice _ Tryz.underlying32 _ 1 1 _ rfl (zbp _ _ _) (zdT [i])) (by simp only [maxLen];omega) (by omega) (size_alloc hbx1.size) ?_;intro v9 w8 hown8 hg8 hat8)))
         refine ⟨⟨j + 1,by go_num,by omega,?_,zaj (hbx1.alloc hbx1.size _) hg8 (hO1.alloc _) (size_alloc hbx1.size) (Nat.le_refl _)⟩,by simp [intOf];omega⟩;rw [hsn.out,Option.toList_some,List.length_append,zeA];exact hown8
      · obtain rfl:j=ps.length:=by omega
        have hdj:¬(((ps.length:Nat):Int)<(ps.length:Int)):=by omega
        rw [List.take_length] at hO hR3;have hnm2:Hid (nm=ps.filterMap (zao (zan K))):=Lib.hid (by rw [←hnm.out,zcE,hps.out]);go_wp2_with fail
        go_ret
        rw [hnm2.out];exact ⟨⟨A3,c3,rfl,hR3⟩,hbq2.trans (hbx.mono hq0)⟩
   · by_cases h3:o.1=3
     · have e1:(o.1 == 1)=false:=by simpa using h1
       have e2:(o.1 == 2)=false:=by simpa using h2
       have e3:(o.1 == 3)=true:=by simpa using h3
       have hq9:SmP (t.name,o.2.1):=⟨by simp only [maxLen];omega,by simp only [maxLen];omega⟩;have hm0:=(hM.below hb0).1;have hkey0:=zdC hq9.1 hq9.2;obtain ⟨hh0,hat0⟩:=zco hM.2 hq9;have hat0:=Lib.hid hat0;cases hl0:zao (zan K) (t.name,o.2.1) with
       | none =>
        have hps0:Hid (nm=[]):=Lib.hid (by rw [←hnm.out,zcE,zbk,if_neg h1,if_neg h2,if_pos h3,hl0];rfl);rw [hl0] at hh0;replace hl0:=Lib.hid hl0;go_upto_region 12 with (at_lookup;refine wpList_lookup_own_ok_int _ rfl _ _ 159 rfl 126 3 .i64 zdD Tryz.underlying159 Tryz.underlying3 (zgN _) b (zan K).length _ rfl hm0 _ _ rfl hkey0 ?_;intro cc hat2 hwc)
        clear h1 h2 h3 e1 e2 e3 hh0 hat2;go_wp2_with fail
        go_loopw [12,55] (fun v vi wx=>v = .slice none 0 0∧vi = .int .i64 0∧wx=w0) (fun _ _ _=>0)
        case atStart=>exact ⟨rfl,rfl,rfl⟩
        case round =>
         obtain ⟨rfl,rfl,hwx⟩:=hrel;have hwx:=hwx.symm;subst hwx;go_wp2_with fail
         go_ret
         rw [hps0.out];exact ⟨⟨none,0,rfl,Rd.none_ _ _ _⟩,hb0⟩
       | some i =>
        have hiK:=(List.getElem?_eq_some_iff.1 (zaX hl0)).1;rw [hkl.out] at hiK;obtain ⟨x,hx⟩:∃x,K[i]? = some x:=⟨_,List.getElem?_eq_getElem hiK⟩;have hxm:=List.mem_of_getElem? hx;obtain ⟨ps,hps⟩:∃ps,zbk (zan K) (K.map fun x=>x.2.says) t.name r.subs o=ps:=⟨_,rfl⟩;have hps0:zbc x.2.subs o.2.2=ps:=by
         rw [←hps];unfold zbk;rw [if_neg h1,if_neg h2,if_pos h3,hl0];simp only [List.getElem?_map,hx,Option.map_some];rfl
        have hxok:=hok x hxm;have hsm:∀p ∈ ps,SmP p:=fun p hp=>by
         rw [←hps0] at hp;unfold zbc at hp;obtain ⟨s,hs,rfl⟩:=List.mem_map.1 hp;have:=hxok.subz s (List.mem_filter.1 hs).1;exact ⟨by simp only [maxLen];omega,by simp only [maxLen];omega⟩
        have hpl0:ps.length≤100000:=by
         rw [←hps0];unfold zbc;rw [List.length_map];exact Nat.le_trans (List.length_filter_le _ _) (hf x hxm)
        obtain ⟨gb,go,gA,gb0,gc⟩:=hK.at_ (by omega);have gg:=fun k (hk:k<6)=>zbs (fun x:TypA × RelA=>x.2.cells) (sz:=6) (fun _=>rfl) hx (k:=k) hk;have hcs:∀W,Below w.heap.size w W→W.cell? ⟨gb,go + i * 6,none⟩=some (.string x.2.name)∧W.cell? ⟨gb,go + i * 6 + 1,none⟩=some (.string x.2.view)∧W.cell? ⟨gb,go + i * 6 + 2,none⟩=some (.string x.2.edit)∧W.cell? ⟨gb,go + i * 6 + 3,none⟩=some (.string x.2.check)∧W.cell? ⟨gb,go + i * 6 + 4,none⟩=some (.slice x.2.As x.2.subs.length x.2.cs)∧W.cell? ⟨gb,go + i * 6 + 5,none⟩=some (.slice x.2.Ao x.2.ops.length x.2.co):=fun W hW =>
         ⟨zaf (gc _ _ (gg 0 (by omega))) hW,by rw [Nat.add_assoc];exact zaf (gc _ _ (gg 1 (by omega))) hW,by rw [Nat.add_assoc];exact zaf (gc _ _ (gg 2 (by omega))) hW,by rw [Nat.add_assoc];exact zaf (gc _ _ (gg 3 (by omega))) hW,by rw [Nat.add_assoc];exact zaf (gc _ _ (gg 4 (by omega))) hW,by rw [Nat.add_assoc];exact zaf (gc _ _ (gg 5 (by omega))) hW⟩
        have kN:∀W,Below w0.heap.size w0 W→Calls Tryz.prog 137 #[.agg #[.string x.2.name,.string x.2.view,.string x.2.edit,.string x.2.check,.slice x.2.As x.2.subs.length x.2.cs,.slice x.2.Ao x.2.ops.length x.2.co],.string o.2.2] W fun e w'=>(∃A' c',e = .returned (.slice A' ps.length c')∧w'.ownsRow W.heap.size 126 2 (.slice A' ps.length c') ps.length (zb3 ps))∧Below W.heap.size W w':=fun W hW=>by
         have hwW:=hb0.trans (hW.mono hb0.size);have:=nexts_any (w:=W) (nm:=x.2.name) (vi:=x.2.view) (ed:=x.2.edit) (ch:=x.2.check) (vo:=.slice x.2.Ao x.2.ops.length x.2.co) o.2.2 ⟨_,_,_,rfl⟩ ((hxok.subs.below hwW).more hwW.size) (hf x hxm);rw [hps0] at this;exact this
        have hii:(i:Int)<(K.length:Int):=by omega
        rw [hl0] at hh0;replace hl0:=Lib.hid hl0;replace hx:=Lib.hid hx;clear hps0 gg;replace hps:=Lib.hid hps;replace kN:=Lib.hid kN;replace hcs:=Lib.hid hcs;subst gA;go_upto_region 10 with (at_lookup;refine wpList_lookup_own_ok_int _ rfl _ _ 159 rfl 126 3 .i64 zdD Tryz.underlying159 Tryz.underlying3 (zgN _) b (zan K).length _ rfl hm0 _ _ rfl hkey0 ?_;intro cc hat2 hwc;have hcc:cc=(i:Int):=by { have h9:=(hat0.out _).symm.trans hat2;rw [hl0.out] at h9;cases h9;rfl };subst hcc)
        have hSc:∀W:World,Below w0.heap.size w0 W→W.cell? ⟨w.heap.size,0,none⟩=some (.slice (some ⟨gb,go,none⟩) K.length c)∧W.cell? ⟨w.heap.size + 1 + 1 + 1,2,none⟩=some (.string o.2.2)∧W.cell? ⟨gb,go + i * 6,none⟩=some (.string x.2.name)∧W.cell? ⟨gb,go + i * 6 + 1,none⟩=some (.string x.2.view)∧W.cell? ⟨gb,go + i * 6 + 2,none⟩=some (.string x.2.edit)∧W.cell? ⟨gb,go + i * 6 + 3,none⟩=some (.string x.2.check)∧W.cell? ⟨gb,go + i * 6 + 4,none⟩=some (.slice x.2.As x.2.subs.length x.2.cs)∧W.cell? ⟨gb,go + i * 6 + 5,none⟩=some (.slice x.2.Ao x.2.ops.length x.2.co):=fun W h=>⟨zaf a0 h,zaf o2 h,hcs.out W (hb0.trans (h.mono hb0.size))⟩;clear h1 h2 h3 e1 e2 e3 hh0 hat2;have hS0:Below w0.heap.size w0 w0.drew:=(Below.refl _ _).drew;refine wp_region_any (by kernel_rfl) ?_;change wpAny _ _ _ _ _ _ _ (World.drew _);refine wpAny_of_held (S:=fun W=>Below w0.heap.size w0 W) _ _ _ _ ?_;refine zac 0 (some 45) (v:=?v0n) rfl rfl (by kernel_rfl) (by kernel_rfl) (by kernel_rfl) (fun _ _ _ h=>h) (by rfl) ?y0n (by assumption) ?r0n;case y0n=>(intro W hS;obtain ⟨s0,s1,s2,s3,s4,s5,s6,s7⟩:=hSc W hS;go_simp;try with_reducible rfl)
        simp only [Act.put,List.setIfInBounds_toArray,List.set_cons_zero,List.set_cons_succ];refine zac 1 (some 46) (v:=?v1n) rfl rfl (by kernel_rfl) (by kernel_rfl) (by kernel_rfl) (fun _ _ _ h=>h) (by rfl) ?y1n (by assumption) ?r1n;case y1n=>(intro W hS;obtain ⟨s0,s1,s2,s3,s4,s5,s6,s7⟩:=hSc W hS;go_simp;try with_reducible rfl)
        simp only [Act.put,List.setIfInBounds_toArray,List.set_cons_zero,List.set_cons_succ];refine zac 2 (some 47) (v:=?v2n) rfl rfl (by kernel_rfl) (by kernel_rfl) (by kernel_rfl) (fun _ _ _ h=>h) (by rfl) ?y2n (by assumption) ?r2n;case y2n=>(intro W hS;obtain ⟨s0,s1,s2,s3,s4,s5,s6,s7⟩:=hSc W hS;go_simp;try with_reducible rfl)
        simp only [Act.put,List.setIfInBounds_toArray,List.set_cons_zero,List.set_cons_succ];refine zac 3 (some 48) (v:=?v3n) rfl rfl (by kernel_rfl) (by kernel_rfl) (by kernel_rfl) (fun _ _ _ h=>h) (by rfl) ?y3n (by assumption) ?r3n;case y3n=>(intro W hS;obtain ⟨s0,s1,s2,s3,s4,s5,s6,s7⟩:=hSc W hS;go_simp;try with_reducible rfl)
        simp only [Act.put,List.setIfInBounds_toArray,List.set_cons_zero,List.set_cons_succ];refine zac 4 (some 49) (v:=?v4n) rfl rfl (by kernel_rfl) (by kernel_rfl) (by kernel_rfl) (fun _ _ _ h=>h) (by rfl) ?y4n (by assumption) ?r4n;case y4n=>(intro W hS;obtain ⟨s0,s1,s2,s3,s4,s5,s6,s7⟩:=hSc W hS;go_simp;try with_reducible rfl)
        simp only [Act.put,List.setIfInBounds_toArray,List.set_cons_zero,List.set_cons_succ];refine zac 5 (some 50) (v:=?v5n) rfl rfl (by kernel_rfl) (by kernel_rfl) (by kernel_rfl) (fun _ _ _ h=>h) (by rfl) ?y5n (by assumption) ?r5n;case y5n=>(intro W hS;obtain ⟨s0,s1,s2,s3,s4,s5,s6,s7⟩:=hSc W hS;go_simp;try with_reducible rfl)
        simp only [Act.put,List.setIfInBounds_toArray,List.set_cons_zero,List.set_cons_succ];refine zac 6 (some 51) (v:=?v6n) rfl rfl (by kernel_rfl) (by kernel_rfl) (by kernel_rfl) (fun _ _ _ h=>h) (by rfl) ?y6n (by assumption) ?r6n;case y6n=>(intro W hS;obtain ⟨s0,s1,s2,s3,s4,s5,s6,s7⟩:=hSc W hS;go_simp;try with_reducible rfl)
        simp only [Act.put,List.setIfInBounds_toArray,List.set_cons_zero,List.set_cons_succ];refine za2 7 rfl (by kernel_rfl) ?_;intro K9 hK9;go_simp;refine (kN.out _ hS0).mono ?_;rintro e4 wq ⟨⟨Ap,cp,rfl,hP0⟩,hb4⟩;have hS4:Below w0.heap.size w0 wq:=hS0.trans (hb4.mono hS0.size);refine hK9 _ _ hS4 ?_;clear hK9 K9 hb4;refine zac 8 (some 9) (v:=?v8n) rfl rfl (by kernel_rfl) (by kernel_rfl) (by kernel_rfl) (fun _ _ _ h=>h) (by rfl) ?y8n (by assumption) ?r8n;case y8n=>(intro W hS;go_simp;try with_reducible rfl)
        simp only [Act.put,List.setIfInBounds_toArray,List.set_cons_zero,List.set_cons_succ];refine wpAnyH_done (by kernel_rfl) ?_ _;go_upto_region 12 with (fail)
        have hP:Rd wq wq.heap.size 2 Ap ps.length cp (zb3 ps):=by obtain ⟨A9,c9,e9,hR9⟩:=Rd.own hP0;cases e9;exact hR9
        have hbq2:=hb0.trans (hS4.mono hb0.size);have d0q:=d0.below hS4;clear a0 a1 b0 b1 r0 r1 r2 r3 r4 r5 o0 o1 o2 d0 d1 d2 d3 hb0 hP0 hSc hS0 hS4 hcs;have hq0:=hbq2.size;have a1:=d0q.cell 1;have hpl:(ps.length:Int)≤9223372036854775807:=by omega
        have hmq:=hM.below hbq2;go_wp2_with fail
        go_loopw [12,55] (fun v vi wx=>∃j:Nat,vi = .int .i64 j∧j≤ps.length∧wx.ownsRow wq.heap.size 3 1 v ((ps.take j).filterMap (zao (zan K))).length (ints ((ps.take j).filterMap (zao (zan K))))∧Below wq.heap.size wq wx) (fun _ vi _=>ps.length-(intOf vi).toNat)
        case atStart=>exact ⟨0,rfl,Nat.zero_le _,World.ownsRow_nil _ _ _ _,Below.refl _ _⟩
        case round =>
         obtain ⟨j,rfl,hj,hO,hbx⟩:=hrel;obtain ⟨A3,c3,rfl,hR3⟩:=Rd.own hO;by_cases hjl:j<ps.length
         · have hdj:(j:Int)<(ps.length:Int):=by omega
           obtain ⟨p,hp⟩:∃p,ps[j]? = some p:=⟨_,List.getElem?_eq_getElem hjl⟩;have hpsm:=hsm p (List.mem_of_getElem? hp);obtain ⟨bp,op,rfl,hbp,q0,q1⟩:=zdw (hP.below hbx) hp rfl;have hle:((ps.take j).filterMap (zao (zan K))).length≤j:=Nat.le_trans (List.length_filterMap_le _ _) (by rw [List.length_take];omega);have hws:=hbx.size;have hO1:=hO.alloc (.cells #[.string p.1,.string p.2] 126);have hbx1:=hbx.alloc hws (.cells #[.string p.1,.string p.2] 126);have x1:=Bk.new wr #[.string p.1,.string p.2] 126;go_upto_region 15 with (fail)
           clear q0 q1 hO hbx;generalize wr.alloc (.cells #[.string p.1,.string p.2] 126)=w1 at *
           have q0:=x1.cell 0;have q1:=x1.cell 1;have a1':=zaf a1 hbx1;have hm1:=(hmq.below hbx1).1;have hkey:=zdC hpsm.1 hpsm.2;obtain ⟨hh,hat⟩:=zco hM.2 hpsm;have hsn:Hid ((ps.take (j + 1)).filterMap (zao (zan K))=(ps.take j).filterMap (zao (zan K)) ++ (zao (zan K) p).toList):=Lib.hid (by
            rw [List.take_add_one,hp,Option.toList_some,List.filterMap_append];cases hl:zao (zan K) p <;> simp [hl])
           have hat:=Lib.hid hat;cases hl:zao (zan K) p with
           | none =>
            rw [hl] at hh hsn;have hl:=Lib.hid hl;go_wp2_with (at_lookup;refine wpList_lookup_own_ok_int _ rfl _ _ 159 rfl 126 3 .i64 zdD Tryz.underlying159 Tryz.underlying3 (zgN _) b (zan K).length _ rfl hm1 _ _ rfl hkey ?_;intro cc hat2 hwc)
            refine ⟨⟨j + 1,by go_num,by omega,?_,hbx1⟩,by simp [intOf];omega⟩;rw [hsn.out,Option.toList_none,List.append_nil];exact hO1
           | some i =>
            rw [hl] at hh hsn;have hik:=(List.getElem?_eq_some_iff.1 (zaX hl)).1;have hl:=Lib.hid hl;go_wp2_with (first
             | (at_lookup;refine wpList_lookup_own_ok_int _ rfl _ _ 159 rfl 126 3 .i64 zdD Tryz.underlying159 Tryz.underlying3 (zgN _) b (zan K).length _ rfl hm1 _ _ rfl hkey ?_;intro cc hat2 hwc;have hcc:cc=(i:Int):=by { have h9:=(hat.out _).symm.trans hat2;rw [hl.out] at h9;cases h9;rfl };subst hcc)
             | (at_builtin;go_loud (refine zaa _ rfl (.tmp 67) (.tmp 69) 32 32 rfl wq.heap.size 3 i0 (.int .i64 0) 1 8 Tryz.underlying32 hi0 hz0 hz1 hz2 rfl (by decide) (.slice A3 ((ps.take j).filterMap (zao (zan K))).length c3) _ _ rfl (hO1.alloc _) _ 1 [.int .i64 (i:Int)] rfl (Src.ofSlice _ Tryz.underlying32 _ 1 1 _ rfl (zbp _ _ _) (zdT [i])) (by simp only [maxLen];omega) (by omega) (size_alloc hbx1.size) ?_;intro v9 w8 hown8 hg8 hat8)))
            refine ⟨⟨j + 1,by go_num,by omega,?_,zaj (hbx1.alloc hbx1.size _) hg8 (hO1.alloc _) (size_alloc hbx1.size) (Nat.le_refl _)⟩,by simp [intOf];omega⟩;rw [hsn.out,Option.toList_some,List.length_append,zeA];exact hown8
         · obtain rfl:j=ps.length:=by omega
           have hdj:¬(((ps.length:Nat):Int)<(ps.length:Int)):=by omega
           rw [List.take_length] at hO hR3;have hnm2:Hid (nm=ps.filterMap (zao (zan K))):=Lib.hid (by rw [←hnm.out,zcE,hps.out]);go_wp2_with fail
           go_ret
           rw [hnm2.out];exact ⟨⟨A3,c3,rfl,hR3⟩,hbq2.trans (hbx.mono hq0)⟩
     · have e1:(o.1 == 1)=false:=by simpa using h1
       have e2:(o.1 == 2)=false:=by simpa using h2
       have e3:(o.1 == 3)=false:=by simpa using h3
       have hps0:Hid (nm=[]):=Lib.hid (by rw [←hnm.out,zcE,zbk,if_neg h1,if_neg h2,if_neg h3];rfl);go_wp2_with fail
       go_loopw [12,55] (fun v vi wx=>v = .slice none 0 0∧vi = .int .i64 0∧wx=w0) (fun _ _ _=>0)
       case atStart=>exact ⟨rfl,rfl,rfl⟩
       case round =>
        obtain ⟨rfl,rfl,hwx⟩:=hrel;have hwx:=hwx.symm;subst hwx;go_wp2_with fail
        go_ret
        rw [hps0.out];exact ⟨⟨none,0,rfl,Rd.none_ _ _ _⟩,hb0⟩
end Go.Proofs.YtahegpfdbgbioaaGreat
namespace Go.Proofs.YtahegpfdbgbioaaGreat
open Go.RowKit
theorem own_pre {w:World} {B:Nat} {e:TypeId} {n c m:Nat} {A:Option Addr} {xs:List Value} (h:w.ownsRow B e 1 (.slice A n c) n xs) (hm:m≤n) (hn:0<n):w.ownsRow B e 1 (.slice A m c) m (xs.take m):=by
 rcases h.2 with ⟨h',h0⟩ | ⟨g,cap,cur,h',hb,hg,hnc,hcm,hcs,ht⟩
 · omega
 · injection h' with h1 _ h3
   subst h1 h3;refine ⟨by rw [List.length_take,h.1];omega,.inr ⟨g,c,cur,rfl,hb,hg,by omega,hcm,hcs,?_⟩⟩;rw [←ht,List.take_take];congr 1
   omega
theorem zkn {w:World} {B n c:Nat} {A:Option Addr} {l:List OpI} (h:Rd w B 3 A n c (l.flatMap aOp)) {i:Nat} {o:OpI} (hi:l[i]? = some o) (hn:n=l.length) :
 ∃b k,A=some ⟨b,k,none⟩∧b<B∧w.cell? ⟨b,k + i * 3,none⟩=some (.int .i64 o.1)∧w.cell? ⟨b,k + i * 3 + 1,none⟩=some (.string o.2.1)∧w.cell? ⟨b,k + i * 3 + 2,none⟩=some (.string o.2.2):=by
 subst hn;obtain ⟨b,k,e,hb,hc⟩:=h.at_ (zd9 hi);have g:=fun j (hj:j<3)=>zbs aOp (sz:=3) (fun _=>rfl) hi (k:=j) hj;exact ⟨b,k,e,hb,hc _ _ (g 0 (by omega)),by rw [Nat.add_assoc];exact hc _ _ (g 1 (by omega)),by rw [Nat.add_assoc];exact hc _ _ (g 2 (by omega))⟩
theorem zix {w:World} {g:Nat} {m:List Int} (h:Bk w g (lvs m).toArray 3) {i:Nat} (hi:i<m.length):w.cell? ⟨g,i,none⟩=some (.int .i64 (m.getD i 0)):=by
 rw [h.cell i,List.getD_eq_getElem?_getD,List.getElem?_eq_getElem hi];simp [lvs,hi]
theorem zfP {m:List Int} {k:Int} (h:Small m k) (hk:0≤k) (i:Nat) : -k≤m.getD i 0∧m.getD i 0≤k:=by
 rw [List.getD_eq_getElem?_getD];cases hi:m[i]? with
 | none=>simp;omega
 | some y=>have:=h y (List.mem_of_getElem? hi);simpa using this
structure BI (w wx:World) (n:Nat) (s:List Int × List Nat) (v:Value):Prop where
 more:Bk wx w.heap.size (lvs s.1).toArray 3
 var:Bk wx (w.heap.size + 1) #[.slice (some ⟨w.heap.size,0,none⟩) (n + 1) (n + 1)] 32
 beg:wx.ownsRow (w.heap.size + 2) 3 1 v s.2.length (ints s.2)
 below:Below w.heap.size w wx
 len:s.1.length=n + 1
theorem BI.alloc {w wx:World} {n:Nat} {s:List Int × List Nat} {v:Value} (h:BI w wx n s v) (o:Obj):BI w (wx.alloc o) n s v:=⟨h.more.alloc o,h.var.alloc o,h.beg.alloc o,h.below.alloc h.below.size o,h.len⟩
theorem BI.drew {w wx:World} {n:Nat} {s:List Int × List Nat} {v:Value} (h:BI w wx n s v):BI w wx.drew n s v:=⟨h.more,h.var,zbM h.beg,h.below.drew,h.len⟩
theorem BI.add {w wx:World} {n i:Nat} {d:Int} {s:List Int × List Nat} {v:Value} (h:BI w wx n s v):BI w (wx.setCell ⟨w.heap.size,i,none⟩ (.int .i64 (s.1.getD i 0 + d))) n (zed s.1 i d,s.2) v:=by
 refine ⟨?_,h.var.other (a:=⟨w.heap.size,i,none⟩) (by show w.heap.size + 1≠w.heap.size;omega) _,zai h.beg (by show w.heap.size<_;omega) _,h.below.setCell (Nat.le_refl _) _,by rw [zcL];exact h.len⟩;have:=h.more.set i (.int .i64 (s.1.getD i 0 + d));rw [zjv] at this;exact this
theorem BI.app {w w1 w8:World} {n j:Nat} {m:List Int} {bg:List Nat} {v v9:Value} {o:Obj} (h:BI w w1 n (m,bg) v) (hg:(w1.alloc o).grownBy w8 v.ownBlock) (hown:w8.ownsRow (w.heap.size + 2) 3 1 v9 (bg.length + 1) (ints bg ++ [.int .i64 (j:Int)])):BI w w8 n (m,bg ++ [j]) v9:=by
 have hb:=h.beg.alloc o;have hs:=hg.size;simp only [World.size_alloc] at hs;have k:∀g,g<w.heap.size + 2→g<w1.heap.size→w8.heap[g]? = w1.heap[g]?:=fun g h1 h2=>(hg.block g (by simp;omega) fun e=>by have:=(hb.lt g e.symm).1;omega).trans (Below.heap_alloc _ _ _ h2);refine ⟨(k _ (by omega) h.more.lt).trans h.more,(k _ (by omega) h.var.lt).trans h.var,?_,zaj (h.below.alloc h.below.size o) hg hb (size_alloc h.below.size) (by omega),h.len⟩;show w8.ownsRow _ _ _ v9 (bg ++ [j]).length (ints (bg ++ [j]));rw [List.length_append,zeA];exact hown
theorem BI.cut {w wx:World} {n k c:Nat} {A:Option Addr} {s:List Int} {bg:List Nat} (h:BI w wx n (s,bg) (.slice A bg.length c)) (hk:k≤bg.length) (h0:0<bg.length):BI w wx n (s,bg.take k) (.slice A k c):=by
 refine ⟨h.more,h.var,?_,h.below,h.len⟩;have:=own_pre h.beg hk h0;show wx.ownsRow _ _ _ _ (bg.take k).length (ints (bg.take k));rw [List.length_take,Nat.min_eq_left hk];unfold ints at *
 rw [List.map_take];exact this
theorem behindNotOf_any {w:World} {A:Option Addr} {c:Nat} {l:List OpI} (h:Rd w w.heap.size 3 A l.length c (l.flatMap aOp)) (hl:l.length≤100000) :
 Calls Tryz.prog 88 #[.slice A l.length c] w fun e w'=>e = .returned (.func (.func 135) #[] #[.pointer (some ⟨w.heap.size + 1,0,none⟩)]) ∧
  Bk w' w.heap.size (lvs (zeK (zhF l) l.length)).toArray 3∧Bk w' (w.heap.size + 1) #[.slice (some ⟨w.heap.size,0,none⟩) (l.length + 1) (l.length + 1)] 32∧Below w.heap.size w w':=by
 obtain ⟨i0,hi0,hz0,hz1,hz2⟩:=info_parts zdS;have hmk:∀W:World,(Instr.makeSlice 32 (.int .i64 ((l.length:Int) + 1)) (.int .i64 ((l.length:Int) + 1))).run Tryz.prog W = .ok (.slice (some ⟨W.heap.size,0,none⟩) (l.length + 1) (l.length + 1)) (W.alloc (.cells (lvs (List.replicate (l.length + 1) 0)).toArray 3)):=fun W=>by
  have:=run_make (P:=Tryz.prog) W 32 3 i0 _ Tryz.underlying32 hi0 hz0 .i64 .i64 (l.length + 1) ((l.length:Int) + 1) (by omega) (by omega) (by rw [hz2];omega) (by omega);have e1:((l.length:Int) + 1).toNat=l.length + 1:=by omega
  rw [e1,hz1,Nat.mul_one] at this;rw [this];congr 3
  apply Array.ext';show (madeCells #[.int .i64 0] (l.length + 1)).toList=_;rw [toList_madeCells_one];simp [lvs]
 go_enter Tryz.func88,Tryz.ntmps88
 go_wp2_with fail
 have hb0:Below w.heap.size w ((w.alloc (.cells (lvs (List.replicate (l.length + 1) 0)).toArray 3)).alloc (.cells #[.slice (some ⟨w.heap.size,0,none⟩) (l.length + 1) (l.length + 1)] 32)):=((Below.refl _ w).alloc (Nat.le_refl _) _).alloc (by simp) _;have d0:=(Bk.new w (lvs (List.replicate (l.length + 1) 0)).toArray 3).alloc (.cells #[.slice (some ⟨w.heap.size,0,none⟩) (l.length + 1) (l.length + 1)] 32);have d1:=Bk.new (w.alloc (.cells (lvs (List.replicate (l.length + 1) 0)).toArray 3)) #[.slice (some ⟨w.heap.size,0,none⟩) (l.length + 1) (l.length + 1)] 32;simp only [World.size_alloc] at d1;generalize (w.alloc (.cells (lvs (List.replicate (l.length + 1) 0)).toArray 3)).alloc (.cells #[.slice (some ⟨w.heap.size,0,none⟩) (l.length + 1) (l.length + 1)] 32)=w0 at *
 have hB0:BI w w0 l.length (List.replicate (l.length + 1) 0,[]) (.slice none 0 0):=⟨d0,d1,World.ownsRow_nil _ _ _ _,hb0,by simp⟩;have hll:(l.length:Int)≤9223372036854775807:=by omega
 clear hmk d0 d1 hb0;go_loopw [4,15] (fun v vi wx=>∃j:Nat,vi = .int .i64 j∧j≤l.length∧BI w wx l.length (ze8 (List.replicate (l.length + 1) 0,[]) 0 (l.take j)) v) (fun _ vi _=>l.length-(intOf vi).toNat)
 case atStart=>exact ⟨0,rfl,Nat.zero_le _,hB0⟩
 case round =>
  obtain ⟨j,rfl,hj,hB⟩:=hrel;by_cases hjl:j<l.length
  · have hdj:(j:Int)<(l.length:Int):=by omega
    obtain ⟨⟨k,on,ox⟩,ho⟩:∃o,l[j]? = some o:=⟨_,List.getElem?_eq_getElem hjl⟩;obtain ⟨b,o,rfl,hbw,c0,c1,c2⟩:=zkn (h.below hB.below) ho rfl;have hsn:Hid (ze8 (List.replicate (l.length + 1) 0,[]) 0 (l.take (j + 1))=zcd (ze8 (List.replicate (l.length + 1) 0,[]) 0 (l.take j)) j k):=Lib.hid (by
     rw [List.take_add_one,ho,Option.toList_some,zmM,List.length_take,Nat.zero_add,Nat.min_eq_left (by omega)])
    have hsm:Small (ze8 (List.replicate (l.length + 1) 0,[]) 0 (l.take j)).1 200000:=fun x hx=>by
     have:=zg4 (l.take j) (List.replicate (l.length + 1) 0,[]) 0 0 (by omega) (fun y hy=>by rw [List.mem_replicate] at hy;omega) x hx;rw [List.length_take] at this;omega
    have hlt:=mrun_lt (l.take j) (List.replicate (l.length + 1) 0,[]) 0 (fun b hb=>by cases hb);rw [List.length_take,Nat.min_eq_left (by omega),Nat.zero_add] at hlt;have hbl:=mrun_beg (l.take j) (List.replicate (l.length + 1) 0,[]) 0;rw [List.length_take,Nat.min_eq_left (by omega),List.length_nil,Nat.zero_add] at hbl;obtain ⟨⟨m,bg⟩,hst⟩:∃st,ze8 (List.replicate (l.length + 1) 0,[]) 0 (l.take j)=st:=⟨_,rfl⟩;rw [hst] at hB hsn hsm hlt hbl;clear hst;simp only at hsm hlt hbl;have hB1:=hB.alloc (.cells #[.int .i64 k,.string on,.string ox] 166);have x1:=Bk.new wr #[.int .i64 k,.string on,.string ox] 166;obtain ⟨A3,c3,rfl,hRb⟩:=Rd.own hB.beg;have hcap:=hRb.cap;have hcapm:=hRb.capm;simp only at hcap;clear hRb;go_upto_region 6 with (fail)
    clear c0 c1 c2;generalize hq1:wr.heap.size=q1 at *
    generalize wr.alloc (.cells #[.int .i64 k,.string on,.string ox] 166)=w1 at *
    have y0:=x1.cell 0;have hws:=hB1.below.size;have hw2:w.heap.size + 2≤w1.heap.size:=by have:=hB1.var.lt;omega
    by_cases hk:k=1∨k=2∨k=3
    · have hms:Hid (zcd (m,bg) j k=(m,bg ++ [j])):=Lib.hid (by unfold zcd;rw [if_pos hk]);rcases hk with rfl | rfl | rfl;all_goals
       go_wp2_with (at_builtin;go_loud (refine zaa _ rfl (.tmp 29) (.tmp 31) 32 32 rfl (w.heap.size + 2) 3 i0 (.int .i64 0) 1 8 Tryz.underlying32 hi0 hz0 hz1 hz2 rfl (by decide) (.slice A3 bg.length c3) bg.length (ints bg) rfl (hB1.beg.alloc _) _ 1 [.int .i64 (j:Int)] rfl (Src.ofSlice _ Tryz.underlying32 _ 1 1 _ rfl (zbp _ _ _) (zdT [j])) (by simp only [maxLen];omega) (by omega) (size_alloc hw2) ?_;intro v9 w8 hown8 hg8 hat8))
       exact ⟨⟨j + 1,by go_num,by omega,by rw [hsn.out,hms.out];exact hB1.app hg8 hown8⟩,by simp [intOf];omega⟩
    · have hk1:(k == 1)=false:=by simp;omega
      have hk2:(k == 2)=false:=by simp;omega
      have hk3:(k == 3)=false:=by simp;omega
      by_cases hk4:k=4∨k=5∨k=6
      · by_cases h2:bg.length<2
        · have hms:Hid (zcd (m,bg) j k=(m,bg)):=Lib.hid (by unfold zcd;rw [if_neg hk,if_pos hk4,if_pos h2]);have hla:(bg.length:Int)-1<1:=by omega
          rcases hk4 with rfl | rfl | rfl;all_goals
           go_wp2_with fail
           exact ⟨⟨j + 1,by go_num,by omega,by rw [hsn.out,hms.out];exact hB1⟩,by simp [intOf];omega⟩
        · obtain ⟨nn,hnn⟩:∃nn:Nat,(bg.length:Int)-1=(nn:Int):=⟨bg.length-1,by omega⟩;have hne:bg.length-1=nn:=by omega
          have hla:¬((nn:Int)<1):=by omega
          have hnc:(nn:Int)≤(c3:Int):=by omega
          have hnl:nn≤bg.length:=by omega
          have hn0:0<bg.length:=by omega
          have hxb:=Lib.hid (hB1.cut hnl hn0);by_cases hk6:k=6
          · subst hk6;obtain ⟨p,hp⟩:∃p,bg[nn]? = some p:=⟨_,List.getElem?_eq_getElem (by omega)⟩;have hpj:=hlt p (List.mem_of_getElem? hp);have hlm:=hB1.len;simp only at hlm;have hms:Hid (zcd (m,bg) j 6=(zed (zed m p 1) j (-1),bg.take nn)):=Lib.hid (by
             unfold zcd;rw [if_neg hk,if_pos hk4,if_neg h2,if_pos rfl];simp only [hne];rw [List.getD_eq_getElem?_getD,hp];rfl)
            replace hne:=Lib.hid hne;obtain ⟨A4,c4,e4,hR4⟩:=Rd.own hB1.beg;injection e4 with e4 _ e4'
            subst e4 e4';obtain ⟨ob,oo,u,rfl,_,hu,hcb⟩:=hR4.get (k:=nn) (by simp only;omega);have hup:u = .int .i64 (p:Int):=by
             simp only [ints,List.getElem?_map,hp,Option.map_some,Option.some.injEq] at hu;exact hu.symm
            subst hup;have hmp:=zix hB1.more (i:=p) (by simp only;omega);simp only at hmp;have hfz:=hB1.more.fz p;have hv0:=hB1.var.cell';have hpi:(p:Int)<(l.length:Int) + 1:=by omega
            have hni:(nn:Int)<(bg.length:Int):=by omega
            have hsb:=zfP hsm (by omega) p;obtain ⟨z,hz⟩:∃z,m.getD p 0=z:=⟨_,rfl⟩;rw [hz] at hmp hsb;obtain ⟨hz0,hz1⟩:=hsb;have hA1:=hB1.add (i:=p) (d:=1);simp only [hz] at hA1;replace hA1:=Lib.hid hA1;clear hz;go_upto_region 17 with (fail)
            go_region
            have hA2:=Lib.hid hA1.out.drew;clear hmp hfz hv0 hA1;generalize (World.setCell w1 ⟨w.heap.size,p,none⟩ (.int .i64 (z + 1))).drew=w2 at *
            have hlm2:(zed m p 1).length=l.length + 1:=hA2.out.len;have hmj:=zix hA2.out.more (i:=j) (by show j<(zed m p 1).length;omega);simp only at hmj;have hsb2:Small (zed m p 1) 200001:=zee hsm p 1 (by omega) (by omega);obtain ⟨hz2,hz3⟩:=zfP hsb2 (by omega) j;obtain ⟨z2,hz4⟩:∃z,(zed m p 1).getD j 0=z:=⟨_,rfl⟩;have hA3:=hA2.out.add (i:=j) (d:=-1);have hfz:=hA2.out.more.fz j;have hv0:=hA2.out.var.cell';simp only [hz4] at hA3;rw [hz4] at hmj hz2 hz3;replace hA3:=Lib.hid hA3;clear hz4 hsb2;have hjp:(j:Int)<(l.length:Int) + 1:=by omega
            go_wp2_with fail
            refine ⟨⟨j + 1,by go_num,by omega,?_⟩,by simp [intOf];omega⟩;rw [hsn.out,hms.out];have hA4:=hA3.out;rw [←Int.sub_eq_add_neg] at hA4;clear hxb;have hc:nn=(bg.take nn).length:=by rw [List.length_take];omega
            exact hA4.cut hnl hn0
          · have hms:Hid (zcd (m,bg) j k=(m,bg.take nn)):=Lib.hid (by unfold zcd;rw [if_neg hk,if_pos hk4,if_neg h2,if_neg hk6];simp only [hne]);replace hne:=Lib.hid hne;have hk6':(k == 6)=false:=by simpa using hk6
            rcases hk4 with rfl | rfl | rfl
            · go_wp2_with fail
              exact ⟨⟨j + 1,by go_num,by omega,by rw [hsn.out,hms.out];exact hxb.out⟩,by simp [intOf];omega⟩
            · go_wp2_with fail
              exact ⟨⟨j + 1,by go_num,by omega,by rw [hsn.out,hms.out];exact hxb.out⟩,by simp [intOf];omega⟩
            · exact absurd rfl hk6
      · have hms:Hid (zcd (m,bg) j k=(m,bg)):=Lib.hid (by unfold zcd;rw [if_neg hk,if_neg hk4]);have hk4':(k == 4)=false:=by simp;omega
        have hk5':(k == 5)=false:=by simp;omega
        have hk6':(k == 6)=false:=by simp;omega
        go_wp2_with fail
        exact ⟨⟨j + 1,by go_num,by omega,by rw [hsn.out,hms.out];exact hB1⟩,by simp [intOf];omega⟩
  · obtain rfl:j=l.length:=by omega
    have hdj:¬(((l.length:Nat):Int)<(l.length:Int)):=by omega
    rw [List.take_length] at hB;clear hll;obtain ⟨m0,hm0⟩:∃m0,ze8 (List.replicate (l.length + 1) 0,[]) 0 l=m0:=⟨_,rfl⟩;have hsm:Small (ze8 (List.replicate (l.length + 1) 0,[]) 0 l).1 200000:=fun x hx=>by
     have:=zg4 l (List.replicate (l.length + 1) 0,[]) 0 0 (by omega) (fun y hy=>by rw [List.mem_replicate] at hy;omega) x hx;omega
    have hmo:Hid (zhF l=m0.1):=Lib.hid (by rw [zhF,hm0]);rw [hm0] at hB hsm;clear hm0;go_wp2_with fail
    go_loopw [63] (fun vi wx=>∃j:Nat,vi = .int .i64 j∧j≤l.length∧Bk wx w.heap.size (lvs (zeK m0.1 j)).toArray 3∧Bk wx (w.heap.size + 1) #[.slice (some ⟨w.heap.size,0,none⟩) (l.length + 1) (l.length + 1)] 32∧Below w.heap.size w wx) (fun vi _=>l.length-(intOf vi).toNat)
    case atStart=>exact ⟨0,rfl,Nat.zero_le _,hB.more,hB.var,hB.below⟩
    case round =>
     obtain ⟨j,rfl,hj,hM,hV,hbx⟩:=hrel;by_cases hjl:j<l.length
     · have hdj:(j:Int)<(l.length:Int):=by omega
       have hlp:(zeK m0.1 j).length=l.length + 1:=by rw [zhP];exact hB.len
       have p0:=zix hM (i:=j) (by omega);have p1:=zix hM (i:=j + 1) (by omega);have pf:=hM.fz (j + 1);have v0:=hV.cell';obtain ⟨hs1,hs2⟩:=zlo hsm (by omega) j;obtain ⟨hb1,hb1'⟩:=zfP hs1 (by omega) j;obtain ⟨hb2,hb2'⟩:=zfP hs1 (by omega) (j + 1);have hps:Hid (zeK m0.1 (j + 1)=(zeK m0.1 j).set (j + 1) ((zeK m0.1 j).getD (j + 1) 0 + (zeK m0.1 j).getD j 0)):=Lib.hid rfl;have hls:=Lib.hid (hM.set (j + 1) (.int .i64 ((zeK m0.1 j).getD (j + 1) 0 + (zeK m0.1 j).getD j 0)));obtain ⟨z1,hz1⟩:∃z,(zeK m0.1 j).getD j 0=z:=⟨_,rfl⟩;obtain ⟨z2,hz2⟩:∃z,(zeK m0.1 j).getD (j + 1) 0=z:=⟨_,rfl⟩;rw [hz1] at p0 hb1 hb1' hps hls;rw [hz2] at p1 hb2 hb2' hps hls;clear hz1 hz2 hs1 hs2;have hji:(j:Int)<(l.length:Int) + 1:=by omega
       have hji2:(j:Int) + 1<(l.length:Int) + 1:=by omega
       go_upto_region 24 with (fail)
       go_region
       go_wp2_with fail
       refine ⟨⟨j + 1,by go_num,by omega,?_,hV.other (a:=⟨w.heap.size,j + 1,none⟩) (by show w.heap.size + 1≠w.heap.size;omega) _,(hbx.setCell (Nat.le_refl _) _).drew⟩,by simp [intOf];omega⟩;rw [hps.out,←zjv];exact hls.out
     · obtain rfl:j=l.length:=by omega
       have hdj:¬(((l.length:Nat):Int)<(l.length:Int)):=by omega
       go_wp2_with fail
       go_ret
       exact ⟨rfl,by rw [hmo.out];exact hM,hV,hbx⟩
theorem zjd {w:World} {g b:Nat} {l:List OpI} (hm:Bk w g (lvs (zeK (zhF l) l.length)).toArray 3) (hv:Bk w b #[.slice (some ⟨g,0,none⟩) (l.length + 1) (l.length + 1)] 32) {i:Nat} (hi:i<l.length) :
 Calls Tryz.prog 135 #[.int .i64 (i:Int),.pointer (some ⟨b,0,none⟩)] w fun e w'=>e = .returned (.bool (zaT l i))∧w'=w:=by
 have c0:=hv.cell';have hlen:(zeK (zhF l) l.length).length=l.length + 1:=by rw [zhP,zhF,mrun_len,List.length_replicate]
 have c1:=zix hm (i:=i) (by omega);have hii:(i:Int)<((l.length + 1:Nat):Int):=by omega
 have hii2:(i:Int)<(l.length:Int) + 1:=by omega
 obtain ⟨z,hz⟩:∃z,(zeK (zhF l) l.length).getD i 0=z:=⟨_,rfl⟩;have hbe:Hid (zaT l i=decide (0<z)):=Lib.hid (by rw [zaT,hz]);rw [hz] at c1;clear hz hlen;go_enter Tryz.func135,Tryz.ntmps135
 go_wp2_with fail
 go_ret
 rw [hbe.out];exact ⟨rfl,rfl⟩
end Go.Proofs.YtahegpfdbgbioaaGreat
