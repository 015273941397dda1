import Derived.Test.YtmblgnddgmfkhaaGreatK20
set_option maxRecDepth 100000
set_option maxHeartbeats 4000000
namespace Go.Proofs.YtmblgnddgmfkhaaGreat
section
open Go.RowKit Go.Maps
theorem ziu (w:World):(zeroValue 3).run Tryz.prog w = .ok (.int .i64 0) w:=by kernel_rfl
theorem named_any {w:World} {R c b:Nat} {A:Option Addr} {K:List (TypA × RelA)} {t:TypA} {r:RelA} {o:OpI} (hK:Rd w w.heap.size 6 A K.length c (zed K)) (hM:MapS w b (zal K)) (hok:∀x ∈ K,x.2.ok w R) (hr:r.ok w R) (ht:t.name.size≤R) (ho:o.2.1.size≤R∧o.2.2.size≤R)
 (hR:R≤140737488351232) (hf:∀x ∈ K,x.2.subs.length≤100000) (hf2:r.subs.length≤100000) :
 Calls Tryz.prog 123 #[.agg #[.slice A K.length c,.map (some b)],.agg #[.string t.name,.slice t.A t.rels.length t.c],.agg #[.string r.name,.string r.view,.string r.edit,.string r.check,.slice r.As r.subs.length r.cs,.slice r.Ao r.ops.length r.co],.agg #[.int .i64 o.1,.string o.2.1,.string o.2.2]] w fun e w' =>
  (∃A2 c2,e = .returned (.slice A2 (zdh (zal K) (K.map fun x=>x.2.says) t.name r.subs o).length c2)∧Rd w' w'.heap.size 1 A2 (zdh (zal K) (K.map fun x=>x.2.says) t.name r.subs o).length c2 (ints (zdh (zal K) (K.map fun x=>x.2.says) t.name r.subs o)))∧Below w.heap.size w w':=by
 obtain ⟨nm,L⟩:∃nm,zdh (zal K) (K.map fun x=>x.2.says) t.name r.subs o=nm:=⟨_,rfl⟩;rw [L];replace L:=Lib.hid L;obtain ⟨i0,aq,ar,au,av⟩:=info_parts zfp;have aw:(zal K).length=K.length:=by simp [zal]
 replace aw:=Lib.hid aw;have bg:=hK.cap;have bf:=hK.capm;go_enter Tryz.func123,Tryz.ntmps123
 go_upto_region 2 with (fail)
 have n:Below w.heap.size w ((((w.alloc (.cells #[.slice A K.length c,.map (some b)] 217)).alloc (.cells #[.string t.name,.slice t.A t.rels.length t.c] 199)).alloc (.cells #[.string r.name,.string r.view,.string r.edit,.string r.check,.slice r.As r.subs.length r.cs,.slice r.Ao r.ops.length r.co] 203)).alloc (.cells #[.int .i64 o.1,.string o.2.1,.string o.2.2] 222)):=((((Below.refl _ w).alloc (yaj _) _).alloc yaf _).alloc yag _).alloc yag _;have d0:=((Bk.new w #[.slice A K.length c,.map (some b)] 217).alloc (.cells #[.string t.name,.slice t.A t.rels.length t.c] 199)).alloc (.cells #[.string r.name,.string r.view,.string r.edit,.string r.check,.slice r.As r.subs.length r.cs,.slice r.Ao r.ops.length r.co] 203) |>.alloc (.cells #[.int .i64 o.1,.string o.2.1,.string o.2.2] 222);have d1:=((Bk.new (w.alloc (.cells #[.slice A K.length c,.map (some b)] 217)) #[.string t.name,.slice t.A t.rels.length t.c] 199).alloc (.cells #[.string r.name,.string r.view,.string r.edit,.string r.check,.slice r.As r.subs.length r.cs,.slice r.Ao r.ops.length r.co] 203)).alloc (.cells #[.int .i64 o.1,.string o.2.1,.string o.2.2] 222);have d2:=(Bk.new ((w.alloc (.cells #[.slice A K.length c,.map (some b)] 217)).alloc (.cells #[.string t.name,.slice t.A t.rels.length t.c] 199)) #[.string r.name,.string r.view,.string r.edit,.string r.check,.slice r.As r.subs.length r.cs,.slice r.Ao r.ops.length r.co] 203).alloc (.cells #[.int .i64 o.1,.string o.2.1,.string o.2.2] 222)
 have d3:=Bk.new (((w.alloc (.cells #[.slice A K.length c,.map (some b)] 217)).alloc (.cells #[.string t.name,.slice t.A t.rels.length t.c] 199)).alloc (.cells #[.string r.name,.string r.view,.string r.edit,.string r.check,.slice r.As r.subs.length r.cs,.slice r.Ao r.ops.length r.co] 203)) #[.int .i64 o.1,.string o.2.1,.string o.2.2] 222;simp only [World.size_alloc] at d1 d2 d3;generalize (((w.alloc (.cells #[.slice A K.length c,.map (some b)] 217)).alloc (.cells #[.string t.name,.slice t.A t.rels.length t.c] 199)).alloc (.cells #[.string r.name,.string r.view,.string r.edit,.string r.check,.slice r.As r.subs.length r.cs,.slice r.Ao r.ops.length r.co] 203)).alloc (.cells #[.int .i64 o.1,.string o.2.1,.string o.2.2] 222)=E at *
 have a0:=d0.cell 0;have a1:=d0.cell 1;have b0:=d1.cell 0;have b1:=d1.cell 1;obtain ⟨r0,r1,r2,r3,r4,r5⟩:E.cell? ⟨w.heap.size + 1 + 1,0,none⟩=some (.string r.name)∧E.cell? ⟨w.heap.size + 1 + 1,1,none⟩=some (.string r.view)∧E.cell? ⟨w.heap.size + 1 + 1,2,none⟩=some (.string r.edit)∧E.cell? ⟨w.heap.size + 1 + 1,3,none⟩=some (.string r.check)∧E.cell? ⟨w.heap.size + 1 + 1,4,none⟩=some (.slice r.As r.subs.length r.cs)∧E.cell? ⟨w.heap.size + 1 + 1,5,none⟩=some (.slice r.Ao r.ops.length r.co):=⟨d2.cell 0,d2.cell 1,d2.cell 2,d2.cell 3,d2.cell 4,d2.cell 5⟩;have o0:=d3.cell 0;have o1:=d3.cell 1;have o2:=d3.cell 2;have q:=n;by_cases V:o.1=1
 · have e1:(o.1 == 1)=true:=by simpa using V
   obtain ⟨ps,B⟩:∃ps,zec (zal K) (K.map fun x=>x.2.says) t.name r.subs o=ps:=⟨_,rfl⟩;have g:zfb r.subs=ps:=by rw [←B];unfold zec;rw [yan V]
   have a2:∀p ∈ ps,SmP p:=fun p I=>by
    rw [←g] at I;have:=hr.subz p (ya4.1 I).1;exact ⟨by simp only [maxLen];omega,by simp only [maxLen];omega⟩
   have al:ps.length≤100000:=by rw [←g];exact yay (yba _ _) hf2
   have kS:=sets_any (w:=E) (nm:=r.name) (vi:=r.view) (ed:=r.edit) (ch:=r.check) (vo:=.slice r.Ao r.ops.length r.co) ⟨_,_,_,rfl⟩ ((hr.subs.below n).more n.size) hf2;rw [g] at kS;clear g;replace B:=Lib.hid B;go_upto_region 12 with (go_at_call 173;refine kS.mono ?_;rintro e wq ⟨⟨Ap,cp,rfl,a6⟩,ax⟩)
   have hP:Rd wq wq.heap.size 2 Ap ps.length cp (zb9 ps):=by obtain ⟨A9,c9,e9,ay⟩:=Rd.own a6;cases e9;exact ay
   have q:=n.trans (ax.mono n.size);have a7:=d0.below ax;clear a0 a1 b0 b1 r0 r1 r2 r3 r4 r5 o0 o1 o2 d0 d1 d2 d3 n kS ax a6;clear V e1;have a8:=q.size;have a1:=a7.cell 1;have b3:(ps.length:Int)≤9223372036854775807:=by omega
   have aa:=hM.below q;go_wp2_with fail
   go_loopw [12,55] (fun v vi Z=>∃j:Nat,vi = .int .i64 j∧j≤ps.length∧Z.ownsRow wq.heap.size 3 1 v ((ps.take j).filterMap (zat (zal K))).length (ints ((ps.take j).filterMap (zat (zal K))))∧Below wq.heap.size wq Z) (fun _ vi _=>ps.length-(intOf vi).toNat)
   case atStart=>exact ⟨0,rfl,yao _,World.ownsRow_nil _ _ _ _,Below.refl _ _⟩
   case round =>
    obtain ⟨j,rfl,hj,U,u⟩:=hrel;obtain ⟨A3,c3,rfl,M⟩:=Rd.own U;by_cases ab:j<ps.length
    · have ac:(j:Int)<(ps.length:Int):=by omega
      obtain ⟨p,I⟩:∃p,ps[j]? = some p:=⟨_,yal ab⟩;have y:=a2 p (yaq I);obtain ⟨bp,op,rfl,b4,q0,q1⟩:=zdU (hP.below u) I rfl;have b5:((ps.take j).filterMap (zat (zal K))).length≤j:=yay (ycy _ _) (by rw [yaN];omega);have ad:=u.size;have F:=U.alloc (.cells #[.string p.1,.string p.2] 246);have f:=u.alloc ad (.cells #[.string p.1,.string p.2] 246);have x1:=Bk.new wr #[.string p.1,.string p.2] 246;go_upto_region 15 with (fail)
      clear q0 q1 U u;generalize wr.alloc (.cells #[.string p.1,.string p.2] 246)=w1 at *
      have q0:=x1.cell 0;have q1:=x1.cell 1;have b6:=zaj a1 f;have N:=(aa.below f).1;have D:=zd5 y.1 y.2;obtain ⟨hh,G⟩:=zcI hM.2 y;have C:Hid ((ps.take (j + 1)).filterMap (zat (zal K))=(ps.take j).filterMap (zat (zal K)) ++ (zat (zal K) p).toList):=Lib.hid (by
       rw [yaC,I,yaO,List.filterMap_append];cases z:zat (zal K) p <;> simp [z])
      have G:=Lib.hid G;cases z:zat (zal K) p with
      | none =>
       rw [z] at hh C;have z:=Lib.hid z;go_wp2_with (at_lookup;refine wpList_lookup_own_ok_int _ rfl _ _ 215 rfl 246 3 .i64 zd6 Tryz.underlying215 Tryz.underlying3 (ziu _) b (zal K).length _ rfl N _ _ rfl D ?_;intro cc m P)
       refine ⟨⟨j + 1,by go_num,by omega,?_,f⟩,by simp [intOf];omega⟩;rw [C.out,Option.toList_none,yaK];exact F
      | some i =>
       rw [z] at hh C;have b7:=(yap.1 (zcf z)).1;have z:=Lib.hid z;go_wp2_with (first
        | (at_lookup;refine wpList_lookup_own_ok_int _ rfl _ _ 215 rfl 246 3 .i64 zd6 Tryz.underlying215 Tryz.underlying3 (ziu _) b (zal K).length _ rfl N _ _ rfl D ?_;intro cc m P;have Q:cc=(i:Int):=by { have h9:=(G.out _).symm.trans m;rw [z.out] at h9;cases h9;rfl };subst Q)
        | (at_builtin;go_loud (refine zab _ rfl (.tmp 67) (.tmp 69) 146 146 rfl wq.heap.size 3 i0 (.int .i64 0) 1 8 Tryz.underlying146 aq ar au av rfl yac (.slice A3 ((ps.take j).filterMap (zat (zal K))).length c3) _ _ rfl (F.alloc _) _ 1 [.int .i64 (i:Int)] rfl (Src.ofSlice _ Tryz.underlying146 _ 1 1 _ rfl (zbH _ _ _) (zet [i])) yad yab (size_alloc f.size) ?_;intro v9 w8 H ae am)))
       refine ⟨⟨j + 1,by go_num,by omega,?_,zae (f.alloc f.size _) ae (F.alloc _) (size_alloc f.size) (yaj _)⟩,by simp [intOf];omega⟩;rw [C.out,yaO,yam,zfr];exact H
    · obtain rfl:j=ps.length:=by omega
      have ac:¬(((ps.length:Nat):Int)<(ps.length:Int)):=by omega
      rw [yaz] at U M;have O:Hid (nm=ps.filterMap (zat (zal K))):=Lib.hid (by rw [←L.out,zdh,B.out]);go_wp2_with fail
      go_ret
      rw [O.out];exact ⟨⟨A3,c3,rfl,M⟩,q.trans (u.mono a8)⟩
 · by_cases h2:o.1=2
   · have e1:(o.1 == 1)=false:=by simpa using V
     have e2:(o.1 == 2)=true:=by simpa using h2
     obtain ⟨ps,B⟩:∃ps,zec (zal K) (K.map fun x=>x.2.says) t.name r.subs o=ps:=⟨_,rfl⟩;have g:ps=[(t.name,o.2.1)]:=by rw [←B];unfold zec;rw [yak V,yan h2]
     have a2:∀p ∈ ps,SmP p:=fun p I=>by
      rw [g,yav] at I;subst I;exact ⟨by simp only [maxLen];omega,by simp only [maxLen];omega⟩
     have b8:∀W:World,Rd (W.alloc (.cells #[.string t.name,.string o.2.1] 246)) (W.alloc (.cells #[.string t.name,.string o.2.1] 246)).heap.size 2 (some ⟨W.heap.size,0,none⟩) ps.length 1 (zb9 ps):=fun W=>by
      rw [g];exact Rd.litX W _ _ 1 2 _ rfl rfl (by simp [maxLen])
     have an:Hid (ps.length=1):=Lib.hid (by rw [g];rfl);have al:ps.length≤100000:=by have:=an.out;omega
     clear g;replace B:=Lib.hid B;have hP:=b8 E;have q:=n.alloc n.size (.cells #[.string t.name,.string o.2.1] 246);have a7:=d0.alloc (.cells #[.string t.name,.string o.2.1] 246);go_upto_region 11 with (fail)
     clear a0 a1 b0 b1 r0 r1 r2 r3 r4 r5 o0 o1 o2 d0 d1 d2 d3 n b8;generalize E.alloc (.cells #[.string t.name,.string o.2.1] 246)=wq at *
     obtain ⟨Ap,cp,hv,hP⟩:∃Ap cp,(Value.slice (some ⟨E.heap.size,0,none⟩) 1 1) = .slice Ap ps.length cp∧Rd wq wq.heap.size 2 Ap ps.length cp (zb9 ps):=⟨_,1,by rw [an.out],hP⟩;rw [hv];clear hv V h2 e1 e2;go_upto_region 12 with (fail)
     have a8:=q.size;have a1:=a7.cell 1;have b3:(ps.length:Int)≤9223372036854775807:=by omega
     have aa:=hM.below q;go_wp2_with fail
     go_loopw [12,55] (fun v vi Z=>∃j:Nat,vi = .int .i64 j∧j≤ps.length∧Z.ownsRow wq.heap.size 3 1 v ((ps.take j).filterMap (zat (zal K))).length (ints ((ps.take j).filterMap (zat (zal K))))∧Below wq.heap.size wq Z) (fun _ vi _=>ps.length-(intOf vi).toNat)
     case atStart=>exact ⟨0,rfl,yao _,World.ownsRow_nil _ _ _ _,Below.refl _ _⟩
     case round =>
      obtain ⟨j,rfl,hj,U,u⟩:=hrel;obtain ⟨A3,c3,rfl,M⟩:=Rd.own U;by_cases ab:j<ps.length
      · have ac:(j:Int)<(ps.length:Int):=by omega
        obtain ⟨p,I⟩:∃p,ps[j]? = some p:=⟨_,yal ab⟩;have y:=a2 p (yaq I);obtain ⟨bp,op,rfl,b4,q0,q1⟩:=zdU (hP.below u) I rfl;have b5:((ps.take j).filterMap (zat (zal K))).length≤j:=yay (ycy _ _) (by rw [yaN];omega);have ad:=u.size;have F:=U.alloc (.cells #[.string p.1,.string p.2] 246);have f:=u.alloc ad (.cells #[.string p.1,.string p.2] 246);have x1:=Bk.new wr #[.string p.1,.string p.2] 246;go_upto_region 15 with (fail)
        clear q0 q1 U u;generalize wr.alloc (.cells #[.string p.1,.string p.2] 246)=w1 at *
        have q0:=x1.cell 0;have q1:=x1.cell 1;have b6:=zaj a1 f;have N:=(aa.below f).1;have D:=zd5 y.1 y.2;obtain ⟨hh,G⟩:=zcI hM.2 y;have C:Hid ((ps.take (j + 1)).filterMap (zat (zal K))=(ps.take j).filterMap (zat (zal K)) ++ (zat (zal K) p).toList):=Lib.hid (by
         rw [yaC,I,yaO,List.filterMap_append];cases z:zat (zal K) p <;> simp [z])
        have G:=Lib.hid G;cases z:zat (zal K) p with
        | none =>
         rw [z] at hh C;have z:=Lib.hid z;go_wp2_with (at_lookup;refine wpList_lookup_own_ok_int _ rfl _ _ 215 rfl 246 3 .i64 zd6 Tryz.underlying215 Tryz.underlying3 (ziu _) b (zal K).length _ rfl N _ _ rfl D ?_;intro cc m P)
         refine ⟨⟨j + 1,by go_num,by omega,?_,f⟩,by simp [intOf];omega⟩;rw [C.out,Option.toList_none,yaK];exact F
        | some i =>
         rw [z] at hh C;have b7:=(yap.1 (zcf z)).1;have z:=Lib.hid z;go_wp2_with (first
          | (at_lookup;refine wpList_lookup_own_ok_int _ rfl _ _ 215 rfl 246 3 .i64 zd6 Tryz.underlying215 Tryz.underlying3 (ziu _) b (zal K).length _ rfl N _ _ rfl D ?_;intro cc m P;have Q:cc=(i:Int):=by { have h9:=(G.out _).symm.trans m;rw [z.out] at h9;cases h9;rfl };subst Q)
          | (at_builtin;go_loud (refine zab _ rfl (.tmp 67) (.tmp 69) 146 146 rfl wq.heap.size 3 i0 (.int .i64 0) 1 8 Tryz.underlying146 aq ar au av rfl yac (.slice A3 ((ps.take j).filterMap (zat (zal K))).length c3) _ _ rfl (F.alloc _) _ 1 [.int .i64 (i:Int)] rfl (Src.ofSlice _ Tryz.underlying146 _ 1 1 _ rfl (zbH _ _ _) (zet [i])) yad yab (size_alloc f.size) ?_;intro v9 w8 H ae am)))
         refine ⟨⟨j + 1,by go_num,by omega,?_,zae (f.alloc f.size _) ae (F.alloc _) (size_alloc f.size) (yaj _)⟩,by simp [intOf];omega⟩;rw [C.out,yaO,yam,zfr];exact H
      · obtain rfl:j=ps.length:=by omega
        have ac:¬(((ps.length:Nat):Int)<(ps.length:Int)):=by omega
        rw [yaz] at U M;have O:Hid (nm=ps.filterMap (zat (zal K))):=Lib.hid (by rw [←L.out,zdh,B.out]);go_wp2_with fail
        go_ret
        rw [O.out];exact ⟨⟨A3,c3,rfl,M⟩,q.trans (u.mono a8)⟩
   · by_cases h3:o.1=3
     · have e1:(o.1 == 1)=false:=by simpa using V
       have e2:(o.1 == 2)=false:=by simpa using h2
       have e3:(o.1 == 3)=true:=by simpa using h3
       have az:SmP (t.name,o.2.1):=⟨by simp only [maxLen];omega,by simp only [maxLen];omega⟩;have b9:=(hM.below n).1;have af:=zd5 az.1 az.2;obtain ⟨ah,ag⟩:=zcI hM.2 az;have ag:=Lib.hid ag;cases J:zat (zal K) (t.name,o.2.1) with
       | none =>
        have g:Hid (nm=[]):=Lib.hid (by rw [←L.out,zdh,zec,yak V,yak h2,yan h3,J];rfl);rw [J] at ah;replace J:=Lib.hid J;go_upto_region 12 with (at_lookup;refine wpList_lookup_own_ok_int _ rfl _ _ 215 rfl 246 3 .i64 zd6 Tryz.underlying215 Tryz.underlying3 (ziu _) b (zal K).length _ rfl b9 _ _ rfl af ?_;intro cc m P)
        clear V h2 h3 e1 e2 e3 ah m;go_wp2_with fail
        go_loopw [12,55] (fun v vi Z=>v = .slice none 0 0∧vi = .int .i64 0∧Z=E) (fun _ _ _=>0)
        case atStart=>exact ⟨rfl,rfl,rfl⟩
        case round =>
         obtain ⟨rfl,rfl,T⟩:=hrel;have T:=T.symm;subst T;go_wp2_with fail
         go_ret
         rw [g.out];exact ⟨⟨none,0,rfl,Rd.none_ _ _ _⟩,n⟩
       | some i =>
        have ba:=(yap.1 (zcf J)).1;rw [aw.out] at ba;obtain ⟨x,hx⟩:∃x,K[i]? = some x:=⟨_,yal ba⟩;have b2:=yaq hx;obtain ⟨ps,B⟩:∃ps,zec (zal K) (K.map fun x=>x.2.says) t.name r.subs o=ps:=⟨_,rfl⟩;have g:zbR x.2.subs o.2.2=ps:=by
         rw [←B];unfold zec;rw [yak V,yak h2,yan h3,J];simp only [yaY,hx,ybG];rfl
        have ao:=hok x b2;have a2:∀p ∈ ps,SmP p:=fun p I=>by
         rw [←g] at I;unfold zbR at I;obtain ⟨s,hs,rfl⟩:=yaH.1 I;have:=ao.subz s (ya4.1 hs).1;exact ⟨by simp only [maxLen];omega,by simp only [maxLen];omega⟩
        have al:ps.length≤100000:=by
         rw [←g];unfold zbR;rw [yax];exact yay (yba _ _) (hf x b2)
        obtain ⟨X,Y,gA,bh,gc⟩:=hK.at_ yab;have gg:=fun k (hk:k<6)=>zbf (fun x:TypA × RelA=>x.2.cells) (sz:=6) (fun _=>rfl) hx (k:=k) hk;have ai:∀W,Below w.heap.size w W→W.cell? ⟨X,Y + i * 6,none⟩=some (.string x.2.name)∧W.cell? ⟨X,Y + i * 6 + 1,none⟩=some (.string x.2.view)∧W.cell? ⟨X,Y + i * 6 + 2,none⟩=some (.string x.2.edit)∧W.cell? ⟨X,Y + i * 6 + 3,none⟩=some (.string x.2.check)∧W.cell? ⟨X,Y + i * 6 + 4,none⟩=some (.slice x.2.As x.2.subs.length x.2.cs)∧W.cell? ⟨X,Y + i * 6 + 5,none⟩=some (.slice x.2.Ao x.2.ops.length x.2.co):=fun W hW =>
         ⟨zaj (gc _ _ (gg 0 yab)) hW,by rw [ya7];exact zaj (gc _ _ (gg 1 yab)) hW,by rw [ya7];exact zaj (gc _ _ (gg 2 yab)) hW,by rw [ya7];exact zaj (gc _ _ (gg 3 yab)) hW,by rw [ya7];exact zaj (gc _ _ (gg 4 yab)) hW,by rw [ya7];exact zaj (gc _ _ (gg 5 yab)) hW⟩
        have kN:∀W,Below E.heap.size E W→Calls Tryz.prog 174 #[.agg #[.string x.2.name,.string x.2.view,.string x.2.edit,.string x.2.check,.slice x.2.As x.2.subs.length x.2.cs,.slice x.2.Ao x.2.ops.length x.2.co],.string o.2.2] W fun e w'=>(∃A' c',e = .returned (.slice A' ps.length c')∧w'.ownsRow W.heap.size 246 2 (.slice A' ps.length c') ps.length (zb9 ps))∧Below W.heap.size W w':=fun W hW=>by
         have bb:=n.trans (hW.mono n.size);have:=nexts_any (w:=W) (nm:=x.2.name) (vi:=x.2.view) (ed:=x.2.edit) (ch:=x.2.check) (vo:=.slice x.2.Ao x.2.ops.length x.2.co) o.2.2 ⟨_,_,_,rfl⟩ ((ao.subs.below bb).more bb.size) (hf x b2);rw [g] at this;exact this
        have bi:(i:Int)<(K.length:Int):=by omega
        rw [J] at ah;replace J:=Lib.hid J;replace hx:=Lib.hid hx;clear g gg;replace B:=Lib.hid B;replace kN:=Lib.hid kN;replace ai:=Lib.hid ai;subst gA;go_upto_region 10 with (at_lookup;refine wpList_lookup_own_ok_int _ rfl _ _ 215 rfl 246 3 .i64 zd6 Tryz.underlying215 Tryz.underlying3 (ziu _) b (zal K).length _ rfl b9 _ _ rfl af ?_;intro cc m P;have Q:cc=(i:Int):=by { have h9:=(ag.out _).symm.trans m;rw [J.out] at h9;cases h9;rfl };subst Q)
        have hSc:∀W:World,Below E.heap.size E W→W.cell? ⟨w.heap.size,0,none⟩=some (.slice (some ⟨X,Y,none⟩) K.length c)∧W.cell? ⟨w.heap.size + 1 + 1 + 1,2,none⟩=some (.string o.2.2)∧W.cell? ⟨X,Y + i * 6,none⟩=some (.string x.2.name)∧W.cell? ⟨X,Y + i * 6 + 1,none⟩=some (.string x.2.view)∧W.cell? ⟨X,Y + i * 6 + 2,none⟩=some (.string x.2.edit)∧W.cell? ⟨X,Y + i * 6 + 3,none⟩=some (.string x.2.check)∧W.cell? ⟨X,Y + i * 6 + 4,none⟩=some (.slice x.2.As x.2.subs.length x.2.cs)∧W.cell? ⟨X,Y + i * 6 + 5,none⟩=some (.slice x.2.Ao x.2.ops.length x.2.co):=fun W h=>⟨zaj a0 h,zaj o2 h,ai.out W (n.trans (h.mono n.size))⟩;clear V h2 h3 e1 e2 e3 ah m;have aj:Below E.heap.size E E.drew:=(Below.refl _ _).drew;refine wp_region_any yaa ?_;change wpAny _ _ _ _ _ _ _ (World.drew _);refine wpAny_of_held (S:=fun W=>Below E.heap.size E W) _ _ _ _ ?_;refine zaa 0 (some 45) yai ?_ (hy:=zu8);refine zaa 1 (some 46) yai ?_ (hy:=zu8);refine zaa 2 (some 47) yai ?_ (hy:=zu8);refine zaa 3 (some 48) yai ?_ (hy:=zu8);refine zaa 4 (some 49) yai ?_ (hy:=zu8);refine zaa 5 (some 50) yai ?_ (hy:=zu8);refine zaa 6 (some 51) yai ?_ (hy:=zu8);refine zaS 7 rfl yaa ?_;intro K9 bc;go_simp;refine (kN.out _ aj).mono ?_;rintro e4 wq ⟨⟨Ap,cp,rfl,a6⟩,bd⟩;have ak:Below E.heap.size E wq:=aj.trans (bd.mono aj.size);refine bc _ _ ak ?_
        clear bc K9 bd;refine zaa 8 (some 9) yai ?_;refine wpAnyH_done yaa ?_ _;go_upto_region 12 with (fail)
        have hP:Rd wq wq.heap.size 2 Ap ps.length cp (zb9 ps):=by obtain ⟨A9,c9,e9,ay⟩:=Rd.own a6;cases e9;exact ay
        have q:=n.trans (ak.mono n.size);have a7:=d0.below ak;clear a0 a1 b0 b1 r0 r1 r2 r3 r4 r5 o0 o1 o2 d0 d1 d2 d3 n a6 hSc aj ak ai;have a8:=q.size;have a1:=a7.cell 1;have b3:(ps.length:Int)≤9223372036854775807:=by omega
        have aa:=hM.below q;go_wp2_with fail
        go_loopw [12,55] (fun v vi Z=>∃j:Nat,vi = .int .i64 j∧j≤ps.length∧Z.ownsRow wq.heap.size 3 1 v ((ps.take j).filterMap (zat (zal K))).length (ints ((ps.take j).filterMap (zat (zal K))))∧Below wq.heap.size wq Z) (fun _ vi _=>ps.length-(intOf vi).toNat)
        case atStart=>exact ⟨0,rfl,yao _,World.ownsRow_nil _ _ _ _,Below.refl _ _⟩
        case round =>
         obtain ⟨j,rfl,hj,U,u⟩:=hrel;obtain ⟨A3,c3,rfl,M⟩:=Rd.own U;by_cases ab:j<ps.length
         · have ac:(j:Int)<(ps.length:Int):=by omega
           obtain ⟨p,I⟩:∃p,ps[j]? = some p:=⟨_,yal ab⟩;have y:=a2 p (yaq I);obtain ⟨bp,op,rfl,b4,q0,q1⟩:=zdU (hP.below u) I rfl;have b5:((ps.take j).filterMap (zat (zal K))).length≤j:=yay (ycy _ _) (by rw [yaN];omega);have ad:=u.size;have F:=U.alloc (.cells #[.string p.1,.string p.2] 246);have f:=u.alloc ad (.cells #[.string p.1,.string p.2] 246);have x1:=Bk.new wr #[.string p.1,.string p.2] 246;go_upto_region 15 with (fail)
           clear q0 q1 U u;generalize wr.alloc (.cells #[.string p.1,.string p.2] 246)=w1 at *
           have q0:=x1.cell 0;have q1:=x1.cell 1;have b6:=zaj a1 f;have N:=(aa.below f).1;have D:=zd5 y.1 y.2;obtain ⟨hh,G⟩:=zcI hM.2 y;have C:Hid ((ps.take (j + 1)).filterMap (zat (zal K))=(ps.take j).filterMap (zat (zal K)) ++ (zat (zal K) p).toList):=Lib.hid (by
            rw [yaC,I,yaO,List.filterMap_append];cases z:zat (zal K) p <;> simp [z])
           have G:=Lib.hid G;cases z:zat (zal K) p with
           | none =>
            rw [z] at hh C;have z:=Lib.hid z;go_wp2_with (at_lookup;refine wpList_lookup_own_ok_int _ rfl _ _ 215 rfl 246 3 .i64 zd6 Tryz.underlying215 Tryz.underlying3 (ziu _) b (zal K).length _ rfl N _ _ rfl D ?_;intro cc m P)
            refine ⟨⟨j + 1,by go_num,by omega,?_,f⟩,by simp [intOf];omega⟩;rw [C.out,Option.toList_none,yaK];exact F
           | some i =>
            rw [z] at hh C;have b7:=(yap.1 (zcf z)).1;have z:=Lib.hid z;go_wp2_with (first
             | (at_lookup;refine wpList_lookup_own_ok_int _ rfl _ _ 215 rfl 246 3 .i64 zd6 Tryz.underlying215 Tryz.underlying3 (ziu _) b (zal K).length _ rfl N _ _ rfl D ?_;intro cc m P;have Q:cc=(i:Int):=by { have h9:=(G.out _).symm.trans m;rw [z.out] at h9;cases h9;rfl };subst Q)
             | (at_builtin;go_loud (refine zab _ rfl (.tmp 67) (.tmp 69) 146 146 rfl wq.heap.size 3 i0 (.int .i64 0) 1 8 Tryz.underlying146 aq ar au av rfl yac (.slice A3 ((ps.take j).filterMap (zat (zal K))).length c3) _ _ rfl (F.alloc _) _ 1 [.int .i64 (i:Int)] rfl (Src.ofSlice _ Tryz.underlying146 _ 1 1 _ rfl (zbH _ _ _) (zet [i])) yad yab (size_alloc f.size) ?_;intro v9 w8 H ae am)))
            refine ⟨⟨j + 1,by go_num,by omega,?_,zae (f.alloc f.size _) ae (F.alloc _) (size_alloc f.size) (yaj _)⟩,by simp [intOf];omega⟩;rw [C.out,yaO,yam,zfr];exact H
         · obtain rfl:j=ps.length:=by omega
           have ac:¬(((ps.length:Nat):Int)<(ps.length:Int)):=by omega
           rw [yaz] at U M;have O:Hid (nm=ps.filterMap (zat (zal K))):=Lib.hid (by rw [←L.out,zdh,B.out]);go_wp2_with fail
           go_ret
           rw [O.out];exact ⟨⟨A3,c3,rfl,M⟩,q.trans (u.mono a8)⟩
     · have e1:(o.1 == 1)=false:=by simpa using V
       have e2:(o.1 == 2)=false:=by simpa using h2
       have e3:(o.1 == 3)=false:=by simpa using h3
       have g:Hid (nm=[]):=Lib.hid (by rw [←L.out,zdh,zec,yak V,yak h2,yak h3];rfl);go_wp2_with fail
       go_loopw [12,55] (fun v vi Z=>v = .slice none 0 0∧vi = .int .i64 0∧Z=E) (fun _ _ _=>0)
       case atStart=>exact ⟨rfl,rfl,rfl⟩
       case round =>
        obtain ⟨rfl,rfl,T⟩:=hrel;have T:=T.symm;subst T;go_wp2_with fail
        go_ret
        rw [g.out];exact ⟨⟨none,0,rfl,Rd.none_ _ _ _⟩,n⟩
end
section
open Go.RowKit
variable {w wx:World} {n c i:Nat} {A:Option Addr} {v:Value} {l:List OpI} {m:List Int} {s:List Int × List Nat}
theorem own_pre {B:Nat} {e:TypeId} {m:Nat} {xs:List Value} (h:w.ownsRow B e 1 (.slice A n c) n xs) (hm:m≤n) (hn:0<n):w.ownsRow B e 1 (.slice A m c) m (xs.take m):=by
 rcases h.2 with ⟨k,y⟩ | ⟨g,cap,b,k,hb,o,q,f,j,s⟩
 · omega
 · injection k with u _ x
   subst u x;refine ⟨by rw [yaN,h.1];omega,.inr ⟨g,c,b,rfl,hb,o,by omega,f,j,?_⟩⟩;rw [←s,List.take_take];congr 1
   omega
theorem ops_at {B:Nat} (h:Rd w B 3 A n c (l.flatMap aOp)) {o:OpI} (hi:l[i]? = some o) (hn:n=l.length) :
 ∃b k,A=some ⟨b,k,none⟩∧b<B∧w.cell? ⟨b,k + i * 3,none⟩=some (.int .i64 o.1)∧w.cell? ⟨b,k + i * 3 + 1,none⟩=some (.string o.2.1)∧w.cell? ⟨b,k + i * 3 + 2,none⟩=some (.string o.2.2):=by
 subst hn;obtain ⟨b,k,e,hb,f⟩:=h.at_ (zd8 hi);have g:=fun j (m:j<3)=>zbf aOp (sz:=3) (fun _=>rfl) hi (k:=j) m;exact ⟨b,k,e,hb,f _ _ (g 0 yab),by rw [ya7];exact f _ _ (g 1 yab),by rw [ya7];exact f _ _ (g 2 yab)⟩
theorem zkV {g:Nat} (h:Bk w g (lvs m).toArray 3) (hi:i<m.length):w.cell? ⟨g,i,none⟩=some (.int .i64 (m.getD i 0)):=by
 rw [h.cell i,ya2,yal hi];simp [lvs,hi]
theorem zgX {k:Int} (h:Small m k) (hk:0≤k) (i:Nat) : -k≤m.getD i 0∧m.getD i 0≤k:=by
 rw [ya2];cases hi:m[i]? with
 | none=>simp;omega
 | some y=>have:=h y (yaq hi);simpa using this
structure BI (w wx:World) (n:Nat) (s:List Int × List Nat) (v:Value):Prop where
 more:Bk wx w.heap.size (lvs s.1).toArray 3
 var:Bk wx (w.heap.size + 1) #[.slice (some ⟨w.heap.size,0,none⟩) (n + 1) (n + 1)] 146
 beg:wx.ownsRow (w.heap.size + 2) 3 1 v s.2.length (ints s.2)
 below:Below w.heap.size w wx
 len:s.1.length=n + 1
theorem BI.alloc (h:BI w wx n s v) (o:Obj):BI w (wx.alloc o) n s v:=⟨h.more.alloc o,h.var.alloc o,h.beg.alloc o,h.below.alloc h.below.size o,h.len⟩
theorem BI.drew (h:BI w wx n s v):BI w wx.drew n s v:=⟨h.more,h.var,own_drew h.beg,h.below.drew,h.len⟩
theorem BI.add {d:Int} (h:BI w wx n s v):BI w (wx.setCell ⟨w.heap.size,i,none⟩ (.int .i64 (s.1.getD i 0 + d))) n (zfU s.1 i d,s.2) v:=by
 refine ⟨?_,h.var.other (a:=⟨w.heap.size,i,none⟩) (by show w.heap.size + 1≠w.heap.size;omega) _,own_set h.beg (by show w.heap.size<_;omega) _,h.below.setCell (yaj _) _,by rw [zg0];exact h.len⟩;have:=h.more.set i (.int .i64 (s.1.getD i 0 + d));rw [zmj] at this;exact this
theorem BI.app {w1 w8:World} {j:Nat} {bg:List Nat} {v9:Value} {o:Obj} (h:BI w w1 n (m,bg) v) (hg:(w1.alloc o).grownBy w8 v.ownBlock) (hown:w8.ownsRow (w.heap.size + 2) 3 1 v9 (bg.length + 1) (ints bg ++ [.int .i64 (j:Int)])):BI w w8 n (m,bg ++ [j]) v9:=by
 have hb:=h.beg.alloc o;have b:=hg.size;simp only [World.size_alloc] at b;have k:∀g,g<w.heap.size + 2→g<w1.heap.size→w8.heap[g]? = w1.heap[g]?:=fun g q f=>(hg.block g yag fun e=>by have:=(hb.lt g e.symm).1;omega).trans (Below.heap_alloc _ _ _ f);refine ⟨(k _ yab h.more.lt).trans h.more,(k _ yab h.var.lt).trans h.var,?_,zae (h.below.alloc h.below.size o) hg hb (size_alloc h.below.size) yab,h.len⟩;show w8.ownsRow _ _ _ v9 (bg ++ [j]).length (ints (bg ++ [j]));rw [yam,zfr];exact hown
theorem BI.cut {k:Nat} {s:List Int} {bg:List Nat} (h:BI w wx n (s,bg) (.slice A bg.length c)) (hk:k≤bg.length) (h0:0<bg.length):BI w wx n (s,bg.take k) (.slice A k c):=by
 refine ⟨h.more,h.var,?_,h.below,h.len⟩;have:=own_pre h.beg hk h0;show wx.ownsRow _ _ _ _ (bg.take k).length (ints (bg.take k));rw [yaN,ybT hk];unfold ints at *
 rw [List.map_take];exact this
theorem behindNotOf_any (h:Rd w w.heap.size 3 A l.length c (l.flatMap aOp)) (hl:l.length≤100000) :
 Calls Tryz.prog 122 #[.slice A l.length c] w fun e w'=>e = .returned (.func (.func 172) #[] #[.pointer (some ⟨w.heap.size + 1,0,none⟩)]) ∧
  Bk w' w.heap.size (lvs (zgD (zkY l) l.length)).toArray 3∧Bk w' (w.heap.size + 1) #[.slice (some ⟨w.heap.size,0,none⟩) (l.length + 1) (l.length + 1)] 146∧Below w.heap.size w w':=by
 obtain ⟨i0,a6,M,C,q⟩:=info_parts zfp;have an:∀W:World,(Instr.makeSlice 146 (.int .i64 ((l.length:Int) + 1)) (.int .i64 ((l.length:Int) + 1))).run Tryz.prog W = .ok (.slice (some ⟨W.heap.size,0,none⟩) (l.length + 1) (l.length + 1)) (W.alloc (.cells (lvs (List.replicate (l.length + 1) 0)).toArray 3)):=fun W=>by
  have:=run_make (P:=Tryz.prog) W 146 3 i0 _ Tryz.underlying146 a6 M .i64 .i64 (l.length + 1) ((l.length:Int) + 1) yab yab (by rw [q];omega) yab;have e1:((l.length:Int) + 1).toNat=l.length + 1:=by omega
  rw [e1,C,yb4] at this;rw [this];congr 3
  apply ycU;show (madeCells #[.int .i64 0] (l.length + 1)).toList=_;rw [toList_madeCells_one];simp [lvs]
 go_enter Tryz.func122,Tryz.ntmps122
 go_wp2_with fail
 have a7:Below w.heap.size w ((w.alloc (.cells (lvs (List.replicate (l.length + 1) 0)).toArray 3)).alloc (.cells #[.slice (some ⟨w.heap.size,0,none⟩) (l.length + 1) (l.length + 1)] 146)):=((Below.refl _ w).alloc (yaj _) _).alloc yaf _;have d0:=(Bk.new w (lvs (List.replicate (l.length + 1) 0)).toArray 3).alloc (.cells #[.slice (some ⟨w.heap.size,0,none⟩) (l.length + 1) (l.length + 1)] 146);have d1:=Bk.new (w.alloc (.cells (lvs (List.replicate (l.length + 1) 0)).toArray 3)) #[.slice (some ⟨w.heap.size,0,none⟩) (l.length + 1) (l.length + 1)] 146;simp only [World.size_alloc] at d1;generalize (w.alloc (.cells (lvs (List.replicate (l.length + 1) 0)).toArray 3)).alloc (.cells #[.slice (some ⟨w.heap.size,0,none⟩) (l.length + 1) (l.length + 1)] 146)=w0 at *
 have ao:BI w w0 l.length (List.replicate (l.length + 1) 0,[]) (.slice none 0 0):=⟨d0,d1,World.ownsRow_nil _ _ _ _,a7,by simp⟩;have aq:(l.length:Int)≤9223372036854775807:=by omega
 clear an d0 d1 a7;go_loopw [4,15] (fun v N wx=>∃j:Nat,N = .int .i64 j∧j≤l.length∧BI w wx l.length (zi3 (List.replicate (l.length + 1) 0,[]) 0 (l.take j)) v) (fun _ N _=>l.length-(intOf N).toNat)
 case atStart=>exact ⟨0,rfl,yao _,ao⟩
 case round =>
  obtain ⟨j,rfl,hj,H⟩:=hrel;by_cases a8:j<l.length
  · have O:(j:Int)<(l.length:Int):=by omega
    obtain ⟨⟨k,on,ox⟩,ho⟩:∃o,l[j]? = some o:=⟨_,yal a8⟩;obtain ⟨b,o,rfl,bb,c0,c1,c2⟩:=ops_at (h.below H.below) ho rfl;have s:Hid (zi3 (List.replicate (l.length + 1) 0,[]) 0 (l.take (j + 1))=zcQ (zi3 (List.replicate (l.length + 1) 0,[]) 0 (l.take j)) j k):=Lib.hid (by
     rw [yaC,ho,yaO,zqU,yaN,yaI,ybT (by omega)])
    have B:Small (zi3 (List.replicate (l.length + 1) 0,[]) 0 (l.take j)).1 200000:=fun x hx=>by
     have:=zi4 (l.take j) (List.replicate (l.length + 1) 0,[]) 0 0 yab (fun y hy=>by rw [List.mem_replicate] at hy;omega) x hx;rw [yaN] at this;omega
    have I:=mrun_lt (l.take j) (List.replicate (l.length + 1) 0,[]) 0 (fun b hb=>by cases hb);rw [yaN,ybT yab,yaI] at I;have Q:=mrun_beg (l.take j) (List.replicate (l.length + 1) 0,[]) 0;rw [yaN,ybT yab,yaE,yaI] at Q;obtain ⟨⟨m,g⟩,aa⟩:∃st,zi3 (List.replicate (l.length + 1) 0,[]) 0 (l.take j)=st:=⟨_,rfl⟩;rw [aa] at H s B I Q;clear aa;simp only at B I Q;have f:=H.alloc (.cells #[.int .i64 k,.string on,.string ox] 222);have x1:=Bk.new wr #[.int .i64 k,.string on,.string ox] 222;obtain ⟨A3,c3,rfl,R⟩:=Rd.own H.beg;have ab:=R.cap;have ar:=R.capm;simp only at ab;clear R;go_upto_region 6 with (fail)
    clear c0 c1 c2;generalize hq1:wr.heap.size=q1 at *
    generalize wr.alloc (.cells #[.int .i64 k,.string on,.string ox] 222)=w1 at *
    have y0:=x1.cell 0;have bc:=f.below.size;have au:w.heap.size + 2≤w1.heap.size:=by have:=f.var.lt;omega
    by_cases hk:k=1∨k=2∨k=3
    · have n:Hid (zcQ (m,g) j k=(m,g ++ [j])):=Lib.hid (by unfold zcQ;rw [yan hk]);rcases hk with rfl | rfl | rfl;all_goals
       go_wp2_with (at_builtin;go_loud (refine zab _ rfl (.tmp 29) (.tmp 31) 146 146 rfl (w.heap.size + 2) 3 i0 (.int .i64 0) 1 8 Tryz.underlying146 a6 M C q rfl yac (.slice A3 g.length c3) g.length (ints g) rfl (f.beg.alloc _) _ 1 [.int .i64 (j:Int)] rfl (Src.ofSlice _ Tryz.underlying146 _ 1 1 _ rfl (zbH _ _ _) (zet [j])) yad yab (size_alloc au) ?_;intro v9 w8 T av b6))
       exact ⟨⟨j + 1,by go_num,by omega,by rw [s.out,n.out];exact f.app av T⟩,by simp [intOf];omega⟩
    · have bd:(k == 1)=false:=by simp;omega
      have bf:(k == 2)=false:=by simp;omega
      have bh:(k == 3)=false:=by simp;omega
      by_cases D:k=4∨k=5∨k=6
      · by_cases h2:g.length<2
        · have n:Hid (zcQ (m,g) j k=(m,g)):=Lib.hid (by unfold zcQ;rw [yak hk,yan D,yan h2]);have aw:(g.length:Int)-1<1:=by omega
          rcases D with rfl | rfl | rfl;all_goals
           go_wp2_with fail
           exact ⟨⟨j + 1,by go_num,by omega,by rw [s.out,n.out];exact f⟩,by simp [intOf];omega⟩
        · obtain ⟨nn,bi⟩:∃nn:Nat,(g.length:Int)-1=(nn:Int):=⟨g.length-1,by omega⟩;have E:g.length-1=nn:=by omega
          have aw:¬((nn:Int)<1):=by omega
          have bj:(nn:Int)≤(c3:Int):=by omega
          have ac:nn≤g.length:=by omega
          have ad:0<g.length:=by omega
          have U:=Lib.hid (f.cut ac ad);by_cases J:k=6
          · subst J;obtain ⟨p,hp⟩:∃p,g[nn]? = some p:=⟨_,yal yab⟩;have bl:=I p (yaq hp);have ax:=f.len;simp only at ax;have n:Hid (zcQ (m,g) j 6=(zfU (zfU m p 1) j (-1),g.take nn)):=Lib.hid (by
             unfold zcQ;rw [yak hk,yan D,yak h2,yan rfl];simp only [E];rw [ya2,hp];rfl)
            replace E:=Lib.hid E;obtain ⟨A4,c4,e4,ay⟩:=Rd.own f.beg;injection e4 with e4 _ az
            subst e4 az;obtain ⟨ob,oo,u,rfl,_,hu,bm⟩:=ay.get (k:=nn) (by simp only;omega);have b0:u = .int .i64 (p:Int):=by
             simp only [ints,yaY,hp,ybG,yaT] at hu;exact hu.symm
            subst b0;have V:=zkV f.more (i:=p) (by simp only;omega);simp only at V;have ae:=f.more.fz p;have af:=f.var.cell';have bn:(p:Int)<(l.length:Int) + 1:=by omega
            have bo:(nn:Int)<(g.length:Int):=by omega
            have ag:=zgX B yab p;obtain ⟨z,hz⟩:∃z,m.getD p 0=z:=⟨_,rfl⟩;rw [hz] at V ag;obtain ⟨M,C⟩:=ag;have F:=f.add (i:=p) (d:=1);simp only [hz] at F;replace F:=Lib.hid F;clear hz;go_upto_region 17 with (fail)
            go_region
            have G:=Lib.hid F.out.drew;clear V ae af F;generalize (World.setCell w1 ⟨w.heap.size,p,none⟩ (.int .i64 (z + 1))).drew=w2 at *
            have b7:(zfU m p 1).length=l.length + 1:=G.out.len;have ah:=zkV G.out.more (i:=j) (by show j<(zfU m p 1).length;omega);simp only at ah;have L:Small (zfU m p 1) 200001:=zeZ B p 1 yab yab;obtain ⟨q,b1⟩:=zgX L yab j;obtain ⟨z2,X⟩:∃z,(zfU m p 1).getD j 0=z:=⟨_,rfl⟩;have K:=G.out.add (i:=j) (d:=-1);have ae:=G.out.more.fz j;have af:=G.out.var.cell';simp only [X] at K;rw [X] at ah q b1;replace K:=Lib.hid K;clear X L;have bp:(j:Int)<(l.length:Int) + 1:=by omega
            go_wp2_with fail
            refine ⟨⟨j + 1,by go_num,by omega,?_⟩,by simp [intOf];omega⟩;rw [s.out,n.out];have ai:=K.out;rw [←Int.sub_eq_add_neg] at ai;clear U;have hc:nn=(g.take nn).length:=by rw [yaN];omega
            exact ai.cut ac ad
          · have n:Hid (zcQ (m,g) j k=(m,g.take nn)):=Lib.hid (by unfold zcQ;rw [yak hk,yan D,yak h2,yak J];simp only [E]);replace E:=Lib.hid E;have aj:(k == 6)=false:=by simpa using J
            rcases D with rfl | rfl | rfl
            · go_wp2_with fail
              exact ⟨⟨j + 1,by go_num,by omega,by rw [s.out,n.out];exact U.out⟩,by simp [intOf];omega⟩
            · go_wp2_with fail
              exact ⟨⟨j + 1,by go_num,by omega,by rw [s.out,n.out];exact U.out⟩,by simp [intOf];omega⟩
            · exact absurd rfl J
      · have n:Hid (zcQ (m,g) j k=(m,g)):=Lib.hid (by unfold zcQ;rw [yak hk,yak D]);have b8:(k == 4)=false:=by simp;omega
        have b9:(k == 5)=false:=by simp;omega
        have aj:(k == 6)=false:=by simp;omega
        go_wp2_with fail
        exact ⟨⟨j + 1,by go_num,by omega,by rw [s.out,n.out];exact f⟩,by simp [intOf];omega⟩
  · obtain rfl:j=l.length:=by omega
    have O:¬(((l.length:Nat):Int)<(l.length:Int)):=by omega
    rw [yaz] at H;clear aq;obtain ⟨m0,Y⟩:∃m0,zi3 (List.replicate (l.length + 1) 0,[]) 0 l=m0:=⟨_,rfl⟩;have B:Small (zi3 (List.replicate (l.length + 1) 0,[]) 0 l).1 200000:=fun x hx=>by
     have:=zi4 l (List.replicate (l.length + 1) 0,[]) 0 0 yab (fun y hy=>by rw [List.mem_replicate] at hy;omega) x hx;omega
    have b2:Hid (zkY l=m0.1):=Lib.hid (by rw [zkY,Y]);rw [Y] at H B;clear Y;go_wp2_with fail
    go_loopw [63] (fun N wx=>∃j:Nat,N = .int .i64 j∧j≤l.length∧Bk wx w.heap.size (lvs (zgD m0.1 j)).toArray 3∧Bk wx (w.heap.size + 1) #[.slice (some ⟨w.heap.size,0,none⟩) (l.length + 1) (l.length + 1)] 146∧Below w.heap.size w wx) (fun N _=>l.length-(intOf N).toNat)
    case atStart=>exact ⟨0,rfl,yao _,H.more,H.var,H.below⟩
    case round =>
     obtain ⟨j,rfl,hj,hM,hV,ak⟩:=hrel;by_cases a8:j<l.length
     · have O:(j:Int)<(l.length:Int):=by omega
       have bq:(zgD m0.1 j).length=l.length + 1:=by rw [znL];exact H.len
       have p0:=zkV hM (i:=j) yab;have p1:=zkV hM (i:=j + 1) yab;have pf:=hM.fz (j + 1);have v0:=hV.cell';obtain ⟨Z,b3⟩:=zoT B yab j;obtain ⟨b4,al⟩:=zgX Z yab j;obtain ⟨b5,am⟩:=zgX Z yab (j + 1);have a1:Hid (zgD m0.1 (j + 1)=(zgD m0.1 j).set (j + 1) ((zgD m0.1 j).getD (j + 1) 0 + (zgD m0.1 j).getD j 0)):=Lib.hid rfl;have a2:=Lib.hid (hM.set (j + 1) (.int .i64 ((zgD m0.1 j).getD (j + 1) 0 + (zgD m0.1 j).getD j 0)));obtain ⟨z1,C⟩:∃z,(zgD m0.1 j).getD j 0=z:=⟨_,rfl⟩;obtain ⟨z2,q⟩:∃z,(zgD m0.1 j).getD (j + 1) 0=z:=⟨_,rfl⟩;rw [C] at p0 b4 al a1 a2;rw [q] at p1 b5 am a1 a2;clear C q Z b3;have br:(j:Int)<(l.length:Int) + 1:=by omega
       have ba:(j:Int) + 1<(l.length:Int) + 1:=by omega
       go_upto_region 24 with (fail)
       go_region
       go_wp2_with fail
       refine ⟨⟨j + 1,by go_num,by omega,?_,hV.other (a:=⟨w.heap.size,j + 1,none⟩) (by show w.heap.size + 1≠w.heap.size;omega) _,(ak.setCell (yaj _) _).drew⟩,by simp [intOf];omega⟩;rw [a1.out,←zmj];exact a2.out
     · obtain rfl:j=l.length:=by omega
       have O:¬(((l.length:Nat):Int)<(l.length:Int)):=by omega
       go_wp2_with fail
       go_ret
       exact ⟨rfl,by rw [b2.out];exact hM,hV,ak⟩
theorem zlM {g b:Nat} (hm:Bk w g (lvs (zgD (zkY l) l.length)).toArray 3) (hv:Bk w b #[.slice (some ⟨g,0,none⟩) (l.length + 1) (l.length + 1)] 146) (hi:i<l.length) :
 Calls Tryz.prog 172 #[.int .i64 (i:Int),.pointer (some ⟨b,0,none⟩)] w fun e w'=>e = .returned (.bool (zco l i))∧w'=w:=by
 have q:=hv.cell';have f:(zgD (zkY l) l.length).length=l.length + 1:=by rw [znL,zkY,mrun_len,ybQ]
 have n:=zkV hm (i:=i) yab;have o:(i:Int)<((l.length + 1:Nat):Int):=by omega
 have m:(i:Int)<(l.length:Int) + 1:=by omega
 obtain ⟨z,j⟩:∃z,(zgD (zkY l) l.length).getD i 0=z:=⟨_,rfl⟩;have k:Hid (zco l i=decide (0<z)):=Lib.hid (by rw [zco,j]);rw [j] at n;clear j f;go_enter Tryz.func172,Tryz.ntmps172
 go_wp2_with fail
 go_ret
 rw [k.out];exact ⟨rfl,rfl⟩
end
end Go.Proofs.YtmblgnddgmfkhaaGreat
