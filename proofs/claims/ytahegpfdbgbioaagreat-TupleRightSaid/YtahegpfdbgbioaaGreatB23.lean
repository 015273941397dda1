import Derived.Test.YtahegpfdbgbioaaGreatB22
set_option maxRecDepth 100000
set_option maxHeartbeats 4000000
namespace Go.Proofs.YtahegpfdbgbioaaGreat
open Go.RowKit
def atA (l:List TypA) (id:Int):Option (TypA × RelA):=if 0≤id then (relsA l)[id.toNat]? else none
def relZ:RelA:=⟨⟨#[]⟩,⟨#[]⟩,⟨#[]⟩,⟨#[]⟩,none,0,[],none,0,[]⟩
theorem set6Z {w w0:World} {B b:Nat} {t:TypeId} {x0 x1 x2 x3 x4 x5:Value} (h:Bk w0 b #[x0,x1,x2,x3,x4,x5] t) (hb:Below B w w0) (hB:B≤b) (v0 v1 v2 v3 v4 v5:Value) :
 Bk ((((((w0.setCell ⟨b,0,none⟩ v0).setCell ⟨b,1,none⟩ v1).setCell ⟨b,2,none⟩ v2).setCell ⟨b,3,none⟩ v3).setCell ⟨b,4,none⟩ v4).setCell ⟨b,5,none⟩ v5) b #[v0,v1,v2,v3,v4,v5] t ∧
 Below B w ((((((w0.setCell ⟨b,0,none⟩ v0).setCell ⟨b,1,none⟩ v1).setCell ⟨b,2,none⟩ v2).setCell ⟨b,3,none⟩ v3).setCell ⟨b,4,none⟩ v4).setCell ⟨b,5,none⟩ v5) :=
 ⟨by
  have hw:=(((((h.set 0 v0).set 1 v1).set 2 v2).set 3 v3).set 4 v4).set 5 v5;simp only [List.setIfInBounds_toArray,List.set_cons_zero,List.set_cons_succ] at hw;exact hw,(((((hb.setCell hB _).setCell hB _).setCell hB _).setCell hB _).setCell hB _).setCell hB _⟩
theorem zbG {B:Nat} {w w':World} (hb:Below B w w') {b i:Nat} (hl:b<B) {v:Value} (h:w.cell? ⟨b,i,none⟩=some v):w'.cell? ⟨b,i,none⟩=some v:=by
 exact (hb.cell (p:=⟨b,i,none⟩) hl).trans h
section
variable {w:World} {R c:Nat} {A:Option Addr} {l:List TypA} {AL:Option Addr} {nL cL:Nat}
theorem len11_any (h:SchA w R A c l) (hn96:(relsA l).length≤96):Calls Tryz.prog 14 #[.agg #[.slice A l.length c,.slice AL nL cL]] w fun e w'=>e = .returned (.int .i64 ((relsA l).length:Nat))∧Below w.heap.size w w':=by
 have hll:(l.length:Int)≤9223372036854775807:=by have:=h.rows.cap;have:=h.rows.capm;simp only [maxLen] at this;omega
 have hb0:=zb0 w (.cells #[.slice A l.length c,.slice AL nL cL] 34);have d0:=Bk.new w #[.slice A l.length c,.slice AL nL cL] 34;have h0:=h.up hb0;go_enter Tryz.func14,Tryz.ntmps14
 go_upto_region 1 with (fail)
 generalize w.alloc (.cells #[.slice A l.length c,.slice AL nL cL] 34)=w0 at *
 go_wp2_with fail
 go_loopw [3,4] (fun vn vi wx=>∃i:Nat,vi = .int .i64 i∧vn = .int .i64 ((relsA (l.take i)).length:Nat)∧i≤l.length∧Hid (wx=w0)) (fun _ vi _=>l.length-(intOf vi).toNat)
 case atStart=>exact ⟨0,rfl,rfl,Nat.zero_le _,Lib.hid rfl⟩
 case round =>
  obtain ⟨i,rfl,rfl,hi,hwx⟩:=hrel;have hwx2:=hwx.out;subst hwx2;obtain ⟨x0,x1⟩:=d0.c2;have xl:=d0.lt;by_cases hil:i<l.length
  · have hdi:(i:Int)<(l.length:Int):=by omega
    obtain ⟨t,ht⟩:∃t,l[i]? = some t:=⟨_,List.getElem?_eq_getElem hil⟩;obtain ⟨g,o,rfl,g0,g1,hk⟩:=h0.get ht;have lg:=World.block_lt_of_cell? _ _ g0;dsimp only at lg;have hsn:=congrArg List.length (zbE ht);rw [List.length_append,List.length_map] at hsn;have hle:=zdb (l:=l) (i + 1);rw [hsn] at hle;have hle2:(relsA (l.take i)).length + t.rels.length≤96:=Nat.le_trans hle hn96;generalize (relsA (l.take i)).length=n at *
    replace hsn:=Lib.hid hsn;clear hle ht;go_wp2_with fail
    exact ⟨⟨i + 1,by go_num,by rw [hsn.out];go_num,by omega,Lib.hid trivial⟩,by simp [intOf];omega⟩
  · obtain rfl:i=l.length:=by omega
    have hdi:¬(((l.length:Nat):Int)<(l.length:Int)):=by omega
    rw [List.take_length];go_wp2_with fail
    go_ret
    exact ⟨rfl,hb0⟩
theorem id11_any (h:SchA w R A c l) (hR:Right (l.map TypA.says)) (ty re:ByteArray):Calls Tryz.prog 26 #[.agg #[.slice A l.length c,.slice AL nL cL],.string ty,.string re] w fun e w'=>e = .returned (.int .i64 (zdk (zap (l.map TypA.says)) (ty,re)))∧Below w.heap.size w w':=by
 have hb0:=zb0 w (.cells #[.slice A l.length c,.slice AL nL cL] 34);have ka:=number_any (h.up hb0) hR ty re;generalize zdk (zap (l.map TypA.says)) (ty,re)=r at *
 go_enter Tryz.func26,Tryz.ntmps26
 go_wp2_with (go_at_call 65;refine ka.mono ?_;rintro e w1 ⟨rfl,hb1⟩)
 go_ret
 exact ⟨rfl,zad hb0 hb0.size hb1⟩
def zjN (x:RelA):Value:=.agg #[.string x.name,.string x.view,.string x.edit,.string x.check,.slice x.As x.subs.length x.cs,.slice x.Ao x.ops.length x.co]
def zfA:Option (TypA × RelA)→Value
 | some (t,x)=>.tuple #[.string t.name,zjN x,.bool true]
 | none=>.tuple #[.string ⟨#[]⟩,zjN relZ,.bool false]
theorem atA_in {l:List TypA} {i k:Nat} {t:TypA} {x:RelA} (ht:l[i]? = some t) (hx:t.rels[k]? = some x):atA l (((relsA (l.take i)).length:Nat) + (k:Int))=some (t,x):=by
 have hk:k<t.rels.length:=(List.getElem?_eq_some_iff.1 hx).1;have e:(((relsA (l.take i)).length:Nat) + (k:Int)).toNat=(relsA (l.take i)).length + k:=by omega
 unfold atA;rw [if_pos (by omega),e];have h1:relsA l=relsA (l.take i) ++ ((t.rels.map fun r=>(t,r)) ++ relsA (l.drop (i + 1))):=by
  unfold relsA;conv=>lhs;rw [←List.take_append_drop i l,List.flatMap_append,List.drop_eq_getElem_cons (List.getElem?_eq_some_iff.1 ht).1,List.flatMap_cons,(List.getElem?_eq_some_iff.1 ht).2]
 rw [h1,List.getElem?_append_right (by omega),Nat.add_sub_cancel_left,List.getElem?_append_left (by rw [List.length_map];exact hk),List.getElem?_map,hx];rfl
theorem rel11_any (h:SchA w R A c l) (hn96:(relsA l).length≤96) (id:Int) (hid:(Lit.int .i64 id).wf=true):Calls Tryz.prog 20 #[.agg #[.slice A l.length c,.slice AL nL cL],.int .i64 id] w fun e w'=>e = .returned (zfA (atA l id))∧Below w.heap.size w w':=by
 have hll:(l.length:Int)≤9223372036854775807:=by have:=h.rows.cap;have:=h.rows.capm;simp only [maxLen] at this;omega
 have hb0:=(zb0 w (.cells #[.slice A l.length c,.slice AL nL cL] 34)).alloc (size_alloc (Nat.le_refl _)) (.cells #[.string ⟨#[]⟩,.string ⟨#[]⟩,.string ⟨#[]⟩,.string ⟨#[]⟩,.slice none 0 0,.slice none 0 0] 48);have d0:=(Bk.new w #[.slice A l.length c,.slice AL nL cL] 34).alloc (.cells #[.string ⟨#[]⟩,.string ⟨#[]⟩,.string ⟨#[]⟩,.string ⟨#[]⟩,.slice none 0 0,.slice none 0 0] 48);have z0:=Bk.new2 w (.cells #[.slice A l.length c,.slice AL nL cL] 34) #[.string ⟨#[]⟩,.string ⟨#[]⟩,.string ⟨#[]⟩,.string ⟨#[]⟩,.slice none 0 0,.slice none 0 0] 48;have h0:=h.up hb0;obtain ⟨v,hv⟩:∃v,zfA (atA l id)=v:=⟨_,rfl⟩;rw [hv];replace hv:=Lib.hid hv;go_enter Tryz.func20,Tryz.ntmps20
 go_upto_region 1 with (fail)
 generalize (w.alloc (.cells #[.slice A l.length c,.slice AL nL cL] 34)).alloc (.cells #[.string ⟨#[]⟩,.string ⟨#[]⟩,.string ⟨#[]⟩,.string ⟨#[]⟩,.slice none 0 0,.slice none 0 0] 48)=w0 at *
 obtain ⟨y0,y1,y2,y3,y4,y5⟩:=z0.c6;have zl:=z0.lt;have zf:=z0.fz;have zkD:=fun v0 v1 v2 v3 v4 v5=>set6Z z0 hb0 (Nat.le_succ _) v0 v1 v2 v3 v4 v5;by_cases h1:id<0
 · have g1:decide (id<0)=true:=decide_eq_true h1;obtain rfl:v=zfA none:=by rw [←hv.out,atA,if_neg (by omega)]
   clear hv;go_wp2_with fail
   obtain ⟨hw,hb⟩:=zkD (.string ⟨#[]⟩) (.string ⟨#[]⟩) (.string ⟨#[]⟩) (.string ⟨#[]⟩) (.slice none 0 0) (.slice none 0 0);obtain ⟨x0,x1,x2,x3,x4,x5⟩:=hw.c6;refine bodyPost_ret (v:=zfA none) (by simp [results,Tryz.results20,go_sem,x0,x1,x2,x3,x4,x5,zfA,zjN,relZ];try rfl) rfl ?_;exact ⟨rfl,hb⟩
 · have g1:decide (id<0)=false:=decide_eq_false h1;go_wp2_with fail
   obtain ⟨m0,rfl⟩:∃m:Nat,id=m:=⟨id.toNat,by omega⟩;have hm0:(m0:Int)≤9223372036854775807:=by simp [Lit.wf] at hid;omega
   go_loopw [1,7] (fun vn vi wx=>∃i m:Nat,vi = .int .i64 i∧vn = .int .i64 m∧i≤l.length∧(relsA (l.take i)).length + m=m0∧Hid (wx=w0)) (fun _ vi _=>l.length-(intOf vi).toNat)
   case atStart=>exact ⟨0,m0,rfl,rfl,Nat.zero_le _,by simp [relsA],Lib.hid rfl⟩
   case round =>
    obtain ⟨i,m,rfl,rfl,hi,hm,hwx⟩:=hrel;have hwx2:=hwx.out;subst hwx2;obtain ⟨x0,x1⟩:=d0.c2;have xl:=d0.lt;by_cases hil:i<l.length
    · have hdi:(i:Int)<(l.length:Int):=by omega
      obtain ⟨t,ht⟩:∃t,l[i]? = some t:=⟨_,List.getElem?_eq_getElem hil⟩;obtain ⟨g,o,rfl,g0,g1',hk⟩:=h0.get ht;obtain ⟨g2,o2,e2,g02,_,hk2⟩:=h.get ht;cases e2;have lg2:g<w.heap.size + 1:=Nat.lt_succ_of_lt (World.block_lt_of_cell? _ _ g02);have lg:=World.block_lt_of_cell? _ _ g0;dsimp only at lg;have hsn:=congrArg List.length (zbE ht);rw [List.length_append,List.length_map] at hsn;by_cases hmt:m<t.rels.length
      · obtain ⟨x,hx⟩:∃x,t.rels[m]? = some x:=⟨_,List.getElem?_eq_getElem hmt⟩;have hval:=atA_in ht hx;rw [show (((relsA (l.take i)).length:Nat):Int) + (m:Int)=(m0:Int) by omega] at hval;obtain rfl:v=zfA (some (t,x)):=by rw [←hv.out,hval]
        obtain ⟨gr,og,eA,r0,r1,r2,r3,r4,r5,hxo⟩:=hk.get hx;obtain ⟨gr2,og2,eA2,r02,_⟩:=hk2.get hx;rw [eA] at eA2 g1';cases eA2;have lr2:gr<w.heap.size + 1:=Nat.lt_succ_of_lt (World.block_lt_of_cell? _ _ r02);have lr:=World.block_lt_of_cell? _ _ r0;dsimp only at lr;have hdm:(m:Int)<(t.rels.length:Int):=by omega
        clear hsn hval hv ht hx;go_upto_region 7 with (fail)
        refine wp_region_any (by kernel_rfl) ?_;change wpAny _ _ _ _ _ _ _ (World.drew _);generalize hdw:World.drew wr=wz;have hbd:Below wr.heap.size wr wz:=by subst hdw;exact ⟨rfl,rfl,rfl,Nat.le_refl _,fun _ _=>rfl⟩
        have HS:(fun W:World=>W.cell? ⟨w.heap.size,0,none⟩=some (.slice (some ⟨g,o,none⟩) l.length c)∧W.cell? ⟨g,o + i * 2,none⟩=some (.string t.name)∧W.cell? ⟨g,o + i * 2 + 1,none⟩=some (.slice (some ⟨gr,og,none⟩) t.rels.length t.c)∧W.cell? ⟨gr,og + m * 6,none⟩=some (.string x.name)∧W.cell? ⟨gr,og + m * 6 + 1,none⟩=some (.string x.view)∧W.cell? ⟨gr,og + m * 6 + 2,none⟩=some (.string x.edit)∧W.cell? ⟨gr,og + m * 6 + 3,none⟩=some (.string x.check)∧W.cell? ⟨gr,og + m * 6 + 4,none⟩=some (.slice x.As x.subs.length x.cs)∧W.cell? ⟨gr,og + m * 6 + 5,none⟩=some (.slice x.Ao x.ops.length x.co)) wz:=⟨zaq x0 hbd,zaq g0 hbd,zaq g1' hbd,zaq r0 hbd,zaq r1 hbd,zaq r2 hbd,zaq r3 hbd,zaq r4 hbd,zaq r5 hbd⟩;have hz:=z0.below hbd;have hbz:=zad hb0 hb0.size hbd;have lgz:g<wz.heap.size:=Nat.lt_of_lt_of_le lg hbd.size;have lrz:gr<wz.heap.size:=Nat.lt_of_lt_of_le lr hbd.size;have zlz:=hz.lt;have zfz:=hz.fz;obtain ⟨q0,q1,q2,q3,q4,q5⟩:=hz.c6;refine wpAny_of_held (S:=fun W=>W.cell? ⟨w.heap.size,0,none⟩=some (.slice (some ⟨g,o,none⟩) l.length c)∧W.cell? ⟨g,o + i * 2,none⟩=some (.string t.name)∧W.cell? ⟨g,o + i * 2 + 1,none⟩=some (.slice (some ⟨gr,og,none⟩) t.rels.length t.c)∧W.cell? ⟨gr,og + m * 6,none⟩=some (.string x.name)∧W.cell? ⟨gr,og + m * 6 + 1,none⟩=some (.string x.view)∧W.cell? ⟨gr,og + m * 6 + 2,none⟩=some (.string x.edit)∧W.cell? ⟨gr,og + m * 6 + 3,none⟩=some (.string x.check)∧W.cell? ⟨gr,og + m * 6 + 4,none⟩=some (.slice x.As x.subs.length x.cs)∧W.cell? ⟨gr,og + m * 6 + 5,none⟩=some (.slice x.Ao x.ops.length x.co)) _ _ _ _ ?_
        refine zac 0 (some 27) (v:=?v0) rfl rfl (by kernel_rfl) (by kernel_rfl) (by kernel_rfl) (fun _ _ _ h=>h) (by rfl) ?y0 HS ?r0;case y0=>(intro W hS;go_simp;try with_reducible rfl)
        simp only [Act.put,List.setIfInBounds_toArray,List.set_cons_zero,List.set_cons_succ];refine zac 1 (some 28) (v:=?v1) rfl rfl (by kernel_rfl) (by kernel_rfl) (by kernel_rfl) (fun _ _ _ h=>h) (by rfl) ?y1 HS ?r1;case y1=>(intro W hS;obtain ⟨s0,s1,s2,s3,s4,s5,s6,s7,s8⟩:=hS;go_simp;try with_reducible rfl)
        simp only [Act.put,List.setIfInBounds_toArray,List.set_cons_zero,List.set_cons_succ];refine zac 2 (some 29) (v:=?v2) rfl rfl (by kernel_rfl) (by kernel_rfl) (by kernel_rfl) (fun _ _ _ h=>h) (by rfl) ?y2 HS ?r2;case y2=>(intro W hS;go_simp;try with_reducible rfl)
        simp only [Act.put,List.setIfInBounds_toArray,List.set_cons_zero,List.set_cons_succ];refine zac 3 (some 30) (v:=?v3) rfl rfl (by kernel_rfl) (by kernel_rfl) (by kernel_rfl) (fun _ _ _ h=>h) (by rfl) ?y3 HS ?r3;case y3=>(intro W hS;go_simp;try with_reducible rfl)
        simp only [Act.put,List.setIfInBounds_toArray,List.set_cons_zero,List.set_cons_succ];refine zac 4 (some 31) (v:=?v4) rfl rfl (by kernel_rfl) (by kernel_rfl) (by kernel_rfl) (fun _ _ _ h=>h) (by rfl) ?y4 HS ?r4;case y4=>(intro W hS;go_simp;try with_reducible rfl)
        simp only [Act.put,List.setIfInBounds_toArray,List.set_cons_zero,List.set_cons_succ];refine zac 5 (some 32) (v:=?v5) rfl rfl (by kernel_rfl) (by kernel_rfl) (by kernel_rfl) (fun _ _ _ h=>h) (by rfl) ?y5 HS ?r5;case y5=>(intro W hS;obtain ⟨s0,s1,s2,s3,s4,s5,s6,s7,s8⟩:=hS;go_simp;try with_reducible rfl)
        simp only [Act.put,List.setIfInBounds_toArray,List.set_cons_zero,List.set_cons_succ];refine zac 6 (some 33) (v:=?v6) rfl rfl (by kernel_rfl) (by kernel_rfl) (by kernel_rfl) (fun _ _ _ h=>h) (by rfl) ?y6 HS ?r6;case y6=>(intro W hS;go_simp;try with_reducible rfl)
        simp only [Act.put,List.setIfInBounds_toArray,List.set_cons_zero,List.set_cons_succ];refine zac 7 (some 34) (v:=?v7) rfl rfl (by kernel_rfl) (by kernel_rfl) (by kernel_rfl) (fun _ _ _ h=>h) (by rfl) ?y7 HS ?r7;case y7=>(intro W hS;obtain ⟨s0,s1,s2,s3,s4,s5,s6,s7,s8⟩:=hS;go_simp;try with_reducible rfl)
        simp only [Act.put,List.setIfInBounds_toArray,List.set_cons_zero,List.set_cons_succ];refine zac 8 (some 35) (v:=?v8) rfl rfl (by kernel_rfl) (by kernel_rfl) (by kernel_rfl) (fun _ _ _ h=>h) (by rfl) ?y8 HS ?r8;case y8=>(intro W hS;go_simp;try with_reducible rfl)
        simp only [Act.put,List.setIfInBounds_toArray,List.set_cons_zero,List.set_cons_succ];refine zac 9 (some 36) (v:=?v9) rfl rfl (by kernel_rfl) (by kernel_rfl) (by kernel_rfl) (fun _ _ _ h=>h) (by rfl) ?y9 HS ?r9;case y9=>(intro W hS;go_simp;try with_reducible rfl)
        simp only [Act.put,List.setIfInBounds_toArray,List.set_cons_zero,List.set_cons_succ];refine zac 10 (some 37) (v:=?v10) rfl rfl (by kernel_rfl) (by kernel_rfl) (by kernel_rfl) (fun _ _ _ h=>h) (by rfl) ?y10 HS ?r10;case y10=>(intro W hS;go_simp;try with_reducible rfl)
        simp only [Act.put,List.setIfInBounds_toArray,List.set_cons_zero,List.set_cons_succ];refine zac 11 (some 38) (v:=?v11) rfl rfl (by kernel_rfl) (by kernel_rfl) (by kernel_rfl) (fun _ _ _ h=>h) (by rfl) ?y11 HS ?r11;case y11=>(intro W hS;obtain ⟨s0,s1,s2,s3,s4,s5,s6,s7,s8⟩:=hS;go_simp;try with_reducible rfl)
        simp only [Act.put,List.setIfInBounds_toArray,List.set_cons_zero,List.set_cons_succ];refine zac 12 (some 39) (v:=?v12) rfl rfl (by kernel_rfl) (by kernel_rfl) (by kernel_rfl) (fun _ _ _ h=>h) (by rfl) ?y12 HS ?r12;case y12=>(intro W hS;go_simp;try with_reducible rfl)
        simp only [Act.put,List.setIfInBounds_toArray,List.set_cons_zero,List.set_cons_succ];refine zac 13 (some 40) (v:=?v13) rfl rfl (by kernel_rfl) (by kernel_rfl) (by kernel_rfl) (fun _ _ _ h=>h) (by rfl) ?y13 HS ?r13;case y13=>(intro W hS;go_simp;try with_reducible rfl)
        simp only [Act.put,List.setIfInBounds_toArray,List.set_cons_zero,List.set_cons_succ];refine zac 14 (some 41) (v:=?v14) rfl rfl (by kernel_rfl) (by kernel_rfl) (by kernel_rfl) (fun _ _ _ h=>h) (by rfl) ?y14 HS ?r14;case y14=>(intro W hS;obtain ⟨s0,s1,s2,s3,s4,s5,s6,s7,s8⟩:=hS;go_simp;try with_reducible rfl)
        simp only [Act.put,List.setIfInBounds_toArray,List.set_cons_zero,List.set_cons_succ];refine zac 15 (some 4) (v:=?v15) rfl rfl (by kernel_rfl) (by kernel_rfl) (by kernel_rfl) (fun _ _ _ h=>h) (by rfl) ?y15 HS ?r15;case y15=>(intro W hS;go_simp;try with_reducible rfl)
        simp only [Act.put,List.setIfInBounds_toArray,List.set_cons_zero,List.set_cons_succ];refine za2 16 rfl (by kernel_rfl) ?_;intro Kf hKf;go_simp;have hz6:=set6Z hz hbz (Nat.le_succ _) (.string x.name) (.string x.view) (.string x.edit) (.string x.check) (.slice x.As x.subs.length x.cs) (.slice x.Ao x.ops.length x.co);have hz7:=(set6Z hz (Below.refl (w.heap.size + 1) wz) (Nat.le_refl _) (.string x.name) (.string x.view) (.string x.edit) (.string x.check) (.slice x.As x.subs.length x.cs) (.slice x.Ao x.ops.length x.co)).2;obtain ⟨s0,s1,s2,s3,s4,s5,s6,s7,s8⟩:=HS;have HS:=(And.intro (zbG hz7 (Nat.lt_succ_self _) s0) (And.intro (zbG hz7 lg2 s1) (And.intro (zbG hz7 lg2 s2) (And.intro (zbG hz7 lr2 s3) (And.intro (zbG hz7 lr2 s4) (And.intro (zbG hz7 lr2 s5) (And.intro (zbG hz7 lr2 s6) (And.intro (zbG hz7 lr2 s7) (zbG hz7 lr2 s8)))))))));refine hKf _ _ HS ?_;clear hKf Kf hz7;obtain ⟨hw,hb⟩:=hz6;refine zac 17 (some 6) (v:=?v17) rfl rfl (by kernel_rfl) (by kernel_rfl) (by kernel_rfl) (fun _ _ _ h=>h) (by rfl) ?y17 HS ?r17;case y17=>(intro W hS;go_simp;try with_reducible rfl)
        simp only [Act.put,List.setIfInBounds_toArray,List.set_cons_zero,List.set_cons_succ];refine wpAnyH_done (by kernel_rfl) ?_ _;go_wp2
        obtain ⟨p0,p1,p2,p3,p4,p5⟩:=hw.c6;refine bodyPost_ret (v:=zfA (some (t,x))) (by simp [results,Tryz.results20,go_sem,p0,p1,p2,p3,p4,p5,zfA,zjN];try rfl) rfl ?_;exact ⟨rfl,hb⟩
      · have hdm:¬(m:Int)<(t.rels.length:Int):=by omega
        clear hv ht;go_wp2_with fail
        exact ⟨⟨i + 1,m-t.rels.length,by go_num,by rw [Int.ofNat_sub (by omega)],by omega,by omega,Lib.hid trivial⟩,by simp [intOf];omega⟩
    · obtain rfl:i=l.length:=by omega
      have hdi:¬(((l.length:Nat):Int)<(l.length:Int)):=by omega
      rw [List.take_length] at hm;obtain rfl:v=zfA none:=by rw [←hv.out,atA,if_pos (by omega),List.getElem?_eq_none (by omega)]
      clear hv;go_wp2_with fail
      obtain ⟨hw,hb⟩:=zkD (.string ⟨#[]⟩) (.string ⟨#[]⟩) (.string ⟨#[]⟩) (.string ⟨#[]⟩) (.slice none 0 0) (.slice none 0 0);obtain ⟨x0,x1,x2,x3,x4,x5⟩:=hw.c6;refine bodyPost_ret (v:=zfA none) (by simp [results,Tryz.results20,go_sem,x0,x1,x2,x3,x4,x5,zfA,zjN,relZ];try rfl) rfl ?_;exact ⟨rfl,hb⟩
def relY:Option (TypA × RelA)→RelA
 | some (_,x)=>x
 | none=>relZ
theorem tellA_eq (o:Option (TypA × RelA)):∃nm b,zfA o = .tuple #[.string nm,zjN (relY o),.bool b]:=by
 rcases o with _ | ⟨t,x⟩
 · exact ⟨_,_,rfl⟩
 · exact ⟨_,_,rfl⟩
theorem zmK {l:List TypA} {t:TypA} {x:RelA} (h:(t,x) ∈ relsA l):t ∈ l∧x ∈ t.rels:=by
 obtain ⟨t',ht,hx⟩:=List.mem_flatMap.1 h;obtain ⟨x',hx',e⟩:=List.mem_map.1 hx;cases e;exact ⟨ht,hx'⟩
theorem znb (h:SchA w R A c l) (id:Int):Rd w w.heap.size 2 (relY (atA l id)).As (relY (atA l id)).subs.length (relY (atA l id)).cs ((relY (atA l id)).subs.flatMap zjU):=by
 unfold atA;split
 · cases e:(relsA l)[id.toNat]? with
   | none=>exact Rd.none_ _ _ _
   | some q =>
    obtain ⟨t,x⟩:=q;have hm:=zmK (List.mem_of_getElem? e);exact ((h.each t hm.1).relz x hm.2).subs
 · exact Rd.none_ _ _ _
theorem may11_any (h:SchA w R A c l) (hn96:(relsA l).length≤96) (id:Int) (hid:(Lit.int .i64 id).wf=true) (ty re:ByteArray):Calls Tryz.prog 24 #[.agg #[.slice A l.length c,.slice AL nL cL],.int .i64 id,.string ty,.string re] w fun e w'=>e = .returned (.bool ((relY (atA l id)).subs.any fun y=>decide (y=(ty,re))))∧Below w.heap.size w w':=by
 have hb0:=zb0 w (.cells #[.slice A l.length c,.slice AL nL cL] 34);have d0:=Bk.new w #[.slice A l.length c,.slice AL nL cL] 34;have ka:=rel11_any (AL:=AL) (nL:=nL) (cL:=cL) (h.up hb0) hn96 id hid;have hy:=znb (h.up hb0) id;obtain ⟨nm,b,e⟩:=tellA_eq (atA l id);rw [e] at ka;generalize relY (atA l id)=y at *
 clear e;obtain ⟨q,hq⟩:∃q,(y.subs.any fun y=>decide (y=(ty,re)))=q:=⟨_,rfl⟩;rw [hq];replace hq:=Lib.hid hq;go_enter Tryz.func24,Tryz.ntmps24
 go_upto_region 1 with (fail)
 generalize w.alloc (.cells #[.slice A l.length c,.slice AL nL cL] 34)=w0 at *
 obtain ⟨x0,x1⟩:=d0.c2;have xl:=d0.lt;unfold zjN at ka;go_upto_region 2 with (go_at_call 20;refine ka.mono ?_;rintro e w1 ⟨rfl,hb1⟩;have hb:=zad hb0 hb0.size hb1)
 have z2:=Bk.new w1 #[.string y.name,.string y.view,.string y.edit,.string y.check,.slice y.As y.subs.length y.cs,.slice y.Ao y.ops.length y.co] 48;have hb2:=hb.alloc hb.size (.cells #[.string y.name,.string y.view,.string y.edit,.string y.check,.slice y.As y.subs.length y.cs,.slice y.Ao y.ops.length y.co] 48);have hs:SubsA (w1.alloc (.cells #[.string y.name,.string y.view,.string y.edit,.string y.check,.slice y.As y.subs.length y.cs,.slice y.Ao y.ops.length y.co] 48)) y.As y.cs y.subs:=⟨(hy.up hb1).up (zb0 w1 _)⟩;generalize w1.alloc (.cells #[.string y.name,.string y.view,.string y.edit,.string y.check,.slice y.As y.subs.length y.cs,.slice y.Ao y.ops.length y.co] 48)=w2 at *
 have hl:(y.subs.length:Int)≤9223372036854775807:=by have:=hs.rows.cap;have:=hs.rows.capm;simp only [maxLen] at this;omega
 obtain ⟨z0,z1,z2',z3,z4,z5⟩:=z2.c6;have zl:=z2.lt;generalize y.subs=l2 at *
 obtain ⟨yA,hyA⟩:∃yA,y.As=yA:=⟨_,rfl⟩;rw [hyA] at z4 hs;clear ka hy z2;go_wp2_with fail
 go_loopw [12] (fun vi wx=>∃i:Nat,vi = .int .i64 i∧i≤l2.length∧(∀y ∈ l2.take i,decide (y=(ty,re))=false)∧Hid (wx=w2)) (fun vi _=>l2.length-(intOf vi).toNat)
 case atStart=>exact ⟨0,rfl,Nat.zero_le _,fun t ht=>(by simp at ht),Lib.hid rfl⟩
 case round =>
  obtain ⟨i,rfl,hi,hn,hwx⟩:=hrel;have hwx2:=hwx.out;subst hwx2;by_cases hil:i<l2.length
  · have hdi:(i:Int)<(l2.length:Int):=by omega
    obtain ⟨t,ht⟩:∃t,l2[i]? = some t:=⟨_,List.getElem?_eq_getElem hil⟩;obtain ⟨g,o,rfl,g0,g1⟩:=hs.get ht;have lg:=World.block_lt_of_cell? _ _ g0;dsimp only at lg;have hq1:=zaE t.1 ty;have hq2:=zaE t.2 re;have hd:decide (t=(ty,re))=(decide (t.1=ty) && decide (t.2=re)):=by rw [←Bool.decide_and];exact decide_eq_decide.2 Prod.ext_iff
    cases h1:decide (t.1=ty) with
    | false =>
     rw [h1] at hq1 hd;have hnx:=Lib.hid (zb1 ht hn hd);clear hd h1 hn ht;go_wp2_with fail
     exact ⟨⟨i + 1,by go_num,by omega,hnx.out,Lib.hid trivial⟩,by simp [intOf];omega⟩
    | true =>
     cases h2:decide (t.2=re) with
     | false =>
      rw [h1,h2] at hd;rw [h1] at hq1;rw [h2] at hq2;have hnx:=Lib.hid (zb1 ht hn hd);clear hd h1 h2 hn ht;go_wp2_with fail
      exact ⟨⟨i + 1,by go_num,by omega,hnx.out,Lib.hid trivial⟩,by simp [intOf];omega⟩
     | true =>
      rw [h1,h2,Bool.true_and] at hd;rw [h1] at hq1;rw [h2] at hq2;have hany:=Lib.hid (any_at (p:=fun y=>decide (y=(ty,re))) ht hd);clear hd h1 h2 hn ht;go_wp2_with fail
      go_ret
      exact ⟨by rw [←hq.out,hany.out];rfl,hb2⟩
  · have hdi:¬(i:Int)<(l2.length:Int):=by omega
    obtain rfl:i=l2.length:=by omega
    rw [List.take_length] at hn;go_wp2_with fail
    go_ret
    exact ⟨by rw [←hq.out,zeV hn];rfl,hb2⟩
end
end Go.Proofs.YtahegpfdbgbioaaGreat
namespace Go.Proofs.YtahegpfdbgbioaaGreat
open Go.RowKit
def NDVOps (B:Nat) (w:World) (v:Value) (o:List OpP):Prop:=w.ownsRow B 60 3 v o.length (ocells o)
def NDVSubs (B:Nat) (w:World) (v:Value) (s:List zcb):Prop:=w.ownsRow B 64 2 v s.length (zbS s)
def NDRelC (w:World) (B:Nat) (ys:List Value) (x:RelP):Prop:=∃vs vo,ys=[.string x.name,.string x.view,.string x.edit,.string x.check,vs,vo]∧NDVSubs B w vs x.subs∧NDVOps B w vo x.ops
def NDRelsC (w:World) (B:Nat):List RelP→List Value→Prop
 | [],xs=>xs=[]
 | x::r,xs=>∃ys zs,xs=ys ++ zs∧NDRelC w B ys x∧NDRelsC w B r zs
def NDKeeps (w w':World) (B:Nat):Prop:=(∀v n xs,w.ownsRow B 64 2 v n xs→w'.ownsRow B 64 2 v n xs)∧(∀v n xs,w.ownsRow B 60 3 v n xs→w'.ownsRow B 60 3 v n xs)
theorem NDRelC.keep {w w':World} {B:Nat} {ys:List Value} {x:RelP} (h:NDRelC w B ys x) (hk:NDKeeps w w' B):NDRelC w' B ys x:=by
 obtain ⟨vs,vo,e,h1,h2⟩:=h;exact ⟨vs,vo,e,hk.1 _ _ _ h1,hk.2 _ _ _ h2⟩
theorem NDRelsC.keep {w w':World} {B:Nat} (hk:NDKeeps w w' B):∀{l:List RelP} {xs:List Value},NDRelsC w B l xs→NDRelsC w' B l xs
 | [],_,h=>h
 | _::_,_,h=>by
  obtain ⟨ys,zs,e,h1,h2⟩:=h;exact ⟨ys,zs,e,h1.keep hk,NDRelsC.keep hk h2⟩
theorem NDRelsC.snoc {w:World} {B:Nat} {y:RelP} {ws:List Value} (hy:NDRelC w B ws y):∀{l:List RelP} {xs:List Value},NDRelsC w B l xs→NDRelsC w B (l ++ [y]) (xs ++ ws)
 | [],xs,h=>by
  have:xs=[]:=h;subst this;exact ⟨ws,[],by simp,hy,rfl⟩
 | x::r,xs,h=>by
  obtain ⟨ys,zs,e,h1,h2⟩:=h;exact ⟨ys,zs ++ ws,by rw [e,List.append_assoc],h1,NDRelsC.snoc hy h2⟩
def NDVRels (B:Nat) (w:World) (v:Value) (l:List RelP):Prop:=∃xs,w.ownsRow B 48 6 v l.length xs∧NDRelsC w B l xs
theorem zeU {g B:Nat} {w w':World} (hk:Kp g w.heap.size w w') (hg:g<B):NDKeeps w w' B:=⟨fun _ _ _ h=>zaL h hk hg,fun _ _ _ h=>zaL h hk hg⟩
theorem zeb {B:Nat} {w:World} {a:Addr} (ha:a.block<B) (u:Value):NDKeeps w (w.setCell a u) B:=⟨fun _ _ _ h=>zai h ha u,fun _ _ _ h=>zai h ha u⟩
theorem zeq {w w':World} {B B2:Nat} {e2:TypeId} {s2 n2:Nat} {u:Value} {ys:List Value} {o:Obj} (hu:w.ownsRow B2 e2 s2 u n2 ys) (h1:64≠e2) (h2:60≠e2) (hg:(w.alloc o).grownBy w' u.ownBlock):NDKeeps w w' B :=
 ⟨fun _ _ _ h=>zbd (World.ownsRow.alloc h o) (World.ownsRow.alloc hu o) h1 hg,fun _ _ _ h=>zbd (World.ownsRow.alloc h o) (World.ownsRow.alloc hu o) h2 hg⟩
theorem NDKeeps.base {w:World} {B B':Nat} (h:B'≤B) {l:List RelP} {xs:List Value}:NDRelsC w B l xs→NDRelsC w B' l xs:=by
 intro hr;induction l generalizing xs with
 | nil=>exact hr
 | cons x r ih =>
  obtain ⟨ys,zs,e,⟨vs,vo,e2,h1,h2⟩,h3⟩:=hr;exact ⟨ys,zs,e,⟨vs,vo,e2,zav h1 h,zav h2 h⟩,ih h3⟩
theorem zia (w:World) (B:Nat):NDKeeps w w.drew B:=⟨fun _ _ _ h=>zbM h,fun _ _ _ h=>zbM h⟩
def NDTypC (w:World) (B:Nat) (ys:List Value) (t:TypP):Prop:=∃vr,ys=[.string t.name,vr]∧NDVRels B w vr t.rels
def NDTypsC (w:World) (B:Nat):List TypP→List Value→Prop
 | [],xs=>xs=[]
 | x::r,xs=>∃ys zs,xs=ys ++ zs∧NDTypC w B ys x∧NDTypsC w B r zs
def zdP (w w':World) (B:Nat):Prop:=NDKeeps w w' B∧∀v n xs,w.ownsRow B 48 6 v n xs→w'.ownsRow B 48 6 v n xs
theorem NDVRels.keep {w w':World} {B:Nat} (hk:zdP w w' B) {v:Value} {l:List RelP} (h:NDVRels B w v l):NDVRels B w' v l:=by
 obtain ⟨xs,h1,h2⟩:=h;exact ⟨xs,hk.2 _ _ _ h1,h2.keep hk.1⟩
theorem NDTypsC.keep {w w':World} {B:Nat} (hk:zdP w w' B):∀{l:List TypP} {xs:List Value},NDTypsC w B l xs→NDTypsC w' B l xs
 | [],_,h=>h
 | _::_,_,h=>by
  obtain ⟨ys,zs,e,⟨vr,e2,h1⟩,h2⟩:=h;exact ⟨ys,zs,e,⟨vr,e2,h1.keep hk⟩,NDTypsC.keep hk h2⟩
theorem NDTypsC.snoc {w:World} {B:Nat} {y:TypP} {ws:List Value} (hy:NDTypC w B ws y):∀{l:List TypP} {xs:List Value},NDTypsC w B l xs→NDTypsC w B (l ++ [y]) (xs ++ ws)
 | [],xs,h=>by
  have:xs=[]:=h;subst this;exact ⟨ws,[],by simp,hy,rfl⟩
 | x::r,xs,h=>by
  obtain ⟨ys,zs,e,h1,h2⟩:=h;exact ⟨ys,zs ++ ws,by rw [e,List.append_assoc],h1,NDTypsC.snoc hy h2⟩
theorem NDVRels.base {w:World} {B B':Nat} (h:B'≤B) {v:Value} {l:List RelP} (hr:NDVRels B w v l):NDVRels B' w v l:=by
 obtain ⟨xs,h1,h2⟩:=hr;exact ⟨xs,zav h1 h,NDKeeps.base h h2⟩
theorem NDTypsC.base {w:World} {B B':Nat} (h:B'≤B):∀{l:List TypP} {xs:List Value},NDTypsC w B l xs→NDTypsC w B' l xs
 | [],_,h=>h
 | _::_,_,hr=>by
  obtain ⟨ys,zs,e,⟨vr,e2,h1⟩,h2⟩:=hr;exact ⟨ys,zs,e,⟨vr,e2,h1.base h⟩,NDTypsC.base h h2⟩
def NDVTyps (B:Nat) (w:World) (v:Value) (l:List TypP):Prop:=∃xs,w.ownsRow B 115 2 v l.length xs∧NDTypsC w B l xs
theorem zfR {g B:Nat} {w w':World} (hk:Kp g w.heap.size w w') (hg:g<B):zdP w w' B:=⟨zeU hk hg,fun _ _ _ h=>zaL h hk hg⟩
theorem zbZ {B:Nat} {w w':World} (hk:Below w.heap.size w w'):zdP w w' B:=⟨⟨fun _ _ _ h=>zag h hk,fun _ _ _ h=>zag h hk⟩,fun _ _ _ h=>zag h hk⟩
theorem zdv {B:Nat} {w:World} {a:Addr} (ha:a.block<B) (u:Value):zdP w (w.setCell a u) B:=⟨zeb ha u,fun _ _ _ h=>zai h ha u⟩
theorem zgE {w w':World} {B B2:Nat} {e2:TypeId} {s2 n2:Nat} {u:Value} {ys:List Value} {o:Obj} (hu:w.ownsRow B2 e2 s2 u n2 ys) (h1:64≠e2) (h2:60≠e2) (h3:48≠e2) (hg:(w.alloc o).grownBy w' u.ownBlock):zdP w w' B :=
 ⟨zeq hu h1 h2 hg,fun _ _ _ h=>zbd (World.ownsRow.alloc h o) (World.ownsRow.alloc hu o) h3 hg⟩
theorem NDTypsC.get {w:World} {B:Nat}:∀{l:List TypP} {xs:List Value} {i:Nat} {t:TypP},NDTypsC w B l xs→l[i]? = some t→∃vr,NDVRels B w vr t.rels∧xs[i * 2]? = some (.string t.name)∧xs[i * 2 + 1]? = some vr
 | [],_,_,_,_,h=>by simp at h
 | x::r,xs,0,t,h,hi=>by
  simp only [List.getElem?_cons_zero,Option.some.injEq] at hi;subst hi;obtain ⟨ys,zs,rfl,⟨vr,rfl,h1⟩,_⟩:=h;exact ⟨vr,h1,rfl,rfl⟩
 | x::r,xs,i + 1,t,h,hi=>by
  simp only [List.getElem?_cons_succ] at hi;obtain ⟨ys,zs,rfl,⟨vr,rfl,_⟩,h2⟩:=h;obtain ⟨v2,a,b,c⟩:=NDTypsC.get h2 hi;refine ⟨v2,a,?_,?_⟩
  · rw [List.getElem?_append_right (by simp;omega),←b];congr 1
    simp;omega
  · rw [List.getElem?_append_right (by simp;omega),←c];congr 1
    simp;omega
theorem NDRelsC.get {w:World} {B:Nat}:∀{l:List RelP} {xs:List Value} {i:Nat} {x:RelP},NDRelsC w B l xs→l[i]? = some x→∃vs vo,NDVSubs B w vs x.subs∧NDVOps B w vo x.ops∧xs[i * 6]? = some (.string x.name)∧xs[i * 6 + 1]? = some (.string x.view)∧xs[i * 6 + 2]? = some (.string x.edit)∧xs[i * 6 + 3]? = some (.string x.check)∧xs[i * 6 + 4]? = some vs∧xs[i * 6 + 5]? = some vo
 | [],_,_,_,_,h=>by simp at h
 | y::r,xs,0,x,h,hi=>by
  simp only [List.getElem?_cons_zero,Option.some.injEq] at hi;subst hi;obtain ⟨ys,zs,rfl,⟨vs,vo,rfl,h1,h2⟩,_⟩:=h;exact ⟨vs,vo,h1,h2,rfl,rfl,rfl,rfl,rfl,rfl⟩
 | y::r,xs,i + 1,x,h,hi=>by
  simp only [List.getElem?_cons_succ] at hi;obtain ⟨ys,zs,rfl,⟨vs,vo,rfl,_,_⟩,h2⟩:=h;obtain ⟨v2,v3,a1,a2,b0,b1,b2,b3,b4,b5⟩:=NDRelsC.get h2 hi;have key:∀(k:Nat) (u:Value),zs[i * 6 + k]? = some u→([.string y.name,.string y.view,.string y.edit,.string y.check,vs,vo] ++ zs)[(i + 1) * 6 + k]? = some u:=fun k u hk=>by
   rw [List.getElem?_append_right (by simp;omega),←hk];congr 1
   simp;omega
  exact ⟨v2,v3,a1,a2,key 0 _ b0,key 1 _ b1,key 2 _ b2,key 3 _ b3,key 4 _ b4,key 5 _ b5⟩
theorem NDVTyps.get {w:World} {B:Nat} {v:Value} {l:List TypP} (h:NDVTyps B w v l) {i:Nat} {t:TypP} (hi:l[i]? = some t) :
 ∃g c vr,v = .slice (some ⟨g,0,none⟩) l.length c∧NDVRels B w vr t.rels∧w.cell? ⟨g,i * 2,none⟩=some (.string t.name)∧w.cell? ⟨g,i * 2 + 1,none⟩=some vr:=by
 obtain ⟨xs,h1,h2⟩:=h;have hl:i<l.length:=(List.getElem?_eq_some_iff.1 hi).1;obtain ⟨vr,hr,a,b⟩:=h2.get hi;obtain ⟨g,c,e,_,_,hc⟩:=zdl h1 (by omega);exact ⟨g,c,vr,e,hr,hc _ _ a,hc _ _ b⟩
theorem NDVRels.get {w:World} {B:Nat} {v:Value} {l:List RelP} (h:NDVRels B w v l) {i:Nat} {x:RelP} (hi:l[i]? = some x) :
 ∃g c vs vo,v = .slice (some ⟨g,0,none⟩) l.length c∧NDVSubs B w vs x.subs∧NDVOps B w vo x.ops∧w.cell? ⟨g,i * 6,none⟩=some (.string x.name)∧w.cell? ⟨g,i * 6 + 1,none⟩=some (.string x.view)∧w.cell? ⟨g,i * 6 + 2,none⟩=some (.string x.edit)∧w.cell? ⟨g,i * 6 + 3,none⟩=some (.string x.check)∧w.cell? ⟨g,i * 6 + 4,none⟩=some vs∧w.cell? ⟨g,i * 6 + 5,none⟩=some vo:=by
 obtain ⟨xs,h1,h2⟩:=h;have hl:i<l.length:=(List.getElem?_eq_some_iff.1 hi).1;obtain ⟨vs,vo,hs,ho,b0,b1,b2,b3,b4,b5⟩:=h2.get hi;obtain ⟨g,c,e,_,_,hc⟩:=zdl h1 (by omega);exact ⟨g,c,vs,vo,e,hs,ho,hc _ _ b0,hc _ _ b1,hc _ _ b2,hc _ _ b3,hc _ _ b4,hc _ _ b5⟩
theorem NDVOps.get {w:World} {B:Nat} {v:Value} {l:List OpP} (h:NDVOps B w v l) {i:Nat} {o:OpP} (hi:l[i]? = some o) :
 ∃g c,v = .slice (some ⟨g,0,none⟩) l.length c∧w.cell? ⟨g,i * 3,none⟩=some (.int .i64 o.1)∧w.cell? ⟨g,i * 3 + 1,none⟩=some (.string o.2.1)∧w.cell? ⟨g,i * 3 + 2,none⟩=some (.string o.2.2):=by
 have hl:i<l.length:=(List.getElem?_eq_some_iff.1 hi).1;obtain ⟨b0,b1,b2⟩:=ocells_at l i o hi;obtain ⟨g,c,e,_,_,hc⟩:=zdl h (by omega);exact ⟨g,c,e,hc _ _ b0,hc _ _ b1,hc _ _ b2⟩
theorem NDVSubs.get {w:World} {B:Nat} {v:Value} {l:List zcb} (h:NDVSubs B w v l) {i:Nat} {o:zcb} (hi:l[i]? = some o) :
 ∃g c,v = .slice (some ⟨g,0,none⟩) l.length c∧w.cell? ⟨g,i * 2,none⟩=some (.string o.1)∧w.cell? ⟨g,i * 2 + 1,none⟩=some (.string o.2):=by
 have hl:i<l.length:=(List.getElem?_eq_some_iff.1 hi).1;obtain ⟨b0,b1⟩:=zc0 l i o hi;obtain ⟨g,c,e,_,_,hc⟩:=zdl h (by omega);exact ⟨g,c,e,hc _ _ b0,hc _ _ b1⟩
theorem NDVTyps.below {w w':World} {B:Nat} {v:Value} {l:List TypP} (h:NDVTyps B w v l) (hb:Below w.heap.size w w'):NDVTyps B w' v l:=by
 obtain ⟨xs,h1,h2⟩:=h;exact ⟨xs,zag h1 hb,h2.keep (zbZ hb)⟩
theorem zdu:(Tryz.prog.info? 60).map (fun i=>(i.zero,i.size,i.bytes))=some (some (.agg #[.int .i64 0,.string .empty,.string .empty]),3,40):=by kernel_rfl
theorem zgO:(Tryz.prog.info? 64).map (fun i=>(i.zero,i.size,i.bytes))=some (some (.agg #[.string .empty,.string .empty]),2,32):=by kernel_rfl
theorem zkS:(Tryz.prog.info? 48).map (fun i=>(i.zero,i.size,i.bytes))=some (some (.agg #[.string .empty,.string .empty,.string .empty,.string .empty,.slice none 0 0,.slice none 0 0]),6,112):=by kernel_rfl
theorem zkT:(Tryz.prog.info? 115).map (fun i=>(i.zero,i.size,i.bytes))=some (some (.agg #[.string .empty,.slice none 0 0]),2,40):=by kernel_rfl
theorem zg7 {w:World} {B R:Nat}:∀(l:List RelP) (xs:List Value),NDRelsC w B l xs→(∀x ∈ l,SmI R x)→∃k:List RelA,xs=k.flatMap RelA.cells∧k.map RelA.says=l.map relI∧∀a ∈ k,a.ok w R
 | [],xs,h,_=>by
  have e:xs=[]:=h;exact ⟨[],e,rfl,fun a ha=>by cases ha⟩
 | x::l,xs,h,hz=>by
  obtain ⟨ys,zs,rfl,⟨vs,vo,rfl,hs,ho⟩,hr⟩:=h;obtain ⟨k,rfl,hk,hok⟩:=zg7 l zs hr fun y hy=>hz y (List.mem_cons_of_mem _ hy);obtain ⟨As,cs,rfl,rs⟩:=Rd.own hs;obtain ⟨Ao,co,rfl,ro⟩:=Rd.own ho;have z:=hz x List.mem_cons_self;have e1:zbS x.subs=x.subs.flatMap zjU:=rfl;have e2:ocells x.ops=(x.ops.map opI).flatMap aOp:=by
   rw [List.flatMap_map];rfl
  refine ⟨⟨x.name,x.view,x.edit,x.check,As,cs,x.subs,Ao,co,x.ops.map opI⟩::k,?_,?_,fun a ha=>?_⟩
  · rw [List.flatMap_cons];show _=[Value.string x.name,.string x.view,.string x.edit,.string x.check,.slice As x.subs.length cs,.slice Ao (x.ops.map opI).length co] ++ _;rw [List.length_map]
  · rw [List.map_cons,List.map_cons,hk];rfl
  · rcases List.mem_cons.1 ha with rfl | ha
    · refine ⟨z.name,z.view,z.edit,z.check,rs,z.subn,z.subs,?_,by show (x.ops.map opI).length * 40≤R;rw [List.length_map];exact z.opn,fun o ho=>?_⟩
      · show Rd w w.heap.size 3 Ao (x.ops.map opI).length co ((x.ops.map opI).flatMap aOp);rw [List.length_map,←e2];exact ro
      · obtain ⟨p,hp,rfl⟩:=List.mem_map.1 ho;exact z.ops p hp
    · exact hok a ha
theorem zgi {w:World} {B R:Nat}:∀(l:List TypP) (xs:List Value),NDTypsC w B l xs→(∀t ∈ l,t.name.size≤R∧t.rels.length * 112≤R∧∀x ∈ t.rels,SmI R x)→∃k:List TypA,xs=k.flatMap TypA.cells∧k.map TypA.says=l.map zbf∧∀a ∈ k,a.ok w R
 | [],xs,h,_=>by
  have e:xs=[]:=h;exact ⟨[],e,rfl,fun a ha=>by cases ha⟩
 | t::l,xs,h,hz=>by
  obtain ⟨ys,zs,rfl,⟨vr,rfl,ws,hrow,hrc⟩,hr⟩:=h;obtain ⟨k,rfl,hk,hok⟩:=zgi l zs hr fun y hy=>hz y (List.mem_cons_of_mem _ hy);have z:=hz t List.mem_cons_self;obtain ⟨m,rfl,hm,hmo⟩:=zg7 t.rels ws hrc z.2.2;obtain ⟨A,c,rfl,rr⟩:=Rd.own hrow;have hl:m.length=t.rels.length:=by have:=congrArg List.length hm;rwa [List.length_map,List.length_map] at this
  refine ⟨⟨t.name,A,c,m⟩::k,?_,?_,fun a ha=>?_⟩
  · rw [List.flatMap_cons];show _=[Value.string t.name,.slice A m.length c] ++ _;rw [hl]
  · rw [List.map_cons,List.map_cons,hk];show TypI.mk t.name (m.map RelA.says)::_=_;rw [hm];rfl
  · rcases List.mem_cons.1 ha with rfl | ha
    · exact ⟨z.1,by show Rd w w.heap.size 6 A m.length c _;rw [hl];exact rr,by show m.length * 112≤R;rw [hl];exact z.2.1,hmo⟩
    · exact hok a ha
theorem NDVTyps.sch {w:World} {B R:Nat} {A:Option Addr} {c:Nat} {T:List TypP} (h:NDVTyps B w (.slice A T.length c) T) (hn:T.length * 40≤R) (hz:∀t ∈ T,t.name.size≤R∧t.rels.length * 112≤R∧∀x ∈ t.rels,SmI R x):∃l:List TypA,l.map TypA.says=T.map zbf∧SchA w R A c l:=by
 obtain ⟨xs,h1,h2⟩:=h;obtain ⟨l,rfl,hs,ho⟩:=zgi T xs h2 hz;obtain ⟨A2,c2,e,rd⟩:=Rd.own h1;injection e with ea _ ec
 subst ea;subst ec;have hl:l.length=T.length:=by have:=congrArg List.length hs;rwa [List.length_map,List.length_map] at this
 exact ⟨l,hs,by rw [hl];exact rd,by rw [hl];exact hn,ho⟩
theorem Toks.get {w:World} {A:Option Addr} {c:Nat} {l:List Tk} (h:Toks w A c l) {i:Nat} {t:Tk} (hi:l[i]? = some t) :
 ∃b o,A=some ⟨b,o,none⟩∧b<w.heap.size∧w.cell? ⟨b,o + i * 3,none⟩=some (.int .i64 t.1)∧w.cell? ⟨b,o + i * 3 + 1,none⟩=some (.string t.2.1)∧w.cell? ⟨b,o + i * 3 + 2,none⟩=some (.int .i64 t.2.2):=by
 have hl:i<l.length:=(List.getElem?_eq_some_iff.1 hi).1;obtain ⟨b,o,e,hb,hc⟩:=Rd.at_ h (by omega);refine ⟨b,o,e,hb,?_,?_,?_⟩
 · have:=hc (i * 3 + 0) _ (zcx l i t hi 0 _ rfl);exact this
 · have:=hc (i * 3 + 1) _ (zcx l i t hi 1 _ rfl);rwa [←Nat.add_assoc] at this
 · have:=hc (i * 3 + 2) _ (zcx l i t hi 2 _ rfl);rwa [←Nat.add_assoc] at this
theorem zkB (s:ByteArray) (w:World):Calls Tryz.prog 149 #[.string s] w fun e w'=>e = .returned (.bool (keyB s))∧w'=w:=by
 have e1:=zaE s ⟨#[116,121,112,101]⟩;have e2:=zaE s ⟨#[114,101,108]⟩;have e3:=zaE s ⟨#[105,115]⟩;have e4:=zaE s ⟨#[116,104,105,115]⟩;rw [show (⟨#[116,121,112,101]⟩:ByteArray).toList=[116,121,112,101] by decide +kernel] at e1;rw [show (⟨#[114,101,108]⟩:ByteArray).toList=[114,101,108] by decide +kernel] at e2;rw [show (⟨#[105,115]⟩:ByteArray).toList=[105,115] by decide +kernel] at e3;rw [show (⟨#[116,104,105,115]⟩:ByteArray).toList=[116,104,105,115] by decide +kernel] at e4;have HK:Hid (keyB s=(decide (s=⟨#[116,121,112,101]⟩) || decide (s=⟨#[114,101,108]⟩) || decide (s=⟨#[105,115]⟩) || decide (s=⟨#[116,104,105,115]⟩))):=Lib.hid (by unfold keyB;rw [Bool.eq_iff_iff];simp [or_assoc]);generalize decide (s=⟨#[116,121,112,101]⟩)=d1 at *
 generalize decide (s=⟨#[114,101,108]⟩)=d2 at *
 generalize decide (s=⟨#[105,115]⟩)=d3 at *
 generalize decide (s=⟨#[116,104,105,115]⟩)=d4 at *
 go_enter Tryz.func149,Tryz.ntmps149
 cases d1 <;> cases d2 <;> cases d3 <;> cases d4;all_goals go_wp2
 all_goals go_ret
 all_goals (refine ⟨?_,rfl⟩;rw [HK.out];rfl)
theorem sgS_bt:∀k,k<12→bt sgS k=sgs.getD k 0:=by decide +kernel
theorem sgs_sign:∀k,k<12→za8 (sgs.getD k 0)=true:=by decide +kernel
theorem sgs_all (c:Nat) (h:∀k,k<12→sgs.getD k 0≠c):za8 c=false:=by
 rw [Bool.eq_false_iff];intro hs;have:=zns hs;simp only [sgs,List.mem_cons,List.not_mem_nil,or_false] at this;have h0:=h 0 (by omega);have h1:=h 1 (by omega);have h2:=h 2 (by omega);have h3:=h 3 (by omega);have h4:=h 4 (by omega);have h5:=h 5 (by omega);have h6:=h 6 (by omega);have h7:=h 7 (by omega);have h8:=h 8 (by omega);have h9:=h 9 (by omega);have h10:=h 10 (by omega);have h11:=h 11 (by omega);simp [sgs] at h0 h1 h2 h3 h4 h5 h6 h7 h8 h9 h10 h11;omega
theorem rsign_any (z:Int) (c:Nat) (w:World) (hz:z=c):Calls Tryz.prog 148 #[.int .u8 z] w fun e w'=>e = .returned (.bool (za8 c))∧w'=w:=by
 subst hz;go_enter Tryz.func148,Tryz.ntmps148
 go_wp2
 go_loopw [4] (fun vi wr=>∃k:Nat,k≤12∧vi = .int .i64 k∧wr=w∧∀j,j<k→sgs.getD j 0≠c) (fun vi _=>12-(intOf vi).toNat)
 case atStart=>exact ⟨0,by omega,rfl,rfl,fun j hj=>by omega⟩
 case round =>
  obtain ⟨k,hk,rfl,rfl,hall⟩:=hrel;have Hall:=Lib.hid hall;clear hall;by_cases h:k<12
  · have hd:(k:Int)<12:=by omega
    have hb:=zdp sgS k h;rw [sgS_bt k h] at hb;have hx:∀h',((⟨#[123,125,40,41,58,44,59,124,38,45,46,35]⟩:ByteArray)[k]'h').toNat=sgs.getD k 0:=fun h'=>hb.symm;have HS:=Lib.hid (sgs_sign k h);clear hb;generalize hq:sgs.getD k 0=q at *
    by_cases hc:q=c
    · have hd2:((q:Int) == (c:Int))=true:=by simp [hc]
      have HC:=Lib.hid hc;clear hc hq;go_wp2
      go_ret
      exact ⟨by rw [←HC.out,HS.out];rfl,by first | rfl | trivial⟩
    · have hd2:((q:Int) == (c:Int))=false:=by simp;omega
      have HC:=Lib.hid hc;have HQ:=Lib.hid hq;clear hc hq;go_wp2
      go_roundw
      case rel=>exact ⟨k + 1,by omega,by go_num,by first | rfl | trivial,fun j hj=>by
       by_cases e:j=k
       · subst e;rw [HQ.out];exact HC.out
       · exact Hall.out j (by omega)⟩
      case measure=>simp [intOf];omega
  · obtain rfl:k=12:=by omega
    go_wp2
    go_ret
    exact ⟨by rw [sgs_all c Hall.out];rfl,by first | rfl | trivial⟩
end Go.Proofs.YtahegpfdbgbioaaGreat
namespace Go.Proofs.YtahegpfdbgbioaaGreat
open Go.RowKit
structure PAt (w:World) (g:Nat) (A:Option Addr) (c:Nat) (T:List Tk) (i e p:Nat):Prop where
 cells:Bk w g #[.slice A T.length c,.int .i64 i,.int .i64 e,.int .i64 p] 190
 row:Rd w g 3 A T.length c (tcells T)
 fine:Fine (T.drop i)
 few:T.length≤1000000
def Says (T:List Tk) (i e p:Nat):St→Prop
 | .ok l=>e=0∧l=T.drop i
 | .error x=>e=x.1∧x.1≠0∧p=x.2
def PSt (w:World) (g:Nat) (q:St):Prop:=∃A c T i e p,PAt w g A c T i e p∧Says T i e p q
section
variable {w w':World} {g i e p c:Nat} {A:Option Addr} {T:List Tk} {q:St}
theorem PAt.get (h:PAt w g A c T i e p):∃b o,A=some ⟨b,o,none⟩∧i<T.length∧b<g∧w.cell? ⟨b,o + i * 3,none⟩=some (.int .i64 (hdT (T.drop i)).1)∧w.cell? ⟨b,o + i * 3 + 1,none⟩=some (.string (hdT (T.drop i)).2.1)∧w.cell? ⟨b,o + i * 3 + 2,none⟩=some (.int .i64 (hdT (T.drop i)).2.2):=by
 obtain ⟨t,r,ht⟩:=h.fine.cons;have hi:i<T.length:=by
  have:=congrArg List.length ht;rw [List.length_drop,List.length_cons] at this;omega
 have hti:T[i]? = some t:=by
  have:=congrArg (fun l:List Tk=>l[0]?) ht;simpa using this
 obtain ⟨b,o,e,hb,hc⟩:=h.row.at_ (by omega);refine ⟨b,o,e,hi,hb,?_,?_,?_⟩
 · rw [ht];exact hc _ _ (zcx T i t hti 0 _ rfl)
 · rw [ht];exact hc _ _ (zcx T i t hti 1 _ rfl)
 · rw [ht];exact hc _ _ (zcx T i t hti 2 _ rfl)
theorem PAt.keep (h:PAt w g A c T i e p) (hb:∀k,k≤g→w'.heap[k]? = w.heap[k]?):PAt w' g A c T i e p:=by
 refine ⟨(hb g (Nat.le_refl _)).trans h.cells,h.row.keep fun p hp=>?_,h.fine,h.few⟩;have:=hb p.block (by omega);unfold World.cell?;rw [this]
theorem PAt.below (h:PAt w g A c T i e p) (hb:Below w.heap.size w w'):PAt w' g A c T i e p:=h.keep fun k hk=>hb.block k (by have:=h.cells.lt;omega)
theorem PSt.keep (h:PSt w g q) (hb:∀k,k≤g→w'.heap[k]? = w.heap[k]?):PSt w' g q:=by
 obtain ⟨A,c,T,i,e,p,h,hs⟩:=h;exact ⟨A,c,T,i,e,p,h.keep hb,hs⟩
theorem PSt.size (h:PSt w g q):g<w.heap.size:=by obtain ⟨A,c,T,i,e,p,h,hs⟩:=h;exact h.cells.lt
theorem PSt.below (h:PSt w g q) (hb:Below w.heap.size w w'):PSt w' g q:=h.keep fun k hk=>hb.block k (by have:=h.size;omega)
theorem PSt.drew (h:PSt w g q):PSt w.drew g q:=h.keep fun _ _=>rfl
theorem PSt.set (h:PSt w g q) {a:Addr} (ha:g<a.block) (v:Value):PSt (w.setCell a v) g q:=h.keep fun k hk=>Below.heap_setCell _ _ _ _ (by omega)
theorem PSt.alloc (h:PSt w g q) (o:Obj):PSt (w.alloc o) g q:=h.below ((Below.refl _ w).alloc (Nat.le_refl _) o)
theorem PSt.grown {base:Nat} {t:TypeId} {size n:Nat} {v:Value} {xs:List Value} {o:Obj} (h:PSt w g q) (hg:(w.alloc o).grownBy w' v.ownBlock) (hown:w.ownsRow base t size v n xs) (hle:g<base):PSt w' g q:=by
 refine h.keep fun k hk=>?_;have hs:=h.size;refine (hg.block k (by simp;omega) fun e=>?_).trans (Below.heap_alloc _ _ _ (by omega));have:=(hown.lt k e.symm).1;omega
theorem PSt.grown0 {base:Nat} {t:TypeId} {size n:Nat} {v:Value} {xs:List Value} (h:PSt w g q) (hg:w.grownBy w' v.ownBlock) (hown:w.ownsRow base t size v n xs) (hle:g<base):PSt w' g q:=by
 refine h.keep fun k hk=>?_;have hs:=h.size;refine hg.block k (by omega) fun e=>?_;have:=(hown.lt k e.symm).1;omega
theorem PAt.step (h:PAt w g A c T i e p) (hf:Fine (T.drop i).tail):PAt (w.setCell ⟨g,1,none⟩ (.int .i64 ((i + 1:Nat):Int))) g A c T (i + 1) e p:=by
 refine ⟨h.cells.set 1 _,h.row.keep fun p hp=>?_,by rw [←List.tail_drop];exact hf,h.few⟩;have:=Below.heap_setCell w ⟨g,1,none⟩ (.int .i64 ((i + 1:Nat):Int)) p.block (by dsimp only;omega);unfold World.cell?;rw [this]
theorem PAt.set2 (h:PAt w g A c T i e p) (e':Nat):PAt (w.setCell ⟨g,2,none⟩ (.int .i64 e')) g A c T i e' p:=by
 refine ⟨h.cells.set 2 _,h.row.keep fun p hp=>?_,h.fine,h.few⟩;have:=Below.heap_setCell w ⟨g,2,none⟩ (.int .i64 e') p.block (by dsimp only;omega);unfold World.cell?;rw [this]
theorem PAt.set3 (h:PAt w g A c T i e p) (p':Nat):PAt (w.setCell ⟨g,3,none⟩ (.int .i64 p')) g A c T i e p':=by
 refine ⟨h.cells.set 3 _,h.row.keep fun p hp=>?_,h.fine,h.few⟩;have:=Below.heap_setCell w ⟨g,3,none⟩ (.int .i64 p') p.block (by dsimp only;omega);unfold World.cell?;rw [this]
theorem zdE (g B:Nat) (w:World) (k:Nat) (v:Value):Kp g B w (w.setCell ⟨g,k,none⟩ v):=⟨rfl,rfl,rfl,by simp [World.setCell],fun _ _ hn=>Below.heap_setCell _ _ _ _ hn⟩
theorem PAt.up (h:PAt w g A c T i 0 p) (hf:Fine (T.drop i).tail):PSt (w.setCell ⟨g,1,none⟩ (.int .i64 ((i:Int) + 1))) g (upU (.ok (T.drop i))) :=
 ⟨_,_,_,_,_,_,h.step hf,rfl,by rw [←List.tail_drop]⟩
theorem zcT {s:ByteArray} {q:St} (h:isU s q=true):∃l,q = .ok l∧(hdT l).2.1=s:=by
 cases q with
 | error x=>cases h
 | ok l=>exact ⟨l,rfl,(of_decide_eq_true h).1⟩
end
def zec {α:Type} (V:World→Value→α→Prop) (w:World) (g:Nat) (u:α × St) (e:Ending) (w':World):Prop :=
 Kp g w.heap.size w w'∧(∃v,e = .returned v∧V w' v u.1)∧PSt w' g u.2
end Go.Proofs.YtahegpfdbgbioaaGreat
