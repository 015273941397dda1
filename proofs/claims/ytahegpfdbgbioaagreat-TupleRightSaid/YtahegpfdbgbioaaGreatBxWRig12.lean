/- TupleRight walked: it answers true. Conditions: none. -/
import Derived.Test.YtahegpfdbgbioaaGreatB31
set_option maxRecDepth 100000
set_option maxHeartbeats 4000000
namespace Go.Proofs.YtahegpfdbgbioaaGreat
open Go.RowKit
theorem path_has {T:List TypI} {a c:ByteArray} (h:(a,c) ∈ zap T):zio T a=true:=by
 obtain ⟨i,hi⟩:=List.getElem?_of_mem h;obtain ⟨x,hx,e⟩:=at_path hi;have:=(zjK (List.mem_of_getElem? hx)).1;exact zka.2 ⟨x.1,this,(congrArg (·.1) e).symm⟩
theorem names_sayR (l:List TypA):l.map (·.name)=(l.map TypA.says).map (·.name):=by rw [List.map_map];rfl
theorem any_has (l:List TypA) (n:ByteArray):((l.map (·.name)).any fun y=>decide (y=n))=zio (l.map TypA.says) n:=by
 rw [names_sayR,Bool.eq_iff_iff,zka,List.any_eq_true];constructor
 · rintro ⟨y,hy,e⟩;obtain ⟨t,ht,rfl⟩:=List.mem_map.1 hy;exact ⟨t,ht,of_decide_eq_true e⟩
 · rintro ⟨t,ht,rfl⟩;exact ⟨t.name,List.mem_map.2 ⟨t,ht,rfl⟩,decide_eq_true rfl⟩
theorem right_same {ty:List ByteArray} {ps:List Path} {K:List TabR} {l:List TypA} {u:List Int} (hty:ty=l.map (·.name)) (hps:ps=zap (l.map TypA.says))
 (hat:∀id:Int,(atA l id=none∧(atK K id).r=noRT)∨∃(i:Nat) (t:TypA) (x:RelA),id=i∧i<K.length∧atA l id=some (t,x)∧(t,x) ∈ relsA l∧(atK K id).r=zcY ps (zaK u i) (t.says,x.says)) (t:TuP) :
 rightT ty ps K t=zff l t:=by
 obtain ⟨⟨a,b,c⟩,⟨x,y,z⟩⟩:=t;have hk:ziw ty ps x z=zc2 (l.map TypA.says) x z:=by
  unfold ziw zc2;by_cases h:z=⟨#[]⟩
  · rw [if_pos h,decide_eq_true h,hty,any_has];simp
  · rw [if_neg h,decide_eq_false h,Bool.false_or,Bool.eq_iff_iff,zf9,hps,Bool.and_eq_true,decide_eq_true_iff,zkl.1];exact ⟨fun q=>⟨path_has q,q⟩,fun q=>q.2⟩
 have hl:¬c=⟨#[]⟩→((zao ps (a,c)).isSome=true↔zc2 (l.map TypA.says) a c=true):=fun h=>by
  unfold zc2;rw [decide_eq_false h,Bool.false_or,zf9,hps,Bool.and_eq_true,decide_eq_true_iff,zkl.1];exact ⟨fun q=>⟨path_has q,q⟩,fun q=>q.2⟩
 have hc:(zj8 ((a,b,c),(x,y,z))=true∧(zao ps (a,c)).isSome=true∧ziw ty ps x z=true)↔(zf3 (a,b,c)=true∧zf3 (x,y,z)=true∧zc2 (l.map TypA.says) a c=true∧zc2 (l.map TypA.says) x z=true∧¬c=⟨#[]⟩):=by
  rw [fmdT_iff,hk];constructor
  · rintro ⟨⟨h1,h2,h3⟩,h4,h5⟩;exact ⟨h2,h3,(hl h1).1 h4,h5,h1⟩
  · rintro ⟨h2,h3,h4,h5,h1⟩;exact ⟨⟨h1,h2,h3⟩,(hl h1).2 h4,h5⟩
 unfold rightT zff;dsimp only;by_cases h:zj8 ((a,b,c),(x,y,z))=true∧(zao ps (a,c)).isSome=true∧ziw ty ps x z=true
 · rw [if_pos h,if_pos (hc.1 h)];have hm:(a,c) ∈ ps:=zf9.1 h.2.1;have hid:zdk (zap (l.map TypA.says)) (a,c)=(ixP ps (a,c):Nat):=by rw [←hps];exact zmX hm
   have he:mayT K ps ((a,b,c),(x,y,z))=((relY (atA l (zdk (zap (l.map TypA.says)) (a,c)))).subs.any fun y=>decide (y=(x,z))):=by
    rw [hid];show ((atK K (ixP ps (a,c):Nat)).r.subs.any fun u=>decide (u=(x,z)))=_;rcases hat (ixP ps (a,c):Nat) with ⟨h1,h2⟩ | ⟨i,t,r,_,_,h1,_,h2⟩
    · rw [h1,h2];rfl
    · rw [h1,h2];rfl
   rw [he]
 · rw [if_neg h,if_neg fun q=>h (hc.2 q)]
theorem tupleRight_walk (s0 a b c x y z:ByteArray) (w:World) (_f0:s0.size≤maxLen) (ha:a.size≤maxLen) (hb:b.size≤maxLen) (hc:c.size≤maxLen) (hx:x.size≤maxLen) (hy:y.size≤maxLen) (hz:z.size≤maxLen) :
 Calls Tryz.prog 7 #[.string s0,.agg #[.string a,.string b,.string c,.string x,.string y,.string z]] w fun e w'=>e = .returned (.bool true)∧Below w.heap.size w w':=by
 have hms:(s0.size:Int)≤9223372036854775807:=by simp only [maxLen] at _f0;omega
 have ka:∀W:World,_:=fun W=>awake12_any W;obtain ⟨p,hp⟩:∃p,Hid (fewT ((a,b,c),(x,y,z))=p):=⟨_,Lib.hid rfl⟩;have kp:∀W:World,_:=fun W=>few_any12 (w:=W) a b c x y z ha hb hc hx hy hz;rw [hp.out] at kp;have hk:=Bk.new w #[.string a,.string b,.string c,.string x,.string y,.string z] 71;have hB:=zb0 w (.cells #[.string a,.string b,.string c,.string x,.string y,.string z] 71);clear ha hb hc hx hy hz;go_enter Tryz.func7,Tryz.ntmps7
 go_upto_region 1 with (fail)
 generalize w.alloc (.cells #[.string a,.string b,.string c,.string x,.string y,.string z] 71)=w1 at *
 obtain ⟨k0,k1,k2,k3,k4,k5⟩:=hk.c6;have kl:=hk.lt;go_upto_region 4 with (go_at_call 28;refine (ka _).mono ?_;rintro e w2 ⟨rfl,hb2⟩)
 replace hk:=hk.below hb2;replace hB:=zad hB hB.size hb2;clear hb2 k0 k1 k2 k3 k4 k5 kl;obtain ⟨k0,k1,k2,k3,k4,k5⟩:=hk.c6;have kl:=hk.lt;go_upto_region 5 with (go_at_call 29;with_reducible refine (kp _).mono ?_;rintro e w3 ⟨rfl,hb2⟩)
 replace hk:=hk.below hb2;replace hB:=zad hB hB.size hb2;clear hb2 k0 k1 k2 k3 k4 k5 kl;obtain ⟨k0,k1,k2,k3,k4,k5⟩:=hk.c6;have kl:=hk.lt;cases p with
 | false =>
  go_wp2_with fail
  go_ret
  exact ⟨rfl,hB⟩
 | true =>
  by_cases hs3:2100<s0.size
  · have hd:(2100:Int)<(s0.size:Int):=by omega
    go_wp2_with fail
    go_ret
    exact ⟨rfl,hB⟩
  · have hd:¬(2100:Int)<(s0.size:Int):=by omega
    obtain ⟨ha,hb,hc,hx,hy,hz⟩:=few_all hp.out;clear hp kp ka;have kc:=compile_any s0 (by omega) w3;go_upto_region 8 with (go_at_call 11;refine kc.mono ?_;rintro e w4 ⟨⟨tx,Ay,cy,ty,mb,ps,Ar,cr,K,err,rfl,hT,hC⟩,hb1⟩)
    have dT:=Bk.new w4 #[.string tx,.slice Ay ty.length cy,.map mb,.slice Ar K.length cr] 27;have hbn:=zb0 w4 (.cells #[.string tx,.slice Ay ty.length cy,.map mb,.slice Ar K.length cr] 27);replace hT:=hT.up hbn;replace hb1:=zad hb1 hb1.size hbn;replace hk:=hk.below hb1;replace hB:=zad hB hB.size hb1;clear hbn kc hb1 k0 k1 k2 k3 k4 k5 kl;generalize w4.alloc (.cells #[.string tx,.slice Ay ty.length cy,.map mb,.slice Ar K.length cr] 27)=w5 at *
    generalize w4.heap.size=g1 at *
    have kc:=rcomp_any s0 (by omega) w5;go_upto_region 9 with (go_at_call 12;refine kc.mono ?_;rintro e w6 ⟨⟨err2,A,c0,l,AL,cL,u,rfl,hS,hu,hI,B,hN⟩,hb1⟩)
    obtain ⟨he,hcs⟩:=zl6 hC hI;subst he;clear hN hu;have hfact:ty=l.map (·.name)∧ps=zap (l.map TypA.says)∧(relsA l).length≤96∧ps.length≤96∧Right (l.map TypA.says)∧((K.map (·.r)=[]∧l.map TypA.says=[])∨(l.map TypA.says=(zah s0).1.map zbf∧TabOk s0 tx ty ps (K.map (·.r)) u)):=by
     rcases hcs with ⟨h1,rfl,rfl,rfl,h4,h5,_⟩ | ⟨rfl,h1,h2⟩
     · obtain rfl:l=[]:=List.map_eq_nil_iff.1 h5;exact ⟨rfl,rfl,Nat.zero_le _,Nat.zero_le _,(zdy _).1.1 (by decide),.inl ⟨h4,rfl⟩⟩
     · have hr:=h2.right;rw [←h1] at hr;have h9:=zeM hr;refine ⟨?_,?_,h9,?_,hr,.inr ⟨h1,h2⟩⟩
       · rw [h2.types,names_sayR,h1,List.map_map];rfl
       · rw [h2.paths,h1]
       · rw [h2.paths,←h1,zfc,←zaN,List.length_map];exact h9
    obtain ⟨hty,hps,hn96,hp96,hR,hat⟩:=hfact;have hsame:=right_same hty hps (at_both hat) ((a,b,c),(x,y,z));replace hsame:=Lib.hid hsame;clear hcs hC hI kc hat hty hps;replace hT:=hT.up hb1;replace dT:=dT.below hb1;replace hk:=hk.below hb1;replace hB:=zad hB hB.size hb1;clear hb1;have hbn:=zb0 w6 (.cells #[.slice A l.length c0,.slice AL u.length cL] 34);have dW:=Bk.new w6 #[.slice A l.length c0,.slice AL u.length cL] 34;replace hT:=hT.up hbn;replace hS:=hS.up hbn;replace dT:=dT.below hbn;replace hk:=hk.below hbn;replace hB:=zad hB hB.size hbn;clear hbn;generalize w6.alloc (.cells #[.slice A l.length c0,.slice AL u.length cL] 34)=w7 at *
    generalize w6.heap.size=g2 at *
    have ki:∀W:World,Below w7.heap.size w7 W→Calls _ _ _ W _:=fun W hW=>right_any12 (tx:=tx) (hT.up hW) hp96 a b c x y z (by omega) (by omega) (by omega) (by omega) (by omega) (by omega);have km:∀W:World,Below w7.heap.size w7 W→Calls _ _ _ W _:=fun W hW=>rright_any12 (AL:=AL) (nL:=u.length) (cL:=cL) (hS.up hW) hR hn96 a b c x y z (by omega) (by omega) (by omega) (by omega) (by omega) (by omega);rw [hsame.out] at ki;generalize zff l ((a,b,c),(x,y,z))=Z at *
    clear hsame ha hb hc hx hy hz;go_wp2_with fail
    refine wp_region_any (by kernel_rfl) ?_;change wpAny _ _ _ _ _ _ _ (World.drew _);have hbd:Below w7.heap.size w7 (World.drew w7):=(Below.refl _ _).drew;replace hk:=hk.below hbd;replace dT:=dT.below hbd;replace dW:=dW.below hbd;replace hB:=zad hB hB.size hbd;replace ki:=fun W hW=>ki W (zad hbd hbd.size hW);replace km:=fun W hW=>km W (zad hbd hbd.size hW);clear hbd;generalize World.drew w7=wz at *
    refine wpAny_of_held (S:=fun W=>Below wz.heap.size wz W) _ _ _ _ ?_;have HS:=Below.refl wz.heap.size wz;refine zac 0 (some 33) (v:=?v0t) rfl rfl (by kernel_rfl) (by kernel_rfl) (by kernel_rfl) (fun _ _ _ h=>h) (by rfl) ?y0t HS ?r0t;case y0t=>(intro W hS;go_simp;try with_reducible rfl)
    simp only [Act.put,List.setIfInBounds_toArray,List.set_cons_zero,List.set_cons_succ];refine zac 1 (some 34) (v:=?v1t) rfl rfl (by kernel_rfl) (by kernel_rfl) (by kernel_rfl) (fun _ _ _ h=>h) (by rfl) ?y1t HS ?r1t;case y1t=>(intro W hS;go_simp;try with_reducible rfl)
    simp only [Act.put,List.setIfInBounds_toArray,List.set_cons_zero,List.set_cons_succ];refine zac 2 (some 35) (v:=?v2t) rfl rfl (by kernel_rfl) (by kernel_rfl) (by kernel_rfl) (fun _ _ _ h=>h) (by rfl) ?y2t HS ?r2t;case y2t=>(intro W hS;go_simp;try with_reducible rfl)
    simp only [Act.put,List.setIfInBounds_toArray,List.set_cons_zero,List.set_cons_succ];refine zac 3 (some 36) (v:=?v3t) rfl rfl (by kernel_rfl) (by kernel_rfl) (by kernel_rfl) (fun _ _ _ h=>h) (by rfl) ?y3t HS ?r3t;case y3t=>(intro W hS;go_simp;try with_reducible rfl)
    simp only [Act.put,List.setIfInBounds_toArray,List.set_cons_zero,List.set_cons_succ];refine zac 4 (some 37) (v:=?v4t) rfl rfl (by kernel_rfl) (by kernel_rfl) (by kernel_rfl) (fun _ _ _ h=>h) (by rfl) ?y4t HS ?r4t;case y4t=>(intro W hS;have q:=dT.below hS;obtain ⟨q0,q1,q2,q3⟩:=q.c4;have ql:=q.lt;go_simp;try with_reducible rfl)
    simp only [Act.put,List.setIfInBounds_toArray,List.set_cons_zero,List.set_cons_succ];refine zac 5 (some 38) (v:=?v5t) rfl rfl (by kernel_rfl) (by kernel_rfl) (by kernel_rfl) (fun _ _ _ h=>h) (by rfl) ?y5t HS ?r5t;case y5t=>(intro W hS;have q:=hk.below hS;obtain ⟨q0,q1,q2,q3,q4,q5⟩:=q.c6;have ql:=q.lt;go_simp;try with_reducible rfl)
    simp only [Act.put,List.setIfInBounds_toArray,List.set_cons_zero,List.set_cons_succ];refine zac 7 (some 40) (v:=?v7t) rfl rfl (by kernel_rfl) (by kernel_rfl) (by kernel_rfl) (fun _ _ _ h=>h) (by rfl) ?y7t HS ?r7t;case y7t=>(intro W hS;have q:=dW.below hS;obtain ⟨q0,q1⟩:=q.c2;have ql:=q.lt;go_simp;try with_reducible rfl)
    simp only [Act.put,List.setIfInBounds_toArray,List.set_cons_zero,List.set_cons_succ];refine zac 8 (some 41) (v:=?v8t) rfl rfl (by kernel_rfl) (by kernel_rfl) (by kernel_rfl) (fun _ _ _ h=>h) (by rfl) ?y8t HS ?r8t;case y8t=>(intro W hS;have q:=hk.below hS;obtain ⟨q0,q1,q2,q3,q4,q5⟩:=q.c6;have ql:=q.lt;go_simp;try with_reducible rfl)
    simp only [Act.put,List.setIfInBounds_toArray,List.set_cons_zero,List.set_cons_succ];refine za2 6 rfl (by kernel_rfl) ?_;intro Kf hKf;go_simp;refine (ki _ HS).mono ?_;rintro e W1t ⟨rfl,hc⟩;replace HS:=zad HS HS.size hc;refine hKf _ _ HS ?_;clear hKf Kf hc;refine za2 9 rfl (by kernel_rfl) ?_;intro Kf hKf;go_simp;refine (km _ HS).mono ?_;rintro e W2t ⟨rfl,hc⟩;replace HS:=zad HS HS.size hc;refine hKf _ _ HS ?_;clear hKf Kf hc;refine zac 10 (some 43) (v:=?v10t) rfl rfl (by kernel_rfl) (by kernel_rfl) (by kernel_rfl) (fun _ _ _ h=>h) (by rfl) ?y10t HS ?r10t;case y10t=>(intro W hS;go_simp;try with_reducible rfl)
    simp only [Act.put,List.setIfInBounds_toArray,List.set_cons_zero,List.set_cons_succ];refine zac 11 (some 44) (v:=?v11t) rfl rfl (by kernel_rfl) (by kernel_rfl) (by kernel_rfl) (fun _ _ _ h=>h) (by rfl) ?y11t HS ?r11t;case y11t=>(intro W hS;go_simp;try with_reducible rfl)
    simp only [Act.put,List.setIfInBounds_toArray,List.set_cons_zero,List.set_cons_succ];refine zac 12 (some 4) (v:=?v12t) rfl rfl (by kernel_rfl) (by kernel_rfl) (by kernel_rfl) (fun _ _ _ h=>h) (by rfl) ?y12t HS ?r12t;case y12t=>(intro W hS;go_simp;try with_reducible rfl)
    simp only [Act.put,List.setIfInBounds_toArray,List.set_cons_zero,List.set_cons_succ];refine wpAnyH_done (by kernel_rfl) ?_ _;replace hB:=zad hB hB.size HS;go_wp2_with fail
    go_ret
    exact ⟨rfl,hB⟩
end Go.Proofs.YtahegpfdbgbioaaGreat
