import Derived.Deep.DeepCutAuto
import Derived.Laws.CopyOwn
import Derived.Deep.RegionLaw
import Derived.Maps.Own
import Derived.Maps.OwnOps
import Derived.Maps.OwnSet
import Derived.Maps.Views
import Derived.Test.YtiepddmagfmllaaGreatT09
set_option maxRecDepth 100000
set_option maxHeartbeats 4000000
namespace Go.Proofs.YtiepddmagfmllaaGreat
open Go.RowKit
open Go.RowKit
open Go.RowKit
theorem zac {w w':World} {a:Addr} {v:Value} (h:w.cell? a=some v) (hb:Below w.heap.size w w'):w'.cell? a=some v:=(hb.cell (World.block_lt_of_cell? _ _ h)).trans h
theorem rise_any (x y:Int) (b:Bool) (w:World):Calls Tryz.prog 90 #[.agg #[.int .i64 x,.int .i64 y,.bool b]] w fun e w'=>e = .returned (.int .i64 (if b then 1 else 0))∧Below w.heap.size w w':=by
 go_enter Tryz.func90,Tryz.ntmps90
 cases b
 · go_wp2
   go_ret
   exact ⟨rfl,(Below.refl _ w).alloc (Nat.le_refl _) _⟩
 · go_wp2
   go_ret
   exact ⟨rfl,(Below.refl _ w).alloc (Nat.le_refl _) _⟩
theorem turned_any {w:World} {c:Nat} {A:Option Addr} {l:List Ed} (h:Rd w w.heap.size 3 A l.length c (zan l)) (hl:l.length≤1000000) :
 Calls Tryz.prog 48 #[.slice A l.length c] w fun e w'=>(∃A' c',e = .returned (.slice A' l.length c')∧Rd w' w'.heap.size 3 A' l.length c' (zan (l.map turn)))∧Below w.heap.size w w':=by
 obtain ⟨i0,hi0,hz0,hz1,hz2⟩:=info_parts zfL;go_enter Tryz.func48,Tryz.ntmps48
 go_wp2_with fail
 go_loopw [3,8] (fun v vi wx=>∃j:Nat,vi = .int .i64 j∧j≤l.length∧wx.ownsRow w.heap.size 117 3 v j (zan ((l.take j).map turn))∧Below w.heap.size w wx) (fun _ vi _=>l.length-(intOf vi).toNat)
 case atStart=>exact ⟨0,rfl,Nat.zero_le _,World.ownsRow_nil _ _ _ _,Below.refl _ _⟩
 case round =>
  obtain ⟨j,rfl,hj,hO,hbx⟩:=hrel;by_cases hjl:j<l.length
  · have hdj:(j:Int)<(l.length:Int):=by omega
    obtain ⟨e,he⟩:∃e,l[j]? = some e:=⟨_,List.getElem?_eq_getElem hjl⟩;obtain ⟨b,o,rfl,hb,c0,c1,c2⟩:=zdA ((h.below hbx).more hbx.size) he;obtain ⟨A3,c3,rfl,_⟩:=Rd.own hO;have hws:=hbx.size;have hO1:=hO.alloc (.cells #[.int .i64 e.1,.int .i64 e.2.1,.bool e.2.2] 117);have hb1:=hbx.alloc hws (.cells #[.int .i64 e.1,.int .i64 e.2.1,.bool e.2.2] 117);have x1:=Bk.new wr #[.int .i64 e.1,.int .i64 e.2.1,.bool e.2.2] 117;go_upto_region 5 with (fail)
    have y0:=x1.cell 0;have y1:=x1.cell 1;have y2:=x1.cell 2;clear c0 c1 c2 x1;generalize wr.alloc (.cells #[.int .i64 e.1,.int .i64 e.2.1,.bool e.2.2] 117)=w1 at *
    go_wp2_with (at_builtin;go_loud (refine zab _ rfl (.tmp 12) (.tmp 20) 78 78 rfl w.heap.size 117 i0 (.agg #[.int .i64 0,.int .i64 0,.bool false]) 3 24 Tryz.underlying78 hi0 hz0 hz1 hz2 rfl (by decide) (.slice A3 j c3) j (zan ((l.take j).map turn)) rfl (hO1.alloc _) _ 1 [.int .i64 e.2.1,.int .i64 e.1,.bool e.2.2] rfl (Src.ofSlice _ Tryz.underlying78 _ 1 1 _ rfl (zaZ _ _ _ _ _) (zb1 (turn e))) (by simp only [maxLen];omega) (by omega) (size_alloc hb1.size) ?_;intro v9 w8 hown8 hg8 hat8))
    have hO9:w8.ownsRow w.heap.size 117 3 v9 (j + 1) (zan ((l.take (j + 1)).map turn)):=by
     rw [List.take_add_one,he,Option.toList_some,List.map_append,zeJ];have:zan ([e].map turn)=zaT (turn e):=by simp [zan]
     rw [this];exact hown8
    have hb9:=zak (hb1.alloc hb1.size _) hg8 (hO1.alloc _) (size_alloc hb1.size) (Nat.le_refl _);exact ⟨⟨j + 1,by go_num,by omega,hO9,hb9⟩,by simp [intOf];omega⟩
  · obtain rfl:j=l.length:=by omega
    have hdj:¬(((l.length:Nat):Int)<(l.length:Int)):=by omega
    rw [List.take_length] at hO;obtain ⟨A3,c3,rfl,hR⟩:=Rd.own hO;go_wp2_with fail
    go_ret
    exact ⟨⟨A3,c3,rfl,hR⟩,hbx⟩
theorem zgI {v l lev} {r s:List Nat}:upR v l lev (r ++ s)=match upR v l lev r with | none=>none | some z=>upR v l z s:=by
 induction r generalizing lev with
 | nil=>rfl
 | cons a t ih =>
  rw [List.cons_append];simp only [upR];cases upE v lev (outE l a) with
  | none=>rfl
  | some y=>exact ih
theorem upE_snoc {v lev} {es:List Ed} {j:Nat} {e:Ed} {z:Int} (h:es[j]? = some e) (hz:upE v lev (es.take j)=some z):upE v lev (es.take (j + 1))=up1 v z e:=by
 rw [List.take_add_one,h,Option.toList_some,ze1,hz];simp only [upE];cases up1 v z e <;> rfl
theorem upE_stop {v lev} {es:List Ed} {j:Nat} (h:upE v lev (es.take j)=none):upE v lev es=none:=by
 rw [←List.take_append_drop j es,ze1,h]
theorem zj9 {v l lev} {r:List Nat} {j a:Nat} {z:Int} (h:r[j]? = some a) (hz:upR v l lev (r.take j)=some z):upR v l lev (r.take (j + 1))=upE v z (outE l a):=by
 rw [List.take_add_one,h,Option.toList_some,zgI,hz];simp only [upR];cases upE v z (outE l a) <;> rfl
theorem upR_stop {v l lev} {r:List Nat} {j:Nat} (h:upR v l lev (r.take j)=none):upR v l lev r=none:=by
 rw [←List.take_append_drop j r,zgI,h]
def rlV (o:Option Int):Value:=match o with
 | none=>.tuple #[.int .i64 0,.bool false]
 | some z=>.tuple #[.int .i64 z,.bool true]
def lvs (v:List Int):List Value:=v.map fun z=>Value.int .i64 z
theorem ringLevel_any {w:World} {n c cr cv:Nat} {A Ar Av:Option Addr} {l:List Ed} {r:List Nat} {v:List Int} (hR:Rd w w.heap.size 1 Ar r.length cr (ints r)) (hG:Gr w w.heap.size A c n l) (hV:Rd w w.heap.size 1 Av n cv (lvs v)) (hvn:v.length=n) (hr:∀k ∈ r,k<n) (hb:∀x ∈ v,-1≤x∧x≤5000) :
 Calls Tryz.prog 49 #[.slice Ar r.length cr,.slice A n c,.slice Av n cv] w fun e w'=>e = .returned (rlV (upR v l 0 r))∧Below w.heap.size w w':=by
 have hrl:(r.length:Int)≤9223372036854775807:=by have:=hR.cap;have:=hR.capm;simp only [maxLen] at this;omega
 go_enter Tryz.func49,Tryz.ntmps49
 go_wp2_with fail
 go_loopw [8,16] (fun lev vi wx=>∃(j:Nat) (z:Int),lev = .int .i64 z∧vi = .int .i64 j∧j≤r.length∧upR v l 0 (r.take j)=some z∧0≤z∧z≤6000∧Below w.heap.size w wx) (fun _ vi _=>r.length-(intOf vi).toNat)
 case atStart=>exact ⟨0,0,rfl,rfl,Nat.zero_le _,rfl,by omega,by omega,Below.refl _ _⟩
 case round =>
  obtain ⟨j,z,rfl,rfl,hj,hU,hz0,hz1,hbx⟩:=hrel;by_cases hjl:j<r.length
  · have hdj:(j:Int)<(r.length:Int):=by omega
    obtain ⟨b,o,u,rfl,hbw,hu,hc⟩:=(hR.below hbx).get hjl;obtain ⟨a,ha⟩:∃a,r[j]? = some a:=⟨_,List.getElem?_eq_getElem hjl⟩;have hau:u = .int .i64 (a:Int):=by
     simp only [ints,List.getElem?_map,ha,Option.map_some,Option.some.injEq] at hu;exact hu.symm
    subst hau;have han:=hr a (List.mem_of_getElem? ha);have hai:(a:Int)<(n:Int):=by omega
    obtain ⟨bg,og,Ai,ci,rfl,hbg,hcg0,hRg⟩:=hG.row han;have hcg:=zac hcg0 hbx;have hgl:((outE l a).length:Int)≤9223372036854775807:=by have:=hRg.cap;have:=hRg.capm;simp only [maxLen] at this;omega
    go_wp2_with fail
    obtain ⟨wo,rfl⟩:∃wo:World,wo=wr:=⟨_,rfl⟩;go_loopw [8,25] (fun lev vi wx=>∃(k:Nat) (y:Int),lev = .int .i64 y∧vi = .int .i64 k∧k≤(outE l a).length∧upE v z ((outE l a).take k)=some y∧0≤y∧y≤6000∧Below w.heap.size w wx) (fun _ vi _=>(outE l a).length-(intOf vi).toNat)
    case atStart=>exact ⟨0,z,rfl,rfl,Nat.zero_le _,rfl,hz0,hz1,hbx⟩
    case round =>
     obtain ⟨k,y,rfl,rfl,hk,hE,hy0,hy1,hbk⟩:=hrel;by_cases hkl:k<(outE l a).length
     · have hdk:(k:Int)<((outE l a).length:Int):=by omega
       obtain ⟨e,he⟩:∃e,(outE l a)[k]? = some e:=⟨_,List.getElem?_eq_getElem hkl⟩;have hel:=(zem.1 (List.mem_of_getElem? he)).1;have hte:e.2.1=((tt e:Nat):Int):=by have:=hG.inr e hel;unfold tt;omega
       have htn:=hG.inr.tt hel;have hti:((tt e:Nat):Int)<(n:Int):=by omega
       obtain ⟨b2,o2,rfl,hb2,c0,c1,c2⟩:=zdA (hRg.below hbk) he;rw [hte] at c1;obtain ⟨bv,ov,u,rfl,hbv,hu2,hcv⟩:=hV.get htn;have hu3:u = .int .i64 (zaL v (tt e)):=by
        have h1:tt e<v.length:=by rw [hvn];exact htn
        simp only [lvs,List.getElem?_map,List.getElem?_eq_getElem h1,Option.map_some,Option.some.injEq] at hu2;rw [←hu2,zdw (List.getElem?_eq_getElem h1)]
       subst hu3;have hvb : -1≤zaL v (tt e)∧zaL v (tt e)≤5000:=by
        have h1:tt e<v.length:=by rw [hvn];exact htn
        have:=hb _ (List.getElem_mem h1);rwa [←zdw (List.getElem?_eq_getElem h1)] at this
       have hup:Hid (upE v z ((outE l a).take (k + 1))=up1 v y e):=Lib.hid (upE_snoc he hE);have hstop:Hid (upE v z ((outE l a).take (k + 1))=none→upR v l 0 r=none):=Lib.hid fun h=>upR_stop (j:=j + 1) ((zj9 ha hU).trans (upE_stop h));have hu1:Hid (up1 v y e=if zaL v (tt e) = -1 then (if e.2.2=true then none else some y) else some (max y (zaL v (tt e) + zcQ e))):=Lib.hid rfl;have hri:Hid (zcQ e=if e.2.2=true then 1 else 0):=Lib.hid rfl;generalize hq:zaL v (tt e)=q at *
       have cv:=zac hcv hbk;clear hcv hu2;have hbk2:=hbk.alloc hbk.size (.cells #[.int .i64 e.1,.int .i64 ((tt e:Nat):Int),.bool e.2.2] 117);have x1:=Bk.new wr #[.int .i64 e.1,.int .i64 ((tt e:Nat):Int),.bool e.2.2] 117;replace cv:=zar cv (.cells #[.int .i64 e.1,.int .i64 ((tt e:Nat):Int),.bool e.2.2] 117);go_upto_region 8 with (fail)
       clear c0 c1 c2 hbk hE hU;generalize hW2:wr.alloc (.cells #[.int .i64 e.1,.int .i64 ((tt e:Nat):Int),.bool e.2.2] 117)=w2 at *
       clear hW2;have x1h:=Lib.hid x1;have d0:=x1.cell 0;have d1:=x1.cell 1;have d2:=x1.cell 2;clear x1;by_cases hm:q = -1
       · subst hm;cases hN:e.2.2 with
         | true =>
          rw [hN] at d2;go_wp2_with fail
          go_ret2
          have h3:=hstop.out (by rw [hup.out,hu1.out];simp [hN]);exact ⟨by rw [h3];rfl,hbk2⟩
         | false =>
          rw [hN] at d2;go_wp2_with fail
          refine ⟨⟨k + 1,y,rfl,by go_num,by omega,?_,hy0,hy1,hbk2⟩,by simp [intOf];omega⟩;rw [hup.out,hu1.out];simp [hN]
       · have hm2:(q != -1)=true:=by simpa using hm
         go_upto_region 12 with (fail)
         have hSc:∀W:World,Below w2.heap.size w2 W→W.cell? ⟨wr.heap.size,0,none⟩=some (.int .i64 e.1)∧W.cell? ⟨wr.heap.size,1,none⟩=some (.int .i64 ((tt e:Nat):Int))∧W.cell? ⟨wr.heap.size,2,none⟩=some (.bool e.2.2)∧W.cell? ⟨bv,ov + tt e,none⟩=some (.int .i64 q):=fun W h=>⟨zac d0 h,zac d1 h,zac d2 h,zac cv h⟩;have hS0:Below w2.heap.size w2 w2.drew:=(Below.refl _ _).drew;refine wp_region_any (by kernel_rfl) ?_;change wpAny _ _ _ _ _ _ _ (World.drew _);refine wpAny_of_held (S:=fun W=>Below w2.heap.size w2 W) _ _ _ _ ?_;refine zaa 0 (some 42) (v:=?v0c) rfl rfl (by kernel_rfl) (by kernel_rfl) (by kernel_rfl) (fun _ _ _ h=>h) (by rfl) ?y0c (by assumption) ?r0c;case y0c=>(intro W hS;obtain ⟨s0,s1,s2,s3⟩:=hSc W hS;go_simp;try with_reducible rfl)
         simp only [Act.put,List.setIfInBounds_toArray,List.set_cons_zero,List.set_cons_succ];refine zaa 1 (some 43) (v:=?v1c) rfl rfl (by kernel_rfl) (by kernel_rfl) (by kernel_rfl) (fun _ _ _ h=>h) (by rfl) ?y1c (by assumption) ?r1c;case y1c=>(intro W hS;obtain ⟨s0,s1,s2,s3⟩:=hSc W hS;go_simp;try with_reducible rfl)
         simp only [Act.put,List.setIfInBounds_toArray,List.set_cons_zero,List.set_cons_succ];refine zaa 2 (some 44) (v:=?v2c) rfl rfl (by kernel_rfl) (by kernel_rfl) (by kernel_rfl) (fun _ _ _ h=>h) (by rfl) ?y2c (by assumption) ?r2c;case y2c=>(intro W hS;obtain ⟨s0,s1,s2,s3⟩:=hSc W hS;go_simp;try with_reducible rfl)
         simp only [Act.put,List.setIfInBounds_toArray,List.set_cons_zero,List.set_cons_succ];refine zaa 3 (some 45) (v:=?v3c) rfl rfl (by kernel_rfl) (by kernel_rfl) (by kernel_rfl) (fun _ _ _ h=>h) (by rfl) ?y3c (by assumption) ?r3c;case y3c=>(intro W hS;obtain ⟨s0,s1,s2,s3⟩:=hSc W hS;go_simp;try with_reducible rfl)
         simp only [Act.put,List.setIfInBounds_toArray,List.set_cons_zero,List.set_cons_succ];refine zaa 4 (some 46) (v:=?v4c) rfl rfl (by kernel_rfl) (by kernel_rfl) (by kernel_rfl) (fun _ _ _ h=>h) (by rfl) ?y4c (by assumption) ?r4c;case y4c=>(intro W hS;obtain ⟨s0,s1,s2,s3⟩:=hSc W hS;go_simp;try with_reducible rfl)
         simp only [Act.put,List.setIfInBounds_toArray,List.set_cons_zero,List.set_cons_succ];refine zaa 5 (some 47) (v:=?v5c) rfl rfl (by kernel_rfl) (by kernel_rfl) (by kernel_rfl) (fun _ _ _ h=>h) (by rfl) ?y5c (by assumption) ?r5c;case y5c=>(intro W hS;obtain ⟨s0,s1,s2,s3⟩:=hSc W hS;go_simp;try with_reducible rfl)
         simp only [Act.put,List.setIfInBounds_toArray,List.set_cons_zero,List.set_cons_succ];refine zaa 6 (some 48) (v:=?v6c) rfl rfl (by kernel_rfl) (by kernel_rfl) (by kernel_rfl) (fun _ _ _ h=>h) (by rfl) ?y6c (by assumption) ?r6c;case y6c=>(intro W hS;obtain ⟨s0,s1,s2,s3⟩:=hSc W hS;go_simp;try with_reducible rfl)
         simp only [Act.put,List.setIfInBounds_toArray,List.set_cons_zero,List.set_cons_succ];refine zaB 7 rfl (by kernel_rfl) ?_;intro K hK;go_simp;refine (rise_any _ _ _ _).mono ?_;rintro e4 w4 ⟨rfl,hb4⟩;have hS4:Below w2.heap.size w2 w4:=hS0.trans (hb4.mono hS0.size);refine hK _ _ hS4 ?_;clear hK K hb4;refine zaa 8 (some 50) (v:=?v8c) rfl rfl (by kernel_rfl) (by kernel_rfl) (by kernel_rfl) (fun _ _ _ h=>h) (by rfl) ?y8c (by assumption) ?r8c;case y8c=>(intro W hS;go_simp;try with_reducible rfl)
         simp only [Act.put,List.setIfInBounds_toArray,List.set_cons_zero,List.set_cons_succ];refine zaa 9 (some 51) (v:=?v9c) rfl rfl (by kernel_rfl) (by kernel_rfl) (by kernel_rfl) (fun _ _ _ h=>h) (by rfl) ?y9c (by assumption) ?r9c;case y9c=>(intro W hS;go_simp;try with_reducible rfl)
         simp only [Act.put,List.setIfInBounds_toArray,List.set_cons_zero,List.set_cons_succ];refine zaa 10 (some 8) (v:=?v10c) rfl rfl (by kernel_rfl) (by kernel_rfl) (by kernel_rfl) (fun _ _ _ h=>h) (by rfl) ?y10c (by assumption) ?r10c;case y10c=>(intro W hS;go_simp;try with_reducible rfl)
         simp only [Act.put,List.setIfInBounds_toArray,List.set_cons_zero,List.set_cons_succ];refine wpAnyH_done (by kernel_rfl) ?_ _;go_wp2_with fail
         have hr2:=zeV e;have hwr:IntKind.i64.wrap (q + zcQ e)=q + zcQ e:=IntWalk.i64_in _ ⟨by omega,by omega⟩;rw [←hri.out,hwr];refine ⟨⟨k + 1,max y (q + zcQ e),by congr 1 <;> (split <;> omega),by go_num,by omega,?_,by omega,by omega,hbk2.trans (hS4.mono hbk2.size)⟩,by simp [intOf];omega⟩;rw [hup.out,hu1.out,if_neg hm]
     · obtain rfl:k=(outE l a).length:=by omega
       have hdk:¬((((outE l a).length:Nat):Int)<((outE l a).length:Int)):=by omega
       rw [List.take_length] at hE;go_wp2_with fail
       exact ⟨⟨j + 1,y,rfl,by go_num,by omega,by rw [zj9 ha hU];exact hE,hy0,hy1,hbk⟩,by simp [intOf];omega⟩
  · obtain rfl:j=r.length:=by omega
    have hdj:¬(((r.length:Nat):Int)<(r.length:Int)):=by omega
    rw [List.take_length] at hU;go_wp2_with fail
    go_ret2
    exact ⟨rfl,hbx⟩
def zhC (x:Int) (n m:Nat):List Value:=List.replicate m (.int .i64 x) ++ List.replicate (n-m) (.int .i64 0)
theorem zjT {x:Int} {n m:Nat} (h:m≤n):(zhC x n m).length=n:=by simp [zhC];omega
theorem zjU (x:Int) (k:Nat):∀u ∈ List.replicate k (Value.int .i64 x),u.oneCell'=true:=by
 intro u hu;rw [List.mem_replicate] at hu;rw [hu.2];rfl
theorem zf4 {x:Int} {n m k:Nat} (h:m + k≤n):splice (zhC x n m) m (List.replicate k (.int .i64 x))=zhC x n (m + k):=by
 unfold splice zhC;rw [List.take_append_of_le_length (by simp),List.take_of_length_le (by simp),List.length_replicate,List.drop_append,List.drop_of_length_le (by simp),List.length_replicate,List.nil_append,List.drop_replicate,←List.append_assoc,List.replicate_append_replicate];congr 2
 omega
theorem zhP:(Tryz.prog.info? 3).map (·.size)=some 1:=by kernel_rfl
theorem repeat_any {w:World} {b n:Nat} {x:Int} (hb:w.cell? ⟨b,0,none⟩=some (.int .i64 x)) (hn:n≤4096) :
 Calls Tryz.prog 46 #[.slice (some ⟨b,0,none⟩) 1 1,.int .i64 (n:Int)] w fun e w'=>(∃g,e = .returned (.slice (some ⟨g,0,none⟩) n n)∧w.heap.size≤g∧Bk w' g (List.replicate n (Value.int .i64 x)).toArray 3)∧Below w.heap.size w w':=by
 obtain ⟨i1,hi1,hy0,hy1,hy2⟩:=info_parts zdH;have hmk:∀W:World,(Instr.makeSlice 32 (.int .i64 (n:Int)) (.int .i64 (n:Int))).run Tryz.prog W = .ok (.slice (some ⟨W.heap.size,0,none⟩) n n) (W.alloc (.cells (zhC x n 0).toArray 3)):=fun W=>by
  have:=run_make (P:=Tryz.prog) W 32 3 i1 _ Tryz.underlying32 hi1 hy0 .i64 .i64 n n (by omega) (Int.le_refl _) (by rw [hy2];omega) (by omega);rw [Int.toNat_natCast,hy1,Nat.mul_one] at this;rw [this];congr 3
  apply Array.ext';show (madeCells #[.int .i64 0] n).toList=_;rw [toList_madeCells_one];simp [zhC]
 have hmul:∀W:World,Calls Tryz.prog 85 #[.int .u64 1,.int .u64 (n:Int)] W fun e w'=>e = .returned (.tuple #[.int .u64 0,.int .u64 (n:Int)])∧w'=W:=fun W=>by
  have:=Any.bits_Mul lays212 1 n (by omega) (by omega) W;rw [Nat.one_mul,Nat.div_eq_of_lt (by omega),Nat.mod_eq_of_lt (by omega)] at this;exact this
 have hn0:¬((n:Int)<0):=by omega
 go_enter Tryz.func46,Tryz.ntmps46
 go_upto_region 7 with (go_at_call 85;refine (hmul _).mono ?_;rintro e w9 ⟨rfl,hw9⟩;have h9:=hw9.symm;clear hw9;subst h9)
 have hbl:=World.block_lt_of_cell? _ _ hb;dsimp only at hbl;have hb1:=zar hb (.cells (zhC x n 0).toArray 3);have hx1:=Bk.new w (zhC x n 0).toArray 3;have hB1:Below w.heap.size w (w.alloc (.cells (zhC x n 0).toArray 3)):=(Below.refl _ w).alloc (Nat.le_refl _) _;have hm1:Nat.min 1 n=min 1 n:=rfl;clear hmk hmul;generalize w.alloc (.cells (zhC x n 0).toArray 3)=w1 at *
 go_wp2_with (refine wpList_copy_splice rfl (.tmp 31) (.tmp 32) 32 32 rfl 3 Tryz.underlying32 zhP (some ⟨w.heap.size,0,none⟩) (some ⟨b,0,none⟩) n n 1 1 rfl rfl w.heap.size 0 (zhC x n 0) 3 hx1 (List.replicate (min 1 n) (.int .i64 x)) (by rw [List.length_replicate,hm1]) (fun _=>⟨rfl,_,rfl,fun j u hj=>by
  rw [List.getElem?_replicate] at hj;split at hj
  · cases hj;obtain rfl:j=0:=by omega
    exact hb1
  · cases hj⟩) (by rw [List.length_replicate,zjT (Nat.zero_le _)];omega) (zjU x _) w.heap.size w hB1 (Nat.le_refl _) ?_;intro w2 hx2 hB2)
 replace hx2:Hid (w2.heap[w.heap.size]? = some (.cells (zhC x n (min 1 n)).toArray 3 (0,0))):=Lib.hid (by
  have h:=hx2.out;rw [zf4 (by omega),Nat.zero_add] at h;exact h)
 clear hb1 hx1 hB1 hb hbl;have hmn:min 1 n≤n:=by omega
 have hmp:0<n→0<min 1 n:=by omega
 generalize min 1 n=m0 at *
 go_loopw [8] (fun v wx=>∃m:Nat,v = .int .i64 m∧m≤n∧(0<n→0<m)∧Hid (wx.heap[w.heap.size]? = some (.cells (zhC x n m).toArray 3 (0,0)))∧Below w.heap.size w wx) (fun v _=>n-(intOf v).toNat)
 case atStart=>exact ⟨m0,rfl,hmn,hmp,hx2,hB2⟩
 case round =>
  obtain ⟨m,rfl,hm,hm0,hX,hB⟩:=hrel;by_cases hlt:m<n
  · have hlt':(m:Int)<(n:Int):=by omega
    have hne:¬n=m:=by omega
    have hne2:¬m=n:=by omega
    go_upto_region 9 with (fail)
    have hXd:wr.drew.heap[w.heap.size]? = some (.cells (zhC x n m).toArray 3 (0,0)):=hX.out;have hBd:=hB.drew;have hmin:Hid (Nat.min m (n-m)=min m (n-m)):=Lib.hid rfl;have hsrc:∀j v,(List.replicate (min m (n-m)) (Value.int .i64 x))[j]? = some v→wr.drew.cell? ((⟨w.heap.size,0,none⟩:Addr).add j)=some v:=fun j u hj=>by
     rw [Addr.add_lit,cell_of_row _ _ _ _ _ _ hXd,Nat.zero_add];rw [List.getElem?_replicate] at hj;split at hj
     · cases hj;rw [List.getElem?_toArray,zhC,List.getElem?_append_left (by simp;omega),List.getElem?_replicate];simp;omega
     · cases hj
    have hsrc:=Lib.hid hsrc;replace hXd:=Lib.hid hXd;go_region_law (refine step_copy_splice rfl (.tmp 41) (.tmp 44) 32 32 rfl 3 Tryz.underlying32 zhP (some ⟨w.heap.size,m,none⟩) (some ⟨w.heap.size,0,none⟩) (n-m) (n-m) m n (by simp [Act.eval,Act.put]) (by simp [Act.eval,Act.put]) w.heap.size m (zhC x n m) 3 hXd.out (List.replicate (min m (n-m)) (.int .i64 x)) (by rw [List.length_replicate,hmin.out]) (fun _=>⟨rfl,_,rfl,hsrc.out⟩) (by rw [List.length_replicate,zjT hm];omega) (zjU x _) w.heap.size w hBd (Nat.le_refl _) ?_;intro w4 hg4 hb4)
    all_goals
     go_wp2_with fail
     have hw4:IntKind.i64.wrap ((m:Int) + ((min m (n-m):Nat):Int))=((m + min m (n-m):Nat):Int):=by
      rw [IntWalk.i64_in _ ⟨by omega,by omega⟩];omega
     rw [hw4];have hg5:=hg4.out;rw [zf4 (by omega)] at hg5;exact ⟨⟨m + min m (n-m),rfl,by omega,by omega,Lib.hid hg5⟩,by simp [intOf];omega⟩
  · obtain rfl:m=n:=by omega
    have hlt':¬((m:Int)<(m:Nat)):=by omega
    go_wp2_with fail
    go_ret
    have h:=hX.out;rw [zhC,Nat.sub_self,List.replicate_zero,List.append_nil] at h;exact ⟨⟨_,rfl,Nat.le_refl _,h⟩,hB⟩
theorem zmw {w:World} {B n c c':Nat} {A A':Option Addr} {l:List Ed} (h1:Gr w B A c n l) (h2:Gr w B A' c' n (l.map turn)) (hB:B≤w.heap.size) :
 Calls Tryz.prog 47 #[.slice A n c,.slice A' n c'] w fun e w'=>∃v all ord s,e = .returned v∧OrdOk l n ord∧Told l n ord s all∧VRing w.heap.size w' v all∧Below w.heap.size w w' :=
 callsIn_wide.1 (rings_in 6 (Nat.le_refl _) h1 h2 hB)
inductive LvAns (n:Int) (l:List Ed) (w':World):Ending→Prop
 | arg (h:n<0∨4096<n∨¬InR n.toNat l):LvAns n l w' (.returned (.tuple #[.slice none 0 0,.int .i64 1]))
 | cyc (h0:0≤n) (h1:n≤4096) (hi:InR n.toNat l) (hc:Cyc l):LvAns n l w' (.returned (.tuple #[.slice none 0 0,.int .i64 33]))
 | ok (h0:0≤n) (h1:n≤4096) (hi:InR n.toNat l) (v:List Int) (A:Option Addr) (c:Nat) (hr:Rd w' w'.heap.size 1 A n.toNat c (lvs v)) (hv:v.length=n.toNat) (hL:Least n.toNat l (zaL v)) (hb:∀x ∈ v,0≤x∧x≤4096):LvAns n l w' (.returned (.tuple #[.slice A n.toNat c,.int .i64 0]))
theorem ziT (v:List Int) (a:Nat) (z:Int):(lvs v).toArray.setIfInBounds a (.int .i64 z)=(lvs (v.set a z)).toArray:=by
 apply Array.ext';simp [lvs,List.map_set]
theorem zmE {v:List Int} {z:Int} {r:List Nat} {j a:Nat} (h:r[j]? = some a):zkU v z (r.take (j + 1))=(zkU v z (r.take j)).set a z:=by
 rw [List.take_add_one,h,Option.toList_some];have:∀(s:List Nat) (v:List Int),zkU v z (s ++ [a])=(zkU v z s).set a z:=by
  intro s;induction s with
  | nil=>intro v;rfl
  | cons b t ih=>intro v;exact ih _
 exact this _ v
theorem zhk {w:World} {g n:Nat} {v:List Int} (h:Bk w g (lvs v).toArray 3) (hv:v.length=n) (hn:n≤4096):Rd w w.heap.size 1 (some ⟨g,0,none⟩) n n (lvs v) :=
 ⟨by simp [lvs,hv],Nat.le_refl _,by simp only [maxLen];omega,fun e=>(by cases e),fun _=>⟨g,0,rfl,h.lt,fun j u hj=>by rw [Nat.zero_add,h.cell j];simpa using hj⟩⟩
theorem levels_any {w:World} {n:Int} {c:Nat} {A:Option Addr} {l:List Ed} (h:Rd w w.heap.size 3 A l.length c (zan l)) (hl:l.length≤100000) :
 Calls Tryz.prog 25 #[.int .i64 n,.slice A l.length c] w fun e w'=>LvAns n l w' e∧Below w.heap.size w w':=by
 by_cases h0:n<0
 · have h0':decide (n<0)=true:=by simpa using h0
   go_enter Tryz.func25,Tryz.ntmps25
   go_wp2_with fail
   go_ret2
   exact ⟨.arg (.inl h0),Below.refl _ _⟩
 · by_cases h1:4096<n
   · go_enter Tryz.func25,Tryz.ntmps25
     go_wp2_with fail
     go_ret2
     exact ⟨.arg (.inr (.inl h1)),Below.refl _ _⟩
   · obtain ⟨k,rfl⟩:∃k:Nat,n=(k:Int):=⟨n.toNat,by omega⟩;have hk:k≤4096:=by omega
     have h0':¬((k:Int)<0):=by omega
     go_enter Tryz.func25,Tryz.ntmps25
     go_wp2_with fail
     go_loopw [24] (fun vi wx=>∃j:Nat,vi = .int .i64 j∧j≤l.length∧InR k (l.take j)∧Below w.heap.size w wx) (fun vi _=>l.length-(intOf vi).toNat)
     case atStart=>exact ⟨0,rfl,Nat.zero_le _,fun e he=>by simp at he,Below.refl _ _⟩
     case round =>
      obtain ⟨j,rfl,hj,hI,hbx⟩:=hrel;by_cases hjl:j<l.length
      · have hdj:(j:Int)<(l.length:Int):=by omega
        obtain ⟨e,he⟩:∃e,l[j]? = some e:=⟨_,List.getElem?_eq_getElem hjl⟩;obtain ⟨b,o,rfl,hb,c0,c1,c2⟩:=zdA (h.below hbx) he;have hws:=hbx.size;have hbx1:=hbx.alloc hws (.cells #[.int .i64 e.1,.int .i64 e.2.1,.bool e.2.2] 117);have x1:=Bk.new wr #[.int .i64 e.1,.int .i64 e.2.1,.bool e.2.2] 117;go_upto_region 6 with (fail)
        have y0:=x1.cell 0;have y1:=x1.cell 1;clear c0 c1 c2 x1;generalize wr.alloc (.cells #[.int .i64 e.1,.int .i64 e.2.1,.bool e.2.2] 117)=w1 at *
        have hI1:0≤e.1∧e.1<k∧0≤e.2.1∧e.2.1<k→InR k (l.take (j + 1)):=fun q d hd=>by
         rw [List.take_add_one,he,Option.toList_some,List.mem_append,List.mem_singleton] at hd;rcases hd with hd | rfl
         · exact hI d hd
         · exact q
        by_cases hcmp:e.2.1<e.1
        · by_cases hlo:e.2.1<0
          · go_wp2_with fail
            go_ret2
            exact ⟨.arg (.inr (.inr fun hI=>by have:=hI e (List.mem_of_getElem? he);simp only [Int.toNat_natCast] at this;omega)),hbx1⟩
          · by_cases hhi:e.1 ≥ (k:Int)
            · go_wp2_with fail
              go_ret2
              exact ⟨.arg (.inr (.inr fun hI=>by have:=hI e (List.mem_of_getElem? he);simp only [Int.toNat_natCast] at this;omega)),hbx1⟩
            · go_wp2_with fail
              exact ⟨⟨j + 1,by go_num,by omega,hI1 (by omega),hbx1⟩,by simp [intOf];omega⟩
        · by_cases hlo:e.1<0
          · go_wp2_with fail
            go_ret2
            exact ⟨.arg (.inr (.inr fun hI=>by have:=hI e (List.mem_of_getElem? he);simp only [Int.toNat_natCast] at this;omega)),hbx1⟩
          · by_cases hhi:e.2.1 ≥ (k:Int)
            · go_wp2_with fail
              go_ret2
              exact ⟨.arg (.inr (.inr fun hI=>by have:=hI e (List.mem_of_getElem? he);simp only [Int.toNat_natCast] at this;omega)),hbx1⟩
            · go_wp2_with fail
              exact ⟨⟨j + 1,by go_num,by omega,hI1 (by omega),hbx1⟩,by simp [intOf];omega⟩
      · obtain rfl:j=l.length:=by omega
        have hdj:¬(((l.length:Nat):Int)<(l.length:Int)):=by omega
        rw [List.take_length] at hI;have hIk:InR ((k:Int).toNat) l:=hI;have hT:(l.map turn).length=l.length:=by simp
        have h9:=h.below hbx;go_upto_region 9 with (fail)
        have k1:=leaving_any (h9.more hbx.size) hI hk (by omega);go_upto_region 10 with (go_at_call 45;refine k1.mono ?_;rintro e2 w2 ⟨rfl,hG2,hb2⟩)
        have hbw2:=hbx.trans (hb2.mono hbx.size);have h2s:=hbw2.size;clear k1 hbx;generalize wr.heap.size=g2 at *
        have k2:=repeat_any (w:=w2.alloc (.cells #[.int .i64 (-1)] 3)) (b:=w2.heap.size) (n:=k) (x:=-1) (by rw [cell_of_row _ _ _ _ _ _ (heap_alloc_new w2 _)];rfl) hk;go_upto_region 11 with (go_at_call 46;refine k2.mono ?_;rintro e3 w3 ⟨⟨g,rfl,hg3,hx3⟩,hb3⟩)
        have hb3':Below w2.heap.size w2 w3:=((Below.refl _ w2).alloc (Nat.le_refl _) _).trans (hb3.mono (by simp));have hbw3:=hbw2.trans (hb3'.mono h2s);have h3s:=hb3'.size;replace hg3:w2.heap.size≤g:=by simp at hg3;omega
        clear k2 hb3;have hG3:=hG2.below hb3';have kt:=turned_any ((h.below hbw3).more hbw3.size) (by omega);have kl:∀(W:World) (A4:Option Addr) (c4:Nat),Rd W W.heap.size 3 A4 l.length c4 (zan (l.map turn))→Calls Tryz.prog 45 #[.int .i64 (k:Int),.slice A4 l.length c4] W fun e w'=>e = .returned (.slice (some ⟨W.heap.size,0,none⟩) k k)∧Gr w' w'.heap.size (some ⟨W.heap.size,0,none⟩) k k (l.map turn)∧Below W.heap.size W w':=fun W A4 c4 hr=>by
         have:=leaving_any (w:=W) (l:=l.map turn) (A:=A4) (c:=c4) (by rw [hT];exact hr) hI.turn hk (by omega);rw [hT] at this;exact this
        have kr:∀(w5:World) (x:Nat),Gr w5 w5.heap.size (some ⟨g2,0,none⟩) k k l→Gr w5 w5.heap.size (some ⟨x,0,none⟩) k k (l.map turn)→Calls Tryz.prog 47 #[.slice (some ⟨g2,0,none⟩) k k,.slice (some ⟨x,0,none⟩) k k] w5 fun e w'=>∃v all ord s,e = .returned v∧OrdOk l k ord∧Told l k ord s all∧VRing w5.heap.size w' v all∧Below w5.heap.size w5 w':=fun w5 x q1 q2=>zmw q1 q2 (Nat.le_refl _);have hG3':=hG3.more h3s;clear hT;go_wp2_with (first
         | (go_at_call 48;refine kt.mono ?_;rintro e4 w4 ⟨⟨A4,c4,rfl,hr4⟩,hb4⟩;have hG4:=(hG3'.below hb4).more hb4.size)
         | (go_at_call 45;refine (kl _ _ _ hr4).mono ?_;rintro e5 w5 ⟨rfl,hg5,hb5⟩;have hG5:=(hG4.below hb5).more hb5.size)
         | (go_at_call 47;refine (kr _ _ hG5 hg5).mono ?_;rintro e6 w6 ⟨va,all,ord,s,rfl,hO,hTd,hVR,hb6⟩;obtain ⟨vs,hV1,hV2⟩:=hVR;obtain ⟨A6,c6,rfl,hR6⟩:=Rd.own hV1))
        have hs4:=hb4.size;have hs5:=hb5.size;have hs6:=hb6.size;have b36:Below w3.heap.size w3 w6:=(hb4.trans (hb5.mono hs4)).trans (hb6.mono (by omega));have hbw6:=hbw3.trans (b36.mono hbw3.size);have hgl:=hx3.lt;have hsz:=hbw3.size;have hG6:Gr w6 w2.heap.size _ _ _ _:=hG3.below (b36.mono h3s);have hX6:Bk w6 g (lvs (List.replicate k (-1))).toArray 3:=by
         have:=hx3.below b36;simpa [lvs] using this
        have hgw:w.heap.size≤g:=by omega
        have hg5':g<w5.heap.size:=by omega
        have hwh:∀i,i<k↔i ∈ all.flatten:=hTd.whole hO;have hRg:=hTd.rings;have hfew:=zmx hRg fun i hi=>(hwh i).2 hi;have hal:(all.length:Int)≤9223372036854775807:=by omega
        clear kl kr kt hG2 hb2 hbw2 hb3' hbw3 hx3 hG3 hG3' hb4 hb5 hb6 hG4 hG5 hg5 b36 hTd hO hr4 h9;go_loopw [57] (fun vi wx=>∃(j:Nat) (v:List Int),vi = .int .i64 j∧j≤all.length∧Lv l k (all.take j) v∧Bk wx g (lvs v).toArray 3∧Kp g w6.heap.size w6 wx) (fun vi _=>all.length-(intOf vi).toNat)
        case atStart=>exact ⟨0,_,rfl,Nat.zero_le _,Lv.start,hX6,Kp.refl _ _ _⟩
        case round =>
         obtain ⟨j,v,rfl,hj,hLv,hX,hK⟩:=hrel;have hKs:=hK.size;by_cases hjl:j<all.length
         · have hdj:(j:Int)<(all.length:Int):=by omega
           obtain ⟨r,hr⟩:∃r,all[j]? = some r:=⟨_,List.getElem?_eq_getElem hjl⟩;obtain ⟨u,hu,hor⟩:=hV2 j r hr;have ks:∀{e s n} {q:Value} {xs},w6.ownsRow w5.heap.size e s q n xs→wr.ownsRow w5.heap.size e s q n xs:=fun q=>zaI q fun b hb=>hK.block b (q.lt b hb).2 (by have:=(q.lt b hb).1;omega);have hV1':=ks hV1;have hor':=ks hor;obtain ⟨Ar,cr,rfl,hRr⟩:=Rd.own hor';obtain ⟨A6',c6',e6,hR6'⟩:=Rd.own hV1';injection e6 with e6 _ e6'
           subst e6 e6';obtain ⟨b,o,q,rfl,_,hq,hcq⟩:=hR6'.get hjl;rw [hu] at hq;cases hq;have esp:all=all.take j ++ r::all.drop (j + 1):=by
            rw [List.getElem?_eq_some_iff] at hr;obtain ⟨h1,rfl⟩:=hr;simp
           have htk:all.take (j + 1)=all.take j ++ [r]:=by rw [List.take_add_one,hr];rfl
           have hrk:∀i ∈ r,i<k:=fun i hi=>(hwh i).2 (by rw [esp];simp [hi]);have hbd:∀x ∈ v,-1≤x∧x≤5000:=fun x hx=>by
            have:=hLv.small x hx;rw [List.length_take] at this;omega
           have kR:=ringLevel_any (w:=wr) hRr ((hG6.below (hK.below (by omega) hg3)).more (by omega)) (zhk hX hLv.len hk) hLv.len hrk hbd;have hwh':∀i,i ∈ all.flatten→i<k:=fun i hi=>(hwh i).2 hi;cases hz:upR v l 0 r with
           | none =>
            rw [hz] at kR;simp only [rlV] at kR;have hcy:=hLv.bad hRg esp hwh' hz;clear esp htk hr hz;go_wp2_with (go_at_call 49;refine kR.mono ?_;rintro e7 w7 ⟨rfl,hb7⟩)
            go_ret2
            exact ⟨.cyc (by omega) (by omega) hIk hcy,hbw6.trans ((hK.below (by omega) hgw).trans (hb7.mono (by omega)))⟩
           | some z =>
            rw [hz] at kR;simp only [rlV] at kR;have hst:=hLv.step hRg esp hwh' hz;rw [←htk] at hst;clear esp htk hr hz;go_wp2_with (go_at_call 49;refine kR.mono ?_;rintro e7 w7 ⟨rfl,hb7⟩)
            have hrl:(r.length:Int)≤9223372036854775807:=by have:=hRr.cap;have:=hRr.capm;simp only [maxLen] at this;omega
            have hX7:=hX.below (hb7.mono (Nat.le_refl _));obtain ⟨wo,rfl⟩:∃wo:World,wo=wr:=⟨_,rfl⟩;go_loopw [72] (fun vi wy=>∃i:Nat,vi = .int .i64 i∧i≤r.length∧Bk wy g (lvs (zkU v z (r.take i))).toArray 3∧Kp g wo.heap.size wo wy) (fun vi _=>r.length-(intOf vi).toNat)
            case atStart=>exact ⟨0,rfl,Nat.zero_le _,hX7,Kp.of_below hb7 _⟩
            case round =>
             obtain ⟨i,rfl,hi,hXi,hKi⟩:=hrel;by_cases hil:i<r.length
             · have hdi:(i:Int)<(r.length:Int):=by omega
               obtain ⟨a,ha⟩:∃a,r[i]? = some a:=⟨_,List.getElem?_eq_getElem hil⟩;have hak:=hrk a (List.mem_of_getElem? ha);have hai:(a:Int)<(k:Int):=by omega
               have hor2:wr.ownsRow w5.heap.size 3 1 _ _ _:=zaI hor' fun b hb=>hKi.block b (hor'.lt b hb).2 (by have:=(hor'.lt b hb).1;omega);obtain ⟨A9,c9,e9,hR9⟩:=Rd.own hor2;injection e9 with e9 _ e9'
               subst e9 e9';obtain ⟨b2,o2,q2,rfl,_,hq2,hc2⟩:=hR9.get hil;have hq3:q2 = .int .i64 (a:Int):=by
                simp only [ints,List.getElem?_map,ha,Option.map_some,Option.some.injEq] at hq2;exact hq2.symm
               subst hq3;have hca:∃y:Int,wr.cell? ⟨g,a,none⟩=some (.int .i64 y):=by
                rw [hXi.cell a];have:a<(lvs (zkU v z (r.take i))).length:=by simp [lvs,zjZ,hLv.len,hak]
                rw [List.getElem?_toArray,List.getElem?_eq_getElem this];simp [lvs]
               obtain ⟨y,hca⟩:=hca;have hfa:=hXi.fz a;go_wp2_with fail
               have hX8:=hXi.set a (.int .i64 z);rw [ziT,←zmE ha] at hX8;exact ⟨⟨i + 1,by go_num,by omega,hX8,⟨hKi.os,hKi.tape,hKi.output,by have:=hKi.size;simp [World.setCell];omega,fun b hb1 hb2=>(Below.heap_setCell _ _ _ _ hb2).trans (hKi.block b hb1 hb2)⟩⟩,by simp [intOf];omega⟩
             · obtain rfl:i=r.length:=by omega
               have hdi:¬(((r.length:Nat):Int)<(r.length:Int)):=by omega
               rw [List.take_length] at hXi;go_wp2_with fail
               exact ⟨⟨j + 1,_,by go_num,by omega,hst,hXi,hK.trans (hKi.more hKs)⟩,by simp [intOf];omega⟩
         · obtain rfl:j=all.length:=by omega
           have hdj:¬(((all.length:Nat):Int)<(all.length:Int)):=by omega
           rw [List.take_length] at hLv;go_wp2_with fail
           go_ret2
           have hLe:=hLv.least hI hwh;refine ⟨.ok (by omega) (by omega) hIk v _ _ (zhk hX hLv.len hk) hLv.len hLe fun x hx=>?_,hbw6.trans (hK.below (by omega) hgw)⟩;have h1:=hLv.small x hx;obtain ⟨i,hi,rfl⟩:=List.getElem_of_mem hx;have h2:=hLe.1.1 i (by rw [hLv.len] at hi;exact hi);rw [zdw (List.getElem?_eq_getElem hi)] at h2;omega
end Go.Proofs.YtiepddmagfmllaaGreat
namespace Go.Proofs.YtiepddmagfmllaaGreat
open Go.RowKit Go.Maps
theorem laidP:laidOutB Tryz.prog=true:=by kernel_rfl
theorem rowE:(117:TypeId)<Tryz.prog.types.size:=of_decide_eq_true (by kernel_rfl)
theorem rowS:(104:TypeId)<Tryz.prog.types.size:=of_decide_eq_true (by kernel_rfl)
theorem keyAE:Tryz.prog.keyTypeAt 2 117=true:=by kernel_rfl
theorem keyAS:Tryz.prog.keyTypeAt 2 104=true:=by kernel_rfl
theorem lawE:WideMaps.KeyLaw Tryz.prog 117:=deep_law_laid laidP (m:=2) (by omega) rowE keyAE (by rw [Tryz.underlying117])
theorem lawS:WideMaps.KeyLaw Tryz.prog 104:=deep_law_laid laidP (m:=2) (by omega) rowS keyAS (by rw [Tryz.underlying104])
theorem zgu:Keyed Tryz.prog 117:=Keyed.of_law lawE
theorem zdt:Keyed Tryz.prog 104:=Keyed.of_law lawS
theorem keyTE:Tryz.prog.keyType 117=true:=by kernel_rfl
theorem keyTS:Tryz.prog.keyType 104=true:=by kernel_rfl
theorem cellsE:Tryz.prog.cellsOf 117=3:=by kernel_rfl
theorem cellsS:Tryz.prog.cellsOf 104=2:=by kernel_rfl
theorem cells1:Tryz.prog.cellsOf 3=1:=by kernel_rfl
theorem cells1b:Tryz.prog.cellsOf 4=1:=by kernel_rfl
theorem zlg:Tryz.prog.cellsOf 9=1:=by kernel_rfl
def kE (e:Ed):Lit:=.string (keyBytes [.int .i64 e.1,.int .i64 e.2.1,.bool e.2.2])
def kS (s:ByteArray × ByteArray):Lit:=.string (keyBytes [.string s.1.data.toList,.string s.2.data.toList])
theorem zlN (n:Nat) {e:Ed} (h1:(Lit.int .i64 e.1).wf=true) (h2:(Lit.int .i64 e.2.1).wf=true):Tryz.prog.keyLits (n + 2) 117 [.int .i64 e.1,.int .i64 e.2.1,.bool e.2.2]=some [.int .i64 e.1,.int .i64 e.2.1,.bool e.2.2]:=by
 simp [Program.keyLits,Tryz.underlying117,cellsE,cells1,cells1b,Tryz.underlying3,Tryz.underlying4,h1,h2]
theorem lits_sub (n:Nat) {s:ByteArray × ByteArray} (h1:s.1.size≤maxLen) (h2:s.2.size≤maxLen):Tryz.prog.keyLits (n + 2) 104 [.string s.1,.string s.2]=some [.string s.1.data.toList,.string s.2.data.toList]:=by
 simp [Program.keyLits,Tryz.underlying104,cellsS,zlg,Tryz.underlying9,h1,h2]
theorem formE (a b c:Value):(Value.agg #[a,b,c]).formed Tryz.prog 117=true:=by simp [Value.formed,Tryz.underlying117,cellsE]
theorem formS (a b:Value):(Value.agg #[a,b]).formed Tryz.prog 104=true:=by simp [Value.formed,Tryz.underlying104,cellsS]
theorem zg6 {t:TypeId} {cs:List Value} {r:List Lit} (h:∀n,Tryz.prog.keyLits (n + 2) t cs=some r) (ht:0<Tryz.prog.types.size):Tryz.prog.keyLits (Tryz.prog.types.size + 1) t cs=some r:=by
 obtain ⟨n,hn⟩:∃n,Tryz.prog.types.size=n + 1:=⟨Tryz.prog.types.size-1,by omega⟩;rw [hn];exact h n
theorem zg1 {e:Ed} (h1:(Lit.int .i64 e.1).wf=true) (h2:(Lit.int .i64 e.2.1).wf=true):keyOf Tryz.prog 117 (.agg #[.int .i64 e.1,.int .i64 e.2.1,.bool e.2.2])=some (kE e):=by
 have h3:=zg6 (fun n=>zlN n h1 h2) (Nat.lt_of_le_of_lt (Nat.zero_le _) rowE);unfold keyOf;simp only [Tryz.underlying117,keyTE,formE,Bool.and_self,if_true,Value.cells,List.toList_toArray];rw [h3];rfl
theorem zds {s:ByteArray × ByteArray} (h1:s.1.size≤maxLen) (h2:s.2.size≤maxLen):keyOf Tryz.prog 104 (.agg #[.string s.1,.string s.2])=some (kS s):=by
 have h3:=zg6 (fun n=>lits_sub n h1 h2) (Nat.lt_of_le_of_lt (Nat.zero_le _) rowS);unfold keyOf;simp only [Tryz.underlying104,keyTS,formS,Bool.and_self,if_true,Value.cells,List.toList_toArray];rw [h3];rfl
theorem kE_inj {e d:Ed} (h1:(Lit.int .i64 e.1).wf=true) (h2:(Lit.int .i64 e.2.1).wf=true) (h3:(Lit.int .i64 d.1).wf=true) (h4:(Lit.int .i64 d.2.1).wf=true) (h:kE e=kE d):e=d:=by
 have:=zgu.inj (zg1 h1 h2) (h ▸ zg1 h3 h4);simp at this;obtain ⟨q1,q2,q3⟩:=this;exact Prod.ext q1 (Prod.ext q2 q3)
theorem kS_inj {e d:ByteArray × ByteArray} (h1:e.1.size≤maxLen) (h2:e.2.size≤maxLen) (h3:d.1.size≤maxLen) (h4:d.2.size≤maxLen) (h:kS e=kS d):e=d:=by
 have:=zdt.inj (zds h1 h2) (h ▸ zds h3 h4);simp at this;exact Prod.ext this.1 this.2
end Go.Proofs.YtiepddmagfmllaaGreat
