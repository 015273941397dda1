import Derived.Test.YtiepddmagfmllaaGreatT20
import Derived.Test.YtiepddmagfmllaaGreatT32
set_option maxRecDepth 100000
set_option maxHeartbeats 4000000
namespace Go.Proofs.YtiepddmagfmllaaGreat
open Go.RowKit
theorem tyE_any {l:List TypA} {t:TypA}:tyE l t=if l.any (fun x=>decide (x.name=t.name))=true then 32 else if 12<t.rels.length then 13 else 0:=by
 unfold tyE zbu;rw [zbE]
theorem reE_any {A:Option Addr} {c:Nat} {q:List RelA} {r:RelA}:reE ⟨⟨#[]⟩,A,c,q⟩ r=if q.any (fun x=>decide (x.name=r.name))=true then 32 else if 16<r.ops.length then 13 else 0:=by
 unfold reE za2;rw [zbE]
theorem zia (t:TypA) (r:RelA):zgh t.says r.says=t.name ++ ⟨#[46]⟩ ++ r.name:=rfl
theorem check9_any {w:World} {R:Nat} {A:Option Addr} {c:Nat} {l:List TypA} (h:SchA w R A c l) (hR:R≤140737488351232) :
 Calls Tryz.prog 31 #[.slice A l.length c] w fun e w' =>
  e = .returned (.tuple #[.int .i64 ((zbb (l.map TypA.says)).1:Nat),.string (zbb (l.map TypA.says)).2])∧Below w.heap.size w w':=by
 have hll:(l.length:Int)≤9223372036854775807:=by have:=h.rows.cap;have:=h.rows.capm;simp only [maxLen] at this;omega
 obtain ⟨L,hL⟩:∃L,l.map TypA.says=L:=⟨_,rfl⟩;have hC:zbb (l.map TypA.says)=if 8<l.length then (13,⟨#[]⟩) else if (zbw [] (l.map TypA.says)).1≠0 then zbw [] (l.map TypA.says) else zbj L (l.map TypA.says):=by
  unfold zbb;rw [List.length_map,hL]
 generalize zbb (l.map TypA.says)=CE at *
 by_cases h8:8<l.length
 · have hdi:(8:Int)<(l.length:Nat):=by omega
   rw [if_pos h8] at hC;subst hC;go_enter Tryz.func31,Tryz.ntmps31
   go_wp2
   refine bodyPost_ret (v:=.tuple #[.int .i64 13,.string ⟨#[]⟩]) (by simp [results,Tryz.results31,go_sem];try rfl) rfl ?_;exact ⟨rfl,Below.refl _ _⟩
 · have hdi:¬(8:Int)<(l.length:Nat):=by omega
   rw [if_neg h8] at hC;have hNE:Hid (zbw [] (l.map TypA.says)=zbw ((l.take 0).map TypA.says) ((l.drop 0).map TypA.says)):=Lib.hid rfl;generalize zbw [] (l.map TypA.says)=NE at *
   have hNM:Hid (zbj L (l.map TypA.says)=zbj L ((l.drop 0).map TypA.says)):=Lib.hid rfl;generalize zbj L (l.map TypA.says)=NM at *
   replace hC:=Lib.hid hC;replace hL:=Lib.hid hL;go_enter Tryz.func31,Tryz.ntmps31
   go_wp2_with fail
   clear hdi;go_loopw [4] (fun vi wx=>∃i:Nat,vi = .int .i64 i∧i≤l.length∧Hid (NE=zbw ((l.take i).map TypA.says) ((l.drop i).map TypA.says))∧Below w.heap.size w wx) (fun vi _=>l.length-(intOf vi).toNat)
   case atStart=>exact ⟨0,rfl,Nat.zero_le _,hNE,Below.refl _ _⟩
   case round =>
    clear hNE;obtain ⟨i,rfl,hi,hNE,hbx⟩:=hrel;by_cases hil:i<l.length
    · have hdi:(i:Int)<(l.length:Nat):=by omega
      obtain ⟨t,ht⟩:∃t,l[i]? = some t:=⟨l[i],List.getElem?_eq_getElem hil⟩;have hx:=h.up hbx;obtain ⟨g,o,rfl,g0,g1,hk⟩:=hx.get ht;have lg:=World.block_lt_of_cell? _ _ g0;dsimp only at lg;have hS:=zj6 ht;rw [tyE_any] at hS;go_wp2_with fail
      refine (type9_any hx t.name).mono ?_;rintro e w2 ⟨⟨z,rfl,hz⟩,hb2⟩;have hzb:=hz.ahead ht (decide_eq_true rfl);clear hz hx;replace hbx:=zaj hbx hbx.size hb2;replace g0:=zaq g0 hb2;replace g1:=zaq g1 hb2;replace hk:=hk.up hb2;replace lg:g<w2.heap.size:=Nat.lt_of_lt_of_le lg hb2.size;clear hb2;generalize (l.take i).any (fun x=>decide (x.name=t.name))=tb at *
      cases tb with
      | true =>
       replace hzb:=of_decide_eq_true hzb;rw [if_pos rfl,if_pos (by decide)] at hS;replace hS:=Lib.hid hS;go_wp2_with fail
       go_quiet (fail)
       go_wp2
       refine bodyPost_ret (v:=.tuple #[.int .i64 32,.string t.name]) (by simp [results,Tryz.results31,go_sem];try rfl) rfl ?_;refine ⟨?_,zaj hbx hbx.size (zcJ w2 nq)⟩;rw [hC.out,hNE.out,hS.out];rfl
      | false =>
       replace hzb:=of_decide_eq_false hzb;rw [if_neg (show ¬(false=true) by decide)] at hS;by_cases h12:12<t.rels.length
       · have h12i:(12:Int)<(t.rels.length:Nat):=by omega
         rw [if_pos h12,if_pos (by decide)] at hS;replace hS:=Lib.hid hS;go_wp2_with fail
         go_quiet (fail)
         go_wp2
         refine bodyPost_ret (v:=.tuple #[.int .i64 13,.string t.name]) (by simp [results,Tryz.results31,go_sem];try rfl) rfl ?_;refine ⟨?_,zaj hbx hbx.size (zcJ w2 nq)⟩;rw [hC.out,hNE.out,hS.out];rfl
       · have h12i:¬(12:Int)<(t.rels.length:Nat):=by omega
         rw [if_neg h12,if_neg (by decide)] at hS;have hRE:Hid (zcw t.says [] (t.rels.map RelA.says)=zcw t.says ((t.rels.take 0).map RelA.says) ((t.rels.drop 0).map RelA.says)):=Lib.hid rfl;generalize zcw t.says [] (t.rels.map RelA.says)=RE at *
         replace hS:=Lib.hid hS;go_wp2_with fail
         obtain ⟨tA,htA⟩:∃tA,t.A=tA:=⟨_,rfl⟩;rw [htA] at g1 ⊢;clear hzb h12i;go_loopw [5] (fun vi wx=>∃i:Nat,vi = .int .i64 i∧i≤t.rels.length∧Hid (RE=zcw t.says ((t.rels.take i).map RelA.says) ((t.rels.drop i).map RelA.says))∧Below w2.heap.size w2 wx) (fun vi _=>t.rels.length-(intOf vi).toNat)
         case atStart=>exact ⟨0,rfl,Nat.zero_le _,hRE,Below.refl _ _⟩
         case round =>
          clear hRE;obtain ⟨j,rfl,hj,hRE,hby⟩:=hrel;have hby2:=zaj hbx hbx.size hby;have t0:=zaq g0 hby;have t1:=zaq g1 hby;have tl:g<wr.heap.size:=Nat.lt_of_lt_of_le lg hby.size;by_cases hjl:j<t.rels.length
          · have hdj:(j:Int)<(t.rels.length:Nat):=by omega
            obtain ⟨r,hr⟩:∃r,t.rels[j]? = some r:=⟨t.rels[j],List.getElem?_eq_getElem hjl⟩;obtain ⟨gr,o',eA,r0,r1,r2,r3,r4,r5,hkr⟩:=(hk.up hby).get hr;have lgr:=World.block_lt_of_cell? _ _ r0;dsimp only at lgr;rw [htA] at eA;subst eA;go_upto_region 14 with (fail)
            have hbs:=zck wr (.cells #[.string r.name,.string r.view,.string r.edit,.string r.check,.slice r.As r.subs.length r.cs,.slice r.Ao r.ops.length r.co] 48);have dR:=Bk.new wr #[.string r.name,.string r.view,.string r.edit,.string r.check,.slice r.As r.subs.length r.cs,.slice r.Ao r.ops.length r.co] 48;have hby3:=zaj hby hby.size hbs;have hkr2:=hkr.up hbs;clear hby hby2 hkr r0 r1 r2 r3 r4 r5 lgr t0 t1 tl hbs;generalize wr.alloc (.cells #[.string r.name,.string r.view,.string r.edit,.string r.check,.slice r.As r.subs.length r.cs,.slice r.Ao r.ops.length r.co] 48)=wq at *
            generalize wr.heap.size=B7 at *
            have t0:=zaq g0 hby3;have t1:=zaq g1 hby3;have tl:g<wq.heap.size:=Nat.lt_of_lt_of_le lg hby3.size;obtain ⟨r0,r1,r2,r3,r4,r5⟩:=dR.c6;have rl:=dR.lt;have hS2:=zjS (A:=some ⟨gr,o',none⟩) (c:=t.c) (t:=t.says) hr;rw [reE_any,zia] at hS2;have hkq:=Lib.hid (fun (W:World) (hW:Below wq.heap.size wq W)=>(hk.up (zaj hby3 hby3.size hW)));go_cut [71] from 63 to 71 (fun b wc=>∃bz:Bool,b = .bool bz∧bz=(t.rels.take j).any (fun x=>decide (x.name=r.name))∧Below wq.heap.size wq wc)
            case first =>
             have hSc:∀W:World,Below wq.heap.size wq W→W.cell? ⟨g,o + i * 2,none⟩=some (.string t.name)∧W.cell? ⟨g,o + i * 2 + 1,none⟩=some (.slice (some ⟨gr,o',none⟩) t.rels.length t.c)∧W.cell? ⟨B7,0,none⟩=some (.string r.name):=fun W h=>⟨zaq t0 h,zaq t1 h,zaq r0 h⟩;have hS0:Below wq.heap.size wq wq.drew:=(Below.refl _ _).drew;refine wp_region_any (by kernel_rfl) ?_;change wpAny _ _ _ _ _ _ _ (World.drew _);refine wpAny_of_held (S:=fun W=>Below wq.heap.size wq W) _ _ _ _ ?_;refine zaa 0 (some 63) (v:=?v0c) rfl rfl (by kernel_rfl) (by kernel_rfl) (by kernel_rfl) (fun _ _ _ h=>h) (by rfl) ?y0c (by assumption) ?r0c;case y0c=>(intro W hS;go_simp;try with_reducible rfl)
             simp only [Act.put,List.setIfInBounds_toArray,List.set_cons_zero,List.set_cons_succ];refine zaa 1 (some 64) (v:=?v1c) rfl rfl (by kernel_rfl) (by kernel_rfl) (by kernel_rfl) (fun _ _ _ h=>h) (by rfl) ?y1c (by assumption) ?r1c;case y1c=>(intro W hS;go_simp;try with_reducible rfl)
             simp only [Act.put,List.setIfInBounds_toArray,List.set_cons_zero,List.set_cons_succ];refine zaa 2 (some 65) (v:=?v2c) rfl rfl (by kernel_rfl) (by kernel_rfl) (by kernel_rfl) (fun _ _ _ h=>h) (by rfl) ?y2c (by assumption) ?r2c;case y2c=>(intro W hS;obtain ⟨s0,s1,s2⟩:=hSc W hS;go_simp;try with_reducible rfl)
             simp only [Act.put,List.setIfInBounds_toArray,List.set_cons_zero,List.set_cons_succ];refine zaa 3 (some 66) (v:=?v3c) rfl rfl (by kernel_rfl) (by kernel_rfl) (by kernel_rfl) (fun _ _ _ h=>h) (by rfl) ?y3c (by assumption) ?r3c;case y3c=>(intro W hS;obtain ⟨s0,s1,s2⟩:=hSc W hS;go_simp;try with_reducible rfl)
             simp only [Act.put,List.setIfInBounds_toArray,List.set_cons_zero,List.set_cons_succ];refine zaa 4 (some 67) (v:=?v4c) rfl rfl (by kernel_rfl) (by kernel_rfl) (by kernel_rfl) (fun _ _ _ h=>h) (by rfl) ?y4c (by assumption) ?r4c;case y4c=>(intro W hS;go_simp;try with_reducible rfl)
             simp only [Act.put,List.setIfInBounds_toArray,List.set_cons_zero,List.set_cons_succ];refine zaa 5 (some 68) (v:=?v5c) rfl rfl (by kernel_rfl) (by kernel_rfl) (by kernel_rfl) (fun _ _ _ h=>h) (by rfl) ?y5c (by assumption) ?r5c;case y5c=>(intro W hS;obtain ⟨s0,s1,s2⟩:=hSc W hS;go_simp;try with_reducible rfl)
             simp only [Act.put,List.setIfInBounds_toArray,List.set_cons_zero,List.set_cons_succ];refine zaa 7 (some 70) (v:=?v7c) rfl rfl (by kernel_rfl) (by kernel_rfl) (by kernel_rfl) (fun _ _ _ h=>h) (by rfl) ?y7c (by assumption) ?r7c;case y7c=>(intro W hS;go_simp;try with_reducible rfl)
             simp only [Act.put,List.setIfInBounds_toArray,List.set_cons_zero,List.set_cons_succ];have hcn:=rel9_any (hkq.out _ hS0) r.name;rw [htA] at hcn;refine zaB 6 rfl (by kernel_rfl) ?_;intro K hK;go_simp;refine hcn.mono ?_;rintro e w4 ⟨⟨z,rfl,hz⟩,hb4⟩;have hzb:=hz.ahead hr (decide_eq_true rfl);have hS4:Below wq.heap.size wq w4:=zaj hS0 hS0.size hb4;refine hK _ _ hS4 ?_;clear hK K hz hb4;refine zaa 8 (some 71) (v:=?v8c) rfl rfl (by kernel_rfl) (by kernel_rfl) (by kernel_rfl) (fun _ _ _ h=>h) (by rfl) ?y8c (by assumption) ?r8c;case y8c=>(intro W hS;go_simp;try with_reducible rfl)
             simp only [Act.put,List.setIfInBounds_toArray,List.set_cons_zero,List.set_cons_succ];refine wpAnyH_done (by kernel_rfl) ?_ _;go_wp2_with fail
             go_meet
             exact ⟨_,rfl,rfl,hS4⟩
            case rest =>
             obtain ⟨bz,rfl,hbz,hb5⟩:=hcut;generalize wc=w5 at *
             replace hby3:=zaj hby3 hby3.size hb5;have dR5:=dR.below hb5;clear t0 t1 tl r0 r1 r2 r3 r4 r5 rl dR hkq hb5;have t0:=zaq g0 hby3;have t1:=zaq g1 hby3;have tl:g<w5.heap.size:=Nat.lt_of_lt_of_le lg hby3.size;obtain ⟨r0,r1,r2,r3,r4,r5⟩:=dR5.c6;have rl:=dR5.lt;have z1:t.name.size≤140737488351232:=Nat.le_trans hk.name hR;have z2:r.name.size≤140737488351232:=Nat.le_trans hkr2.name hR;have n1:¬9223372036854775807<t.name.size + 1:=by omega
             have n2:¬9223372036854775807<t.name.size + 1 + r.name.size:=by omega
             rw [←hbz] at hS2;clear hbz;cases bz with
             | true =>
              rw [if_pos rfl,if_pos (by decide)] at hS2;replace hS2:=Lib.hid hS2;go_wp2_with fail
              go_quiet (fail)
              go_wp2
              refine bodyPost_ret (v:=.tuple #[.int .i64 32,.string (t.name ++ ⟨#[46]⟩ ++ r.name)]) (by simp [results,Tryz.results31,go_sem];try rfl) rfl ?_;refine ⟨?_,zaj hbx hbx.size (zaj hby3 hby3.size (zcJ w5 nq))⟩;have e1:RE=(32,t.name ++ ⟨#[46]⟩ ++ r.name):=by rw [hRE.out,hS2.out]
              have e2:NE=(32,t.name ++ ⟨#[46]⟩ ++ r.name):=by rw [hNE.out,hS.out,e1];rfl
              rw [hC.out,e2];rfl
             | false =>
              rw [if_neg (show ¬(false=true) by decide)] at hS2;by_cases h16:16<r.ops.length
              · have h16i:(16:Int)<(r.ops.length:Nat):=by omega
                rw [if_pos h16,if_pos (by decide)] at hS2;replace hS2:=Lib.hid hS2;go_wp2_with fail
                go_quiet (fail)
                go_wp2
                refine bodyPost_ret (v:=.tuple #[.int .i64 13,.string (t.name ++ ⟨#[46]⟩ ++ r.name)]) (by simp [results,Tryz.results31,go_sem];try rfl) rfl ?_;refine ⟨?_,zaj hbx hbx.size (zaj hby3 hby3.size (zcJ w5 nq))⟩;have e1:RE=(13,t.name ++ ⟨#[46]⟩ ++ r.name):=by rw [hRE.out,hS2.out]
                have e2:NE=(13,t.name ++ ⟨#[46]⟩ ++ r.name):=by rw [hNE.out,hS.out,e1];rfl
                rw [hC.out,e2];rfl
              · have h16i:¬(16:Int)<(r.ops.length:Nat):=by omega
                rw [if_neg h16,if_neg (by decide)] at hS2;replace hS2:=Lib.hid hS2;go_wp2_with fail
                refine ⟨⟨j + 1,by go_num,by omega,Lib.hid (by rw [hRE.out,hS2.out]),hby3⟩,?_⟩;simp [intOf];omega
          · have hdj:¬((j:Int)<(t.rels.length:Nat)):=by omega
            obtain rfl:j=t.rels.length:=by omega
            have hRE0:RE=(0,⟨#[]⟩):=by
             rw [hRE.out,List.take_length,List.drop_length];rfl
            have hS':=hS.out;rw [hRE0,if_neg (show ¬((0,⟨#[]⟩):Nat × ByteArray).1≠0 by decide)] at hS';replace hS':=Lib.hid hS';clear hRE0;go_wp2_with fail
            refine ⟨⟨i + 1,by go_num,by omega,Lib.hid (by rw [hNE.out,hS'.out]),hby2⟩,?_⟩;simp [intOf];omega
    · have hdi:¬(i:Int)<(l.length:Nat):=by omega
      obtain rfl:i=l.length:=by omega
      have hNE0:NE=(0,⟨#[]⟩):=by
       rw [hNE.out,List.take_length,List.drop_length];rfl
      replace hC:Hid (CE=NM):=Lib.hid (by rw [hC.out,hNE0,if_neg (show ¬((0,⟨#[]⟩):Nat × ByteArray).1≠0 by decide)]);clear hNE0 hNE;go_wp2_with fail
      clear hdi;have h1:=h.up hbx;generalize wr=w1 at *
      go_loopw [7] (fun vi wx=>∃i:Nat,vi = .int .i64 i∧i≤l.length∧Hid (NM=zbj L ((l.drop i).map TypA.says))∧Below w1.heap.size w1 wx) (fun vi _=>l.length-(intOf vi).toNat)
      case atStart=>exact ⟨0,rfl,Nat.zero_le _,hNM,Below.refl _ _⟩
      case round =>
       clear hNM;obtain ⟨i,rfl,hi,hNM,hby⟩:=hrel;by_cases hil:i<l.length
       · have hdi:(i:Int)<(l.length:Nat):=by omega
         obtain ⟨t,ht⟩:∃t,l[i]? = some t:=⟨l[i],List.getElem?_eq_getElem hil⟩;obtain ⟨g,o,rfl,g0,g1,hk⟩:=(h1.up hby).get ht;have lg:=World.block_lt_of_cell? _ _ g0;dsimp only at lg;have hS:=zhY (L:=L) ht;have hRE:Hid (za4 L t.says (t.rels.map RelA.says)=za4 L t.says ((t.rels.drop 0).map RelA.says)):=Lib.hid rfl;generalize za4 L t.says (t.rels.map RelA.says)=RE at *
         replace hS:=Lib.hid hS;go_wp2_with fail
         obtain ⟨tA,htA⟩:∃tA,t.A=tA:=⟨_,rfl⟩;rw [htA] at g1;have h2:=h1.up hby;have hlr:(t.rels.length:Int)≤9223372036854775807:=by have:=hk.rels.cap;have:=hk.rels.capm;simp only [maxLen] at this;omega
         generalize wr=w2 at *
         go_loopw [8] (fun vi wx=>∃i:Nat,vi = .int .i64 i∧i≤t.rels.length∧Hid (RE=za4 L t.says ((t.rels.drop i).map RelA.says))∧Below w2.heap.size w2 wx) (fun vi _=>t.rels.length-(intOf vi).toNat)
         case atStart=>exact ⟨0,rfl,Nat.zero_le _,hRE,Below.refl _ _⟩
         case round =>
          clear hRE;obtain ⟨j,rfl,hj,hRE,hbz⟩:=hrel;have t0:=zaq g0 hbz;have t1:=zaq g1 hbz;have tl:g<wr.heap.size:=Nat.lt_of_lt_of_le lg hbz.size;by_cases hjl:j<t.rels.length
          · have hdj:(j:Int)<(t.rels.length:Nat):=by omega
            obtain ⟨r,hr⟩:∃r,t.rels[j]? = some r:=⟨t.rels[j],List.getElem?_eq_getElem hjl⟩;obtain ⟨gr,o',eA,r0,r1,r2,r3,r4,r5,hkr⟩:=(hk.up hbz).get hr;have lgr:=World.block_lt_of_cell? _ _ r0;dsimp only at lgr;rw [htA] at eA;subst eA;have hS2:=zgz (l:=L) (t:=t.says) hr;rw [zia] at hS2;have hbd:Below wr.heap.size wr wr.drew:=⟨rfl,rfl,rfl,Nat.le_refl _,fun _ _=>rfl⟩;have hbz2:=zaj hbz hbz.size hbd;have hcn:=named9_any (h2.up hbz2) (hk.up hbz2) (hkr.up hbd);rw [htA,hL.out] at hcn;generalize zbQ L t.says r.says=k at *
            obtain ⟨As,hAs⟩:∃As,r.As=As:=⟨_,rfl⟩;obtain ⟨Ao,hAo⟩:∃Ao,r.Ao=Ao:=⟨_,rfl⟩;rw [hAs] at r4 hcn;rw [hAo] at r5 hcn;go_wp2_with fail
            go_still_tail 13,(by kernel_rfl)
            change wpList _ _ _ _ _ (World.drew _);have z1:t.name.size≤140737488351232:=Nat.le_trans hk.name hR;have z2:r.name.size≤140737488351232:=Nat.le_trans hkr.name hR;have n1:¬9223372036854775807<t.name.size + 1:=by omega
            have n2:¬9223372036854775807<t.name.size + 1 + r.name.size:=by omega
            by_cases hk0:k=0
            · subst hk0;rw [if_neg (by decide)] at hS2;replace hS2:=Lib.hid hS2;simp only [show ((0:Nat):Int)=0 from rfl] at hcn;go_wp2_with ((with_reducible refine hcn.mono ?_);rintro e w6 ⟨rfl,hb6⟩)
              refine ⟨⟨j + 1,by go_num,by omega,Lib.hid (by rw [hRE.out,hS2.out]),zaj hbz2 hbz2.size hb6⟩,?_⟩;simp [intOf];omega
            · have hki:¬((k:Nat):Int)=0:=by omega
              rw [if_pos hk0] at hS2;replace hS2:=Lib.hid hS2;go_wp2_with ((with_reducible refine hcn.mono ?_);rintro e w6 ⟨rfl,hb6⟩;have hbw:=hbd.trans hb6;have p0:=zaq t0 hbw;have p1:=zaq t1 hbw;have q0:=zaq r0 hbw;have pl:=World.block_lt_of_cell? _ _ p0;dsimp only at pl;have ql:=World.block_lt_of_cell? _ _ q0;dsimp only at ql)
              clear t0 t1 tl r0 r1 r2 r3 r4 r5 lgr;go_quiet (fail)
              go_wp2
              refine bodyPost_ret (v:=.tuple #[.int .i64 (k:Nat),.string (t.name ++ ⟨#[46]⟩ ++ r.name)]) (by simp [results,Tryz.results31,go_sem];try rfl) rfl ?_;refine ⟨?_,zaj hbx hbx.size (zaj hby hby.size (zaj hbz2 hbz2.size (zaj hb6 hb6.size (zcJ w6 nq))))⟩;have e1:RE=(k,t.name ++ ⟨#[46]⟩ ++ r.name):=by rw [hRE.out,hS2.out]
              have e2:NM=(k,t.name ++ ⟨#[46]⟩ ++ r.name):=by rw [hNM.out,hS.out,e1,if_pos hk0]
              rw [hC.out,e2]
          · have hdj:¬((j:Int)<(t.rels.length:Nat)):=by omega
            obtain rfl:j=t.rels.length:=by omega
            have hRE0:RE=(0,⟨#[]⟩):=by
             rw [hRE.out,List.drop_length];rfl
            have hS':=hS.out;rw [hRE0,if_neg (show ¬((0,⟨#[]⟩):Nat × ByteArray).1≠0 by decide)] at hS';replace hS':=Lib.hid hS';clear hRE0;go_wp2_with fail
            refine ⟨⟨i + 1,by go_num,by omega,Lib.hid (by rw [hNM.out,hS'.out]),zaj hby hby.size hbz⟩,?_⟩;simp [intOf];omega
       · have hdi:¬(i:Int)<(l.length:Nat):=by omega
         obtain rfl:i=l.length:=by omega
         have hNM0:CE=(0,⟨#[]⟩):=by
          rw [hC.out,hNM.out,List.drop_length];rfl
         subst hNM0;go_wp2
         refine bodyPost_ret (v:=.tuple #[.int .i64 0,.string ⟨#[]⟩]) (by simp [results,Tryz.results31,go_sem];try rfl) rfl ?_;exact ⟨rfl,zaj hbx hbx.size hby⟩
theorem zeN {α:Type} (g:α→List Value) {sz:Nat} (hg:∀a,(g a).length=sz):∀(l:List α) (i:Nat),(l.flatMap g).take (i * sz)=(l.take i).flatMap g∧(l.flatMap g).drop (i * sz)=(l.drop i).flatMap g
 | [],i=>by simp
 | a::t,0=>by simp
 | a::t,i + 1=>by
  obtain ⟨h1,h2⟩:=zeN g hg t i;have ha:=hg a;rw [List.flatMap_cons,List.take_succ_cons,List.drop_succ_cons,List.flatMap_cons,show (i + 1) * sz=sz + i * sz by rw [Nat.add_mul,Nat.one_mul,Nat.add_comm]];refine ⟨?_,?_⟩
  · rw [List.take_append,ha,Nat.add_sub_cancel_left,h1,List.take_of_length_le (by omega)]
  · rw [List.drop_append,ha,Nat.add_sub_cancel_left,h2,List.drop_of_length_le (by omega),List.nil_append]
theorem zcZ (Z:List Ed) (i:Nat):(zan Z).take (i * 3)=zan (Z.take i):=(zeN zaT (fun _=>rfl) Z i).1
theorem zcY (Z:List Ed) (i:Nat):(zan Z).drop (i * 3)=zan (Z.drop i):=(zeN zaT (fun _=>rfl) Z i).2
theorem addE_any {w:World} {c:Nat} {A:Option Addr} {Z:List Ed} (x:Ed) (h:Rd w w.heap.size 3 A Z.length c (zan Z)) (hl:Z.length≤20000) :
 Calls Tryz.prog 70 #[.slice A Z.length c,.agg (zaT x).toArray] w fun e w'=>(∃A' c' Z',e = .returned (.slice A' (Z'.length) c')∧Rd w' w'.heap.size 3 A' Z'.length c' (zan Z')∧Z'.length≤Z.length + 1∧∀S,IsE Z S→IsE Z' (S ++ [x]))∧Below w.heap.size w w':=by
 obtain ⟨i0,hi0,hz0,hz1,hz2⟩:=info_parts info_E;have kb:=fun (a:Ed) W=>below_any a x W;obtain ⟨x1,x2,x3⟩:=x;simp only [zaT] at *
 have hb0:=zfb w (.cells #[.int .i64 x1,.int .i64 x2,.bool x3] 166);have d0:=Bk.new w #[.int .i64 x1,.int .i64 x2,.bool x3] 166;replace h:=h.up hb0;go_enter Tryz.func70,Tryz.ntmps70
 go_upto_region 1 with (fail)
 generalize w.alloc (.cells #[.int .i64 x1,.int .i64 x2,.bool x3] 166)=w1 at *
 generalize hgx:w.heap.size=gx at *
 go_wp2_with fail
 go_loopw [5] (fun vi wx=>∃i:Nat,vi = .int .i64 i∧i≤Z.length∧(∀y ∈ Z.take i,cfE y (x1,x2,x3)<0)∧Below w1.heap.size w1 wx) (fun vi _=>Z.length-(intOf vi).toNat)
 case atStart=>exact ⟨0,rfl,Nat.zero_le _,fun y hy=>(by simp at hy),Below.refl _ _⟩
 case round =>
  obtain ⟨i,rfl,hi,hlt,hbx⟩:=hrel;have dx:=d0.below hbx;have q0:wr.cell? ⟨gx,0,none⟩=some (.int .i64 x1):=dx.cell 0;have q1:wr.cell? ⟨gx,1,none⟩=some (.int .i64 x2):=dx.cell 1;have q2:wr.cell? ⟨gx,2,none⟩=some (.bool x3):=dx.cell 2;have ql:=dx.lt;by_cases hil:i<Z.length
  · have hdi:(i:Int)<(Z.length:Int):=by omega
    obtain ⟨e,he⟩:∃e,Z[i]? = some e:=⟨_,List.getElem?_eq_getElem hil⟩;obtain ⟨b,o,rfl,_,g0,g1,g2⟩:=zgT (h.up hbx) he rfl;have kb:=kb e;have hlg:=World.block_lt_of_cell? _ _ g0;dsimp only at hlg;obtain ⟨r,hr⟩:∃r,decide (cfE e (x1,x2,x3)<0)=r:=⟨_,rfl⟩;rw [hr] at kb;obtain ⟨e1,e2,e3⟩:=e;simp only at g0 g1 g2;simp only at kb;go_upto_region 2 with (fail)
    go_region_held3 (fun W=>W.cell? ⟨b,o + i * 3,none⟩=some (.int .i64 e1)∧W.cell? ⟨b,o + i * 3 + 1,none⟩=some (.int .i64 e2)∧W.cell? ⟨b,o + i * 3 + 2,none⟩=some (.bool e3)∧W.cell? ⟨gx,0,none⟩=some (.int .i64 x1)∧W.cell? ⟨gx,1,none⟩=some (.int .i64 x2)∧W.cell? ⟨gx,2,none⟩=some (.bool x3))
     (first | go_keep | exact ⟨zac g0 (zah (Below.refl _ _).drew (Nat.le_refl _) hb8),zac g1 (zah (Below.refl _ _).drew (Nat.le_refl _) hb8),zac g2 (zah (Below.refl _ _).drew (Nat.le_refl _) hb8),zac q0 (zah (Below.refl _ _).drew (Nat.le_refl _) hb8),zac q1 (zah (Below.refl _ _).drew (Nat.le_refl _) hb8),zac q2 (zah (Below.refl _ _).drew (Nat.le_refl _) hb8)⟩ | fail)
     ((go_at_call 111;refine (kb _).mono ?_;rintro e w8 ⟨rfl,hb8⟩))
    replace hr:=Lib.hid hr;replace he:=Lib.hid he;have hb2:Below w1.heap.size w1 w8:=(hbx.drew).trans (hb8.mono hbx.drew.size);clear hbx hb8 g0 g1 g2 q0 q1 q2 ql dx hlg kb;cases r with
    | true =>
     go_wp2_with fail
     exact ⟨⟨i + 1,by go_num,by omega,fun y hy=>(by rw [List.take_add_one,he.out] at hy;rcases List.mem_append.1 hy with hy | hy;exact hlt y hy;simp at hy;subst hy;exact of_decide_eq_true hr.out),hb2⟩,by simp [intOf];omega⟩
    | false =>
     generalize w8=wa at *
     have g0:wa.cell? ⟨b,o + i * 3,none⟩=some (.int .i64 e1):=by obtain ⟨b9,o9,e9,_,p0,_,_⟩:=zgT (h.up hb2) he.out rfl;injection e9 with e9;injection e9 with e91 e92 _;subst e91;subst e92;exact p0
     have g1:wa.cell? ⟨b,o + i * 3 + 1,none⟩=some (.int .i64 e2):=by obtain ⟨b9,o9,e9,_,_,p1,_⟩:=zgT (h.up hb2) he.out rfl;injection e9 with e9;injection e9 with e91 e92 _;subst e91;subst e92;exact p1
     have g2:wa.cell? ⟨b,o + i * 3 + 2,none⟩=some (.bool e3):=by obtain ⟨b9,o9,e9,_,_,_,p2⟩:=zgT (h.up hb2) he.out rfl;injection e9 with e9;injection e9 with e91 e92 _;subst e91;subst e92;exact p2
     have dx:=d0.below hb2;have q0:wa.cell? ⟨gx,0,none⟩=some (.int .i64 x1):=dx.cell 0;have q1:wa.cell? ⟨gx,1,none⟩=some (.int .i64 x2):=dx.cell 1;have q2:wa.cell? ⟨gx,2,none⟩=some (.bool x3):=dx.cell 2;have ql:=dx.lt;have hlg:=World.block_lt_of_cell? _ _ g0;dsimp only at hlg;by_cases hx2:x2<0
     · go_wp2_with fail
       go_quiet (fail)
       have hb3:=zaj hb2 hb2.size (zcJ wa nq);clear q0 q1 q2 ql dx hb2 g0 g1 g2;generalize wa.drewN nq=wb at *
       have dx:=d0.below hb3;have q0:wb.cell? ⟨gx,0,none⟩=some (.int .i64 x1):=dx.cell 0;have q1:wb.cell? ⟨gx,1,none⟩=some (.int .i64 x2):=dx.cell 1;have q2:wb.cell? ⟨gx,2,none⟩=some (.bool x3):=dx.cell 2;have ql:=dx.lt;have hz:=h.up hb3;go_wp2_with fail
       go_ret
       exact ⟨⟨_,c,Z,rfl,hz,by omega,fun S hS=>hS.same (.inl hx2)⟩,by have q:=zaj (B:=gx) hb0 (by have:=hb0.size;omega) hb3;first | exact q | (rw [hgx];exact q)⟩
     · by_cases heq:(e1,e2,e3)=(x1,x2,x3)
       · cases heq;go_wp2_with fail
         go_quiet (fail)
         have hb3:=zaj hb2 hb2.size (zcJ wa nq);clear q0 q1 q2 ql dx hb2 g0 g1 g2;generalize wa.drewN nq=wb at *
         have dx:=d0.below hb3;have q0:wb.cell? ⟨gx,0,none⟩=some (.int .i64 x1):=dx.cell 0;have q1:wb.cell? ⟨gx,1,none⟩=some (.int .i64 x2):=dx.cell 1;have q2:wb.cell? ⟨gx,2,none⟩=some (.bool x3):=dx.cell 2;have ql:=dx.lt;have hz:=h.up hb3;go_wp2_with fail
         go_ret
         exact ⟨⟨_,c,Z,rfl,hz,by omega,fun S hS=>hS.same (.inr (List.mem_of_getElem? he.out))⟩,by have q:=zaj (B:=gx) hb0 (by have:=hb0.size;omega) hb3;first | exact q | (rw [hgx];exact q)⟩
       · have hnx:Hid (∀y,Z[i]? = some y→¬cfE y (x1,x2,x3)<0∧y≠(x1,x2,x3)):=Lib.hid fun y hy=>by rw [he.out] at hy;cases hy;exact ⟨of_decide_eq_false hr.out,heq⟩
         by_cases c1:e1=x1
         · obtain rfl:x1=e1:=c1.symm;by_cases c2:e2=x2
           · obtain rfl:x2=e2:=c2.symm;have c3:¬e3=x3:=fun q=>heq (by rw [q]);clear heq;go_wp2_with fail
             go_quiet (fail)
             have hb3:=zaj hb2 hb2.size (zcJ wa nq);clear q0 q1 q2 ql dx hb2 g0 g1 g2;generalize wa.drewN nq=wb at *
             have dx:=d0.below hb3;have q0:wb.cell? ⟨gx,0,none⟩=some (.int .i64 x1):=dx.cell 0;have q1:wb.cell? ⟨gx,1,none⟩=some (.int .i64 x2):=dx.cell 1;have q2:wb.cell? ⟨gx,2,none⟩=some (.bool x3):=dx.cell 2;have ql:=dx.lt;clear hil hdi hlg he hr;generalize hA:(some (⟨b,o,none⟩:Addr))=A at *
             have hz:=h.up hb3;have hic:i≤c:=Nat.le_trans hi hz.cap;go_upto_region 7 with (fail)
             have hsrc:=(hz.pre (k:=i) hi).src (P:=Tryz.prog) Tryz.underlying86 (fun u hu=>zby Z u (List.mem_of_mem_take hu));rw [zcZ] at hsrc;go_upto_region 8 with (at_builtin;go_loud (refine zab _ rfl (.tmp 39) (.tmp 42) 86 86 rfl wb.heap.size 166 i0 (.agg #[.int .i64 0,.int .i64 0,.bool false]) 3 24 Tryz.underlying86 hi0 hz0 hz1 hz2 rfl (by decide) (.slice none 0 0) 0 [] rfl (World.ownsRow_nil _ _ _ _) _ i (zan (Z.take i)) rfl hsrc (by simp only [maxLen];omega) (by omega) (Nat.le_refl _) ?_;intro v9 w8 hown8 hg8 hat8))
             rw [Nat.zero_add,List.nil_append] at hown8;have hb8:=zak (Below.refl _ wb) hg8 (World.ownsRow_nil wb wb.heap.size 166 3) (Nat.le_refl _) (Nat.le_refl _);have hw8:=hb8.size;have dy:=dx.below hb8;have z0:w8.cell? ⟨gx,0,none⟩=some (.int .i64 x1):=dy.cell 0;have z1:w8.cell? ⟨gx,1,none⟩=some (.int .i64 x2):=dy.cell 1;have z2:w8.cell? ⟨gx,2,none⟩=some (.bool x3):=dy.cell 2;have zl:=dy.lt;have hz8:=hz.below hb8;clear q0 q1 q2 ql dx hsrc hz hg8 hat8;obtain ⟨A8,c8,rfl,_⟩:=Rd.own hown8;go_upto_region 9 with (at_builtin;go_loud (refine zab _ rfl (.tmp 44) (.tmp 46) 86 86 rfl wb.heap.size 166 i0 (.agg #[.int .i64 0,.int .i64 0,.bool false]) 3 24 Tryz.underlying86 hi0 hz0 hz1 hz2 rfl (by decide) (.slice A8 i c8) i (zan (Z.take i)) rfl (hown8.alloc _) _ 1 [.int .i64 x1,.int .i64 x2,.bool x3] rfl (Src.ofSlice _ Tryz.underlying86 _ 1 1 _ rfl (zaZ _ _ _ _ _) (zb1 (x1,x2,x3))) (by simp only [maxLen];omega) (by omega) (size_alloc hw8) ?_;intro v7 w7 hown7 hg7 hat7))
             have hb7:=zak (hb8.alloc hw8 _) hg7 (hown8.alloc _) (size_alloc hw8) (Nat.le_refl _);have hw7:=hb7.size;have hz7:=(h.up hb3).below hb7;clear z0 z1 z2 zl dy hz8 hg7 hat7 hown8 hw8 hb8;obtain ⟨A7,c7,rfl,_⟩:=Rd.own hown7;have hcut:=(hz7.cut hi).src (P:=Tryz.prog) Tryz.underlying86 (fun u hu=>zby Z u (List.mem_of_mem_drop hu));rw [zcY] at hcut;have hcap:=hz7.cap;go_wp2_with (at_builtin;go_loud (refine zab _ rfl (.tmp 48) (.tmp 51) 86 86 rfl wb.heap.size 166 i0 (.agg #[.int .i64 0,.int .i64 0,.bool false]) 3 24 Tryz.underlying86 hi0 hz0 hz1 hz2 rfl (by decide) (.slice A7 (i + 1) c7) (i + 1) (zan (Z.take i) ++ [.int .i64 x1,.int .i64 x2,.bool x3]) rfl hown7 _ (Z.length-i) (zan (Z.drop i)) rfl hcut (by simp only [maxLen];omega) (by omega) hw7 ?_;intro v6 w6 hown6 hg6 hat6))
             all_goals
              have hb6:=zak hb7 hg6 hown7 hw7 (Nat.le_refl _);obtain ⟨A6,c6,rfl,hR6⟩:=Rd.own hown6;have hlen:i + 1 + (Z.length-i)=(Z.take i ++ (x1,x2,x3)::Z.drop i).length:=by simp;omega
              have hcel:zan (Z.take i) ++ [.int .i64 x1,.int .i64 x2,.bool x3] ++ zan (Z.drop i)=zan (Z.take i ++ (x1,x2,x3)::Z.drop i):=by simp [zan,zaT]
              rw [hcel,hlen] at hR6;rw [hlen];go_ret
              exact ⟨⟨A6,c6,_,rfl,hR6,by rw [←hlen];omega,fun S hS=>hS.put (x:=(x1,x2,x3)) (by show 0≤x2;omega) hlt fun y hy=>⟨by have:=(hnx.out y hy).1;omega,(hnx.out y hy).2⟩⟩,by have q:=zaj (B:=gx) hb0 (by have:=hb0.size;omega) (hb3.trans (hb6.mono hb3.size));first | exact q | (rw [hgx];exact q)⟩
           · clear heq;go_wp2_with fail
             go_quiet (fail)
             have hb3:=zaj hb2 hb2.size (zcJ wa nq);clear q0 q1 q2 ql dx hb2 g0 g1 g2;generalize wa.drewN nq=wb at *
             have dx:=d0.below hb3;have q0:wb.cell? ⟨gx,0,none⟩=some (.int .i64 x1):=dx.cell 0;have q1:wb.cell? ⟨gx,1,none⟩=some (.int .i64 x2):=dx.cell 1;have q2:wb.cell? ⟨gx,2,none⟩=some (.bool x3):=dx.cell 2;have ql:=dx.lt;clear hil hdi hlg he hr;generalize hA:(some (⟨b,o,none⟩:Addr))=A at *
             have hz:=h.up hb3;have hic:i≤c:=Nat.le_trans hi hz.cap;go_upto_region 7 with (fail)
             have hsrc:=(hz.pre (k:=i) hi).src (P:=Tryz.prog) Tryz.underlying86 (fun u hu=>zby Z u (List.mem_of_mem_take hu));rw [zcZ] at hsrc;go_upto_region 8 with (at_builtin;go_loud (refine zab _ rfl (.tmp 39) (.tmp 42) 86 86 rfl wb.heap.size 166 i0 (.agg #[.int .i64 0,.int .i64 0,.bool false]) 3 24 Tryz.underlying86 hi0 hz0 hz1 hz2 rfl (by decide) (.slice none 0 0) 0 [] rfl (World.ownsRow_nil _ _ _ _) _ i (zan (Z.take i)) rfl hsrc (by simp only [maxLen];omega) (by omega) (Nat.le_refl _) ?_;intro v9 w8 hown8 hg8 hat8))
             rw [Nat.zero_add,List.nil_append] at hown8;have hb8:=zak (Below.refl _ wb) hg8 (World.ownsRow_nil wb wb.heap.size 166 3) (Nat.le_refl _) (Nat.le_refl _);have hw8:=hb8.size;have dy:=dx.below hb8;have z0:w8.cell? ⟨gx,0,none⟩=some (.int .i64 x1):=dy.cell 0;have z1:w8.cell? ⟨gx,1,none⟩=some (.int .i64 x2):=dy.cell 1;have z2:w8.cell? ⟨gx,2,none⟩=some (.bool x3):=dy.cell 2;have zl:=dy.lt;have hz8:=hz.below hb8;clear q0 q1 q2 ql dx hsrc hz hg8 hat8;obtain ⟨A8,c8,rfl,_⟩:=Rd.own hown8;go_upto_region 9 with (at_builtin;go_loud (refine zab _ rfl (.tmp 44) (.tmp 46) 86 86 rfl wb.heap.size 166 i0 (.agg #[.int .i64 0,.int .i64 0,.bool false]) 3 24 Tryz.underlying86 hi0 hz0 hz1 hz2 rfl (by decide) (.slice A8 i c8) i (zan (Z.take i)) rfl (hown8.alloc _) _ 1 [.int .i64 x1,.int .i64 x2,.bool x3] rfl (Src.ofSlice _ Tryz.underlying86 _ 1 1 _ rfl (zaZ _ _ _ _ _) (zb1 (x1,x2,x3))) (by simp only [maxLen];omega) (by omega) (size_alloc hw8) ?_;intro v7 w7 hown7 hg7 hat7))
             have hb7:=zak (hb8.alloc hw8 _) hg7 (hown8.alloc _) (size_alloc hw8) (Nat.le_refl _);have hw7:=hb7.size;have hz7:=(h.up hb3).below hb7;clear z0 z1 z2 zl dy hz8 hg7 hat7 hown8 hw8 hb8;obtain ⟨A7,c7,rfl,_⟩:=Rd.own hown7;have hcut:=(hz7.cut hi).src (P:=Tryz.prog) Tryz.underlying86 (fun u hu=>zby Z u (List.mem_of_mem_drop hu));rw [zcY] at hcut;have hcap:=hz7.cap;go_wp2_with (at_builtin;go_loud (refine zab _ rfl (.tmp 48) (.tmp 51) 86 86 rfl wb.heap.size 166 i0 (.agg #[.int .i64 0,.int .i64 0,.bool false]) 3 24 Tryz.underlying86 hi0 hz0 hz1 hz2 rfl (by decide) (.slice A7 (i + 1) c7) (i + 1) (zan (Z.take i) ++ [.int .i64 x1,.int .i64 x2,.bool x3]) rfl hown7 _ (Z.length-i) (zan (Z.drop i)) rfl hcut (by simp only [maxLen];omega) (by omega) hw7 ?_;intro v6 w6 hown6 hg6 hat6))
             all_goals
              have hb6:=zak hb7 hg6 hown7 hw7 (Nat.le_refl _);obtain ⟨A6,c6,rfl,hR6⟩:=Rd.own hown6;have hlen:i + 1 + (Z.length-i)=(Z.take i ++ (x1,x2,x3)::Z.drop i).length:=by simp;omega
              have hcel:zan (Z.take i) ++ [.int .i64 x1,.int .i64 x2,.bool x3] ++ zan (Z.drop i)=zan (Z.take i ++ (x1,x2,x3)::Z.drop i):=by simp [zan,zaT]
              rw [hcel,hlen] at hR6;rw [hlen];go_ret
              exact ⟨⟨A6,c6,_,rfl,hR6,by rw [←hlen];omega,fun S hS=>hS.put (x:=(x1,x2,x3)) (by show 0≤x2;omega) hlt fun y hy=>⟨by have:=(hnx.out y hy).1;omega,(hnx.out y hy).2⟩⟩,by have q:=zaj (B:=gx) hb0 (by have:=hb0.size;omega) (hb3.trans (hb6.mono hb3.size));first | exact q | (rw [hgx];exact q)⟩
         · clear heq;go_wp2_with fail
           go_quiet (fail)
           have hb3:=zaj hb2 hb2.size (zcJ wa nq);clear q0 q1 q2 ql dx hb2 g0 g1 g2;generalize wa.drewN nq=wb at *
           have dx:=d0.below hb3;have q0:wb.cell? ⟨gx,0,none⟩=some (.int .i64 x1):=dx.cell 0;have q1:wb.cell? ⟨gx,1,none⟩=some (.int .i64 x2):=dx.cell 1;have q2:wb.cell? ⟨gx,2,none⟩=some (.bool x3):=dx.cell 2;have ql:=dx.lt;clear hil hdi hlg he hr;generalize hA:(some (⟨b,o,none⟩:Addr))=A at *
           have hz:=h.up hb3;have hic:i≤c:=Nat.le_trans hi hz.cap;go_upto_region 7 with (fail)
           have hsrc:=(hz.pre (k:=i) hi).src (P:=Tryz.prog) Tryz.underlying86 (fun u hu=>zby Z u (List.mem_of_mem_take hu));rw [zcZ] at hsrc;go_upto_region 8 with (at_builtin;go_loud (refine zab _ rfl (.tmp 39) (.tmp 42) 86 86 rfl wb.heap.size 166 i0 (.agg #[.int .i64 0,.int .i64 0,.bool false]) 3 24 Tryz.underlying86 hi0 hz0 hz1 hz2 rfl (by decide) (.slice none 0 0) 0 [] rfl (World.ownsRow_nil _ _ _ _) _ i (zan (Z.take i)) rfl hsrc (by simp only [maxLen];omega) (by omega) (Nat.le_refl _) ?_;intro v9 w8 hown8 hg8 hat8))
           rw [Nat.zero_add,List.nil_append] at hown8;have hb8:=zak (Below.refl _ wb) hg8 (World.ownsRow_nil wb wb.heap.size 166 3) (Nat.le_refl _) (Nat.le_refl _);have hw8:=hb8.size;have dy:=dx.below hb8;have z0:w8.cell? ⟨gx,0,none⟩=some (.int .i64 x1):=dy.cell 0;have z1:w8.cell? ⟨gx,1,none⟩=some (.int .i64 x2):=dy.cell 1;have z2:w8.cell? ⟨gx,2,none⟩=some (.bool x3):=dy.cell 2;have zl:=dy.lt;have hz8:=hz.below hb8;clear q0 q1 q2 ql dx hsrc hz hg8 hat8;obtain ⟨A8,c8,rfl,_⟩:=Rd.own hown8;go_upto_region 9 with (at_builtin;go_loud (refine zab _ rfl (.tmp 44) (.tmp 46) 86 86 rfl wb.heap.size 166 i0 (.agg #[.int .i64 0,.int .i64 0,.bool false]) 3 24 Tryz.underlying86 hi0 hz0 hz1 hz2 rfl (by decide) (.slice A8 i c8) i (zan (Z.take i)) rfl (hown8.alloc _) _ 1 [.int .i64 x1,.int .i64 x2,.bool x3] rfl (Src.ofSlice _ Tryz.underlying86 _ 1 1 _ rfl (zaZ _ _ _ _ _) (zb1 (x1,x2,x3))) (by simp only [maxLen];omega) (by omega) (size_alloc hw8) ?_;intro v7 w7 hown7 hg7 hat7))
           have hb7:=zak (hb8.alloc hw8 _) hg7 (hown8.alloc _) (size_alloc hw8) (Nat.le_refl _);have hw7:=hb7.size;have hz7:=(h.up hb3).below hb7;clear z0 z1 z2 zl dy hz8 hg7 hat7 hown8 hw8 hb8;obtain ⟨A7,c7,rfl,_⟩:=Rd.own hown7;have hcut:=(hz7.cut hi).src (P:=Tryz.prog) Tryz.underlying86 (fun u hu=>zby Z u (List.mem_of_mem_drop hu));rw [zcY] at hcut;have hcap:=hz7.cap;go_wp2_with (at_builtin;go_loud (refine zab _ rfl (.tmp 48) (.tmp 51) 86 86 rfl wb.heap.size 166 i0 (.agg #[.int .i64 0,.int .i64 0,.bool false]) 3 24 Tryz.underlying86 hi0 hz0 hz1 hz2 rfl (by decide) (.slice A7 (i + 1) c7) (i + 1) (zan (Z.take i) ++ [.int .i64 x1,.int .i64 x2,.bool x3]) rfl hown7 _ (Z.length-i) (zan (Z.drop i)) rfl hcut (by simp only [maxLen];omega) (by omega) hw7 ?_;intro v6 w6 hown6 hg6 hat6))
           all_goals
            have hb6:=zak hb7 hg6 hown7 hw7 (Nat.le_refl _);obtain ⟨A6,c6,rfl,hR6⟩:=Rd.own hown6;have hlen:i + 1 + (Z.length-i)=(Z.take i ++ (x1,x2,x3)::Z.drop i).length:=by simp;omega
            have hcel:zan (Z.take i) ++ [.int .i64 x1,.int .i64 x2,.bool x3] ++ zan (Z.drop i)=zan (Z.take i ++ (x1,x2,x3)::Z.drop i):=by simp [zan,zaT]
            rw [hcel,hlen] at hR6;rw [hlen];go_ret
            exact ⟨⟨A6,c6,_,rfl,hR6,by rw [←hlen];omega,fun S hS=>hS.put (x:=(x1,x2,x3)) (by show 0≤x2;omega) hlt fun y hy=>⟨by have:=(hnx.out y hy).1;omega,(hnx.out y hy).2⟩⟩,by have q:=zaj (B:=gx) hb0 (by have:=hb0.size;omega) (hb3.trans (hb6.mono hb3.size));first | exact q | (rw [hgx];exact q)⟩
  · have hdi:¬((i:Int)<(Z.length:Int)):=by omega
    have hnx:Hid (∀y,Z[i]? = some y→¬cfE y (x1,x2,x3)<0∧y≠(x1,x2,x3)):=Lib.hid fun y hy=>by have:=(List.getElem?_eq_some_iff.1 hy).1;omega
    by_cases hx2:x2<0
    · go_wp2_with fail
      go_quiet (fail)
      have hb2:=zaj hbx hbx.size (zcJ wr nq);clear q0 q1 q2 ql dx hbx;generalize wr.drewN nq=wa at *
      have dx:=d0.below hb2;have q0:wa.cell? ⟨gx,0,none⟩=some (.int .i64 x1):=dx.cell 0;have q1:wa.cell? ⟨gx,1,none⟩=some (.int .i64 x2):=dx.cell 1;have q2:wa.cell? ⟨gx,2,none⟩=some (.bool x3):=dx.cell 2;have ql:=dx.lt;go_wp2_with fail
      go_quiet (fail)
      have hb3:=zaj hb2 hb2.size (zcJ wa nq);clear q0 q1 q2 ql dx hb2;generalize wa.drewN nq=wb at *
      have dx:=d0.below hb3;have q0:wb.cell? ⟨gx,0,none⟩=some (.int .i64 x1):=dx.cell 0;have q1:wb.cell? ⟨gx,1,none⟩=some (.int .i64 x2):=dx.cell 1;have q2:wb.cell? ⟨gx,2,none⟩=some (.bool x3):=dx.cell 2;have ql:=dx.lt;have hz:=h.up hb3;go_wp2_with fail
      go_ret
      exact ⟨⟨A,c,Z,rfl,hz,by omega,fun S hS=>hS.same (.inl hx2)⟩,by have q:=zaj (B:=gx) hb0 (by have:=hb0.size;omega) hb3;first | exact q | (rw [hgx];exact q)⟩
    · go_wp2_with fail
      go_quiet (fail)
      have hb2:=zaj hbx hbx.size (zcJ wr nq);clear q0 q1 q2 ql dx hbx;generalize wr.drewN nq=wa at *
      have dx:=d0.below hb2;have q0:wa.cell? ⟨gx,0,none⟩=some (.int .i64 x1):=dx.cell 0;have q1:wa.cell? ⟨gx,1,none⟩=some (.int .i64 x2):=dx.cell 1;have q2:wa.cell? ⟨gx,2,none⟩=some (.bool x3):=dx.cell 2;have ql:=dx.lt;go_wp2_with fail
      go_quiet (fail)
      have hb3:=zaj hb2 hb2.size (zcJ wa nq);clear q0 q1 q2 ql dx hb2;generalize wa.drewN nq=wb at *
      have dx:=d0.below hb3;have q0:wb.cell? ⟨gx,0,none⟩=some (.int .i64 x1):=dx.cell 0;have q1:wb.cell? ⟨gx,1,none⟩=some (.int .i64 x2):=dx.cell 1;have q2:wb.cell? ⟨gx,2,none⟩=some (.bool x3):=dx.cell 2;have ql:=dx.lt;have hz:=h.up hb3;have hic:i≤c:=Nat.le_trans hi hz.cap;go_upto_region 7 with (fail)
      have hsrc:=(hz.pre (k:=i) hi).src (P:=Tryz.prog) Tryz.underlying86 (fun u hu=>zby Z u (List.mem_of_mem_take hu));rw [zcZ] at hsrc;go_upto_region 8 with (at_builtin;go_loud (refine zab _ rfl (.tmp 39) (.tmp 42) 86 86 rfl wb.heap.size 166 i0 (.agg #[.int .i64 0,.int .i64 0,.bool false]) 3 24 Tryz.underlying86 hi0 hz0 hz1 hz2 rfl (by decide) (.slice none 0 0) 0 [] rfl (World.ownsRow_nil _ _ _ _) _ i (zan (Z.take i)) rfl hsrc (by simp only [maxLen];omega) (by omega) (Nat.le_refl _) ?_;intro v9 w8 hown8 hg8 hat8))
      rw [Nat.zero_add,List.nil_append] at hown8;have hb8:=zak (Below.refl _ wb) hg8 (World.ownsRow_nil wb wb.heap.size 166 3) (Nat.le_refl _) (Nat.le_refl _);have hw8:=hb8.size;have dy:=dx.below hb8;have z0:w8.cell? ⟨gx,0,none⟩=some (.int .i64 x1):=dy.cell 0;have z1:w8.cell? ⟨gx,1,none⟩=some (.int .i64 x2):=dy.cell 1;have z2:w8.cell? ⟨gx,2,none⟩=some (.bool x3):=dy.cell 2;have zl:=dy.lt;have hz8:=hz.below hb8;clear q0 q1 q2 ql dx hsrc hz hg8 hat8;obtain ⟨A8,c8,rfl,_⟩:=Rd.own hown8;go_upto_region 9 with (at_builtin;go_loud (refine zab _ rfl (.tmp 44) (.tmp 46) 86 86 rfl wb.heap.size 166 i0 (.agg #[.int .i64 0,.int .i64 0,.bool false]) 3 24 Tryz.underlying86 hi0 hz0 hz1 hz2 rfl (by decide) (.slice A8 i c8) i (zan (Z.take i)) rfl (hown8.alloc _) _ 1 [.int .i64 x1,.int .i64 x2,.bool x3] rfl (Src.ofSlice _ Tryz.underlying86 _ 1 1 _ rfl (zaZ _ _ _ _ _) (zb1 (x1,x2,x3))) (by simp only [maxLen];omega) (by omega) (size_alloc hw8) ?_;intro v7 w7 hown7 hg7 hat7))
      have hb7:=zak (hb8.alloc hw8 _) hg7 (hown8.alloc _) (size_alloc hw8) (Nat.le_refl _);have hw7:=hb7.size;have hz7:=(h.up hb3).below hb7;clear z0 z1 z2 zl dy hz8 hg7 hat7 hown8 hw8 hb8;obtain ⟨A7,c7,rfl,_⟩:=Rd.own hown7;have hcut:=(hz7.cut hi).src (P:=Tryz.prog) Tryz.underlying86 (fun u hu=>zby Z u (List.mem_of_mem_drop hu));rw [zcY] at hcut;have hcap:=hz7.cap;go_wp2_with (at_builtin;go_loud (refine zab _ rfl (.tmp 48) (.tmp 51) 86 86 rfl wb.heap.size 166 i0 (.agg #[.int .i64 0,.int .i64 0,.bool false]) 3 24 Tryz.underlying86 hi0 hz0 hz1 hz2 rfl (by decide) (.slice A7 (i + 1) c7) (i + 1) (zan (Z.take i) ++ [.int .i64 x1,.int .i64 x2,.bool x3]) rfl hown7 _ (Z.length-i) (zan (Z.drop i)) rfl hcut (by simp only [maxLen];omega) (by omega) hw7 ?_;intro v6 w6 hown6 hg6 hat6))
      all_goals
       have hb6:=zak hb7 hg6 hown7 hw7 (Nat.le_refl _);obtain ⟨A6,c6,rfl,hR6⟩:=Rd.own hown6;have hlen:i + 1 + (Z.length-i)=(Z.take i ++ (x1,x2,x3)::Z.drop i).length:=by simp;omega
       have hcel:zan (Z.take i) ++ [.int .i64 x1,.int .i64 x2,.bool x3] ++ zan (Z.drop i)=zan (Z.take i ++ (x1,x2,x3)::Z.drop i):=by simp [zan,zaT]
       rw [hcel,hlen] at hR6;rw [hlen];go_ret
       exact ⟨⟨A6,c6,_,rfl,hR6,by rw [←hlen];omega,fun S hS=>hS.put (x:=(x1,x2,x3)) (by show 0≤x2;omega) hlt fun y hy=>⟨by have:=(hnx.out y hy).1;omega,(hnx.out y hy).2⟩⟩,by have q:=zaj (B:=gx) hb0 (by have:=hb0.size;omega) (hb3.trans (hb6.mono hb3.size));first | exact q | (rw [hgx];exact q)⟩
end Go.Proofs.YtiepddmagfmllaaGreat
