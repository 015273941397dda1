import Derived.Test.YtiepddmagfmllaaGreatT11
import Derived.Test.YtiepddmagfmllaaGreatT12
import Derived.Test.YtiepddmagfmllaaGreatT13
set_option maxRecDepth 100000
set_option maxHeartbeats 4000000
namespace Go.Proofs.YtiepddmagfmllaaGreat
open Go.RowKit Go.ChangeMaps
theorem Stepped.ok {B g:Nat} {s:ByteArray} {k:Nat} {l:List Tk} {w:World} {e:Ending} {w':World} (h:Stepped B g s k l w e w') (h3:kd (cutB s k)<3) :
 e = .returned (.int .i64 (plc s (k + ln (cutB s k)):Nat))∧Kp g B w w'∧Sc B w' g s (l ++ zcF (cutB s k) (plc s k)) 0:=by
 rcases h with ⟨a,⟨_,b,c⟩ | ⟨b,_⟩⟩
 · exact ⟨b,a,c⟩
 · omega
theorem Stepped.bad {B g:Nat} {s:ByteArray} {k:Nat} {l:List Tk} {w:World} {e:Ending} {w':World} (h:Stepped B g s k l w e w') (h3:3≤kd (cutB s k)) :
 e = .returned (.int .i64 (plc s k:Nat))∧Kp g B w w'∧Sc B w' g s l (kd (cutB s k)):=by
 rcases h with ⟨a,⟨b,_⟩ | ⟨_,b,c⟩⟩
 · omega
 · exact ⟨b,a,c⟩
theorem Sc.c2 {B g:Nat} {s:ByteArray} {l:List Tk} {e:Nat} {w:World} (h:Sc B w g s l e):w.cell? ⟨g,2,none⟩=some (.int .i64 e):=by obtain ⟨v,h⟩:=h;exact h.c2
theorem all_any (s:ByteArray) (w:World) (f0:s.size≤maxLen) :
 Calls Tryz.prog 41 #[.string s] w (AllPost s w):=by
 unfold maxLen at f0;by_cases hlong:2048<s.size
 · have hA:zbP s=([],13,0):=by unfold zbP;rw [if_pos hlong]
   have HX:Hid (AllPost s w (.returned (.tuple #[.slice none 0 0,.int .i64 13,.int .i64 0])) w):=Lib.hid (AllPost.empty hA (Below.refl _ _));clear hA;go_enter Tryz.func41,Tryz.ntmps41
   go_wp2
   go_ret3
   exact HX.out
 have kb:∀W,_:=fun W=>broken_at s W (by omega);have hs:s.size≤2048:=by omega
 clear f0;by_cases hbad:plc s (zgb s)<s.size
 · have hA:zbP s=([],11,plc s (zgb s)):=by unfold zbP;rw [if_neg hlong,if_pos hbad]
   have hz:badZ s=(plc s (zgb s):Int):=if_pos hbad;rw [hz] at kb;have HX:∀W,Below w.heap.size w W→Hid (AllPost s w (.returned (.tuple #[.slice none 0 0,.int .i64 11,.int .i64 (plc s (zgb s):Nat)])) W):=fun W hb=>Lib.hid (AllPost.empty hA hb);clear hA hz hbad;generalize plc s (zgb s)=p at *
   go_enter Tryz.func41,Tryz.ntmps41
   go_wp2_with ((with_reducible refine (kb _).mono ?_);rintro e w1 ⟨rfl,hb1⟩)
   go_ret3
   exact (HX _ hb1).out
 have hv:=zcI.2 hbad;have hz:badZ s = -1:=if_neg hbad;rw [hz] at kb;have HA:Hid (zbP s=if (zcc s 0).2.1=0 then zcc s 0 else ([],(zcc s 0).2)):=Lib.hid (by unfold zbP;rw [if_neg hlong,if_neg hbad]);clear hz hbad hlong;go_enter Tryz.func41,Tryz.ntmps41
 go_wp2_with (first
  | ((with_reducible refine (kb _).mono ?_);rintro e w1 ⟨rfl,hb1⟩)
  | ((refine (acts_any _ w1.heap.size).mono ?_);rintro e w2 ⟨rfl,hm2,hb2⟩))
 have hg1:(w1.alloc (.cells #[.string s,.slice none 0 0,.int .i64 0] 175)).heap.size=w1.heap.size + 1:=by simp
 have hgc:w2.heap[w1.heap.size]? = some (.cells #[.string s,.slice none 0 0,.int .i64 0] 175 (0,0)):=by
  rw [hb2.block _ (by omega)];exact heap_alloc_new w1 _
 have hws:w1.heap.size + 1<w2.heap.size:=by rw [←hg1];exact (Array.getElem?_eq_some_iff.1 hm2).1
 rw [hg1] at hm2;have hbw:Below w.heap.size w w2:=hb1.trans (((Below.refl _ w1).alloc hb1.size _).trans (hb2.mono (by have:=hb1.size;omega)));have hw1:=hb1.size;have hit:=zce w2 s;have hbi:=zbG w2 s;have hsi:(w2.iter s 0).heap.size=w2.heap.size + 1:=by simp [World.iter]
 have HS:Hid (Al w w1.heap.size (w1.heap.size + 1) w2.heap.size (w2.heap.size + 1) s (w2.iter s 0) 0 0 []):=Lib.hid
  ⟨Nat.le_refl _,Nat.zero_le _,hit,(hbi.block _ hws).trans hm2,⟨.slice none 0 0,(hbi.block _ (by omega)).trans hgc,World.ownsRow_nil _ _ _ _,by omega⟩,hbw.trans (hbi.mono (by omega)),by omega,by rw [zee];rfl,by rw [zee];rfl,Nat.le_refl _,hw1,by omega,by omega,by omega,by omega,by omega,by omega⟩
 clear hgc hws hm2 hbw hw1 hit hbi hsi hb1 hb2 hg1;generalize w1.heap.size=g at *
 go_loopw [8] (fun nx wr=>∃k j l,nx = .int .i64 (plc s j:Nat)∧Al w g (g + 1) w2.heap.size (w2.heap.size + 1) s wr k j l) (fun _ wr=>s.size-wr.iterPos w2.heap.size)
 case atStart=>exact ⟨0,0,[],rfl,HS.out⟩
 case round =>
  clear HS;obtain ⟨k,j,l,rfl,hal⟩:=hrel;have HAl:=Lib.hid hal;have hit:=hal.it;have hlk:=zaU s k;have hlj:=zaU s j;have hip:wr.iterPos w2.heap.size=plc s k:=by simp only [World.iterPos,hit]
  by_cases h:plc s k<s.size
  · have hk2:=za1.2 h;have hw:=zde h;have hps:=zaJ h;have hnx:∀ty,_:=fun ty=>Lib.run_next_any_at (P:=Tryz.prog) wr w2.heap.size s (plc s k) ty hit h;by_cases hkj:k<j
    · have hpj:plc s k<plc s j:=Nat.lt_of_lt_of_le (zaQ h) (zaX s hkj);have HN:=Lib.hid (hal.skip h hkj);have hdj:(plc s k:Int)<(plc s j:Nat):=by omega
      clear hal hit hkj hip;go_wp2
      go_roundw
      case rel=>exact ⟨k + 1,j,l,rfl,HN.out⟩
      case measure =>
       have e1:wr.iterPos w2.heap.size=plc s k:=by simp only [World.iterPos,HAl.out.it]
       have e2:(wr.iterAt w2.heap.size s (plc s k + (Utf8.decode s (plc s k)).2)).iterPos w2.heap.size=plc s (k + 1):=by simp only [World.iterPos,HN.out.it]
       rw [e1,e2,hps];omega
    · obtain rfl:j=k:=by have:=hal.kj;omega
      have hdj:¬((plc s j:Int)<(plc s j:Nat)):=by omega
      have hmp:=hal.mp2 (plc s j + (Utf8.decode s (plc s j)).2);have hsc:=hal.sc2 (plc s j + (Utf8.decode s (plc s j)).2);have hbig:=hal.big2 (plc s j + (Utf8.decode s (plc s j)).2);have HST:=fun w3=>Lib.hid (hal.step (w3:=w3) h);have HER:=Lib.hid (hal.scan_err h);have HB2:=Lib.hid (hal.bel2 (plc s j + (Utf8.decode s (plc s j)).2));have hll:l.length<1000000:=by have:=hal.few;have:=hal.jc;have:=zc8 s;omega
      have hrn:((Utf8.decode s (plc s j)).1:Int)=(rn s (plc s j):Nat):=rfl;have hr128:bt s (plc s j)<128→rn s (plc s j)=bt s (plc s j):=fun hh=>(ziH h hh).1;have hr128':128≤bt s (plc s j)→128≤rn s (plc s j):=rn_high h;have HLO:Hid (w.heap.size≤g∧w.heap.size≤w2.heap.size):=Lib.hid ⟨hal.lo,hal.li⟩;obtain ⟨W2,hW2⟩:∃W2,W2=wr.iterAt w2.heap.size s (plc s j + (Utf8.decode s (plc s j)).2):=⟨_,rfl⟩;rw [←hW2] at hnx hmp hsc hbig HB2;simp only [←hW2] at HST;rw [hrn] at hnx;have HIP:=Lib.hid hip;clear hal hit hkj hip hW2 hrn HAl;have ksB:∀hcl:zaY (bt s (plc s j))=true,_:=fun hcl=>zld hsc hs h hcl (some ⟨g,0,none⟩);have ksS:∀hcl:za9 (bt s (plc s j))=true,_:=fun hcl=>sign_any hsc hbig hs hll h hcl;have ksN:∀hcl:bt s (plc s j)=47,_:=fun hcl=>note_any hsc hbig hs h hcl;have ksW:∀(h1:zaY (bt s (plc s j))=false) (h2:za9 (bt s (plc s j))=false) (h3:bt s (plc s j)≠47),_:=fun h1 h2 h3=>word_any hsc hbig hs hv hll h h1 h2 h3;by_cases cB:zaY (bt s (plc s j))=true
      · have hrb:rn s (plc s j)=bt s (plc s j):=hr128 (by have:=zaV.1 cB;omega);have hlook:=zkz W2 hmp (r:=rn s (plc s j)) (by rw [hrb];exact cB);have ks:=ksB cB;clear ksB ksS ksN ksW hmp hr128 hr128' hrb;generalize rn s (plc s j)=z at *
        by_cases hkd:kd (cutB s j)<3
        · have hz3:(((0:Nat):Int) == 0)=true:=rfl;go_wp2_with ((with_reducible refine ks.mono ?_);intro e w3 hst;obtain ⟨rfl,hkp,hsc3⟩:=hst.ok hkd;have c23:=hsc3.c2)
          go_roundw
          case rel=>exact ⟨j + 1,j + ln (cutB s j),l ++ zcF (cutB s j) (plc s j),rfl,(HST w3).out hkd hkp hsc3⟩
          case measure =>
           have e2:w3.iterPos w2.heap.size=plc s (j + 1):=by simp only [World.iterPos,((HST w3).out hkd hkp hsc3).it]
           rw [HIP.out,e2,hps];omega
        · replace hkd:3≤kd (cutB s j):=by omega
          have hz3:(((kd (cutB s j):Nat):Int) == 0)=false:=by simp;omega
          go_wp2_with ((with_reducible refine ks.mono ?_);intro e w3 hst;obtain ⟨rfl,hkp,hsc3⟩:=hst.bad hkd;have c23:=hsc3.c2)
          go_quiet (fail)
          go_wp2
          go_ret3
          have hE:=HER.out hkd;have hA:=HA.out;rw [if_neg (by rw [hE];dsimp only;omega),hE] at hA;refine AllPost.empty hA (HB2.out.trans ?_);exact Below.trans (hkp.below (Nat.le_succ_of_le HLO.out.2) HLO.out.1) ⟨rfl,rfl,rfl,Nat.le_refl _,fun _ _=>rfl⟩
      by_cases cS:za9 (bt s (plc s j))=true
      · have hrb:rn s (plc s j)=bt s (plc s j):=hr128 (by have:=zb5.1 cS;omega);have hlook:=zlU W2 hmp (r:=rn s (plc s j)) (by rw [hrb];exact cS);have ks:=ksS cS;clear ksB ksS ksN ksW hmp hr128 hr128' hrb;generalize rn s (plc s j)=z at *
        by_cases hkd:kd (cutB s j)<3
        · have hz3:(((0:Nat):Int) == 0)=true:=rfl;go_wp2_with ((with_reducible refine ks.mono ?_);intro e w3 hst;obtain ⟨rfl,hkp,hsc3⟩:=hst.ok hkd;have c23:=hsc3.c2)
          go_roundw
          case rel=>exact ⟨j + 1,j + ln (cutB s j),l ++ zcF (cutB s j) (plc s j),rfl,(HST w3).out hkd hkp hsc3⟩
          case measure =>
           have e2:w3.iterPos w2.heap.size=plc s (j + 1):=by simp only [World.iterPos,((HST w3).out hkd hkp hsc3).it]
           rw [HIP.out,e2,hps];omega
        · replace hkd:3≤kd (cutB s j):=by omega
          have hz3:(((kd (cutB s j):Nat):Int) == 0)=false:=by simp;omega
          go_wp2_with ((with_reducible refine ks.mono ?_);intro e w3 hst;obtain ⟨rfl,hkp,hsc3⟩:=hst.bad hkd;have c23:=hsc3.c2)
          go_quiet (fail)
          go_wp2
          go_ret3
          have hE:=HER.out hkd;have hA:=HA.out;rw [if_neg (by rw [hE];dsimp only;omega),hE] at hA;refine AllPost.empty hA (HB2.out.trans ?_);exact Below.trans (hkp.below (Nat.le_succ_of_le HLO.out.2) HLO.out.1) ⟨rfl,rfl,rfl,Nat.le_refl _,fun _ _=>rfl⟩
      by_cases cN:bt s (plc s j)=47
      · have hrb:rn s (plc s j)=47:=(hr128 (by omega)).trans cN;have hlook:=zlR W2 hmp (rn s (plc s j)) 115 (by rw [hrb];decide +kernel);have ks:=ksN cN;clear ksB ksS ksN ksW hmp hr128 hr128' hrb;generalize rn s (plc s j)=z at *
        by_cases hkd:kd (cutB s j)<3
        · have hz3:(((0:Nat):Int) == 0)=true:=rfl;go_wp2_with ((with_reducible refine ks.mono ?_);intro e w3 hst;obtain ⟨rfl,hkp,hsc3⟩:=hst.ok hkd;have c23:=hsc3.c2)
          go_roundw
          case rel=>exact ⟨j + 1,j + ln (cutB s j),l ++ zcF (cutB s j) (plc s j),rfl,(HST w3).out hkd hkp hsc3⟩
          case measure =>
           have e2:w3.iterPos w2.heap.size=plc s (j + 1):=by simp only [World.iterPos,((HST w3).out hkd hkp hsc3).it]
           rw [HIP.out,e2,hps];omega
        · replace hkd:3≤kd (cutB s j):=by omega
          have hz3:(((kd (cutB s j):Nat):Int) == 0)=false:=by simp;omega
          go_wp2_with ((with_reducible refine ks.mono ?_);intro e w3 hst;obtain ⟨rfl,hkp,hsc3⟩:=hst.bad hkd;have c23:=hsc3.c2)
          go_quiet (fail)
          go_wp2
          go_ret3
          have hE:=HER.out hkd;have hA:=HA.out;rw [if_neg (by rw [hE];dsimp only;omega),hE] at hA;refine AllPost.empty hA (HB2.out.trans ?_);exact Below.trans (hkp.below (Nat.le_succ_of_le HLO.out.2) HLO.out.1) ⟨rfl,rfl,rfl,Nat.le_refl _,fun _ _=>rfl⟩
      rw [Bool.not_eq_true] at cB cS
      · have hro:rn s (plc s j)≠47∧za9 (rn s (plc s j))=false∧zaY (rn s (plc s j))=false:=by
         by_cases hlo:bt s (plc s j)<128
         · rw [hr128 hlo];exact ⟨cN,cS,cB⟩
         · have:=hr128' (by omega);refine ⟨by omega,?_,?_⟩
           · rw [Bool.eq_false_iff];intro e;have:=zb5.1 e;omega
           · rw [Bool.eq_false_iff];intro e;have:=zaV.1 e;omega
        have hlook:=zlT W2 hmp hro.1 hro.2.1 hro.2.2;have ks:=ksW cB cS cN;clear ksB ksS ksN ksW hmp hr128 hr128' hro;generalize rn s (plc s j)=z at *
        by_cases hkd:kd (cutB s j)<3
        · have hz3:(((0:Nat):Int) == 0)=true:=rfl;go_wp2_with ((with_reducible refine ks.mono ?_);intro e w3 hst;obtain ⟨rfl,hkp,hsc3⟩:=hst.ok hkd;have c23:=hsc3.c2)
          go_roundw
          case rel=>exact ⟨j + 1,j + ln (cutB s j),l ++ zcF (cutB s j) (plc s j),rfl,(HST w3).out hkd hkp hsc3⟩
          case measure =>
           have e2:w3.iterPos w2.heap.size=plc s (j + 1):=by simp only [World.iterPos,((HST w3).out hkd hkp hsc3).it]
           rw [HIP.out,e2,hps];omega
        · replace hkd:3≤kd (cutB s j):=by omega
          have hz3:(((kd (cutB s j):Nat):Int) == 0)=false:=by simp;omega
          go_wp2_with ((with_reducible refine ks.mono ?_);intro e w3 hst;obtain ⟨rfl,hkp,hsc3⟩:=hst.bad hkd;have c23:=hsc3.c2)
          go_quiet (fail)
          go_wp2
          go_ret3
          have hE:=HER.out hkd;have hA:=HA.out;rw [if_neg (by rw [hE];dsimp only;omega),hE] at hA;refine AllPost.empty hA (HB2.out.trans ?_);exact Below.trans (hkp.below (Nat.le_succ_of_le HLO.out.2) HLO.out.1) ⟨rfl,rfl,rfl,Nat.le_refl _,fun _ _=>rfl⟩
  · have hnx:∀ty,_:=fun ty=>Lib.run_next_end_at (P:=Tryz.prog) wr w2.heap.size s (plc s k) ty hit h;obtain ⟨hpj,hcode,htoks⟩:=hal.fin h;have hl6:l.length<1000000:=by have:=hal.few;have:=hal.jc;have:=zc8 s;omega
    have ka:∀W,W=wr→_:=fun W (e:W=wr)=>add_any (k:=3) (t:=⟨#[]⟩) (p:=s.size) (w:=W) (e ▸ hal.sc) (e ▸ hal.big) hl6 (by omega) (by show 0≤_;omega);have ka:=ka wr rfl;have HB:Hid (Below w.heap.size w wr):=Lib.hid hal.bel;have hlo:=hal.lo;have hli:=hal.li;have hA:=HA.out;rw [if_pos (by rw [hcode])] at hA;have HC:=Lib.hid hcode;have HT:=Lib.hid htoks;have HF:=Lib.hid hA;clear hal hit hip hcode htoks hA HA;go_wp2_with ((refine ka.mono ?_);rintro e w3 ⟨rfl,⟨v,hsc⟩,hkp⟩;have c1:=hsc.c1)
    obtain ⟨A3,c3,rfl,hr3⟩:=Rd.own hsc.row;have Hr3:=Lib.hid hr3;have HP:=Lib.hid (HB.out.trans (hkp.below (by omega) hlo));clear hr3 hsc hkp;go_wp2
    go_ret3
    have hF:=HF.out;have hT:=HT.out;refine ⟨⟨A3,c3,?_,?_⟩,HP.out⟩
    · rw [hF,HC.out,hT];rfl
    · unfold Toks;rw [hF,hT];exact Hr3.out
end Go.Proofs.YtiepddmagfmllaaGreat
namespace Go.Proofs.YtiepddmagfmllaaGreat
open Go.RowKit
open Go.RowKit
theorem zhx (n:Nat):∀(u:ByteArray) (off:Nat),u.size≤n→(zcc u off).1.length≤u.size + 1:=by
 induction n with
 | zero =>
  intro u off hn;rw [zdR (by omega)];show 1≤_;omega
 | succ n ih =>
  intro u off hn;rcases Nat.eq_zero_or_pos u.size with h | h
  · rw [zdR h];show 1≤_;omega
  by_cases h3:3≤kd u
  · rw [scan_err h h3];show 0≤_;omega
  · have hl:=zgR h (by omega);rw [zhy h (by omega)];have:=ih (cutB u (ln u)) (off + plc u (ln u)) (by omega);rw [List.length_append];have h1:∀(p:Prop) [Decidable p] (t:Tk),(if p then ([]:List Tk) else [t]).length≤1:=fun p _ t=>by split <;> simp
    have:=h1 (kd u=0) (kd u,cutA u (ln u),off);omega
theorem zmG {x:ByteArray} (h:zep x=true) (c:UInt8) (hc:za9 c.toNat=true):x≠sg c:=by
 rintro rfl;obtain ⟨h1,_,h3⟩:=zbH.1 h;have h4:=h3 0 h1;have h5:=(may_not (u:=sg c) (zam c) h4).2.1;have h6:bt (sg c) 0=c.toNat:=rfl;rw [h6,hc] at h5;cases h5
theorem zji {s:ByteArray} (hz:s.size≤2048) (h0:(zbP s).2.1=0):Fine (zbP s).1:=by
 obtain ⟨v,e0,eA⟩:=zfj hz h0;obtain ⟨init,e,hi⟩:=zih _ s 0 (Nat.le_refl _) e0;have hf:=zhx _ s 0 (Nat.le_refl _);rw [eA];refine ⟨by omega,init,0 + s.size,e,fun t ht=>?_⟩;rcases hi t ht with ⟨h1,h2⟩ | ⟨h1,_⟩
 · exact .inr ⟨h1,fun c hc=>zmG h2 c hc⟩
 · exact .inl h1
theorem zfi {s:ByteArray} (h0:(zbP s).2.1=0):s.size≤2048:=by
 rcases Nat.lt_or_ge 2048 s.size with h | h
 · unfold zbP at h0;rw [if_pos h] at h0;exact absurd h0 (by decide)
 · exact h
theorem parse_any (s:ByteArray) (w:World) (f0:s.size≤maxLen):Calls Tryz.prog 22 #[.string s] w (SPost (zaf s) w):=by
 have ka:=all_any s (w.alloc (.cells #[.slice none 0 0] 70)) f0;unfold AllPost at ka;have hB:Below w.heap.size w (w.alloc (.cells #[.slice none 0 0] 70)):=(Below.refl _ w).alloc (Nat.le_refl _) _;have hb:=Bk.new w #[.slice none 0 0] 70;have hz:=hb.lt;by_cases h0:(zbP s).2.1=0
 · have hp:zaf s=outS (zdC (zbP s).1):=by unfold zaf;rw [if_pos h0]
   have hf:=zji (zfi h0) h0;rw [hp];rw [h0] at ka;have HR:∀w1 A c,Toks w1 A c (zbP s).1→_:=fun w1 A c ht=>read_any (w:=w1) (A:=A) (c:=c) ht hf;clear hf h0 hp;generalize (zbP s).1=l at *
   generalize (zbP s).2.2=q at *
   generalize outS (zdC l)=o at *
   clear f0;go_enter Tryz.func22,Tryz.ntmps22
   go_wp2_with fail
   generalize w.alloc (.cells #[.slice none 0 0] 70)=W at *
   refine ka.mono ?_;rintro e W1 ⟨⟨A,c,rfl,ht⟩,hbw⟩;replace hB:=hB.trans (hbw.mono hB.size);replace hb:=hb.below hbw;have hz1:=hb.lt;clear ka hbw;go_wp2_with fail
   refine (HR _ _ _ ht).mono ?_;rintro e W2 ⟨vt,rfl,hv,hbw⟩;replace hB:=hB.trans (hbw.mono hB.size);replace hb:=hb.below hbw;obtain ⟨xs,h1,h2⟩:=hv;obtain ⟨A2,c2,rfl,_⟩:=Rd.own h1;have q0:=hb.c1;have fz:=hb.fz;clear HR ht hbw;go_wp2_with fail
   refine bodyPost_ret (v:=.tuple #[.agg #[.slice A2 o.1.length c2],.int .i64 o.2.1,.int .i64 o.2.2]) (by simp [results,Tryz.results22,go_sem,q0];try rfl) rfl ?_;refine ⟨.slice A2 o.1.length c2,rfl,⟨xs,?_,?_⟩,?_⟩
   · refine zav (zai h1 ?_ _) (show w.heap.size≤W1.heap.size by omega);dsimp only;omega
   · exact TypsC.base (show w.heap.size≤W1.heap.size by omega) (h2.keep (keeps3_set (a:=⟨w.heap.size,0,none⟩) (by dsimp only;omega) _))
   · refine Below.setCell hB ?_ _;exact Nat.le_refl _
 · have hp:zaf s=([],(zbP s).2):=by unfold zaf;rw [if_neg h0]
   rw [hp];have d0:((((zbP s).2.1:Nat):Int) == 0)=false:=by rw [beq_eq_false_iff_ne];omega
   clear h0 hp f0;generalize (zbP s).2=q at *
   generalize (zbP s).1=l at *
   go_enter Tryz.func22,Tryz.ntmps22
   go_wp2_with fail
   generalize w.alloc (.cells #[.slice none 0 0] 70)=W at *
   refine ka.mono ?_;rintro e W1 ⟨⟨A,c,rfl,ht⟩,hbw⟩;replace hB:=hB.trans (hbw.mono hB.size);replace hb:=hb.below hbw;have q0:=hb.c1;have fz:=hb.fz;clear ka hbw;go_wp2_with fail
   refine bodyPost_ret (v:=.tuple #[.agg #[.slice none 0 0],.int .i64 q.1,.int .i64 q.2]) (by simp [results,Tryz.results22,go_sem,q0];try rfl) rfl ?_;refine ⟨.slice none 0 0,rfl,⟨[],World.ownsRow_nil _ _ _ _,rfl⟩,?_⟩;refine Below.setCell hB ?_ _;exact Nat.le_refl _
theorem TypsC.get {w:World} {B:Nat}:∀{l:List TypP} {xs:List Value} {i:Nat} {t:TypP},TypsC w B l xs→l[i]? = some t→∃vr,VRels B w vr t.rels∧xs[i * 2]? = some (.string t.name)∧xs[i * 2 + 1]? = some vr
 | [],_,_,_,_,h=>by simp at h
 | x::r,xs,0,t,h,hi=>by
  simp only [List.getElem?_cons_zero,Option.some.injEq] at hi;subst hi;obtain ⟨ys,zs,rfl,⟨vr,rfl,h1⟩,_⟩:=h;exact ⟨vr,h1,rfl,rfl⟩
 | x::r,xs,i + 1,t,h,hi=>by
  simp only [List.getElem?_cons_succ] at hi;obtain ⟨ys,zs,rfl,⟨vr,rfl,_⟩,h2⟩:=h;obtain ⟨v2,a,b,c⟩:=TypsC.get h2 hi;refine ⟨v2,a,?_,?_⟩
  · rw [List.getElem?_append_right (by simp;omega),←b];congr 1
    simp;omega
  · rw [List.getElem?_append_right (by simp;omega),←c];congr 1
    simp;omega
theorem RelsC.get {w:World} {B:Nat}:∀{l:List RelP} {xs:List Value} {i:Nat} {x:RelP},RelsC w B l xs→l[i]? = some x→∃vs vo,VSubs B w vs x.subs∧VOps B w vo x.ops∧xs[i * 6]? = some (.string x.name)∧xs[i * 6 + 1]? = some (.string x.view)∧xs[i * 6 + 2]? = some (.string x.edit)∧xs[i * 6 + 3]? = some (.string x.check)∧xs[i * 6 + 4]? = some vs∧xs[i * 6 + 5]? = some vo
 | [],_,_,_,_,h=>by simp at h
 | y::r,xs,0,x,h,hi=>by
  simp only [List.getElem?_cons_zero,Option.some.injEq] at hi;subst hi;obtain ⟨ys,zs,rfl,⟨vs,vo,rfl,h1,h2⟩,_⟩:=h;exact ⟨vs,vo,h1,h2,rfl,rfl,rfl,rfl,rfl,rfl⟩
 | y::r,xs,i + 1,x,h,hi=>by
  simp only [List.getElem?_cons_succ] at hi;obtain ⟨ys,zs,rfl,⟨vs,vo,rfl,_,_⟩,h2⟩:=h;obtain ⟨v2,v3,a1,a2,b0,b1,b2,b3,b4,b5⟩:=RelsC.get h2 hi;have key:∀(k:Nat) (u:Value),zs[i * 6 + k]? = some u→([.string y.name,.string y.view,.string y.edit,.string y.check,vs,vo] ++ zs)[(i + 1) * 6 + k]? = some u:=fun k u hk=>by
   rw [List.getElem?_append_right (by simp;omega),←hk];congr 1
   simp;omega
  exact ⟨v2,v3,a1,a2,key 0 _ b0,key 1 _ b1,key 2 _ b2,key 3 _ b3,key 4 _ b4,key 5 _ b5⟩
theorem ocells_at:∀(l:List OpP) (i:Nat) (o:OpP),l[i]? = some o→(ocells l)[i * 3]? = some (.int .i64 o.1)∧(ocells l)[i * 3 + 1]? = some (.string o.2.1)∧(ocells l)[i * 3 + 2]? = some (.string o.2.2)
 | [],_,_,h=>by simp at h
 | y::r,0,o,hi=>by
  simp only [List.getElem?_cons_zero,Option.some.injEq] at hi;subst hi;exact ⟨rfl,rfl,rfl⟩
 | y::r,i + 1,o,hi=>by
  simp only [List.getElem?_cons_succ] at hi;obtain ⟨b0,b1,b2⟩:=ocells_at r i o hi;have key:∀(k:Nat) (u:Value),(ocells r)[i * 3 + k]? = some u→(ocells (y::r))[(i + 1) * 3 + k]? = some u:=fun k u hk=>by
   show (ziY y ++ ocells r)[_]? = _;rw [List.getElem?_append_right (by simp [ziY];omega),←hk];congr 1
   simp [ziY];omega
  exact ⟨key 0 _ b0,key 1 _ b1,key 2 _ b2⟩
theorem zcT:∀(l:List zb7) (i:Nat) (s:zb7),l[i]? = some s→(zbR l)[i * 2]? = some (.string s.1)∧(zbR l)[i * 2 + 1]? = some (.string s.2)
 | [],_,_,h=>by simp at h
 | y::r,0,o,hi=>by
  simp only [List.getElem?_cons_zero,Option.some.injEq] at hi;subst hi;exact ⟨rfl,rfl⟩
 | y::r,i + 1,o,hi=>by
  simp only [List.getElem?_cons_succ] at hi;obtain ⟨b0,b1⟩:=zcT r i o hi;have key:∀(k:Nat) (u:Value),(zbR r)[i * 2 + k]? = some u→(zbR (y::r))[(i + 1) * 2 + k]? = some u:=fun k u hk=>by
   show (zkT y ++ zbR r)[_]? = _;rw [List.getElem?_append_right (by simp [zkT];omega),←hk];congr 1
   simp [zkT];omega
  exact ⟨key 0 _ b0,key 1 _ b1⟩
theorem zdb {w:World} {B:Nat} {e:TypeId} {size n:Nat} {v:Value} {xs:List Value} (h:w.ownsRow B e size v n xs) (hn:0<n):∃g c,v = .slice (some ⟨g,0,none⟩) n c∧n≤c∧g<w.heap.size∧∀j u,xs[j]? = some u→w.cell? ⟨g,j,none⟩=some u:=by
 obtain ⟨A,c,rfl,hr⟩:=Rd.own h;rcases h.2 with ⟨he,hx⟩ | ⟨g,cap,cur,he,_⟩
 · omega
 · obtain ⟨b,o,h1,h2,h3⟩:=hr.at_ hn;injection he with e1 e2 e3
   rw [e1] at h1;injection h1 with h1
   injection h1 with h4 h5 _
   subst h4;subst h5;refine ⟨g,c,by rw [e1],hr.cap,h2,fun j u hj=>?_⟩;have:=h3 j u hj;rwa [Nat.zero_add] at this
theorem VTyps.get {w:World} {B:Nat} {v:Value} {l:List TypP} (h:VTyps B w v l) {i:Nat} {t:TypP} (hi:l[i]? = some t) :
 ∃g c vr,v = .slice (some ⟨g,0,none⟩) l.length c∧VRels B w vr t.rels∧w.cell? ⟨g,i * 2,none⟩=some (.string t.name)∧w.cell? ⟨g,i * 2 + 1,none⟩=some vr:=by
 obtain ⟨xs,h1,h2⟩:=h;have hl:i<l.length:=(List.getElem?_eq_some_iff.1 hi).1;obtain ⟨vr,hr,a,b⟩:=h2.get hi;obtain ⟨g,c,e,_,_,hc⟩:=zdb h1 (by omega);exact ⟨g,c,vr,e,hr,hc _ _ a,hc _ _ b⟩
theorem VRels.get {w:World} {B:Nat} {v:Value} {l:List RelP} (h:VRels B w v l) {i:Nat} {x:RelP} (hi:l[i]? = some x) :
 ∃g c vs vo,v = .slice (some ⟨g,0,none⟩) l.length c∧VSubs B w vs x.subs∧VOps B w vo x.ops∧w.cell? ⟨g,i * 6,none⟩=some (.string x.name)∧w.cell? ⟨g,i * 6 + 1,none⟩=some (.string x.view)∧w.cell? ⟨g,i * 6 + 2,none⟩=some (.string x.edit)∧w.cell? ⟨g,i * 6 + 3,none⟩=some (.string x.check)∧w.cell? ⟨g,i * 6 + 4,none⟩=some vs∧w.cell? ⟨g,i * 6 + 5,none⟩=some vo:=by
 obtain ⟨xs,h1,h2⟩:=h;have hl:i<l.length:=(List.getElem?_eq_some_iff.1 hi).1;obtain ⟨vs,vo,hs,ho,b0,b1,b2,b3,b4,b5⟩:=h2.get hi;obtain ⟨g,c,e,_,_,hc⟩:=zdb h1 (by omega);exact ⟨g,c,vs,vo,e,hs,ho,hc _ _ b0,hc _ _ b1,hc _ _ b2,hc _ _ b3,hc _ _ b4,hc _ _ b5⟩
theorem VOps.get {w:World} {B:Nat} {v:Value} {l:List OpP} (h:VOps B w v l) {i:Nat} {o:OpP} (hi:l[i]? = some o) :
 ∃g c,v = .slice (some ⟨g,0,none⟩) l.length c∧w.cell? ⟨g,i * 3,none⟩=some (.int .i64 o.1)∧w.cell? ⟨g,i * 3 + 1,none⟩=some (.string o.2.1)∧w.cell? ⟨g,i * 3 + 2,none⟩=some (.string o.2.2):=by
 have hl:i<l.length:=(List.getElem?_eq_some_iff.1 hi).1;obtain ⟨b0,b1,b2⟩:=ocells_at l i o hi;obtain ⟨g,c,e,_,_,hc⟩:=zdb h (by omega);exact ⟨g,c,e,hc _ _ b0,hc _ _ b1,hc _ _ b2⟩
theorem VSubs.get {w:World} {B:Nat} {v:Value} {l:List zb7} (h:VSubs B w v l) {i:Nat} {o:zb7} (hi:l[i]? = some o) :
 ∃g c,v = .slice (some ⟨g,0,none⟩) l.length c∧w.cell? ⟨g,i * 2,none⟩=some (.string o.1)∧w.cell? ⟨g,i * 2 + 1,none⟩=some (.string o.2):=by
 have hl:i<l.length:=(List.getElem?_eq_some_iff.1 hi).1;obtain ⟨b0,b1⟩:=zcT l i o hi;obtain ⟨g,c,e,_,_,hc⟩:=zdb h (by omega);exact ⟨g,c,e,hc _ _ b0,hc _ _ b1⟩
theorem VTyps.below {w w':World} {B:Nat} {v:Value} {l:List TypP} (h:VTyps B w v l) (hb:Below w.heap.size w w'):VTyps B w' v l:=by
 obtain ⟨xs,h1,h2⟩:=h;exact ⟨xs,zag h1 hb,h2.keep (keeps3_below hb)⟩
theorem zi3 (s:ByteArray) (hz:s.size≤1000000) {l:List TypP} {e p:Nat} (h:zaf s=(l,e,p)) (W:World) :
 Calls Tryz.prog 22 #[.string s] W fun r w'=>(∃A c,r = .returned (.tuple #[.agg #[.slice A l.length c],.int .i64 e,.int .i64 p])∧VTyps W.heap.size w' (.slice A l.length c) l)∧Below W.heap.size W w':=by
 have k:=parse_any s W (by unfold maxLen;omega);rw [h] at k;refine k.mono fun r w' ⟨vt,h1,h2,h3⟩=>?_;obtain ⟨A,c,rfl,_⟩:=Rd.own h2.choose_spec.1;exact ⟨⟨A,c,h1,h2⟩,h3⟩
theorem Rd.up {w w':World} {sz n c:Nat} {A:Option Addr} {xs:List Value} (h:Rd w w.heap.size sz A n c xs) (hb:Below w.heap.size w w'):Rd w' w'.heap.size sz A n c xs:=(h.below hb).more hb.size
theorem RelA.ok.up {w w':World} {R:Nat} {a:RelA} (h:a.ok w R) (hb:Below w.heap.size w w'):a.ok w' R:=⟨h.name,h.view,h.edit,h.check,h.subs.up hb,h.subn,h.subz,h.ops.up hb,h.opn,h.opz⟩
theorem TypA.ok.up {w w':World} {R:Nat} {a:TypA} (h:a.ok w R) (hb:Below w.heap.size w w'):a.ok w' R:=⟨h.name,h.rels.up hb,h.reln,fun r hr=>(h.relz r hr).up hb⟩
structure SchA (w:World) (R:Nat) (A:Option Addr) (c:Nat) (l:List TypA):Prop where
 rows:Rd w w.heap.size 2 A l.length c (l.flatMap TypA.cells)
 few:l.length * 40≤R
 each:∀a ∈ l,a.ok w R
theorem SchA.up {w w':World} {R:Nat} {A:Option Addr} {c:Nat} {l:List TypA} (h:SchA w R A c l) (hb:Below w.heap.size w w'):SchA w' R A c l:=⟨h.rows.up hb,h.few,fun a ha=>(h.each a ha).up hb⟩
theorem za6 {α:Type} (g:α→List Value) {sz:Nat} (hg:∀a,(g a).length=sz) {l:List α} {i k:Nat} {a:α} (hi:l[i]? = some a) (hk:k<sz):(l.flatMap g)[i * sz + k]? = (g a)[k]?:=by
 rw [List.flatMap_def];exact zfI (fun x hx=>by obtain ⟨y,_,rfl⟩:=List.mem_map.1 hx;exact hg y) (by rw [List.getElem?_map,hi];rfl) hk
theorem zda {α:Type} {l:List α} {i:Nat} {a:α} (hi:l[i]? = some a):0<l.length:=by
 have:=(List.getElem?_eq_some_iff.1 hi).1;omega
theorem SchA.get {w:World} {R:Nat} {A:Option Addr} {c:Nat} {l:List TypA} (h:SchA w R A c l) {i:Nat} {t:TypA} (hi:l[i]? = some t) :
 ∃b o,A=some ⟨b,o,none⟩∧w.cell? ⟨b,o + i * 2,none⟩=some (.string t.name)∧w.cell? ⟨b,o + i * 2 + 1,none⟩=some (.slice t.A t.rels.length t.c)∧t.ok w R:=by
 obtain ⟨b,o,rfl,_,hc⟩:=h.rows.at_ (zda hi);have g0:=za6 TypA.cells (sz:=2) (fun _=>rfl) hi (k:=0) (by omega);have g1:=za6 TypA.cells (sz:=2) (fun _=>rfl) hi (k:=1) (by omega);exact ⟨b,o,rfl,hc _ _ g0,hc _ _ g1,h.each t (List.mem_of_getElem? hi)⟩
theorem TypA.ok.get {w:World} {R:Nat} {t:TypA} (h:t.ok w R) {i:Nat} {x:RelA} (hi:t.rels[i]? = some x) :
 ∃b o,t.A=some ⟨b,o,none⟩∧w.cell? ⟨b,o + i * 6,none⟩=some (.string x.name)∧w.cell? ⟨b,o + i * 6 + 1,none⟩=some (.string x.view)∧w.cell? ⟨b,o + i * 6 + 2,none⟩=some (.string x.edit)∧w.cell? ⟨b,o + i * 6 + 3,none⟩=some (.string x.check) ∧
  w.cell? ⟨b,o + i * 6 + 4,none⟩=some (.slice x.As x.subs.length x.cs)∧w.cell? ⟨b,o + i * 6 + 5,none⟩=some (.slice x.Ao x.ops.length x.co)∧x.ok w R:=by
 obtain ⟨b,o,e,_,hc⟩:=h.rels.at_ (zda hi);have g:=fun k (hk:k<6)=>za6 RelA.cells (sz:=6) (fun _=>rfl) hi (k:=k) hk;exact ⟨b,o,e,hc _ _ (g 0 (by omega)),hc _ _ (g 1 (by omega)),hc _ _ (g 2 (by omega)),hc _ _ (g 3 (by omega)),hc _ _ (g 4 (by omega)),hc _ _ (g 5 (by omega)),h.relz x (List.mem_of_getElem? hi)⟩
theorem RelA.ok.sub {w:World} {R:Nat} {x:RelA} (h:x.ok w R) {i:Nat} {s:ByteArray × ByteArray} (hi:x.subs[i]? = some s) :
 ∃b o,x.As=some ⟨b,o,none⟩∧w.cell? ⟨b,o + i * 2,none⟩=some (.string s.1)∧w.cell? ⟨b,o + i * 2 + 1,none⟩=some (.string s.2)∧s.1.size≤R∧s.2.size≤R:=by
 obtain ⟨b,o,e,_,hc⟩:=h.subs.at_ (zda hi);have g:=fun k (hk:k<2)=>za6 ziu (sz:=2) (fun _=>rfl) hi (k:=k) hk;have z:=h.subz s (List.mem_of_getElem? hi);exact ⟨b,o,e,hc _ _ (g 0 (by omega)),hc _ _ (g 1 (by omega)),z.1,z.2⟩
theorem RelA.ok.op {w:World} {R:Nat} {x:RelA} (h:x.ok w R) {i:Nat} {o:OpI} (hi:x.ops[i]? = some o) :
 ∃b k,x.Ao=some ⟨b,k,none⟩∧w.cell? ⟨b,k + i * 3,none⟩=some (.int .i64 o.1)∧w.cell? ⟨b,k + i * 3 + 1,none⟩=some (.string o.2.1)∧w.cell? ⟨b,k + i * 3 + 2,none⟩=some (.string o.2.2)∧(Lit.int .i64 o.1).wf=true∧o.2.1.size≤R∧o.2.2.size≤R:=by
 obtain ⟨b,k,e,_,hc⟩:=h.ops.at_ (zda hi);have g:=fun j (hj:j<3)=>za6 aOp (sz:=3) (fun _=>rfl) hi (k:=j) hj;have z:=h.opz o (List.mem_of_getElem? hi);exact ⟨b,k,e,hc _ _ (g 0 (by omega)),hc _ _ (g 1 (by omega)),hc _ _ (g 2 (by omega)),z.1,z.2.1,z.2.2⟩
def opI (o:OpP):OpI:=((o.1:Int),o.2.1,o.2.2)
def relI (x:RelP):RelI:=⟨x.name,x.view,x.edit,x.check,x.subs,x.ops.map opI⟩
def za5 (t:TypP):TypI:=⟨t.name,t.rels.map relI⟩
structure SmI (R:Nat) (x:RelP):Prop where
 name:x.name.size≤R
 view:x.view.size≤R
 edit:x.edit.size≤R
 check:x.check.size≤R
 subn:x.subs.length * 32≤R
 subs:∀s ∈ x.subs,s.1.size≤R∧s.2.size≤R
 opn:x.ops.length * 40≤R
 ops:∀o ∈ x.ops,(Lit.int .i64 (o.1:Nat)).wf=true∧o.2.1.size≤R∧o.2.2.size≤R
theorem rels_conv {w:World} {B R:Nat}:∀(l:List RelP) (xs:List Value),RelsC w B l xs→(∀x ∈ l,SmI R x)→∃k:List RelA,xs=k.flatMap RelA.cells∧k.map RelA.says=l.map relI∧∀a ∈ k,a.ok w R
 | [],xs,h,_=>by
  have e:xs=[]:=h;exact ⟨[],e,rfl,fun a ha=>by cases ha⟩
 | x::l,xs,h,hz=>by
  obtain ⟨ys,zs,rfl,⟨vs,vo,rfl,hs,ho⟩,hr⟩:=h;obtain ⟨k,rfl,hk,hok⟩:=rels_conv l zs hr fun y hy=>hz y (List.mem_cons_of_mem _ hy);obtain ⟨As,cs,rfl,rs⟩:=Rd.own hs;obtain ⟨Ao,co,rfl,ro⟩:=Rd.own ho;have z:=hz x List.mem_cons_self;have e1:zbR x.subs=x.subs.flatMap ziu:=rfl;have e2:ocells x.ops=(x.ops.map opI).flatMap aOp:=by
   rw [List.flatMap_map];rfl
  refine ⟨⟨x.name,x.view,x.edit,x.check,As,cs,x.subs,Ao,co,x.ops.map opI⟩::k,?_,?_,fun a ha=>?_⟩
  · rw [List.flatMap_cons];show _=[Value.string x.name,.string x.view,.string x.edit,.string x.check,.slice As x.subs.length cs,.slice Ao (x.ops.map opI).length co] ++ _;rw [List.length_map]
  · rw [List.map_cons,List.map_cons,hk];rfl
  · rcases List.mem_cons.1 ha with rfl | ha
    · refine ⟨z.name,z.view,z.edit,z.check,rs,z.subn,z.subs,?_,by show (x.ops.map opI).length * 40≤R;rw [List.length_map];exact z.opn,fun o ho=>?_⟩
      · show Rd w w.heap.size 3 Ao (x.ops.map opI).length co ((x.ops.map opI).flatMap aOp);rw [List.length_map,←e2];exact ro
      · obtain ⟨p,hp,rfl⟩:=List.mem_map.1 ho;exact z.ops p hp
    · exact hok a ha
theorem types_conv {w:World} {B R:Nat}:∀(l:List TypP) (xs:List Value),TypsC w B l xs→(∀t ∈ l,t.name.size≤R∧t.rels.length * 112≤R∧∀x ∈ t.rels,SmI R x)→∃k:List TypA,xs=k.flatMap TypA.cells∧k.map TypA.says=l.map za5∧∀a ∈ k,a.ok w R
 | [],xs,h,_=>by
  have e:xs=[]:=h;exact ⟨[],e,rfl,fun a ha=>by cases ha⟩
 | t::l,xs,h,hz=>by
  obtain ⟨ys,zs,rfl,⟨vr,rfl,ws,hrow,hrc⟩,hr⟩:=h;obtain ⟨k,rfl,hk,hok⟩:=types_conv l zs hr fun y hy=>hz y (List.mem_cons_of_mem _ hy);have z:=hz t List.mem_cons_self;obtain ⟨m,rfl,hm,hmo⟩:=rels_conv t.rels ws hrc z.2.2;obtain ⟨A,c,rfl,rr⟩:=Rd.own hrow;have hl:m.length=t.rels.length:=by have:=congrArg List.length hm;rwa [List.length_map,List.length_map] at this
  refine ⟨⟨t.name,A,c,m⟩::k,?_,?_,fun a ha=>?_⟩
  · rw [List.flatMap_cons];show _=[Value.string t.name,.slice A m.length c] ++ _;rw [hl]
  · rw [List.map_cons,List.map_cons,hk];show TypI.mk t.name (m.map RelA.says)::_=_;rw [hm];rfl
  · rcases List.mem_cons.1 ha with rfl | ha
    · exact ⟨z.1,by show Rd w w.heap.size 6 A m.length c _;rw [hl];exact rr,by show m.length * 112≤R;rw [hl];exact z.2.1,hmo⟩
    · exact hok a ha
theorem VTyps.sch {w:World} {B R:Nat} {A:Option Addr} {c:Nat} {T:List TypP} (h:VTyps B w (.slice A T.length c) T) (hn:T.length * 40≤R) (hz:∀t ∈ T,t.name.size≤R∧t.rels.length * 112≤R∧∀x ∈ t.rels,SmI R x):∃l:List TypA,l.map TypA.says=T.map za5∧SchA w R A c l:=by
 obtain ⟨xs,h1,h2⟩:=h;obtain ⟨l,rfl,hs,ho⟩:=types_conv T xs h2 hz;obtain ⟨A2,c2,e,rd⟩:=Rd.own h1;injection e with ea _ ec
 subst ea;subst ec;have hl:l.length=T.length:=by have:=congrArg List.length hs;rwa [List.length_map,List.length_map] at this
 exact ⟨l,hs,by rw [hl];exact rd,by rw [hl];exact hn,ho⟩
def zgL (l:List OpI):List Value:=l.flatMap aOp
theorem zkh (l:List OpI) (i:Nat) (o:OpI) (h:l[i]? = some o):(zgL l)[i * 3]? = some (.int .i64 o.1)∧(zgL l)[i * 3 + 1]? = some (.string o.2.1)∧(zgL l)[i * 3 + 2]? = some (.string o.2.2):=by
 have g:=fun j (hj:j<3)=>za6 aOp (sz:=3) (fun _=>rfl) h (k:=j) hj;exact ⟨g 0 (by omega),g 1 (by omega),g 2 (by omega)⟩
def DVOps (B:Nat) (w:World) (v:Value) (o:List OpI):Prop:=w.ownsRow B 60 3 v o.length (zgL o)
def DVSubs (B:Nat) (w:World) (v:Value) (s:List zb7):Prop:=w.ownsRow B 64 2 v s.length (zbR s)
def DRelC (w:World) (B:Nat) (ys:List Value) (x:RelI):Prop:=∃vs vo,ys=[.string x.name,.string x.view,.string x.edit,.string x.check,vs,vo]∧DVSubs B w vs x.subs∧DVOps B w vo x.ops
def DRelsC (w:World) (B:Nat):List RelI→List Value→Prop
 | [],xs=>xs=[]
 | x::r,xs=>∃ys zs,xs=ys ++ zs∧DRelC w B ys x∧DRelsC w B r zs
def DKeeps (w w':World) (B:Nat):Prop:=(∀v n xs,w.ownsRow B 64 2 v n xs→w'.ownsRow B 64 2 v n xs)∧(∀v n xs,w.ownsRow B 60 3 v n xs→w'.ownsRow B 60 3 v n xs)
theorem DRelC.keep {w w':World} {B:Nat} {ys:List Value} {x:RelI} (h:DRelC w B ys x) (hk:DKeeps w w' B):DRelC w' B ys x:=by
 obtain ⟨vs,vo,e,h1,h2⟩:=h;exact ⟨vs,vo,e,hk.1 _ _ _ h1,hk.2 _ _ _ h2⟩
theorem DRelsC.keep {w w':World} {B:Nat} (hk:DKeeps w w' B):∀{l:List RelI} {xs:List Value},DRelsC w B l xs→DRelsC w' B l xs
 | [],_,h=>h
 | _::_,_,h=>by
  obtain ⟨ys,zs,e,h1,h2⟩:=h;exact ⟨ys,zs,e,h1.keep hk,DRelsC.keep hk h2⟩
theorem DRelsC.snoc {w:World} {B:Nat} {y:RelI} {ws:List Value} (hy:DRelC w B ws y):∀{l:List RelI} {xs:List Value},DRelsC w B l xs→DRelsC w B (l ++ [y]) (xs ++ ws)
 | [],xs,h=>by
  have:xs=[]:=h;subst this;exact ⟨ws,[],by simp,hy,rfl⟩
 | x::r,xs,h=>by
  obtain ⟨ys,zs,e,h1,h2⟩:=h;exact ⟨ys,zs ++ ws,by rw [e,List.append_assoc],h1,DRelsC.snoc hy h2⟩
def DVRels (B:Nat) (w:World) (v:Value) (l:List RelI):Prop:=∃xs,w.ownsRow B 48 6 v l.length xs∧DRelsC w B l xs
theorem DKeeps.base {w:World} {B B':Nat} (h:B'≤B) {l:List RelI} {xs:List Value}:DRelsC w B l xs→DRelsC w B' l xs:=by
 intro hr;induction l generalizing xs with
 | nil=>exact hr
 | cons x r ih =>
  obtain ⟨ys,zs,e,⟨vs,vo,e2,h1,h2⟩,h3⟩:=hr;exact ⟨ys,zs,e,⟨vs,vo,e2,zav h1 h,zav h2 h⟩,ih h3⟩
def DTypC (w:World) (B:Nat) (ys:List Value) (t:TypI):Prop:=∃vr,ys=[.string t.name,vr]∧DVRels B w vr t.rels
def DTypsC (w:World) (B:Nat):List TypI→List Value→Prop
 | [],xs=>xs=[]
 | x::r,xs=>∃ys zs,xs=ys ++ zs∧DTypC w B ys x∧DTypsC w B r zs
def DKeeps3 (w w':World) (B:Nat):Prop:=DKeeps w w' B∧∀v n xs,w.ownsRow B 48 6 v n xs→w'.ownsRow B 48 6 v n xs
theorem DVRels.keep {w w':World} {B:Nat} (hk:DKeeps3 w w' B) {v:Value} {l:List RelI} (h:DVRels B w v l):DVRels B w' v l:=by
 obtain ⟨xs,h1,h2⟩:=h;exact ⟨xs,hk.2 _ _ _ h1,h2.keep hk.1⟩
theorem DTypsC.keep {w w':World} {B:Nat} (hk:DKeeps3 w w' B):∀{l:List TypI} {xs:List Value},DTypsC w B l xs→DTypsC w' B l xs
 | [],_,h=>h
 | _::_,_,h=>by
  obtain ⟨ys,zs,e,⟨vr,e2,h1⟩,h2⟩:=h;exact ⟨ys,zs,e,⟨vr,e2,h1.keep hk⟩,DTypsC.keep hk h2⟩
theorem DTypsC.snoc {w:World} {B:Nat} {y:TypI} {ws:List Value} (hy:DTypC w B ws y):∀{l:List TypI} {xs:List Value},DTypsC w B l xs→DTypsC w B (l ++ [y]) (xs ++ ws)
 | [],xs,h=>by
  have:xs=[]:=h;subst this;exact ⟨ws,[],by simp,hy,rfl⟩
 | x::r,xs,h=>by
  obtain ⟨ys,zs,e,h1,h2⟩:=h;exact ⟨ys,zs ++ ws,by rw [e,List.append_assoc],h1,DTypsC.snoc hy h2⟩
theorem DVRels.base {w:World} {B B':Nat} (h:B'≤B) {v:Value} {l:List RelI} (hr:DVRels B w v l):DVRels B' w v l:=by
 obtain ⟨xs,h1,h2⟩:=hr;exact ⟨xs,zav h1 h,DKeeps.base h h2⟩
theorem DTypsC.base {w:World} {B B':Nat} (h:B'≤B):∀{l:List TypI} {xs:List Value},DTypsC w B l xs→DTypsC w B' l xs
 | [],_,h=>h
 | _::_,_,hr=>by
  obtain ⟨ys,zs,e,⟨vr,e2,h1⟩,h2⟩:=hr;exact ⟨ys,zs,e,⟨vr,e2,h1.base h⟩,DTypsC.base h h2⟩
def DVTyps (B:Nat) (w:World) (v:Value) (l:List TypI):Prop:=∃xs,w.ownsRow B 93 2 v l.length xs∧DTypsC w B l xs
theorem dkeeps3_below {B:Nat} {w w':World} (hk:Below w.heap.size w w'):DKeeps3 w w' B:=⟨⟨fun _ _ _ h=>zag h hk,fun _ _ _ h=>zag h hk⟩,fun _ _ _ h=>zag h hk⟩
theorem DTypsC.get {w:World} {B:Nat}:∀{l:List TypI} {xs:List Value} {i:Nat} {t:TypI},DTypsC w B l xs→l[i]? = some t→∃vr,DVRels B w vr t.rels∧xs[i * 2]? = some (.string t.name)∧xs[i * 2 + 1]? = some vr
 | [],_,_,_,_,h=>by simp at h
 | x::r,xs,0,t,h,hi=>by
  simp only [List.getElem?_cons_zero,Option.some.injEq] at hi;subst hi;obtain ⟨ys,zs,rfl,⟨vr,rfl,h1⟩,_⟩:=h;exact ⟨vr,h1,rfl,rfl⟩
 | x::r,xs,i + 1,t,h,hi=>by
  simp only [List.getElem?_cons_succ] at hi;obtain ⟨ys,zs,rfl,⟨vr,rfl,_⟩,h2⟩:=h;obtain ⟨v2,a,b,c⟩:=DTypsC.get h2 hi;refine ⟨v2,a,?_,?_⟩
  · rw [List.getElem?_append_right (by simp;omega),←b];congr 1
    simp;omega
  · rw [List.getElem?_append_right (by simp;omega),←c];congr 1
    simp;omega
theorem DRelsC.get {w:World} {B:Nat}:∀{l:List RelI} {xs:List Value} {i:Nat} {x:RelI},DRelsC w B l xs→l[i]? = some x→∃vs vo,DVSubs B w vs x.subs∧DVOps B w vo x.ops∧xs[i * 6]? = some (.string x.name)∧xs[i * 6 + 1]? = some (.string x.view)∧xs[i * 6 + 2]? = some (.string x.edit)∧xs[i * 6 + 3]? = some (.string x.check)∧xs[i * 6 + 4]? = some vs∧xs[i * 6 + 5]? = some vo
 | [],_,_,_,_,h=>by simp at h
 | y::r,xs,0,x,h,hi=>by
  simp only [List.getElem?_cons_zero,Option.some.injEq] at hi;subst hi;obtain ⟨ys,zs,rfl,⟨vs,vo,rfl,h1,h2⟩,_⟩:=h;exact ⟨vs,vo,h1,h2,rfl,rfl,rfl,rfl,rfl,rfl⟩
 | y::r,xs,i + 1,x,h,hi=>by
  simp only [List.getElem?_cons_succ] at hi;obtain ⟨ys,zs,rfl,⟨vs,vo,rfl,_,_⟩,h2⟩:=h;obtain ⟨v2,v3,a1,a2,b0,b1,b2,b3,b4,b5⟩:=DRelsC.get h2 hi;have key:∀(k:Nat) (u:Value),zs[i * 6 + k]? = some u→([.string y.name,.string y.view,.string y.edit,.string y.check,vs,vo] ++ zs)[(i + 1) * 6 + k]? = some u:=fun k u hk=>by
   rw [List.getElem?_append_right (by simp;omega),←hk];congr 1
   simp;omega
  exact ⟨v2,v3,a1,a2,key 0 _ b0,key 1 _ b1,key 2 _ b2,key 3 _ b3,key 4 _ b4,key 5 _ b5⟩
theorem DVTyps.get {w:World} {B:Nat} {v:Value} {l:List TypI} (h:DVTyps B w v l) {i:Nat} {t:TypI} (hi:l[i]? = some t) :
 ∃g c vr,v = .slice (some ⟨g,0,none⟩) l.length c∧DVRels B w vr t.rels∧w.cell? ⟨g,i * 2,none⟩=some (.string t.name)∧w.cell? ⟨g,i * 2 + 1,none⟩=some vr:=by
 obtain ⟨xs,h1,h2⟩:=h;have hl:i<l.length:=(List.getElem?_eq_some_iff.1 hi).1;obtain ⟨vr,hr,a,b⟩:=h2.get hi;obtain ⟨g,c,e,_,_,hc⟩:=zdb h1 (by omega);exact ⟨g,c,vr,e,hr,hc _ _ a,hc _ _ b⟩
theorem DVRels.get {w:World} {B:Nat} {v:Value} {l:List RelI} (h:DVRels B w v l) {i:Nat} {x:RelI} (hi:l[i]? = some x) :
 ∃g c vs vo,v = .slice (some ⟨g,0,none⟩) l.length c∧DVSubs B w vs x.subs∧DVOps B w vo x.ops∧w.cell? ⟨g,i * 6,none⟩=some (.string x.name)∧w.cell? ⟨g,i * 6 + 1,none⟩=some (.string x.view)∧w.cell? ⟨g,i * 6 + 2,none⟩=some (.string x.edit)∧w.cell? ⟨g,i * 6 + 3,none⟩=some (.string x.check)∧w.cell? ⟨g,i * 6 + 4,none⟩=some vs∧w.cell? ⟨g,i * 6 + 5,none⟩=some vo:=by
 obtain ⟨xs,h1,h2⟩:=h;have hl:i<l.length:=(List.getElem?_eq_some_iff.1 hi).1;obtain ⟨vs,vo,hs,ho,b0,b1,b2,b3,b4,b5⟩:=h2.get hi;obtain ⟨g,c,e,_,_,hc⟩:=zdb h1 (by omega);exact ⟨g,c,vs,vo,e,hs,ho,hc _ _ b0,hc _ _ b1,hc _ _ b2,hc _ _ b3,hc _ _ b4,hc _ _ b5⟩
theorem DVOps.get {w:World} {B:Nat} {v:Value} {l:List OpI} (h:DVOps B w v l) {i:Nat} {o:OpI} (hi:l[i]? = some o) :
 ∃g c,v = .slice (some ⟨g,0,none⟩) l.length c∧w.cell? ⟨g,i * 3,none⟩=some (.int .i64 o.1)∧w.cell? ⟨g,i * 3 + 1,none⟩=some (.string o.2.1)∧w.cell? ⟨g,i * 3 + 2,none⟩=some (.string o.2.2):=by
 have hl:i<l.length:=(List.getElem?_eq_some_iff.1 hi).1;obtain ⟨b0,b1,b2⟩:=zkh l i o hi;obtain ⟨g,c,e,_,_,hc⟩:=zdb h (by omega);exact ⟨g,c,e,hc _ _ b0,hc _ _ b1,hc _ _ b2⟩
theorem DVSubs.get {w:World} {B:Nat} {v:Value} {l:List zb7} (h:DVSubs B w v l) {i:Nat} {o:zb7} (hi:l[i]? = some o) :
 ∃g c,v = .slice (some ⟨g,0,none⟩) l.length c∧w.cell? ⟨g,i * 2,none⟩=some (.string o.1)∧w.cell? ⟨g,i * 2 + 1,none⟩=some (.string o.2):=by
 have hl:i<l.length:=(List.getElem?_eq_some_iff.1 hi).1;obtain ⟨b0,b1⟩:=zcT l i o hi;obtain ⟨g,c,e,_,_,hc⟩:=zdb h (by omega);exact ⟨g,c,e,hc _ _ b0,hc _ _ b1⟩
theorem DVTyps.below {w w':World} {B:Nat} {v:Value} {l:List TypI} (h:DVTyps B w v l) (hb:Below w.heap.size w w'):DVTyps B w' v l:=by
 obtain ⟨xs,h1,h2⟩:=h;exact ⟨xs,zag h1 hb,h2.keep (dkeeps3_below hb)⟩
theorem zcs {α:Type} {l:List α} {i:Nat} {x:α} (h:l[i]? = some x):l.take (i + 1)=l.take i ++ [x]:=by
 rw [List.take_add_one,h];rfl
theorem zaq {w w':World} {a:Addr} {v:Value} (h:w.cell? a=some v) (hb:Below w.heap.size w w'):w'.cell? a=some v:=(hb.cell (World.block_lt_of_cell? _ _ h)).trans h
theorem zeG (w:World) (a b c:Value) (t:TypeId):∀j u,[a,b,c][j]? = some u→(w.alloc (.cells #[a,b,c] t)).cell? ((⟨w.heap.size,0,none⟩:Addr).add j)=some u:=by
 intro j u hj;rw [Addr.add_lit,cell_of_row _ _ _ _ _ _ (heap_alloc_new w _),Nat.zero_add];simpa using hj
theorem Bk.new2 (w:World) (o:Obj) (cs:Array Value) (t:TypeId):Bk ((w.alloc o).alloc (.cells cs t)) (w.heap.size + 1) cs t:=by
 have h:=Bk.new (w.alloc o) cs t;rw [show (w.alloc o).heap.size=w.heap.size + 1 by simp] at h;exact h
end Go.Proofs.YtiepddmagfmllaaGreat
