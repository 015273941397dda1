import Derived.Test.YtmblgnddgmfkhaaGreatK08
import Derived.Test.YtmblgnddgmfkhaaGreatK09
set_option maxRecDepth 100000
set_option maxHeartbeats 4000000
namespace Go.Proofs.YtmblgnddgmfkhaaGreat
section
open Go.RowKit Go.ChangeMaps
variable {B g:Nat} {s:ByteArray} {l:List Tk} {w:World}
theorem Stepped.ok {k:Nat} {e:Ending} {w':World} (h:Stepped B g s k l w e w') (h3:kd (cutB s k)<3) :
 e = .returned (.int .i64 (plc s (k + ln (cutB s k)):Nat))∧Kp g B w w'∧Sc B w' g s (l ++ zfK (cutB s k) (plc s k)) 0:=by
 rcases h with ⟨a,⟨_,b,c⟩ | ⟨b,_⟩⟩
 · exact ⟨b,a,c⟩
 · omega
theorem Stepped.bad {k:Nat} {e:Ending} {w':World} (h:Stepped B g s k l w e w') (h3:3≤kd (cutB s k)) :
 e = .returned (.int .i64 (plc s k:Nat))∧Kp g B w w'∧Sc B w' g s l (kd (cutB s k)):=by
 rcases h with ⟨a,⟨b,_⟩ | ⟨_,b,c⟩⟩
 · omega
 · exact ⟨b,a,c⟩
theorem Sc.c2 {e:Nat} (h:Sc B w g s l e):w.cell? ⟨g,2,none⟩=some (.int .i64 e):=by obtain ⟨v,h⟩:=h;exact h.c2
theorem all_any (s:ByteArray) (w:World) (f0:s.size≤maxLen) :
 Calls Tryz.prog 112 #[.string s] w (AllPost s w):=by
 unfold maxLen at f0;by_cases A:2048<s.size
 · have y:zc2 s=([],13,0):=by unfold zc2;rw [yan A]
   have HX:Hid (AllPost s w (.returned (.tuple #[.slice none 0 0,.int .i64 13,.int .i64 0])) w):=Lib.hid (AllPost.empty y (Below.refl _ _));clear y;go_enter Tryz.func112,Tryz.ntmps112
   go_wp2
   go_ret3
   exact HX.out
 have kb:∀W,_:=fun W=>broken_at s W yab;have hs:s.size≤2048:=by omega
 clear f0;by_cases x:plc s (zkf s)<s.size
 · have y:zc2 s=([],11,plc s (zkf s)):=by unfold zc2;rw [yak A,yan x]
   have hz:badZ s=(plc s (zkf s):Int):=yan x;rw [hz] at kb;have HX:∀W,Below w.heap.size w W→Hid (AllPost s w (.returned (.tuple #[.slice none 0 0,.int .i64 11,.int .i64 (plc s (zkf s):Nat)])) W):=fun W hb=>Lib.hid (AllPost.empty y hb);clear y hz x;generalize plc s (zkf s)=p at *
   go_enter Tryz.func112,Tryz.ntmps112
   go_wp2_with ((with_reducible refine (kb _).mono ?_);rintro e N ⟨rfl,H⟩)
   go_ret3
   exact (HX _ H).out
 have hv:=zeo.2 x;have hz:badZ s = -1:=yak x;rw [hz] at kb;have HA:Hid (zc2 s=if (zei s 0).2.1=0 then zei s 0 else ([],(zei s 0).2)):=Lib.hid (by unfold zc2;rw [yak A,yak x]);clear hz x A;go_enter Tryz.func112,Tryz.ntmps112
 go_wp2_with (first
  | ((with_reducible refine (kb _).mono ?_);rintro e N ⟨rfl,H⟩)
  | ((refine (acts_any _ N.heap.size).mono ?_);rintro e w2 ⟨rfl,Z,ab⟩))
 have ac:(N.alloc (.cells #[.string s,.slice none 0 0,.int .i64 0] 270)).heap.size=N.heap.size + 1:=by simp
 have ag:w2.heap[N.heap.size]? = some (.cells #[.string s,.slice none 0 0,.int .i64 0] 270 (0,0)):=by
  rw [ab.block _ (by omega)];exact heap_alloc_new N _
 have ah:N.heap.size + 1<w2.heap.size:=by rw [←ac];exact (yaR.1 Z).1
 rw [ac] at Z;have ai:Below w.heap.size w w2:=H.trans (((Below.refl _ N).alloc H.size _).trans (ab.mono (by have:=H.size;omega)));have aj:=H.size;have hit:=zcv w2 s;have a1:=zbN w2 s;have ao:(w2.iter s 0).heap.size=w2.heap.size + 1:=by simp [World.iter]
 have HS:Hid (Al w N.heap.size (N.heap.size + 1) w2.heap.size (w2.heap.size + 1) s (w2.iter s 0) 0 0 []):=Lib.hid
  ⟨yaj _,yao _,hit,(a1.block _ ah).trans Z,⟨.slice none 0 0,(a1.block _ yab).trans ag,World.ownsRow_nil _ _ _ _,by omega⟩,ai.trans (a1.mono yab),by omega,by rw [zku];rfl,by rw [zku];rfl,yaj _,aj,by omega,by omega,by omega,by omega,by omega,by omega⟩
 clear ag ah Z ai aj hit a1 ao H ab ac;generalize N.heap.size=g at *
 go_loopw [8] (fun nx wr=>∃k j l,nx = .int .i64 (plc s j:Nat)∧Al w g (g + 1) w2.heap.size (w2.heap.size + 1) s wr k j l) (fun _ wr=>s.size-wr.iterPos w2.heap.size)
 case atStart=>exact ⟨0,0,[],rfl,HS.out⟩
 case round =>
  clear HS;obtain ⟨k,j,l,rfl,m⟩:=hrel;have ak:=Lib.hid m;have hit:=m.it;have aw:=zba s k;have ax:=zba s j;have a2:wr.iterPos w2.heap.size=plc s k:=by simp only [World.iterPos,hit]
  by_cases h:plc s k<s.size
  · have ay:=za3.2 h;have hw:=zgu h;have O:=zaK h;have ad:∀ty,_:=fun ty=>Lib.run_next_any_at (P:=Tryz.prog) wr w2.heap.size s (plc s k) ty hit h;by_cases a6:k<j
    · have aq:plc s k<plc s j:=yas (zbl h) (zbi s a6);have HN:=Lib.hid (m.skip h a6);have ar:(plc s k:Int)<(plc s j:Nat):=by omega
      clear m hit a6 a2;go_wp2
      go_roundw
      case rel=>exact ⟨k + 1,j,l,rfl,HN.out⟩
      case measure =>
       have e1:wr.iterPos w2.heap.size=plc s k:=by simp only [World.iterPos,ak.out.it]
       have e2:(wr.iterAt w2.heap.size s (plc s k + (Utf8.decode s (plc s k)).2)).iterPos w2.heap.size=plc s (k + 1):=by simp only [World.iterPos,HN.out.it]
       rw [e1,e2,O];omega
    · obtain rfl:j=k:=by have:=m.kj;omega
      have ar:¬((plc s j:Int)<(plc s j:Nat)):=by omega
      have B:=m.mp2 (plc s j + (Utf8.decode s (plc s j)).2);have C:=m.sc2 (plc s j + (Utf8.decode s (plc s j)).2);have M:=m.big2 (plc s j + (Utf8.decode s (plc s j)).2);have D:=fun w3=>Lib.hid (m.step (w3:=w3) h);have a7:=Lib.hid (m.scan_err h);have Q:=Lib.hid (m.bel2 (plc s j + (Utf8.decode s (plc s j)).2));have al:l.length<1000000:=by have:=m.few;have:=m.jc;have:=zeV s;omega
      have am:((Utf8.decode s (plc s j)).1:Int)=(rn s (plc s j):Nat):=rfl;have o:bt s (plc s j)<128→rn s (plc s j)=bt s (plc s j):=fun hh=>(zlV h hh).1;have u:128≤bt s (plc s j)→128≤rn s (plc s j):=rn_high h;have E:Hid (w.heap.size≤g∧w.heap.size≤w2.heap.size):=Lib.hid ⟨m.lo,m.li⟩;obtain ⟨W2,ae⟩:∃W2,W2=wr.iterAt w2.heap.size s (plc s j + (Utf8.decode s (plc s j)).2):=⟨_,rfl⟩;rw [←ae] at ad B C M Q;simp only [←ae] at D;rw [am] at ad;have a8:=Lib.hid a2;clear m hit a6 a2 ae am ak;have R:∀F:zbG (bt s (plc s j))=true,_:=fun F=>zpL C hs h F (some ⟨g,0,none⟩);have T:∀F:zcq (bt s (plc s j))=true,_:=fun F=>sign_any C M hs al h F;have U:∀F:bt s (plc s j)=47,_:=fun F=>note_any C M hs h F;have V:∀(h1:zbG (bt s (plc s j))=false) (h2:zcq (bt s (plc s j))=false) (h3:bt s (plc s j)≠47),_:=fun h1 h2 h3=>word_any C M hs hv al h h1 h2 h3;by_cases cB:zbG (bt s (plc s j))=true
      · have G:rn s (plc s j)=bt s (plc s j):=o (by have:=zb0.1 cB;omega);have I:=zoJ W2 B (r:=rn s (plc s j)) (by rw [G];exact cB);have ks:=R cB;clear R T U V B o u G;generalize rn s (plc s j)=z at *
        by_cases f:kd (cutB s j)<3
        · have J:(((0:Nat):Int) == 0)=true:=rfl;go_wp2_with ((with_reducible refine ks.mono ?_);intro e w3 q;obtain ⟨rfl,n,b⟩:=q.ok f;have K:=b.c2)
          go_roundw
          case rel=>exact ⟨j + 1,j + ln (cutB s j),l ++ zfK (cutB s j) (plc s j),rfl,(D w3).out f n b⟩
          case measure =>
           have e2:w3.iterPos w2.heap.size=plc s (j + 1):=by simp only [World.iterPos,((D w3).out f n b).it]
           rw [a8.out,e2,O];omega
        · replace f:3≤kd (cutB s j):=by omega
          have J:(((kd (cutB s j):Nat):Int) == 0)=false:=by simp;omega
          go_wp2_with ((with_reducible refine ks.mono ?_);intro e w3 q;obtain ⟨rfl,n,b⟩:=q.bad f;have K:=b.c2)
          go_quiet (fail)
          go_wp2
          go_ret3
          have X:=a7.out f;have y:=HA.out;rw [yak (by rw [X];dsimp only;omega),X] at y;refine AllPost.empty y (Q.out.trans ?_);exact Below.trans (n.below (ycX E.out.2) E.out.1) ⟨rfl,rfl,rfl,yaj _,fun _ _=>rfl⟩
      by_cases cS:zcq (bt s (plc s j))=true
      · have G:rn s (plc s j)=bt s (plc s j):=o (by have:=zcV.1 cS;omega);have I:=zqN W2 B (r:=rn s (plc s j)) (by rw [G];exact cS);have ks:=T cS;clear R T U V B o u G;generalize rn s (plc s j)=z at *
        by_cases f:kd (cutB s j)<3
        · have J:(((0:Nat):Int) == 0)=true:=rfl;go_wp2_with ((with_reducible refine ks.mono ?_);intro e w3 q;obtain ⟨rfl,n,b⟩:=q.ok f;have K:=b.c2)
          go_roundw
          case rel=>exact ⟨j + 1,j + ln (cutB s j),l ++ zfK (cutB s j) (plc s j),rfl,(D w3).out f n b⟩
          case measure =>
           have e2:w3.iterPos w2.heap.size=plc s (j + 1):=by simp only [World.iterPos,((D w3).out f n b).it]
           rw [a8.out,e2,O];omega
        · replace f:3≤kd (cutB s j):=by omega
          have J:(((kd (cutB s j):Nat):Int) == 0)=false:=by simp;omega
          go_wp2_with ((with_reducible refine ks.mono ?_);intro e w3 q;obtain ⟨rfl,n,b⟩:=q.bad f;have K:=b.c2)
          go_quiet (fail)
          go_wp2
          go_ret3
          have X:=a7.out f;have y:=HA.out;rw [yak (by rw [X];dsimp only;omega),X] at y;refine AllPost.empty y (Q.out.trans ?_);exact Below.trans (n.below (ycX E.out.2) E.out.1) ⟨rfl,rfl,rfl,yaj _,fun _ _=>rfl⟩
      by_cases cN:bt s (plc s j)=47
      · have G:rn s (plc s j)=47:=(o yab).trans cN;have I:=zqK W2 B (rn s (plc s j)) 209 (by rw [G];decide +kernel);have ks:=U cN;clear R T U V B o u G;generalize rn s (plc s j)=z at *
        by_cases f:kd (cutB s j)<3
        · have J:(((0:Nat):Int) == 0)=true:=rfl;go_wp2_with ((with_reducible refine ks.mono ?_);intro e w3 q;obtain ⟨rfl,n,b⟩:=q.ok f;have K:=b.c2)
          go_roundw
          case rel=>exact ⟨j + 1,j + ln (cutB s j),l ++ zfK (cutB s j) (plc s j),rfl,(D w3).out f n b⟩
          case measure =>
           have e2:w3.iterPos w2.heap.size=plc s (j + 1):=by simp only [World.iterPos,((D w3).out f n b).it]
           rw [a8.out,e2,O];omega
        · replace f:3≤kd (cutB s j):=by omega
          have J:(((kd (cutB s j):Nat):Int) == 0)=false:=by simp;omega
          go_wp2_with ((with_reducible refine ks.mono ?_);intro e w3 q;obtain ⟨rfl,n,b⟩:=q.bad f;have K:=b.c2)
          go_quiet (fail)
          go_wp2
          go_ret3
          have X:=a7.out f;have y:=HA.out;rw [yak (by rw [X];dsimp only;omega),X] at y;refine AllPost.empty y (Q.out.trans ?_);exact Below.trans (n.below (ycX E.out.2) E.out.1) ⟨rfl,rfl,rfl,yaj _,fun _ _=>rfl⟩
      rw [yb5] at cB cS
      · have aa:rn s (plc s j)≠47∧zcq (rn s (plc s j))=false∧zbG (rn s (plc s j))=false:=by
         by_cases af:bt s (plc s j)<128
         · rw [o af];exact ⟨cN,cS,cB⟩
         · have:=u yab;refine ⟨by omega,?_,?_⟩
           · rw [ya3];intro e;have:=zcV.1 e;omega
           · rw [ya3];intro e;have:=zb0.1 e;omega
        have I:=zqM W2 B aa.1 aa.2.1 aa.2.2;have ks:=V cB cS cN;clear R T U V B o u aa;generalize rn s (plc s j)=z at *
        by_cases f:kd (cutB s j)<3
        · have J:(((0:Nat):Int) == 0)=true:=rfl;go_wp2_with ((with_reducible refine ks.mono ?_);intro e w3 q;obtain ⟨rfl,n,b⟩:=q.ok f;have K:=b.c2)
          go_roundw
          case rel=>exact ⟨j + 1,j + ln (cutB s j),l ++ zfK (cutB s j) (plc s j),rfl,(D w3).out f n b⟩
          case measure =>
           have e2:w3.iterPos w2.heap.size=plc s (j + 1):=by simp only [World.iterPos,((D w3).out f n b).it]
           rw [a8.out,e2,O];omega
        · replace f:3≤kd (cutB s j):=by omega
          have J:(((kd (cutB s j):Nat):Int) == 0)=false:=by simp;omega
          go_wp2_with ((with_reducible refine ks.mono ?_);intro e w3 q;obtain ⟨rfl,n,b⟩:=q.bad f;have K:=b.c2)
          go_quiet (fail)
          go_wp2
          go_ret3
          have X:=a7.out f;have y:=HA.out;rw [yak (by rw [X];dsimp only;omega),X] at y;refine AllPost.empty y (Q.out.trans ?_);exact Below.trans (n.below (ycX E.out.2) E.out.1) ⟨rfl,rfl,rfl,yaj _,fun _ _=>rfl⟩
  · have ad:∀ty,_:=fun ty=>Lib.run_next_end_at (P:=Tryz.prog) wr w2.heap.size s (plc s k) ty hit h;obtain ⟨aq,L,Y⟩:=m.fin h;have au:l.length<1000000:=by have:=m.few;have:=m.jc;have:=zeV s;omega
    have ka:∀W,W=wr→_:=fun W (e:W=wr)=>add_any (k:=3) (t:=⟨#[]⟩) (p:=s.size) (w:=W) (e ▸ m.sc) (e ▸ m.big) au yab (by show 0≤_;omega);have ka:=ka wr rfl;have HB:Hid (Below w.heap.size w wr):=Lib.hid m.bel;have af:=m.lo;have az:=m.li;have y:=HA.out;rw [yan (by rw [L])] at y;have HC:=Lib.hid L;have HT:=Lib.hid Y;have HF:=Lib.hid y;clear m hit a2 L Y y HA;go_wp2_with ((refine ka.mono ?_);rintro e w3 ⟨rfl,⟨v,C⟩,n⟩;have c1:=C.c1)
    obtain ⟨A3,c3,rfl,an⟩:=Rd.own C.row;have av:=Lib.hid an;have HP:=Lib.hid (HB.out.trans (n.below yab af));clear an C n;go_wp2
    go_ret3
    have hF:=HF.out;have hT:=HT.out;refine ⟨⟨A3,c3,?_,?_⟩,HP.out⟩
    · rw [hF,HC.out,hT];rfl
    · unfold Toks;rw [hF,hT];exact av.out
end
section
open Go.RowKit
open Go.RowKit
variable {w w':World} {R B i c:Nat} {v:Value} {l:List TypP} {A:Option Addr} {x:RelA}
theorem znW (n:Nat):∀(u:ByteArray) (off:Nat),u.size≤n→(zei u off).1.length≤u.size + 1:=by
 induction n with
 | zero =>
  intro u off b;rw [zfH (by omega)];show 1≤_;omega
 | succ n ih =>
  intro u off b;rcases ybg u.size with h | h
  · rw [zfH h];show 1≤_;omega
  by_cases f:3≤kd u
  · rw [scan_err h f];show 0≤_;omega
  · have j:=zjr h yab;rw [zmH h (by omega)];have:=ih (cutB u (ln u)) (off + plc u (ln u)) yab;rw [yam];have g:∀(p:Prop) [Decidable p] (t:Tk),(if p then ([]:List Tk) else [t]).length≤1:=fun p _ t=>by split <;> simp
    have:=g (kd u=0) (kd u,cutA u (ln u),off);omega
theorem zrP {x:ByteArray} (h:nameS x=true) (c:UInt8) (hc:zcq c.toNat=true):x≠sg c:=by
 rintro rfl;obtain ⟨f,_,g⟩:=zby.1 h;have j:=g 0 f;have b:=(may_not (u:=sg c) (zap c) j).2.1;have k:bt (sg c) 0=c.toNat:=rfl;rw [k,hc] at b;cases b
theorem all_fine {s:ByteArray} (hz:s.size≤2048) (h0:(zc2 s).2.1=0):Fine (zc2 s).1:=by
 obtain ⟨v,g,j⟩:=zjk hz h0;obtain ⟨b,e,hi⟩:=zlt _ s 0 (yaj _) g;have o:=znW _ s 0 (yaj _);rw [j];refine ⟨by omega,b,0 + s.size,e,fun t k=>?_⟩;rcases hi t k with ⟨f,m⟩ | ⟨f,_⟩
 · exact .inr ⟨f,fun c n=>zrP m c n⟩
 · exact .inl f
theorem zmT {s:ByteArray} (h0:(zc2 s).2.1=0):s.size≤2048:=by
 rcases ybM 2048 s.size with h | h
 · unfold zc2 at h0;rw [yan h] at h0;exact absurd h0 yac
 · exact h
theorem parse_any (s:ByteArray) (w:World) (f0:s.size≤maxLen):Calls Tryz.prog 73 #[.string s] w (SPost (zak s) w):=by
 have j:=all_any s (w.alloc (.cells #[.slice none 0 0] 140)) f0;unfold AllPost at j;have f:Below w.heap.size w (w.alloc (.cells #[.slice none 0 0] 140)):=(Below.refl _ w).alloc (yaj _) _;have hb:=Bk.new w #[.slice none 0 0] 140;have J:=hb.lt;by_cases g:(zc2 s).2.1=0
 · have k:zak s=outS (zgc (zc2 s).1):=by unfold zak;rw [yan g]
   have y:=all_fine (zmT g) g;rw [k];rw [g] at j;have z:∀n A c,Toks n A c (zc2 s).1→_:=fun n A c m=>read_any (w:=n) (A:=A) (c:=c) m y;clear y g k;generalize (zc2 s).1=l at *
   generalize (zc2 s).2.2=q at *
   generalize outS (zgc l)=o at *
   clear f0;go_enter Tryz.func73,Tryz.ntmps73
   go_wp2_with fail
   generalize w.alloc (.cells #[.slice none 0 0] 140)=W at *
   refine j.mono ?_;rintro e u ⟨⟨A,c,rfl,m⟩,b⟩;replace f:=f.trans (b.mono f.size);replace hb:=hb.below b;have E:=hb.lt;clear j b;go_wp2_with fail
   refine (z _ _ _ m).mono ?_;rintro e K ⟨L,rfl,F,b⟩;replace f:=f.trans (b.mono f.size);replace hb:=hb.below b;obtain ⟨G,B,H⟩:=F;obtain ⟨C,D,rfl,_⟩:=Rd.own B;have x:=hb.c1;have I:=hb.fz;clear z m b;go_wp2_with fail
   refine bodyPost_ret (v:=.tuple #[.agg #[.slice C o.1.length D],.int .i64 o.2.1,.int .i64 o.2.2]) (by simp [results,Tryz.results73,go_sem,x];try rfl) rfl ?_;refine ⟨.slice C o.1.length D,rfl,⟨G,?_,?_⟩,?_⟩
   · refine zaA (own_set B ?_ _) (show w.heap.size≤u.heap.size by omega);dsimp only;omega
   · exact TypsC.base (show w.heap.size≤u.heap.size by omega) (H.keep (zcH (a:=⟨w.heap.size,0,none⟩) yah _))
   · refine Below.setCell f ?_ _;exact yaj _
 · have k:zak s=([],(zc2 s).2):=by unfold zak;rw [yak g]
   rw [k];have M:((((zc2 s).2.1:Nat):Int) == 0)=false:=by rw [ybh];omega
   clear g k f0;generalize (zc2 s).2=q at *
   generalize (zc2 s).1=l at *
   go_enter Tryz.func73,Tryz.ntmps73
   go_wp2_with fail
   generalize w.alloc (.cells #[.slice none 0 0] 140)=W at *
   refine j.mono ?_;rintro e u ⟨⟨A,c,rfl,m⟩,b⟩;replace f:=f.trans (b.mono f.size);replace hb:=hb.below b;have x:=hb.c1;have I:=hb.fz;clear j b;go_wp2_with fail
   refine bodyPost_ret (v:=.tuple #[.agg #[.slice none 0 0],.int .i64 q.1,.int .i64 q.2]) (by simp [results,Tryz.results73,go_sem,x];try rfl) rfl ?_;refine ⟨.slice none 0 0,rfl,⟨[],World.ownsRow_nil _ _ _ _,rfl⟩,?_⟩;refine Below.setCell f ?_ _;exact yaj _
theorem TypsC.get:∀{l:List TypP} {xs:List Value} {i:Nat} {t:TypP},TypsC w B l xs→l[i]? = some t→∃vr,VRels B w vr t.rels∧xs[i * 2]? = some (.string t.name)∧xs[i * 2 + 1]? = some vr
 | [],_,_,_,_,h=>by simp at h
 | x::r,xs,0,t,h,hi=>by
  simp only [ybs,yaT] at hi;subst hi;obtain ⟨f,g,rfl,⟨vr,rfl,j⟩,_⟩:=h;exact ⟨vr,j,rfl,rfl⟩
 | x::r,xs,i + 1,t,h,hi=>by
  simp only [ybj] at hi;obtain ⟨f,g,rfl,⟨vr,rfl,_⟩,k⟩:=h;obtain ⟨m,a,b,c⟩:=TypsC.get k hi;refine ⟨m,a,?_,?_⟩
  · rw [yaJ yag,←b];congr 1
    simp;omega
  · rw [yaJ yag,←c];congr 1
    simp;omega
theorem RelsC.get:∀{l:List RelP} {xs:List Value} {i:Nat} {x:RelP},RelsC w B l xs→l[i]? = some x→∃vs vo,zgw B w vs x.subs∧zjj B w vo x.ops∧xs[i * 6]? = some (.string x.name)∧xs[i * 6 + 1]? = some (.string x.view)∧xs[i * 6 + 2]? = some (.string x.edit)∧xs[i * 6 + 3]? = some (.string x.check)∧xs[i * 6 + 4]? = some vs∧xs[i * 6 + 5]? = some vo
 | [],_,_,_,_,h=>by simp at h
 | y::r,xs,0,x,h,hi=>by
  simp only [ybs,yaT] at hi;subst hi;obtain ⟨g,b,rfl,⟨vs,vo,rfl,j,f⟩,_⟩:=h;exact ⟨vs,vo,j,f,rfl,rfl,rfl,rfl,rfl,rfl⟩
 | y::r,xs,i + 1,x,h,hi=>by
  simp only [ybj] at hi;obtain ⟨g,b,rfl,⟨vs,vo,rfl,_,_⟩,f⟩:=h;obtain ⟨m,v3,n,o,q,s,z,A,C,D⟩:=RelsC.get f hi;have key:∀(k:Nat) (u:Value),b[i * 6 + k]? = some u→([.string y.name,.string y.view,.string y.edit,.string y.check,vs,vo] ++ b)[(i + 1) * 6 + k]? = some u:=fun k u hk=>by
   rw [yaJ yag,←hk];congr 1
   simp;omega
  exact ⟨m,v3,n,o,key 0 _ q,key 1 _ s,key 2 _ z,key 3 _ A,key 4 _ C,key 5 _ D⟩
theorem zk5:∀(l:List OpP) (i:Nat) (o:OpP),l[i]? = some o→(zbS l)[i * 3]? = some (.int .i64 o.1)∧(zbS l)[i * 3 + 1]? = some (.string o.2.1)∧(zbS l)[i * 3 + 2]? = some (.string o.2.2)
 | [],_,_,h=>by simp at h
 | y::r,0,o,hi=>by
  simp only [ybs,yaT] at hi;subst hi;exact ⟨rfl,rfl,rfl⟩
 | y::r,i + 1,o,hi=>by
  simp only [ybj] at hi;obtain ⟨b,f,g⟩:=zk5 r i o hi;have key:∀(k:Nat) (u:Value),(zbS r)[i * 3 + k]? = some u→(zbS (y::r))[(i + 1) * 3 + k]? = some u:=fun k u hk=>by
   show (zmq y ++ zbS r)[_]? = _;rw [yaJ (by simp [zmq];omega),←hk];congr 1
   simp [zmq];omega
  exact ⟨key 0 _ b,key 1 _ f,key 2 _ g⟩
theorem zlu:∀(l:List zdT) (i:Nat) (s:zdT),l[i]? = some s→(zdl l)[i * 2]? = some (.string s.1)∧(zdl l)[i * 2 + 1]? = some (.string s.2)
 | [],_,_,h=>by simp at h
 | y::r,0,o,hi=>by
  simp only [ybs,yaT] at hi;subst hi;exact ⟨rfl,rfl⟩
 | y::r,i + 1,o,hi=>by
  simp only [ybj] at hi;obtain ⟨b,f⟩:=zlu r i o hi;have key:∀(k:Nat) (u:Value),(zdl r)[i * 2 + k]? = some u→(zdl (y::r))[(i + 1) * 2 + k]? = some u:=fun k u hk=>by
   show (zo9 y ++ zdl r)[_]? = _;rw [yaJ (by simp [zo9];omega),←hk];congr 1
   simp [zo9];omega
  exact ⟨key 0 _ b,key 1 _ f⟩
theorem own_at {e:TypeId} {size n:Nat} {xs:List Value} (h:w.ownsRow B e size v n xs) (hn:0<n):∃g c,v = .slice (some ⟨g,0,none⟩) n c∧n≤c∧g<w.heap.size∧∀j u,xs[j]? = some u→w.cell? ⟨g,j,none⟩=some u:=by
 obtain ⟨A,c,rfl,k⟩:=Rd.own h;rcases h.2 with ⟨m,E⟩ | ⟨g,cap,s,m,_⟩
 · omega
 · obtain ⟨b,o,f,x,y⟩:=k.at_ hn;injection m with q F G
   rw [q] at f;injection f with f
   injection f with z C _
   subst z;subst C;refine ⟨g,c,by rw [q],k.cap,x,fun j u D=>?_⟩;have:=y j u D;rwa [yaI] at this
theorem VTyps.get (h:VTyps B w v l) {t:TypP} (hi:l[i]? = some t) :
 ∃g c vr,v = .slice (some ⟨g,0,none⟩) l.length c∧VRels B w vr t.rels∧w.cell? ⟨g,i * 2,none⟩=some (.string t.name)∧w.cell? ⟨g,i * 2 + 1,none⟩=some vr:=by
 obtain ⟨n,j,k⟩:=h;have o:i<l.length:=(yap.1 hi).1;obtain ⟨vr,m,a,b⟩:=k.get hi;obtain ⟨g,c,e,_,_,f⟩:=own_at j yab;exact ⟨g,c,vr,e,m,f _ _ a,f _ _ b⟩
theorem VRels.get {l:List RelP} (h:VRels B w v l) {x:RelP} (hi:l[i]? = some x) :
 ∃g c vs vo,v = .slice (some ⟨g,0,none⟩) l.length c∧zgw B w vs x.subs∧zjj B w vo x.ops∧w.cell? ⟨g,i * 6,none⟩=some (.string x.name)∧w.cell? ⟨g,i * 6 + 1,none⟩=some (.string x.view)∧w.cell? ⟨g,i * 6 + 2,none⟩=some (.string x.edit)∧w.cell? ⟨g,i * 6 + 3,none⟩=some (.string x.check)∧w.cell? ⟨g,i * 6 + 4,none⟩=some vs∧w.cell? ⟨g,i * 6 + 5,none⟩=some vo:=by
 obtain ⟨z,f,j⟩:=h;have A:i<l.length:=(yap.1 hi).1;obtain ⟨vs,vo,k,m,n,o,q,s,u,y⟩:=j.get hi;obtain ⟨g,c,e,_,_,b⟩:=own_at f yab;exact ⟨g,c,vs,vo,e,k,m,b _ _ n,b _ _ o,b _ _ q,b _ _ s,b _ _ u,b _ _ y⟩
theorem VTyps.below (h:VTyps B w v l) (hb:Below w.heap.size w w'):VTyps B w' v l:=by
 obtain ⟨b,f,g⟩:=h;exact ⟨b,zao f hb,g.keep (zd4 hb)⟩
theorem zmw (s:ByteArray) (hz:s.size≤1000000) {e p:Nat} (h:zak s=(l,e,p)) (W:World) :
 Calls Tryz.prog 73 #[.string s] W fun r w'=>(∃A c,r = .returned (.tuple #[.agg #[.slice A l.length c],.int .i64 e,.int .i64 p])∧VTyps W.heap.size w' (.slice A l.length c) l)∧Below W.heap.size W w':=by
 have k:=parse_any s W (by unfold maxLen;omega);rw [h] at k;refine k.mono fun r w' ⟨j,f,b,g⟩=>?_;obtain ⟨A,c,rfl,_⟩:=Rd.own b.choose_spec.1;exact ⟨⟨A,c,f,b⟩,g⟩
theorem RelA.ok.up {a:RelA} (h:a.ok w R) (hb:Below w.heap.size w w'):a.ok w' R:=⟨h.name,h.view,h.edit,h.check,h.subs.up hb,h.subn,h.subz,h.ops.up hb,h.opn,h.opz⟩
theorem TypA.ok.up {a:TypA} (h:a.ok w R) (hb:Below w.heap.size w w'):a.ok w' R:=⟨h.name,h.rels.up hb,h.reln,fun r b=>(h.relz r b).up hb⟩
structure SchA (w:World) (R:Nat) (A:Option Addr) (c:Nat) (l:List TypA):Prop where
 rows:Rd w w.heap.size 2 A l.length c (l.flatMap TypA.cells)
 few:l.length * 40≤R
 each:∀a ∈ l,a.ok w R
theorem SchA.up {l:List TypA} (h:SchA w R A c l) (hb:Below w.heap.size w w'):SchA w' R A c l:=⟨h.rows.up hb,h.few,fun a b=>(h.each a b).up hb⟩
theorem zbf {α:Type} (g:α→List Value) {sz:Nat} (hg:∀a,(g a).length=sz) {l:List α} {k:Nat} {a:α} (hi:l[i]? = some a) (hk:k<sz):(l.flatMap g)[i * sz + k]? = (g a)[k]?:=by
 rw [ybU];exact ze2 (fun x b=>by obtain ⟨y,_,rfl⟩:=yaH.1 b;exact hg y) (by rw [yaY,hi];rfl) hk
theorem zd8 {α:Type} {l:List α} {a:α} (hi:l[i]? = some a):0<l.length:=by
 have:=(yap.1 hi).1;omega
theorem SchA.get {l:List TypA} (h:SchA w R A c l) {t:TypA} (hi:l[i]? = some t) :
 ∃b o,A=some ⟨b,o,none⟩∧w.cell? ⟨b,o + i * 2,none⟩=some (.string t.name)∧w.cell? ⟨b,o + i * 2 + 1,none⟩=some (.slice t.A t.rels.length t.c)∧t.ok w R:=by
 obtain ⟨b,o,rfl,_,f⟩:=h.rows.at_ (zd8 hi);have g0:=zbf TypA.cells (sz:=2) (fun _=>rfl) hi (k:=0) yab;have g:=zbf TypA.cells (sz:=2) (fun _=>rfl) hi (k:=1) yab;exact ⟨b,o,rfl,f _ _ g0,f _ _ g,h.each t (yaq hi)⟩
theorem TypA.ok.get {t:TypA} (h:t.ok w R) (hi:t.rels[i]? = some x) :
 ∃b o,t.A=some ⟨b,o,none⟩∧w.cell? ⟨b,o + i * 6,none⟩=some (.string x.name)∧w.cell? ⟨b,o + i * 6 + 1,none⟩=some (.string x.view)∧w.cell? ⟨b,o + i * 6 + 2,none⟩=some (.string x.edit)∧w.cell? ⟨b,o + i * 6 + 3,none⟩=some (.string x.check) ∧
  w.cell? ⟨b,o + i * 6 + 4,none⟩=some (.slice x.As x.subs.length x.cs)∧w.cell? ⟨b,o + i * 6 + 5,none⟩=some (.slice x.Ao x.ops.length x.co)∧x.ok w R:=by
 obtain ⟨b,o,e,_,f⟩:=h.rels.at_ (zd8 hi);have g:=fun k (hk:k<6)=>zbf RelA.cells (sz:=6) (fun _=>rfl) hi (k:=k) hk;exact ⟨b,o,e,f _ _ (g 0 yab),f _ _ (g 1 yab),f _ _ (g 2 yab),f _ _ (g 3 yab),f _ _ (g 4 yab),f _ _ (g 5 yab),h.relz x (yaq hi)⟩
theorem RelA.ok.sub (h:x.ok w R) {s:ByteArray × ByteArray} (hi:x.subs[i]? = some s) :
 ∃b o,x.As=some ⟨b,o,none⟩∧w.cell? ⟨b,o + i * 2,none⟩=some (.string s.1)∧w.cell? ⟨b,o + i * 2 + 1,none⟩=some (.string s.2)∧s.1.size≤R∧s.2.size≤R:=by
 obtain ⟨b,o,e,_,f⟩:=h.subs.at_ (zd8 hi);have g:=fun k (hk:k<2)=>zbf zpt (sz:=2) (fun _=>rfl) hi (k:=k) hk;have z:=h.subz s (yaq hi);exact ⟨b,o,e,f _ _ (g 0 yab),f _ _ (g 1 yab),z.1,z.2⟩
theorem RelA.ok.op (h:x.ok w R) {o:OpI} (hi:x.ops[i]? = some o) :
 ∃b k,x.Ao=some ⟨b,k,none⟩∧w.cell? ⟨b,k + i * 3,none⟩=some (.int .i64 o.1)∧w.cell? ⟨b,k + i * 3 + 1,none⟩=some (.string o.2.1)∧w.cell? ⟨b,k + i * 3 + 2,none⟩=some (.string o.2.2)∧(Lit.int .i64 o.1).wf=true∧o.2.1.size≤R∧o.2.2.size≤R:=by
 obtain ⟨b,k,e,_,f⟩:=h.ops.at_ (zd8 hi);have g:=fun j (m:j<3)=>zbf aOp (sz:=3) (fun _=>rfl) hi (k:=j) m;have z:=h.opz o (yaq hi);exact ⟨b,k,e,f _ _ (g 0 yab),f _ _ (g 1 yab),f _ _ (g 2 yab),z.1,z.2.1,z.2.2⟩
def opI (o:OpP):OpI:=((o.1:Int),o.2.1,o.2.2)
def relI (x:RelP):RelI:=⟨x.name,x.view,x.edit,x.check,x.subs,x.ops.map opI⟩
def zbY (t:TypP):TypI:=⟨t.name,t.rels.map relI⟩
structure SmI (R:Nat) (x:RelP):Prop where
 name:x.name.size≤R
 view:x.view.size≤R
 edit:x.edit.size≤R
 check:x.check.size≤R
 subn:x.subs.length * 32≤R
 subs:∀s ∈ x.subs,s.1.size≤R∧s.2.size≤R
 opn:x.ops.length * 40≤R
 ops:∀o ∈ x.ops,(Lit.int .i64 (o.1:Nat)).wf=true∧o.2.1.size≤R∧o.2.2.size≤R
theorem zlo:∀(l:List RelP) (xs:List Value),RelsC w B l xs→(∀x ∈ l,SmI R x)→∃k:List RelA,xs=k.flatMap RelA.cells∧k.map RelA.says=l.map relI∧∀a ∈ k,a.ok w R
 | [],xs,h,_=>by
  have e:xs=[]:=h;exact ⟨[],e,rfl,fun a b=>by cases b⟩
 | x::l,xs,h,m=>by
  obtain ⟨G,q,rfl,⟨H,I,rfl,s,f⟩,u⟩:=h;obtain ⟨k,rfl,hk,g⟩:=zlo l q u fun y A=>m y (yau _ A);obtain ⟨n,cs,rfl,C⟩:=Rd.own s;obtain ⟨j,co,rfl,D⟩:=Rd.own f;have z:=m x yar;have J:zdl x.subs=x.subs.flatMap zpt:=rfl;have E:zbS x.ops=(x.ops.map opI).flatMap aOp:=by
   rw [List.flatMap_map];rfl
  refine ⟨⟨x.name,x.view,x.edit,x.check,n,cs,x.subs,j,co,x.ops.map opI⟩::k,?_,?_,fun a b=>?_⟩
  · rw [yaS];show _=[Value.string x.name,.string x.view,.string x.edit,.string x.check,.slice n x.subs.length cs,.slice j (x.ops.map opI).length co] ++ _;rw [yax]
  · rw [yaX,yaX,hk];rfl
  · rcases yaw.1 b with rfl | b
    · refine ⟨z.name,z.view,z.edit,z.check,C,z.subn,z.subs,?_,by show (x.ops.map opI).length * 40≤R;rw [yax];exact z.opn,fun o f=>?_⟩
      · show Rd w w.heap.size 3 j (x.ops.map opI).length co ((x.ops.map opI).flatMap aOp);rw [yax,←E];exact D
      · obtain ⟨p,F,rfl⟩:=yaH.1 f;exact z.ops p F
    · exact g a b
theorem zje:∀(l:List TypP) (xs:List Value),TypsC w B l xs→(∀t ∈ l,t.name.size≤R∧t.rels.length * 112≤R∧∀x ∈ t.rels,SmI R x)→∃k:List TypA,xs=k.flatMap TypA.cells∧k.map TypA.says=l.map zbY∧∀a ∈ k,a.ok w R
 | [],xs,h,_=>by
  have e:xs=[]:=h;exact ⟨[],e,rfl,fun a b=>by cases b⟩
 | t::l,xs,h,q=>by
  obtain ⟨G,u,rfl,⟨H,rfl,C,f,g⟩,D⟩:=h;obtain ⟨k,rfl,hk,j⟩:=zje l u D fun y E=>q y (yau _ E);have z:=q t yar;obtain ⟨m,rfl,s,n⟩:=zlo t.rels C g z.2.2;obtain ⟨A,c,rfl,F⟩:=Rd.own f;have o:m.length=t.rels.length:=by have:=congrArg List.length s;rwa [yax,yax] at this
  refine ⟨⟨t.name,A,c,m⟩::k,?_,?_,fun a b=>?_⟩
  · rw [yaS];show _=[Value.string t.name,.slice A m.length c] ++ _;rw [o]
  · rw [yaX,yaX,hk];show TypI.mk t.name (m.map RelA.says)::_=_;rw [s];rfl
  · rcases yaw.1 b with rfl | b
    · exact ⟨z.1,by show Rd w w.heap.size 6 A m.length c _;rw [o];exact F,by show m.length * 112≤R;rw [o];exact z.2.1,n⟩
    · exact j a b
theorem VTyps.sch {T:List TypP} (h:VTyps B w (.slice A T.length c) T) (hn:T.length * 40≤R) (hz:∀t ∈ T,t.name.size≤R∧t.rels.length * 112≤R∧∀x ∈ t.rels,SmI R x):∃l:List TypA,l.map TypA.says=T.map zbY∧SchA w R A c l:=by
 obtain ⟨g,j,k⟩:=h;obtain ⟨l,rfl,b,m⟩:=zje T g k hz;obtain ⟨q,s,e,rd⟩:=Rd.own j;injection e with n _ o
 subst n;subst o;have f:l.length=T.length:=by have:=congrArg List.length b;rwa [yax,yax] at this
 exact ⟨l,b,by rw [f];exact rd,by rw [f];exact hn,m⟩
theorem zel {α:Type} {l:List α} {x:α} (h:l[i]? = some x):l.take (i + 1)=l.take i ++ [x]:=by
 rw [yaC,h];rfl
theorem zbd {a:Addr} (h:w.cell? a=some v) (hb:Below w.heap.size w w'):w'.cell? a=some v:=(hb.cell (World.block_lt_of_cell? _ _ h)).trans h
theorem zfV (w:World) (a b c:Value) (t:TypeId):∀j u,[a,b,c][j]? = some u→(w.alloc (.cells #[a,b,c] t)).cell? ((⟨w.heap.size,0,none⟩:Addr).add j)=some u:=by
 intro j u f;rw [Addr.add_lit,cell_of_row _ _ _ _ _ _ (heap_alloc_new w _),yaI];simpa using f
theorem Bk.new2 (w:World) (o:Obj) (cs:Array Value) (t:TypeId):Bk ((w.alloc o).alloc (.cells cs t)) (w.heap.size + 1) cs t:=by
 have h:=Bk.new (w.alloc o) cs t;rw [show (w.alloc o).heap.size=w.heap.size + 1 by simp] at h;exact h
end
end Go.Proofs.YtmblgnddgmfkhaaGreat
