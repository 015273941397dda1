import Derived.Test.YtmblgnddgmfkhaaGreatQ12
import Derived.Test.YtmblgnddgmfkhaaGreatQ13
set_option maxRecDepth 100000
set_option maxHeartbeats 4000000
namespace Go.Proofs.YtmblgnddgmfkhaaGreat
section
open Go.RowKit Go.ChangeMaps
variable {B g:Nat} {s:ByteArray} {l:List Tk} {w:World}
theorem Stepped.ok {k:Nat} {e:Ending} {w':World} (h:Stepped B g s k l w e w') (h3:kd (cutB s k)<3) :
 e = .returned (.int .i64 (plc s (k + ln (cutB s k)):Nat))∧Kp g B w w'∧Sc B w' g s (l ++ zfd (cutB s k) (plc s k)) 0:=by
 rcases h with ⟨a,⟨_,b,c⟩ | ⟨b,_⟩⟩
 · exact ⟨b,a,c⟩
 · omega
theorem Stepped.bad {k:Nat} {e:Ending} {w':World} (h:Stepped B g s k l w e w') (h3:3≤kd (cutB s k)) :
 e = .returned (.int .i64 (plc s k:Nat))∧Kp g B w w'∧Sc B w' g s l (kd (cutB s k)):=by
 rcases h with ⟨a,⟨b,_⟩ | ⟨_,b,c⟩⟩
 · omega
 · exact ⟨b,a,c⟩
theorem Sc.c2 {e:Nat} (h:Sc B w g s l e):w.cell? ⟨g,2,none⟩=some (.int .i64 e):=by obtain ⟨v,h⟩:=h;exact h.c2
theorem all_any (s:ByteArray) (w:World) (f0:s.size≤maxLen) :
 Calls Tryz.prog 112 #[.string s] w (AllPost s w):=by
 unfold maxLen at f0;by_cases y:2048<s.size
 · have x:zcN s=([],13,0):=by unfold zcN;rw [yan y]
   have HX:Hid (AllPost s w (.returned (.tuple #[.slice none 0 0,.int .i64 13,.int .i64 0])) w):=Lib.hid (AllPost.empty x (Below.refl _ _));clear x;go_enter Tryz.func112,Tryz.ntmps112
   go_wp2
   go_ret3
   exact HX.out
 have kb:∀W,_:=fun W=>broken_at s W yab;have hs:s.size≤2048:=by omega
 clear f0;by_cases u:plc s (zjD s)<s.size
 · have x:zcN s=([],11,plc s (zjD s)):=by unfold zcN;rw [yak y,yan u]
   have hz:badZ s=(plc s (zjD s):Int):=yan u;rw [hz] at kb;have HX:∀W,Below w.heap.size w W→Hid (AllPost s w (.returned (.tuple #[.slice none 0 0,.int .i64 11,.int .i64 (plc s (zjD s):Nat)])) W):=fun W hb=>Lib.hid (AllPost.empty x hb);clear x hz u;generalize plc s (zjD s)=p at *
   go_enter Tryz.func112,Tryz.ntmps112
   go_wp2_with ((with_reducible refine (kb _).mono ?_);rintro e M ⟨rfl,G⟩)
   go_ret3
   exact (HX _ G).out
 have hv:=zdR.2 u;have hz:badZ s = -1:=yak u;rw [hz] at kb;have HA:Hid (zcN s=if (zdO s 0).2.1=0 then zdO s 0 else ([],(zdO s 0).2)):=Lib.hid (by unfold zcN;rw [yak y,yak u]);clear hz u y;go_enter Tryz.func112,Tryz.ntmps112
 go_wp2_with (first
  | ((with_reducible refine (kb _).mono ?_);rintro e M ⟨rfl,G⟩)
  | ((refine (acts_any _ M.heap.size).mono ?_);rintro e w2 ⟨rfl,Y,aa⟩))
 have ab:(M.alloc (.cells #[.string s,.slice none 0 0,.int .i64 0] 270)).heap.size=M.heap.size + 1:=by simp
 have af:w2.heap[M.heap.size]? = some (.cells #[.string s,.slice none 0 0,.int .i64 0] 270 (0,0)):=by
  rw [aa.block _ (by omega)];exact heap_alloc_new M _
 have ag:M.heap.size + 1<w2.heap.size:=by rw [←ab];exact (yaO.1 Y).1
 rw [ab] at Y;have ah:Below w.heap.size w w2:=G.trans (((Below.refl _ M).alloc G.size _).trans (aa.mono (by have:=G.size;omega)));have ai:=G.size;have hit:=zcg w2 s;have Z:=zbF w2 s;have an:(w2.iter s 0).heap.size=w2.heap.size + 1:=by simp [World.iter]
 have HS:Hid (Al w M.heap.size (M.heap.size + 1) w2.heap.size (w2.heap.size + 1) s (w2.iter s 0) 0 0 []):=Lib.hid
  ⟨yaj _,yap _,hit,(Z.block _ ag).trans Y,⟨.slice none 0 0,(Z.block _ yab).trans af,World.ownsRow_nil _ _ _ _,by omega⟩,ah.trans (Z.mono yab),by omega,by rw [zjV];rfl,by rw [zjV];rfl,yaj _,ai,by omega,by omega,by omega,by omega,by omega,by omega⟩
 clear af ag Y ah ai hit Z an G aa ab;generalize M.heap.size=g at *
 go_loopw [8] (fun nx wr=>∃k j l,nx = .int .i64 (plc s j:Nat)∧Al w g (g + 1) w2.heap.size (w2.heap.size + 1) s wr k j l) (fun _ wr=>s.size-wr.iterPos w2.heap.size)
 case atStart=>exact ⟨0,0,[],rfl,HS.out⟩
 case round =>
  clear HS;obtain ⟨k,j,l,rfl,f⟩:=hrel;have aj:=Lib.hid f;have hit:=f.it;have av:=za2 s k;have aw:=za2 s j;have a1:wr.iterPos w2.heap.size=plc s k:=by simp only [World.iterPos,hit]
  by_cases h:plc s k<s.size
  · have ax:=zaX.2 h;have hw:=zf1 h;have N:=zaF h;have ac:∀ty,_:=fun ty=>Lib.run_next_any_at (P:=Tryz.prog) wr w2.heap.size s (plc s k) ty hit h;by_cases a2:k<j
    · have ao:plc s k<plc s j:=yaw (zbb h) (za8 s a2);have HN:=Lib.hid (f.skip h a2);have aq:(plc s k:Int)<(plc s j:Nat):=by omega
      clear f hit a2 a1;go_wp2
      go_roundw
      case rel=>exact ⟨k + 1,j,l,rfl,HN.out⟩
      case measure =>
       have e1:wr.iterPos w2.heap.size=plc s k:=by simp only [World.iterPos,aj.out.it]
       have e2:(wr.iterAt w2.heap.size s (plc s k + (Utf8.decode s (plc s k)).2)).iterPos w2.heap.size=plc s (k + 1):=by simp only [World.iterPos,HN.out.it]
       rw [e1,e2,N];omega
    · obtain rfl:j=k:=by have:=f.kj;omega
      have aq:¬((plc s j:Int)<(plc s j:Nat)):=by omega
      have A:=f.mp2 (plc s j + (Utf8.decode s (plc s j)).2);have B:=f.sc2 (plc s j + (Utf8.decode s (plc s j)).2);have L:=f.big2 (plc s j + (Utf8.decode s (plc s j)).2);have C:=fun w3=>Lib.hid (f.step (w3:=w3) h);have a6:=Lib.hid (f.scan_err h);have O:=Lib.hid (f.bel2 (plc s j + (Utf8.decode s (plc s j)).2));have ak:l.length<1000000:=by have:=f.few;have:=f.jc;have:=zej s;omega
      have al:((Utf8.decode s (plc s j)).1:Int)=(rn s (plc s j):Nat):=rfl;have n:bt s (plc s j)<128→rn s (plc s j)=bt s (plc s j):=fun hh=>(zli h hh).1;have q:128≤bt s (plc s j)→128≤rn s (plc s j):=rn_high h;have D:Hid (w.heap.size≤g∧w.heap.size≤w2.heap.size):=Lib.hid ⟨f.lo,f.li⟩;obtain ⟨W2,ad⟩:∃W2,W2=wr.iterAt w2.heap.size s (plc s j + (Utf8.decode s (plc s j)).2):=⟨_,rfl⟩;rw [←ad] at ac A B L O;simp only [←ad] at C;rw [al] at ac;have a7:=Lib.hid a1;clear f hit a2 a1 ad al aj;have Q:∀E:zbz (bt s (plc s j))=true,_:=fun E=>zoW B hs h E (some ⟨g,0,none⟩);have R:∀E:zca (bt s (plc s j))=true,_:=fun E=>sign_any B L hs ak h E;have T:∀E:bt s (plc s j)=47,_:=fun E=>note_any B L hs h E;have U:∀(h1:zbz (bt s (plc s j))=false) (h2:zca (bt s (plc s j))=false) (h3:bt s (plc s j)≠47),_:=fun h1 h2 h3=>word_any B L hs hv ak h h1 h2 h3;by_cases cB:zbz (bt s (plc s j))=true
      · have F:rn s (plc s j)=bt s (plc s j):=n (by have:=zbO.1 cB;omega);have H:=znX W2 A (r:=rn s (plc s j)) (by rw [F];exact cB);have ks:=Q cB;clear Q R T U A n q F;generalize rn s (plc s j)=z at *
        by_cases d:kd (cutB s j)<3
        · have I:(((0:Nat):Int) == 0)=true:=rfl;go_wp2_with ((with_reducible refine ks.mono ?_);intro e w3 o;obtain ⟨rfl,m,b⟩:=o.ok d;have J:=b.c2)
          go_roundw
          case rel=>exact ⟨j + 1,j + ln (cutB s j),l ++ zfd (cutB s j) (plc s j),rfl,(C w3).out d m b⟩
          case measure =>
           have e2:w3.iterPos w2.heap.size=plc s (j + 1):=by simp only [World.iterPos,((C w3).out d m b).it]
           rw [a7.out,e2,N];omega
        · replace d:3≤kd (cutB s j):=by omega
          have I:(((kd (cutB s j):Nat):Int) == 0)=false:=by simp;omega
          go_wp2_with ((with_reducible refine ks.mono ?_);intro e w3 o;obtain ⟨rfl,m,b⟩:=o.bad d;have J:=b.c2)
          go_quiet (fail)
          go_wp2
          go_ret3
          have V:=a6.out d;have x:=HA.out;rw [yak (by rw [V];dsimp only;omega),V] at x;refine AllPost.empty x (O.out.trans ?_);exact Below.trans (m.below (ycQ D.out.2) D.out.1) ⟨rfl,rfl,rfl,yaj _,fun _ _=>rfl⟩
      by_cases cS:zca (bt s (plc s j))=true
      · have F:rn s (plc s j)=bt s (plc s j):=n (by have:=zcE.1 cS;omega);have H:=zpZ W2 A (r:=rn s (plc s j)) (by rw [F];exact cS);have ks:=R cS;clear Q R T U A n q F;generalize rn s (plc s j)=z at *
        by_cases d:kd (cutB s j)<3
        · have I:(((0:Nat):Int) == 0)=true:=rfl;go_wp2_with ((with_reducible refine ks.mono ?_);intro e w3 o;obtain ⟨rfl,m,b⟩:=o.ok d;have J:=b.c2)
          go_roundw
          case rel=>exact ⟨j + 1,j + ln (cutB s j),l ++ zfd (cutB s j) (plc s j),rfl,(C w3).out d m b⟩
          case measure =>
           have e2:w3.iterPos w2.heap.size=plc s (j + 1):=by simp only [World.iterPos,((C w3).out d m b).it]
           rw [a7.out,e2,N];omega
        · replace d:3≤kd (cutB s j):=by omega
          have I:(((kd (cutB s j):Nat):Int) == 0)=false:=by simp;omega
          go_wp2_with ((with_reducible refine ks.mono ?_);intro e w3 o;obtain ⟨rfl,m,b⟩:=o.bad d;have J:=b.c2)
          go_quiet (fail)
          go_wp2
          go_ret3
          have V:=a6.out d;have x:=HA.out;rw [yak (by rw [V];dsimp only;omega),V] at x;refine AllPost.empty x (O.out.trans ?_);exact Below.trans (m.below (ycQ D.out.2) D.out.1) ⟨rfl,rfl,rfl,yaj _,fun _ _=>rfl⟩
      by_cases cN:bt s (plc s j)=47
      · have F:rn s (plc s j)=47:=(n yab).trans cN;have H:=zpW W2 A (rn s (plc s j)) 209 (by rw [F];decide +kernel);have ks:=T cN;clear Q R T U A n q F;generalize rn s (plc s j)=z at *
        by_cases d:kd (cutB s j)<3
        · have I:(((0:Nat):Int) == 0)=true:=rfl;go_wp2_with ((with_reducible refine ks.mono ?_);intro e w3 o;obtain ⟨rfl,m,b⟩:=o.ok d;have J:=b.c2)
          go_roundw
          case rel=>exact ⟨j + 1,j + ln (cutB s j),l ++ zfd (cutB s j) (plc s j),rfl,(C w3).out d m b⟩
          case measure =>
           have e2:w3.iterPos w2.heap.size=plc s (j + 1):=by simp only [World.iterPos,((C w3).out d m b).it]
           rw [a7.out,e2,N];omega
        · replace d:3≤kd (cutB s j):=by omega
          have I:(((kd (cutB s j):Nat):Int) == 0)=false:=by simp;omega
          go_wp2_with ((with_reducible refine ks.mono ?_);intro e w3 o;obtain ⟨rfl,m,b⟩:=o.bad d;have J:=b.c2)
          go_quiet (fail)
          go_wp2
          go_ret3
          have V:=a6.out d;have x:=HA.out;rw [yak (by rw [V];dsimp only;omega),V] at x;refine AllPost.empty x (O.out.trans ?_);exact Below.trans (m.below (ycQ D.out.2) D.out.1) ⟨rfl,rfl,rfl,yaj _,fun _ _=>rfl⟩
      rw [ybZ] at cB cS
      · have a8:rn s (plc s j)≠47∧zca (rn s (plc s j))=false∧zbz (rn s (plc s j))=false:=by
         by_cases ae:bt s (plc s j)<128
         · rw [n ae];exact ⟨cN,cS,cB⟩
         · have:=q yab;refine ⟨by omega,?_,?_⟩
           · rw [ybl];intro e;have:=zcE.1 e;omega
           · rw [ybl];intro e;have:=zbO.1 e;omega
        have H:=zpY W2 A a8.1 a8.2.1 a8.2.2;have ks:=U cB cS cN;clear Q R T U A n q a8;generalize rn s (plc s j)=z at *
        by_cases d:kd (cutB s j)<3
        · have I:(((0:Nat):Int) == 0)=true:=rfl;go_wp2_with ((with_reducible refine ks.mono ?_);intro e w3 o;obtain ⟨rfl,m,b⟩:=o.ok d;have J:=b.c2)
          go_roundw
          case rel=>exact ⟨j + 1,j + ln (cutB s j),l ++ zfd (cutB s j) (plc s j),rfl,(C w3).out d m b⟩
          case measure =>
           have e2:w3.iterPos w2.heap.size=plc s (j + 1):=by simp only [World.iterPos,((C w3).out d m b).it]
           rw [a7.out,e2,N];omega
        · replace d:3≤kd (cutB s j):=by omega
          have I:(((kd (cutB s j):Nat):Int) == 0)=false:=by simp;omega
          go_wp2_with ((with_reducible refine ks.mono ?_);intro e w3 o;obtain ⟨rfl,m,b⟩:=o.bad d;have J:=b.c2)
          go_quiet (fail)
          go_wp2
          go_ret3
          have V:=a6.out d;have x:=HA.out;rw [yak (by rw [V];dsimp only;omega),V] at x;refine AllPost.empty x (O.out.trans ?_);exact Below.trans (m.below (ycQ D.out.2) D.out.1) ⟨rfl,rfl,rfl,yaj _,fun _ _=>rfl⟩
  · have ac:∀ty,_:=fun ty=>Lib.run_next_end_at (P:=Tryz.prog) wr w2.heap.size s (plc s k) ty hit h;obtain ⟨ao,K,X⟩:=f.fin h;have ar:l.length<1000000:=by have:=f.few;have:=f.jc;have:=zej s;omega
    have ka:∀W,W=wr→_:=fun W (e:W=wr)=>add_any (k:=3) (t:=⟨#[]⟩) (p:=s.size) (w:=W) (e ▸ f.sc) (e ▸ f.big) ar yab (by show 0≤_;omega);have ka:=ka wr rfl;have HB:Hid (Below w.heap.size w wr):=Lib.hid f.bel;have ae:=f.lo;have ay:=f.li;have x:=HA.out;rw [yan (by rw [K])] at x;have HC:=Lib.hid K;have HT:=Lib.hid X;have HF:=Lib.hid x;clear f hit a1 K X x HA;go_wp2_with ((refine ka.mono ?_);rintro e w3 ⟨rfl,⟨v,B⟩,m⟩;have c1:=B.c1)
    obtain ⟨A3,c3,rfl,am⟩:=Rd.own B.row;have au:=Lib.hid am;have HP:=Lib.hid (HB.out.trans (m.below yab ae));clear am B m;go_wp2
    go_ret3
    have hF:=HF.out;have hT:=HT.out;refine ⟨⟨A3,c3,?_,?_⟩,HP.out⟩
    · rw [hF,HC.out,hT];rfl
    · unfold Toks;rw [hF,hT];exact au.out
end
section
open Go.RowKit
open Go.RowKit
variable {w w':World} {R B i c:Nat} {v:Value} {l:List TypP} {A:Option Addr} {x:RelA}
theorem zna (n:Nat):∀(u:ByteArray) (off:Nat),u.size≤n→(zdO u off).1.length≤u.size + 1:=by
 induction n with
 | zero =>
  intro u off b;rw [zfa (by omega)];show 1≤_;omega
 | succ n ih =>
  intro u off b;rcases ybh u.size with h | h
  · rw [zfa h];show 1≤_;omega
  by_cases d:3≤kd u
  · rw [scan_err h d];show 0≤_;omega
  · have g:=ziN h yab;rw [zl0 h (by omega)];have:=ih (cutB u (ln u)) (off + plc u (ln u)) yab;rw [yam];have f:∀(p:Prop) [Decidable p] (t:Tk),(if p then ([]:List Tk) else [t]).length≤1:=fun p _ t=>by split <;> simp
    have:=f (kd u=0) (kd u,cutA u (ln u),off);omega
theorem zqZ {x:ByteArray} (h:nameS x=true) (c:UInt8) (hc:zca c.toNat=true):x≠sg c:=by
 rintro rfl;obtain ⟨d,_,f⟩:=zbr.1 h;have g:=f 0 d;have b:=(may_not (u:=sg c) (zao c) g).2.1;have j:bt (sg c) 0=c.toNat:=rfl;rw [j,hc] at b;cases b
theorem all_fine {s:ByteArray} (hz:s.size≤2048) (h0:(zcN s).2.1=0):Fine (zcN s).1:=by
 obtain ⟨v,f,g⟩:=ziG hz h0;obtain ⟨b,e,hi⟩:=zkT _ s 0 (yaj _) f;have n:=zna _ s 0 (yaj _);rw [g];refine ⟨by omega,b,0 + s.size,e,fun t j=>?_⟩;rcases hi t j with ⟨d,k⟩ | ⟨d,_⟩
 · exact .inr ⟨d,fun c m=>zqZ k c m⟩
 · exact .inl d
theorem zma {s:ByteArray} (h0:(zcN s).2.1=0):s.size≤2048:=by
 rcases ybH 2048 s.size with h | h
 · unfold zcN at h0;rw [yan h] at h0;exact absurd h0 yac
 · exact h
theorem parse_any (s:ByteArray) (w:World) (f0:s.size≤maxLen):Calls Tryz.prog 73 #[.string s] w (SPost (zak s) w):=by
 have g:=all_any s (w.alloc (.cells #[.slice none 0 0] 140)) f0;unfold AllPost at g;have d:Below w.heap.size w (w.alloc (.cells #[.slice none 0 0] 140)):=(Below.refl _ w).alloc (yaj _) _;have hb:=Bk.new w #[.slice none 0 0] 140;have H:=hb.lt;by_cases f:(zcN s).2.1=0
 · have j:zak s=outS (zfH (zcN s).1):=by unfold zak;rw [yan f]
   have u:=all_fine (zma f) f;rw [j];rw [f] at g;have x:∀m A c,Toks m A c (zcN s).1→_:=fun m A c k=>read_any (w:=m) (A:=A) (c:=c) k u;clear u f j;generalize (zcN s).1=l at *
   generalize (zcN s).2.2=q at *
   generalize outS (zfH l)=o at *
   clear f0;go_enter Tryz.func73,Tryz.ntmps73
   go_wp2_with fail
   generalize w.alloc (.cells #[.slice none 0 0] 140)=W at *
   refine g.mono ?_;rintro e n ⟨⟨A,c,rfl,k⟩,b⟩;replace d:=d.trans (b.mono d.size);replace hb:=hb.below b;have C:=hb.lt;clear g b;go_wp2_with fail
   refine (x _ _ _ k).mono ?_;rintro e I ⟨J,rfl,D,b⟩;replace d:=d.trans (b.mono d.size);replace hb:=hb.below b;obtain ⟨E,y,F⟩:=D;obtain ⟨z,B,rfl,_⟩:=Rd.own y;have p:=hb.c1;have G:=hb.fz;clear x k b;go_wp2_with fail
   refine bodyPost_ret (v:=.tuple #[.agg #[.slice z o.1.length B],.int .i64 o.2.1,.int .i64 o.2.2]) (by simp [results,Tryz.results73,go_sem,p];try rfl) rfl ?_;refine ⟨.slice z o.1.length B,rfl,⟨E,?_,?_⟩,?_⟩
   · refine zax (own_set y ?_ _) (show w.heap.size≤n.heap.size by omega);dsimp only;omega
   · exact TypsC.base (show w.heap.size≤n.heap.size by omega) (F.keep (zcr (a:=⟨w.heap.size,0,none⟩) yah _))
   · refine Below.setCell d ?_ _;exact yaj _
 · have j:zak s=([],(zcN s).2):=by unfold zak;rw [yak f]
   rw [j];have K:((((zcN s).2.1:Nat):Int) == 0)=false:=by rw [ybc];omega
   clear f j f0;generalize (zcN s).2=q at *
   generalize (zcN s).1=l at *
   go_enter Tryz.func73,Tryz.ntmps73
   go_wp2_with fail
   generalize w.alloc (.cells #[.slice none 0 0] 140)=W at *
   refine g.mono ?_;rintro e n ⟨⟨A,c,rfl,k⟩,b⟩;replace d:=d.trans (b.mono d.size);replace hb:=hb.below b;have p:=hb.c1;have G:=hb.fz;clear g b;go_wp2_with fail
   refine bodyPost_ret (v:=.tuple #[.agg #[.slice none 0 0],.int .i64 q.1,.int .i64 q.2]) (by simp [results,Tryz.results73,go_sem,p];try rfl) rfl ?_;refine ⟨.slice none 0 0,rfl,⟨[],World.ownsRow_nil _ _ _ _,rfl⟩,?_⟩;refine Below.setCell d ?_ _;exact yaj _
theorem TypsC.get:∀{l:List TypP} {xs:List Value} {i:Nat} {t:TypP},TypsC w B l xs→l[i]? = some t→∃vr,VRels B w vr t.rels∧xs[i * 2]? = some (.string t.name)∧xs[i * 2 + 1]? = some vr
 | [],_,_,_,_,h=>by simp at h
 | x::r,xs,0,t,h,hi=>by
  simp only [ybq,yaT] at hi;subst hi;obtain ⟨d,f,rfl,⟨vr,rfl,g⟩,_⟩:=h;exact ⟨vr,g,rfl,rfl⟩
 | x::r,xs,i + 1,t,h,hi=>by
  simp only [ybe] at hi;obtain ⟨d,f,rfl,⟨vr,rfl,_⟩,j⟩:=h;obtain ⟨k,a,b,c⟩:=TypsC.get j hi;refine ⟨k,a,?_,?_⟩
  · rw [yaF yag,←b];congr 1
    simp;omega
  · rw [yaF yag,←c];congr 1
    simp;omega
theorem RelsC.get:∀{l:List RelP} {xs:List Value} {i:Nat} {x:RelP},RelsC w B l xs→l[i]? = some x→∃vs vo,zf3 B w vs x.subs∧ziF B w vo x.ops∧xs[i * 6]? = some (.string x.name)∧xs[i * 6 + 1]? = some (.string x.view)∧xs[i * 6 + 2]? = some (.string x.edit)∧xs[i * 6 + 3]? = some (.string x.check)∧xs[i * 6 + 4]? = some vs∧xs[i * 6 + 5]? = some vo
 | [],_,_,_,_,h=>by simp at h
 | y::r,xs,0,x,h,hi=>by
  simp only [ybq,yaT] at hi;subst hi;obtain ⟨f,b,rfl,⟨vs,vo,rfl,g,d⟩,_⟩:=h;exact ⟨vs,vo,g,d,rfl,rfl,rfl,rfl,rfl,rfl⟩
 | y::r,xs,i + 1,x,h,hi=>by
  simp only [ybe] at hi;obtain ⟨f,b,rfl,⟨vs,vo,rfl,_,_⟩,d⟩:=h;obtain ⟨j,v3,m,n,o,p,q,s,z,A⟩:=RelsC.get d hi;have key:∀(k:Nat) (u:Value),b[i * 6 + k]? = some u→([.string y.name,.string y.view,.string y.edit,.string y.check,vs,vo] ++ b)[(i + 1) * 6 + k]? = some u:=fun k u hk=>by
   rw [yaF yag,←hk];congr 1
   simp;omega
  exact ⟨j,v3,m,n,key 0 _ o,key 1 _ p,key 2 _ q,key 3 _ s,key 4 _ z,key 5 _ A⟩
theorem zkw:∀(l:List OpP) (i:Nat) (o:OpP),l[i]? = some o→(zbJ l)[i * 3]? = some (.int .i64 o.1)∧(zbJ l)[i * 3 + 1]? = some (.string o.2.1)∧(zbJ l)[i * 3 + 2]? = some (.string o.2.2)
 | [],_,_,h=>by simp at h
 | y::r,0,o,hi=>by
  simp only [ybq,yaT] at hi;subst hi;exact ⟨rfl,rfl,rfl⟩
 | y::r,i + 1,o,hi=>by
  simp only [ybe] at hi;obtain ⟨b,d,f⟩:=zkw r i o hi;have key:∀(k:Nat) (u:Value),(zbJ r)[i * 3 + k]? = some u→(zbJ (y::r))[(i + 1) * 3 + k]? = some u:=fun k u hk=>by
   show (zlN y ++ zbJ r)[_]? = _;rw [yaF (by simp [zlN];omega),←hk];congr 1
   simp [zlN];omega
  exact ⟨key 0 _ b,key 1 _ d,key 2 _ f⟩
theorem zkU:∀(l:List zdv) (i:Nat) (s:zdv),l[i]? = some s→(zc8 l)[i * 2]? = some (.string s.1)∧(zc8 l)[i * 2 + 1]? = some (.string s.2)
 | [],_,_,h=>by simp at h
 | y::r,0,o,hi=>by
  simp only [ybq,yaT] at hi;subst hi;exact ⟨rfl,rfl⟩
 | y::r,i + 1,o,hi=>by
  simp only [ybe] at hi;obtain ⟨b,d⟩:=zkU r i o hi;have key:∀(k:Nat) (u:Value),(zc8 r)[i * 2 + k]? = some u→(zc8 (y::r))[(i + 1) * 2 + k]? = some u:=fun k u hk=>by
   show (zon y ++ zc8 r)[_]? = _;rw [yaF (by simp [zon];omega),←hk];congr 1
   simp [zon];omega
  exact ⟨key 0 _ b,key 1 _ d⟩
theorem own_at {e:TypeId} {size n:Nat} {xs:List Value} (h:w.ownsRow B e size v n xs) (hn:0<n):∃g c,v = .slice (some ⟨g,0,none⟩) n c∧n≤c∧g<w.heap.size∧∀j u,xs[j]? = some u→w.cell? ⟨g,j,none⟩=some u:=by
 obtain ⟨A,c,rfl,f⟩:=Rd.own h;rcases h.2 with ⟨k,C⟩ | ⟨g,cap,p,k,_⟩
 · omega
 · obtain ⟨b,o,d,q,s⟩:=f.at_ hn;injection k with m D E
   rw [m] at d;injection d with d
   injection d with x y _
   subst x;subst y;refine ⟨g,c,by rw [m],f.cap,q,fun j u z=>?_⟩;have:=s j u z;rwa [yaG] at this
theorem VTyps.get (h:VTyps B w v l) {t:TypP} (hi:l[i]? = some t) :
 ∃g c vr,v = .slice (some ⟨g,0,none⟩) l.length c∧VRels B w vr t.rels∧w.cell? ⟨g,i * 2,none⟩=some (.string t.name)∧w.cell? ⟨g,i * 2 + 1,none⟩=some vr:=by
 obtain ⟨m,f,j⟩:=h;have n:i<l.length:=(yao.1 hi).1;obtain ⟨vr,k,a,b⟩:=j.get hi;obtain ⟨g,c,e,_,_,d⟩:=own_at f yab;exact ⟨g,c,vr,e,k,d _ _ a,d _ _ b⟩
theorem VRels.get {l:List RelP} (h:VRels B w v l) {x:RelP} (hi:l[i]? = some x) :
 ∃g c vs vo,v = .slice (some ⟨g,0,none⟩) l.length c∧zf3 B w vs x.subs∧ziF B w vo x.ops∧w.cell? ⟨g,i * 6,none⟩=some (.string x.name)∧w.cell? ⟨g,i * 6 + 1,none⟩=some (.string x.view)∧w.cell? ⟨g,i * 6 + 2,none⟩=some (.string x.edit)∧w.cell? ⟨g,i * 6 + 3,none⟩=some (.string x.check)∧w.cell? ⟨g,i * 6 + 4,none⟩=some vs∧w.cell? ⟨g,i * 6 + 5,none⟩=some vo:=by
 obtain ⟨u,d,f⟩:=h;have y:i<l.length:=(yao.1 hi).1;obtain ⟨vs,vo,j,k,m,n,o,p,q,s⟩:=f.get hi;obtain ⟨g,c,e,_,_,b⟩:=own_at d yab;exact ⟨g,c,vs,vo,e,j,k,b _ _ m,b _ _ n,b _ _ o,b _ _ p,b _ _ q,b _ _ s⟩
theorem VTyps.below (h:VTyps B w v l) (hb:Below w.heap.size w w'):VTyps B w' v l:=by
 obtain ⟨b,d,f⟩:=h;exact ⟨b,zan d hb,f.keep (zdE hb)⟩
theorem zlP (s:ByteArray) (hz:s.size≤1000000) {e p:Nat} (h:zak s=(l,e,p)) (W:World) :
 Calls Tryz.prog 73 #[.string s] W fun r w'=>(∃A c,r = .returned (.tuple #[.agg #[.slice A l.length c],.int .i64 e,.int .i64 p])∧VTyps W.heap.size w' (.slice A l.length c) l)∧Below W.heap.size W w':=by
 have k:=parse_any s W (by unfold maxLen;omega);rw [h] at k;refine k.mono fun r w' ⟨g,d,b,f⟩=>?_;obtain ⟨A,c,rfl,_⟩:=Rd.own b.choose_spec.1;exact ⟨⟨A,c,d,b⟩,f⟩
theorem RelA.ok.up {a:RelA} (h:a.ok w R) (hb:Below w.heap.size w w'):a.ok w' R:=⟨h.name,h.view,h.edit,h.check,h.subs.up hb,h.subn,h.subz,h.ops.up hb,h.opn,h.opz⟩
theorem TypA.ok.up {a:TypA} (h:a.ok w R) (hb:Below w.heap.size w w'):a.ok w' R:=⟨h.name,h.rels.up hb,h.reln,fun r b=>(h.relz r b).up hb⟩
structure SchA (w:World) (R:Nat) (A:Option Addr) (c:Nat) (l:List TypA):Prop where
 rows:Rd w w.heap.size 2 A l.length c (l.flatMap TypA.cells)
 few:l.length * 40≤R
 each:∀a ∈ l,a.ok w R
theorem SchA.up {l:List TypA} (h:SchA w R A c l) (hb:Below w.heap.size w w'):SchA w' R A c l:=⟨h.rows.up hb,h.few,fun a b=>(h.each a b).up hb⟩
theorem za6 {α:Type} (g:α→List Value) {sz:Nat} (hg:∀a,(g a).length=sz) {l:List α} {k:Nat} {a:α} (hi:l[i]? = some a) (hk:k<sz):(l.flatMap g)[i * sz + k]? = (g a)[k]?:=by
 rw [yca];exact zgQ (fun x b=>by obtain ⟨y,_,rfl⟩:=yaN.1 b;exact hg y) (by rw [ya0,hi];rfl) hk
theorem zdI {α:Type} {l:List α} {a:α} (hi:l[i]? = some a):0<l.length:=by
 have:=(yao.1 hi).1;omega
theorem SchA.get {l:List TypA} (h:SchA w R A c l) {t:TypA} (hi:l[i]? = some t) :
 ∃b o,A=some ⟨b,o,none⟩∧w.cell? ⟨b,o + i * 2,none⟩=some (.string t.name)∧w.cell? ⟨b,o + i * 2 + 1,none⟩=some (.slice t.A t.rels.length t.c)∧t.ok w R:=by
 obtain ⟨b,o,rfl,_,d⟩:=h.rows.at_ (zdI hi);have g0:=za6 TypA.cells (sz:=2) (fun _=>rfl) hi (k:=0) yab;have f:=za6 TypA.cells (sz:=2) (fun _=>rfl) hi (k:=1) yab;exact ⟨b,o,rfl,d _ _ g0,d _ _ f,h.each t (yar hi)⟩
theorem TypA.ok.get {t:TypA} (h:t.ok w R) (hi:t.rels[i]? = some x) :
 ∃b o,t.A=some ⟨b,o,none⟩∧w.cell? ⟨b,o + i * 6,none⟩=some (.string x.name)∧w.cell? ⟨b,o + i * 6 + 1,none⟩=some (.string x.view)∧w.cell? ⟨b,o + i * 6 + 2,none⟩=some (.string x.edit)∧w.cell? ⟨b,o + i * 6 + 3,none⟩=some (.string x.check) ∧
  w.cell? ⟨b,o + i * 6 + 4,none⟩=some (.slice x.As x.subs.length x.cs)∧w.cell? ⟨b,o + i * 6 + 5,none⟩=some (.slice x.Ao x.ops.length x.co)∧x.ok w R:=by
 obtain ⟨b,o,e,_,d⟩:=h.rels.at_ (zdI hi);have g:=fun k (hk:k<6)=>za6 RelA.cells (sz:=6) (fun _=>rfl) hi (k:=k) hk;exact ⟨b,o,e,d _ _ (g 0 yab),d _ _ (g 1 yab),d _ _ (g 2 yab),d _ _ (g 3 yab),d _ _ (g 4 yab),d _ _ (g 5 yab),h.relz x (yar hi)⟩
theorem RelA.ok.sub (h:x.ok w R) {s:ByteArray × ByteArray} (hi:x.subs[i]? = some s) :
 ∃b o,x.As=some ⟨b,o,none⟩∧w.cell? ⟨b,o + i * 2,none⟩=some (.string s.1)∧w.cell? ⟨b,o + i * 2 + 1,none⟩=some (.string s.2)∧s.1.size≤R∧s.2.size≤R:=by
 obtain ⟨b,o,e,_,d⟩:=h.subs.at_ (zdI hi);have g:=fun k (hk:k<2)=>za6 zoH (sz:=2) (fun _=>rfl) hi (k:=k) hk;have z:=h.subz s (yar hi);exact ⟨b,o,e,d _ _ (g 0 yab),d _ _ (g 1 yab),z.1,z.2⟩
theorem RelA.ok.op (h:x.ok w R) {o:OpI} (hi:x.ops[i]? = some o) :
 ∃b k,x.Ao=some ⟨b,k,none⟩∧w.cell? ⟨b,k + i * 3,none⟩=some (.int .i64 o.1)∧w.cell? ⟨b,k + i * 3 + 1,none⟩=some (.string o.2.1)∧w.cell? ⟨b,k + i * 3 + 2,none⟩=some (.string o.2.2)∧(Lit.int .i64 o.1).wf=true∧o.2.1.size≤R∧o.2.2.size≤R:=by
 obtain ⟨b,k,e,_,d⟩:=h.ops.at_ (zdI hi);have g:=fun j (f:j<3)=>za6 aOp (sz:=3) (fun _=>rfl) hi (k:=j) f;have z:=h.opz o (yar hi);exact ⟨b,k,e,d _ _ (g 0 yab),d _ _ (g 1 yab),d _ _ (g 2 yab),z.1,z.2.1,z.2.2⟩
def opI (o:OpP):OpI:=((o.1:Int),o.2.1,o.2.2)
def relI (x:RelP):RelI:=⟨x.name,x.view,x.edit,x.check,x.subs,x.ops.map opI⟩
def zcv (t:TypP):TypI:=⟨t.name,t.rels.map relI⟩
structure SmI (R:Nat) (x:RelP):Prop where
 name:x.name.size≤R
 view:x.view.size≤R
 edit:x.edit.size≤R
 check:x.check.size≤R
 subn:x.subs.length * 32≤R
 subs:∀s ∈ x.subs,s.1.size≤R∧s.2.size≤R
 opn:x.ops.length * 40≤R
 ops:∀o ∈ x.ops,(Lit.int .i64 (o.1:Nat)).wf=true∧o.2.1.size≤R∧o.2.2.size≤R
theorem zkP:∀(l:List RelP) (xs:List Value),RelsC w B l xs→(∀x ∈ l,SmI R x)→∃k:List RelA,xs=k.flatMap RelA.cells∧k.map RelA.says=l.map relI∧∀a ∈ k,a.ok w R
 | [],xs,h,_=>by
  have e:xs=[]:=h;exact ⟨[],e,rfl,fun a b=>by cases b⟩
 | x::l,xs,h,j=>by
  obtain ⟨F,n,rfl,⟨G,H,rfl,q,d⟩,s⟩:=h;obtain ⟨k,rfl,hk,f⟩:=zkP l n s fun y u=>j y (yau _ u);obtain ⟨m,cs,rfl,A⟩:=Rd.own q;obtain ⟨g,co,rfl,C⟩:=Rd.own d;have z:=j x yat;have I:zc8 x.subs=x.subs.flatMap zoH:=rfl;have D:zbJ x.ops=(x.ops.map opI).flatMap aOp:=by
   rw [List.flatMap_map];rfl
  refine ⟨⟨x.name,x.view,x.edit,x.check,m,cs,x.subs,g,co,x.ops.map opI⟩::k,?_,?_,fun a b=>?_⟩
  · rw [yaS];show _=[Value.string x.name,.string x.view,.string x.edit,.string x.check,.slice m x.subs.length cs,.slice g (x.ops.map opI).length co] ++ _;rw [yay]
  · rw [yaW,yaW,hk];rfl
  · rcases yav.1 b with rfl | b
    · refine ⟨z.name,z.view,z.edit,z.check,A,z.subn,z.subs,?_,by show (x.ops.map opI).length * 40≤R;rw [yay];exact z.opn,fun o d=>?_⟩
      · show Rd w w.heap.size 3 g (x.ops.map opI).length co ((x.ops.map opI).flatMap aOp);rw [yay,←D];exact C
      · obtain ⟨p,E,rfl⟩:=yaN.1 d;exact z.ops p E
    · exact f a b
theorem ziz:∀(l:List TypP) (xs:List Value),TypsC w B l xs→(∀t ∈ l,t.name.size≤R∧t.rels.length * 112≤R∧∀x ∈ t.rels,SmI R x)→∃k:List TypA,xs=k.flatMap TypA.cells∧k.map TypA.says=l.map zcv∧∀a ∈ k,a.ok w R
 | [],xs,h,_=>by
  have e:xs=[]:=h;exact ⟨[],e,rfl,fun a b=>by cases b⟩
 | t::l,xs,h,o=>by
  obtain ⟨E,q,rfl,⟨F,rfl,s,d,f⟩,u⟩:=h;obtain ⟨k,rfl,hk,g⟩:=ziz l q u fun y C=>o y (yau _ C);have z:=o t yat;obtain ⟨m,rfl,p,j⟩:=zkP t.rels s f z.2.2;obtain ⟨A,c,rfl,D⟩:=Rd.own d;have n:m.length=t.rels.length:=by have:=congrArg List.length p;rwa [yay,yay] at this
  refine ⟨⟨t.name,A,c,m⟩::k,?_,?_,fun a b=>?_⟩
  · rw [yaS];show _=[Value.string t.name,.slice A m.length c] ++ _;rw [n]
  · rw [yaW,yaW,hk];show TypI.mk t.name (m.map RelA.says)::_=_;rw [p];rfl
  · rcases yav.1 b with rfl | b
    · exact ⟨z.1,by show Rd w w.heap.size 6 A m.length c _;rw [n];exact D,by show m.length * 112≤R;rw [n];exact z.2.1,j⟩
    · exact g a b
theorem VTyps.sch {T:List TypP} (h:VTyps B w (.slice A T.length c) T) (hn:T.length * 40≤R) (hz:∀t ∈ T,t.name.size≤R∧t.rels.length * 112≤R∧∀x ∈ t.rels,SmI R x):∃l:List TypA,l.map TypA.says=T.map zcv∧SchA w R A c l:=by
 obtain ⟨f,g,j⟩:=h;obtain ⟨l,rfl,b,k⟩:=ziz T f j hz;obtain ⟨o,p,e,rd⟩:=Rd.own g;injection e with m _ n
 subst m;subst n;have d:l.length=T.length:=by have:=congrArg List.length b;rwa [yay,yay] at this
 exact ⟨l,b,by rw [d];exact rd,by rw [d];exact hn,k⟩
theorem zdP {α:Type} {l:List α} {x:α} (h:l[i]? = some x):l.take (i + 1)=l.take i ++ [x]:=by
 rw [yaC,h];rfl
theorem zdT {a:Addr} (h:w.cell? a=some v) (hb:Below w.heap.size w w'):w'.cell? a=some v:=(hb.cell (World.block_lt_of_cell? _ _ h)).trans h
theorem zfo (w:World) (a b c:Value) (t:TypeId):∀j u,[a,b,c][j]? = some u→(w.alloc (.cells #[a,b,c] t)).cell? ((⟨w.heap.size,0,none⟩:Addr).add j)=some u:=by
 intro j u d;rw [Addr.add_lit,cell_of_row _ _ _ _ _ _ (heap_alloc_new w _),yaG];simpa using d
theorem Bk.new2 (w:World) (o:Obj) (cs:Array Value) (t:TypeId):Bk ((w.alloc o).alloc (.cells cs t)) (w.heap.size + 1) cs t:=by
 have h:=Bk.new (w.alloc o) cs t;rw [show (w.alloc o).heap.size=w.heap.size + 1 by simp] at h;exact h
end
end Go.Proofs.YtmblgnddgmfkhaaGreat
