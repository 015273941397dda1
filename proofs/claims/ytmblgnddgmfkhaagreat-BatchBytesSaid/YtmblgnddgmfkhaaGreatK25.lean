import Derived.StillTailTactics
import Derived.WalkMore
import Derived.Below
import Derived.Laws.Rows
import Derived.Test.YtmblgnddgmfkhaaGreatK14
import Derived.Test.YtmblgnddgmfkhaaGreatK23
set_option maxRecDepth 100000
set_option maxHeartbeats 4000000
namespace Go.Proofs.YtmblgnddgmfkhaaGreat
section
open Go.RowKit
variable {l:List TypA}
theorem NmW.sizeS {n:ByteArray} (h:NmW n):n.size≤1000:=yay (zkZ h.1) yac
theorem zjT:∀t:Ex,t.nm→∀o ∈ t.ops,o.2.1.size≤1000∧o.2.2.size≤1000
 | .this,_=>fun o f=>by rw [yav.1 f];exact ⟨yao _,yao _⟩
 | .same n,h=>by
  have g:NmW n:=h;exact fun o f=>by rw [yav.1 f];exact ⟨g.sizeS,yao _⟩
 | .via n m,h=>fun o f=>by rw [yav.1 f];exact ⟨h.1.sizeS,h.2.sizeS⟩
 | .bin k a b,h=>fun o f=>by
  rcases yaA.1 f with f | f
  · rcases yaA.1 f with f | f
    · exact zjT a h.1 o f
    · exact zjT b h.2 o f
  · rw [yav.1 f];exact ⟨yao _,yao _⟩
theorem sml_relS {x:RelP} (g:RelG x) (f:FewR 2049 x):Sml x∧(ze5 x).size≤10300000:=by
 obtain ⟨t,k,q,m,u⟩:=g.ops;have n:=zjT t m;have b:Sml x:=⟨g.name.sizeS,g.view.sizeS,g.edit.sizeS,g.check.sizeS,⟨yay f.1 yac,fun s b=>⟨(g.subs s b).1.sizeS,by
  rcases (g.subs s b).2 with e | e
  · rw [e];exact yao _
  · exact e.sizeS⟩⟩,⟨yay f.2 yac,fun o j=>by rw [k] at j;exact n o j⟩⟩
 refine ⟨b,?_⟩;have w:=(zkd b).2;have r:=znS b.ops.2;have y:=f.1;have z:=f.2;have:(relS x).size≤(whoS x).size + 4 + (rewS x.ops).size + 1:=by
  unfold relS;rw [size_app];split
  · show _ + 1≤_;omega
  · rw [size_app,size_app];show _ + (4 + _) + 1≤_;omega
 unfold ze5;rw [size_app,size_app];show 1 + _ + 1≤_;omega
theorem zg9 {α:Type} (f:α→ByteArray) (N:Nat):∀l:List α,(∀x ∈ l,(f x).size≤N)→(zcb (l.map f)).size≤l.length * N
 | [],_=>yao _
 | x::r,h=>by
  have g:=h x yar;have j:=zg9 f N r fun y b=>h y (yau _ b);show (f x ++ zcb (r.map f)).size≤_;rw [size_app,yat,ycz];omega
theorem says_sml (s:ByteArray):(zak s).1.length≤1000000∧(∀t ∈ (zak s).1,SmlT t)∧(zdE (zak s).1).size≤90000000000000:=by
 have g:=few10 s;have j:=ze7 s;generalize (zak s).1=T at *
 have k:∀t ∈ T,∀x ∈ t.rels,Sml x∧(ze5 x).size≤10300000:=fun t b x f=>sml_relS ((j t b).rels x f) ((g.2 t b).2 x f);refine ⟨yay g.1 yac,fun t b=>⟨(j t b).name.sizeS,yay (g.2 t b).1 yac,fun x f=>(k t b x f).1⟩,?_⟩;have n:∀t ∈ T,(zlH t).size≤21200000000:=fun t b=>by
  have o:=zg9 ze5 10300000 t.rels fun x f=>(k t b x f).2;have m:=(g.2 t b).1;have q:=(j t b).name.sizeS;have u:t.rels.length * 10300000≤2049 * 10300000:=ybm _ m;unfold zlH topS;rw [size_app,size_app,size_app,size_app];show 5 + _ + 3 + _ + 2≤_;omega
 have o:=zg9 zlH 21200000000 T n;have m:T.length * 21200000000≤2049 * 21200000000:=ybm _ g.1;show (zcb (T.map zlH)).size≤_;omega
theorem zln (h:Right (l.map TypA.says)):(relsA l).length≤96:=by
 have:=h.rels_le;rw [←zcK,yax] at this;exact this
theorem zm7 {e:Ed} (h:e ∈ zbr (l.map TypA.says)):0≤e.1∧e.1<(relsA l).length∧0≤e.2.1∧e.2.1<(relsA l).length∧e ∈ zlb (relsA l).length:=by
 rw [zky] at h;obtain ⟨a,b,f,hb,g,j⟩:=zkX h;have hb:b<(relsA l).length:=by simpa [zal] using hb
 exact ⟨by omega,by omega,by omega,by omega,zkW f hb g j⟩
theorem zpX {zs:List Ed} (hR:Right (l.map TypA.says)) (h1:ziv zs) (h2:∀e,e ∈ zs↔e ∈ zbr (l.map TypA.says)):zs.length≤18432:=by
 have f:=zfB (zlq h1) fun e g=>(zm7 ((h2 e).1 g)).2.2.2.2;rw [zjb] at f;have b:=zln hR;have j:(relsA l).length * ((relsA l).length * 2)≤96 * (96 * 2):=Nat.mul_le_mul b (Nat.mul_le_mul b (yaj _));omega
theorem zo7 {s:ByteArray} (hl:l.map TypA.says=(zak s).1.map zbY) (hR:Right (l.map TypA.says)):(relsA l).length≤600∧∀x ∈ relsA l,x.2.subs.length≤100000∧x.2.ops.length≤100000 :=
 few_of (yay hR.rels_le yac) fun x b=>by
  unfold zbb at b;obtain ⟨t,f,b⟩:=ybz.1 b;obtain ⟨r,g,rfl⟩:=yaH.1 b;obtain ⟨_,_,_,j,k⟩:=zrM (hl ▸ f) g;exact ⟨yay k yac,yay j yac⟩
theorem zhN (l:List TypA):zaZ (l.map TypA.says)=zal (relsA l):=by
 unfold zaZ zal;rw [←zcK,ybp];rfl
end
section
open Go.RowKit
open Go.RowKit
open Go.RowKit
open Go.RowKit
variable {w:World} {A:Option Addr} {c i R:Nat} {l:List TypA} {t:TypA} {r:RelA}
theorem zfo {α:Type} (g:α→List Value) {sz:Nat} (hg:∀a,(g a).length=sz):∀(l:List α) (i:Nat),(l.take i).flatMap g=(l.flatMap g).take (i * sz)
 | [],i=>by simp
 | x::r,0=>by simp
 | x::r,i + 1=>by
  have b:(g x).take ((i + 1) * sz)=g x:=ybl (by rw [hg,ycz];omega);rw [ycO,yaS,yaS,zfo g hg r i,List.take_append,b,hg,show (i + 1) * sz-sz=i * sz by rw [ycz];omega]
theorem SubsA.pre {l:List (ByteArray × ByteArray)} (h:SubsA w A c l) (hi:i≤l.length):SubsA w A c (l.take i):=by
 have e:(l.take i).length=i:=by rw [yaN];omega
 refine ⟨?_⟩;rw [e,zfo zpt (sz:=2) (fun _=>rfl)];exact h.rows.pre hi
theorem subsE_at {l:List TypI} {s:List (ByteArray × ByteArray)} {x:ByteArray × ByteArray} (hx:s[i]? = some x) :
 zgE l (s.take i) (s.drop i)=if zrX l x=false then 31 else if (s.take i).any (fun y=>decide (y=x))=true then 32 else zgE l (s.take (i + 1)) (s.drop (i + 1)):=by
 rw [ya8 (yap.1 hx).1,(yap.1 hx).2,zel hx];rfl
theorem zq0 {q:TypI} {a b c n:ByteArray} (h:[a,b,c][i]? = some n) (hn:zgy q n=false):(zgy q a && (zgy q b && zgy q c))=false:=by
 match i,h with
 | 0,h=>simp at h;subst h;rw [hn];rfl
 | 1,h=>simp at h;subst h;rw [hn];simp
 | 2,h=>simp at h;subst h;rw [hn];simp
theorem relNames_any (h:SchA w R A c l) (ht:t.ok w R) (hr:r.ok w R) :
 Calls Tryz.prog 165 #[.agg #[.slice A l.length c],.agg #[.string t.name,.slice t.A t.rels.length t.c],.agg #[.string r.name,.string r.view,.string r.edit,.string r.check,.slice r.As r.subs.length r.cs,.slice r.Ao r.ops.length r.co]] w fun e w' =>
  e = .returned (.int .i64 (zdJ (l.map TypA.says) t.says r.says:Nat))∧Below w.heap.size w w':=by
 have av:(r.subs.length:Int)≤9223372036854775807:=by have:=hr.subs.cap;have:=hr.subs.capm;simp only [maxLen] at this;omega
 have aw:(r.ops.length:Int)≤9223372036854775807:=by have:=hr.ops.cap;have:=hr.ops.capm;simp only [maxLen] at this;omega
 obtain ⟨As,X⟩:∃As,r.As=As:=⟨_,rfl⟩;obtain ⟨Ao,ab⟩:∃Ao,r.Ao=Ao:=⟨_,rfl⟩;rw [X,ab];have u:Hid (zdJ (l.map TypA.says) t.says r.says=if (zgy t.says r.view && (zgy t.says r.edit && zgy t.says r.check))=false then 31 else if zgE (l.map TypA.says) [] r.subs≠0 then zgE (l.map TypA.says) [] r.subs else if r.ops.all (znz (l.map TypA.says) t.says)=false then 31 else 0):=Lib.hid rfl;generalize zdJ (l.map TypA.says) t.says r.says=NE at *
 have Y:=((zdS w (.cells #[.slice A l.length c] 140)).alloc (size_alloc (yaj _)) (.cells #[.string t.name,.slice t.A t.rels.length t.c] 199));have Z:=Y.alloc Y.size (.cells #[.string r.name,.string r.view,.string r.edit,.string r.check,.slice As r.subs.length r.cs,.slice Ao r.ops.length r.co] 203);have d0:=((Bk.new w #[.slice A l.length c] 140).alloc (.cells #[.string t.name,.slice t.A t.rels.length t.c] 199)).alloc (.cells #[.string r.name,.string r.view,.string r.edit,.string r.check,.slice As r.subs.length r.cs,.slice Ao r.ops.length r.co] 203);have d1:=(Bk.new2 w (.cells #[.slice A l.length c] 140) #[.string t.name,.slice t.A t.rels.length t.c] 199).alloc (.cells #[.string r.name,.string r.view,.string r.edit,.string r.check,.slice As r.subs.length r.cs,.slice Ao r.ops.length r.co] 203);have U:=Bk.new2 (w.alloc (.cells #[.slice A l.length c] 140)) (.cells #[.string t.name,.slice t.A t.rels.length t.c] 199) #[.string r.name,.string r.view,.string r.edit,.string r.check,.slice As r.subs.length r.cs,.slice Ao r.ops.length r.co] 203;rw [show (w.alloc (.cells #[.slice A l.length c] 140)).heap.size + 1=w.heap.size + 1 + 1 by simp] at U;have ac:((((w.alloc (.cells #[.slice A l.length c] 140)).alloc (.cells #[.string t.name,.slice t.A t.rels.length t.c] 199)).alloc (.cells #[.string r.name,.string r.view,.string r.edit,.string r.check,.slice As r.subs.length r.cs,.slice Ao r.ops.length r.co] 203))).heap.size=w.heap.size + 1 + 1 + 1:=by simp
 go_enter Tryz.func165,Tryz.ntmps165
 go_upto_region 1 with (fail)
 generalize ((w.alloc (.cells #[.slice A l.length c] 140)).alloc (.cells #[.string t.name,.slice t.A t.rels.length t.c] 199)).alloc (.cells #[.string r.name,.string r.view,.string r.edit,.string r.check,.slice As r.subs.length r.cs,.slice Ao r.ops.length r.co] 203)=w1 at *
 obtain ⟨x0,x1,x2,x3,x4,x5⟩:=U.c6;have xl:=U.lt;clear Y;go_wp2_with fail
 replace d0:=d0.alloc (.cells #[.string r.view,.string r.edit,.string r.check] 9);replace d1:=d1.alloc (.cells #[.string r.view,.string r.edit,.string r.check] 9);replace U:=U.alloc (.cells #[.string r.view,.string r.edit,.string r.check] 9);have d3:=Bk.new w1 #[.string r.view,.string r.edit,.string r.check] 9;have x:=Z.alloc Z.size (.cells #[.string r.view,.string r.edit,.string r.check] 9);rw [ac] at d3;have a1:=ht.up x;have h2:=h.up x;have ad:=hr.up x;clear Z x0 x1 x2 x3 x4 x5 xl h ht hr;generalize w1.alloc (.cells #[.string r.view,.string r.edit,.string r.check] 9)=w2 at *
 clear ac;go_loopw [21] (fun F wx=>∃i:Nat,F = .int .i64 i∧i≤3∧(∀n ∈ [r.view,r.edit,r.check].take i,zgy t.says n=true)∧Below w2.heap.size w2 wx) (fun F _=>3-(intOf F).toNat)
 case atStart=>exact ⟨0,rfl,yao _,fun n hn=>(by simp at hn),Below.refl _ _⟩
 case round =>
  obtain ⟨i,rfl,hi,hn,b⟩:=hrel;by_cases ae:i<3
  · obtain ⟨n,G⟩:∃n,[r.view,r.edit,r.check][i]? = some n:=⟨_,yal ae⟩;have ax:(i:Int)<3:=by omega
    have g0:wr.cell? ⟨w.heap.size + 1 + 1 + 1,i,none⟩=some (.string n):=by
     rw [(d3.below b).cell i];match i,ae with
     | 0,_=>simpa using G
     | 1,_=>simpa using G
     | 2,_=>simpa using G
    have e1:=d1.below b;obtain ⟨y0,y1⟩:=e1.c2;have yl:=e1.lt;have gl:=(d3.below b).lt;have D:=hasRel_any (a1.up b) n;cases E:zgy t.says n with
    | false =>
     rw [E] at D;go_wp2_with (with_reducible refine D.mono ?_;rintro e w3 ⟨rfl,a2⟩)
     go_ret
     refine ⟨?_,x.trans ((b.trans (a2.mono b.size)).mono x.size)⟩;have:(zgy t.says r.view && (zgy t.says r.edit && zgy t.says r.check))=false:=zq0 G E;rw [u.out,yan this];rfl
    | true =>
     rw [E] at D;go_wp2_with (with_reducible refine D.mono ?_;rintro e w3 ⟨rfl,a2⟩)
     refine ⟨⟨i + 1,by go_num,by omega,fun m hm=>?_,zan b b.size a2⟩,?_⟩
     · rw [zel G] at hm;rcases yaA.1 hm with hm | hm
       · exact hn m hm
       · simp at hm;subst hm;exact E
     · simp [intOf];omega
  · obtain rfl:i=3:=by omega
    have L:=U.below b;obtain ⟨x0,x1,x2,x3,x4,x5⟩:=L.c6;have xl:=L.lt;have hA:¬(zgy t.says r.view && (zgy t.says r.edit && zgy t.says r.check))=false:=by
     rw [hn r.view yaf,hn r.edit yaf,hn r.check (by simp)];decide
    replace u:Hid (NE=if zgE (l.map TypA.says) [] r.subs≠0 then zgE (l.map TypA.says) [] r.subs else if r.ops.all (znz (l.map TypA.says) t.says)=false then 31 else 0):=Lib.hid (by rw [u.out,yak hA]);clear hA hn d3;go_wp2_with fail
    clear x0 x1 x2 x3 x4 x5 xl;have B:=zan x x.size b;have a6:=d0.below b;have af:=d1.below b;have a7:=U.below b;have ag:=a1.up b;have h4:=h2.up b;have H:=ad.up b;clear x d0 d1 U a1 h2 ad;generalize wr=w4 at *
    clear b;simp only [show ((3:Nat):Int)=3 from rfl];go_loopw [33] (fun F wx=>∃i:Nat,F = .int .i64 i∧i≤r.subs.length∧Hid (zgE (l.map TypA.says) [] r.subs=zgE (l.map TypA.says) (r.subs.take i) (r.subs.drop i))∧Below w4.heap.size w4 wx) (fun F _=>r.subs.length-(intOf F).toNat)
    case atStart=>exact ⟨0,rfl,yao _,Lib.hid rfl,Below.refl _ _⟩
    case round =>
     obtain ⟨j,rfl,hj,M,b⟩:=hrel;by_cases ah:j<r.subs.length
     · have ay:(j:Int)<(r.subs.length:Nat):=by omega
       obtain ⟨s,hs⟩:∃s,r.subs[j]? = some s:=⟨r.subs[j],yal ah⟩;obtain ⟨g,o,eA,g0,g1,_,_⟩:=(H.up b).sub hs;have lg:=World.block_lt_of_cell? _ _ g0;dsimp only at lg;rw [X] at eA;subst eA;go_upto_region 10 with (fail)
       have I:=zdS wr (.cells #[.string s.1,.string s.2] 246);have N:=Bk.new wr #[.string s.1,.string s.2] 246;have f:=zan b b.size I;clear I;generalize wr.alloc (.cells #[.string s.1,.string s.2] 246)=w5 at *
       obtain ⟨s0,s1⟩:=N.c2;have sl:=N.lt;have e0:=a6.below f;have q0:=e0.c1;have ql:=e0.lt;have D:=isThere_any (h4.up f) s;have C:=subsE_at (l:=l.map TypA.says) hs;cases E:zrX (l.map TypA.says) s with
       | false =>
        rw [E] at D;rw [yan E] at C;go_wp2_with (with_reducible refine D.mono ?_;rintro e V ⟨rfl,O⟩)
        go_ret
        refine ⟨?_,zan B B.size (zan f f.size O)⟩;rw [u.out,M.out,C,yan (by decide)];rfl
       | true =>
        rw [E] at D;rw [yak (by rw [E];decide)] at C;go_wp2_with (with_reducible refine D.mono ?_;rintro e V ⟨rfl,O⟩)
        have J:=zan f f.size O;have ai:=N.below O;clear s0 s1 sl q0 ql e0 N;obtain ⟨s0,s1⟩:=ai.c2;have sl:=ai.lt;have L:=a7.below J;obtain ⟨x0,x1,x2,x3,x4,x5⟩:=L.c6;have xl:=L.lt;have au:=H.subs.cap;have az:(j:Int)≤(r.cs:Nat):=by omega
        have am:Below V.heap.size V V.drew:=⟨rfl,rfl,rfl,yaj _,fun _ _=>rfl⟩;have z:=zan J J.size am;have K:=contains_any (((SubsA.mk H.subs).up z).pre (ya5 ah)) s;rw [X,show (r.subs.take j).length=j by rw [yaN];omega] at K;go_still_tail 5,yaa
        change wpList _ _ _ _ _ (World.drew _);cases P:(r.subs.take j).any fun y=>decide (y=s) with
        | true =>
         rw [P] at K;rw [yan P] at C;go_wp2_with (with_reducible refine K.mono ?_;rintro e w8 ⟨rfl,a8⟩)
         go_ret
         refine ⟨?_,zan B B.size (zan z z.size a8)⟩;rw [u.out,M.out,C,yan (by decide)];rfl
        | false =>
         rw [P] at K;rw [yak (by rw [P];decide)] at C;go_wp2_with (with_reducible refine K.mono ?_;rintro e w8 ⟨rfl,a8⟩)
         refine ⟨⟨j + 1,by go_num,by omega,Lib.hid (by rw [M.out,C]),zan z z.size a8⟩,?_⟩;simp [intOf];omega
     · obtain rfl:j=r.subs.length:=by omega
       have aj:zgE (l.map TypA.says) [] r.subs=0:=by
        rw [M.out,yaz,yb0];rfl
       replace u:Hid (NE=if r.ops.all (znz (l.map TypA.says) t.says)=false then 31 else 0):=Lib.hid (by rw [u.out,aj,yak (by decide)]);clear aj M;have L:=a7.below b;obtain ⟨x0,x1,x2,x3,x4,x5⟩:=L.c6;have xl:=L.lt;go_wp2_with fail
       clear x0 x1 x2 x3 x4 x5 xl L;have Q:=zan B B.size b;have ak:=a6.below b;have al:=af.below b;have an:=ag.up b;have h5:=h4.up b;have ao:=H.up b;clear B a6 af a7 ag h4 H;generalize wr=w5 at *
       clear b;go_loopw [52] (fun F wx=>∃i:Nat,F = .int .i64 i∧i≤r.ops.length∧(∀o ∈ r.ops.take i,znz (l.map TypA.says) t.says o=true)∧Below w5.heap.size w5 wx) (fun F _=>r.ops.length-(intOf F).toNat)
       case atStart=>exact ⟨0,rfl,yao _,fun o T=>(by simp at T),Below.refl _ _⟩
       case round =>
        obtain ⟨k,rfl,hk,M,b⟩:=hrel;by_cases aq:k<r.ops.length
        · have ar:(k:Int)<(r.ops.length:Nat):=by omega
          obtain ⟨q,hq⟩:∃q,r.ops[k]? = some q:=⟨r.ops[k],yal aq⟩;obtain ⟨g,o,eA,g0,g1,g2,_,_,_⟩:=(ao.up b).op hq;have lg:=World.block_lt_of_cell? _ _ g0;dsimp only at lg;rw [ab] at eA;subst eA;go_upto_region 18 with (fail)
          have I:=zdS wr (.cells #[.int .i64 q.1,.string q.2.1,.string q.2.2] 222);have N:=Bk.new wr #[.int .i64 q.1,.string q.2.1,.string q.2.2] 222;have f:=zan b b.size I;clear I;generalize wr.alloc (.cells #[.int .i64 q.1,.string q.2.1,.string q.2.2] 222)=V at *
          have s0:V.cell? ⟨wr.heap.size,0,none⟩=some (.int .i64 q.1):=N.cell 0;have s1:V.cell? ⟨wr.heap.size,1,none⟩=some (.string q.2.1):=N.cell 1;have s2:V.cell? ⟨wr.heap.size,2,none⟩=some (.string q.2.2):=N.cell 2;have sl:=N.lt;have e0:=ak.below f;have q0:=e0.c1;have ql:=e0.lt;have e1:=al.below f;obtain ⟨y0,y1⟩:=e1.c2;have yl:=e1.lt;have D:=opHolds_any q (h5.up f) (an.up f);cases E:znz (l.map TypA.says) t.says q with
          | false =>
           rw [E] at D;go_wp2_with (with_reducible refine D.mono ?_;rintro e w7 ⟨rfl,aa⟩)
           go_ret
           refine ⟨?_,zan Q Q.size (zan f f.size aa)⟩;rw [u.out,yan (List.all_eq_false.2 ⟨q,yaq hq,by rw [E];decide⟩)];rfl
          | true =>
           rw [E] at D;go_wp2_with (with_reducible refine D.mono ?_;rintro e w7 ⟨rfl,aa⟩)
           refine ⟨⟨k + 1,by go_num,by omega,fun o T=>?_,zan f f.size aa⟩,?_⟩
           · rw [zel hq] at T;rcases yaA.1 T with T | T
             · exact M o T
             · simp at T;subst T;exact E
           · simp [intOf];omega
        · obtain rfl:k=r.ops.length:=by omega
          have ar:¬((r.ops.length:Int)<(r.ops.length:Nat)):=by omega
          rw [yaz] at M;go_wp2
          go_ret
          refine ⟨?_,zan Q Q.size b⟩;rw [u.out,yak (by rw [ybr.2 M];decide)];rfl
theorem zdu {α:Type} (p:α→Bool):∀l:List α,(l.find? p).isSome=l.any p
 | []=>rfl
 | x::r=>by
  rw [ycQ,ycM];cases h:p x with
  | true=>rfl
  | false=>exact zdu p r
theorem SchA.pre (h:SchA w R A c l) (hi:i≤l.length):SchA w R A c (l.take i):=by
 have e:(l.take i).length=i:=by rw [yaN];omega
 refine ⟨?_,?_,fun a b=>h.each a (ybW b)⟩
 · rw [e,zfo TypA.cells (sz:=2) (fun _=>rfl)];exact h.rows.pre hi
 · have:=h.few;rw [e];exact yay (ybm _ hi) this
theorem TypA.ok.pre (h:t.ok w R) (hi:i≤t.rels.length):TypA.ok w R ⟨⟨#[]⟩,t.A,t.c,t.rels.take i⟩:=by
 have e:(t.rels.take i).length=i:=by rw [yaN];omega
 refine ⟨yao _,?_,?_,fun a b=>h.relz a (ybW b)⟩
 · show Rd w w.heap.size 6 t.A (t.rels.take i).length t.c _;rw [e,zfo RelA.cells (sz:=6) (fun _=>rfl)];exact h.rels.pre hi
 · have:=h.reln;show (t.rels.take i).length * 112≤R;rw [e];exact yay (ybm _ hi) this
theorem relsE_at {t:TypI} {q:List RelA} {j:Nat} (hr:q[j]? = some r) :
 zef t ((q.take j).map RelA.says) ((q.drop j).map RelA.says)=if reE ⟨⟨#[]⟩,A,c,q.take j⟩ r≠0 then (reE ⟨⟨#[]⟩,A,c,q.take j⟩ r,zjX t r.says) else zef t ((q.take (j + 1)).map RelA.says) ((q.drop (j + 1)).map RelA.says):=by
 rw [ya8 (yap.1 hr).1,(yap.1 hr).2,zel hr,yaX,yaM];have e:((q.take j).map RelA.says).any (fun x=>decide (x.name=r.says.name))=(zbt ⟨⟨#[]⟩,A,c,q.take j⟩ r.name).isSome:=by
  unfold zbt;rw [zdu,List.any_map];rfl
 have g:r.says.ops=r.ops:=rfl;unfold reE;rw [zef,e,g];by_cases b:(zbt ⟨⟨#[]⟩,A,c,q.take j⟩ r.name).isSome=true
 · rw [yan b,yan b,yan (by decide)]
 · rw [yak b,yak b];by_cases f:16<r.ops.length
   · rw [yan f,yan f,yan (by decide)]
   · rw [yak f,yak f,yak (by decide)];rfl
theorem typsE_at (ht:l[i]? = some t) :
 zdo ((l.take i).map TypA.says) ((l.drop i).map TypA.says)=if tyE (l.take i) t≠0 then (tyE (l.take i) t,t.name) else if (zef t.says [] (t.rels.map RelA.says)).1≠0 then zef t.says [] (t.rels.map RelA.says) else zdo ((l.take (i + 1)).map TypA.says) ((l.drop (i + 1)).map TypA.says):=by
 rw [ya8 (yap.1 ht).1,(yap.1 ht).2,zel ht,yaX,yaM];have e:((l.take i).map TypA.says).any (fun x=>decide (x.name=t.says.name))=(zbX (l.take i) t.name).isSome:=by
  unfold zbX;rw [zdu,List.any_map];rfl
 have g:t.says.rels=t.rels.map RelA.says:=rfl;have j:(t.rels.map RelA.says).length=t.rels.length:=yax ..;unfold tyE;rw [zdo,e,g,j];by_cases b:(zbX (l.take i) t.name).isSome=true
 · rw [yan b,yan b,yan (by decide)];rfl
 · rw [yak b,yak b];by_cases f:12<t.rels.length
   · rw [yan f,yan f,yan (by decide)];rfl
   · rw [yak f,yak f,yak (show ¬((0:Nat)≠0) by decide)];rfl
theorem zoL {l:List TypI} {t:TypI} {q:List RelA} {j:Nat} (hr:q[j]? = some r) :
 zbu l t ((q.drop j).map RelA.says)=if zdJ l t r.says≠0 then (zdJ l t r.says,zjX t r.says) else zbu l t ((q.drop (j + 1)).map RelA.says):=by
 rw [ya8 (yap.1 hr).1,(yap.1 hr).2,yaX];rfl
theorem zqZ {L:List TypI} (ht:l[i]? = some t) :
 zbP L ((l.drop i).map TypA.says)=if (zbu L t.says (t.rels.map RelA.says)).1≠0 then zbu L t.says (t.rels.map RelA.says) else zbP L ((l.drop (i + 1)).map TypA.says):=by
 rw [ya8 (yap.1 ht).1,(yap.1 ht).2,yaX];rfl
theorem partsFault_any (h:SchA w R A c l) (hR:R≤140737488351232) :
 Calls Tryz.prog 114 #[.agg #[.slice A l.length c]] w fun e w' =>
  e = .returned (.tuple #[.int .i64 ((zdo [] (l.map TypA.says)).1:Nat),.string (zdo [] (l.map TypA.says)).2])∧Below w.heap.size w w':=by
 have ae:(l.length:Int)≤9223372036854775807:=by have:=h.rows.cap;have:=h.rows.capm;simp only [maxLen] at this;omega
 have ad:=h.rows.cap;have s:Hid (zdo [] (l.map TypA.says)=zdo ((l.take 0).map TypA.says) ((l.drop 0).map TypA.says)):=Lib.hid rfl;generalize zdo [] (l.map TypA.says)=NE at *
 have u:=zdS w (.cells #[.slice A l.length c] 140);have X:=Bk.new w #[.slice A l.length c] 140;have h0:=h.up u;go_enter Tryz.func114,Tryz.ntmps114
 go_upto_region 1 with (fail)
 clear h;generalize w.alloc (.cells #[.slice A l.length c] 140)=w1 at *
 have Y:=X.c1;have Z:=X.lt;go_wp2_with fail
 go_step3
 go_wp2_with fail
 go_step3
 go_wp2_with fail
 go_loopw [2,3,11] (fun ve va N wx=>ve = .int .i64 0∧va = .string ⟨#[]⟩∧∃i:Nat,N = .int .i64 i∧i≤l.length∧Hid (NE=zdo ((l.take i).map TypA.says) ((l.drop i).map TypA.says))∧Below w1.heap.size w1 wx) (fun _ _ N _=>l.length-(intOf N).toNat)
 case atStart=>exact ⟨rfl,rfl,0,rfl,yao _,s,Below.refl _ _⟩
 case round =>
  clear s Y Z;obtain ⟨rfl,rfl,i,rfl,hi,s,G⟩:=hrel;by_cases a1:i<l.length
  · have a2:(i:Int)<(l.length:Nat):=by omega
    have af:(i:Int)≤(c:Nat):=by omega
    obtain ⟨t,ht⟩:∃t,l[i]? = some t:=⟨l[i],yal a1⟩;obtain ⟨g,o,rfl,g0,g1,hk⟩:=(h0.up G).get ht;have lg:=World.block_lt_of_cell? _ _ g0;dsimp only at lg;go_upto_region 4 with (fail)
    have D:=zdS wr (.cells #[.string t.name,.slice t.A t.rels.length t.c] 199);have P:=Bk.new wr #[.string t.name,.slice t.A t.rels.length t.c] 199;have B:=zan G G.size D;have H:=hk.up D;clear D hk;generalize wr.alloc (.cells #[.string t.name,.slice t.A t.rels.length t.c] 199)=w2 at *
    obtain ⟨t0,t1⟩:=P.c2;have tl:=P.lt;have e0:=X.below B;have Y:=e0.c1;have Z:=e0.lt;have m:Below w2.heap.size w2 w2.drew:=⟨rfl,rfl,rfl,yaj _,fun _ _=>rfl⟩;have f:=zan B B.size m;have b:=typeFault_any (t:=t) ((h0.up f).pre hi);rw [show (l.take i).length=i by rw [yaN];omega] at b;have hS:=typsE_at ht;go_still_tail 5,yaa
    change wpList _ _ _ _ _ (World.drew _);generalize tyE (l.take i) t=k at *
    by_cases E:k=0
    · subst E;rw [yak (by decide)] at hS;simp only [show ((0:Nat):Int)=0 from rfl] at b;go_wp2_with ((with_reducible refine b.mono ?_);rintro e w4 ⟨rfl,x⟩;have y:=(P.below m).below x;have t4:=y.c2.2;have a6:=y.lt)
      have C:=zan f f.size x;have L:=(H.up m).up x;have ag:(t.rels.length:Int)≤9223372036854775807:=by have:=H.rels.cap;have:=H.rels.capm;simp only [maxLen] at this;omega
      have ah:=H.rels.cap;have z:Hid (zef t.says [] (t.rels.map RelA.says)=zef t.says ((t.rels.take 0).map RelA.says) ((t.rels.drop 0).map RelA.says)):=Lib.hid rfl;generalize zef t.says [] (t.rels.map RelA.says)=RE at *
      obtain ⟨tA,M⟩:∃tA,t.A=tA:=⟨_,rfl⟩;rw [M] at y t4 ⊢;clear G B f x m H P t0 t1 tl g0 g1 lg Y Z e0 b;generalize wr.heap.size=B5 at *
      go_loopw [2,3,29] (fun ve va N wx=>ve = .int .i64 0∧va = .string ⟨#[]⟩∧∃i:Nat,N = .int .i64 i∧i≤t.rels.length∧Hid (RE=zef t.says ((t.rels.take i).map RelA.says) ((t.rels.drop i).map RelA.says))∧Below w4.heap.size w4 wx) (fun _ _ N _=>t.rels.length-(intOf N).toNat)
      case atStart=>exact ⟨rfl,rfl,0,rfl,yao _,z,Below.refl _ _⟩
      case round =>
       clear z;obtain ⟨rfl,rfl,j,rfl,hj,z,I⟩:=hrel;by_cases a7:j<t.rels.length
       · have ai:(j:Int)<(t.rels.length:Nat):=by omega
         have aj:(j:Int)≤(t.c:Nat):=by omega
         obtain ⟨r,hr⟩:∃r,t.rels[j]? = some r:=⟨t.rels[j],yal a7⟩;obtain ⟨gr,o',eA,r0,r1,r2,r3,r4,r5,a8⟩:=(L.up I).get hr;have Q:=World.block_lt_of_cell? _ _ r0;dsimp only at Q;rw [M] at eA;subst eA;go_upto_region 10 with (fail)
         have D:=zdS wr (.cells #[.string r.name,.string r.view,.string r.edit,.string r.check,.slice r.As r.subs.length r.cs,.slice r.Ao r.ops.length r.co] 203);have dR:=Bk.new wr #[.string r.name,.string r.view,.string r.edit,.string r.check,.slice r.As r.subs.length r.cs,.slice r.Ao r.ops.length r.co] 203;have J:=zan I I.size D;clear D a8 I r0 r1 r2 r3 r4 r5 Q;generalize wr.alloc (.cells #[.string r.name,.string r.view,.string r.edit,.string r.check,.slice r.As r.subs.length r.cs,.slice r.Ao r.ops.length r.co] 203)=w5 at *
         generalize wr.heap.size=B7 at *
         obtain ⟨r0,r1,r2,r3,r4,r5⟩:=dR.c6;have rl:=dR.lt;have e4:=y.below J;obtain ⟨t0,t1⟩:=e4.c2;have tl:=e4.lt;have m:Below w5.heap.size w5 w5.drew:=⟨rfl,rfl,rfl,yaj _,fun _ _=>rfl⟩;have n:=zan J J.size m;have b:=relFault_any (t:=r) ((L.up n).pre hj);rw [M,show (t.rels.take j).length=j by rw [yaN];omega] at b;have K:=relsE_at (A:=some ⟨gr,o',none⟩) (c:=t.c) (t:=t.says) hr;go_still_tail 5,yaa
         change wpList _ _ _ _ _ (World.drew _);generalize reE ⟨⟨#[]⟩,some ⟨gr,o',none⟩,t.c,t.rels.take j⟩ r=k at *
         by_cases E:k=0
         · subst E;rw [yak (by decide)] at K;simp only [show ((0:Nat):Int)=0 from rfl] at b;go_wp2_with ((with_reducible refine b.mono ?_);rintro e w6 ⟨rfl,F⟩)
           refine ⟨⟨rfl,rfl,j + 1,by go_num,by omega,Lib.hid (by rw [z.out,K]),zan n n.size F⟩,?_⟩;simp [intOf];omega
         · have aa:¬((k:Nat):Int)=0:=by omega
           rw [yan E] at K;go_wp2_with ((with_reducible refine b.mono ?_);rintro e w6 ⟨rfl,F⟩;have T:=(dR.below m).below F;have O:=(e4.below m).below F;have p4:=O.c2.1;have p5:=O.c2.2;have pl:=O.lt;obtain ⟨s0,s1,s2,s3,s4,s5⟩:=T.c6;have sl:=T.lt)
           have U:=path_any (w:=w6) (q:=t) (r:=r) (yay L.name hR) (yay (L.relz r (yaq hr)).name hR);rw [M] at U;refine U.mono ?_;rintro e w8 ⟨rfl,ab⟩;go_wp2_with fail
           rw [Exit.noGoto_ret];refine bodyPost_ret (v:=.tuple #[.int .i64 (k:Nat),.string (zjX t.says r.says)]) (by simp [results,Tryz.results114,go_sem];try rfl) rfl ?_;refine ⟨?_,zan u u.size (zan C C.size (zan n n.size (zan F F.size ab)))⟩;have ac:RE.1≠0:=by rw [z.out,K];exact E
           rw [s.out,hS,yan ac,z.out,K]
       · obtain rfl:j=t.rels.length:=by omega
         have V:RE=(0,⟨#[]⟩):=by
          rw [z.out,yaz,yb0];rfl
         subst V;rw [yak (show ¬((0,⟨#[]⟩):Nat × ByteArray).1≠0 by decide)] at hS;replace hS:=Lib.hid hS;go_wp2
         refine ⟨⟨rfl,rfl,i + 1,by go_num,by omega,Lib.hid (by rw [s.out,hS.out]),zan C C.size I⟩,?_⟩;simp [intOf];omega
    · have aa:¬((k:Nat):Int)=0:=by omega
      rw [yan E] at hS;go_wp2_with ((with_reducible refine b.mono ?_);rintro e w4 ⟨rfl,x⟩;have y:=(P.below m).below x;have t4:=y.c2.1;have a6:=y.lt)
      rw [Exit.noGoto_ret];refine bodyPost_ret (v:=.tuple #[.int .i64 (k:Nat),.string t.name]) (by simp [results,Tryz.results114,go_sem];try rfl) rfl ?_;refine ⟨?_,zan u u.size (zan f f.size x)⟩;rw [s.out,hS]
  · have a2:¬(i:Int)<(l.length:Nat):=by omega
    obtain rfl:i=l.length:=by omega
    go_wp2
    refine bodyPost_ret (v:=.tuple #[.int .i64 0,.string ⟨#[]⟩]) (by simp [results,Tryz.results114,go_sem];try rfl) rfl ?_;refine ⟨?_,zan u u.size G⟩;rw [s.out,yaz,yb0];rfl
theorem namesFault_any (h:SchA w R A c l) (hR:R≤140737488351232) :
 Calls Tryz.prog 115 #[.agg #[.slice A l.length c]] w fun e w' =>
  e = .returned (.tuple #[.int .i64 ((zbP (l.map TypA.says) (l.map TypA.says)).1:Nat),.string (zbP (l.map TypA.says) (l.map TypA.says)).2])∧Below w.heap.size w w':=by
 have a8:(l.length:Int)≤9223372036854775807:=by have:=h.rows.cap;have:=h.rows.capm;simp only [maxLen] at this;omega
 obtain ⟨L,P⟩:∃L,l.map TypA.says=L:=⟨_,rfl⟩;have u:Hid (zbP L (l.map TypA.says)=zbP L ((l.drop 0).map TypA.says)):=Lib.hid rfl;rw [show zbP (l.map TypA.says) (l.map TypA.says)=zbP L (l.map TypA.says) by rw [P]];generalize zbP L (l.map TypA.says)=NE at *
 have P:=Lib.hid P;have y:=zdS w (.cells #[.slice A l.length c] 140);have T:=Bk.new w #[.slice A l.length c] 140;have h0:=h.up y;go_enter Tryz.func115,Tryz.ntmps115
 go_upto_region 1 with (fail)
 clear h;generalize w.alloc (.cells #[.slice A l.length c] 140)=w1 at *
 have x0:=T.c1;have xl:=T.lt;go_wp2_with fail
 go_step3
 go_wp2_with fail
 go_step3
 go_wp2_with fail
 go_loopw [2,3,11] (fun U V G X=>U = .int .i64 0∧V = .string ⟨#[]⟩∧∃i:Nat,G = .int .i64 i∧i≤l.length∧Hid (NE=zbP L ((l.drop i).map TypA.says))∧Below w1.heap.size w1 X) (fun _ _ G _=>l.length-(intOf G).toNat)
 case atStart=>exact ⟨rfl,rfl,0,rfl,yao _,u,Below.refl _ _⟩
 case round =>
  clear u x0 xl;obtain ⟨rfl,rfl,i,rfl,hi,u,z⟩:=hrel;by_cases Y:i<l.length
  · have Z:(i:Int)<(l.length:Nat):=by omega
    obtain ⟨t,ht⟩:∃t,l[i]? = some t:=⟨l[i],yal Y⟩;obtain ⟨g,o,rfl,g0,g1,hk⟩:=(h0.up z).get ht;have lg:=World.block_lt_of_cell? _ _ g0;dsimp only at lg;go_upto_region 4 with (fail)
    have n:=zdS wr (.cells #[.string t.name,.slice t.A t.rels.length t.c] 199);have Q:=Bk.new wr #[.string t.name,.slice t.A t.rels.length t.c] 199;have f:=zan z z.size n;have B:=hk.up n;clear n hk;generalize wr.alloc (.cells #[.string t.name,.slice t.A t.rels.length t.c] 199)=w4 at *
    have a1:=T.below f;obtain ⟨t0,t1⟩:=Q.c2;have tl:=Q.lt;have hS:=zqZ (L:=L) ht;have aa:(t.rels.length:Int)≤9223372036854775807:=by have:=B.rels.cap;have:=B.rels.capm;simp only [maxLen] at this;omega
    have s:Hid (zbu L t.says (t.rels.map RelA.says)=zbu L t.says ((t.rels.drop 0).map RelA.says)):=Lib.hid rfl;generalize zbu L t.says (t.rels.map RelA.says)=RE at *
    obtain ⟨tA,D⟩:∃tA,t.A=tA:=⟨_,rfl⟩;rw [D] at Q t1 ⊢;go_wp2_with fail
    clear z g0 g1 lg t0 t1 tl;generalize wr.heap.size=B5 at *
    go_loopw [2,3,18] (fun U V G X=>U = .int .i64 0∧V = .string ⟨#[]⟩∧∃i:Nat,G = .int .i64 i∧i≤t.rels.length∧Hid (RE=zbu L t.says ((t.rels.drop i).map RelA.says))∧Below w4.heap.size w4 X) (fun _ _ G _=>t.rels.length-(intOf G).toNat)
    case atStart=>exact ⟨rfl,rfl,0,rfl,yao _,s,Below.refl _ _⟩
    case round =>
     clear s;obtain ⟨rfl,rfl,j,rfl,hj,s,C⟩:=hrel;by_cases a2:j<t.rels.length
     · have ab:(j:Int)<(t.rels.length:Nat):=by omega
       obtain ⟨r,hr⟩:∃r,t.rels[j]? = some r:=⟨t.rels[j],yal a2⟩;obtain ⟨gr,o',eA,r0,r1,r2,r3,r4,r5,J⟩:=(B.up C).get hr;have K:=World.block_lt_of_cell? _ _ r0;dsimp only at K;rw [D] at eA;subst eA;go_upto_region 7 with (fail)
       have n:=zdS wr (.cells #[.string r.name,.string r.view,.string r.edit,.string r.check,.slice r.As r.subs.length r.cs,.slice r.Ao r.ops.length r.co] 203);have dR:=Bk.new wr #[.string r.name,.string r.view,.string r.edit,.string r.check,.slice r.As r.subs.length r.cs,.slice r.Ao r.ops.length r.co] 203;have b:=zan C C.size n;have F:=J.up n;clear n J C r0 r1 r2 r3 r4 r5 K;generalize wr.alloc (.cells #[.string r.name,.string r.view,.string r.edit,.string r.check,.slice r.As r.subs.length r.cs,.slice r.Ao r.ops.length r.co] 203)=w5 at *
       generalize wr.heap.size=B7 at *
       obtain ⟨r0,r1,r2,r3,r4,r5⟩:=dR.c6;have rl:=dR.lt;have e4:=Q.below b;obtain ⟨t0,t1⟩:=e4.c2;have tl:=e4.lt;have e0:=a1.below b;have x0:=e0.c1;have xl:=e0.lt;have E:=relNames_any ((h0.up f).up b) (B.up b) F;rw [D,P.out] at E;have m:=zoL (l:=L) (t:=t.says) hr;generalize zdJ L t.says r.says=k at *
       by_cases H:k=0
       · subst H;rw [yak (by decide)] at m;replace m:=Lib.hid m;simp only [show ((0:Nat):Int)=0 from rfl] at E;go_wp2_with ((with_reducible refine E.mono ?_);rintro e w6 ⟨rfl,x⟩)
         refine ⟨⟨rfl,rfl,j + 1,by go_num,by omega,Lib.hid (by rw [s.out,m.out]),zan b b.size x⟩,?_⟩;simp [intOf];omega
       · have ac:¬((k:Nat):Int)=0:=by omega
         rw [yan H] at m;replace m:=Lib.hid m;go_wp2_with ((with_reducible refine E.mono ?_);rintro e w6 ⟨rfl,x⟩;have M:=dR.below x;have I:=e4.below x;have p4:=I.c2.1;have p5:=I.c2.2;have pl:=I.lt;obtain ⟨s0,s1,s2,s3,s4,s5⟩:=M.c6;have sl:=M.lt)
         have N:=path_any (w:=w6) (q:=t) (r:=r) (yay B.name hR) (yay F.name hR);rw [D] at N;refine N.mono ?_;rintro e w8 ⟨rfl,a6⟩;go_wp2_with fail
         rw [Exit.noGoto_ret];refine bodyPost_ret (v:=.tuple #[.int .i64 (k:Nat),.string (zjX t.says r.says)]) (by simp [results,Tryz.results115,go_sem];try rfl) rfl ?_;refine ⟨?_,zan y y.size (zan f f.size (zan b b.size (zan x x.size a6)))⟩;have a7:RE.1≠0:=by rw [s.out,m.out];exact H
         rw [u.out,hS,yan a7,s.out,m.out]
     · obtain rfl:j=t.rels.length:=by omega
       have O:RE=(0,⟨#[]⟩):=by
        rw [s.out,yb0];rfl
       subst O;rw [yak (show ¬((0,⟨#[]⟩):Nat × ByteArray).1≠0 by decide)] at hS;replace hS:=Lib.hid hS;go_wp2
       refine ⟨⟨rfl,rfl,i + 1,by go_num,by omega,Lib.hid (by rw [u.out,hS.out]),zan f f.size C⟩,?_⟩;simp [intOf];omega
  · have Z:¬(i:Int)<(l.length:Nat):=by omega
    obtain rfl:i=l.length:=by omega
    go_wp2
    refine bodyPost_ret (v:=.tuple #[.int .i64 0,.string ⟨#[]⟩]) (by simp [results,Tryz.results115,go_sem];try rfl) rfl ?_;refine ⟨?_,zan y y.size z⟩;rw [u.out,yb0];rfl
theorem check_any (h:SchA w R A c l) (hR:R≤140737488351232) :
 Calls Tryz.prog 74 #[.agg #[.slice A l.length c]] w fun e w' =>
  e = .returned (.tuple #[.int .i64 ((zcY (l.map TypA.says)).1:Nat),.string (zcY (l.map TypA.says)).2])∧Below w.heap.size w w':=by
 have b:=zdS w (.cells #[.slice A l.length c] 140);have x:=Bk.new w #[.slice A l.length c] 140;have q:=h.up b;have g:zcY (l.map TypA.says)=if 8<l.length then (13,⟨#[]⟩) else if (zdo [] (l.map TypA.says)).1≠0 then zdo [] (l.map TypA.says) else zbP (l.map TypA.says) (l.map TypA.says):=by
  unfold zcY;rw [yax]
 by_cases s:8<l.length
 · have k:(8:Int)<(l.length:Nat):=by omega
   rw [yan s] at g;rw [g];go_enter Tryz.func74,Tryz.ntmps74
   go_wp2
   refine bodyPost_ret (v:=.tuple #[.int .i64 13,.string ⟨#[]⟩]) (by simp [results,Tryz.results74,go_sem];try rfl) rfl ?_;exact ⟨rfl,b⟩
 · have k:¬(8:Int)<(l.length:Nat):=by omega
   rw [yak s] at g;have j:=partsFault_any q hR;generalize zdo [] (l.map TypA.says)=T at *
   by_cases m:T.1≠0
   · rw [yan m] at g;rw [g];have y:¬((T.1:Nat):Int)=0:=by omega
     clear g;go_enter Tryz.func74,Tryz.ntmps74
     go_wp2_with (with_reducible refine j.mono ?_;rintro e z ⟨rfl,f⟩)
     refine bodyPost_ret (v:=.tuple #[.int .i64 (T.1:Nat),.string T.2]) (by simp [results,Tryz.results74,go_sem];try rfl) rfl ?_;exact ⟨rfl,zan b b.size f⟩
   · rw [yak m] at g;rw [g];have n:T.1=0:=by omega
     rw [n] at j;simp only [show ((0:Nat):Int)=0 from rfl] at j;clear g m;go_enter Tryz.func74,Tryz.ntmps74
     go_wp2_with (with_reducible refine j.mono ?_;rintro e z ⟨rfl,f⟩;have u:=x.below f;have B:=u.c1;have C:=u.lt)
     refine (namesFault_any (q.up f) hR).mono ?_;rintro e D ⟨rfl,o⟩;go_wp2
     refine bodyPost_ret (v:=.tuple #[.int .i64 ((zbP (l.map TypA.says) (l.map TypA.says)).1:Nat),.string (zbP (l.map TypA.says) (l.map TypA.says)).2]) (by simp [results,Tryz.results74,go_sem];try rfl) rfl ?_;exact ⟨rfl,zan b b.size (zan f f.size o)⟩
end
section
open Go.RowKit
def Rk (w:World) (b:Nat) (cs:Array Value) (t:TypeId):Prop:=w.heap[b]? = some (.cells cs t (0,0))
section
variable {w w':World} {b:Nat} {cs:Array Value} {t:TypeId}
theorem Rk.lt (h:Rk w b cs t):b<w.heap.size:=(yaR.1 h).1
theorem Rk.cell (h:Rk w b cs t) (i:Nat):w.cell? ⟨b,i,none⟩=cs[i]?:=by rw [cell_of_row _ _ _ _ _ _ h]
theorem Rk.fz (h:Rk w b cs t) (i:Nat):w.frozen? ⟨b,i,none⟩=false:=by simp [World.frozen?,show w.heap[b]? = some (.cells cs t (0,0)) from h]
theorem Rk.same (h:Rk w b cs t) (hs:w'.heap[b]? = w.heap[b]?):Rk w' b cs t:=hs.trans h
theorem Rk.new (w:World) (cs:Array Value) (t:TypeId):Rk (w.alloc (.cells cs t)) w.heap.size cs t:=heap_alloc_new w _
theorem Rk.alloc (h:Rk w b cs t) (o:Obj):Rk (w.alloc o) b cs t:=h.same (Below.heap_alloc _ _ _ h.lt)
theorem Rk.one {x:Value} (h:Rk w b #[x] t):w.cell? ⟨b,0,none⟩=some x:=h.cell 0
theorem Rk.two {x y:Value} (h:Rk w b #[x,y] t):w.cell? ⟨b,0,none⟩=some x∧w.cell? ⟨b,1,none⟩=some y:=⟨h.cell 0,h.cell 1⟩
theorem Rk.set (h:Rk w b cs t) (i:Nat) (v:Value):Rk (w.setCell ⟨b,i,none⟩ v) b (cs.setIfInBounds i v) t:=by
 have e:w.heap[b]? = some (.cells cs t (0,0)):=h;simp [Rk,World.setCell,ybB,e]
theorem Rk.other (h:Rk w b cs t) {a:Addr} (ha:b≠a.block) (v:Value):Rk (w.setCell a v) b cs t:=h.same (Below.heap_setCell _ _ _ _ ha)
end
def Stay (X:Nat→Prop) (w w':World):Prop:=w.heap.size≤w'.heap.size∧∀b,b<w.heap.size→¬X b→w'.heap[b]? = w.heap[b]?
theorem zau {w w':World} {e:TypeId} {base size n:Nat} {v:Value} {xs:List Value} (h:w.ownsRow base e size v n xs) (hk:∀j,v.ownBlock=some j→w'.heap[j]? = w.heap[j]?):w'.ownsRow base e size v n xs:=by
 refine ⟨h.1,?_⟩;rcases h.2 with f | ⟨g,cap,b,rfl,k,m,r⟩
 · exact .inl f
 · exact .inr ⟨g,cap,b,rfl,k,(hk g rfl).trans m,r⟩
theorem Stay.row {X:Nat→Prop} {w w':World} (h:Stay X w w') {e:TypeId} {base size n:Nat} {v:Value} {xs:List Value} (hr:w.ownsRow base e size v n xs) (hX:∀b,X b→b<base):w'.ownsRow base e size v n xs :=
 zau hr fun j f=>h.2 j (hr.lt j f).2 fun q=>by have:=hX j q;have:=(hr.lt j f).1;omega
end
end Go.Proofs.YtmblgnddgmfkhaaGreat
