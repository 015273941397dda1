import Derived.StillTailTactics
import Derived.WalkMore
import Derived.Below
import Derived.Laws.Rows
import Derived.Test.YtmblgnddgmfkhaaGreatQ19
import Derived.Test.YtmblgnddgmfkhaaGreatQ22
set_option maxRecDepth 100000
set_option maxHeartbeats 4000000
namespace Go.Proofs.YtmblgnddgmfkhaaGreat
section
open Go.RowKit
variable {l:List TypA}
theorem NmW.sizeS {n:ByteArray} (h:NmW n):n.size≤1000:=yax (zkr h.1) yac
theorem zjf:∀t:Ex,t.nm→∀o ∈ t.ops,o.2.1.size≤1000∧o.2.2.size≤1000
 | .this,_=>fun o d=>by rw [yas.1 d];exact ⟨yap _,yap _⟩
 | .same n,h=>by
  have f:NmW n:=h;exact fun o d=>by rw [yas.1 d];exact ⟨f.sizeS,yap _⟩
 | .via n m,h=>fun o d=>by rw [yas.1 d];exact ⟨h.1.sizeS,h.2.sizeS⟩
 | .bin k a b,h=>fun o d=>by
  rcases yaz.1 d with d | d
  · rcases yaz.1 d with d | d
    · exact zjf a h.1 o d
    · exact zjf b h.2 o d
  · rw [yas.1 d];exact ⟨yap _,yap _⟩
theorem sml_relS {x:RelP} (g:RelG x) (f:FewR 2049 x):Sml x∧(zev x).size≤10300000:=by
 obtain ⟨t,j,n,k,p⟩:=g.ops;have m:=zjf t k;have b:Sml x:=⟨g.name.sizeS,g.view.sizeS,g.edit.sizeS,g.check.sizeS,⟨yax f.1 yac,fun s b=>⟨(g.subs s b).1.sizeS,by
  rcases (g.subs s b).2 with e | e
  · rw [e];exact yap _
  · exact e.sizeS⟩⟩,⟨yax f.2 yac,fun o d=>by rw [j] at d;exact m o d⟩⟩
 refine ⟨b,?_⟩;have w:=(zjB b).2;have r:=zm6 b.ops.2;have q:=f.1;have u:=f.2;have:(relS x).size≤(whoS x).size + 4 + (rewS x.ops).size + 1:=by
  unfold relS;rw [size_app];split
  · show _ + 1≤_;omega
  · rw [size_app,size_app];show _ + (4 + _) + 1≤_;omega
 unfold zev;rw [size_app,size_app];show 1 + _ + 1≤_;omega
theorem zgD {α:Type} (f:α→ByteArray) (N:Nat):∀l:List α,(∀x ∈ l,(f x).size≤N)→(zbW (l.map f)).size≤l.length * N
 | [],_=>yap _
 | x::r,h=>by
  have d:=h x yat;have g:=zgD f N r fun y b=>h y (yau _ b);show (f x ++ zbW (r.map f)).size≤_;rw [size_app,yaq,ycE];omega
theorem says_sml (s:ByteArray):(zak s).1.length≤1000000∧(∀t ∈ (zak s).1,SmlT t)∧(zdu (zak s).1).size≤90000000000000:=by
 have f:=few10 s;have g:=zey s;generalize (zak s).1=T at *
 have j:∀t ∈ T,∀x ∈ t.rels,Sml x∧(zev x).size≤10300000:=fun t b x d=>sml_relS ((g t b).rels x d) ((f.2 t b).2 x d);refine ⟨yax f.1 yac,fun t b=>⟨(g t b).name.sizeS,yax (f.2 t b).1 yac,fun x d=>(j t b x d).1⟩,?_⟩;have m:∀t ∈ T,(zk4 t).size≤21200000000:=fun t b=>by
  have n:=zgD zev 10300000 t.rels fun x d=>(j t b x d).2;have k:=(f.2 t b).1;have o:=(g t b).name.sizeS;have p:t.rels.length * 10300000≤2049 * 10300000:=ybo _ k;unfold zk4 topS;rw [size_app,size_app,size_app,size_app];show 5 + _ + 3 + _ + 2≤_;omega
 have n:=zgD zk4 21200000000 T m;have k:T.length * 21200000000≤2049 * 21200000000:=ybo _ f.1;show (zbW (T.map zk4)).size≤_;omega
theorem zkO (h:Right (l.map TypA.says)):(relsA l).length≤96:=by
 have:=h.rels_le;rw [←zcu,yay] at this;exact this
theorem zmo {e:Ed} (h:e ∈ zbq (l.map TypA.says)):0≤e.1∧e.1<(relsA l).length∧0≤e.2.1∧e.2.1<(relsA l).length∧e ∈ zkB (relsA l).length:=by
 rw [zjZ] at h;obtain ⟨a,b,d,hb,f,g⟩:=zkp h;have hb:b<(relsA l).length:=by simpa [zaj] using hb
 exact ⟨by omega,by omega,by omega,by omega,zko d hb f g⟩
theorem zo9 {zs:List Ed} (hR:Right (l.map TypA.says)) (h1:zhR zs) (h2:∀e,e ∈ zs↔e ∈ zbq (l.map TypA.says)):zs.length≤18432:=by
 have d:=ze2 (zkR h1) fun e f=>(zmo ((h2 e).1 f)).2.2.2.2;rw [ziv] at d;have b:=zkO hR;have g:(relsA l).length * ((relsA l).length * 2)≤96 * (96 * 2):=Nat.mul_le_mul b (Nat.mul_le_mul b (yaj _));omega
theorem zol {s:ByteArray} (hl:l.map TypA.says=(zak s).1.map zcv) (hR:Right (l.map TypA.says)):(relsA l).length≤600∧∀x ∈ relsA l,x.2.subs.length≤100000∧x.2.ops.length≤100000 :=
 few_of (yax hR.rels_le yac) fun x b=>by
  unfold zbc at b;obtain ⟨t,d,b⟩:=ybz.1 b;obtain ⟨r,f,rfl⟩:=yaN.1 b;obtain ⟨_,_,_,g,j⟩:=zqW (hl ▸ d) f;exact ⟨yax j yac,yax g yac⟩
theorem zhe (l:List TypA):za4 (l.map TypA.says)=zaj (relsA l):=by
 unfold za4 zaj;rw [←zcu,ybn];rfl
end
section
open Go.RowKit
open Go.RowKit
open Go.RowKit
open Go.RowKit
variable {w:World} {A:Option Addr} {c i R:Nat} {l:List TypA} {t:TypA} {r:RelA}
theorem zeR {α:Type} (g:α→List Value) {sz:Nat} (hg:∀a,(g a).length=sz):∀(l:List α) (i:Nat),(l.take i).flatMap g=(l.flatMap g).take (i * sz)
 | [],i=>by simp
 | x::r,0=>by simp
 | x::r,i + 1=>by
  have b:(g x).take ((i + 1) * sz)=g x:=ybi (by rw [hg,ycE];omega);rw [ycI,yaS,yaS,zeR g hg r i,List.take_append,b,hg,show (i + 1) * sz-sz=i * sz by rw [ycE];omega]
theorem SubsA.pre {l:List (ByteArray × ByteArray)} (h:SubsA w A c l) (hi:i≤l.length):SubsA w A c (l.take i):=by
 have e:(l.take i).length=i:=by rw [yaK];omega
 refine ⟨?_⟩;rw [e,zeR zoH (sz:=2) (fun _=>rfl)];exact h.rows.pre hi
theorem subsE_at {l:List TypI} {s:List (ByteArray × ByteArray)} {x:ByteArray × ByteArray} (hx:s[i]? = some x) :
 zga l (s.take i) (s.drop i)=if zq8 l x=false then 31 else if (s.take i).any (fun y=>decide (y=x))=true then 32 else zga l (s.take (i + 1)) (s.drop (i + 1)):=by
 rw [ya3 (yao.1 hx).1,(yao.1 hx).2,zdP hx];rfl
theorem zqc {q:TypI} {a b c n:ByteArray} (h:[a,b,c][i]? = some n) (hn:zf5 q n=false):(zf5 q a && (zf5 q b && zf5 q c))=false:=by
 match i,h with
 | 0,h=>simp at h;subst h;rw [hn];rfl
 | 1,h=>simp at h;subst h;rw [hn];simp
 | 2,h=>simp at h;subst h;rw [hn];simp
theorem relNames_any (h:SchA w R A c l) (ht:t.ok w R) (hr:r.ok w R) :
 Calls Tryz.prog 165 #[.agg #[.slice A l.length c],.agg #[.string t.name,.slice t.A t.rels.length t.c],.agg #[.string r.name,.string r.view,.string r.edit,.string r.check,.slice r.As r.subs.length r.cs,.slice r.Ao r.ops.length r.co]] w fun e w' =>
  e = .returned (.int .i64 (zdo (l.map TypA.says) t.says r.says:Nat))∧Below w.heap.size w w':=by
 have au:(r.subs.length:Int)≤9223372036854775807:=by have:=hr.subs.cap;have:=hr.subs.capm;simp only [maxLen] at this;omega
 have av:(r.ops.length:Int)≤9223372036854775807:=by have:=hr.ops.cap;have:=hr.ops.capm;simp only [maxLen] at this;omega
 obtain ⟨As,U⟩:∃As,r.As=As:=⟨_,rfl⟩;obtain ⟨Ao,aa⟩:∃Ao,r.Ao=Ao:=⟨_,rfl⟩;rw [U,aa];have f:Hid (zdo (l.map TypA.says) t.says r.says=if (zf5 t.says r.view && (zf5 t.says r.edit && zf5 t.says r.check))=false then 31 else if zga (l.map TypA.says) [] r.subs≠0 then zga (l.map TypA.says) [] r.subs else if r.ops.all (zmP (l.map TypA.says) t.says)=false then 31 else 0):=Lib.hid rfl;generalize zdo (l.map TypA.says) t.says r.says=NE at *
 have V:=((zdy w (.cells #[.slice A l.length c] 140)).alloc (size_alloc (yaj _)) (.cells #[.string t.name,.slice t.A t.rels.length t.c] 199));have X:=V.alloc V.size (.cells #[.string r.name,.string r.view,.string r.edit,.string r.check,.slice As r.subs.length r.cs,.slice Ao r.ops.length r.co] 203);have d0:=((Bk.new w #[.slice A l.length c] 140).alloc (.cells #[.string t.name,.slice t.A t.rels.length t.c] 199)).alloc (.cells #[.string r.name,.string r.view,.string r.edit,.string r.check,.slice As r.subs.length r.cs,.slice Ao r.ops.length r.co] 203);have d1:=(Bk.new2 w (.cells #[.slice A l.length c] 140) #[.string t.name,.slice t.A t.rels.length t.c] 199).alloc (.cells #[.string r.name,.string r.view,.string r.edit,.string r.check,.slice As r.subs.length r.cs,.slice Ao r.ops.length r.co] 203);have Q:=Bk.new2 (w.alloc (.cells #[.slice A l.length c] 140)) (.cells #[.string t.name,.slice t.A t.rels.length t.c] 199) #[.string r.name,.string r.view,.string r.edit,.string r.check,.slice As r.subs.length r.cs,.slice Ao r.ops.length r.co] 203;rw [show (w.alloc (.cells #[.slice A l.length c] 140)).heap.size + 1=w.heap.size + 1 + 1 by simp] at Q;have ab:((((w.alloc (.cells #[.slice A l.length c] 140)).alloc (.cells #[.string t.name,.slice t.A t.rels.length t.c] 199)).alloc (.cells #[.string r.name,.string r.view,.string r.edit,.string r.check,.slice As r.subs.length r.cs,.slice Ao r.ops.length r.co] 203))).heap.size=w.heap.size + 1 + 1 + 1:=by simp
 go_enter Tryz.func165,Tryz.ntmps165
 go_upto_region 1 with (fail)
 generalize ((w.alloc (.cells #[.slice A l.length c] 140)).alloc (.cells #[.string t.name,.slice t.A t.rels.length t.c] 199)).alloc (.cells #[.string r.name,.string r.view,.string r.edit,.string r.check,.slice As r.subs.length r.cs,.slice Ao r.ops.length r.co] 203)=w1 at *
 obtain ⟨x0,x1,x2,x3,x4,x5⟩:=Q.c6;have xl:=Q.lt;clear V;go_wp2_with fail
 replace d0:=d0.alloc (.cells #[.string r.view,.string r.edit,.string r.check] 9);replace d1:=d1.alloc (.cells #[.string r.view,.string r.edit,.string r.check] 9);replace Q:=Q.alloc (.cells #[.string r.view,.string r.edit,.string r.check] 9);have d3:=Bk.new w1 #[.string r.view,.string r.edit,.string r.check] 9;have p:=X.alloc X.size (.cells #[.string r.view,.string r.edit,.string r.check] 9);rw [ab] at d3;have Y:=ht.up p;have h2:=h.up p;have ac:=hr.up p;clear X x0 x1 x2 x3 x4 x5 xl h ht hr;generalize w1.alloc (.cells #[.string r.view,.string r.edit,.string r.check] 9)=w2 at *
 clear ab;go_loopw [21] (fun D wx=>∃i:Nat,D = .int .i64 i∧i≤3∧(∀n ∈ [r.view,r.edit,r.check].take i,zf5 t.says n=true)∧Below w2.heap.size w2 wx) (fun D _=>3-(intOf D).toNat)
 case atStart=>exact ⟨0,rfl,yap _,fun n Z=>(by simp at Z),Below.refl _ _⟩
 case round =>
  obtain ⟨i,rfl,hi,Z,b⟩:=hrel;by_cases ad:i<3
  · obtain ⟨n,E⟩:∃n,[r.view,r.edit,r.check][i]? = some n:=⟨_,yal ad⟩;have aw:(i:Int)<3:=by omega
    have g0:wr.cell? ⟨w.heap.size + 1 + 1 + 1,i,none⟩=some (.string n):=by
     rw [(d3.below b).cell i];match i,ad with
     | 0,_=>simpa using E
     | 1,_=>simpa using E
     | 2,_=>simpa using E
    have e1:=d1.below b;obtain ⟨y0,y1⟩:=e1.c2;have yl:=e1.lt;have gl:=(d3.below b).lt;have B:=hasRel_any (Y.up b) n;cases C:zf5 t.says n with
    | false =>
     rw [C] at B;go_wp2_with (with_reducible refine B.mono ?_;rintro e w3 ⟨rfl,a1⟩)
     go_ret
     refine ⟨?_,p.trans ((b.trans (a1.mono b.size)).mono p.size)⟩;have:(zf5 t.says r.view && (zf5 t.says r.edit && zf5 t.says r.check))=false:=zqc E C;rw [f.out,yan this];rfl
    | true =>
     rw [C] at B;go_wp2_with (with_reducible refine B.mono ?_;rintro e w3 ⟨rfl,a1⟩)
     refine ⟨⟨i + 1,by go_num,by omega,fun m hm=>?_,zam b b.size a1⟩,?_⟩
     · rw [zdP E] at hm;rcases yaz.1 hm with hm | hm
       · exact Z m hm
       · simp at hm;subst hm;exact C
     · simp [intOf];omega
  · obtain rfl:i=3:=by omega
    have J:=Q.below b;obtain ⟨x0,x1,x2,x3,x4,x5⟩:=J.c6;have xl:=J.lt;have hA:¬(zf5 t.says r.view && (zf5 t.says r.edit && zf5 t.says r.check))=false:=by
     rw [Z r.view yaf,Z r.edit yaf,Z r.check (by simp)];decide
    replace f:Hid (NE=if zga (l.map TypA.says) [] r.subs≠0 then zga (l.map TypA.says) [] r.subs else if r.ops.all (zmP (l.map TypA.says) t.says)=false then 31 else 0):=Lib.hid (by rw [f.out,yak hA]);clear hA Z d3;go_wp2_with fail
    clear x0 x1 x2 x3 x4 x5 xl;have x:=zam p p.size b;have a2:=d0.below b;have ae:=d1.below b;have a6:=Q.below b;have af:=Y.up b;have h4:=h2.up b;have F:=ac.up b;clear p d0 d1 Q Y h2 ac;generalize wr=w4 at *
    clear b;simp only [show ((3:Nat):Int)=3 from rfl];go_loopw [33] (fun D wx=>∃i:Nat,D = .int .i64 i∧i≤r.subs.length∧Hid (zga (l.map TypA.says) [] r.subs=zga (l.map TypA.says) (r.subs.take i) (r.subs.drop i))∧Below w4.heap.size w4 wx) (fun D _=>r.subs.length-(intOf D).toNat)
    case atStart=>exact ⟨0,rfl,yap _,Lib.hid rfl,Below.refl _ _⟩
    case round =>
     obtain ⟨j,rfl,hj,K,b⟩:=hrel;by_cases ag:j<r.subs.length
     · have ax:(j:Int)<(r.subs.length:Nat):=by omega
       obtain ⟨s,hs⟩:∃s,r.subs[j]? = some s:=⟨r.subs[j],yal ag⟩;obtain ⟨g,o,eA,g0,g1,_,_⟩:=(F.up b).sub hs;have lg:=World.block_lt_of_cell? _ _ g0;dsimp only at lg;rw [U] at eA;subst eA;go_upto_region 10 with (fail)
       have G:=zdy wr (.cells #[.string s.1,.string s.2] 246);have L:=Bk.new wr #[.string s.1,.string s.2] 246;have d:=zam b b.size G;clear G;generalize wr.alloc (.cells #[.string s.1,.string s.2] 246)=w5 at *
       obtain ⟨s0,s1⟩:=L.c2;have sl:=L.lt;have e0:=a2.below d;have q0:=e0.c1;have ql:=e0.lt;have B:=isThere_any (h4.up d) s;have z:=subsE_at (l:=l.map TypA.says) hs;cases C:zq8 (l.map TypA.says) s with
       | false =>
        rw [C] at B;rw [yan C] at z;go_wp2_with (with_reducible refine B.mono ?_;rintro e T ⟨rfl,M⟩)
        go_ret
        refine ⟨?_,zam x x.size (zam d d.size M)⟩;rw [f.out,K.out,z,yan (by decide)];rfl
       | true =>
        rw [C] at B;rw [yak (by rw [C];decide)] at z;go_wp2_with (with_reducible refine B.mono ?_;rintro e T ⟨rfl,M⟩)
        have H:=zam d d.size M;have ah:=L.below M;clear s0 s1 sl q0 ql e0 L;obtain ⟨s0,s1⟩:=ah.c2;have sl:=ah.lt;have J:=a6.below H;obtain ⟨x0,x1,x2,x3,x4,x5⟩:=J.c6;have xl:=J.lt;have ar:=F.subs.cap;have ay:(j:Int)≤(r.cs:Nat):=by omega
        have al:Below T.heap.size T T.drew:=⟨rfl,rfl,rfl,yaj _,fun _ _=>rfl⟩;have u:=zam H H.size al;have I:=contains_any (((SubsA.mk F.subs).up u).pre (ya2 ag)) s;rw [U,show (r.subs.take j).length=j by rw [yaK];omega] at I;go_still_tail 5,yaa
        change wpList _ _ _ _ _ (World.drew _);cases N:(r.subs.take j).any fun y=>decide (y=s) with
        | true =>
         rw [N] at I;rw [yan N] at z;go_wp2_with (with_reducible refine I.mono ?_;rintro e w8 ⟨rfl,a7⟩)
         go_ret
         refine ⟨?_,zam x x.size (zam u u.size a7)⟩;rw [f.out,K.out,z,yan (by decide)];rfl
        | false =>
         rw [N] at I;rw [yak (by rw [N];decide)] at z;go_wp2_with (with_reducible refine I.mono ?_;rintro e w8 ⟨rfl,a7⟩)
         refine ⟨⟨j + 1,by go_num,by omega,Lib.hid (by rw [K.out,z]),zam u u.size a7⟩,?_⟩;simp [intOf];omega
     · obtain rfl:j=r.subs.length:=by omega
       have ai:zga (l.map TypA.says) [] r.subs=0:=by
        rw [K.out,yaA,ybV];rfl
       replace f:Hid (NE=if r.ops.all (zmP (l.map TypA.says) t.says)=false then 31 else 0):=Lib.hid (by rw [f.out,ai,yak (by decide)]);clear ai K;have J:=a6.below b;obtain ⟨x0,x1,x2,x3,x4,x5⟩:=J.c6;have xl:=J.lt;go_wp2_with fail
       clear x0 x1 x2 x3 x4 x5 xl J;have O:=zam x x.size b;have aj:=a2.below b;have ak:=ae.below b;have am:=af.up b;have h5:=h4.up b;have an:=F.up b;clear x a2 ae a6 af h4 F;generalize wr=w5 at *
       clear b;go_loopw [52] (fun D wx=>∃i:Nat,D = .int .i64 i∧i≤r.ops.length∧(∀o ∈ r.ops.take i,zmP (l.map TypA.says) t.says o=true)∧Below w5.heap.size w5 wx) (fun D _=>r.ops.length-(intOf D).toNat)
       case atStart=>exact ⟨0,rfl,yap _,fun o P=>(by simp at P),Below.refl _ _⟩
       case round =>
        obtain ⟨k,rfl,hk,K,b⟩:=hrel;by_cases ao:k<r.ops.length
        · have aq:(k:Int)<(r.ops.length:Nat):=by omega
          obtain ⟨q,hq⟩:∃q,r.ops[k]? = some q:=⟨r.ops[k],yal ao⟩;obtain ⟨g,o,eA,g0,g1,g2,_,_,_⟩:=(an.up b).op hq;have lg:=World.block_lt_of_cell? _ _ g0;dsimp only at lg;rw [aa] at eA;subst eA;go_upto_region 18 with (fail)
          have G:=zdy wr (.cells #[.int .i64 q.1,.string q.2.1,.string q.2.2] 222);have L:=Bk.new wr #[.int .i64 q.1,.string q.2.1,.string q.2.2] 222;have d:=zam b b.size G;clear G;generalize wr.alloc (.cells #[.int .i64 q.1,.string q.2.1,.string q.2.2] 222)=T at *
          have s0:T.cell? ⟨wr.heap.size,0,none⟩=some (.int .i64 q.1):=L.cell 0;have s1:T.cell? ⟨wr.heap.size,1,none⟩=some (.string q.2.1):=L.cell 1;have s2:T.cell? ⟨wr.heap.size,2,none⟩=some (.string q.2.2):=L.cell 2;have sl:=L.lt;have e0:=aj.below d;have q0:=e0.c1;have ql:=e0.lt;have e1:=ak.below d;obtain ⟨y0,y1⟩:=e1.c2;have yl:=e1.lt;have B:=opHolds_any q (h5.up d) (am.up d);cases C:zmP (l.map TypA.says) t.says q with
          | false =>
           rw [C] at B;go_wp2_with (with_reducible refine B.mono ?_;rintro e w7 ⟨rfl,a8⟩)
           go_ret
           refine ⟨?_,zam O O.size (zam d d.size a8)⟩;rw [f.out,yan (List.all_eq_false.2 ⟨q,yar hq,by rw [C];decide⟩)];rfl
          | true =>
           rw [C] at B;go_wp2_with (with_reducible refine B.mono ?_;rintro e w7 ⟨rfl,a8⟩)
           refine ⟨⟨k + 1,by go_num,by omega,fun o P=>?_,zam d d.size a8⟩,?_⟩
           · rw [zdP hq] at P;rcases yaz.1 P with P | P
             · exact K o P
             · simp at P;subst P;exact C
           · simp [intOf];omega
        · obtain rfl:k=r.ops.length:=by omega
          have aq:¬((r.ops.length:Int)<(r.ops.length:Nat)):=by omega
          rw [yaA] at K;go_wp2
          go_ret
          refine ⟨?_,zam O O.size b⟩;rw [f.out,yak (by rw [ybN.2 K];decide)];rfl
theorem zde {α:Type} (p:α→Bool):∀l:List α,(l.find? p).isSome=l.any p
 | []=>rfl
 | x::r=>by
  rw [ycL,List.any_cons];cases h:p x with
  | true=>rfl
  | false=>exact zde p r
theorem SchA.pre (h:SchA w R A c l) (hi:i≤l.length):SchA w R A c (l.take i):=by
 have e:(l.take i).length=i:=by rw [yaK];omega
 refine ⟨?_,?_,fun a b=>h.each a (yb4 b)⟩
 · rw [e,zeR TypA.cells (sz:=2) (fun _=>rfl)];exact h.rows.pre hi
 · have:=h.few;rw [e];exact yax (ybo _ hi) this
theorem TypA.ok.pre (h:t.ok w R) (hi:i≤t.rels.length):TypA.ok w R ⟨⟨#[]⟩,t.A,t.c,t.rels.take i⟩:=by
 have e:(t.rels.take i).length=i:=by rw [yaK];omega
 refine ⟨yap _,?_,?_,fun a b=>h.relz a (yb4 b)⟩
 · show Rd w w.heap.size 6 t.A (t.rels.take i).length t.c _;rw [e,zeR RelA.cells (sz:=6) (fun _=>rfl)];exact h.rels.pre hi
 · have:=h.reln;show (t.rels.take i).length * 112≤R;rw [e];exact yax (ybo _ hi) this
theorem relsE_at {t:TypI} {q:List RelA} {j:Nat} (hr:q[j]? = some r) :
 zdN t ((q.take j).map RelA.says) ((q.drop j).map RelA.says)=if reE ⟨⟨#[]⟩,A,c,q.take j⟩ r≠0 then (reE ⟨⟨#[]⟩,A,c,q.take j⟩ r,zjk t r.says) else zdN t ((q.take (j + 1)).map RelA.says) ((q.drop (j + 1)).map RelA.says):=by
 rw [ya3 (yao.1 hr).1,(yao.1 hr).2,zdP hr,yaW,yaL];have e:((q.take j).map RelA.says).any (fun x=>decide (x.name=r.says.name))=(zbk ⟨⟨#[]⟩,A,c,q.take j⟩ r.name).isSome:=by
  unfold zbk;rw [zde,List.any_map];rfl
 have f:r.says.ops=r.ops:=rfl;unfold reE;rw [zdN,e,f];by_cases b:(zbk ⟨⟨#[]⟩,A,c,q.take j⟩ r.name).isSome=true
 · rw [yan b,yan b,yan (by decide)]
 · rw [yak b,yak b];by_cases d:16<r.ops.length
   · rw [yan d,yan d,yan (by decide)]
   · rw [yak d,yak d,yak (by decide)];rfl
theorem typsE_at (ht:l[i]? = some t) :
 zdb ((l.take i).map TypA.says) ((l.drop i).map TypA.says)=if tyE (l.take i) t≠0 then (tyE (l.take i) t,t.name) else if (zdN t.says [] (t.rels.map RelA.says)).1≠0 then zdN t.says [] (t.rels.map RelA.says) else zdb ((l.take (i + 1)).map TypA.says) ((l.drop (i + 1)).map TypA.says):=by
 rw [ya3 (yao.1 ht).1,(yao.1 ht).2,zdP ht,yaW,yaL];have e:((l.take i).map TypA.says).any (fun x=>decide (x.name=t.says.name))=(zbM (l.take i) t.name).isSome:=by
  unfold zbM;rw [zde,List.any_map];rfl
 have f:t.says.rels=t.rels.map RelA.says:=rfl;have g:(t.rels.map RelA.says).length=t.rels.length:=yay ..;unfold tyE;rw [zdb,e,f,g];by_cases b:(zbM (l.take i) t.name).isSome=true
 · rw [yan b,yan b,yan (by decide)];rfl
 · rw [yak b,yak b];by_cases d:12<t.rels.length
   · rw [yan d,yan d,yan (by decide)];rfl
   · rw [yak d,yak d,yak (show ¬((0:Nat)≠0) by decide)];rfl
theorem znZ {l:List TypI} {t:TypI} {q:List RelA} {j:Nat} (hr:q[j]? = some r) :
 zbl l t ((q.drop j).map RelA.says)=if zdo l t r.says≠0 then (zdo l t r.says,zjk t r.says) else zbl l t ((q.drop (j + 1)).map RelA.says):=by
 rw [ya3 (yao.1 hr).1,(yao.1 hr).2,yaW];rfl
theorem zqb {L:List TypI} (ht:l[i]? = some t) :
 zbH L ((l.drop i).map TypA.says)=if (zbl L t.says (t.rels.map RelA.says)).1≠0 then zbl L t.says (t.rels.map RelA.says) else zbH L ((l.drop (i + 1)).map TypA.says):=by
 rw [ya3 (yao.1 ht).1,(yao.1 ht).2,yaW];rfl
theorem partsFault_any (h:SchA w R A c l) (hR:R≤140737488351232) :
 Calls Tryz.prog 114 #[.agg #[.slice A l.length c]] w fun e w' =>
  e = .returned (.tuple #[.int .i64 ((zdb [] (l.map TypA.says)).1:Nat),.string (zdb [] (l.map TypA.says)).2])∧Below w.heap.size w w':=by
 have ae:(l.length:Int)≤9223372036854775807:=by have:=h.rows.cap;have:=h.rows.capm;simp only [maxLen] at this;omega
 have ad:=h.rows.cap;have n:Hid (zdb [] (l.map TypA.says)=zdb ((l.take 0).map TypA.says) ((l.drop 0).map TypA.says)):=Lib.hid rfl;generalize zdb [] (l.map TypA.says)=NE at *
 have p:=zdy w (.cells #[.slice A l.length c] 140);have U:=Bk.new w #[.slice A l.length c] 140;have h0:=h.up p;go_enter Tryz.func114,Tryz.ntmps114
 go_upto_region 1 with (fail)
 clear h;generalize w.alloc (.cells #[.slice A l.length c] 140)=w1 at *
 have V:=U.c1;have X:=U.lt;go_wp2_with fail
 go_step3
 go_wp2_with fail
 go_step3
 go_wp2_with fail
 go_loopw [2,3,11] (fun Y Z L wx=>Y = .int .i64 0∧Z = .string ⟨#[]⟩∧∃i:Nat,L = .int .i64 i∧i≤l.length∧Hid (NE=zdb ((l.take i).map TypA.says) ((l.drop i).map TypA.says))∧Below w1.heap.size w1 wx) (fun _ _ L _=>l.length-(intOf L).toNat)
 case atStart=>exact ⟨rfl,rfl,0,rfl,yap _,n,Below.refl _ _⟩
 case round =>
  clear n V X;obtain ⟨rfl,rfl,i,rfl,hi,n,E⟩:=hrel;by_cases a1:i<l.length
  · have a2:(i:Int)<(l.length:Nat):=by omega
    have af:(i:Int)≤(c:Nat):=by omega
    obtain ⟨t,ht⟩:∃t,l[i]? = some t:=⟨l[i],yal a1⟩;obtain ⟨g,o,rfl,g0,g1,hk⟩:=(h0.up E).get ht;have lg:=World.block_lt_of_cell? _ _ g0;dsimp only at lg;go_upto_region 4 with (fail)
    have B:=zdy wr (.cells #[.string t.name,.slice t.A t.rels.length t.c] 199);have N:=Bk.new wr #[.string t.name,.slice t.A t.rels.length t.c] 199;have y:=zam E E.size B;have F:=hk.up B;clear B hk;generalize wr.alloc (.cells #[.string t.name,.slice t.A t.rels.length t.c] 199)=w2 at *
    obtain ⟨t0,t1⟩:=N.c2;have tl:=N.lt;have e0:=U.below y;have V:=e0.c1;have X:=e0.lt;have f:Below w2.heap.size w2 w2.drew:=⟨rfl,rfl,rfl,yaj _,fun _ _=>rfl⟩;have d:=zam y y.size f;have b:=typeFault_any (t:=t) ((h0.up d).pre hi);rw [show (l.take i).length=i by rw [yaK];omega] at b;have hS:=typsE_at ht;go_still_tail 5,yaa
    change wpList _ _ _ _ _ (World.drew _);generalize tyE (l.take i) t=k at *
    by_cases C:k=0
    · subst C;rw [yak (by decide)] at hS;simp only [show ((0:Nat):Int)=0 from rfl] at b;go_wp2_with ((with_reducible refine b.mono ?_);rintro e w4 ⟨rfl,s⟩;have u:=(N.below f).below s;have t4:=u.c2.2;have a6:=u.lt)
      have z:=zam d d.size s;have J:=(F.up f).up s;have ag:(t.rels.length:Int)≤9223372036854775807:=by have:=F.rels.cap;have:=F.rels.capm;simp only [maxLen] at this;omega
      have ah:=F.rels.cap;have x:Hid (zdN t.says [] (t.rels.map RelA.says)=zdN t.says ((t.rels.take 0).map RelA.says) ((t.rels.drop 0).map RelA.says)):=Lib.hid rfl;generalize zdN t.says [] (t.rels.map RelA.says)=RE at *
      obtain ⟨tA,K⟩:∃tA,t.A=tA:=⟨_,rfl⟩;rw [K] at u t4 ⊢;clear E y d s f F N t0 t1 tl g0 g1 lg V X e0 b;generalize wr.heap.size=B5 at *
      go_loopw [2,3,29] (fun Y Z L wx=>Y = .int .i64 0∧Z = .string ⟨#[]⟩∧∃i:Nat,L = .int .i64 i∧i≤t.rels.length∧Hid (RE=zdN t.says ((t.rels.take i).map RelA.says) ((t.rels.drop i).map RelA.says))∧Below w4.heap.size w4 wx) (fun _ _ L _=>t.rels.length-(intOf L).toNat)
      case atStart=>exact ⟨rfl,rfl,0,rfl,yap _,x,Below.refl _ _⟩
      case round =>
       clear x;obtain ⟨rfl,rfl,j,rfl,hj,x,G⟩:=hrel;by_cases a7:j<t.rels.length
       · have ai:(j:Int)<(t.rels.length:Nat):=by omega
         have aj:(j:Int)≤(t.c:Nat):=by omega
         obtain ⟨r,hr⟩:∃r,t.rels[j]? = some r:=⟨t.rels[j],yal a7⟩;obtain ⟨gr,o',eA,r0,r1,r2,r3,r4,r5,a8⟩:=(J.up G).get hr;have O:=World.block_lt_of_cell? _ _ r0;dsimp only at O;rw [K] at eA;subst eA;go_upto_region 10 with (fail)
         have B:=zdy wr (.cells #[.string r.name,.string r.view,.string r.edit,.string r.check,.slice r.As r.subs.length r.cs,.slice r.Ao r.ops.length r.co] 203);have dR:=Bk.new wr #[.string r.name,.string r.view,.string r.edit,.string r.check,.slice r.As r.subs.length r.cs,.slice r.Ao r.ops.length r.co] 203;have H:=zam G G.size B;clear B a8 G r0 r1 r2 r3 r4 r5 O;generalize wr.alloc (.cells #[.string r.name,.string r.view,.string r.edit,.string r.check,.slice r.As r.subs.length r.cs,.slice r.Ao r.ops.length r.co] 203)=w5 at *
         generalize wr.heap.size=B7 at *
         obtain ⟨r0,r1,r2,r3,r4,r5⟩:=dR.c6;have rl:=dR.lt;have e4:=u.below H;obtain ⟨t0,t1⟩:=e4.c2;have tl:=e4.lt;have f:Below w5.heap.size w5 w5.drew:=⟨rfl,rfl,rfl,yaj _,fun _ _=>rfl⟩;have m:=zam H H.size f;have b:=relFault_any (t:=r) ((J.up m).pre hj);rw [K,show (t.rels.take j).length=j by rw [yaK];omega] at b;have I:=relsE_at (A:=some ⟨gr,o',none⟩) (c:=t.c) (t:=t.says) hr;go_still_tail 5,yaa
         change wpList _ _ _ _ _ (World.drew _);generalize reE ⟨⟨#[]⟩,some ⟨gr,o',none⟩,t.c,t.rels.take j⟩ r=k at *
         by_cases C:k=0
         · subst C;rw [yak (by decide)] at I;simp only [show ((0:Nat):Int)=0 from rfl] at b;go_wp2_with ((with_reducible refine b.mono ?_);rintro e w6 ⟨rfl,D⟩)
           refine ⟨⟨rfl,rfl,j + 1,by go_num,by omega,Lib.hid (by rw [x.out,I]),zam m m.size D⟩,?_⟩;simp [intOf];omega
         · have aa:¬((k:Nat):Int)=0:=by omega
           rw [yan C] at I;go_wp2_with ((with_reducible refine b.mono ?_);rintro e w6 ⟨rfl,D⟩;have P:=(dR.below f).below D;have M:=(e4.below f).below D;have p4:=M.c2.1;have p5:=M.c2.2;have pl:=M.lt;obtain ⟨s0,s1,s2,s3,s4,s5⟩:=P.c6;have sl:=P.lt)
           have Q:=path_any (w:=w6) (q:=t) (r:=r) (yax J.name hR) (yax (J.relz r (yar hr)).name hR);rw [K] at Q;refine Q.mono ?_;rintro e w8 ⟨rfl,ab⟩;go_wp2_with fail
           rw [Exit.noGoto_ret];refine bodyPost_ret (v:=.tuple #[.int .i64 (k:Nat),.string (zjk t.says r.says)]) (by simp [results,Tryz.results114,go_sem];try rfl) rfl ?_;refine ⟨?_,zam p p.size (zam z z.size (zam m m.size (zam D D.size ab)))⟩;have ac:RE.1≠0:=by rw [x.out,I];exact C
           rw [n.out,hS,yan ac,x.out,I]
       · obtain rfl:j=t.rels.length:=by omega
         have T:RE=(0,⟨#[]⟩):=by
          rw [x.out,yaA,ybV];rfl
         subst T;rw [yak (show ¬((0,⟨#[]⟩):Nat × ByteArray).1≠0 by decide)] at hS;replace hS:=Lib.hid hS;go_wp2
         refine ⟨⟨rfl,rfl,i + 1,by go_num,by omega,Lib.hid (by rw [n.out,hS.out]),zam z z.size G⟩,?_⟩;simp [intOf];omega
    · have aa:¬((k:Nat):Int)=0:=by omega
      rw [yan C] at hS;go_wp2_with ((with_reducible refine b.mono ?_);rintro e w4 ⟨rfl,s⟩;have u:=(N.below f).below s;have t4:=u.c2.1;have a6:=u.lt)
      rw [Exit.noGoto_ret];refine bodyPost_ret (v:=.tuple #[.int .i64 (k:Nat),.string t.name]) (by simp [results,Tryz.results114,go_sem];try rfl) rfl ?_;refine ⟨?_,zam p p.size (zam d d.size s)⟩;rw [n.out,hS]
  · have a2:¬(i:Int)<(l.length:Nat):=by omega
    obtain rfl:i=l.length:=by omega
    go_wp2
    refine bodyPost_ret (v:=.tuple #[.int .i64 0,.string ⟨#[]⟩]) (by simp [results,Tryz.results114,go_sem];try rfl) rfl ?_;refine ⟨?_,zam p p.size E⟩;rw [n.out,yaA,ybV];rfl
theorem namesFault_any (h:SchA w R A c l) (hR:R≤140737488351232) :
 Calls Tryz.prog 115 #[.agg #[.slice A l.length c]] w fun e w' =>
  e = .returned (.tuple #[.int .i64 ((zbH (l.map TypA.says) (l.map TypA.says)).1:Nat),.string (zbH (l.map TypA.says) (l.map TypA.says)).2])∧Below w.heap.size w w':=by
 have a7:(l.length:Int)≤9223372036854775807:=by have:=h.rows.cap;have:=h.rows.capm;simp only [maxLen] at this;omega
 obtain ⟨L,N⟩:∃L,l.map TypA.says=L:=⟨_,rfl⟩;have p:Hid (zbH L (l.map TypA.says)=zbH L ((l.drop 0).map TypA.says)):=Lib.hid rfl;rw [show zbH (l.map TypA.says) (l.map TypA.says)=zbH L (l.map TypA.says) by rw [N]];generalize zbH L (l.map TypA.says)=NE at *
 have N:=Lib.hid N;have u:=zdy w (.cells #[.slice A l.length c] 140);have P:=Bk.new w #[.slice A l.length c] 140;have h0:=h.up u;go_enter Tryz.func115,Tryz.ntmps115
 go_upto_region 1 with (fail)
 clear h;generalize w.alloc (.cells #[.slice A l.length c] 140)=w1 at *
 have x0:=P.c1;have xl:=P.lt;go_wp2_with fail
 go_step3
 go_wp2_with fail
 go_step3
 go_wp2_with fail
 go_loopw [2,3,11] (fun Q T E U=>Q = .int .i64 0∧T = .string ⟨#[]⟩∧∃i:Nat,E = .int .i64 i∧i≤l.length∧Hid (NE=zbH L ((l.drop i).map TypA.says))∧Below w1.heap.size w1 U) (fun _ _ E _=>l.length-(intOf E).toNat)
 case atStart=>exact ⟨rfl,rfl,0,rfl,yap _,p,Below.refl _ _⟩
 case round =>
  clear p x0 xl;obtain ⟨rfl,rfl,i,rfl,hi,p,x⟩:=hrel;by_cases V:i<l.length
  · have X:(i:Int)<(l.length:Nat):=by omega
    obtain ⟨t,ht⟩:∃t,l[i]? = some t:=⟨l[i],yal V⟩;obtain ⟨g,o,rfl,g0,g1,hk⟩:=(h0.up x).get ht;have lg:=World.block_lt_of_cell? _ _ g0;dsimp only at lg;go_upto_region 4 with (fail)
    have m:=zdy wr (.cells #[.string t.name,.slice t.A t.rels.length t.c] 199);have O:=Bk.new wr #[.string t.name,.slice t.A t.rels.length t.c] 199;have d:=zam x x.size m;have y:=hk.up m;clear m hk;generalize wr.alloc (.cells #[.string t.name,.slice t.A t.rels.length t.c] 199)=w4 at *
    have Y:=P.below d;obtain ⟨t0,Z⟩:=O.c2;have tl:=O.lt;have hS:=zqb (L:=L) ht;have a8:(t.rels.length:Int)≤9223372036854775807:=by have:=y.rels.cap;have:=y.rels.capm;simp only [maxLen] at this;omega
    have n:Hid (zbl L t.says (t.rels.map RelA.says)=zbl L t.says ((t.rels.drop 0).map RelA.says)):=Lib.hid rfl;generalize zbl L t.says (t.rels.map RelA.says)=RE at *
    obtain ⟨tA,B⟩:∃tA,t.A=tA:=⟨_,rfl⟩;rw [B] at O Z ⊢;go_wp2_with fail
    clear x g0 g1 lg t0 Z tl;generalize wr.heap.size=B5 at *
    go_loopw [2,3,18] (fun Q T E U=>Q = .int .i64 0∧T = .string ⟨#[]⟩∧∃i:Nat,E = .int .i64 i∧i≤t.rels.length∧Hid (RE=zbl L t.says ((t.rels.drop i).map RelA.says))∧Below w4.heap.size w4 U) (fun _ _ E _=>t.rels.length-(intOf E).toNat)
    case atStart=>exact ⟨rfl,rfl,0,rfl,yap _,n,Below.refl _ _⟩
    case round =>
     clear n;obtain ⟨rfl,rfl,j,rfl,hj,n,z⟩:=hrel;by_cases a1:j<t.rels.length
     · have aa:(j:Int)<(t.rels.length:Nat):=by omega
       obtain ⟨r,hr⟩:∃r,t.rels[j]? = some r:=⟨t.rels[j],yal a1⟩;obtain ⟨gr,o',eA,r0,r1,r2,r3,r4,r5,H⟩:=(y.up z).get hr;have I:=World.block_lt_of_cell? _ _ r0;dsimp only at I;rw [B] at eA;subst eA;go_upto_region 7 with (fail)
       have m:=zdy wr (.cells #[.string r.name,.string r.view,.string r.edit,.string r.check,.slice r.As r.subs.length r.cs,.slice r.Ao r.ops.length r.co] 203);have dR:=Bk.new wr #[.string r.name,.string r.view,.string r.edit,.string r.check,.slice r.As r.subs.length r.cs,.slice r.Ao r.ops.length r.co] 203;have b:=zam z z.size m;have D:=H.up m;clear m H z r0 r1 r2 r3 r4 r5 I;generalize wr.alloc (.cells #[.string r.name,.string r.view,.string r.edit,.string r.check,.slice r.As r.subs.length r.cs,.slice r.Ao r.ops.length r.co] 203)=w5 at *
       generalize wr.heap.size=B7 at *
       obtain ⟨r0,r1,r2,r3,r4,r5⟩:=dR.c6;have rl:=dR.lt;have e4:=O.below b;obtain ⟨t0,Z⟩:=e4.c2;have tl:=e4.lt;have e0:=Y.below b;have x0:=e0.c1;have xl:=e0.lt;have C:=relNames_any ((h0.up d).up b) (y.up b) D;rw [B,N.out] at C;have f:=znZ (l:=L) (t:=t.says) hr;generalize zdo L t.says r.says=k at *
       by_cases F:k=0
       · subst F;rw [yak (by decide)] at f;replace f:=Lib.hid f;simp only [show ((0:Nat):Int)=0 from rfl] at C;go_wp2_with ((with_reducible refine C.mono ?_);rintro e w6 ⟨rfl,s⟩)
         refine ⟨⟨rfl,rfl,j + 1,by go_num,by omega,Lib.hid (by rw [n.out,f.out]),zam b b.size s⟩,?_⟩;simp [intOf];omega
       · have ab:¬((k:Nat):Int)=0:=by omega
         rw [yan F] at f;replace f:=Lib.hid f;go_wp2_with ((with_reducible refine C.mono ?_);rintro e w6 ⟨rfl,s⟩;have J:=dR.below s;have G:=e4.below s;have p4:=G.c2.1;have p5:=G.c2.2;have pl:=G.lt;obtain ⟨s0,s1,s2,s3,s4,s5⟩:=J.c6;have sl:=J.lt)
         have K:=path_any (w:=w6) (q:=t) (r:=r) (yax y.name hR) (yax D.name hR);rw [B] at K;refine K.mono ?_;rintro e w8 ⟨rfl,a2⟩;go_wp2_with fail
         rw [Exit.noGoto_ret];refine bodyPost_ret (v:=.tuple #[.int .i64 (k:Nat),.string (zjk t.says r.says)]) (by simp [results,Tryz.results115,go_sem];try rfl) rfl ?_;refine ⟨?_,zam u u.size (zam d d.size (zam b b.size (zam s s.size a2)))⟩;have a6:RE.1≠0:=by rw [n.out,f.out];exact F
         rw [p.out,hS,yan a6,n.out,f.out]
     · obtain rfl:j=t.rels.length:=by omega
       have M:RE=(0,⟨#[]⟩):=by
        rw [n.out,ybV];rfl
       subst M;rw [yak (show ¬((0,⟨#[]⟩):Nat × ByteArray).1≠0 by decide)] at hS;replace hS:=Lib.hid hS;go_wp2
       refine ⟨⟨rfl,rfl,i + 1,by go_num,by omega,Lib.hid (by rw [p.out,hS.out]),zam d d.size z⟩,?_⟩;simp [intOf];omega
  · have X:¬(i:Int)<(l.length:Nat):=by omega
    obtain rfl:i=l.length:=by omega
    go_wp2
    refine bodyPost_ret (v:=.tuple #[.int .i64 0,.string ⟨#[]⟩]) (by simp [results,Tryz.results115,go_sem];try rfl) rfl ?_;refine ⟨?_,zam u u.size x⟩;rw [p.out,ybV];rfl
theorem check_any (h:SchA w R A c l) (hR:R≤140737488351232) :
 Calls Tryz.prog 74 #[.agg #[.slice A l.length c]] w fun e w' =>
  e = .returned (.tuple #[.int .i64 ((zcV (l.map TypA.says)).1:Nat),.string (zcV (l.map TypA.says)).2])∧Below w.heap.size w w':=by
 have b:=zdy w (.cells #[.slice A l.length c] 140);have s:=Bk.new w #[.slice A l.length c] 140;have o:=h.up b;have f:zcV (l.map TypA.says)=if 8<l.length then (13,⟨#[]⟩) else if (zdb [] (l.map TypA.says)).1≠0 then zdb [] (l.map TypA.says) else zbH (l.map TypA.says) (l.map TypA.says):=by
  unfold zcV;rw [yay]
 by_cases p:8<l.length
 · have j:(8:Int)<(l.length:Nat):=by omega
   rw [yan p] at f;rw [f];go_enter Tryz.func74,Tryz.ntmps74
   go_wp2
   refine bodyPost_ret (v:=.tuple #[.int .i64 13,.string ⟨#[]⟩]) (by simp [results,Tryz.results74,go_sem];try rfl) rfl ?_;exact ⟨rfl,b⟩
 · have j:¬(8:Int)<(l.length:Nat):=by omega
   rw [yak p] at f;have g:=partsFault_any o hR;generalize zdb [] (l.map TypA.says)=T at *
   by_cases k:T.1≠0
   · rw [yan k] at f;rw [f];have u:¬((T.1:Nat):Int)=0:=by omega
     clear f;go_enter Tryz.func74,Tryz.ntmps74
     go_wp2_with (with_reducible refine g.mono ?_;rintro e x ⟨rfl,d⟩)
     refine bodyPost_ret (v:=.tuple #[.int .i64 (T.1:Nat),.string T.2]) (by simp [results,Tryz.results74,go_sem];try rfl) rfl ?_;exact ⟨rfl,zam b b.size d⟩
   · rw [yak k] at f;rw [f];have m:T.1=0:=by omega
     rw [m] at g;simp only [show ((0:Nat):Int)=0 from rfl] at g;clear f k;go_enter Tryz.func74,Tryz.ntmps74
     go_wp2_with (with_reducible refine g.mono ?_;rintro e x ⟨rfl,d⟩;have q:=s.below d;have y:=q.c1;have z:=q.lt)
     refine (namesFault_any (o.up d) hR).mono ?_;rintro e B ⟨rfl,n⟩;go_wp2
     refine bodyPost_ret (v:=.tuple #[.int .i64 ((zbH (l.map TypA.says) (l.map TypA.says)).1:Nat),.string (zbH (l.map TypA.says) (l.map TypA.says)).2]) (by simp [results,Tryz.results74,go_sem];try rfl) rfl ?_;exact ⟨rfl,zam b b.size (zam d d.size n)⟩
end
section
open Go.RowKit
def Rk (w:World) (b:Nat) (cs:Array Value) (t:TypeId):Prop:=w.heap[b]? = some (.cells cs t (0,0))
section
variable {w w':World} {b:Nat} {cs:Array Value} {t:TypeId}
theorem Rk.lt (h:Rk w b cs t):b<w.heap.size:=(yaO.1 h).1
theorem Rk.cell (h:Rk w b cs t) (i:Nat):w.cell? ⟨b,i,none⟩=cs[i]?:=by rw [cell_of_row _ _ _ _ _ _ h]
theorem Rk.fz (h:Rk w b cs t) (i:Nat):w.frozen? ⟨b,i,none⟩=false:=by simp [World.frozen?,show w.heap[b]? = some (.cells cs t (0,0)) from h]
theorem Rk.same (h:Rk w b cs t) (hs:w'.heap[b]? = w.heap[b]?):Rk w' b cs t:=hs.trans h
theorem Rk.new (w:World) (cs:Array Value) (t:TypeId):Rk (w.alloc (.cells cs t)) w.heap.size cs t:=heap_alloc_new w _
theorem Rk.alloc (h:Rk w b cs t) (o:Obj):Rk (w.alloc o) b cs t:=h.same (Below.heap_alloc _ _ _ h.lt)
theorem Rk.one {x:Value} (h:Rk w b #[x] t):w.cell? ⟨b,0,none⟩=some x:=h.cell 0
theorem Rk.two {x y:Value} (h:Rk w b #[x,y] t):w.cell? ⟨b,0,none⟩=some x∧w.cell? ⟨b,1,none⟩=some y:=⟨h.cell 0,h.cell 1⟩
theorem Rk.set (h:Rk w b cs t) (i:Nat) (v:Value):Rk (w.setCell ⟨b,i,none⟩ v) b (cs.setIfInBounds i v) t:=by
 have e:w.heap[b]? = some (.cells cs t (0,0)):=h;simp [Rk,World.setCell,ybx,e]
theorem Rk.other (h:Rk w b cs t) {a:Addr} (ha:b≠a.block) (v:Value):Rk (w.setCell a v) b cs t:=h.same (Below.heap_setCell _ _ _ _ ha)
end
def Stay (X:Nat→Prop) (w w':World):Prop:=w.heap.size≤w'.heap.size∧∀b,b<w.heap.size→¬X b→w'.heap[b]? = w.heap[b]?
theorem zau {w w':World} {e:TypeId} {base size n:Nat} {v:Value} {xs:List Value} (h:w.ownsRow base e size v n xs) (hk:∀j,v.ownBlock=some j→w'.heap[j]? = w.heap[j]?):w'.ownsRow base e size v n xs:=by
 refine ⟨h.1,?_⟩;rcases h.2 with d | ⟨g,cap,b,rfl,f,k,r⟩
 · exact .inl d
 · exact .inr ⟨g,cap,b,rfl,f,(hk g rfl).trans k,r⟩
theorem Stay.row {X:Nat→Prop} {w w':World} (h:Stay X w w') {e:TypeId} {base size n:Nat} {v:Value} {xs:List Value} (hr:w.ownsRow base e size v n xs) (hX:∀b,X b→b<base):w'.ownsRow base e size v n xs :=
 zau hr fun j d=>h.2 j (hr.lt j d).2 fun q=>by have:=hX j q;have:=(hr.lt j d).1;omega
end
end Go.Proofs.YtmblgnddgmfkhaaGreat
