import Derived.Deep.DeepCutAuto
import Derived.Test.YtmblgnddgmfkhaaGreatK11
import Derived.Test.YtmblgnddgmfkhaaGreatK13
set_option maxRecDepth 100000
set_option maxHeartbeats 4000000
namespace Go.Proofs.YtmblgnddgmfkhaaGreat
section
open Go.RowKit
open Go.RowKit
open Go.RowKit
variable {A:Option Addr} {c b:Nat} {l:List OpP} {txt:ByteArray}
theorem zgW (k:Nat):(sgnS k).size≤100:=by
 unfold sgnS;split
 · show 3≤100;omega
 · split <;> (show 3≤100;omega)
section
variable {w:World} {B g m bx t4 t5 t6:Nat} {gs:List Gp}
theorem act_this (hm:Mp B g m w bx t4 t5 t6) (h:Ln B w g gs) (hg:g<B) (hB:B≤w.heap.size) (hn:gs.length≤1000000) (hp:(zax gs).length≤1000000) (o:OpP) :
 Calls Tryz.prog 260 #[.agg #[.int .i64 (o.1:Nat),.string o.2.1,.string o.2.2],.pointer (some ⟨bx,0,none⟩)] w (zlJ B w g (zoU zis gs)):=by
 have b:Below w.heap.size w (w.alloc (.cells #[.int .i64 (o.1:Nat),.string o.2.1,.string o.2.2] 222)):=(Below.refl _ w).alloc (yaj _) _;have k:=put_any zis (h.below b) hg (yay hB b.size) hn hp;have n:=(hm.box.below b).cell 0;have q:=(hm.box.below b).lt;have f:Kp g B w _:=Kp.of_below (b.mono hB) g;clear h b;go_enter Tryz.func260,Tryz.ntmps260
 go_wp2_with fail
 generalize w.alloc (.cells #[.int .i64 (o.1:Nat),.string o.2.1,.string o.2.2] 222)=W at *
 refine k.mono ?_;rintro e s ⟨rfl,j,hk⟩;go_wp2_with fail
 go_returns
 exact ⟨rfl,j,f.trans hk⟩
theorem act_same (hm:Mp B g m w bx t4 t5 t6) (h:Ln B w g gs) (hg:g<B) (hB:B≤w.heap.size) (hn:gs.length≤1000000) (hp:(zax gs).length≤1000000) (o:OpP) :
 Calls Tryz.prog 262 #[.agg #[.int .i64 (o.1:Nat),.string o.2.1,.string o.2.2],.pointer (some ⟨bx,0,none⟩)] w (zlJ B w g (zoU o.2.1 gs)):=by
 have b:Below w.heap.size w (w.alloc (.cells #[.int .i64 (o.1:Nat),.string o.2.1,.string o.2.2] 222)):=(Below.refl _ w).alloc (yaj _) _;have k:=put_any o.2.1 (h.below b) hg (yay hB b.size) hn hp;have q:=(hm.box.below b).cell 0;have s:=(hm.box.below b).lt;have f:=Bk.new w #[.int .i64 (o.1:Nat),.string o.2.1,.string o.2.2] 222;have u:=f.cell 1;have lo:=f.lt;have j:Kp g B w _:=Kp.of_below (b.mono hB) g;clear h b f;go_enter Tryz.func262,Tryz.ntmps262
 go_wp2_with fail
 generalize w.alloc (.cells #[.int .i64 (o.1:Nat),.string o.2.1,.string o.2.2] 222)=W at *
 refine k.mono ?_;rintro e x ⟨rfl,n,hk⟩;go_wp2_with fail
 go_returns
 exact ⟨rfl,n,j.trans hk⟩
theorem act_via (hm:Mp B g m w bx t4 t5 t6) (h:Ln B w g gs) (hg:g<B) (hB:B≤w.heap.size) (hn:gs.length≤1000000) (hp:(zax gs).length≤1000000) (o:OpP) (h1:o.2.1.size≤1000000) (h2:o.2.2.size≤1000000) :
 Calls Tryz.prog 263 #[.agg #[.int .i64 (o.1:Nat),.string o.2.1,.string o.2.2],.pointer (some ⟨bx,0,none⟩)] w (zlJ B w g (zoU (o.2.1 ++ ⟨#[46]⟩ ++ o.2.2) gs)):=by
 have b:Below w.heap.size w (w.alloc (.cells #[.int .i64 (o.1:Nat),.string o.2.1,.string o.2.2] 222)):=(Below.refl _ w).alloc (yaj _) _;have k:=put_any (o.2.1 ++ ⟨#[46]⟩ ++ o.2.2) (h.below b) hg (yay hB b.size) hn hp;have q:=(hm.box.below b).cell 0;have s:=(hm.box.below b).lt;have f:=Bk.new w #[.int .i64 (o.1:Nat),.string o.2.1,.string o.2.2] 222;have u:=f.cell 1;have x:=f.cell 2;have lo:=f.lt;have y:¬9223372036854775807<o.2.1.size + 1:=by omega
 have z:¬9223372036854775807<o.2.1.size + 1 + o.2.2.size:=by omega
 have j:Kp g B w _:=Kp.of_below (b.mono hB) g;clear h b f;go_enter Tryz.func263,Tryz.ntmps263
 go_wp2_with fail
 generalize w.alloc (.cells #[.int .i64 (o.1:Nat),.string o.2.1,.string o.2.2] 222)=W at *
 refine k.mono ?_;rintro e A ⟨rfl,n,hk⟩;go_wp2_with fail
 go_returns
 exact ⟨rfl,n,j.trans hk⟩
theorem act_sign8 {ts:Nat} {s:ByteArray} (hm:Mp B g m w bx t4 t5 t6) (hs:Bk w ts #[.string s] 9) (hz:s.size≤100) (h:Ln B w g gs) (hg:g<B) (hB:B≤w.heap.size) (hn:gs.length≤1000000) (hp:(zax gs).length≤1000000) (o:OpP) :
 Calls Tryz.prog 258 #[.agg #[.int .i64 (o.1:Nat),.string o.2.1,.string o.2.2],.pointer (some ⟨bx,0,none⟩),.pointer (some ⟨ts,0,none⟩)] w (zlJ B w g (zmc s gs)):=by
 have b:Below w.heap.size w (w.alloc (.cells #[.int .i64 (o.1:Nat),.string o.2.1,.string o.2.2] 222)):=(Below.refl _ w).alloc (yaj _) _;have k:=join_any s (h.below b) hg (yay hB b.size) hn hp hz;have n:=(hm.box.below b).cell 0;have q:=(hm.box.below b).lt;have u:=(hs.below b).cell 0;have ls:=(hs.below b).lt;have f:Kp g B w _:=Kp.of_below (b.mono hB) g;clear h b;go_enter Tryz.func258,Tryz.ntmps258
 go_wp2_with fail
 generalize w.alloc (.cells #[.int .i64 (o.1:Nat),.string o.2.1,.string o.2.2] 222)=W at *
 refine k.mono ?_;rintro e x ⟨rfl,j,hk⟩;go_wp2_with fail
 go_returns
 exact ⟨rfl,j,f.trans hk⟩
end
theorem zcs (a b:List ByteArray):(zcb (a ++ b)).size=(zcb a).size + (zcb b).size:=by rw [zgJ,size_app]
theorem step_len (gs:List Gp) (o:OpP) (h1:o.2.1.size≤1000) (h2:o.2.2.size≤1000) :
 (zfJ gs o).length≤gs.length + 1∧(zax (zfJ gs o)).length≤(zax gs).length + 2∧(zcb (zax (zfJ gs o))).size≤(zcb (zax gs)).size + 3000:=by
 unfold zfJ;split
 · have g:(zr2 o).size≤2001:=by
    unfold zr2;split
    · show 4≤2001;omega
    · split
      · omega
      · rw [size_app,size_app];show o.2.1.size + 1 + o.2.2.size≤2001;omega
   unfold zoU;rw [zfn,yam,yam,zcs];refine ⟨yaj _,yaj _,?_⟩;show _ + (⟨#[]⟩ ++ (zr2 o ++ ⟨#[]⟩):ByteArray).size≤_;rw [size_app,size_app];show _ + (0 + ((zr2 o).size + 0))≤_;omega
 · split
   · have j:=zgW o.1;rcases ybR gs with rfl | ⟨f,b,rfl⟩
     · exact ⟨yao _,yao _,yao _⟩
     · rcases ybR f with rfl | ⟨l,a,rfl⟩
       · refine ⟨?_,?_,?_⟩ <;> (simp only [yb8,ya6];show _≤_ + _;exact Nat.le_add_right _ _)
       · simp only [yb8,yaD,yb9];rw [zhq,ziP,znf];refine ⟨by simp,?_,?_⟩
         · split <;> (simp only [yam,yat,yaE];omega)
         · rw [zcs,zcs];show _ + ((if b.2=true then sgnS o.1 ++ ⟨#[40]⟩ else sgnS o.1) ++ zcb (b.1 ++ if b.2=true then [⟨#[41]⟩] else [])).size≤_ + (⟨#[]⟩ ++ zcb b.1:ByteArray).size + 3000;rw [size_app,zcs,size_app];have k:(if b.2=true then sgnS o.1 ++ ⟨#[40]⟩ else sgnS o.1).size≤101:=by
            split
            · rw [size_app];show _ + 1≤_;omega
            · omega
           have m:(zcb (if b.2=true then [⟨#[41]⟩] else [])).size≤1:=by split <;> decide
           show _≤_ + (0 + _) + 3000;omega
   · omega
theorem zjv:∀(l:List OpP) (gs:List Gp),(∀o ∈ l,o.2.1.size≤1000∧o.2.2.size≤1000) →
 (zdO gs l).length≤gs.length + l.length∧(zax (zdO gs l)).length≤(zax gs).length + 2 * l.length∧(zcb (zax (zdO gs l))).size≤(zcb (zax gs)).size + 3000 * l.length
 | [],gs,_=>by
  show gs.length≤gs.length + 0∧(zax gs).length≤_ + 2 * 0∧(zcb (zax gs)).size≤_ + 3000 * 0;omega
 | o::r,gs,h=>by
  obtain ⟨f,g,a3⟩:=step_len gs o (h o yar).1 (h o yar).2;obtain ⟨j,k,m⟩:=zjv r (zfJ gs o) fun x b=>h x (yau _ b);show (zdO (zfJ gs o) r).length≤_∧(zax (zdO (zfJ gs o) r)).length≤_∧(zcb (zax (zdO (zfJ gs o) r))).size≤_;rw [yat];omega
theorem zn0:∀xs:List ByteArray,Lib.joinTail [] (xs.map (·.data.toList))=(zcb xs).data.toList
 | []=>rfl
 | x::r=>by
  have ih:=zn0 r;unfold Lib.joinTail at *
  rw [yaX,yaX,ybP,ih,ya6];show _=(x ++ zcb r).data.toList;rw [ByteArray.data_append,yb3]
theorem znl (xs:List ByteArray):Lib.join (xs.map (·.data.toList)) []=(zcb xs).data.toList:=by
 cases xs with
 | nil=>rfl
 | cons x r =>
  rw [yaX,Lib.join_cons,zn0];show _=(x ++ zcb r).data.toList;rw [ByteArray.data_append,yb3]
theorem zqs {w:World} {B:Nat} {xs:List ByteArray} (h:w.ownsRow B 9 1 (.slice A xs.length c) xs.length (xs.map .string)) (hz:(zcb xs).size≤1000000000) (hn:xs.length≤1000000) :
 Calls Tryz.prog 104 #[.slice A xs.length c,.string ⟨#[]⟩] w fun e w'=>e = .returned (.string (zcb xs))∧Below w.heap.size w w':=by
 rcases ybg xs.length with b | b
 · have n:=yaU b;subst n;exact (zkP A c ⟨#[]⟩ w).mono fun e w' ⟨f,k⟩=>⟨f,by subst k;exact Below.refl _ _⟩
 · obtain ⟨g,rfl,_,o,q⟩:=znE h b;refine (zhr g 0 c xs ⟨#[]⟩ w (fun j x m=>?_) o yab q ?_).mono fun e w' ⟨f,k⟩=>⟨?_,k⟩
   · rw [yaI,h.cellAt j (by have:=(yap.1 m).1;omega),yaY,m];rfl
   · rw [show (⟨#[]⟩:ByteArray).data.toList=[] from rfl,znl,ybo];exact yay hz yab
   · rw [f,show (⟨#[]⟩:ByteArray).data.toList=[] from rfl,znl]
theorem zgf {α:Type} {l:List α} {i:Nat} {x:α} (h:l[i]? = some x):l.take (i + 1)=l.take i ++ [x]:=by
 rw [yaC,h];rfl
theorem zou (gs:List Gp) (l:List OpP) (o:OpP):zdO gs (l ++ [o])=zfJ (zdO gs l) o:=by unfold zdO;rw [ycn];rfl
theorem zdk {f:FuncId} {fn:Func} (hf:Tryz.prog.funcs[f]? = some fn) (hname:(fn.name == "runtime.NumGoroutine")=false) (hb:fn.body.isNone=false) (args:Array Value) (W:World):(callFunc f args).run Tryz.prog W = .ok (.enter f args) W:=by
 have b:¬fn.name="runtime.NumGoroutine":=by
  intro e;rw [e] at hname;exact absurd hname yac
 have g:¬fn.body=none:=by
  intro e;rw [e] at hb;cases hb
 simp [callFunc,hf,b,g,Result.andThen]
theorem act_k {w:World} {B g m bx t4 t5 t6:Nat} {gs:List Gp} {o:OpP} (hm:Mp B g m w bx t4 t5 t6) (h:Ln B w g gs) (hg:g<B) (hB:B≤w.heap.size) (hn:gs.length≤1000000) (hp:(zax gs).length≤1000000) (h1:o.2.1.size≤1000) (h2:o.2.2.size≤1000) :
 (¬(1≤o.1∧o.1≤6)∧zfJ gs o=gs)∨∃f caps i,((actL bx t4 t5 t6).zipIdx 0).find? (fun q=>decide ((q.1.1:Int)=(o.1:Int)))=some ((o.1,fnV f caps),i)∧(∀args W,(callFunc f args).run Tryz.prog W = .ok (.enter f args) W)∧Calls Tryz.prog f (#[.agg #[.int .i64 (o.1:Nat),.string o.2.1,.string o.2.2]] ++ caps) w (zlJ B w g (zfJ gs o)):=by
 by_cases hk:1≤o.1∧o.1≤6
 · refine .inr ?_;have b:o.1=1∨o.1=2∨o.1=3∨o.1=4∨o.1=5∨o.1=6:=by omega
   obtain ⟨k,n,q⟩:=o;dsimp only at *
   rcases b with rfl | rfl | rfl | rfl | rfl | rfl
   · exact ⟨_,_,_,rfl,zdk Tryz.func260 yaa yaa,act_this hm h hg hB hn hp (1,n,q)⟩
   · exact ⟨_,_,_,rfl,zdk Tryz.func262 yaa yaa,act_same hm h hg hB hn hp (2,n,q)⟩
   · exact ⟨_,_,_,rfl,zdk Tryz.func263 yaa yaa,act_via hm h hg hB hn hp (3,n,q) yah yah⟩
   · exact ⟨_,_,_,rfl,zdk Tryz.func258 yaa yaa,act_sign8 hm hm.s4 (zgW 4) h hg hB hn hp (4,n,q)⟩
   · exact ⟨_,_,_,rfl,zdk Tryz.func258 yaa yaa,act_sign8 hm hm.s5 (zgW 5) h hg hB hn hp (5,n,q)⟩
   · exact ⟨_,_,_,rfl,zdk Tryz.func258 yaa yaa,act_sign8 hm hm.s6 (zgW 6) h hg hB hn hp (6,n,q)⟩
 · refine .inl ⟨hk,?_⟩;unfold zfJ;rw [yak yab,yak (by omega)]
theorem ln_new (B:Nat) (w:World):Ln B (w.alloc (.cells #[.slice none 0 0,.slice none 0 0] 350)) w.heap.size []:=⟨none,0,none,0,Bk.new w _ _,World.ownsRow_nil _ _ _ _,World.ownsRow_nil _ _ _ _⟩
theorem rewrite_any {w:World} (hr:Rd w w.heap.size 3 A l.length c (zbS l)) (hn:l.length≤100000) (hs:∀o ∈ l,o.2.1.size≤1000∧o.2.2.size≤1000) :
 Calls Tryz.prog 181 #[.slice A l.length c] w fun e w'=>e = .returned (.string (rewS l))∧Below w.heap.size w w':=by
 have HS:=Lib.hid hs;go_enter Tryz.func181,Tryz.ntmps181
 go_wp2_with fail
 have g:Below w.heap.size w (w.alloc (.cells #[.slice none 0 0,.slice none 0 0] 350)):=(Below.refl _ w).alloc (yaj _) _;have E:=fun B=>ln_new B w;have x:w.heap.size<(w.alloc (.cells #[.slice none 0 0,.slice none 0 0] 350)).heap.size:=by simp
 have k:=does_any _ w.heap.size x;generalize w.alloc (.cells #[.slice none 0 0,.slice none 0 0] 350)=W0 at *
 refine k.mono ?_;rintro e F ⟨⟨m,bx,t4,t5,t6,rfl,P⟩,q⟩;have G:=(E F.heap.size).below q;have H:=g.trans (q.mono g.size);have I:w.heap.size<F.heap.size:=yas x q.size;have s:=hr.below H;clear k E g x q;go_wp2_with fail
 go_loopw [15] (fun T wr=>∃i:Nat,T = .int .i64 i∧i≤l.length∧Ln F.heap.size wr w.heap.size (zdO [] (l.take i))∧Kp w.heap.size F.heap.size F wr) (fun T _=>l.length-(intOf T).toNat)
 case atStart=>exact ⟨0,rfl,yao _,G,Kp.refl _ _ _⟩
 case round =>
  clear G;obtain ⟨i,rfl,hi,u,J⟩:=hrel;obtain ⟨U,Q,R⟩:=zjv (l.take i) [] fun o K=>HS.out o (ybW K);have V:(l.take i).length=i:=by rw [yaN];omega
  rw [V] at U Q R;replace U:(zdO [] (l.take i)).length≤0 + i:=U;replace Q:(zax (zdO [] (l.take i))).length≤0 + 2 * i:=Q;replace R:(zcb (zax (zdO [] (l.take i)))).size≤0 + 3000 * i:=R;by_cases X:i<l.length
  · obtain ⟨o,K⟩:∃o,l[i]? = some o:=⟨l[i],yal X⟩;have L:=HS.out o (yaq K);have M:zdO [] (l.take (i + 1))=zfJ (zdO [] (l.take i)) o:=by rw [zgf K,zou]
    have y:=s.keep fun p hp=>(by unfold World.cell?;rw [J.block p.block yab (by omega)]);obtain ⟨b,f,rfl,aa,Y⟩:=y.at_ yab;obtain ⟨e0,e1,e2⟩:=zk5 l i o K;have q0:=Y _ _ e0;have q1:wr.cell? ⟨b,f + i * 3 + 1,none⟩=_:=Y _ _ e1;have q2:wr.cell? ⟨b,f + i * 3 + 2,none⟩=_:=Y _ _ e2;have Z:(i:Int)<(l.length:Nat):=by omega
    have g:Below wr.heap.size wr (wr.alloc (.cells #[.int .i64 (o.1:Nat),.string o.2.1,.string o.2.2] 222)):=(Below.refl _ wr).alloc (yaj _) _;have hz:=J.size;have z:=Bk.new wr #[.int .i64 (o.1:Nat),.string o.2.1,.string o.2.2] 222;have n:=(P.kp J).kp (Kp.of_below (g.mono hz) w.heap.size);have C:=act_k (o:=o) n (u.below g) I (yay hz g.size) yab yab L.1 L.2;have N:=J.trans (Kp.of_below (g.mono hz) w.heap.size);have z0:World.cell? _ ⟨wr.heap.size,0,none⟩=some (.int .i64 (o.1:Nat)):=z.cell 0;have z1:World.cell? _ ⟨wr.heap.size,1,none⟩=some (.string o.2.1):=z.cell 1;have z2:World.cell? _ ⟨wr.heap.size,2,none⟩=some (.string o.2.2):=z.cell 2;rcases C with ⟨hk,he⟩ | ⟨fn,O,j,hf,ab,D⟩
    · have a1:=look_no n hk;clear P n hr s y hs;go_wp2_with fail
      refine ⟨⟨i + 1,by go_num,by omega,?_,N⟩,?_⟩
      · rw [M,he];exact u.below g
      · simp only [intOf];omega
    · have a1:=zqO n o.1 j fn O hf;clear P n hr s y hs;go_wp2_with fail
      refine D.mono ?_;rintro e W2 ⟨rfl,a2,a6⟩;go_wp2_with fail
      refine ⟨⟨i + 1,by go_num,by omega,?_,N.trans a6⟩,?_⟩
      · rw [M];exact a2
      · simp only [intOf];omega
  · obtain rfl:i=l.length:=by omega
    have Z:¬(l.length:Int)<(l.length:Nat):=by omega
    rw [yaz] at u Q R;have a7:zcb (zax (zdO [] l))=rewS l:=rfl;obtain ⟨Ap,cp,Aq,cq,u⟩:=u;have x0:wr.cell? ⟨w.heap.size,0,none⟩=some (.slice Ap (zax (zdO [] l)).length cp):=u.cells.cell 0;have lg:=u.cells.lt;have kj:=zqs u.ps yab yab;rw [a7] at kj;clear u P s;go_wp2_with fail
    refine kj.mono ?_;rintro e W2 ⟨rfl,a8⟩;go_wp2_with fail
    go_returns
    exact ⟨rfl,(H.trans (Kp.below J (ya5 I) (yaj _))).trans (a8.mono (ya5 lg))⟩
def zki (s:zdT):ByteArray:=if s.2=⟨#[]⟩ then s.1 else s.1 ++ ⟨#[35]⟩ ++ s.2
def zit (sep:ByteArray):List ByteArray→ByteArray
 | []=>⟨#[]⟩
 | x::r=>sep ++ x ++ zit sep r
def zoD (sep:ByteArray):List ByteArray→ByteArray
 | []=>⟨#[]⟩
 | x::r=>x ++ zit sep r
def zrY (l:List zdT):ByteArray:=zoD ⟨#[44,32]⟩ (l.map zki)
def ziy (l:List OpP):Bool:=match l with
 | [o]=>o.1 == 1
 | _=>false
def zl8 (x:RelP):ByteArray:=(⟨#[114,101,108,32]⟩:ByteArray) ++ x.name ++ ⟨#[32,40]⟩ ++ x.view ++ ⟨#[44,32]⟩ ++ x.edit ++ ⟨#[44,32]⟩ ++ x.check ++ ⟨#[41,58]⟩
def whoS (x:RelP):ByteArray:=if x.subs.length=0 then zl8 x else zl8 x ++ (⟨#[32]⟩ ++ zrY x.subs)
def relS (x:RelP):ByteArray:=(if ziy x.ops=true then whoS x else whoS x ++ (⟨#[32,105,115,32]⟩ ++ rewS x.ops)) ++ ⟨#[59]⟩
structure Sml (x:RelP):Prop where
 name:x.name.size≤1000
 view:x.view.size≤1000
 edit:x.edit.size≤1000
 check:x.check.size≤1000
 subs:x.subs.length≤100000∧∀s ∈ x.subs,s.1.size≤1000∧s.2.size≤1000
 ops:x.ops.length≤100000∧∀o ∈ x.ops,o.2.1.size≤1000∧o.2.2.size≤1000
theorem znY {s:zdT} (h1:s.1.size≤1000) (h2:s.2.size≤1000):(zki s).size≤2001:=by
 unfold zki;split
 · omega
 · rw [size_app,size_app];show s.1.size + 1 + s.2.size≤2001;omega
theorem zlx (sep:ByteArray) (hs:sep.size≤2):∀l:List ByteArray,(∀x ∈ l,x.size≤2001)→(zit sep l).size≤2003 * l.length
 | [],_=>yaj _
 | x::r,h=>by
  show (sep ++ x ++ zit sep r).size≤_;have:=zlx sep hs r fun y b=>h y (yau _ b);have:=h x yar;rw [size_app,size_app,yat];omega
theorem zh5 {l:List zdT} (h:∀s ∈ l,s.1.size≤1000∧s.2.size≤1000):(zrY l).size≤2003 * l.length:=by
 cases l with
 | nil=>exact yaj _
 | cons s r =>
  show (zki s ++ zit _ (r.map zki)).size≤_;have j:=znY (h s yar).1 (h s yar).2;have f:=zlx ⟨#[44,32]⟩ yac (r.map zki) fun x g=>by
   obtain ⟨y,b,rfl⟩:=yaH.1 g;exact znY (h y (yau _ b)).1 (h y (yau _ b)).2
  rw [yax] at f;rw [size_app,yat];omega
theorem znS (h:∀o ∈ l,o.2.1.size≤1000∧o.2.2.size≤1000):(rewS l).size≤3000 * l.length:=by
 have:=(zjv l [] h).2.2;have e:(zcb (zax [])).size=0:=rfl;rw [e] at this;unfold rewS;omega
theorem zkd {x:RelP} (h:Sml x):(zl8 x).size≤4100∧(whoS x).size≤4101 + 2003 * x.subs.length:=by
 have f:=h.name;have g:=h.view;have j:=h.edit;have k:=h.check;have b:(zl8 x).size≤4100:=by
  unfold zl8;simp only [size_app];show 4 + _ + 2 + _ + 2 + _ + 2 + _ + 2≤_;omega
 refine ⟨b,?_⟩;unfold whoS;split
 · omega
 · have:=zh5 h.subs.2;rw [size_app,size_app];show _ + (1 + _)≤_;omega
theorem znZ (sep:ByteArray):∀xs:List ByteArray,Lib.joinTail sep.data.toList (xs.map (·.data.toList))=(zit sep xs).data.toList
 | []=>rfl
 | x::r=>by
  have ih:=znZ sep r;unfold Lib.joinTail at *
  rw [yaX,yaX,ybP,ih];show _=(sep ++ x ++ zit sep r).data.toList;rw [ByteArray.data_append,ByteArray.data_append,yb3,yb3]
theorem zgM (sep:ByteArray) (xs:List ByteArray):Lib.join (xs.map (·.data.toList)) sep.data.toList=(zoD sep xs).data.toList:=by
 cases xs with
 | nil=>rfl
 | cons x r =>
  rw [yaX,Lib.join_cons,znZ];show _=(x ++ zit sep r).data.toList;rw [ByteArray.data_append,yb3]
theorem zqr {w:World} {B:Nat} {xs:List ByteArray} (sep:ByteArray) (h:w.ownsRow B 9 1 (.slice A xs.length c) xs.length (xs.map .string)) (hz:(zoD sep xs).size≤1000000000) (hn:xs.length≤1000000) :
 Calls Tryz.prog 104 #[.slice A xs.length c,.string sep] w fun e w'=>e = .returned (.string (zoD sep xs))∧Below w.heap.size w w':=by
 rcases ybg xs.length with b | b
 · have n:=yaU b;subst n;exact (zkP A c sep w).mono fun e w' ⟨f,k⟩=>⟨f,by subst k;exact Below.refl _ _⟩
 · obtain ⟨g,rfl,_,o,q⟩:=znE h b;refine (zhr g 0 c xs sep w (fun j x m=>?_) o yab q ?_).mono fun e w' ⟨f,k⟩=>⟨?_,k⟩
   · rw [yaI,h.cellAt j (by have:=(yap.1 m).1;omega),yaY,m];rfl
   · rw [zgM,ybo];exact yay hz yab
   · rw [f,zgM]
section
variable {w:World}
theorem sub_any8 (s:zdT) (h1:s.1.size≤1000) (h2:s.2.size≤1000):Calls Tryz.prog 228 #[.agg #[.string s.1,.string s.2]] w fun e w'=>e = .returned (.string (zki s))∧Below w.heap.size w w':=by
 have hb:=Bk.new w #[.string s.1,.string s.2] 246;have g:=hb.cell 0;have j:=hb.cell 1;have k:=hb.lt;have f:Below w.heap.size w (w.alloc (.cells #[.string s.1,.string s.2] 246)):=(Below.refl _ w).alloc (yaj _) _;clear hb;unfold zki;by_cases b:s.2=⟨#[]⟩
 · rw [yan b];have d:s.2.toList.isEmpty=true:=by rw [b];decide +kernel
   clear b;go_enter Tryz.func228,Tryz.ntmps228
   go_wp2_with fail
   go_returns
   exact ⟨rfl,f⟩
 · rw [yak b];have d:s.2.toList.isEmpty=false:=zjM (by
    rcases ybg s.2.size with h | h
    · exact absurd (zjO h) b
    · exact h)
   go_enter Tryz.func228,Tryz.ntmps228
   go_wp2_with fail
   go_returns
   exact ⟨rfl,f⟩
theorem subs_any8 {l:List zdT} (hr:Rd w w.heap.size 2 A l.length c (zdl l)) (hn:l.length≤100000) (hs:∀s ∈ l,s.1.size≤1000∧s.2.size≤1000) :
 Calls Tryz.prog 179 #[.slice A l.length c] w fun e w'=>e = .returned (.string (zrY l))∧Below w.heap.size w w':=by
 have M:=Lib.hid hs;go_enter Tryz.func179,Tryz.ntmps179
 go_wp2_with fail
 go_loopw [3,8] (fun R C wr=>∃i:Nat,C = .int .i64 i∧i≤l.length∧wr.ownsRow w.heap.size 9 1 R i (((l.take i).map zki).map .string)∧Below w.heap.size w wr) (fun _ C _=>l.length-(intOf C).toNat)
 case atStart=>exact ⟨0,rfl,yao _,World.ownsRow_nil _ _ _ _,Below.refl _ _⟩
 case round =>
  obtain ⟨i,rfl,hi,q,hb⟩:=hrel;obtain ⟨N,O,rfl,_⟩:=Rd.own q;by_cases D:i<l.length
  · obtain ⟨s,m⟩:∃s,l[i]? = some s:=⟨l[i],yal D⟩;obtain ⟨T,U⟩:=M.out s (yaq m);have u:=hr.below hb;obtain ⟨b,f,rfl,V,P⟩:=u.at_ yab;obtain ⟨X,Y⟩:=zlu l i s m;have Z:=P _ _ X;have q1:wr.cell? ⟨b,f + i * 2 + 1,none⟩=_:=P _ _ Y;have E:(i:Int)<(l.length:Nat):=by omega
    have F:=hb.size;have k:=Bk.new wr #[.string s.1,.string s.2] 246;have x0:World.cell? _ ⟨wr.heap.size,0,none⟩=some (.string s.1):=k.cell 0;have x1:World.cell? _ ⟨wr.heap.size,1,none⟩=some (.string s.2):=k.cell 1;have lb:=k.lt;have g:=hb.alloc F (.cells #[.string s.1,.string s.2] 246);have x:=zao q ((Below.refl _ wr).alloc (yaj _) (.cells #[.string s.1,.string s.2] 246));have ht:(l.take (i + 1)).map zki=(l.take i).map zki ++ [zki s]:=by rw [zgf m,yaM];rfl
    clear hr u hs k q hb;go_wp2_with fail
    generalize wr.alloc (.cells #[.string s.1,.string s.2] 246)=W at *
    refine (sub_any8 s T U).mono ?_;rintro e W2 ⟨rfl,n⟩;have y:=g.trans (n.mono g.size);have z:=zao x n;have o:=y.size;obtain ⟨i0,G,H,I,J⟩:=info_parts zjB;clear g n x x0 x1 Z q1;go_wp2_with (at_builtin;refine zab _ rfl (.tmp 12) (.tmp 15) 46 46 rfl w.heap.size 9 i0 (.string .empty) 1 16 Tryz.underlying46 G H I J rfl yac _ i (((l.take i).map zki).map .string) rfl (World.ownsRow.alloc z _) _ 1 [.string (zki s)] rfl (Src.ofSlice _ Tryz.underlying46 _ 1 1 _ rfl (zha _ _ _) (zmL [zki s])) yad yab (size_alloc o) ?_;intro v1 W5 j K Q;obtain ⟨A5,c5,rfl,_⟩:=Rd.own j)
    refine ⟨⟨i + 1,by go_num,by omega,?_,?_⟩,?_⟩
    · rw [ht,yaM];exact j
    · exact zae (v:=.slice N i O) (y.alloc o _) K (World.ownsRow.alloc z _) (size_alloc o) (yaj _)
    · simp only [intOf];omega
  · obtain rfl:i=l.length:=by omega
    have E:¬(l.length:Int)<(l.length:Nat):=by omega
    rw [yaz] at q;have L:(l.map zki).length=l.length:=yax ..;have a1:=zh5 M.out;have kj:=zqr (w:=wr) (B:=w.heap.size) (A:=N) (c:=O) (xs:=l.map zki) ⟨#[44,32]⟩ (by rw [L];exact q) (by show (zrY l).size≤_;omega) yab;rw [L,show zoD ⟨#[44,32]⟩ (l.map zki)=zrY l from rfl] at kj;have F:=hb.size;clear q hr hs L;go_wp2_with fail
    refine kj.mono ?_;rintro e W2 ⟨rfl,g⟩;go_wp2_with fail
    go_returns
    exact ⟨rfl,hb.trans (g.mono F)⟩
theorem alone_any8 (hr:Rd w w.heap.size 3 A l.length c (zbS l)) :
 Calls Tryz.prog 180 #[.slice A l.length c] w fun e w'=>e = .returned (.bool (ziy l))∧Below w.heap.size w w':=by
 rcases l with _ | ⟨o,_ | ⟨g,r⟩⟩
 · go_enter Tryz.func180,Tryz.ntmps180
   go_wp2_with fail
   go_returns
   exact ⟨rfl,Below.refl _ _⟩
 · obtain ⟨b,f,rfl,s,j⟩:=hr.at_ (show 0<1 by omega);have u:w.cell? ⟨b,f,none⟩=some (.int .i64 (o.1:Nat)):=j 0 _ rfl;have m:ziy [o]=(((o.1:Nat):Int) == 1):=by
    show (o.1 == 1)=_;rw [ya9];simp only [ybY];omega
   rw [m];clear hr j m;obtain ⟨k,hk⟩:∃k:Int,((o.1:Nat):Int)=k:=⟨_,rfl⟩;rw [hk] at u ⊢;go_enter Tryz.func180,Tryz.ntmps180
   go_wp2_with fail
   go_returns
   exact ⟨rfl,Below.refl _ _⟩
 · have d:((((o::g::r).length:Nat):Int) == 1)=false:=by
    rw [ybh];simp only [yat];omega
   obtain ⟨n,q⟩:∃n,(o::g::r).length=n:=⟨_,rfl⟩;rw [q] at d ⊢;clear hr q;go_enter Tryz.func180,Tryz.ntmps180
   go_wp2_with fail
   go_returns
   exact ⟨rfl,Below.refl _ _⟩
def relV (As:Option Addr) (cS:Nat) (Ao:Option Addr) (cO:Nat) (x:RelP):Value:=.agg #[.string x.name,.string x.view,.string x.edit,.string x.check,.slice As x.subs.length cS,.slice Ao x.ops.length cO]
theorem relation_any8 {As Ao:Option Addr} {cS cO:Nat} {x:RelP} (hs:Rd w w.heap.size 2 As x.subs.length cS (zdl x.subs)) (ho:Rd w w.heap.size 3 Ao x.ops.length cO (zbS x.ops)) (hx:Sml x) :
 Calls Tryz.prog 128 #[relV As cS Ao cO x] w fun e w'=>e = .returned (.string (relS x))∧Below w.heap.size w w':=by
 have X:=hx.name;have Y:=hx.view;have Z:=hx.edit;have h4:=hx.check;have N:=(zkd hx).1;have h6:=(zkd hx).2;have O:=hx.subs.1;have J:=hx.ops.1;have h9:=zh5 hx.subs.2;have P:=znS hx.ops.2;unfold relV;have hb:=Bk.new w #[.string x.name,.string x.view,.string x.edit,.string x.check,.slice As x.subs.length cS,.slice Ao x.ops.length cO] 203;have y:Below w.heap.size w (w.alloc (.cells #[.string x.name,.string x.view,.string x.edit,.string x.check,.slice As x.subs.length cS,.slice Ao x.ops.length cO] 203)):=(Below.refl _ w).alloc (yaj _) _;have K:Hid (zl8 x=(⟨#[114,101,108,32]⟩:ByteArray) ++ x.name ++ ⟨#[32,40]⟩ ++ x.view ++ ⟨#[44,32]⟩ ++ x.edit ++ ⟨#[44,32]⟩ ++ x.check ++ ⟨#[41,58]⟩):=Lib.hid rfl;have b0:=hb.cell 0;have b1:=hb.cell 1;have b2:=hb.cell 2;have b3:=hb.cell 3;have b4:=hb.cell 4;have L:=hb.cell 5;have D:=hb.lt;have F:=hs.below y;have o:=ho.below y;have Q:=hx.subs.2;have M:=hx.ops.2;have k:=y.size;clear hs ho hx hb;obtain ⟨RS,q⟩:∃r,relS x=r:=⟨_,rfl⟩;rw [q];have g:∀b,ziy x.ops=b→(if b=true then whoS x else whoS x ++ (⟨#[32,105,115,32]⟩ ++ rewS x.ops)) ++ ⟨#[59]⟩=RS:=fun b hb=>by rw [←q,←hb];rfl
 clear q;generalize hw:whoS x=WS at *
 unfold whoS at hw;go_enter Tryz.func128,Tryz.ntmps128
 by_cases E:x.subs.length=0
 · rw [yan E] at hw;have d:¬(0:Int)<(x.subs.length:Nat):=by omega
   clear E;go_wp2_with fail
   rw [←K.out,hw];generalize (w.alloc (.cells #[.string x.name,.string x.view,.string x.edit,.string x.check,.slice As x.subs.length cS,.slice Ao x.ops.length cO] 203))=W at *
   refine (alone_any8 (o.more k)).mono ?_;rintro e V ⟨rfl,m⟩;have G:=(m.cell (p:=⟨w.heap.size,5,none⟩) D).trans L;have H:w.heap.size<V.heap.size:=yas D m.size;have s:=((o.more k).below m).more m.size;have j:=y.trans (m.mono k);cases n:ziy x.ops with
   | true =>
    have f:=g _ n;simp only [↓reduceIte] at f;subst f;clear g;go_wp2_with fail
    go_returns
    exact ⟨rfl,j⟩
   | false =>
    have f:=g _ n;simp only [ycj,↓reduceIte] at f;subst f;clear g;go_wp2_with fail
    refine (rewrite_any s J M).mono ?_;rintro e R ⟨rfl,u⟩;go_wp2_with fail
    go_returns
    exact ⟨rfl,j.trans (u.mono j.size)⟩
 · rw [yak E] at hw;have d:(0:Int)<(x.subs.length:Nat):=by omega
   clear E;go_wp2_with fail
   rw [←K.out];have T:=N;generalize zl8 x=HD at *
   generalize (w.alloc (.cells #[.string x.name,.string x.view,.string x.edit,.string x.check,.slice As x.subs.length cS,.slice Ao x.ops.length cO] 203))=W at *
   refine (subs_any8 (F.more k) O Q).mono ?_;rintro e U ⟨rfl,z⟩;have I:=(z.cell (p:=⟨w.heap.size,5,none⟩) D).trans L;have A:w.heap.size<U.heap.size:=yas D z.size;have B:=((o.more k).below z).more z.size;have C:=y.trans (z.mono k);go_wp2_with fail
   refine (alone_any8 B).mono ?_;rintro e V ⟨rfl,m⟩;have G:=(m.cell (p:=⟨w.heap.size,5,none⟩) A).trans I;have H:w.heap.size<V.heap.size:=yas A m.size;have s:=(B.below m).more m.size;have j:=C.trans (m.mono C.size);cases n:ziy x.ops with
   | true =>
    have f:=g _ n;simp only [↓reduceIte] at f;subst f;clear g;go_wp2_with fail
    go_returns
    exact ⟨rfl,j⟩
   | false =>
    have f:=g _ n;simp only [ycj,↓reduceIte] at f;subst f;clear g;go_wp2_with fail
    refine (rewrite_any s J M).mono ?_;rintro e R ⟨rfl,u⟩;go_wp2_with fail
    go_returns
    exact ⟨rfl,j.trans (u.mono j.size)⟩
end
def ze5 (x:RelP):ByteArray:=(⟨#[9]⟩:ByteArray) ++ relS x ++ ⟨#[10]⟩
def topS (t:TypP):ByteArray:=(⟨#[116,121,112,101,32]⟩:ByteArray) ++ t.name ++ ⟨#[32,123,10]⟩
def zlH (t:TypP):ByteArray:=topS t ++ zcb (t.rels.map ze5) ++ ⟨#[125,10]⟩
def zdE (T:List TypP):ByteArray:=zcb (T.map zlH)
theorem cat_at {α:Type} (f:α→ByteArray) {l:List α} {i:Nat} {x:α} (h:l[i]? = some x):zcb ((l.take (i + 1)).map f)=zcb ((l.take i).map f) ++ f x∧(zcb ((l.take i).map f)).size + (f x).size≤(zcb (l.map f)).size:=by
 have e:zcb ((l.take (i + 1)).map f)=zcb ((l.take i).map f) ++ f x:=by
  rw [zgf h,yaM,zgJ];show _ ++ (f x ++ ⟨#[]⟩)=_;rw [zpE]
 refine ⟨e,?_⟩;have b:zcb (l.map f)=zcb ((l.take (i + 1)).map f) ++ zcb ((l.drop (i + 1)).map f):=by rw [←zgJ,←yaM,ybk]
 rw [b,e,size_app,size_app];omega
def Bld (b:Nat) (txt:ByteArray) (w:World):Prop:=Lib.IsBuilderF 231 5 b b (Lib.byteCells txt.data.toList) w
theorem Bld.below {w w':World} (h:Bld b txt w) (hb:Below w.heap.size w w'):Bld b txt w':=by
 have key:∀p,Lib.BuilderAtF 231 5 b b p (Lib.byteCells txt.data.toList) w→Lib.BuilderAtF 231 5 b b p (Lib.byteCells txt.data.toList) w':=by
  rintro p ⟨n,v,m,o,q⟩;have f:b<w.heap.size:=(yaR.1 m).1;refine ⟨n,v,(hb.block b f).trans m,?_,q⟩;obtain ⟨s,j⟩:=o;refine ⟨s,?_⟩;rcases j with j | ⟨g,cap,k,u,a3,a4,a5,x⟩
  · exact .inl j
  · exact .inr ⟨g,cap,k,u,a3,a4,(hb.block g (yaR.1 a5).1).trans a5,x⟩
 exact h.imp (key _) (key _)
theorem zlP {w:World} (s:ByteArray) (h:Bld b txt w) (hz:txt.size + s.size≤100000000000000) (hb:b≤w.heap.size) :
 Calls Tryz.prog 127 #[.pointer (some ⟨b,0,none⟩),.string s] w fun e w'=>e = .returned (.tuple #[.int .i64 s.size,.nilIface])∧Bld b (txt ++ s) w'∧Below b w w'∧Lib.OthersKept 5 (some b) w w':=by
 refine (zog b b _ s w h (by rw [Lib.byteCells_length,ybo];show txt.size + s.size≤_;omega) hb).mono ?_;rintro e w' ⟨rfl,f,g,j⟩;refine ⟨rfl,.inr ?_,g,j⟩;have:Lib.byteCells (txt ++ s).data.toList=Lib.byteCells txt.data.toList ++ Lib.strCells s:=by
  unfold Lib.byteCells Lib.strCells;rw [ByteArray.data_append,yb3,yaM]
 rw [this];exact f
theorem bstring8 {w:World} (h:Bld b txt w) (hb:b≤w.heap.size) :
 Calls Tryz.prog 129 #[.pointer (some ⟨b,0,none⟩)] w fun e w'=>e = .returned (.string txt)∧Below b w w':=by
 refine (zlO b b _ w h hb).mono ?_;rintro e w' ⟨rfl,g,f,j⟩;exact ⟨rfl,f⟩
theorem kept_bk {k:Nat} {w w':World} {cs:Array Value} {t:TypeId} (h:Lib.OthersKept 5 (some b) w w') (hk:Bk w k cs t) (hne:k≠b) (ht:t≠5):Bk w' k cs t :=
 h k _ hk (fun e=>hne (by injection e)) fun c f e=>ht (by injection e)
structure SmlT (t:TypP):Prop where
 name:t.name.size≤1000
 rels:t.rels.length≤1000000∧∀x ∈ t.rels,Sml x
theorem show_any8 {w:World} {B:Nat} {T:List TypP} (hv:VTyps B w (.slice A T.length c) T) (hT:T.length≤1000000) (hs:∀t ∈ T,SmlT t) (hz:(zdE T).size≤90000000000000) :
 Calls Tryz.prog 78 #[.agg #[.slice A T.length c]] w fun e w'=>e = .returned (.string (zdE T))∧Below w.heap.size w w':=by
 have HS:=Lib.hid hs;clear hs;have f:=(Bk.new w #[.slice A T.length c] 140).alloc (.cells #[.pointer none,.slice none 0 0] 231);have I:Bld (w.heap.size + 1) ⟨#[]⟩ ((w.alloc (.cells #[.slice A T.length c] 140)).alloc (.cells #[.pointer none,.slice none 0 0] 231)):=by
  have h:=Lib.fresh_isBuilder 231 5 (w.alloc (.cells #[.slice A T.length c] 140));rw [show (w.alloc (.cells #[.slice A T.length c] 140)).heap.size=w.heap.size + 1 by simp] at h;exact Lib.IsBuilderF.of h
 have z:Below w.heap.size w ((w.alloc (.cells #[.slice A T.length c] 140)).alloc (.cells #[.pointer none,.slice none 0 0] 231)):=((Below.refl _ w).alloc (yaj _) _).alloc yaf _;have ah:((w.alloc (.cells #[.slice A T.length c] 140)).alloc (.cells #[.pointer none,.slice none 0 0] 231)).heap.size=w.heap.size + 2:=by simp
 have Z:=hv.below z;have J:∀t i,T[i]? = some t→∃g vr,A=some ⟨g,0,none⟩∧g<w.heap.size∧VRels B w vr t.rels∧w.cell? ⟨g,i * 2,none⟩=some (.string t.name)∧w.cell? ⟨g,i * 2 + 1,none⟩=some vr:=by
  intro t i hi;obtain ⟨g,c2,vr,e1,V,g0,X⟩:=hv.get hi;cases e1;exact ⟨g,vr,rfl,World.block_lt_of_cell? _ _ g0,V,g0,X⟩
 have HV:=Lib.hid J;clear hv Z J;go_enter Tryz.func78,Tryz.ntmps78
 go_wp2_with fail
 generalize (w.alloc (.cells #[.slice A T.length c] 140)).alloc (.cells #[.pointer none,.slice none 0 0] 231)=W0 at *
 go_loopw [11] (fun vi wr=>∃i:Nat,vi = .int .i64 i∧i≤T.length∧Bld (w.heap.size + 1) (zcb ((T.take i).map zlH)) wr∧Below (w.heap.size + 1) W0 wr) (fun vi _=>T.length-(intOf vi).toNat)
 case atStart=>exact ⟨0,rfl,yao _,I,Below.refl _ _⟩
 case round =>
  clear I;obtain ⟨i,rfl,hi,o,hb⟩:=hrel;have ai:=hb.size;by_cases a1:i<T.length
  · obtain ⟨t,ht⟩:∃t,T[i]? = some t:=⟨T[i],yal a1⟩;obtain ⟨hn,aj,a2⟩:=HS.out t (yaq ht);obtain ⟨a6,ak⟩:=cat_at zlH ht;obtain ⟨g,vr,rfl,hg,V,g0,X⟩:=HV.out t i ht;obtain ⟨Y,cr,rfl,_⟩:=Rd.own V.choose_spec.1;have b:Below w.heap.size w wr:=z.trans (hb.mono yab);have q0:=(b.cell (p:=⟨g,i * 2,none⟩) hg).trans g0;have q1:=(b.cell (p:=⟨g,i * 2 + 1,none⟩) hg).trans X;have a7:(i:Int)<(T.length:Nat):=by omega
    have al:(topS t).size≤1010∧(topS t).size≤(zlH t).size:=by
     constructor
     · unfold topS;rw [size_app,size_app];show 5 + _ + 3≤_;omega
     · unfold zlH;rw [size_app,size_app];omega
    have a8:(zdE T).size=(zcb (T.map zlH)).size:=rfl;have HT:Hid (topS t=(⟨#[116,121,112,101,32]⟩:ByteArray) ++ t.name ++ ⟨#[32,123,10]⟩):=Lib.hid rfl;have j:Below wr.heap.size wr (wr.alloc (.cells #[.string t.name,.slice Y t.rels.length cr] 199)):=(Below.refl _ wr).alloc (yaj _) _;have q:=o.below j;have s:=hb.trans (j.mono yab);have C:=Bk.new wr #[.string t.name,.slice Y t.rels.length cr] 199;have x0:World.cell? _ ⟨wr.heap.size,0,none⟩=some (.string t.name):=C.cell 0;have lx:=C.lt;have D:=zlP (topS t) q yab yab;rw [HT.out] at D;clear o j b g0 X;go_wp2_with fail
    generalize wr.alloc (.cells #[.string t.name,.slice Y t.rels.length cr] 199)=W1 at *
    refine D.mono ?_;rintro e W2 ⟨rfl,E,K,L⟩;rw [←HT.out] at E;have M:=s.trans K;have u:=kept_bk L C yab yac;have y1:W2.cell? ⟨wr.heap.size,1,none⟩=some (.slice Y t.rels.length cr):=u.cell 1;have ly:=u.lt;clear D q s K L C x0 lx u q0 q1;obtain ⟨P,hP⟩:∃p,zcb ((T.take i).map zlH) ++ topS t=p:=⟨_,rfl⟩;rw [hP] at E;have am:P.size + (zcb (t.rels.map ze5)).size + 2≤(zdE T).size:=by
     rw [←hP,size_app,a8];have:(zlH t).size=(topS t).size + (zcb (t.rels.map ze5)).size + 2:=by unfold zlH;rw [size_app,size_app];rfl
     omega
    have N:P ++ zcb (t.rels.map ze5) ++ ⟨#[125,10]⟩=zcb ((T.take (i + 1)).map zlH):=by
     rw [a6,←hP];unfold zlH;simp only [zg4]
    have aa:=Lib.hid N;clear N;go_wp2_with fail
    go_loopw [23] (fun vk wy=>∃k:Nat,vk = .int .i64 k∧k≤t.rels.length∧Bld (w.heap.size + 1) (P ++ zcb ((t.rels.take k).map ze5)) wy∧Below (w.heap.size + 1) W0 wy) (fun vk _=>t.rels.length-(intOf vk).toNat)
    case atStart=>exact ⟨0,rfl,yao _,(by rw [show zcb ((t.rels.take 0).map ze5)=⟨#[]⟩ from rfl,zpE];exact E),M⟩
    case round =>
     clear E M y1 ly;obtain ⟨k,rfl,hk,o,hb⟩:=hrel;have an:=hb.size;by_cases ab:k<t.rels.length
     · obtain ⟨x,hx⟩:∃x,t.rels[k]? = some x:=⟨t.rels[k],yal ab⟩;have ac:=a2 x (yaq hx);obtain ⟨ad,ao⟩:=cat_at ze5 hx;obtain ⟨H,c3,vs,vo,e1,hs,ho,r0,r1,r2,r3,r4,r5⟩:=V.get hx;cases e1;obtain ⟨As,cS,rfl,rs⟩:=Rd.own hs;obtain ⟨Ao,cO,rfl,ro⟩:=Rd.own ho;have m:=World.block_lt_of_cell? _ _ r0;dsimp only at m;have b:Below w.heap.size w wr:=z.trans (hb.mono yab);have s0:=(b.cell (p:=⟨H,k * 6,none⟩) m).trans r0;have s1:=(b.cell (p:=⟨H,k * 6 + 1,none⟩) m).trans r1;have s2:=(b.cell (p:=⟨H,k * 6 + 2,none⟩) m).trans r2;have s3:=(b.cell (p:=⟨H,k * 6 + 3,none⟩) m).trans r3;have s4:=(b.cell (p:=⟨H,k * 6 + 4,none⟩) m).trans r4;have s5:=(b.cell (p:=⟨H,k * 6 + 5,none⟩) m).trans r5;have ae:(k:Int)<(t.rels.length:Nat):=by omega
       have j:Below wr.heap.size wr (wr.alloc (.cells #[.string x.name,.string x.view,.string x.edit,.string x.check,.slice As x.subs.length cS,.slice Ao x.ops.length cO] 203)):=(Below.refl _ wr).alloc (yaj _) _;have q:=o.below j;have s:=hb.trans (j.mono yab);have f:=Bk.new wr #[.string x.name,.string x.view,.string x.edit,.string x.check,.slice As x.subs.length cS,.slice Ao x.ops.length cO] 203;have z0:=f.cell 0;have z1:=f.cell 1;have z2:=f.cell 2;have z3:=f.cell 3;have z4:=f.cell 4;have z5:=f.cell 5;have lz:=f.lt;have af:w.heap.size≤wr.heap.size:=by omega
       have n:=b.trans (j.mono af);have O:=(rs.below n).more n.size;have Q:=(ro.below n).more n.size;have aq:(ze5 x).size=1 + (relS x).size + 1:=by unfold ze5;rw [size_app,size_app];rfl
       have ag:Hid (ze5 x=(⟨#[9]⟩:ByteArray) ++ relS x ++ ⟨#[10]⟩):=Lib.hid rfl;clear hs ho rs ro r0 r1 r2 r3 r4 r5 o j b f;go_wp2_with fail
       generalize wr.alloc (.cells #[.string x.name,.string x.view,.string x.edit,.string x.check,.slice As x.subs.length cS,.slice Ao x.ops.length cO] 203)=W3 at *
       refine (relation_any8 O Q ac).mono ?_;rintro e W4 ⟨rfl,y⟩;have R:=q.below y;have U:=s.trans (y.mono yab);have ar:=U.size;have D:=zlP (ze5 x) R (by rw [size_app];omega) yab;rw [zg4,←ad,ag.out] at D;have au:(relS x).size≤90000000000000:=by omega
       clear q s R y s0 s1 s2 s3 s4 s5 z0 z1 z2 z3 z4 z5 O Q;go_wp2_with fail
       refine D.mono ?_;rintro e W5 ⟨rfl,F,G,_⟩;go_wp2_with fail
       refine ⟨⟨k + 1,by go_num,by omega,F,U.trans (G.mono yab)⟩,?_⟩;simp only [intOf];omega
     · obtain rfl:k=t.rels.length:=by omega
       have ae:¬(t.rels.length:Int)<(t.rels.length:Nat):=by omega
       rw [yaz] at o;have D:=zlP ⟨#[125,10]⟩ o (by rw [size_app];show _ + 2≤_;omega) yab;rw [aa.out] at D;clear o;go_wp2_with fail
       refine D.mono ?_;rintro e W5 ⟨rfl,F,G,_⟩;go_wp2_with fail
       refine ⟨⟨i + 1,by go_num,by omega,F,hb.trans (G.mono yab)⟩,?_⟩;simp only [intOf];omega
  · obtain rfl:i=T.length:=by omega
    have a7:¬(T.length:Int)<(T.length:Nat):=by omega
    rw [yaz] at o;have ks:=bstring8 o yab;rw [show zcb (T.map zlH)=zdE T from rfl] at ks;clear o;go_wp2_with fail
    refine ks.mono ?_;rintro e W5 ⟨rfl,y⟩;go_wp2_with fail
    go_returns
    exact ⟨rfl,z.trans ((hb.trans (y.mono (yaj _))).mono yab)⟩
end
section
open Go.RowKit
section
variable {w:World}
theorem fmd_is {a b c x y z:ByteArray} {q:Bool} (h:zl5 ((a,b,c),(x,y,z))=q) (ha:a.size≤100000) (hb:b.size≤100000) (hc:c.size≤100000) (hx:x.size≤100000) (hy:y.size≤100000) (hz:z.size≤100000) (W:World) :
 Calls Tryz.prog 82 #[.agg #[.string a,.string b,.string c,.string x,.string y,.string z]] W fun e w'=>e = .returned (.bool q)∧Below W.heap.size W w':=by
 rw [←h];exact fmd_any a b c x y z ha hb hc hx hy hz
end
end
end Go.Proofs.YtmblgnddgmfkhaaGreat
