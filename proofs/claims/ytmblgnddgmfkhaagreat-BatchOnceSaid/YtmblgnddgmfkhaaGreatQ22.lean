import Derived.Test.YtmblgnddgmfkhaaGreatQ21
set_option maxRecDepth 100000
set_option maxHeartbeats 4000000
namespace Go.Proofs.YtmblgnddgmfkhaaGreat
open Go.RowKit
open Go.RowKit
open Go.RowKit
variable {A:Option Addr} {c b:Nat} {l:List OpP} {txt:ByteArray}
theorem zgr (k:Nat):(sgnS k).size≤100:=by
 unfold sgnS;split
 · show 3≤100;omega
 · split <;> (show 3≤100;omega)
section
variable {w:World} {B g m bx t4 t5 t6:Nat} {gs:List Gp}
theorem act_this (hm:Mp B g m w bx t4 t5 t6) (h:Ln B w g gs) (hg:g<B) (hB:B≤w.heap.size) (hn:gs.length≤1000000) (hp:(zat gs).length≤1000000) (o:OpP) :
 Calls Tryz.prog 260 #[.agg #[.int .i64 (o.1:Nat),.string o.2.1,.string o.2.2],.pointer (some ⟨bx,0,none⟩)] w (zk6 B w g (zoa zhO gs)):=by
 have b:Below w.heap.size w (w.alloc (.cells #[.int .i64 (o.1:Nat),.string o.2.1,.string o.2.2] 222)):=(Below.refl _ w).alloc (yaj _) _;have k:=put_any zhO (h.below b) hg (yax hB b.size) hn hp;have j:=(hm.box.below b).cell 0;have n:=(hm.box.below b).lt;have d:Kp g B w _:=Kp.of_below (b.mono hB) g;clear h b;go_enter Tryz.func260,Tryz.ntmps260
 go_wp2_with fail
 generalize w.alloc (.cells #[.int .i64 (o.1:Nat),.string o.2.1,.string o.2.2] 222)=W at *
 refine k.mono ?_;rintro e p ⟨rfl,f,hk⟩;go_wp2_with fail
 go_returns
 exact ⟨rfl,f,d.trans hk⟩
theorem act_same (hm:Mp B g m w bx t4 t5 t6) (h:Ln B w g gs) (hg:g<B) (hB:B≤w.heap.size) (hn:gs.length≤1000000) (hp:(zat gs).length≤1000000) (o:OpP) :
 Calls Tryz.prog 262 #[.agg #[.int .i64 (o.1:Nat),.string o.2.1,.string o.2.2],.pointer (some ⟨bx,0,none⟩)] w (zk6 B w g (zoa o.2.1 gs)):=by
 have b:Below w.heap.size w (w.alloc (.cells #[.int .i64 (o.1:Nat),.string o.2.1,.string o.2.2] 222)):=(Below.refl _ w).alloc (yaj _) _;have k:=put_any o.2.1 (h.below b) hg (yax hB b.size) hn hp;have n:=(hm.box.below b).cell 0;have p:=(hm.box.below b).lt;have d:=Bk.new w #[.int .i64 (o.1:Nat),.string o.2.1,.string o.2.2] 222;have q:=d.cell 1;have lo:=d.lt;have f:Kp g B w _:=Kp.of_below (b.mono hB) g;clear h b d;go_enter Tryz.func262,Tryz.ntmps262
 go_wp2_with fail
 generalize w.alloc (.cells #[.int .i64 (o.1:Nat),.string o.2.1,.string o.2.2] 222)=W at *
 refine k.mono ?_;rintro e s ⟨rfl,j,hk⟩;go_wp2_with fail
 go_returns
 exact ⟨rfl,j,f.trans hk⟩
theorem act_via (hm:Mp B g m w bx t4 t5 t6) (h:Ln B w g gs) (hg:g<B) (hB:B≤w.heap.size) (hn:gs.length≤1000000) (hp:(zat gs).length≤1000000) (o:OpP) (h1:o.2.1.size≤1000000) (h2:o.2.2.size≤1000000) :
 Calls Tryz.prog 263 #[.agg #[.int .i64 (o.1:Nat),.string o.2.1,.string o.2.2],.pointer (some ⟨bx,0,none⟩)] w (zk6 B w g (zoa (o.2.1 ++ ⟨#[46]⟩ ++ o.2.2) gs)):=by
 have b:Below w.heap.size w (w.alloc (.cells #[.int .i64 (o.1:Nat),.string o.2.1,.string o.2.2] 222)):=(Below.refl _ w).alloc (yaj _) _;have k:=put_any (o.2.1 ++ ⟨#[46]⟩ ++ o.2.2) (h.below b) hg (yax hB b.size) hn hp;have n:=(hm.box.below b).cell 0;have p:=(hm.box.below b).lt;have d:=Bk.new w #[.int .i64 (o.1:Nat),.string o.2.1,.string o.2.2] 222;have q:=d.cell 1;have s:=d.cell 2;have lo:=d.lt;have u:¬9223372036854775807<o.2.1.size + 1:=by omega
 have x:¬9223372036854775807<o.2.1.size + 1 + o.2.2.size:=by omega
 have f:Kp g B w _:=Kp.of_below (b.mono hB) g;clear h b d;go_enter Tryz.func263,Tryz.ntmps263
 go_wp2_with fail
 generalize w.alloc (.cells #[.int .i64 (o.1:Nat),.string o.2.1,.string o.2.2] 222)=W at *
 refine k.mono ?_;rintro e y ⟨rfl,j,hk⟩;go_wp2_with fail
 go_returns
 exact ⟨rfl,j,f.trans hk⟩
theorem act_sign8 {ts:Nat} {s:ByteArray} (hm:Mp B g m w bx t4 t5 t6) (hs:Bk w ts #[.string s] 9) (hz:s.size≤100) (h:Ln B w g gs) (hg:g<B) (hB:B≤w.heap.size) (hn:gs.length≤1000000) (hp:(zat gs).length≤1000000) (o:OpP) :
 Calls Tryz.prog 258 #[.agg #[.int .i64 (o.1:Nat),.string o.2.1,.string o.2.2],.pointer (some ⟨bx,0,none⟩),.pointer (some ⟨ts,0,none⟩)] w (zk6 B w g (zly s gs)):=by
 have b:Below w.heap.size w (w.alloc (.cells #[.int .i64 (o.1:Nat),.string o.2.1,.string o.2.2] 222)):=(Below.refl _ w).alloc (yaj _) _;have k:=join_any s (h.below b) hg (yax hB b.size) hn hp hz;have j:=(hm.box.below b).cell 0;have n:=(hm.box.below b).lt;have p:=(hs.below b).cell 0;have ls:=(hs.below b).lt;have d:Kp g B w _:=Kp.of_below (b.mono hB) g;clear h b;go_enter Tryz.func258,Tryz.ntmps258
 go_wp2_with fail
 generalize w.alloc (.cells #[.int .i64 (o.1:Nat),.string o.2.1,.string o.2.2] 222)=W at *
 refine k.mono ?_;rintro e q ⟨rfl,f,hk⟩;go_wp2_with fail
 go_returns
 exact ⟨rfl,f,d.trans hk⟩
end
theorem zce (a b:List ByteArray):(zbW (a ++ b)).size=(zbW a).size + (zbW b).size:=by rw [zgd,size_app]
theorem step_len (gs:List Gp) (o:OpP) (h1:o.2.1.size≤1000) (h2:o.2.2.size≤1000) :
 (zfc gs o).length≤gs.length + 1∧(zat (zfc gs o)).length≤(zat gs).length + 2∧(zbW (zat (zfc gs o))).size≤(zbW (zat gs)).size + 3000:=by
 unfold zfc;split
 · have f:(zrd o).size≤2001:=by
    unfold zrd;split
    · show 4≤2001;omega
    · split
      · omega
      · rw [size_app,size_app];show o.2.1.size + 1 + o.2.2.size≤2001;omega
   unfold zoa;rw [zeQ,yam,yam,zce];refine ⟨yaj _,yaj _,?_⟩;show _ + (⟨#[]⟩ ++ (zrd o ++ ⟨#[]⟩):ByteArray).size≤_;rw [size_app,size_app];show _ + (0 + ((zrd o).size + 0))≤_;omega
 · split
   · have g:=zgr o.1;rcases ybI gs with rfl | ⟨d,b,rfl⟩
     · exact ⟨yap _,yap _,yap _⟩
     · rcases ybI d with rfl | ⟨l,a,rfl⟩
       · refine ⟨?_,?_,?_⟩ <;> (simp only [yb0,yba];show _≤_ + _;exact Nat.le_add_right _ _)
       · simp only [yb0,yaB,yb3];rw [zgU,zh8,zmw];refine ⟨by simp,?_,?_⟩
         · split <;> (simp only [yam,yaq,yaI];omega)
         · rw [zce,zce];show _ + ((if b.2=true then sgnS o.1 ++ ⟨#[40]⟩ else sgnS o.1) ++ zbW (b.1 ++ if b.2=true then [⟨#[41]⟩] else [])).size≤_ + (⟨#[]⟩ ++ zbW b.1:ByteArray).size + 3000;rw [size_app,zce,size_app];have j:(if b.2=true then sgnS o.1 ++ ⟨#[40]⟩ else sgnS o.1).size≤101:=by
            split
            · rw [size_app];show _ + 1≤_;omega
            · omega
           have k:(zbW (if b.2=true then [⟨#[41]⟩] else [])).size≤1:=by split <;> decide
           show _≤_ + (0 + _) + 3000;omega
   · omega
theorem ziQ:∀(l:List OpP) (gs:List Gp),(∀o ∈ l,o.2.1.size≤1000∧o.2.2.size≤1000) →
 (zdr gs l).length≤gs.length + l.length∧(zat (zdr gs l)).length≤(zat gs).length + 2 * l.length∧(zbW (zat (zdr gs l))).size≤(zbW (zat gs)).size + 3000 * l.length
 | [],gs,_=>by
  show gs.length≤gs.length + 0∧(zat gs).length≤_ + 2 * 0∧(zbW (zat gs)).size≤_ + 3000 * 0;omega
 | o::r,gs,h=>by
  obtain ⟨d,f,a3⟩:=step_len gs o (h o yat).1 (h o yat).2;obtain ⟨g,j,k⟩:=ziQ r (zfc gs o) fun x b=>h x (yau _ b);show (zdr (zfc gs o) r).length≤_∧(zat (zdr (zfc gs o) r)).length≤_∧(zbW (zat (zdr (zfc gs o) r))).size≤_;rw [yaq];omega
theorem znf:∀xs:List ByteArray,Lib.joinTail [] (xs.map (·.data.toList))=(zbW xs).data.toList
 | []=>rfl
 | x::r=>by
  have ih:=znf r;unfold Lib.joinTail at *
  rw [yaW,yaW,ybQ,ih,yba];show _=(x ++ zbW r).data.toList;rw [ByteArray.data_append,ybY]
theorem zmC (xs:List ByteArray):Lib.join (xs.map (·.data.toList)) []=(zbW xs).data.toList:=by
 cases xs with
 | nil=>rfl
 | cons x r =>
  rw [yaW,Lib.join_cons,znf];show _=(x ++ zbW r).data.toList;rw [ByteArray.data_append,ybY]
theorem zpD {w:World} {B:Nat} {xs:List ByteArray} (h:w.ownsRow B 9 1 (.slice A xs.length c) xs.length (xs.map .string)) (hz:(zbW xs).size≤1000000000) (hn:xs.length≤1000000) :
 Calls Tryz.prog 104 #[.slice A xs.length c,.string ⟨#[]⟩] w fun e w'=>e = .returned (.string (zbW xs))∧Below w.heap.size w w':=by
 rcases ybh xs.length with b | b
 · have m:=yaY b;subst m;exact (zkg A c ⟨#[]⟩ w).mono fun e w' ⟨d,f⟩=>⟨d,by subst f;exact Below.refl _ _⟩
 · obtain ⟨g,rfl,_,n,o⟩:=zmT h b;refine (zgV g 0 c xs ⟨#[]⟩ w (fun j x k=>?_) n yab o ?_).mono fun e w' ⟨d,f⟩=>⟨?_,f⟩
   · rw [yaG,h.cellAt j (by have:=(yao.1 k).1;omega),ya0,k];rfl
   · rw [show (⟨#[]⟩:ByteArray).data.toList=[] from rfl,zmC,ybm];exact yax hz yab
   · rw [d,show (⟨#[]⟩:ByteArray).data.toList=[] from rfl,zmC]
theorem zfL {α:Type} {l:List α} {i:Nat} {x:α} (h:l[i]? = some x):l.take (i + 1)=l.take i ++ [x]:=by
 rw [yaC,h];rfl
theorem znI (gs:List Gp) (l:List OpP) (o:OpP):zdr gs (l ++ [o])=zfc (zdr gs l) o:=by unfold zdr;rw [yci];rfl
theorem zc7 {f:FuncId} {fn:Func} (hf:Tryz.prog.funcs[f]? = some fn) (hname:(fn.name == "runtime.NumGoroutine")=false) (hb:fn.body.isNone=false) (args:Array Value) (W:World):(callFunc f args).run Tryz.prog W = .ok (.enter f args) W:=by
 have b:¬fn.name="runtime.NumGoroutine":=by
  intro e;rw [e] at hname;exact absurd hname yac
 have d:¬fn.body=none:=by
  intro e;rw [e] at hb;cases hb
 simp [callFunc,hf,b,d,Result.andThen]
theorem act_k {w:World} {B g m bx t4 t5 t6:Nat} {gs:List Gp} {o:OpP} (hm:Mp B g m w bx t4 t5 t6) (h:Ln B w g gs) (hg:g<B) (hB:B≤w.heap.size) (hn:gs.length≤1000000) (hp:(zat gs).length≤1000000) (h1:o.2.1.size≤1000) (h2:o.2.2.size≤1000) :
 (¬(1≤o.1∧o.1≤6)∧zfc gs o=gs)∨∃f caps i,((actL bx t4 t5 t6).zipIdx 0).find? (fun q=>decide ((q.1.1:Int)=(o.1:Int)))=some ((o.1,fnV f caps),i)∧(∀args W,(callFunc f args).run Tryz.prog W = .ok (.enter f args) W)∧Calls Tryz.prog f (#[.agg #[.int .i64 (o.1:Nat),.string o.2.1,.string o.2.2]] ++ caps) w (zk6 B w g (zfc gs o)):=by
 by_cases hk:1≤o.1∧o.1≤6
 · refine .inr ?_;have b:o.1=1∨o.1=2∨o.1=3∨o.1=4∨o.1=5∨o.1=6:=by omega
   obtain ⟨k,n,q⟩:=o;dsimp only at *
   rcases b with rfl | rfl | rfl | rfl | rfl | rfl
   · exact ⟨_,_,_,rfl,zc7 Tryz.func260 yaa yaa,act_this hm h hg hB hn hp (1,n,q)⟩
   · exact ⟨_,_,_,rfl,zc7 Tryz.func262 yaa yaa,act_same hm h hg hB hn hp (2,n,q)⟩
   · exact ⟨_,_,_,rfl,zc7 Tryz.func263 yaa yaa,act_via hm h hg hB hn hp (3,n,q) yah yah⟩
   · exact ⟨_,_,_,rfl,zc7 Tryz.func258 yaa yaa,act_sign8 hm hm.s4 (zgr 4) h hg hB hn hp (4,n,q)⟩
   · exact ⟨_,_,_,rfl,zc7 Tryz.func258 yaa yaa,act_sign8 hm hm.s5 (zgr 5) h hg hB hn hp (5,n,q)⟩
   · exact ⟨_,_,_,rfl,zc7 Tryz.func258 yaa yaa,act_sign8 hm hm.s6 (zgr 6) h hg hB hn hp (6,n,q)⟩
 · refine .inl ⟨hk,?_⟩;unfold zfc;rw [yak yab,yak (by omega)]
theorem ln_new (B:Nat) (w:World):Ln B (w.alloc (.cells #[.slice none 0 0,.slice none 0 0] 350)) w.heap.size []:=⟨none,0,none,0,Bk.new w _ _,World.ownsRow_nil _ _ _ _,World.ownsRow_nil _ _ _ _⟩
theorem rewrite_any {w:World} (hr:Rd w w.heap.size 3 A l.length c (zbJ l)) (hn:l.length≤100000) (hs:∀o ∈ l,o.2.1.size≤1000∧o.2.2.size≤1000) :
 Calls Tryz.prog 181 #[.slice A l.length c] w fun e w'=>e = .returned (.string (rewS l))∧Below w.heap.size w w':=by
 have HS:=Lib.hid hs;go_enter Tryz.func181,Tryz.ntmps181
 go_wp2_with fail
 have d:Below w.heap.size w (w.alloc (.cells #[.slice none 0 0,.slice none 0 0] 350)):=(Below.refl _ w).alloc (yaj _) _;have D:=fun B=>ln_new B w;have u:w.heap.size<(w.alloc (.cells #[.slice none 0 0,.slice none 0 0] 350)).heap.size:=by simp
 have k:=does_any _ w.heap.size u;generalize w.alloc (.cells #[.slice none 0 0,.slice none 0 0] 350)=W0 at *
 refine k.mono ?_;rintro e E ⟨⟨m,bx,t4,t5,t6,rfl,O⟩,n⟩;have F:=(D E.heap.size).below n;have G:=d.trans (n.mono d.size);have H:w.heap.size<E.heap.size:=yaw u n.size;have q:=hr.below G;clear k D d u n;go_wp2_with fail
 go_loopw [15] (fun R wr=>∃i:Nat,R = .int .i64 i∧i≤l.length∧Ln E.heap.size wr w.heap.size (zdr [] (l.take i))∧Kp w.heap.size E.heap.size E wr) (fun R _=>l.length-(intOf R).toNat)
 case atStart=>exact ⟨0,rfl,yap _,F,Kp.refl _ _ _⟩
 case round =>
  clear F;obtain ⟨i,rfl,hi,s,I⟩:=hrel;obtain ⟨T,P,Q⟩:=ziQ (l.take i) [] fun o J=>HS.out o (yb4 J);have U:(l.take i).length=i:=by rw [yaK];omega
  rw [U] at T P Q;replace T:(zdr [] (l.take i)).length≤0 + i:=T;replace P:(zat (zdr [] (l.take i))).length≤0 + 2 * i:=P;replace Q:(zbW (zat (zdr [] (l.take i)))).size≤0 + 3000 * i:=Q;by_cases V:i<l.length
  · obtain ⟨o,J⟩:∃o,l[i]? = some o:=⟨l[i],yal V⟩;have K:=HS.out o (yar J);have L:zdr [] (l.take (i + 1))=zfc (zdr [] (l.take i)) o:=by rw [zfL J,znI]
    have x:=q.keep fun p hp=>(by unfold World.cell?;rw [I.block p.block yab (by omega)]);obtain ⟨b,f,rfl,aa,X⟩:=x.at_ yab;obtain ⟨e0,e1,e2⟩:=zkw l i o J;have q0:=X _ _ e0;have q1:wr.cell? ⟨b,f + i * 3 + 1,none⟩=_:=X _ _ e1;have q2:wr.cell? ⟨b,f + i * 3 + 2,none⟩=_:=X _ _ e2;have Y:(i:Int)<(l.length:Nat):=by omega
    have d:Below wr.heap.size wr (wr.alloc (.cells #[.int .i64 (o.1:Nat),.string o.2.1,.string o.2.2] 222)):=(Below.refl _ wr).alloc (yaj _) _;have Z:=I.size;have y:=Bk.new wr #[.int .i64 (o.1:Nat),.string o.2.1,.string o.2.2] 222;have g:=(O.kp I).kp (Kp.of_below (d.mono Z) w.heap.size);have z:=act_k (o:=o) g (s.below d) H (yax Z d.size) yab yab K.1 K.2;have M:=I.trans (Kp.of_below (d.mono Z) w.heap.size);have z0:World.cell? _ ⟨wr.heap.size,0,none⟩=some (.int .i64 (o.1:Nat)):=y.cell 0;have z1:World.cell? _ ⟨wr.heap.size,1,none⟩=some (.string o.2.1):=y.cell 1;have z2:World.cell? _ ⟨wr.heap.size,2,none⟩=some (.string o.2.2):=y.cell 2;rcases z with ⟨hk,he⟩ | ⟨fn,N,j,hf,ab,C⟩
    · have a1:=look_no g hk;clear O g hr q x hs;go_wp2_with fail
      refine ⟨⟨i + 1,by go_num,by omega,?_,M⟩,?_⟩
      · rw [L,he];exact s.below d
      · simp only [intOf];omega
    · have a1:=zp0 g o.1 j fn N hf;clear O g hr q x hs;go_wp2_with fail
      refine C.mono ?_;rintro e W2 ⟨rfl,a2,a6⟩;go_wp2_with fail
      refine ⟨⟨i + 1,by go_num,by omega,?_,M.trans a6⟩,?_⟩
      · rw [L];exact a2
      · simp only [intOf];omega
  · obtain rfl:i=l.length:=by omega
    have Y:¬(l.length:Int)<(l.length:Nat):=by omega
    rw [yaA] at s P Q;have a7:zbW (zat (zdr [] l))=rewS l:=rfl;obtain ⟨Ap,cp,Aq,cq,s⟩:=s;have x0:wr.cell? ⟨w.heap.size,0,none⟩=some (.slice Ap (zat (zdr [] l)).length cp):=s.cells.cell 0;have lg:=s.cells.lt;have kj:=zpD s.ps yab yab;rw [a7] at kj;clear s O q;go_wp2_with fail
    refine kj.mono ?_;rintro e W2 ⟨rfl,a8⟩;go_wp2_with fail
    go_returns
    exact ⟨rfl,(G.trans (Kp.below I (ya2 H) (yaj _))).trans (a8.mono (ya2 lg))⟩
def zjH (s:zdv):ByteArray:=if s.2=⟨#[]⟩ then s.1 else s.1 ++ ⟨#[35]⟩ ++ s.2
def zhP (sep:ByteArray):List ByteArray→ByteArray
 | []=>⟨#[]⟩
 | x::r=>sep ++ x ++ zhP sep r
def znR (sep:ByteArray):List ByteArray→ByteArray
 | []=>⟨#[]⟩
 | x::r=>x ++ zhP sep r
def zq9 (l:List zdv):ByteArray:=znR ⟨#[44,32]⟩ (l.map zjH)
def zhT (l:List OpP):Bool:=match l with
 | [o]=>o.1 == 1
 | _=>false
def zlv (x:RelP):ByteArray:=(⟨#[114,101,108,32]⟩:ByteArray) ++ x.name ++ ⟨#[32,40]⟩ ++ x.view ++ ⟨#[44,32]⟩ ++ x.edit ++ ⟨#[44,32]⟩ ++ x.check ++ ⟨#[41,58]⟩
def whoS (x:RelP):ByteArray:=if x.subs.length=0 then zlv x else zlv x ++ (⟨#[32]⟩ ++ zq9 x.subs)
def relS (x:RelP):ByteArray:=(if zhT x.ops=true then whoS x else whoS x ++ (⟨#[32,105,115,32]⟩ ++ rewS x.ops)) ++ ⟨#[59]⟩
structure Sml (x:RelP):Prop where
 name:x.name.size≤1000
 view:x.view.size≤1000
 edit:x.edit.size≤1000
 check:x.check.size≤1000
 subs:x.subs.length≤100000∧∀s ∈ x.subs,s.1.size≤1000∧s.2.size≤1000
 ops:x.ops.length≤100000∧∀o ∈ x.ops,o.2.1.size≤1000∧o.2.2.size≤1000
theorem znc {s:zdv} (h1:s.1.size≤1000) (h2:s.2.size≤1000):(zjH s).size≤2001:=by
 unfold zjH;split
 · omega
 · rw [size_app,size_app];show s.1.size + 1 + s.2.size≤2001;omega
theorem zkW (sep:ByteArray) (hs:sep.size≤2):∀l:List ByteArray,(∀x ∈ l,x.size≤2001)→(zhP sep l).size≤2003 * l.length
 | [],_=>yaj _
 | x::r,h=>by
  show (sep ++ x ++ zhP sep r).size≤_;have:=zkW sep hs r fun y b=>h y (yau _ b);have:=h x yat;rw [size_app,size_app,yaq];omega
theorem zhx {l:List zdv} (h:∀s ∈ l,s.1.size≤1000∧s.2.size≤1000):(zq9 l).size≤2003 * l.length:=by
 cases l with
 | nil=>exact yaj _
 | cons s r =>
  show (zjH s ++ zhP _ (r.map zjH)).size≤_;have g:=znc (h s yat).1 (h s yat).2;have d:=zkW ⟨#[44,32]⟩ yac (r.map zjH) fun x f=>by
   obtain ⟨y,b,rfl⟩:=yaN.1 f;exact znc (h y (yau _ b)).1 (h y (yau _ b)).2
  rw [yay] at d;rw [size_app,yaq];omega
theorem zm6 (h:∀o ∈ l,o.2.1.size≤1000∧o.2.2.size≤1000):(rewS l).size≤3000 * l.length:=by
 have:=(ziQ l [] h).2.2;have e:(zbW (zat [])).size=0:=rfl;rw [e] at this;unfold rewS;omega
theorem zjB {x:RelP} (h:Sml x):(zlv x).size≤4100∧(whoS x).size≤4101 + 2003 * x.subs.length:=by
 have d:=h.name;have f:=h.view;have g:=h.edit;have j:=h.check;have b:(zlv x).size≤4100:=by
  unfold zlv;simp only [size_app];show 4 + _ + 2 + _ + 2 + _ + 2 + _ + 2≤_;omega
 refine ⟨b,?_⟩;unfold whoS;split
 · omega
 · have:=zhx h.subs.2;rw [size_app,size_app];show _ + (1 + _)≤_;omega
theorem zne (sep:ByteArray):∀xs:List ByteArray,Lib.joinTail sep.data.toList (xs.map (·.data.toList))=(zhP sep xs).data.toList
 | []=>rfl
 | x::r=>by
  have ih:=zne sep r;unfold Lib.joinTail at *
  rw [yaW,yaW,ybQ,ih];show _=(sep ++ x ++ zhP sep r).data.toList;rw [ByteArray.data_append,ByteArray.data_append,ybY,ybY]
theorem zgg (sep:ByteArray) (xs:List ByteArray):Lib.join (xs.map (·.data.toList)) sep.data.toList=(znR sep xs).data.toList:=by
 cases xs with
 | nil=>rfl
 | cons x r =>
  rw [yaW,Lib.join_cons,zne];show _=(x ++ zhP sep r).data.toList;rw [ByteArray.data_append,ybY]
theorem zpC {w:World} {B:Nat} {xs:List ByteArray} (sep:ByteArray) (h:w.ownsRow B 9 1 (.slice A xs.length c) xs.length (xs.map .string)) (hz:(znR sep xs).size≤1000000000) (hn:xs.length≤1000000) :
 Calls Tryz.prog 104 #[.slice A xs.length c,.string sep] w fun e w'=>e = .returned (.string (znR sep xs))∧Below w.heap.size w w':=by
 rcases ybh xs.length with b | b
 · have m:=yaY b;subst m;exact (zkg A c sep w).mono fun e w' ⟨d,f⟩=>⟨d,by subst f;exact Below.refl _ _⟩
 · obtain ⟨g,rfl,_,n,o⟩:=zmT h b;refine (zgV g 0 c xs sep w (fun j x k=>?_) n yab o ?_).mono fun e w' ⟨d,f⟩=>⟨?_,f⟩
   · rw [yaG,h.cellAt j (by have:=(yao.1 k).1;omega),ya0,k];rfl
   · rw [zgg,ybm];exact yax hz yab
   · rw [d,zgg]
section
variable {w:World}
theorem sub_any8 (s:zdv) (h1:s.1.size≤1000) (h2:s.2.size≤1000):Calls Tryz.prog 228 #[.agg #[.string s.1,.string s.2]] w fun e w'=>e = .returned (.string (zjH s))∧Below w.heap.size w w':=by
 have hb:=Bk.new w #[.string s.1,.string s.2] 246;have g:=hb.cell 0;have j:=hb.cell 1;have k:=hb.lt;have f:Below w.heap.size w (w.alloc (.cells #[.string s.1,.string s.2] 246)):=(Below.refl _ w).alloc (yaj _) _;clear hb;unfold zjH;by_cases b:s.2=⟨#[]⟩
 · rw [yan b];have d:s.2.toList.isEmpty=true:=by rw [b];decide +kernel
   clear b;go_enter Tryz.func228,Tryz.ntmps228
   go_wp2_with fail
   go_returns
   exact ⟨rfl,f⟩
 · rw [yak b];have d:s.2.toList.isEmpty=false:=zi8 (by
    rcases ybh s.2.size with h | h
    · exact absurd (zja h) b
    · exact h)
   go_enter Tryz.func228,Tryz.ntmps228
   go_wp2_with fail
   go_returns
   exact ⟨rfl,f⟩
theorem subs_any8 {l:List zdv} (hr:Rd w w.heap.size 2 A l.length c (zc8 l)) (hn:l.length≤100000) (hs:∀s ∈ l,s.1.size≤1000∧s.2.size≤1000) :
 Calls Tryz.prog 179 #[.slice A l.length c] w fun e w'=>e = .returned (.string (zq9 l))∧Below w.heap.size w w':=by
 have K:=Lib.hid hs;go_enter Tryz.func179,Tryz.ntmps179
 go_wp2_with fail
 go_loopw [3,8] (fun P y wr=>∃i:Nat,y = .int .i64 i∧i≤l.length∧wr.ownsRow w.heap.size 9 1 P i (((l.take i).map zjH).map .string)∧Below w.heap.size w wr) (fun _ y _=>l.length-(intOf y).toNat)
 case atStart=>exact ⟨0,rfl,yap _,World.ownsRow_nil _ _ _ _,Below.refl _ _⟩
 case round =>
  obtain ⟨i,rfl,hi,o,hb⟩:=hrel;obtain ⟨L,M,rfl,_⟩:=Rd.own o;by_cases z:i<l.length
  · obtain ⟨s,k⟩:∃s,l[i]? = some s:=⟨l[i],yal z⟩;obtain ⟨Q,R⟩:=K.out s (yar k);have p:=hr.below hb;obtain ⟨b,f,rfl,T,N⟩:=p.at_ yab;obtain ⟨U,V⟩:=zkU l i s k;have X:=N _ _ U;have Y:wr.cell? ⟨b,f + i * 2 + 1,none⟩=_:=N _ _ V;have C:(i:Int)<(l.length:Nat):=by omega
    have D:=hb.size;have j:=Bk.new wr #[.string s.1,.string s.2] 246;have Z:World.cell? _ ⟨wr.heap.size,0,none⟩=some (.string s.1):=j.cell 0;have x1:World.cell? _ ⟨wr.heap.size,1,none⟩=some (.string s.2):=j.cell 1;have lb:=j.lt;have d:=hb.alloc D (.cells #[.string s.1,.string s.2] 246);have q:=zan o ((Below.refl _ wr).alloc (yaj _) (.cells #[.string s.1,.string s.2] 246));have ht:(l.take (i + 1)).map zjH=(l.take i).map zjH ++ [zjH s]:=by rw [zfL k,yaL];rfl
    clear hr p hs j o hb;go_wp2_with fail
    generalize wr.alloc (.cells #[.string s.1,.string s.2] 246)=W at *
    refine (sub_any8 s Q R).mono ?_;rintro e W2 ⟨rfl,m⟩;have u:=d.trans (m.mono d.size);have x:=zan q m;have n:=u.size;obtain ⟨i0,E,F,G,H⟩:=info_parts ziW;clear d m q Z x1 X Y;go_wp2_with (at_builtin;refine zab _ rfl (.tmp 12) (.tmp 15) 46 46 rfl w.heap.size 9 i0 (.string .empty) 1 16 Tryz.underlying46 E F G H rfl yac _ i (((l.take i).map zjH).map .string) rfl (World.ownsRow.alloc x _) _ 1 [.string (zjH s)] rfl (Src.ofSlice _ Tryz.underlying46 _ 1 1 _ rfl (zgE _ _ _) (zl3 [zjH s])) yad yab (size_alloc n) ?_;intro v1 W5 g I O;obtain ⟨A5,c5,rfl,_⟩:=Rd.own g)
    refine ⟨⟨i + 1,by go_num,by omega,?_,?_⟩,?_⟩
    · rw [ht,yaL];exact g
    · exact zaf (v:=.slice L i M) (u.alloc n _) I (World.ownsRow.alloc x _) (size_alloc n) (yaj _)
    · simp only [intOf];omega
  · obtain rfl:i=l.length:=by omega
    have C:¬(l.length:Int)<(l.length:Nat):=by omega
    rw [yaA] at o;have J:(l.map zjH).length=l.length:=yay ..;have a1:=zhx K.out;have kj:=zpC (w:=wr) (B:=w.heap.size) (A:=L) (c:=M) (xs:=l.map zjH) ⟨#[44,32]⟩ (by rw [J];exact o) (by show (zq9 l).size≤_;omega) yab;rw [J,show znR ⟨#[44,32]⟩ (l.map zjH)=zq9 l from rfl] at kj;have D:=hb.size;clear o hr hs J;go_wp2_with fail
    refine kj.mono ?_;rintro e W2 ⟨rfl,d⟩;go_wp2_with fail
    go_returns
    exact ⟨rfl,hb.trans (d.mono D)⟩
theorem alone_any8 (hr:Rd w w.heap.size 3 A l.length c (zbJ l)) :
 Calls Tryz.prog 180 #[.slice A l.length c] w fun e w'=>e = .returned (.bool (zhT l))∧Below w.heap.size w w':=by
 rcases l with _ | ⟨o,_ | ⟨g,r⟩⟩
 · go_enter Tryz.func180,Tryz.ntmps180
   go_wp2_with fail
   go_returns
   exact ⟨rfl,Below.refl _ _⟩
 · obtain ⟨b,f,rfl,q,j⟩:=hr.at_ (show 0<1 by omega);have s:w.cell? ⟨b,f,none⟩=some (.int .i64 (o.1:Nat)):=j 0 _ rfl;have m:zhT [o]=(((o.1:Nat):Int) == 1):=by
    show (o.1 == 1)=_;rw [ya6];simp only [ybS];omega
   rw [m];clear hr j m;obtain ⟨k,hk⟩:∃k:Int,((o.1:Nat):Int)=k:=⟨_,rfl⟩;rw [hk] at s ⊢;go_enter Tryz.func180,Tryz.ntmps180
   go_wp2_with fail
   go_returns
   exact ⟨rfl,Below.refl _ _⟩
 · have d:((((o::g::r).length:Nat):Int) == 1)=false:=by
    rw [ybc];simp only [yaq];omega
   obtain ⟨n,p⟩:∃n,(o::g::r).length=n:=⟨_,rfl⟩;rw [p] at d ⊢;clear hr p;go_enter Tryz.func180,Tryz.ntmps180
   go_wp2_with fail
   go_returns
   exact ⟨rfl,Below.refl _ _⟩
def relV (As:Option Addr) (cS:Nat) (Ao:Option Addr) (cO:Nat) (x:RelP):Value:=.agg #[.string x.name,.string x.view,.string x.edit,.string x.check,.slice As x.subs.length cS,.slice Ao x.ops.length cO]
theorem relation_any8 {As Ao:Option Addr} {cS cO:Nat} {x:RelP} (hs:Rd w w.heap.size 2 As x.subs.length cS (zc8 x.subs)) (ho:Rd w w.heap.size 3 Ao x.ops.length cO (zbJ x.ops)) (hx:Sml x) :
 Calls Tryz.prog 128 #[relV As cS Ao cO x] w fun e w'=>e = .returned (.string (relS x))∧Below w.heap.size w w':=by
 have X:=hx.name;have Y:=hx.view;have Z:=hx.edit;have h4:=hx.check;have N:=(zjB hx).1;have h6:=(zjB hx).2;have O:=hx.subs.1;have J:=hx.ops.1;have h9:=zhx hx.subs.2;have P:=zm6 hx.ops.2;unfold relV;have hb:=Bk.new w #[.string x.name,.string x.view,.string x.edit,.string x.check,.slice As x.subs.length cS,.slice Ao x.ops.length cO] 203;have y:Below w.heap.size w (w.alloc (.cells #[.string x.name,.string x.view,.string x.edit,.string x.check,.slice As x.subs.length cS,.slice Ao x.ops.length cO] 203)):=(Below.refl _ w).alloc (yaj _) _;have K:Hid (zlv x=(⟨#[114,101,108,32]⟩:ByteArray) ++ x.name ++ ⟨#[32,40]⟩ ++ x.view ++ ⟨#[44,32]⟩ ++ x.edit ++ ⟨#[44,32]⟩ ++ x.check ++ ⟨#[41,58]⟩):=Lib.hid rfl;have b0:=hb.cell 0;have b1:=hb.cell 1;have b2:=hb.cell 2;have b3:=hb.cell 3;have b4:=hb.cell 4;have L:=hb.cell 5;have D:=hb.lt;have F:=hs.below y;have o:=ho.below y;have Q:=hx.subs.2;have M:=hx.ops.2;have k:=y.size;clear hs ho hx hb;obtain ⟨RS,q⟩:∃r,relS x=r:=⟨_,rfl⟩;rw [q];have g:∀b,zhT x.ops=b→(if b=true then whoS x else whoS x ++ (⟨#[32,105,115,32]⟩ ++ rewS x.ops)) ++ ⟨#[59]⟩=RS:=fun b hb=>by rw [←q,←hb];rfl
 clear q;generalize hw:whoS x=WS at *
 unfold whoS at hw;go_enter Tryz.func128,Tryz.ntmps128
 by_cases E:x.subs.length=0
 · rw [yan E] at hw;have d:¬(0:Int)<(x.subs.length:Nat):=by omega
   clear E;go_wp2_with fail
   rw [←K.out,hw];generalize (w.alloc (.cells #[.string x.name,.string x.view,.string x.edit,.string x.check,.slice As x.subs.length cS,.slice Ao x.ops.length cO] 203))=W at *
   refine (alone_any8 (o.more k)).mono ?_;rintro e V ⟨rfl,m⟩;have G:=(m.cell (p:=⟨w.heap.size,5,none⟩) D).trans L;have H:w.heap.size<V.heap.size:=yaw D m.size;have s:=((o.more k).below m).more m.size;have j:=y.trans (m.mono k);cases n:zhT x.ops with
   | true =>
    have f:=g _ n;simp only [↓reduceIte] at f;subst f;clear g;go_wp2_with fail
    go_returns
    exact ⟨rfl,j⟩
   | false =>
    have f:=g _ n;simp only [ycc,↓reduceIte] at f;subst f;clear g;go_wp2_with fail
    refine (rewrite_any s J M).mono ?_;rintro e R ⟨rfl,u⟩;go_wp2_with fail
    go_returns
    exact ⟨rfl,j.trans (u.mono j.size)⟩
 · rw [yak E] at hw;have d:(0:Int)<(x.subs.length:Nat):=by omega
   clear E;go_wp2_with fail
   rw [←K.out];have T:=N;generalize zlv x=HD at *
   generalize (w.alloc (.cells #[.string x.name,.string x.view,.string x.edit,.string x.check,.slice As x.subs.length cS,.slice Ao x.ops.length cO] 203))=W at *
   refine (subs_any8 (F.more k) O Q).mono ?_;rintro e U ⟨rfl,z⟩;have I:=(z.cell (p:=⟨w.heap.size,5,none⟩) D).trans L;have A:w.heap.size<U.heap.size:=yaw D z.size;have B:=((o.more k).below z).more z.size;have C:=y.trans (z.mono k);go_wp2_with fail
   refine (alone_any8 B).mono ?_;rintro e V ⟨rfl,m⟩;have G:=(m.cell (p:=⟨w.heap.size,5,none⟩) A).trans I;have H:w.heap.size<V.heap.size:=yaw A m.size;have s:=(B.below m).more m.size;have j:=C.trans (m.mono C.size);cases n:zhT x.ops with
   | true =>
    have f:=g _ n;simp only [↓reduceIte] at f;subst f;clear g;go_wp2_with fail
    go_returns
    exact ⟨rfl,j⟩
   | false =>
    have f:=g _ n;simp only [ycc,↓reduceIte] at f;subst f;clear g;go_wp2_with fail
    refine (rewrite_any s J M).mono ?_;rintro e R ⟨rfl,u⟩;go_wp2_with fail
    go_returns
    exact ⟨rfl,j.trans (u.mono j.size)⟩
end
def zev (x:RelP):ByteArray:=(⟨#[9]⟩:ByteArray) ++ relS x ++ ⟨#[10]⟩
def topS (t:TypP):ByteArray:=(⟨#[116,121,112,101,32]⟩:ByteArray) ++ t.name ++ ⟨#[32,123,10]⟩
def zk4 (t:TypP):ByteArray:=topS t ++ zbW (t.rels.map zev) ++ ⟨#[125,10]⟩
def zdu (T:List TypP):ByteArray:=zbW (T.map zk4)
theorem cat_at {α:Type} (f:α→ByteArray) {l:List α} {i:Nat} {x:α} (h:l[i]? = some x):zbW ((l.take (i + 1)).map f)=zbW ((l.take i).map f) ++ f x∧(zbW ((l.take i).map f)).size + (f x).size≤(zbW (l.map f)).size:=by
 have e:zbW ((l.take (i + 1)).map f)=zbW ((l.take i).map f) ++ f x:=by
  rw [zfL h,yaL,zgd];show _ ++ (f x ++ ⟨#[]⟩)=_;rw [zoQ]
 refine ⟨e,?_⟩;have b:zbW (l.map f)=zbW ((l.take (i + 1)).map f) ++ zbW ((l.drop (i + 1)).map f):=by rw [←zgd,←yaL,ybg]
 rw [b,e,size_app,size_app];omega
def Bld (b:Nat) (txt:ByteArray) (w:World):Prop:=Lib.IsBuilderF 231 5 b b (Lib.byteCells txt.data.toList) w
theorem Bld.below {w w':World} (h:Bld b txt w) (hb:Below w.heap.size w w'):Bld b txt w':=by
 have key:∀p,Lib.BuilderAtF 231 5 b b p (Lib.byteCells txt.data.toList) w→Lib.BuilderAtF 231 5 b b p (Lib.byteCells txt.data.toList) w':=by
  rintro p ⟨m,v,k,n,o⟩;have d:b<w.heap.size:=(yaO.1 k).1;refine ⟨m,v,(hb.block b d).trans k,?_,o⟩;obtain ⟨q,f⟩:=n;refine ⟨q,?_⟩;rcases f with f | ⟨g,cap,j,s,a3,a4,a5,u⟩
  · exact .inl f
  · exact .inr ⟨g,cap,j,s,a3,a4,(hb.block g (yaO.1 a5).1).trans a5,u⟩
 exact h.imp (key _) (key _)
theorem zlc {w:World} (s:ByteArray) (h:Bld b txt w) (hz:txt.size + s.size≤100000000000000) (hb:b≤w.heap.size) :
 Calls Tryz.prog 127 #[.pointer (some ⟨b,0,none⟩),.string s] w fun e w'=>e = .returned (.tuple #[.int .i64 s.size,.nilIface])∧Bld b (txt ++ s) w'∧Below b w w'∧Lib.OthersKept 5 (some b) w w':=by
 refine (znu b b _ s w h (by rw [Lib.byteCells_length,ybm];show txt.size + s.size≤_;omega) hb).mono ?_;rintro e w' ⟨rfl,d,f,g⟩;refine ⟨rfl,.inr ?_,f,g⟩;have:Lib.byteCells (txt ++ s).data.toList=Lib.byteCells txt.data.toList ++ Lib.strCells s:=by
  unfold Lib.byteCells Lib.strCells;rw [ByteArray.data_append,ybY,yaL]
 rw [this];exact d
theorem bstring8 {w:World} (h:Bld b txt w) (hb:b≤w.heap.size) :
 Calls Tryz.prog 129 #[.pointer (some ⟨b,0,none⟩)] w fun e w'=>e = .returned (.string txt)∧Below b w w':=by
 refine (zlb b b _ w h hb).mono ?_;rintro e w' ⟨rfl,f,d,g⟩;exact ⟨rfl,d⟩
theorem kept_bk {k:Nat} {w w':World} {cs:Array Value} {t:TypeId} (h:Lib.OthersKept 5 (some b) w w') (hk:Bk w k cs t) (hne:k≠b) (ht:t≠5):Bk w' k cs t :=
 h k _ hk (fun e=>hne (by injection e)) fun c d e=>ht (by injection e)
structure SmlT (t:TypP):Prop where
 name:t.name.size≤1000
 rels:t.rels.length≤1000000∧∀x ∈ t.rels,Sml x
theorem show_any8 {w:World} {B:Nat} {T:List TypP} (hv:VTyps B w (.slice A T.length c) T) (hT:T.length≤1000000) (hs:∀t ∈ T,SmlT t) (hz:(zdu T).size≤90000000000000) :
 Calls Tryz.prog 78 #[.agg #[.slice A T.length c]] w fun e w'=>e = .returned (.string (zdu T))∧Below w.heap.size w w':=by
 have HS:=Lib.hid hs;clear hs;have d:=(Bk.new w #[.slice A T.length c] 140).alloc (.cells #[.pointer none,.slice none 0 0] 231);have H:Bld (w.heap.size + 1) ⟨#[]⟩ ((w.alloc (.cells #[.slice A T.length c] 140)).alloc (.cells #[.pointer none,.slice none 0 0] 231)):=by
  have h:=Lib.fresh_isBuilder 231 5 (w.alloc (.cells #[.slice A T.length c] 140));rw [show (w.alloc (.cells #[.slice A T.length c] 140)).heap.size=w.heap.size + 1 by simp] at h;exact Lib.IsBuilderF.of h
 have y:Below w.heap.size w ((w.alloc (.cells #[.slice A T.length c] 140)).alloc (.cells #[.pointer none,.slice none 0 0] 231)):=((Below.refl _ w).alloc (yaj _) _).alloc yaf _;have ah:((w.alloc (.cells #[.slice A T.length c] 140)).alloc (.cells #[.pointer none,.slice none 0 0] 231)).heap.size=w.heap.size + 2:=by simp
 have Y:=hv.below y;have I:∀t i,T[i]? = some t→∃g vr,A=some ⟨g,0,none⟩∧g<w.heap.size∧VRels B w vr t.rels∧w.cell? ⟨g,i * 2,none⟩=some (.string t.name)∧w.cell? ⟨g,i * 2 + 1,none⟩=some vr:=by
  intro t i hi;obtain ⟨g,c2,vr,Z,U,g0,V⟩:=hv.get hi;cases Z;exact ⟨g,vr,rfl,World.block_lt_of_cell? _ _ g0,U,g0,V⟩
 have HV:=Lib.hid I;clear hv Y I;go_enter Tryz.func78,Tryz.ntmps78
 go_wp2_with fail
 generalize (w.alloc (.cells #[.slice A T.length c] 140)).alloc (.cells #[.pointer none,.slice none 0 0] 231)=W0 at *
 go_loopw [11] (fun vi wr=>∃i:Nat,vi = .int .i64 i∧i≤T.length∧Bld (w.heap.size + 1) (zbW ((T.take i).map zk4)) wr∧Below (w.heap.size + 1) W0 wr) (fun vi _=>T.length-(intOf vi).toNat)
 case atStart=>exact ⟨0,rfl,yap _,H,Below.refl _ _⟩
 case round =>
  clear H;obtain ⟨i,rfl,hi,n,hb⟩:=hrel;have ai:=hb.size;by_cases a1:i<T.length
  · obtain ⟨t,ht⟩:∃t,T[i]? = some t:=⟨T[i],yal a1⟩;obtain ⟨hn,aj,a2⟩:=HS.out t (yar ht);obtain ⟨a6,ak⟩:=cat_at zk4 ht;obtain ⟨g,vr,rfl,hg,U,g0,V⟩:=HV.out t i ht;obtain ⟨X,cr,rfl,_⟩:=Rd.own U.choose_spec.1;have b:Below w.heap.size w wr:=y.trans (hb.mono yab);have q0:=(b.cell (p:=⟨g,i * 2,none⟩) hg).trans g0;have q1:=(b.cell (p:=⟨g,i * 2 + 1,none⟩) hg).trans V;have a7:(i:Int)<(T.length:Nat):=by omega
    have al:(topS t).size≤1010∧(topS t).size≤(zk4 t).size:=by
     constructor
     · unfold topS;rw [size_app,size_app];show 5 + _ + 3≤_;omega
     · unfold zk4;rw [size_app,size_app];omega
    have a8:(zdu T).size=(zbW (T.map zk4)).size:=rfl;have HT:Hid (topS t=(⟨#[116,121,112,101,32]⟩:ByteArray) ++ t.name ++ ⟨#[32,123,10]⟩):=Lib.hid rfl;have f:Below wr.heap.size wr (wr.alloc (.cells #[.string t.name,.slice X t.rels.length cr] 199)):=(Below.refl _ wr).alloc (yaj _) _;have o:=n.below f;have q:=hb.trans (f.mono yab);have z:=Bk.new wr #[.string t.name,.slice X t.rels.length cr] 199;have x0:World.cell? _ ⟨wr.heap.size,0,none⟩=some (.string t.name):=z.cell 0;have lx:=z.lt;have C:=zlc (topS t) o yab yab;rw [HT.out] at C;clear n f b g0 V;go_wp2_with fail
    generalize wr.alloc (.cells #[.string t.name,.slice X t.rels.length cr] 199)=W1 at *
    refine C.mono ?_;rintro e W2 ⟨rfl,D,J,K⟩;rw [←HT.out] at D;have L:=q.trans J;have s:=kept_bk K z yab yac;have y1:W2.cell? ⟨wr.heap.size,1,none⟩=some (.slice X t.rels.length cr):=s.cell 1;have ly:=s.lt;clear C o q J K z x0 lx s q0 q1;obtain ⟨P,hP⟩:∃p,zbW ((T.take i).map zk4) ++ topS t=p:=⟨_,rfl⟩;rw [hP] at D;have am:P.size + (zbW (t.rels.map zev)).size + 2≤(zdu T).size:=by
     rw [←hP,size_app,a8];have:(zk4 t).size=(topS t).size + (zbW (t.rels.map zev)).size + 2:=by unfold zk4;rw [size_app,size_app];rfl
     omega
    have M:P ++ zbW (t.rels.map zev) ++ ⟨#[125,10]⟩=zbW ((T.take (i + 1)).map zk4):=by
     rw [a6,←hP];unfold zk4;simp only [zgy]
    have aa:=Lib.hid M;clear M;go_wp2_with fail
    go_loopw [23] (fun vk wy=>∃k:Nat,vk = .int .i64 k∧k≤t.rels.length∧Bld (w.heap.size + 1) (P ++ zbW ((t.rels.take k).map zev)) wy∧Below (w.heap.size + 1) W0 wy) (fun vk _=>t.rels.length-(intOf vk).toNat)
    case atStart=>exact ⟨0,rfl,yap _,(by rw [show zbW ((t.rels.take 0).map zev)=⟨#[]⟩ from rfl,zoQ];exact D),L⟩
    case round =>
     clear D L y1 ly;obtain ⟨k,rfl,hk,n,hb⟩:=hrel;have an:=hb.size;by_cases ab:k<t.rels.length
     · obtain ⟨x,hx⟩:∃x,t.rels[k]? = some x:=⟨t.rels[k],yal ab⟩;have ac:=a2 x (yar hx);obtain ⟨ad,ao⟩:=cat_at zev hx;obtain ⟨G,c3,vs,vo,Z,hs,ho,r0,r1,r2,r3,r4,r5⟩:=U.get hx;cases Z;obtain ⟨As,cS,rfl,rs⟩:=Rd.own hs;obtain ⟨Ao,cO,rfl,ro⟩:=Rd.own ho;have j:=World.block_lt_of_cell? _ _ r0;dsimp only at j;have b:Below w.heap.size w wr:=y.trans (hb.mono yab);have s0:=(b.cell (p:=⟨G,k * 6,none⟩) j).trans r0;have s1:=(b.cell (p:=⟨G,k * 6 + 1,none⟩) j).trans r1;have s2:=(b.cell (p:=⟨G,k * 6 + 2,none⟩) j).trans r2;have s3:=(b.cell (p:=⟨G,k * 6 + 3,none⟩) j).trans r3;have s4:=(b.cell (p:=⟨G,k * 6 + 4,none⟩) j).trans r4;have s5:=(b.cell (p:=⟨G,k * 6 + 5,none⟩) j).trans r5;have ae:(k:Int)<(t.rels.length:Nat):=by omega
       have f:Below wr.heap.size wr (wr.alloc (.cells #[.string x.name,.string x.view,.string x.edit,.string x.check,.slice As x.subs.length cS,.slice Ao x.ops.length cO] 203)):=(Below.refl _ wr).alloc (yaj _) _;have o:=n.below f;have q:=hb.trans (f.mono yab);have d:=Bk.new wr #[.string x.name,.string x.view,.string x.edit,.string x.check,.slice As x.subs.length cS,.slice Ao x.ops.length cO] 203;have z0:=d.cell 0;have z1:=d.cell 1;have z2:=d.cell 2;have z3:=d.cell 3;have z4:=d.cell 4;have z5:=d.cell 5;have lz:=d.lt;have af:w.heap.size≤wr.heap.size:=by omega
       have m:=b.trans (f.mono af);have N:=(rs.below m).more m.size;have O:=(ro.below m).more m.size;have aq:(zev x).size=1 + (relS x).size + 1:=by unfold zev;rw [size_app,size_app];rfl
       have ag:Hid (zev x=(⟨#[9]⟩:ByteArray) ++ relS x ++ ⟨#[10]⟩):=Lib.hid rfl;clear hs ho rs ro r0 r1 r2 r3 r4 r5 n f b d;go_wp2_with fail
       generalize wr.alloc (.cells #[.string x.name,.string x.view,.string x.edit,.string x.check,.slice As x.subs.length cS,.slice Ao x.ops.length cO] 203)=W3 at *
       refine (relation_any8 N O ac).mono ?_;rintro e W4 ⟨rfl,u⟩;have Q:=o.below u;have R:=q.trans (u.mono yab);have ar:=R.size;have C:=zlc (zev x) Q (by rw [size_app];omega) yab;rw [zgy,←ad,ag.out] at C;have au:(relS x).size≤90000000000000:=by omega
       clear o q Q u s0 s1 s2 s3 s4 s5 z0 z1 z2 z3 z4 z5 N O;go_wp2_with fail
       refine C.mono ?_;rintro e W5 ⟨rfl,E,F,_⟩;go_wp2_with fail
       refine ⟨⟨k + 1,by go_num,by omega,E,R.trans (F.mono yab)⟩,?_⟩;simp only [intOf];omega
     · obtain rfl:k=t.rels.length:=by omega
       have ae:¬(t.rels.length:Int)<(t.rels.length:Nat):=by omega
       rw [yaA] at n;have C:=zlc ⟨#[125,10]⟩ n (by rw [size_app];show _ + 2≤_;omega) yab;rw [aa.out] at C;clear n;go_wp2_with fail
       refine C.mono ?_;rintro e W5 ⟨rfl,E,F,_⟩;go_wp2_with fail
       refine ⟨⟨i + 1,by go_num,by omega,E,hb.trans (F.mono yab)⟩,?_⟩;simp only [intOf];omega
  · obtain rfl:i=T.length:=by omega
    have a7:¬(T.length:Int)<(T.length:Nat):=by omega
    rw [yaA] at n;have ks:=bstring8 n yab;rw [show zbW (T.map zk4)=zdu T from rfl] at ks;clear n;go_wp2_with fail
    refine ks.mono ?_;rintro e W5 ⟨rfl,u⟩;go_wp2_with fail
    go_returns
    exact ⟨rfl,y.trans ((hb.trans (u.mono (yaj _))).mono yab)⟩
end Go.Proofs.YtmblgnddgmfkhaaGreat
