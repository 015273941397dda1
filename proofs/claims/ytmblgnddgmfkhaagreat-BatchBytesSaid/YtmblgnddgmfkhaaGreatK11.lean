import Derived.Deep.Cut
import Derived.Laws.StructEq
import Derived.Deep.RegionHeld3
import Derived.Test.YtmblgnddgmfkhaaGreatK10
set_option maxRecDepth 100000
set_option maxHeartbeats 4000000
namespace Go.Proofs.YtmblgnddgmfkhaaGreat
section
open Go.RowKit
open Go.RowKit
open Go.RowKit
open Go.RowKit
variable {next:ByteArray} {i b1 b2:Nat}
def TypA.val (a:TypA):Value:=.agg #[.string a.name,.slice a.A a.rels.length a.c]
def RelA.val (a:RelA):Value:=.agg #[.string a.name,.string a.view,.string a.edit,.string a.check,.slice a.As a.subs.length a.cs,.slice a.Ao a.ops.length a.co]
def noT:TypA:=⟨⟨#[]⟩,none,0,[]⟩
def noR:RelA:=⟨⟨#[]⟩,⟨#[]⟩,⟨#[]⟩,⟨#[]⟩,none,0,[],none,0,[]⟩
def zbX (l:List TypA) (n:ByteArray):Option TypA:=l.find? fun t=>decide (t.name=n)
def zbt (t:TypA) (n:ByteArray):Option RelA:=t.rels.find? fun r=>decide (r.name=n)
theorem zl1 {α:Type} {p:α→Bool}:∀{l:List α} {i:Nat} {a:α},l[i]? = some a→(∀x ∈ l.take i,p x=false)→p a=true→l.find? p=some a
 | [],_,_,h,_,_=>by simp at h
 | x::r,0,a,h,_,b=>by
  simp only [ybs,yaT] at h;subst h;rw [ycQ,b]
 | x::r,i + 1,a,h,f,b=>by
  rw [ycO] at f;rw [ycQ,f x yar];exact zl1 (by simpa using h) (fun y g=>f y (yau _ g)) b
theorem zkF {α:Type} {p:α→Bool} {l:List α} (h:∀x ∈ l,p x=false):l.find? p=none:=List.find?_eq_none.2 fun x b=>by rw [h x b];decide
theorem zfM {α:Type} {p:α→Bool} {l:List α} {a:α} (hi:l[i]? = some a) (hn:∀x ∈ l.take i,p x=false) (hp:p a=false):∀x ∈ l.take (i + 1),p x=false:=by
 intro x b;rw [yaC,hi] at b;rcases yaA.1 b with h | h
 · exact hn x h
 · simp at h;subst h;exact hp
theorem Bk.c6 {w:World} {b:Nat} {t:TypeId} {x0 x1 x2 x3 x4 x5:Value} (h:Bk w b #[x0,x1,x2,x3,x4,x5] t):w.cell? ⟨b,0,none⟩=some x0∧w.cell? ⟨b,1,none⟩=some x1∧w.cell? ⟨b,2,none⟩=some x2∧w.cell? ⟨b,3,none⟩=some x3∧w.cell? ⟨b,4,none⟩=some x4∧w.cell? ⟨b,5,none⟩=some x5:=⟨h.cell 0,h.cell 1,h.cell 2,h.cell 3,h.cell 4,h.cell 5⟩
theorem typeOf_any {w:World} {R:Nat} {A:Option Addr} {c:Nat} {l:List TypA} (h:SchA w R A c l) (n:ByteArray) :
 Calls Tryz.prog 217 #[.agg #[.slice A l.length c],.string n] w fun e w'=>e = .returned (.tuple #[((zbX l n).getD noT).val,.bool (zbX l n).isSome])∧Below w.heap.size w w':=by
 have P:(l.length:Int)≤9223372036854775807:=by have:=h.rows.cap;have:=h.rows.capm;simp only [maxLen] at this;omega
 go_enter Tryz.func217,Tryz.ntmps217
 go_wp2_with fail
 have G:=Bk.new w #[.slice A l.length c] 140;have k:=Bk.new2 w (.cells #[.slice A l.length c] 140) #[.string ⟨#[]⟩,.slice none 0 0] 199;have j:Below w.heap.size w ((w.alloc (.cells #[.slice A l.length c] 140)).alloc (.cells #[.string ⟨#[]⟩,.slice none 0 0] 199)):=((Below.refl _ w).alloc (yaj _) _).alloc (size_alloc (yaj _)) _;have H:=h.up j;generalize (w.alloc (.cells #[.slice A l.length c] 140)).alloc (.cells #[.string ⟨#[]⟩,.slice none 0 0] 199)=D at *
 go_loopw [11] (fun u I=>∃i:Nat,u = .int .i64 i∧i≤l.length∧(∀t ∈ l.take i,decide (t.name=n)=false)∧Below D.heap.size D I) (fun u _=>l.length-(intOf u).toNat)
 case atStart=>exact ⟨0,rfl,yao _,fun t m=>(by simp at m),Below.refl _ _⟩
 case round =>
  obtain ⟨i,rfl,hi,q,b⟩:=hrel;have J:=k.lt;by_cases x:i<l.length
  · have y:(i:Int)<(l.length:Nat):=by omega
    obtain ⟨t,m⟩:∃t,l[i]? = some t:=⟨l[i],yal x⟩;obtain ⟨g,o,rfl,g0,Q,hk⟩:=(H.up b).get m;have K:=World.block_lt_of_cell? _ _ g0;dsimp only at K;have f:=k.below b;obtain ⟨z0,L⟩:=f.c2;have M:=f.fz;have T:=f.lt;have N:¬w.heap.size + 1=wr.heap.size:=by omega
    have O:¬wr.heap.size=w.heap.size + 1:=by omega
    have E:=zbp t.name n;cases s:decide (t.name=n) with
    | false =>
     rw [s] at E;go_wp2
     refine ⟨⟨i + 1,by go_num,by omega,zfM m q s,b.alloc b.size _⟩,?_⟩;simp [intOf];omega
    | true =>
     rw [s] at E;have F:zbX l n=some t:=zl1 m q s;go_wp2
     have z:=((f.set 0 (.string t.name)).set 1 (.slice t.A t.rels.length t.c)).alloc (.cells #[.string t.name,.slice t.A t.rels.length t.c] 199);obtain ⟨B,C⟩:=Bk.c2 z;refine bodyPost_ret (v:=.tuple #[t.val,.bool true]) (by simp [results,Tryz.results217,go_sem,B,C];try rfl) rfl ?_;rw [F];exact ⟨rfl,(((j.trans (b.mono j.size)).setCell (ybd _) _).setCell (ybd _) _).alloc (by simp;exact (j.trans (b.mono j.size)).size) _⟩
  · have y:¬((i:Int)<(l.length:Nat)):=by omega
    obtain rfl:i=l.length:=by omega
    rw [yaz] at q;have F:zbX l n=none:=zkF q;have f:=k.below b;obtain ⟨z0,L⟩:=f.c2;have M:=f.fz;go_wp2
    have z:=(f.set 0 (.string ⟨#[]⟩)).set 1 (.slice none 0 0);obtain ⟨B,C⟩:=Bk.c2 z;refine bodyPost_ret (v:=.tuple #[noT.val,.bool false]) (by simp [results,Tryz.results217,go_sem,B,C];try rfl) rfl ?_;exact ⟨rfl,((j.trans (b.mono j.size)).setCell (ybd _) _).setCell (ybd _) _⟩
theorem relOf_any {w:World} {R:Nat} {q:TypA} (h:q.ok w R) (n:ByteArray) :
 Calls Tryz.prog 218 #[.agg #[.string q.name,.slice q.A q.rels.length q.c],.string n] w fun e w'=>e = .returned (.tuple #[((zbt q n).getD noR).val,.bool (zbt q n).isSome])∧Below w.heap.size w w':=by
 have hl:(q.rels.length:Int)≤9223372036854775807:=by have:=h.rels.cap;have:=h.rels.capm;simp only [maxLen] at this;omega
 go_enter Tryz.func218,Tryz.ntmps218
 go_wp2_with fail
 have T:=Bk.new w #[.string q.name,.slice q.A q.rels.length q.c] 199;have k:=Bk.new2 w (.cells #[.string q.name,.slice q.A q.rels.length q.c] 199) #[.string ⟨#[]⟩,.string ⟨#[]⟩,.string ⟨#[]⟩,.string ⟨#[]⟩,.slice none 0 0,.slice none 0 0] 203;have j:Below w.heap.size w ((w.alloc (.cells #[.string q.name,.slice q.A q.rels.length q.c] 199)).alloc (.cells #[.string ⟨#[]⟩,.string ⟨#[]⟩,.string ⟨#[]⟩,.string ⟨#[]⟩,.slice none 0 0,.slice none 0 0] 203)):=((Below.refl _ w).alloc (yaj _) _).alloc (size_alloc (yaj _)) _;have U:=h.up j;generalize (w.alloc (.cells #[.string q.name,.slice q.A q.rels.length q.c] 199)).alloc (.cells #[.string ⟨#[]⟩,.string ⟨#[]⟩,.string ⟨#[]⟩,.string ⟨#[]⟩,.slice none 0 0,.slice none 0 0] 203)=N at *
 go_loopw [11] (fun y V=>∃i:Nat,y = .int .i64 i∧i≤q.rels.length∧(∀t ∈ q.rels.take i,decide (t.name=n)=false)∧Below N.heap.size N V) (fun y _=>q.rels.length-(intOf y).toNat)
 case atStart=>exact ⟨0,rfl,yao _,fun t m=>(by simp at m),Below.refl _ _⟩
 case round =>
  obtain ⟨i,rfl,hi,u,f⟩:=hrel;have X:=k.lt;by_cases z:i<q.rels.length
  · have B:(i:Int)<(q.rels.length:Nat):=by omega
    obtain ⟨t,m⟩:∃t,q.rels[i]? = some t:=⟨q.rels[i],yal z⟩;obtain ⟨g,o,eA,g0,g1,g2,g3,g4,g5,hk⟩:=(U.up f).get m;have Y:=World.block_lt_of_cell? _ _ g0;dsimp only at Y;have b:=k.below f;obtain ⟨z0,C,D,z3,z4,z5⟩:=b.c6;have E:=b.fz;have O:=b.lt;have Z:¬w.heap.size + 1=wr.heap.size:=by omega
    have a1:¬wr.heap.size=w.heap.size + 1:=by omega
    have P:=zbp t.name n;cases x:decide (t.name=n) with
    | false =>
     rw [x] at P;go_wp2
     refine ⟨⟨i + 1,by go_num,by omega,zfM m u x,f.alloc f.size _⟩,?_⟩;simp [intOf];omega
    | true =>
     rw [x] at P;have Q:zbt q n=some t:=zl1 m u x;go_upto_region 5 with (fail)
     replace b:=b.alloc (.cells #[.string t.name,.string t.view,.string t.edit,.string t.check,.slice t.As t.subs.length t.cs,.slice t.Ao t.ops.length t.co] 203);have F:=Bk.new wr #[.string t.name,.string t.view,.string t.edit,.string t.check,.slice t.As t.subs.length t.cs,.slice t.Ao t.ops.length t.co] 203;have s:=f.alloc f.size (.cells #[.string t.name,.string t.view,.string t.edit,.string t.check,.slice t.As t.subs.length t.cs,.slice t.Ao t.ops.length t.co] 203);clear z0 C D z3 z4 z5 E O;generalize wr.alloc (.cells #[.string t.name,.string t.view,.string t.edit,.string t.check,.slice t.As t.subs.length t.cs,.slice t.Ao t.ops.length t.co] 203)=wy at *
     obtain ⟨z0,C,D,z3,z4,z5⟩:=b.c6;have E:=b.fz;have O:=b.lt;obtain ⟨x0,x1,x2,x3,x4,x5⟩:=F.c6;go_wp2
     have G:=(((((b.set 0 (.string t.name)).set 1 (.string t.view)).set 2 (.string t.edit)).set 3 (.string t.check)).set 4 (.slice t.As t.subs.length t.cs)).set 5 (.slice t.Ao t.ops.length t.co);obtain ⟨H,I,J,K,L,M⟩:=Bk.c6 G;refine bodyPost_ret (v:=.tuple #[t.val,.bool true]) (by simp [results,Tryz.results218,go_sem,H,I,J,K,L,M];try rfl) rfl ?_;rw [Q];exact ⟨rfl,((((((j.trans (s.mono j.size)).setCell (ybd _) _).setCell (ybd _) _).setCell (ybd _) _).setCell (ybd _) _).setCell (ybd _) _).setCell (ybd _) _⟩
  · have B:¬((i:Int)<(q.rels.length:Nat)):=by omega
    obtain rfl:i=q.rels.length:=by omega
    rw [yaz] at u;have Q:zbt q n=none:=zkF u;have b:=k.below f;obtain ⟨z0,C,D,z3,z4,z5⟩:=b.c6;have E:=b.fz;go_wp2
    have G:=(((((b.set 0 (.string ⟨#[]⟩)).set 1 (.string ⟨#[]⟩)).set 2 (.string ⟨#[]⟩)).set 3 (.string ⟨#[]⟩)).set 4 (.slice none 0 0)).set 5 (.slice none 0 0);obtain ⟨H,I,J,K,L,M⟩:=Bk.c6 G;refine bodyPost_ret (v:=.tuple #[noR.val,.bool false]) (by simp [results,Tryz.results218,go_sem,H,I,J,K,L,M];try rfl) rfl ?_;exact ⟨rfl,((((((j.trans (f.mono j.size)).setCell (ybd _) _).setCell (ybd _) _).setCell (ybd _) _).setCell (ybd _) _).setCell (ybd _) _).setCell (ybd _) _⟩
section
variable {w:World} {R:Nat} {A:Option Addr} {c:Nat} {l:List TypA} {q:TypA} {n:ByteArray}
theorem zeE (h:q.ok w R) (hf:zbt q n=none):Calls Tryz.prog 218 #[.agg #[.string q.name,.slice q.A q.rels.length q.c],.string n] w fun e w' =>
 e = .returned (.tuple #[.agg #[.string ⟨#[]⟩,.string ⟨#[]⟩,.string ⟨#[]⟩,.string ⟨#[]⟩,.slice none 0 0,.slice none 0 0],.bool false])∧Below w.heap.size w w':=by
 have k:=relOf_any h n;rw [hf] at k;exact k
theorem zga (h:q.ok w R) {r:RelA} (hf:zbt q n=some r):Calls Tryz.prog 218 #[.agg #[.string q.name,.slice q.A q.rels.length q.c],.string n] w fun e w' =>
 e = .returned (.tuple #[.agg #[.string r.name,.string r.view,.string r.edit,.string r.check,.slice r.As r.subs.length r.cs,.slice r.Ao r.ops.length r.co],.bool true])∧Below w.heap.size w w':=by
 have k:=relOf_any h n;rw [hf] at k;exact k
theorem zdG (h:SchA w R A c l) (hf:zbX l n=none):Calls Tryz.prog 217 #[.agg #[.slice A l.length c],.string n] w fun e w' =>
 e = .returned (.tuple #[.agg #[.string ⟨#[]⟩,.slice none 0 0],.bool false])∧Below w.heap.size w w':=by
 have k:=typeOf_any h n;rw [hf] at k;exact k
theorem zcW (h:SchA w R A c l) {t:TypA} (hf:zbX l n=some t):Calls Tryz.prog 217 #[.agg #[.slice A l.length c],.string n] w fun e w' =>
 e = .returned (.tuple #[.agg #[.string t.name,.slice t.A t.rels.length t.c],.bool true])∧Below w.heap.size w w':=by
 have k:=typeOf_any h n;rw [hf] at k;exact k
end
theorem zd0 (q:TypA) (n:ByteArray):znd q.says n=(zbt q n).map RelA.says:=by
 show (q.rels.map RelA.says).find? _=_;rw [List.find?_map];rfl
theorem zhl (l:List TypA) (n:ByteArray):zp5 (l.map TypA.says) n=(zbX l n).map TypA.says:=by
 show (l.map TypA.says).find? _=_;rw [List.find?_map];rfl
theorem zqc (q:TypA) (n:ByteArray):zgy q.says n=(zbt q n).isSome:=by unfold zgy;rw [zd0,Option.isSome_map]
theorem zqd (l:List TypA) (n:ByteArray):hasT (l.map TypA.says) n=(zbX l n).isSome:=by unfold hasT;rw [zhl,Option.isSome_map]
theorem zkJ (l:List TypA) (ty re:ByteArray):hasI (l.map TypA.says) ty re=(match zbX l ty with
 | none=>false
 | some t=>zgy t.says re):=by
 unfold hasI findI zgy;rw [zhl];cases zbX l ty <;> rfl
theorem ziN {l:List TypA} {n:ByteArray} {t:TypA} (h:zbX l n=some t):t ∈ l:=List.mem_of_find?_eq_some h
theorem zl3 {q:TypA} {n:ByteArray} {r:RelA} (h:zbt q n=some r):r ∈ q.rels:=List.mem_of_find?_eq_some h
theorem zan {B:Nat} {w w1 w2:World} (h:Below B w w1) (hB:B≤w1.heap.size) (k:Below w1.heap.size w1 w2):Below B w w2:=h.trans (k.mono hB)
theorem zdS (w:World) (o:Obj):Below w.heap.size w (w.alloc o):=(Below.refl _ w).alloc (yaj _) o
theorem zkz (x:ByteArray):x.toList.isEmpty=decide (x=⟨#[]⟩):=by
 have h:=zbp x ⟨#[]⟩;rw [←h,show (⟨#[]⟩:ByteArray).toList=[] by decide +kernel];cases x.toList <;> rfl
theorem hasRel_any {w:World} {R:Nat} {q:TypA} (h:q.ok w R) (n:ByteArray) :
 Calls Tryz.prog 219 #[.agg #[.string q.name,.slice q.A q.rels.length q.c],.string n] w fun e w'=>e = .returned (.bool (zgy q.says n))∧Below w.heap.size w w':=by
 rw [zqc];cases f:zbt q n with
 | none =>
  go_enter Tryz.func219,Tryz.ntmps219
  go_wp2_with (refine (zeE (h.up (zdS w _)) f).mono ?_;rintro e g ⟨rfl,b⟩)
  go_ret
  have hb:=zan (zdS w _) (size_alloc (yaj _)) b;exact ⟨rfl,hb.alloc hb.size _⟩
 | some r =>
  go_enter Tryz.func219,Tryz.ntmps219
  go_wp2_with (refine (zga (h.up (zdS w _)) f).mono ?_;rintro e g ⟨rfl,b⟩)
  go_ret
  have hb:=zan (zdS w _) (size_alloc (yaj _)) b;exact ⟨rfl,hb.alloc hb.size _⟩
theorem isThere_any {w:World} {R:Nat} {A:Option Addr} {c:Nat} {l:List TypA} (h:SchA w R A c l) (s:ByteArray × ByteArray) :
 Calls Tryz.prog 220 #[.agg #[.slice A l.length c],.agg #[.string s.1,.string s.2]] w fun e w'=>e = .returned (.bool (zrX (l.map TypA.says) s))∧Below w.heap.size w w':=by
 have b:Below w.heap.size w ((w.alloc (.cells #[.slice A l.length c] 140)).alloc (.cells #[.string s.1,.string s.2] 246)):=(zdS w _).alloc (size_alloc (yaj _)) _;unfold zrX;rw [zqd,zkJ];cases m:zbX l s.1 with
 | none =>
  go_enter Tryz.func220,Tryz.ntmps220
  go_wp2_with (with_reducible refine (zdG (h.up b) m).mono ?_;rintro e o ⟨rfl,f⟩)
  go_ret
  have hb:=zan b b.size f;exact ⟨rfl,hb.alloc hb.size _⟩
 | some t =>
  have q:=zkz s.2;have j:=Bk.new2 w (.cells #[.slice A l.length c] 140) #[.string s.1,.string s.2] 246;cases u:decide (s.2=⟨#[]⟩) with
  | true =>
   rw [u] at q;go_enter Tryz.func220,Tryz.ntmps220
   go_wp2_with (with_reducible refine (zcW (h.up b) m).mono ?_;rintro e o ⟨rfl,f⟩;have g:=j.below f;have x:=g.lt;have y:=g.c2.2)
   go_ret
   have hb:=zan b b.size f;exact ⟨rfl,hb.alloc hb.size _⟩
  | false =>
   rw [u] at q;go_enter Tryz.func220,Tryz.ntmps220
   go_wp2_with (with_reducible refine (zcW (h.up b) m).mono ?_;rintro e o ⟨rfl,f⟩;have g:=j.below f;have x:=g.lt;have y:=g.c2.2)
   have hb:=zan b b.size f;have hk:=(h.each t (ziN m)).up (hb.alloc hb.size (.cells #[.string t.name,.slice t.A t.rels.length t.c] 199));go_wp2_with (with_reducible refine (hasRel_any hk _).mono ?_;rintro e z ⟨rfl,n⟩)
   go_ret
   have k:=hb.alloc hb.size (.cells #[.string t.name,.slice t.A t.rels.length t.c] 199);exact ⟨rfl,zan k k.size n⟩
theorem path_any {w:World} {q:TypA} {r:RelA} (h1:q.name.size≤140737488351232) (h2:r.name.size≤140737488351232) :
 Calls Tryz.prog 164 #[.agg #[.string q.name,.slice q.A q.rels.length q.c],.agg #[.string r.name,.string r.view,.string r.edit,.string r.check,.slice r.As r.subs.length r.cs,.slice r.Ao r.ops.length r.co]] w fun e w' =>
  e = .returned (.string (zjX q.says r.says))∧Below w.heap.size w w':=by
 have b:zjX q.says r.says=q.name ++ ⟨#[46]⟩ ++ r.name:=rfl;rw [b];have f:¬9223372036854775807<q.name.size + 1:=by omega
 have g:¬9223372036854775807<q.name.size + 1 + r.name.size:=by omega
 go_enter Tryz.func164,Tryz.ntmps164
 go_wp2
 go_ret
 exact ⟨rfl,(zdS w _).alloc (size_alloc (yaj _)) _⟩
def tyE (l:List TypA) (t:TypA):Nat:=if (zbX l t.name).isSome=true then 32 else if 12<t.rels.length then 13 else 0
def reE (q:TypA) (r:RelA):Nat:=if (zbt q r.name).isSome=true then 32 else if 16<r.ops.length then 13 else 0
theorem typeFault_any {w:World} {R:Nat} {A:Option Addr} {c:Nat} {l:List TypA} {t:TypA} (h:SchA w R A c l) :
 Calls Tryz.prog 162 #[.slice A l.length c,.agg #[.string t.name,.slice t.A t.rels.length t.c]] w fun e w' =>
  e = .returned (.int .i64 (tyE l t:Nat))∧Below w.heap.size w w':=by
 have b:=zdS w (.cells #[.string t.name,.slice t.A t.rels.length t.c] 199);have k:=Bk.new w #[.string t.name,.slice t.A t.rels.length t.c] 199;cases j:zbX l t.name with
 | some x =>
  have m:tyE l t=32:=by unfold tyE;rw [j];rfl
  rw [m];go_enter Tryz.func162,Tryz.ntmps162
  go_wp2_with (with_reducible refine (zcW (h.up b) j).mono ?_;rintro e o ⟨rfl,f⟩)
  go_ret
  have hb:=zan b b.size f;exact ⟨rfl,hb.alloc hb.size _⟩
 | none =>
  by_cases q:12<t.rels.length
  · have m:tyE l t=13:=by unfold tyE;rw [j,yak yac,yan q]
    rw [m];have n:(12:Int)<(t.rels.length:Nat):=by omega
    go_enter Tryz.func162,Tryz.ntmps162
    go_wp2_with (with_reducible refine (zdG (h.up b) j).mono ?_;rintro e o ⟨rfl,f⟩;have g:=k.below f;have s:=g.lt;have u:=g.c2.2)
    go_ret
    have hb:=zan b b.size f;exact ⟨rfl,hb.alloc hb.size _⟩
  · have m:tyE l t=0:=by unfold tyE;rw [j,yak yac,yak q]
    rw [m];have n:¬(12:Int)<(t.rels.length:Nat):=by omega
    go_enter Tryz.func162,Tryz.ntmps162
    go_wp2_with (with_reducible refine (zdG (h.up b) j).mono ?_;rintro e o ⟨rfl,f⟩;have g:=k.below f;have s:=g.lt;have u:=g.c2.2)
    go_ret
    have hb:=zan b b.size f;exact ⟨rfl,hb.alloc hb.size _⟩
theorem relFault_any {w:World} {R:Nat} {A:Option Addr} {c:Nat} {l:List RelA} {t:RelA} (h:TypA.ok w R ⟨⟨#[]⟩,A,c,l⟩) :
 Calls Tryz.prog 163 #[.slice A l.length c,.agg #[.string t.name,.string t.view,.string t.edit,.string t.check,.slice t.As t.subs.length t.cs,.slice t.Ao t.ops.length t.co]] w fun e w' =>
  e = .returned (.int .i64 (reE ⟨⟨#[]⟩,A,c,l⟩ t:Nat))∧Below w.heap.size w w':=by
 have b:=zdS w (.cells #[.string t.name,.string t.view,.string t.edit,.string t.check,.slice t.As t.subs.length t.cs,.slice t.Ao t.ops.length t.co] 203);have k:=Bk.new w #[.string t.name,.string t.view,.string t.edit,.string t.check,.slice t.As t.subs.length t.cs,.slice t.Ao t.ops.length t.co] 203;cases j:zbt ⟨⟨#[]⟩,A,c,l⟩ t.name with
 | some x =>
  have m:reE ⟨⟨#[]⟩,A,c,l⟩ t=32:=by unfold reE;rw [j];rfl
  rw [m];go_enter Tryz.func163,Tryz.ntmps163
  go_wp2_with (with_reducible refine (zga (h.up b) j).mono ?_;rintro e o ⟨rfl,f⟩)
  go_ret
  have hb:=zan b b.size f;exact ⟨rfl,hb.alloc hb.size _⟩
 | none =>
  by_cases q:16<t.ops.length
  · have m:reE ⟨⟨#[]⟩,A,c,l⟩ t=13:=by unfold reE;rw [j,yak yac,yan q]
    rw [m];have n:(16:Int)<(t.ops.length:Nat):=by omega
    go_enter Tryz.func163,Tryz.ntmps163
    go_wp2_with (with_reducible refine (zeE (h.up b) j).mono ?_;rintro e o ⟨rfl,f⟩;have g:=k.below f;have s:=g.lt;have u:=g.c6.2.2.2.2.2)
    go_ret
    have hb:=zan b b.size f;exact ⟨rfl,hb.alloc hb.size _⟩
  · have m:reE ⟨⟨#[]⟩,A,c,l⟩ t=0:=by unfold reE;rw [j,yak yac,yak q]
    rw [m];have n:¬(16:Int)<(t.ops.length:Nat):=by omega
    go_enter Tryz.func163,Tryz.ntmps163
    go_wp2_with (with_reducible refine (zeE (h.up b) j).mono ?_;rintro e o ⟨rfl,f⟩;have g:=k.below f;have s:=g.lt;have u:=g.c6.2.2.2.2.2)
    go_ret
    have hb:=zan b b.size f;exact ⟨rfl,hb.alloc hb.size _⟩
structure SubsA (w:World) (A:Option Addr) (c:Nat) (l:List (ByteArray × ByteArray)):Prop where
 rows:Rd w w.heap.size 2 A l.length c (l.flatMap zpt)
theorem SubsA.up {w w':World} {A:Option Addr} {c:Nat} {l:List (ByteArray × ByteArray)} (h:SubsA w A c l) (hb:Below w.heap.size w w'):SubsA w' A c l:=⟨h.rows.up hb⟩
theorem SubsA.get {w:World} {A:Option Addr} {c:Nat} {l:List (ByteArray × ByteArray)} (h:SubsA w A c l) {s:ByteArray × ByteArray} (hi:l[i]? = some s) :
 ∃b o,A=some ⟨b,o,none⟩∧w.cell? ⟨b,o + i * 2,none⟩=some (.string s.1)∧w.cell? ⟨b,o + i * 2 + 1,none⟩=some (.string s.2):=by
 obtain ⟨b,o,e,_,f⟩:=h.rows.at_ (zd8 hi);have g:=fun k (hk:k<2)=>zbf zpt (sz:=2) (fun _=>rfl) hi (k:=k) hk;exact ⟨b,o,e,f _ _ (g 0 yab),f _ _ (g 1 yab)⟩
theorem bdrew (w:World) (n:Nat):Below w.heap.size w (w.drewN n):=⟨rfl,rfl,rfl,yaj _,fun _ _=>rfl⟩
theorem any_at {α:Type} {p:α→Bool} {l:List α} {a:α} (h:l[i]? = some a) (hp:p a=true):l.any p=true:=ybV.2 ⟨a,yaq h,hp⟩
theorem zlL {α:Type} {p:α→Bool} {l:List α} (h:∀x ∈ l,p x=false):l.any p=false:=by
 cases e:l.any p with
 | false=>rfl
 | true =>
  obtain ⟨x,f,b⟩:=ybV.1 e;rw [h x f] at b;cases b
theorem zr5 (a c:ByteArray):a.toList=c.toList↔a=c:=by
 have h:=zbp a c;constructor
 · intro e;rw [e] at h;simpa using h.symm
 · rintro rfl;rfl
theorem eqSub (a b c d:ByteArray) (w:World):(binOp .eql 246 (.agg #[.string a,.string b]) (.agg #[.string c,.string d])).run Tryz.prog w = .ok (.bool (decide ((a,b)=(c,d)))) w:=by
 have hS:Tryz.prog.underlying 246=some (.struct (Tryz.prog.fieldsOf 246)):=by kernel_rfl
 have f:Tryz.prog.stoodInHeld 246=false:=by kernel_rfl
 have u:=Tryz.underlying9;rw [run_eql_struct,show (10000:Nat)=9999 + 1 from rfl,run_equalIn_agg w 9999 246 _ _ hS f];simp only [Program.fieldsOf,Tryz.underlying246];go_simp;have g:=zr5 a c;have j:=zr5 b d;by_cases k:a=c <;> by_cases m:b=d <;> simp [k,m,g,j]
theorem znG (s t:ByteArray × ByteArray):decide ((s.1,s.2)=(t.1,t.2))=decide (t=s):=by
 rcases s with ⟨a,b⟩;rcases t with ⟨c,d⟩;have e:((a,b)=(c,d))=((c,d)=(a,b)):=propext eq_comm;simp only [e]
theorem index_any {w:World} {A:Option Addr} {c:Nat} {l:List (ByteArray × ByteArray)} (h:SubsA w A c l) (s:ByteArray × ByteArray) :
 Calls Tryz.prog 184 #[.slice A l.length c,.agg #[.string s.1,.string s.2]] w fun e w'=>(∃z:Int,e = .returned (.int .i64 z)∧decide (0≤z)=l.any fun y=>decide (y=s))∧Below w.heap.size w w':=by
 have H:(l.length:Int)≤9223372036854775807:=by have:=h.rows.cap;have:=h.rows.capm;simp only [maxLen] at this;omega
 have f:=zdS w (.cells #[.string s.1,.string s.2] 246);have n:=Bk.new w #[.string s.1,.string s.2] 246;have E:=h.up f;go_enter Tryz.func184,Tryz.ntmps184
 go_wp2_with fail
 generalize w.alloc (.cells #[.string s.1,.string s.2] 246)=C at *
 go_loopw [8] (fun q F=>∃i:Nat,q = .int .i64 i∧i≤l.length∧(∀y ∈ l.take i,decide (y=s)=false)∧Below C.heap.size C F) (fun q _=>l.length-(intOf q).toNat)
 case atStart=>exact ⟨0,rfl,yao _,fun t j=>(by simp at j),Below.refl _ _⟩
 case round =>
  obtain ⟨i,rfl,hi,u,b⟩:=hrel;have k:=n.below b;obtain ⟨I,J⟩:=k.c2;have K:=k.lt;by_cases x:i<l.length
  · have B:(i:Int)<(l.length:Nat):=by omega
    obtain ⟨t,j⟩:∃t,l[i]? = some t:=⟨l[i],yal x⟩;obtain ⟨g,o,rfl,g0,L⟩:=(E.up b).get j;have G:=World.block_lt_of_cell? _ _ g0;dsimp only at G;have D:=eqSub s.1 s.2 t.1 t.2;cases m:decide (t=s) with
    | true =>
     rw [znG,m] at D;go_wp2_with fail
     go_quiet (fail)
     go_wp2
     go_ret
     exact ⟨⟨_,rfl,by rw [any_at j m];exact yaB yab⟩,zan f f.size (zan b b.size (bdrew wr nq))⟩
    | false =>
     rw [znG,m] at D;go_wp2_with fail
     go_quiet (fail)
     go_wp2
     refine ⟨⟨i + 1,by go_num,by omega,zfM j u m,zan b b.size (bdrew wr nq)⟩,?_⟩;simp [intOf];omega
  · have B:¬(i:Int)<(l.length:Nat):=by omega
    obtain rfl:i=l.length:=by omega
    rw [yaz] at u;go_wp2
    go_ret
    exact ⟨⟨_,rfl,by rw [zlL u];decide⟩,f.trans (b.mono f.size)⟩
theorem contains_any {w:World} {A:Option Addr} {c:Nat} {l:List (ByteArray × ByteArray)} (h:SubsA w A c l) (s:ByteArray × ByteArray) :
 Calls Tryz.prog 134 #[.slice A l.length c,.agg #[.string s.1,.string s.2]] w fun e w'=>e = .returned (.bool (l.any fun y=>decide (y=s)))∧Below w.heap.size w w':=by
 have b:=zdS w (.cells #[.string s.1,.string s.2] 246);go_enter Tryz.func134,Tryz.ntmps134
 go_wp2_with fail
 refine (index_any (h.up b) s).mono ?_;rintro e k ⟨⟨z,rfl,g⟩,f⟩;by_cases j:0≤z
 · go_wp2
   go_ret
   exact ⟨by rw [←g,yaB j];rfl,b.trans (f.mono b.size)⟩
 · go_wp2
   go_ret
   exact ⟨by rw [←g];rfl,b.trans (f.mono b.size)⟩
def zoF (l:List TypI) (next:ByteArray) (x:ByteArray × ByteArray):Bool:=decide (x.2=⟨#[]⟩) && hasI l x.1 next
theorem lead1_any {w:World} {R:Nat} {A:Option Addr} {c:Nat} {l:List TypA} (h:SchA w R A c l) (x:ByteArray × ByteArray) (l1:b1<w.heap.size)
 (c1:w.cell? ⟨b1,0,none⟩=some (.slice A l.length c)) (c2:w.cell? ⟨b2,0,none⟩=some (.string next)) :
 Calls Tryz.prog 277 #[.agg #[.string x.1,.string x.2],.pointer (some ⟨b1,0,none⟩),.pointer (some ⟨b2,0,none⟩)] w fun e w'=>e = .returned (.bool (zoF (l.map TypA.says) next x))∧Below w.heap.size w w':=by
 have b:=zdS w (.cells #[.string x.1,.string x.2] 246);have k:=Bk.new w #[.string x.1,.string x.2] 246;unfold zoF;rw [zkJ];cases m:zbX l x.1 with
 | none =>
  go_enter Tryz.func277,Tryz.ntmps277
  go_wp2_with (with_reducible refine (zdG (h.up b) m).mono ?_;rintro e q ⟨rfl,f⟩)
  go_ret
  have hb:=zan b b.size f;exact ⟨by simp,hb.alloc hb.size _⟩
 | some t =>
  have s:=zkz x.2;cases u:decide (x.2=⟨#[]⟩) with
  | false =>
   rw [u] at s;go_enter Tryz.func277,Tryz.ntmps277
   go_wp2_with (with_reducible refine (zcW (h.up b) m).mono ?_;rintro e q ⟨rfl,f⟩;have g:=k.below f;have y:=g.lt;have z:=g.c2.2)
   go_ret
   have hb:=zan b b.size f;exact ⟨rfl,hb.alloc hb.size _⟩
  | true =>
   rw [u] at s;go_enter Tryz.func277,Tryz.ntmps277
   go_wp2_with (with_reducible refine (zcW (h.up b) m).mono ?_;rintro e q ⟨rfl,f⟩;have g:=k.below f;have y:=g.lt;have z:=g.c2.2;have B:=zbd (zbd c2 b) f;have n:=World.block_lt_of_cell? _ _ B;dsimp only at n)
   have hb:=zan b b.size f;have j:=hb.alloc hb.size (.cells #[.string t.name,.slice t.A t.rels.length t.c] 199);have hk:=(h.each t (ziN m)).up j;go_wp2_with (with_reducible refine (hasRel_any hk _).mono ?_;rintro e C ⟨rfl,o⟩)
   go_ret
   exact ⟨rfl,zan j j.size o⟩
theorem zo6 {f:FuncId} {fn:Func} (hf:Tryz.prog.funcs[f]? = some fn) (hname:(fn.name == "runtime.NumGoroutine")=false) (hb:fn.body.isNone=false) (args:Array Value) (W:World):(callFunc f args).run Tryz.prog W = .ok (.enter f args) W:=by
 have b:¬(fn.name="runtime.NumGoroutine"):=by simpa using hname
 have g:fn.body≠none:=by intro e;rw [e] at hb;cases hb
 simp [callFunc,hf,b,g,Result.andThen]
theorem indexFunc_any {w:World} {R:Nat} {A A2:Option Addr} {c c2:Nat} {l:List TypA} {s:List (ByteArray × ByteArray)} (h:SchA w R A c l) (hs:SubsA w A2 c2 s) (l1:b1<w.heap.size)
 (q1:w.cell? ⟨b1,0,none⟩=some (.slice A l.length c)) (q2:w.cell? ⟨b2,0,none⟩=some (.string next)) :
 Calls Tryz.prog 286 #[.slice A2 s.length c2,.func (.func 277) #[] #[.pointer (some ⟨b1,0,none⟩),.pointer (some ⟨b2,0,none⟩)]] w fun e w'=>(∃z:Int,e = .returned (.int .i64 z)∧decide (0≤z)=s.any (zoF (l.map TypA.says) next))∧Below w.heap.size w w':=by
 have G:(s.length:Int)≤9223372036854775807:=by have:=hs.rows.cap;have:=hs.rows.capm;simp only [maxLen] at this;omega
 have C:∀f W,(callFunc 277 f).run Tryz.prog W = .ok (.enter 277 f) W:=zo6 Tryz.func277 yaa yaa;go_enter Tryz.func286,Tryz.ntmps286
 go_wp2_with fail
 go_loopw [8] (fun q D=>∃i:Nat,q = .int .i64 i∧i≤s.length∧(∀y ∈ s.take i,zoF (l.map TypA.says) next y=false)∧Below w.heap.size w D) (fun q _=>s.length-(intOf q).toNat)
 case atStart=>exact ⟨0,rfl,yao _,fun t k=>(by simp at k),Below.refl _ _⟩
 case round =>
  obtain ⟨i,rfl,hi,u,b⟩:=hrel;by_cases x:i<s.length
  · have B:(i:Int)<(s.length:Nat):=by omega
    obtain ⟨t,k⟩:∃t,s[i]? = some t:=⟨s[i],yal x⟩;obtain ⟨g,o,rfl,g0,H⟩:=(hs.up b).get k;have E:=World.block_lt_of_cell? _ _ g0;dsimp only at E;have m:=lead1_any (h.up b) t (yas l1 b.size) (zbd q1 b) (zbd q2 b);cases n:zoF (l.map TypA.says) next t with
    | true =>
     rw [n] at m;go_wp2_with (with_reducible refine m.mono ?_;rintro e F ⟨rfl,j⟩)
     go_ret
     exact ⟨⟨_,rfl,by rw [any_at k n];exact yaB yab⟩,zan b b.size j⟩
    | false =>
     rw [n] at m;go_wp2_with (with_reducible refine m.mono ?_;rintro e F ⟨rfl,j⟩)
     refine ⟨⟨i + 1,by go_num,by omega,zfM k u n,zan b b.size j⟩,?_⟩;simp [intOf];omega
  · have B:¬(i:Int)<(s.length:Nat):=by omega
    obtain rfl:i=s.length:=by omega
    rw [yaz] at u;go_wp2
    go_ret
    exact ⟨⟨_,rfl,by rw [zlL u];decide⟩,b⟩
theorem containsFunc_any {w:World} {R:Nat} {A A2:Option Addr} {c c2:Nat} {l:List TypA} {s:List (ByteArray × ByteArray)} (h:SchA w R A c l) (hs:SubsA w A2 c2 s) (l1:b1<w.heap.size)
 (q1:w.cell? ⟨b1,0,none⟩=some (.slice A l.length c)) (q2:w.cell? ⟨b2,0,none⟩=some (.string next)) :
 Calls Tryz.prog 276 #[.slice A2 s.length c2,.func (.func 277) #[] #[.pointer (some ⟨b1,0,none⟩),.pointer (some ⟨b2,0,none⟩)]] w fun e w'=>e = .returned (.bool (s.any (zoF (l.map TypA.says) next)))∧Below w.heap.size w w':=by
 go_enter Tryz.func276,Tryz.ntmps276
 go_wp2_with fail
 refine (indexFunc_any h hs l1 q1 q2).mono ?_;rintro e j ⟨⟨z,rfl,f⟩,b⟩;by_cases g:0≤z
 · go_wp2
   go_ret
   exact ⟨by rw [←f,yaB g];rfl,b⟩
 · go_wp2
   go_ret
   exact ⟨by rw [←f];rfl,b⟩
theorem leads_any {w:World} {R:Nat} {A:Option Addr} {c:Nat} {l:List TypA} {r:RelA} (h:SchA w R A c l) (hr:r.ok w R) :
 Calls Tryz.prog 248 #[.agg #[.slice A l.length c],.agg #[.string r.name,.string r.view,.string r.edit,.string r.check,.slice r.As r.subs.length r.cs,.slice r.Ao r.ops.length r.co],.string next] w fun e w' =>
  e = .returned (.bool (zqG (l.map TypA.says) r.says next))∧Below w.heap.size w w':=by
 have f:=((zdS w (.cells #[.slice A l.length c] 140)).alloc (size_alloc (yaj _)) (.cells #[.string r.name,.string r.view,.string r.edit,.string r.check,.slice r.As r.subs.length r.cs,.slice r.Ao r.ops.length r.co] 203));have b:=f.alloc f.size (.cells #[.string next] 9);have g:=((Bk.new w #[.slice A l.length c] 140).alloc (.cells #[.string r.name,.string r.view,.string r.edit,.string r.check,.slice r.As r.subs.length r.cs,.slice r.Ao r.ops.length r.co] 203)).alloc (.cells #[.string next] 9);have j:=Bk.new ((w.alloc (.cells #[.slice A l.length c] 140)).alloc (.cells #[.string r.name,.string r.view,.string r.edit,.string r.check,.slice r.As r.subs.length r.cs,.slice r.Ao r.ops.length r.co] 203)) #[.string next] 9;rw [show ((w.alloc (.cells #[.slice A l.length c] 140)).alloc (.cells #[.string r.name,.string r.view,.string r.edit,.string r.check,.slice r.As r.subs.length r.cs,.slice r.Ao r.ops.length r.co] 203)).heap.size=w.heap.size + 1 + 1 by simp] at j;have k:=containsFunc_any (b1:=w.heap.size) (b2:=w.heap.size + 1 + 1) (next:=next) (h.up b) ((SubsA.mk hr.subs).up b) g.lt g.c1 j.c1;go_enter Tryz.func248,Tryz.ntmps248
 go_wp2_with (with_reducible refine k.mono ?_;rintro e n ⟨rfl,m⟩)
 go_ret
 exact ⟨rfl,zan b b.size m⟩
theorem opHolds_any {w:World} {R:Nat} {A:Option Addr} {c:Nat} {l:List TypA} {t:TypA} (o:OpI) (h:SchA w R A c l) (ht:t.ok w R) :
 Calls Tryz.prog 221 #[.agg #[.slice A l.length c],.agg #[.string t.name,.slice t.A t.rels.length t.c],.agg #[.int .i64 o.1,.string o.2.1,.string o.2.2]] w fun e w' =>
  e = .returned (.bool (znz (l.map TypA.says) t.says o))∧Below w.heap.size w w':=by
 have k:=((zdS w (.cells #[.slice A l.length c] 140)).alloc (size_alloc (yaj _)) (.cells #[.string t.name,.slice t.A t.rels.length t.c] 199));have b:=k.alloc k.size (.cells #[.int .i64 o.1,.string o.2.1,.string o.2.2] 222);obtain ⟨z,n,x⟩:=o;dsimp only at b ⊢;by_cases B:z=2
 · subst B;rw [show znz (l.map TypA.says) t.says (2,n,x)=zgy t.says n from rfl];go_enter Tryz.func221,Tryz.ntmps221
   go_wp2_with (with_reducible refine (hasRel_any (ht.up b) n).mono ?_;rintro e u ⟨rfl,f⟩)
   go_ret
   exact ⟨rfl,zan b b.size f⟩
 · by_cases C:z=3
   · subst C;cases m:zbt t n with
     | none =>
      have q:znz (l.map TypA.says) t.says (3,n,x)=false:=by
       unfold znz;rw [zd0,m];rfl
      rw [q];go_enter Tryz.func221,Tryz.ntmps221
      go_wp2_with (with_reducible refine (zeE (ht.up b) m).mono ?_;rintro e u ⟨rfl,f⟩)
      go_ret
      have hb:=zan b b.size f;exact ⟨rfl,hb.alloc hb.size _⟩
     | some r =>
      have q:znz (l.map TypA.says) t.says (3,n,x)=zqG (l.map TypA.says) r.says x:=by
       unfold znz;rw [zd0,m];rfl
      rw [q];have s:=((Bk.new w #[.slice A l.length c] 140).alloc (.cells #[.string t.name,.slice t.A t.rels.length t.c] 199)).alloc (.cells #[.int .i64 3,.string n,.string x] 222);have j:=Bk.new ((w.alloc (.cells #[.slice A l.length c] 140)).alloc (.cells #[.string t.name,.slice t.A t.rels.length t.c] 199)) #[.int .i64 3,.string n,.string x] 222;rw [show ((w.alloc (.cells #[.slice A l.length c] 140)).alloc (.cells #[.string t.name,.slice t.A t.rels.length t.c] 199)).heap.size=w.heap.size + 1 + 1 by simp] at j;go_enter Tryz.func221,Tryz.ntmps221
      go_wp2_with fail
      refine (zga (ht.up b) m).mono ?_;rintro e u ⟨rfl,f⟩;have D:=(s.below f).c1;have E:u.cell? ⟨w.heap.size + 1 + 1,2,none⟩=some (.string x):=(j.below f).cell 2;have z3:=(j.below f).lt;have z4:=(s.below f).lt;go_wp2_with fail
      have hb:=zan b b.size f;have g:=hb.alloc hb.size (.cells #[.string r.name,.string r.view,.string r.edit,.string r.check,.slice r.As r.subs.length r.cs,.slice r.Ao r.ops.length r.co] 203);refine (leads_any (h.up g) ((ht.relz r (zl3 m)).up g)).mono ?_;rintro e F ⟨rfl,y⟩;go_wp2
      go_ret
      exact ⟨rfl,zan g g.size y⟩
   · have q:znz (l.map TypA.says) t.says (z,n,x)=true:=by
      unfold znz;rw [yak B,yak C]
     rw [q];go_enter Tryz.func221,Tryz.ntmps221
     go_wp2
     go_ret
     exact ⟨rfl,b⟩
end
section
open Go.RowKit
variable {s:ByteArray}
theorem Bk.c3 {w:World} {b:Nat} {t:TypeId} {x0 x1 x2:Value} (h:Bk w b #[x0,x1,x2] t):w.cell? ⟨b,0,none⟩=some x0∧w.cell? ⟨b,1,none⟩=some x1∧w.cell? ⟨b,2,none⟩=some x2:=⟨h.cell 0,h.cell 1,h.cell 2⟩
theorem zlZ (h:s=⟨#[]⟩):s.toList.isEmpty=true:=by rw [h];decide +kernel
theorem zpY (h:¬s=⟨#[]⟩):s.toList.isEmpty=false:=zjM (by
 rcases ybg s.size with g | g
 · exact absurd (zjO g) h
 · exact g)
section
variable {w:World}
theorem zhF {b:Bool} (h:nameS s=b) (hs:s.size≤100000) (W:World):Calls Tryz.prog 182 #[.string s] W fun e w'=>e = .returned (.bool b)∧Below W.heap.size W w':=by
 have k:=name_any s W yab;rwa [h] at k
theorem nfmd_any (a b c:ByteArray) (ha:a.size≤100000) (hb:b.size≤100000) (hc:c.size≤100000) :
 Calls Tryz.prog 132 #[.agg #[.string a,.string b,.string c]] w fun e w'=>e = .returned (.bool (zpu (a,b,c)))∧Below w.heap.size w w':=by
 have hk:=Bk.new w #[.string a,.string b,.string c] 31;obtain ⟨L,M,N⟩:=hk.c3;have O:=hk.lt;have o:=zdS w (.cells #[.string a,.string b,.string c] 31);unfold zpu;dsimp only;cases A:nameS a with
 | false =>
  have k:=zhF A ha;go_enter Tryz.func132,Tryz.ntmps132
  go_wp2_with (go_at_call 182;refine (k _).mono ?_;rintro e y ⟨rfl,f⟩)
  go_returns
  exact ⟨rfl,zan o o.size f⟩
 | true =>
  have k:=zhF A ha;cases B:nameS b with
  | false =>
   have u:=zhF B hb;go_enter Tryz.func132,Tryz.ntmps132
   go_wp2_with (first
    | (go_at_call 182;with_reducible refine (k _).mono ?_;rintro e y ⟨rfl,f⟩;have j:=hk.below f;obtain ⟨C,D,E⟩:=j.c3;have g:=zan o o.size f)
    | (go_at_call 182;with_reducible refine (u _).mono ?_;rintro e F ⟨rfl,m⟩))
   go_returns
   exact ⟨rfl,zan g g.size m⟩
  | true =>
   have u:=zhF B hb;by_cases s:c=⟨#[]⟩
   · have d:=zlZ s;rw [yaB s];clear s;go_enter Tryz.func132,Tryz.ntmps132
     go_wp2_with (first
      | (go_at_call 182;with_reducible refine (k _).mono ?_;rintro e y ⟨rfl,f⟩;have j:=hk.below f;obtain ⟨C,D,E⟩:=j.c3;have g:=zan o o.size f)
      | (go_at_call 182;with_reducible refine (u _).mono ?_;rintro e F ⟨rfl,m⟩;have q:=j.below m;obtain ⟨H,I,J⟩:=q.c3;have n:=zan g g.size m))
     go_returns
     exact ⟨rfl,n⟩
   · have d:=zpY s;rw [yaF s];clear s;obtain ⟨x,G⟩:∃x,nameS c=x:=⟨_,rfl⟩;have K:=zhF G hc;rw [G];go_enter Tryz.func132,Tryz.ntmps132
     go_wp2_with (first
      | (go_at_call 182;with_reducible refine (k _).mono ?_;rintro e y ⟨rfl,f⟩;have j:=hk.below f;obtain ⟨C,D,E⟩:=j.c3;have g:=zan o o.size f)
      | (go_at_call 182;with_reducible refine (u _).mono ?_;rintro e F ⟨rfl,m⟩;have q:=j.below m;obtain ⟨H,I,J⟩:=q.c3;have n:=zan g g.size m)
      | (go_at_call 182;with_reducible refine (K _).mono ?_;rintro e P ⟨rfl,z⟩))
     go_returns
     exact ⟨by simp,zan n n.size z⟩
theorem zq4 {n:NdP} {b:Bool} (h:zpu n=b) (h0:n.1.size≤100000) (h1:n.2.1.size≤100000) (h2:n.2.2.size≤100000) (W:World):Calls Tryz.prog 132 #[.agg #[.string n.1,.string n.2.1,.string n.2.2]] W fun e w'=>e = .returned (.bool b)∧Below W.heap.size W w':=by
 rw [←h];exact nfmd_any _ _ _ h0 h1 h2
theorem fmd_any (a b c x y z:ByteArray) (ha:a.size≤100000) (hb:b.size≤100000) (hc:c.size≤100000) (hx:x.size≤100000) (hy:y.size≤100000) (hz:z.size≤100000) :
 Calls Tryz.prog 82 #[.agg #[.string a,.string b,.string c,.string x,.string y,.string z]] w fun e w'=>e = .returned (.bool (zl5 ((a,b,c),(x,y,z))))∧Below w.heap.size w w':=by
 have hk:=Bk.new w #[.string a,.string b,.string c,.string x,.string y,.string z] 51;obtain ⟨C,D,E,F,G,H⟩:=hk.c6;have I:=hk.lt;have j:=zdS w (.cells #[.string a,.string b,.string c,.string x,.string y,.string z] 51);unfold zl5;dsimp only;by_cases g:c=⟨#[]⟩
 · have d:=zlZ g;rw [yaB g];clear g;go_enter Tryz.func82,Tryz.ntmps82
   go_wp2_with fail
   go_returns
   exact ⟨by simp,j⟩
 · have d:=zpY g;rw [yaF g];clear g;obtain ⟨p,s⟩:∃p,zpu (a,b,c)=p:=⟨_,rfl⟩;obtain ⟨q,u⟩:∃q,zpu (x,y,z)=q:=⟨_,rfl⟩;have k:=fun W=>zq4 s ha hb hc W;have A:=fun W=>zq4 u hx hy hz W;dsimp only at k A;rw [s,u];cases p with
   | false =>
    go_enter Tryz.func82,Tryz.ntmps82
    go_wp2_with (go_at_call 132;with_reducible refine (k _).mono ?_;rintro e B ⟨rfl,f⟩)
    go_returns
    exact ⟨by simp,zan j j.size f⟩
   | true =>
    go_enter Tryz.func82,Tryz.ntmps82
    go_wp2_with (first
     | (go_at_call 132;with_reducible refine (k _).mono ?_;rintro e B ⟨rfl,f⟩;have n:=hk.below f;obtain ⟨J,K,L,M,N,O⟩:=n.c6;have m:=zan j j.size f)
     | (go_at_call 132;with_reducible refine (A _).mono ?_;rintro e P ⟨rfl,o⟩))
    go_returns
    exact ⟨by simp,zan m m.size o⟩
end
end
section
open Go.RowKit
def tupO (o:Option TuP):TuP:=o.getD ((⟨#[]⟩,⟨#[]⟩,⟨#[]⟩),(⟨#[]⟩,⟨#[]⟩,⟨#[]⟩))
theorem set6 {w w0:World} {B b:Nat} {t:TypeId} {x0 x1 x2 x3 x4 x5:Value} (h:Bk w0 b #[x0,x1,x2,x3,x4,x5] t) (hb:Below B w w0) (hB:B≤b) (v0 v1 v2 v3 v4 v5:Value) :
 Bk ((((((w0.setCell ⟨b,0,none⟩ v0).setCell ⟨b,1,none⟩ v1).setCell ⟨b,2,none⟩ v2).setCell ⟨b,3,none⟩ v3).setCell ⟨b,4,none⟩ v4).setCell ⟨b,5,none⟩ v5) b #[v0,v1,v2,v3,v4,v5] t∧Below B w ((((((w0.setCell ⟨b,0,none⟩ v0).setCell ⟨b,1,none⟩ v1).setCell ⟨b,2,none⟩ v2).setCell ⟨b,3,none⟩ v3).setCell ⟨b,4,none⟩ v4).setCell ⟨b,5,none⟩ v5) :=
 ⟨by
  have f:=(((((h.set 0 v0).set 1 v1).set 2 v2).set 3 v3).set 4 v4).set 5 v5;simp only [yaG,yaV,yaW] at f;exact f,(((((hb.setCell hB _).setCell hB _).setCell hB _).setCell hB _).setCell hB _).setCell hB _⟩
section
variable {w:World}
end
end
end Go.Proofs.YtmblgnddgmfkhaaGreat
