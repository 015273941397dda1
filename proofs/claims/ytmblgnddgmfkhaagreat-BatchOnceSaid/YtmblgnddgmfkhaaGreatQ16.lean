import Derived.Laws.StructEq
import Derived.Test.YtmblgnddgmfkhaaGreatQ15
set_option maxRecDepth 100000
set_option maxHeartbeats 4000000
namespace Go.Proofs.YtmblgnddgmfkhaaGreat
section
variable {l:List TypI}
def opZ (o:OpP):OpI:=((o.1:Int),o.2.1,o.2.2)
theorem zkF (t:TypI) (b:List TypI):za4 (t::b)=(t.rels.map fun r=>(t.name,r.name)) ++ za4 b:=by
 unfold za4 zbc;rw [yaS,yaL,ybn];rfl
theorem zp4 {a b:ByteArray}:(a,b) ∈ za4 l↔∃t ∈ l,∃r ∈ t.rels,t.name=a∧r.name=b:=by
 unfold za4 zbc;simp only [yaN,ybz];constructor
 · rintro ⟨_,⟨t,d,r,f,rfl⟩,e⟩;simp only [Prod.mk.injEq] at e;exact ⟨t,d,r,f,e.1,e.2⟩
 · rintro ⟨t,d,r,f,rfl,rfl⟩;exact ⟨_,⟨t,d,r,f,rfl⟩,rfl⟩
theorem zhf:∀(l:List TypI),(l.map (·.name)).Nodup→(∀t ∈ l,(t.rels.map (·.name)).Nodup)→(za4 l).Nodup
 | [],_,_=>ycO
 | t::q,h,b=>by
  rw [zkF,ya7];rw [yaW,ybT] at h;refine ⟨?_,zhf q h.2 fun t d=>b t (yau _ d),fun x f y g=>?_⟩
  · have:=b t yat;unfold List.Nodup at this ⊢;rw [yck] at this ⊢;exact this.imp fun h e=>h (Prod.ext_iff.1 e).2
  · obtain ⟨r,_,rfl⟩:=yaN.1 f;rintro rfl;obtain ⟨u,j,s,_,e,_⟩:=zp4.1 g;exact h.1 (yaN.2 ⟨u,j,e⟩)
theorem Right.paths (h:Right l):(za4 l).Nodup:=zhf l h.names fun t b=>(h.rels t b).names
theorem Right.rels_le (h:Right l):(zbc l).length≤96:=by
 have H:∀q:List TypI,(∀t ∈ q,t.rels.length≤12)→(zbc q).length≤q.length * 12:=fun q=>by
  induction q with
  | nil=>intro _;simp [zbc]
  | cons t q ih =>
   intro d;have f:=ih fun t b=>d t (yau _ b);have g:=d t yat;unfold zbc at *
   rw [yaS,yam,yay,yaq];omega
 have f:=H l fun t b=>(h.rels t b).few;have g:=h.few;omega
theorem few10 (s:ByteArray):Few 2049 (zak s).1:=by
 by_cases b:(zcN s).2.1=0
 · have d:=zma b;obtain ⟨v,j,f⟩:=ziG d b;refine zqA ?_;rw [f];have:=zna _ s 0 (yaj _);omega
 · unfold zak;rw [yak b];exact ⟨yap _,fun t g=>by cases g⟩
theorem NmW.size10 {n:ByteArray} (h:NmW n):n.size≤140737488351232:=yax (zkr h.1) yac
theorem zha:∀t:Ex,t.good→t.nm→∀o ∈ t.ops,(Lit.int .i64 (o.1:Nat)).wf=true∧o.2.1.size≤140737488351232∧o.2.2.size≤140737488351232
 | .this,_,_=>fun o d=>by rw [yas.1 d];exact ⟨by decide,yap _,yap _⟩
 | .same n,_,h=>fun o d=>by
  have f:NmW n:=h;rw [yas.1 d];exact ⟨by rfl,f.size10,yap _⟩
 | .via n m,_,h=>fun o d=>by
  have f:NmW n∧NmW m:=h;rw [yas.1 d];exact ⟨by rfl,f.1.size10,f.2.size10⟩
 | .bin k a b,g,h=>fun o d=>by
  rcases yaz.1 d with d | d
  · rcases yaz.1 d with d | d
    · exact zha a g.2.1 h.1 o d
    · exact zha b g.2.2 h.2 o d
  · rw [yas.1 d];refine ⟨?_,yap _,yap _⟩;rcases g.1 with rfl | rfl | rfl <;> rfl
theorem zom (s:ByteArray):∀t ∈ (zak s).1,t.name.size≤140737488351232∧t.rels.length * 112≤140737488351232∧∀x ∈ t.rels,SmI 140737488351232 x:=fun t d=>by
 have g:=zey s t d;have f:=(few10 s).2 t d;refine ⟨g.name.size10,by have:=f.1;omega,fun x j=>?_⟩;have b:=g.rels x j;have k:=f.2 x j;obtain ⟨e,n,p,u,_⟩:=b.ops;exact ⟨b.name.size10,b.view.size10,b.edit.size10,b.check.size10,by have:=k.1;omega,fun q m=>⟨(b.subs q m).1.size10,by
  rcases (b.subs q m).2 with e | e
  · rw [e];exact yap _
  · exact e.size10⟩,by have:=k.2;omega,fun o y=>zha e p u o (n ▸ y)⟩
theorem said_few (s:ByteArray):(zak s).1.length * 40≤140737488351232:=by have:=(few10 s).1;omega
theorem zqW {s:ByteArray} {t:TypI} (ht:t ∈ (zak s).1.map zcv) {r:RelI} (hr:r ∈ t.rels):∃e:Ex,r.ops=e.ops.map opZ∧e.good∧r.ops.length≤2049∧r.subs.length≤2049:=by
 obtain ⟨t0,b,rfl⟩:=yaN.1 ht;obtain ⟨r0,d,rfl⟩:=yaN.1 hr;obtain ⟨e,g,j,_⟩:=((zey s t0 b).rels r0 d).ops;have f:=((few10 s).2 t0 b).2 r0 d;exact ⟨e,by show r0.ops.map opI=_;rw [g];rfl,j,by show (r0.ops.map opI).length≤_;rw [yay];exact f.2,f.1⟩
end
section
open Go.RowKit
open Go.RowKit
open Go.RowKit
open Go.RowKit
variable {next:ByteArray} {i b1 b2:Nat}
def TypA.val (a:TypA):Value:=.agg #[.string a.name,.slice a.A a.rels.length a.c]
def RelA.val (a:RelA):Value:=.agg #[.string a.name,.string a.view,.string a.edit,.string a.check,.slice a.As a.subs.length a.cs,.slice a.Ao a.ops.length a.co]
def noT:TypA:=⟨⟨#[]⟩,none,0,[]⟩
def noR:RelA:=⟨⟨#[]⟩,⟨#[]⟩,⟨#[]⟩,⟨#[]⟩,none,0,[],none,0,[]⟩
def zbM (l:List TypA) (n:ByteArray):Option TypA:=l.find? fun t=>decide (t.name=n)
def zbk (t:TypA) (n:ByteArray):Option RelA:=t.rels.find? fun r=>decide (r.name=n)
theorem zlp {α:Type} {p:α→Bool}:∀{l:List α} {i:Nat} {a:α},l[i]? = some a→(∀x ∈ l.take i,p x=false)→p a=true→l.find? p=some a
 | [],_,_,h,_,_=>by simp at h
 | x::r,0,a,h,_,b=>by
  simp only [ybq,yaT] at h;subst h;rw [ycL,b]
 | x::r,i + 1,a,h,d,b=>by
  rw [ycI] at d;rw [ycL,d x yat];exact zlp (by simpa using h) (fun y f=>d y (yau _ f)) b
theorem zj6 {α:Type} {p:α→Bool} {l:List α} (h:∀x ∈ l,p x=false):l.find? p=none:=List.find?_eq_none.2 fun x b=>by rw [h x b];decide
theorem zfe {α:Type} {p:α→Bool} {l:List α} {a:α} (hi:l[i]? = some a) (hn:∀x ∈ l.take i,p x=false) (hp:p a=false):∀x ∈ l.take (i + 1),p x=false:=by
 intro x b;rw [yaC,hi] at b;rcases yaz.1 b with h | h
 · exact hn x h
 · simp at h;subst h;exact hp
theorem Bk.c6 {w:World} {b:Nat} {t:TypeId} {x0 x1 x2 x3 x4 x5:Value} (h:Bk w b #[x0,x1,x2,x3,x4,x5] t):w.cell? ⟨b,0,none⟩=some x0∧w.cell? ⟨b,1,none⟩=some x1∧w.cell? ⟨b,2,none⟩=some x2∧w.cell? ⟨b,3,none⟩=some x3∧w.cell? ⟨b,4,none⟩=some x4∧w.cell? ⟨b,5,none⟩=some x5:=⟨h.cell 0,h.cell 1,h.cell 2,h.cell 3,h.cell 4,h.cell 5⟩
theorem typeOf_any {w:World} {R:Nat} {A:Option Addr} {c:Nat} {l:List TypA} (h:SchA w R A c l) (n:ByteArray) :
 Calls Tryz.prog 217 #[.agg #[.slice A l.length c],.string n] w fun e w'=>e = .returned (.tuple #[((zbM l n).getD noT).val,.bool (zbM l n).isSome])∧Below w.heap.size w w':=by
 have N:(l.length:Int)≤9223372036854775807:=by have:=h.rows.cap;have:=h.rows.capm;simp only [maxLen] at this;omega
 go_enter Tryz.func217,Tryz.ntmps217
 go_wp2_with fail
 have E:=Bk.new w #[.slice A l.length c] 140;have j:=Bk.new2 w (.cells #[.slice A l.length c] 140) #[.string ⟨#[]⟩,.slice none 0 0] 199;have f:Below w.heap.size w ((w.alloc (.cells #[.slice A l.length c] 140)).alloc (.cells #[.string ⟨#[]⟩,.slice none 0 0] 199)):=((Below.refl _ w).alloc (yaj _) _).alloc (size_alloc (yaj _)) _;have F:=h.up f;generalize (w.alloc (.cells #[.slice A l.length c] 140)).alloc (.cells #[.string ⟨#[]⟩,.slice none 0 0] 199)=B at *
 go_loopw [11] (fun q G=>∃i:Nat,q = .int .i64 i∧i≤l.length∧(∀t ∈ l.take i,decide (t.name=n)=false)∧Below B.heap.size B G) (fun q _=>l.length-(intOf q).toNat)
 case atStart=>exact ⟨0,rfl,yap _,fun t k=>(by simp at k),Below.refl _ _⟩
 case round =>
  obtain ⟨i,rfl,hi,m,b⟩:=hrel;have H:=j.lt;by_cases s:i<l.length
  · have u:(i:Int)<(l.length:Nat):=by omega
    obtain ⟨t,k⟩:∃t,l[i]? = some t:=⟨l[i],yal s⟩;obtain ⟨g,o,rfl,g0,O,hk⟩:=(F.up b).get k;have I:=World.block_lt_of_cell? _ _ g0;dsimp only at I;have d:=j.below b;obtain ⟨z0,J⟩:=d.c2;have K:=d.fz;have P:=d.lt;have L:¬w.heap.size + 1=wr.heap.size:=by omega
    have M:¬wr.heap.size=w.heap.size + 1:=by omega
    have C:=zbg t.name n;cases p:decide (t.name=n) with
    | false =>
     rw [p] at C;go_wp2
     refine ⟨⟨i + 1,by go_num,by omega,zfe k m p,b.alloc b.size _⟩,?_⟩;simp [intOf];omega
    | true =>
     rw [p] at C;have D:zbM l n=some t:=zlp k m p;go_wp2
     have x:=((d.set 0 (.string t.name)).set 1 (.slice t.A t.rels.length t.c)).alloc (.cells #[.string t.name,.slice t.A t.rels.length t.c] 199);obtain ⟨y,z⟩:=Bk.c2 x;refine bodyPost_ret (v:=.tuple #[t.val,.bool true]) (by simp [results,Tryz.results217,go_sem,y,z];try rfl) rfl ?_;rw [D];exact ⟨rfl,(((f.trans (b.mono f.size)).setCell (ya8 _) _).setCell (ya8 _) _).alloc (by simp;exact (f.trans (b.mono f.size)).size) _⟩
  · have u:¬((i:Int)<(l.length:Nat)):=by omega
    obtain rfl:i=l.length:=by omega
    rw [yaA] at m;have D:zbM l n=none:=zj6 m;have d:=j.below b;obtain ⟨z0,J⟩:=d.c2;have K:=d.fz;go_wp2
    have x:=(d.set 0 (.string ⟨#[]⟩)).set 1 (.slice none 0 0);obtain ⟨y,z⟩:=Bk.c2 x;refine bodyPost_ret (v:=.tuple #[noT.val,.bool false]) (by simp [results,Tryz.results217,go_sem,y,z];try rfl) rfl ?_;exact ⟨rfl,((f.trans (b.mono f.size)).setCell (ya8 _) _).setCell (ya8 _) _⟩
theorem relOf_any {w:World} {R:Nat} {q:TypA} (h:q.ok w R) (n:ByteArray) :
 Calls Tryz.prog 218 #[.agg #[.string q.name,.slice q.A q.rels.length q.c],.string n] w fun e w'=>e = .returned (.tuple #[((zbk q n).getD noR).val,.bool (zbk q n).isSome])∧Below w.heap.size w w':=by
 have Z:(q.rels.length:Int)≤9223372036854775807:=by have:=h.rels.cap;have:=h.rels.capm;simp only [maxLen] at this;omega
 go_enter Tryz.func218,Tryz.ntmps218
 go_wp2_with fail
 have P:=Bk.new w #[.string q.name,.slice q.A q.rels.length q.c] 199;have j:=Bk.new2 w (.cells #[.string q.name,.slice q.A q.rels.length q.c] 199) #[.string ⟨#[]⟩,.string ⟨#[]⟩,.string ⟨#[]⟩,.string ⟨#[]⟩,.slice none 0 0,.slice none 0 0] 203;have f:Below w.heap.size w ((w.alloc (.cells #[.string q.name,.slice q.A q.rels.length q.c] 199)).alloc (.cells #[.string ⟨#[]⟩,.string ⟨#[]⟩,.string ⟨#[]⟩,.string ⟨#[]⟩,.slice none 0 0,.slice none 0 0] 203)):=((Below.refl _ w).alloc (yaj _) _).alloc (size_alloc (yaj _)) _;have Q:=h.up f;generalize (w.alloc (.cells #[.string q.name,.slice q.A q.rels.length q.c] 199)).alloc (.cells #[.string ⟨#[]⟩,.string ⟨#[]⟩,.string ⟨#[]⟩,.string ⟨#[]⟩,.slice none 0 0,.slice none 0 0] 203)=L at *
 go_loopw [11] (fun u T=>∃i:Nat,u = .int .i64 i∧i≤q.rels.length∧(∀t ∈ q.rels.take i,decide (t.name=n)=false)∧Below L.heap.size L T) (fun u _=>q.rels.length-(intOf u).toNat)
 case atStart=>exact ⟨0,rfl,yap _,fun t k=>(by simp at k),Below.refl _ _⟩
 case round =>
  obtain ⟨i,rfl,hi,p,d⟩:=hrel;have U:=j.lt;by_cases x:i<q.rels.length
  · have y:(i:Int)<(q.rels.length:Nat):=by omega
    obtain ⟨t,k⟩:∃t,q.rels[i]? = some t:=⟨q.rels[i],yal x⟩;obtain ⟨g,o,eA,g0,g1,g2,g3,g4,g5,hk⟩:=(Q.up d).get k;have V:=World.block_lt_of_cell? _ _ g0;dsimp only at V;have b:=j.below d;obtain ⟨z0,z,B,z3,z4,z5⟩:=b.c6;have C:=b.fz;have M:=b.lt;have X:¬w.heap.size + 1=wr.heap.size:=by omega
    have Y:¬wr.heap.size=w.heap.size + 1:=by omega
    have N:=zbg t.name n;cases s:decide (t.name=n) with
    | false =>
     rw [s] at N;go_wp2
     refine ⟨⟨i + 1,by go_num,by omega,zfe k p s,d.alloc d.size _⟩,?_⟩;simp [intOf];omega
    | true =>
     rw [s] at N;have O:zbk q n=some t:=zlp k p s;go_upto_region 5 with (fail)
     replace b:=b.alloc (.cells #[.string t.name,.string t.view,.string t.edit,.string t.check,.slice t.As t.subs.length t.cs,.slice t.Ao t.ops.length t.co] 203);have D:=Bk.new wr #[.string t.name,.string t.view,.string t.edit,.string t.check,.slice t.As t.subs.length t.cs,.slice t.Ao t.ops.length t.co] 203;have m:=d.alloc d.size (.cells #[.string t.name,.string t.view,.string t.edit,.string t.check,.slice t.As t.subs.length t.cs,.slice t.Ao t.ops.length t.co] 203);clear z0 z B z3 z4 z5 C M;generalize wr.alloc (.cells #[.string t.name,.string t.view,.string t.edit,.string t.check,.slice t.As t.subs.length t.cs,.slice t.Ao t.ops.length t.co] 203)=wy at *
     obtain ⟨z0,z,B,z3,z4,z5⟩:=b.c6;have C:=b.fz;have M:=b.lt;obtain ⟨x0,x1,x2,x3,x4,x5⟩:=D.c6;go_wp2
     have E:=(((((b.set 0 (.string t.name)).set 1 (.string t.view)).set 2 (.string t.edit)).set 3 (.string t.check)).set 4 (.slice t.As t.subs.length t.cs)).set 5 (.slice t.Ao t.ops.length t.co);obtain ⟨F,G,H,I,J,K⟩:=Bk.c6 E;refine bodyPost_ret (v:=.tuple #[t.val,.bool true]) (by simp [results,Tryz.results218,go_sem,F,G,H,I,J,K];try rfl) rfl ?_;rw [O];exact ⟨rfl,((((((f.trans (m.mono f.size)).setCell (ya8 _) _).setCell (ya8 _) _).setCell (ya8 _) _).setCell (ya8 _) _).setCell (ya8 _) _).setCell (ya8 _) _⟩
  · have y:¬((i:Int)<(q.rels.length:Nat)):=by omega
    obtain rfl:i=q.rels.length:=by omega
    rw [yaA] at p;have O:zbk q n=none:=zj6 p;have b:=j.below d;obtain ⟨z0,z,B,z3,z4,z5⟩:=b.c6;have C:=b.fz;go_wp2
    have E:=(((((b.set 0 (.string ⟨#[]⟩)).set 1 (.string ⟨#[]⟩)).set 2 (.string ⟨#[]⟩)).set 3 (.string ⟨#[]⟩)).set 4 (.slice none 0 0)).set 5 (.slice none 0 0);obtain ⟨F,G,H,I,J,K⟩:=Bk.c6 E;refine bodyPost_ret (v:=.tuple #[noR.val,.bool false]) (by simp [results,Tryz.results218,go_sem,F,G,H,I,J,K];try rfl) rfl ?_;exact ⟨rfl,((((((f.trans (d.mono f.size)).setCell (ya8 _) _).setCell (ya8 _) _).setCell (ya8 _) _).setCell (ya8 _) _).setCell (ya8 _) _).setCell (ya8 _) _⟩
section
variable {w:World} {R:Nat} {A:Option Addr} {c:Nat} {l:List TypA} {q:TypA} {n:ByteArray}
theorem zd6 (h:q.ok w R) (hf:zbk q n=none):Calls Tryz.prog 218 #[.agg #[.string q.name,.slice q.A q.rels.length q.c],.string n] w fun e w' =>
 e = .returned (.tuple #[.agg #[.string ⟨#[]⟩,.string ⟨#[]⟩,.string ⟨#[]⟩,.string ⟨#[]⟩,.slice none 0 0,.slice none 0 0],.bool false])∧Below w.heap.size w w':=by
 have k:=relOf_any h n;rw [hf] at k;exact k
theorem zfE (h:q.ok w R) {r:RelA} (hf:zbk q n=some r):Calls Tryz.prog 218 #[.agg #[.string q.name,.slice q.A q.rels.length q.c],.string n] w fun e w' =>
 e = .returned (.tuple #[.agg #[.string r.name,.string r.view,.string r.edit,.string r.check,.slice r.As r.subs.length r.cs,.slice r.Ao r.ops.length r.co],.bool true])∧Below w.heap.size w w':=by
 have k:=relOf_any h n;rw [hf] at k;exact k
theorem zdl (h:SchA w R A c l) (hf:zbM l n=none):Calls Tryz.prog 217 #[.agg #[.slice A l.length c],.string n] w fun e w' =>
 e = .returned (.tuple #[.agg #[.string ⟨#[]⟩,.slice none 0 0],.bool false])∧Below w.heap.size w w':=by
 have k:=typeOf_any h n;rw [hf] at k;exact k
theorem zcF (h:SchA w R A c l) {t:TypA} (hf:zbM l n=some t):Calls Tryz.prog 217 #[.agg #[.slice A l.length c],.string n] w fun e w' =>
 e = .returned (.tuple #[.agg #[.string t.name,.slice t.A t.rels.length t.c],.bool true])∧Below w.heap.size w w':=by
 have k:=typeOf_any h n;rw [hf] at k;exact k
end
theorem zdB (q:TypA) (n:ByteArray):zmu q.says n=(zbk q n).map RelA.says:=by
 show (q.rels.map RelA.says).find? _=_;rw [List.find?_map];rfl
theorem zgP (l:List TypA) (n:ByteArray):zph (l.map TypA.says) n=(zbM l n).map TypA.says:=by
 show (l.map TypA.says).find? _=_;rw [List.find?_map];rfl
theorem zpm (q:TypA) (n:ByteArray):zf5 q.says n=(zbk q n).isSome:=by unfold zf5;rw [zdB,Option.isSome_map]
theorem zpn (l:List TypA) (n:ByteArray):hasT (l.map TypA.says) n=(zbM l n).isSome:=by unfold hasT;rw [zgP,Option.isSome_map]
theorem zkb (l:List TypA) (ty re:ByteArray):hasI (l.map TypA.says) ty re=(match zbM l ty with
 | none=>false
 | some t=>zf5 t.says re):=by
 unfold hasI findI zf5;rw [zgP];cases zbM l ty <;> rfl
theorem zh6 {l:List TypA} {n:ByteArray} {t:TypA} (h:zbM l n=some t):t ∈ l:=List.mem_of_find?_eq_some h
theorem zlr {q:TypA} {n:ByteArray} {r:RelA} (h:zbk q n=some r):r ∈ q.rels:=List.mem_of_find?_eq_some h
theorem zam {B:Nat} {w w1 w2:World} (h:Below B w w1) (hB:B≤w1.heap.size) (k:Below w1.heap.size w1 w2):Below B w w2:=h.trans (k.mono hB)
theorem zdy (w:World) (o:Obj):Below w.heap.size w (w.alloc o):=(Below.refl _ w).alloc (yaj _) o
theorem zj0 (x:ByteArray):x.toList.isEmpty=decide (x=⟨#[]⟩):=by
 have h:=zbg x ⟨#[]⟩;rw [←h,show (⟨#[]⟩:ByteArray).toList=[] by decide +kernel];cases x.toList <;> rfl
theorem hasRel_any {w:World} {R:Nat} {q:TypA} (h:q.ok w R) (n:ByteArray) :
 Calls Tryz.prog 219 #[.agg #[.string q.name,.slice q.A q.rels.length q.c],.string n] w fun e w'=>e = .returned (.bool (zf5 q.says n))∧Below w.heap.size w w':=by
 rw [zpm];cases d:zbk q n with
 | none =>
  go_enter Tryz.func219,Tryz.ntmps219
  go_wp2_with (refine (zd6 (h.up (zdy w _)) d).mono ?_;rintro e f ⟨rfl,b⟩)
  go_ret
  have hb:=zam (zdy w _) (size_alloc (yaj _)) b;exact ⟨rfl,hb.alloc hb.size _⟩
 | some r =>
  go_enter Tryz.func219,Tryz.ntmps219
  go_wp2_with (refine (zfE (h.up (zdy w _)) d).mono ?_;rintro e f ⟨rfl,b⟩)
  go_ret
  have hb:=zam (zdy w _) (size_alloc (yaj _)) b;exact ⟨rfl,hb.alloc hb.size _⟩
theorem isThere_any {w:World} {R:Nat} {A:Option Addr} {c:Nat} {l:List TypA} (h:SchA w R A c l) (s:ByteArray × ByteArray) :
 Calls Tryz.prog 220 #[.agg #[.slice A l.length c],.agg #[.string s.1,.string s.2]] w fun e w'=>e = .returned (.bool (zq8 (l.map TypA.says) s))∧Below w.heap.size w w':=by
 have b:Below w.heap.size w ((w.alloc (.cells #[.slice A l.length c] 140)).alloc (.cells #[.string s.1,.string s.2] 246)):=(zdy w _).alloc (size_alloc (yaj _)) _;unfold zq8;rw [zpn,zkb];cases k:zbM l s.1 with
 | none =>
  go_enter Tryz.func220,Tryz.ntmps220
  go_wp2_with (with_reducible refine (zdl (h.up b) k).mono ?_;rintro e n ⟨rfl,d⟩)
  go_ret
  have hb:=zam b b.size d;exact ⟨rfl,hb.alloc hb.size _⟩
 | some t =>
  have o:=zj0 s.2;have g:=Bk.new2 w (.cells #[.slice A l.length c] 140) #[.string s.1,.string s.2] 246;cases p:decide (s.2=⟨#[]⟩) with
  | true =>
   rw [p] at o;go_enter Tryz.func220,Tryz.ntmps220
   go_wp2_with (with_reducible refine (zcF (h.up b) k).mono ?_;rintro e n ⟨rfl,d⟩;have f:=g.below d;have q:=f.lt;have u:=f.c2.2)
   go_ret
   have hb:=zam b b.size d;exact ⟨rfl,hb.alloc hb.size _⟩
  | false =>
   rw [p] at o;go_enter Tryz.func220,Tryz.ntmps220
   go_wp2_with (with_reducible refine (zcF (h.up b) k).mono ?_;rintro e n ⟨rfl,d⟩;have f:=g.below d;have q:=f.lt;have u:=f.c2.2)
   have hb:=zam b b.size d;have hk:=(h.each t (zh6 k)).up (hb.alloc hb.size (.cells #[.string t.name,.slice t.A t.rels.length t.c] 199));go_wp2_with (with_reducible refine (hasRel_any hk _).mono ?_;rintro e x ⟨rfl,m⟩)
   go_ret
   have j:=hb.alloc hb.size (.cells #[.string t.name,.slice t.A t.rels.length t.c] 199);exact ⟨rfl,zam j j.size m⟩
theorem path_any {w:World} {q:TypA} {r:RelA} (h1:q.name.size≤140737488351232) (h2:r.name.size≤140737488351232) :
 Calls Tryz.prog 164 #[.agg #[.string q.name,.slice q.A q.rels.length q.c],.agg #[.string r.name,.string r.view,.string r.edit,.string r.check,.slice r.As r.subs.length r.cs,.slice r.Ao r.ops.length r.co]] w fun e w' =>
  e = .returned (.string (zjk q.says r.says))∧Below w.heap.size w w':=by
 have b:zjk q.says r.says=q.name ++ ⟨#[46]⟩ ++ r.name:=rfl;rw [b];have d:¬9223372036854775807<q.name.size + 1:=by omega
 have f:¬9223372036854775807<q.name.size + 1 + r.name.size:=by omega
 go_enter Tryz.func164,Tryz.ntmps164
 go_wp2
 go_ret
 exact ⟨rfl,(zdy w _).alloc (size_alloc (yaj _)) _⟩
def tyE (l:List TypA) (t:TypA):Nat:=if (zbM l t.name).isSome=true then 32 else if 12<t.rels.length then 13 else 0
def reE (q:TypA) (r:RelA):Nat:=if (zbk q r.name).isSome=true then 32 else if 16<r.ops.length then 13 else 0
theorem typeFault_any {w:World} {R:Nat} {A:Option Addr} {c:Nat} {l:List TypA} {t:TypA} (h:SchA w R A c l) :
 Calls Tryz.prog 162 #[.slice A l.length c,.agg #[.string t.name,.slice t.A t.rels.length t.c]] w fun e w' =>
  e = .returned (.int .i64 (tyE l t:Nat))∧Below w.heap.size w w':=by
 have b:=zdy w (.cells #[.string t.name,.slice t.A t.rels.length t.c] 199);have j:=Bk.new w #[.string t.name,.slice t.A t.rels.length t.c] 199;cases g:zbM l t.name with
 | some x =>
  have k:tyE l t=32:=by unfold tyE;rw [g];rfl
  rw [k];go_enter Tryz.func162,Tryz.ntmps162
  go_wp2_with (with_reducible refine (zcF (h.up b) g).mono ?_;rintro e n ⟨rfl,d⟩)
  go_ret
  have hb:=zam b b.size d;exact ⟨rfl,hb.alloc hb.size _⟩
 | none =>
  by_cases o:12<t.rels.length
  · have k:tyE l t=13:=by unfold tyE;rw [g,yak yac,yan o]
    rw [k];have m:(12:Int)<(t.rels.length:Nat):=by omega
    go_enter Tryz.func162,Tryz.ntmps162
    go_wp2_with (with_reducible refine (zdl (h.up b) g).mono ?_;rintro e n ⟨rfl,d⟩;have f:=j.below d;have p:=f.lt;have q:=f.c2.2)
    go_ret
    have hb:=zam b b.size d;exact ⟨rfl,hb.alloc hb.size _⟩
  · have k:tyE l t=0:=by unfold tyE;rw [g,yak yac,yak o]
    rw [k];have m:¬(12:Int)<(t.rels.length:Nat):=by omega
    go_enter Tryz.func162,Tryz.ntmps162
    go_wp2_with (with_reducible refine (zdl (h.up b) g).mono ?_;rintro e n ⟨rfl,d⟩;have f:=j.below d;have p:=f.lt;have q:=f.c2.2)
    go_ret
    have hb:=zam b b.size d;exact ⟨rfl,hb.alloc hb.size _⟩
theorem relFault_any {w:World} {R:Nat} {A:Option Addr} {c:Nat} {l:List RelA} {t:RelA} (h:TypA.ok w R ⟨⟨#[]⟩,A,c,l⟩) :
 Calls Tryz.prog 163 #[.slice A l.length c,.agg #[.string t.name,.string t.view,.string t.edit,.string t.check,.slice t.As t.subs.length t.cs,.slice t.Ao t.ops.length t.co]] w fun e w' =>
  e = .returned (.int .i64 (reE ⟨⟨#[]⟩,A,c,l⟩ t:Nat))∧Below w.heap.size w w':=by
 have b:=zdy w (.cells #[.string t.name,.string t.view,.string t.edit,.string t.check,.slice t.As t.subs.length t.cs,.slice t.Ao t.ops.length t.co] 203);have j:=Bk.new w #[.string t.name,.string t.view,.string t.edit,.string t.check,.slice t.As t.subs.length t.cs,.slice t.Ao t.ops.length t.co] 203;cases g:zbk ⟨⟨#[]⟩,A,c,l⟩ t.name with
 | some x =>
  have k:reE ⟨⟨#[]⟩,A,c,l⟩ t=32:=by unfold reE;rw [g];rfl
  rw [k];go_enter Tryz.func163,Tryz.ntmps163
  go_wp2_with (with_reducible refine (zfE (h.up b) g).mono ?_;rintro e n ⟨rfl,d⟩)
  go_ret
  have hb:=zam b b.size d;exact ⟨rfl,hb.alloc hb.size _⟩
 | none =>
  by_cases o:16<t.ops.length
  · have k:reE ⟨⟨#[]⟩,A,c,l⟩ t=13:=by unfold reE;rw [g,yak yac,yan o]
    rw [k];have m:(16:Int)<(t.ops.length:Nat):=by omega
    go_enter Tryz.func163,Tryz.ntmps163
    go_wp2_with (with_reducible refine (zd6 (h.up b) g).mono ?_;rintro e n ⟨rfl,d⟩;have f:=j.below d;have p:=f.lt;have q:=f.c6.2.2.2.2.2)
    go_ret
    have hb:=zam b b.size d;exact ⟨rfl,hb.alloc hb.size _⟩
  · have k:reE ⟨⟨#[]⟩,A,c,l⟩ t=0:=by unfold reE;rw [g,yak yac,yak o]
    rw [k];have m:¬(16:Int)<(t.ops.length:Nat):=by omega
    go_enter Tryz.func163,Tryz.ntmps163
    go_wp2_with (with_reducible refine (zd6 (h.up b) g).mono ?_;rintro e n ⟨rfl,d⟩;have f:=j.below d;have p:=f.lt;have q:=f.c6.2.2.2.2.2)
    go_ret
    have hb:=zam b b.size d;exact ⟨rfl,hb.alloc hb.size _⟩
structure SubsA (w:World) (A:Option Addr) (c:Nat) (l:List (ByteArray × ByteArray)):Prop where
 rows:Rd w w.heap.size 2 A l.length c (l.flatMap zoH)
theorem SubsA.up {w w':World} {A:Option Addr} {c:Nat} {l:List (ByteArray × ByteArray)} (h:SubsA w A c l) (hb:Below w.heap.size w w'):SubsA w' A c l:=⟨h.rows.up hb⟩
theorem SubsA.get {w:World} {A:Option Addr} {c:Nat} {l:List (ByteArray × ByteArray)} (h:SubsA w A c l) {s:ByteArray × ByteArray} (hi:l[i]? = some s) :
 ∃b o,A=some ⟨b,o,none⟩∧w.cell? ⟨b,o + i * 2,none⟩=some (.string s.1)∧w.cell? ⟨b,o + i * 2 + 1,none⟩=some (.string s.2):=by
 obtain ⟨b,o,e,_,d⟩:=h.rows.at_ (zdI hi);have g:=fun k (hk:k<2)=>za6 zoH (sz:=2) (fun _=>rfl) hi (k:=k) hk;exact ⟨b,o,e,d _ _ (g 0 yab),d _ _ (g 1 yab)⟩
theorem bdrew (w:World) (n:Nat):Below w.heap.size w (w.drewN n):=⟨rfl,rfl,rfl,yaj _,fun _ _=>rfl⟩
theorem any_at {α:Type} {p:α→Bool} {l:List α} {a:α} (h:l[i]? = some a) (hp:p a=true):l.any p=true:=ybM.2 ⟨a,yar h,hp⟩
theorem zk8 {α:Type} {p:α→Bool} {l:List α} (h:∀x ∈ l,p x=false):l.any p=false:=by
 cases e:l.any p with
 | false=>rfl
 | true =>
  obtain ⟨x,d,b⟩:=ybM.1 e;rw [h x d] at b;cases b
theorem zrg (a c:ByteArray):a.toList=c.toList↔a=c:=by
 have h:=zbg a c;constructor
 · intro e;rw [e] at h;simpa using h.symm
 · rintro rfl;rfl
theorem eqSub (a b c d:ByteArray) (w:World):(binOp .eql 246 (.agg #[.string a,.string b]) (.agg #[.string c,.string d])).run Tryz.prog w = .ok (.bool (decide ((a,b)=(c,d)))) w:=by
 have hS:Tryz.prog.underlying 246=some (.struct (Tryz.prog.fieldsOf 246)):=by kernel_rfl
 have f:Tryz.prog.stoodInHeld 246=false:=by kernel_rfl
 have u:=Tryz.underlying9;rw [run_eql_struct,show (10000:Nat)=9999 + 1 from rfl,run_equalIn_agg w 9999 246 _ _ hS f];simp only [Program.fieldsOf,Tryz.underlying246];go_simp;have g:=zrg a c;have j:=zrg b d;by_cases k:a=c <;> by_cases m:b=d <;> simp [k,m,g,j]
theorem zmV (s t:ByteArray × ByteArray):decide ((s.1,s.2)=(t.1,t.2))=decide (t=s):=by
 rcases s with ⟨a,b⟩;rcases t with ⟨c,d⟩;have e:((a,b)=(c,d))=((c,d)=(a,b)):=propext eq_comm;simp only [e]
theorem index_any {w:World} {A:Option Addr} {c:Nat} {l:List (ByteArray × ByteArray)} (h:SubsA w A c l) (s:ByteArray × ByteArray) :
 Calls Tryz.prog 184 #[.slice A l.length c,.agg #[.string s.1,.string s.2]] w fun e w'=>(∃z:Int,e = .returned (.int .i64 z)∧decide (0≤z)=l.any fun y=>decide (y=s))∧Below w.heap.size w w':=by
 have F:(l.length:Int)≤9223372036854775807:=by have:=h.rows.cap;have:=h.rows.capm;simp only [maxLen] at this;omega
 have d:=zdy w (.cells #[.string s.1,.string s.2] 246);have m:=Bk.new w #[.string s.1,.string s.2] 246;have C:=h.up d;go_enter Tryz.func184,Tryz.ntmps184
 go_wp2_with fail
 generalize w.alloc (.cells #[.string s.1,.string s.2] 246)=x at *
 go_loopw [8] (fun n D=>∃i:Nat,n = .int .i64 i∧i≤l.length∧(∀y ∈ l.take i,decide (y=s)=false)∧Below x.heap.size x D) (fun n _=>l.length-(intOf n).toNat)
 case atStart=>exact ⟨0,rfl,yap _,fun t f=>(by simp at f),Below.refl _ _⟩
 case round =>
  obtain ⟨i,rfl,hi,p,b⟩:=hrel;have j:=m.below b;obtain ⟨G,H⟩:=j.c2;have I:=j.lt;by_cases q:i<l.length
  · have u:(i:Int)<(l.length:Nat):=by omega
    obtain ⟨t,f⟩:∃t,l[i]? = some t:=⟨l[i],yal q⟩;obtain ⟨g,o,rfl,g0,J⟩:=(C.up b).get f;have E:=World.block_lt_of_cell? _ _ g0;dsimp only at E;have B:=eqSub s.1 s.2 t.1 t.2;cases k:decide (t=s) with
    | true =>
     rw [zmV,k] at B;go_wp2_with fail
     go_quiet (fail)
     go_wp2
     go_ret
     exact ⟨⟨_,rfl,by rw [any_at f k];exact yaD yab⟩,zam d d.size (zam b b.size (bdrew wr nq))⟩
    | false =>
     rw [zmV,k] at B;go_wp2_with fail
     go_quiet (fail)
     go_wp2
     refine ⟨⟨i + 1,by go_num,by omega,zfe f p k,zam b b.size (bdrew wr nq)⟩,?_⟩;simp [intOf];omega
  · have u:¬(i:Int)<(l.length:Nat):=by omega
    obtain rfl:i=l.length:=by omega
    rw [yaA] at p;go_wp2
    go_ret
    exact ⟨⟨_,rfl,by rw [zk8 p];decide⟩,d.trans (b.mono d.size)⟩
theorem contains_any {w:World} {A:Option Addr} {c:Nat} {l:List (ByteArray × ByteArray)} (h:SubsA w A c l) (s:ByteArray × ByteArray) :
 Calls Tryz.prog 134 #[.slice A l.length c,.agg #[.string s.1,.string s.2]] w fun e w'=>e = .returned (.bool (l.any fun y=>decide (y=s)))∧Below w.heap.size w w':=by
 have b:=zdy w (.cells #[.string s.1,.string s.2] 246);go_enter Tryz.func134,Tryz.ntmps134
 go_wp2_with fail
 refine (index_any (h.up b) s).mono ?_;rintro e j ⟨⟨z,rfl,f⟩,d⟩;by_cases g:0≤z
 · go_wp2
   go_ret
   exact ⟨by rw [←f,yaD g];rfl,b.trans (d.mono b.size)⟩
 · go_wp2
   go_ret
   exact ⟨by rw [←f];rfl,b.trans (d.mono b.size)⟩
def znT (l:List TypI) (next:ByteArray) (x:ByteArray × ByteArray):Bool:=decide (x.2=⟨#[]⟩) && hasI l x.1 next
theorem lead1_any {w:World} {R:Nat} {A:Option Addr} {c:Nat} {l:List TypA} (h:SchA w R A c l) (x:ByteArray × ByteArray) (l1:b1<w.heap.size)
 (c1:w.cell? ⟨b1,0,none⟩=some (.slice A l.length c)) (c2:w.cell? ⟨b2,0,none⟩=some (.string next)) :
 Calls Tryz.prog 277 #[.agg #[.string x.1,.string x.2],.pointer (some ⟨b1,0,none⟩),.pointer (some ⟨b2,0,none⟩)] w fun e w'=>e = .returned (.bool (znT (l.map TypA.says) next x))∧Below w.heap.size w w':=by
 have b:=zdy w (.cells #[.string x.1,.string x.2] 246);have j:=Bk.new w #[.string x.1,.string x.2] 246;unfold znT;rw [zkb];cases k:zbM l x.1 with
 | none =>
  go_enter Tryz.func277,Tryz.ntmps277
  go_wp2_with (with_reducible refine (zdl (h.up b) k).mono ?_;rintro e o ⟨rfl,d⟩)
  go_ret
  have hb:=zam b b.size d;exact ⟨by simp,hb.alloc hb.size _⟩
 | some t =>
  have p:=zj0 x.2;cases q:decide (x.2=⟨#[]⟩) with
  | false =>
   rw [q] at p;go_enter Tryz.func277,Tryz.ntmps277
   go_wp2_with (with_reducible refine (zcF (h.up b) k).mono ?_;rintro e o ⟨rfl,d⟩;have f:=j.below d;have s:=f.lt;have u:=f.c2.2)
   go_ret
   have hb:=zam b b.size d;exact ⟨rfl,hb.alloc hb.size _⟩
  | true =>
   rw [q] at p;go_enter Tryz.func277,Tryz.ntmps277
   go_wp2_with (with_reducible refine (zcF (h.up b) k).mono ?_;rintro e o ⟨rfl,d⟩;have f:=j.below d;have s:=f.lt;have u:=f.c2.2;have y:=zdT (zdT c2 b) d;have m:=World.block_lt_of_cell? _ _ y;dsimp only at m)
   have hb:=zam b b.size d;have g:=hb.alloc hb.size (.cells #[.string t.name,.slice t.A t.rels.length t.c] 199);have hk:=(h.each t (zh6 k)).up g;go_wp2_with (with_reducible refine (hasRel_any hk _).mono ?_;rintro e z ⟨rfl,n⟩)
   go_ret
   exact ⟨rfl,zam g g.size n⟩
theorem zok {f:FuncId} {fn:Func} (hf:Tryz.prog.funcs[f]? = some fn) (hname:(fn.name == "runtime.NumGoroutine")=false) (hb:fn.body.isNone=false) (args:Array Value) (W:World):(callFunc f args).run Tryz.prog W = .ok (.enter f args) W:=by
 have b:¬(fn.name="runtime.NumGoroutine"):=by simpa using hname
 have d:fn.body≠none:=by intro e;rw [e] at hb;cases hb
 simp [callFunc,hf,b,d,Result.andThen]
theorem indexFunc_any {w:World} {R:Nat} {A A2:Option Addr} {c c2:Nat} {l:List TypA} {s:List (ByteArray × ByteArray)} (h:SchA w R A c l) (hs:SubsA w A2 c2 s) (l1:b1<w.heap.size)
 (q1:w.cell? ⟨b1,0,none⟩=some (.slice A l.length c)) (q2:w.cell? ⟨b2,0,none⟩=some (.string next)) :
 Calls Tryz.prog 286 #[.slice A2 s.length c2,.func (.func 277) #[] #[.pointer (some ⟨b1,0,none⟩),.pointer (some ⟨b2,0,none⟩)]] w fun e w'=>(∃z:Int,e = .returned (.int .i64 z)∧decide (0≤z)=s.any (znT (l.map TypA.says) next))∧Below w.heap.size w w':=by
 have E:(s.length:Int)≤9223372036854775807:=by have:=hs.rows.cap;have:=hs.rows.capm;simp only [maxLen] at this;omega
 have x:∀d W,(callFunc 277 d).run Tryz.prog W = .ok (.enter 277 d) W:=zok Tryz.func277 yaa yaa;go_enter Tryz.func286,Tryz.ntmps286
 go_wp2_with fail
 go_loopw [8] (fun n B=>∃i:Nat,n = .int .i64 i∧i≤s.length∧(∀y ∈ s.take i,znT (l.map TypA.says) next y=false)∧Below w.heap.size w B) (fun n _=>s.length-(intOf n).toNat)
 case atStart=>exact ⟨0,rfl,yap _,fun t j=>(by simp at j),Below.refl _ _⟩
 case round =>
  obtain ⟨i,rfl,hi,p,b⟩:=hrel;by_cases q:i<s.length
  · have u:(i:Int)<(s.length:Nat):=by omega
    obtain ⟨t,j⟩:∃t,s[i]? = some t:=⟨s[i],yal q⟩;obtain ⟨g,o,rfl,g0,F⟩:=(hs.up b).get j;have C:=World.block_lt_of_cell? _ _ g0;dsimp only at C;have k:=lead1_any (h.up b) t (yaw l1 b.size) (zdT q1 b) (zdT q2 b);cases m:znT (l.map TypA.says) next t with
    | true =>
     rw [m] at k;go_wp2_with (with_reducible refine k.mono ?_;rintro e D ⟨rfl,f⟩)
     go_ret
     exact ⟨⟨_,rfl,by rw [any_at j m];exact yaD yab⟩,zam b b.size f⟩
    | false =>
     rw [m] at k;go_wp2_with (with_reducible refine k.mono ?_;rintro e D ⟨rfl,f⟩)
     refine ⟨⟨i + 1,by go_num,by omega,zfe j p m,zam b b.size f⟩,?_⟩;simp [intOf];omega
  · have u:¬(i:Int)<(s.length:Nat):=by omega
    obtain rfl:i=s.length:=by omega
    rw [yaA] at p;go_wp2
    go_ret
    exact ⟨⟨_,rfl,by rw [zk8 p];decide⟩,b⟩
theorem containsFunc_any {w:World} {R:Nat} {A A2:Option Addr} {c c2:Nat} {l:List TypA} {s:List (ByteArray × ByteArray)} (h:SchA w R A c l) (hs:SubsA w A2 c2 s) (l1:b1<w.heap.size)
 (q1:w.cell? ⟨b1,0,none⟩=some (.slice A l.length c)) (q2:w.cell? ⟨b2,0,none⟩=some (.string next)) :
 Calls Tryz.prog 276 #[.slice A2 s.length c2,.func (.func 277) #[] #[.pointer (some ⟨b1,0,none⟩),.pointer (some ⟨b2,0,none⟩)]] w fun e w'=>e = .returned (.bool (s.any (znT (l.map TypA.says) next)))∧Below w.heap.size w w':=by
 go_enter Tryz.func276,Tryz.ntmps276
 go_wp2_with fail
 refine (indexFunc_any h hs l1 q1 q2).mono ?_;rintro e g ⟨⟨z,rfl,d⟩,b⟩;by_cases f:0≤z
 · go_wp2
   go_ret
   exact ⟨by rw [←d,yaD f];rfl,b⟩
 · go_wp2
   go_ret
   exact ⟨by rw [←d];rfl,b⟩
theorem leads_any {w:World} {R:Nat} {A:Option Addr} {c:Nat} {l:List TypA} {r:RelA} (h:SchA w R A c l) (hr:r.ok w R) :
 Calls Tryz.prog 248 #[.agg #[.slice A l.length c],.agg #[.string r.name,.string r.view,.string r.edit,.string r.check,.slice r.As r.subs.length r.cs,.slice r.Ao r.ops.length r.co],.string next] w fun e w' =>
  e = .returned (.bool (zpS (l.map TypA.says) r.says next))∧Below w.heap.size w w':=by
 have d:=((zdy w (.cells #[.slice A l.length c] 140)).alloc (size_alloc (yaj _)) (.cells #[.string r.name,.string r.view,.string r.edit,.string r.check,.slice r.As r.subs.length r.cs,.slice r.Ao r.ops.length r.co] 203));have b:=d.alloc d.size (.cells #[.string next] 9);have f:=((Bk.new w #[.slice A l.length c] 140).alloc (.cells #[.string r.name,.string r.view,.string r.edit,.string r.check,.slice r.As r.subs.length r.cs,.slice r.Ao r.ops.length r.co] 203)).alloc (.cells #[.string next] 9);have g:=Bk.new ((w.alloc (.cells #[.slice A l.length c] 140)).alloc (.cells #[.string r.name,.string r.view,.string r.edit,.string r.check,.slice r.As r.subs.length r.cs,.slice r.Ao r.ops.length r.co] 203)) #[.string next] 9;rw [show ((w.alloc (.cells #[.slice A l.length c] 140)).alloc (.cells #[.string r.name,.string r.view,.string r.edit,.string r.check,.slice r.As r.subs.length r.cs,.slice r.Ao r.ops.length r.co] 203)).heap.size=w.heap.size + 1 + 1 by simp] at g;have k:=containsFunc_any (b1:=w.heap.size) (b2:=w.heap.size + 1 + 1) (next:=next) (h.up b) ((SubsA.mk hr.subs).up b) f.lt f.c1 g.c1;go_enter Tryz.func248,Tryz.ntmps248
 go_wp2_with (with_reducible refine k.mono ?_;rintro e m ⟨rfl,j⟩)
 go_ret
 exact ⟨rfl,zam b b.size j⟩
theorem opHolds_any {w:World} {R:Nat} {A:Option Addr} {c:Nat} {l:List TypA} {t:TypA} (o:OpI) (h:SchA w R A c l) (ht:t.ok w R) :
 Calls Tryz.prog 221 #[.agg #[.slice A l.length c],.agg #[.string t.name,.slice t.A t.rels.length t.c],.agg #[.int .i64 o.1,.string o.2.1,.string o.2.2]] w fun e w' =>
  e = .returned (.bool (zmP (l.map TypA.says) t.says o))∧Below w.heap.size w w':=by
 have j:=((zdy w (.cells #[.slice A l.length c] 140)).alloc (size_alloc (yaj _)) (.cells #[.string t.name,.slice t.A t.rels.length t.c] 199));have b:=j.alloc j.size (.cells #[.int .i64 o.1,.string o.2.1,.string o.2.2] 222);obtain ⟨z,n,x⟩:=o;dsimp only at b ⊢;by_cases u:z=2
 · subst u;rw [show zmP (l.map TypA.says) t.says (2,n,x)=zf5 t.says n from rfl];go_enter Tryz.func221,Tryz.ntmps221
   go_wp2_with (with_reducible refine (hasRel_any (ht.up b) n).mono ?_;rintro e q ⟨rfl,d⟩)
   go_ret
   exact ⟨rfl,zam b b.size d⟩
 · by_cases y:z=3
   · subst y;cases k:zbk t n with
     | none =>
      have m:zmP (l.map TypA.says) t.says (3,n,x)=false:=by
       unfold zmP;rw [zdB,k];rfl
      rw [m];go_enter Tryz.func221,Tryz.ntmps221
      go_wp2_with (with_reducible refine (zd6 (ht.up b) k).mono ?_;rintro e q ⟨rfl,d⟩)
      go_ret
      have hb:=zam b b.size d;exact ⟨rfl,hb.alloc hb.size _⟩
     | some r =>
      have m:zmP (l.map TypA.says) t.says (3,n,x)=zpS (l.map TypA.says) r.says x:=by
       unfold zmP;rw [zdB,k];rfl
      rw [m];have p:=((Bk.new w #[.slice A l.length c] 140).alloc (.cells #[.string t.name,.slice t.A t.rels.length t.c] 199)).alloc (.cells #[.int .i64 3,.string n,.string x] 222);have g:=Bk.new ((w.alloc (.cells #[.slice A l.length c] 140)).alloc (.cells #[.string t.name,.slice t.A t.rels.length t.c] 199)) #[.int .i64 3,.string n,.string x] 222;rw [show ((w.alloc (.cells #[.slice A l.length c] 140)).alloc (.cells #[.string t.name,.slice t.A t.rels.length t.c] 199)).heap.size=w.heap.size + 1 + 1 by simp] at g;go_enter Tryz.func221,Tryz.ntmps221
      go_wp2_with fail
      refine (zfE (ht.up b) k).mono ?_;rintro e q ⟨rfl,d⟩;have B:=(p.below d).c1;have C:q.cell? ⟨w.heap.size + 1 + 1,2,none⟩=some (.string x):=(g.below d).cell 2;have z3:=(g.below d).lt;have z4:=(p.below d).lt;go_wp2_with fail
      have hb:=zam b b.size d;have f:=hb.alloc hb.size (.cells #[.string r.name,.string r.view,.string r.edit,.string r.check,.slice r.As r.subs.length r.cs,.slice r.Ao r.ops.length r.co] 203);refine (leads_any (h.up f) ((ht.relz r (zlr k)).up f)).mono ?_;rintro e D ⟨rfl,s⟩;go_wp2
      go_ret
      exact ⟨rfl,zam f f.size s⟩
   · have m:zmP (l.map TypA.says) t.says (z,n,x)=true:=by
      unfold zmP;rw [yak u,yak y]
     rw [m];go_enter Tryz.func221,Tryz.ntmps221
     go_wp2
     go_ret
     exact ⟨rfl,b⟩
end
end Go.Proofs.YtmblgnddgmfkhaaGreat
