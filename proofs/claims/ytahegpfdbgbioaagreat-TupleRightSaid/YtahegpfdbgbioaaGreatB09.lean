import Derived.Deep.Cut
import Derived.Laws.StructEq
import Derived.Deep.RegionHeld3
import Derived.Test.YtahegpfdbgbioaaGreatB08
set_option maxRecDepth 100000
set_option maxHeartbeats 4000000
namespace Go.Proofs.YtahegpfdbgbioaaGreat
open Go.RowKit
open Go.RowKit
open Go.RowKit
open Go.RowKit
def TypA.val (a:TypA):Value:=.agg #[.string a.name,.slice a.A a.rels.length a.c]
def RelA.val (a:RelA):Value:=.agg #[.string a.name,.string a.view,.string a.edit,.string a.check,.slice a.As a.subs.length a.cs,.slice a.Ao a.ops.length a.co]
def noT:TypA:=⟨⟨#[]⟩,none,0,[]⟩
def noR:RelA:=⟨⟨#[]⟩,⟨#[]⟩,⟨#[]⟩,⟨#[]⟩,none,0,[],none,0,[]⟩
def zbw (l:List TypA) (n:ByteArray):Option TypA:=l.find? fun t=>decide (t.name=n)
def za3 (t:TypA) (n:ByteArray):Option RelA:=t.rels.find? fun r=>decide (r.name=n)
theorem zfZ {α:Type} {p:α→Bool}:∀{l:List α} {i:Nat} {a:α},l[i]? = some a→(∀x ∈ l.take i,p x=false)→p a=true→l.find? p=some a
 | [],_,_,h,_,_=>by simp at h
 | x::r,0,a,h,_,hp=>by
  simp only [List.getElem?_cons_zero,Option.some.injEq] at h;subst h;rw [List.find?_cons,hp]
 | x::r,i + 1,a,h,hn,hp=>by
  rw [List.take_succ_cons] at hn;rw [List.find?_cons,hn x List.mem_cons_self];exact zfZ (by simpa using h) (fun y hy=>hn y (List.mem_cons_of_mem _ hy)) hp
theorem zex {α:Type} {p:α→Bool} {l:List α} (h:∀x ∈ l,p x=false):l.find? p=none:=List.find?_eq_none.2 fun x hx=>by rw [h x hx];decide
theorem zb1 {α:Type} {p:α→Bool} {l:List α} {i:Nat} {a:α} (hi:l[i]? = some a) (hn:∀x ∈ l.take i,p x=false) (hp:p a=false):∀x ∈ l.take (i + 1),p x=false:=by
 intro x hx;rw [List.take_add_one,hi] at hx;rcases List.mem_append.1 hx with h | h
 · exact hn x h
 · simp at h;subst h;exact hp
theorem Bk.c6 {w:World} {b:Nat} {t:TypeId} {x0 x1 x2 x3 x4 x5:Value} (h:Bk w b #[x0,x1,x2,x3,x4,x5] t):w.cell? ⟨b,0,none⟩=some x0∧w.cell? ⟨b,1,none⟩=some x1∧w.cell? ⟨b,2,none⟩=some x2∧w.cell? ⟨b,3,none⟩=some x3∧w.cell? ⟨b,4,none⟩=some x4∧w.cell? ⟨b,5,none⟩=some x5:=⟨h.cell 0,h.cell 1,h.cell 2,h.cell 3,h.cell 4,h.cell 5⟩
theorem typeOf_any {w:World} {R:Nat} {A:Option Addr} {c:Nat} {l:List TypA} (h:SchA w R A c l) (n:ByteArray) :
 Calls Tryz.prog 170 #[.agg #[.slice A l.length c],.string n] w fun e w'=>e = .returned (.tuple #[((zbw l n).getD noT).val,.bool (zbw l n).isSome])∧Below w.heap.size w w':=by
 have hl:(l.length:Int)≤9223372036854775807:=by have:=h.rows.cap;have:=h.rows.capm;simp only [maxLen] at this;omega
 go_enter Tryz.func170,Tryz.ntmps170
 go_wp2_with fail
 have hb0:=Bk.new w #[.slice A l.length c] 92;have hz0:=Bk.new2 w (.cells #[.slice A l.length c] 92) #[.string ⟨#[]⟩,.slice none 0 0] 146;have hB0:Below w.heap.size w ((w.alloc (.cells #[.slice A l.length c] 92)).alloc (.cells #[.string ⟨#[]⟩,.slice none 0 0] 146)):=((Below.refl _ w).alloc (Nat.le_refl _) _).alloc (size_alloc (Nat.le_refl _)) _;have h0:=h.up hB0;generalize (w.alloc (.cells #[.slice A l.length c] 92)).alloc (.cells #[.string ⟨#[]⟩,.slice none 0 0] 146)=w0 at *
 go_loopw [11] (fun vi wx=>∃i:Nat,vi = .int .i64 i∧i≤l.length∧(∀t ∈ l.take i,decide (t.name=n)=false)∧Below w0.heap.size w0 wx) (fun vi _=>l.length-(intOf vi).toNat)
 case atStart=>exact ⟨0,rfl,Nat.zero_le _,fun t ht=>(by simp at ht),Below.refl _ _⟩
 case round =>
  obtain ⟨i,rfl,hi,hn,hbx⟩:=hrel;have hlz:=hz0.lt;by_cases hil:i<l.length
  · have hdi:(i:Int)<(l.length:Nat):=by omega
    obtain ⟨t,ht⟩:∃t,l[i]? = some t:=⟨l[i],List.getElem?_eq_getElem hil⟩;obtain ⟨g,o,rfl,g0,g1,hk⟩:=(h0.up hbx).get ht;have lg:=World.block_lt_of_cell? _ _ g0;dsimp only at lg;have hzx:=hz0.below hbx;obtain ⟨z0,z1⟩:=hzx.c2;have zf:=hzx.fz;have zl:=hzx.lt;have zn1:¬w.heap.size + 1=wr.heap.size:=by omega
    have zn2:¬wr.heap.size=w.heap.size + 1:=by omega
    have hq:=zaE t.name n;cases hd:decide (t.name=n) with
    | false =>
     rw [hd] at hq;go_wp2
     refine ⟨⟨i + 1,by go_num,by omega,zb1 ht hn hd,hbx.alloc hbx.size _⟩,?_⟩;simp [intOf];omega
    | true =>
     rw [hd] at hq;have hf:zbw l n=some t:=zfZ ht hn hd;go_wp2
     have hw:=((hzx.set 0 (.string t.name)).set 1 (.slice t.A t.rels.length t.c)).alloc (.cells #[.string t.name,.slice t.A t.rels.length t.c] 146);obtain ⟨y0,y1⟩:=Bk.c2 hw;refine bodyPost_ret (v:=.tuple #[t.val,.bool true]) (by simp [results,Tryz.results170,go_sem,y0,y1];try rfl) rfl ?_;rw [hf];exact ⟨rfl,(((hB0.trans (hbx.mono hB0.size)).setCell (Nat.le_succ _) _).setCell (Nat.le_succ _) _).alloc (by simp;exact (hB0.trans (hbx.mono hB0.size)).size) _⟩
  · have hdi:¬((i:Int)<(l.length:Nat)):=by omega
    obtain rfl:i=l.length:=by omega
    rw [List.take_length] at hn;have hf:zbw l n=none:=zex hn;have hzx:=hz0.below hbx;obtain ⟨z0,z1⟩:=hzx.c2;have zf:=hzx.fz;go_wp2
    have hw:=(hzx.set 0 (.string ⟨#[]⟩)).set 1 (.slice none 0 0);obtain ⟨y0,y1⟩:=Bk.c2 hw;refine bodyPost_ret (v:=.tuple #[noT.val,.bool false]) (by simp [results,Tryz.results170,go_sem,y0,y1];try rfl) rfl ?_;exact ⟨rfl,((hB0.trans (hbx.mono hB0.size)).setCell (Nat.le_succ _) _).setCell (Nat.le_succ _) _⟩
theorem relOf_any {w:World} {R:Nat} {q:TypA} (h:q.ok w R) (n:ByteArray) :
 Calls Tryz.prog 171 #[.agg #[.string q.name,.slice q.A q.rels.length q.c],.string n] w fun e w'=>e = .returned (.tuple #[((za3 q n).getD noR).val,.bool (za3 q n).isSome])∧Below w.heap.size w w':=by
 have hl:(q.rels.length:Int)≤9223372036854775807:=by have:=h.rels.cap;have:=h.rels.capm;simp only [maxLen] at this;omega
 go_enter Tryz.func171,Tryz.ntmps171
 go_wp2_with fail
 have hb0:=Bk.new w #[.string q.name,.slice q.A q.rels.length q.c] 146;have hz0:=Bk.new2 w (.cells #[.string q.name,.slice q.A q.rels.length q.c] 146) #[.string ⟨#[]⟩,.string ⟨#[]⟩,.string ⟨#[]⟩,.string ⟨#[]⟩,.slice none 0 0,.slice none 0 0] 149;have hB0:Below w.heap.size w ((w.alloc (.cells #[.string q.name,.slice q.A q.rels.length q.c] 146)).alloc (.cells #[.string ⟨#[]⟩,.string ⟨#[]⟩,.string ⟨#[]⟩,.string ⟨#[]⟩,.slice none 0 0,.slice none 0 0] 149)):=((Below.refl _ w).alloc (Nat.le_refl _) _).alloc (size_alloc (Nat.le_refl _)) _;have h0:=h.up hB0;generalize (w.alloc (.cells #[.string q.name,.slice q.A q.rels.length q.c] 146)).alloc (.cells #[.string ⟨#[]⟩,.string ⟨#[]⟩,.string ⟨#[]⟩,.string ⟨#[]⟩,.slice none 0 0,.slice none 0 0] 149)=w0 at *
 go_loopw [11] (fun vi wx=>∃i:Nat,vi = .int .i64 i∧i≤q.rels.length∧(∀t ∈ q.rels.take i,decide (t.name=n)=false)∧Below w0.heap.size w0 wx) (fun vi _=>q.rels.length-(intOf vi).toNat)
 case atStart=>exact ⟨0,rfl,Nat.zero_le _,fun t ht=>(by simp at ht),Below.refl _ _⟩
 case round =>
  obtain ⟨i,rfl,hi,hn,hbx⟩:=hrel;have hlz:=hz0.lt;by_cases hil:i<q.rels.length
  · have hdi:(i:Int)<(q.rels.length:Nat):=by omega
    obtain ⟨t,ht⟩:∃t,q.rels[i]? = some t:=⟨q.rels[i],List.getElem?_eq_getElem hil⟩;obtain ⟨g,o,eA,g0,g1,g2,g3,g4,g5,hk⟩:=(h0.up hbx).get ht;have lg:=World.block_lt_of_cell? _ _ g0;dsimp only at lg;have hzx:=hz0.below hbx;obtain ⟨z0,z1,z2,z3,z4,z5⟩:=hzx.c6;have zf:=hzx.fz;have zl:=hzx.lt;have zn1:¬w.heap.size + 1=wr.heap.size:=by omega
    have zn2:¬wr.heap.size=w.heap.size + 1:=by omega
    have hq:=zaE t.name n;cases hd:decide (t.name=n) with
    | false =>
     rw [hd] at hq;go_wp2
     refine ⟨⟨i + 1,by go_num,by omega,zb1 ht hn hd,hbx.alloc hbx.size _⟩,?_⟩;simp [intOf];omega
    | true =>
     rw [hd] at hq;have hf:za3 q n=some t:=zfZ ht hn hd;go_upto_region 5 with (fail)
     replace hzx:=hzx.alloc (.cells #[.string t.name,.string t.view,.string t.edit,.string t.check,.slice t.As t.subs.length t.cs,.slice t.Ao t.ops.length t.co] 149);have hTx:=Bk.new wr #[.string t.name,.string t.view,.string t.edit,.string t.check,.slice t.As t.subs.length t.cs,.slice t.Ao t.ops.length t.co] 149;have hbx':=hbx.alloc hbx.size (.cells #[.string t.name,.string t.view,.string t.edit,.string t.check,.slice t.As t.subs.length t.cs,.slice t.Ao t.ops.length t.co] 149);clear z0 z1 z2 z3 z4 z5 zf zl;generalize wr.alloc (.cells #[.string t.name,.string t.view,.string t.edit,.string t.check,.slice t.As t.subs.length t.cs,.slice t.Ao t.ops.length t.co] 149)=wy at *
     obtain ⟨z0,z1,z2,z3,z4,z5⟩:=hzx.c6;have zf:=hzx.fz;have zl:=hzx.lt;obtain ⟨x0,x1,x2,x3,x4,x5⟩:=hTx.c6;go_wp2
     have hw:=(((((hzx.set 0 (.string t.name)).set 1 (.string t.view)).set 2 (.string t.edit)).set 3 (.string t.check)).set 4 (.slice t.As t.subs.length t.cs)).set 5 (.slice t.Ao t.ops.length t.co);obtain ⟨y0,y1,y2,y3,y4,y5⟩:=Bk.c6 hw;refine bodyPost_ret (v:=.tuple #[t.val,.bool true]) (by simp [results,Tryz.results171,go_sem,y0,y1,y2,y3,y4,y5];try rfl) rfl ?_;rw [hf];exact ⟨rfl,((((((hB0.trans (hbx'.mono hB0.size)).setCell (Nat.le_succ _) _).setCell (Nat.le_succ _) _).setCell (Nat.le_succ _) _).setCell (Nat.le_succ _) _).setCell (Nat.le_succ _) _).setCell (Nat.le_succ _) _⟩
  · have hdi:¬((i:Int)<(q.rels.length:Nat)):=by omega
    obtain rfl:i=q.rels.length:=by omega
    rw [List.take_length] at hn;have hf:za3 q n=none:=zex hn;have hzx:=hz0.below hbx;obtain ⟨z0,z1,z2,z3,z4,z5⟩:=hzx.c6;have zf:=hzx.fz;go_wp2
    have hw:=(((((hzx.set 0 (.string ⟨#[]⟩)).set 1 (.string ⟨#[]⟩)).set 2 (.string ⟨#[]⟩)).set 3 (.string ⟨#[]⟩)).set 4 (.slice none 0 0)).set 5 (.slice none 0 0);obtain ⟨y0,y1,y2,y3,y4,y5⟩:=Bk.c6 hw;refine bodyPost_ret (v:=.tuple #[noR.val,.bool false]) (by simp [results,Tryz.results171,go_sem,y0,y1,y2,y3,y4,y5];try rfl) rfl ?_;exact ⟨rfl,((((((hB0.trans (hbx.mono hB0.size)).setCell (Nat.le_succ _) _).setCell (Nat.le_succ _) _).setCell (Nat.le_succ _) _).setCell (Nat.le_succ _) _).setCell (Nat.le_succ _) _).setCell (Nat.le_succ _) _⟩
section
variable {w:World} {R:Nat} {A:Option Addr} {c:Nat} {l:List TypA} {q:TypA} {n:ByteArray}
theorem zdX (h:q.ok w R) (hf:za3 q n=none):Calls Tryz.prog 171 #[.agg #[.string q.name,.slice q.A q.rels.length q.c],.string n] w fun e w' =>
 e = .returned (.tuple #[.agg #[.string ⟨#[]⟩,.string ⟨#[]⟩,.string ⟨#[]⟩,.string ⟨#[]⟩,.slice none 0 0,.slice none 0 0],.bool false])∧Below w.heap.size w w':=by
 have k:=relOf_any h n;rw [hf] at k;exact k
theorem zfb (h:q.ok w R) {r:RelA} (hf:za3 q n=some r):Calls Tryz.prog 171 #[.agg #[.string q.name,.slice q.A q.rels.length q.c],.string n] w fun e w' =>
 e = .returned (.tuple #[.agg #[.string r.name,.string r.view,.string r.edit,.string r.check,.slice r.As r.subs.length r.cs,.slice r.Ao r.ops.length r.co],.bool true])∧Below w.heap.size w w':=by
 have k:=relOf_any h n;rw [hf] at k;exact k
theorem zdf (h:SchA w R A c l) (hf:zbw l n=none):Calls Tryz.prog 170 #[.agg #[.slice A l.length c],.string n] w fun e w' =>
 e = .returned (.tuple #[.agg #[.string ⟨#[]⟩,.slice none 0 0],.bool false])∧Below w.heap.size w w':=by
 have k:=typeOf_any h n;rw [hf] at k;exact k
theorem zcy (h:SchA w R A c l) {t:TypA} (hf:zbw l n=some t):Calls Tryz.prog 170 #[.agg #[.slice A l.length c],.string n] w fun e w' =>
 e = .returned (.tuple #[.agg #[.string t.name,.slice t.A t.rels.length t.c],.bool true])∧Below w.heap.size w w':=by
 have k:=typeOf_any h n;rw [hf] at k;exact k
end
theorem zb5 (q:TypA) (n:ByteArray):zcq q.says n=(za3 q n).map RelA.says:=by
 show (q.rels.map RelA.says).find? _=_;rw [List.find?_map];rfl
theorem zf1 (l:List TypA) (n:ByteArray):zdA (l.map TypA.says) n=(zbw l n).map TypA.says:=by
 show (l.map TypA.says).find? _=_;rw [List.find?_map];rfl
theorem zf5 (q:TypA) (n:ByteArray):zcf q.says n=(za3 q n).isSome:=by unfold zcf;rw [zb5,Option.isSome_map]
theorem ziq (l:List TypA) (n:ByteArray):zio (l.map TypA.says) n=(zbw l n).isSome:=by unfold zio;rw [zf1,Option.isSome_map]
theorem zf4 (l:List TypA) (ty re:ByteArray):hasI (l.map TypA.says) ty re=(match zbw l ty with
 | none=>false
 | some t=>zcf t.says re):=by
 unfold hasI zk3 zcf;rw [zf1];cases zbw l ty <;> rfl
theorem zgX {l:List TypA} {n:ByteArray} {t:TypA} (h:zbw l n=some t):t ∈ l:=List.mem_of_find?_eq_some h
theorem zjm {q:TypA} {n:ByteArray} {r:RelA} (h:za3 q n=some r):r ∈ q.rels:=List.mem_of_find?_eq_some h
theorem zad {B:Nat} {w w1 w2:World} (h:Below B w w1) (hB:B≤w1.heap.size) (k:Below w1.heap.size w1 w2):Below B w w2:=h.trans (k.mono hB)
theorem zb0 (w:World) (o:Obj):Below w.heap.size w (w.alloc o):=(Below.refl _ w).alloc (Nat.le_refl _) o
theorem zcR (x:ByteArray):x.toList.isEmpty=decide (x=⟨#[]⟩):=by
 have h:=zaE x ⟨#[]⟩;rw [←h,show (⟨#[]⟩:ByteArray).toList=[] by decide +kernel];cases x.toList <;> rfl
theorem hasRel_any {w:World} {R:Nat} {q:TypA} (h:q.ok w R) (n:ByteArray) :
 Calls Tryz.prog 172 #[.agg #[.string q.name,.slice q.A q.rels.length q.c],.string n] w fun e w'=>e = .returned (.bool (zcf q.says n))∧Below w.heap.size w w':=by
 rw [zf5];cases hf:za3 q n with
 | none =>
  go_enter Tryz.func172,Tryz.ntmps172
  go_wp2_with (refine (zdX (h.up (zb0 w _)) hf).mono ?_;rintro e w1 ⟨rfl,hb1⟩)
  go_ret
  have hb:=zad (zb0 w _) (size_alloc (Nat.le_refl _)) hb1;exact ⟨rfl,hb.alloc hb.size _⟩
 | some r =>
  go_enter Tryz.func172,Tryz.ntmps172
  go_wp2_with (refine (zfb (h.up (zb0 w _)) hf).mono ?_;rintro e w1 ⟨rfl,hb1⟩)
  go_ret
  have hb:=zad (zb0 w _) (size_alloc (Nat.le_refl _)) hb1;exact ⟨rfl,hb.alloc hb.size _⟩
theorem isThere_any {w:World} {R:Nat} {A:Option Addr} {c:Nat} {l:List TypA} (h:SchA w R A c l) (s:ByteArray × ByteArray) :
 Calls Tryz.prog 173 #[.agg #[.slice A l.length c],.agg #[.string s.1,.string s.2]] w fun e w'=>e = .returned (.bool (zdN (l.map TypA.says) s))∧Below w.heap.size w w':=by
 have hb0:Below w.heap.size w ((w.alloc (.cells #[.slice A l.length c] 92)).alloc (.cells #[.string s.1,.string s.2] 126)):=(zb0 w _).alloc (size_alloc (Nat.le_refl _)) _;unfold zdN;rw [ziq,zf4];cases hf:zbw l s.1 with
 | none =>
  go_enter Tryz.func173,Tryz.ntmps173
  go_wp2_with (with_reducible refine (zdf (h.up hb0) hf).mono ?_;rintro e w1 ⟨rfl,hb1⟩)
  go_ret
  have hb:=zad hb0 hb0.size hb1;exact ⟨rfl,hb.alloc hb.size _⟩
 | some t =>
  have he:=zcR s.2;have hs0:=Bk.new2 w (.cells #[.slice A l.length c] 92) #[.string s.1,.string s.2] 126;cases hd:decide (s.2=⟨#[]⟩) with
  | true =>
   rw [hd] at he;go_enter Tryz.func173,Tryz.ntmps173
   go_wp2_with (with_reducible refine (zcy (h.up hb0) hf).mono ?_;rintro e w1 ⟨rfl,hb1⟩;have hs1:=hs0.below hb1;have l1:=hs1.lt;have y1:=hs1.c2.2)
   go_ret
   have hb:=zad hb0 hb0.size hb1;exact ⟨rfl,hb.alloc hb.size _⟩
  | false =>
   rw [hd] at he;go_enter Tryz.func173,Tryz.ntmps173
   go_wp2_with (with_reducible refine (zcy (h.up hb0) hf).mono ?_;rintro e w1 ⟨rfl,hb1⟩;have hs1:=hs0.below hb1;have l1:=hs1.lt;have y1:=hs1.c2.2)
   have hb:=zad hb0 hb0.size hb1;have hk:=(h.each t (zgX hf)).up (hb.alloc hb.size (.cells #[.string t.name,.slice t.A t.rels.length t.c] 146));go_wp2_with (with_reducible refine (hasRel_any hk _).mono ?_;rintro e w2 ⟨rfl,hb2⟩)
   go_ret
   have hb':=hb.alloc hb.size (.cells #[.string t.name,.slice t.A t.rels.length t.c] 146);exact ⟨rfl,zad hb' hb'.size hb2⟩
theorem path_any {w:World} {q:TypA} {r:RelA} (h1:q.name.size≤140737488351232) (h2:r.name.size≤140737488351232) :
 Calls Tryz.prog 127 #[.agg #[.string q.name,.slice q.A q.rels.length q.c],.agg #[.string r.name,.string r.view,.string r.edit,.string r.check,.slice r.As r.subs.length r.cs,.slice r.Ao r.ops.length r.co]] w fun e w' =>
  e = .returned (.string (zgJ q.says r.says))∧Below w.heap.size w w':=by
 have e1:zgJ q.says r.says=q.name ++ ⟨#[46]⟩ ++ r.name:=rfl;rw [e1];have n1:¬9223372036854775807<q.name.size + 1:=by omega
 have n2:¬9223372036854775807<q.name.size + 1 + r.name.size:=by omega
 go_enter Tryz.func127,Tryz.ntmps127
 go_wp2
 go_ret
 exact ⟨rfl,(zb0 w _).alloc (size_alloc (Nat.le_refl _)) _⟩
def tyE (l:List TypA) (t:TypA):Nat:=if (zbw l t.name).isSome=true then 32 else if 12<t.rels.length then 13 else 0
def reE (q:TypA) (r:RelA):Nat:=if (za3 q r.name).isSome=true then 32 else if 16<r.ops.length then 13 else 0
theorem typeFault_any {w:World} {R:Nat} {A:Option Addr} {c:Nat} {l:List TypA} {t:TypA} (h:SchA w R A c l) :
 Calls Tryz.prog 125 #[.slice A l.length c,.agg #[.string t.name,.slice t.A t.rels.length t.c]] w fun e w' =>
  e = .returned (.int .i64 (tyE l t:Nat))∧Below w.heap.size w w':=by
 have hb0:=zb0 w (.cells #[.string t.name,.slice t.A t.rels.length t.c] 146);have hs0:=Bk.new w #[.string t.name,.slice t.A t.rels.length t.c] 146;cases hf:zbw l t.name with
 | some x =>
  have hE:tyE l t=32:=by unfold tyE;rw [hf];rfl
  rw [hE];go_enter Tryz.func125,Tryz.ntmps125
  go_wp2_with (with_reducible refine (zcy (h.up hb0) hf).mono ?_;rintro e w1 ⟨rfl,hb1⟩)
  go_ret
  have hb:=zad hb0 hb0.size hb1;exact ⟨rfl,hb.alloc hb.size _⟩
 | none =>
  by_cases hd:12<t.rels.length
  · have hE:tyE l t=13:=by unfold tyE;rw [hf,if_neg (by decide),if_pos hd]
    rw [hE];have hdi:(12:Int)<(t.rels.length:Nat):=by omega
    go_enter Tryz.func125,Tryz.ntmps125
    go_wp2_with (with_reducible refine (zdf (h.up hb0) hf).mono ?_;rintro e w1 ⟨rfl,hb1⟩;have hs1:=hs0.below hb1;have l1:=hs1.lt;have y1:=hs1.c2.2)
    go_ret
    have hb:=zad hb0 hb0.size hb1;exact ⟨rfl,hb.alloc hb.size _⟩
  · have hE:tyE l t=0:=by unfold tyE;rw [hf,if_neg (by decide),if_neg hd]
    rw [hE];have hdi:¬(12:Int)<(t.rels.length:Nat):=by omega
    go_enter Tryz.func125,Tryz.ntmps125
    go_wp2_with (with_reducible refine (zdf (h.up hb0) hf).mono ?_;rintro e w1 ⟨rfl,hb1⟩;have hs1:=hs0.below hb1;have l1:=hs1.lt;have y1:=hs1.c2.2)
    go_ret
    have hb:=zad hb0 hb0.size hb1;exact ⟨rfl,hb.alloc hb.size _⟩
theorem relFault_any {w:World} {R:Nat} {A:Option Addr} {c:Nat} {l:List RelA} {t:RelA} (h:TypA.ok w R ⟨⟨#[]⟩,A,c,l⟩) :
 Calls Tryz.prog 126 #[.slice A l.length c,.agg #[.string t.name,.string t.view,.string t.edit,.string t.check,.slice t.As t.subs.length t.cs,.slice t.Ao t.ops.length t.co]] w fun e w' =>
  e = .returned (.int .i64 (reE ⟨⟨#[]⟩,A,c,l⟩ t:Nat))∧Below w.heap.size w w':=by
 have hb0:=zb0 w (.cells #[.string t.name,.string t.view,.string t.edit,.string t.check,.slice t.As t.subs.length t.cs,.slice t.Ao t.ops.length t.co] 149);have hs0:=Bk.new w #[.string t.name,.string t.view,.string t.edit,.string t.check,.slice t.As t.subs.length t.cs,.slice t.Ao t.ops.length t.co] 149;cases hf:za3 ⟨⟨#[]⟩,A,c,l⟩ t.name with
 | some x =>
  have hE:reE ⟨⟨#[]⟩,A,c,l⟩ t=32:=by unfold reE;rw [hf];rfl
  rw [hE];go_enter Tryz.func126,Tryz.ntmps126
  go_wp2_with (with_reducible refine (zfb (h.up hb0) hf).mono ?_;rintro e w1 ⟨rfl,hb1⟩)
  go_ret
  have hb:=zad hb0 hb0.size hb1;exact ⟨rfl,hb.alloc hb.size _⟩
 | none =>
  by_cases hd:16<t.ops.length
  · have hE:reE ⟨⟨#[]⟩,A,c,l⟩ t=13:=by unfold reE;rw [hf,if_neg (by decide),if_pos hd]
    rw [hE];have hdi:(16:Int)<(t.ops.length:Nat):=by omega
    go_enter Tryz.func126,Tryz.ntmps126
    go_wp2_with (with_reducible refine (zdX (h.up hb0) hf).mono ?_;rintro e w1 ⟨rfl,hb1⟩;have hs1:=hs0.below hb1;have l1:=hs1.lt;have y1:=hs1.c6.2.2.2.2.2)
    go_ret
    have hb:=zad hb0 hb0.size hb1;exact ⟨rfl,hb.alloc hb.size _⟩
  · have hE:reE ⟨⟨#[]⟩,A,c,l⟩ t=0:=by unfold reE;rw [hf,if_neg (by decide),if_neg hd]
    rw [hE];have hdi:¬(16:Int)<(t.ops.length:Nat):=by omega
    go_enter Tryz.func126,Tryz.ntmps126
    go_wp2_with (with_reducible refine (zdX (h.up hb0) hf).mono ?_;rintro e w1 ⟨rfl,hb1⟩;have hs1:=hs0.below hb1;have l1:=hs1.lt;have y1:=hs1.c6.2.2.2.2.2)
    go_ret
    have hb:=zad hb0 hb0.size hb1;exact ⟨rfl,hb.alloc hb.size _⟩
structure SubsA (w:World) (A:Option Addr) (c:Nat) (l:List (ByteArray × ByteArray)):Prop where
 rows:Rd w w.heap.size 2 A l.length c (l.flatMap zjU)
theorem SubsA.up {w w':World} {A:Option Addr} {c:Nat} {l:List (ByteArray × ByteArray)} (h:SubsA w A c l) (hb:Below w.heap.size w w'):SubsA w' A c l:=⟨h.rows.up hb⟩
theorem SubsA.get {w:World} {A:Option Addr} {c:Nat} {l:List (ByteArray × ByteArray)} (h:SubsA w A c l) {i:Nat} {s:ByteArray × ByteArray} (hi:l[i]? = some s) :
 ∃b o,A=some ⟨b,o,none⟩∧w.cell? ⟨b,o + i * 2,none⟩=some (.string s.1)∧w.cell? ⟨b,o + i * 2 + 1,none⟩=some (.string s.2):=by
 obtain ⟨b,o,e,_,hc⟩:=h.rows.at_ (zd9 hi);have g:=fun k (hk:k<2)=>zbs zjU (sz:=2) (fun _=>rfl) hi (k:=k) hk;exact ⟨b,o,e,hc _ _ (g 0 (by omega)),hc _ _ (g 1 (by omega))⟩
theorem zdo (w:World) (n:Nat):Below w.heap.size w (w.drewN n):=⟨rfl,rfl,rfl,Nat.le_refl _,fun _ _=>rfl⟩
theorem any_at {α:Type} {p:α→Bool} {l:List α} {i:Nat} {a:α} (h:l[i]? = some a) (hp:p a=true):l.any p=true:=List.any_eq_true.2 ⟨a,List.mem_of_getElem? h,hp⟩
theorem zeV {α:Type} {p:α→Bool} {l:List α} (h:∀x ∈ l,p x=false):l.any p=false:=by
 cases e:l.any p with
 | false=>rfl
 | true =>
  obtain ⟨x,hx,hp⟩:=List.any_eq_true.1 e;rw [h x hx] at hp;cases hp
theorem zh7 (a c:ByteArray):a.toList=c.toList↔a=c:=by
 have h:=zaE a c;constructor
 · intro e;rw [e] at h;simpa using h.symm
 · rintro rfl;rfl
theorem eqSub (a b c d:ByteArray) (w:World):(binOp .eql 126 (.agg #[.string a,.string b]) (.agg #[.string c,.string d])).run Tryz.prog w = .ok (.bool (decide ((a,b)=(c,d)))) w:=by
 have hS:Tryz.prog.underlying 126=some (.struct (Tryz.prog.fieldsOf 126)):=by kernel_rfl
 have hp:Tryz.prog.stoodInHeld 126=false:=by kernel_rfl
 have u:=Tryz.underlying9;rw [run_eql_struct,show (10000:Nat)=9999 + 1 from rfl,run_equalIn_agg w 9999 126 _ _ hS hp];simp only [Program.fieldsOf,Tryz.underlying126];go_simp;have i1:=zh7 a c;have i2:=zh7 b d;by_cases e1:a=c <;> by_cases e2:b=d <;> simp [e1,e2,i1,i2]
theorem zkr (s t:ByteArray × ByteArray):decide ((s.1,s.2)=(t.1,t.2))=decide (t=s):=by
 rcases s with ⟨a,b⟩;rcases t with ⟨c,d⟩;have e:((a,b)=(c,d))=((c,d)=(a,b)):=propext eq_comm;simp only [e]
theorem index_any {w:World} {A:Option Addr} {c:Nat} {l:List (ByteArray × ByteArray)} (h:SubsA w A c l) (s:ByteArray × ByteArray) :
 Calls Tryz.prog 111 #[.slice A l.length c,.agg #[.string s.1,.string s.2]] w fun e w'=>(∃z:Int,e = .returned (.int .i64 z)∧decide (0≤z)=l.any fun y=>decide (y=s))∧Below w.heap.size w w':=by
 have hl:(l.length:Int)≤9223372036854775807:=by have:=h.rows.cap;have:=h.rows.capm;simp only [maxLen] at this;omega
 have hb0:=zb0 w (.cells #[.string s.1,.string s.2] 126);have hs0:=Bk.new w #[.string s.1,.string s.2] 126;have h0:=h.up hb0;go_enter Tryz.func111,Tryz.ntmps111
 go_wp2_with fail
 generalize w.alloc (.cells #[.string s.1,.string s.2] 126)=w0 at *
 go_loopw [8] (fun vi wx=>∃i:Nat,vi = .int .i64 i∧i≤l.length∧(∀y ∈ l.take i,decide (y=s)=false)∧Below w0.heap.size w0 wx) (fun vi _=>l.length-(intOf vi).toNat)
 case atStart=>exact ⟨0,rfl,Nat.zero_le _,fun t ht=>(by simp at ht),Below.refl _ _⟩
 case round =>
  obtain ⟨i,rfl,hi,hn,hbx⟩:=hrel;have hsx:=hs0.below hbx;obtain ⟨y0,y1⟩:=hsx.c2;have ly:=hsx.lt;by_cases hil:i<l.length
  · have hdi:(i:Int)<(l.length:Nat):=by omega
    obtain ⟨t,ht⟩:∃t,l[i]? = some t:=⟨l[i],List.getElem?_eq_getElem hil⟩;obtain ⟨g,o,rfl,g0,g1⟩:=(h0.up hbx).get ht;have lg:=World.block_lt_of_cell? _ _ g0;dsimp only at lg;have hE:=eqSub s.1 s.2 t.1 t.2;cases hd:decide (t=s) with
    | true =>
     rw [zkr,hd] at hE;go_wp2_with fail
     go_quiet (fail)
     go_wp2
     go_ret
     exact ⟨⟨_,rfl,by rw [any_at ht hd];exact decide_eq_true (by omega)⟩,zad hb0 hb0.size (zad hbx hbx.size (zdo wr nq))⟩
    | false =>
     rw [zkr,hd] at hE;go_wp2_with fail
     go_quiet (fail)
     go_wp2
     refine ⟨⟨i + 1,by go_num,by omega,zb1 ht hn hd,zad hbx hbx.size (zdo wr nq)⟩,?_⟩;simp [intOf];omega
  · have hdi:¬(i:Int)<(l.length:Nat):=by omega
    obtain rfl:i=l.length:=by omega
    rw [List.take_length] at hn;go_wp2
    go_ret
    exact ⟨⟨_,rfl,by rw [zeV hn];decide⟩,hb0.trans (hbx.mono hb0.size)⟩
theorem contains_any {w:World} {A:Option Addr} {c:Nat} {l:List (ByteArray × ByteArray)} (h:SubsA w A c l) (s:ByteArray × ByteArray) :
 Calls Tryz.prog 64 #[.slice A l.length c,.agg #[.string s.1,.string s.2]] w fun e w'=>e = .returned (.bool (l.any fun y=>decide (y=s)))∧Below w.heap.size w w':=by
 have hb0:=zb0 w (.cells #[.string s.1,.string s.2] 126);go_enter Tryz.func64,Tryz.ntmps64
 go_wp2_with fail
 refine (index_any (h.up hb0) s).mono ?_;rintro e w1 ⟨⟨z,rfl,hz⟩,hb1⟩;by_cases h0:0≤z
 · go_wp2
   go_ret
   exact ⟨by rw [←hz,decide_eq_true h0];rfl,hb0.trans (hb1.mono hb0.size)⟩
 · go_wp2
   go_ret
   exact ⟨by rw [←hz];rfl,hb0.trans (hb1.mono hb0.size)⟩
def zfw (l:List TypI) (next:ByteArray) (x:ByteArray × ByteArray):Bool:=decide (x.2=⟨#[]⟩) && hasI l x.1 next
theorem lead1_any {w:World} {R b1 b2:Nat} {A:Option Addr} {c:Nat} {l:List TypA} {next:ByteArray} (h:SchA w R A c l) (x:ByteArray × ByteArray) (l1:b1<w.heap.size)
 (c1:w.cell? ⟨b1,0,none⟩=some (.slice A l.length c)) (c2:w.cell? ⟨b2,0,none⟩=some (.string next)) :
 Calls Tryz.prog 225 #[.agg #[.string x.1,.string x.2],.pointer (some ⟨b1,0,none⟩),.pointer (some ⟨b2,0,none⟩)] w fun e w'=>e = .returned (.bool (zfw (l.map TypA.says) next x))∧Below w.heap.size w w':=by
 have hb0:=zb0 w (.cells #[.string x.1,.string x.2] 126);have hs0:=Bk.new w #[.string x.1,.string x.2] 126;unfold zfw;rw [zf4];cases hf:zbw l x.1 with
 | none =>
  go_enter Tryz.func225,Tryz.ntmps225
  go_wp2_with (with_reducible refine (zdf (h.up hb0) hf).mono ?_;rintro e w1 ⟨rfl,hb1⟩)
  go_ret
  have hb:=zad hb0 hb0.size hb1;exact ⟨by simp,hb.alloc hb.size _⟩
 | some t =>
  have he:=zcR x.2;cases hd:decide (x.2=⟨#[]⟩) with
  | false =>
   rw [hd] at he;go_enter Tryz.func225,Tryz.ntmps225
   go_wp2_with (with_reducible refine (zcy (h.up hb0) hf).mono ?_;rintro e w1 ⟨rfl,hb1⟩;have hs1:=hs0.below hb1;have m1:=hs1.lt;have y1:=hs1.c2.2)
   go_ret
   have hb:=zad hb0 hb0.size hb1;exact ⟨rfl,hb.alloc hb.size _⟩
  | true =>
   rw [hd] at he;go_enter Tryz.func225,Tryz.ntmps225
   go_wp2_with (with_reducible refine (zcy (h.up hb0) hf).mono ?_;rintro e w1 ⟨rfl,hb1⟩;have hs1:=hs0.below hb1;have m1:=hs1.lt;have y1:=hs1.c2.2;have d2:=zaq (zaq c2 hb0) hb1;have d2l:=World.block_lt_of_cell? _ _ d2;dsimp only at d2l)
   have hb:=zad hb0 hb0.size hb1;have hb':=hb.alloc hb.size (.cells #[.string t.name,.slice t.A t.rels.length t.c] 146);have hk:=(h.each t (zgX hf)).up hb';go_wp2_with (with_reducible refine (hasRel_any hk _).mono ?_;rintro e w2 ⟨rfl,hb2⟩)
   go_ret
   exact ⟨rfl,zad hb' hb'.size hb2⟩
theorem zlw {f:FuncId} {fn:Func} (hf:Tryz.prog.funcs[f]? = some fn) (hname:(fn.name == "runtime.NumGoroutine")=false) (hb:fn.body.isNone=false) (args:Array Value) (W:World):(callFunc f args).run Tryz.prog W = .ok (.enter f args) W:=by
 have h1:¬(fn.name="runtime.NumGoroutine"):=by simpa using hname
 have h2:fn.body≠none:=by intro e;rw [e] at hb;cases hb
 simp [callFunc,hf,h1,h2,Result.andThen]
theorem indexFunc_any {w:World} {R b1 b2:Nat} {A A2:Option Addr} {c c2:Nat} {l:List TypA} {next:ByteArray} {s:List (ByteArray × ByteArray)} (h:SchA w R A c l) (hs:SubsA w A2 c2 s) (l1:b1<w.heap.size)
 (q1:w.cell? ⟨b1,0,none⟩=some (.slice A l.length c)) (q2:w.cell? ⟨b2,0,none⟩=some (.string next)) :
 Calls Tryz.prog 234 #[.slice A2 s.length c2,.func (.func 225) #[] #[.pointer (some ⟨b1,0,none⟩),.pointer (some ⟨b2,0,none⟩)]] w fun e w'=>(∃z:Int,e = .returned (.int .i64 z)∧decide (0≤z)=s.any (zfw (l.map TypA.says) next))∧Below w.heap.size w w':=by
 have hl:(s.length:Int)≤9223372036854775807:=by have:=hs.rows.cap;have:=hs.rows.capm;simp only [maxLen] at this;omega
 have hen:∀args W,(callFunc 225 args).run Tryz.prog W = .ok (.enter 225 args) W:=zlw Tryz.func225 (by kernel_rfl) (by kernel_rfl);go_enter Tryz.func234,Tryz.ntmps234
 go_wp2_with fail
 go_loopw [8] (fun vi wx=>∃i:Nat,vi = .int .i64 i∧i≤s.length∧(∀y ∈ s.take i,zfw (l.map TypA.says) next y=false)∧Below w.heap.size w wx) (fun vi _=>s.length-(intOf vi).toNat)
 case atStart=>exact ⟨0,rfl,Nat.zero_le _,fun t ht=>(by simp at ht),Below.refl _ _⟩
 case round =>
  obtain ⟨i,rfl,hi,hn,hbx⟩:=hrel;by_cases hil:i<s.length
  · have hdi:(i:Int)<(s.length:Nat):=by omega
    obtain ⟨t,ht⟩:∃t,s[i]? = some t:=⟨s[i],List.getElem?_eq_getElem hil⟩;obtain ⟨g,o,rfl,g0,g1⟩:=(hs.up hbx).get ht;have lg:=World.block_lt_of_cell? _ _ g0;dsimp only at lg;have hc:=lead1_any (h.up hbx) t (Nat.lt_of_lt_of_le l1 hbx.size) (zaq q1 hbx) (zaq q2 hbx);cases hd:zfw (l.map TypA.says) next t with
    | true =>
     rw [hd] at hc;go_wp2_with (with_reducible refine hc.mono ?_;rintro e w1 ⟨rfl,hb1⟩)
     go_ret
     exact ⟨⟨_,rfl,by rw [any_at ht hd];exact decide_eq_true (by omega)⟩,zad hbx hbx.size hb1⟩
    | false =>
     rw [hd] at hc;go_wp2_with (with_reducible refine hc.mono ?_;rintro e w1 ⟨rfl,hb1⟩)
     refine ⟨⟨i + 1,by go_num,by omega,zb1 ht hn hd,zad hbx hbx.size hb1⟩,?_⟩;simp [intOf];omega
  · have hdi:¬(i:Int)<(s.length:Nat):=by omega
    obtain rfl:i=s.length:=by omega
    rw [List.take_length] at hn;go_wp2
    go_ret
    exact ⟨⟨_,rfl,by rw [zeV hn];decide⟩,hbx⟩
theorem containsFunc_any {w:World} {R b1 b2:Nat} {A A2:Option Addr} {c c2:Nat} {l:List TypA} {next:ByteArray} {s:List (ByteArray × ByteArray)} (h:SchA w R A c l) (hs:SubsA w A2 c2 s) (l1:b1<w.heap.size)
 (q1:w.cell? ⟨b1,0,none⟩=some (.slice A l.length c)) (q2:w.cell? ⟨b2,0,none⟩=some (.string next)) :
 Calls Tryz.prog 224 #[.slice A2 s.length c2,.func (.func 225) #[] #[.pointer (some ⟨b1,0,none⟩),.pointer (some ⟨b2,0,none⟩)]] w fun e w'=>e = .returned (.bool (s.any (zfw (l.map TypA.says) next)))∧Below w.heap.size w w':=by
 go_enter Tryz.func224,Tryz.ntmps224
 go_wp2_with fail
 refine (indexFunc_any h hs l1 q1 q2).mono ?_;rintro e w1 ⟨⟨z,rfl,hz⟩,hb1⟩;by_cases h0:0≤z
 · go_wp2
   go_ret
   exact ⟨by rw [←hz,decide_eq_true h0];rfl,hb1⟩
 · go_wp2
   go_ret
   exact ⟨by rw [←hz];rfl,hb1⟩
theorem leads_any {w:World} {R:Nat} {A:Option Addr} {c:Nat} {l:List TypA} {r:RelA} {next:ByteArray} (h:SchA w R A c l) (hr:r.ok w R) :
 Calls Tryz.prog 198 #[.agg #[.slice A l.length c],.agg #[.string r.name,.string r.view,.string r.edit,.string r.check,.slice r.As r.subs.length r.cs,.slice r.Ao r.ops.length r.co],.string next] w fun e w' =>
  e = .returned (.bool (zg2 (l.map TypA.says) r.says next))∧Below w.heap.size w w':=by
 have hb0:=((zb0 w (.cells #[.slice A l.length c] 92)).alloc (size_alloc (Nat.le_refl _)) (.cells #[.string r.name,.string r.view,.string r.edit,.string r.check,.slice r.As r.subs.length r.cs,.slice r.Ao r.ops.length r.co] 149));have hb1:=hb0.alloc hb0.size (.cells #[.string next] 9);have hk1:=((Bk.new w #[.slice A l.length c] 92).alloc (.cells #[.string r.name,.string r.view,.string r.edit,.string r.check,.slice r.As r.subs.length r.cs,.slice r.Ao r.ops.length r.co] 149)).alloc (.cells #[.string next] 9);have hk2:=Bk.new ((w.alloc (.cells #[.slice A l.length c] 92)).alloc (.cells #[.string r.name,.string r.view,.string r.edit,.string r.check,.slice r.As r.subs.length r.cs,.slice r.Ao r.ops.length r.co] 149)) #[.string next] 9;rw [show ((w.alloc (.cells #[.slice A l.length c] 92)).alloc (.cells #[.string r.name,.string r.view,.string r.edit,.string r.check,.slice r.As r.subs.length r.cs,.slice r.Ao r.ops.length r.co] 149)).heap.size=w.heap.size + 1 + 1 by simp] at hk2;have k:=containsFunc_any (b1:=w.heap.size) (b2:=w.heap.size + 1 + 1) (next:=next) (h.up hb1) ((SubsA.mk hr.subs).up hb1) hk1.lt hk1.c1 hk2.c1;go_enter Tryz.func198,Tryz.ntmps198
 go_wp2_with (with_reducible refine k.mono ?_;rintro e w1 ⟨rfl,hb2⟩)
 go_ret
 exact ⟨rfl,zad hb1 hb1.size hb2⟩
theorem opHolds_any {w:World} {R:Nat} {A:Option Addr} {c:Nat} {l:List TypA} {t:TypA} (o:OpI) (h:SchA w R A c l) (ht:t.ok w R) :
 Calls Tryz.prog 174 #[.agg #[.slice A l.length c],.agg #[.string t.name,.slice t.A t.rels.length t.c],.agg #[.int .i64 o.1,.string o.2.1,.string o.2.2]] w fun e w' =>
  e = .returned (.bool (zdr (l.map TypA.says) t.says o))∧Below w.heap.size w w':=by
 have hb0:=((zb0 w (.cells #[.slice A l.length c] 92)).alloc (size_alloc (Nat.le_refl _)) (.cells #[.string t.name,.slice t.A t.rels.length t.c] 146));have hb1:=hb0.alloc hb0.size (.cells #[.int .i64 o.1,.string o.2.1,.string o.2.2] 166);obtain ⟨z,n,x⟩:=o;dsimp only at hb1 ⊢;by_cases h2:z=2
 · subst h2;rw [show zdr (l.map TypA.says) t.says (2,n,x)=zcf t.says n from rfl];go_enter Tryz.func174,Tryz.ntmps174
   go_wp2_with (with_reducible refine (hasRel_any (ht.up hb1) n).mono ?_;rintro e w1 ⟨rfl,hb2⟩)
   go_ret
   exact ⟨rfl,zad hb1 hb1.size hb2⟩
 · by_cases h3:z=3
   · subst h3;cases hf:za3 t n with
     | none =>
      have hE:zdr (l.map TypA.says) t.says (3,n,x)=false:=by
       unfold zdr;rw [zb5,hf];rfl
      rw [hE];go_enter Tryz.func174,Tryz.ntmps174
      go_wp2_with (with_reducible refine (zdX (ht.up hb1) hf).mono ?_;rintro e w1 ⟨rfl,hb2⟩)
      go_ret
      have hb:=zad hb1 hb1.size hb2;exact ⟨rfl,hb.alloc hb.size _⟩
     | some r =>
      have hE:zdr (l.map TypA.says) t.says (3,n,x)=zg2 (l.map TypA.says) r.says x:=by
       unfold zdr;rw [zb5,hf];rfl
      rw [hE];have hs1:=((Bk.new w #[.slice A l.length c] 92).alloc (.cells #[.string t.name,.slice t.A t.rels.length t.c] 146)).alloc (.cells #[.int .i64 3,.string n,.string x] 166);have hs3:=Bk.new ((w.alloc (.cells #[.slice A l.length c] 92)).alloc (.cells #[.string t.name,.slice t.A t.rels.length t.c] 146)) #[.int .i64 3,.string n,.string x] 166;rw [show ((w.alloc (.cells #[.slice A l.length c] 92)).alloc (.cells #[.string t.name,.slice t.A t.rels.length t.c] 146)).heap.size=w.heap.size + 1 + 1 by simp] at hs3;go_enter Tryz.func174,Tryz.ntmps174
      go_wp2_with fail
      refine (zfb (ht.up hb1) hf).mono ?_;rintro e w1 ⟨rfl,hb2⟩;have z1:=(hs1.below hb2).c1;have z2:w1.cell? ⟨w.heap.size + 1 + 1,2,none⟩=some (.string x):=(hs3.below hb2).cell 2;have z3:=(hs3.below hb2).lt;have z4:=(hs1.below hb2).lt;go_wp2_with fail
      have hb:=zad hb1 hb1.size hb2;have hb':=hb.alloc hb.size (.cells #[.string r.name,.string r.view,.string r.edit,.string r.check,.slice r.As r.subs.length r.cs,.slice r.Ao r.ops.length r.co] 149);refine (leads_any (h.up hb') ((ht.relz r (zjm hf)).up hb')).mono ?_;rintro e w2 ⟨rfl,hb3⟩;go_wp2
      go_ret
      exact ⟨rfl,zad hb' hb'.size hb3⟩
   · have hE:zdr (l.map TypA.says) t.says (z,n,x)=true:=by
      unfold zdr;rw [if_neg h2,if_neg h3]
     rw [hE];go_enter Tryz.func174,Tryz.ntmps174
     go_wp2
     go_ret
     exact ⟨rfl,hb1⟩
end Go.Proofs.YtahegpfdbgbioaaGreat
namespace Go.Proofs.YtahegpfdbgbioaaGreat
open Go.RowKit
theorem Bk.c3 {w:World} {b:Nat} {t:TypeId} {x0 x1 x2:Value} (h:Bk w b #[x0,x1,x2] t):w.cell? ⟨b,0,none⟩=some x0∧w.cell? ⟨b,1,none⟩=some x1∧w.cell? ⟨b,2,none⟩=some x2:=⟨h.cell 0,h.cell 1,h.cell 2⟩
theorem ze2 {s:ByteArray} (h:s=⟨#[]⟩):s.toList.isEmpty=true:=by rw [h];decide +kernel
theorem zgU {s:ByteArray} (h:¬s=⟨#[]⟩):s.toList.isEmpty=false:=zfH (by
 rcases Nat.eq_zero_or_pos s.size with g | g
 · exact absurd (zeF g) h
 · exact g)
section
variable {w:World}
theorem show_any12 (a b c:ByteArray) (ha:a.size≤100000) (hb:b.size≤100000) (hc:c.size≤100000) :
 Calls Tryz.prog 36 #[.agg #[.string a,.string b,.string c]] w fun e w'=>e = .returned (.string (zem (a,b,c)))∧Below w.heap.size w w':=by
 have hk:=Bk.new w #[.string a,.string b,.string c] 69;obtain ⟨c0,c1,c2⟩:=hk.c3;have lb:=hk.lt;have hB:=zb0 w (.cells #[.string a,.string b,.string c] 69);clear hk;unfold zem objN;by_cases he:c=⟨#[]⟩
 · rw [if_pos he];have d:=ze2 he;clear he;go_enter Tryz.func36,Tryz.ntmps36
   go_wp2_with fail
   go_returns
   exact ⟨rfl,hB⟩
 · rw [if_neg he];have d:=zgU he;clear he;go_enter Tryz.func36,Tryz.ntmps36
   go_wp2_with fail
   go_returns
   exact ⟨rfl,hB⟩
theorem name_is {s:ByteArray} {b:Bool} (h:nameS s=b) (hs:s.size≤100000) (W:World):Calls Tryz.prog 113 #[.string s] W fun e w'=>e = .returned (.bool b)∧Below W.heap.size W w':=by
 have k:=name_any s W (by omega);rwa [h] at k
theorem nfmd_any (a b c:ByteArray) (ha:a.size≤100000) (hb:b.size≤100000) (hc:c.size≤100000) :
 Calls Tryz.prog 68 #[.agg #[.string a,.string b,.string c]] w fun e w'=>e = .returned (.bool (zf3 (a,b,c)))∧Below w.heap.size w w':=by
 have hk:=Bk.new w #[.string a,.string b,.string c] 69;obtain ⟨c0,c1,c2⟩:=hk.c3;have lb:=hk.lt;have hB:=zb0 w (.cells #[.string a,.string b,.string c] 69);unfold zf3;dsimp only;cases h1:nameS a with
 | false =>
  have k:=name_is h1 ha;go_enter Tryz.func68,Tryz.ntmps68
  go_wp2_with (go_at_call 113;refine (k _).mono ?_;rintro e w1 ⟨rfl,hb1⟩)
  go_returns
  exact ⟨rfl,zad hB hB.size hb1⟩
 | true =>
  have k:=name_is h1 ha;cases h2:nameS b with
  | false =>
   have k2:=name_is h2 hb;go_enter Tryz.func68,Tryz.ntmps68
   go_wp2_with (first
    | (go_at_call 113;with_reducible refine (k _).mono ?_;rintro e w1 ⟨rfl,hb1⟩;have hk1:=hk.below hb1;obtain ⟨d0,d1,d2⟩:=hk1.c3;have hB1:=zad hB hB.size hb1)
    | (go_at_call 113;with_reducible refine (k2 _).mono ?_;rintro e w2 ⟨rfl,hb2⟩))
   go_returns
   exact ⟨rfl,zad hB1 hB1.size hb2⟩
  | true =>
   have k2:=name_is h2 hb;by_cases he:c=⟨#[]⟩
   · have d:=ze2 he;rw [decide_eq_true he];clear he;go_enter Tryz.func68,Tryz.ntmps68
     go_wp2_with (first
      | (go_at_call 113;with_reducible refine (k _).mono ?_;rintro e w1 ⟨rfl,hb1⟩;have hk1:=hk.below hb1;obtain ⟨d0,d1,d2⟩:=hk1.c3;have hB1:=zad hB hB.size hb1)
      | (go_at_call 113;with_reducible refine (k2 _).mono ?_;rintro e w2 ⟨rfl,hb2⟩;have hk2:=hk1.below hb2;obtain ⟨e0,e1,e2⟩:=hk2.c3;have hB2:=zad hB1 hB1.size hb2))
     go_returns
     exact ⟨rfl,hB2⟩
   · have d:=zgU he;rw [decide_eq_false he];clear he;obtain ⟨x,hx⟩:∃x,nameS c=x:=⟨_,rfl⟩;have k3:=name_is hx hc;rw [hx];go_enter Tryz.func68,Tryz.ntmps68
     go_wp2_with (first
      | (go_at_call 113;with_reducible refine (k _).mono ?_;rintro e w1 ⟨rfl,hb1⟩;have hk1:=hk.below hb1;obtain ⟨d0,d1,d2⟩:=hk1.c3;have hB1:=zad hB hB.size hb1)
      | (go_at_call 113;with_reducible refine (k2 _).mono ?_;rintro e w2 ⟨rfl,hb2⟩;have hk2:=hk1.below hb2;obtain ⟨e0,e1,e2⟩:=hk2.c3;have hB2:=zad hB1 hB1.size hb2)
      | (go_at_call 113;with_reducible refine (k3 _).mono ?_;rintro e w3 ⟨rfl,hb3⟩))
     go_returns
     exact ⟨by simp,zad hB2 hB2.size hb3⟩
theorem zjy {n:NdP} {b:Bool} (h:zf3 n=b) (h0:n.1.size≤100000) (h1:n.2.1.size≤100000) (h2:n.2.2.size≤100000) (W:World):Calls Tryz.prog 68 #[.agg #[.string n.1,.string n.2.1,.string n.2.2]] W fun e w'=>e = .returned (.bool b)∧Below W.heap.size W w':=by
 rw [←h];exact nfmd_any _ _ _ h0 h1 h2
theorem fmd_any (a b c x y z:ByteArray) (ha:a.size≤100000) (hb:b.size≤100000) (hc:c.size≤100000) (hx:x.size≤100000) (hy:y.size≤100000) (hz:z.size≤100000) :
 Calls Tryz.prog 70 #[.agg #[.string a,.string b,.string c,.string x,.string y,.string z]] w fun e w'=>e = .returned (.bool (zj8 ((a,b,c),(x,y,z))))∧Below w.heap.size w w':=by
 have hk:=Bk.new w #[.string a,.string b,.string c,.string x,.string y,.string z] 71;obtain ⟨c0,c1,c2,c3,c4,c5⟩:=hk.c6;have lb:=hk.lt;have hB:=zb0 w (.cells #[.string a,.string b,.string c,.string x,.string y,.string z] 71);unfold zj8;dsimp only;by_cases he:c=⟨#[]⟩
 · have d:=ze2 he;rw [decide_eq_true he];clear he;go_enter Tryz.func70,Tryz.ntmps70
   go_wp2_with fail
   go_returns
   exact ⟨by simp,hB⟩
 · have d:=zgU he;rw [decide_eq_false he];clear he;obtain ⟨p,hp⟩:∃p,zf3 (a,b,c)=p:=⟨_,rfl⟩;obtain ⟨q,hq⟩:∃q,zf3 (x,y,z)=q:=⟨_,rfl⟩;have k:=fun W=>zjy hp ha hb hc W;have k2:=fun W=>zjy hq hx hy hz W;dsimp only at k k2;rw [hp,hq];cases p with
   | false =>
    go_enter Tryz.func70,Tryz.ntmps70
    go_wp2_with (go_at_call 68;with_reducible refine (k _).mono ?_;rintro e w1 ⟨rfl,hb1⟩)
    go_returns
    exact ⟨by simp,zad hB hB.size hb1⟩
   | true =>
    go_enter Tryz.func70,Tryz.ntmps70
    go_wp2_with (first
     | (go_at_call 68;with_reducible refine (k _).mono ?_;rintro e w1 ⟨rfl,hb1⟩;have hk1:=hk.below hb1;obtain ⟨d0,d1,d2,d3,d4,d5⟩:=hk1.c6;have hB1:=zad hB hB.size hb1)
     | (go_at_call 68;with_reducible refine (k2 _).mono ?_;rintro e w2 ⟨rfl,hb2⟩))
    go_returns
    exact ⟨by simp,zad hB1 hB1.size hb2⟩
end
end Go.Proofs.YtahegpfdbgbioaaGreat
namespace Go.Proofs.YtahegpfdbgbioaaGreat
open Go.RowKit
def nodeO (o:Option NdP):NdP:=o.getD (⟨#[]⟩,⟨#[]⟩,⟨#[]⟩)
def errO {α:Type} (o:Option α):Int:=if o.isSome=true then 0 else 11
def zlN (o:Option TuP):TuP:=o.getD ((⟨#[]⟩,⟨#[]⟩,⟨#[]⟩),(⟨#[]⟩,⟨#[]⟩,⟨#[]⟩))
theorem set3 {w w0:World} {B b:Nat} {t:TypeId} {x0 x1 x2:Value} (h:Bk w0 b #[x0,x1,x2] t) (hb:Below B w w0) (hB:B≤b) (v0 v1 v2:Value) :
 Bk (((w0.setCell ⟨b,0,none⟩ v0).setCell ⟨b,1,none⟩ v1).setCell ⟨b,2,none⟩ v2) b #[v0,v1,v2] t∧Below B w (((w0.setCell ⟨b,0,none⟩ v0).setCell ⟨b,1,none⟩ v1).setCell ⟨b,2,none⟩ v2) :=
 ⟨by
  have hw:=((h.set 0 v0).set 1 v1).set 2 v2;simp only [List.setIfInBounds_toArray,List.set_cons_zero,List.set_cons_succ] at hw;exact hw,((hb.setCell hB _).setCell hB _).setCell hB _⟩
theorem zkD {w w0:World} {B b:Nat} {t:TypeId} {x0 x1 x2 x3 x4 x5:Value} (h:Bk w0 b #[x0,x1,x2,x3,x4,x5] t) (hb:Below B w w0) (hB:B≤b) (v0 v1 v2 v3 v4 v5:Value) :
 Bk ((((((w0.setCell ⟨b,0,none⟩ v0).setCell ⟨b,1,none⟩ v1).setCell ⟨b,2,none⟩ v2).setCell ⟨b,3,none⟩ v3).setCell ⟨b,4,none⟩ v4).setCell ⟨b,5,none⟩ v5) b #[v0,v1,v2,v3,v4,v5] t∧Below B w ((((((w0.setCell ⟨b,0,none⟩ v0).setCell ⟨b,1,none⟩ v1).setCell ⟨b,2,none⟩ v2).setCell ⟨b,3,none⟩ v3).setCell ⟨b,4,none⟩ v4).setCell ⟨b,5,none⟩ v5) :=
 ⟨by
  have hw:=(((((h.set 0 v0).set 1 v1).set 2 v2).set 3 v3).set 4 v4).set 5 v5;simp only [List.setIfInBounds_toArray,List.set_cons_zero,List.set_cons_succ] at hw;exact hw,(((((hb.setCell hB _).setCell hB _).setCell hB _).setCell hB _).setCell hB _).setCell hB _⟩
section
variable {w:World}
theorem read_any12 (s:ByteArray) (hs:s.size≤100000) :
 Calls Tryz.prog 30 #[.string s] w fun e w'=>e = .returned (.tuple #[.agg #[.string (nodeO (zcH s)).1,.string (nodeO (zcH s)).2.1,.string (nodeO (zcH s)).2.2],.int .i64 (errO (zcH s))])∧Below w.heap.size w w':=by
 have hml:s.size≤maxLen:=by simp only [maxLen];omega
 obtain ⟨R,hRd⟩:∃R,Hid (zcH s=R):=⟨_,Lib.hid rfl⟩;rw [hRd.out];obtain ⟨o,r,ho⟩:∃o r,zcO s 35=(o,r):=⟨_,_,rfl⟩;obtain ⟨t,i,ht⟩:∃t i,zcO o 58=(t,i):=⟨_,_,rfl⟩;have hn:Hid (cutN s=(t,i,r)):=Lib.hid (by unfold cutN;rw [ho,ht]);have zo:o.size≤100000:=by have h1:=zev s 35;have h2:=(zcS s 35).1;rw [ho] at h1;dsimp only at h1;omega
 have zr:r.size≤100000:=by have h1:=zdR s 35;rw [ho] at h1;dsimp only at h1;omega
 have zt:t.size≤100000:=by have h1:=zev o 58;have h2:=(zcS o 58).1;rw [ht] at h1;dsimp only at h1;omega
 have zi:i.size≤100000:=by have h1:=zdR o 58;rw [ht] at h1;dsimp only at h1;omega
 have k1:=fun W=>cut35 s W hml;have k2:=fun W=>cut58 o W (by simp only [maxLen];omega);rw [ho] at k1;rw [ht] at k2;clear ho ht;generalize decide (zdi s 35<s.size)=g1 at k1;generalize decide (zdi o 58<o.size)=g2 at k2;have hR:=Bk.new w #[.string ⟨#[]⟩,.string ⟨#[]⟩,.string ⟨#[]⟩] 69;have hB:=zb0 w (.cells #[.string ⟨#[]⟩,.string ⟨#[]⟩,.string ⟨#[]⟩] 69);go_enter Tryz.func30,Tryz.ntmps30
 go_upto_region 1 with (fail)
 generalize w.alloc (.cells #[.string ⟨#[]⟩,.string ⟨#[]⟩,.string ⟨#[]⟩] 69)=w1 at *
 go_upto_region 2 with (go_at_call 67;refine (k1 _).mono ?_;rintro e w2 ⟨rfl,hb⟩)
 replace hR:=hR.below hb;replace hB:=zad hB hB.size hb;clear hb k1;go_upto_region 3 with (go_at_call 67;refine (k2 _).mono ?_;rintro e w3 ⟨rfl,hb⟩)
 replace hR:=hR.below hb;replace hB:=zad hB hB.size hb;clear hb k2;have hN:=Bk.new w3 #[.string t,.string i,.string r] 69;go_upto_region 4 with (fail)
 replace hR:=hR.alloc (.cells #[.string t,.string i,.string r] 69);replace hB:=hB.alloc hB.size (.cells #[.string t,.string i,.string r] 69);generalize w3.alloc (.cells #[.string t,.string i,.string r] 69)=w4 at *
 obtain ⟨n0,n1,n2⟩:=hN.c3;have nl:=hN.lt;obtain ⟨p,hp⟩:∃p,zf3 (t,i,r)=p:=⟨_,rfl⟩;have kf:=fun W=>zjy hp zt zi zr W;dsimp only at kf;have ks:∀W:World,_:=fun W=>show_any12 (w:=W) t i r zt zi zr;cases p with
 | false =>
  have hread:zcH s=none:=by
   unfold zcH;rw [hn.out,if_neg fun h=>by rw [hp] at h;cases h.1]
  obtain rfl:R=none:=hRd.out.symm.trans hread;clear hread hn hRd;go_wp2_with (go_at_call 68;with_reducible refine (kf _).mono ?_;rintro e w5 ⟨rfl,hb⟩;have hR5:=hR.below hb;have hB5:=zad hB hB.size hb;obtain ⟨r0,r1,r2⟩:=hR5.c3;have rl:=hR5.lt;have rf:=hR5.fz)
  obtain ⟨hw,hb6⟩:=set3 hR5 hB5 (Nat.le_refl _) (.string ⟨#[]⟩) (.string ⟨#[]⟩) (.string ⟨#[]⟩);obtain ⟨y0,y1,y2⟩:=hw.c3;refine bodyPost_ret (v:=.tuple #[.agg #[.string ⟨#[]⟩,.string ⟨#[]⟩,.string ⟨#[]⟩],.int .i64 11]) (by simp [results,Tryz.results30,go_sem,y0,y1,y2];try rfl) rfl ?_;exact ⟨rfl,hb6⟩
 | true =>
  generalize hu:zem (t,i,r)=u at ks;by_cases he:u=s
  · have hread:zcH s=some (t,i,r):=by
     unfold zcH;rw [hn.out,if_pos ⟨hp,by rw [hu,he]⟩]
    obtain rfl:R=some (t,i,r):=hRd.out.symm.trans hread;clear hRd;have d:(u.toList == s.toList)=true:=zb2 he;clear hread hn he hu;go_wp2_with (first
     | (go_at_call 68;with_reducible refine (kf _).mono ?_;rintro e w5 ⟨rfl,hb⟩;have hN5:=hN.below hb;have hR5:=hR.below hb;have hB5:=zad hB hB.size hb;obtain ⟨m0,m1,m2⟩:=hN5.c3)
     | (go_at_call 36;with_reducible refine (ks _).mono ?_;rintro e w6 ⟨rfl,hb⟩;have hN6:=hN5.below hb;have hR6:=hR5.below hb;have hB6:=zad hB5 hB5.size hb;obtain ⟨q0,q1,q2⟩:=hN6.c3;obtain ⟨r0,r1,r2⟩:=hR6.c3;have rl:=hR6.lt;have rf:=hR6.fz))
    obtain ⟨hw,hb6⟩:=set3 hR6 hB6 (Nat.le_refl _) (.string t) (.string i) (.string r);obtain ⟨y0,y1,y2⟩:=hw.c3;refine bodyPost_ret (v:=.tuple #[.agg #[.string t,.string i,.string r],.int .i64 0]) (by simp [results,Tryz.results30,go_sem,y0,y1,y2];try rfl) rfl ?_;exact ⟨rfl,hb6⟩
  · have hread:zcH s=none:=by
     unfold zcH;rw [hn.out,if_neg fun h=>he (by rw [←hu];exact h.2)]
    obtain rfl:R=none:=hRd.out.symm.trans hread;clear hRd;have d:(u.toList == s.toList)=false:=zbo he;clear hread hn he hu;go_wp2_with (first
     | (go_at_call 68;with_reducible refine (kf _).mono ?_;rintro e w5 ⟨rfl,hb⟩;have hN5:=hN.below hb;have hR5:=hR.below hb;have hB5:=zad hB hB.size hb;obtain ⟨m0,m1,m2⟩:=hN5.c3)
     | (go_at_call 36;with_reducible refine (ks _).mono ?_;rintro e w6 ⟨rfl,hb⟩;have hR6:=hR5.below hb;have hB6:=zad hB5 hB5.size hb;obtain ⟨r0,r1,r2⟩:=hR6.c3;have rl:=hR6.lt;have rf:=hR6.fz))
    obtain ⟨hw,hb6⟩:=set3 hR6 hB6 (Nat.le_refl _) (.string ⟨#[]⟩) (.string ⟨#[]⟩) (.string ⟨#[]⟩);obtain ⟨y0,y1,y2⟩:=hw.c3;refine bodyPost_ret (v:=.tuple #[.agg #[.string ⟨#[]⟩,.string ⟨#[]⟩,.string ⟨#[]⟩],.int .i64 11]) (by simp [results,Tryz.results30,go_sem,y0,y1,y2];try rfl) rfl ?_;exact ⟨rfl,hb6⟩
theorem text_any12 (a b c x y z:ByteArray) (ha:a.size≤100000) (hb:b.size≤100000) (hc:c.size≤100000) (hx:x.size≤100000) (hy:y.size≤100000) (hz:z.size≤100000) :
 Calls Tryz.prog 38 #[.agg #[.string a,.string b,.string c,.string x,.string y,.string z]] w fun e w'=>e = .returned (.string (textT ((a,b,c),(x,y,z))))∧Below w.heap.size w w':=by
 have hk:=Bk.new w #[.string a,.string b,.string c,.string x,.string y,.string z] 71;have hB:=zb0 w (.cells #[.string a,.string b,.string c,.string x,.string y,.string z] 71);have k1:∀W:World,_:=fun W=>show_any12 (w:=W) a b c ha hb hc;have k2:∀W:World,_:=fun W=>show_any12 (w:=W) x y z hx hy hz;unfold textT;dsimp only;have z1:(zem (a,b,c)).size≤400000:=by unfold zem objN;split <;> simp only [size_app,zby] <;> omega
 have z2:(zem (x,y,z)).size≤400000:=by unfold zem objN;split <;> simp only [size_app,zby] <;> omega
 generalize zem (a,b,c)=u at *
 generalize zem (x,y,z)=v at *
 have n1:¬9223372036854775807<u.size + 1:=by omega
 have n2:¬9223372036854775807<u.size + 1 + v.size:=by omega
 go_enter Tryz.func38,Tryz.ntmps38
 go_upto_region 1 with (fail)
 generalize w.alloc (.cells #[.string a,.string b,.string c,.string x,.string y,.string z] 71)=w1 at *
 have hS:∀W,Below w1.heap.size w1 W→(W.cell? ⟨w.heap.size,0,none⟩=some (.string a)∧W.cell? ⟨w.heap.size,1,none⟩=some (.string b)∧W.cell? ⟨w.heap.size,2,none⟩=some (.string c)∧W.cell? ⟨w.heap.size,3,none⟩=some (.string x)∧W.cell? ⟨w.heap.size,4,none⟩=some (.string y)∧W.cell? ⟨w.heap.size,5,none⟩=some (.string z)∧w.heap.size<W.heap.size∧Below w1.heap.size w1 W):=fun W h=>by
  have q:=hk.below h;obtain ⟨q0,q1,q2,q3,q4,q5⟩:=q.c6;exact ⟨q0,q1,q2,q3,q4,q5,q.lt,h⟩
 obtain ⟨c0,c1,c2,c3,c4,c5⟩:=hk.c6;have lk:=hk.lt;go_region_held3 (fun W=>W.cell? ⟨w.heap.size,0,none⟩=some (.string a)∧W.cell? ⟨w.heap.size,1,none⟩=some (.string b)∧W.cell? ⟨w.heap.size,2,none⟩=some (.string c)∧W.cell? ⟨w.heap.size,3,none⟩=some (.string x)∧W.cell? ⟨w.heap.size,4,none⟩=some (.string y)∧W.cell? ⟨w.heap.size,5,none⟩=some (.string z)∧w.heap.size<W.heap.size∧Below w1.heap.size w1 W)
  (first | assumption | exact hS _ (Below.refl _ _).drew | exact hS _ ((Below.refl _ _).drew.trans hb1) | exact hS _ (((Below.refl _ _).drew.trans hb1).trans (hb2.mono hb1.size)) | fail)
  (first | (go_at_call 36;with_reducible refine (k1 _).mono ?_;rintro e w2 ⟨rfl,hb1⟩) | (go_at_call 36;with_reducible refine (k2 _).mono ?_;rintro e w3 ⟨rfl,hb2⟩) | fail)
 go_wp2_with fail
 go_ret
 exact ⟨rfl,zad hB hB.size (((Below.refl _ _).drew.trans hb1).trans (hb2.mono hb1.size))⟩
end
end Go.Proofs.YtahegpfdbgbioaaGreat
