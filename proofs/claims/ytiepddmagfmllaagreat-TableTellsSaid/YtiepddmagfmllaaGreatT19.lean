import Derived.Laws.StructEq
import Derived.Test.YtiepddmagfmllaaGreatT14
set_option maxRecDepth 100000
set_option maxHeartbeats 4000000
namespace Go.Proofs.YtiepddmagfmllaaGreat
open Go.RowKit
open Go.RowKit
open Go.RowKit
open Go.RowKit
def TypA.val (a:TypA):Value:=.agg #[.string a.name,.slice a.A a.rels.length a.c]
def RelA.val (a:RelA):Value:=.agg #[.string a.name,.string a.view,.string a.edit,.string a.check,.slice a.As a.subs.length a.cs,.slice a.Ao a.ops.length a.co]
def noT:TypA:=⟨⟨#[]⟩,none,0,[]⟩
def noR:RelA:=⟨⟨#[]⟩,⟨#[]⟩,⟨#[]⟩,⟨#[]⟩,none,0,[],none,0,[]⟩
def zbu (l:List TypA) (n:ByteArray):Option TypA:=l.find? fun t=>decide (t.name=n)
def za2 (t:TypA) (n:ByteArray):Option RelA:=t.rels.find? fun r=>decide (r.name=n)
theorem zfF {α:Type} {p:α→Bool}:∀{l:List α} {i:Nat} {a:α},l[i]? = some a→(∀x ∈ l.take i,p x=false)→p a=true→l.find? p=some a
 | [],_,_,h,_,_=>by simp at h
 | x::r,0,a,h,_,hp=>by
  simp only [List.getElem?_cons_zero,Option.some.injEq] at h;subst h;rw [List.find?_cons,hp]
 | x::r,i + 1,a,h,hn,hp=>by
  rw [List.take_succ_cons] at hn;rw [List.find?_cons,hn x List.mem_cons_self];exact zfF (by simpa using h) (fun y hy=>hn y (List.mem_cons_of_mem _ hy)) hp
theorem zeg {α:Type} {p:α→Bool} {l:List α} (h:∀x ∈ l,p x=false):l.find? p=none:=List.find?_eq_none.2 fun x hx=>by rw [h x hx];decide
theorem zbZ {α:Type} {p:α→Bool} {l:List α} {i:Nat} {a:α} (hi:l[i]? = some a) (hn:∀x ∈ l.take i,p x=false) (hp:p a=false):∀x ∈ l.take (i + 1),p x=false:=by
 intro x hx;rw [List.take_add_one,hi] at hx;rcases List.mem_append.1 hx with h | h
 · exact hn x h
 · simp at h;subst h;exact hp
theorem Bk.c6 {w:World} {b:Nat} {t:TypeId} {x0 x1 x2 x3 x4 x5:Value} (h:Bk w b #[x0,x1,x2,x3,x4,x5] t):w.cell? ⟨b,0,none⟩=some x0∧w.cell? ⟨b,1,none⟩=some x1∧w.cell? ⟨b,2,none⟩=some x2∧w.cell? ⟨b,3,none⟩=some x3∧w.cell? ⟨b,4,none⟩=some x4∧w.cell? ⟨b,5,none⟩=some x5:=⟨h.cell 0,h.cell 1,h.cell 2,h.cell 3,h.cell 4,h.cell 5⟩
theorem typeOf_any {w:World} {R:Nat} {A:Option Addr} {c:Nat} {l:List TypA} (h:SchA w R A c l) (n:ByteArray) :
 Calls Tryz.prog 123 #[.agg #[.slice A l.length c],.string n] w fun e w'=>e = .returned (.tuple #[((zbu l n).getD noT).val,.bool (zbu l n).isSome])∧Below w.heap.size w w':=by
 have hl:(l.length:Int)≤9223372036854775807:=by have:=h.rows.cap;have:=h.rows.capm;simp only [maxLen] at this;omega
 go_enter Tryz.func123,Tryz.ntmps123
 go_wp2_with fail
 have hb0:=Bk.new w #[.slice A l.length c] 70;have hz0:=Bk.new2 w (.cells #[.slice A l.length c] 70) #[.string ⟨#[]⟩,.slice none 0 0] 112;have hB0:Below w.heap.size w ((w.alloc (.cells #[.slice A l.length c] 70)).alloc (.cells #[.string ⟨#[]⟩,.slice none 0 0] 112)):=((Below.refl _ w).alloc (Nat.le_refl _) _).alloc (size_alloc (Nat.le_refl _)) _;have h0:=h.up hB0;generalize (w.alloc (.cells #[.slice A l.length c] 70)).alloc (.cells #[.string ⟨#[]⟩,.slice none 0 0] 112)=w0 at *
 go_loopw [11] (fun vi wx=>∃i:Nat,vi = .int .i64 i∧i≤l.length∧(∀t ∈ l.take i,decide (t.name=n)=false)∧Below w0.heap.size w0 wx) (fun vi _=>l.length-(intOf vi).toNat)
 case atStart=>exact ⟨0,rfl,Nat.zero_le _,fun t ht=>(by simp at ht),Below.refl _ _⟩
 case round =>
  obtain ⟨i,rfl,hi,hn,hbx⟩:=hrel;have hlz:=hz0.lt;by_cases hil:i<l.length
  · have hdi:(i:Int)<(l.length:Nat):=by omega
    obtain ⟨t,ht⟩:∃t,l[i]? = some t:=⟨l[i],List.getElem?_eq_getElem hil⟩;obtain ⟨g,o,rfl,g0,g1,hk⟩:=(h0.up hbx).get ht;have lg:=World.block_lt_of_cell? _ _ g0;dsimp only at lg;have hzx:=hz0.below hbx;obtain ⟨z0,z1⟩:=hzx.c2;have zf:=hzx.fz;have zl:=hzx.lt;have zn1:¬w.heap.size + 1=wr.heap.size:=by omega
    have zn2:¬wr.heap.size=w.heap.size + 1:=by omega
    have hq:=zaE t.name n;cases hd:decide (t.name=n) with
    | false =>
     rw [hd] at hq;go_wp2
     refine ⟨⟨i + 1,by go_num,by omega,zbZ ht hn hd,hbx.alloc hbx.size _⟩,?_⟩;simp [intOf];omega
    | true =>
     rw [hd] at hq;have hf:zbu l n=some t:=zfF ht hn hd;go_wp2
     have hw:=((hzx.set 0 (.string t.name)).set 1 (.slice t.A t.rels.length t.c)).alloc (.cells #[.string t.name,.slice t.A t.rels.length t.c] 112);obtain ⟨y0,y1⟩:=Bk.c2 hw;refine bodyPost_ret (v:=.tuple #[t.val,.bool true]) (by simp [results,Tryz.results123,go_sem,y0,y1];try rfl) rfl ?_;rw [hf];exact ⟨rfl,(((hB0.trans (hbx.mono hB0.size)).setCell (Nat.le_succ _) _).setCell (Nat.le_succ _) _).alloc (by simp;exact (hB0.trans (hbx.mono hB0.size)).size) _⟩
  · have hdi:¬((i:Int)<(l.length:Nat)):=by omega
    obtain rfl:i=l.length:=by omega
    rw [List.take_length] at hn;have hf:zbu l n=none:=zeg hn;have hzx:=hz0.below hbx;obtain ⟨z0,z1⟩:=hzx.c2;have zf:=hzx.fz;go_wp2
    have hw:=(hzx.set 0 (.string ⟨#[]⟩)).set 1 (.slice none 0 0);obtain ⟨y0,y1⟩:=Bk.c2 hw;refine bodyPost_ret (v:=.tuple #[noT.val,.bool false]) (by simp [results,Tryz.results123,go_sem,y0,y1];try rfl) rfl ?_;exact ⟨rfl,((hB0.trans (hbx.mono hB0.size)).setCell (Nat.le_succ _) _).setCell (Nat.le_succ _) _⟩
theorem relOf_any {w:World} {R:Nat} {q:TypA} (h:q.ok w R) (n:ByteArray) :
 Calls Tryz.prog 124 #[.agg #[.string q.name,.slice q.A q.rels.length q.c],.string n] w fun e w'=>e = .returned (.tuple #[((za2 q n).getD noR).val,.bool (za2 q n).isSome])∧Below w.heap.size w w':=by
 have hl:(q.rels.length:Int)≤9223372036854775807:=by have:=h.rels.cap;have:=h.rels.capm;simp only [maxLen] at this;omega
 go_enter Tryz.func124,Tryz.ntmps124
 go_wp2_with fail
 have hb0:=Bk.new w #[.string q.name,.slice q.A q.rels.length q.c] 112;have hz0:=Bk.new2 w (.cells #[.string q.name,.slice q.A q.rels.length q.c] 112) #[.string ⟨#[]⟩,.string ⟨#[]⟩,.string ⟨#[]⟩,.string ⟨#[]⟩,.slice none 0 0,.slice none 0 0] 115;have hB0:Below w.heap.size w ((w.alloc (.cells #[.string q.name,.slice q.A q.rels.length q.c] 112)).alloc (.cells #[.string ⟨#[]⟩,.string ⟨#[]⟩,.string ⟨#[]⟩,.string ⟨#[]⟩,.slice none 0 0,.slice none 0 0] 115)):=((Below.refl _ w).alloc (Nat.le_refl _) _).alloc (size_alloc (Nat.le_refl _)) _;have h0:=h.up hB0;generalize (w.alloc (.cells #[.string q.name,.slice q.A q.rels.length q.c] 112)).alloc (.cells #[.string ⟨#[]⟩,.string ⟨#[]⟩,.string ⟨#[]⟩,.string ⟨#[]⟩,.slice none 0 0,.slice none 0 0] 115)=w0 at *
 go_loopw [11] (fun vi wx=>∃i:Nat,vi = .int .i64 i∧i≤q.rels.length∧(∀t ∈ q.rels.take i,decide (t.name=n)=false)∧Below w0.heap.size w0 wx) (fun vi _=>q.rels.length-(intOf vi).toNat)
 case atStart=>exact ⟨0,rfl,Nat.zero_le _,fun t ht=>(by simp at ht),Below.refl _ _⟩
 case round =>
  obtain ⟨i,rfl,hi,hn,hbx⟩:=hrel;have hlz:=hz0.lt;by_cases hil:i<q.rels.length
  · have hdi:(i:Int)<(q.rels.length:Nat):=by omega
    obtain ⟨t,ht⟩:∃t,q.rels[i]? = some t:=⟨q.rels[i],List.getElem?_eq_getElem hil⟩;obtain ⟨g,o,eA,g0,g1,g2,g3,g4,g5,hk⟩:=(h0.up hbx).get ht;have lg:=World.block_lt_of_cell? _ _ g0;dsimp only at lg;have hzx:=hz0.below hbx;obtain ⟨z0,z1,z2,z3,z4,z5⟩:=hzx.c6;have zf:=hzx.fz;have zl:=hzx.lt;have zn1:¬w.heap.size + 1=wr.heap.size:=by omega
    have zn2:¬wr.heap.size=w.heap.size + 1:=by omega
    have hq:=zaE t.name n;cases hd:decide (t.name=n) with
    | false =>
     rw [hd] at hq;go_wp2
     refine ⟨⟨i + 1,by go_num,by omega,zbZ ht hn hd,hbx.alloc hbx.size _⟩,?_⟩;simp [intOf];omega
    | true =>
     rw [hd] at hq;have hf:za2 q n=some t:=zfF ht hn hd;go_upto_region 5 with (fail)
     replace hzx:=hzx.alloc (.cells #[.string t.name,.string t.view,.string t.edit,.string t.check,.slice t.As t.subs.length t.cs,.slice t.Ao t.ops.length t.co] 115);have hTx:=Bk.new wr #[.string t.name,.string t.view,.string t.edit,.string t.check,.slice t.As t.subs.length t.cs,.slice t.Ao t.ops.length t.co] 115;have hbx':=hbx.alloc hbx.size (.cells #[.string t.name,.string t.view,.string t.edit,.string t.check,.slice t.As t.subs.length t.cs,.slice t.Ao t.ops.length t.co] 115);clear z0 z1 z2 z3 z4 z5 zf zl;generalize wr.alloc (.cells #[.string t.name,.string t.view,.string t.edit,.string t.check,.slice t.As t.subs.length t.cs,.slice t.Ao t.ops.length t.co] 115)=wy at *
     obtain ⟨z0,z1,z2,z3,z4,z5⟩:=hzx.c6;have zf:=hzx.fz;have zl:=hzx.lt;obtain ⟨x0,x1,x2,x3,x4,x5⟩:=hTx.c6;go_wp2
     have hw:=(((((hzx.set 0 (.string t.name)).set 1 (.string t.view)).set 2 (.string t.edit)).set 3 (.string t.check)).set 4 (.slice t.As t.subs.length t.cs)).set 5 (.slice t.Ao t.ops.length t.co);obtain ⟨y0,y1,y2,y3,y4,y5⟩:=Bk.c6 hw;refine bodyPost_ret (v:=.tuple #[t.val,.bool true]) (by simp [results,Tryz.results124,go_sem,y0,y1,y2,y3,y4,y5];try rfl) rfl ?_;rw [hf];exact ⟨rfl,((((((hB0.trans (hbx'.mono hB0.size)).setCell (Nat.le_succ _) _).setCell (Nat.le_succ _) _).setCell (Nat.le_succ _) _).setCell (Nat.le_succ _) _).setCell (Nat.le_succ _) _).setCell (Nat.le_succ _) _⟩
  · have hdi:¬((i:Int)<(q.rels.length:Nat)):=by omega
    obtain rfl:i=q.rels.length:=by omega
    rw [List.take_length] at hn;have hf:za2 q n=none:=zeg hn;have hzx:=hz0.below hbx;obtain ⟨z0,z1,z2,z3,z4,z5⟩:=hzx.c6;have zf:=hzx.fz;go_wp2
    have hw:=(((((hzx.set 0 (.string ⟨#[]⟩)).set 1 (.string ⟨#[]⟩)).set 2 (.string ⟨#[]⟩)).set 3 (.string ⟨#[]⟩)).set 4 (.slice none 0 0)).set 5 (.slice none 0 0);obtain ⟨y0,y1,y2,y3,y4,y5⟩:=Bk.c6 hw;refine bodyPost_ret (v:=.tuple #[noR.val,.bool false]) (by simp [results,Tryz.results124,go_sem,y0,y1,y2,y3,y4,y5];try rfl) rfl ?_;exact ⟨rfl,((((((hB0.trans (hbx.mono hB0.size)).setCell (Nat.le_succ _) _).setCell (Nat.le_succ _) _).setCell (Nat.le_succ _) _).setCell (Nat.le_succ _) _).setCell (Nat.le_succ _) _).setCell (Nat.le_succ _) _⟩
section
variable {w:World} {R:Nat} {A:Option Addr} {c:Nat} {l:List TypA} {q:TypA} {n:ByteArray}
theorem zdM (h:q.ok w R) (hf:za2 q n=none):Calls Tryz.prog 124 #[.agg #[.string q.name,.slice q.A q.rels.length q.c],.string n] w fun e w' =>
 e = .returned (.tuple #[.agg #[.string ⟨#[]⟩,.string ⟨#[]⟩,.string ⟨#[]⟩,.string ⟨#[]⟩,.slice none 0 0,.slice none 0 0],.bool false])∧Below w.heap.size w w':=by
 have k:=relOf_any h n;rw [hf] at k;exact k
theorem zeU (h:q.ok w R) {r:RelA} (hf:za2 q n=some r):Calls Tryz.prog 124 #[.agg #[.string q.name,.slice q.A q.rels.length q.c],.string n] w fun e w' =>
 e = .returned (.tuple #[.agg #[.string r.name,.string r.view,.string r.edit,.string r.check,.slice r.As r.subs.length r.cs,.slice r.Ao r.ops.length r.co],.bool true])∧Below w.heap.size w w':=by
 have k:=relOf_any h n;rw [hf] at k;exact k
theorem zc6 (h:SchA w R A c l) (hf:zbu l n=none):Calls Tryz.prog 123 #[.agg #[.slice A l.length c],.string n] w fun e w' =>
 e = .returned (.tuple #[.agg #[.string ⟨#[]⟩,.slice none 0 0],.bool false])∧Below w.heap.size w w':=by
 have k:=typeOf_any h n;rw [hf] at k;exact k
theorem zct (h:SchA w R A c l) {t:TypA} (hf:zbu l n=some t):Calls Tryz.prog 123 #[.agg #[.slice A l.length c],.string n] w fun e w' =>
 e = .returned (.tuple #[.agg #[.string t.name,.slice t.A t.rels.length t.c],.bool true])∧Below w.heap.size w w':=by
 have k:=typeOf_any h n;rw [hf] at k;exact k
end
theorem zb2 (q:TypA) (n:ByteArray):zcm q.says n=(za2 q n).map RelA.says:=by
 show (q.rels.map RelA.says).find? _=_;rw [List.find?_map];rfl
theorem zfH (l:List TypA) (n:ByteArray):zeh (l.map TypA.says) n=(zbu l n).map TypA.says:=by
 show (l.map TypA.says).find? _=_;rw [List.find?_map];rfl
theorem zfK (q:TypA) (n:ByteArray):zcb q.says n=(za2 q n).isSome:=by unfold zcb;rw [zb2,Option.isSome_map]
theorem zhN (l:List TypA) (n:ByteArray):hasT (l.map TypA.says) n=(zbu l n).isSome:=by unfold hasT;rw [zfH,Option.isSome_map]
theorem zfJ (l:List TypA) (ty re:ByteArray):hasI (l.map TypA.says) ty re=(match zbu l ty with
 | none=>false
 | some t=>zcb t.says re):=by
 unfold hasI zkm zcb;rw [zfH];cases zbu l ty <;> rfl
theorem zgs {l:List TypA} {n:ByteArray} {t:TypA} (h:zbu l n=some t):t ∈ l:=List.mem_of_find?_eq_some h
theorem ziL {q:TypA} {n:ByteArray} {r:RelA} (h:za2 q n=some r):r ∈ q.rels:=List.mem_of_find?_eq_some h
theorem zaj {B:Nat} {w w1 w2:World} (h:Below B w w1) (hB:B≤w1.heap.size) (k:Below w1.heap.size w1 w2):Below B w w2:=h.trans (k.mono hB)
theorem zck (w:World) (o:Obj):Below w.heap.size w (w.alloc o):=(Below.refl _ w).alloc (Nat.le_refl _) o
theorem zcM (x:ByteArray):x.toList.isEmpty=decide (x=⟨#[]⟩):=by
 have h:=zaE x ⟨#[]⟩;rw [←h,show (⟨#[]⟩:ByteArray).toList=[] by decide +kernel];cases x.toList <;> rfl
theorem hasRel_any {w:World} {R:Nat} {q:TypA} (h:q.ok w R) (n:ByteArray) :
 Calls Tryz.prog 125 #[.agg #[.string q.name,.slice q.A q.rels.length q.c],.string n] w fun e w'=>e = .returned (.bool (zcb q.says n))∧Below w.heap.size w w':=by
 rw [zfK];cases hf:za2 q n with
 | none =>
  go_enter Tryz.func125,Tryz.ntmps125
  go_wp2_with (refine (zdM (h.up (zck w _)) hf).mono ?_;rintro e w1 ⟨rfl,hb1⟩)
  go_ret
  have hb:=zaj (zck w _) (size_alloc (Nat.le_refl _)) hb1;exact ⟨rfl,hb.alloc hb.size _⟩
 | some r =>
  go_enter Tryz.func125,Tryz.ntmps125
  go_wp2_with (refine (zeU (h.up (zck w _)) hf).mono ?_;rintro e w1 ⟨rfl,hb1⟩)
  go_ret
  have hb:=zaj (zck w _) (size_alloc (Nat.le_refl _)) hb1;exact ⟨rfl,hb.alloc hb.size _⟩
theorem isThere_any {w:World} {R:Nat} {A:Option Addr} {c:Nat} {l:List TypA} (h:SchA w R A c l) (s:ByteArray × ByteArray) :
 Calls Tryz.prog 126 #[.agg #[.slice A l.length c],.agg #[.string s.1,.string s.2]] w fun e w'=>e = .returned (.bool (zdD (l.map TypA.says) s))∧Below w.heap.size w w':=by
 have hb0:Below w.heap.size w ((w.alloc (.cells #[.slice A l.length c] 70)).alloc (.cells #[.string s.1,.string s.2] 104)):=(zck w _).alloc (size_alloc (Nat.le_refl _)) _;unfold zdD;rw [zhN,zfJ];cases hf:zbu l s.1 with
 | none =>
  go_enter Tryz.func126,Tryz.ntmps126
  go_wp2_with (with_reducible refine (zc6 (h.up hb0) hf).mono ?_;rintro e w1 ⟨rfl,hb1⟩)
  go_ret
  have hb:=zaj hb0 hb0.size hb1;exact ⟨rfl,hb.alloc hb.size _⟩
 | some t =>
  have he:=zcM s.2;have hs0:=Bk.new2 w (.cells #[.slice A l.length c] 70) #[.string s.1,.string s.2] 104;cases hd:decide (s.2=⟨#[]⟩) with
  | true =>
   rw [hd] at he;go_enter Tryz.func126,Tryz.ntmps126
   go_wp2_with (with_reducible refine (zct (h.up hb0) hf).mono ?_;rintro e w1 ⟨rfl,hb1⟩;have hs1:=hs0.below hb1;have l1:=hs1.lt;have y1:=hs1.c2.2)
   go_ret
   have hb:=zaj hb0 hb0.size hb1;exact ⟨rfl,hb.alloc hb.size _⟩
  | false =>
   rw [hd] at he;go_enter Tryz.func126,Tryz.ntmps126
   go_wp2_with (with_reducible refine (zct (h.up hb0) hf).mono ?_;rintro e w1 ⟨rfl,hb1⟩;have hs1:=hs0.below hb1;have l1:=hs1.lt;have y1:=hs1.c2.2)
   have hb:=zaj hb0 hb0.size hb1;have hk:=(h.each t (zgs hf)).up (hb.alloc hb.size (.cells #[.string t.name,.slice t.A t.rels.length t.c] 112));go_wp2_with (with_reducible refine (hasRel_any hk _).mono ?_;rintro e w2 ⟨rfl,hb2⟩)
   go_ret
   have hb':=hb.alloc hb.size (.cells #[.string t.name,.slice t.A t.rels.length t.c] 112);exact ⟨rfl,zaj hb' hb'.size hb2⟩
theorem path_any {w:World} {q:TypA} {r:RelA} (h1:q.name.size≤140737488351232) (h2:r.name.size≤140737488351232) :
 Calls Tryz.prog 83 #[.agg #[.string q.name,.slice q.A q.rels.length q.c],.agg #[.string r.name,.string r.view,.string r.edit,.string r.check,.slice r.As r.subs.length r.cs,.slice r.Ao r.ops.length r.co]] w fun e w' =>
  e = .returned (.string (zgh q.says r.says))∧Below w.heap.size w w':=by
 have e1:zgh q.says r.says=q.name ++ ⟨#[46]⟩ ++ r.name:=rfl;rw [e1];have n1:¬9223372036854775807<q.name.size + 1:=by omega
 have n2:¬9223372036854775807<q.name.size + 1 + r.name.size:=by omega
 go_enter Tryz.func83,Tryz.ntmps83
 go_wp2
 go_ret
 exact ⟨rfl,(zck w _).alloc (size_alloc (Nat.le_refl _)) _⟩
def tyE (l:List TypA) (t:TypA):Nat:=if (zbu l t.name).isSome=true then 32 else if 12<t.rels.length then 13 else 0
def reE (q:TypA) (r:RelA):Nat:=if (za2 q r.name).isSome=true then 32 else if 16<r.ops.length then 13 else 0
theorem typeFault_any {w:World} {R:Nat} {A:Option Addr} {c:Nat} {l:List TypA} {t:TypA} (h:SchA w R A c l) :
 Calls Tryz.prog 81 #[.slice A l.length c,.agg #[.string t.name,.slice t.A t.rels.length t.c]] w fun e w' =>
  e = .returned (.int .i64 (tyE l t:Nat))∧Below w.heap.size w w':=by
 have hb0:=zck w (.cells #[.string t.name,.slice t.A t.rels.length t.c] 112);have hs0:=Bk.new w #[.string t.name,.slice t.A t.rels.length t.c] 112;cases hf:zbu l t.name with
 | some x =>
  have hE:tyE l t=32:=by unfold tyE;rw [hf];rfl
  rw [hE];go_enter Tryz.func81,Tryz.ntmps81
  go_wp2_with (with_reducible refine (zct (h.up hb0) hf).mono ?_;rintro e w1 ⟨rfl,hb1⟩)
  go_ret
  have hb:=zaj hb0 hb0.size hb1;exact ⟨rfl,hb.alloc hb.size _⟩
 | none =>
  by_cases hd:12<t.rels.length
  · have hE:tyE l t=13:=by unfold tyE;rw [hf,if_neg (by decide),if_pos hd]
    rw [hE];have hdi:(12:Int)<(t.rels.length:Nat):=by omega
    go_enter Tryz.func81,Tryz.ntmps81
    go_wp2_with (with_reducible refine (zc6 (h.up hb0) hf).mono ?_;rintro e w1 ⟨rfl,hb1⟩;have hs1:=hs0.below hb1;have l1:=hs1.lt;have y1:=hs1.c2.2)
    go_ret
    have hb:=zaj hb0 hb0.size hb1;exact ⟨rfl,hb.alloc hb.size _⟩
  · have hE:tyE l t=0:=by unfold tyE;rw [hf,if_neg (by decide),if_neg hd]
    rw [hE];have hdi:¬(12:Int)<(t.rels.length:Nat):=by omega
    go_enter Tryz.func81,Tryz.ntmps81
    go_wp2_with (with_reducible refine (zc6 (h.up hb0) hf).mono ?_;rintro e w1 ⟨rfl,hb1⟩;have hs1:=hs0.below hb1;have l1:=hs1.lt;have y1:=hs1.c2.2)
    go_ret
    have hb:=zaj hb0 hb0.size hb1;exact ⟨rfl,hb.alloc hb.size _⟩
theorem relFault_any {w:World} {R:Nat} {A:Option Addr} {c:Nat} {l:List RelA} {t:RelA} (h:TypA.ok w R ⟨⟨#[]⟩,A,c,l⟩) :
 Calls Tryz.prog 82 #[.slice A l.length c,.agg #[.string t.name,.string t.view,.string t.edit,.string t.check,.slice t.As t.subs.length t.cs,.slice t.Ao t.ops.length t.co]] w fun e w' =>
  e = .returned (.int .i64 (reE ⟨⟨#[]⟩,A,c,l⟩ t:Nat))∧Below w.heap.size w w':=by
 have hb0:=zck w (.cells #[.string t.name,.string t.view,.string t.edit,.string t.check,.slice t.As t.subs.length t.cs,.slice t.Ao t.ops.length t.co] 115);have hs0:=Bk.new w #[.string t.name,.string t.view,.string t.edit,.string t.check,.slice t.As t.subs.length t.cs,.slice t.Ao t.ops.length t.co] 115;cases hf:za2 ⟨⟨#[]⟩,A,c,l⟩ t.name with
 | some x =>
  have hE:reE ⟨⟨#[]⟩,A,c,l⟩ t=32:=by unfold reE;rw [hf];rfl
  rw [hE];go_enter Tryz.func82,Tryz.ntmps82
  go_wp2_with (with_reducible refine (zeU (h.up hb0) hf).mono ?_;rintro e w1 ⟨rfl,hb1⟩)
  go_ret
  have hb:=zaj hb0 hb0.size hb1;exact ⟨rfl,hb.alloc hb.size _⟩
 | none =>
  by_cases hd:16<t.ops.length
  · have hE:reE ⟨⟨#[]⟩,A,c,l⟩ t=13:=by unfold reE;rw [hf,if_neg (by decide),if_pos hd]
    rw [hE];have hdi:(16:Int)<(t.ops.length:Nat):=by omega
    go_enter Tryz.func82,Tryz.ntmps82
    go_wp2_with (with_reducible refine (zdM (h.up hb0) hf).mono ?_;rintro e w1 ⟨rfl,hb1⟩;have hs1:=hs0.below hb1;have l1:=hs1.lt;have y1:=hs1.c6.2.2.2.2.2)
    go_ret
    have hb:=zaj hb0 hb0.size hb1;exact ⟨rfl,hb.alloc hb.size _⟩
  · have hE:reE ⟨⟨#[]⟩,A,c,l⟩ t=0:=by unfold reE;rw [hf,if_neg (by decide),if_neg hd]
    rw [hE];have hdi:¬(16:Int)<(t.ops.length:Nat):=by omega
    go_enter Tryz.func82,Tryz.ntmps82
    go_wp2_with (with_reducible refine (zdM (h.up hb0) hf).mono ?_;rintro e w1 ⟨rfl,hb1⟩;have hs1:=hs0.below hb1;have l1:=hs1.lt;have y1:=hs1.c6.2.2.2.2.2)
    go_ret
    have hb:=zaj hb0 hb0.size hb1;exact ⟨rfl,hb.alloc hb.size _⟩
structure SubsA (w:World) (A:Option Addr) (c:Nat) (l:List (ByteArray × ByteArray)):Prop where
 rows:Rd w w.heap.size 2 A l.length c (l.flatMap ziu)
theorem SubsA.up {w w':World} {A:Option Addr} {c:Nat} {l:List (ByteArray × ByteArray)} (h:SubsA w A c l) (hb:Below w.heap.size w w'):SubsA w' A c l:=⟨h.rows.up hb⟩
theorem SubsA.get {w:World} {A:Option Addr} {c:Nat} {l:List (ByteArray × ByteArray)} (h:SubsA w A c l) {i:Nat} {s:ByteArray × ByteArray} (hi:l[i]? = some s) :
 ∃b o,A=some ⟨b,o,none⟩∧w.cell? ⟨b,o + i * 2,none⟩=some (.string s.1)∧w.cell? ⟨b,o + i * 2 + 1,none⟩=some (.string s.2):=by
 obtain ⟨b,o,e,_,hc⟩:=h.rows.at_ (zda hi);have g:=fun k (hk:k<2)=>za6 ziu (sz:=2) (fun _=>rfl) hi (k:=k) hk;exact ⟨b,o,e,hc _ _ (g 0 (by omega)),hc _ _ (g 1 (by omega))⟩
theorem zcJ (w:World) (n:Nat):Below w.heap.size w (w.drewN n):=⟨rfl,rfl,rfl,Nat.le_refl _,fun _ _=>rfl⟩
theorem any_at {α:Type} {p:α→Bool} {l:List α} {i:Nat} {a:α} (h:l[i]? = some a) (hp:p a=true):l.any p=true:=List.any_eq_true.2 ⟨a,List.mem_of_getElem? h,hp⟩
theorem zeF {α:Type} {p:α→Bool} {l:List α} (h:∀x ∈ l,p x=false):l.any p=false:=by
 cases e:l.any p with
 | false=>rfl
 | true =>
  obtain ⟨x,hx,hp⟩:=List.any_eq_true.1 e;rw [h x hx] at hp;cases hp
theorem zhA (a c:ByteArray):a.toList=c.toList↔a=c:=by
 have h:=zaE a c;constructor
 · intro e;rw [e] at h;simpa using h.symm
 · rintro rfl;rfl
theorem eqSub (a b c d:ByteArray) (w:World):(binOp .eql 104 (.agg #[.string a,.string b]) (.agg #[.string c,.string d])).run Tryz.prog w = .ok (.bool (decide ((a,b)=(c,d)))) w:=by
 have hS:Tryz.prog.underlying 104=some (.struct (Tryz.prog.fieldsOf 104)):=by kernel_rfl
 have hp:Tryz.prog.stoodInHeld 104=false:=by kernel_rfl
 have u:=Tryz.underlying9;rw [run_eql_struct,show (10000:Nat)=9999 + 1 from rfl,run_equalIn_agg w 9999 104 _ _ hS hp];simp only [Program.fieldsOf,Tryz.underlying104];go_simp;have i1:=zhA a c;have i2:=zhA b d;by_cases e1:a=c <;> by_cases e2:b=d <;> simp [e1,e2,i1,i2]
theorem zjM (s t:ByteArray × ByteArray):decide ((s.1,s.2)=(t.1,t.2))=decide (t=s):=by
 rcases s with ⟨a,b⟩;rcases t with ⟨c,d⟩;have e:((a,b)=(c,d))=((c,d)=(a,b)):=propext eq_comm;simp only [e]
theorem index_any {w:World} {A:Option Addr} {c:Nat} {l:List (ByteArray × ByteArray)} (h:SubsA w A c l) (s:ByteArray × ByteArray) :
 Calls Tryz.prog 74 #[.slice A l.length c,.agg #[.string s.1,.string s.2]] w fun e w'=>(∃z:Int,e = .returned (.int .i64 z)∧decide (0≤z)=l.any fun y=>decide (y=s))∧Below w.heap.size w w':=by
 have hl:(l.length:Int)≤9223372036854775807:=by have:=h.rows.cap;have:=h.rows.capm;simp only [maxLen] at this;omega
 have hb0:=zck w (.cells #[.string s.1,.string s.2] 104);have hs0:=Bk.new w #[.string s.1,.string s.2] 104;have h0:=h.up hb0;go_enter Tryz.func74,Tryz.ntmps74
 go_wp2_with fail
 generalize w.alloc (.cells #[.string s.1,.string s.2] 104)=w0 at *
 go_loopw [8] (fun vi wx=>∃i:Nat,vi = .int .i64 i∧i≤l.length∧(∀y ∈ l.take i,decide (y=s)=false)∧Below w0.heap.size w0 wx) (fun vi _=>l.length-(intOf vi).toNat)
 case atStart=>exact ⟨0,rfl,Nat.zero_le _,fun t ht=>(by simp at ht),Below.refl _ _⟩
 case round =>
  obtain ⟨i,rfl,hi,hn,hbx⟩:=hrel;have hsx:=hs0.below hbx;obtain ⟨y0,y1⟩:=hsx.c2;have ly:=hsx.lt;by_cases hil:i<l.length
  · have hdi:(i:Int)<(l.length:Nat):=by omega
    obtain ⟨t,ht⟩:∃t,l[i]? = some t:=⟨l[i],List.getElem?_eq_getElem hil⟩;obtain ⟨g,o,rfl,g0,g1⟩:=(h0.up hbx).get ht;have lg:=World.block_lt_of_cell? _ _ g0;dsimp only at lg;have hE:=eqSub s.1 s.2 t.1 t.2;cases hd:decide (t=s) with
    | true =>
     rw [zjM,hd] at hE;go_wp2_with fail
     go_quiet (fail)
     go_wp2
     go_ret
     exact ⟨⟨_,rfl,by rw [any_at ht hd];exact decide_eq_true (by omega)⟩,zaj hb0 hb0.size (zaj hbx hbx.size (zcJ wr nq))⟩
    | false =>
     rw [zjM,hd] at hE;go_wp2_with fail
     go_quiet (fail)
     go_wp2
     refine ⟨⟨i + 1,by go_num,by omega,zbZ ht hn hd,zaj hbx hbx.size (zcJ wr nq)⟩,?_⟩;simp [intOf];omega
  · have hdi:¬(i:Int)<(l.length:Nat):=by omega
    obtain rfl:i=l.length:=by omega
    rw [List.take_length] at hn;go_wp2
    go_ret
    exact ⟨⟨_,rfl,by rw [zeF hn];decide⟩,hb0.trans (hbx.mono hb0.size)⟩
theorem contains_any {w:World} {A:Option Addr} {c:Nat} {l:List (ByteArray × ByteArray)} (h:SubsA w A c l) (s:ByteArray × ByteArray) :
 Calls Tryz.prog 39 #[.slice A l.length c,.agg #[.string s.1,.string s.2]] w fun e w'=>e = .returned (.bool (l.any fun y=>decide (y=s)))∧Below w.heap.size w w':=by
 have hb0:=zck w (.cells #[.string s.1,.string s.2] 104);go_enter Tryz.func39,Tryz.ntmps39
 go_wp2_with fail
 refine (index_any (h.up hb0) s).mono ?_;rintro e w1 ⟨⟨z,rfl,hz⟩,hb1⟩;by_cases h0:0≤z
 · go_wp2
   go_ret
   exact ⟨by rw [←hz,decide_eq_true h0];rfl,hb0.trans (hb1.mono hb0.size)⟩
 · go_wp2
   go_ret
   exact ⟨by rw [←hz];rfl,hb0.trans (hb1.mono hb0.size)⟩
def zfe (l:List TypI) (next:ByteArray) (x:ByteArray × ByteArray):Bool:=decide (x.2=⟨#[]⟩) && hasI l x.1 next
theorem lead1_any {w:World} {R b1 b2:Nat} {A:Option Addr} {c:Nat} {l:List TypA} {next:ByteArray} (h:SchA w R A c l) (x:ByteArray × ByteArray) (l1:b1<w.heap.size)
 (c1:w.cell? ⟨b1,0,none⟩=some (.slice A l.length c)) (c2:w.cell? ⟨b2,0,none⟩=some (.string next)) :
 Calls Tryz.prog 178 #[.agg #[.string x.1,.string x.2],.pointer (some ⟨b1,0,none⟩),.pointer (some ⟨b2,0,none⟩)] w fun e w'=>e = .returned (.bool (zfe (l.map TypA.says) next x))∧Below w.heap.size w w':=by
 have hb0:=zck w (.cells #[.string x.1,.string x.2] 104);have hs0:=Bk.new w #[.string x.1,.string x.2] 104;unfold zfe;rw [zfJ];cases hf:zbu l x.1 with
 | none =>
  go_enter Tryz.func178,Tryz.ntmps178
  go_wp2_with (with_reducible refine (zc6 (h.up hb0) hf).mono ?_;rintro e w1 ⟨rfl,hb1⟩)
  go_ret
  have hb:=zaj hb0 hb0.size hb1;exact ⟨by simp,hb.alloc hb.size _⟩
 | some t =>
  have he:=zcM x.2;cases hd:decide (x.2=⟨#[]⟩) with
  | false =>
   rw [hd] at he;go_enter Tryz.func178,Tryz.ntmps178
   go_wp2_with (with_reducible refine (zct (h.up hb0) hf).mono ?_;rintro e w1 ⟨rfl,hb1⟩;have hs1:=hs0.below hb1;have m1:=hs1.lt;have y1:=hs1.c2.2)
   go_ret
   have hb:=zaj hb0 hb0.size hb1;exact ⟨rfl,hb.alloc hb.size _⟩
  | true =>
   rw [hd] at he;go_enter Tryz.func178,Tryz.ntmps178
   go_wp2_with (with_reducible refine (zct (h.up hb0) hf).mono ?_;rintro e w1 ⟨rfl,hb1⟩;have hs1:=hs0.below hb1;have m1:=hs1.lt;have y1:=hs1.c2.2;have d2:=zaq (zaq c2 hb0) hb1;have d2l:=World.block_lt_of_cell? _ _ d2;dsimp only at d2l)
   have hb:=zaj hb0 hb0.size hb1;have hb':=hb.alloc hb.size (.cells #[.string t.name,.slice t.A t.rels.length t.c] 112);have hk:=(h.each t (zgs hf)).up hb';go_wp2_with (with_reducible refine (hasRel_any hk _).mono ?_;rintro e w2 ⟨rfl,hb2⟩)
   go_ret
   exact ⟨rfl,zaj hb' hb'.size hb2⟩
theorem zkQ {f:FuncId} {fn:Func} (hf:Tryz.prog.funcs[f]? = some fn) (hname:(fn.name == "runtime.NumGoroutine")=false) (hb:fn.body.isNone=false) (args:Array Value) (W:World):(callFunc f args).run Tryz.prog W = .ok (.enter f args) W:=by
 have h1:¬(fn.name="runtime.NumGoroutine"):=by simpa using hname
 have h2:fn.body≠none:=by intro e;rw [e] at hb;cases hb
 simp [callFunc,hf,h1,h2,Result.andThen]
theorem indexFunc_any {w:World} {R b1 b2:Nat} {A A2:Option Addr} {c c2:Nat} {l:List TypA} {next:ByteArray} {s:List (ByteArray × ByteArray)} (h:SchA w R A c l) (hs:SubsA w A2 c2 s) (l1:b1<w.heap.size)
 (q1:w.cell? ⟨b1,0,none⟩=some (.slice A l.length c)) (q2:w.cell? ⟨b2,0,none⟩=some (.string next)) :
 Calls Tryz.prog 189 #[.slice A2 s.length c2,.func (.func 178) #[] #[.pointer (some ⟨b1,0,none⟩),.pointer (some ⟨b2,0,none⟩)]] w fun e w'=>(∃z:Int,e = .returned (.int .i64 z)∧decide (0≤z)=s.any (zfe (l.map TypA.says) next))∧Below w.heap.size w w':=by
 have hl:(s.length:Int)≤9223372036854775807:=by have:=hs.rows.cap;have:=hs.rows.capm;simp only [maxLen] at this;omega
 have hen:∀args W,(callFunc 178 args).run Tryz.prog W = .ok (.enter 178 args) W:=zkQ Tryz.func178 (by kernel_rfl) (by kernel_rfl);go_enter Tryz.func189,Tryz.ntmps189
 go_wp2_with fail
 go_loopw [8] (fun vi wx=>∃i:Nat,vi = .int .i64 i∧i≤s.length∧(∀y ∈ s.take i,zfe (l.map TypA.says) next y=false)∧Below w.heap.size w wx) (fun vi _=>s.length-(intOf vi).toNat)
 case atStart=>exact ⟨0,rfl,Nat.zero_le _,fun t ht=>(by simp at ht),Below.refl _ _⟩
 case round =>
  obtain ⟨i,rfl,hi,hn,hbx⟩:=hrel;by_cases hil:i<s.length
  · have hdi:(i:Int)<(s.length:Nat):=by omega
    obtain ⟨t,ht⟩:∃t,s[i]? = some t:=⟨s[i],List.getElem?_eq_getElem hil⟩;obtain ⟨g,o,rfl,g0,g1⟩:=(hs.up hbx).get ht;have lg:=World.block_lt_of_cell? _ _ g0;dsimp only at lg;have hc:=lead1_any (h.up hbx) t (Nat.lt_of_lt_of_le l1 hbx.size) (zaq q1 hbx) (zaq q2 hbx);cases hd:zfe (l.map TypA.says) next t with
    | true =>
     rw [hd] at hc;go_wp2_with (with_reducible refine hc.mono ?_;rintro e w1 ⟨rfl,hb1⟩)
     go_ret
     exact ⟨⟨_,rfl,by rw [any_at ht hd];exact decide_eq_true (by omega)⟩,zaj hbx hbx.size hb1⟩
    | false =>
     rw [hd] at hc;go_wp2_with (with_reducible refine hc.mono ?_;rintro e w1 ⟨rfl,hb1⟩)
     refine ⟨⟨i + 1,by go_num,by omega,zbZ ht hn hd,zaj hbx hbx.size hb1⟩,?_⟩;simp [intOf];omega
  · have hdi:¬(i:Int)<(s.length:Nat):=by omega
    obtain rfl:i=s.length:=by omega
    rw [List.take_length] at hn;go_wp2
    go_ret
    exact ⟨⟨_,rfl,by rw [zeF hn];decide⟩,hbx⟩
theorem containsFunc_any {w:World} {R b1 b2:Nat} {A A2:Option Addr} {c c2:Nat} {l:List TypA} {next:ByteArray} {s:List (ByteArray × ByteArray)} (h:SchA w R A c l) (hs:SubsA w A2 c2 s) (l1:b1<w.heap.size)
 (q1:w.cell? ⟨b1,0,none⟩=some (.slice A l.length c)) (q2:w.cell? ⟨b2,0,none⟩=some (.string next)) :
 Calls Tryz.prog 177 #[.slice A2 s.length c2,.func (.func 178) #[] #[.pointer (some ⟨b1,0,none⟩),.pointer (some ⟨b2,0,none⟩)]] w fun e w'=>e = .returned (.bool (s.any (zfe (l.map TypA.says) next)))∧Below w.heap.size w w':=by
 go_enter Tryz.func177,Tryz.ntmps177
 go_wp2_with fail
 refine (indexFunc_any h hs l1 q1 q2).mono ?_;rintro e w1 ⟨⟨z,rfl,hz⟩,hb1⟩;by_cases h0:0≤z
 · go_wp2
   go_ret
   exact ⟨by rw [←hz,decide_eq_true h0];rfl,hb1⟩
 · go_wp2
   go_ret
   exact ⟨by rw [←hz];rfl,hb1⟩
theorem leads_any {w:World} {R:Nat} {A:Option Addr} {c:Nat} {l:List TypA} {r:RelA} {next:ByteArray} (h:SchA w R A c l) (hr:r.ok w R) :
 Calls Tryz.prog 150 #[.agg #[.slice A l.length c],.agg #[.string r.name,.string r.view,.string r.edit,.string r.check,.slice r.As r.subs.length r.cs,.slice r.Ao r.ops.length r.co],.string next] w fun e w' =>
  e = .returned (.bool (zgw (l.map TypA.says) r.says next))∧Below w.heap.size w w':=by
 have hb0:=((zck w (.cells #[.slice A l.length c] 70)).alloc (size_alloc (Nat.le_refl _)) (.cells #[.string r.name,.string r.view,.string r.edit,.string r.check,.slice r.As r.subs.length r.cs,.slice r.Ao r.ops.length r.co] 115));have hb1:=hb0.alloc hb0.size (.cells #[.string next] 9);have hk1:=((Bk.new w #[.slice A l.length c] 70).alloc (.cells #[.string r.name,.string r.view,.string r.edit,.string r.check,.slice r.As r.subs.length r.cs,.slice r.Ao r.ops.length r.co] 115)).alloc (.cells #[.string next] 9);have hk2:=Bk.new ((w.alloc (.cells #[.slice A l.length c] 70)).alloc (.cells #[.string r.name,.string r.view,.string r.edit,.string r.check,.slice r.As r.subs.length r.cs,.slice r.Ao r.ops.length r.co] 115)) #[.string next] 9;rw [show ((w.alloc (.cells #[.slice A l.length c] 70)).alloc (.cells #[.string r.name,.string r.view,.string r.edit,.string r.check,.slice r.As r.subs.length r.cs,.slice r.Ao r.ops.length r.co] 115)).heap.size=w.heap.size + 1 + 1 by simp] at hk2;have k:=containsFunc_any (b1:=w.heap.size) (b2:=w.heap.size + 1 + 1) (next:=next) (h.up hb1) ((SubsA.mk hr.subs).up hb1) hk1.lt hk1.c1 hk2.c1;go_enter Tryz.func150,Tryz.ntmps150
 go_wp2_with (with_reducible refine k.mono ?_;rintro e w1 ⟨rfl,hb2⟩)
 go_ret
 exact ⟨rfl,zaj hb1 hb1.size hb2⟩
theorem opHolds_any {w:World} {R:Nat} {A:Option Addr} {c:Nat} {l:List TypA} {t:TypA} (o:OpI) (h:SchA w R A c l) (ht:t.ok w R) :
 Calls Tryz.prog 127 #[.agg #[.slice A l.length c],.agg #[.string t.name,.slice t.A t.rels.length t.c],.agg #[.int .i64 o.1,.string o.2.1,.string o.2.2]] w fun e w' =>
  e = .returned (.bool (zdg (l.map TypA.says) t.says o))∧Below w.heap.size w w':=by
 have hb0:=((zck w (.cells #[.slice A l.length c] 70)).alloc (size_alloc (Nat.le_refl _)) (.cells #[.string t.name,.slice t.A t.rels.length t.c] 112));have hb1:=hb0.alloc hb0.size (.cells #[.int .i64 o.1,.string o.2.1,.string o.2.2] 132);obtain ⟨z,n,x⟩:=o;dsimp only at hb1 ⊢;by_cases h2:z=2
 · subst h2;rw [show zdg (l.map TypA.says) t.says (2,n,x)=zcb t.says n from rfl];go_enter Tryz.func127,Tryz.ntmps127
   go_wp2_with (with_reducible refine (hasRel_any (ht.up hb1) n).mono ?_;rintro e w1 ⟨rfl,hb2⟩)
   go_ret
   exact ⟨rfl,zaj hb1 hb1.size hb2⟩
 · by_cases h3:z=3
   · subst h3;cases hf:za2 t n with
     | none =>
      have hE:zdg (l.map TypA.says) t.says (3,n,x)=false:=by
       unfold zdg;rw [zb2,hf];rfl
      rw [hE];go_enter Tryz.func127,Tryz.ntmps127
      go_wp2_with (with_reducible refine (zdM (ht.up hb1) hf).mono ?_;rintro e w1 ⟨rfl,hb2⟩)
      go_ret
      have hb:=zaj hb1 hb1.size hb2;exact ⟨rfl,hb.alloc hb.size _⟩
     | some r =>
      have hE:zdg (l.map TypA.says) t.says (3,n,x)=zgw (l.map TypA.says) r.says x:=by
       unfold zdg;rw [zb2,hf];rfl
      rw [hE];have hs1:=((Bk.new w #[.slice A l.length c] 70).alloc (.cells #[.string t.name,.slice t.A t.rels.length t.c] 112)).alloc (.cells #[.int .i64 3,.string n,.string x] 132);have hs3:=Bk.new ((w.alloc (.cells #[.slice A l.length c] 70)).alloc (.cells #[.string t.name,.slice t.A t.rels.length t.c] 112)) #[.int .i64 3,.string n,.string x] 132;rw [show ((w.alloc (.cells #[.slice A l.length c] 70)).alloc (.cells #[.string t.name,.slice t.A t.rels.length t.c] 112)).heap.size=w.heap.size + 1 + 1 by simp] at hs3;go_enter Tryz.func127,Tryz.ntmps127
      go_wp2_with fail
      refine (zeU (ht.up hb1) hf).mono ?_;rintro e w1 ⟨rfl,hb2⟩;have z1:=(hs1.below hb2).c1;have z2:w1.cell? ⟨w.heap.size + 1 + 1,2,none⟩=some (.string x):=(hs3.below hb2).cell 2;have z3:=(hs3.below hb2).lt;have z4:=(hs1.below hb2).lt;go_wp2_with fail
      have hb:=zaj hb1 hb1.size hb2;have hb':=hb.alloc hb.size (.cells #[.string r.name,.string r.view,.string r.edit,.string r.check,.slice r.As r.subs.length r.cs,.slice r.Ao r.ops.length r.co] 115);refine (leads_any (h.up hb') ((ht.relz r (ziL hf)).up hb')).mono ?_;rintro e w2 ⟨rfl,hb3⟩;go_wp2
      go_ret
      exact ⟨rfl,zaj hb' hb'.size hb3⟩
   · have hE:zdg (l.map TypA.says) t.says (z,n,x)=true:=by
      unfold zdg;rw [if_neg h2,if_neg h3]
     rw [hE];go_enter Tryz.func127,Tryz.ntmps127
     go_wp2
     go_ret
     exact ⟨rfl,hb1⟩
end Go.Proofs.YtiepddmagfmllaaGreat
namespace Go.Proofs.YtiepddmagfmllaaGreat
open Go.RowKit
def AtZ {α:Type} (p:α→Bool) (l:List α) (z:Int):Prop:=(z = -1∧l.find? p=none)∨∃(i:Nat) (t:α),z=i∧l[i]? = some t∧l.find? p=some t∧∀x ∈ l.take i,p x=false
theorem AtZ.neg {α:Type} {p:α→Bool} {l:List α} {z:Int} (h:AtZ p l z):decide (z<0) = !(l.find? p).isSome:=by
 rcases h with ⟨rfl,h⟩ | ⟨i,t,rfl,_,h,_⟩
 · rw [h];rfl
 · rw [h];exact decide_eq_false (by omega)
theorem AtZ.pos {α:Type} {p:α→Bool} {l:List α} {z:Int} (h:AtZ p l z):decide (0≤z)=(l.find? p).isSome:=by
 rcases h with ⟨rfl,h⟩ | ⟨i,t,rfl,_,h,_⟩
 · rw [h];rfl
 · rw [h];exact decide_eq_true (by omega)
theorem AtZ.ahead {α:Type} {p:α→Bool} {l:List α} {z:Int} (h:AtZ p l z) {k:Nat} {a:α} (hk:l[k]? = some a) (ha:p a=true):decide (z<(k:Int))=(l.take k).any p:=by
 rcases h with ⟨rfl,h⟩ | ⟨i,t,rfl,hi,hf,hn⟩
 · have:=List.find?_eq_none.1 h a (List.mem_of_getElem? hk);exact absurd ha this
 · have hp:p t=true:=List.find?_some hf;by_cases hik:i<k
   · rw [decide_eq_true (by omega)];refine (List.any_eq_true.2 ⟨t,?_,hp⟩).symm;refine List.mem_of_getElem? (i:=i) ?_;rw [List.getElem?_take_of_lt hik];exact hi
   · rw [decide_eq_false (by omega)];refine (zeF fun x hx=>hn x ?_).symm;obtain ⟨j,hj⟩:=List.getElem?_of_mem hx;have hjk:j<k:=by
      have:=(List.getElem?_eq_some_iff.1 hj).1;rw [List.length_take] at this;omega
     rw [List.getElem?_take_of_lt hjk] at hj;refine List.mem_of_getElem? (i:=j) ?_;rw [List.getElem?_take_of_lt (by omega)];exact hj
theorem rel9_any {w:World} {R:Nat} {q:TypA} (h:q.ok w R) (n:ByteArray) :
 Calls Tryz.prog 67 #[.agg #[.string q.name,.slice q.A q.rels.length q.c],.string n] w fun e w'=>(∃z:Int,e = .returned (.int .i64 z)∧AtZ (fun t:RelA=>decide (t.name=n)) q.rels z)∧Below w.heap.size w w':=by
 have hl:(q.rels.length:Int)≤9223372036854775807:=by have:=h.rels.cap;have:=h.rels.capm;simp only [maxLen] at this;omega
 have hb0:=zck w (.cells #[.string q.name,.slice q.A q.rels.length q.c] 93);have d0:=Bk.new w #[.string q.name,.slice q.A q.rels.length q.c] 93;have h0:=h.up hb0;obtain ⟨qA,hqA⟩:∃qA,q.A=qA:=⟨_,rfl⟩;rw [hqA] at d0 hb0 ⊢;rw [hqA] at h0;go_enter Tryz.func67,Tryz.ntmps67
 go_wp2_with fail
 generalize w.alloc (.cells #[.string q.name,.slice qA q.rels.length q.c] 93)=w0 at *
 go_loopw [5] (fun vi wx=>∃i:Nat,vi = .int .i64 i∧i≤q.rels.length∧(∀t ∈ q.rels.take i,decide (t.name=n)=false)∧Below w0.heap.size w0 wx) (fun vi _=>q.rels.length-(intOf vi).toNat)
 case atStart=>exact ⟨0,rfl,Nat.zero_le _,fun t ht=>(by simp at ht),Below.refl _ _⟩
 case round =>
  obtain ⟨i,rfl,hi,hn,hbx⟩:=hrel;have dx:=d0.below hbx;obtain ⟨x0,x1⟩:=dx.c2;have xl:=dx.lt;by_cases hil:i<q.rels.length
  · have hdi:(i:Int)<(q.rels.length:Nat):=by omega
    obtain ⟨t,ht⟩:∃t,q.rels[i]? = some t:=⟨q.rels[i],List.getElem?_eq_getElem hil⟩;obtain ⟨g,o,eA,g0,g1,g2,g3,g4,g5,hk⟩:=(h0.up hbx).get ht;rw [hqA] at eA;subst eA;have lg:=World.block_lt_of_cell? _ _ g0;dsimp only at lg;have hq:=zaE t.name n;cases hd:decide (t.name=n) with
    | false =>
     rw [hd] at hq;go_wp2
     refine ⟨⟨i + 1,by go_num,by omega,zbZ ht hn hd,hbx⟩,?_⟩;simp [intOf];omega
    | true =>
     rw [hd] at hq;go_wp2
     go_ret
     exact ⟨⟨_,rfl,Or.inr ⟨i,t,rfl,ht,zfF ht hn hd,hn⟩⟩,zaj hb0 hb0.size hbx⟩
  · have hdi:¬((i:Int)<(q.rels.length:Nat)):=by omega
    obtain rfl:i=q.rels.length:=by omega
    rw [List.take_length] at hn;go_wp2
    go_ret
    exact ⟨⟨_,rfl,Or.inl ⟨rfl,zeg hn⟩⟩,zaj hb0 hb0.size hbx⟩
end Go.Proofs.YtiepddmagfmllaaGreat
