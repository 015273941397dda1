import Derived.Recover
import Derived.Test.YtiepddmagfmllaaGreatT04
set_option maxRecDepth 100000
set_option maxHeartbeats 4000000
namespace Go.Proofs.YtiepddmagfmllaaGreat
open Go.RowKit
open Go.RowKit
open Go.RowKit
open Go.RowKit
theorem zaE (x y:ByteArray):(x.toList == y.toList)=decide (x=y):=toList_inj
theorem key_any (s:ByteArray) (w:World):Calls Tryz.prog 186 #[.string s] w fun e w'=>e = .returned (.bool (keyB s))∧w'=w:=by
 have e1:=zaE s ⟨#[116,121,112,101]⟩;have e2:=zaE s ⟨#[114,101,108]⟩;have e3:=zaE s ⟨#[105,115]⟩;have e4:=zaE s ⟨#[116,104,105,115]⟩;rw [show (⟨#[116,121,112,101]⟩:ByteArray).toList=[116,121,112,101] by decide +kernel] at e1;rw [show (⟨#[114,101,108]⟩:ByteArray).toList=[114,101,108] by decide +kernel] at e2;rw [show (⟨#[105,115]⟩:ByteArray).toList=[105,115] by decide +kernel] at e3;rw [show (⟨#[116,104,105,115]⟩:ByteArray).toList=[116,104,105,115] by decide +kernel] at e4;have HK:Hid (keyB s=(decide (s=⟨#[116,121,112,101]⟩) || decide (s=⟨#[114,101,108]⟩) || decide (s=⟨#[105,115]⟩) || decide (s=⟨#[116,104,105,115]⟩))):=Lib.hid (by unfold keyB;rw [Bool.eq_iff_iff];simp [or_assoc]);generalize decide (s=⟨#[116,121,112,101]⟩)=d1 at *
 generalize decide (s=⟨#[114,101,108]⟩)=d2 at *
 generalize decide (s=⟨#[105,115]⟩)=d3 at *
 generalize decide (s=⟨#[116,104,105,115]⟩)=d4 at *
 go_enter Tryz.func186,Tryz.ntmps186
 cases d1 <;> cases d2 <;> cases d3 <;> cases d4;all_goals go_wp2
 all_goals go_ret
 all_goals (refine ⟨?_,rfl⟩;rw [HK.out];rfl)
def Fine (l:List Tk):Prop:=l.length≤1000000∧∃init p,l=init ++ [(3,⟨#[]⟩,p)]∧∀t ∈ init,t.1=2∨(t.1=1∧∀c:UInt8,za9 c.toNat=true→t.2.1≠sg c)
theorem Fine.cons {l:List Tk} (h:Fine l):∃t r,l=t::r:=by
 obtain ⟨_,init,p,rfl,_⟩:=h;cases init with
 | nil=>exact ⟨_,_,rfl⟩
 | cons a r=>exact ⟨_,_,rfl⟩
theorem Fine.tail {l:List Tk} (h:Fine l) (h3:(hdT l).1≠3):Fine l.tail:=by
 obtain ⟨hl,init,p,rfl,hi⟩:=h;cases init with
 | nil=>exact absurd rfl h3
 | cons a r=>exact ⟨by rw [List.length_tail];omega,r,p,rfl,fun t ht=>hi t (List.mem_cons_of_mem _ ht)⟩
theorem Fine.hd {l:List Tk} (h:Fine l):(hdT l).1=2∨((hdT l).1=1∧∀c:UInt8,za9 c.toNat=true→(hdT l).2.1≠sg c)∨((hdT l).1=3∧(hdT l).2.1=⟨#[]⟩):=by
 obtain ⟨_,init,p,rfl,hi⟩:=h;cases init with
 | nil=>exact .inr (.inr ⟨rfl,rfl⟩)
 | cons a r=>
  rcases hi a (List.mem_cons_self) with h | h
  · exact .inl h
  · exact .inr (.inl h)
def Ask (s:ByteArray):Prop:=0<s.size∧(keyB s=true∨∃c:UInt8,za9 c.toNat=true∧s=sg c)
theorem Fine.isT {l:List Tk} (h:Fine l) {s:ByteArray} (hs:Ask s):isT s l=decide ((hdT l).2.1=s):=by
 unfold Go.Proofs.YtiepddmagfmllaaGreat.isT;by_cases e:(hdT l).2.1=s
 · rw [decide_eq_true e];refine decide_eq_true ⟨e,?_⟩;rcases hs.2 with hk | ⟨c,hc,rfl⟩
   · exact .inr hk
   · rcases h.hd with h2 | ⟨_,h1⟩ | ⟨_,h3⟩
     · exact .inl h2
     · exact absurd e (h1 c hc)
     · rw [h3] at e;have:=congrArg ByteArray.size e;rw [show (sg c).size=1 from rfl,show (⟨#[]⟩:ByteArray).size=0 from rfl] at this;omega
 · rw [decide_eq_false e];exact decide_eq_false fun h=>e h.1
theorem Fine.next {l:List Tk} (h:Fine l) {s:ByteArray} (hs:0<s.size) (e:(hdT l).2.1=s):Fine l.tail:=by
 refine h.tail fun h3=>?_;rcases h.hd with h2 | ⟨h1,_⟩ | ⟨_,h0⟩
 · omega
 · omega
 · rw [h0] at e;subst e;exact absurd hs (by decide)
structure RdAt (w:World) (g:Nat) (l:List Tk) (A:Option Addr) (c:Nat):Prop where
 cells:w.heap[g]? = some (.cells #[.slice A l.length c] 185 (0,0))
 toks:Rd w g 3 A l.length c (tcells l)
 fine:Fine l
def Rdr (w:World) (g:Nat) (l:List Tk):Prop:=∃A c,RdAt w g l A c
section
variable {w w':World} {g:Nat} {l:List Tk} {A:Option Addr} {c:Nat}
theorem RdAt.size (h:RdAt w g l A c):g<w.heap.size:=(Array.getElem?_eq_some_iff.1 h.cells).1
theorem Rdr.size (h:Rdr w g l):g<w.heap.size:=by obtain ⟨A,c,h⟩:=h;exact h.size
theorem Rdr.fine (h:Rdr w g l):Fine l:=by obtain ⟨A,c,h⟩:=h;exact h.fine
theorem RdAt.c0 (h:RdAt w g l A c):w.cell? ⟨g,0,none⟩=some (.slice A l.length c):=by rw [cell_of_row _ _ _ _ _ _ h.cells];rfl
theorem RdAt.fz (h:RdAt w g l A c):w.frozen? ⟨g,0,none⟩=false:=by simp [World.frozen?,h.cells]
theorem RdAt.first (h:RdAt w g l A c):∃b o,A=some ⟨b,o,none⟩∧0<l.length∧w.cell? ⟨b,o,none⟩=some (.int .i64 (hdT l).1)∧w.cell? ⟨b,o + 1,none⟩=some (.string (hdT l).2.1)∧w.cell? ⟨b,o + 2,none⟩=some (.int .i64 (hdT l).2.2):=by
 obtain ⟨t,r,rfl⟩:=h.fine.cons;obtain ⟨b,o,e,_,hc⟩:=h.toks.at_ (by simp);exact ⟨b,o,e,by simp,hc 0 _ rfl,hc 1 _ rfl,hc 2 _ rfl⟩
theorem Rdr.keep (h:Rdr w g l) (hb:∀k,k≤g→w'.heap[k]? = w.heap[k]?):Rdr w' g l:=by
 obtain ⟨A,c,h⟩:=h;refine ⟨A,c,(hb g (Nat.le_refl _)).trans h.cells,h.toks.keep fun p hp=>?_,h.fine⟩;have:=hb p.block (by omega);unfold World.cell?;rw [this]
theorem Rdr.below (h:Rdr w g l) (hb:Below w.heap.size w w'):Rdr w' g l:=h.keep fun k hk=>hb.block k (by have:=h.size;omega)
theorem Rdr.drew (h:Rdr w g l):Rdr w.drew g l:=h.keep fun _ _=>rfl
theorem RdAt.step (h:RdAt w g l A c) (hf:Fine l.tail):Rdr (w.setCell ⟨g,0,none⟩ (.slice (if c=1 then A else A.map (·.add 3)) (l.length-1) (c-1))) g l.tail∧Kp g w.heap.size w (w.setCell ⟨g,0,none⟩ (.slice (if c=1 then A else A.map (·.add 3)) (l.length-1) (c-1))):=by
 have hl:1≤l.length:=by obtain ⟨_,_,_,h1,_⟩:=h.first;exact h1
 have ht:=h.toks.cut hl;have e:(tcells l).drop (1 * 3)=tcells l.tail:=by
  obtain ⟨t,r,rfl⟩:=h.fine.cons;rfl
 rw [e] at ht;have hll:l.tail.length=l.length-1:=List.length_tail;refine ⟨⟨if c=1 then A else A.map (·.add 3),c-1,?_,?_,hf⟩,?_⟩
 · rw [hll];simp [World.setCell,Array.getElem?_modify,h.cells]
 · rw [hll];refine ht.keep fun p hp=>?_;have:=Below.heap_setCell w ⟨g,0,none⟩ (.slice (if c=1 then A else A.map (·.add 3)) (l.length-1) (c-1)) p.block (by show p.block≠g;omega);unfold World.cell?;rw [this]
 · exact ⟨rfl,rfl,rfl,by simp [World.setCell],fun k _ hn=>Below.heap_setCell _ _ _ _ hn⟩
end
def left (w:World) (g:Nat):Nat:=match w.cell? ⟨g,0,none⟩ with
 | some (.slice _ n _)=>n
 | _=>0
theorem Rdr.left {w:World} {g:Nat} {l:List Tk} (h:Rdr w g l):left w g=l.length:=by
 obtain ⟨A,c,h⟩:=h;unfold Go.Proofs.YtiepddmagfmllaaGreat.left;rw [h.c0]
theorem Rdr.few {w:World} {g:Nat} {l:List Tk} (h:Rdr w g l):l.length≤1000000:=h.fine.1
abbrev zgr (c p:Nat):Ending:=.panicked [{ v:=.iface 181 (.agg #[.int .i64 c,.int .i64 p]),recovered:=false }]
def Post {α:Type} (V:World→Value→α→Prop) (B:Nat) (w:World) (g:Nat) (r:Rs α) (e:Ending) (w':World):Prop :=
 Kp g B w w'∧match r with
  | .error c=>e=zgr c.1 c.2
  | .ok a=>∃v,e = .returned v∧V w' v a.1∧Rdr w' g a.2
section
variable {α β:Type} {V:World→Value→α→Prop} {U:World→Value→β→Prop} {B B':Nat} {w w1 w':World} {g:Nat} {r:Rs α} {e:Ending}
theorem Post.ok {a:α} {l:List Tk} {v:Value} (hk:Kp g B w w') (hv:V w' v a) (hr:Rdr w' g l):Post V B w g (.ok (a,l)) (.returned v) w':=⟨hk,v,rfl,hv,hr⟩
theorem Post.bad (hk:Kp g B w w') (c p:Nat):Post V B w g (.error (c,p)) (zgr c p) w':=⟨hk,rfl⟩
theorem Post.from_ (h:Post V B w1 g r e w') (hk:Kp g B' w w1) (hB:B'≤B):Post V B' w g r e w':=⟨hk.trans (h.1.more hB),h.2⟩
theorem Post.cases_ (h:Post V B w g r e w'):Kp g B w w'∧((∃c p,r = .error (c,p)∧e=zgr c p)∨∃a l v,r = .ok (a,l)∧e = .returned v∧V w' v a∧Rdr w' g l):=by
 obtain ⟨hk,h⟩:=h;refine ⟨hk,?_⟩;cases r with
 | error c=>exact .inl ⟨c.1,c.2,rfl,h⟩
 | ok a=>obtain ⟨v,h1,h2,h3⟩:=h;exact .inr ⟨a.1,a.2,v,rfl,h1,h2,h3⟩
end
def zk8 (_:World) (v:Value) (_:Unit):Prop:=v = .tuple #[]
def VStr (_:World) (v:Value) (s:ByteArray):Prop:=v = .string s
section
variable {w:World} {g:Nat} {l:List Tk}
theorem zar {w:World} {a:Addr} {v:Value} (h:w.cell? a=some v) (o:Obj):(w.alloc o).cell? a=some v:=by
 rw [World.cell?_alloc_lt w o a (World.block_lt_of_cell? w _ h)];exact h
theorem zb3 (h:Rdr w g l):Calls Tryz.prog 121 #[.pointer (some ⟨g,0,none⟩)] w fun e w'=>e = .returned (.agg #[.int .i64 (hdT l).1,.string (hdT l).2.1,.int .i64 (hdT l).2.2])∧Below w.heap.size w w':=by
 obtain ⟨A,c,h⟩:=h;have c0:=zar h.c0;obtain ⟨b,o,rfl,hl,x0,x1,x2⟩:=h.first;replace x0:=zar x0;replace x1:=zar x1;replace x2:=zar x2;clear h;go_enter Tryz.func121,Tryz.ntmps121
 go_wp2
 refine bodyPost_ret (v:=_) (by simp [results,Tryz.results121,go_sem];try rfl) rfl ?_;exact ⟨rfl,(Below.refl _ w).alloc (Nat.le_refl _) _⟩
theorem pass_any (h:Rdr w g l) (hf:Fine l.tail):Calls Tryz.prog 174 #[.pointer (some ⟨g,0,none⟩)] w fun e w'=>e = .returned (.tuple #[])∧Rdr w' g l.tail∧Kp g w.heap.size w w':=by
 obtain ⟨A,c,h⟩:=h;have c0:=h.c0;have fz:=h.fz;obtain ⟨b,o,rfl,hl,_⟩:=h.first;have hs:=h.step hf;have hc:=h.toks.cap;have hm:=h.toks.capm;unfold maxLen at hm;clear h;by_cases h1:c=1
 · subst h1;simp only [if_true,show l.length-1=0 by omega,Nat.sub_self] at hs;have HS:=Lib.hid hs;clear hs;go_enter Tryz.func174,Tryz.ntmps174
   go_wp2
   go_returns
   exact ⟨rfl,HS.out⟩
 · simp only [if_neg h1,Option.map_some,Addr.add_lit] at hs;have HS:=Lib.hid hs;clear hs;go_enter Tryz.func174,Tryz.ntmps174
   go_wp2
   go_returns
   exact ⟨rfl,HS.out⟩
theorem tok_f0 (x y z:Value) (W:World):(Instr.field 222 (.agg #[x,y,z]) 0).run Tryz.prog W = .ok x W:=by kernel_rfl
theorem zin (x y z:Value) (W:World):(Instr.field 222 (.agg #[x,y,z]) 1).run Tryz.prog W = .ok y W:=by kernel_rfl
theorem tok_f2 (x y z:Value) (W:World):(Instr.field 222 (.agg #[x,y,z]) 2).run Tryz.prog W = .ok z W:=by kernel_rfl
theorem may_yes (h:Rdr w g l) {s:ByteArray} (hs:0<s.size) (e:(hdT l).2.1=s):Calls Tryz.prog 148 #[.pointer (some ⟨g,0,none⟩),.string s] w fun e w'=>e = .returned (.bool true)∧Rdr w' g l.tail∧Kp g w.heap.size w w':=by
 have hf:=h.fine.next hs e;have e1:((hdT l).2.1.toList == s.toList)=true:=by rw [zaE];exact decide_eq_true e
 generalize hx:(hdT l).2.1=x at *
 have f1:=zin;go_enter Tryz.func148,Tryz.ntmps148
 go_wp2_with (first
  | ((with_reducible refine (zb3 h).mono ?_);rintro e w1 ⟨rfl,hb⟩;rw [hx])
  | ((with_reducible refine (pass_any (h.below hb) hf).mono ?_);rintro e w2 ⟨rfl,h2,hk⟩))
 go_returns
 exact ⟨rfl,h2,(Kp.of_below hb g).trans (hk.more hb.size)⟩
theorem may_no (h:Rdr w g l) {s:ByteArray} (e:¬(hdT l).2.1=s):Calls Tryz.prog 148 #[.pointer (some ⟨g,0,none⟩),.string s] w fun e w'=>e = .returned (.bool false)∧Below w.heap.size w w':=by
 have e1:((hdT l).2.1.toList == s.toList)=false:=by rw [zaE];exact decide_eq_false e
 generalize hx:(hdT l).2.1=x at *
 have f1:=zin;go_enter Tryz.func148,Tryz.ntmps148
 go_wp2_with ((with_reducible refine (zb3 h).mono ?_);rintro e w1 ⟨rfl,hb⟩;rw [hx])
 go_returns
 exact ⟨rfl,hb⟩
theorem stop_any (h:Rdr w g l):Calls Tryz.prog 172 #[.pointer (some ⟨g,0,none⟩)] w fun e w'=>e=zgr 30 (hdT l).2.2∧Below w.heap.size w w':=by
 have f2:=tok_f2;go_enter Tryz.func172,Tryz.ntmps172
 go_wp2_with ((with_reducible refine (zb3 h).mono ?_);rintro e w1 ⟨rfl,hb⟩)
 exact ⟨rfl,rfl,hb⟩
end
section
variable {w:World} {g:Nat} {l:List Tk}
theorem need_yes {l:List Tk} (hf:Fine l) {s:ByteArray} (hs:Ask s) (h:(hdT l).2.1=s):zaG s l = .ok ((),l.tail):=by unfold zaG;rw [hf.isT hs,decide_eq_true h];rfl
theorem need_no {l:List Tk} (hf:Fine l) {s:ByteArray} (hs:Ask s) (h:¬(hdT l).2.1=s):zaG s l = .error (30,(hdT l).2.2):=by unfold zaG;rw [hf.isT hs,decide_eq_false h];rfl
theorem must_any (h:Rdr w g l) {s:ByteArray} (hs:Ask s):Calls Tryz.prog 146 #[.pointer (some ⟨g,0,none⟩),.string s] w (Post zk8 w.heap.size w g (zaG s l)):=by
 by_cases e:(hdT l).2.1=s
 · rw [need_yes h.fine hs e];have k:=may_yes h hs.1 e;clear e;go_enter Tryz.func146,Tryz.ntmps146
   go_wp2_with ((with_reducible refine k.mono ?_);rintro e w1 ⟨rfl,h1,hk⟩)
   go_returns
   exact Post.ok hk rfl h1
 · rw [need_no h.fine hs e];have k:=may_no h e;clear e;go_enter Tryz.func146,Tryz.ntmps146
   go_wp2_with (first
    | ((with_reducible refine k.mono ?_);rintro e w1 ⟨rfl,hb⟩)
    | ((with_reducible refine (stop_any (h.below hb)).mono ?_);rintro e w2 ⟨rfl,hb2⟩))
   refine ⟨rfl,?_⟩;exact Post.bad ((Kp.of_below hb g).trans (Kp.of_below (hb2.mono hb.size) g)) _ _
theorem atName_any (h:Rdr w g l):Calls Tryz.prog 173 #[.pointer (some ⟨g,0,none⟩)] w fun e w'=>e = .returned (.bool (decide ((hdT l).1=1) && !keyB (hdT l).2.1))∧Below w.heap.size w w':=by
 have f0:=tok_f0;have f1:=zin;have kk:∀W,_:=fun W=>key_any (hdT l).2.1 W;have kf:∀W,Rdr W g l→_:=fun W H=>zb3 (w:=W) H;by_cases h1:(hdT l).1=1
 · have d1:((((hdT l).1:Nat):Int) == 1)=true:=by rw [beq_iff_eq];omega
   rw [decide_eq_true h1,Bool.true_and];generalize (hdT l).2.1=x at *
   generalize (hdT l).2.2=y at *
   generalize (hdT l).1=z at *
   generalize keyB x=b at *
   clear h1;cases b;all_goals (
    go_enter Tryz.func173,Tryz.ntmps173
    go_wp2_with (first
     | ((with_reducible refine (kf _ h).mono ?_);rintro e w1 ⟨rfl,hb⟩)
     | ((with_reducible refine (kk _).mono ?_);rintro e w2 ⟨rfl,rfl⟩))
    go_returns
    exact ⟨rfl,hb.alloc hb.size _⟩)
 · have d1:((((hdT l).1:Nat):Int) == 1)=false:=by rw [beq_eq_false_iff_ne];omega
   rw [decide_eq_false h1,Bool.false_and];generalize (hdT l).2.1=x at *
   generalize (hdT l).2.2=y at *
   generalize (hdT l).1=z at *
   clear h1 kk;go_enter Tryz.func173,Tryz.ntmps173
   go_wp2_with ((with_reducible refine (kf _ h).mono ?_);rintro e w1 ⟨rfl,hb⟩)
   go_returns
   exact ⟨rfl,hb.alloc hb.size _⟩
theorem name_yes {l:List Tk} (h:(decide ((hdT l).1=1) && !keyB (hdT l).2.1)=true):zaR l = .ok ((hdT l).2.1,l.tail):=by
 unfold zaR;refine if_pos ?_;simpa using h
theorem zl3 {l:List Tk} (h:(decide ((hdT l).1=1) && !keyB (hdT l).2.1)=false):zaR l = .error (30,(hdT l).2.2):=by
 unfold zaR;refine if_neg ?_;intro ⟨h1,h2⟩;rw [decide_eq_true h1,h2] at h;cases h
theorem zhW {l:List Tk} (hf:Fine l) (h:(decide ((hdT l).1=1) && !keyB (hdT l).2.1)=true):Fine l.tail:=by
 refine hf.tail ?_;simp only [Bool.and_eq_true,decide_eq_true_eq] at h;omega
theorem rname_any (h:Rdr w g l):Calls Tryz.prog 147 #[.pointer (some ⟨g,0,none⟩)] w (Post VStr w.heap.size w g (zaR l)):=by
 have f1:=zin;have ka:=atName_any h;cases hb:(decide ((hdT l).1=1) && !keyB (hdT l).2.1) with
 | false =>
  rw [zl3 hb];rw [hb] at ka;go_enter Tryz.func147,Tryz.ntmps147
  go_wp2_with (first
   | ((with_reducible refine ka.mono ?_);rintro e w1 ⟨rfl,hb⟩)
   | ((with_reducible refine (stop_any (h.below hb)).mono ?_);rintro e w2 ⟨rfl,hb2⟩))
  refine ⟨rfl,?_⟩;exact Post.bad ((Kp.of_below hb g).trans (Kp.of_below (hb2.mono hb.size) g)) _ _
 | true =>
  rw [name_yes hb];rw [hb] at ka;have hf:=zhW h.fine hb;clear hb;have kf:∀W,Rdr W g l→_:=fun W H=>zb3 (w:=W) H;have kp:∀W,Rdr W g l→_:=fun W H=>pass_any (w:=W) H hf;have HV:∀w',Rdr w' g l.tail→Kp g w.heap.size w w'→Hid (Post VStr w.heap.size w g (.ok ((hdT l).2.1,l.tail)) (.returned (.string (hdT l).2.1)) w'):=fun w' h1 h2=>Lib.hid (Post.ok h2 rfl h1);generalize Post VStr w.heap.size w g (.ok ((hdT l).2.1,l.tail))=R at *
  generalize (hdT l).2.1=x at *
  go_enter Tryz.func147,Tryz.ntmps147
  go_wp2_with (first
   | ((with_reducible refine ka.mono ?_);rintro e w1 ⟨rfl,hb⟩)
   | ((with_reducible refine (kf _ (h.below hb)).mono ?_);rintro e w2 ⟨rfl,hb2⟩)
   | ((with_reducible refine (kp _ ((h.below hb).below hb2)).mono ?_);rintro e w3 ⟨rfl,h3,hk⟩))
  exact (HV _ h3 ((Kp.of_below (hb.trans (hb2.mono hb.size)) g).trans (hk.more (Nat.le_trans hb.size hb2.size)))).out
def zfd (x:ByteArray):Nat:=if x=⟨#[124]⟩ then 4 else if x=⟨#[38]⟩ then 5 else if x=⟨#[45]⟩ then 6 else 0
theorem joins_any (x:ByteArray) (w:World):Calls Tryz.prog 197 #[.string x] w fun e w'=>e = .returned (.tuple #[.int .i64 (zfd x),.bool (!decide (zfd x=0))])∧w'=w:=by
 have e1:=zaE x ⟨#[124]⟩;have e2:=zaE x ⟨#[38]⟩;have e3:=zaE x ⟨#[45]⟩;rw [show (⟨#[124]⟩:ByteArray).toList=[124] by decide +kernel] at e1;rw [show (⟨#[38]⟩:ByteArray).toList=[38] by decide +kernel] at e2;rw [show (⟨#[45]⟩:ByteArray).toList=[45] by decide +kernel] at e3;have HJ:Hid (zfd x=if decide (x=⟨#[124]⟩)=true then 4 else if decide (x=⟨#[38]⟩)=true then 5 else if decide (x=⟨#[45]⟩)=true then 6 else 0):=Lib.hid (by unfold zfd;simp only [decide_eq_true_eq]);generalize decide (x=⟨#[124]⟩)=d1 at *
 generalize decide (x=⟨#[38]⟩)=d2 at *
 generalize decide (x=⟨#[45]⟩)=d3 at *
 generalize zfd x=J at *
 go_enter Tryz.func197,Tryz.ntmps197
 cases d1 <;> cases d2 <;> cases d3;all_goals go_wp2
 all_goals go_returns
 all_goals (refine ⟨?_,rfl⟩;rw [HJ.out];rfl)
theorem zgZ {l:List Tk} (hf:Fine l):zfd (hdT l).2.1=opT l:=by
 have a1:Ask (sg 124):=⟨by decide,.inr ⟨124,by decide,rfl⟩⟩;have a2:Ask (sg 38):=⟨by decide,.inr ⟨38,by decide,rfl⟩⟩;have a3:Ask (sg 45):=⟨by decide,.inr ⟨45,by decide,rfl⟩⟩;unfold opT zfd;rw [hf.isT a1,hf.isT a2,hf.isT a3];show _=if decide ((hdT l).2.1=⟨#[124]⟩)=true then 4 else if decide ((hdT l).2.1=⟨#[38]⟩)=true then 5 else if decide ((hdT l).2.1=⟨#[45]⟩)=true then 6 else 0;by_cases e1:(hdT l).2.1=⟨#[124]⟩
 · rw [if_pos e1,if_pos (decide_eq_true e1)]
 · rw [if_neg e1,if_neg (fun h=>e1 (of_decide_eq_true h))];by_cases e2:(hdT l).2.1=⟨#[38]⟩
   · rw [if_pos e2,if_pos (decide_eq_true e2)]
   · rw [if_neg e2,if_neg (fun h=>e2 (of_decide_eq_true h))];by_cases e3:(hdT l).2.1=⟨#[45]⟩
     · rw [if_pos e3,if_pos (decide_eq_true e3)]
     · rw [if_neg e3,if_neg (fun h=>e3 (of_decide_eq_true h))]
end
end Go.Proofs.YtiepddmagfmllaaGreat
namespace Go.Proofs.YtiepddmagfmllaaGreat
open Go.RowKit
open Go.RowKit
def ziY (o:OpP):List Value:=[.int .i64 o.1,.string o.2.1,.string o.2.2]
def ocells (l:List OpP):List Value:=l.flatMap ziY
def zkT (s:zb7):List Value:=[.string s.1,.string s.2]
def zbR (l:List zb7):List Value:=l.flatMap zkT
theorem zbz (a b:List OpP):ocells (a ++ b)=ocells a ++ ocells b:=List.flatMap_append
theorem zeX (a b:List zb7):zbR (a ++ b)=zbR a ++ zbR b:=List.flatMap_append
theorem zcO (l:List OpP):∀u ∈ ocells l,u.oneCell'=true:=by
 intro u hu;obtain ⟨t,_,ht⟩:=List.mem_flatMap.1 hu;simp only [ziY,List.mem_cons,List.not_mem_nil,or_false] at ht;rcases ht with rfl | rfl | rfl <;> rfl
theorem zdy (t:OpP):∀u ∈ ziY t,u.oneCell'=true:=by
 intro u ht;simp only [ziY,List.mem_cons,List.not_mem_nil,or_false] at ht;rcases ht with rfl | rfl | rfl <;> rfl
theorem zdB (t:zb7):∀u ∈ zkT t,u.oneCell'=true:=by
 intro u ht;simp only [zkT,List.mem_cons,List.not_mem_nil,or_false] at ht;rcases ht with rfl | rfl <;> rfl
theorem zbo (w:World) (a b:Value) (t:TypeId):∀j u,[a,b][j]? = some u→(w.alloc (.cells #[a,b] t)).cell? ((⟨w.heap.size,0,none⟩:Addr).add j)=some u:=by
 intro j u hj;rw [Addr.add_lit,cell_of_row _ _ _ _ _ _ (heap_alloc_new w _),Nat.zero_add];simpa using hj
theorem za7 {g B base:Nat} {w0 w w':World} {e:TypeId} {size n:Nat} {v:Value} {xs:List Value} {o:Obj} (hk:Kp g B w0 w) (hg:(w.alloc o).grownBy w' v.ownBlock) (hown:w.ownsRow base e size v n xs) (hB:B≤w.heap.size) (hle:B≤base):Kp g B w0 w' :=
 hk.trans ⟨hg.os,hg.tape,hg.output,by have:=hg.size;simp at this;omega,fun k hk' hn=>by
  rw [hg.block k (by simp;omega) (fun e=>by have:=(hown.lt k e.symm).1;omega),Below.heap_alloc _ _ _ (by omega)]⟩
theorem zdv {g B base:Nat} {w0 w w':World} {e:TypeId} {size n:Nat} {v:Value} {xs:List Value} (hk:Kp g B w0 w) (hg:w.grownBy w' v.ownBlock) (hown:w.ownsRow base e size v n xs) (hB:B≤w.heap.size) (hle:B≤base):Kp g B w0 w' :=
 hk.trans ⟨hg.os,hg.tape,hg.output,hg.size,fun k hk' hn=>hg.block k (by omega) (fun e=>by have:=(hown.lt k e.symm).1;omega)⟩
theorem zkK {g base:Nat} {l:List Tk} {w w':World} {e:TypeId} {size n:Nat} {v:Value} {xs:List Value} (h:Rdr w g l) (hg:w.grownBy w' v.ownBlock) (hown:w.ownsRow base e size v n xs) (hle:g<base):Rdr w' g l :=
 h.keep fun k hk'=>hg.block k (by have:=h.size;omega) (fun e=>by have:=(hown.lt k e.symm).1;omega)
theorem zev {g base:Nat} {l:List Tk} {w w':World} {e:TypeId} {size n:Nat} {v:Value} {xs:List Value} {o:Obj} (h:Rdr w g l) (hg:(w.alloc o).grownBy w' v.ownBlock) (hown:w.ownsRow base e size v n xs) (hle:g<base):Rdr w' g l :=
 h.keep fun k hk'=>by
  have:=h.size;rw [hg.block k (by simp;omega) (fun e=>by have:=(hown.lt k e.symm).1;omega),Below.heap_alloc _ _ _ (by omega)]
def VOps (B:Nat) (w:World) (v:Value) (o:List OpP):Prop:=w.ownsRow B 132 3 v o.length (ocells o)
def VSubs (B:Nat) (w:World) (v:Value) (s:List zb7):Prop:=w.ownsRow B 104 2 v s.length (zbR s)
def VSub (_:World) (v:Value) (s:zb7):Prop:=v = .agg #[.string s.1,.string s.2]
theorem info_op:(Tryz.prog.info? 132).map (fun i=>(i.zero,i.size,i.bytes))=some (some (.agg #[.int .i64 0,.string .empty,.string .empty]),3,40):=by kernel_rfl
theorem info_sub:(Tryz.prog.info? 104).map (fun i=>(i.zero,i.size,i.bytes))=some (some (.agg #[.string .empty,.string .empty]),2,32):=by kernel_rfl
section
variable {w w':World} {g B:Nat}
theorem zaM {e:TypeId} {size n:Nat} {v:Value} {xs:List Value} (h:w.ownsRow B e size v n xs) (hk:Kp g w.heap.size w w') (hg:g<B):w'.ownsRow B e size v n xs :=
 zaI h fun k hk'=>hk.block k (h.lt k hk').2 (by have:=(h.lt k hk').1;omega)
end
def Bk (w:World) (b:Nat) (cs:Array Value) (t:TypeId):Prop:=w.heap[b]? = some (.cells cs t (0,0))
section
variable {l:List Tk} {w w':World} {b g B:Nat} {cs:Array Value} {t:TypeId}
theorem Bk.new (w:World) (cs:Array Value) (t:TypeId):Bk (w.alloc (.cells cs t)) w.heap.size cs t:=heap_alloc_new w _
theorem Bk.lt (h:Bk w b cs t):b<w.heap.size:=(Array.getElem?_eq_some_iff.1 h).1
theorem Bk.kp (h:Bk w b cs t) (hk:Kp g w.heap.size w w') (hg:b≠g):Bk w' b cs t:=(hk.block b h.lt hg).trans h
theorem Bk.below (h:Bk w b cs t) (hk:Below w.heap.size w w'):Bk w' b cs t:=(hk.block b h.lt).trans h
theorem Bk.alloc (h:Bk w b cs t) (o:Obj):Bk (w.alloc o) b cs t:=(heap_alloc_old w _ h.lt).trans h
theorem Bk.cell (h:Bk w b cs t) (i:Nat):w.cell? ⟨b,i,none⟩=cs[i]?:=by rw [cell_of_row _ _ _ _ _ _ h]
theorem Bk.c2 {x y:Value} (h:Bk w b #[x,y] t):w.cell? ⟨b,0,none⟩=some x∧w.cell? ⟨b,1,none⟩=some y:=⟨h.cell 0,h.cell 1⟩
theorem Bk.fz (h:Bk w b cs t) (i:Nat):w.frozen? ⟨b,i,none⟩=false:=by simp [World.frozen?,show w.heap[b]? = some (.cells cs t (0,0)) from h]
theorem Kp.alloc (h:Kp g B w w') (hB:B≤w'.heap.size) (o:Obj):Kp g B w (w'.alloc o):=h.trans (Kp.of_below ((Below.refl _ w').alloc hB o) g)
theorem Kp.set (h:Kp g B w w') {a:Addr} (ha:B≤a.block) (v:Value):Kp g B w (w'.setCell a v) :=
 h.trans ⟨rfl,rfl,rfl,by simp [World.setCell],fun k hk _=>Below.heap_setCell _ _ _ _ (by omega)⟩
theorem Rdr.set (h:Rdr w g l) {a:Addr} (ha:g<a.block) (v:Value):Rdr (w.setCell a v) g l:=h.keep fun k hk=>Below.heap_setCell _ _ _ _ (by omega)
theorem Rdr.alloc {l:List Tk} (h:Rdr w g l) (o:Obj):Rdr (w.alloc o) g l:=h.below ((Below.refl _ w).alloc (Nat.le_refl _) o)
end
section
variable {w:World} {g:Nat} {l:List Tk}
theorem zcH (c:UInt8) (h:za9 c.toNat=true):Ask (sg c):=⟨zam c,.inr ⟨c,h,rfl⟩⟩
theorem zgM {s:ByteArray} (h:keyB s=true) (h0:0<s.size):Ask s:=⟨h0,.inl h⟩
theorem may_any (h:Rdr w g l) {s:ByteArray} (hs:Ask s):Calls Tryz.prog 148 #[.pointer (some ⟨g,0,none⟩),.string s] w fun e w'=>e = .returned (.bool (isT s l))∧Rdr w' g (if isT s l=true then l.tail else l)∧Kp g w.heap.size w w':=by
 rw [h.fine.isT hs];by_cases e:(hdT l).2.1=s
 · rw [decide_eq_true e,if_pos rfl];exact may_yes h hs.1 e
 · rw [decide_eq_false e,if_neg (by decide)];exact (may_no h e).mono fun _ _ ⟨h1,h2⟩=>⟨h1,h.below h2,Kp.of_below h2 g⟩
def To (X R:Ending→World→Prop):Prop:=∀e w',X e w'→R e w'
section
variable {α β:Type} {V:World→Value→β→Prop} {B:Nat} {w':World} {r:Rs α} {q:Rs β} {k:α→List Tk→Rs β} {R:Ending→World→Prop}
theorem To.bind (h:To (Post V B w g (zaH r k)) R) {a:α} {l:List Tk} (hr:r = .ok (a,l)):To (Post V B w g (k a l)) R:=fun e w' q=>h e w' (by rw [hr];exact q)
theorem To.bad (h:To (Post V B w g (zaH r k)) R) {c p:Nat} (hr:r = .error (c,p)) (hk:Kp g B w w'):R (zgr c p) w':=h _ _ (by rw [hr];exact Post.bad hk c p)
theorem To.fail (h:To (Post V B w g q) R) {c p:Nat} (hr:q = .error (c,p)) (hk:Kp g B w w'):R (zgr c p) w':=h _ _ (by rw [hr];exact Post.bad hk c p)
theorem To.ret (h:To (Post V B w g q) R) {a:β} {l:List Tk} {v:Value} (hr:q = .ok (a,l)) (hk:Kp g B w w') (hv:V w' v a) (hd:Rdr w' g l):R (.returned v) w':=h _ _ (by rw [hr];exact Post.ok hk hv hd)
end
theorem sub_any (h:Rdr w g l):Calls Tryz.prog 187 #[.pointer (some ⟨g,0,none⟩)] w
 (Post VSub w.heap.size w g (zaH (zaR l) fun n r=>zaH (if isT (sg 35) r=true then zaR r.tail else .ok (⟨#[]⟩,r)) fun m r=>.ok ((n,m),r))):=by
 suffices H:∀R,To (Post VSub w.heap.size w g (zaH (zaR l) fun n r=>zaH (if isT (sg 35) r=true then zaR r.tail else .ok (⟨#[]⟩,r)) fun m r=>.ok ((n,m),r))) R→Calls Tryz.prog 187 #[.pointer (some ⟨g,0,none⟩)] w R from H _ fun _ _ h=>h
 intro R HP;have hg:=h.size;have h0:=h.alloc (.cells #[.string ⟨#[]⟩,.string ⟨#[]⟩] 104);have b0:=Bk.new w #[.string ⟨#[]⟩,.string ⟨#[]⟩] 104;have k0:Kp g w.heap.size w _:=(Kp.refl g _ w).alloc (Nat.le_refl _) (.cells #[.string ⟨#[]⟩,.string ⟨#[]⟩] 104);have z0:w.heap.size≤_:=k0.size;go_enter Tryz.func187,Tryz.ntmps187
 go_wp2_with fail
 refine (rname_any h0).mono ?_;intro e w1 hp;obtain ⟨hk,hc⟩:=hp.cases_;clear hp h0 h;have k1:=k0.trans (hk.more z0);have c0:=b0.kp hk (by omega);have z1:=k1.size;have hn1:¬w1.heap.size=w.heap.size:=by have:=c0.lt;omega
 have hn2:¬w.heap.size=w1.heap.size:=by omega
 clear k0 b0 hk z0;rcases hc with ⟨c,p,hr,rfl⟩ | ⟨n,l1,v,hr,rfl,rfl,h1⟩
 · go_wp2_with fail
   exact ⟨rfl,HP.bad hr k1⟩
 replace HP:=HP.bind hr;clear hr;have h1':=h1.alloc (.cells #[.string n,.string ⟨#[]⟩] 104);have ka:=zcH 35 (by decide);cases hi:isT (sg 35) l1 with
 | false =>
  have km:=may_any h1' ka;rw [hi,if_neg (by decide)] at km;rw [hi,if_neg (by decide)] at HP;go_wp2_with fail
  refine km.mono ?_;rintro e w2 ⟨rfl,h2,hk⟩;have k2:=(k1.alloc z1 _).trans (hk.more (size_alloc z1));have d1:=(Bk.new w1 #[.string n,.string ⟨#[]⟩] 104).kp hk (by have:=h1.size;omega);have d0:=(c0.alloc (.cells #[.string n,.string ⟨#[]⟩] 104)).kp hk (by omega);clear hk km h1 h1' c0;obtain ⟨x0,x1⟩:=d1.c2;obtain ⟨y0,y1⟩:=d0.c2;have fy:=d0.fz;go_wp2_with fail
  refine bodyPost_ret (v:=.agg #[.string n,.string ⟨#[]⟩]) (by simp [results,Tryz.results187,go_sem,y0,y1];try rfl) rfl ?_;refine HP.ret rfl ?_ rfl ?_
  · refine Kp.set (Kp.set k2 ?_ _) ?_ _ <;> exact Nat.le_refl _
  · refine Rdr.set (Rdr.set h2 ?_ _) ?_ _ <;> exact hg
 | true =>
  have km:=may_any h1' ka;rw [hi,if_pos rfl] at km;rw [hi,if_pos rfl] at HP;go_wp2_with fail
  refine km.mono ?_;rintro e w2 ⟨rfl,h2,hk⟩;have k2:=(k1.alloc z1 _).trans (hk.more (size_alloc z1));have d1:=(Bk.new w1 #[.string n,.string ⟨#[]⟩] 104).kp hk (by have:=h1.size;omega);have d0:=(c0.alloc (.cells #[.string n,.string ⟨#[]⟩] 104)).kp hk (by omega);have hg1:w1.heap.size≠g:=by have:=h1.size;omega
  clear hk km h1 h1' c0;go_wp2_with fail
  refine (rname_any h2).mono ?_;intro e w3 hp;obtain ⟨hk,hc⟩:=hp.cases_;clear hp;have z2:=k2.size;have k3:=k2.trans (hk.more z2);have e1:=d1.kp hk hg1;have e0:=d0.kp hk (by omega);clear hk d1 d0 k2;rcases hc with ⟨c,p,hr,rfl⟩ | ⟨m,l3,v,hr,rfl,rfl,h3⟩
  · go_wp2_with fail
    exact ⟨rfl,HP.bad hr k3⟩
  replace HP:=HP.bind hr;obtain ⟨x0,x1⟩:=e1.c2;obtain ⟨y0,y1⟩:=e0.c2;have fx:=e1.fz;have fy:=e0.fz;go_wp2_with fail
  refine bodyPost_ret (v:=.agg #[.string n,.string m]) (by simp [results,Tryz.results187,go_sem,y0,y1];try rfl) rfl ?_;refine HP.ret rfl ?_ rfl ?_
  · refine Kp.set (Kp.set (Kp.set k3 z1 _) ?_ _) ?_ _ <;> exact Nat.le_refl _
  · refine Rdr.set (Rdr.set (Rdr.set h3 (by show g<w1.heap.size;omega) _) ?_ _) ?_ _ <;> exact hg
end
theorem zch {α β γ:Type} (r:Rs α) (k:α→List Tk→Rs β) (k2:β→List Tk→Rs γ):zaH (zaH r k) k2=zaH r fun a l=>zaH (k a l) k2:=by
 cases r with
 | error e=>rfl
 | ok a=>rfl
theorem ask_this:Ask zcE:=zgM rfl (by decide)
theorem zfq (w:World) (k:Nat) (a b:ByteArray) (B:Nat) (hB:B≤w.heap.size):VOps B (w.alloc (.cells #[.int .i64 k,.string a,.string b] 132)) (.slice (some ⟨w.heap.size,0,none⟩) 1 1) [(k,a,b)] :=
 zhc w #[.int .i64 k,.string a,.string b] 132 1 3 B rfl (by decide) hB
def zgK (N:Nat):Prop:=∀(d:Nat) (l:List Tk) (w:World) (g:Nat),l.length≤N→d≤8→Rdr w g l →
 Calls Tryz.prog 188 #[.pointer (some ⟨g,0,none⟩),.int .i64 d] w (Post (VOps w.heap.size) w.heap.size w g (ziw d l))
def zeb (N:Nat):Prop:=∀(d:Nat) (l:List Tk) (w:World) (g:Nat),l.length≤N→d≤8→Rdr w g l →
 Calls Tryz.prog 196 #[.pointer (some ⟨g,0,none⟩),.int .i64 d] w (Post (VOps w.heap.size) w.heap.size w g (zes d l))
def zhQ (d p:Nat) (l:List Tk):Rs (List OpP):=if d=8 then .error (13,p) else zaH (ziw (d + 1) l) fun o r=>zaH (zaG (sg 41) r) fun _ r=>.ok (o,r)
section
variable {w:World} {g:Nat} {l:List Tk}
theorem inner_any {N d p:Nat} (H:zgK N) (hN:l.length≤N) (hd:d≤8) (h:Rdr w g l) :
 Calls Tryz.prog 200 #[.pointer (some ⟨g,0,none⟩),.int .i64 d,.int .i64 p] w (Post (VOps w.heap.size) w.heap.size w g (zhQ d p l)):=by
 suffices HH:∀R,To (Post (VOps w.heap.size) w.heap.size w g (zhQ d p l)) R→Calls Tryz.prog 200 #[.pointer (some ⟨g,0,none⟩),.int .i64 d,.int .i64 p] w R from HH _ fun _ _ h=>h
 intro R HP;have hg:=h.size;unfold zhQ at HP;by_cases h8:d=8
 · subst h8;rw [if_pos rfl] at HP;go_enter Tryz.func200,Tryz.ntmps200
   go_wp2_with fail
   exact ⟨rfl,HP.fail rfl (Kp.refl _ _ _)⟩
 · rw [if_neg h8] at HP;have hd8:¬((8:Int)≤(d:Int)):=by omega
   have kr:=H (d + 1) l w g hN (by omega) h;have hcast:(((d + 1:Nat)):Int)=(d:Int) + 1:=by omega
   rw [hcast] at kr;go_enter Tryz.func200,Tryz.ntmps200
   go_wp2_with fail
   refine kr.mono ?_;intro e w1 hp;obtain ⟨hk,hc⟩:=hp.cases_;clear hp kr h;rcases hc with ⟨c,p,hr,rfl⟩ | ⟨o,l1,v,hr,rfl,hv,h1⟩
   · go_wp2_with fail
     exact ⟨rfl,HP.bad hr hk⟩
   replace HP:=HP.bind hr;clear hr;go_wp2_with fail
   refine (must_any h1 (zcH 41 (by decide))).mono ?_;intro e w2 hp;obtain ⟨hk2,hc⟩:=hp.cases_;have k2:=hk.trans (hk2.more hk.size);have hv2:=zaM hv hk2 hg;clear hp hk hk2 hv h1;rcases hc with ⟨c,p,hr,rfl⟩ | ⟨o2,l2,v2,hr,rfl,rfl,h2⟩
   · go_wp2_with fail
     exact ⟨rfl,HP.bad hr k2⟩
   replace HP:=HP.bind hr;go_wp2_with fail
   exact HP.ret rfl k2 hv2 h2
theorem partT_in {d:Nat} {l:List Tk} (h1:isT zcE l=false) (h2:isT (sg 40) l=true):zes d l=zhQ d (hdT l).2.2 l.tail:=by
 rw [zhe,h1,h2,if_neg (by decide),if_pos rfl];unfold zhQ ziw;by_cases h8:d=8
 · rw [if_pos h8,if_pos h8];rfl
 · rw [if_neg h8,if_neg h8,zch]
theorem zkD {d:Nat} {l:List Tk} (h1:isT zcE l=false) (h2:isT (sg 40) l=false):zes d l=zaH (zaR l) fun n r=>if isT (sg 46) r=true then zaH (zaR r.tail) fun m r=>.ok ([(3,n,m)],r) else .ok ([(2,n,⟨#[]⟩)],r):=by
 rw [zhe,h1,h2,if_neg (by decide),if_neg (by decide)]
theorem zkE {d:Nat} {l:List Tk} (h1:isT zcE l=true):zes d l = .ok ([(1,⟨#[]⟩,⟨#[]⟩)],l.tail):=by
 rw [zhe,h1,if_pos rfl]
theorem part_upto {N:Nat} (H:zgK (N-1)):zeb N:=by
 intro d l w g hN hd h;suffices HH:∀R,To (Post (VOps w.heap.size) w.heap.size w g (zes d l)) R→Calls Tryz.prog 196 #[.pointer (some ⟨g,0,none⟩),.int .i64 d] w R from HH _ fun _ _ h=>h
 intro R HP;have hg:=h.size;have km:=may_any h ask_this;have htl:l.tail.length=l.length-1:=List.length_tail;cases hi:isT zcE l with
 | true =>
  rw [zkE hi] at HP;rw [hi,if_pos rfl] at km;go_enter Tryz.func196,Tryz.ntmps196
  go_wp2_with fail
  refine km.mono ?_;rintro e w1 ⟨rfl,h1,hk⟩;go_wp2_with fail
  exact HP.ret rfl (hk.alloc hk.size _) (zfq _ _ _ _ _ hk.size) (h1.alloc _)
 | false =>
  rw [hi,if_neg (by decide)] at km;go_enter Tryz.func196,Tryz.ntmps196
  go_wp2_with fail
  refine km.mono ?_;rintro e w1 ⟨rfl,h1,k1⟩;have f2:=tok_f2;go_wp2_with fail
  refine (zb3 h1).mono ?_;rintro e w2 ⟨rfl,hb⟩;have h2:=h1.below hb;have k2:=k1.trans ((Kp.of_below hb g).more k1.size);clear hb h1 k1 km;have km:=may_any h2 (zcH 40 (by decide));cases hj:isT (sg 40) l with
  | true =>
   rw [partT_in hi hj] at HP;rw [hj,if_pos rfl] at km;go_wp2_with fail
   refine km.mono ?_;rintro e w3 ⟨rfl,h3,hk⟩;have k3:=k2.trans (hk.more k2.size);clear hk k2 km;go_wp2_with fail
   refine (inner_any (p:=(hdT l).2.2) H (by omega) hd h3).mono ?_;intro e w4 hp;obtain ⟨hk,hc⟩:=hp.cases_;have k4:=k3.trans (hk.more k3.size);clear hp hk;rcases hc with ⟨c,p,hr,rfl⟩ | ⟨o,l1,v,hr,rfl,hv,h4⟩
   · go_wp2_with fail
     exact ⟨rfl,HP.fail hr k4⟩
   go_wp2_with fail
   exact HP.ret hr k4 (zav hv k3.size) h4
  | false =>
   rw [zkD hi hj] at HP;rw [hj,if_neg (by decide)] at km;go_wp2_with fail
   refine km.mono ?_;rintro e w3 ⟨rfl,h3,hk⟩;have k3:=k2.trans (hk.more k2.size);clear hk k2 km h2;go_wp2_with fail
   refine (rname_any h3).mono ?_;intro e w4 hp;obtain ⟨hk,hc⟩:=hp.cases_;have k4:=k3.trans (hk.more k3.size);clear hp hk k3;rcases hc with ⟨c,p,hr,rfl⟩ | ⟨n,l4,v,hr,rfl,rfl,h4⟩
   · go_wp2_with fail
     exact ⟨rfl,HP.bad hr k4⟩
   replace HP:=HP.bind hr;clear hr;have km:=may_any h4 (zcH 46 (by decide));cases hq:isT (sg 46) l4 with
   | false =>
    rw [hq,if_neg (by decide)] at HP;rw [hq,if_neg (by decide)] at km;go_wp2_with fail
    refine km.mono ?_;rintro e w5 ⟨rfl,h5,hk⟩;have k5:=k4.trans (hk.more k4.size);clear hk k4 km;go_wp2_with fail
    exact HP.ret rfl (k5.alloc k5.size _) (zfq _ _ _ _ _ k5.size) (h5.alloc _)
   | true =>
    rw [hq,if_pos rfl] at HP;rw [hq,if_pos rfl] at km;go_wp2_with fail
    refine km.mono ?_;rintro e w5 ⟨rfl,h5,hk⟩;have k5:=k4.trans (hk.more k4.size);clear hk k4 km;go_wp2_with fail
    refine (rname_any h5).mono ?_;intro e w6 hp;obtain ⟨hk,hc⟩:=hp.cases_;have k6:=k5.trans (hk.more k5.size);clear hp hk k5;rcases hc with ⟨c,p,hr,rfl⟩ | ⟨m,l6,v,hr,rfl,rfl,h6⟩
    · go_wp2_with fail
      exact ⟨rfl,HP.bad hr k6⟩
    replace HP:=HP.bind hr;clear hr;go_wp2_with fail
    exact HP.ret rfl (k6.alloc k6.size _) (zfq _ _ _ _ _ k6.size) (h6.alloc _)
end
end Go.Proofs.YtiepddmagfmllaaGreat
