import Derived.Recover
import Derived.Test.YtmblgnddgmfkhaaGreatQ06
set_option maxRecDepth 100000
set_option maxHeartbeats 4000000
namespace Go.Proofs.YtmblgnddgmfkhaaGreat
section
open Go.RowKit
open Go.RowKit
open Go.RowKit
open Go.RowKit
variable {s:ByteArray}
theorem zbg (x y:ByteArray):(x.toList == y.toList)=decide (x=y):=toList_inj
theorem key_any (s:ByteArray) (w:World):Calls Tryz.prog 283 #[.string s] w fun e w'=>e = .returned (.bool (keyB s))∧w'=w:=by
 have b:=zbg s ⟨#[116,121,112,101]⟩;have d:=zbg s ⟨#[114,101,108]⟩;have f:=zbg s ⟨#[105,115]⟩;have g:=zbg s ⟨#[116,104,105,115]⟩;rw [show (⟨#[116,121,112,101]⟩:ByteArray).toList=[116,121,112,101] by decide +kernel] at b;rw [show (⟨#[114,101,108]⟩:ByteArray).toList=[114,101,108] by decide +kernel] at d;rw [show (⟨#[105,115]⟩:ByteArray).toList=[105,115] by decide +kernel] at f;rw [show (⟨#[116,104,105,115]⟩:ByteArray).toList=[116,104,105,115] by decide +kernel] at g;have j:Hid (keyB s=(decide (s=⟨#[116,121,112,101]⟩) || decide (s=⟨#[114,101,108]⟩) || decide (s=⟨#[105,115]⟩) || decide (s=⟨#[116,104,105,115]⟩))):=Lib.hid (by unfold keyB;rw [ya6];simp [or_assoc]);generalize decide (s=⟨#[116,121,112,101]⟩)=k at *
 generalize decide (s=⟨#[114,101,108]⟩)=m at *
 generalize decide (s=⟨#[105,115]⟩)=n at *
 generalize decide (s=⟨#[116,104,105,115]⟩)=o at *
 go_enter Tryz.func283,Tryz.ntmps283
 cases k <;> cases m <;> cases n <;> cases o;all_goals go_wp2
 all_goals go_ret
 all_goals (refine ⟨?_,rfl⟩;rw [j.out];rfl)
def Fine (l:List Tk):Prop:=l.length≤1000000∧∃init p,l=init ++ [(3,⟨#[]⟩,p)]∧∀t ∈ init,t.1=2∨(t.1=1∧∀c:UInt8,zca c.toNat=true→t.2.1≠sg c)
theorem Fine.cons {l:List Tk} (h:Fine l):∃t r,l=t::r:=by
 obtain ⟨_,b,p,rfl,_⟩:=h;cases b with
 | nil=>exact ⟨_,_,rfl⟩
 | cons a r=>exact ⟨_,_,rfl⟩
theorem Fine.tail {l:List Tk} (h:Fine l) (h3:(hdT l).1≠3):Fine l.tail:=by
 obtain ⟨f,b,p,rfl,hi⟩:=h;cases b with
 | nil=>exact absurd rfl h3
 | cons a r=>exact ⟨by rw [List.length_tail];omega,r,p,rfl,fun t d=>hi t (yau _ d)⟩
theorem Fine.hd {l:List Tk} (h:Fine l):(hdT l).1=2∨((hdT l).1=1∧∀c:UInt8,zca c.toNat=true→(hdT l).2.1≠sg c)∨((hdT l).1=3∧(hdT l).2.1=⟨#[]⟩):=by
 obtain ⟨_,b,p,rfl,hi⟩:=h;cases b with
 | nil=>exact .inr (.inr ⟨rfl,rfl⟩)
 | cons a r=>
  rcases hi a (yat) with h | h
  · exact .inl h
  · exact .inr (.inl h)
def Ask (s:ByteArray):Prop:=0<s.size∧(keyB s=true∨∃c:UInt8,zca c.toNat=true∧s=sg c)
theorem Fine.isT {l:List Tk} (h:Fine l) (hs:Ask s):isT s l=decide ((hdT l).2.1=s):=by
 unfold Go.Proofs.YtmblgnddgmfkhaaGreat.isT;by_cases e:(hdT l).2.1=s
 · rw [yaD e];refine yaD ⟨e,?_⟩;rcases hs.2 with hk | ⟨c,b,rfl⟩
   · exact .inr hk
   · rcases h.hd with d | ⟨_,f⟩ | ⟨_,g⟩
     · exact .inl d
     · exact absurd e (f c b)
     · rw [g] at e;have:=congrArg ByteArray.size e;rw [show (sg c).size=1 from rfl,show (⟨#[]⟩:ByteArray).size=0 from rfl] at this;omega
 · rw [yaH e];exact yaH fun h=>e h.1
theorem Fine.next {l:List Tk} (h:Fine l) (hs:0<s.size) (e:(hdT l).2.1=s):Fine l.tail:=by
 refine h.tail fun d=>?_;rcases h.hd with f | ⟨g,_⟩ | ⟨_,b⟩
 · omega
 · omega
 · rw [b] at e;subst e;exact absurd hs yac
structure RdAt (w:World) (g:Nat) (l:List Tk) (A:Option Addr) (c:Nat):Prop where
 cells:w.heap[g]? = some (.cells #[.slice A l.length c] 280 (0,0))
 toks:Rd w g 3 A l.length c (tcells l)
 fine:Fine l
def Rdr (w:World) (g:Nat) (l:List Tk):Prop:=∃A c,RdAt w g l A c
section
variable {w w':World} {g:Nat} {l:List Tk} {A:Option Addr} {c:Nat}
theorem RdAt.size (h:RdAt w g l A c):g<w.heap.size:=(yaO.1 h.cells).1
theorem Rdr.size (h:Rdr w g l):g<w.heap.size:=by obtain ⟨A,c,h⟩:=h;exact h.size
theorem Rdr.fine (h:Rdr w g l):Fine l:=by obtain ⟨A,c,h⟩:=h;exact h.fine
theorem RdAt.c0 (h:RdAt w g l A c):w.cell? ⟨g,0,none⟩=some (.slice A l.length c):=by rw [cell_of_row _ _ _ _ _ _ h.cells];rfl
theorem RdAt.fz (h:RdAt w g l A c):w.frozen? ⟨g,0,none⟩=false:=by simp [World.frozen?,h.cells]
theorem RdAt.first (h:RdAt w g l A c):∃b o,A=some ⟨b,o,none⟩∧0<l.length∧w.cell? ⟨b,o,none⟩=some (.int .i64 (hdT l).1)∧w.cell? ⟨b,o + 1,none⟩=some (.string (hdT l).2.1)∧w.cell? ⟨b,o + 2,none⟩=some (.int .i64 (hdT l).2.2):=by
 obtain ⟨t,r,rfl⟩:=h.fine.cons;obtain ⟨b,o,e,_,d⟩:=h.toks.at_ yaf;exact ⟨b,o,e,by simp,d 0 _ rfl,d 1 _ rfl,d 2 _ rfl⟩
theorem Rdr.keep (h:Rdr w g l) (hb:∀k,k≤g→w'.heap[k]? = w.heap[k]?):Rdr w' g l:=by
 obtain ⟨A,c,h⟩:=h;refine ⟨A,c,(hb g (yaj _)).trans h.cells,h.toks.keep fun p b=>?_,h.fine⟩;have:=hb p.block yab;unfold World.cell?;rw [this]
theorem Rdr.below (h:Rdr w g l) (hb:Below w.heap.size w w'):Rdr w' g l:=h.keep fun k hk=>hb.block k (by have:=h.size;omega)
theorem Rdr.drew (h:Rdr w g l):Rdr w.drew g l:=h.keep fun _ _=>rfl
theorem RdAt.step (h:RdAt w g l A c) (hf:Fine l.tail):Rdr (w.setCell ⟨g,0,none⟩ (.slice (if c=1 then A else A.map (·.add 3)) (l.length-1) (c-1))) g l.tail∧Kp g w.heap.size w (w.setCell ⟨g,0,none⟩ (.slice (if c=1 then A else A.map (·.add 3)) (l.length-1) (c-1))):=by
 have f:1≤l.length:=by obtain ⟨_,_,_,j,_⟩:=h.first;exact j
 have d:=h.toks.cut f;have e:(tcells l).drop (1 * 3)=tcells l.tail:=by
  obtain ⟨t,r,rfl⟩:=h.fine.cons;rfl
 rw [e] at d;have b:l.tail.length=l.length-1:=List.length_tail;refine ⟨⟨if c=1 then A else A.map (·.add 3),c-1,?_,?_,hf⟩,?_⟩
 · rw [b];simp [World.setCell,ybx,h.cells]
 · rw [b];refine d.keep fun p n=>?_;have:=Below.heap_setCell w ⟨g,0,none⟩ (.slice (if c=1 then A else A.map (·.add 3)) (l.length-1) (c-1)) p.block (by show p.block≠g;omega);unfold World.cell?;rw [this]
 · exact ⟨rfl,rfl,rfl,by simp [World.setCell],fun k _ m=>Below.heap_setCell _ _ _ _ m⟩
end
def left (w:World) (g:Nat):Nat:=match w.cell? ⟨g,0,none⟩ with
 | some (.slice _ n _)=>n
 | _=>0
theorem Rdr.left {w:World} {g:Nat} {l:List Tk} (h:Rdr w g l):left w g=l.length:=by
 obtain ⟨A,c,h⟩:=h;unfold Go.Proofs.YtmblgnddgmfkhaaGreat.left;rw [h.c0]
theorem Rdr.few {w:World} {g:Nat} {l:List Tk} (h:Rdr w g l):l.length≤1000000:=h.fine.1
abbrev zh5 (c p:Nat):Ending:=.panicked [{ v:=.iface 276 (.agg #[.int .i64 c,.int .i64 p]),recovered:=false }]
def Post {α:Type} (V:World→Value→α→Prop) (B:Nat) (w:World) (g:Nat) (r:Rs α) (e:Ending) (w':World):Prop :=
 Kp g B w w'∧match r with
  | .error c=>e=zh5 c.1 c.2
  | .ok a=>∃v,e = .returned v∧V w' v a.1∧Rdr w' g a.2
section
variable {α β:Type} {V:World→Value→α→Prop} {U:World→Value→β→Prop} {B B':Nat} {w w1 w':World} {g:Nat} {r:Rs α} {e:Ending}
theorem Post.ok {a:α} {l:List Tk} {v:Value} (hk:Kp g B w w') (hv:V w' v a) (hr:Rdr w' g l):Post V B w g (.ok (a,l)) (.returned v) w':=⟨hk,v,rfl,hv,hr⟩
theorem Post.bad (hk:Kp g B w w') (c p:Nat):Post V B w g (.error (c,p)) (zh5 c p) w':=⟨hk,rfl⟩
theorem Post.cases_ (h:Post V B w g r e w'):Kp g B w w'∧((∃c p,r = .error (c,p)∧e=zh5 c p)∨∃a l v,r = .ok (a,l)∧e = .returned v∧V w' v a∧Rdr w' g l):=by
 obtain ⟨hk,h⟩:=h;refine ⟨hk,?_⟩;cases r with
 | error c=>exact .inl ⟨c.1,c.2,rfl,h⟩
 | ok a=>obtain ⟨v,b,d,f⟩:=h;exact .inr ⟨a.1,a.2,v,rfl,b,d,f⟩
end
def VUnit (_:World) (v:Value) (_:Unit):Prop:=v = .tuple #[]
def VStr (_:World) (v:Value) (s:ByteArray):Prop:=v = .string s
section
variable {w:World} {g:Nat} {l:List Tk}
theorem zaI {w:World} {a:Addr} {v:Value} (h:w.cell? a=some v) (o:Obj):(w.alloc o).cell? a=some v:=by
 rw [World.cell?_alloc_lt w o a (World.block_lt_of_cell? w _ h)];exact h
theorem zbY (h:Rdr w g l):Calls Tryz.prog 215 #[.pointer (some ⟨g,0,none⟩)] w fun e w'=>e = .returned (.agg #[.int .i64 (hdT l).1,.string (hdT l).2.1,.int .i64 (hdT l).2.2])∧Below w.heap.size w w':=by
 obtain ⟨A,c,h⟩:=h;have k:=zaI h.c0;obtain ⟨b,o,rfl,m,d,f,j⟩:=h.first;replace d:=zaI d;replace f:=zaI f;replace j:=zaI j;clear h;go_enter Tryz.func215,Tryz.ntmps215
 go_wp2
 refine bodyPost_ret (v:=_) (by simp [results,Tryz.results215,go_sem];try rfl) rfl ?_;exact ⟨rfl,(Below.refl _ w).alloc (yaj _) _⟩
theorem pass_any (h:Rdr w g l) (hf:Fine l.tail):Calls Tryz.prog 273 #[.pointer (some ⟨g,0,none⟩)] w fun e w'=>e = .returned (.tuple #[])∧Rdr w' g l.tail∧Kp g w.heap.size w w':=by
 obtain ⟨A,c,h⟩:=h;have m:=h.c0;have n:=h.fz;obtain ⟨b,o,rfl,p,_⟩:=h.first;have d:=h.step hf;have q:=h.toks.cap;have k:=h.toks.capm;unfold maxLen at k;clear h;by_cases j:c=1
 · subst j;simp only [if_true,show l.length-1=0 by omega,yct] at d;have f:=Lib.hid d;clear d;go_enter Tryz.func273,Tryz.ntmps273
   go_wp2
   go_returns
   exact ⟨rfl,f.out⟩
 · simp only [yak j,ybE,Addr.add_lit] at d;have f:=Lib.hid d;clear d;go_enter Tryz.func273,Tryz.ntmps273
   go_wp2
   go_returns
   exact ⟨rfl,f.out⟩
theorem tok_f0 (x y z:Value) (W:World):(Instr.field 327 (.agg #[x,y,z]) 0).run Tryz.prog W = .ok x W:=by kernel_rfl
theorem zkX (x y z:Value) (W:World):(Instr.field 327 (.agg #[x,y,z]) 1).run Tryz.prog W = .ok y W:=by kernel_rfl
theorem tok_f2 (x y z:Value) (W:World):(Instr.field 327 (.agg #[x,y,z]) 2).run Tryz.prog W = .ok z W:=by kernel_rfl
theorem may_yes (h:Rdr w g l) (hs:0<s.size) (e:(hdT l).2.1=s):Calls Tryz.prog 246 #[.pointer (some ⟨g,0,none⟩),.string s] w fun e w'=>e = .returned (.bool true)∧Rdr w' g l.tail∧Kp g w.heap.size w w':=by
 have b:=h.fine.next hs e;have f:((hdT l).2.1.toList == s.toList)=true:=by rw [zbg];exact yaD e
 generalize hx:(hdT l).2.1=x at *
 have j:=zkX;go_enter Tryz.func246,Tryz.ntmps246
 go_wp2_with (first
  | ((with_reducible refine (zbY h).mono ?_);rintro e k ⟨rfl,hb⟩;rw [hx])
  | ((with_reducible refine (pass_any (h.below hb) b).mono ?_);rintro e m ⟨rfl,d,hk⟩))
 go_returns
 exact ⟨rfl,d,(Kp.of_below hb g).trans (hk.more hb.size)⟩
theorem may_no (h:Rdr w g l) (e:¬(hdT l).2.1=s):Calls Tryz.prog 246 #[.pointer (some ⟨g,0,none⟩),.string s] w fun e w'=>e = .returned (.bool false)∧Below w.heap.size w w':=by
 have b:((hdT l).2.1.toList == s.toList)=false:=by rw [zbg];exact yaH e
 generalize hx:(hdT l).2.1=x at *
 have d:=zkX;go_enter Tryz.func246,Tryz.ntmps246
 go_wp2_with ((with_reducible refine (zbY h).mono ?_);rintro e f ⟨rfl,hb⟩;rw [hx])
 go_returns
 exact ⟨rfl,hb⟩
theorem stop_any (h:Rdr w g l):Calls Tryz.prog 271 #[.pointer (some ⟨g,0,none⟩)] w fun e w'=>e=zh5 30 (hdT l).2.2∧Below w.heap.size w w':=by
 have b:=tok_f2;go_enter Tryz.func271,Tryz.ntmps271
 go_wp2_with ((with_reducible refine (zbY h).mono ?_);rintro e d ⟨rfl,hb⟩)
 exact ⟨rfl,rfl,hb⟩
end
section
variable {w:World} {g:Nat} {l:List Tk}
theorem need_yes {l:List Tk} (hf:Fine l) (hs:Ask s) (h:(hdT l).2.1=s):zaK s l = .ok ((),l.tail):=by unfold zaK;rw [hf.isT hs,yaD h];rfl
theorem need_no {l:List Tk} (hf:Fine l) (hs:Ask s) (h:¬(hdT l).2.1=s):zaK s l = .error (30,(hdT l).2.2):=by unfold zaK;rw [hf.isT hs,yaH h];rfl
theorem must_any (h:Rdr w g l) (hs:Ask s):Calls Tryz.prog 244 #[.pointer (some ⟨g,0,none⟩),.string s] w (Post VUnit w.heap.size w g (zaK s l)):=by
 by_cases e:(hdT l).2.1=s
 · rw [need_yes h.fine hs e];have k:=may_yes h hs.1 e;clear e;go_enter Tryz.func244,Tryz.ntmps244
   go_wp2_with ((with_reducible refine k.mono ?_);rintro e d ⟨rfl,f,hk⟩)
   go_returns
   exact Post.ok hk rfl f
 · rw [need_no h.fine hs e];have k:=may_no h e;clear e;go_enter Tryz.func244,Tryz.ntmps244
   go_wp2_with (first
    | ((with_reducible refine k.mono ?_);rintro e d ⟨rfl,hb⟩)
    | ((with_reducible refine (stop_any (h.below hb)).mono ?_);rintro e j ⟨rfl,b⟩))
   refine ⟨rfl,?_⟩;exact Post.bad ((Kp.of_below hb g).trans (Kp.of_below (b.mono hb.size) g)) _ _
theorem atName_any (h:Rdr w g l):Calls Tryz.prog 272 #[.pointer (some ⟨g,0,none⟩)] w fun e w'=>e = .returned (.bool (decide ((hdT l).1=1) && !keyB (hdT l).2.1))∧Below w.heap.size w w':=by
 have n:=tok_f0;have o:=zkX;have f:∀W,_:=fun W=>key_any (hdT l).2.1 W;have j:∀W,Rdr W g l→_:=fun W H=>zbY (w:=W) H;by_cases d:(hdT l).1=1
 · have k:((((hdT l).1:Nat):Int) == 1)=true:=by rw [ybS];omega
   rw [yaD d,ycG];generalize (hdT l).2.1=x at *
   generalize (hdT l).2.2=y at *
   generalize (hdT l).1=z at *
   generalize keyB x=b at *
   clear d;cases b;all_goals (
    go_enter Tryz.func272,Tryz.ntmps272
    go_wp2_with (first
     | ((with_reducible refine (j _ h).mono ?_);rintro e m ⟨rfl,hb⟩)
     | ((with_reducible refine (f _).mono ?_);rintro e p ⟨rfl,rfl⟩))
    go_returns
    exact ⟨rfl,hb.alloc hb.size _⟩)
 · have k:((((hdT l).1:Nat):Int) == 1)=false:=by rw [ybc];omega
   rw [yaH d,yb1];generalize (hdT l).2.1=x at *
   generalize (hdT l).2.2=y at *
   generalize (hdT l).1=z at *
   clear d f;go_enter Tryz.func272,Tryz.ntmps272
   go_wp2_with ((with_reducible refine (j _ h).mono ?_);rintro e m ⟨rfl,hb⟩)
   go_returns
   exact ⟨rfl,hb.alloc hb.size _⟩
theorem name_yes {l:List Tk} (h:(decide ((hdT l).1=1) && !keyB (hdT l).2.1)=true):zaT l = .ok ((hdT l).2.1,l.tail):=by
 unfold zaT;refine yan ?_;simpa using h
theorem zp9 {l:List Tk} (h:(decide ((hdT l).1=1) && !keyB (hdT l).2.1)=false):zaT l = .error (30,(hdT l).2.2):=by
 unfold zaT;refine yak ?_;intro ⟨b,d⟩;rw [yaD b,d] at h;cases h
theorem zp8 {l:List Tk} (hf:Fine l) (h:(decide ((hdT l).1=1) && !keyB (hdT l).2.1)=true):Fine l.tail:=by
 refine hf.tail ?_;simp only [ya9,yaP] at h;omega
theorem rname_any (h:Rdr w g l):Calls Tryz.prog 245 #[.pointer (some ⟨g,0,none⟩)] w (Post VStr w.heap.size w g (zaT l)):=by
 have u:=zkX;have d:=atName_any h;cases hb:(decide ((hdT l).1=1) && !keyB (hdT l).2.1) with
 | false =>
  rw [zp9 hb];rw [hb] at d;go_enter Tryz.func245,Tryz.ntmps245
  go_wp2_with (first
   | ((with_reducible refine d.mono ?_);rintro e f ⟨rfl,hb⟩)
   | ((with_reducible refine (stop_any (h.below hb)).mono ?_);rintro e j ⟨rfl,b⟩))
  refine ⟨rfl,?_⟩;exact Post.bad ((Kp.of_below hb g).trans (Kp.of_below (b.mono hb.size) g)) _ _
 | true =>
  rw [name_yes hb];rw [hb] at d;have k:=zp8 h.fine hb;clear hb;have m:∀W,Rdr W g l→_:=fun W H=>zbY (w:=W) H;have n:∀W,Rdr W g l→_:=fun W H=>pass_any (w:=W) H k;have o:∀w',Rdr w' g l.tail→Kp g w.heap.size w w'→Hid (Post VStr w.heap.size w g (.ok ((hdT l).2.1,l.tail)) (.returned (.string (hdT l).2.1)) w'):=fun w' p q=>Lib.hid (Post.ok q rfl p);generalize Post VStr w.heap.size w g (.ok ((hdT l).2.1,l.tail))=R at *
  generalize (hdT l).2.1=x at *
  go_enter Tryz.func245,Tryz.ntmps245
  go_wp2_with (first
   | ((with_reducible refine d.mono ?_);rintro e f ⟨rfl,hb⟩)
   | ((with_reducible refine (m _ (h.below hb)).mono ?_);rintro e j ⟨rfl,b⟩)
   | ((with_reducible refine (n _ ((h.below hb).below b)).mono ?_);rintro e y ⟨rfl,s,hk⟩))
  exact (o _ s ((Kp.of_below (hb.trans (b.mono hb.size)) g).trans (hk.more (yax hb.size b.size)))).out
def zf7 (x:ByteArray):Nat:=if x=⟨#[124]⟩ then 4 else if x=⟨#[38]⟩ then 5 else if x=⟨#[45]⟩ then 6 else 0
theorem joins_any (x:ByteArray) (w:World):Calls Tryz.prog 289 #[.string x] w fun e w'=>e = .returned (.tuple #[.int .i64 (zf7 x),.bool (!decide (zf7 x=0))])∧w'=w:=by
 have b:=zbg x ⟨#[124]⟩;have d:=zbg x ⟨#[38]⟩;have f:=zbg x ⟨#[45]⟩;rw [show (⟨#[124]⟩:ByteArray).toList=[124] by decide +kernel] at b;rw [show (⟨#[38]⟩:ByteArray).toList=[38] by decide +kernel] at d;rw [show (⟨#[45]⟩:ByteArray).toList=[45] by decide +kernel] at f;have g:Hid (zf7 x=if decide (x=⟨#[124]⟩)=true then 4 else if decide (x=⟨#[38]⟩)=true then 5 else if decide (x=⟨#[45]⟩)=true then 6 else 0):=Lib.hid (by unfold zf7;simp only [yaP]);generalize decide (x=⟨#[124]⟩)=j at *
 generalize decide (x=⟨#[38]⟩)=k at *
 generalize decide (x=⟨#[45]⟩)=m at *
 generalize zf7 x=J at *
 go_enter Tryz.func289,Tryz.ntmps289
 cases j <;> cases k <;> cases m;all_goals go_wp2
 all_goals go_returns
 all_goals (refine ⟨?_,rfl⟩;rw [g.out];rfl)
theorem ziZ {l:List Tk} (hf:Fine l):zf7 (hdT l).2.1=opT l:=by
 have g:Ask (sg 124):=⟨by decide,.inr ⟨124,by decide,rfl⟩⟩;have j:Ask (sg 38):=⟨by decide,.inr ⟨38,by decide,rfl⟩⟩;have a3:Ask (sg 45):=⟨by decide,.inr ⟨45,by decide,rfl⟩⟩;unfold opT zf7;rw [hf.isT g,hf.isT j,hf.isT a3];show _=if decide ((hdT l).2.1=⟨#[124]⟩)=true then 4 else if decide ((hdT l).2.1=⟨#[38]⟩)=true then 5 else if decide ((hdT l).2.1=⟨#[45]⟩)=true then 6 else 0;by_cases b:(hdT l).2.1=⟨#[124]⟩
 · rw [yan b,yan (yaD b)]
 · rw [yak b,yak (fun h=>b (yaQ h))];by_cases d:(hdT l).2.1=⟨#[38]⟩
   · rw [yan d,yan (yaD d)]
   · rw [yak d,yak (fun h=>d (yaQ h))];by_cases f:(hdT l).2.1=⟨#[45]⟩
     · rw [yan f,yan (yaD f)]
     · rw [yak f,yak (fun h=>f (yaQ h))]
end
end
section
open Go.RowKit
open Go.RowKit
variable {v:Value} {size n base d p:Nat} {xs:List Value}
def zlN (o:OpP):List Value:=[.int .i64 o.1,.string o.2.1,.string o.2.2]
def zbJ (l:List OpP):List Value:=l.flatMap zlN
def zon (s:zdv):List Value:=[.string s.1,.string s.2]
def zc8 (l:List zdv):List Value:=l.flatMap zon
theorem zit (a b:List OpP):zbJ (a ++ b)=zbJ a ++ zbJ b:=yaZ
theorem zoo (a b:List zdv):zc8 (a ++ b)=zc8 a ++ zc8 b:=yaZ
theorem zn0 (l:List OpP):∀u ∈ zbJ l,u.oneCell'=true:=by
 intro u d;obtain ⟨t,_,b⟩:=ybz.1 d;simp only [zlN,yav,ya1,ybw] at b;rcases b with rfl | rfl | rfl <;> rfl
theorem zqp (t:OpP):∀u ∈ zlN t,u.oneCell'=true:=by
 intro u b;simp only [zlN,yav,ya1,ybw] at b;rcases b with rfl | rfl | rfl <;> rfl
theorem zhs (t:zdv):∀u ∈ zon t,u.oneCell'=true:=by
 intro u b;simp only [zon,yav,ya1,ybw] at b;rcases b with rfl | rfl <;> rfl
theorem zcq (w:World) (a b:Value) (t:TypeId):∀j u,[a,b][j]? = some u→(w.alloc (.cells #[a,b] t)).cell? ((⟨w.heap.size,0,none⟩:Addr).add j)=some u:=by
 intro j u d;rw [Addr.add_lit,cell_of_row _ _ _ _ _ _ (heap_alloc_new w _),yaG];simpa using d
theorem zdf {g B:Nat} {w0 w w':World} {e:TypeId} {o:Obj} (hk:Kp g B w0 w) (hg:(w.alloc o).grownBy w' v.ownBlock) (hown:w.ownsRow base e size v n xs) (hB:B≤w.heap.size) (hle:B≤base):Kp g B w0 w' :=
 hk.trans ⟨hg.os,hg.tape,hg.output,by have:=hg.size;simp at this;omega,fun k b d=>by
  rw [hg.block k yag (fun e=>by have:=(hown.lt k e.symm).1;omega),Below.heap_alloc _ _ _ (by omega)]⟩
theorem zpO {g B:Nat} {w0 w w':World} {e:TypeId} (hk:Kp g B w0 w) (hg:w.grownBy w' v.ownBlock) (hown:w.ownsRow base e size v n xs) (hB:B≤w.heap.size) (hle:B≤base):Kp g B w0 w' :=
 hk.trans ⟨hg.os,hg.tape,hg.output,hg.size,fun k b d=>hg.block k yab (fun e=>by have:=(hown.lt k e.symm).1;omega)⟩
theorem zod {g:Nat} {l:List Tk} {w w':World} {e:TypeId} (h:Rdr w g l) (hg:w.grownBy w' v.ownBlock) (hown:w.ownsRow base e size v n xs) (hle:g<base):Rdr w' g l :=
 h.keep fun k b=>hg.block k (by have:=h.size;omega) (fun e=>by have:=(hown.lt k e.symm).1;omega)
theorem ze7 {g:Nat} {l:List Tk} {w w':World} {e:TypeId} {o:Obj} (h:Rdr w g l) (hg:(w.alloc o).grownBy w' v.ownBlock) (hown:w.ownsRow base e size v n xs) (hle:g<base):Rdr w' g l :=
 h.keep fun k b=>by
  have:=h.size;rw [hg.block k yag (fun e=>by have:=(hown.lt k e.symm).1;omega),Below.heap_alloc _ _ _ (by omega)]
def ziF (B:Nat) (w:World) (v:Value) (o:List OpP):Prop:=w.ownsRow B 222 3 v o.length (zbJ o)
def zf3 (B:Nat) (w:World) (v:Value) (s:List zdv):Prop:=w.ownsRow B 246 2 v s.length (zc8 s)
def VSub (_:World) (v:Value) (s:zdv):Prop:=v = .agg #[.string s.1,.string s.2]
theorem info_op:(Tryz.prog.info? 222).map (fun i=>(i.zero,i.size,i.bytes))=some (some (.agg #[.int .i64 0,.string .empty,.string .empty]),3,40):=by kernel_rfl
theorem ziX:(Tryz.prog.info? 246).map (fun i=>(i.zero,i.size,i.bytes))=some (some (.agg #[.string .empty,.string .empty]),2,32):=by kernel_rfl
section
variable {w w':World} {g B:Nat}
theorem zcc {e:TypeId} (h:w.ownsRow B e size v n xs) (hk:Kp g w.heap.size w w') (hg:g<B):w'.ownsRow B e size v n xs :=
 zaD h fun k b=>hk.block k (h.lt k b).2 (by have:=(h.lt k b).1;omega)
end
def Bk (w:World) (b:Nat) (cs:Array Value) (t:TypeId):Prop:=w.heap[b]? = some (.cells cs t (0,0))
section
variable {l:List Tk} {w w':World} {b g B:Nat} {cs:Array Value} {t:TypeId}
theorem Bk.new (w:World) (cs:Array Value) (t:TypeId):Bk (w.alloc (.cells cs t)) w.heap.size cs t:=heap_alloc_new w _
theorem Bk.lt (h:Bk w b cs t):b<w.heap.size:=(yaO.1 h).1
theorem Bk.kp (h:Bk w b cs t) (hk:Kp g w.heap.size w w') (hg:b≠g):Bk w' b cs t:=(hk.block b h.lt hg).trans h
theorem Bk.below (h:Bk w b cs t) (hk:Below w.heap.size w w'):Bk w' b cs t:=(hk.block b h.lt).trans h
theorem Bk.alloc (h:Bk w b cs t) (o:Obj):Bk (w.alloc o) b cs t:=(heap_alloc_old w _ h.lt).trans h
theorem Bk.cell (h:Bk w b cs t) (i:Nat):w.cell? ⟨b,i,none⟩=cs[i]?:=by rw [cell_of_row _ _ _ _ _ _ h]
theorem Bk.c2 {x y:Value} (h:Bk w b #[x,y] t):w.cell? ⟨b,0,none⟩=some x∧w.cell? ⟨b,1,none⟩=some y:=⟨h.cell 0,h.cell 1⟩
theorem Bk.fz (h:Bk w b cs t) (i:Nat):w.frozen? ⟨b,i,none⟩=false:=by simp [World.frozen?,show w.heap[b]? = some (.cells cs t (0,0)) from h]
theorem Kp.alloc (h:Kp g B w w') (hB:B≤w'.heap.size) (o:Obj):Kp g B w (w'.alloc o):=h.trans (Kp.of_below ((Below.refl _ w').alloc hB o) g)
theorem Kp.set (h:Kp g B w w') {a:Addr} (ha:B≤a.block) (v:Value):Kp g B w (w'.setCell a v) :=
 h.trans ⟨rfl,rfl,rfl,by simp [World.setCell],fun k hk _=>Below.heap_setCell _ _ _ _ yab⟩
theorem Rdr.set (h:Rdr w g l) {a:Addr} (ha:g<a.block) (v:Value):Rdr (w.setCell a v) g l:=h.keep fun k hk=>Below.heap_setCell _ _ _ _ yab
theorem Rdr.alloc {l:List Tk} (h:Rdr w g l) (o:Obj):Rdr (w.alloc o) g l:=h.below ((Below.refl _ w).alloc (yaj _) o)
end
section
variable {w:World} {g:Nat} {l:List Tk}
theorem zcS (c:UInt8) (h:zca c.toNat=true):Ask (sg c):=⟨zao c,.inr ⟨c,h,rfl⟩⟩
theorem ziH {s:ByteArray} (h:keyB s=true) (h0:0<s.size):Ask s:=⟨h0,.inl h⟩
theorem may_any (h:Rdr w g l) {s:ByteArray} (hs:Ask s):Calls Tryz.prog 246 #[.pointer (some ⟨g,0,none⟩),.string s] w fun e w'=>e = .returned (.bool (isT s l))∧Rdr w' g (if isT s l=true then l.tail else l)∧Kp g w.heap.size w w':=by
 rw [h.fine.isT hs];by_cases e:(hdT l).2.1=s
 · rw [yaD e,yan rfl];exact may_yes h hs.1 e
 · rw [yaH e,yak (by decide)];exact (may_no h e).mono fun _ _ ⟨d,b⟩=>⟨d,h.below b,Kp.of_below b g⟩
def To (X R:Ending→World→Prop):Prop:=∀e w',X e w'→R e w'
section
variable {α β:Type} {V:World→Value→β→Prop} {B:Nat} {w':World} {r:Rs α} {q:Rs β} {k:α→List Tk→Rs β} {R:Ending→World→Prop}
theorem To.bind (h:To (Post V B w g (zaG r k)) R) {a:α} {l:List Tk} (hr:r = .ok (a,l)):To (Post V B w g (k a l)) R:=fun e w' q=>h e w' (by rw [hr];exact q)
theorem To.bad (h:To (Post V B w g (zaG r k)) R) {c:Nat} (hr:r = .error (c,p)) (hk:Kp g B w w'):R (zh5 c p) w':=h _ _ (by rw [hr];exact Post.bad hk c p)
theorem To.fail (h:To (Post V B w g q) R) {c:Nat} (hr:q = .error (c,p)) (hk:Kp g B w w'):R (zh5 c p) w':=h _ _ (by rw [hr];exact Post.bad hk c p)
theorem To.ret (h:To (Post V B w g q) R) {a:β} {l:List Tk} (hr:q = .ok (a,l)) (hk:Kp g B w w') (hv:V w' v a) (hd:Rdr w' g l):R (.returned v) w':=h _ _ (by rw [hr];exact Post.ok hk hv hd)
end
theorem sub_any (h:Rdr w g l):Calls Tryz.prog 284 #[.pointer (some ⟨g,0,none⟩)] w
 (Post VSub w.heap.size w g (zaG (zaT l) fun n r=>zaG (if isT (sg 35) r=true then zaT r.tail else .ok (⟨#[]⟩,r)) fun m r=>.ok ((n,m),r))):=by
 suffices H:∀R,To (Post VSub w.heap.size w g (zaG (zaT l) fun n r=>zaG (if isT (sg 35) r=true then zaT r.tail else .ok (⟨#[]⟩,r)) fun m r=>.ok ((n,m),r))) R→Calls Tryz.prog 284 #[.pointer (some ⟨g,0,none⟩)] w R from H _ fun _ _ h=>h
 intro R b;have I:=h.size;have J:=h.alloc (.cells #[.string ⟨#[]⟩,.string ⟨#[]⟩] 246);have K:=Bk.new w #[.string ⟨#[]⟩,.string ⟨#[]⟩] 246;have B:Kp g w.heap.size w _:=(Kp.refl g _ w).alloc (yaj _) (.cells #[.string ⟨#[]⟩,.string ⟨#[]⟩] 246);have z0:w.heap.size≤_:=B.size;go_enter Tryz.func284,Tryz.ntmps284
 go_wp2_with fail
 refine (rname_any J).mono ?_;intro e k q;obtain ⟨hk,C⟩:=q.cases_;clear q J h;have z:=B.trans (hk.more z0);have s:=K.kp hk yab;have u:=z.size;have P:¬k.heap.size=w.heap.size:=by have:=s.lt;omega
 have Q:¬w.heap.size=k.heap.size:=by omega
 clear B K hk z0;rcases C with ⟨c,p,f,rfl⟩ | ⟨n,T,v,f,rfl,rfl,o⟩
 · go_wp2_with fail
   exact ⟨rfl,b.bad f z⟩
 replace b:=b.bind f;clear f;have d:=o.alloc (.cells #[.string n,.string ⟨#[]⟩] 246);have L:=zcS 35 yac;cases hi:isT (sg 35) T with
 | false =>
  have j:=may_any d L;rw [hi,yak (by decide)] at j;rw [hi,yak (by decide)] at b;go_wp2_with fail
  refine j.mono ?_;rintro e U ⟨rfl,D,hk⟩;have x:=(z.alloc u _).trans (hk.more (size_alloc u));have A:=(Bk.new k #[.string n,.string ⟨#[]⟩] 246).kp hk (by have:=o.size;omega);have y:=(s.alloc (.cells #[.string n,.string ⟨#[]⟩] 246)).kp hk yab;clear hk j o d s;obtain ⟨V,X⟩:=A.c2;obtain ⟨E,F⟩:=y.c2;have Y:=y.fz;go_wp2_with fail
  refine bodyPost_ret (v:=.agg #[.string n,.string ⟨#[]⟩]) (by simp [results,Tryz.results284,go_sem,E,F];try rfl) rfl ?_;refine b.ret rfl ?_ rfl ?_
  · refine Kp.set (Kp.set x ?_ _) ?_ _ <;> exact yaj _
  · refine Rdr.set (Rdr.set D ?_ _) ?_ _ <;> exact I
 | true =>
  have j:=may_any d L;rw [hi,yan rfl] at j;rw [hi,yan rfl] at b;go_wp2_with fail
  refine j.mono ?_;rintro e U ⟨rfl,D,hk⟩;have x:=(z.alloc u _).trans (hk.more (size_alloc u));have A:=(Bk.new k #[.string n,.string ⟨#[]⟩] 246).kp hk (by have:=o.size;omega);have y:=(s.alloc (.cells #[.string n,.string ⟨#[]⟩] 246)).kp hk yab;have G:k.heap.size≠g:=by have:=o.size;omega
  clear hk j o d s;go_wp2_with fail
  refine (rname_any D).mono ?_;intro e w3 q;obtain ⟨hk,C⟩:=q.cases_;clear q;have Z:=x.size;have M:=x.trans (hk.more Z);have N:=A.kp hk G;have O:=y.kp hk yab;clear hk A y x;rcases C with ⟨c,p,f,rfl⟩ | ⟨m,l3,v,f,rfl,rfl,h3⟩
  · go_wp2_with fail
    exact ⟨rfl,b.bad f M⟩
  replace b:=b.bind f;obtain ⟨V,X⟩:=N.c2;obtain ⟨E,F⟩:=O.c2;have fx:=N.fz;have Y:=O.fz;go_wp2_with fail
  refine bodyPost_ret (v:=.agg #[.string n,.string m]) (by simp [results,Tryz.results284,go_sem,E,F];try rfl) rfl ?_;refine b.ret rfl ?_ rfl ?_
  · refine Kp.set (Kp.set (Kp.set M u _) ?_ _) ?_ _ <;> exact yaj _
  · refine Rdr.set (Rdr.set (Rdr.set h3 (by show g<k.heap.size;omega) _) ?_ _) ?_ _ <;> exact I
end
theorem zcp {α β γ:Type} (r:Rs α) (k:α→List Tk→Rs β) (k2:β→List Tk→Rs γ):zaG (zaG r k) k2=zaG r fun a l=>zaG (k a l) k2:=by
 cases r with
 | error e=>rfl
 | ok a=>rfl
theorem ask_this:Ask zhO:=ziH rfl yac
theorem zgl (w:World) (k:Nat) (a b:ByteArray) (B:Nat) (hB:B≤w.heap.size):ziF B (w.alloc (.cells #[.int .i64 k,.string a,.string b] 222)) (.slice (some ⟨w.heap.size,0,none⟩) 1 1) [(k,a,b)] :=
 zjh w #[.int .i64 k,.string a,.string b] 222 1 3 B rfl yac hB
def ziE (N:Nat):Prop:=∀(d:Nat) (l:List Tk) (w:World) (g:Nat),l.length≤N→d≤8→Rdr w g l →
 Calls Tryz.prog 285 #[.pointer (some ⟨g,0,none⟩),.int .i64 d] w (Post (ziF w.heap.size) w.heap.size w g (zk3 d l))
def zeH (N:Nat):Prop:=∀(d:Nat) (l:List Tk) (w:World) (g:Nat),l.length≤N→d≤8→Rdr w g l →
 Calls Tryz.prog 288 #[.pointer (some ⟨g,0,none⟩),.int .i64 d] w (Post (ziF w.heap.size) w.heap.size w g (ze5 d l))
def zkf (d p:Nat) (l:List Tk):Rs (List OpP):=if d=8 then .error (13,p) else zaG (zk3 (d + 1) l) fun o r=>zaG (zaK (sg 41) r) fun _ r=>.ok (o,r)
section
variable {w:World} {g:Nat} {l:List Tk}
theorem inner_any {N:Nat} (H:ziE N) (hN:l.length≤N) (hd:d≤8) (h:Rdr w g l) :
 Calls Tryz.prog 290 #[.pointer (some ⟨g,0,none⟩),.int .i64 d,.int .i64 p] w (Post (ziF w.heap.size) w.heap.size w g (zkf d p l)):=by
 suffices A:∀R,To (Post (ziF w.heap.size) w.heap.size w g (zkf d p l)) R→Calls Tryz.prog 290 #[.pointer (some ⟨g,0,none⟩),.int .i64 d,.int .i64 p] w R from A _ fun _ _ h=>h
 intro R b;have B:=h.size;unfold zkf at b;by_cases u:d=8
 · subst u;rw [yan rfl] at b;go_enter Tryz.func290,Tryz.ntmps290
   go_wp2_with fail
   exact ⟨rfl,b.fail rfl (Kp.refl _ _ _)⟩
 · rw [yak u] at b;have C:¬((8:Int)≤(d:Int)):=by omega
   have n:=H (d + 1) l w g hN yab h;have j:(((d + 1:Nat)):Int)=(d:Int) + 1:=by omega
   rw [j] at n;go_enter Tryz.func290,Tryz.ntmps290
   go_wp2_with fail
   refine n.mono ?_;intro e E m;obtain ⟨hk,q⟩:=m.cases_;clear m n h;rcases q with ⟨c,p,f,rfl⟩ | ⟨o,F,v,f,rfl,x,y⟩
   · go_wp2_with fail
     exact ⟨rfl,b.bad f hk⟩
   replace b:=b.bind f;clear f;go_wp2_with fail
   refine (must_any y (zcS 41 yac)).mono ?_;intro e G m;obtain ⟨k,q⟩:=m.cases_;have z:=hk.trans (k.more hk.size);have s:=zcc x k B;clear m hk k x y;rcases q with ⟨c,p,f,rfl⟩ | ⟨I,J,K,f,rfl,rfl,D⟩
   · go_wp2_with fail
     exact ⟨rfl,b.bad f z⟩
   replace b:=b.bind f;go_wp2_with fail
   exact b.ret rfl z s D
theorem partT_in {l:List Tk} (h1:isT zhO l=false) (h2:isT (sg 40) l=true):ze5 d l=zkf d (hdT l).2.2 l.tail:=by
 rw [zjj,h1,h2,yak yac,yan rfl];unfold zkf zk3;by_cases b:d=8
 · rw [yan b,yan b];rfl
 · rw [yak b,yak b,zcp]
theorem zn7 {l:List Tk} (h1:isT zhO l=false) (h2:isT (sg 40) l=false):ze5 d l=zaG (zaT l) fun n r=>if isT (sg 46) r=true then zaG (zaT r.tail) fun m r=>.ok ([(3,n,m)],r) else .ok ([(2,n,⟨#[]⟩)],r):=by
 rw [zjj,h1,h2,yak yac,yak (by decide)]
theorem zn8 {l:List Tk} (h1:isT zhO l=true):ze5 d l = .ok ([(1,⟨#[]⟩,⟨#[]⟩)],l.tail):=by
 rw [zjj,h1,yan rfl]
theorem part_upto {N:Nat} (H:ziE (N-1)):zeH N:=by
 intro d l w g X J h;suffices K:∀R,To (Post (ziF w.heap.size) w.heap.size w g (ze5 d l)) R→Calls Tryz.prog 288 #[.pointer (some ⟨g,0,none⟩),.int .i64 d] w R from K _ fun _ _ h=>h
 intro R f;have Y:=h.size;have b:=may_any h ask_this;have L:l.tail.length=l.length-1:=List.length_tail;cases hi:isT zhO l with
 | true =>
  rw [zn8 hi] at f;rw [hi,yan rfl] at b;go_enter Tryz.func288,Tryz.ntmps288
  go_wp2_with fail
  refine b.mono ?_;rintro e M ⟨rfl,y,hk⟩;go_wp2_with fail
  exact f.ret rfl (hk.alloc hk.size _) (zgl _ _ _ _ _ hk.size) (y.alloc _)
 | false =>
  rw [hi,yak (by decide)] at b;go_enter Tryz.func288,Tryz.ntmps288
  go_wp2_with fail
  refine b.mono ?_;rintro e M ⟨rfl,y,D⟩;have Z:=tok_f2;go_wp2_with fail
  refine (zbY y).mono ?_;rintro e w2 ⟨rfl,hb⟩;have I:=y.below hb;have x:=D.trans ((Kp.of_below hb g).more D.size);clear hb y D b;have b:=may_any I (zcS 40 yac);cases A:isT (sg 40) l with
  | true =>
   rw [partT_in hi A] at f;rw [A,yan rfl] at b;go_wp2_with fail
   refine b.mono ?_;rintro e O ⟨rfl,E,hk⟩;have s:=x.trans (hk.more x.size);clear hk x b;go_wp2_with fail
   refine (inner_any (p:=(hdT l).2.2) H yab J E).mono ?_;intro e P q;obtain ⟨hk,z⟩:=q.cases_;have k:=s.trans (hk.more s.size);clear q hk;rcases z with ⟨c,p,j,rfl⟩ | ⟨o,l1,v,j,rfl,Q,F⟩
   · go_wp2_with fail
     exact ⟨rfl,f.fail j k⟩
   go_wp2_with fail
   exact f.ret j k (zax Q s.size) F
  | false =>
   rw [zn7 hi A] at f;rw [A,yak (by decide)] at b;go_wp2_with fail
   refine b.mono ?_;rintro e O ⟨rfl,E,hk⟩;have s:=x.trans (hk.more x.size);clear hk x b I;go_wp2_with fail
   refine (rname_any E).mono ?_;intro e P q;obtain ⟨hk,z⟩:=q.cases_;have k:=s.trans (hk.more s.size);clear q hk s;rcases z with ⟨c,p,j,rfl⟩ | ⟨n,T,v,j,rfl,rfl,F⟩
   · go_wp2_with fail
     exact ⟨rfl,f.bad j k⟩
   replace f:=f.bind j;clear j;have b:=may_any F (zcS 46 yac);cases B:isT (sg 46) T with
   | false =>
    rw [B,yak (by decide)] at f;rw [B,yak (by decide)] at b;go_wp2_with fail
    refine b.mono ?_;rintro e U ⟨rfl,G,hk⟩;have u:=k.trans (hk.more k.size);clear hk k b;go_wp2_with fail
    exact f.ret rfl (u.alloc u.size _) (zgl _ _ _ _ _ u.size) (G.alloc _)
   | true =>
    rw [B,yan rfl] at f;rw [B,yan rfl] at b;go_wp2_with fail
    refine b.mono ?_;rintro e U ⟨rfl,G,hk⟩;have u:=k.trans (hk.more k.size);clear hk k b;go_wp2_with fail
    refine (rname_any G).mono ?_;intro e w6 q;obtain ⟨hk,z⟩:=q.cases_;have C:=u.trans (hk.more u.size);clear q hk u;rcases z with ⟨c,p,j,rfl⟩ | ⟨m,l6,v,j,rfl,rfl,V⟩
    · go_wp2_with fail
      exact ⟨rfl,f.bad j C⟩
    replace f:=f.bind j;clear j;go_wp2_with fail
    exact f.ret rfl (C.alloc C.size _) (zgl _ _ _ _ _ C.size) (V.alloc _)
end
end
end Go.Proofs.YtmblgnddgmfkhaaGreat
