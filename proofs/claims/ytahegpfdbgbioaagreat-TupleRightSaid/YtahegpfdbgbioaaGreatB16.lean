import Derived.Maps.Range
import Derived.Sort.MapsRangeIn
import Derived.Shelf.AbstractIn
import Derived.Test.YtahegpfdbgbioaaGreatB15
set_option maxRecDepth 100000
set_option maxHeartbeats 4000000
namespace Go.Proofs.YtahegpfdbgbioaaGreat
open Go.RowKit Go.Maps Go.Shelf
attribute [local go_sem] Oper.semAt_some
open Go.RowKit Go.Shelf Go.Maps
attribute [local go_sem] Oper.semAt_some
def zhp (e:Ed):Value:=.agg (zaU e).toArray
def Fits (e:Ed):Prop:=(Lit.int .i64 e.1).wf=true∧(Lit.int .i64 e.2.1).wf=true
theorem zhA {e:Ed} (h:Fits e):keyOf Tryz.prog 151 (zhp e)=some (kE e):=zhz h.1 h.2
structure KeysAre {H:Type} (D0:DataW H) (L:List Ed):Prop where
 fits:∀e ∈ L,Fits e
 nodup:L.Nodup
 mem:∀e ∈ L,has D0 (kE e)=true
 only:∀kl,has D0 kl=true→∃e ∈ L,kE e=kl
structure CollE (L:List Ed) (left:Lit→Bool) (ss:List Ed):Prop where
 nodup:ss.Nodup
 mem:∀x ∈ ss,x ∈ L
 iff:∀x ∈ L,x ∈ ss↔left (kE x)=false
theorem CollE.start {H:Type} {D0:DataW H} {L:List Ed} (h:KeysAre D0 L):CollE L (has D0) []:=⟨List.nodup_nil,fun _ h=>by simp at h,fun x hx=>by simp [h.mem x hx]⟩
theorem CollE.step {H:Type} {D0:DataW H} {L ss:List Ed} {left:Lit→Bool} (hK:KeysAre D0 L) (h:CollE L left ss) {x:Ed} (hx:x ∈ L) (hl:left (kE x)=true):CollE L (fun z=>left z && !z.sameKey (kE x)) (ss ++ [x]):=by
 have hn:x ∉ ss:=fun hm=>by rw [(h.iff x hx).1 hm] at hl;cases hl
 refine ⟨List.nodup_append.2 ⟨h.nodup,by simp,fun a ha b hb=>by simp at hb;subst hb;exact fun e=>hn (e ▸ ha)⟩,fun y hy=>?_,fun y hy=>?_⟩
 · rcases List.mem_append.1 hy with hy | hy
   · exact h.mem y hy
   · simp at hy;exact hy ▸ hx
 · by_cases e:y=x
   · subst e;simp [kE,Lit.sameKey]
   · have hne:kE y≠kE x:=fun e2=>e (kE_inj (hK.fits y hy).1 (hK.fits y hy).2 (hK.fits x hx).1 (hK.fits x hx).2 e2);have hs:(kE y).sameKey (kE x)=false:=by
      simp only [kE,Lit.sameKey,beq_eq_false_iff_ne,ne_eq];exact fun e2=>hne (by simp only [kE];rw [e2])
     simp [h.iff y hy,hs,e]
theorem CollE.perm {L ss:List Ed} {left:Lit→Bool} (h:CollE L left ss) (hn:L.Nodup) (hl:∀kl,left kl=false):ss.Perm L :=
 (List.perm_ext_iff_of_nodup h.nodup hn).2 fun x=>⟨h.mem x,fun hx=>(h.iff x hx).2 (hl _)⟩
theorem CollE.short {L ss:List Ed} {left:Lit→Bool} (h:CollE L left ss) (hL:L.Nodup) {x:Ed} (hx:x ∈ L) (hl:left (kE x)=true):ss.length<L.length:=by
 have hn:x ∉ ss:=fun hm=>by rw [(h.iff x hx).1 hm] at hl;cases hl
 have hp:(L.filter fun y=>decide (y ∈ x::ss)).Perm (x::ss):=(List.perm_ext_iff_of_nodup (hL.filter _) (List.nodup_cons.2 ⟨hn,h.nodup⟩)).2 fun y=>by
  rw [List.mem_filter,decide_eq_true_eq];refine ⟨fun h2=>h2.2,fun h2=>⟨?_,h2⟩⟩;rcases List.mem_cons.1 h2 with rfl | h2
  · exact hx
  · exact h.mem y h2
 have h1:=hp.length_eq;have h2:=List.length_filter_le (fun y=>decide (y ∈ x::ss)) L;rw [List.length_cons] at h1;omega
theorem keys_in {H:Type} {R:Value→Option (DataW H × List MemPlace)} {D0:DataW H} {L:List Ed} (hK:KeysAre D0 L) (n:Nat) (hn:1≤n) (l Bm b nn:Nat) (J Jx:List Ed→World→Prop) (W:World) (hJ:AbidesFrom W.heap.size J)
 (hm:W.cell? ⟨Bm,0,none⟩=some (.map (some b))) (hown:W.ownsMap Tryz.prog 151 R b nn D0)
 (hY:∀pre x W1,J pre W1→pre.length<L.length→YieldAt Fence.wide (n-1) Tryz.prog l #[zhp x] W1 fun e W' =>
  (e = .returned (.bool true)∧J (pre ++ [x]) W'∧KeepsWalks W1 W')∨(e = .returned (.bool false)∧Jx (pre ++ [x]) W'))
 (h0:J [] W) :
 CallsIn Fence.wide n Tryz.prog 140 #[.func (.yield l) #[] #[],.pointer (some ⟨Bm,0,none⟩)] W fun e W'=>(∃v,e = .returned v) ∧
  ((∃ys,ys.Perm L∧J ys W')∨(∃pre,True∧Jx pre W')):=by
 refine callsIn_of_wp Tryz.func140 rfl trivial ?_ rfl;simp only [Tryz.ntmps140,List.size_toArray,List.length_cons,List.length_nil,Nat.reduceAdd,Nat.reduceSub,Array.replicate_succ,Array.replicate_zero,List.push_toArray,List.append_toArray,List.nil_append,List.cons_append];gi_wp2_with (first
  | (gi_at_range;refine wpListIn_range_own _ rfl _ 163 rfl 151 168 zg0 Tryz.underlying163 _ b nn _ rfl hown ?_;intro w0 hrg0 hg0 hs0)
  | fail)
 go_frame
 gi_loopw [3] (fun _ wr=>∃(left:Lit→Bool) (cnt:Nat) (ss:List Ed),wr.ranges Tryz.prog 151 R b W.heap.size nn D0 left cnt∧CollE L left ss∧J ss wr)
  (fun _ wr=>wr.rangeLeft b W.heap.size)
 case atStart =>
  exact ⟨_,_,[],hrg0,CollE.start hK,hJ [] W w0 none h0 hg0 (fun r e=>by cases e)⟩
 case round =>
  obtain ⟨left,cnt,ss,hrg,hC,hJs⟩:=hrel;gi_wp2_with (first
   | (gi_at_next;refine wpListIn_next_ranges _ rfl _ rfl 151 zg0 R (id:Value→Value) (id:Value→Value) (fun key _ _=>⟨key,rfl⟩) (fun v _ _=>⟨v,rfl⟩) b W.heap.size nn _ _ _ rfl hrg ?_ ?_)
   | fail)
  · intro hc0 hl0;gi_wp2
    go_end0
    exact ⟨⟨_,rfl⟩,.inl ⟨ss,hC.perm hK.nodup hl0,hJs⟩⟩
  · intro x c kl yd yp w2 cnt2 hkey hlk hv hat hrg2 hlt hg2 hs2 hen;obtain ⟨e,heL,rfl⟩:=hK.only kl (has_true_of_atKey hat);obtain rfl:x=zhp e:=zg0.inj hkey (zhA (hK.fits e heL));have hJ2:J ss w2:=hJ ss wr w2 (some W.heap.size) hJs hg2 (fun r e=>by cases e;exact ⟨Nat.le_refl _,hrg.iter_walk⟩);have hJ3:J ss (w2.alloc (.cells (zaU e).toArray 151)):=hJ ss w2 _ none hJ2 (World.grownBy_alloc _ _ _) (fun r e=>by cases e);have hrg3:=hrg2.of_walks (KeepsWalks.alloc w2 (.cells (zaU e).toArray 151));obtain ⟨fn,tmps,assign,body,hy,hR⟩:=hY ss e _ hJ3 (hC.short hK.nodup heL hlk);clear hs2;obtain ⟨e1,e2,e3⟩:=e;simp only [zhp,zaU] at *
    gi_wp2
    refine hR.mono ?_;rintro r W3 (⟨rfl,hJ4,hk3⟩ | ⟨rfl,hJx3⟩)
    · gi_wp2
      have hrg4:=hrg3.of_walks hk3;go_roundw
      case rel=>exact ⟨_,cnt2,ss ++ [(e1,e2,e3)],hrg4,hC.step hK heL hlk,hJ4⟩
      case measure=>rw [hrg4.left_eq,hrg.left_eq];exact hlt
    · gi_wp2
      refine bodyPost_ret (results_none rfl _ _ _) rfl ?_;exact ⟨⟨_,rfl⟩,.inr ⟨_,trivial,hJx3⟩⟩
theorem zmt {H:Type} {R:Value→Option (DataW H × List MemPlace)} {D0:DataW H} {L:List Ed} (hK:KeysAre D0 L) (n:Nat) (hn:1≤n) (Bm b nn:Nat) (w:World)
 (hm:w.cell? ⟨Bm,0,none⟩=some (.map (some b))) (hown:w.ownsMap Tryz.prog 151 R b nn D0) :
 SeqStopsK Fence.wide n Tryz.prog 140 #[.pointer (some ⟨Bm,0,none⟩)] (fun e:Ed=>#[zhp e]) KeepsWalks (fun ys=>ys.Perm L) (fun _=>True) L.length w:=fun l J Jx W hW hJ _ hY h0=>by
 have hown':W.ownsMap Tryz.prog 151 R b nn D0:=by
  have hbl:=hown.lt;obtain ⟨es,clock,hb,Ft,hs,hD⟩:=hown;exact ⟨es,clock,(hW.block b hbl).trans hb,Ft,hs,hD⟩
 exact keys_in hK n hn l Bm b nn J Jx W hJ ((hW.cell (p:=⟨Bm,0,none⟩) (World.block_lt_of_cell? w _ hm)).trans hm) hown' hY h0
theorem keys_any (m:Option Nat) (w:World):Calls Tryz.prog 91 #[.map m] w fun e w' =>
 e = .returned (.func (.func 140) #[] #[.pointer (some ⟨w.heap.size,0,none⟩)])∧w'=w.alloc (.cells #[.map m] 163):=by
 go_enter Tryz.func91,Tryz.ntmps91
 go_wp2
 go_ret
 exact ⟨rfl,rfl⟩
structure ApI (w0:World) (Bs:Nat) (pre:List Ed) (W:World):Prop where
 one:∃v,Bk W Bs #[v] 100∧W.ownsRow w0.heap.size 151 3 v pre.length (zam pre)
 below:Below w0.heap.size w0 W
theorem ApI.stay {w0 X Y:World} {Bs:Nat} {pre:List Ed} {row:Option Nat} (h:ApI w0 Bs pre X) (hg:X.grownBy Y row) (hr:∀r,row=some r→w0.heap.size≤r∧∃o:Obj,X.heap[r]? = some o∧o.isCells=false):ApI w0 Bs pre Y:=by
 obtain ⟨⟨v,h1,h2⟩,h3⟩:=h;have hr':∀r,row=some r→∃o:Obj,X.heap[r]? = some o∧o.isCells=false:=fun r e=>(hr r e).2;exact ⟨⟨v,h1.stay hg hr',zhJ h2 hg hr'⟩,h3.grown hg h3.size fun r e=>(hr r e).1⟩
theorem zm1 {w:World} {B e s n:Nat} {v:Value} {xs:List Value} (h:w.ownsRow B e s v n xs):∀(j:Nat) (o:Obj),v.ownBlock=some j→w.heap[j]? = some o→o.isCells=true:=fun j o hj ho=>by
 rcases h.2 with ⟨rfl,_⟩ | ⟨g2,cap2,cur2,rfl,_,hh2,_⟩
 · simp [Value.ownBlock] at hj
 simp only [Value.ownBlock,Option.some.injEq] at hj;subst hj;rw [hh2] at ho;cases ho;rfl
theorem zmS (W:World) (e:Ed):∀j u,(zaU e)[j]? = some u→(W.alloc (.cells (zaU e).toArray 151)).cell? (Addr.add ⟨W.heap.size,0,none⟩ j)=some u:=fun j u h=>by
 have:=(Bk.new W (zaU e).toArray 151).cell j;rw [List.getElem?_toArray,h] at this;rw [←this];by_cases h0:j=0
 · subst h0;rfl
 · simp [Addr.add,h0]
theorem zjW {w0 W w5:World} {Bs:Nat} {pre:List Ed} {x:Ed} {v v9:Value} (o:Obj) (hBs:w0.heap.size≤Bs) (h1:Bk W Bs #[v] 100) (h2:W.ownsRow w0.heap.size 151 3 v pre.length (zam pre)) (h3:Below w0.heap.size w0 W)
 (hg:(W.alloc o).grownBy w5 v.ownBlock) (h5:w5.ownsRow w0.heap.size 151 3 v9 (pre.length + 1) (zam pre ++ zaU x)) :
 KeepsOthers W (w5.setCell ⟨Bs,0,none⟩ v9)∧ApI w0 Bs (pre ++ [x]) (w5.setCell ⟨Bs,0,none⟩ v9):=by
 have hb5:Bk w5 Bs #[v] 100:=zbg (h1.alloc o) (h2.alloc o) (by decide) hg;refine ⟨((KeepsOthers.alloc W o).trans (KeepsOthers.of_grownBy hg (zm1 (h2.alloc o)))).trans (KeepsOthers.setCell _ _ _),⟨v9,?_,?_⟩,?_⟩
 · have:=hb5.set 0 v9;simpa using this
 · rw [List.length_append,ze0];have e:zam [x]=zaU x:=by simp [zam]
   rw [e];exact zaI h5 fun g hg2=>Below.heap_setCell _ _ _ _ fun e=>zdm hb5 h5 (by decide) ((show g=Bs from e) ▸ hg2)
 · exact (zaj (h3.alloc h3.size o) hg (h2.alloc o) (size_alloc h3.size) (Nat.le_refl _)).setCell hBs _
theorem appendSeq_in (m:Nat) (hm:4≤m) {H:Type} {R:Value→Option (DataW H × List MemPlace)} {D0:DataW H} {L:List Ed} (hK:KeysAre D0 L) (hL:L.length≤1000000) (Bm b nn:Nat) (w:World)
 (hmm:w.cell? ⟨Bm,0,none⟩=some (.map (some b))) (hown:w.ownsMap Tryz.prog 151 R b nn D0) :
 CallsIn Fence.wide m Tryz.prog 178 #[.slice none 0 0,.func (.func 140) #[] #[.pointer (some ⟨Bm,0,none⟩)]] w fun e w' =>
  ∃v ys,e = .returned v∧ys.Perm L∧w'.ownsRow w.heap.size 151 3 v ys.length (zam ys)∧Below w.heap.size w w':=by
 obtain ⟨i0,hi0,hz0,hz1,hz2⟩:=info_parts zf6;refine callsIn_of_wp_marks Tryz.func178 rfl trivial ?_ rfl;simp only [Tryz.ntmps178,List.size_toArray,List.length_cons,List.length_nil,Nat.reduceAdd,Nat.reduceSub,Array.replicate_succ,Array.replicate_zero,List.push_toArray,List.append_toArray,List.nil_append,List.cons_append];gi_wp2
 have hseq:=zmt hK (m-1) (by omega) Bm b nn w hmm hown;have hb0:Below w.heap.size w (w.alloc (.cells #[.slice none 0 0] 100)):=(Below.refl _ w).alloc (Nat.le_refl _) _;have x2:=Bk.new w #[.slice none 0 0] 100;have hs0:(w.alloc (.cells #[.slice none 0 0] 100)).heap.size=w.heap.size + 1:=by simp
 generalize w.alloc (.cells #[.slice none 0 0] 100)=w2 at *
 refine wpIn_rangeFunc_ownH (w0:=w) rfl (by omega) (gf:=140) (lb:=#[.pointer (some ⟨Bm,0,none⟩)]) rfl trivial (enters_of Tryz.func140 (by kernel_rfl) rfl)
  hseq (fun h k=>h.trans k) (fun W l o o' _ h2 _ h4=>KeepsWalks.putObj o' h2 h4) hb0 (fun _=>rfl)
  (ApI w w.heap.size)
  (fun _ _ _=>False)
  (fun pre X Y row hI hg hr=>hI.stay hg (fun r e=>⟨by have:=(hr r e).1;omega,(hr r e).2⟩))
  (fun _ _ _ _ _ hs _ _=>hs)
  ⟨⟨_,x2,World.ownsRow_nil _ _ _ _⟩,hb0⟩
  (fun x a' W=>∃g,Bk W g (zaU x).toArray 151∧a'={ tmps:=#[.slice none 0 0,.func (.func 140) #[] #[.pointer (some ⟨Bm,0,none⟩)],.pointer (some ⟨w.heap.size,0,none⟩),undef,.slice none 0 0,.pointer (some ⟨g,0,none⟩),.func (.func 140) #[] #[.pointer (some ⟨Bm,0,none⟩)],zhp x,undef,undef,undef,undef,undef],defers:=[] })
  (fun x a' _ X Y row hs hg hr=>by
   obtain ⟨g,h1,h2⟩:=hs;exact ⟨g,h1.stay hg (fun r e=>(hr r e).2),h2⟩)
  ?assign ?body ?done ?stop
 case assign =>
  intro l2 pre x W K hI hK2;obtain ⟨e1,e2,e3⟩:=x;simp only [zhp,zaU] at *
  gi_wp2
  exact hK2 _ _ ((KeepsOthers.alloc _ _).from _) (KeepsWalks.alloc _ _) (hI.stay (World.grownBy_alloc _ _ none) (fun r e=>by cases e)) ⟨_,Bk.new W _ _,rfl⟩
 case body =>
  rintro l2 pre x a' W hl2 ⟨r,hr⟩ hI ⟨g,hx,rfl⟩ hlt;obtain ⟨⟨v,h1,h2⟩,h3⟩:=hI;have hx0:=hx.cell 0;have hx1:=hx.cell 1;have hx2:=hx.cell 2;have hne:=zmS W x;have hone:=zb4 x;have hdn:=@zjW w W;obtain ⟨A,c,rfl,_⟩:=Rd.own h2;have c2:=h1.cell';obtain ⟨e1,e2,e3⟩:=x;simp only [zhp,zaU,List.getElem?_toArray,List.getElem?_cons_zero,List.getElem?_cons_succ] at *
  gi_wp2_with (gi_at_builtin;refine wpListIn_append_own _ rfl (.tmp 8) (.tmp 10) 100 rfl w.heap.size 151 i0 (.agg #[.int .i64 0,.int .i64 0,.bool false]) 3 24 Tryz.underlying100 hi0 hz0 hz1 hz2 rfl (by decide) _ pre.length (zam pre) rfl (h2.alloc _) ⟨W.heap.size,0,none⟩ 1 1 [.int .i64 e1,.int .i64 e2,.bool e3] rfl rfl hne hone (by simp only [maxLen];omega) (by omega) (size_alloc h3.size) ?_;intro v9 w5 hown5 hg5 _;obtain ⟨q1,q2⟩:=zjW (x:=(e1,e2,e3)) _ (Nat.le_refl _) h1 h2 h3 hg5 hown5;have hb5:=zbg (h1.alloc _) (h2.alloc _) (by decide) hg5;obtain ⟨A9,c9,rfl,_⟩:=Rd.own hown5;have f5:=hb5.fz 0;have c5:=hb5.cell')
  exact ⟨q1.from _,q1.walks,q2⟩
 case done =>
  rintro D ys W hD hp hI hK3;have hI2:=hI.stay (grownBy_putObj' W D (.deferred none)) (fun r e=>by cases e;exact ⟨by omega,_,hK3,rfl⟩);obtain ⟨⟨v,h1,h2⟩,h3⟩:=hI;have c2:=h1.cell';obtain ⟨⟨v',h1',h2'⟩,h3'⟩:=hI2;obtain rfl:v=v':=Option.some.inj ((h1.stay (grownBy_putObj' W D (.deferred none)) (fun r e=>by cases e;exact ⟨_,hK3,rfl⟩)).cell'.symm.trans h1'.cell');gi_wp2
  refine ⟨by simp,.inl ⟨_,_,rfl,run_takeDeferred hK3,?_⟩⟩;exact ⟨_,results_tmp rfl _ _ _,v,ys,rfl,hp,h2',h3'⟩
 case stop =>
  rintro D c pre W _ _ h _;exact h.elim
end Go.Proofs.YtahegpfdbgbioaaGreat
namespace Go.Proofs.YtahegpfdbgbioaaGreat
open Go.RowKit
open Go.RowKit Go.Maps
def zb3 (l:List Path):List Value:=l.flatMap zjU
theorem zgP (a b:List Path):zb3 (a ++ b)=zb3 a ++ zb3 b:=List.flatMap_append
theorem zdw {w:World} {B c n:Nat} {A:Option Addr} {l:List Path} (h:Rd w B 2 A n c (zb3 l)) {i:Nat} {s:Path} (hi:l[i]? = some s) (hn:n=l.length) :
 ∃b o,A=some ⟨b,o,none⟩∧b<B∧w.cell? ⟨b,o + i * 2,none⟩=some (.string s.1)∧w.cell? ⟨b,o + i * 2 + 1,none⟩=some (.string s.2):=by
 subst hn;obtain ⟨b,o,e,hb,hc⟩:=h.at_ (zd9 hi);have g:=fun k (hk:k<2)=>zbs zjU (sz:=2) (fun _=>rfl) hi (k:=k) hk;exact ⟨b,o,e,hb,hc _ _ (g 0 (by omega)),by rw [Nat.add_assoc];exact hc _ _ (g 1 (by omega))⟩
theorem zj3 (x:ByteArray):x.toList.isEmpty=decide (x=⟨#[]⟩):=by
 have:x.toList.isEmpty=(x.toList == (⟨#[]⟩:ByteArray).toList):=by
  have e:(⟨#[]⟩:ByteArray).toList=[]:=by decide +kernel
  rw [e];cases x.toList <;> rfl
 rw [this];exact toList_inj
theorem zhd {l:List Path} {i:Nat} {s:Path} (h:l[i]? = some s):zc1 (l.take (i + 1))=zc1 (l.take i) ++ if s.2=⟨#[]⟩ then [] else [s]:=by
 unfold zc1;rw [List.take_add_one,h,Option.toList_some,List.filter_append];by_cases e:s.2=⟨#[]⟩ <;> simp [e]
theorem zgh {l:List Path} {n:ByteArray} {i:Nat} {s:Path} (h:l[i]? = some s):zbc (l.take (i + 1)) n=zbc (l.take i) n ++ if s.2=⟨#[]⟩ then [(s.1,n)] else []:=by
 unfold zbc;rw [List.take_add_one,h,Option.toList_some,List.filter_append,List.map_append];by_cases e:s.2=⟨#[]⟩ <;> simp [e]
theorem setsP_le (l:List Path) (i:Nat):(zc1 (l.take i)).length≤i:=Nat.le_trans (List.length_filter_le _ _) (by rw [List.length_take];omega)
theorem zmT (l:List Path) (n:ByteArray) (i:Nat):(zbc (l.take i) n).length≤i:=by
 unfold zbc;rw [List.length_map];exact Nat.le_trans (List.length_filter_le _ _) (by rw [List.length_take];omega)
theorem sets_any {w:World} {As:Option Addr} {cs:Nat} {l:List Path} {nm vi ed ch:ByteArray} {vo:Value} (hvo:∃Ao no co,vo = .slice Ao no co) (h:Rd w w.heap.size 2 As l.length cs (zb3 l)) (hl:l.length≤100000) :
 Calls Tryz.prog 136 #[.agg #[.string nm,.string vi,.string ed,.string ch,.slice As l.length cs,vo]] w fun e w'=>(∃A' c',e = .returned (.slice A' (zc1 l).length c')∧w'.ownsRow w.heap.size 126 2 (.slice A' (zc1 l).length c') (zc1 l).length (zb3 (zc1 l)))∧Below w.heap.size w w':=by
 obtain ⟨Ao,no,co,rfl⟩:=hvo;obtain ⟨i0,hi0,hz0,hz1,hz2⟩:=info_parts info_sub;go_enter Tryz.func136,Tryz.ntmps136
 go_wp2_with fail
 have hb0:Below w.heap.size w (w.alloc (.cells #[.string nm,.string vi,.string ed,.string ch,.slice As l.length cs,.slice Ao no co] 149)):=(Below.refl _ w).alloc (Nat.le_refl _) _;generalize w.alloc (.cells #[.string nm,.string vi,.string ed,.string ch,.slice As l.length cs,.slice Ao no co] 149)=w0 at *
 go_loopw [3,9] (fun v vi wx=>∃j:Nat,vi = .int .i64 j∧j≤l.length∧wx.ownsRow w.heap.size 126 2 v (zc1 (l.take j)).length (zb3 (zc1 (l.take j)))∧Below w.heap.size w wx) (fun _ vi _=>l.length-(intOf vi).toNat)
 case atStart=>exact ⟨0,rfl,Nat.zero_le _,World.ownsRow_nil _ _ _ _,hb0⟩
 case round =>
  obtain ⟨j,rfl,hj,hO,hbx⟩:=hrel;by_cases hjl:j<l.length
  · have hdj:(j:Int)<(l.length:Int):=by omega
    obtain ⟨s,hs⟩:∃s,l[j]? = some s:=⟨_,List.getElem?_eq_getElem hjl⟩;obtain ⟨b,o,rfl,hb,c0,c1⟩:=zdw (h.below hbx) hs rfl;have hle:=setsP_le l j;have hsn:=Lib.hid (zhd hs);obtain ⟨A3,c3,rfl,_⟩:=Rd.own hO;have hws:=hbx.size;have hO1:=hO.alloc (.cells #[.string s.1,.string s.2] 126);have hb1:=hbx.alloc hws (.cells #[.string s.1,.string s.2] 126);have x1:=Bk.new wr #[.string s.1,.string s.2] 126;go_upto_region 5 with (fail)
    have y0:=x1.cell 0;have y1:=x1.cell 1;clear c0 c1 x1 hO hbx;generalize wr.alloc (.cells #[.string s.1,.string s.2] 126)=w1 at *
    have hq:=zj3 s.2;cases he:decide (s.2=(⟨#[]⟩:ByteArray)) with
    | true =>
     rw [he] at hq;go_wp2_with fail
     have he':=of_decide_eq_true he;refine ⟨⟨j + 1,by go_num,by omega,?_,hb1⟩,by simp [intOf];omega⟩;rw [hsn.out,if_pos he',List.append_nil];exact hO1
    | false =>
     rw [he] at hq;go_wp2_with (at_builtin;go_loud (refine zaa _ rfl (.tmp 16) (.tmp 18) 120 120 rfl w.heap.size 126 i0 (.agg #[.string .empty,.string .empty]) 2 32 Tryz.underlying120 hi0 hz0 hz1 hz2 rfl (by decide) (.slice A3 (zc1 (l.take j)).length c3) (zc1 (l.take j)).length (zb3 (zc1 (l.take j))) rfl (hO1.alloc _) _ 1 [.string s.1,.string s.2] rfl (Src.ofSlice _ Tryz.underlying120 _ 1 1 _ rfl (zbq _ _ _ _) (zdL s)) (by simp only [maxLen];omega) (by omega) (size_alloc hb1.size) ?_;intro v9 w8 hown8 hg8 hat8))
     have he':=of_decide_eq_false he;refine ⟨⟨j + 1,by go_num,by omega,?_,zaj (hb1.alloc hb1.size _) hg8 (hO1.alloc _) (size_alloc hb1.size) (Nat.le_refl _)⟩,by simp [intOf];omega⟩;rw [hsn.out,if_neg he',List.length_append,zgP];exact hown8
  · obtain rfl:j=l.length:=by omega
    have hdj:¬(((l.length:Nat):Int)<(l.length:Int)):=by omega
    rw [List.take_length] at hO;obtain ⟨A3,c3,rfl,hR⟩:=Rd.own hO;go_wp2_with fail
    go_ret
    exact ⟨⟨A3,c3,rfl,hO⟩,hbx⟩
theorem nexts_any {w:World} {As:Option Addr} {cs:Nat} {l:List Path} {nm vi ed ch:ByteArray} {vo:Value} (n:ByteArray) (hvo:∃Ao no co,vo = .slice Ao no co) (h:Rd w w.heap.size 2 As l.length cs (zb3 l)) (hl:l.length≤100000) :
 Calls Tryz.prog 137 #[.agg #[.string nm,.string vi,.string ed,.string ch,.slice As l.length cs,vo],.string n] w fun e w'=>(∃A' c',e = .returned (.slice A' (zbc l n).length c')∧w'.ownsRow w.heap.size 126 2 (.slice A' (zbc l n).length c') (zbc l n).length (zb3 (zbc l n)))∧Below w.heap.size w w':=by
 obtain ⟨Ao,no,co,rfl⟩:=hvo;obtain ⟨i0,hi0,hz0,hz1,hz2⟩:=info_parts info_sub;go_enter Tryz.func137,Tryz.ntmps137
 go_wp2_with fail
 have hb0:Below w.heap.size w (w.alloc (.cells #[.string nm,.string vi,.string ed,.string ch,.slice As l.length cs,.slice Ao no co] 149)):=(Below.refl _ w).alloc (Nat.le_refl _) _;generalize w.alloc (.cells #[.string nm,.string vi,.string ed,.string ch,.slice As l.length cs,.slice Ao no co] 149)=w0 at *
 go_loopw [5,11] (fun v vi wx=>∃j:Nat,vi = .int .i64 j∧j≤l.length∧wx.ownsRow w.heap.size 126 2 v (zbc (l.take j) n).length (zb3 (zbc (l.take j) n))∧Below w.heap.size w wx) (fun _ vi _=>l.length-(intOf vi).toNat)
 case atStart=>exact ⟨0,rfl,Nat.zero_le _,World.ownsRow_nil _ _ _ _,hb0⟩
 case round =>
  obtain ⟨j,rfl,hj,hO,hbx⟩:=hrel;by_cases hjl:j<l.length
  · have hdj:(j:Int)<(l.length:Int):=by omega
    obtain ⟨s,hs⟩:∃s,l[j]? = some s:=⟨_,List.getElem?_eq_getElem hjl⟩;obtain ⟨b,o,rfl,hb,c0,c1⟩:=zdw (h.below hbx) hs rfl;have hle:=zmT l n j;have hsn:=Lib.hid (zgh (n:=n) hs);obtain ⟨A3,c3,rfl,_⟩:=Rd.own hO;have hws:=hbx.size;have hO1:=hO.alloc (.cells #[.string s.1,.string s.2] 126);have hb1:=hbx.alloc hws (.cells #[.string s.1,.string s.2] 126);have x1:=Bk.new wr #[.string s.1,.string s.2] 126;go_upto_region 5 with (fail)
    have y0:=x1.cell 0;have y1:=x1.cell 1;clear c0 c1 x1 hO hbx;generalize wr.alloc (.cells #[.string s.1,.string s.2] 126)=w1 at *
    have hq:=zj3 s.2;cases he:decide (s.2=(⟨#[]⟩:ByteArray)) with
    | false =>
     rw [he] at hq;go_wp2_with fail
     have he':=of_decide_eq_false he;refine ⟨⟨j + 1,by go_num,by omega,?_,hb1⟩,by simp [intOf];omega⟩;rw [hsn.out,if_neg he',List.append_nil];exact hO1
    | true =>
     rw [he] at hq;go_wp2_with (at_builtin;go_loud (refine zaa _ rfl (.tmp 18) (.tmp 23) 120 120 rfl w.heap.size 126 i0 (.agg #[.string .empty,.string .empty]) 2 32 Tryz.underlying120 hi0 hz0 hz1 hz2 rfl (by decide) (.slice A3 (zbc (l.take j) n).length c3) (zbc (l.take j) n).length (zb3 (zbc (l.take j) n)) rfl (hO1.alloc _) _ 1 [.string s.1,.string n] rfl (Src.ofSlice _ Tryz.underlying120 _ 1 1 _ rfl (zbq _ _ _ _) (zdL (s.1,n))) (by simp only [maxLen];omega) (by omega) (size_alloc hb1.size) ?_;intro v9 w8 hown8 hg8 hat8))
     have he':=of_decide_eq_true he;refine ⟨⟨j + 1,by go_num,by omega,?_,zaj (hb1.alloc hb1.size _) hg8 (hO1.alloc _) (size_alloc hb1.size) (Nat.le_refl _)⟩,by simp [intOf];omega⟩;rw [hsn.out,if_pos he',List.length_append,zgP];exact hown8
  · obtain rfl:j=l.length:=by omega
    have hdj:¬(((l.length:Nat):Int)<(l.length:Int)):=by omega
    rw [List.take_length] at hO;obtain ⟨A3,c3,rfl,hR⟩:=Rd.own hO;go_wp2_with fail
    go_ret
    exact ⟨⟨A3,c3,rfl,hO⟩,hbx⟩
def zdq (ps:List Path):DataW Unit:=ps.zipIdx.foldl (fun D p=>D.put (kS p.1) (.lit (.int .i64 (p.2:Int)))) (.map [])
theorem zdW (ps:List Path) (p:Path):zdq (ps ++ [p])=(zdq ps).put (kS p) (.lit (.int .i64 (ps.length:Int))):=by
 unfold zdq;rw [List.zipIdx_append,List.foldl_append];simp
def SmP (p:Path):Prop:=p.1.size≤maxLen∧p.2.size≤maxLen
theorem zmr {p:Path} (h:SmP p):WideAt.IsKeyLit (kS p):=zdD.key (zdC h.1 h.2)
theorem zgk (ps:List Path):IsMap (zdq ps):=by
 suffices H:∀(l:List (Path × Nat)) (D:DataW Unit),IsMap D→IsMap (l.foldl (fun D p=>D.put (kS p.1) (.lit (.int .i64 (p.2:Int)))) D) from H _ _ isMap_empty
 intro l;induction l with
 | nil=>intro D h;exact h
 | cons a t ih=>intro D h;exact ih _ (h.put _ _)
theorem zco {ps:List Path} (hs:∀p ∈ ps,SmP p) {q:Path} (hq:SmP q):Maps.has (zdq ps) (kS q)=(zao ps q).isSome∧∀z,(zdq ps).atKey (kS q) z=match zao ps q with | some i=>.lit (.int .i64 (i:Int)) | none=>z:=by
 suffices H:∀n (ps:List Path),ps.length=n→(∀p ∈ ps,SmP p)→Maps.has (zdq ps) (kS q)=(zao ps q).isSome∧∀z,(zdq ps).atKey (kS q) z=match zao ps q with | some i=>.lit (.int .i64 (i:Int)) | none=>z from H _ ps rfl hs
 intro n;induction n with
 | zero =>
  intro ps hn _;rw [List.eq_nil_of_length_eq_zero hn];exact ⟨rfl,fun z=>rfl⟩
 | succ n ih =>
  intro ps hn hs;rcases List.eq_nil_or_concat ps with rfl | ⟨ps',p,rfl⟩
  · simp at hn
  · rw [List.concat_eq_append] at *
    have hp:=hs p (by simp);obtain ⟨h1,h2⟩:=ih ps' (by simpa using hn) fun x hx=>hs x (by simp [hx]);rw [zdW,zeg];by_cases e:p=q
    · subst e;rw [if_pos rfl,has_put_same (zgk _) (zmr hp)];exact ⟨rfl,fun z=>atKey_put_same (zgk _) (zmr hp) _ z⟩
    · have hne:kS q≠kS p:=fun e'=>e (kS_inj hp.1 hp.2 hq.1 hq.2 e'.symm);rw [if_neg e,has_put_other hne];exact ⟨h1,fun z=>(atKey_put_other hne _ z).trans (h2 z)⟩
def MapS (w:World) (b:Nat) (ps:List Path):Prop:=w.ownsMap Tryz.prog 126 (plainElem Tryz.prog 3) b ps.length (zdq ps)∧∀p ∈ ps,SmP p
theorem MapS.same {w w':World} {b:Nat} {ps:List Path} (h:MapS w b ps) (hb:w'.heap[b]? = w.heap[b]?):MapS w' b ps:=by
 obtain ⟨⟨es,clock,h1,h2⟩,h3⟩:=h;exact ⟨⟨es,clock,hb.trans h1,h2⟩,h3⟩
theorem MapS.lt {w:World} {b:Nat} {ps:List Path} (h:MapS w b ps):b<w.heap.size:=h.1.lt
theorem MapS.below {w w':World} {b:Nat} {ps:List Path} (h:MapS w b ps) (hb:Below w.heap.size w w'):MapS w' b ps:=h.same (hb.block b h.lt)
def relsA (l:List TypA):List (TypA × RelA):=l.flatMap fun t=>t.rels.map fun r=>(t,r)
def zan (k:List (TypA × RelA)):List Path:=k.map fun x=>(x.1.name,x.2.name)
def zdJ (k:List (TypA × RelA)):List Value:=k.flatMap fun x=>x.2.cells
theorem zlq (a b:List (TypA × RelA)):zdJ (a ++ b)=zdJ a ++ zdJ b:=List.flatMap_append
theorem zbE {l:List TypA} {i:Nat} {t:TypA} (h:l[i]? = some t):relsA (l.take (i + 1))=relsA (l.take i) ++ t.rels.map fun r=>(t,r):=by
 unfold relsA;rw [List.take_add_one,h,Option.toList_some,List.flatMap_append,List.flatMap_singleton]
theorem zdb {l:List TypA} (i:Nat):(relsA (l.take i)).length≤(relsA l).length:=by
 conv=>rhs;rw [←List.take_append_drop i l]
 unfold relsA;rw [List.flatMap_append,List.length_append];omega
structure KI (w wx:World) (done:List (TypA × RelA)):Prop where
 one:∃v,Bk wx (w.heap.size + 1 + 1 + 1) #[v,.map (some (w.heap.size + 1 + 1))] 161∧wx.ownsRow (w.heap.size + 4) 149 6 v done.length (zdJ done)
 map:MapS wx (w.heap.size + 1 + 1) (zan done)
 res:Bk wx (w.heap.size + 1) #[.slice none 0 0,.map none] 161
 below:Below w.heap.size w wx
theorem KI.alloc {w wx:World} {done:List (TypA × RelA)} (h:KI w wx done) (o:Obj):KI w (wx.alloc o) done:=by
 obtain ⟨⟨v,h1,h2⟩,h3,h4,h5⟩:=h;exact ⟨⟨v,h1.alloc o,h2.alloc o⟩,h3.below ((Below.refl _ wx).alloc (Nat.le_refl _) o),h4.alloc o,h5.alloc h5.size o⟩
theorem zhR (x:RelA):∀u ∈ x.cells,u.oneCell'=true:=zgq _ _ _ _ _ _ _ _ _ _
theorem zkQ {n:Nat} (h:n≤100000):(Lit.int .i64 (n:Int)).wf=true:=WalkArith.wf_i64 (by omega)
theorem knownOf_any {w:World} {R c:Nat} {A:Option Addr} {l:List TypA} (h:SchA w R A c l) (hR:R≤140737488351232) (hl:(relsA l).length≤100000) :
 Calls Tryz.prog 87 #[.agg #[.slice A l.length c]] w fun e w'=>(∃A' c' b,e = .returned (.agg #[.slice A' (relsA l).length c',.map (some b)])∧w.heap.size≤b ∧
  w'.ownsRow w.heap.size 149 6 (.slice A' (relsA l).length c') (relsA l).length (zdJ (relsA l))∧MapS w' b (zan (relsA l)))∧Below w.heap.size w w':=by
 have hmm:=@run_makeMap Tryz.prog;have hll:(l.length:Int)≤9223372036854775807:=by have:=h.rows.cap;have:=h.rows.capm;simp only [maxLen] at this;omega
 obtain ⟨i0,hi0,hz0,hz1,hz2⟩:=info_parts info_rel;go_enter Tryz.func87,Tryz.ntmps87
 go_wp2_with fail
 have d0:=((Bk.new w #[.slice A l.length c] 92).alloc (.cells #[.slice none 0 0,.map none] 161)).alloc (.map #[] 0) |>.alloc (.cells #[.slice none 0 0,.map (some (w.heap.size + 1 + 1))] 161);have d1:=((Bk.new (w.alloc (.cells #[.slice A l.length c] 92)) #[.slice none 0 0,.map none] 161).alloc (.map #[] 0)).alloc (.cells #[.slice none 0 0,.map (some (w.heap.size + 1 + 1))] 161);have d2:MapS (((w.alloc (.cells #[.slice A l.length c] 92)).alloc (.cells #[.slice none 0 0,.map none] 161)).alloc (.map #[] 0)) ((w.alloc (.cells #[.slice A l.length c] 92)).alloc (.cells #[.slice none 0 0,.map none] 161)).heap.size (zan []):=⟨World.ownsMap_made _ _ _ _,fun p hp=>by cases hp⟩;have d3:=Bk.new (((w.alloc (.cells #[.slice A l.length c] 92)).alloc (.cells #[.slice none 0 0,.map none] 161)).alloc (.map #[] 0)) #[.slice none 0 0,.map (some (w.heap.size + 1 + 1))] 161;replace d2:=d2.below ((Below.refl _ _).alloc (Nat.le_refl _) (.cells #[.slice none 0 0,.map (some (w.heap.size + 1 + 1))] 161));simp only [World.size_alloc] at d1 d2 d3;have hB0:Below w.heap.size w ((((w.alloc (.cells #[.slice A l.length c] 92)).alloc (.cells #[.slice none 0 0,.map none] 161)).alloc (.map #[] 0)).alloc (.cells #[.slice none 0 0,.map (some (w.heap.size + 1 + 1))] 161)):=((((Below.refl _ w).alloc (Nat.le_refl _) _).alloc (by simp) _).alloc (by simp;omega) _).alloc (by simp;omega) _;generalize (((w.alloc (.cells #[.slice A l.length c] 92)).alloc (.cells #[.slice none 0 0,.map none] 161)).alloc (.map #[] 0)).alloc (.cells #[.slice none 0 0,.map (some (w.heap.size + 1 + 1))] 161)=w0 at *
 have hK0:KI w w0 (relsA (l.take 0)):=⟨⟨_,d3,World.ownsRow_nil _ _ _ _⟩,d2,d1,hB0⟩;clear hmm d0 d1 d2 d3 hB0;go_loopw [13] (fun vi wx=>∃i:Nat,vi = .int .i64 i∧i≤l.length∧KI w wx (relsA (l.take i))) (fun vi _=>l.length-(intOf vi).toNat)
 case atStart=>exact ⟨0,rfl,Nat.zero_le _,hK0⟩
 case round =>
  obtain ⟨i,rfl,hi,hK⟩:=hrel;by_cases hil:i<l.length
  · have hdi:(i:Int)<(l.length:Int):=by omega
    obtain ⟨t,ht⟩:∃t,l[i]? = some t:=⟨_,List.getElem?_eq_getElem hil⟩;obtain ⟨b,o,rfl,t0,t1,htok⟩:=h.get ht;replace t0:=zaf t0 hK.below;replace t1:=zaf t1 hK.below;have hrs:=htok.rels;have htl:(t.rels.length:Int)≤9223372036854775807:=by have:=hrs.cap;have:=hrs.capm;simp only [maxLen] at this;omega
    have hsn:=zbE ht;have hle:=zdb (l:=l) (i + 1);rw [hsn,List.length_append,List.length_map] at hle;have hK1:=hK.alloc (.cells #[.string t.name,.slice t.A t.rels.length t.c] 146);have x1:=Bk.new wr #[.string t.name,.slice t.A t.rels.length t.c] 146;have hwl:=hK.below.size;have hwl4:w.heap.size + 4≤wr.heap.size:=by obtain ⟨v,q,_⟩:=hK.one;have:=q.lt;omega
    go_upto_region 5 with (fail)
    clear t0 t1;generalize hq5:wr.heap.size=q5 at *
    generalize wr.alloc (.cells #[.string t.name,.slice t.A t.rels.length t.c] 146)=w1 at *
    have y0:=x1.cell 0;have y1:=x1.cell 1;go_wp2_with fail
    go_loopw [20] (fun vi wx=>∃j:Nat,vi = .int .i64 j∧j≤t.rels.length∧KI w wx (relsA (l.take i) ++ (t.rels.take j).map fun r=>(t,r))∧Bk wx q5 #[.string t.name,.slice t.A t.rels.length t.c] 146) (fun vi _=>t.rels.length-(intOf vi).toNat)
    case atStart=>exact ⟨0,rfl,Nat.zero_le _,by simpa using hK1,x1⟩
    case round =>
     obtain ⟨j,rfl,hj,hKj,hX5⟩:=hrel;by_cases hjl:j<t.rels.length
     · have hdj:(j:Int)<(t.rels.length:Int):=by omega
       obtain ⟨x,hx⟩:∃x,t.rels[j]? = some x:=⟨_,List.getElem?_eq_getElem hjl⟩;obtain ⟨g,k,e5,g0,g1,g2,g3,g4,g5,hxok⟩:=(htok.up hKj.below).get hx;have htn:=htok.name;have hxn:=hxok.name;obtain ⟨dn,hdn⟩:∃dn,relsA (l.take i) ++ (t.rels.take j).map (fun r=>(t,r))=dn:=⟨_,rfl⟩;have hdl:dn.length≤99999:=by rw [←hdn,List.length_append,List.length_map,List.length_take];omega
       have hnx:Hid (relsA (l.take i) ++ (t.rels.take (j + 1)).map (fun r=>(t,r))=dn ++ [(t,x)]):=Lib.hid (by rw [List.take_add_one,hx,Option.toList_some,List.map_append,←List.append_assoc,hdn];rfl);rw [hdn] at hKj;have hdn:=Lib.hid hdn;have hwl2:w.heap.size + 4≤wr.heap.size:=by obtain ⟨v,q,_⟩:=hKj.one;have:=q.lt;omega
       have hK2:=hKj.alloc (.cells x.cells.toArray 149);have hX52:=hX5.alloc (.cells x.cells.toArray 149);have x7:=Bk.new wr x.cells.toArray 149;have hq7:wr.heap.size<(wr.alloc (.cells x.cells.toArray 149)).heap.size:=by simp
       have hq5l:=hX5.lt;have hxc:x.cells.toArray=#[.string x.name,.string x.view,.string x.edit,.string x.check,.slice x.As x.subs.length x.cs,.slice x.Ao x.ops.length x.co]:=rfl;rw [hxc] at hK2 hX52 x7 hq7;rw [e5] at *
       go_upto_region 8 with (fail)
       clear g0 g1 g2 g3 g4 g5 hKj hX5;generalize hq7e:wr.heap.size=q7 at *
       generalize wr.alloc (.cells #[.string x.name,.string x.view,.string x.edit,.string x.check,.slice x.As x.subs.length x.cs,.slice x.Ao x.ops.length x.co] 149)=w2 at *
       obtain ⟨v,hk1,hk2⟩:=hK2.one;obtain ⟨A3,c3,rfl,hR3⟩:=Rd.own hk2;have z0:=hk1.cell 0;have z1:=hk1.cell 1;have z5:=hX52.cell 0;have z7:=x7.cell 0;have hmap:=hK2.map;have hkey:keyOf Tryz.prog 126 (.agg #[.string t.name,.string x.name])=some (kS (t.name,x.name)):=zdC (s:=(t.name,x.name)) (by simp only [maxLen];omega) (by simp only [maxLen];omega);have hpl:(zan dn).length=dn.length:=by simp [zan]
       have hm1:=hmap.1;rw [hpl] at hm1;have hmb:=hmap.lt;go_upto_region 9 with (at_mapUpdate;refine wpList_mapUpdate_own _ rfl _ _ _ 159 rfl 126 3 zdD Tryz.underlying159 _ (w.heap.size + 1 + 1) dn.length _ rfl hm1 (by unfold maxLen;omega) _ _ _ rfl rfl hkey _ [] (plainElem_int Tryz.underlying3 (zkQ (by omega))) ?_;intro w3 hm3 hg3)
       have o3:∀g',g'<w2.heap.size→g'≠w.heap.size + 1 + 1→w3.heap[g']? = w2.heap[g']?:=fun g' h1 h2=>hg3.block g' h1 fun e'=>h2 (Option.some.inj e');have k3:Bk w3 (w.heap.size + 1 + 1 + 1) _ _:=(o3 _ hk1.lt (by omega)).trans hk1;have own3:w3.ownsRow (w.heap.size + 4) 149 6 (.slice A3 dn.length c3) dn.length (zdJ dn):=zaI hk2 fun g' h1=>o3 g' (hk2.lt g' h1).2 (by have:=(hk2.lt g' h1).1;omega);have res3:Bk w3 (w.heap.size + 1) _ _:=(o3 _ hK2.res.lt (by omega)).trans hK2.res;have x53:Bk w3 q5 _ _:=(o3 _ hX52.lt (by omega)).trans hX52;have x73:Bk w3 q7 _ _:=(o3 _ hq7 (by omega)).trans x7;have bl3:Below w.heap.size w w3:=hK2.below.grown hg3 hK2.below.size fun r e'=>by cases e';omega
       have hpn:zan (dn ++ [(t,x)])=zan dn ++ [(t.name,x.name)]:=by simp [zan]
       have hm4:MapS w3 (w.heap.size + 1 + 1) (zan (dn ++ [(t,x)])):=by
        refine ⟨?_,fun q hq=>?_⟩
        · rw [hpn,zdW,hpl,List.length_append,hpl];exact hm3
        · rw [hpn,List.mem_append,List.mem_singleton] at hq;rcases hq with hq | rfl
          · exact hmap.2 q hq
          · exact ⟨by simp only [maxLen];omega,by simp only [maxLen];omega⟩
       clear hm3 hmap hm1 hK2 hk1 hk2 hX52 x7 z0 z1 z5 z7 hg3 o3;have z0:=k3.cell 0;have zf:=k3.fz 0;obtain ⟨s0,s1,s2,s3,s4,s5⟩:w3.cell? ⟨q7,0,none⟩=some (.string x.name)∧w3.cell? ⟨q7,1,none⟩=some (.string x.view)∧w3.cell? ⟨q7,2,none⟩=some (.string x.edit)∧w3.cell? ⟨q7,3,none⟩=some (.string x.check)∧w3.cell? ⟨q7,4,none⟩=some (.slice x.As x.subs.length x.cs)∧w3.cell? ⟨q7,5,none⟩=some (.slice x.Ao x.ops.length x.co):=⟨x73.cell 0,x73.cell 1,x73.cell 2,x73.cell 3,x73.cell 4,x73.cell 5⟩;have hk3l:=k3.lt;go_wp2_with (at_builtin;go_loud (refine zaa _ rfl (.tmp 35) (.tmp 37) 144 144 rfl (w.heap.size + 4) 149 i0 _ 6 112 Tryz.underlying144 hi0 hz0 hz1 hz2 rfl (by decide) (.slice A3 dn.length c3) dn.length (zdJ dn) rfl (own3.alloc _) _ 1 x.cells rfl (Src.ofSlice _ Tryz.underlying144 _ 1 1 _ rfl (zeY _ _ _ _ _ _ _ _) (zhR x)) (by simp only [maxLen];omega) (by omega) (size_alloc (by omega)) ?_;intro v9 w8 hown8 hg8 hat8;obtain ⟨A9,c9,rfl,_⟩:=Rd.own hown8;have k8:=zbg (k3.alloc _) (own3.alloc _) (by decide) hg8;have y8:=k8.cell 0;have yf8:=k8.fz 0))
       have hsz8:=hg8.size;simp only [World.size_alloc] at hsz8;have o8:∀g',g'<w3.heap.size→g'<w.heap.size + 4→g'≠w.heap.size + 1 + 1 + 1→(w8.setCell ⟨w.heap.size + 1 + 1 + 1,0,none⟩ (.slice A9 (dn.length + 1) c9)).heap[g']? = w3.heap[g']?:=fun g' h1 h2 h3 =>
        ((Below.heap_setCell _ _ _ _ h3).trans (hg8.block g' (by simp;omega) fun e'=>by have:=(own3.lt g' e'.symm).1;omega)).trans (Below.heap_alloc _ _ _ h1)
       have hX9:Bk (w8.setCell ⟨w.heap.size + 1 + 1 + 1,0,none⟩ (.slice A9 (dn.length + 1) c9)) q5 _ _:=(zbg (x53.alloc _) (own3.alloc _) (by decide) hg8).other (a:=⟨w.heap.size + 1 + 1 + 1,0,none⟩) (by show q5≠w.heap.size + 1 + 1 + 1;omega) _;have hb9:Below w.heap.size w (w8.setCell ⟨w.heap.size + 1 + 1 + 1,0,none⟩ (.slice A9 (dn.length + 1) c9)):=(zaj (bl3.alloc bl3.size _) hg8 (own3.alloc _) (size_alloc bl3.size) (by omega)).setCell (by show w.heap.size≤w.heap.size + 1 + 1 + 1;omega) _;refine ⟨⟨j + 1,by go_num,by omega,?_,hX9⟩,by simp [intOf];omega⟩;rw [hnx.out];refine ⟨⟨_,by simpa using k8.set 0 (.slice A9 (dn.length + 1) c9),?_⟩,hm4.same (o8 _ hm4.lt (by omega) (by omega)),(o8 _ res3.lt (by omega) (by omega)).trans res3,hb9⟩;rw [List.length_append,zlq];have e9:zdJ [(t,x)]=x.cells:=by simp [zdJ]
       rw [e9];exact zai hown8 (by show w.heap.size + 1 + 1 + 1<_;omega) _
     · obtain rfl:j=t.rels.length:=by omega
       have hdj:¬(((t.rels.length:Nat):Int)<(t.rels.length:Int)):=by omega
       rw [List.take_length,←hsn] at hKj;go_wp2_with fail
       exact ⟨⟨i + 1,by go_num,by omega,hKj⟩,by simp [intOf];omega⟩
  · obtain rfl:i=l.length:=by omega
    have hdi:¬(((l.length:Nat):Int)<(l.length:Int)):=by omega
    rw [List.take_length] at hK;obtain ⟨v,hk1,hk2⟩:=hK.one;obtain ⟨A3,c3,rfl,hR3⟩:=Rd.own hk2;have z0:=hk1.cell 0;have z1:=hk1.cell 1;have r0:=hK.res.cell 0;have r1:=hK.res.cell 1;have rf0:=hK.res.fz 0;have rf1:=hK.res.fz 1;go_wp2_with fail
    have hw:=(hK.res.set 0 (.slice A3 (relsA l).length c3)).set 1 (.map (some (w.heap.size + 1 + 1)));obtain ⟨y0,y1⟩:=Bk.c2 hw;refine bodyPost_ret (v:=.agg #[.slice A3 (relsA l).length c3,.map (some (w.heap.size + 1 + 1))]) (by simp [results,Tryz.results87,go_sem,y0,y1];try rfl) rfl ?_;refine ⟨⟨A3,c3,w.heap.size + 1 + 1,rfl,by omega,zav (zai (zai hk2 (by show w.heap.size + 1<_;omega) _) (by show w.heap.size + 1<_;omega) _) (by omega),(hK.map.same ?_)⟩,(hK.below.setCell (by show w.heap.size≤w.heap.size + 1;omega) _).setCell (by show w.heap.size≤w.heap.size + 1;omega) _⟩;exact (Below.heap_setCell _ _ _ _ (by show w.heap.size + 1 + 1≠w.heap.size + 1;omega)).trans (Below.heap_setCell _ _ _ _ (by show w.heap.size + 1 + 1≠w.heap.size + 1;omega))
end Go.Proofs.YtahegpfdbgbioaaGreat
namespace Go.Proofs.YtahegpfdbgbioaaGreat
open Go.Shelf Go.RowKit Go.Lib Go.Sort
open Go.RowKit Go.Shelf Go.Maps Go.Sort
structure Far (w w':World):Prop where
 out:∃q os,w'=grow (w.drewN q) os
theorem Far.refl (w:World):Far w w:=⟨0,#[],by rw [grow_empty];rfl⟩
theorem Far.drew {w w':World} (h:Far w w'):Far w w'.drew:=by
 obtain ⟨q,os,rfl⟩:=h;exact ⟨q + 1,os,rfl⟩
theorem Far.alloc {w w':World} (h:Far w w') (o:Obj):Far w (w'.alloc o):=by
 obtain ⟨q,os,rfl⟩:=h;exact ⟨q,os ++ #[o],by rw [alloc_eq_grow,grow_grow]⟩
theorem Far.trans {a b c:World} (h:Far a b) (k:Far b c):Far a c:=by
 obtain ⟨q,os,rfl⟩:=h;obtain ⟨r,os2,rfl⟩:=k;exact ⟨q + r,os ++ os2,by rw [←grow_grow,←World.drewN_drewN];rfl⟩
theorem Far.cell {w w':World} (h:Far w w') {a:Addr} {v:Value} (hc:w.cell? a=some v):w'.cell? a=some v:=by
 obtain ⟨q,os,rfl⟩:=h;rw [cell?_grow _ _ _ (by exact World.block_lt_of_cell? w a hc)];exact hc
theorem znm (e:Ed) (w:World):Calls Tryz.prog 134 #[.agg (zaU e).toArray] w fun r w'=>r = .returned (.int .i64 (if e.2.2 then 1 else 0))∧w'=w.alloc (.cells (zaU e).toArray 151):=by
 obtain ⟨x,y,b⟩:=e;simp only [zaU];go_enter Tryz.func134,Tryz.ntmps134
 cases b
 · go_wp2
   go_ret
   exact ⟨rfl,rfl⟩
 · go_wp2
   go_ret
   exact ⟨rfl,rfl⟩
theorem zju {α:Type} {l:List α} {i:Nat} {x:α} (h:l[i]? = some x):i<l.length:=(List.getElem?_eq_some_iff.1 h).1
def orI:List Int→Int
 | []=>0
 | x::l=>if x=0 then orI l else x
theorem zko {l:List Int} {j:Nat} (h:∀i,i<j→l[i]? = some 0):orI l=orI (l.drop j):=by
 induction j with
 | zero=>rfl
 | succ j ih =>
  rw [ih fun i hi=>h i (by omega)];have hj:=h j (by omega);rw [List.drop_eq_getElem_cons (zju hj),orI,if_pos];exact Option.some.inj ((List.getElem?_eq_getElem _).symm.trans hj)
theorem or_is {w:World} {b n c:Nat} {l:List Int} (hn:l.length=n) (hb:n≤1000000) (h:∀i x,l[i]? = some x→w.cell? ⟨b,i,none⟩=some (.int .i64 x)) :
 Calls Tryz.prog 141 #[.slice (some ⟨b,0,none⟩) n c] w fun e w'=>e = .returned (.int .i64 (orI l))∧w'=w:=by
 go_enter Tryz.func141,Tryz.ntmps141
 go_wp2_with fail
 go_loopw [8] (fun vi wx=>∃j:Nat,vi = .int .i64 j∧j≤n∧wx=w∧∀i,i<j→l[i]? = some 0) (fun vi _=>n-(intOf vi).toNat)
 case atStart=>exact ⟨0,rfl,Nat.zero_le _,rfl,fun i hi=>by omega⟩
 case round =>
  obtain ⟨j,rfl,hj,rfl,hz⟩:=hrel;by_cases hjn:j<n
  · have hjn':(j:Int)<(n:Int):=by omega
    obtain ⟨x,hx⟩:∃x,l[j]? = some x:=⟨_,List.getElem?_eq_getElem (by omega)⟩;have c0:=h j x hx;by_cases h0:x=0
    · subst h0;have hz':∀i,i<j + 1→l[i]? = some 0:=fun i hi=>by
       by_cases e:i=j
       · rw [e,hx]
       · exact hz i (by omega)
      clear hz hx h;go_wp2_with fail
      exact ⟨⟨j + 1,by go_num,by omega,trivial,hz'⟩,by simp [intOf];omega⟩
    · have h0':(x != 0)=true:=by simpa using h0
      have ho:Hid (orI l=x):=Lib.hid (by
       rw [zko hz,List.drop_eq_getElem_cons (zju hx),orI];have e:l[j]'(zju hx)=x:=Option.some.inj ((List.getElem?_eq_getElem _).symm.trans hx);rw [if_neg (by rw [e];exact h0),e])
      clear hz hx h;go_wp2_with fail
      go_ret
      rw [ho.out];exact ⟨rfl,rfl⟩
  · obtain rfl:j=n:=by omega
    have hjn':¬(((j:Nat):Int)<(j:Int)):=by omega
    have ho:Hid (orI l=0):=Lib.hid (by rw [zko hz,List.drop_eq_nil_of_le (by omega)];rfl);clear hz h;go_wp2_with fail
    go_ret
    rw [ho.out];exact ⟨rfl,rfl⟩
def riI (e:Ed):Int:=if e.2.2 then 1 else 0
def cfE (a b:Ed):Int:=orI [compareInt a.1 b.1,compareInt a.2.1 b.2.1,compareInt (riI a) (riI b)]
theorem zdx (a b:Ed):cfE a b<0↔a.1<b.1∨(a.1=b.1∧(a.2.1<b.2.1∨(a.2.1=b.2.1∧riI a<riI b))):=by
 have h1:∀x y:Int,compareInt x y=0↔x=y:=fun x y=>by unfold compareInt;split <;> first | omega | (split <;> omega)
 have h2:∀x y:Int,compareInt x y<0↔x<y:=fun x y=>by unfold compareInt;split <;> first | omega | (split <;> omega)
 simp only [cfE,orI];by_cases e1:a.1=b.1
 · rw [if_pos ((h1 _ _).2 e1)];by_cases e2:a.2.1=b.2.1
   · rw [if_pos ((h1 _ _).2 e2)];by_cases e3:riI a=riI b
     · rw [if_pos ((h1 _ _).2 e3)];omega
     · rw [if_neg fun e=>e3 ((h1 _ _).1 e),h2];omega
   · rw [if_neg fun e=>e2 ((h1 _ _).1 e),h2];omega
 · rw [if_neg fun e=>e1 ((h1 _ _).1 e),h2];omega
theorem swoE:SWO (ltOf cfE):=by
 refine ⟨fun x=>?_,fun x y z h1 h2=>?_,fun x y z h1 h2=>?_⟩
 · simp only [ltOf,decide_eq_false_iff_not,zdx];omega
 · simp only [ltOf,decide_eq_true_eq,zdx] at *
   omega
 · simp only [ltOf,decide_eq_false_iff_not,zdx] at *
   omega
theorem compare_any (a b:Ed) (w:World):Calls Tryz.prog 92 #[.agg (zaU a).toArray,.agg (zaU b).toArray] w fun e w'=>e = .returned (.int .i64 (cfE a b))∧Far w w':=by
 have hri:=znm a;have hrb:=znm b;obtain ⟨a1,a2,a3⟩:=a;obtain ⟨b1,b2,b3⟩:=b;simp only [zaU] at *
 obtain ⟨r1,hr1⟩:∃r:Int,(if a3 then 1 else 0)=r:=⟨_,rfl⟩;obtain ⟨r2,hr2⟩:∃r:Int,(if b3 then 1 else 0)=r:=⟨_,rfl⟩;have hcf:Hid (cfE (a1,a2,a3) (b1,b2,b3)=orI [compareInt a1 b1,compareInt a2 b2,compareInt r1 r2]):=Lib.hid (by subst hr1 hr2;rfl);simp only [hr1] at hri;simp only [hr2] at hrb;clear hr1 hr2;have x1:=Bk.new w #[.int .i64 a1,.int .i64 a2,.bool a3] 151;replace x1:=x1.alloc (.cells #[.int .i64 b1,.int .i64 b2,.bool b3] 151);have x2:=Bk.new (w.alloc (.cells #[.int .i64 a1,.int .i64 a2,.bool a3] 151)) #[.int .i64 b1,.int .i64 b2,.bool b3] 151;have hF:Far w ((w.alloc (.cells #[.int .i64 a1,.int .i64 a2,.bool a3] 151)).alloc (.cells #[.int .i64 b1,.int .i64 b2,.bool b3] 151)):=((Far.refl w).alloc _).alloc _;simp only [World.size_alloc] at x2;have cm:=fun x y=>AnyG.cmp_Compare_int laysCmp x y;go_enter Tryz.func92,Tryz.ntmps92
 go_upto_region 1 with (fail)
 obtain ⟨w1,hw1⟩:∃w1,(w.alloc (.cells #[.int .i64 a1,.int .i64 a2,.bool a3] 151)).alloc (.cells #[.int .i64 b1,.int .i64 b2,.bool b3] 151)=w1:=⟨_,rfl⟩;rw [hw1] at x1 x2 hF ⊢;clear hw1;have p0:=x1.cell 0;have p1:=x1.cell 1;have p2:=x1.cell 2;have q0:=x2.cell 0;have q1:=x2.cell 1;have q2:=x2.cell 2;simp only [List.getElem?_toArray,List.getElem?_cons_zero,List.getElem?_cons_succ] at p0 p1 p2 q0 q1 q2;have hS:∀W,Far w1 W→(W.cell? ⟨w.heap.size,0,none⟩=some (.int .i64 a1)∧W.cell? ⟨w.heap.size,1,none⟩=some (.int .i64 a2)∧W.cell? ⟨w.heap.size,2,none⟩=some (.bool a3)∧W.cell? ⟨w.heap.size + 1,0,none⟩=some (.int .i64 b1)∧W.cell? ⟨w.heap.size + 1,1,none⟩=some (.int .i64 b2)∧W.cell? ⟨w.heap.size + 1,2,none⟩=some (.bool b3)∧Far w1 W) :=
  fun W h=>⟨h.cell p0,h.cell p1,h.cell p2,h.cell q0,h.cell q1,h.cell q2,h⟩
 have hor:∀(W:World) (bb:Nat) (x y z:Int),bb=W.heap.size→Calls Tryz.prog 141 #[.slice (some ⟨bb,0,none⟩) 3 3] (W.alloc (.cells #[.int .i64 x,.int .i64 y,.int .i64 z] 3)).drew fun e w'=>e = .returned (.int .i64 (orI [x,y,z]))∧w'=(W.alloc (.cells #[.int .i64 x,.int .i64 y,.int .i64 z] 3)).drew:=fun W bb x y z hbb=>hbb ▸
  or_is rfl (by omega) fun i u hi=>by
   show (W.alloc (.cells #[.int .i64 x,.int .i64 y,.int .i64 z] 3)).cell? _=_;rw [(Bk.new W #[.int .i64 x,.int .i64 y,.int .i64 z] 3).cell i];rcases i with _ | _ | _ | i <;> simp at hi ⊢ <;> exact hi
 clear x1 x2 p0 p1 p2 q0 q1 q2;go_region_held3 (fun w'=>w'.cell? ⟨w.heap.size,0,none⟩=some (.int .i64 a1)∧w'.cell? ⟨w.heap.size,1,none⟩=some (.int .i64 a2)∧w'.cell? ⟨w.heap.size,2,none⟩=some (.bool a3)∧w'.cell? ⟨w.heap.size + 1,0,none⟩=some (.int .i64 b1)∧w'.cell? ⟨w.heap.size + 1,1,none⟩=some (.int .i64 b2)∧w'.cell? ⟨w.heap.size + 1,2,none⟩=some (.bool b3)∧Far w1 w')
  (first | assumption | exact hS _ (Far.refl _).drew | exact hS _ ((Far.refl _).drew.alloc _) | exact hS _ (((Far.refl _).drew.alloc _).alloc _) | exact hS _ ((((Far.refl _).drew.alloc _).alloc _).alloc _) | fail)
  (first | (go_at_call 142;refine (cm _ _ _).mono ?_;rintro e w' ⟨rfl,rfl⟩) | (go_at_call 134;refine (hri _).mono ?_;rintro e w' ⟨rfl,rfl⟩) | (go_at_call 134;refine (hrb _).mono ?_;rintro e w' ⟨rfl,rfl⟩) | (go_at_call 141;refine (hor _ _ _ _ _ (by simp)).mono ?_;rintro e w' ⟨rfl,rfl⟩) | fail)
 go_wp2_with fail
 go_ret
 rw [hcf.out];exact ⟨rfl,(((hF.alloc _).alloc _).alloc _).drew⟩
theorem zk1 (m:Nat) (hm:6≤m) {H:Type} {R:Value→Option (DataW H × List MemPlace)} {D0:DataW H} {L:List Ed} (hK:KeysAre D0 L) (hL:L.length≤1000000) (Bm b nn:Nat) (w:World)
 (hmm:w.cell? ⟨Bm,0,none⟩=some (.map (some b))) (hown:w.ownsMap Tryz.prog 151 R b nn D0) :
 CallsIn Fence.wide m Tryz.prog 138 #[.func (.func 140) #[] #[.pointer (some ⟨Bm,0,none⟩)]] w fun e w' =>
  ∃v ys,e = .returned v∧ys.Perm L∧w'.ownsRow w.heap.size 151 3 v ys.length (zam ys)∧Below w.heap.size w w':=by
 refine callsIn_of_wp Tryz.func138 rfl trivial ?_ rfl;simp only [Tryz.ntmps138,List.size_toArray,List.length_cons,List.length_nil,Nat.reduceAdd,Nat.reduceSub,Array.replicate_succ,Array.replicate_zero,List.push_toArray,List.append_toArray,List.nil_append,List.cons_append];have h1:1≤m:=by omega
 gi_wp2
 refine ⟨trivial,(appendSeq_in (m-1) (by omega) hK hL Bm b nn _ hmm hown).mono ?_⟩;rintro e w' ⟨v,ys,rfl,hp,hrow,hb⟩;gi_wp2
 go_ret
 exact ⟨v,ys,rfl,hp,hrow,hb⟩
theorem zj6 {ys:List Ed} {t:Nat} (h:t<ys.length * 3):(zam ys)[t]? = some (flatK zaU 3 ys.toArray)[t]!:=by
 have hi:t / 3<ys.length:=by omega
 have e:=zbs zaU (sz:=3) (fun _=>rfl) (l:=ys) (i:=t / 3) (k:=t % 3) (a:=ys[t / 3]) (List.getElem?_eq_getElem hi) (by omega);rw [show t / 3 * 3 + t % 3=t by omega] at e;rw [get_flatK _ _ _ _ (by simpa using h)];show (ys.flatMap zaU)[t]? = _;rw [e];have e2:ys.toArray[t / 3]! = ys[t / 3]:=by simp [hi]
 rw [e2,List.getElem?_eq_getElem (by show t % 3<3;omega),getElem!_pos _ _ (by show t % 3<3;omega)]
theorem zmk {w:World} {B g cap:Nat} {ys:List Ed} (h:w.ownsRow B 151 3 (.slice (some ⟨g,0,none⟩) ys.length cap) ys.length (zam ys)):HoldsK zaU 3 w g 0 ys.toArray:=fun j hj=>by
 rw [size_flatK,List.size_toArray] at hj;rcases h.2 with ⟨e,_⟩ | ⟨g2,cap2,cur,e,_,hh,_,_,_,ht⟩
 · cases e
 injection e with e _ _
 injection e with e
 injection e with e _ _
 subst e;refine ⟨?_,Bk.fz hh _⟩;rw [Nat.zero_add,Bk.cell hh j,←Array.getElem?_toList,id_eq,←zj6 hj,←ht,List.getElem?_take_of_lt hj]
theorem rd_holds {w:World} {g cap:Nat} {d:Array Ed} (h:HoldsK zaU 3 w g 0 d) (hg:g<w.heap.size) (hc:d.size≤cap) (hm:cap≤maxLen):Rd w w.heap.size 3 (some ⟨g,0,none⟩) d.size cap (zam d.toList):=by
 refine ⟨by rw [ze1];simp,hc,hm,fun e=>(by cases e),fun _=>⟨g,0,rfl,hg,fun j u hj=>?_⟩⟩;have hj2:j<d.size * 3:=by
  have:=(List.getElem?_eq_some_iff.1 hj).1;rwa [ze1] at this
 rw [zj6 (by simpa using hj2)] at hj;have:=(h j (by rw [size_flatK];exact hj2)).1;rw [this];simpa using hj
theorem zk6 {w:World} {g n:Nat} {os:Array Obj} {d:Array Ed}:w.grownBy (sortWorldK zaU 3 w g 0 n d os) (some g):=by
 refine ⟨rfl,rfl,rfl,size_sortWorldK_c zaU 3 w g 0 n d os,fun k hk hne=>?_⟩;have:g≠k:=fun e=>hne (by rw [e]);rw [sortWorldK,heap_grow_old _ _ (by simpa [putRowK,putRow,mapBlock,Sort.ahead] using hk)];simp [putRowK,putRow,mapBlock,Sort.ahead,Array.getElem?_modify,this]
def zes (l:List Ed):Prop:=l.Pairwise fun a b=>cfE a b<0
theorem cfE_ne {a b:Ed} (h:a≠b) (h2:¬cfE b a<0):cfE a b<0:=by
 rw [zdx] at *
 have h3:¬(a.1=b.1∧a.2.1=b.2.1∧riI a=riI b):=fun ⟨e1,e2,e3⟩=>h (by
  refine Prod.ext e1 (Prod.ext e2 ?_);unfold riI at e3;cases ha:a.2.2 <;> cases hb:b.2.2 <;> simp [ha,hb] at e3 ⊢)
 omega
theorem znn {d:Array Ed} (hs:SortedIn (ltOf cfE) 0 d.size d) (hn:d.toList.Nodup):zes d.toList:=by
 refine List.pairwise_iff_getElem.2 fun i j hi hj hij=>?_;simp only [Array.length_toList] at hi hj;have:=hs i j (Nat.zero_le _) hij hj;simp only [ltOf,decide_eq_false_iff_not] at this;rw [getElem!_pos d i hi,getElem!_pos d j hj] at this;simp only [Array.getElem_toList];refine cfE_ne (fun e=>?_) this;exact absurd (List.pairwise_iff_getElem.1 hn i j (by simpa using hi) (by simpa using hj) hij) (by simpa using e)
theorem aggE (w:World):(isAgg 151).run Tryz.prog w = .ok true w:=Tryz.isAgg151 w
theorem sizeE (w:World):(Go.sizeOf 151).run Tryz.prog w = .ok 3 w:=Tryz.sizeOf151 w
theorem sort_any {w:World} {B g cap:Nat} {ys:List Ed} (h:w.ownsRow B 151 3 (.slice (some ⟨g,0,none⟩) ys.length cap) ys.length (zam ys)) (hn:ys.Nodup) (h0:0<ys.length) (hl:ys.length≤1000000) :
 Calls Tryz.prog 139 #[.slice (some ⟨g,0,none⟩) ys.length cap,.func (.func 92) #[] #[]] w fun e w'=>e = .returned (.tuple #[])∧∃zs:List Ed,zs.Perm ys∧zes zs ∧
  Rd w' w'.heap.size 3 (some ⟨g,0,none⟩) ys.length cap (zam zs)∧w.grownBy w' (some g):=by
 have hg:=(h.lt g rfl).2;have hH:=zmk h;have hcap:ys.length≤cap∧cap≤maxLen:=by
  obtain ⟨A,c,e,hr⟩:=Rd.own h;injection e with _ _ e
  subst e;exact ⟨hr.cap,hr.capm⟩
 have hc:CmpLays Tryz.prog 92 #[] zaU 3 cfE g 0 ys.toArray.size w:=fun m os dk _ x y=>(compare_any x y _).mono fun _ _ ⟨h1,h2⟩=>⟨h1,h2.out⟩;have:=AnyQ.slices_SortFunc zkf 3 aggE sizeE zaU (fun _=>rfl) zb4 cfE swoE 92 #[] g 0 cap ys.toArray w (enters_of Tryz.func92 (by kernel_rfl) rfl) hc hH hg (by simp;omega);rw [List.size_toArray] at this;refine this.mono ?_;rintro e w' ⟨rfl,d',n,os,hp,hs,rfl⟩;have hsz:d'.size=ys.length:=by simpa using hp.1
 have hpp:d'.toList.Perm ys:=by
  have:=hp.2.2;have e:d'.toList.take ys.length=d'.toList:=List.take_of_length_le (by simp [hsz]);simpa [e,hsz] using this
 refine ⟨rfl,d'.toList,hpp,znn (by rw [hsz];exact hs) (hpp.nodup_iff.2 hn),?_,zk6⟩;have hh:=holdsK_sortWorldK_c zaU 3 w g 0 ys.toArray d' n os hH hg (by simpa using hsz);have:=rd_holds (cap:=cap) hh (lt_sortWorldK zaU 3 w g 0 n d' os hg) (by omega) hcap.2;rwa [hsz] at this
theorem zgI (p:Option Addr) (cap:Nat) (fv:Value) (w:World):Calls Tryz.prog 199 #[.slice p 0 cap,.int .i64 0,.int .i64 0,fv] w fun e w'=>e = .returned (.tuple #[])∧w'=w:=by
 go_enter Tryz.func199,Tryz.ntmps199
 go_wp2_with fail
 refine wp_loop_rounds 1 ?_;rw [rounds_succ];go_wp2_with fail
 go_end0
 exact ⟨rfl,rfl⟩
theorem pdq_none (p:Option Addr) (cap:Nat) (lim:Int) (fv:Value) (w:World):Calls Tryz.prog 179 #[.slice p 0 cap,.int .i64 0,.int .i64 0,.int .i64 lim,fv] w fun e w'=>e = .returned (.tuple #[])∧w'=w:=by
 have hi:=fun W=>zgI p cap fv W;go_enter Tryz.func179,Tryz.ntmps179
 go_wp2_with fail
 refine wp_loop_rounds 1 ?_;rw [rounds_succ];go_wp2_with (go_at_call 199;refine (hi _).mono ?_;rintro e w' ⟨rfl,rfl⟩)
 (try simp only [Exit.inBlock,Exit.then])
 refine bodyPost_ret (results_none rfl _ _ _) rfl ?_;exact ⟨rfl,rfl⟩
theorem znu (p:Option Addr) (cap:Nat) (fv:Value) (w:World):Calls Tryz.prog 139 #[.slice p 0 cap,fv] w fun e w'=>e = .returned (.tuple #[])∧w'=w:=by
 have hp:=fun lim W=>pdq_none p cap lim fv W;have hl:∀W,Calls Tryz.prog 180 #[.int .u64 0] W fun e w'=>e = .returned (.int .i64 (Lib.bitLen 0:Nat))∧w'=W:=fun W=>by
  have h:=Any.bits_Len (SlLaysF0.n15.bits (P:=Tryz.prog) (ρ:=zfp) { zkf with }) 0 W (by omega) (by omega);exact h
 go_enter Tryz.func139,Tryz.ntmps139
 go_wp2_with (first | (go_at_call 180;refine (hl _).mono ?_;rintro e w' ⟨rfl,rfl⟩) | (go_at_call 179;refine (hp _ _).mono ?_;rintro e w' ⟨rfl,rfl⟩))
 go_end0
 exact ⟨rfl,rfl⟩
theorem sortedFunc_any {H:Type} {R:Value→Option (DataW H × List MemPlace)} {D0:DataW H} {L:List Ed} (hK:KeysAre D0 L) (hL:L.length≤1000000) (Bm b nn:Nat) (w:World)
 (hmm:w.cell? ⟨Bm,0,none⟩=some (.map (some b))) (hown:w.ownsMap Tryz.prog 151 R b nn D0) :
 Calls Tryz.prog 90 #[.func (.func 140) #[] #[.pointer (some ⟨Bm,0,none⟩)],.func (.func 92) #[] #[]] w fun e w' =>
  ∃A c zs,e = .returned (.slice A L.length c)∧zs.Perm L∧zes zs∧Rd w' w'.heap.size 3 A L.length c (zam zs)∧Below w.heap.size w w':=by
 have kc:=callsIn_wide.1 (zk1 6 (Nat.le_refl _) hK hL Bm b nn w hmm hown);go_enter Tryz.func90,Tryz.ntmps90
 go_wp2_with (go_at_call 138;refine kc.mono ?_;rintro e w1 ⟨v,ys,rfl,hp,hrow,hb⟩)
 have hl:=hp.length_eq;rcases Nat.eq_zero_or_pos ys.length with h0 | h0
 · obtain ⟨A,c,rfl,hr⟩:=Rd.own hrow;obtain rfl:ys=[]:=List.eq_nil_of_length_eq_zero h0;obtain rfl:L=[]:=hp.nil_eq.symm;have hr:=Lib.hid hr;clear hrow hp hl h0;go_wp2_with (go_at_call 139;refine (znu _ _ _ _).mono ?_;rintro e w' ⟨rfl,hw2⟩)
   subst hw2;go_ret
   exact ⟨A,c,[],rfl,List.Perm.refl _,List.Pairwise.nil,hr.out,hb⟩
 · have hc:∃g c,v = .slice (some ⟨g,0,none⟩) ys.length c:=by
    rcases hrow.2 with ⟨_,h1⟩ | ⟨g,cap,_,h1,_⟩
    · omega
    · exact ⟨g,cap,h1⟩
   obtain ⟨g,c,rfl⟩:=hc;have ks:=sort_any hrow (hp.nodup_iff.2 hK.nodup) h0 (by omega);have hg:=(hrow.lt g rfl).1;go_wp2_with (go_at_call 139;refine ks.mono ?_;rintro e w2 ⟨rfl,zs,hz,hs,hR,hgr⟩)
   go_ret
   rw [←hl];exact ⟨_,_,zs,rfl,hz.trans hp,hs,hR,hb.grown hgr hb.size fun k e=>by cases e;exact hg⟩
end Go.Proofs.YtahegpfdbgbioaaGreat
namespace Go.Proofs.YtahegpfdbgbioaaGreat
theorem zm7 (s:ByteArray):∀k,plc s k≤4 * k
 | 0=>Nat.le_refl _
 | k + 1=>by
  have ih:=zm7 s k;by_cases h:plc s k<s.size
  · rw [zaC h];have:=wd_le4 h;omega
  · rw [zeJ h];omega
theorem zgg {x:ByteArray} (h:nameS x=true):x.size≤96:=by
 have h1:=(za4.1 h).2.1;have h2:=zm7 x (cnt x);rw [(zcj x).1] at h2;omega
end Go.Proofs.YtahegpfdbgbioaaGreat
