import Derived.Deep.RegionHeld3
import Derived.Shelf.AbstractIn
import Derived.Test.YtiepddmagfmllaaGreatT16
set_option maxRecDepth 100000
set_option maxHeartbeats 4000000
namespace Go.Proofs.YtiepddmagfmllaaGreat
open Go.Shelf Go.RowKit Go.Lib Go.Sort
open Go.RowKit Go.Shelf Go.Maps Go.Sort
structure Far (w w':World):Prop where
 out:∃q os,w'=grow (w.drewN q) os
theorem Far.refl (w:World):Far w w:=⟨0,#[],by rw [grow_empty];rfl⟩
theorem Far.drew {w w':World} (h:Far w w'):Far w w'.drew:=by
 obtain ⟨q,os,rfl⟩:=h;exact ⟨q + 1,os,rfl⟩
theorem Far.alloc {w w':World} (h:Far w w') (o:Obj):Far w (w'.alloc o):=by
 obtain ⟨q,os,rfl⟩:=h;exact ⟨q,os ++ #[o],by rw [alloc_eq_grow,grow_grow]⟩
theorem Far.trans {a b c:World} (h:Far a b) (k:Far b c):Far a c:=by
 obtain ⟨q,os,rfl⟩:=h;obtain ⟨r,os2,rfl⟩:=k;exact ⟨q + r,os ++ os2,by rw [←grow_grow,←World.drewN_drewN];rfl⟩
theorem Far.cell {w w':World} (h:Far w w') {a:Addr} {v:Value} (hc:w.cell? a=some v):w'.cell? a=some v:=by
 obtain ⟨q,os,rfl⟩:=h;rw [cell?_grow _ _ _ (by exact World.block_lt_of_cell? w a hc)];exact hc
theorem zmy (e:Ed) (w:World):Calls Tryz.prog 90 #[.agg (zaT e).toArray] w fun r w'=>r = .returned (.int .i64 (if e.2.2 then 1 else 0))∧w'=w.alloc (.cells (zaT e).toArray 117):=by
 obtain ⟨x,y,b⟩:=e;simp only [zaT];go_enter Tryz.func90,Tryz.ntmps90
 cases b
 · go_wp2
   go_ret
   exact ⟨rfl,rfl⟩
 · go_wp2
   go_ret
   exact ⟨rfl,rfl⟩
theorem ziS {α:Type} {l:List α} {i:Nat} {x:α} (h:l[i]? = some x):i<l.length:=(List.getElem?_eq_some_iff.1 h).1
def orI:List Int→Int
 | []=>0
 | x::l=>if x=0 then orI l else x
theorem zjJ {l:List Int} {j:Nat} (h:∀i,i<j→l[i]? = some 0):orI l=orI (l.drop j):=by
 induction j with
 | zero=>rfl
 | succ j ih =>
  rw [ih fun i hi=>h i (by omega)];have hj:=h j (by omega);rw [List.drop_eq_getElem_cons (ziS hj),orI,if_pos];exact Option.some.inj ((List.getElem?_eq_getElem _).symm.trans hj)
theorem or_is {w:World} {b n c:Nat} {l:List Int} (hn:l.length=n) (hb:n≤1000000) (h:∀i x,l[i]? = some x→w.cell? ⟨b,i,none⟩=some (.int .i64 x)) :
 Calls Tryz.prog 97 #[.slice (some ⟨b,0,none⟩) n c] w fun e w'=>e = .returned (.int .i64 (orI l))∧w'=w:=by
 go_enter Tryz.func97,Tryz.ntmps97
 go_wp2_with fail
 go_loopw [8] (fun vi wx=>∃j:Nat,vi = .int .i64 j∧j≤n∧wx=w∧∀i,i<j→l[i]? = some 0) (fun vi _=>n-(intOf vi).toNat)
 case atStart=>exact ⟨0,rfl,Nat.zero_le _,rfl,fun i hi=>by omega⟩
 case round =>
  obtain ⟨j,rfl,hj,rfl,hz⟩:=hrel;by_cases hjn:j<n
  · have hjn':(j:Int)<(n:Int):=by omega
    obtain ⟨x,hx⟩:∃x,l[j]? = some x:=⟨_,List.getElem?_eq_getElem (by omega)⟩;have c0:=h j x hx;by_cases h0:x=0
    · subst h0;have hz':∀i,i<j + 1→l[i]? = some 0:=fun i hi=>by
       by_cases e:i=j
       · rw [e,hx]
       · exact hz i (by omega)
      clear hz hx h;go_wp2_with fail
      exact ⟨⟨j + 1,by go_num,by omega,trivial,hz'⟩,by simp [intOf];omega⟩
    · have h0':(x != 0)=true:=by simpa using h0
      have ho:Hid (orI l=x):=Lib.hid (by
       rw [zjJ hz,List.drop_eq_getElem_cons (ziS hx),orI];have e:l[j]'(ziS hx)=x:=Option.some.inj ((List.getElem?_eq_getElem _).symm.trans hx);rw [if_neg (by rw [e];exact h0),e])
      clear hz hx h;go_wp2_with fail
      go_ret
      rw [ho.out];exact ⟨rfl,rfl⟩
  · obtain rfl:j=n:=by omega
    have hjn':¬(((j:Nat):Int)<(j:Int)):=by omega
    have ho:Hid (orI l=0):=Lib.hid (by rw [zjJ hz,List.drop_eq_nil_of_le (by omega)];rfl);clear hz h;go_wp2_with fail
    go_ret
    rw [ho.out];exact ⟨rfl,rfl⟩
def riI (e:Ed):Int:=if e.2.2 then 1 else 0
def cfE (a b:Ed):Int:=orI [compareInt a.1 b.1,compareInt a.2.1 b.2.1,compareInt (riI a) (riI b)]
theorem zdn (a b:Ed):cfE a b<0↔a.1<b.1∨(a.1=b.1∧(a.2.1<b.2.1∨(a.2.1=b.2.1∧riI a<riI b))):=by
 have h1:∀x y:Int,compareInt x y=0↔x=y:=fun x y=>by unfold compareInt;split <;> first | omega | (split <;> omega)
 have h2:∀x y:Int,compareInt x y<0↔x<y:=fun x y=>by unfold compareInt;split <;> first | omega | (split <;> omega)
 simp only [cfE,orI];by_cases e1:a.1=b.1
 · rw [if_pos ((h1 _ _).2 e1)];by_cases e2:a.2.1=b.2.1
   · rw [if_pos ((h1 _ _).2 e2)];by_cases e3:riI a=riI b
     · rw [if_pos ((h1 _ _).2 e3)];omega
     · rw [if_neg fun e=>e3 ((h1 _ _).1 e),h2];omega
   · rw [if_neg fun e=>e2 ((h1 _ _).1 e),h2];omega
 · rw [if_neg fun e=>e1 ((h1 _ _).1 e),h2];omega
theorem swoE:SWO (ltOf cfE):=by
 refine ⟨fun x=>?_,fun x y z h1 h2=>?_,fun x y z h1 h2=>?_⟩
 · simp only [ltOf,decide_eq_false_iff_not,zdn];omega
 · simp only [ltOf,decide_eq_true_eq,zdn] at *
   omega
 · simp only [ltOf,decide_eq_false_iff_not,zdn] at *
   omega
theorem compare_any (a b:Ed) (w:World):Calls Tryz.prog 55 #[.agg (zaT a).toArray,.agg (zaT b).toArray] w fun e w'=>e = .returned (.int .i64 (cfE a b))∧Far w w':=by
 have hri:=zmy a;have hrb:=zmy b;obtain ⟨a1,a2,a3⟩:=a;obtain ⟨b1,b2,b3⟩:=b;simp only [zaT] at *
 obtain ⟨r1,hr1⟩:∃r:Int,(if a3 then 1 else 0)=r:=⟨_,rfl⟩;obtain ⟨r2,hr2⟩:∃r:Int,(if b3 then 1 else 0)=r:=⟨_,rfl⟩;have hcf:Hid (cfE (a1,a2,a3) (b1,b2,b3)=orI [compareInt a1 b1,compareInt a2 b2,compareInt r1 r2]):=Lib.hid (by subst hr1 hr2;rfl);simp only [hr1] at hri;simp only [hr2] at hrb;clear hr1 hr2;have x1:=Bk.new w #[.int .i64 a1,.int .i64 a2,.bool a3] 117;replace x1:=x1.alloc (.cells #[.int .i64 b1,.int .i64 b2,.bool b3] 117);have x2:=Bk.new (w.alloc (.cells #[.int .i64 a1,.int .i64 a2,.bool a3] 117)) #[.int .i64 b1,.int .i64 b2,.bool b3] 117;have hF:Far w ((w.alloc (.cells #[.int .i64 a1,.int .i64 a2,.bool a3] 117)).alloc (.cells #[.int .i64 b1,.int .i64 b2,.bool b3] 117)):=((Far.refl w).alloc _).alloc _;simp only [World.size_alloc] at x2;have cm:=fun x y=>AnyG.cmp_Compare_int laysCmp x y;go_enter Tryz.func55,Tryz.ntmps55
 go_upto_region 1 with (fail)
 obtain ⟨w1,hw1⟩:∃w1,(w.alloc (.cells #[.int .i64 a1,.int .i64 a2,.bool a3] 117)).alloc (.cells #[.int .i64 b1,.int .i64 b2,.bool b3] 117)=w1:=⟨_,rfl⟩;rw [hw1] at x1 x2 hF ⊢;clear hw1;have p0:=x1.cell 0;have p1:=x1.cell 1;have p2:=x1.cell 2;have q0:=x2.cell 0;have q1:=x2.cell 1;have q2:=x2.cell 2;simp only [List.getElem?_toArray,List.getElem?_cons_zero,List.getElem?_cons_succ] at p0 p1 p2 q0 q1 q2;have hS:∀W,Far w1 W→(W.cell? ⟨w.heap.size,0,none⟩=some (.int .i64 a1)∧W.cell? ⟨w.heap.size,1,none⟩=some (.int .i64 a2)∧W.cell? ⟨w.heap.size,2,none⟩=some (.bool a3)∧W.cell? ⟨w.heap.size + 1,0,none⟩=some (.int .i64 b1)∧W.cell? ⟨w.heap.size + 1,1,none⟩=some (.int .i64 b2)∧W.cell? ⟨w.heap.size + 1,2,none⟩=some (.bool b3)∧Far w1 W) :=
  fun W h=>⟨h.cell p0,h.cell p1,h.cell p2,h.cell q0,h.cell q1,h.cell q2,h⟩
 have hor:∀(W:World) (bb:Nat) (x y z:Int),bb=W.heap.size→Calls Tryz.prog 97 #[.slice (some ⟨bb,0,none⟩) 3 3] (W.alloc (.cells #[.int .i64 x,.int .i64 y,.int .i64 z] 3)).drew fun e w'=>e = .returned (.int .i64 (orI [x,y,z]))∧w'=(W.alloc (.cells #[.int .i64 x,.int .i64 y,.int .i64 z] 3)).drew:=fun W bb x y z hbb=>hbb ▸
  or_is rfl (by omega) fun i u hi=>by
   show (W.alloc (.cells #[.int .i64 x,.int .i64 y,.int .i64 z] 3)).cell? _=_;rw [(Bk.new W #[.int .i64 x,.int .i64 y,.int .i64 z] 3).cell i];rcases i with _ | _ | _ | i <;> simp at hi ⊢ <;> exact hi
 clear x1 x2 p0 p1 p2 q0 q1 q2;go_region_held3 (fun w'=>w'.cell? ⟨w.heap.size,0,none⟩=some (.int .i64 a1)∧w'.cell? ⟨w.heap.size,1,none⟩=some (.int .i64 a2)∧w'.cell? ⟨w.heap.size,2,none⟩=some (.bool a3)∧w'.cell? ⟨w.heap.size + 1,0,none⟩=some (.int .i64 b1)∧w'.cell? ⟨w.heap.size + 1,1,none⟩=some (.int .i64 b2)∧w'.cell? ⟨w.heap.size + 1,2,none⟩=some (.bool b3)∧Far w1 w')
  (first | assumption | exact hS _ (Far.refl _).drew | exact hS _ ((Far.refl _).drew.alloc _) | exact hS _ (((Far.refl _).drew.alloc _).alloc _) | exact hS _ ((((Far.refl _).drew.alloc _).alloc _).alloc _) | fail)
  (first | (go_at_call 98;refine (cm _ _ _).mono ?_;rintro e w' ⟨rfl,rfl⟩) | (go_at_call 90;refine (hri _).mono ?_;rintro e w' ⟨rfl,rfl⟩) | (go_at_call 90;refine (hrb _).mono ?_;rintro e w' ⟨rfl,rfl⟩) | (go_at_call 97;refine (hor _ _ _ _ _ (by simp)).mono ?_;rintro e w' ⟨rfl,rfl⟩) | fail)
 go_wp2_with fail
 go_ret
 rw [hcf.out];exact ⟨rfl,(((hF.alloc _).alloc _).alloc _).drew⟩
theorem zkk (m:Nat) (hm:6≤m) {H:Type} {R:Value→Option (DataW H × List MemPlace)} {D0:DataW H} {L:List Ed} (hK:KeysAre D0 L) (hL:L.length≤1000000) (Bm b nn:Nat) (w:World)
 (hmm:w.cell? ⟨Bm,0,none⟩=some (.map (some b))) (hown:w.ownsMap Tryz.prog 117 R b nn D0) :
 CallsIn Fence.wide m Tryz.prog 94 #[.func (.func 96) #[] #[.pointer (some ⟨Bm,0,none⟩)]] w fun e w' =>
  ∃v ys,e = .returned v∧ys.Perm L∧w'.ownsRow w.heap.size 117 3 v ys.length (zan ys)∧Below w.heap.size w w':=by
 refine callsIn_of_wp Tryz.func94 rfl trivial ?_ rfl;simp only [Tryz.ntmps94,List.size_toArray,List.length_cons,List.length_nil,Nat.reduceAdd,Nat.reduceSub,Array.replicate_succ,Array.replicate_zero,List.push_toArray,List.append_toArray,List.nil_append,List.cons_append];have h1:1≤m:=by omega
 gi_wp2
 refine ⟨trivial,(appendSeq_in (m-1) (by omega) hK hL Bm b nn _ hmm hown).mono ?_⟩;rintro e w' ⟨v,ys,rfl,hp,hrow,hb⟩;gi_wp2
 go_ret
 exact ⟨v,ys,rfl,hp,hrow,hb⟩
theorem zjt {ys:List Ed} {t:Nat} (h:t<ys.length * 3):(zan ys)[t]? = some (flatK zaT 3 ys.toArray)[t]!:=by
 have hi:t / 3<ys.length:=by omega
 have e:=za6 zaT (sz:=3) (fun _=>rfl) (l:=ys) (i:=t / 3) (k:=t % 3) (a:=ys[t / 3]) (List.getElem?_eq_getElem hi) (by omega);rw [show t / 3 * 3 + t % 3=t by omega] at e;rw [get_flatK _ _ _ _ (by simpa using h)];show (ys.flatMap zaT)[t]? = _;rw [e];have e2:ys.toArray[t / 3]! = ys[t / 3]:=by simp [hi]
 rw [e2,List.getElem?_eq_getElem (by show t % 3<3;omega),getElem!_pos _ _ (by show t % 3<3;omega)]
theorem zlA {w:World} {B g cap:Nat} {ys:List Ed} (h:w.ownsRow B 117 3 (.slice (some ⟨g,0,none⟩) ys.length cap) ys.length (zan ys)):HoldsK zaT 3 w g 0 ys.toArray:=fun j hj=>by
 rw [size_flatK,List.size_toArray] at hj;rcases h.2 with ⟨e,_⟩ | ⟨g2,cap2,cur,e,_,hh,_,_,_,ht⟩
 · cases e
 injection e with e _ _
 injection e with e
 injection e with e _ _
 subst e;refine ⟨?_,Bk.fz hh _⟩;rw [Nat.zero_add,Bk.cell hh j,←Array.getElem?_toList,id_eq,←zjt hj,←ht,List.getElem?_take_of_lt hj]
theorem rd_holds {w:World} {g cap:Nat} {d:Array Ed} (h:HoldsK zaT 3 w g 0 d) (hg:g<w.heap.size) (hc:d.size≤cap) (hm:cap≤maxLen):Rd w w.heap.size 3 (some ⟨g,0,none⟩) d.size cap (zan d.toList):=by
 refine ⟨by rw [zeK];simp,hc,hm,fun e=>(by cases e),fun _=>⟨g,0,rfl,hg,fun j u hj=>?_⟩⟩;have hj2:j<d.size * 3:=by
  have:=(List.getElem?_eq_some_iff.1 hj).1;rwa [zeK] at this
 rw [zjt (by simpa using hj2)] at hj;have:=(h j (by rw [size_flatK];exact hj2)).1;rw [this];simpa using hj
theorem zkq {w:World} {g n:Nat} {os:Array Obj} {d:Array Ed}:w.grownBy (sortWorldK zaT 3 w g 0 n d os) (some g):=by
 refine ⟨rfl,rfl,rfl,size_sortWorldK_c zaT 3 w g 0 n d os,fun k hk hne=>?_⟩;have:g≠k:=fun e=>hne (by rw [e]);rw [sortWorldK,heap_grow_old _ _ (by simpa [putRowK,putRow,mapBlock,Sort.ahead] using hk)];simp [putRowK,putRow,mapBlock,Sort.ahead,Array.getElem?_modify,this]
def zec (l:List Ed):Prop:=l.Pairwise fun a b=>cfE a b<0
theorem cfE_ne {a b:Ed} (h:a≠b) (h2:¬cfE b a<0):cfE a b<0:=by
 rw [zdn] at *
 have h3:¬(a.1=b.1∧a.2.1=b.2.1∧riI a=riI b):=fun ⟨e1,e2,e3⟩=>h (by
  refine Prod.ext e1 (Prod.ext e2 ?_);unfold riI at e3;cases ha:a.2.2 <;> cases hb:b.2.2 <;> simp [ha,hb] at e3 ⊢)
 omega
theorem zmz {d:Array Ed} (hs:SortedIn (ltOf cfE) 0 d.size d) (hn:d.toList.Nodup):zec d.toList:=by
 refine List.pairwise_iff_getElem.2 fun i j hi hj hij=>?_;simp only [Array.length_toList] at hi hj;have:=hs i j (Nat.zero_le _) hij hj;simp only [ltOf,decide_eq_false_iff_not] at this;rw [getElem!_pos d i hi,getElem!_pos d j hj] at this;simp only [Array.getElem_toList];refine cfE_ne (fun e=>?_) this;exact absurd (List.pairwise_iff_getElem.1 hn i j (by simpa using hi) (by simpa using hj) hij) (by simpa using e)
theorem aggE (w:World):(isAgg 117).run Tryz.prog w = .ok true w:=Tryz.isAgg117 w
theorem sizeE (w:World):(Go.sizeOf 117).run Tryz.prog w = .ok 3 w:=Tryz.sizeOf117 w
theorem sort_any {w:World} {B g cap:Nat} {ys:List Ed} (h:w.ownsRow B 117 3 (.slice (some ⟨g,0,none⟩) ys.length cap) ys.length (zan ys)) (hn:ys.Nodup) (h0:0<ys.length) (hl:ys.length≤1000000) :
 Calls Tryz.prog 95 #[.slice (some ⟨g,0,none⟩) ys.length cap,.func (.func 55) #[] #[]] w fun e w'=>e = .returned (.tuple #[])∧∃zs:List Ed,zs.Perm ys∧zec zs ∧
  Rd w' w'.heap.size 3 (some ⟨g,0,none⟩) ys.length cap (zan zs)∧w.grownBy w' (some g):=by
 have hg:=(h.lt g rfl).2;have hH:=zlA h;have hcap:ys.length≤cap∧cap≤maxLen:=by
  obtain ⟨A,c,e,hr⟩:=Rd.own h;injection e with _ _ e
  subst e;exact ⟨hr.cap,hr.capm⟩
 have hc:CmpLays Tryz.prog 55 #[] zaT 3 cfE g 0 ys.toArray.size w:=fun m os dk _ x y=>(compare_any x y _).mono fun _ _ ⟨h1,h2⟩=>⟨h1,h2.out⟩;have:=AnyQ.slices_SortFunc zjB 3 aggE sizeE zaT (fun _=>rfl) zb1 cfE swoE 55 #[] g 0 cap ys.toArray w (enters_of Tryz.func55 (by kernel_rfl) rfl) hc hH hg (by simp;omega);rw [List.size_toArray] at this;refine this.mono ?_;rintro e w' ⟨rfl,d',n,os,hp,hs,rfl⟩;have hsz:d'.size=ys.length:=by simpa using hp.1
 have hpp:d'.toList.Perm ys:=by
  have:=hp.2.2;have e:d'.toList.take ys.length=d'.toList:=List.take_of_length_le (by simp [hsz]);simpa [e,hsz] using this
 refine ⟨rfl,d'.toList,hpp,zmz (by rw [hsz];exact hs) (hpp.nodup_iff.2 hn),?_,zkq⟩;have hh:=holdsK_sortWorldK_c zaT 3 w g 0 ys.toArray d' n os hH hg (by simpa using hsz);have:=rd_holds (cap:=cap) hh (lt_sortWorldK zaT 3 w g 0 n d' os hg) (by omega) hcap.2;rwa [hsz] at this
theorem zgg (p:Option Addr) (cap:Nat) (fv:Value) (w:World):Calls Tryz.prog 151 #[.slice p 0 cap,.int .i64 0,.int .i64 0,fv] w fun e w'=>e = .returned (.tuple #[])∧w'=w:=by
 go_enter Tryz.func151,Tryz.ntmps151
 go_wp2_with fail
 refine wp_loop_rounds 1 ?_;rw [rounds_succ];go_wp2_with fail
 go_end0
 exact ⟨rfl,rfl⟩
theorem pdq_none (p:Option Addr) (cap:Nat) (lim:Int) (fv:Value) (w:World):Calls Tryz.prog 132 #[.slice p 0 cap,.int .i64 0,.int .i64 0,.int .i64 lim,fv] w fun e w'=>e = .returned (.tuple #[])∧w'=w:=by
 have hi:=fun W=>zgg p cap fv W;go_enter Tryz.func132,Tryz.ntmps132
 go_wp2_with fail
 refine wp_loop_rounds 1 ?_;rw [rounds_succ];go_wp2_with (go_at_call 151;refine (hi _).mono ?_;rintro e w' ⟨rfl,rfl⟩)
 (try simp only [Exit.inBlock,Exit.then])
 refine bodyPost_ret (results_none rfl _ _ _) rfl ?_;exact ⟨rfl,rfl⟩
theorem zmH (p:Option Addr) (cap:Nat) (fv:Value) (w:World):Calls Tryz.prog 95 #[.slice p 0 cap,fv] w fun e w'=>e = .returned (.tuple #[])∧w'=w:=by
 have hp:=fun lim W=>pdq_none p cap lim fv W;have hl:∀W,Calls Tryz.prog 133 #[.int .u64 0] W fun e w'=>e = .returned (.int .i64 (Lib.bitLen 0:Nat))∧w'=W:=fun W=>by
  have h:=Any.bits_Len (SlLaysF0.n15.bits (P:=Tryz.prog) (ρ:=ze5) { zjB with }) 0 W (by omega) (by omega);exact h
 go_enter Tryz.func95,Tryz.ntmps95
 go_wp2_with (first | (go_at_call 133;refine (hl _).mono ?_;rintro e w' ⟨rfl,rfl⟩) | (go_at_call 132;refine (hp _ _).mono ?_;rintro e w' ⟨rfl,rfl⟩))
 go_end0
 exact ⟨rfl,rfl⟩
theorem sortedFunc_any {H:Type} {R:Value→Option (DataW H × List MemPlace)} {D0:DataW H} {L:List Ed} (hK:KeysAre D0 L) (hL:L.length≤1000000) (Bm b nn:Nat) (w:World)
 (hmm:w.cell? ⟨Bm,0,none⟩=some (.map (some b))) (hown:w.ownsMap Tryz.prog 117 R b nn D0) :
 Calls Tryz.prog 53 #[.func (.func 96) #[] #[.pointer (some ⟨Bm,0,none⟩)],.func (.func 55) #[] #[]] w fun e w' =>
  ∃A c zs,e = .returned (.slice A L.length c)∧zs.Perm L∧zec zs∧Rd w' w'.heap.size 3 A L.length c (zan zs)∧Below w.heap.size w w':=by
 have kc:=callsIn_wide.1 (zkk 6 (Nat.le_refl _) hK hL Bm b nn w hmm hown);go_enter Tryz.func53,Tryz.ntmps53
 go_wp2_with (go_at_call 94;refine kc.mono ?_;rintro e w1 ⟨v,ys,rfl,hp,hrow,hb⟩)
 have hl:=hp.length_eq;rcases Nat.eq_zero_or_pos ys.length with h0 | h0
 · obtain ⟨A,c,rfl,hr⟩:=Rd.own hrow;obtain rfl:ys=[]:=List.eq_nil_of_length_eq_zero h0;obtain rfl:L=[]:=hp.nil_eq.symm;have hr:=Lib.hid hr;clear hrow hp hl h0;go_wp2_with (go_at_call 95;refine (zmH _ _ _ _).mono ?_;rintro e w' ⟨rfl,hw2⟩)
   subst hw2;go_ret
   exact ⟨A,c,[],rfl,List.Perm.refl _,List.Pairwise.nil,hr.out,hb⟩
 · have hc:∃g c,v = .slice (some ⟨g,0,none⟩) ys.length c:=by
    rcases hrow.2 with ⟨_,h1⟩ | ⟨g,cap,_,h1,_⟩
    · omega
    · exact ⟨g,cap,h1⟩
   obtain ⟨g,c,rfl⟩:=hc;have ks:=sort_any hrow (hp.nodup_iff.2 hK.nodup) h0 (by omega);have hg:=(hrow.lt g rfl).1;go_wp2_with (go_at_call 95;refine ks.mono ?_;rintro e w2 ⟨rfl,zs,hz,hs,hR,hgr⟩)
   go_ret
   rw [←hl];exact ⟨_,_,zs,rfl,hz.trans hp,hs,hR,hb.grown hgr hb.size fun k e=>by cases e;exact hg⟩
end Go.Proofs.YtiepddmagfmllaaGreat
namespace Go.Proofs.YtiepddmagfmllaaGreat
open Go.RowKit Go.Maps
open Go.RowKit Go.Maps
def unitE:Value→Option (DataW Unit × List MemPlace):=unitElem
structure FoundM (W:World) (mb:Nat) (E:List Ed) (N:Nat):Prop where
 out:∃nn D0 L,nn≤N∧W.ownsMap Tryz.prog 117 unitE mb nn D0∧KeysAre D0 L∧∀e,e ∈ L↔e ∈ E
theorem FoundM.isMap {W:World} {mb N:Nat} {E:List Ed} (h:FoundM W mb E N):∃es clock,W.heap[mb]? = some (.map es clock):=by
 obtain ⟨_,_,_,_,⟨es,clock,hb,_⟩,_⟩:=h.out;exact ⟨es,clock,hb⟩
theorem FoundM.same {W W':World} {mb N:Nat} {E:List Ed} (h:FoundM W mb E N) (hb:W'.heap[mb]? = W.heap[mb]?):FoundM W' mb E N:=by
 obtain ⟨nn,D0,L,h1,⟨es,clock,h2,h3⟩,h4⟩:=h.out;exact ⟨nn,D0,L,h1,⟨es,clock,hb.trans h2,h3⟩,h4⟩
theorem FoundM.lt {W:World} {mb N:Nat} {E:List Ed} (h:FoundM W mb E N):mb<W.heap.size:=by
 obtain ⟨_,_,h⟩:=h.isMap;exact (Array.getElem?_eq_some_iff.1 h).1
theorem FoundM.more {W:World} {mb N N':Nat} {E:List Ed} (h:FoundM W mb E N) (hN:N≤N'):FoundM W mb E N':=by
 obtain ⟨nn,D0,L,h1,h2⟩:=h.out;exact ⟨nn,D0,L,by omega,h2⟩
theorem kE_lit {e:Ed} (h:Fits e):WideAt.IsKeyLit (kE e):=zgu.key (zg2 h)
theorem KeysAre.put {H:Type} {D0 d:DataW H} {L:List Ed} (hm:IsMap D0) (h:KeysAre D0 L) {e:Ed} (he:Fits e):∃L',KeysAre (D0.put (kE e) d) L'∧∀x,x ∈ L'↔x ∈ L∨x=e:=by
 have h1:∀x,Fits x→(has (D0.put (kE e) d) (kE x)=true↔has D0 (kE x)=true∨x=e):=fun x hx=>by
  by_cases e1:x=e
  · subst e1;simp [has_put_same hm (kE_lit he)]
  · rw [has_put_other fun e2=>e1 (kE_inj hx.1 hx.2 he.1 he.2 e2)];simp [e1]
 have h2:∀kl,has (D0.put (kE e) d) kl=true→has D0 kl=true∨kl=kE e:=fun kl hk=>by
  by_cases e1:kl=kE e
  · exact .inr e1
  · rw [has_put_other e1] at hk;exact .inl hk
 by_cases hL:e ∈ L
 · refine ⟨L,⟨h.fits,h.nodup,fun x hx=>(h1 x (h.fits x hx)).2 (.inl (h.mem x hx)),fun kl hk=>?_⟩,fun x=>⟨.inl,fun h3=>h3.elim id fun e1=>e1 ▸ hL⟩⟩;rcases h2 kl hk with hk | rfl
   · exact h.only kl hk
   · exact ⟨e,hL,rfl⟩
 · have hf:∀x ∈ L ++ [e],Fits x:=fun x hx=>by
    rcases List.mem_append.1 hx with hx | hx
    · exact h.fits x hx
    · simp at hx;exact hx ▸ he
   refine ⟨L ++ [e],⟨hf,List.nodup_append.2 ⟨h.nodup,by simp,fun a ha b hb=>by simp at hb;subst hb;exact fun e1=>hL (e1 ▸ ha)⟩,fun x hx=>(h1 x (hf x hx)).2 ?_,fun kl hk=>?_⟩,fun x=>by simp⟩
   · rcases List.mem_append.1 hx with hx | hx
     · exact .inl (h.mem x hx)
     · simp at hx;exact .inr hx
   · rcases h2 kl hk with hk | rfl
     · obtain ⟨x,hx,e1⟩:=h.only kl hk;exact ⟨x,List.mem_append_left _ hx,e1⟩
     · exact ⟨e,by simp,rfl⟩
theorem FoundM.made (w:World):FoundM (w.alloc (.map #[] 0)) w.heap.size [] 0:=⟨0,_,[],Nat.le_refl _,World.ownsMap_made _ _ _ _,⟨fun _ h=>(by cases h),List.nodup_nil,fun _ h=>(by cases h),fun kl h=>(by simp [has] at h)⟩,fun _=>Iff.rfl⟩
structure EW (Wk X W:World) (E:List Ed) (N:Nat):Prop where
 below:Below Wk.heap.size Wk W
 found:FoundM W Wk.heap.size E N
 mapX:∃es clock,X.heap[Wk.heap.size]? = some (.map es clock)
 size:X.heap.size≤W.heap.size
 same:∀g,g<X.heap.size→g≠Wk.heap.size→W.heap[g]? = X.heap[g]?
section
variable {Wk X W W':World} {E E':List Ed} {N N':Nat}
theorem EW.base (h:EW Wk X W E N):EW Wk W W E N:=⟨h.below,h.found,h.found.isMap,Nat.le_refl _,fun _ _ _=>rfl⟩
theorem EW.join (h:EW Wk X W E N) (k:EW Wk W W' E' N'):EW Wk X W' E' N':=⟨k.below,k.found,h.mapX,Nat.le_trans h.size k.size,fun g h1 h2=>(k.same g (Nat.lt_of_lt_of_le h1 h.size) h2).trans (h.same g h1 h2)⟩
theorem EW.call (h:EW Wk X W E N) (hb:Below W.heap.size W W'):EW Wk X W' E N :=
 ⟨h.below.trans (hb.mono (by have:=h.below.size;omega)),h.found.same (hb.block _ h.found.lt),h.mapX,Nat.le_trans h.size hb.size,fun g h1 h2=>(hb.block g (by have:=h.size;omega)).trans (h.same g h1 h2)⟩
theorem EW.alloc (h:EW Wk X W E N) (o:Obj):EW Wk X (W.alloc o) E N:=h.call ((Below.refl _ W).alloc (Nat.le_refl _) o)
theorem EW.more (h:EW Wk X W E N) (hN:N≤N'):EW Wk X W E N':=⟨h.below,h.found.more hN,h.mapX,h.size,h.same⟩
theorem EW.turn (h:EW Wk X W E N) (hg:W.grownBy W' (some Wk.heap.size)) (hf:FoundM W' Wk.heap.size E' N'):EW Wk X W' E' N' :=
 ⟨h.below.grown hg h.below.size fun k e=>by cases e;exact Nat.le_refl _,hf,h.mapX,Nat.le_trans h.size hg.size,fun g h1 h2=>(hg.block g (by have:=h.size;omega) fun e=>h2 (Option.some.inj e)).trans (h.same g h1 h2)⟩
theorem EW.bk {b:Nat} {cs:Array Value} {t:TypeId} (h:EW Wk X W E N) (hb:Bk X b cs t):Bk W b cs t:=(h.same b hb.lt fun e=>by
 obtain ⟨es,cl,hm⟩:=h.mapX;rw [←e,show X.heap[b]? = _ from hb] at hm;cases hm).trans hb
theorem EW.cell {a:Addr} {v:Value} (h:EW Wk X W E N) (hc:X.cell? a=some v):W.cell? a=some v:=by
 have hl:=World.block_lt_of_cell? X a hc;have hne:a.block≠Wk.heap.size:=fun e=>by
  obtain ⟨es,cl,hm⟩:=h.mapX;unfold World.cell? at hc;rw [e,hm] at hc;simp at hc
 exact (World.cell?_of_block (h.same _ hl hne)).trans hc
theorem EW.rd {sz n c:Nat} {A:Option Addr} {xs:List Value} (h:EW Wk X W E N) (hr:Rd X X.heap.size sz A n c xs):Rd W W.heap.size sz A n c xs :=
 ⟨hr.len,hr.cap,hr.capm,hr.nil,fun hn=>by
  obtain ⟨b,o,e,hb,hc⟩:=hr.at_ hn;exact ⟨b,o,e,Nat.lt_of_lt_of_le hb h.size,fun j u hj=>h.cell (hc j u hj)⟩⟩
end
def relsD (ps:List Path) (rs:List RelI) (xs:List (TypA × RelA)):List Ed:=xs.zipIdx.flatMap fun x=>relE ps rs x.1.1.name x.1.2.says x.2
theorem zgD (ps:List Path) (rs:List RelI) (xs:List (TypA × RelA)) (x:TypA × RelA):relsD ps rs (xs ++ [x])=relsD ps rs xs ++ relE ps rs x.1.name x.2.says xs.length:=by
 unfold relsD;rw [List.zipIdx_append,List.flatMap_append];simp
def zdh (ps:List Path) (rs:List RelI) (tn:ByteArray) (r:RelI) (f k:Nat):List Ed:=((r.ops.take k).zipIdx).flatMap fun x=>opsE ps rs tn r f x.2 x.1
theorem zgC {ps:List Path} {rs:List RelI} {tn:ByteArray} {r:RelI} {f k:Nat} {o:OpI} (h:r.ops[k]? = some o):zdh ps rs tn r f (k + 1)=zdh ps rs tn r f k ++ opsE ps rs tn r f k o:=by
 have hk:k<r.ops.length:=(List.getElem?_eq_some_iff.1 h).1;unfold zdh;rw [List.take_add_one,h,Option.toList_some,List.zipIdx_append,List.flatMap_append,List.length_take,Nat.min_eq_left (by omega)];simp
theorem zh4 {ps:List Path} {rs:List RelI} {tn:ByteArray} {r:RelI} {f:Nat}:zdh ps rs tn r f r.ops.length=relE ps rs tn r f:=by
 unfold zdh relE;rw [List.take_length]
theorem zaO (l:List TypA):(relsA l).map (fun x=>(x.1.says,x.2.says))=zaz (l.map TypA.says):=by
 unfold zaz relsA;induction l with
 | nil=>rfl
 | cons t r ih =>
  rw [List.map_cons,List.flatMap_cons,List.flatMap_cons,List.map_append,ih];congr 1
  simp [TypA.says]
theorem zfD (l:List TypA):zaN (l.map TypA.says)=relsD (zao (relsA l)) ((relsA l).map fun x=>x.2.says) (relsA l):=by
 have h1:=(zaO l).symm;unfold zaN relsD;rw [zap,h1,List.map_map,List.map_map,List.zipIdx_map,List.flatMap_map];rfl
def ze8 (n:Nat):List Ed:=(List.range n).flatMap fun (a:Nat)=>(List.range n).flatMap fun (b:Nat)=>[((a:Int),(b:Int),false),((a:Int),(b:Int),true)]
theorem zeT (n:Nat):(ze8 n).length=n * (n * 2):=by
 have h:∀(l:List Nat) (k:Nat),(l.map fun _=>k).sum=l.length * k:=fun l k=>by
  induction l with
  | nil=>simp
  | cons a t ih=>rw [List.map_cons,List.sum_cons,ih,List.length_cons,Nat.add_mul];omega
 unfold ze8;simp only [List.length_flatMap,List.length_cons,List.length_nil,Nat.zero_add,Nat.reduceAdd,h,List.length_range]
theorem zc0 {α:Type} [DecidableEq α] {L E:List α} (hn:L.Nodup) (h:∀x ∈ L,x ∈ E):L.length≤E.length:=by
 induction L generalizing E with
 | nil=>simp
 | cons a t ih =>
  obtain ⟨h1,h2⟩:=List.nodup_cons.1 hn;have:=ih (E:=E.erase a) h2 fun x hx=>(List.mem_erase_of_ne fun (e:x=a)=>h1 (e ▸ hx)).2 (h x (List.mem_cons_of_mem _ hx));rw [List.length_erase_of_mem (h a List.mem_cons_self)] at this;have h3:=List.length_pos_of_mem (h a List.mem_cons_self);rw [List.length_cons];omega
theorem zhV {ps:List Path} {rs:List RelI} {xs:List (TypA × RelA)} {e:Ed} (h:e ∈ relsD ps rs xs):∃a b:Nat,a<xs.length∧b<ps.length∧e.1=a∧e.2.1=b:=by
 obtain ⟨⟨x,i⟩,hx,h⟩:=List.mem_flatMap.1 h;obtain ⟨⟨o,k⟩,ho,h⟩:=List.mem_flatMap.1 h;obtain ⟨u,ht,rfl⟩:=List.mem_map.1 h;obtain ⟨q,_,hq⟩:=List.mem_filterMap.1 ht;have h1:=(List.getElem?_eq_some_iff.1 (za3 hq)).1;have h2:=(List.getElem?_eq_some_iff.1 (List.mem_zipIdx_iff_getElem?.1 hx)).1;exact ⟨i,u,h2,h1,rfl,rfl⟩
theorem zfQ {n:Nat} {e:Ed} {a b:Nat} (ha:a<n) (hb:b<n) (h1:e.1=a) (h2:e.2.1=b):e ∈ ze8 n:=by
 obtain ⟨e1,e2,e3⟩:=e;simp only at h1 h2;subst h1 h2;refine List.mem_flatMap.2 ⟨a,List.mem_range.2 ha,List.mem_flatMap.2 ⟨b,List.mem_range.2 hb,?_⟩⟩;cases e3 <;> simp
theorem fits_of {a b:Nat} {x:Bool} (ha:a≤600) (hb:b≤600):Fits ((a:Int),(b:Int),x):=⟨zkb (by omega),zkb (by omega)⟩
theorem named_lt {ps:List Path} {rs:List RelI} {tn:ByteArray} {subs:List Path} {o:OpI}:∀v ∈ zcz ps rs tn subs o,v<ps.length:=fun v hv=>by
 obtain ⟨q,_,hq⟩:=List.mem_filterMap.1 hv;exact (List.getElem?_eq_some_iff.1 (za3 hq)).1
theorem zl4 {ps:List Path} {rs:List RelI} {tn:ByteArray} {subs:List Path} {o:OpI} (h1:subs.length≤100000) (h2:∀r ∈ rs,r.subs.length≤100000):(zcz ps rs tn subs o).length≤100000:=by
 have h3:=List.length_filterMap_le (zas ps) (zbk ps rs tn subs o);refine Nat.le_trans h3 ?_;unfold zbk;split
 · exact Nat.le_trans (List.length_filter_le _ _) h1
 split
 · simp
 split
 · split
   · split
     · rename_i x hx
       unfold zbe;rw [List.length_map];exact Nat.le_trans (List.length_filter_le _ _) (h2 x (List.mem_of_getElem? hx))
     · simp
   · simp
 · simp
theorem edges_any {w:World} {R c:Nat} {A:Option Addr} {l:List TypA} (h:SchA w R A c l) (hR:R≤140737488351232) (hl:(relsA l).length≤600) (ho:∀x ∈ relsA l,x.2.subs.length≤100000∧x.2.ops.length≤100000) :
 Calls Tryz.prog 26 #[.agg #[.slice A l.length c]] w fun e w'=>∃A' c' zs,e = .returned (.slice A' zs.length c')∧zec zs∧(∀e,e ∈ zs↔e ∈ zaN (l.map TypA.says))∧Rd w' w'.heap.size 3 A' zs.length c' (zan zs)∧Below w.heap.size w w':=by
 have hmm:=@run_makeMap Tryz.prog;have hll:(l.length:Int)≤9223372036854775807:=by have:=h.rows.cap;have:=h.rows.capm;simp only [maxLen] at this;omega
 have hw0:Below w.heap.size w (w.alloc (.cells #[.slice A l.length c] 70)):=(Below.refl _ w).alloc (Nat.le_refl _) _;have hk:=knownOf_any (h.up hw0) hR (by omega);rw [zfD];obtain ⟨K,hK⟩:∃K,relsA l=K:=⟨_,rfl⟩;obtain ⟨ps,hps⟩:∃ps,zao K=ps:=⟨_,rfl⟩;obtain ⟨rs,hrs⟩:∃rs:List RelI,K.map (fun x=>x.2.says)=rs:=⟨_,rfl⟩;have hpl:ps.length=K.length:=by rw [←hps];simp [zao]
 rw [hK] at hl ho hk ⊢;rw [hrs];simp only [hps] at hk ⊢;go_enter Tryz.func26,Tryz.ntmps26
 have x0:=Bk.new w #[.slice A l.length c] 70;go_upto_region 4 with (go_at_call 50;refine hk.mono ?_;rintro e w1 ⟨⟨A1,c1,b1,rfl,hb1,hrow1,hmap1⟩,hbw1⟩)
 have x1:Bk w1 w.heap.size #[.slice A l.length c] 70:=(hbw1.block _ (by simp)).trans x0;have hS1:=(h.up hw0).up hbw1;have hb01:Below w.heap.size w w1:=hw0.trans (hbw1.mono (by simp));have hrd1:Rd w1 w1.heap.size 6 A1 K.length c1 (zdz K):=by
  obtain ⟨A3,c3,e3,hr3⟩:=Rd.own hrow1;injection e3 with e3 _ e4
  subst e3 e4;exact hr3
 have hs1:w.heap.size<w1.heap.size:=by have:=hbw1.size;simp at this;omega
 clear hbw1 hb1 hrow1 hk hmm hw0 x0;have hkn:=Bk.new w1 #[.slice A1 K.length c1,.map (some b1)] 127;have hbk:Below w1.heap.size w1 (w1.alloc (.cells #[.slice A1 K.length c1,.map (some b1)] 127)):=(Below.refl _ _).alloc (Nat.le_refl _) _;have hsk:(w1.alloc (.cells #[.slice A1 K.length c1,.map (some b1)] 127)).heap.size=w1.heap.size + 1:=by simp
 have x2:=x1.alloc (.cells #[.slice A1 K.length c1,.map (some b1)] 127);have hSk:=hS1.up hbk;have hrdk:=hrd1.up hbk;have hmapk:=hmap1.below hbk;have hb0k:Below w.heap.size w (w1.alloc (.cells #[.slice A1 K.length c1,.map (some b1)] 127)):=hb01.trans (hbk.mono (by omega));have hok:=hSk.each;generalize hw1s:w1.heap.size=kb at *
 generalize w1.alloc (.cells #[.slice A1 K.length c1,.map (some b1)] 127)=wk at *
 have hE0:EW wk (wk.alloc (.map #[] 0)) (wk.alloc (.map #[] 0)) [] 0:=(EW.mk ((Below.refl _ wk).alloc (Nat.le_refl _) _) (FoundM.made wk) (FoundM.made wk).isMap (Nat.le_refl _) fun _ _ _=>rfl);have hx3:=(x2.alloc (.map #[] 0)).cell';clear hS1 hrd1 hmap1 hb01 x1 x2 hbk;generalize wk.alloc (.map #[] 0)=w0 at *
 have hsub:∀r ∈ rs,r.subs.length≤100000:=fun r hr=>by
  rw [←hrs] at hr;obtain ⟨x,hx,rfl⟩:=List.mem_map.1 hr;exact (ho x hx).1
 have hmapk':∀W,Below wk.heap.size wk W→MapS W b1 (zao K):=fun W hW=>by rw [hps];exact hmapk.below hW
 have hKok:∀x ∈ K,x.2.ok wk R:=fun x hx=>by
  rw [←hK] at hx;obtain ⟨t,ht,hx⟩:=List.mem_flatMap.1 hx;obtain ⟨r,hr,rfl⟩:=List.mem_map.1 hx;exact (hok t ht).relz r hr
 go_wp2_with fail
 go_loopw [5,21] (fun vf vi wx=>∃i:Nat,vi = .int .i64 i∧vf = .int .i64 (relsA (l.take i)).length∧i≤l.length∧EW wk w0 wx (relsD ps rs (relsA (l.take i))) ((relsA (l.take i)).length * 10000000000)) (fun _ vi _=>l.length-(intOf vi).toNat)
 case atStart=>exact ⟨0,rfl,rfl,Nat.zero_le _,hE0.more (Nat.zero_le _)⟩
 case round =>
  obtain ⟨i,rfl,rfl,hi,hE⟩:=hrel;by_cases hil:i<l.length
  · have hdi:(i:Int)<(l.length:Int):=by omega
    obtain ⟨t,ht⟩:∃t,l[i]? = some t:=⟨_,List.getElem?_eq_getElem hil⟩;obtain ⟨b,o,rfl,t0,t1,htok⟩:=hSk.get ht;replace t0:=zac t0 hE.below;replace t1:=zac t1 hE.below;have htl:(t.rels.length:Int)≤9223372036854775807:=by have:=htok.rels.cap;have:=htok.rels.capm;simp only [maxLen] at this;omega
    have hsn:=zbA ht;have hle:=zc2 (l:=l) (i + 1);rw [hsn,List.length_append,List.length_map,hK] at hle;have hE1:=hE.alloc (.cells #[.string t.name,.slice t.A t.rels.length t.c] 112);have x1:=Bk.new wr #[.string t.name,.slice t.A t.rels.length t.c] 112;go_upto_region 7 with (fail)
    clear t0 t1;generalize hq5:wr.heap.size=q5 at *
    generalize wr.alloc (.cells #[.string t.name,.slice t.A t.rels.length t.c] 112)=w2 at *
    have y0:=x1.cell 0;have y1:=x1.cell 1;obtain ⟨n0,hn0⟩:∃n0,(relsA (l.take i)).length=n0:=⟨_,rfl⟩;rw [hn0] at hle hE1 ⊢;go_wp2_with fail
    go_loopw [5,28] (fun vf vi wx=>∃j f:Nat,vi = .int .i64 j∧vf = .int .i64 f∧f=n0 + j∧j≤t.rels.length∧EW wk w2 wx (relsD ps rs (relsA (l.take i) ++ (t.rels.take j).map fun r=>(t,r))) (f * 10000000000)) (fun _ vi _=>t.rels.length-(intOf vi).toNat)
    case atStart=>exact ⟨0,n0,rfl,rfl,rfl,Nat.zero_le _,by simpa using hE1.base⟩
    case round =>
     obtain ⟨j,f,rfl,rfl,hf,hj,hE2⟩:=hrel;replace hf:=Lib.hid hf;by_cases hjl:j<t.rels.length
     · have hdj:(j:Int)<(t.rels.length:Int):=by omega
       obtain ⟨x,hx⟩:∃x,t.rels[j]? = some x:=⟨_,List.getElem?_eq_getElem hjl⟩;obtain ⟨g,k',e5,g0,g1,g2,g3,g4,g5,hxok⟩:=htok.get hx;replace g0:=zac g0 hE2.below;replace g1:=zac g1 hE2.below;replace g2:=zac g2 hE2.below;replace g3:=zac g3 hE2.below;replace g4:=zac g4 hE2.below;replace g5:=zac g5 hE2.below;have hxK:(t,x) ∈ K:=by
        rw [←hK];exact List.mem_flatMap.2 ⟨t,List.mem_of_getElem? ht,List.mem_map.2 ⟨x,List.mem_of_getElem? hx,rfl⟩⟩
       obtain ⟨hxs,hxo⟩:=ho _ hxK;have hnx:Hid (relsD ps rs (relsA (l.take i) ++ (t.rels.take (j + 1)).map fun r=>(t,r))=relsD ps rs (relsA (l.take i) ++ (t.rels.take j).map fun r=>(t,r)) ++ relE ps rs t.name x.says f):=Lib.hid (by
        rw [List.take_add_one,hx,Option.toList_some,List.map_append,←List.append_assoc];show relsD ps rs (_ ++ [(t,x)])=_;rw [zgD,List.length_append,hn0,List.length_map,List.length_take,Nat.min_eq_left (by omega),←hf.out])
       obtain ⟨E2,hE2e⟩:∃E2,relsD ps rs (relsA (l.take i) ++ (t.rels.take j).map fun r=>(t,r))=E2:=⟨_,rfl⟩;rw [hE2e] at hnx hE2;clear hE2e;have hE3:=hE2.alloc (.cells x.cells.toArray 115);have x7:=Bk.new wr x.cells.toArray 115;have hxc:x.cells.toArray=#[.string x.name,.string x.view,.string x.edit,.string x.check,.slice x.As x.subs.length x.cs,.slice x.Ao x.ops.length x.co]:=rfl;rw [hxc] at hE3 x7;rw [e5] at *
       go_upto_region 10 with (fail)
       clear g0 g1 g2 g3 g4 g5 hE2;generalize hq7:wr.heap.size=q7 at *
       generalize wr.alloc (.cells #[.string x.name,.string x.view,.string x.edit,.string x.check,.slice x.As x.subs.length x.cs,.slice x.Ao x.ops.length x.co] 115)=w3 at *
       obtain ⟨z0,z1,z2,z3,z4,z5⟩:w3.cell? ⟨q7,0,none⟩=some (.string x.name)∧w3.cell? ⟨q7,1,none⟩=some (.string x.view)∧w3.cell? ⟨q7,2,none⟩=some (.string x.edit)∧w3.cell? ⟨q7,3,none⟩=some (.string x.check)∧w3.cell? ⟨q7,4,none⟩=some (.slice x.As x.subs.length x.cs)∧w3.cell? ⟨q7,5,none⟩=some (.slice x.Ao x.ops.length x.co):=⟨x7.cell 0,x7.cell 1,x7.cell 2,x7.cell 3,x7.cell 4,x7.cell 5⟩;have kb1:=behindNotOf_any (hxok.ops.up hE3.below) hxo;go_upto_region 11 with (go_at_call 51;refine kb1.mono ?_;rintro e w4 ⟨rfl,m0,m1,hb4⟩)
       have hE4:=hE3.call hb4;have x54:=(hE4).bk x1;have x74:Bk w4 q7 _ _:=(hb4.block _ x7.lt).trans x7;have z54:=x74.cell 5;have hol:(x.ops.length:Int)≤9223372036854775807:=by omega
       generalize hq8:w3.heap.size=q8 at *
       clear z0 z1 z2 z3 z4 z5 hE3 x7 kb1 hb4;simp only [List.getElem?_toArray,List.getElem?_cons_zero,List.getElem?_cons_succ] at z54;go_wp2_with fail
       go_loopw [38] (fun vi wx=>∃k:Nat,vi = .int .i64 k∧k≤x.ops.length∧EW wk w4 wx (E2 ++ zdh ps rs t.name x.says f k) (f * 10000000000 + k * 100000)) (fun vi _=>x.ops.length-(intOf vi).toNat)
       case atStart=>exact ⟨0,rfl,Nat.zero_le _,by simpa [zdh] using hE4.base⟩
       case round =>
        obtain ⟨k,rfl,hk,hE5⟩:=hrel;by_cases hkl:k<x.ops.length
        · have hdk:(k:Int)<(x.ops.length:Int):=by omega
          obtain ⟨⟨ok,on,ox⟩,hop⟩:∃o,x.ops[k]? = some o:=⟨_,List.getElem?_eq_getElem hkl⟩;obtain ⟨b6,k6,e6,p0,p1,p2,_,hon,hox⟩:=hxok.op hop;replace p0:=zac p0 hE5.below;replace p1:=zac p1 hE5.below;replace p2:=zac p2 hE5.below;simp only at p0 p1 p2 hon hox;have hstep:Hid (zdh ps rs t.name x.says f (k + 1)=zdh ps rs t.name x.says f k ++ opsE ps rs t.name x.says f k (ok,on,ox)):=Lib.hid (zgC hop);obtain ⟨E3,hE3e⟩:∃E3,E2 ++ zdh ps rs t.name x.says f k=E3:=⟨_,rfl⟩;have hnk:Hid (E2 ++ zdh ps rs t.name x.says f (k + 1)=E3 ++ opsE ps rs t.name x.says f k (ok,on,ox)):=Lib.hid (by rw [hstep.out,←List.append_assoc,hE3e]);rw [hE3e] at hE5;clear hE3e hstep;have hE6:=hE5.alloc (.cells #[.int .i64 ok,.string on,.string ox] 132);have x9:=Bk.new wr #[.int .i64 ok,.string on,.string ox] 132;rw [e6] at *
          go_upto_region 14 with (fail)
          clear p0 p1 p2 hE5;generalize hq9:wr.heap.size=q9 at *
          generalize wr.alloc (.cells #[.int .i64 ok,.string on,.string ox] 132)=w5 at *
          have hE26:=(hE4.join hE6);have r5:=hE26.bk x1;have r7:=hE6.bk x74;obtain ⟨s0,s1⟩:w5.cell? ⟨kb,0,none⟩=some (.slice A1 K.length c1)∧w5.cell? ⟨kb,1,none⟩=some (.map (some b1)):=⟨zac (hkn.cell 0) hE6.below,zac (hkn.cell 1) hE6.below⟩;obtain ⟨s2,s3⟩:w5.cell? ⟨q5,0,none⟩=some (.string t.name)∧w5.cell? ⟨q5,1,none⟩=some (.slice t.A t.rels.length t.c):=⟨r5.cell 0,r5.cell 1⟩;obtain ⟨z0,z1,z2,z3,z4,z5⟩:w5.cell? ⟨q7,0,none⟩=some (.string x.name)∧w5.cell? ⟨q7,1,none⟩=some (.string x.view)∧w5.cell? ⟨q7,2,none⟩=some (.string x.edit)∧w5.cell? ⟨q7,3,none⟩=some (.string x.check)∧w5.cell? ⟨q7,4,none⟩=some (.slice x.As x.subs.length x.cs)∧w5.cell? ⟨q7,5,none⟩=some (.slice x.Ao x.ops.length x.co):=⟨r7.cell 0,r7.cell 1,r7.cell 2,r7.cell 3,r7.cell 4,r7.cell 5⟩;obtain ⟨v0,v1,v2⟩:w5.cell? ⟨q9,0,none⟩=some (.int .i64 ok)∧w5.cell? ⟨q9,1,none⟩=some (.string on)∧w5.cell? ⟨q9,2,none⟩=some (.string ox):=⟨x9.cell 0,x9.cell 1,x9.cell 2⟩;have kn:=named_any (w:=w5) (R:=R) (K:=K) (t:=t) (r:=x) (o:=(ok,on,ox)) (hrdk.up hE6.below) (hmapk' w5 hE6.below) (fun y hy=>(hKok y hy).up hE6.below) (hxok.up hE6.below) htok.name ⟨hon,hox⟩ hR (fun y hy=>(ho y hy).1) hxs;obtain ⟨nm,hnm⟩:∃nm,zcz (zao K) (K.map fun x=>x.2.says) t.name x.subs (ok,on,ox)=nm:=⟨_,rfl⟩;rw [hnm] at kn;rw [hps,hrs] at hnm;have hnl:nm.length≤100000:=by rw [←hnm];exact zl4 hxs hsub
          have hnlt:∀v ∈ nm,v<K.length:=fun v hv=>by rw [←hpl];exact named_lt v (by rw [hnm];exact hv)
          have hnE:Hid (opsE ps rs t.name x.says f k (ok,on,ox)=nm.map fun u=>((f:Int),((u:Nat):Int),zaS x.ops k)):=Lib.hid (by rw [←hnm];rfl);clear hnm;clear e5 e6 hop hx ht hxK r5 r7 x9 hE26;go_upto_region 15 with (go_at_call 52;refine kn.mono ?_;rintro e w6 ⟨⟨A7,c7,rfl,hnr⟩,hb6⟩)
          have hE7:=hE6.call hb6;have m06:=hE7.bk m0;have m16:=hE7.bk m1;have hnl':(nm.length:Int)≤9223372036854775807:=by omega
          clear s0 s1 s2 s3 z0 z1 z2 z3 z4 z5 v0 v1 v2 hb6 kn hE6;go_wp2_with fail
          go_loopw [49] (fun vi wx=>∃q:Nat,vi = .int .i64 q∧q≤nm.length∧EW wk w6 wx (E3 ++ (nm.take q).map fun u=>((f:Int),((u:Nat):Int),zaS x.ops k)) (f * 10000000000 + k * 100000 + q)) (fun vi _=>nm.length-(intOf vi).toNat)
          case atStart=>exact ⟨0,rfl,Nat.zero_le _,by simpa using hE7.base⟩
          case round =>
           obtain ⟨q,rfl,hq,hE8⟩:=hrel;by_cases hql:q<nm.length
           · have hdq:(q:Int)<(nm.length:Int):=by omega
             obtain ⟨u,hu⟩:∃u,nm[q]? = some u:=⟨_,List.getElem?_eq_getElem hql⟩;have hun:=hnlt u (List.mem_of_getElem? hu);obtain ⟨b7,o7,v,rfl,_,hv,cv⟩:=(hE8.rd hnr).get hql;obtain rfl:v = .int .i64 (u:Int):=by
              simp only [ints,List.getElem?_map,hu,Option.map_some,Option.some.injEq] at hv;exact hv.symm
             have kb2:=ziC (w:=wr) (hE8.bk m06) (hE8.bk m16) hkl;have hnq:Hid (E3 ++ (nm.take (q + 1)).map (fun u=>((f:Int),((u:Nat):Int),zaS x.ops k))=(E3 ++ (nm.take q).map fun u=>((f:Int),((u:Nat):Int),zaS x.ops k)) ++ [((f:Int),((u:Nat):Int),zaS x.ops k)]):=Lib.hid (by
              rw [List.take_add_one,hu,Option.toList_some,List.map_append,←List.append_assoc];rfl)
             obtain ⟨E8,hE8e⟩:∃E8,(E3 ++ (nm.take q).map fun u=>((f:Int),((u:Nat):Int),zaS x.ops k))=E8:=⟨_,rfl⟩;rw [hE8e] at hnq hE8;clear hE8e hv hu;obtain ⟨nn,D0,L,hnn,hown,hKA,hmem⟩:=hE8.found.out;have hf600:f≤600:=by have:=hf.out;omega
             have hnnb:nn<maxLen:=by
              have h1:f * 10000000000≤600 * 10000000000:=Nat.mul_le_mul_right _ hf600;have h2:k * 100000≤100000 * 100000:=Nat.mul_le_mul_right _ (by omega);exact Nat.lt_of_le_of_lt (Nat.le_trans hnn (Nat.add_le_add (Nat.add_le_add h1 h2) (Nat.le_trans hq hnl))) (by decide)
             have hfit:Fits ((f:Int),((u:Nat):Int),zaS x.ops k):=fits_of hf600 (by omega);have hkey:=zg2 hfit;have hisM:=hown.isMap;have hE8':=Lib.hid hE8;simp only [zgS,zaT] at hkey;obtain ⟨bh,hbh⟩:∃bh,zaS x.ops k=bh:=⟨_,rfl⟩;rw [hbh] at kb2 hkey hnq hfit;rw [hsk] at hown;have hnn':=Lib.hid hnn;replace hbh:=Lib.hid hbh;clear hE8 hnn;go_upto_region 18 with (first | (go_at_call 91;refine kb2.mono ?_;rintro e w9 ⟨rfl,hw9⟩;have h9:=hw9.symm;clear hw9;subst h9) | (at_mapUpdate;refine wpList_mapUpdate_own _ rfl _ _ _ 129 rfl 117 134 zgu Tryz.underlying129 _ (kb + 1) nn _ rfl hown hnnb _ _ _ rfl rfl hkey _ [] unitElem_mk ?_;intro w7 hm7 hg7))
             obtain ⟨L',hL1,hL2⟩:=KeysAre.put (d:=.agg []) hisM hKA hfit;rw [←hsk] at hm7 hg7;have hE9:=hE8'.out.turn hg7 (E':=E8 ++ [((f:Int),((u:Nat):Int),bh)]) (N':=nn + 1) ⟨nn + 1,_,L',Nat.le_refl _,hm7,hL1,fun y=>by rw [hL2 y,hmem y,List.mem_append,List.mem_singleton]⟩;rw [←hnq.out,←hbh.out] at hE9;replace hE9:=Lib.hid (hE9.more (N':=f * 10000000000 + k * 100000 + (q + 1)) (by rw [←Nat.add_assoc];exact Nat.succ_le_succ hnn'.out));clear hm7 hg7 hE8' hown hL1 hL2 hmem hKA hisM;go_wp2_with fail
             exact ⟨⟨q + 1,by go_num,by omega,hE9.out⟩,by simp [intOf];omega⟩
           · obtain rfl:q=nm.length:=by omega
             have hdq:¬(((nm.length:Nat):Int)<(nm.length:Int)):=by omega
             rw [List.take_length,←hnE.out,←hnk.out] at hE8;have hN:f * 10000000000 + k * 100000 + nm.length≤f * 10000000000 + (k + 1) * 100000:=by
              rw [Nat.add_mul,Nat.one_mul,←Nat.add_assoc];exact Nat.add_le_add_left hnl _
             have hE9:=(hE7.join hE8).more hN;clear hN hE8 hE7;go_wp2_with fail
             exact ⟨⟨k + 1,by go_num,by omega,hE9⟩,by simp [intOf];omega⟩
        · obtain rfl:k=x.ops.length:=by omega
          have hdk:¬(((x.ops.length:Nat):Int)<(x.ops.length:Int)):=by omega
          have hall:zdh ps rs t.name x.says f x.ops.length=relE ps rs t.name x.says f:=zh4;rw [hall] at hE5;have hf5:x.ops.length * 100000≤10000000000:=by omega
          have hff:f + 1=n0 + (j + 1):=by have:=hf.out;omega
          have hN:f * 10000000000 + x.ops.length * 100000≤(f + 1) * 10000000000:=by
           rw [Nat.add_mul,Nat.one_mul];exact Nat.add_le_add_left hf5 _
          have hE6:=(hE4.join hE5).more hN;rw [←hnx.out] at hE6;have hff:=Lib.hid hff;clear hN hf5 hall hE5 hE4;go_wp2_with fail
          refine ⟨⟨j + 1,f + 1,by go_num,by go_num,hff.out,by omega,?_⟩,?_⟩
          · exact hE6
          · simp [intOf];omega
     · obtain rfl:j=t.rels.length:=by omega
       have hdj:¬(((t.rels.length:Nat):Int)<(t.rels.length:Int)):=by omega
       rw [List.take_length,←hsn] at hE2;have hlen:Hid ((relsA (l.take (i + 1))).length=f):=Lib.hid (by have:=hf.out;rw [hsn,List.length_append,List.length_map];omega);go_wp2_with fail
       exact ⟨⟨i + 1,by go_num,by rw [hlen.out],by omega,by rw [hlen.out];exact hE1.join hE2⟩,by simp [intOf];omega⟩
  · obtain rfl:i=l.length:=by omega
    have hdi:¬(((l.length:Nat):Int)<(l.length:Int)):=by omega
    rw [List.take_length,hK] at hE;obtain ⟨nn,D0,L,hnn,hown,hKA,hmem⟩:=hE.found.out;have hLl:L.length≤1000000:=by
     have h1:=zc0 (E:=ze8 600) hKA.nodup fun e he=>by
      obtain ⟨a,b,ha,hb,h1,h2⟩:=zhV ((hmem e).1 he);exact zfQ (by omega) (by omega) h1 h2
     rw [zeT] at h1;omega
    have kk:=keys_any (some (kb + 1)) wr;have hbw:Below w.heap.size w (wr.alloc (.cells #[.map (some (kb + 1))] 129)):=(hb0k.trans (hE.below.mono (by omega))).alloc (by have:=hE.below.size;omega) _;have hcm:=(Bk.new wr #[.map (some (kb + 1))] 129).cell';have hown2:=hown.alloc (.cells #[.map (some (kb + 1))] 129);rw [hsk] at hown2;have ks:=sortedFunc_any hKA hLl wr.heap.size (kb + 1) nn _ hcm hown2;have hmem:=Lib.hid hmem;clear hKA hown hE hown2 hcm hnn;go_wp2_with (first | (go_at_call 54;refine kk.mono ?_;rintro e w8 ⟨rfl,hw8⟩;subst hw8) | (go_at_call 53;refine ks.mono ?_;rintro e w9 ⟨A9,c9,zs,rfl,hzp,hzr,hzR,hzb⟩))
    go_ret
    rw [←hzp.length_eq] at *
    exact ⟨_,_,zs,rfl,hzr,fun e=>(hzp.mem_iff).trans (hmem.out e),hzR,hbw.trans (hzb.mono hbw.size)⟩
end Go.Proofs.YtiepddmagfmllaaGreat
