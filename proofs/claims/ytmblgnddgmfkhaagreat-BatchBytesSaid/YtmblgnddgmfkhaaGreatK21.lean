import Derived.Shelf.AbstractIn
import Derived.Test.YtmblgnddgmfkhaaGreatK11
import Derived.Test.YtmblgnddgmfkhaaGreatK12
import Derived.Test.YtmblgnddgmfkhaaGreatK20
set_option maxRecDepth 100000
set_option maxHeartbeats 4000000
namespace Go.Proofs.YtmblgnddgmfkhaaGreat
section
open Go.Shelf Go.RowKit Go.Lib Go.Sort
open Go.RowKit Go.Shelf Go.Maps Go.Sort
variable {w w':World} {g cap:Nat} {ys:List Ed} {d:Array Ed}
structure Far (w w':World):Prop where
 out:∃q os,w'=grow (w.drewN q) os
theorem Far.refl (w:World):Far w w:=⟨0,#[],by rw [grow_empty];rfl⟩
theorem Far.drew (h:Far w w'):Far w w'.drew:=by
 obtain ⟨q,os,rfl⟩:=h;exact ⟨q + 1,os,rfl⟩
theorem Far.alloc (h:Far w w') (o:Obj):Far w (w'.alloc o):=by
 obtain ⟨q,os,rfl⟩:=h;exact ⟨q,os ++ #[o],by rw [alloc_eq_grow,grow_grow]⟩
theorem Far.cell (h:Far w w') {a:Addr} {v:Value} (hc:w.cell? a=some v):w'.cell? a=some v:=by
 obtain ⟨q,os,rfl⟩:=h;rw [cell?_grow _ _ _ (by exact World.block_lt_of_cell? w a hc)];exact hc
theorem zrG (e:Ed) (w:World):Calls Tryz.prog 171 #[.agg (za8 e).toArray] w fun r w'=>r = .returned (.int .i64 (if e.2.2 then 1 else 0))∧w'=w.alloc (.cells (za8 e).toArray 207):=by
 obtain ⟨x,y,b⟩:=e;simp only [za8];go_enter Tryz.func171,Tryz.ntmps171
 cases b
 · go_wp2
   go_ret
   exact ⟨rfl,rfl⟩
 · go_wp2
   go_ret
   exact ⟨rfl,rfl⟩
theorem zmi {α:Type} {l:List α} {i:Nat} {x:α} (h:l[i]? = some x):i<l.length:=(yap.1 h).1
def orI:List Int→Int
 | []=>0
 | x::l=>if x=0 then orI l else x
theorem znA {l:List Int} {j:Nat} (h:∀i,i<j→l[i]? = some 0):orI l=orI (l.drop j):=by
 induction j with
 | zero=>rfl
 | succ j ih =>
  rw [ih fun i hi=>h i (by omega)];have b:=h j yab;rw [ya8 (zmi b),orI,yan];exact yaZ ((yal _).symm.trans b)
theorem or_is {b n c:Nat} {l:List Int} (hn:l.length=n) (hb:n≤1000000) (h:∀i x,l[i]? = some x→w.cell? ⟨b,i,none⟩=some (.int .i64 x)) :
 Calls Tryz.prog 145 #[.slice (some ⟨b,0,none⟩) n c] w fun e w'=>e = .returned (.int .i64 (orI l))∧w'=w:=by
 go_enter Tryz.func145,Tryz.ntmps145
 go_wp2_with fail
 go_loopw [8] (fun m u=>∃j:Nat,m = .int .i64 j∧j≤n∧u=w∧∀i,i<j→l[i]? = some 0) (fun m _=>n-(intOf m).toNat)
 case atStart=>exact ⟨0,rfl,yao _,rfl,fun i hi=>by omega⟩
 case round =>
  obtain ⟨j,rfl,A,rfl,g⟩:=hrel;by_cases y:j<n
  · have k:(j:Int)<(n:Int):=by omega
    obtain ⟨x,f⟩:∃x,l[j]? = some x:=⟨_,yal yab⟩;have B:=h j x f;by_cases o:x=0
    · subst o;have q:∀i,i<j + 1→l[i]? = some 0:=fun i hi=>by
       by_cases e:i=j
       · rw [e,f]
       · exact g i yab
      clear g f h;go_wp2_with fail
      exact ⟨⟨j + 1,by go_num,by omega,trivial,q⟩,by simp [intOf];omega⟩
    · have z:(x != 0)=true:=by simpa using o
      have s:Hid (orI l=x):=Lib.hid (by
       rw [znA g,ya8 (zmi f),orI];have e:l[j]'(zmi f)=x:=yaZ ((yal _).symm.trans f);rw [yak (by rw [e];exact o),e])
      clear g f h;go_wp2_with fail
      go_ret
      rw [s.out];exact ⟨rfl,rfl⟩
  · obtain rfl:j=n:=by omega
    have k:¬(((j:Nat):Int)<(j:Int)):=by omega
    have s:Hid (orI l=0):=Lib.hid (by rw [znA g,ycG (by omega)];rfl);clear g h;go_wp2_with fail
    go_ret
    rw [s.out];exact ⟨rfl,rfl⟩
def riI (e:Ed):Int:=if e.2.2 then 1 else 0
def cfE (a b:Ed):Int:=orI [compareInt a.1 b.1,compareInt a.2.1 b.2.1,compareInt (riI a) (riI b)]
theorem zhb (a b:Ed):cfE a b<0↔a.1<b.1∨(a.1=b.1∧(a.2.1<b.2.1∨(a.2.1=b.2.1∧riI a<riI b))):=by
 have f:∀x y:Int,compareInt x y=0↔x=y:=fun x y=>by unfold compareInt;split <;> first | omega | (split <;> omega)
 have g:∀x y:Int,compareInt x y<0↔x<y:=fun x y=>by unfold compareInt;split <;> first | omega | (split <;> omega)
 simp only [cfE,orI];by_cases j:a.1=b.1
 · rw [yan ((f _ _).2 j)];by_cases k:a.2.1=b.2.1
   · rw [yan ((f _ _).2 k)];by_cases m:riI a=riI b
     · rw [yan ((f _ _).2 m)];omega
     · rw [yak fun e=>m ((f _ _).1 e),g];omega
   · rw [yak fun e=>k ((f _ _).1 e),g];omega
 · rw [yak fun e=>j ((f _ _).1 e),g];omega
theorem swoE:SWO (ltOf cfE):=by
 refine ⟨fun x=>?_,fun x y z b f=>?_,fun x y z b f=>?_⟩
 · simp only [ltOf,yby,zhb];omega
 · simp only [ltOf,yaP,zhb] at *
   omega
 · simp only [ltOf,yby,zhb] at *
   omega
theorem compare_any (a b:Ed) (w:World):Calls Tryz.prog 126 #[.agg (za8 a).toArray,.agg (za8 b).toArray] w fun e w'=>e = .returned (.int .i64 (cfE a b))∧Far w w':=by
 have A:=zrG a;have B:=zrG b;obtain ⟨f,g,a3⟩:=a;obtain ⟨j,k,m⟩:=b;simp only [za8] at *
 obtain ⟨O,n⟩:∃r:Int,(if a3 then 1 else 0)=r:=⟨_,rfl⟩;obtain ⟨P,o⟩:∃r:Int,(if m then 1 else 0)=r:=⟨_,rfl⟩;have D:Hid (cfE (f,g,a3) (j,k,m)=orI [compareInt f j,compareInt g k,compareInt O P]):=Lib.hid (by subst n o;rfl);simp only [n] at A;simp only [o] at B;clear n o;have q:=Bk.new w #[.int .i64 f,.int .i64 g,.bool a3] 207;replace q:=q.alloc (.cells #[.int .i64 j,.int .i64 k,.bool m] 207);have s:=Bk.new (w.alloc (.cells #[.int .i64 f,.int .i64 g,.bool a3] 207)) #[.int .i64 j,.int .i64 k,.bool m] 207;have N:Far w ((w.alloc (.cells #[.int .i64 f,.int .i64 g,.bool a3] 207)).alloc (.cells #[.int .i64 j,.int .i64 k,.bool m] 207)):=((Far.refl w).alloc _).alloc _;simp only [World.size_alloc] at s;have Q:=fun x y=>AnyG.cmp_Compare_int laysCmp x y;go_enter Tryz.func126,Tryz.ntmps126
 go_upto_region 1 with (fail)
 obtain ⟨w1,C⟩:∃w1,(w.alloc (.cells #[.int .i64 f,.int .i64 g,.bool a3] 207)).alloc (.cells #[.int .i64 j,.int .i64 k,.bool m] 207)=w1:=⟨_,rfl⟩;rw [C] at q s N ⊢;clear C;have E:=q.cell 0;have F:=q.cell 1;have G:=q.cell 2;have H:=s.cell 0;have I:=s.cell 1;have J:=s.cell 2;simp only [ybZ,ybs,ybj] at E F G H I J;have hS:∀W,Far w1 W→(W.cell? ⟨w.heap.size,0,none⟩=some (.int .i64 f)∧W.cell? ⟨w.heap.size,1,none⟩=some (.int .i64 g)∧W.cell? ⟨w.heap.size,2,none⟩=some (.bool a3)∧W.cell? ⟨w.heap.size + 1,0,none⟩=some (.int .i64 j)∧W.cell? ⟨w.heap.size + 1,1,none⟩=some (.int .i64 k)∧W.cell? ⟨w.heap.size + 1,2,none⟩=some (.bool m)∧Far w1 W) :=
  fun W h=>⟨h.cell E,h.cell F,h.cell G,h.cell H,h.cell I,h.cell J,h⟩
 have K:∀(W:World) (L:Nat) (x y z:Int),L=W.heap.size→Calls Tryz.prog 145 #[.slice (some ⟨L,0,none⟩) 3 3] (W.alloc (.cells #[.int .i64 x,.int .i64 y,.int .i64 z] 3)).drew fun e w'=>e = .returned (.int .i64 (orI [x,y,z]))∧w'=(W.alloc (.cells #[.int .i64 x,.int .i64 y,.int .i64 z] 3)).drew:=fun W L x y z M=>M ▸
  or_is rfl yab fun i u hi=>by
   show (W.alloc (.cells #[.int .i64 x,.int .i64 y,.int .i64 z] 3)).cell? _=_;rw [(Bk.new W #[.int .i64 x,.int .i64 y,.int .i64 z] 3).cell i];rcases i with _ | _ | _ | i <;> simp at hi ⊢ <;> exact hi
 clear q s E F G H I J;go_region_held3 (fun w'=>w'.cell? ⟨w.heap.size,0,none⟩=some (.int .i64 f)∧w'.cell? ⟨w.heap.size,1,none⟩=some (.int .i64 g)∧w'.cell? ⟨w.heap.size,2,none⟩=some (.bool a3)∧w'.cell? ⟨w.heap.size + 1,0,none⟩=some (.int .i64 j)∧w'.cell? ⟨w.heap.size + 1,1,none⟩=some (.int .i64 k)∧w'.cell? ⟨w.heap.size + 1,2,none⟩=some (.bool m)∧Far w1 w')
  (first | assumption | exact hS _ (Far.refl _).drew | exact hS _ ((Far.refl _).drew.alloc _) | exact hS _ (((Far.refl _).drew.alloc _).alloc _) | exact hS _ ((((Far.refl _).drew.alloc _).alloc _).alloc _) | fail)
  (first | (go_at_call 146;refine (Q _ _ _).mono ?_;rintro e w' ⟨rfl,rfl⟩) | (go_at_call 171;refine (A _).mono ?_;rintro e w' ⟨rfl,rfl⟩) | (go_at_call 171;refine (B _).mono ?_;rintro e w' ⟨rfl,rfl⟩) | (go_at_call 145;refine (K _ _ _ _ _ yaf).mono ?_;rintro e w' ⟨rfl,rfl⟩) | fail)
 go_wp2_with fail
 go_ret
 rw [D.out];exact ⟨rfl,(((N.alloc _).alloc _).alloc _).drew⟩
theorem zok (m:Nat) (hm:6≤m) {H:Type} {R:Value→Option (DataW H × List MemPlace)} {D0:DataW H} {L:List Ed} (hK:KeysAre D0 L) (hL:L.length≤1000000) (Bm b nn:Nat) (w:World)
 (hmm:w.cell? ⟨Bm,0,none⟩=some (.map (some b))) (hown:w.ownsMap Tryz.prog 207 R b nn D0) :
 CallsIn Fence.wide m Tryz.prog 175 #[.func (.func 177) #[] #[.pointer (some ⟨Bm,0,none⟩)]] w fun e w' =>
  ∃v ys,e = .returned v∧ys.Perm L∧w'.ownsRow w.heap.size 207 3 v ys.length (zaB ys)∧Below w.heap.size w w':=by
 refine callsIn_of_wp Tryz.func175 rfl trivial ?_ rfl;simp only [Tryz.ntmps175,ybu,yat,yaE,Nat.reduceAdd,Nat.reduceSub,ybL,ybK,ybX,ybO,ya6,ybq];have j:1≤m:=by omega
 gi_wp2
 refine ⟨trivial,(appendSeq_in (m-1) yab hK hL Bm b nn _ hmm hown).mono ?_⟩;rintro e w' ⟨v,ys,rfl,g,f,hb⟩;gi_wp2
 go_ret
 exact ⟨v,ys,rfl,g,f,hb⟩
theorem zne {t:Nat} (h:t<ys.length * 3):(zaB ys)[t]? = some (flatK za8 3 ys.toArray)[t]!:=by
 have hi:t / 3<ys.length:=by omega
 have e:=zbf za8 (sz:=3) (fun _=>rfl) (l:=ys) (i:=t / 3) (k:=t % 3) (a:=ys[t / 3]) (yal hi) yab;rw [show t / 3 * 3 + t % 3=t by omega] at e;rw [get_flatK _ _ _ _ (by simpa using h)];show (ys.flatMap za8)[t]? = _;rw [e];have b:ys.toArray[t / 3]! = ys[t / 3]:=by simp [hi]
 rw [b,yal (by show t % 3<3;omega),getElem!_pos _ _ (by show t % 3<3;omega)]
theorem zqf {B:Nat} (h:w.ownsRow B 207 3 (.slice (some ⟨g,0,none⟩) ys.length cap) ys.length (zaB ys)):HoldsK za8 3 w g 0 ys.toArray:=fun j b=>by
 rw [size_flatK,ybu] at b;rcases h.2 with ⟨e,_⟩ | ⟨o,f,m,e,_,k,_,_,_,n⟩
 · cases e
 injection e with e _ _
 injection e with e
 injection e with e _ _
 subst e;refine ⟨?_,Bk.fz k _⟩;rw [yaI,Bk.cell k j,←ycJ,id_eq,←zne b,←n,List.getElem?_take_of_lt b]
theorem rd_holds (h:HoldsK za8 3 w g 0 d) (hg:g<w.heap.size) (hc:d.size≤cap) (hm:cap≤maxLen):Rd w w.heap.size 3 (some ⟨g,0,none⟩) d.size cap (zaB d.toList):=by
 refine ⟨by rw [zf1];simp,hc,hm,fun e=>(by cases e),fun _=>⟨g,0,rfl,hg,fun j u f=>?_⟩⟩;have b:j<d.size * 3:=by
  have:=(yap.1 f).1;rwa [zf1] at this
 rw [zne (by simpa using b)] at f;have:=(h j (by rw [size_flatK];exact b)).1;rw [this];simpa using f
theorem zox {n:Nat} {os:Array Obj}:w.grownBy (sortWorldK za8 3 w g 0 n d os) (some g):=by
 refine ⟨rfl,rfl,rfl,size_sortWorldK_c za8 3 w g 0 n d os,fun k hk b=>?_⟩;have:g≠k:=fun e=>b (by rw [e]);rw [sortWorldK,heap_grow_old _ _ (by simpa [putRowK,putRow,mapBlock,Sort.ahead] using hk)];simp [putRowK,putRow,mapBlock,Sort.ahead,ybB,this]
def ziv (l:List Ed):Prop:=l.Pairwise fun a b=>cfE a b<0
theorem cfE_ne {a b:Ed} (h:a≠b) (h2:¬cfE b a<0):cfE a b<0:=by
 rw [zhb] at *
 have m:¬(a.1=b.1∧a.2.1=b.2.1∧riI a=riI b):=fun ⟨g,j,f⟩=>h (by
  refine ycb g (ycb j ?_);unfold riI at f;cases k:a.2.2 <;> cases hb:b.2.2 <;> simp [k,hb] at f ⊢)
 omega
theorem zrH (hs:SortedIn (ltOf cfE) 0 d.size d) (hn:d.toList.Nodup):ziv d.toList:=by
 refine ybN.2 fun i j hi f b=>?_;simp only [ybo] at hi f;have:=hs i j (yao _) b f;simp only [ltOf,yby] at this;rw [getElem!_pos d i hi,getElem!_pos d j f] at this;simp only [Array.getElem_toList];refine cfE_ne (fun e=>?_) this;exact absurd (ybN.1 hn i j (by simpa using hi) (by simpa using f) b) (by simpa using e)
theorem aggE (w:World):(isAgg 207).run Tryz.prog w = .ok true w:=Tryz.isAgg207 w
theorem sizeE (w:World):(Go.sizeOf 207).run Tryz.prog w = .ok 3 w:=Tryz.sizeOf207 w
theorem sort_any {B:Nat} (h:w.ownsRow B 207 3 (.slice (some ⟨g,0,none⟩) ys.length cap) ys.length (zaB ys)) (hn:ys.Nodup) (h0:0<ys.length) (hl:ys.length≤1000000) :
 Calls Tryz.prog 176 #[.slice (some ⟨g,0,none⟩) ys.length cap,.func (.func 126) #[] #[]] w fun e w'=>e = .returned (.tuple #[])∧∃zs:List Ed,zs.Perm ys∧ziv zs ∧
  Rd w' w'.heap.size 3 (some ⟨g,0,none⟩) ys.length cap (zaB zs)∧w.grownBy w' (some g):=by
 have o:=(h.lt g rfl).2;have q:=zqf h;have j:ys.length≤cap∧cap≤maxLen:=by
  obtain ⟨A,c,e,s⟩:=Rd.own h;injection e with _ _ e
  subst e;exact ⟨s.cap,s.capm⟩
 have z:CmpLays Tryz.prog 126 #[] za8 3 cfE g 0 ys.toArray.size w:=fun m os G _ x y=>(compare_any x y _).mono fun _ _ ⟨C,D⟩=>⟨C,D.out⟩;have:=AnyQ.slices_SortFunc znu 3 aggE sizeE za8 (fun _=>rfl) zhf cfE swoE 126 #[] g 0 cap ys.toArray w (enters_of Tryz.func126 yaa rfl) z q o yag;rw [ybu] at this;refine this.mono ?_;rintro e w' ⟨rfl,f,n,os,u,E,rfl⟩;have b:f.size=ys.length:=by simpa using u.1
 have k:f.toList.Perm ys:=by
  have:=u.2.2;have e:f.toList.take ys.length=f.toList:=ybl (by simp [b]);simpa [e,b] using this
 refine ⟨rfl,f.toList,k,zrH (by rw [b];exact E) (k.nodup_iff.2 hn),?_,zox⟩;have F:=holdsK_sortWorldK_c za8 3 w g 0 ys.toArray f n os q o (by simpa using b);have:=rd_holds (cap:=cap) F (lt_sortWorldK za8 3 w g 0 n f os o) yab j.2;rwa [b] at this
theorem zik (p:Option Addr) (cap:Nat) (fv:Value) (w:World):Calls Tryz.prog 249 #[.slice p 0 cap,.int .i64 0,.int .i64 0,fv] w fun e w'=>e = .returned (.tuple #[])∧w'=w:=by
 go_enter Tryz.func249,Tryz.ntmps249
 go_wp2_with fail
 refine wp_loop_rounds 1 ?_;rw [rounds_succ];go_wp2_with fail
 go_end0
 exact ⟨rfl,rfl⟩
theorem pdq_none (p:Option Addr) (cap:Nat) (lim:Int) (fv:Value) (w:World):Calls Tryz.prog 226 #[.slice p 0 cap,.int .i64 0,.int .i64 0,.int .i64 lim,fv] w fun e w'=>e = .returned (.tuple #[])∧w'=w:=by
 have hi:=fun W=>zik p cap fv W;go_enter Tryz.func226,Tryz.ntmps226
 go_wp2_with fail
 refine wp_loop_rounds 1 ?_;rw [rounds_succ];go_wp2_with (go_at_call 249;refine (hi _).mono ?_;rintro e w' ⟨rfl,rfl⟩)
 (try simp only [Exit.inBlock,Exit.then])
 refine bodyPost_ret (results_none rfl _ _ _) rfl ?_;exact ⟨rfl,rfl⟩
theorem zrQ (p:Option Addr) (cap:Nat) (fv:Value) (w:World):Calls Tryz.prog 176 #[.slice p 0 cap,fv] w fun e w'=>e = .returned (.tuple #[])∧w'=w:=by
 have f:=fun b W=>pdq_none p cap b fv W;have g:∀W,Calls Tryz.prog 144 #[.int .u64 0] W fun e w'=>e = .returned (.int .i64 (Lib.bitLen 0:Nat))∧w'=W:=fun W=>by
  have h:=Any.bits_Len (SlLaysF0.n15.bits (P:=Tryz.prog) (ρ:=zgr) { znu with }) 0 W yab yab;exact h
 go_enter Tryz.func176,Tryz.ntmps176
 go_wp2_with (first | (go_at_call 144;refine (g _).mono ?_;rintro e w' ⟨rfl,rfl⟩) | (go_at_call 226;refine (f _ _).mono ?_;rintro e w' ⟨rfl,rfl⟩))
 go_end0
 exact ⟨rfl,rfl⟩
theorem sortedFunc_any {H:Type} {R:Value→Option (DataW H × List MemPlace)} {D0:DataW H} {L:List Ed} (hK:KeysAre D0 L) (hL:L.length≤1000000) (Bm b nn:Nat) (w:World)
 (hmm:w.cell? ⟨Bm,0,none⟩=some (.map (some b))) (hown:w.ownsMap Tryz.prog 207 R b nn D0) :
 Calls Tryz.prog 124 #[.func (.func 177) #[] #[.pointer (some ⟨Bm,0,none⟩)],.func (.func 126) #[] #[]] w fun e w' =>
  ∃A c zs,e = .returned (.slice A L.length c)∧zs.Perm L∧ziv zs∧Rd w' w'.heap.size 3 A L.length c (zaB zs)∧Below w.heap.size w w':=by
 have y:=callsIn_wide.1 (zok 6 (yaj _) hK hL Bm b nn w hmm hown);go_enter Tryz.func124,Tryz.ntmps124
 go_wp2_with (go_at_call 175;refine y.mono ?_;rintro e F ⟨v,n,rfl,j,f,hb⟩)
 have u:=j.length_eq;rcases ybg n.length with m | m
 · obtain ⟨A,c,rfl,o⟩:=Rd.own f;obtain rfl:n=[]:=yaU m;obtain rfl:L=[]:=j.nil_eq.symm;have o:=Lib.hid o;clear f j u m;go_wp2_with (go_at_call 176;refine (zrQ _ _ _ _).mono ?_;rintro e w' ⟨rfl,q⟩)
   subst q;go_ret
   exact ⟨A,c,[],rfl,ycs _,List.Pairwise.nil,o.out,hb⟩
 · have z:∃g c,v = .slice (some ⟨g,0,none⟩) n.length c:=by
    rcases f.2 with ⟨_,x⟩ | ⟨g,cap,_,x,_⟩
    · omega
    · exact ⟨g,cap,x⟩
   obtain ⟨g,c,rfl⟩:=z;have ks:=sort_any f (j.nodup_iff.2 hK.nodup) m yab;have B:=(f.lt g rfl).1;go_wp2_with (go_at_call 176;refine ks.mono ?_;rintro e G ⟨rfl,zs,C,D,E,s⟩)
   go_ret
   rw [←u];exact ⟨_,_,zs,rfl,C.trans j,D,E,hb.grown s hb.size fun k e=>by cases e;exact B⟩
end
section
variable {l:List TypI}
theorem zro (s:ByteArray):∀k,plc s k≤4 * k
 | 0=>yaj _
 | k + 1=>by
  have ih:=zro s k;by_cases h:plc s k<s.size
  · rw [zaK h];have:=wd_le4 h;omega
  · rw [zfF h];omega
theorem zkZ {x:ByteArray} (h:nameS x=true):x.size≤96:=by
 have f:=(zby.1 h).2.1;have b:=zro x (cnt x);rw [(zcu x).1] at b;omega
def opZ (o:OpP):OpI:=((o.1:Int),o.2.1,o.2.2)
theorem zlf (t:TypI) (b:List TypI):zaZ (t::b)=(t.rels.map fun r=>(t.name,r.name)) ++ zaZ b:=by
 unfold zaZ zbb;rw [yaS,yaM,ybp];rfl
theorem zqS {a b:ByteArray}:(a,b) ∈ zaZ l↔∃t ∈ l,∃r ∈ t.rels,t.name=a∧r.name=b:=by
 unfold zaZ zbb;simp only [yaH,ybz];constructor
 · rintro ⟨_,⟨t,f,r,g,rfl⟩,e⟩;simp only [Prod.mk.injEq] at e;exact ⟨t,f,r,g,e.1,e.2⟩
 · rintro ⟨t,f,r,g,rfl,rfl⟩;exact ⟨_,⟨t,f,r,g,rfl⟩,rfl⟩
theorem zhO:∀(l:List TypI),(l.map (·.name)).Nodup→(∀t ∈ l,(t.rels.map (·.name)).Nodup)→(zaZ l).Nodup
 | [],_,_=>ycT
 | t::q,h,b=>by
  rw [zlf,ybb];rw [yaX,ybS] at h;refine ⟨?_,zhO q h.2 fun t f=>b t (yau _ f),fun x g y j=>?_⟩
  · have:=b t yar;unfold List.Nodup at this ⊢;rw [yce] at this ⊢;exact this.imp fun h e=>h (Prod.ext_iff.1 e).2
  · obtain ⟨r,_,rfl⟩:=yaH.1 g;rintro rfl;obtain ⟨u,k,s,_,e,_⟩:=zqS.1 j;exact h.1 (yaH.2 ⟨u,k,e⟩)
theorem Right.paths (h:Right l):(zaZ l).Nodup:=zhO l h.names fun t b=>(h.rels t b).names
theorem Right.rels_le (h:Right l):(zbb l).length≤96:=by
 have H:∀q:List TypI,(∀t ∈ q,t.rels.length≤12)→(zbb q).length≤q.length * 12:=fun q=>by
  induction q with
  | nil=>intro _;simp [zbb]
  | cons t q ih =>
   intro f;have g:=ih fun t b=>f t (yau _ b);have j:=f t yar;unfold zbb at *
   rw [yaS,yam,yax,yat];omega
 have g:=H l fun t b=>(h.rels t b).few;have j:=h.few;omega
theorem few10 (s:ByteArray):Few 2049 (zak s).1:=by
 by_cases b:(zc2 s).2.1=0
 · have f:=zmT b;obtain ⟨v,k,g⟩:=zjk f b;refine zrm ?_;rw [g];have:=znW _ s 0 (yaj _);omega
 · unfold zak;rw [yak b];exact ⟨yao _,fun t j=>by cases j⟩
theorem NmW.size10 {n:ByteArray} (h:NmW n):n.size≤140737488351232:=yay (zkZ h.1) yac
theorem zhI:∀t:Ex,t.good→t.nm→∀o ∈ t.ops,(Lit.int .i64 (o.1:Nat)).wf=true∧o.2.1.size≤140737488351232∧o.2.2.size≤140737488351232
 | .this,_,_=>fun o f=>by rw [yav.1 f];exact ⟨by decide,yao _,yao _⟩
 | .same n,_,h=>fun o f=>by
  have j:NmW n:=h;rw [yav.1 f];exact ⟨by rfl,j.size10,yao _⟩
 | .via n m,_,h=>fun o f=>by
  have j:NmW n∧NmW m:=h;rw [yav.1 f];exact ⟨by rfl,j.1.size10,j.2.size10⟩
 | .bin k a b,g,h=>fun o f=>by
  rcases yaA.1 f with f | f
  · rcases yaA.1 f with f | f
    · exact zhI a g.2.1 h.1 o f
    · exact zhI b g.2.2 h.2 o f
  · rw [yav.1 f];refine ⟨?_,yao _,yao _⟩;rcases g.1 with rfl | rfl | rfl <;> rfl
theorem zo8 (s:ByteArray):∀t ∈ (zak s).1,t.name.size≤140737488351232∧t.rels.length * 112≤140737488351232∧∀x ∈ t.rels,SmI 140737488351232 x:=fun t j=>by
 have g:=ze7 s t j;have f:=(few10 s).2 t j;refine ⟨g.name.size10,by have:=f.1;omega,fun x k=>?_⟩;have b:=g.rels x k;have m:=f.2 x k;obtain ⟨e,u,y,z,_⟩:=b.ops;exact ⟨b.name.size10,b.view.size10,b.edit.size10,b.check.size10,by have:=m.1;omega,fun q n=>⟨(b.subs q n).1.size10,by
  rcases (b.subs q n).2 with e | e
  · rw [e];exact yao _
  · exact e.size10⟩,by have:=m.2;omega,fun o A=>zhI e y z o (u ▸ A)⟩
theorem said_few (s:ByteArray):(zak s).1.length * 40≤140737488351232:=by have:=(few10 s).1;omega
theorem zrM {s:ByteArray} {t:TypI} (ht:t ∈ (zak s).1.map zbY) {r:RelI} (hr:r ∈ t.rels):∃e:Ex,r.ops=e.ops.map opZ∧e.good∧r.ops.length≤2049∧r.subs.length≤2049:=by
 obtain ⟨t0,b,rfl⟩:=yaH.1 ht;obtain ⟨r0,g,rfl⟩:=yaH.1 hr;obtain ⟨e,j,k,_⟩:=((ze7 s t0 b).rels r0 g).ops;have f:=((few10 s).2 t0 b).2 r0 g;exact ⟨e,by show r0.ops.map opI=_;rw [j];rfl,k,by show (r0.ops.map opI).length≤_;rw [yax];exact f.2,f.1⟩
end
section
open Go.RowKit
open Go.RowKit
def ixP (ps:List Path) (q:Path):Nat:=(zat ps q).getD 0
abbrev OpT:=Int × Int × ByteArray
def zcw (ps:List Path) (tn:ByteArray) (o:OpI):OpT:=(o.1,if o.1=2∨o.1=3 then (ixP ps (tn,o.2.1):Nat) else 0,o.2.2)
structure RelT where
 tn:ByteArray
 rn:ByteArray
 view:Int
 edit:Int
 check:Int
 level:Int
 subs:List Path
 ops:List OpT
def zdL (ps:List Path) (lv:Int) (x:TypI × RelI):RelT:=⟨x.1.name,x.2.name,(ixP ps (x.1.name,x.2.view):Nat),(ixP ps (x.1.name,x.2.edit):Nat),(ixP ps (x.1.name,x.2.check):Nat),lv,x.2.subs,x.2.ops.map (zcw ps x.1.name)⟩
def zdi (o:OpT):List Value:=[.int .i64 o.1,.int .i64 o.2.1,.string o.2.2]
def zbv (l:List OpT):List Value:=l.flatMap zdi
structure TabR where
 r:RelT
 As:Option Addr
 cs:Nat
 Ao:Option Addr
 co:Nat
def TabR.cells (x:TabR):List Value:=[.string x.r.tn,.string x.r.rn,.int .i64 x.r.view,.int .i64 x.r.edit,.int .i64 x.r.check,.int .i64 x.r.level,.slice x.As x.r.subs.length x.cs,.slice x.Ao x.r.ops.length x.co]
structure TabR.ok (w:World) (x:TabR):Prop where
 subs:Rd w w.heap.size 2 x.As x.r.subs.length x.cs (x.r.subs.flatMap zpt)
 ops:Rd w w.heap.size 3 x.Ao x.r.ops.length x.co (zbv x.r.ops)
 few:x.r.ops.length≤100000
theorem TabR.ok.up {w w':World} {x:TabR} (h:x.ok w) (hb:Below w.heap.size w w'):x.ok w':=⟨h.subs.up hb,h.ops.up hb,h.few⟩
def noRT:RelT:=⟨⟨#[]⟩,⟨#[]⟩,0,0,0,0,[],[]⟩
def noTR:TabR:=⟨noRT,none,0,none,0⟩
theorem zq6 (w:World):noTR.ok w:=⟨Rd.none_ _ _ _,Rd.none_ _ _ _,yao _⟩
def atK (K:List TabR) (id:Int):TabR:=if 0≤id then K.getD id.toNat noTR else noTR
theorem zpF {K:List TabR} {i:Nat} {x:TabR} (h:K[i]? = some x):atK K i=x:=by
 unfold atK;rw [yan yab,ybn,ya2,h];rfl
theorem atK_neg {K:List TabR} {id:Int} (h:id<0):atK K id=noTR:=yak yab
theorem atK_out {K:List TabR} {id:Int} (h:(K.length:Int)≤id):atK K id=noTR:=by
 unfold atK;rw [yan yab,ya2,ycI (by omega)];rfl
structure TabK (w:World) (Ar:Option Addr) (cr:Nat) (K:List TabR):Prop where
 rows:Rd w w.heap.size 8 Ar K.length cr (K.flatMap TabR.cells)
 each:∀x ∈ K,x.ok w
theorem TabK.up {w w':World} {Ar:Option Addr} {cr:Nat} {K:List TabR} (h:TabK w Ar cr K) (hb:Below w.heap.size w w'):TabK w' Ar cr K:=⟨h.rows.up hb,fun x b=>(h.each x b).up hb⟩
theorem TabK.at_ok {w:World} {Ar:Option Addr} {cr:Nat} {K:List TabR} (h:TabK w Ar cr K) (id:Int):(atK K id).ok w:=by
 unfold atK;split
 · rw [ya2];cases e:K[id.toNat]? with
   | none=>exact zq6 w
   | some x=>exact h.each x (yaq e)
 · exact zq6 w
theorem TabK.get {w:World} {Ar:Option Addr} {cr:Nat} {K:List TabR} (h:TabK w Ar cr K) {i:Nat} {x:TabR} (hi:K[i]? = some x) :
 ∃b o,Ar=some ⟨b,o,none⟩∧b<w.heap.size∧w.cell? ⟨b,o + i * 8,none⟩=some (.string x.r.tn)∧w.cell? ⟨b,o + i * 8 + 1,none⟩=some (.string x.r.rn)∧w.cell? ⟨b,o + i * 8 + 2,none⟩=some (.int .i64 x.r.view)∧w.cell? ⟨b,o + i * 8 + 3,none⟩=some (.int .i64 x.r.edit) ∧
  w.cell? ⟨b,o + i * 8 + 4,none⟩=some (.int .i64 x.r.check)∧w.cell? ⟨b,o + i * 8 + 5,none⟩=some (.int .i64 x.r.level)∧w.cell? ⟨b,o + i * 8 + 6,none⟩=some (.slice x.As x.r.subs.length x.cs)∧w.cell? ⟨b,o + i * 8 + 7,none⟩=some (.slice x.Ao x.r.ops.length x.co):=by
 obtain ⟨b,o,e,hb,m⟩:=h.rows.at_ (zd8 hi);have g:=fun k (hk:k<8)=>zbf TabR.cells (sz:=8) (fun _=>rfl) hi (k:=k) hk;have f:=fun k (hk:k<8)=>show w.cell? ⟨b,o + i * 8 + k,none⟩=x.cells[k]? by
  have:=g k hk;cases j:x.cells[k]? with
  | none=>exact absurd (ycR.1 j) (by show ¬8≤k;omega)
  | some u=>rw [j] at this;rw [ya7];exact m _ _ this
 exact ⟨b,o,e,hb,f 0 yab,f 1 yab,f 2 yab,f 3 yab,f 4 yab,f 5 yab,f 6 yab,f 7 yab⟩
theorem Bk.c8 {w:World} {b:Nat} {t:TypeId} {x0 x1 x2 x3 x4 x5 x6 x7:Value} (h:Bk w b #[x0,x1,x2,x3,x4,x5,x6,x7] t):w.cell? ⟨b,0,none⟩=some x0∧w.cell? ⟨b,1,none⟩=some x1∧w.cell? ⟨b,2,none⟩=some x2∧w.cell? ⟨b,3,none⟩=some x3∧w.cell? ⟨b,4,none⟩=some x4∧w.cell? ⟨b,5,none⟩=some x5∧w.cell? ⟨b,6,none⟩=some x6∧w.cell? ⟨b,7,none⟩=some x7:=⟨h.cell 0,h.cell 1,h.cell 2,h.cell 3,h.cell 4,h.cell 5,h.cell 6,h.cell 7⟩
theorem set8 {w w0:World} {B b:Nat} {t:TypeId} {x0 x1 x2 x3 x4 x5 x6 x7:Value} (h:Bk w0 b #[x0,x1,x2,x3,x4,x5,x6,x7] t) (hb:Below B w w0) (hB:B≤b) (v0 v1 v2 v3 v4 v5 v6 v7:Value) :
 Bk ((((((((w0.setCell ⟨b,0,none⟩ v0).setCell ⟨b,1,none⟩ v1).setCell ⟨b,2,none⟩ v2).setCell ⟨b,3,none⟩ v3).setCell ⟨b,4,none⟩ v4).setCell ⟨b,5,none⟩ v5).setCell ⟨b,6,none⟩ v6).setCell ⟨b,7,none⟩ v7) b #[v0,v1,v2,v3,v4,v5,v6,v7] t ∧
 Below B w ((((((((w0.setCell ⟨b,0,none⟩ v0).setCell ⟨b,1,none⟩ v1).setCell ⟨b,2,none⟩ v2).setCell ⟨b,3,none⟩ v3).setCell ⟨b,4,none⟩ v4).setCell ⟨b,5,none⟩ v5).setCell ⟨b,6,none⟩ v6).setCell ⟨b,7,none⟩ v7) :=
 ⟨by
  have f:=(((((((h.set 0 v0).set 1 v1).set 2 v2).set 3 v3).set 4 v4).set 5 v5).set 6 v6).set 7 v7;simp only [yaG,yaV,yaW] at f;exact f,(((((((hb.setCell hB _).setCell hB _).setCell hB _).setCell hB _).setCell hB _).setCell hB _).setCell hB _).setCell hB _⟩
section
variable {w:World} {tx:ByteArray} {Ay:Option Addr} {ny cy:Nat} {mb:Option Nat} {Ar:Option Addr} {cr:Nat} {K:List TabR}
theorem tlen_any (h:TabK w Ar cr K):Calls Tryz.prog 31 #[.agg #[.string tx,.slice Ay ny cy,.map mb,.slice Ar K.length cr]] w fun e w'=>e = .returned (.int .i64 K.length)∧Below w.heap.size w w':=by
 have b:(K.length:Int)≤9223372036854775807:=by have:=h.rows.cap;have:=h.rows.capm;simp only [maxLen] at this;omega
 go_enter Tryz.func31,Tryz.ntmps31
 go_wp2_with fail
 go_ret
 exact ⟨rfl,zdS w _⟩
theorem ttext_any {nr:Nat}:Calls Tryz.prog 27 #[.agg #[.string tx,.slice Ay ny cy,.map mb,.slice Ar nr cr]] w fun e w'=>e = .returned (.string tx)∧Below w.heap.size w w':=by
 go_enter Tryz.func27,Tryz.ntmps27
 go_wp2_with fail
 go_ret
 exact ⟨rfl,zdS w _⟩
def TabR.val (x:TabR):Value:=.agg #[.string x.r.tn,.string x.r.rn,.int .i64 x.r.view,.int .i64 x.r.edit,.int .i64 x.r.check,.int .i64 x.r.level,.slice x.As x.r.subs.length x.cs,.slice x.Ao x.r.ops.length x.co]
theorem at_any (h:TabK w Ar cr K) (id:Int) (hid:(Lit.int .i64 id).wf=true):Calls Tryz.prog 135 #[.agg #[.string tx,.slice Ay ny cy,.map mb,.slice Ar K.length cr],.int .i64 id] w fun e w'=>e = .returned (atK K id).val∧Below w.heap.size w w':=by
 have U:(K.length:Int)≤9223372036854775807:=by have:=h.rows.cap;have:=h.rows.capm;simp only [maxLen] at this;omega
 have C:=Bk.new w #[.string tx,.slice Ay ny cy,.map mb,.slice Ar K.length cr] 61;have f:=Bk.new2 w (.cells #[.string tx,.slice Ay ny cy,.map mb,.slice Ar K.length cr] 61) #[.string ⟨#[]⟩,.string ⟨#[]⟩,.int .i64 0,.int .i64 0,.int .i64 0,.int .i64 0,.slice none 0 0,.slice none 0 0] 242;have g:Below w.heap.size w ((w.alloc (.cells #[.string tx,.slice Ay ny cy,.map mb,.slice Ar K.length cr] 61)).alloc (.cells #[.string ⟨#[]⟩,.string ⟨#[]⟩,.int .i64 0,.int .i64 0,.int .i64 0,.int .i64 0,.slice none 0 0,.slice none 0 0] 242)):=((Below.refl _ w).alloc (yaj _) _).alloc (size_alloc (yaj _)) _;have G:=C.alloc (.cells #[.string ⟨#[]⟩,.string ⟨#[]⟩,.int .i64 0,.int .i64 0,.int .i64 0,.int .i64 0,.slice none 0 0,.slice none 0 0] 242);have N:=h.up g;go_enter Tryz.func135,Tryz.ntmps135
 go_upto_region 1 with (fail)
 generalize (w.alloc (.cells #[.string tx,.slice Ay ny cy,.map mb,.slice Ar K.length cr] 61)).alloc (.cells #[.string ⟨#[]⟩,.string ⟨#[]⟩,.int .i64 0,.int .i64 0,.int .i64 0,.int .i64 0,.slice none 0 0,.slice none 0 0] 242)=O at *
 have t3:O.cell? ⟨w.heap.size,3,none⟩=some (.slice Ar K.length cr):=G.cell 3;have V:=G.lt;have X:=f.lt;have Y:=f.fz;obtain ⟨z0,Z,z2,z3,z4,z5,z6,z7⟩:=f.c8;by_cases k:id<0
 · have j:=atK_neg (K:=K) k;have H:decide (id<0)=true:=yaB k;go_wp2_with fail
   obtain ⟨m,hb⟩:=set8 f g (ybd _) (.string ⟨#[]⟩) (.string ⟨#[]⟩) (.int .i64 0) (.int .i64 0) (.int .i64 0) (.int .i64 0) (.slice none 0 0) (.slice none 0 0);obtain ⟨n,q,s,u,y,z,A,B⟩:=m.c8;refine bodyPost_ret (v:=noTR.val) (by simp [results,Tryz.results135,go_sem,n,q,s,u,y,z,A,B,TabR.val,noTR,noRT];try rfl) rfl ?_;rw [j];exact ⟨rfl,hb⟩
 · obtain ⟨i,rfl⟩:∃i:Nat,id=i:=⟨id.toNat,by omega⟩;by_cases I:i<K.length
   · obtain ⟨x,J⟩:∃x,K[i]? = some x:=⟨_,yal I⟩;have j:=zpF J;obtain ⟨b,o,rfl,P,k0,k1,k2,k3,k4,k5,k6,k7⟩:=N.get J;have H:¬(i:Int)<0:=k;have Q:¬(i:Int) ≥ (K.length:Int):=by omega
     have g3:(i:Int)<(K.length:Int):=by omega
     replace j:=Lib.hid j;clear k;obtain ⟨b',o',D,R,_⟩:=h.rows.at_ yab;injection D with D
     injection D with E F _
     subst E;subst F;have T:¬w.heap.size + 1=b:=by omega
     have L:¬b=w.heap.size + 1:=by omega
     have M:¬b=w.heap.size:=by omega
     go_wp2_with fail
     obtain ⟨m,hb⟩:=set8 f g (ybd _) (.string x.r.tn) (.string x.r.rn) (.int .i64 x.r.view) (.int .i64 x.r.edit) (.int .i64 x.r.check) (.int .i64 x.r.level) (.slice x.As x.r.subs.length x.cs) (.slice x.Ao x.r.ops.length x.co);obtain ⟨n,q,s,u,y,z,A,B⟩:=m.c8;refine bodyPost_ret (v:=x.val) (by simp [results,Tryz.results135,go_sem,n,q,s,u,y,z,A,B,TabR.val];try rfl) rfl ?_;rw [j.out];exact ⟨rfl,hb⟩
   · have j:=atK_out (K:=K) (id:=(i:Int)) yab;have H:¬(i:Int)<0:=k;have Q:(i:Int) ≥ (K.length:Int):=by omega
     replace j:=Lib.hid j;clear k I;go_wp2_with fail
     obtain ⟨m,hb⟩:=set8 f g (ybd _) (.string ⟨#[]⟩) (.string ⟨#[]⟩) (.int .i64 0) (.int .i64 0) (.int .i64 0) (.int .i64 0) (.slice none 0 0) (.slice none 0 0);obtain ⟨n,q,s,u,y,z,A,B⟩:=m.c8;refine bodyPost_ret (v:=noTR.val) (by simp [results,Tryz.results135,go_sem,n,q,s,u,y,z,A,B,TabR.val,noTR,noRT];try rfl) rfl ?_;rw [j.out];exact ⟨rfl,hb⟩
end
section
variable {w:World} {tx:ByteArray} {Ay:Option Addr} {ny cy:Nat} {mb:Option Nat} {Ar:Option Addr} {cr:Nat} {K:List TabR}
theorem rel_f3 (x0 x1 x2 x3 x4 x5 x6 x7:Value) (W:World):(Instr.field 242 (.agg #[x0,x1,x2,x3,x4,x5,x6,x7]) 3).run Tryz.prog W = .ok (x6) W:=by kernel_rfl
theorem TabR.val_eq (x:TabR):x.val = .agg #[.string x.r.tn,.string x.r.rn,.int .i64 x.r.view,.int .i64 x.r.edit,.int .i64 x.r.check,.int .i64 x.r.level,.slice x.As x.r.subs.length x.cs,.slice x.Ao x.r.ops.length x.co]:=rfl
theorem tmay_any (h:TabK w Ar cr K) (id:Int) (hid:(Lit.int .i64 id).wf=true) (ty re:ByteArray):Calls Tryz.prog 84 #[.agg #[.string tx,.slice Ay ny cy,.map mb,.slice Ar K.length cr],.int .i64 id,.string ty,.string re] w fun e w'=>e = .returned (.bool ((atK K id).r.subs.any fun y=>decide (y=(ty,re))))∧Below w.heap.size w w':=by
 have b:=zdS w (.cells #[.string tx,.slice Ay ny cy,.map mb,.slice Ar K.length cr] 61);have m:=at_any (tx:=tx) (Ay:=Ay) (ny:=ny) (cy:=cy) (mb:=mb) (h.up b) id hid;have g:=(h.up b).at_ok id;rw [TabR.val_eq] at m;generalize atK K id=x at *
 have n:=@rel_f3;generalize hq:(x.r.subs.any fun y=>decide (y=(ty,re)))=q;go_enter Tryz.func84,Tryz.ntmps84
 go_wp2_with (first
  | (go_at_call 135;refine m.mono ?_;rintro e s ⟨rfl,f⟩;have j:SubsA s x.As x.cs x.r.subs:=⟨g.subs.up f⟩;have o:=contains_any j (ty,re);rw [hq] at o)
  | (go_at_call 134;refine o.mono ?_;rintro e u ⟨rfl,k⟩))
 go_ret
 exact ⟨rfl,zan (zan b b.size f) (zan b b.size f).size k⟩
theorem zlr (w:World) (t e:TypeId) (a:Option Addr) (l c:Nat) (h:Tryz.prog.underlying t=some (.slice e)):(binOp .eql t (.slice a l c) (.slice none 0 0)).run Tryz.prog w = .ok (.bool a.isNone) w:=by
 simp [binOp,run_equal_slice_nil w t e a l c h]
theorem rdsrc11 {B size n c:Nat} {a:Addr} {xs:List Value} (h:Rd w B size (some a) n c xs):∀j u,xs[j]? = some u→w.cell? (a.add j)=some u:=by
 intro j u f;have g:0<n:=by
  have:=(yap.1 f).1;rw [h.len] at this;exact Nat.pos_of_ne_zero fun e=>by subst e;simp at this
 obtain ⟨b,o,e,_,k⟩:=h.at_ g;cases e;rw [Addr.add_lit];exact k j u f
theorem info_top:(Tryz.prog.info? 304).map (fun i=>(i.zero,i.size,i.bytes))=some (some (.agg #[.int .i64 0,.int .i64 0,.string .empty]),3,32):=by kernel_rfl
theorem zoI (a b:ByteArray):(a.toList == b.toList)=decide (a=b):=toList_inj
theorem indexS_any {A:Option Addr} {c:Nat} {l:List ByteArray} (h:Rd w w.heap.size 1 A l.length c (l.map Value.string)) (s:ByteArray) :
 Calls Tryz.prog 232 #[.slice A l.length c,.string s] w fun e w'=>(∃z:Int,e = .returned (.int .i64 z)∧decide (0≤z)=l.any fun y=>decide (y=s))∧Below w.heap.size w w':=by
 have G:(l.length:Int)≤9223372036854775807:=by have:=h.cap;have:=h.capm;simp only [maxLen] at this;omega
 go_enter Tryz.func232,Tryz.ntmps232
 go_wp2_with fail
 go_loopw [8] (fun n E=>∃i:Nat,n = .int .i64 i∧i≤l.length∧(∀y ∈ l.take i,decide (y=s)=false)∧Hid (E=w)) (fun n _=>l.length-(intOf n).toNat)
 case atStart=>exact ⟨0,rfl,yao _,fun t g=>(by simp at g),Lib.hid rfl⟩
 case round =>
  obtain ⟨i,rfl,hi,q,x⟩:=hrel;have j:=x.out;subst j;by_cases k:i<l.length
  · have B:(i:Int)<(l.length:Nat):=by omega
    obtain ⟨t,g⟩:∃t,l[i]? = some t:=⟨l[i],yal k⟩;obtain ⟨b,o,u,rfl,F,D,H⟩:=h.get k;rw [yaY,g] at D;obtain rfl:=yaZ D;have C:=zoI s t;have f:decide (s=t)=decide (t=s):=by rw [ya9];simp [eq_comm]
    rw [f] at C;cases m:decide (t=s) with
    | true =>
     rw [m] at C;clear f;go_wp2_with fail
     go_ret
     exact ⟨⟨_,rfl,by rw [any_at g m];exact yaB yab⟩,Below.refl _ _⟩
    | false =>
     rw [m] at C;clear f;go_wp2_with fail
     exact ⟨⟨i + 1,by go_num,by omega,zfM g q m,Lib.hid trivial⟩,by simp [intOf];omega⟩
  · have B:¬(i:Int)<(l.length:Nat):=by omega
    obtain rfl:i=l.length:=by omega
    rw [yaz] at q;go_wp2_with fail
    go_ret
    exact ⟨⟨_,rfl,by rw [zlL q];decide⟩,Below.refl _ _⟩
theorem thas_any {nr:Nat} {l:List ByteArray} (h:Rd w w.heap.size 1 Ay l.length cy (l.map Value.string)) (s:ByteArray) :
 Calls Tryz.prog 133 #[.agg #[.string tx,.slice Ay l.length cy,.map mb,.slice Ar nr cr],.string s] w fun e w'=>e = .returned (.bool (l.any fun y=>decide (y=s)))∧Below w.heap.size w w':=by
 have f:=zdS w (.cells #[.string tx,.slice Ay l.length cy,.map mb,.slice Ar nr cr] 61);have j:∀W:World,Rd W W.heap.size 1 Ay l.length cy (l.map Value.string)→Calls Tryz.prog 183 #[.slice Ay l.length cy,.string s] W fun e w'=>e = .returned (.bool (l.any fun y=>decide (y=s)))∧Below W.heap.size W w':=by
  intro W k;have m:=indexS_any k s;go_enter Tryz.func183,Tryz.ntmps183
  go_wp2_with (go_at_call 232;refine m.mono ?_;rintro e n ⟨⟨z,rfl,g⟩,b⟩)
  by_cases o:0≤z
  · go_wp2
    go_ret
    exact ⟨by rw [←g,yaB o];rfl,b⟩
  · go_wp2
    go_ret
    exact ⟨by rw [←g];rfl,b⟩
 have q:=j _ (h.up f);go_enter Tryz.func133,Tryz.ntmps133
 go_wp2_with (go_at_call 183;refine q.mono ?_;rintro e n ⟨rfl,b⟩)
 go_ret
 exact ⟨rfl,zan f f.size b⟩
end
end
end Go.Proofs.YtmblgnddgmfkhaaGreat
