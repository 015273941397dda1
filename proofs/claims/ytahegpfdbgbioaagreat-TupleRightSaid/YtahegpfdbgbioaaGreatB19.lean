import Derived.Test.YtahegpfdbgbioaaGreatB18
set_option maxRecDepth 100000
set_option maxHeartbeats 4000000
namespace Go.Proofs.YtahegpfdbgbioaaGreat
open Go.RowKit Go.Maps
open Go.RowKit Go.Maps
def unitE:Value→Option (DataW Unit × List MemPlace):=unitElem
structure FoundM (W:World) (mb:Nat) (E:List Ed) (N:Nat):Prop where
 out:∃nn D0 L,nn≤N∧W.ownsMap Tryz.prog 151 unitE mb nn D0∧KeysAre D0 L∧∀e,e ∈ L↔e ∈ E
theorem FoundM.isMap {W:World} {mb N:Nat} {E:List Ed} (h:FoundM W mb E N):∃es clock,W.heap[mb]? = some (.map es clock):=by
 obtain ⟨_,_,_,_,⟨es,clock,hb,_⟩,_⟩:=h.out;exact ⟨es,clock,hb⟩
theorem FoundM.same {W W':World} {mb N:Nat} {E:List Ed} (h:FoundM W mb E N) (hb:W'.heap[mb]? = W.heap[mb]?):FoundM W' mb E N:=by
 obtain ⟨nn,D0,L,h1,⟨es,clock,h2,h3⟩,h4⟩:=h.out;exact ⟨nn,D0,L,h1,⟨es,clock,hb.trans h2,h3⟩,h4⟩
theorem FoundM.lt {W:World} {mb N:Nat} {E:List Ed} (h:FoundM W mb E N):mb<W.heap.size:=by
 obtain ⟨_,_,h⟩:=h.isMap;exact (Array.getElem?_eq_some_iff.1 h).1
theorem FoundM.more {W:World} {mb N N':Nat} {E:List Ed} (h:FoundM W mb E N) (hN:N≤N'):FoundM W mb E N':=by
 obtain ⟨nn,D0,L,h1,h2⟩:=h.out;exact ⟨nn,D0,L,by omega,h2⟩
theorem kE_lit {e:Ed} (h:Fits e):WideAt.IsKeyLit (kE e):=zg0.key (zhA h)
theorem KeysAre.put {H:Type} {D0 d:DataW H} {L:List Ed} (hm:IsMap D0) (h:KeysAre D0 L) {e:Ed} (he:Fits e):∃L',KeysAre (D0.put (kE e) d) L'∧∀x,x ∈ L'↔x ∈ L∨x=e:=by
 have h1:∀x,Fits x→(has (D0.put (kE e) d) (kE x)=true↔has D0 (kE x)=true∨x=e):=fun x hx=>by
  by_cases e1:x=e
  · subst e1;simp [has_put_same hm (kE_lit he)]
  · rw [has_put_other fun e2=>e1 (kE_inj hx.1 hx.2 he.1 he.2 e2)];simp [e1]
 have h2:∀kl,has (D0.put (kE e) d) kl=true→has D0 kl=true∨kl=kE e:=fun kl hk=>by
  by_cases e1:kl=kE e
  · exact .inr e1
  · rw [has_put_other e1] at hk;exact .inl hk
 by_cases hL:e ∈ L
 · refine ⟨L,⟨h.fits,h.nodup,fun x hx=>(h1 x (h.fits x hx)).2 (.inl (h.mem x hx)),fun kl hk=>?_⟩,fun x=>⟨.inl,fun h3=>h3.elim id fun e1=>e1 ▸ hL⟩⟩;rcases h2 kl hk with hk | rfl
   · exact h.only kl hk
   · exact ⟨e,hL,rfl⟩
 · have hf:∀x ∈ L ++ [e],Fits x:=fun x hx=>by
    rcases List.mem_append.1 hx with hx | hx
    · exact h.fits x hx
    · simp at hx;exact hx ▸ he
   refine ⟨L ++ [e],⟨hf,List.nodup_append.2 ⟨h.nodup,by simp,fun a ha b hb=>by simp at hb;subst hb;exact fun e1=>hL (e1 ▸ ha)⟩,fun x hx=>(h1 x (hf x hx)).2 ?_,fun kl hk=>?_⟩,fun x=>by simp⟩
   · rcases List.mem_append.1 hx with hx | hx
     · exact .inl (h.mem x hx)
     · simp at hx;exact .inr hx
   · rcases h2 kl hk with hk | rfl
     · obtain ⟨x,hx,e1⟩:=h.only kl hk;exact ⟨x,List.mem_append_left _ hx,e1⟩
     · exact ⟨e,by simp,rfl⟩
theorem FoundM.made (w:World):FoundM (w.alloc (.map #[] 0)) w.heap.size [] 0:=⟨0,_,[],Nat.le_refl _,World.ownsMap_made _ _ _ _,⟨fun _ h=>(by cases h),List.nodup_nil,fun _ h=>(by cases h),fun kl h=>(by simp [has] at h)⟩,fun _=>Iff.rfl⟩
structure EW (Wk X W:World) (E:List Ed) (N:Nat):Prop where
 below:Below Wk.heap.size Wk W
 found:FoundM W Wk.heap.size E N
 mapX:∃es clock,X.heap[Wk.heap.size]? = some (.map es clock)
 size:X.heap.size≤W.heap.size
 same:∀g,g<X.heap.size→g≠Wk.heap.size→W.heap[g]? = X.heap[g]?
section
variable {Wk X W W':World} {E E':List Ed} {N N':Nat}
theorem EW.base (h:EW Wk X W E N):EW Wk W W E N:=⟨h.below,h.found,h.found.isMap,Nat.le_refl _,fun _ _ _=>rfl⟩
theorem EW.join (h:EW Wk X W E N) (k:EW Wk W W' E' N'):EW Wk X W' E' N':=⟨k.below,k.found,h.mapX,Nat.le_trans h.size k.size,fun g h1 h2=>(k.same g (Nat.lt_of_lt_of_le h1 h.size) h2).trans (h.same g h1 h2)⟩
theorem EW.call (h:EW Wk X W E N) (hb:Below W.heap.size W W'):EW Wk X W' E N :=
 ⟨h.below.trans (hb.mono (by have:=h.below.size;omega)),h.found.same (hb.block _ h.found.lt),h.mapX,Nat.le_trans h.size hb.size,fun g h1 h2=>(hb.block g (by have:=h.size;omega)).trans (h.same g h1 h2)⟩
theorem EW.alloc (h:EW Wk X W E N) (o:Obj):EW Wk X (W.alloc o) E N:=h.call ((Below.refl _ W).alloc (Nat.le_refl _) o)
theorem EW.more (h:EW Wk X W E N) (hN:N≤N'):EW Wk X W E N':=⟨h.below,h.found.more hN,h.mapX,h.size,h.same⟩
theorem EW.turn (h:EW Wk X W E N) (hg:W.grownBy W' (some Wk.heap.size)) (hf:FoundM W' Wk.heap.size E' N'):EW Wk X W' E' N' :=
 ⟨h.below.grown hg h.below.size fun k e=>by cases e;exact Nat.le_refl _,hf,h.mapX,Nat.le_trans h.size hg.size,fun g h1 h2=>(hg.block g (by have:=h.size;omega) fun e=>h2 (Option.some.inj e)).trans (h.same g h1 h2)⟩
theorem EW.bk {b:Nat} {cs:Array Value} {t:TypeId} (h:EW Wk X W E N) (hb:Bk X b cs t):Bk W b cs t:=(h.same b hb.lt fun e=>by
 obtain ⟨es,cl,hm⟩:=h.mapX;rw [←e,show X.heap[b]? = _ from hb] at hm;cases hm).trans hb
theorem EW.cell {a:Addr} {v:Value} (h:EW Wk X W E N) (hc:X.cell? a=some v):W.cell? a=some v:=by
 have hl:=World.block_lt_of_cell? X a hc;have hne:a.block≠Wk.heap.size:=fun e=>by
  obtain ⟨es,cl,hm⟩:=h.mapX;unfold World.cell? at hc;rw [e,hm] at hc;simp at hc
 exact (World.cell?_of_block (h.same _ hl hne)).trans hc
theorem EW.rd {sz n c:Nat} {A:Option Addr} {xs:List Value} (h:EW Wk X W E N) (hr:Rd X X.heap.size sz A n c xs):Rd W W.heap.size sz A n c xs :=
 ⟨hr.len,hr.cap,hr.capm,hr.nil,fun hn=>by
  obtain ⟨b,o,e,hb,hc⟩:=hr.at_ hn;exact ⟨b,o,e,Nat.lt_of_lt_of_le hb h.size,fun j u hj=>h.cell (hc j u hj)⟩⟩
end
def relsD (ps:List Path) (rs:List RelI) (xs:List (TypA × RelA)):List Ed:=xs.zipIdx.flatMap fun x=>relE ps rs x.1.1.name x.1.2.says x.2
theorem zha (ps:List Path) (rs:List RelI) (xs:List (TypA × RelA)) (x:TypA × RelA):relsD ps rs (xs ++ [x])=relsD ps rs xs ++ relE ps rs x.1.name x.2.says xs.length:=by
 unfold relsD;rw [List.zipIdx_append,List.flatMap_append];simp
def zds (ps:List Path) (rs:List RelI) (tn:ByteArray) (r:RelI) (f k:Nat):List Ed:=((r.ops.take k).zipIdx).flatMap fun x=>opsE ps rs tn r f x.2 x.1
theorem zg8 {ps:List Path} {rs:List RelI} {tn:ByteArray} {r:RelI} {f k:Nat} {o:OpI} (h:r.ops[k]? = some o):zds ps rs tn r f (k + 1)=zds ps rs tn r f k ++ opsE ps rs tn r f k o:=by
 have hk:k<r.ops.length:=(List.getElem?_eq_some_iff.1 h).1;unfold zds;rw [List.take_add_one,h,Option.toList_some,List.zipIdx_append,List.flatMap_append,List.length_take,Nat.min_eq_left (by omega)];simp
theorem ziI {ps:List Path} {rs:List RelI} {tn:ByteArray} {r:RelI} {f:Nat}:zds ps rs tn r f r.ops.length=relE ps rs tn r f:=by
 unfold zds relE;rw [List.take_length]
theorem zaN (l:List TypA):(relsA l).map (fun x=>(x.1.says,x.2.says))=zaA (l.map TypA.says):=by
 unfold zaA relsA;induction l with
 | nil=>rfl
 | cons t r ih =>
  rw [List.map_cons,List.flatMap_cons,List.flatMap_cons,List.map_append,ih];congr 1
  simp [TypA.says]
theorem zfX (l:List TypA):zaV (l.map TypA.says)=relsD (zan (relsA l)) ((relsA l).map fun x=>x.2.says) (relsA l):=by
 have h1:=(zaN l).symm;unfold zaV relsD;rw [zap,h1,List.map_map,List.map_map,List.zipIdx_map,List.flatMap_map];rfl
def zfs (n:Nat):List Ed:=(List.range n).flatMap fun (a:Nat)=>(List.range n).flatMap fun (b:Nat)=>[((a:Int),(b:Int),false),((a:Int),(b:Int),true)]
theorem zfa (n:Nat):(zfs n).length=n * (n * 2):=by
 have h:∀(l:List Nat) (k:Nat),(l.map fun _=>k).sum=l.length * k:=fun l k=>by
  induction l with
  | nil=>simp
  | cons a t ih=>rw [List.map_cons,List.sum_cons,ih,List.length_cons,Nat.add_mul];omega
 unfold zfs;simp only [List.length_flatMap,List.length_cons,List.length_nil,Nat.zero_add,Nat.reduceAdd,h,List.length_range]
theorem zc9 {α:Type} [DecidableEq α] {L E:List α} (hn:L.Nodup) (h:∀x ∈ L,x ∈ E):L.length≤E.length:=by
 induction L generalizing E with
 | nil=>simp
 | cons a t ih =>
  obtain ⟨h1,h2⟩:=List.nodup_cons.1 hn;have:=ih (E:=E.erase a) h2 fun x hx=>(List.mem_erase_of_ne fun (e:x=a)=>h1 (e ▸ hx)).2 (h x (List.mem_cons_of_mem _ hx));rw [List.length_erase_of_mem (h a List.mem_cons_self)] at this;have h3:=List.length_pos_of_mem (h a List.mem_cons_self);rw [List.length_cons];omega
theorem ziy {ps:List Path} {rs:List RelI} {xs:List (TypA × RelA)} {e:Ed} (h:e ∈ relsD ps rs xs):∃a b:Nat,a<xs.length∧b<ps.length∧e.1=a∧e.2.1=b:=by
 obtain ⟨⟨x,i⟩,hx,h⟩:=List.mem_flatMap.1 h;obtain ⟨⟨o,k⟩,ho,h⟩:=List.mem_flatMap.1 h;obtain ⟨u,ht,rfl⟩:=List.mem_map.1 h;obtain ⟨q,_,hq⟩:=List.mem_filterMap.1 ht;have h1:=(List.getElem?_eq_some_iff.1 (zaX hq)).1;have h2:=(List.getElem?_eq_some_iff.1 (List.mem_zipIdx_iff_getElem?.1 hx)).1;exact ⟨i,u,h2,h1,rfl,rfl⟩
theorem zge {n:Nat} {e:Ed} {a b:Nat} (ha:a<n) (hb:b<n) (h1:e.1=a) (h2:e.2.1=b):e ∈ zfs n:=by
 obtain ⟨e1,e2,e3⟩:=e;simp only at h1 h2;subst h1 h2;refine List.mem_flatMap.2 ⟨a,List.mem_range.2 ha,List.mem_flatMap.2 ⟨b,List.mem_range.2 hb,?_⟩⟩;cases e3 <;> simp
theorem fits_of {a b:Nat} {x:Bool} (ha:a≤600) (hb:b≤600):Fits ((a:Int),(b:Int),x):=⟨zkQ (by omega),zkQ (by omega)⟩
theorem named_lt {ps:List Path} {rs:List RelI} {tn:ByteArray} {subs:List Path} {o:OpI}:∀v ∈ zcE ps rs tn subs o,v<ps.length:=fun v hv=>by
 obtain ⟨q,_,hq⟩:=List.mem_filterMap.1 hv;exact (List.getElem?_eq_some_iff.1 (zaX hq)).1
theorem zmP {ps:List Path} {rs:List RelI} {tn:ByteArray} {subs:List Path} {o:OpI} (h1:subs.length≤100000) (h2:∀r ∈ rs,r.subs.length≤100000):(zcE ps rs tn subs o).length≤100000:=by
 have h3:=List.length_filterMap_le (zao ps) (zbk ps rs tn subs o);refine Nat.le_trans h3 ?_;unfold zbk;split
 · exact Nat.le_trans (List.length_filter_le _ _) h1
 split
 · simp
 split
 · split
   · split
     · rename_i x hx
       unfold zbc;rw [List.length_map];exact Nat.le_trans (List.length_filter_le _ _) (h2 x (List.mem_of_getElem? hx))
     · simp
   · simp
 · simp
theorem edges_any {w:World} {R c:Nat} {A:Option Addr} {l:List TypA} (h:SchA w R A c l) (hR:R≤140737488351232) (hl:(relsA l).length≤600) (ho:∀x ∈ relsA l,x.2.subs.length≤100000∧x.2.ops.length≤100000) :
 Calls Tryz.prog 51 #[.agg #[.slice A l.length c]] w fun e w'=>∃A' c' zs,e = .returned (.slice A' zs.length c')∧zes zs∧(∀e,e ∈ zs↔e ∈ zaV (l.map TypA.says))∧Rd w' w'.heap.size 3 A' zs.length c' (zam zs)∧Below w.heap.size w w':=by
 have hmm:=@run_makeMap Tryz.prog;have hll:(l.length:Int)≤9223372036854775807:=by have:=h.rows.cap;have:=h.rows.capm;simp only [maxLen] at this;omega
 have hw0:Below w.heap.size w (w.alloc (.cells #[.slice A l.length c] 92)):=(Below.refl _ w).alloc (Nat.le_refl _) _;have hk:=knownOf_any (h.up hw0) hR (by omega);rw [zfX];obtain ⟨K,hK⟩:∃K,relsA l=K:=⟨_,rfl⟩;obtain ⟨ps,hps⟩:∃ps,zan K=ps:=⟨_,rfl⟩;obtain ⟨rs,hrs⟩:∃rs:List RelI,K.map (fun x=>x.2.says)=rs:=⟨_,rfl⟩;have hpl:ps.length=K.length:=by rw [←hps];simp [zan]
 rw [hK] at hl ho hk ⊢;rw [hrs];simp only [hps] at hk ⊢;go_enter Tryz.func51,Tryz.ntmps51
 have x0:=Bk.new w #[.slice A l.length c] 92;go_upto_region 4 with (go_at_call 87;refine hk.mono ?_;rintro e w1 ⟨⟨A1,c1,b1,rfl,hb1,hrow1,hmap1⟩,hbw1⟩)
 have x1:Bk w1 w.heap.size #[.slice A l.length c] 92:=(hbw1.block _ (by simp)).trans x0;have hS1:=(h.up hw0).up hbw1;have hb01:Below w.heap.size w w1:=hw0.trans (hbw1.mono (by simp));have hrd1:Rd w1 w1.heap.size 6 A1 K.length c1 (zdJ K):=by
  obtain ⟨A3,c3,e3,hr3⟩:=Rd.own hrow1;injection e3 with e3 _ e4
  subst e3 e4;exact hr3
 have hs1:w.heap.size<w1.heap.size:=by have:=hbw1.size;simp at this;omega
 clear hbw1 hb1 hrow1 hk hmm hw0 x0;have hkn:=Bk.new w1 #[.slice A1 K.length c1,.map (some b1)] 161;have hbk:Below w1.heap.size w1 (w1.alloc (.cells #[.slice A1 K.length c1,.map (some b1)] 161)):=(Below.refl _ _).alloc (Nat.le_refl _) _;have hsk:(w1.alloc (.cells #[.slice A1 K.length c1,.map (some b1)] 161)).heap.size=w1.heap.size + 1:=by simp
 have x2:=x1.alloc (.cells #[.slice A1 K.length c1,.map (some b1)] 161);have hSk:=hS1.up hbk;have hrdk:=hrd1.up hbk;have hmapk:=hmap1.below hbk;have hb0k:Below w.heap.size w (w1.alloc (.cells #[.slice A1 K.length c1,.map (some b1)] 161)):=hb01.trans (hbk.mono (by omega));have hok:=hSk.each;generalize hw1s:w1.heap.size=kb at *
 generalize w1.alloc (.cells #[.slice A1 K.length c1,.map (some b1)] 161)=wk at *
 have hE0:EW wk (wk.alloc (.map #[] 0)) (wk.alloc (.map #[] 0)) [] 0:=(EW.mk ((Below.refl _ wk).alloc (Nat.le_refl _) _) (FoundM.made wk) (FoundM.made wk).isMap (Nat.le_refl _) fun _ _ _=>rfl);have hx3:=(x2.alloc (.map #[] 0)).cell';clear hS1 hrd1 hmap1 hb01 x1 x2 hbk;generalize wk.alloc (.map #[] 0)=w0 at *
 have hsub:∀r ∈ rs,r.subs.length≤100000:=fun r hr=>by
  rw [←hrs] at hr;obtain ⟨x,hx,rfl⟩:=List.mem_map.1 hr;exact (ho x hx).1
 have hmapk':∀W,Below wk.heap.size wk W→MapS W b1 (zan K):=fun W hW=>by rw [hps];exact hmapk.below hW
 have hKok:∀x ∈ K,x.2.ok wk R:=fun x hx=>by
  rw [←hK] at hx;obtain ⟨t,ht,hx⟩:=List.mem_flatMap.1 hx;obtain ⟨r,hr,rfl⟩:=List.mem_map.1 hx;exact (hok t ht).relz r hr
 go_wp2_with fail
 go_loopw [5,21] (fun vf vi wx=>∃i:Nat,vi = .int .i64 i∧vf = .int .i64 (relsA (l.take i)).length∧i≤l.length∧EW wk w0 wx (relsD ps rs (relsA (l.take i))) ((relsA (l.take i)).length * 10000000000)) (fun _ vi _=>l.length-(intOf vi).toNat)
 case atStart=>exact ⟨0,rfl,rfl,Nat.zero_le _,hE0.more (Nat.zero_le _)⟩
 case round =>
  obtain ⟨i,rfl,rfl,hi,hE⟩:=hrel;by_cases hil:i<l.length
  · have hdi:(i:Int)<(l.length:Int):=by omega
    obtain ⟨t,ht⟩:∃t,l[i]? = some t:=⟨_,List.getElem?_eq_getElem hil⟩;obtain ⟨b,o,rfl,t0,t1,htok⟩:=hSk.get ht;replace t0:=zaf t0 hE.below;replace t1:=zaf t1 hE.below;have htl:(t.rels.length:Int)≤9223372036854775807:=by have:=htok.rels.cap;have:=htok.rels.capm;simp only [maxLen] at this;omega
    have hsn:=zbE ht;have hle:=zdb (l:=l) (i + 1);rw [hsn,List.length_append,List.length_map,hK] at hle;have hE1:=hE.alloc (.cells #[.string t.name,.slice t.A t.rels.length t.c] 146);have x1:=Bk.new wr #[.string t.name,.slice t.A t.rels.length t.c] 146;go_upto_region 7 with (fail)
    clear t0 t1;generalize hq5:wr.heap.size=q5 at *
    generalize wr.alloc (.cells #[.string t.name,.slice t.A t.rels.length t.c] 146)=w2 at *
    have y0:=x1.cell 0;have y1:=x1.cell 1;obtain ⟨n0,hn0⟩:∃n0,(relsA (l.take i)).length=n0:=⟨_,rfl⟩;rw [hn0] at hle hE1 ⊢;go_wp2_with fail
    go_loopw [5,28] (fun vf vi wx=>∃j f:Nat,vi = .int .i64 j∧vf = .int .i64 f∧f=n0 + j∧j≤t.rels.length∧EW wk w2 wx (relsD ps rs (relsA (l.take i) ++ (t.rels.take j).map fun r=>(t,r))) (f * 10000000000)) (fun _ vi _=>t.rels.length-(intOf vi).toNat)
    case atStart=>exact ⟨0,n0,rfl,rfl,rfl,Nat.zero_le _,by simpa using hE1.base⟩
    case round =>
     obtain ⟨j,f,rfl,rfl,hf,hj,hE2⟩:=hrel;replace hf:=Lib.hid hf;by_cases hjl:j<t.rels.length
     · have hdj:(j:Int)<(t.rels.length:Int):=by omega
       obtain ⟨x,hx⟩:∃x,t.rels[j]? = some x:=⟨_,List.getElem?_eq_getElem hjl⟩;obtain ⟨g,k',e5,g0,g1,g2,g3,g4,g5,hxok⟩:=htok.get hx;replace g0:=zaf g0 hE2.below;replace g1:=zaf g1 hE2.below;replace g2:=zaf g2 hE2.below;replace g3:=zaf g3 hE2.below;replace g4:=zaf g4 hE2.below;replace g5:=zaf g5 hE2.below;have hxK:(t,x) ∈ K:=by
        rw [←hK];exact List.mem_flatMap.2 ⟨t,List.mem_of_getElem? ht,List.mem_map.2 ⟨x,List.mem_of_getElem? hx,rfl⟩⟩
       obtain ⟨hxs,hxo⟩:=ho _ hxK;have hnx:Hid (relsD ps rs (relsA (l.take i) ++ (t.rels.take (j + 1)).map fun r=>(t,r))=relsD ps rs (relsA (l.take i) ++ (t.rels.take j).map fun r=>(t,r)) ++ relE ps rs t.name x.says f):=Lib.hid (by
        rw [List.take_add_one,hx,Option.toList_some,List.map_append,←List.append_assoc];show relsD ps rs (_ ++ [(t,x)])=_;rw [zha,List.length_append,hn0,List.length_map,List.length_take,Nat.min_eq_left (by omega),←hf.out])
       obtain ⟨E2,hE2e⟩:∃E2,relsD ps rs (relsA (l.take i) ++ (t.rels.take j).map fun r=>(t,r))=E2:=⟨_,rfl⟩;rw [hE2e] at hnx hE2;clear hE2e;have hE3:=hE2.alloc (.cells x.cells.toArray 149);have x7:=Bk.new wr x.cells.toArray 149;have hxc:x.cells.toArray=#[.string x.name,.string x.view,.string x.edit,.string x.check,.slice x.As x.subs.length x.cs,.slice x.Ao x.ops.length x.co]:=rfl;rw [hxc] at hE3 x7;rw [e5] at *
       go_upto_region 10 with (fail)
       clear g0 g1 g2 g3 g4 g5 hE2;generalize hq7:wr.heap.size=q7 at *
       generalize wr.alloc (.cells #[.string x.name,.string x.view,.string x.edit,.string x.check,.slice x.As x.subs.length x.cs,.slice x.Ao x.ops.length x.co] 149)=w3 at *
       obtain ⟨z0,z1,z2,z3,z4,z5⟩:w3.cell? ⟨q7,0,none⟩=some (.string x.name)∧w3.cell? ⟨q7,1,none⟩=some (.string x.view)∧w3.cell? ⟨q7,2,none⟩=some (.string x.edit)∧w3.cell? ⟨q7,3,none⟩=some (.string x.check)∧w3.cell? ⟨q7,4,none⟩=some (.slice x.As x.subs.length x.cs)∧w3.cell? ⟨q7,5,none⟩=some (.slice x.Ao x.ops.length x.co):=⟨x7.cell 0,x7.cell 1,x7.cell 2,x7.cell 3,x7.cell 4,x7.cell 5⟩;have kb1:=behindNotOf_any (hxok.ops.up hE3.below) hxo;go_upto_region 11 with (go_at_call 88;refine kb1.mono ?_;rintro e w4 ⟨rfl,m0,m1,hb4⟩)
       have hE4:=hE3.call hb4;have x54:=(hE4).bk x1;have x74:Bk w4 q7 _ _:=(hb4.block _ x7.lt).trans x7;have z54:=x74.cell 5;have hol:(x.ops.length:Int)≤9223372036854775807:=by omega
       generalize hq8:w3.heap.size=q8 at *
       clear z0 z1 z2 z3 z4 z5 hE3 x7 kb1 hb4;simp only [List.getElem?_toArray,List.getElem?_cons_zero,List.getElem?_cons_succ] at z54;go_wp2_with fail
       go_loopw [38] (fun vi wx=>∃k:Nat,vi = .int .i64 k∧k≤x.ops.length∧EW wk w4 wx (E2 ++ zds ps rs t.name x.says f k) (f * 10000000000 + k * 100000)) (fun vi _=>x.ops.length-(intOf vi).toNat)
       case atStart=>exact ⟨0,rfl,Nat.zero_le _,by simpa [zds] using hE4.base⟩
       case round =>
        obtain ⟨k,rfl,hk,hE5⟩:=hrel;by_cases hkl:k<x.ops.length
        · have hdk:(k:Int)<(x.ops.length:Int):=by omega
          obtain ⟨⟨ok,on,ox⟩,hop⟩:∃o,x.ops[k]? = some o:=⟨_,List.getElem?_eq_getElem hkl⟩;obtain ⟨b6,k6,e6,p0,p1,p2,_,hon,hox⟩:=hxok.op hop;replace p0:=zaf p0 hE5.below;replace p1:=zaf p1 hE5.below;replace p2:=zaf p2 hE5.below;simp only at p0 p1 p2 hon hox;have hstep:Hid (zds ps rs t.name x.says f (k + 1)=zds ps rs t.name x.says f k ++ opsE ps rs t.name x.says f k (ok,on,ox)):=Lib.hid (zg8 hop);obtain ⟨E3,hE3e⟩:∃E3,E2 ++ zds ps rs t.name x.says f k=E3:=⟨_,rfl⟩;have hnk:Hid (E2 ++ zds ps rs t.name x.says f (k + 1)=E3 ++ opsE ps rs t.name x.says f k (ok,on,ox)):=Lib.hid (by rw [hstep.out,←List.append_assoc,hE3e]);rw [hE3e] at hE5;clear hE3e hstep;have hE6:=hE5.alloc (.cells #[.int .i64 ok,.string on,.string ox] 166);have x9:=Bk.new wr #[.int .i64 ok,.string on,.string ox] 166;rw [e6] at *
          go_upto_region 14 with (fail)
          clear p0 p1 p2 hE5;generalize hq9:wr.heap.size=q9 at *
          generalize wr.alloc (.cells #[.int .i64 ok,.string on,.string ox] 166)=w5 at *
          have hE26:=(hE4.join hE6);have r5:=hE26.bk x1;have r7:=hE6.bk x74;obtain ⟨s0,s1⟩:w5.cell? ⟨kb,0,none⟩=some (.slice A1 K.length c1)∧w5.cell? ⟨kb,1,none⟩=some (.map (some b1)):=⟨zaf (hkn.cell 0) hE6.below,zaf (hkn.cell 1) hE6.below⟩;obtain ⟨s2,s3⟩:w5.cell? ⟨q5,0,none⟩=some (.string t.name)∧w5.cell? ⟨q5,1,none⟩=some (.slice t.A t.rels.length t.c):=⟨r5.cell 0,r5.cell 1⟩;obtain ⟨z0,z1,z2,z3,z4,z5⟩:w5.cell? ⟨q7,0,none⟩=some (.string x.name)∧w5.cell? ⟨q7,1,none⟩=some (.string x.view)∧w5.cell? ⟨q7,2,none⟩=some (.string x.edit)∧w5.cell? ⟨q7,3,none⟩=some (.string x.check)∧w5.cell? ⟨q7,4,none⟩=some (.slice x.As x.subs.length x.cs)∧w5.cell? ⟨q7,5,none⟩=some (.slice x.Ao x.ops.length x.co):=⟨r7.cell 0,r7.cell 1,r7.cell 2,r7.cell 3,r7.cell 4,r7.cell 5⟩;obtain ⟨v0,v1,v2⟩:w5.cell? ⟨q9,0,none⟩=some (.int .i64 ok)∧w5.cell? ⟨q9,1,none⟩=some (.string on)∧w5.cell? ⟨q9,2,none⟩=some (.string ox):=⟨x9.cell 0,x9.cell 1,x9.cell 2⟩;have kn:=named_any (w:=w5) (R:=R) (K:=K) (t:=t) (r:=x) (o:=(ok,on,ox)) (hrdk.up hE6.below) (hmapk' w5 hE6.below) (fun y hy=>(hKok y hy).up hE6.below) (hxok.up hE6.below) htok.name ⟨hon,hox⟩ hR (fun y hy=>(ho y hy).1) hxs;obtain ⟨nm,hnm⟩:∃nm,zcE (zan K) (K.map fun x=>x.2.says) t.name x.subs (ok,on,ox)=nm:=⟨_,rfl⟩;rw [hnm] at kn;rw [hps,hrs] at hnm;have hnl:nm.length≤100000:=by rw [←hnm];exact zmP hxs hsub
          have hnlt:∀v ∈ nm,v<K.length:=fun v hv=>by rw [←hpl];exact named_lt v (by rw [hnm];exact hv)
          have hnE:Hid (opsE ps rs t.name x.says f k (ok,on,ox)=nm.map fun u=>((f:Int),((u:Nat):Int),zaT x.ops k)):=Lib.hid (by rw [←hnm];rfl);clear hnm;clear e5 e6 hop hx ht hxK r5 r7 x9 hE26;go_upto_region 15 with (go_at_call 89;refine kn.mono ?_;rintro e w6 ⟨⟨A7,c7,rfl,hnr⟩,hb6⟩)
          have hE7:=hE6.call hb6;have m06:=hE7.bk m0;have m16:=hE7.bk m1;have hnl':(nm.length:Int)≤9223372036854775807:=by omega
          clear s0 s1 s2 s3 z0 z1 z2 z3 z4 z5 v0 v1 v2 hb6 kn hE6;go_wp2_with fail
          go_loopw [49] (fun vi wx=>∃q:Nat,vi = .int .i64 q∧q≤nm.length∧EW wk w6 wx (E3 ++ (nm.take q).map fun u=>((f:Int),((u:Nat):Int),zaT x.ops k)) (f * 10000000000 + k * 100000 + q)) (fun vi _=>nm.length-(intOf vi).toNat)
          case atStart=>exact ⟨0,rfl,Nat.zero_le _,by simpa using hE7.base⟩
          case round =>
           obtain ⟨q,rfl,hq,hE8⟩:=hrel;by_cases hql:q<nm.length
           · have hdq:(q:Int)<(nm.length:Int):=by omega
             obtain ⟨u,hu⟩:∃u,nm[q]? = some u:=⟨_,List.getElem?_eq_getElem hql⟩;have hun:=hnlt u (List.mem_of_getElem? hu);obtain ⟨b7,o7,v,rfl,_,hv,cv⟩:=(hE8.rd hnr).get hql;obtain rfl:v = .int .i64 (u:Int):=by
              simp only [ints,List.getElem?_map,hu,Option.map_some,Option.some.injEq] at hv;exact hv.symm
             have kb2:=zjd (w:=wr) (hE8.bk m06) (hE8.bk m16) hkl;have hnq:Hid (E3 ++ (nm.take (q + 1)).map (fun u=>((f:Int),((u:Nat):Int),zaT x.ops k))=(E3 ++ (nm.take q).map fun u=>((f:Int),((u:Nat):Int),zaT x.ops k)) ++ [((f:Int),((u:Nat):Int),zaT x.ops k)]):=Lib.hid (by
              rw [List.take_add_one,hu,Option.toList_some,List.map_append,←List.append_assoc];rfl)
             obtain ⟨E8,hE8e⟩:∃E8,(E3 ++ (nm.take q).map fun u=>((f:Int),((u:Nat):Int),zaT x.ops k))=E8:=⟨_,rfl⟩;rw [hE8e] at hnq hE8;clear hE8e hv hu;obtain ⟨nn,D0,L,hnn,hown,hKA,hmem⟩:=hE8.found.out;have hf600:f≤600:=by have:=hf.out;omega
             have hnnb:nn<maxLen:=by
              have h1:f * 10000000000≤600 * 10000000000:=Nat.mul_le_mul_right _ hf600;have h2:k * 100000≤100000 * 100000:=Nat.mul_le_mul_right _ (by omega);exact Nat.lt_of_le_of_lt (Nat.le_trans hnn (Nat.add_le_add (Nat.add_le_add h1 h2) (Nat.le_trans hq hnl))) (by decide)
             have hfit:Fits ((f:Int),((u:Nat):Int),zaT x.ops k):=fits_of hf600 (by omega);have hkey:=zhA hfit;have hisM:=hown.isMap;have hE8':=Lib.hid hE8;simp only [zhp,zaU] at hkey;obtain ⟨bh,hbh⟩:∃bh,zaT x.ops k=bh:=⟨_,rfl⟩;rw [hbh] at kb2 hkey hnq hfit;rw [hsk] at hown;have hnn':=Lib.hid hnn;replace hbh:=Lib.hid hbh;clear hE8 hnn;go_upto_region 18 with (first | (go_at_call 135;refine kb2.mono ?_;rintro e w9 ⟨rfl,hw9⟩;have h9:=hw9.symm;clear hw9;subst h9) | (at_mapUpdate;refine wpList_mapUpdate_own _ rfl _ _ _ 163 rfl 151 168 zg0 Tryz.underlying163 _ (kb + 1) nn _ rfl hown hnnb _ _ _ rfl rfl hkey _ [] unitElem_mk ?_;intro w7 hm7 hg7))
             obtain ⟨L',hL1,hL2⟩:=KeysAre.put (d:=.agg []) hisM hKA hfit;rw [←hsk] at hm7 hg7;have hE9:=hE8'.out.turn hg7 (E':=E8 ++ [((f:Int),((u:Nat):Int),bh)]) (N':=nn + 1) ⟨nn + 1,_,L',Nat.le_refl _,hm7,hL1,fun y=>by rw [hL2 y,hmem y,List.mem_append,List.mem_singleton]⟩;rw [←hnq.out,←hbh.out] at hE9;replace hE9:=Lib.hid (hE9.more (N':=f * 10000000000 + k * 100000 + (q + 1)) (by rw [←Nat.add_assoc];exact Nat.succ_le_succ hnn'.out));clear hm7 hg7 hE8' hown hL1 hL2 hmem hKA hisM;go_wp2_with fail
             exact ⟨⟨q + 1,by go_num,by omega,hE9.out⟩,by simp [intOf];omega⟩
           · obtain rfl:q=nm.length:=by omega
             have hdq:¬(((nm.length:Nat):Int)<(nm.length:Int)):=by omega
             rw [List.take_length,←hnE.out,←hnk.out] at hE8;have hN:f * 10000000000 + k * 100000 + nm.length≤f * 10000000000 + (k + 1) * 100000:=by
              rw [Nat.add_mul,Nat.one_mul,←Nat.add_assoc];exact Nat.add_le_add_left hnl _
             have hE9:=(hE7.join hE8).more hN;clear hN hE8 hE7;go_wp2_with fail
             exact ⟨⟨k + 1,by go_num,by omega,hE9⟩,by simp [intOf];omega⟩
        · obtain rfl:k=x.ops.length:=by omega
          have hdk:¬(((x.ops.length:Nat):Int)<(x.ops.length:Int)):=by omega
          have hall:zds ps rs t.name x.says f x.ops.length=relE ps rs t.name x.says f:=ziI;rw [hall] at hE5;have hf5:x.ops.length * 100000≤10000000000:=by omega
          have hff:f + 1=n0 + (j + 1):=by have:=hf.out;omega
          have hN:f * 10000000000 + x.ops.length * 100000≤(f + 1) * 10000000000:=by
           rw [Nat.add_mul,Nat.one_mul];exact Nat.add_le_add_left hf5 _
          have hE6:=(hE4.join hE5).more hN;rw [←hnx.out] at hE6;have hff:=Lib.hid hff;clear hN hf5 hall hE5 hE4;go_wp2_with fail
          refine ⟨⟨j + 1,f + 1,by go_num,by go_num,hff.out,by omega,?_⟩,?_⟩
          · exact hE6
          · simp [intOf];omega
     · obtain rfl:j=t.rels.length:=by omega
       have hdj:¬(((t.rels.length:Nat):Int)<(t.rels.length:Int)):=by omega
       rw [List.take_length,←hsn] at hE2;have hlen:Hid ((relsA (l.take (i + 1))).length=f):=Lib.hid (by have:=hf.out;rw [hsn,List.length_append,List.length_map];omega);go_wp2_with fail
       exact ⟨⟨i + 1,by go_num,by rw [hlen.out],by omega,by rw [hlen.out];exact hE1.join hE2⟩,by simp [intOf];omega⟩
  · obtain rfl:i=l.length:=by omega
    have hdi:¬(((l.length:Nat):Int)<(l.length:Int)):=by omega
    rw [List.take_length,hK] at hE;obtain ⟨nn,D0,L,hnn,hown,hKA,hmem⟩:=hE.found.out;have hLl:L.length≤1000000:=by
     have h1:=zc9 (E:=zfs 600) hKA.nodup fun e he=>by
      obtain ⟨a,b,ha,hb,h1,h2⟩:=ziy ((hmem e).1 he);exact zge (by omega) (by omega) h1 h2
     rw [zfa] at h1;omega
    have kk:=keys_any (some (kb + 1)) wr;have hbw:Below w.heap.size w (wr.alloc (.cells #[.map (some (kb + 1))] 163)):=(hb0k.trans (hE.below.mono (by omega))).alloc (by have:=hE.below.size;omega) _;have hcm:=(Bk.new wr #[.map (some (kb + 1))] 163).cell';have hown2:=hown.alloc (.cells #[.map (some (kb + 1))] 163);rw [hsk] at hown2;have ks:=sortedFunc_any hKA hLl wr.heap.size (kb + 1) nn _ hcm hown2;have hmem:=Lib.hid hmem;clear hKA hown hE hown2 hcm hnn;go_wp2_with (first | (go_at_call 91;refine kk.mono ?_;rintro e w8 ⟨rfl,hw8⟩;subst hw8) | (go_at_call 90;refine ks.mono ?_;rintro e w9 ⟨A9,c9,zs,rfl,hzp,hzr,hzR,hzb⟩))
    go_ret
    rw [←hzp.length_eq] at *
    exact ⟨_,_,zs,rfl,hzr,fun e=>(hzp.mem_iff).trans (hmem.out e),hzR,hbw.trans (hzb.mono hbw.size)⟩
end Go.Proofs.YtahegpfdbgbioaaGreat
namespace Go.Proofs.YtahegpfdbgbioaaGreat
open Go.RowKit
theorem zfu {l:List Ed} (h:zes l):l.Nodup:=h.imp fun {a b} hab e=>by subst e;rw [zdx] at hab;omega
theorem zaz {B:Nat} {w w1 w2:World} (h:Below B w w1) (hB:B≤w1.heap.size) (k:Below w1.heap.size w1 w2):Below B w w2:=h.trans (k.mono hB)
theorem zkX (w:World) (o:Obj):Below w.heap.size w (w.alloc o):=(Below.refl _ w).alloc (Nat.le_refl _) o
theorem few_of {l:List TypA} {m n:Nat} (h1:(zaA (l.map TypA.says)).length≤m) (h2:∀x ∈ zaA (l.map TypA.says),x.2.subs.length≤n∧x.2.ops.length≤n):(relsA l).length≤m∧∀x ∈ relsA l,x.2.subs.length≤n∧x.2.ops.length≤n:=by
 rw [←zaN] at h1 h2;rw [List.length_map] at h1;exact ⟨h1,fun x hx=>h2 _ (List.mem_map.2 ⟨x,hx,rfl⟩)⟩
theorem zhq {w:World} {B n c:Nat} {A:Option Addr} {l:List Ed} (h:Rd w B 3 A n c (zam l)) {i:Nat} {e:Ed} (hi:l[i]? = some e) (hn:n=l.length) :
 ∃b k,A=some ⟨b,k,none⟩∧b<B∧w.cell? ⟨b,k + i * 3,none⟩=some (.int .i64 e.1)∧w.cell? ⟨b,k + i * 3 + 1,none⟩=some (.int .i64 e.2.1)∧w.cell? ⟨b,k + i * 3 + 2,none⟩=some (.bool e.2.2):=by
 subst hn;obtain ⟨b,k,e2,hb,hc⟩:=h.at_ (zd9 hi);obtain ⟨g0,g1,g2⟩:=zgT hi;exact ⟨b,k,e2,hb,hc _ _ g0,by rw [Nat.add_assoc];exact hc _ _ g1,by rw [Nat.add_assoc];exact hc _ _ g2⟩
inductive LvIs (n:Nat) (l:List Ed):List Int→Int→Prop
 | arg (hi:¬InR n l):LvIs n l [] 1
 | cyc (hi:InR n l) (hc:Cyc l):LvIs n l [] 33
 | ok (hi:InR n l) (v:List Int) (hv:v.length=n) (hL:Least n l (zaK v)) (hb:∀x ∈ v,0≤x∧x≤4096):LvIs n l v 0
theorem zlf {w:World} {n c:Nat} {A:Option Addr} {l:List Ed} (h:Rd w w.heap.size 3 A l.length c (zam l)) (hl:l.length≤100000) (hn:n≤4096) :
 Calls Tryz.prog 50 #[.int .i64 (n:Int),.slice A l.length c] w fun e w'=>(∃A' c' v s,e = .returned (.tuple #[.slice A' v.length c',.int .i64 s])∧Rd w' w'.heap.size 1 A' v.length c' (lvs v)∧LvIs n l v s)∧Below w.heap.size w w' :=
 (levels_any (n:=(n:Int)) h hl).mono fun e w' ⟨h1,h2⟩=>⟨by
  cases h1 with
  | arg h =>
   rcases h with h | h | h
   · omega
   · omega
   · exact ⟨none,0,[],1,rfl,Rd.none_ _ _ _,.arg h⟩
  | cyc _ _ hi hc=>exact ⟨none,0,[],33,rfl,Rd.none_ _ _ _,.cyc hi hc⟩
  | ok _ _ hi v A c hr hv hL hb =>
   rw [Int.toNat_natCast] at *
   subst hv;exact ⟨A,c,v,0,rfl,hr,.ok hi v rfl hL hb⟩,h2⟩
theorem zmG {v:List Int} {i:Nat} (hi:i<v.length):(lvs v)[i]? = some (.int .i64 (zaK v i)):=by
 simp only [lvs,List.getElem?_map,List.getElem?_eq_getElem hi,Option.map_some];simp [zaK,hi]
theorem LvIs.same {n:Nat} {l m:List Ed} {v u:List Int} {s r:Int} (h:LvIs n l v s) (k:LvIs n m u r) (hs:∀e,e ∈ l↔e ∈ m):v=u∧s=r:=by
 have hi:InR n l↔InR n m:=⟨fun h e he=>h e ((hs e).2 he),fun h e he=>h e ((hs e).1 he)⟩;have h1:∀e ∈ l,e ∈ m:=fun e he=>(hs e).1 he;have h2:∀e ∈ m,e ∈ l:=fun e he=>(hs e).2 he;cases h with
 | arg hl =>
  cases k with
  | arg=>exact ⟨rfl,rfl⟩
  | cyc hm=>exact absurd (hi.2 hm) hl
  | ok hm=>exact absurd (hi.2 hm) hl
 | cyc hl hc =>
  cases k with
  | arg hm=>exact absurd (hi.1 hl) hm
  | cyc=>exact ⟨rfl,rfl⟩
  | ok _ _ _ hL=>exact (Cyc.none (hc.sub h1) hL.1).elim
 | ok hl v hv hL =>
  cases k with
  | arg hm=>exact absurd (hi.1 hl) hm
  | cyc _ hc=>exact (Cyc.none (hc.sub h2) hL.1).elim
  | ok _ u hu hM =>
   refine ⟨List.ext_getElem (by omega) fun i h3 h4=>?_,rfl⟩;have:=(hL.congr hs).same hM (i:=i) (by omega);simpa [zaK,h3,h4] using this
end Go.Proofs.YtahegpfdbgbioaaGreat
