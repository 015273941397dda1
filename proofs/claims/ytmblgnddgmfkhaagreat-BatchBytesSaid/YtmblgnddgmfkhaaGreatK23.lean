import Derived.Test.YtmblgnddgmfkhaaGreatK21
import Derived.Test.YtmblgnddgmfkhaaGreatK22
set_option maxRecDepth 100000
set_option maxHeartbeats 4000000
namespace Go.Proofs.YtmblgnddgmfkhaaGreat
section
open Go.RowKit Go.Maps
open Go.RowKit Go.Maps
variable {ps:List Path} {rs:List RelI} {mb b:Nat} {e:Ed} {tn:ByteArray} {o:OpI}
def unitE:Value→Option (DataW Unit × List MemPlace):=unitElem
structure FoundM (W:World) (mb:Nat) (E:List Ed) (N:Nat):Prop where
 out:∃nn D0 L,nn≤N∧W.ownsMap Tryz.prog 207 unitE mb nn D0∧KeysAre D0 L∧∀e,e ∈ L↔e ∈ E
theorem FoundM.isMap {W:World} {N:Nat} {E:List Ed} (h:FoundM W mb E N):∃es clock,W.heap[mb]? = some (.map es clock):=by
 obtain ⟨_,_,_,_,⟨es,clock,hb,_⟩,_⟩:=h.out;exact ⟨es,clock,hb⟩
theorem FoundM.same {W W':World} {N:Nat} {E:List Ed} (h:FoundM W mb E N) (hb:W'.heap[mb]? = W.heap[mb]?):FoundM W' mb E N:=by
 obtain ⟨f,g,L,j,⟨k,b,m,n⟩,o⟩:=h.out;exact ⟨f,g,L,j,⟨k,b,hb.trans m,n⟩,o⟩
theorem FoundM.lt {W:World} {N:Nat} {E:List Ed} (h:FoundM W mb E N):mb<W.heap.size:=by
 obtain ⟨_,_,h⟩:=h.isMap;exact (yaR.1 h).1
theorem FoundM.more {W:World} {N N':Nat} {E:List Ed} (h:FoundM W mb E N) (hN:N≤N'):FoundM W mb E N':=by
 obtain ⟨b,f,L,j,g⟩:=h.out;exact ⟨b,f,L,by omega,g⟩
theorem kE_lit (h:Fits e):WideAt.IsKeyLit (kE e):=ziY.key (zjG h)
theorem KeysAre.put {H:Type} {D0 d:DataW H} {L:List Ed} (hm:IsMap D0) (h:KeysAre D0 L) (he:Fits e):∃L',KeysAre (D0.put (kE e) d) L'∧∀x,x ∈ L'↔x ∈ L∨x=e:=by
 have k:∀x,Fits x→(has (D0.put (kE e) d) (kE x)=true↔has D0 (kE x)=true∨x=e):=fun x f=>by
  by_cases g:x=e
  · subst g;simp [has_put_same hm (kE_lit he)]
  · rw [has_put_other fun o=>g (kE_inj f.1 f.2 he.1 he.2 o)];simp [g]
 have m:∀kl,has (D0.put (kE e) d) kl=true→has D0 kl=true∨kl=kE e:=fun kl hk=>by
  by_cases g:kl=kE e
  · exact .inr g
  · rw [has_put_other g] at hk;exact .inl hk
 by_cases j:e ∈ L
 · refine ⟨L,⟨h.fits,h.nodup,fun x f=>(k x (h.fits x f)).2 (.inl (h.mem x f)),fun kl hk=>?_⟩,fun x=>⟨.inl,fun q=>q.elim id fun g=>g ▸ j⟩⟩;rcases m kl hk with hk | rfl
   · exact h.only kl hk
   · exact ⟨e,j,rfl⟩
 · have n:∀x ∈ L ++ [e],Fits x:=fun x f=>by
    rcases yaA.1 f with f | f
    · exact h.fits x f
    · simp at f;exact f ▸ he
   refine ⟨L ++ [e],⟨n,ybb.2 ⟨h.nodup,by simp,fun a s b hb=>by simp at hb;subst hb;exact fun g=>j (g ▸ s)⟩,fun x f=>(k x (n x f)).2 ?_,fun kl hk=>?_⟩,fun x=>by simp⟩
   · rcases yaA.1 f with f | f
     · exact .inl (h.mem x f)
     · simp at f;exact .inr f
   · rcases m kl hk with hk | rfl
     · obtain ⟨x,f,g⟩:=h.only kl hk;exact ⟨x,ycp _ f,g⟩
     · exact ⟨e,by simp,rfl⟩
theorem FoundM.made (w:World):FoundM (w.alloc (.map #[] 0)) w.heap.size [] 0:=⟨0,_,[],yaj _,World.ownsMap_made _ _ _ _,⟨fun _ h=>(by cases h),ycT,fun _ h=>(by cases h),fun kl h=>(by simp [has] at h)⟩,fun _=>Iff.rfl⟩
structure EW (Wk X W:World) (E:List Ed) (N:Nat):Prop where
 below:Below Wk.heap.size Wk W
 found:FoundM W Wk.heap.size E N
 mapX:∃es clock,X.heap[Wk.heap.size]? = some (.map es clock)
 size:X.heap.size≤W.heap.size
 same:∀g,g<X.heap.size→g≠Wk.heap.size→W.heap[g]? = X.heap[g]?
section
variable {Wk X W W':World} {E E':List Ed} {N N':Nat}
theorem EW.base (h:EW Wk X W E N):EW Wk W W E N:=⟨h.below,h.found,h.found.isMap,yaj _,fun _ _ _=>rfl⟩
theorem EW.join (h:EW Wk X W E N) (k:EW Wk W W' E' N'):EW Wk X W' E' N':=⟨k.below,k.found,h.mapX,yay h.size k.size,fun g b f=>(k.same g (yas b h.size) f).trans (h.same g b f)⟩
theorem EW.call (h:EW Wk X W E N) (hb:Below W.heap.size W W'):EW Wk X W' E N :=
 ⟨h.below.trans (hb.mono (by have:=h.below.size;omega)),h.found.same (hb.block _ h.found.lt),h.mapX,yay h.size hb.size,fun g b f=>(hb.block g (by have:=h.size;omega)).trans (h.same g b f)⟩
theorem EW.alloc (h:EW Wk X W E N) (o:Obj):EW Wk X (W.alloc o) E N:=h.call ((Below.refl _ W).alloc (yaj _) o)
theorem EW.more (h:EW Wk X W E N) (hN:N≤N'):EW Wk X W E N':=⟨h.below,h.found.more hN,h.mapX,h.size,h.same⟩
theorem EW.turn (h:EW Wk X W E N) (hg:W.grownBy W' (some Wk.heap.size)) (hf:FoundM W' Wk.heap.size E' N'):EW Wk X W' E' N' :=
 ⟨h.below.grown hg h.below.size fun k e=>by cases e;exact yaj _,hf,h.mapX,yay h.size hg.size,fun g f b=>(hg.block g (by have:=h.size;omega) fun e=>b (yaZ e)).trans (h.same g f b)⟩
theorem EW.bk {cs:Array Value} {t:TypeId} (h:EW Wk X W E N) (hb:Bk X b cs t):Bk W b cs t:=(h.same b hb.lt fun e=>by
 obtain ⟨g,j,f⟩:=h.mapX;rw [←e,show X.heap[b]? = _ from hb] at f;cases f).trans hb
theorem EW.cell {a:Addr} {v:Value} (h:EW Wk X W E N) (hc:X.cell? a=some v):W.cell? a=some v:=by
 have f:=World.block_lt_of_cell? X a hc;have b:a.block≠Wk.heap.size:=fun e=>by
  obtain ⟨j,k,g⟩:=h.mapX;unfold World.cell? at hc;rw [e,g] at hc;simp at hc
 exact (World.cell?_of_block (h.same _ f b)).trans hc
theorem EW.rd {sz n c:Nat} {A:Option Addr} {xs:List Value} (h:EW Wk X W E N) (hr:Rd X X.heap.size sz A n c xs):Rd W W.heap.size sz A n c xs :=
 ⟨hr.len,hr.cap,hr.capm,hr.nil,fun f=>by
  obtain ⟨b,o,e,hb,g⟩:=hr.at_ f;exact ⟨b,o,e,yas hb h.size,fun j u k=>h.cell (g j u k)⟩⟩
end
def relsD (ps:List Path) (rs:List RelI) (xs:List (TypA × RelA)):List Ed:=xs.zipIdx.flatMap fun x=>relE ps rs x.1.1.name x.1.2.says x.2
theorem zoZ (ps:List Path) (rs:List RelI) (xs:List (TypA × RelA)) (x:TypA × RelA):relsD ps rs (xs ++ [x])=relsD ps rs xs ++ relE ps rs x.1.name x.2.says xs.length:=by
 unfold relsD;rw [ycB,ya0];simp
def zgC (ps:List Path) (rs:List RelI) (tn:ByteArray) (r:RelI) (f k:Nat):List Ed:=((r.ops.take k).zipIdx).flatMap fun x=>opsE ps rs tn r f x.2 x.1
theorem zoO {r:RelI} {f k:Nat} (h:r.ops[k]? = some o):zgC ps rs tn r f (k + 1)=zgC ps rs tn r f k ++ opsE ps rs tn r f k o:=by
 have hk:k<r.ops.length:=(yap.1 h).1;unfold zgC;rw [yaC,h,yaO,ycB,ya0,yaN,ybT (by omega)];simp
theorem zrg {r:RelI} {f:Nat}:zgC ps rs tn r f r.ops.length=relE ps rs tn r f:=by
 unfold zgC relE;rw [yaz]
theorem zcK (l:List TypA):(relsA l).map (fun x=>(x.1.says,x.2.says))=zbb (l.map TypA.says):=by
 unfold zbb relsA;induction l with
 | nil=>rfl
 | cons t r ih =>
  rw [yaX,yaS,yaS,yaM,ih];congr 1
  simp [TypA.says]
theorem zky (l:List TypA):zbr (l.map TypA.says)=relsD (zal (relsA l)) ((relsA l).map fun x=>x.2.says) (relsA l):=by
 have b:=(zcK l).symm;unfold zbr relsD;rw [zaZ,b,ybp,ybp,List.zipIdx_map,List.flatMap_map];rfl
def zlb (n:Nat):List Ed:=(List.range n).flatMap fun (a:Nat)=>(List.range n).flatMap fun (b:Nat)=>[((a:Int),(b:Int),false),((a:Int),(b:Int),true)]
theorem zjb (n:Nat):(zlb n).length=n * (n * 2):=by
 have h:∀(l:List Nat) (k:Nat),(l.map fun _=>k).sum=l.length * k:=fun l k=>by
  induction l with
  | nil=>simp
  | cons a t ih=>rw [yaX,List.sum_cons,ih,yat,ycg];omega
 unfold zlb;simp only [List.length_flatMap,yat,yaE,yaI,Nat.reduceAdd,h,List.length_range]
theorem zfB {α:Type} [DecidableEq α] {L E:List α} (hn:L.Nodup) (h:∀x ∈ L,x ∈ E):L.length≤E.length:=by
 induction L generalizing E with
 | nil=>simp
 | cons a t ih =>
  obtain ⟨f,g⟩:=ybS.1 hn;have:=ih (E:=E.erase a) g fun x b=>(List.mem_erase_of_ne fun (e:x=a)=>f (e ▸ b)).2 (h x (yau _ b));rw [List.length_erase_of_mem (h a yar)] at this;have j:=List.length_pos_of_mem (h a yar);rw [yat];omega
theorem zkX {xs:List (TypA × RelA)} (h:e ∈ relsD ps rs xs):∃a b:Nat,a<xs.length∧b<ps.length∧e.1=a∧e.2.1=b:=by
 obtain ⟨⟨x,i⟩,f,h⟩:=ybz.1 h;obtain ⟨⟨o,k⟩,s,h⟩:=ybz.1 h;obtain ⟨u,g,rfl⟩:=yaH.1 h;obtain ⟨q,_,j⟩:=List.mem_filterMap.1 g;have m:=(yap.1 (zcf j)).1;have n:=(yap.1 (List.mem_zipIdx_iff_getElem?.1 f)).1;exact ⟨i,u,n,m,rfl,rfl⟩
theorem zkW {n:Nat} {a:Nat} (ha:a<n) (hb:b<n) (h1:e.1=a) (h2:e.2.1=b):e ∈ zlb n:=by
 obtain ⟨g,j,f⟩:=e;simp only at h1 h2;subst h1 h2;refine ybz.2 ⟨a,yct.2 ha,ybz.2 ⟨b,yct.2 hb,?_⟩⟩;cases f <;> simp
theorem fits_of {a:Nat} {x:Bool} (ha:a≤600) (hb:b≤600):Fits ((a:Int),(b:Int),x):=⟨zoc yab,zoc yab⟩
theorem named_lt {subs:List Path}:∀v ∈ zdh ps rs tn subs o,v<ps.length:=fun v b=>by
 obtain ⟨q,_,f⟩:=List.mem_filterMap.1 b;exact (yap.1 (zcf f)).1
theorem zqY {subs:List Path} (h1:subs.length≤100000) (h2:∀r ∈ rs,r.subs.length≤100000):(zdh ps rs tn subs o).length≤100000:=by
 have b:=ycy (zat ps) (zec ps rs tn subs o);refine yay b ?_;unfold zec;split
 · exact yay (yba _ _) h1
 split
 · simp
 split
 · split
   · split
     · rename_i x f
       unfold zbR;rw [yax];exact yay (yba _ _) (h2 x (yaq f))
     · simp
   · simp
 · simp
theorem edges_any {w:World} {R c:Nat} {A:Option Addr} {l:List TypA} (h:SchA w R A c l) (hR:R≤140737488351232) (hl:(relsA l).length≤600) (ho:∀x ∈ relsA l,x.2.subs.length≤100000∧x.2.ops.length≤100000) :
 Calls Tryz.prog 77 #[.agg #[.slice A l.length c]] w fun e w'=>∃A' c' zs,e = .returned (.slice A' zs.length c')∧ziv zs∧(∀e,e ∈ zs↔e ∈ zbr (l.map TypA.says))∧Rd w' w'.heap.size 3 A' zs.length c' (zaB zs)∧Below w.heap.size w w':=by
 have cb:=@run_makeMap Tryz.prog;have d9:(l.length:Int)≤9223372036854775807:=by have:=h.rows.cap;have:=h.rows.capm;simp only [maxLen] at this;omega
 have ab:Below w.heap.size w (w.alloc (.cells #[.slice A l.length c] 140)):=(Below.refl _ w).alloc (yaj _) _;have hk:=knownOf_any (h.up ab) hR yab;rw [zky];obtain ⟨K,hK⟩:∃K,relsA l=K:=⟨_,rfl⟩;obtain ⟨ps,ac⟩:∃ps,zal K=ps:=⟨_,rfl⟩;obtain ⟨rs,aq⟩:∃rs:List RelI,K.map (fun x=>x.2.says)=rs:=⟨_,rfl⟩;have cc:ps.length=K.length:=by rw [←ac];simp [zal]
 rw [hK] at hl ho hk ⊢;rw [aq];simp only [ac] at hk ⊢;go_enter Tryz.func77,Tryz.ntmps77
 have x0:=Bk.new w #[.slice A l.length c] 140;go_upto_region 4 with (go_at_call 121;refine hk.mono ?_;rintro e w1 ⟨⟨A1,c1,b1,rfl,ce,Q,T⟩,D⟩)
 have x1:Bk w1 w.heap.size #[.slice A l.length c] 140:=(D.block _ yaf).trans x0;have b4:=(h.up ab).up D;have ag:Below w.heap.size w w1:=ab.trans (D.mono yaf);have ah:Rd w1 w1.heap.size 6 A1 K.length c1 (zed K):=by
  obtain ⟨A3,c3,e3,cf⟩:=Rd.own Q;injection e3 with e3 _ e4
  subst e3 e4;exact cf
 have da:w.heap.size<w1.heap.size:=by have:=D.size;simp at this;omega
 clear D ce Q hk cb ab x0;have b5:=Bk.new w1 #[.slice A1 K.length c1,.map (some b1)] 217;have U:Below w1.heap.size w1 (w1.alloc (.cells #[.slice A1 K.length c1,.map (some b1)] 217)):=(Below.refl _ _).alloc (yaj _) _;have ar:(w1.alloc (.cells #[.slice A1 K.length c1,.map (some b1)] 217)).heap.size=w1.heap.size + 1:=by simp
 have x2:=x1.alloc (.cells #[.slice A1 K.length c1,.map (some b1)] 217);have b8:=b4.up U;have b9:=ah.up U;have au:=T.below U;have ba:Below w.heap.size w (w1.alloc (.cells #[.slice A1 K.length c1,.map (some b1)] 217)):=ag.trans (U.mono yab);have cg:=b8.each;generalize hw1s:w1.heap.size=kb at *
 generalize w1.alloc (.cells #[.slice A1 K.length c1,.map (some b1)] 217)=I at *
 have ch:EW I (I.alloc (.map #[] 0)) (I.alloc (.map #[] 0)) [] 0:=(EW.mk ((Below.refl _ I).alloc (yaj _) _) (FoundM.made I) (FoundM.made I).isMap (yaj _) fun _ _ _=>rfl);have db:=(x2.alloc (.map #[] 0)).cell';clear b4 ah T ag x1 x2 U;generalize I.alloc (.map #[] 0)=w0 at *
 have bb:∀r ∈ rs,r.subs.length≤100000:=fun r hr=>by
  rw [←aq] at hr;obtain ⟨x,V,rfl⟩:=yaH.1 hr;exact (ho x V).1
 have ad:∀W,Below I.heap.size I W→MapS W b1 (zal K):=fun W hW=>by rw [ac];exact au.below hW
 have bc:∀x ∈ K,x.2.ok I R:=fun x V=>by
  rw [←hK] at V;obtain ⟨t,ht,V⟩:=ybz.1 V;obtain ⟨r,hr,rfl⟩:=yaH.1 V;exact (cg t ht).relz r hr
 go_wp2_with fail
 go_loopw [5,21] (fun vf F wx=>∃i:Nat,F = .int .i64 i∧vf = .int .i64 (relsA (l.take i)).length∧i≤l.length∧EW I w0 wx (relsD ps rs (relsA (l.take i))) ((relsA (l.take i)).length * 10000000000)) (fun _ F _=>l.length-(intOf F).toNat)
 case atStart=>exact ⟨0,rfl,rfl,yao _,ch.more (yao _)⟩
 case round =>
  obtain ⟨i,rfl,rfl,hi,hE⟩:=hrel;by_cases ci:i<l.length
  · have cj:(i:Int)<(l.length:Int):=by omega
    obtain ⟨t,ht⟩:∃t,l[i]? = some t:=⟨_,yal ci⟩;obtain ⟨b,o,rfl,t0,t1,J⟩:=b8.get ht;replace t0:=zaj t0 hE.below;replace t1:=zaj t1 hE.below;have dc:(t.rels.length:Int)≤9223372036854775807:=by have:=J.rels.cap;have:=J.rels.capm;simp only [maxLen] at this;omega
    have av:=zeF ht;have bd:=zgT (l:=l) (i + 1);rw [av,yam,yax,hK] at bd;have aw:=hE.alloc (.cells #[.string t.name,.slice t.A t.rels.length t.c] 199);have x1:=Bk.new wr #[.string t.name,.slice t.A t.rels.length t.c] 199;go_upto_region 7 with (fail)
    clear t0 t1;generalize hq5:wr.heap.size=q5 at *
    generalize wr.alloc (.cells #[.string t.name,.slice t.A t.rels.length t.c] 199)=w2 at *
    have y0:=x1.cell 0;have y1:=x1.cell 1;obtain ⟨n0,bf⟩:∃n0,(relsA (l.take i)).length=n0:=⟨_,rfl⟩;rw [bf] at bd aw ⊢;go_wp2_with fail
    go_loopw [5,28] (fun vf F wx=>∃j f:Nat,F = .int .i64 j∧vf = .int .i64 f∧f=n0 + j∧j≤t.rels.length∧EW I w2 wx (relsD ps rs (relsA (l.take i) ++ (t.rels.take j).map fun r=>(t,r))) (f * 10000000000)) (fun _ F _=>t.rels.length-(intOf F).toNat)
    case atStart=>exact ⟨0,n0,rfl,rfl,rfl,yao _,by simpa using aw.base⟩
    case round =>
     obtain ⟨j,f,rfl,rfl,hf,hj,n⟩:=hrel;replace hf:=Lib.hid hf;by_cases cl:j<t.rels.length
     · have cm:(j:Int)<(t.rels.length:Int):=by omega
       obtain ⟨x,V⟩:∃x,t.rels[j]? = some x:=⟨_,yal cl⟩;obtain ⟨g,k',e5,g0,g1,g2,g3,g4,g5,X⟩:=J.get V;replace g0:=zaj g0 n.below;replace g1:=zaj g1 n.below;replace g2:=zaj g2 n.below;replace g3:=zaj g3 n.below;replace g4:=zaj g4 n.below;replace g5:=zaj g5 n.below;have bg:(t,x) ∈ K:=by
        rw [←hK];exact ybz.2 ⟨t,yaq ht,yaH.2 ⟨x,yaq V,rfl⟩⟩
       obtain ⟨bi,cn⟩:=ho _ bg;have bj:Hid (relsD ps rs (relsA (l.take i) ++ (t.rels.take (j + 1)).map fun r=>(t,r))=relsD ps rs (relsA (l.take i) ++ (t.rels.take j).map fun r=>(t,r)) ++ relE ps rs t.name x.says f):=Lib.hid (by
        rw [yaC,V,yaO,yaM,←yaD];show relsD ps rs (_ ++ [(t,x)])=_;rw [zoZ,yam,bf,yax,yaN,ybT yab,←hf.out])
       obtain ⟨E2,ai⟩:∃E2,relsD ps rs (relsA (l.take i) ++ (t.rels.take j).map fun r=>(t,r))=E2:=⟨_,rfl⟩;rw [ai] at bj n;clear ai;have ae:=n.alloc (.cells x.cells.toArray 203);have x7:=Bk.new wr x.cells.toArray 203;have cq:x.cells.toArray=#[.string x.name,.string x.view,.string x.edit,.string x.check,.slice x.As x.subs.length x.cs,.slice x.Ao x.ops.length x.co]:=rfl;rw [cq] at ae x7;rw [e5] at *
       go_upto_region 10 with (fail)
       clear g0 g1 g2 g3 g4 g5 n;generalize hq7:wr.heap.size=M at *
       generalize wr.alloc (.cells #[.string x.name,.string x.view,.string x.edit,.string x.check,.slice x.As x.subs.length x.cs,.slice x.Ao x.ops.length x.co] 203)=w3 at *
       obtain ⟨z0,z1,z2,z3,z4,z5⟩:w3.cell? ⟨M,0,none⟩=some (.string x.name)∧w3.cell? ⟨M,1,none⟩=some (.string x.view)∧w3.cell? ⟨M,2,none⟩=some (.string x.edit)∧w3.cell? ⟨M,3,none⟩=some (.string x.check)∧w3.cell? ⟨M,4,none⟩=some (.slice x.As x.subs.length x.cs)∧w3.cell? ⟨M,5,none⟩=some (.slice x.Ao x.ops.length x.co):=⟨x7.cell 0,x7.cell 1,x7.cell 2,x7.cell 3,x7.cell 4,x7.cell 5⟩;have bl:=behindNotOf_any (X.ops.up ae.below) cn;go_upto_region 11 with (go_at_call 122;refine bl.mono ?_;rintro e w4 ⟨rfl,m0,m1,ax⟩)
       have Y:=ae.call ax;have dd:=(Y).bk x1;have bm:Bk w4 M _ _:=(ax.block _ x7.lt).trans x7;have ct:=bm.cell 5;have de:(x.ops.length:Int)≤9223372036854775807:=by omega
       generalize hq8:w3.heap.size=q8 at *
       clear z0 z1 z2 z3 z4 z5 ae x7 bl ax;simp only [ybZ,ybs,ybj] at ct;go_wp2_with fail
       go_loopw [38] (fun F wx=>∃k:Nat,F = .int .i64 k∧k≤x.ops.length∧EW I w4 wx (E2 ++ zgC ps rs t.name x.says f k) (f * 10000000000 + k * 100000)) (fun F _=>x.ops.length-(intOf F).toNat)
       case atStart=>exact ⟨0,rfl,yao _,by simpa [zgC] using Y.base⟩
       case round =>
        obtain ⟨k,rfl,hk,C⟩:=hrel;by_cases bn:k<x.ops.length
        · have cu:(k:Int)<(x.ops.length:Int):=by omega
          obtain ⟨⟨ok,on,ox⟩,ay⟩:∃o,x.ops[k]? = some o:=⟨_,yal bn⟩;obtain ⟨b6,k6,e6,p0,p1,p2,_,bo,bp⟩:=X.op ay;replace p0:=zaj p0 C.below;replace p1:=zaj p1 C.below;replace p2:=zaj p2 C.below;simp only at p0 p1 p2 bo bp;have Z:Hid (zgC ps rs t.name x.says f (k + 1)=zgC ps rs t.name x.says f k ++ opsE ps rs t.name x.says f k (ok,on,ox)):=Lib.hid (zoO ay);obtain ⟨E3,a1⟩:∃E3,E2 ++ zgC ps rs t.name x.says f k=E3:=⟨_,rfl⟩;have cw:Hid (E2 ++ zgC ps rs t.name x.says f (k + 1)=E3 ++ opsE ps rs t.name x.says f k (ok,on,ox)):=Lib.hid (by rw [Z.out,←yaD,a1]);rw [a1] at C;clear a1 Z;have m:=C.alloc (.cells #[.int .i64 ok,.string on,.string ox] 222);have x9:=Bk.new wr #[.int .i64 ok,.string on,.string ox] 222;rw [e6] at *
          go_upto_region 14 with (fail)
          clear p0 p1 p2 C;generalize hq9:wr.heap.size=q9 at *
          generalize wr.alloc (.cells #[.int .i64 ok,.string on,.string ox] 222)=G at *
          have aj:=(Y.join m);have r5:=aj.bk x1;have r7:=m.bk bm;obtain ⟨s0,s1⟩:G.cell? ⟨kb,0,none⟩=some (.slice A1 K.length c1)∧G.cell? ⟨kb,1,none⟩=some (.map (some b1)):=⟨zaj (b5.cell 0) m.below,zaj (b5.cell 1) m.below⟩;obtain ⟨s2,s3⟩:G.cell? ⟨q5,0,none⟩=some (.string t.name)∧G.cell? ⟨q5,1,none⟩=some (.slice t.A t.rels.length t.c):=⟨r5.cell 0,r5.cell 1⟩;obtain ⟨z0,z1,z2,z3,z4,z5⟩:G.cell? ⟨M,0,none⟩=some (.string x.name)∧G.cell? ⟨M,1,none⟩=some (.string x.view)∧G.cell? ⟨M,2,none⟩=some (.string x.edit)∧G.cell? ⟨M,3,none⟩=some (.string x.check)∧G.cell? ⟨M,4,none⟩=some (.slice x.As x.subs.length x.cs)∧G.cell? ⟨M,5,none⟩=some (.slice x.Ao x.ops.length x.co):=⟨r7.cell 0,r7.cell 1,r7.cell 2,r7.cell 3,r7.cell 4,r7.cell 5⟩;obtain ⟨v0,v1,v2⟩:G.cell? ⟨q9,0,none⟩=some (.int .i64 ok)∧G.cell? ⟨q9,1,none⟩=some (.string on)∧G.cell? ⟨q9,2,none⟩=some (.string ox):=⟨x9.cell 0,x9.cell 1,x9.cell 2⟩;have kn:=named_any (w:=G) (R:=R) (K:=K) (t:=t) (r:=x) (o:=(ok,on,ox)) (b9.up m.below) (ad G m.below) (fun y hy=>(bc y hy).up m.below) (X.up m.below) J.name ⟨bo,bp⟩ hR (fun y hy=>(ho y hy).1) bi;obtain ⟨nm,N⟩:∃nm,zdh (zal K) (K.map fun x=>x.2.says) t.name x.subs (ok,on,ox)=nm:=⟨_,rfl⟩;rw [N] at kn;rw [ac,aq] at N;have bq:nm.length≤100000:=by rw [←N];exact zqY bi bb
          have br:∀v ∈ nm,v<K.length:=fun v hv=>by rw [←cc];exact named_lt v (by rw [N];exact hv)
          have cx:Hid (opsE ps rs t.name x.says f k (ok,on,ox)=nm.map fun u=>((f:Int),((u:Nat):Int),zco x.ops k)):=Lib.hid (by rw [←N];rfl);clear N;clear e5 e6 ay V ht bg r5 r7 x9 aj;go_upto_region 15 with (go_at_call 123;refine kn.mono ?_;rintro e w6 ⟨⟨A7,c7,rfl,cz⟩,bs⟩)
          have a2:=m.call bs;have d0:=a2.bk m0;have d1:=a2.bk m1;have d8:(nm.length:Int)≤9223372036854775807:=by omega
          clear s0 s1 s2 s3 z0 z1 z2 z3 z4 z5 v0 v1 v2 bs kn m;go_wp2_with fail
          go_loopw [49] (fun F wx=>∃q:Nat,F = .int .i64 q∧q≤nm.length∧EW I w6 wx (E3 ++ (nm.take q).map fun u=>((f:Int),((u:Nat):Int),zco x.ops k)) (f * 10000000000 + k * 100000 + q)) (fun F _=>nm.length-(intOf F).toNat)
          case atStart=>exact ⟨0,rfl,yao _,by simpa using a2.base⟩
          case round =>
           obtain ⟨q,rfl,hq,B⟩:=hrel;by_cases bu:q<nm.length
           · have d2:(q:Int)<(nm.length:Int):=by omega
             obtain ⟨u,hu⟩:∃u,nm[q]? = some u:=⟨_,yal bu⟩;have df:=br u (yaq hu);obtain ⟨b7,o7,v,rfl,_,hv,cv⟩:=(B.rd cz).get bu;obtain rfl:v = .int .i64 (u:Int):=by
              simp only [ints,yaY,hu,ybG,yaT] at hv;exact hv.symm
             have bw:=zlM (w:=wr) (B.bk d0) (B.bk d1) bn;have az:Hid (E3 ++ (nm.take (q + 1)).map (fun u=>((f:Int),((u:Nat):Int),zco x.ops k))=(E3 ++ (nm.take q).map fun u=>((f:Int),((u:Nat):Int),zco x.ops k)) ++ [((f:Int),((u:Nat):Int),zco x.ops k)]):=Lib.hid (by
              rw [yaC,hu,yaO,yaM,←yaD];rfl)
             obtain ⟨E8,ak⟩:∃E8,(E3 ++ (nm.take q).map fun u=>((f:Int),((u:Nat):Int),zco x.ops k))=E8:=⟨_,rfl⟩;rw [ak] at az B;clear ak hv hu;obtain ⟨nn,D0,L,a6,s,O,z⟩:=B.found.out;have a7:f≤600:=by have:=hf.out;omega
             have bx:nn<maxLen:=by
              have h1:f * 10000000000≤600 * 10000000000:=ybm _ a7;have h2:k * 100000≤100000 * 100000:=ybm _ yab;exact ybw (yay a6 (Nat.add_le_add (Nat.add_le_add h1 h2) (yay hq bq))) yac
             have a8:Fits ((f:Int),((u:Nat):Int),zco x.ops k):=fits_of a7 yab;have aa:=zjG a8;have al:=s.isMap;have am:=Lib.hid B;simp only [zjt,za8] at aa;obtain ⟨bh,af⟩:∃bh,zco x.ops k=bh:=⟨_,rfl⟩;rw [af] at bw aa az a8;rw [ar] at s;have bz:=Lib.hid a6;replace af:=Lib.hid af;clear B a6;go_upto_region 18 with (first | (go_at_call 172;refine bw.mono ?_;rintro e w9 ⟨rfl,c0⟩;have h9:=c0.symm;clear c0;subst h9) | (at_mapUpdate;refine wpList_mapUpdate_own _ rfl _ _ _ 219 rfl 207 168 ziY Tryz.underlying219 _ (kb + 1) nn _ rfl s bx _ _ _ rfl rfl aa _ [] unitElem_mk ?_;intro w7 b0 b2))
             obtain ⟨L',c2,c4⟩:=KeysAre.put (d:=.agg []) al O a8;rw [←ar] at b0 b2;have P:=am.out.turn b2 (E':=E8 ++ [((f:Int),((u:Nat):Int),bh)]) (N':=nn + 1) ⟨nn + 1,_,L',yaj _,b0,c2,fun y=>by rw [c4 y,z y,yaA,yav]⟩;rw [←az.out,←af.out] at P;replace P:=Lib.hid (P.more (N':=f * 10000000000 + k * 100000 + (q + 1)) (by rw [←ya7];exact Nat.succ_le_succ bz.out));clear b0 b2 am s c2 c4 z O al;go_wp2_with fail
             exact ⟨⟨q + 1,by go_num,by omega,P.out⟩,by simp [intOf];omega⟩
           · obtain rfl:q=nm.length:=by omega
             have d2:¬(((nm.length:Nat):Int)<(nm.length:Int)):=by omega
             rw [yaz,←cx.out,←cw.out] at B;have hN:f * 10000000000 + k * 100000 + nm.length≤f * 10000000000 + (k + 1) * 100000:=by
              rw [ycg,Nat.one_mul,←ya7];exact Nat.add_le_add_left bq _
             have P:=(a2.join B).more hN;clear hN B a2;go_wp2_with fail
             exact ⟨⟨k + 1,by go_num,by omega,P⟩,by simp [intOf];omega⟩
        · obtain rfl:k=x.ops.length:=by omega
          have cu:¬(((x.ops.length:Nat):Int)<(x.ops.length:Int)):=by omega
          have an:zgC ps rs t.name x.says f x.ops.length=relE ps rs t.name x.says f:=zrg;rw [an] at C;have c5:x.ops.length * 100000≤10000000000:=by omega
          have b3:f + 1=n0 + (j + 1):=by have:=hf.out;omega
          have hN:f * 10000000000 + x.ops.length * 100000≤(f + 1) * 10000000000:=by
           rw [ycg,Nat.one_mul];exact Nat.add_le_add_left c5 _
          have m:=(Y.join C).more hN;rw [←bj.out] at m;have b3:=Lib.hid b3;clear hN c5 an C Y;go_wp2_with fail
          refine ⟨⟨j + 1,f + 1,by go_num,by go_num,b3.out,by omega,?_⟩,?_⟩
          · exact m
          · simp [intOf];omega
     · obtain rfl:j=t.rels.length:=by omega
       have cm:¬(((t.rels.length:Nat):Int)<(t.rels.length:Int)):=by omega
       rw [yaz,←av] at n;have ao:Hid ((relsA (l.take (i + 1))).length=f):=Lib.hid (by have:=hf.out;rw [av,yam,yax];omega);go_wp2_with fail
       exact ⟨⟨i + 1,by go_num,by rw [ao.out],by omega,by rw [ao.out];exact aw.join n⟩,by simp [intOf];omega⟩
  · obtain rfl:i=l.length:=by omega
    have cj:¬(((l.length:Nat):Int)<(l.length:Int)):=by omega
    rw [yaz,hK] at hE;obtain ⟨nn,D0,L,a6,s,O,z⟩:=hE.found.out;have d3:L.length≤1000000:=by
     have h1:=zfB (E:=zlb 600) O.nodup fun e he=>by
      obtain ⟨a,b,ha,hb,h1,h2⟩:=zkX ((z e).1 he);exact zkW yab yab h1 h2
     rw [zjb] at h1;omega
    have kk:=keys_any (some (kb + 1)) wr;have c6:Below w.heap.size w (wr.alloc (.cells #[.map (some (kb + 1))] 219)):=(ba.trans (hE.below.mono yab)).alloc (by have:=hE.below.size;omega) _;have c8:=(Bk.new wr #[.map (some (kb + 1))] 219).cell';have H:=s.alloc (.cells #[.map (some (kb + 1))] 219);rw [ar] at H;have ks:=sortedFunc_any O d3 wr.heap.size (kb + 1) nn _ c8 H;have z:=Lib.hid z;clear O s hE H c8 a6;go_wp2_with (first | (go_at_call 125;refine kk.mono ?_;rintro e w8 ⟨rfl,d4⟩;subst d4) | (go_at_call 124;refine ks.mono ?_;rintro e w9 ⟨A9,c9,zs,rfl,ca,d5,d6,d7⟩))
    go_ret
    rw [←ca.length_eq] at *
    exact ⟨_,_,zs,rfl,d5,fun e=>(ca.mem_iff).trans (z.out e),d6,c6.trans (d7.mono c6.size)⟩
end
section
open Go.RowKit
theorem zlq {l:List Ed} (h:ziv l):l.Nodup:=h.imp fun {a b} f e=>by subst e;rw [zhb] at f;omega
theorem zcN {B:Nat} {w w1 w2:World} (h:Below B w w1) (hB:B≤w1.heap.size) (k:Below w1.heap.size w1 w2):Below B w w2:=h.trans (k.mono hB)
theorem bnewZ (w:World) (o:Obj):Below w.heap.size w (w.alloc o):=(Below.refl _ w).alloc (yaj _) o
theorem few_of {l:List TypA} {m n:Nat} (h1:(zbb (l.map TypA.says)).length≤m) (h2:∀x ∈ zbb (l.map TypA.says),x.2.subs.length≤n∧x.2.ops.length≤n):(relsA l).length≤m∧∀x ∈ relsA l,x.2.subs.length≤n∧x.2.ops.length≤n:=by
 rw [←zcK] at h1 h2;rw [yax] at h1;exact ⟨h1,fun x b=>h2 _ (yaH.2 ⟨x,b,rfl⟩)⟩
inductive LvIs (n:Nat) (l:List Ed):List Int→Int→Prop
 | arg (hi:¬InR n l):LvIs n l [] 1
 | cyc (hi:InR n l) (hc:Cyc l):LvIs n l [] 33
 | ok (hi:InR n l) (v:List Int) (hv:v.length=n) (hL:Least n l (zcg v)) (hb:∀x ∈ v,0≤x∧x≤4096):LvIs n l v 0
theorem zoH {w:World} {n c:Nat} {A:Option Addr} {l:List Ed} (h:Rd w w.heap.size 3 A l.length c (zaB l)) (hl:l.length≤100000) (hn:n≤4096) :
 Calls Tryz.prog 76 #[.int .i64 (n:Int),.slice A l.length c] w fun e w'=>(∃A' c' v s,e = .returned (.tuple #[.slice A' v.length c',.int .i64 s])∧Rd w' w'.heap.size 1 A' v.length c' (lvs v)∧LvIs n l v s)∧Below w.heap.size w w' :=
 (levels_any (n:=(n:Int)) h hl).mono fun e w' ⟨b,f⟩=>⟨by
  cases b with
  | arg h =>
   rcases h with h | h | h
   · omega
   · omega
   · exact ⟨none,0,[],1,rfl,Rd.none_ _ _ _,.arg h⟩
  | cyc _ _ hi g=>exact ⟨none,0,[],33,rfl,Rd.none_ _ _ _,.cyc hi g⟩
  | ok _ _ hi v A c j k m hb =>
   rw [ybn] at *
   subst k;exact ⟨A,c,v,0,rfl,j,.ok hi v rfl m hb⟩,f⟩
theorem zqP {v:List Int} {i:Nat} (hi:i<v.length):(lvs v)[i]? = some (.int .i64 (zcg v i)):=by
 simp only [lvs,yaY,yal hi,ybG];simp [zcg,hi]
end
end Go.Proofs.YtmblgnddgmfkhaaGreat
