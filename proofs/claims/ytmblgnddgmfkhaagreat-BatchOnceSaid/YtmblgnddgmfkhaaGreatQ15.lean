import Derived.Deep.RegionHeld3
import Derived.Shelf.AbstractIn
import Derived.Test.YtmblgnddgmfkhaaGreatQ14
set_option maxRecDepth 100000
set_option maxHeartbeats 4000000
namespace Go.Proofs.YtmblgnddgmfkhaaGreat
section
open Go.RowKit
open Go.RowKit Go.Maps
variable {w:World} {l ps:List Path} {i b:Nat} {s:Path}
def zbU (l:List Path):List Value:=l.flatMap zoH
theorem zhS (a b:List Path):zbU (a ++ b)=zbU a ++ zbU b:=yaZ
theorem zdw {B c n:Nat} {A:Option Addr} (h:Rd w B 2 A n c (zbU l)) (hi:l[i]? = some s) (hn:n=l.length) :
 ∃b o,A=some ⟨b,o,none⟩∧b<B∧w.cell? ⟨b,o + i * 2,none⟩=some (.string s.1)∧w.cell? ⟨b,o + i * 2 + 1,none⟩=some (.string s.2):=by
 subst hn;obtain ⟨b,o,e,hb,d⟩:=h.at_ (zdI hi);have g:=fun k (hk:k<2)=>za6 zoH (sz:=2) (fun _=>rfl) hi (k:=k) hk;exact ⟨b,o,e,hb,d _ _ (g 0 yab),by rw [ya4];exact d _ _ (g 1 yab)⟩
theorem zge (x:ByteArray):x.toList.isEmpty=decide (x=⟨#[]⟩):=by
 have:x.toList.isEmpty=(x.toList == (⟨#[]⟩:ByteArray).toList):=by
  have e:(⟨#[]⟩:ByteArray).toList=[]:=by decide +kernel
  rw [e];cases x.toList <;> rfl
 rw [this];exact toList_inj
theorem zor (h:l[i]? = some s):zeC (l.take (i + 1))=zeC (l.take i) ++ if s.2=⟨#[]⟩ then [] else [s]:=by
 unfold zeC;rw [yaC,h,yaR,yb2];by_cases e:s.2=⟨#[]⟩ <;> simp [e]
theorem zlL {n:ByteArray} (h:l[i]? = some s):zbI (l.take (i + 1)) n=zbI (l.take i) n ++ if s.2=⟨#[]⟩ then [(s.1,n)] else []:=by
 unfold zbI;rw [yaC,h,yaR,yb2,yaL];by_cases e:s.2=⟨#[]⟩ <;> simp [e]
theorem setsP_le (l:List Path) (i:Nat):(zeC (l.take i)).length≤i:=yax (ybf _ _) (by rw [yaK];omega)
theorem zqf (l:List Path) (n:ByteArray) (i:Nat):(zbI (l.take i) n).length≤i:=by
 unfold zbI;rw [yay];exact yax (ybf _ _) (by rw [yaK];omega)
theorem sets_any {As:Option Addr} {cs:Nat} {nm vi ed ch:ByteArray} {vo:Value} (hvo:∃Ao no co,vo = .slice Ao no co) (h:Rd w w.heap.size 2 As l.length cs (zbU l)) (hl:l.length≤100000) :
 Calls Tryz.prog 173 #[.agg #[.string nm,.string vi,.string ed,.string ch,.slice As l.length cs,vo]] w fun e w'=>(∃A' c',e = .returned (.slice A' (zeC l).length c')∧w'.ownsRow w.heap.size 246 2 (.slice A' (zeC l).length c') (zeC l).length (zbU (zeC l)))∧Below w.heap.size w w':=by
 obtain ⟨Ao,no,co,rfl⟩:=hvo;obtain ⟨M,u,x,y,z⟩:=info_parts ziX;go_enter Tryz.func173,Tryz.ntmps173
 go_wp2_with fail
 have A:Below w.heap.size w (w.alloc (.cells #[.string nm,.string vi,.string ed,.string ch,.slice As l.length cs,.slice Ao no co] 203)):=(Below.refl _ w).alloc (yaj _) _;generalize w.alloc (.cells #[.string nm,.string vi,.string ed,.string ch,.slice As l.length cs,.slice Ao no co] 203)=Q at *
 go_loopw [3,9] (fun v vi I=>∃j:Nat,vi = .int .i64 j∧j≤l.length∧I.ownsRow w.heap.size 246 2 v (zeC (l.take j)).length (zbU (zeC (l.take j)))∧Below w.heap.size w I) (fun _ vi _=>l.length-(intOf vi).toNat)
 case atStart=>exact ⟨0,rfl,yap _,World.ownsRow_nil _ _ _ _,A⟩
 case round =>
  obtain ⟨j,rfl,R,n,d⟩:=hrel;by_cases B:j<l.length
  · have C:(j:Int)<(l.length:Int):=by omega
    obtain ⟨s,J⟩:∃s,l[j]? = some s:=⟨_,yal B⟩;obtain ⟨b,o,rfl,hb,N,O⟩:=zdw (h.below d) J rfl;have P:=setsP_le l j;have p:=Lib.hid (zor J);obtain ⟨D,E,rfl,_⟩:=Rd.own n;have F:=d.size;have g:=n.alloc (.cells #[.string s.1,.string s.2] 246);have f:=d.alloc F (.cells #[.string s.1,.string s.2] 246);have G:=Bk.new wr #[.string s.1,.string s.2] 246;go_upto_region 5 with (fail)
    have T:=G.cell 0;have U:=G.cell 1;clear N O G n d;generalize wr.alloc (.cells #[.string s.1,.string s.2] 246)=V at *
    have K:=zge s.2;cases q:decide (s.2=(⟨#[]⟩:ByteArray)) with
    | true =>
     rw [q] at K;go_wp2_with fail
     have k:=yaQ q;refine ⟨⟨j + 1,by go_num,by omega,?_,f⟩,by simp [intOf];omega⟩;rw [p.out,yan k,yaJ];exact g
    | false =>
     rw [q] at K;go_wp2_with (at_builtin;go_loud (refine zab _ rfl (.tmp 16) (.tmp 18) 200 200 rfl w.heap.size 246 M (.agg #[.string .empty,.string .empty]) 2 32 Tryz.underlying200 u x y z rfl yac (.slice D (zeC (l.take j)).length E) (zeC (l.take j)).length (zbU (zeC (l.take j))) rfl (g.alloc _) _ 1 [.string s.1,.string s.2] rfl (Src.ofSlice _ Tryz.underlying200 _ 1 1 _ rfl (zcq _ _ _ _) (zhs s)) yad yab (size_alloc f.size) ?_;intro v9 X m H L))
     have k:=of_decide_eq_false q;refine ⟨⟨j + 1,by go_num,by omega,?_,zaf (f.alloc f.size _) H (g.alloc _) (size_alloc f.size) (yaj _)⟩,by simp [intOf];omega⟩;rw [p.out,yak k,yam,zhS];exact m
  · obtain rfl:j=l.length:=by omega
    have C:¬(((l.length:Nat):Int)<(l.length:Int)):=by omega
    rw [yaA] at n;obtain ⟨D,E,rfl,Y⟩:=Rd.own n;go_wp2_with fail
    go_ret
    exact ⟨⟨D,E,rfl,n⟩,d⟩
theorem nexts_any {As:Option Addr} {cs:Nat} {nm vi ed ch:ByteArray} {vo:Value} (n:ByteArray) (hvo:∃Ao no co,vo = .slice Ao no co) (h:Rd w w.heap.size 2 As l.length cs (zbU l)) (hl:l.length≤100000) :
 Calls Tryz.prog 174 #[.agg #[.string nm,.string vi,.string ed,.string ch,.slice As l.length cs,vo],.string n] w fun e w'=>(∃A' c',e = .returned (.slice A' (zbI l n).length c')∧w'.ownsRow w.heap.size 246 2 (.slice A' (zbI l n).length c') (zbI l n).length (zbU (zbI l n)))∧Below w.heap.size w w':=by
 obtain ⟨Ao,no,co,rfl⟩:=hvo;obtain ⟨N,x,y,z,A⟩:=info_parts ziX;go_enter Tryz.func174,Tryz.ntmps174
 go_wp2_with fail
 have B:Below w.heap.size w (w.alloc (.cells #[.string nm,.string vi,.string ed,.string ch,.slice As l.length cs,.slice Ao no co] 203)):=(Below.refl _ w).alloc (yaj _) _;generalize w.alloc (.cells #[.string nm,.string vi,.string ed,.string ch,.slice As l.length cs,.slice Ao no co] 203)=R at *
 go_loopw [5,11] (fun v vi J=>∃j:Nat,vi = .int .i64 j∧j≤l.length∧J.ownsRow w.heap.size 246 2 v (zbI (l.take j) n).length (zbU (zbI (l.take j) n))∧Below w.heap.size w J) (fun _ vi _=>l.length-(intOf vi).toNat)
 case atStart=>exact ⟨0,rfl,yap _,World.ownsRow_nil _ _ _ _,B⟩
 case round =>
  obtain ⟨j,rfl,T,p,d⟩:=hrel;by_cases C:j<l.length
  · have D:(j:Int)<(l.length:Int):=by omega
    obtain ⟨s,K⟩:∃s,l[j]? = some s:=⟨_,yal C⟩;obtain ⟨b,o,rfl,hb,O,P⟩:=zdw (h.below d) K rfl;have Q:=zqf l n j;have q:=Lib.hid (zlL (n:=n) K);obtain ⟨E,F,rfl,_⟩:=Rd.own p;have G:=d.size;have g:=p.alloc (.cells #[.string s.1,.string s.2] 246);have f:=d.alloc G (.cells #[.string s.1,.string s.2] 246);have H:=Bk.new wr #[.string s.1,.string s.2] 246;go_upto_region 5 with (fail)
    have U:=H.cell 0;have V:=H.cell 1;clear O P H p d;generalize wr.alloc (.cells #[.string s.1,.string s.2] 246)=X at *
    have L:=zge s.2;cases u:decide (s.2=(⟨#[]⟩:ByteArray)) with
    | false =>
     rw [u] at L;go_wp2_with fail
     have k:=of_decide_eq_false u;refine ⟨⟨j + 1,by go_num,by omega,?_,f⟩,by simp [intOf];omega⟩;rw [q.out,yak k,yaJ];exact g
    | true =>
     rw [u] at L;go_wp2_with (at_builtin;go_loud (refine zab _ rfl (.tmp 18) (.tmp 23) 200 200 rfl w.heap.size 246 N (.agg #[.string .empty,.string .empty]) 2 32 Tryz.underlying200 x y z A rfl yac (.slice E (zbI (l.take j) n).length F) (zbI (l.take j) n).length (zbU (zbI (l.take j) n)) rfl (g.alloc _) _ 1 [.string s.1,.string n] rfl (Src.ofSlice _ Tryz.underlying200 _ 1 1 _ rfl (zcq _ _ _ _) (zhs (s.1,n))) yad yab (size_alloc f.size) ?_;intro v9 Y m I M))
     have k:=yaQ u;refine ⟨⟨j + 1,by go_num,by omega,?_,zaf (f.alloc f.size _) I (g.alloc _) (size_alloc f.size) (yaj _)⟩,by simp [intOf];omega⟩;rw [q.out,yan k,yam,zhS];exact m
  · obtain rfl:j=l.length:=by omega
    have D:¬(((l.length:Nat):Int)<(l.length:Int)):=by omega
    rw [yaA] at p;obtain ⟨E,F,rfl,Z⟩:=Rd.own p;go_wp2_with fail
    go_ret
    exact ⟨⟨E,F,rfl,p⟩,d⟩
def zdt (ps:List Path):DataW Unit:=ps.zipIdx.foldl (fun D p=>D.put (kS p.1) (.lit (.int .i64 (p.2:Int)))) (.map [])
theorem zd0 (ps:List Path) (p:Path):zdt (ps ++ [p])=(zdt ps).put (kS p) (.lit (.int .i64 (ps.length:Int))):=by
 unfold zdt;rw [ycx,yci];simp
def SmP (p:Path):Prop:=p.1.size≤maxLen∧p.2.size≤maxLen
theorem zpF {p:Path} (h:SmP p):WideAt.IsKeyLit (kS p):=zdG.key (zdF h.1 h.2)
theorem zg8 (ps:List Path):IsMap (zdt ps):=by
 suffices H:∀(l:List (Path × Nat)) (D:DataW Unit),IsMap D→IsMap (l.foldl (fun D p=>D.put (kS p.1) (.lit (.int .i64 (p.2:Int)))) D) from H _ _ isMap_empty
 intro l;induction l with
 | nil=>intro D h;exact h
 | cons a t ih=>intro D h;exact ih _ (h.put _ _)
theorem zct (hs:∀p ∈ ps,SmP p) {q:Path} (hq:SmP q):Maps.has (zdt ps) (kS q)=(zar ps q).isSome∧∀z,(zdt ps).atKey (kS q) z=match zar ps q with | some i=>.lit (.int .i64 (i:Int)) | none=>z:=by
 suffices H:∀n (ps:List Path),ps.length=n→(∀p ∈ ps,SmP p)→Maps.has (zdt ps) (kS q)=(zar ps q).isSome∧∀z,(zdt ps).atKey (kS q) z=match zar ps q with | some i=>.lit (.int .i64 (i:Int)) | none=>z from H _ ps rfl hs
 intro n;induction n with
 | zero =>
  intro ps d _;rw [yaY d];exact ⟨rfl,fun z=>rfl⟩
 | succ n ih =>
  intro ps d hs;rcases ybI ps with rfl | ⟨g,p,rfl⟩
  · simp at d
  · rw [yb0] at *
    have f:=hs p yaf;obtain ⟨j,k⟩:=ih g (by simpa using d) fun x m=>hs x (by simp [m]);rw [zd0,zg1];by_cases e:p=q
    · subst e;rw [yan rfl,has_put_same (zg8 _) (zpF f)];exact ⟨rfl,fun z=>atKey_put_same (zg8 _) (zpF f) _ z⟩
    · have b:kS q≠kS p:=fun o=>e (kS_inj f.1 f.2 hq.1 hq.2 o.symm);rw [yak e,has_put_other b];exact ⟨j,fun z=>(atKey_put_other b _ z).trans (k z)⟩
def MapS (w:World) (b:Nat) (ps:List Path):Prop:=w.ownsMap Tryz.prog 246 (plainElem Tryz.prog 3) b ps.length (zdt ps)∧∀p ∈ ps,SmP p
theorem MapS.same {w':World} (h:MapS w b ps) (hb:w'.heap[b]? = w.heap[b]?):MapS w' b ps:=by
 obtain ⟨⟨f,d,g,j⟩,k⟩:=h;exact ⟨⟨f,d,hb.trans g,j⟩,k⟩
theorem MapS.lt (h:MapS w b ps):b<w.heap.size:=h.1.lt
theorem MapS.below {w':World} (h:MapS w b ps) (hb:Below w.heap.size w w'):MapS w' b ps:=h.same (hb.block b h.lt)
def relsA (l:List TypA):List (TypA × RelA):=l.flatMap fun t=>t.rels.map fun r=>(t,r)
def zaj (k:List (TypA × RelA)):List Path:=k.map fun x=>(x.1.name,x.2.name)
def zdM (k:List (TypA × RelA)):List Value:=k.flatMap fun x=>x.2.cells
theorem zob (a b:List (TypA × RelA)):zdM (a ++ b)=zdM a ++ zdM b:=yaZ
theorem zd7 {l:List TypA} {t:TypA} (h:l[i]? = some t):relsA (l.take (i + 1))=relsA (l.take i) ++ t.rels.map fun r=>(t,r):=by
 unfold relsA;rw [yaC,h,yaR,yaZ,List.flatMap_singleton]
theorem zgn {l:List TypA} (i:Nat):(relsA (l.take i)).length≤(relsA l).length:=by
 conv=>rhs;rw [←ybg i l]
 unfold relsA;rw [yaZ,yam];omega
structure KI (w wx:World) (done:List (TypA × RelA)):Prop where
 one:∃v,Bk wx (w.heap.size + 1 + 1 + 1) #[v,.map (some (w.heap.size + 1 + 1))] 217∧wx.ownsRow (w.heap.size + 4) 203 6 v done.length (zdM done)
 map:MapS wx (w.heap.size + 1 + 1) (zaj done)
 res:Bk wx (w.heap.size + 1) #[.slice none 0 0,.map none] 217
 below:Below w.heap.size w wx
theorem KI.alloc {wx:World} {done:List (TypA × RelA)} (h:KI w wx done) (o:Obj):KI w (wx.alloc o) done:=by
 obtain ⟨⟨v,d,f⟩,g,j,b⟩:=h;exact ⟨⟨v,d.alloc o,f.alloc o⟩,g.below ((Below.refl _ wx).alloc (yaj _) o),j.alloc o,b.alloc b.size o⟩
theorem zjo (x:RelA):∀u ∈ x.cells,u.oneCell'=true:=zkM _ _ _ _ _ _ _ _ _ _
theorem znq {n:Nat} (h:n≤100000):(Lit.int .i64 (n:Int)).wf=true:=WalkArith.wf_i64 yab
theorem knownOf_any {R c:Nat} {A:Option Addr} {l:List TypA} (h:SchA w R A c l) (hR:R≤140737488351232) (hl:(relsA l).length≤100000) :
 Calls Tryz.prog 121 #[.agg #[.slice A l.length c]] w fun e w'=>(∃A' c' b,e = .returned (.agg #[.slice A' (relsA l).length c',.map (some b)])∧w.heap.size≤b ∧
  w'.ownsRow w.heap.size 203 6 (.slice A' (relsA l).length c') (relsA l).length (zdM (relsA l))∧MapS w' b (zaj (relsA l)))∧Below w.heap.size w w':=by
 have ad:=@run_makeMap Tryz.prog;have b3:(l.length:Int)≤9223372036854775807:=by have:=h.rows.cap;have:=h.rows.capm;simp only [maxLen] at this;omega
 obtain ⟨i0,ae,af,ag,ah⟩:=info_parts zmA;go_enter Tryz.func121,Tryz.ntmps121
 go_wp2_with fail
 have d0:=((Bk.new w #[.slice A l.length c] 140).alloc (.cells #[.slice none 0 0,.map none] 217)).alloc (.map #[] 0) |>.alloc (.cells #[.slice none 0 0,.map (some (w.heap.size + 1 + 1))] 217);have d1:=((Bk.new (w.alloc (.cells #[.slice A l.length c] 140)) #[.slice none 0 0,.map none] 217).alloc (.map #[] 0)).alloc (.cells #[.slice none 0 0,.map (some (w.heap.size + 1 + 1))] 217);have X:MapS (((w.alloc (.cells #[.slice A l.length c] 140)).alloc (.cells #[.slice none 0 0,.map none] 217)).alloc (.map #[] 0)) ((w.alloc (.cells #[.slice A l.length c] 140)).alloc (.cells #[.slice none 0 0,.map none] 217)).heap.size (zaj []):=⟨World.ownsMap_made _ _ _ _,fun p hp=>by cases hp⟩;have d3:=Bk.new (((w.alloc (.cells #[.slice A l.length c] 140)).alloc (.cells #[.slice none 0 0,.map none] 217)).alloc (.map #[] 0)) #[.slice none 0 0,.map (some (w.heap.size + 1 + 1))] 217;replace X:=X.below ((Below.refl _ _).alloc (yaj _) (.cells #[.slice none 0 0,.map (some (w.heap.size + 1 + 1))] 217));simp only [World.size_alloc] at d1 X d3;have Y:Below w.heap.size w ((((w.alloc (.cells #[.slice A l.length c] 140)).alloc (.cells #[.slice none 0 0,.map none] 217)).alloc (.map #[] 0)).alloc (.cells #[.slice none 0 0,.map (some (w.heap.size + 1 + 1))] 217)):=((((Below.refl _ w).alloc (yaj _) _).alloc yaf _).alloc yag _).alloc yag _;generalize (((w.alloc (.cells #[.slice A l.length c] 140)).alloc (.cells #[.slice none 0 0,.map none] 217)).alloc (.map #[] 0)).alloc (.cells #[.slice none 0 0,.map (some (w.heap.size + 1 + 1))] 217)=w0 at *
 have ai:KI w w0 (relsA (l.take 0)):=⟨⟨_,d3,World.ownsRow_nil _ _ _ _⟩,X,d1,Y⟩;clear ad d0 d1 X d3 Y;go_loopw [13] (fun J wx=>∃i:Nat,J = .int .i64 i∧i≤l.length∧KI w wx (relsA (l.take i))) (fun J _=>l.length-(intOf J).toNat)
 case atStart=>exact ⟨0,rfl,yap _,ai⟩
 case round =>
  obtain ⟨i,rfl,hi,B⟩:=hrel;by_cases aj:i<l.length
  · have ak:(i:Int)<(l.length:Int):=by omega
    obtain ⟨t,ht⟩:∃t,l[i]? = some t:=⟨_,yal aj⟩;obtain ⟨b,o,rfl,t0,t1,E⟩:=h.get ht;replace t0:=zah t0 B.below;replace t1:=zah t1 B.below;have Z:=E.rels;have b4:(t.rels.length:Int)≤9223372036854775807:=by have:=Z.cap;have:=Z.capm;simp only [maxLen] at this;omega
    have a1:=zd7 ht;have al:=zgn (l:=l) (i + 1);rw [a1,yam,yay] at al;have am:=B.alloc (.cells #[.string t.name,.slice t.A t.rels.length t.c] 199);have x1:=Bk.new wr #[.string t.name,.slice t.A t.rels.length t.c] 199;have b5:=B.below.size;have ay:w.heap.size + 4≤wr.heap.size:=by obtain ⟨v,q,_⟩:=B.one;have:=q.lt;omega
    go_upto_region 5 with (fail)
    clear t0 t1;generalize hq5:wr.heap.size=q5 at *
    generalize wr.alloc (.cells #[.string t.name,.slice t.A t.rels.length t.c] 199)=w1 at *
    have y0:=x1.cell 0;have y1:=x1.cell 1;go_wp2_with fail
    go_loopw [20] (fun J wx=>∃j:Nat,J = .int .i64 j∧j≤t.rels.length∧KI w wx (relsA (l.take i) ++ (t.rels.take j).map fun r=>(t,r))∧Bk wx q5 #[.string t.name,.slice t.A t.rels.length t.c] 199) (fun J _=>t.rels.length-(intOf J).toNat)
    case atStart=>exact ⟨0,rfl,yap _,by simpa using am,x1⟩
    case round =>
     obtain ⟨j,rfl,hj,z,K⟩:=hrel;by_cases an:j<t.rels.length
     · have ao:(j:Int)<(t.rels.length:Int):=by omega
       obtain ⟨x,hx⟩:∃x,t.rels[j]? = some x:=⟨_,yal an⟩;obtain ⟨g,k,e5,g0,g1,g2,g3,g4,g5,a2⟩:=(E.up z.below).get hx;have b6:=E.name;have b7:=a2.name;obtain ⟨dn,F⟩:∃dn,relsA (l.take i) ++ (t.rels.take j).map (fun r=>(t,r))=dn:=⟨_,rfl⟩;have b8:dn.length≤99999:=by rw [←F,yam,yay,yaK];omega
       have aq:Hid (relsA (l.take i) ++ (t.rels.take (j + 1)).map (fun r=>(t,r))=dn ++ [(t,x)]):=Lib.hid (by rw [yaC,hx,yaR,yaL,←yaB,F];rfl);rw [F] at z;have F:=Lib.hid F;have az:w.heap.size + 4≤wr.heap.size:=by obtain ⟨v,q,_⟩:=z.one;have:=q.lt;omega
       have f:=z.alloc (.cells x.cells.toArray 203);have m:=K.alloc (.cells x.cells.toArray 203);have x7:=Bk.new wr x.cells.toArray 203;have a6:wr.heap.size<(wr.alloc (.cells x.cells.toArray 203)).heap.size:=by simp
       have b0:=K.lt;have ar:x.cells.toArray=#[.string x.name,.string x.view,.string x.edit,.string x.check,.slice x.As x.subs.length x.cs,.slice x.Ao x.ops.length x.co]:=rfl;rw [ar] at f m x7 a6;rw [e5] at *
       go_upto_region 8 with (fail)
       clear g0 g1 g2 g3 g4 g5 z K;generalize hq7e:wr.heap.size=L at *
       generalize wr.alloc (.cells #[.string x.name,.string x.view,.string x.edit,.string x.check,.slice x.As x.subs.length x.cs,.slice x.Ao x.ops.length x.co] 203)=w2 at *
       obtain ⟨v,n,u⟩:=f.one;obtain ⟨Q,T,rfl,au⟩:=Rd.own u;have z0:=n.cell 0;have z1:=n.cell 1;have z5:=m.cell 0;have z7:=x7.cell 0;have C:=f.map;have a7:keyOf Tryz.prog 246 (.agg #[.string t.name,.string x.name])=some (kS (t.name,x.name)):=zdF (s:=(t.name,x.name)) yad yad;have M:(zaj dn).length=dn.length:=by simp [zaj]
       have N:=C.1;rw [M] at N;have b9:=C.lt;go_upto_region 9 with (at_mapUpdate;refine wpList_mapUpdate_own _ rfl _ _ _ 215 rfl 246 3 zdG Tryz.underlying215 _ (w.heap.size + 1 + 1) dn.length _ rfl N (by unfold maxLen;omega) _ _ _ rfl rfl a7 _ [] (plainElem_int Tryz.underlying3 (znq yab)) ?_;intro w3 a8 O)
       have U:∀d,d<w2.heap.size→d≠w.heap.size + 1 + 1→w3.heap[d]? = w2.heap[d]?:=fun d V h2=>O.block d V fun e'=>h2 (yaX e');have k3:Bk w3 (w.heap.size + 1 + 1 + 1) _ _:=(U _ n.lt yab).trans n;have y:w3.ownsRow (w.heap.size + 4) 203 6 (.slice Q dn.length T) dn.length (zdM dn):=zaD u fun d V=>U d (u.lt d V).2 (by have:=(u.lt d V).1;omega);have I:Bk w3 (w.heap.size + 1) _ _:=(U _ f.res.lt yab).trans f.res;have av:Bk w3 q5 _ _:=(U _ m.lt yab).trans m;have D:Bk w3 L _ _:=(U _ a6 yab).trans x7;have P:Below w.heap.size w w3:=f.below.grown O f.below.size fun r e'=>by cases e';omega
       have aa:zaj (dn ++ [(t,x)])=zaj dn ++ [(t.name,x.name)]:=by simp [zaj]
       have ab:MapS w3 (w.heap.size + 1 + 1) (zaj (dn ++ [(t,x)])):=by
        refine ⟨?_,fun q hq=>?_⟩
        · rw [aa,zd0,M,yam,M];exact a8
        · rw [aa,yaz,yas] at hq;rcases hq with hq | rfl
          · exact C.2 q hq
          · exact ⟨by simp only [maxLen];omega,by simp only [maxLen];omega⟩
       clear a8 C N f n u m x7 z0 z1 z5 z7 O U;have z0:=k3.cell 0;have zf:=k3.fz 0;obtain ⟨s0,s1,s2,s3,s4,s5⟩:w3.cell? ⟨L,0,none⟩=some (.string x.name)∧w3.cell? ⟨L,1,none⟩=some (.string x.view)∧w3.cell? ⟨L,2,none⟩=some (.string x.edit)∧w3.cell? ⟨L,3,none⟩=some (.string x.check)∧w3.cell? ⟨L,4,none⟩=some (.slice x.As x.subs.length x.cs)∧w3.cell? ⟨L,5,none⟩=some (.slice x.Ao x.ops.length x.co):=⟨D.cell 0,D.cell 1,D.cell 2,D.cell 3,D.cell 4,D.cell 5⟩;have b1:=k3.lt;go_wp2_with (at_builtin;go_loud (refine zab _ rfl (.tmp 35) (.tmp 37) 197 197 rfl (w.heap.size + 4) 203 i0 _ 6 112 Tryz.underlying197 ae af ag ah rfl yac (.slice Q dn.length T) dn.length (zdM dn) rfl (y.alloc _) _ 1 x.cells rfl (Src.ofSlice _ Tryz.underlying197 _ 1 1 _ rfl (zh0 _ _ _ _ _ _ _ _) (zjo x)) yad yab (size_alloc yab) ?_;intro v9 w8 G H b2;obtain ⟨A9,c9,rfl,_⟩:=Rd.own G;have k8:=zbt (k3.alloc _) (y.alloc _) yac H;have y8:=k8.cell 0;have ba:=k8.fz 0))
       have ac:=H.size;simp only [World.size_alloc] at ac;have o8:∀d,d<w3.heap.size→d<w.heap.size + 4→d≠w.heap.size + 1 + 1 + 1→(w8.setCell ⟨w.heap.size + 1 + 1 + 1,0,none⟩ (.slice A9 (dn.length + 1) c9)).heap[d]? = w3.heap[d]?:=fun d V h2 h3 =>
        ((Below.heap_setCell _ _ _ _ h3).trans (H.block d yag fun e'=>by have:=(y.lt d e'.symm).1;omega)).trans (Below.heap_alloc _ _ _ V)
       have aw:Bk (w8.setCell ⟨w.heap.size + 1 + 1 + 1,0,none⟩ (.slice A9 (dn.length + 1) c9)) q5 _ _:=(zbt (av.alloc _) (y.alloc _) yac H).other (a:=⟨w.heap.size + 1 + 1 + 1,0,none⟩) (by show q5≠w.heap.size + 1 + 1 + 1;omega) _;have ax:Below w.heap.size w (w8.setCell ⟨w.heap.size + 1 + 1 + 1,0,none⟩ (.slice A9 (dn.length + 1) c9)):=(zaf (P.alloc P.size _) H (y.alloc _) (size_alloc P.size) yab).setCell (by show w.heap.size≤w.heap.size + 1 + 1 + 1;omega) _;refine ⟨⟨j + 1,by go_num,by omega,?_,aw⟩,by simp [intOf];omega⟩;rw [aq.out];refine ⟨⟨_,by simpa using k8.set 0 (.slice A9 (dn.length + 1) c9),?_⟩,ab.same (o8 _ ab.lt yab yab),(o8 _ I.lt yab yab).trans I,ax⟩;rw [yam,zob];have e9:zdM [(t,x)]=x.cells:=by simp [zdM]
       rw [e9];exact own_set G (by show w.heap.size + 1 + 1 + 1<_;omega) _
     · obtain rfl:j=t.rels.length:=by omega
       have ao:¬(((t.rels.length:Nat):Int)<(t.rels.length:Int)):=by omega
       rw [yaA,←a1] at z;go_wp2_with fail
       exact ⟨⟨i + 1,by go_num,by omega,z⟩,by simp [intOf];omega⟩
  · obtain rfl:i=l.length:=by omega
    have ak:¬(((l.length:Nat):Int)<(l.length:Int)):=by omega
    rw [yaA] at B;obtain ⟨v,n,u⟩:=B.one;obtain ⟨Q,T,rfl,au⟩:=Rd.own u;have z0:=n.cell 0;have z1:=n.cell 1;have r0:=B.res.cell 0;have r1:=B.res.cell 1;have bb:=B.res.fz 0;have bc:=B.res.fz 1;go_wp2_with fail
    have hw:=(B.res.set 0 (.slice Q (relsA l).length T)).set 1 (.map (some (w.heap.size + 1 + 1)));obtain ⟨y0,y1⟩:=Bk.c2 hw;refine bodyPost_ret (v:=.agg #[.slice Q (relsA l).length T,.map (some (w.heap.size + 1 + 1))]) (by simp [results,Tryz.results121,go_sem,y0,y1];try rfl) rfl ?_;refine ⟨⟨Q,T,w.heap.size + 1 + 1,rfl,by omega,zax (own_set (own_set u (by show w.heap.size + 1<_;omega) _) (by show w.heap.size + 1<_;omega) _) yab,(B.map.same ?_)⟩,(B.below.setCell (by show w.heap.size≤w.heap.size + 1;omega) _).setCell (by show w.heap.size≤w.heap.size + 1;omega) _⟩;exact (Below.heap_setCell _ _ _ _ (by show w.heap.size + 1 + 1≠w.heap.size + 1;omega)).trans (Below.heap_setCell _ _ _ _ (by show w.heap.size + 1 + 1≠w.heap.size + 1;omega))
end
section
open Go.Shelf Go.RowKit Go.Lib Go.Sort
open Go.RowKit Go.Shelf Go.Maps Go.Sort
variable {w w':World} {g cap:Nat} {ys:List Ed} {d:Array Ed}
structure Far (w w':World):Prop where
 out:∃q os,w'=grow (w.drewN q) os
theorem Far.refl (w:World):Far w w:=⟨0,#[],by rw [grow_empty];rfl⟩
theorem Far.drew (h:Far w w'):Far w w'.drew:=by
 obtain ⟨q,os,rfl⟩:=h;exact ⟨q + 1,os,rfl⟩
theorem Far.alloc (h:Far w w') (o:Obj):Far w (w'.alloc o):=by
 obtain ⟨q,os,rfl⟩:=h;exact ⟨q,os ++ #[o],by rw [alloc_eq_grow,grow_grow]⟩
theorem Far.cell (h:Far w w') {a:Addr} {v:Value} (hc:w.cell? a=some v):w'.cell? a=some v:=by
 obtain ⟨q,os,rfl⟩:=h;rw [cell?_grow _ _ _ (by exact World.block_lt_of_cell? w a hc)];exact hc
theorem zqR (e:Ed) (w:World):Calls Tryz.prog 171 #[.agg (za0 e).toArray] w fun r w'=>r = .returned (.int .i64 (if e.2.2 then 1 else 0))∧w'=w.alloc (.cells (za0 e).toArray 207):=by
 obtain ⟨x,y,b⟩:=e;simp only [za0];go_enter Tryz.func171,Tryz.ntmps171
 cases b
 · go_wp2
   go_ret
   exact ⟨rfl,rfl⟩
 · go_wp2
   go_ret
   exact ⟨rfl,rfl⟩
theorem zlE {α:Type} {l:List α} {i:Nat} {x:α} (h:l[i]? = some x):i<l.length:=(yao.1 h).1
def orI:List Int→Int
 | []=>0
 | x::l=>if x=0 then orI l else x
theorem zmQ {l:List Int} {j:Nat} (h:∀i,i<j→l[i]? = some 0):orI l=orI (l.drop j):=by
 induction j with
 | zero=>rfl
 | succ j ih =>
  rw [ih fun i hi=>h i (by omega)];have b:=h j yab;rw [ya3 (zlE b),orI,yan];exact yaX ((yal _).symm.trans b)
theorem or_is {b n c:Nat} {l:List Int} (hn:l.length=n) (hb:n≤1000000) (h:∀i x,l[i]? = some x→w.cell? ⟨b,i,none⟩=some (.int .i64 x)) :
 Calls Tryz.prog 145 #[.slice (some ⟨b,0,none⟩) n c] w fun e w'=>e = .returned (.int .i64 (orI l))∧w'=w:=by
 go_enter Tryz.func145,Tryz.ntmps145
 go_wp2_with fail
 go_loopw [8] (fun k q=>∃j:Nat,k = .int .i64 j∧j≤n∧q=w∧∀i,i<j→l[i]? = some 0) (fun k _=>n-(intOf k).toNat)
 case atStart=>exact ⟨0,rfl,yap _,rfl,fun i hi=>by omega⟩
 case round =>
  obtain ⟨j,rfl,y,rfl,f⟩:=hrel;by_cases s:j<n
  · have g:(j:Int)<(n:Int):=by omega
    obtain ⟨x,d⟩:∃x,l[j]? = some x:=⟨_,yal yab⟩;have z:=h j x d;by_cases m:x=0
    · subst m;have o:∀i,i<j + 1→l[i]? = some 0:=fun i hi=>by
       by_cases e:i=j
       · rw [e,d]
       · exact f i yab
      clear f d h;go_wp2_with fail
      exact ⟨⟨j + 1,by go_num,by omega,trivial,o⟩,by simp [intOf];omega⟩
    · have u:(x != 0)=true:=by simpa using m
      have p:Hid (orI l=x):=Lib.hid (by
       rw [zmQ f,ya3 (zlE d),orI];have e:l[j]'(zlE d)=x:=yaX ((yal _).symm.trans d);rw [yak (by rw [e];exact m),e])
      clear f d h;go_wp2_with fail
      go_ret
      rw [p.out];exact ⟨rfl,rfl⟩
  · obtain rfl:j=n:=by omega
    have g:¬(((j:Nat):Int)<(j:Int)):=by omega
    have p:Hid (orI l=0):=Lib.hid (by rw [zmQ f,ycz (by omega)];rfl);clear f h;go_wp2_with fail
    go_ret
    rw [p.out];exact ⟨rfl,rfl⟩
def riI (e:Ed):Int:=if e.2.2 then 1 else 0
def cfE (a b:Ed):Int:=orI [compareInt a.1 b.1,compareInt a.2.1 b.2.1,compareInt (riI a) (riI b)]
theorem zgF (a b:Ed):cfE a b<0↔a.1<b.1∨(a.1=b.1∧(a.2.1<b.2.1∨(a.2.1=b.2.1∧riI a<riI b))):=by
 have d:∀x y:Int,compareInt x y=0↔x=y:=fun x y=>by unfold compareInt;split <;> first | omega | (split <;> omega)
 have f:∀x y:Int,compareInt x y<0↔x<y:=fun x y=>by unfold compareInt;split <;> first | omega | (split <;> omega)
 simp only [cfE,orI];by_cases g:a.1=b.1
 · rw [yan ((d _ _).2 g)];by_cases j:a.2.1=b.2.1
   · rw [yan ((d _ _).2 j)];by_cases k:riI a=riI b
     · rw [yan ((d _ _).2 k)];omega
     · rw [yak fun e=>k ((d _ _).1 e),f];omega
   · rw [yak fun e=>j ((d _ _).1 e),f];omega
 · rw [yak fun e=>g ((d _ _).1 e),f];omega
theorem swoE:SWO (ltOf cfE):=by
 refine ⟨fun x=>?_,fun x y z b d=>?_,fun x y z b d=>?_⟩
 · simp only [ltOf,ybD,zgF];omega
 · simp only [ltOf,yaP,zgF] at *
   omega
 · simp only [ltOf,ybD,zgF] at *
   omega
theorem compare_any (a b:Ed) (w:World):Calls Tryz.prog 126 #[.agg (za0 a).toArray,.agg (za0 b).toArray] w fun e w'=>e = .returned (.int .i64 (cfE a b))∧Far w w':=by
 have q:=zqR a;have s:=zqR b;obtain ⟨d,f,a3⟩:=a;obtain ⟨g,j,k⟩:=b;simp only [za0] at *
 obtain ⟨M,m⟩:∃r:Int,(if a3 then 1 else 0)=r:=⟨_,rfl⟩;obtain ⟨N,n⟩:∃r:Int,(if k then 1 else 0)=r:=⟨_,rfl⟩;have B:Hid (cfE (d,f,a3) (g,j,k)=orI [compareInt d g,compareInt f j,compareInt M N]):=Lib.hid (by subst m n;rfl);simp only [m] at q;simp only [n] at s;clear m n;have o:=Bk.new w #[.int .i64 d,.int .i64 f,.bool a3] 207;replace o:=o.alloc (.cells #[.int .i64 g,.int .i64 j,.bool k] 207);have p:=Bk.new (w.alloc (.cells #[.int .i64 d,.int .i64 f,.bool a3] 207)) #[.int .i64 g,.int .i64 j,.bool k] 207;have L:Far w ((w.alloc (.cells #[.int .i64 d,.int .i64 f,.bool a3] 207)).alloc (.cells #[.int .i64 g,.int .i64 j,.bool k] 207)):=((Far.refl w).alloc _).alloc _;simp only [World.size_alloc] at p;have O:=fun x y=>AnyG.cmp_Compare_int laysCmp x y;go_enter Tryz.func126,Tryz.ntmps126
 go_upto_region 1 with (fail)
 obtain ⟨w1,A⟩:∃w1,(w.alloc (.cells #[.int .i64 d,.int .i64 f,.bool a3] 207)).alloc (.cells #[.int .i64 g,.int .i64 j,.bool k] 207)=w1:=⟨_,rfl⟩;rw [A] at o p L ⊢;clear A;have C:=o.cell 0;have D:=o.cell 1;have E:=o.cell 2;have F:=p.cell 0;have G:=p.cell 1;have H:=p.cell 2;simp only [ybU,ybq,ybe] at C D E F G H;have hS:∀W,Far w1 W→(W.cell? ⟨w.heap.size,0,none⟩=some (.int .i64 d)∧W.cell? ⟨w.heap.size,1,none⟩=some (.int .i64 f)∧W.cell? ⟨w.heap.size,2,none⟩=some (.bool a3)∧W.cell? ⟨w.heap.size + 1,0,none⟩=some (.int .i64 g)∧W.cell? ⟨w.heap.size + 1,1,none⟩=some (.int .i64 j)∧W.cell? ⟨w.heap.size + 1,2,none⟩=some (.bool k)∧Far w1 W) :=
  fun W h=>⟨h.cell C,h.cell D,h.cell E,h.cell F,h.cell G,h.cell H,h⟩
 have I:∀(W:World) (J:Nat) (x y z:Int),J=W.heap.size→Calls Tryz.prog 145 #[.slice (some ⟨J,0,none⟩) 3 3] (W.alloc (.cells #[.int .i64 x,.int .i64 y,.int .i64 z] 3)).drew fun e w'=>e = .returned (.int .i64 (orI [x,y,z]))∧w'=(W.alloc (.cells #[.int .i64 x,.int .i64 y,.int .i64 z] 3)).drew:=fun W J x y z K=>K ▸
  or_is rfl yab fun i u hi=>by
   show (W.alloc (.cells #[.int .i64 x,.int .i64 y,.int .i64 z] 3)).cell? _=_;rw [(Bk.new W #[.int .i64 x,.int .i64 y,.int .i64 z] 3).cell i];rcases i with _ | _ | _ | i <;> simp at hi ⊢ <;> exact hi
 clear o p C D E F G H;go_region_held3 (fun w'=>w'.cell? ⟨w.heap.size,0,none⟩=some (.int .i64 d)∧w'.cell? ⟨w.heap.size,1,none⟩=some (.int .i64 f)∧w'.cell? ⟨w.heap.size,2,none⟩=some (.bool a3)∧w'.cell? ⟨w.heap.size + 1,0,none⟩=some (.int .i64 g)∧w'.cell? ⟨w.heap.size + 1,1,none⟩=some (.int .i64 j)∧w'.cell? ⟨w.heap.size + 1,2,none⟩=some (.bool k)∧Far w1 w')
  (first | assumption | exact hS _ (Far.refl _).drew | exact hS _ ((Far.refl _).drew.alloc _) | exact hS _ (((Far.refl _).drew.alloc _).alloc _) | exact hS _ ((((Far.refl _).drew.alloc _).alloc _).alloc _) | fail)
  (first | (go_at_call 146;refine (O _ _ _).mono ?_;rintro e w' ⟨rfl,rfl⟩) | (go_at_call 171;refine (q _).mono ?_;rintro e w' ⟨rfl,rfl⟩) | (go_at_call 171;refine (s _).mono ?_;rintro e w' ⟨rfl,rfl⟩) | (go_at_call 145;refine (I _ _ _ _ _ yaf).mono ?_;rintro e w' ⟨rfl,rfl⟩) | fail)
 go_wp2_with fail
 go_ret
 rw [B.out];exact ⟨rfl,(((L.alloc _).alloc _).alloc _).drew⟩
theorem znz (m:Nat) (hm:6≤m) {H:Type} {R:Value→Option (DataW H × List MemPlace)} {D0:DataW H} {L:List Ed} (hK:KeysAre D0 L) (hL:L.length≤1000000) (Bm b nn:Nat) (w:World)
 (hmm:w.cell? ⟨Bm,0,none⟩=some (.map (some b))) (hown:w.ownsMap Tryz.prog 207 R b nn D0) :
 CallsIn Fence.wide m Tryz.prog 175 #[.func (.func 177) #[] #[.pointer (some ⟨Bm,0,none⟩)]] w fun e w' =>
  ∃v ys,e = .returned v∧ys.Perm L∧w'.ownsRow w.heap.size 207 3 v ys.length (zay ys)∧Below w.heap.size w w':=by
 refine callsIn_of_wp Tryz.func175 rfl trivial ?_ rfl;simp only [Tryz.ntmps175,ybv,yaq,yaI,Nat.reduceAdd,Nat.reduceSub,ybL,ybO,ybX,ybR,yba,ybs];have g:1≤m:=by omega
 gi_wp2
 refine ⟨trivial,(appendSeq_in (m-1) yab hK hL Bm b nn _ hmm hown).mono ?_⟩;rintro e w' ⟨v,ys,rfl,f,d,hb⟩;gi_wp2
 go_ret
 exact ⟨v,ys,rfl,f,d,hb⟩
theorem zmv {t:Nat} (h:t<ys.length * 3):(zay ys)[t]? = some (flatK za0 3 ys.toArray)[t]!:=by
 have hi:t / 3<ys.length:=by omega
 have e:=za6 za0 (sz:=3) (fun _=>rfl) (l:=ys) (i:=t / 3) (k:=t % 3) (a:=ys[t / 3]) (yal hi) yab;rw [show t / 3 * 3 + t % 3=t by omega] at e;rw [get_flatK _ _ _ _ (by simpa using h)];show (ys.flatMap za0)[t]? = _;rw [e];have b:ys.toArray[t / 3]! = ys[t / 3]:=by simp [hi]
 rw [b,yal (by show t % 3<3;omega),getElem!_pos _ _ (by show t % 3<3;omega)]
theorem zpp {B:Nat} (h:w.ownsRow B 207 3 (.slice (some ⟨g,0,none⟩) ys.length cap) ys.length (zay ys)):HoldsK za0 3 w g 0 ys.toArray:=fun j b=>by
 rw [size_flatK,ybv] at b;rcases h.2 with ⟨e,_⟩ | ⟨n,d,k,e,_,f,_,_,_,m⟩
 · cases e
 injection e with e _ _
 injection e with e
 injection e with e _ _
 subst e;refine ⟨?_,Bk.fz f _⟩;rw [yaG,Bk.cell f j,←ycf,id_eq,←zmv b,←m,List.getElem?_take_of_lt b]
theorem rd_holds (h:HoldsK za0 3 w g 0 d) (hg:g<w.heap.size) (hc:d.size≤cap) (hm:cap≤maxLen):Rd w w.heap.size 3 (some ⟨g,0,none⟩) d.size cap (zay d.toList):=by
 refine ⟨by rw [zfv];simp,hc,hm,fun e=>(by cases e),fun _=>⟨g,0,rfl,hg,fun j u f=>?_⟩⟩;have b:j<d.size * 3:=by
  have:=(yao.1 f).1;rwa [zfv] at this
 rw [zmv (by simpa using b)] at f;have:=(h j (by rw [size_flatK];exact b)).1;rw [this];simpa using f
theorem znL {n:Nat} {os:Array Obj}:w.grownBy (sortWorldK za0 3 w g 0 n d os) (some g):=by
 refine ⟨rfl,rfl,rfl,size_sortWorldK_c za0 3 w g 0 n d os,fun k hk b=>?_⟩;have:g≠k:=fun e=>b (by rw [e]);rw [sortWorldK,heap_grow_old _ _ (by simpa [putRowK,putRow,mapBlock,Sort.ahead] using hk)];simp [putRowK,putRow,mapBlock,Sort.ahead,ybx,this]
def zhR (l:List Ed):Prop:=l.Pairwise fun a b=>cfE a b<0
theorem cfE_ne {a b:Ed} (h:a≠b) (h2:¬cfE b a<0):cfE a b<0:=by
 rw [zgF] at *
 have k:¬(a.1=b.1∧a.2.1=b.2.1∧riI a=riI b):=fun ⟨f,g,d⟩=>h (by
  refine yb5 f (yb5 g ?_);unfold riI at d;cases j:a.2.2 <;> cases hb:b.2.2 <;> simp [j,hb] at d ⊢)
 omega
theorem zqS (hs:SortedIn (ltOf cfE) 0 d.size d) (hn:d.toList.Nodup):zhR d.toList:=by
 refine ybF.2 fun i j hi f b=>?_;simp only [ybm] at hi f;have:=hs i j (yap _) b f;simp only [ltOf,ybD] at this;rw [getElem!_pos d i hi,getElem!_pos d j f] at this;simp only [Array.getElem_toList];refine cfE_ne (fun e=>?_) this;exact absurd (ybF.1 hn i j (by simpa using hi) (by simpa using f) b) (by simpa using e)
theorem aggE (w:World):(isAgg 207).run Tryz.prog w = .ok true w:=Tryz.isAgg207 w
theorem sizeE (w:World):(Go.sizeOf 207).run Tryz.prog w = .ok 3 w:=Tryz.sizeOf207 w
theorem sort_any {B:Nat} (h:w.ownsRow B 207 3 (.slice (some ⟨g,0,none⟩) ys.length cap) ys.length (zay ys)) (hn:ys.Nodup) (h0:0<ys.length) (hl:ys.length≤1000000) :
 Calls Tryz.prog 176 #[.slice (some ⟨g,0,none⟩) ys.length cap,.func (.func 126) #[] #[]] w fun e w'=>e = .returned (.tuple #[])∧∃zs:List Ed,zs.Perm ys∧zhR zs ∧
  Rd w' w'.heap.size 3 (some ⟨g,0,none⟩) ys.length cap (zay zs)∧w.grownBy w' (some g):=by
 have k:=(h.lt g rfl).2;have o:=zpp h;have f:ys.length≤cap∧cap≤maxLen:=by
  obtain ⟨A,c,e,p⟩:=Rd.own h;injection e with _ _ e
  subst e;exact ⟨p.cap,p.capm⟩
 have s:CmpLays Tryz.prog 126 #[] za0 3 cfE g 0 ys.toArray.size w:=fun m os E _ x y=>(compare_any x y _).mono fun _ _ ⟨u,z⟩=>⟨u,z.out⟩;have:=AnyQ.slices_SortFunc zmK 3 aggE sizeE za0 (fun _=>rfl) zgK cfE swoE 126 #[] g 0 cap ys.toArray w (enters_of Tryz.func126 yaa rfl) s o k yag;rw [ybv] at this;refine this.mono ?_;rintro e w' ⟨rfl,d,n,os,q,C,rfl⟩;have b:d.size=ys.length:=by simpa using q.1
 have j:d.toList.Perm ys:=by
  have:=q.2.2;have e:d.toList.take ys.length=d.toList:=ybi (by simp [b]);simpa [e,b] using this
 refine ⟨rfl,d.toList,j,zqS (by rw [b];exact C) (j.nodup_iff.2 hn),?_,znL⟩;have D:=holdsK_sortWorldK_c za0 3 w g 0 ys.toArray d n os o k (by simpa using b);have:=rd_holds (cap:=cap) D (lt_sortWorldK za0 3 w g 0 n d os k) yab f.2;rwa [b] at this
theorem zhK (p:Option Addr) (cap:Nat) (fv:Value) (w:World):Calls Tryz.prog 249 #[.slice p 0 cap,.int .i64 0,.int .i64 0,fv] w fun e w'=>e = .returned (.tuple #[])∧w'=w:=by
 go_enter Tryz.func249,Tryz.ntmps249
 go_wp2_with fail
 refine wp_loop_rounds 1 ?_;rw [rounds_succ];go_wp2_with fail
 go_end0
 exact ⟨rfl,rfl⟩
theorem pdq_none (p:Option Addr) (cap:Nat) (lim:Int) (fv:Value) (w:World):Calls Tryz.prog 226 #[.slice p 0 cap,.int .i64 0,.int .i64 0,.int .i64 lim,fv] w fun e w'=>e = .returned (.tuple #[])∧w'=w:=by
 have hi:=fun W=>zhK p cap fv W;go_enter Tryz.func226,Tryz.ntmps226
 go_wp2_with fail
 refine wp_loop_rounds 1 ?_;rw [rounds_succ];go_wp2_with (go_at_call 249;refine (hi _).mono ?_;rintro e w' ⟨rfl,rfl⟩)
 (try simp only [Exit.inBlock,Exit.then])
 refine bodyPost_ret (results_none rfl _ _ _) rfl ?_;exact ⟨rfl,rfl⟩
theorem zq0 (p:Option Addr) (cap:Nat) (fv:Value) (w:World):Calls Tryz.prog 176 #[.slice p 0 cap,fv] w fun e w'=>e = .returned (.tuple #[])∧w'=w:=by
 have d:=fun b W=>pdq_none p cap b fv W;have f:∀W,Calls Tryz.prog 144 #[.int .u64 0] W fun e w'=>e = .returned (.int .i64 (Lib.bitLen 0:Nat))∧w'=W:=fun W=>by
  have h:=Any.bits_Len (SlLaysF0.n15.bits (P:=Tryz.prog) (ρ:=zfW) { zmK with }) 0 W yab yab;exact h
 go_enter Tryz.func176,Tryz.ntmps176
 go_wp2_with (first | (go_at_call 144;refine (f _).mono ?_;rintro e w' ⟨rfl,rfl⟩) | (go_at_call 226;refine (d _ _).mono ?_;rintro e w' ⟨rfl,rfl⟩))
 go_end0
 exact ⟨rfl,rfl⟩
theorem sortedFunc_any {H:Type} {R:Value→Option (DataW H × List MemPlace)} {D0:DataW H} {L:List Ed} (hK:KeysAre D0 L) (hL:L.length≤1000000) (Bm b nn:Nat) (w:World)
 (hmm:w.cell? ⟨Bm,0,none⟩=some (.map (some b))) (hown:w.ownsMap Tryz.prog 207 R b nn D0) :
 Calls Tryz.prog 124 #[.func (.func 177) #[] #[.pointer (some ⟨Bm,0,none⟩)],.func (.func 126) #[] #[]] w fun e w' =>
  ∃A c zs,e = .returned (.slice A L.length c)∧zs.Perm L∧zhR zs∧Rd w' w'.heap.size 3 A L.length c (zay zs)∧Below w.heap.size w w':=by
 have u:=callsIn_wide.1 (znz 6 (yaj _) hK hL Bm b nn w hmm hown);go_enter Tryz.func124,Tryz.ntmps124
 go_wp2_with (go_at_call 175;refine u.mono ?_;rintro e D ⟨v,m,rfl,f,d,hb⟩)
 have q:=f.length_eq;rcases ybh m.length with j | j
 · obtain ⟨A,c,rfl,n⟩:=Rd.own d;obtain rfl:m=[]:=yaY j;obtain rfl:L=[]:=f.nil_eq.symm;have n:=Lib.hid n;clear d f q j;go_wp2_with (go_at_call 176;refine (zq0 _ _ _ _).mono ?_;rintro e w' ⟨rfl,o⟩)
   subst o;go_ret
   exact ⟨A,c,[],rfl,yco _,List.Pairwise.nil,n.out,hb⟩
 · have x:∃g c,v = .slice (some ⟨g,0,none⟩) m.length c:=by
    rcases d.2 with ⟨_,s⟩ | ⟨g,cap,_,s,_⟩
    · omega
    · exact ⟨g,cap,s⟩
   obtain ⟨g,c,rfl⟩:=x;have ks:=sort_any d (f.nodup_iff.2 hK.nodup) j yab;have y:=(d.lt g rfl).1;go_wp2_with (go_at_call 176;refine ks.mono ?_;rintro e E ⟨rfl,zs,z,B,C,p⟩)
   go_ret
   rw [←q];exact ⟨_,_,zs,rfl,z.trans f,B,C,hb.grown p hb.size fun k e=>by cases e;exact y⟩
end
section
theorem zqC (s:ByteArray):∀k,plc s k≤4 * k
 | 0=>yaj _
 | k + 1=>by
  have ih:=zqC s k;by_cases h:plc s k<s.size
  · rw [zaF h];have:=wd_le4 h;omega
  · rw [ze6 h];omega
theorem zkr {x:ByteArray} (h:nameS x=true):x.size≤96:=by
 have d:=(zbr.1 h).2.1;have b:=zqC x (cnt x);rw [(zcf x).1] at b;omega
end
end Go.Proofs.YtmblgnddgmfkhaaGreat
