import Derived.Test.YtmblgnddgmfkhaaGreatK07
set_option maxRecDepth 100000
set_option maxHeartbeats 4000000
namespace Go.Proofs.YtmblgnddgmfkhaaGreat
section
open Go.RowKit
variable {B n:Nat} {w':World} {xs ys:List Value} {v:Value}
def RelC (w:World) (B:Nat) (ys:List Value) (x:RelP):Prop:=∃vs vo,ys=[.string x.name,.string x.view,.string x.edit,.string x.check,vs,vo]∧zgw B w vs x.subs∧zjj B w vo x.ops
def RelsC (w:World) (B:Nat):List RelP→List Value→Prop
 | [],xs=>xs=[]
 | x::r,xs=>∃ys zs,xs=ys ++ zs∧RelC w B ys x∧RelsC w B r zs
def Keeps (w w':World) (B:Nat):Prop:=(∀v n xs,w.ownsRow B 246 2 v n xs→w'.ownsRow B 246 2 v n xs)∧(∀v n xs,w.ownsRow B 222 3 v n xs→w'.ownsRow B 222 3 v n xs)
theorem RelC.keep {w:World} {x:RelP} (h:RelC w B ys x) (hk:Keeps w w' B):RelC w' B ys x:=by
 obtain ⟨b,f,e,g,j⟩:=h;exact ⟨b,f,e,hk.1 _ _ _ g,hk.2 _ _ _ j⟩
theorem RelsC.keep {w:World} (hk:Keeps w w' B):∀{l:List RelP} {xs:List Value},RelsC w B l xs→RelsC w' B l xs
 | [],_,h=>h
 | _::_,_,h=>by
  obtain ⟨b,f,e,g,j⟩:=h;exact ⟨b,f,e,g.keep hk,RelsC.keep hk j⟩
theorem RelsC.snoc {w:World} {y:RelP} {ws:List Value} (hy:RelC w B ws y):∀{l:List RelP} {xs:List Value},RelsC w B l xs→RelsC w B (l ++ [y]) (xs ++ ws)
 | [],xs,h=>by
  have:xs=[]:=h;subst this;exact ⟨ws,[],by simp,hy,rfl⟩
 | x::r,xs,h=>by
  obtain ⟨b,f,e,g,j⟩:=h;exact ⟨b,f ++ ws,by rw [e,yaD],g,RelsC.snoc hy j⟩
def VRels (B:Nat) (w:World) (v:Value) (l:List RelP):Prop:=∃xs,w.ownsRow B 203 6 v l.length xs∧RelsC w B l xs
def VTyp (B:Nat) (w:World) (v:Value) (t:TypP):Prop:=∃vr,v = .agg #[.string t.name,vr]∧VRels B w vr t.rels
theorem zch {w:World} {B2:Nat} {e e2:TypeId} {s s2 n2:Nat} {u:Value} (h:w.ownsRow B e s v n xs) (hu:w.ownsRow B2 e2 s2 u n2 ys) (hne:e≠e2) (hg:w.grownBy w' u.ownBlock):w'.ownsRow B e s v n xs:=by
 refine zaH h fun k hk=>hg.block k (h.lt k hk).2 fun f=>?_;rcases h.2 with ⟨rfl,_⟩ | ⟨g,cap,o,rfl,_,q,_⟩
 · simp [Value.ownBlock] at hk
 rcases hu.2 with ⟨rfl,_⟩ | ⟨y,j,m,rfl,_,b,_⟩
 · simp [Value.ownBlock] at f
 simp only [Value.ownBlock,yaT] at hk f;subst hk;subst f;rw [q] at b;injection b with b
 injection b with _ x _
 exact hne x
theorem zgN {g:Nat} {w:World} (hk:Kp g w.heap.size w w') (hg:g<B):Keeps w w' B:=⟨fun _ _ _ h=>zcr h hk hg,fun _ _ _ h=>zcr h hk hg⟩
theorem zfs {w:World} {a:Addr} (ha:a.block<B) (u:Value):Keeps w (w.setCell a u) B:=⟨fun _ _ _ h=>own_set h ha u,fun _ _ _ h=>own_set h ha u⟩
theorem zhs {w:World} {B2:Nat} {e2:TypeId} {s2 n2:Nat} {u:Value} {o:Obj} (hu:w.ownsRow B2 e2 s2 u n2 ys) (h1:246≠e2) (h2:222≠e2) (hg:(w.alloc o).grownBy w' u.ownBlock):Keeps w w' B :=
 ⟨fun _ _ _ h=>zch (World.ownsRow.alloc h o) (World.ownsRow.alloc hu o) h1 hg,fun _ _ _ h=>zch (World.ownsRow.alloc h o) (World.ownsRow.alloc hu o) h2 hg⟩
theorem Keeps.base {w:World} {B':Nat} (h:B'≤B) {l:List RelP}:RelsC w B l xs→RelsC w B' l xs:=by
 intro b;induction l generalizing xs with
 | nil=>exact b
 | cons x r ih =>
  obtain ⟨f,g,e,⟨j,k,m,n,o⟩,q⟩:=b;exact ⟨f,g,e,⟨j,k,m,zaA n h,zaA o h⟩,ih q⟩
theorem Kp.drew {g:Nat} {w:World} (h:Kp g B w w'):Kp g B w w'.drew:=h.trans ⟨rfl,rfl,rfl,yaj _,fun _ _ _=>rfl⟩
theorem own_drew {w:World} {e:TypeId} {s:Nat} (h:w.ownsRow B e s v n xs):w.drew.ownsRow B e s v n xs:=zaH h fun _ _=>rfl
theorem ziV (w:World) (B:Nat):Keeps w w.drew B:=⟨fun _ _ _ h=>own_drew h,fun _ _ _ h=>own_drew h⟩
theorem zll (a b c d:ByteArray) (p q:Option Addr) (m n r s:Nat):∀u ∈ [Value.string a,.string b,.string c,.string d,.slice p m r,.slice q n s],u.oneCell'=true:=by
 intro u f;simp only [yaw,ya1,ybA] at f;rcases f with rfl | rfl | rfl | rfl | rfl | rfl <;> rfl
theorem Bk.grown {w:World} {b base:Nat} {cs:Array Value} {t:TypeId} {e:TypeId} {size:Nat} {o:Obj} (h:Bk w b cs t) (hg:(w.alloc o).grownBy w' v.ownBlock) (hown:w.ownsRow base e size v n xs) (hle:b<base):Bk w' b cs t:=by
 have:=h.lt;refine (hg.block b yag fun e=>?_).trans (h.alloc o);have:=(hown.lt b e.symm).1;omega
theorem zni:(Tryz.prog.info? 203).map (fun i=>(i.zero,i.size,i.bytes))=some (some (.agg #[.string .empty,.string .empty,.string .empty,.string .empty,.slice none 0 0,.slice none 0 0]),6,112):=by kernel_rfl
theorem info_typ:(Tryz.prog.info? 199).map (fun i=>(i.zero,i.size,i.bytes))=some (some (.agg #[.string .empty,.slice none 0 0]),2,40):=by kernel_rfl
theorem ziF (w:World) (a b c d e f:Value) (t:TypeId):∀j u,[a,b,c,d,e,f][j]? = some u→(w.alloc (.cells #[a,b,c,d,e,f] t)).cell? ((⟨w.heap.size,0,none⟩:Addr).add j)=some u:=by
 intro j u g;rw [Addr.add_lit,cell_of_row _ _ _ _ _ _ (heap_alloc_new w _),yaI];simpa using g
def zj2 (acc:List RelP) (l:List Tk):Rs (List RelP):=zaL (zmB acc l) fun rs r=>zaL (zaQ (sg 125) r) fun _ r=>.ok (rs,r)
theorem znk {s:ByteArray} {l:List Tk} (h:isT s l=true):(hdT l).2.1=s:=(yaL h).1
theorem isT_two {s s':ByteArray} {l:List Tk} (h:isT s l=true) (hne:s≠s'):isT s' l=false:=by
 cases b:isT s' l with
 | false=>rfl
 | true=>exact absurd ((znk h).symm.trans (znk b)) hne
theorem zry {acc:List RelP} {l:List Tk} (h:isT (sg 125) l=true):zj2 acc l = .ok (acc,l.tail):=by
 unfold zj2;rw [zeI,isT_two h yac,yak yac,zcn];unfold zaQ;rw [yan h];rfl
theorem zo2 {acc:List RelP} {l:List Tk} (h:isT (sg 125) l=false):zj2 acc l=zaL (relR l) fun x r=>zj2 (acc ++ [x]) r:=by
 rw [zrw];unfold zj2;rw [zeI];cases b:isT znV l with
 | true =>
  rw [yan rfl];unfold zaQ;rw [b,yan rfl,zcn,zcF]
 | false =>
  rw [yak yac,zcn];unfold zaQ;rw [h,b,yak (by decide)];rfl
theorem relR_len {l r:List Tk} {x:RelP} (h:relR l = .ok (x,r)):r.length<l.length:=by
 rw [zrw] at h;obtain ⟨a,m,b,g⟩:=zaf h;have:=zaq zcj b;have:=(zcS (f:=m.length + 1) (l:=m) yab).2 _ _ g;omega
def typT (l:List Tk):Rs TypP:=zaL (zaQ zfa l) fun _ r=>zaL (zaY r) fun n r=>zaL (zaQ (sg 123) r) fun _ r=>zaL (zj2 [] r) fun rs r=>.ok (⟨n,rs⟩,r)
section
variable {w:World} {g:Nat} {l:List Tk}
theorem typ_any (h:Rdr w g l):Calls Tryz.prog 216 #[.pointer (some ⟨g,0,none⟩)] w (Post (VTyp w.heap.size) w.heap.size w g (typT l)):=by
 suffices HH:∀R,To (Post (VTyp w.heap.size) w.heap.size w g (typT l)) R→Calls Tryz.prog 216 #[.pointer (some ⟨g,0,none⟩)] w R from HH _ fun _ _ h=>h
 intro R s;have hg:=h.size;unfold typT at s;go_enter Tryz.func216,Tryz.ntmps216
 go_wp2_with fail
 have b:=Bk.new w #[.string ⟨#[]⟩,.slice none 0 0] 199;have q:=h.alloc (.cells #[.string ⟨#[]⟩,.slice none 0 0] 199);have m:Kp g w.heap.size w _:=(Kp.refl g _ w).alloc (yaj _) (.cells #[.string ⟨#[]⟩,.slice none 0 0] 199);clear h;generalize w.alloc (.cells #[.string ⟨#[]⟩,.slice none 0 0] 199)=W at *
 generalize w.heap.size=B at *
 refine (must_any q zmX).mono ?_;intro e W1 I;obtain ⟨hk,T⟩:=I.cases_;have z:=ya5 b.lt;replace m:=m.trans (hk.more z);replace b:=b.kp hk yab;clear I hk q z;rcases T with ⟨c,p,C,rfl⟩ | ⟨_,l1,v,C,rfl,rfl,q⟩
 · go_wp2_with fail
   exact ⟨rfl,s.bad C m⟩
 replace s:=s.bind C;clear C;go_wp2_with fail
 refine (rname_any q).mono ?_;intro e W2 I;obtain ⟨hk,T⟩:=I.cases_;have z:=ya5 b.lt;replace m:=m.trans (hk.more z);replace b:=b.kp hk yab;clear I hk q z;rcases T with ⟨c,p,C,rfl⟩ | ⟨n,l2,v,C,rfl,rfl,q⟩
 · go_wp2_with fail
   exact ⟨rfl,s.bad C m⟩
 replace s:=s.bind C;clear C;go_wp2_with fail
 have ae:=b.lt;have z:=ya5 ae;have j:=Bk.new W2 #[.string n,.slice none 0 0] 199;replace b:=b.alloc (.cells #[.string n,.slice none 0 0] 199);replace q:=q.alloc (.cells #[.string n,.slice none 0 0] 199);replace m:=m.alloc z (.cells #[.string n,.slice none 0 0] 199);clear z;generalize W2.alloc (.cells #[.string n,.slice none 0 0] 199)=W3 at *
 generalize W2.heap.size=BT at *
 refine (must_any q (zc8 123 yac)).mono ?_;intro e W4 I;obtain ⟨hk,T⟩:=I.cases_;have z:=ya5 b.lt;replace m:=m.trans (hk.more z);replace b:=b.kp hk yab;replace j:=j.kp hk yab;clear I hk q z;rcases T with ⟨c,p,C,rfl⟩ | ⟨_,l3,v,C,rfl,rfl,q⟩
 · go_wp2_with fail
   exact ⟨rfl,s.bad C m⟩
 replace s:=s.bind C;clear C;go_wp2_with fail
 go_loopw [] (fun wr=>∃f V vr,Bk wr BT #[.string n,vr] 199∧VRels (BT + 1) wr vr f∧Rdr wr g V∧Kp g B w wr∧Bk wr B #[.string ⟨#[]⟩,.slice none 0 0] 199∧To (Post (VTyp B) B w g (zaL (zj2 f V) fun rs r=>.ok (⟨n,rs⟩,r))) R∧f.length + V.length≤2000000) (fun wr=>left wr g)
 case atStart=>exact ⟨[],l3,_,j,⟨[],World.ownsRow_nil _ _ _ _,rfl⟩,q,m,b,s,by have:=q.few;simp;omega⟩
 case round =>
  clear s b j q m;obtain ⟨f,V,vr,j,hv,q,m,b,s,hl⟩:=hrel;have af:=q.left;have U:=may_any q (zc8 125 yac);cases hi:isT (sg 125) V with
  | true =>
   rw [hi,yan rfl] at U;rw [zry hi,zcn] at s;go_wp2_with fail
   refine U.mono ?_;rintro e X ⟨rfl,G,hk⟩;have z:=ya5 b.lt;replace m:=m.trans (hk.more z);replace b:=b.kp hk yab;replace j:=j.kp hk yab;obtain ⟨xs,k,o⟩:=hv;replace o:=o.keep (zgN hk yab);replace k:=zcr k hk yab;clear hk q U z;obtain ⟨A,c,rfl,_⟩:=Rd.own k;obtain ⟨x0,x1⟩:=j.c2;obtain ⟨y0,y1⟩:=b.c2;have fy:=b.fz;have ao:¬BT=B:=by omega
   have am:¬B=BT:=by omega
   go_wp2_with fail
   refine bodyPost_ret (v:=.agg #[.string n,.slice A f.length c]) (by simp [results,Tryz.results216,go_sem,y0,y1];try rfl) rfl ?_;refine s.ret rfl ?_ ⟨_,rfl,xs,?_,?_⟩ ?_
   · refine Kp.set (Kp.set m ?_ _) ?_ _ <;> exact yaj _
   · exact zaA (own_set (own_set k (show B<BT + 1 by omega) _) (show B<BT + 1 by omega) _) (show B≤BT + 1 by omega)
   · exact Keeps.base (show B≤BT + 1 by omega) ((o.keep (zfs (show B<BT + 1 by omega) _)).keep (zfs (show B<BT + 1 by omega) _))
   · refine Rdr.set (Rdr.set G ?_ _) ?_ _ <;> exact hg
  | false =>
   rw [hi,yak (by decide)] at U;rw [zo2 hi,zcF] at s;go_wp2_with fail
   refine U.mono ?_;rintro e X ⟨rfl,G,hk⟩;have z:=ya5 b.lt;replace m:=m.trans (hk.more z);replace b:=b.kp hk yab;replace j:=j.kp hk yab;obtain ⟨xs,k,o⟩:=hv;replace o:=o.keep (zgN hk yab);replace k:=zcr k hk yab;clear hk q U z;obtain ⟨A,c,rfl,_⟩:=Rd.own k;go_wp2_with fail
   replace G:=G.drew;replace m:=m.drew;replace b:Bk X.drew _ _ _:=b;replace j:Bk X.drew _ _ _:=j;replace o:=o.keep (ziV X (BT + 1));replace k:=own_drew k;refine wp_region_any yaa ?_;change wpAny _ _ _ _ _ _ _ (World.drew _);generalize X.drew=W6 at *
   refine zeM 0 (some 14) ?_;refine zeM 2 (some 16) ?_;refine znU 1 3 4 (some 15) (fun W=>W.cell? ⟨BT,1,none⟩=some (.slice A f.length c)) (v:=?v1) rfl rfl rfl rfl yaa yaa yaa yac yac yac yaa yaa yaa yaa yaa yaa yaa yaa yaa yaa (fun _ _ _ h=>h) yae ?y1 (j.cell 1) ?r1;case y1=>(intro w hS;(try dsimp only at hS);go_simp;try with_reducible rfl)
   simp only [Act.put,yaG,yaV,yaW];intro K D;go_simp;refine (relation_any G).mono ?_;intro e W7 I;obtain ⟨hk,T⟩:=I.cases_;have z:=ya5 b.lt;have aq:=j.lt;replace m:=m.trans (hk.more z);replace b:=b.kp hk yab;replace j:=j.kp hk yab;replace o:=o.keep (zgN hk yab);replace k:=zcr k hk yab;clear I hk G z;rcases T with ⟨c,p,C,rfl⟩ | ⟨x,l5,v,C,rfl,⟨vs,vo,rfl,Y,Z⟩,q⟩
   · go_wp2_with fail
     exact ⟨rfl,s.bad C m⟩
   replace s:=s.bind C;have a1:=relR_len C;clear C;have J:zgw (BT + 1) W7 vs x.subs:=zaA Y yab;have L:zjj (BT + 1) W7 vo x.ops:=zaA Z yab;obtain ⟨As,cS,rfl,_⟩:=Rd.own J;obtain ⟨Ao,cO,rfl,_⟩:=Rd.own L;clear Y Z;refine D _ _ (j.cell 1) ?_;clear D K;refine wpOp_step rfl fun K2 a2=>?_;go_simp;refine a2 _ _ ⟨zaN (j.cell 1) _,?_⟩;clear a2 K2;have ag:BT + 1≤W7.heap.size:=j.lt;obtain ⟨i0,ah,ai,aj,ak⟩:=info_parts zni;have an:=q.few;refine wpAny_ready (rs:=[5]) yaa yaf ?_;refine AllReady.cons rfl (fun K D=>?_) AllReady.nil;rw [yan (by rfl)];refine zcx _ (some 19) rfl (.tmp 15) (.tmp 18) 197 197 rfl (BT + 1) 203 i0 (.agg #[.string .empty,.string .empty,.string .empty,.string .empty,.slice none 0 0,.slice none 0 0]) 6 112 Tryz.underlying197 ah ai aj ak rfl yac (.slice A f.length c) f.length xs rfl (World.ownsRow.alloc k _) _ 1 [.string x.name,.string x.view,.string x.edit,.string x.check,.slice As x.subs.length cS,.slice Ao x.ops.length cO] rfl (Src.ofSlice _ Tryz.underlying197 _ 1 1 _ rfl (ziF _ _ _ _ _ _ _ _) (zll _ _ _ _ _ _ _ _ _ _)) yad yab (size_alloc ag) ?_;intro v8 W8 E H;refine D _ _ ?_;clear D K;simp only [Act.put,yaG,yaV,yaW];have a6:=zfG (v:=.slice A f.length c) q H k yab;have a7:=zdx (v:=.slice A f.length c) m H k (ya5 b.lt) yab
   have N:=b.grown (v:=.slice A f.length c) H k yab;have F:=j.grown (v:=.slice A f.length c) H k yab;have M:=zhs (B:=BT + 1) (u:=.slice A f.length c) k yac yac H;have O:=RelsC.snoc (y:=x) ⟨_,_,rfl,M.1 _ _ _ J,M.2 _ _ _ L⟩ (o.keep M);clear H M o k J L b j m q;obtain ⟨P,Q,rfl,_⟩:=Rd.own E;refine zeM 6 (some 20) ?_;obtain ⟨x0,x1⟩:=F.c2;have fx:=F.fz;refine wpAny_ready (rs:=[7]) yaa yaf ?_;refine AllReady.cons rfl (fun K D=>?_) AllReady.nil;go_simp;refine D _ _ ?_;clear D K;refine wpAny_done yaa ?_ _;have a8:=a6.set (a:=⟨BT,1,none⟩) (show g<BT by omega) (.slice P (f.length + 1) Q);have al:=a7.set (a:=⟨BT,1,none⟩) (show B≤BT by omega) (.slice P (f.length + 1) Q);have aa:=N.other (a:=⟨BT,1,none⟩) (show B≠BT by omega) (.slice P (f.length + 1) Q);have ab:Bk _ BT #[.string n,.slice P (f.length + 1) Q] 199:=F.set 1 (.slice P (f.length + 1) Q);have ac:=O.keep (zfs (a:=⟨BT,1,none⟩) (show BT<BT + 1 by omega) (.slice P (f.length + 1) Q));have ad:=own_set (a:=⟨BT,1,none⟩) E (show BT<BT + 1 by omega) (.slice P (f.length + 1) Q);clear a6 a7 N F O E x0 x1 fx;generalize W8.setCell ⟨BT,1,none⟩ (.slice P (f.length + 1) Q)=W9 at *
   go_wp2_with fail
   refine ⟨⟨f ++ [x],l5,_,ab,⟨_,?_,ac⟩,a8,al,aa,s,?_⟩,?_⟩
   · rw [yam];exact ad
   · rw [yam,ybx];omega
   · rw [a8.left,af];exact a1
end
end
section
open Go.RowKit
open Go.RowKit
open Go.RowKit
variable {B:Nat} {w':World}
def TypC (w:World) (B:Nat) (ys:List Value) (t:TypP):Prop:=∃vr,ys=[.string t.name,vr]∧VRels B w vr t.rels
def TypsC (w:World) (B:Nat):List TypP→List Value→Prop
 | [],xs=>xs=[]
 | x::r,xs=>∃ys zs,xs=ys ++ zs∧TypC w B ys x∧TypsC w B r zs
def zgY (w w':World) (B:Nat):Prop:=Keeps w w' B∧∀v n xs,w.ownsRow B 203 6 v n xs→w'.ownsRow B 203 6 v n xs
theorem VRels.keep {w:World} (hk:zgY w w' B) {v:Value} {l:List RelP} (h:VRels B w v l):VRels B w' v l:=by
 obtain ⟨b,f,g⟩:=h;exact ⟨b,hk.2 _ _ _ f,g.keep hk.1⟩
theorem TypsC.keep {w:World} (hk:zgY w w' B):∀{l:List TypP} {xs:List Value},TypsC w B l xs→TypsC w' B l xs
 | [],_,h=>h
 | _::_,_,h=>by
  obtain ⟨b,f,e,⟨g,j,k⟩,m⟩:=h;exact ⟨b,f,e,⟨g,j,k.keep hk⟩,TypsC.keep hk m⟩
theorem TypsC.snoc {w:World} {y:TypP} {ws:List Value} (hy:TypC w B ws y):∀{l:List TypP} {xs:List Value},TypsC w B l xs→TypsC w B (l ++ [y]) (xs ++ ws)
 | [],xs,h=>by
  have:xs=[]:=h;subst this;exact ⟨ws,[],by simp,hy,rfl⟩
 | x::r,xs,h=>by
  obtain ⟨b,f,e,g,j⟩:=h;exact ⟨b,f ++ ws,by rw [e,yaD],g,TypsC.snoc hy j⟩
theorem VRels.base {w:World} {B':Nat} (h:B'≤B) {v:Value} {l:List RelP} (hr:VRels B w v l):VRels B' w v l:=by
 obtain ⟨b,f,g⟩:=hr;exact ⟨b,zaA f h,Keeps.base h g⟩
theorem TypsC.base {w:World} {B':Nat} (h:B'≤B):∀{l:List TypP} {xs:List Value},TypsC w B l xs→TypsC w B' l xs
 | [],_,h=>h
 | _::_,_,b=>by
  obtain ⟨f,g,e,⟨j,k,m⟩,n⟩:=b;exact ⟨f,g,e,⟨j,k,m.base h⟩,TypsC.base h n⟩
def VTyps (B:Nat) (w:World) (v:Value) (l:List TypP):Prop:=∃xs,w.ownsRow B 199 2 v l.length xs∧TypsC w B l xs
def zlK (B:Nat) (w:World) (v:Value) (l:List TypP):Prop:=∃vt,v = .agg #[vt]∧VTyps B w vt l
theorem zqv {g:Nat} {w:World} (hk:Kp g w.heap.size w w') (hg:g<B):zgY w w' B:=⟨zgN hk hg,fun _ _ _ h=>zcr h hk hg⟩
theorem zd4 {w:World} (hk:Below w.heap.size w w'):zgY w w' B:=⟨⟨fun _ _ _ h=>zao h hk,fun _ _ _ h=>zao h hk⟩,fun _ _ _ h=>zao h hk⟩
theorem zcH {w:World} {a:Addr} (ha:a.block<B) (u:Value):zgY w (w.setCell a u) B:=⟨zfs ha u,fun _ _ _ h=>own_set h ha u⟩
theorem zmd (w:World) (B:Nat):zgY w w.drew B:=⟨ziV w B,fun _ _ _ h=>own_drew h⟩
theorem zkQ {w:World} {B2:Nat} {e2:TypeId} {s2 n2:Nat} {u:Value} {ys:List Value} {o:Obj} (hu:w.ownsRow B2 e2 s2 u n2 ys) (h1:246≠e2) (h2:222≠e2) (h3:203≠e2) (hg:(w.alloc o).grownBy w' u.ownBlock):zgY w w' B :=
 ⟨zhs hu h1 h2 hg,fun _ _ _ h=>zch (World.ownsRow.alloc h o) (World.ownsRow.alloc hu o) h3 hg⟩
theorem zpp (a:ByteArray) (p:Option Addr) (m r:Nat):∀u ∈ [Value.string a,.slice p m r],u.oneCell'=true:=by
 intro u b;simp only [yaw,ya1,ybA] at b;rcases b with rfl | rfl <;> rfl
def zfO (acc:List TypP) (l:List Tk):Rs (List TypP):=zaL (zdM acc l) fun t r=>if (hdT r).1=3 then .ok (t,r) else zoe 30 r
theorem zpq {acc:List TypP} {l:List Tk} (hf:Fine l) (h:(hdT l).1=3):zfO acc l = .ok (acc,l):=by
 have b:isT zfa l=false:=by
  rw [hf.isT zmX];rcases hf.hd with g | ⟨j,_⟩ | ⟨_,f⟩
  · omega
  · omega
  · rw [f];decide
 unfold zfO;rw [zdn,b,yak yac,zcn,yan h]
theorem zmO {acc:List TypP} {l:List Tk} (h:¬(hdT l).1=3):zfO acc l=zaL (typT l) fun t r=>zfO (acc ++ [t]) r:=by
 unfold zfO;rw [zdn];cases b:isT zfa l with
 | true =>
  rw [yan rfl];unfold typT;rw [show zaQ zfa l = .ok ((),l.tail) from by unfold zaQ;rw [b,yan rfl],zcn];simp only [zcF,zj2,zcn]
 | false =>
  rw [yak yac,zcn,yak h];unfold typT;rw [show zaQ zfa l=zoe 30 l from by unfold zaQ;rw [b,yak (by decide)]];rfl
theorem typT_len {l r:List Tk} {x:TypP} (h:typT l = .ok (x,r)):r.length<l.length:=by
 unfold typT at h;obtain ⟨_,m,f,h⟩:=zaf h;obtain ⟨_,o,g,h⟩:=zaf h;obtain ⟨_,q,j,h⟩:=zaf h;obtain ⟨_,s,b,h⟩:=zaf h;unfold zj2 at b;obtain ⟨_,u,k,b⟩:=zaf b;obtain ⟨_,y,n,b⟩:=zaf b;have z:=zaq zb5 f;have A:=zas g;have a3:=zaq (zap _) j;have a5:=zeG _ _ _ _ _ _ yab k;have B:=zaq (zap _) n;cases b;cases h;omega
section
variable {w:World} {g:Nat} {l:List Tk}
theorem Bk.c1 {w:World} {b:Nat} {x:Value} {t:TypeId} (h:Bk w b #[x] t):w.cell? ⟨b,0,none⟩=some x:=h.cell 0
theorem schema_any (h:Rdr w g l):Calls Tryz.prog 161 #[.pointer (some ⟨g,0,none⟩)] w (Post (zlK w.heap.size) w.heap.size w g (zfO [] l)):=by
 suffices HH:∀R,To (Post (zlK w.heap.size) w.heap.size w g (zfO [] l)) R→Calls Tryz.prog 161 #[.pointer (some ⟨g,0,none⟩)] w R from HH _ fun _ _ h=>h
 intro R F;have hg:=h.size;go_enter Tryz.func161,Tryz.ntmps161
 go_wp2_with fail
 have j:=(Bk.new w #[.slice none 0 0] 140).alloc (.cells #[.slice none 0 0] 140);have f:Bk ((w.alloc (.cells #[.slice none 0 0] 140)).alloc (.cells #[.slice none 0 0] 140)) (w.heap.size + 1) #[.slice none 0 0] 140:=by have:=Bk.new (w.alloc (.cells #[.slice none 0 0] 140)) #[.slice none 0 0] 140;rwa [World.size_alloc] at this
 have o:=(h.alloc (.cells #[.slice none 0 0] 140)).alloc (.cells #[.slice none 0 0] 140);have q:Kp g w.heap.size w _:=((Kp.refl g _ w).alloc (yaj _) (.cells #[.slice none 0 0] 140)).alloc (size_alloc (yaj _)) (.cells #[.slice none 0 0] 140);clear h;generalize (w.alloc (.cells #[.slice none 0 0] 140)).alloc (.cells #[.slice none 0 0] 140)=W at *
 generalize w.heap.size=B at *
 obtain ⟨BT,P⟩:∃BT,BT=B + 1:=⟨_,rfl⟩;rw [←P] at f;go_loopw [] (fun wr=>∃b G Q,Bk wr (B + 1) #[Q] 140∧VTyps (B + 2) wr Q b∧Rdr wr g G∧Kp g B w wr∧Bk wr B #[.slice none 0 0] 140∧To (Post (zlK B) B w g (zfO b G)) R∧b.length + G.length≤2000000) (fun wr=>left wr g)
 case atStart=>exact ⟨[],l,_,by rw [←P];exact f,⟨[],World.ownsRow_nil _ _ _ _,rfl⟩,o,q,j,F,by have:=o.few;simp;omega⟩
 case round =>
  clear F j f o q;obtain ⟨b,G,Q,f,hv,o,q,j,F,hl⟩:=hrel;have ad:=o.left;have M:=o.fine;have f0:=tok_f0;have kf:=zcd o;obtain ⟨xs,k,m⟩:=hv;by_cases h3:(hdT G).1=3
  · have d3:((((hdT G).1:Nat):Int) == 3)=true:=by rw [ybY];omega
    rw [zpq M h3] at F;generalize (hdT G).1=z at *
    go_wp2_with fail
    refine kf.mono ?_;rintro e T ⟨rfl,hb⟩;have D:=o.below hb;replace q:=q.trans ((Kp.of_below hb g).more (ya5 j.lt));replace j:=j.below hb;replace f:=f.below hb;replace m:=m.keep (zd4 hb);replace k:=zao k hb;clear hb o kf;obtain ⟨A,c,rfl,_⟩:=Rd.own k;have x0:=f.c1;have y0:=j.c1;have fy:=j.fz;have am:¬B + 1=B:=by omega
    have ak:¬B=B + 1:=by omega
    go_wp2_with fail
    refine bodyPost_ret (v:=.agg #[.slice A b.length c]) (by simp [results,Tryz.results161,go_sem,y0];try rfl) rfl ?_;refine F.ret rfl ?_ ⟨_,rfl,xs,?_,?_⟩ ?_
    · refine Kp.set q ?_ _;exact yaj _
    · exact zaA (own_set k (show B<B + 2 by omega) _) (show B≤B + 2 by omega)
    · exact TypsC.base (show B≤B + 2 by omega) (m.keep (zcH (show B<B + 2 by omega) _))
    · refine Rdr.set D ?_ _;exact hg
  · have d3:((((hdT G).1:Nat):Int) == 3)=false:=by rw [ybh];omega
    rw [zmO h3] at F;generalize (hdT G).1=z at *
    go_wp2_with fail
    refine kf.mono ?_;rintro e T ⟨rfl,hb⟩;have D:=o.below hb;replace q:=q.trans ((Kp.of_below hb g).more (ya5 j.lt));replace j:=j.below hb;replace f:=f.below hb;replace m:=m.keep (zd4 hb);replace k:=zao k hb;clear hb o kf;obtain ⟨A,c,rfl,_⟩:=Rd.own k;go_wp2_with fail
    replace D:=D.drew;replace q:=q.drew;replace j:Bk T.drew _ _ _:=j;replace f:Bk T.drew _ _ _:=f;replace m:=m.keep (zmd T (B + 2));replace k:=own_drew k;refine wp_region_any yaa ?_;change wpAny _ _ _ _ _ _ _ (World.drew _);generalize T.drew=W6 at *
    refine zeM 0 (some 8) ?_;refine zeM 2 (some 10) ?_;refine znU 1 3 4 (some 9) (fun W=>W.cell? ⟨B + 1,0,none⟩=some (.slice A b.length c)) (v:=?v1) rfl rfl rfl rfl yaa yaa yaa yac yac yac yaa yaa yaa yaa yaa yaa yaa yaa yaa yaa (fun _ _ _ h=>h) yae ?y1 (f.cell 0) ?r1;case y1=>(intro w hS;(try dsimp only at hS);go_simp;try with_reducible rfl)
    simp only [Act.put,yaG,yaV,yaW];intro K n;go_simp;refine (typ_any D).mono ?_;intro e W7 hp;obtain ⟨hk,hc⟩:=hp.cases_;have hz:=ya5 j.lt;have an:=f.lt;replace q:=q.trans (hk.more hz);replace j:=j.kp hk yab;replace f:=f.kp hk yab;replace m:=m.keep (zqv hk yab);replace k:=zcr k hk yab;clear hp hk D hz;rcases hc with ⟨c,p,U,rfl⟩ | ⟨x,l5,v,U,rfl,⟨Q,rfl,V⟩,o⟩
    · go_wp2_with fail
      exact ⟨rfl,F.bad U q⟩
    replace F:=F.bind U;have X:=typT_len U;clear U;have Y:VRels (B + 2) W7 Q x.rels:=V.base yab;obtain ⟨ys,N,Z⟩:=Y;obtain ⟨As,cS,rfl,_⟩:=Rd.own N;clear V;refine n _ _ (f.cell 0) ?_;clear n K;refine wpOp_step rfl fun K2 a1=>?_;go_simp;refine a1 _ _ ⟨zaN (f.cell 0) _,?_⟩;clear a1 K2;have ae:B + 2≤W7.heap.size:=f.lt;obtain ⟨i0,af,ag,ah,ai⟩:=info_parts info_typ;have al:=o.few;refine wpAny_ready (rs:=[5]) yaa yaf ?_;refine AllReady.cons rfl (fun K n=>?_) AllReady.nil;rw [yan (by rfl)];refine zcx _ (some 13) rfl (.tmp 9) (.tmp 12) 138 138 rfl (B + 2) 199 i0 (.agg #[.string .empty,.slice none 0 0]) 2 40 Tryz.underlying138 af ag ah ai rfl yac (.slice A b.length c) b.length xs rfl (World.ownsRow.alloc k _) _ 1 [.string x.name,.slice As x.rels.length cS] rfl (Src.ofSlice _ Tryz.underlying138 _ 1 1 _ rfl (zcG _ _ _ _) (zpp _ _ _ _)) yad yab (size_alloc ae) ?_;intro v8 W8 s E;refine n _ _ ?_;clear n K;simp only [Act.put,yaG,yaV,yaW];have a2:=zfG (v:=.slice A b.length c) o E k yab;have a6:=zdx (v:=.slice A b.length c) q E k (ya5 j.lt) yab;have H:=j.grown (v:=.slice A b.length c) E k yab;have C:=f.grown (v:=.slice A b.length c) E k yab;have O:=zkQ (B:=B + 2) (u:=.slice A b.length c) k yac yac yac E
    have I:=TypsC.snoc (y:=x) ⟨_,rfl,VRels.keep O ⟨ys,N,Z⟩⟩ (m.keep O);clear E O m k N Z j f q o;obtain ⟨J,L,rfl,_⟩:=Rd.own s;refine zeM 6 (some 14) ?_;have x0:=C.c1;have fx:=C.fz;refine wpAny_ready (rs:=[7]) yaa yaf ?_;refine AllReady.cons rfl (fun K n=>?_) AllReady.nil;go_simp;refine n _ _ ?_;clear n K;refine wpAny_done yaa ?_ _;have a7:=a2.set (a:=⟨B + 1,0,none⟩) (show g<B + 1 by omega) (.slice J (b.length + 1) L);have aj:=a6.set (a:=⟨B + 1,0,none⟩) (show B≤B + 1 by omega) (.slice J (b.length + 1) L);have a8:=H.other (a:=⟨B + 1,0,none⟩) (show B≠B + 1 by omega) (.slice J (b.length + 1) L);have aa:Bk _ (B + 1) #[.slice J (b.length + 1) L] 140:=C.set 0 (.slice J (b.length + 1) L);have ab:=I.keep (zcH (a:=⟨B + 1,0,none⟩) (show B + 1<B + 2 by omega) (.slice J (b.length + 1) L));have ac:=own_set (a:=⟨B + 1,0,none⟩) s (show B + 1<B + 2 by omega) (.slice J (b.length + 1) L);clear a2 a6 H C I s x0 fx;generalize W8.setCell ⟨B + 1,0,none⟩ (.slice J (b.length + 1) L)=W9 at *
    go_wp2_with fail
    refine ⟨⟨b ++ [x],l5,_,aa,⟨_,?_,ab⟩,a7,aj,a8,F,?_⟩,?_⟩
    · rw [yam];exact ac
    · rw [yam,ybx];omega
    · rw [a7.left,ad];exact X
end
theorem catch_idle (p q r:Addr) (w:World) :
 CallsD Tryz.prog 160 #[.pointer (some p),.pointer (some q),.pointer (some r)] .returning w fun e u' w'=>e = .returned (.tuple #[])∧u' = .returning∧w'=w:=by
 refine callsD_of_wpS Tryz.func160 rfl fun f cs b=>?_;apply wpS_seq;apply wpS_region;simp [wpOpsS,go_sem,recoverD,b,Exit.thenS,Tryz.ntmps160];rw [show (#[.pointer (some p),.pointer (some q),.pointer (some r)]:Array Value) ++ ((Array.replicate 19 undef).setIfInBounds 3 (.nilIface)).setIfInBounds 0 (.nilIface)=#[.pointer (some p),.pointer (some q),.pointer (some r),.nilIface,undef,undef,.nilIface,undef,undef,undef,undef,undef,undef,undef,undef,undef,undef,undef,undef,undef,undef,undef] from by kernel_rfl];refine wpS_of_wp ?_;go_wp2
 refine ⟨rfl,.returning,by rw [←b],.tuple #[],?_,rfl,rfl,rfl⟩;simp [results,Tryz.results160,go_sem]
theorem zkk (x y:Value) (W:World):(Instr.typeAssert (.iface 276 (.agg #[x,y])) 20 276 true).run Tryz.prog W = .ok (.tuple #[.agg #[x,y],.bool true]) W:=by kernel_rfl
theorem catch_fault (c k:Nat) (bs be ba:Nat) (v0 v1 v2:Value) (w:World) (h0:Bk w bs #[v0] 140) (h1:Bk w be #[v1] 36) (h2:Bk w ba #[v2] 3) (n1:bs<be) (n2:be<ba) :
 CallsD Tryz.prog 160 #[.pointer (some ⟨bs,0,none⟩),.pointer (some ⟨be,0,none⟩),.pointer (some ⟨ba,0,none⟩)] (.panicking [{ v:=.iface 276 (.agg #[.int .i64 c,.int .i64 k]),recovered:=false }]) w fun e u' w' =>
  e = .returned (.tuple #[])∧u' = .panicking [{ v:=.iface 276 (.agg #[.int .i64 c,.int .i64 k]),recovered:=true }] ∧
  Bk w' bs #[.slice none 0 0] 140∧Bk w' be #[.int .i64 c] 36∧Bk w' ba #[.int .i64 k] 3∧Below bs w w':=by
 have m:=Bk.new w #[.int .i64 c,.int .i64 k] 276;have D:=h2.lt;have hb:Below bs w (w.alloc (.cells #[.int .i64 c,.int .i64 k] 276)):=(Below.refl _ w).alloc yab _;have hS:w.heap.size≤(w.alloc (.cells #[.int .i64 c,.int .i64 k] 276)).heap.size:=size_alloc (yaj _);have g0:=h0.alloc (.cells #[.int .i64 c,.int .i64 k] 276);have g:=h1.alloc (.cells #[.int .i64 c,.int .i64 k] 276);have j:=h2.alloc (.cells #[.int .i64 c,.int .i64 k] 276);refine callsD_of_wpS Tryz.func160 rfl fun E cs q=>?_;apply wpS_seq;apply wpS_region;simp [wpOpsS,go_sem,recoverD,q,Exit.thenS,Tryz.ntmps160];rw [show (#[.pointer (some ⟨bs,0,none⟩),.pointer (some ⟨be,0,none⟩),.pointer (some ⟨ba,0,none⟩)]:Array Value) ++ ((Array.replicate 19 undef).setIfInBounds 3 (.iface 276 (.agg #[.int .i64 c,.int .i64 k]))).setIfInBounds 0 (.iface 276 (.agg #[.int .i64 c,.int .i64 k]))=#[.pointer (some ⟨bs,0,none⟩),.pointer (some ⟨be,0,none⟩),.pointer (some ⟨ba,0,none⟩),.iface 276 (.agg #[.int .i64 c,.int .i64 k]),undef,undef,.iface 276 (.agg #[.int .i64 c,.int .i64 k]),undef,undef,undef,undef,undef,undef,undef,undef,undef,undef,undef,undef,undef,undef,undef] from by kernel_rfl];refine wpS_of_wp ?_;have s:=zkk;go_wp2
 replace g0:Bk (w.alloc (.cells #[.int .i64 c,.int .i64 k] 276)).drew _ _ _:=g0;replace g:Bk (w.alloc (.cells #[.int .i64 c,.int .i64 k] 276)).drew _ _ _:=g;replace j:Bk (w.alloc (.cells #[.int .i64 c,.int .i64 k] 276)).drew _ _ _:=j;replace m:Bk (w.alloc (.cells #[.int .i64 c,.int .i64 k] 276)).drew _ _ _:=m;replace hb:=hb.drew;refine wp_region_held (S:=fun W=>W.cell? ⟨w.heap.size,0,none⟩=some (.int .i64 c)∧W.cell? ⟨w.heap.size,1,none⟩=some (.int .i64 k)) yaa ?_;change wpAnyH _ _ _ _ _ _ _ _ (World.drew _);generalize (w.alloc (.cells #[.int .i64 c,.int .i64 k] 276)).drew=W at *
 have F:=g0.c1;have G:=g.c1;have H:=j.c1;have z0:=g0.fz;have I:=g.fz;have J:=j.fz;have b:W.cell? ⟨w.heap.size,0,none⟩=some (.int .i64 c)∧W.cell? ⟨w.heap.size,1,none⟩=some (.int .i64 k):=m.c2;have u:¬bs=be:=by omega
 have x:¬be=bs:=by omega
 have y:¬bs=ba:=by omega
 have z:¬ba=bs:=by omega
 have A:¬be=ba:=by omega
 have B:¬ba=be:=by omega
 refine zaa 1 (some 18) b ?_;refine zaa 3 (some 20) b ?_;refine zaa 2 (some 19) b ?_;refine zaa 4 (some 21) b ?_;refine zaS 0 rfl yaa ?_;intro K f;go_simp;refine f _ _ b ?_;clear f K;refine zaS 5 rfl yaa ?_;intro K f;go_simp;have n:=m.other (a:=⟨bs,0,none⟩) (show w.heap.size≠bs by omega) (.slice none 0 0);refine f _ _ n.c2 ?_;clear f K;refine zaS 6 rfl yaa ?_;intro K f;go_simp;have o:=n.other (a:=⟨be,0,none⟩) (show w.heap.size≠be by omega) (.int .i64 c);refine f _ _ o.c2 ?_;clear f K;refine zaS 7 rfl yaa ?_;intro K f;go_simp;have C:=o.other (a:=⟨ba,0,none⟩) (show w.heap.size≠ba by omega) (.int .i64 k);refine f _ _ C.c2 ?_;clear f K;refine wpAnyH_done yaa ?_ _;refine ⟨rfl,_,rfl,.tuple #[],?_,rfl,rfl,?_,?_,?_,?_⟩
 · simp [results,Tryz.results160,go_sem]
 · exact (((g0.set 0 (.slice none 0 0)).other (a:=⟨be,0,none⟩) (show bs≠be by omega) (.int .i64 c)).other (a:=⟨ba,0,none⟩) (show bs≠ba by omega) (.int .i64 k))
 · exact (((g.other (a:=⟨bs,0,none⟩) (show be≠bs by omega) (.slice none 0 0)).set 0 (.int .i64 c)).other (a:=⟨ba,0,none⟩) (show be≠ba by omega) (.int .i64 k))
 · exact (((j.other (a:=⟨bs,0,none⟩) (show ba≠bs by omega) (.slice none 0 0)).other (a:=⟨be,0,none⟩) (show ba≠be by omega) (.int .i64 c)).set 0 (.int .i64 k))
 · refine Below.setCell (Below.setCell (Below.setCell hb ?_ _) ?_ _) ?_ _ <;> (dsimp only;omega)
def SPost (o:List TypP × Nat × Nat) (w:World) (e:Ending) (w':World):Prop :=
 ∃vt,e = .returned (.tuple #[.agg #[vt],.int .i64 o.2.1,.int .i64 o.2.2])∧VTyps w.heap.size w' vt o.1∧Below w.heap.size w w'
theorem read_any {w:World} {A:Option Addr} {c:Nat} {l:List Tk} (hr:Rd w w.heap.size 3 A l.length c (tcells l)) (hf:Fine l) :
 Calls Tryz.prog 113 #[.slice A l.length c] w (SPost (outS (zgc l)) w):=by
 have G:∀(D:Fn) (first cap:Array Value) (w:World),(Instr.makeFunc D first cap).run Tryz.prog w = .ok (.func D first cap) w:=fun _ _ _ _=>rfl;rw [zgd];change Calls _ _ _ _ (SPost (outS (zfO [] l)) w);go_enter_defers Tryz.func113,Tryz.ntmps113
 go_wp2_with fail
 have s:=(Bk.new w #[.slice none 0 0] 140);have m:=(Bk.new (w.alloc (.cells #[.slice none 0 0] 140)) #[.int .i64 0] 36);have n:=(Bk.new ((w.alloc (.cells #[.slice none 0 0] 140)).alloc (.cells #[.int .i64 0] 36)) #[.int .i64 0] 3);have q:=(Bk.new (((w.alloc (.cells #[.slice none 0 0] 140)).alloc (.cells #[.int .i64 0] 36)).alloc (.cells #[.int .i64 0] 3)) #[.slice A l.length c] 280);simp only [World.size_alloc] at m n q;have b:=((s.alloc (.cells #[.int .i64 0] 36)).alloc (.cells #[.int .i64 0] 3)).alloc (.cells #[.slice A l.length c] 280);have g:=(m.alloc (.cells #[.int .i64 0] 3)).alloc (.cells #[.slice A l.length c] 280);have j:=n.alloc (.cells #[.slice A l.length c] 280);have u:Below w.heap.size w ((((w.alloc (.cells #[.slice none 0 0] 140)).alloc (.cells #[.int .i64 0] 36)).alloc (.cells #[.int .i64 0] 3)).alloc (.cells #[.slice A l.length c] 280)):=by
  refine Below.alloc (Below.alloc (Below.alloc (Below.alloc (Below.refl _ w) (yaj _) _) ?_ _) ?_ _) ?_ _ <;> (simp only [World.size_alloc];omega)
 have x:Rdr ((((w.alloc (.cells #[.slice none 0 0] 140)).alloc (.cells #[.int .i64 0] 36)).alloc (.cells #[.int .i64 0] 3)).alloc (.cells #[.slice A l.length c] 280)) (w.heap.size + 1 + 1 + 1) l:=⟨A,c,q,(hr.below u).more yab,hf⟩;clear s m n q;generalize (((w.alloc (.cells #[.slice none 0 0] 140)).alloc (.cells #[.int .i64 0] 36)).alloc (.cells #[.int .i64 0] 3)).alloc (.cells #[.slice A l.length c] 280)=W at *
 refine (schema_any x).mono ?_;intro e H E;obtain ⟨hk,I⟩:=E.cases_;have J:=x.size;replace b:=b.kp hk yab;replace g:=g.kp hk yab;replace j:=j.kp hk yab;replace u:=u.trans (Kp.below hk (B':=w.heap.size) yab yab);clear E hk x;rcases I with ⟨k,p,hr,rfl⟩ | ⟨o,U,v,hr,rfl,⟨V,rfl,F⟩,x⟩
 · rw [hr];have K:=catch_fault k p _ _ _ _ _ _ H b g j yab yab;clear b g j;go_wp2_with fail
   refine leaves_cons (f:=160) (args:=#[.pointer (some ⟨w.heap.size,0,none⟩),.pointer (some ⟨w.heap.size + 1,0,none⟩),.pointer (some ⟨w.heap.size + 1 + 1,0,none⟩)]) yaf (by simp [go_sem]) ?_;refine K.mono ?_;rintro e L y ⟨rfl,rfl,g0,M,N,hb⟩;have z:=g0.c1;have B:=M.c1;have C:=N.c1;simp [Leaves,settle,results,Tryz.results113,go_sem,z,B,C];exact ⟨.slice none 0 0,rfl,⟨[],World.ownsRow_nil _ _ _ _,rfl⟩,u.trans hb⟩
 · rw [hr];have z:=b.c1;have B:=g.c1;have C:=j.c1;have z0:=b.fz;have X:=g.fz;have Y:=j.fz;have Z:¬w.heap.size=w.heap.size + 1:=by omega
   obtain ⟨O,P,rfl,_⟩:=Rd.own F.choose_spec.1;go_wp2_with fail
   rw [hr];refine leaves_cons (f:=160) (args:=#[.pointer (some ⟨w.heap.size,0,none⟩),.pointer (some ⟨w.heap.size + 1,0,none⟩),.pointer (some ⟨w.heap.size + 1 + 1,0,none⟩)]) yaf (by simp [go_sem]) ?_;refine (catch_idle _ _ _ _).mono ?_;rintro e L y ⟨rfl,rfl,rfl⟩;simp [Leaves,settle,results,Tryz.results113,go_sem,z,B,C];obtain ⟨Q,R,T⟩:=F;refine ⟨.slice O o.length P,rfl,⟨Q,?_,?_⟩,?_⟩
   · refine zaA (own_set (own_set (own_set R ?_ _) ?_ _) ?_ _) (show w.heap.size≤W.heap.size by omega) <;> (dsimp only;omega)
   · exact TypsC.base (show w.heap.size≤W.heap.size by omega) (((T.keep (zcH (a:=⟨w.heap.size,0,none⟩) yah _)).keep (zcH (a:=⟨w.heap.size + 1,0,none⟩) yah _)).keep (zcH (a:=⟨w.heap.size + 1 + 1,0,none⟩) yah _))
   · refine Below.setCell (Below.setCell (Below.setCell u ?_ _) ?_ _) ?_ _ <;> (dsimp only;omega)
end
end Go.Proofs.YtmblgnddgmfkhaaGreat
