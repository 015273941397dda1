import Derived.Deep.Cut
import Derived.Test.YtmblgnddgmfkhaaGreatQ08
set_option maxRecDepth 100000
set_option maxHeartbeats 4000000
namespace Go.Proofs.YtmblgnddgmfkhaaGreat
section
open Go.RowKit
variable {B n:Nat} {w':World} {xs ys:List Value} {v:Value}
def RelC (w:World) (B:Nat) (ys:List Value) (x:RelP):Prop:=∃vs vo,ys=[.string x.name,.string x.view,.string x.edit,.string x.check,vs,vo]∧zf3 B w vs x.subs∧ziF B w vo x.ops
def RelsC (w:World) (B:Nat):List RelP→List Value→Prop
 | [],xs=>xs=[]
 | x::r,xs=>∃ys zs,xs=ys ++ zs∧RelC w B ys x∧RelsC w B r zs
def Keeps (w w':World) (B:Nat):Prop:=(∀v n xs,w.ownsRow B 246 2 v n xs→w'.ownsRow B 246 2 v n xs)∧(∀v n xs,w.ownsRow B 222 3 v n xs→w'.ownsRow B 222 3 v n xs)
theorem RelC.keep {w:World} {x:RelP} (h:RelC w B ys x) (hk:Keeps w w' B):RelC w' B ys x:=by
 obtain ⟨b,d,e,f,g⟩:=h;exact ⟨b,d,e,hk.1 _ _ _ f,hk.2 _ _ _ g⟩
theorem RelsC.keep {w:World} (hk:Keeps w w' B):∀{l:List RelP} {xs:List Value},RelsC w B l xs→RelsC w' B l xs
 | [],_,h=>h
 | _::_,_,h=>by
  obtain ⟨b,d,e,f,g⟩:=h;exact ⟨b,d,e,f.keep hk,RelsC.keep hk g⟩
theorem RelsC.snoc {w:World} {y:RelP} {ws:List Value} (hy:RelC w B ws y):∀{l:List RelP} {xs:List Value},RelsC w B l xs→RelsC w B (l ++ [y]) (xs ++ ws)
 | [],xs,h=>by
  have:xs=[]:=h;subst this;exact ⟨ws,[],by simp,hy,rfl⟩
 | x::r,xs,h=>by
  obtain ⟨b,d,e,f,g⟩:=h;exact ⟨b,d ++ ws,by rw [e,yaB],f,RelsC.snoc hy g⟩
def VRels (B:Nat) (w:World) (v:Value) (l:List RelP):Prop:=∃xs,w.ownsRow B 203 6 v l.length xs∧RelsC w B l xs
def VTyp (B:Nat) (w:World) (v:Value) (t:TypP):Prop:=∃vr,v = .agg #[.string t.name,vr]∧VRels B w vr t.rels
theorem zb1 {w:World} {B2:Nat} {e e2:TypeId} {s s2 n2:Nat} {u:Value} (h:w.ownsRow B e s v n xs) (hu:w.ownsRow B2 e2 s2 u n2 ys) (hne:e≠e2) (hg:w.grownBy w' u.ownBlock):w'.ownsRow B e s v n xs:=by
 refine zaD h fun k hk=>hg.block k (h.lt k hk).2 fun d=>?_;rcases h.2 with ⟨rfl,_⟩ | ⟨g,cap,m,rfl,_,o,_⟩
 · simp [Value.ownBlock] at hk
 rcases hu.2 with ⟨rfl,_⟩ | ⟨q,f,j,rfl,_,b,_⟩
 · simp [Value.ownBlock] at d
 simp only [Value.ownBlock,yaT] at hk d;subst hk;subst d;rw [o] at b;injection b with b
 injection b with _ p _
 exact hne p
theorem zgh {g:Nat} {w:World} (hk:Kp g w.heap.size w w') (hg:g<B):Keeps w w' B:=⟨fun _ _ _ h=>zcc h hk hg,fun _ _ _ h=>zcc h hk hg⟩
theorem zeV {w:World} {a:Addr} (ha:a.block<B) (u:Value):Keeps w (w.setCell a u) B:=⟨fun _ _ _ h=>own_set h ha u,fun _ _ _ h=>own_set h ha u⟩
theorem zgW {w:World} {B2:Nat} {e2:TypeId} {s2 n2:Nat} {u:Value} {o:Obj} (hu:w.ownsRow B2 e2 s2 u n2 ys) (h1:246≠e2) (h2:222≠e2) (hg:(w.alloc o).grownBy w' u.ownBlock):Keeps w w' B :=
 ⟨fun _ _ _ h=>zb1 (World.ownsRow.alloc h o) (World.ownsRow.alloc hu o) h1 hg,fun _ _ _ h=>zb1 (World.ownsRow.alloc h o) (World.ownsRow.alloc hu o) h2 hg⟩
theorem Keeps.base {w:World} {B':Nat} (h:B'≤B) {l:List RelP}:RelsC w B l xs→RelsC w B' l xs:=by
 intro b;induction l generalizing xs with
 | nil=>exact b
 | cons x r ih =>
  obtain ⟨d,f,e,⟨g,j,k,m,n⟩,o⟩:=b;exact ⟨d,f,e,⟨g,j,k,zax m h,zax n h⟩,ih o⟩
theorem Kp.drew {g:Nat} {w:World} (h:Kp g B w w'):Kp g B w w'.drew:=h.trans ⟨rfl,rfl,rfl,yaj _,fun _ _ _=>rfl⟩
theorem own_drew {w:World} {e:TypeId} {s:Nat} (h:w.ownsRow B e s v n xs):w.drew.ownsRow B e s v n xs:=zaD h fun _ _=>rfl
theorem zie (w:World) (B:Nat):Keeps w w.drew B:=⟨fun _ _ _ h=>own_drew h,fun _ _ _ h=>own_drew h⟩
theorem zkM (a b c d:ByteArray) (p q:Option Addr) (m n r s:Nat):∀u ∈ [Value.string a,.string b,.string c,.string d,.slice p m r,.slice q n s],u.oneCell'=true:=by
 intro u f;simp only [yav,ya1,ybw] at f;rcases f with rfl | rfl | rfl | rfl | rfl | rfl <;> rfl
theorem Bk.grown {w:World} {b base:Nat} {cs:Array Value} {t:TypeId} {e:TypeId} {size:Nat} {o:Obj} (h:Bk w b cs t) (hg:(w.alloc o).grownBy w' v.ownBlock) (hown:w.ownsRow base e size v n xs) (hle:b<base):Bk w' b cs t:=by
 have:=h.lt;refine (hg.block b yag fun e=>?_).trans (h.alloc o);have:=(hown.lt b e.symm).1;omega
theorem zmA:(Tryz.prog.info? 203).map (fun i=>(i.zero,i.size,i.bytes))=some (some (.agg #[.string .empty,.string .empty,.string .empty,.string .empty,.slice none 0 0,.slice none 0 0]),6,112):=by kernel_rfl
theorem info_typ:(Tryz.prog.info? 199).map (fun i=>(i.zero,i.size,i.bytes))=some (some (.agg #[.string .empty,.slice none 0 0]),2,40):=by kernel_rfl
theorem zh0 (w:World) (a b c d e f:Value) (t:TypeId):∀j u,[a,b,c,d,e,f][j]? = some u→(w.alloc (.cells #[a,b,c,d,e,f] t)).cell? ((⟨w.heap.size,0,none⟩:Addr).add j)=some u:=by
 intro j u g;rw [Addr.add_lit,cell_of_row _ _ _ _ _ _ (heap_alloc_new w _),yaG];simpa using g
def zjq (acc:List RelP) (l:List Tk):Rs (List RelP):=zaG (zlU acc l) fun rs r=>zaG (zaK (sg 125) r) fun _ r=>.ok (rs,r)
theorem zmB {s:ByteArray} {l:List Tk} (h:isT s l=true):(hdT l).2.1=s:=(yaQ h).1
theorem isT_two {s s':ByteArray} {l:List Tk} (h:isT s l=true) (hne:s≠s'):isT s' l=false:=by
 cases b:isT s' l with
 | false=>rfl
 | true=>exact absurd ((zmB h).symm.trans (zmB b)) hne
theorem zqK {acc:List RelP} {l:List Tk} (h:isT (sg 125) l=true):zjq acc l = .ok (acc,l.tail):=by
 unfold zjq;rw [zea,isT_two h yac,yak yac,zb6];unfold zaK;rw [yan h];rfl
theorem zoh {acc:List RelP} {l:List Tk} (h:isT (sg 125) l=false):zjq acc l=zaG (relR l) fun x r=>zjq (acc ++ [x]) r:=by
 rw [zqI];unfold zjq;rw [zea];cases b:isT zm9 l with
 | true =>
  rw [yan rfl];unfold zaK;rw [b,yan rfl,zb6,zcp]
 | false =>
  rw [yak yac,zb6];unfold zaK;rw [h,b,yak (by decide)];rfl
theorem relR_len {l r:List Tk} {x:RelP} (h:relR l = .ok (x,r)):r.length<l.length:=by
 rw [zqI] at h;obtain ⟨a,m,b,d⟩:=zac h;have:=zap zb3 b;have:=(zcC (f:=m.length + 1) (l:=m) yab).2 _ _ d;omega
def typT (l:List Tk):Rs TypP:=zaG (zaK zeB l) fun _ r=>zaG (zaT r) fun n r=>zaG (zaK (sg 123) r) fun _ r=>zaG (zjq [] r) fun rs r=>.ok (⟨n,rs⟩,r)
section
variable {w:World} {g:Nat} {l:List Tk}
theorem typ_any (h:Rdr w g l):Calls Tryz.prog 216 #[.pointer (some ⟨g,0,none⟩)] w (Post (VTyp w.heap.size) w.heap.size w g (typT l)):=by
 suffices HH:∀R,To (Post (VTyp w.heap.size) w.heap.size w g (typT l)) R→Calls Tryz.prog 216 #[.pointer (some ⟨g,0,none⟩)] w R from HH _ fun _ _ h=>h
 intro R q;have hg:=h.size;unfold typT at q;go_enter Tryz.func216,Tryz.ntmps216
 go_wp2_with fail
 have b:=Bk.new w #[.string ⟨#[]⟩,.slice none 0 0] 199;have o:=h.alloc (.cells #[.string ⟨#[]⟩,.slice none 0 0] 199);have k:Kp g w.heap.size w _:=(Kp.refl g _ w).alloc (yaj _) (.cells #[.string ⟨#[]⟩,.slice none 0 0] 199);clear h;generalize w.alloc (.cells #[.string ⟨#[]⟩,.slice none 0 0] 199)=W at *
 generalize w.heap.size=B at *
 refine (must_any o zme).mono ?_;intro e W1 H;obtain ⟨hk,Q⟩:=H.cases_;have s:=ya2 b.lt;replace k:=k.trans (hk.more s);replace b:=b.kp hk yab;clear H hk o s;rcases Q with ⟨c,p,z,rfl⟩ | ⟨_,l1,v,z,rfl,rfl,o⟩
 · go_wp2_with fail
   exact ⟨rfl,q.bad z k⟩
 replace q:=q.bind z;clear z;go_wp2_with fail
 refine (rname_any o).mono ?_;intro e W2 H;obtain ⟨hk,Q⟩:=H.cases_;have s:=ya2 b.lt;replace k:=k.trans (hk.more s);replace b:=b.kp hk yab;clear H hk o s;rcases Q with ⟨c,p,z,rfl⟩ | ⟨n,l2,v,z,rfl,rfl,o⟩
 · go_wp2_with fail
   exact ⟨rfl,q.bad z k⟩
 replace q:=q.bind z;clear z;go_wp2_with fail
 have ad:=b.lt;have s:=ya2 ad;have f:=Bk.new W2 #[.string n,.slice none 0 0] 199;replace b:=b.alloc (.cells #[.string n,.slice none 0 0] 199);replace o:=o.alloc (.cells #[.string n,.slice none 0 0] 199);replace k:=k.alloc s (.cells #[.string n,.slice none 0 0] 199);clear s;generalize W2.alloc (.cells #[.string n,.slice none 0 0] 199)=W3 at *
 generalize W2.heap.size=BT at *
 refine (must_any o (zcS 123 yac)).mono ?_;intro e W4 H;obtain ⟨hk,Q⟩:=H.cases_;have s:=ya2 b.lt;replace k:=k.trans (hk.more s);replace b:=b.kp hk yab;replace f:=f.kp hk yab;clear H hk o s;rcases Q with ⟨c,p,z,rfl⟩ | ⟨_,l3,v,z,rfl,rfl,o⟩
 · go_wp2_with fail
   exact ⟨rfl,q.bad z k⟩
 replace q:=q.bind z;clear z;go_wp2_with fail
 go_loopw [] (fun wr=>∃d U vr,Bk wr BT #[.string n,vr] 199∧VRels (BT + 1) wr vr d∧Rdr wr g U∧Kp g B w wr∧Bk wr B #[.string ⟨#[]⟩,.slice none 0 0] 199∧To (Post (VTyp B) B w g (zaG (zjq d U) fun rs r=>.ok (⟨n,rs⟩,r))) R∧d.length + U.length≤2000000) (fun wr=>left wr g)
 case atStart=>exact ⟨[],l3,_,f,⟨[],World.ownsRow_nil _ _ _ _,rfl⟩,o,k,b,q,by have:=o.few;simp;omega⟩
 case round =>
  clear q b f o k;obtain ⟨d,U,vr,f,hv,o,k,b,q,hl⟩:=hrel;have ae:=o.left;have T:=may_any o (zcS 125 yac);cases hi:isT (sg 125) U with
  | true =>
   rw [hi,yan rfl] at T;rw [zqK hi,zb6] at q;go_wp2_with fail
   refine T.mono ?_;rintro e V ⟨rfl,F,hk⟩;have s:=ya2 b.lt;replace k:=k.trans (hk.more s);replace b:=b.kp hk yab;replace f:=f.kp hk yab;obtain ⟨xs,j,m⟩:=hv;replace m:=m.keep (zgh hk yab);replace j:=zcc j hk yab;clear hk o T s;obtain ⟨A,c,rfl,_⟩:=Rd.own j;obtain ⟨x0,x1⟩:=f.c2;obtain ⟨y0,y1⟩:=b.c2;have fy:=b.fz;have an:¬BT=B:=by omega
   have al:¬B=BT:=by omega
   go_wp2_with fail
   refine bodyPost_ret (v:=.agg #[.string n,.slice A d.length c]) (by simp [results,Tryz.results216,go_sem,y0,y1];try rfl) rfl ?_;refine q.ret rfl ?_ ⟨_,rfl,xs,?_,?_⟩ ?_
   · refine Kp.set (Kp.set k ?_ _) ?_ _ <;> exact yaj _
   · exact zax (own_set (own_set j (show B<BT + 1 by omega) _) (show B<BT + 1 by omega) _) (show B≤BT + 1 by omega)
   · exact Keeps.base (show B≤BT + 1 by omega) ((m.keep (zeV (show B<BT + 1 by omega) _)).keep (zeV (show B<BT + 1 by omega) _))
   · refine Rdr.set (Rdr.set F ?_ _) ?_ _ <;> exact hg
  | false =>
   rw [hi,yak (by decide)] at T;rw [zoh hi,zcp] at q;go_wp2_with fail
   refine T.mono ?_;rintro e V ⟨rfl,F,hk⟩;have s:=ya2 b.lt;replace k:=k.trans (hk.more s);replace b:=b.kp hk yab;replace f:=f.kp hk yab;obtain ⟨xs,j,m⟩:=hv;replace m:=m.keep (zgh hk yab);replace j:=zcc j hk yab;clear hk o T s;obtain ⟨A,c,rfl,_⟩:=Rd.own j;go_wp2_with fail
   replace F:=F.drew;replace k:=k.drew;replace b:Bk V.drew _ _ _:=b;replace f:Bk V.drew _ _ _:=f;replace m:=m.keep (zie V (BT + 1));replace j:=own_drew j;refine wp_region_any yaa ?_;change wpAny _ _ _ _ _ _ _ (World.drew _);generalize V.drew=W6 at *
   refine zfG 0 (some 14) (v:=?v0) rfl rfl yaa yaa yaa (fun _ _ _ h=>h) yae ?y0 ?r0;case y0=>(intro w;go_simp;try with_reducible rfl)
   simp only [Act.put,yaE,yaU,yaV];refine zfG 2 (some 16) (v:=?v2) rfl rfl yaa yaa yaa (fun _ _ _ h=>h) yae ?y2 ?r2;case y2=>(intro w;go_simp;try with_reducible rfl)
   simp only [Act.put,yaE,yaU,yaV];refine zm8 1 3 4 (some 15) (fun W=>W.cell? ⟨BT,1,none⟩=some (.slice A d.length c)) (v:=?v1) rfl rfl rfl rfl yaa yaa yaa yac yac yac yaa yaa yaa yaa yaa yaa yaa yaa yaa yaa (fun _ _ _ h=>h) yae ?y1 (f.cell 1) ?r1;case y1=>(intro w hS;(try dsimp only at hS);go_simp;try with_reducible rfl)
   simp only [Act.put,yaE,yaU,yaV];intro K C;go_simp;refine (relation_any F).mono ?_;intro e W7 H;obtain ⟨hk,Q⟩:=H.cases_;have s:=ya2 b.lt;have ao:=f.lt;replace k:=k.trans (hk.more s);replace b:=b.kp hk yab;replace f:=f.kp hk yab;replace m:=m.keep (zgh hk yab);replace j:=zcc j hk yab;clear H hk F s;rcases Q with ⟨c,p,z,rfl⟩ | ⟨x,l5,v,z,rfl,⟨vs,vo,rfl,X,Y⟩,o⟩
   · go_wp2_with fail
     exact ⟨rfl,q.bad z k⟩
   replace q:=q.bind z;have Z:=relR_len z;clear z;have I:zf3 (BT + 1) W7 vs x.subs:=zax X yab;have J:ziF (BT + 1) W7 vo x.ops:=zax Y yab;obtain ⟨As,cS,rfl,_⟩:=Rd.own I;obtain ⟨Ao,cO,rfl,_⟩:=Rd.own J;clear X Y;refine C _ _ (f.cell 1) ?_;clear C K;refine wpOp_step rfl fun K2 a1=>?_;go_simp;refine a1 _ _ ⟨zaI (f.cell 1) _,?_⟩;clear a1 K2;have af:BT + 1≤W7.heap.size:=f.lt;obtain ⟨i0,ag,ah,ai,aj⟩:=info_parts zmA;have am:=o.few;refine wpAny_ready (rs:=[5]) yaa yaf ?_;refine AllReady.cons rfl (fun K C=>?_) AllReady.nil;rw [yan (by rfl)];refine zci _ (some 19) rfl (.tmp 15) (.tmp 18) 197 197 rfl (BT + 1) 203 i0 (.agg #[.string .empty,.string .empty,.string .empty,.string .empty,.slice none 0 0,.slice none 0 0]) 6 112 Tryz.underlying197 ag ah ai aj rfl yac (.slice A d.length c) d.length xs rfl (World.ownsRow.alloc j _) _ 1 [.string x.name,.string x.view,.string x.edit,.string x.check,.slice As x.subs.length cS,.slice Ao x.ops.length cO] rfl (Src.ofSlice _ Tryz.underlying197 _ 1 1 _ rfl (zh0 _ _ _ _ _ _ _ _) (zkM _ _ _ _ _ _ _ _ _ _)) yad yab (size_alloc af) ?_;intro v8 W8 D G;refine C _ _ ?_;clear C K;simp only [Act.put,yaE,yaU,yaV];have a2:=ze7 (v:=.slice A d.length c) o G j yab;have a6:=zdf (v:=.slice A d.length c) k G j (ya2 b.lt) yab
   have M:=b.grown (v:=.slice A d.length c) G j yab;have E:=f.grown (v:=.slice A d.length c) G j yab;have L:=zgW (B:=BT + 1) (u:=.slice A d.length c) j yac yac G;have N:=RelsC.snoc (y:=x) ⟨_,_,rfl,L.1 _ _ _ I,L.2 _ _ _ J⟩ (m.keep L);clear G L m j I J b f k o;obtain ⟨O,P,rfl,_⟩:=Rd.own D;refine zfG 6 (some 20) (v:=?v6) rfl rfl yaa yaa yaa (fun _ _ _ h=>h) yae ?y6 ?r6;case y6=>(intro w;go_simp;try with_reducible rfl)
   simp only [Act.put,yaE,yaU,yaV];obtain ⟨x0,x1⟩:=E.c2;have fx:=E.fz;refine wpAny_ready (rs:=[7]) yaa yaf ?_;refine AllReady.cons rfl (fun K C=>?_) AllReady.nil;go_simp;refine C _ _ ?_;clear C K;refine wpAny_done yaa ?_ _;have a7:=a2.set (a:=⟨BT,1,none⟩) (show g<BT by omega) (.slice O (d.length + 1) P);have ak:=a6.set (a:=⟨BT,1,none⟩) (show B≤BT by omega) (.slice O (d.length + 1) P);have a8:=M.other (a:=⟨BT,1,none⟩) (show B≠BT by omega) (.slice O (d.length + 1) P);have aa:Bk _ BT #[.string n,.slice O (d.length + 1) P] 199:=E.set 1 (.slice O (d.length + 1) P);have ab:=N.keep (zeV (a:=⟨BT,1,none⟩) (show BT<BT + 1 by omega) (.slice O (d.length + 1) P));have ac:=own_set (a:=⟨BT,1,none⟩) D (show BT<BT + 1 by omega) (.slice O (d.length + 1) P);clear a2 a6 M E N D x0 x1 fx;generalize W8.setCell ⟨BT,1,none⟩ (.slice O (d.length + 1) P)=W9 at *
   go_wp2_with fail
   refine ⟨⟨d ++ [x],l5,_,aa,⟨_,?_,ab⟩,a7,ak,a8,q,?_⟩,?_⟩
   · rw [yam];exact ac
   · rw [yam,ybu];omega
   · rw [a7.left,ae];exact Z
end
end
section
open Go.RowKit
open Go.RowKit
variable {l:List Ed} {w':World} {n c B i:Nat} {A:Option Addr}
def za0 (e:Ed):List Value:=[.int .i64 e.1,.int .i64 e.2.1,.bool e.2.2]
def zay (l:List Ed):List Value:=l.flatMap za0
def ints (L:List Nat):List Value:=L.map fun (k:Nat)=>Value.int .i64 (k:Int)
def bools (s:List Bool):Array Value:=(s.map Value.bool).toArray
theorem zeU (a b:List Nat):ints (a ++ b)=ints a ++ ints b:=yaL
theorem zdX (L:List Nat):∀u ∈ ints L,u.oneCell'=true:=by
 intro u b;obtain ⟨k,_,rfl⟩:=yaN.1 b;rfl
theorem zgK (e:Ed):∀u ∈ za0 e,u.oneCell'=true:=by
 intro u b;simp only [za0,yav,ya1,ybw] at b;rcases b with rfl | rfl | rfl <;> rfl
theorem zfv (l:List Ed):(zay l).length=l.length * 3:=by
 induction l with
 | nil=>rfl
 | cons a t ih=>rw [zay,yaS,yam,←zay,ih];simp [za0];omega
theorem zfu (a b:List Ed):zay (a ++ b)=zay a ++ zay b:=yaZ
theorem znD {e:Ed} (h:l[i]? = some e):(zay l)[i * 3]? = some (.int .i64 e.1)∧(zay l)[i * 3 + 1]? = some (.int .i64 e.2.1)∧(zay l)[i * 3 + 2]? = some (.bool e.2.2):=by
 induction l generalizing i with
 | nil=>simp at h
 | cons a t ih =>
  rw [zay,yaS,←zay];cases i with
  | zero =>
   simp only [ybq,yaT] at h;subst h;exact ⟨rfl,rfl,rfl⟩
  | succ i =>
   obtain ⟨d,f,g⟩:=ih (by simpa using h);have j:(i + 1) * 3=i * 3 + 3:=by omega
   have b:(za0 a).length=3:=rfl;rw [j];refine ⟨?_,?_,?_⟩
   · rw [yaF yab,b,←d];rfl
   · rw [yaF yab,b,←f];congr 1
   · rw [yaF yab,b,←g];congr 1
structure Gr (w:World) (B:Nat) (A:Option Addr) (c n:Nat) (l:List Ed):Prop where
 one:∃vs,Rd w B 1 A n c vs∧∀i,i<n→∃Ai ci,vs[i]? = some (.slice Ai (outE l i).length ci)∧Rd w B 3 Ai (outE l i).length ci (zay (outE l i))
 inr:InR n l
 few:n≤4096
theorem Gr.below {w:World} (h:Gr w B A c n l) (hb:Below B w w'):Gr w' B A c n l:=by
 obtain ⟨⟨b,d,f⟩,g,j⟩:=h;exact ⟨⟨b,d.below hb,fun i hi=>by obtain ⟨k,m,e,r⟩:=f i hi;exact ⟨k,m,e,r.below hb⟩⟩,g,j⟩
theorem Gr.more {w:World} {B':Nat} (h:Gr w B A c n l) (hb:B≤B'):Gr w B' A c n l:=by
 obtain ⟨⟨b,d,f⟩,g,j⟩:=h;exact ⟨⟨b,d.more hb,fun i hi=>by obtain ⟨k,m,e,r⟩:=f i hi;exact ⟨k,m,e,r.more hb⟩⟩,g,j⟩
structure Od (w:World) (M go:Nat) (L:List Nat):Prop where
 one:∃v,Bk w go #[v] 146∧w.ownsRow M 3 1 v L.length (ints L)
 ge:M≤go
theorem zeS:(Tryz.prog.info? 3).map (fun i=>(i.zero,i.size,i.bytes))=some (some (.int .i64 0),1,8):=by kernel_rfl
theorem zbA (w:World) (a:Value) (t:TypeId):∀j u,[a][j]? = some u→(w.alloc (.cells #[a] t)).cell? ((⟨w.heap.size,0,none⟩:Addr).add j)=some u:=by
 intro j u b;rw [Addr.add_lit,cell_of_row _ _ _ _ _ _ (heap_alloc_new w _),yaG];simpa using b
def Bt (w w':World):Prop:=∀t b cs,t≠3→t≠146→Bk w b cs t→Bk w' b cs t
def Bw (w w':World):Prop:=∀t b cs,t≠3→t≠146→t≠4→Bk w b cs t→Bk w' b cs t
theorem Bt.bw {w:World} (h:Bt w w'):Bw w w':=fun t b cs d f _ hb=>h t b cs d f hb
theorem Bw.refl (w:World):Bw w w:=fun _ _ _ _ _ _ h=>h
theorem Bw.trans {w w'':World} (h:Bw w w') (k:Bw w' w''):Bw w w'':=fun t b cs d f g hb=>k t b cs d f g (h t b cs d f g hb)
theorem Bw.alloc {w:World} (h:Bw w w') (o:Obj):Bw w (w'.alloc o):=fun t b cs d f g hb=>(h t b cs d f g hb).alloc o
theorem zdK {w:World} {B2 b:Nat} {cs:Array Value} {t e2:TypeId} {s2 n2:Nat} {u:Value} {ys:List Value} (h:Bk w b cs t) (hu:w.ownsRow B2 e2 s2 u n2 ys) (hne:t≠e2):u.ownBlock≠some b:=fun f=>by
 rcases hu.2 with ⟨rfl,_⟩ | ⟨k,g,j,rfl,_,d,_⟩
 · simp [Value.ownBlock] at f
 simp only [Value.ownBlock,yaT] at f;subst f;rw [show w.heap[k]? = _ from h] at d;injection d with d
 injection d with _ m _
 exact hne m
theorem zbt {w:World} {B2 b:Nat} {cs:Array Value} {t e2:TypeId} {s2 n2:Nat} {u:Value} {ys:List Value} (h:Bk w b cs t) (hu:w.ownsRow B2 e2 s2 u n2 ys) (hne:t≠e2) (hg:w.grownBy w' u.ownBlock):Bk w' b cs t :=
 (hg.block b h.lt fun d=>zdK h hu hne d.symm).trans h
section
variable {w:World} {M go:Nat} {L:List Nat}
theorem zdZ {w1:World} {v v1:Value} {k:Nat} {o:Obj} (hv:Bk w go #[v] 146) (hr:w.ownsRow M 3 1 v L.length (ints L)) (hM:M≤go) (hg1:(w.alloc o).grownBy w1 v.ownBlock) (hown1:w1.ownsRow M 3 1 v1 (L.length + 1) (ints L ++ [.int .i64 (k:Int)])) :
 Bk w1 go #[v] 146∧Od (w1.setCell ⟨go,0,none⟩ v1) M go (L ++ [k])∧Below M w (w1.setCell ⟨go,0,none⟩ v1)∧Bt w (w1.setCell ⟨go,0,none⟩ v1):=by
 have d:=World.ownsRow.alloc hr o;have f:Bk w1 go #[v] 146:=zbt (hv.alloc o) d yac hg1;have s:=hv.lt;have j:Below M w w1:=zaf (((Below.refl _ w)).alloc yab o) hg1 d yag (yaj _);refine ⟨f,⟨⟨v1,?_,?_⟩,hM⟩,j.setCell hM _,fun t b cs m p hb=>?_⟩
 · have:=f.set 0 v1;simpa using this
 · rw [yam,zeU];refine zaD (n:=L.length + 1) (xs:=ints L ++ [.int .i64 (k:Int)]) hown1 fun g u=>?_;have q:g≠go:=fun e=>zdK f hown1 yac (e ▸ u);exact Below.heap_setCell _ _ _ _ q
 · have x:=zbt (hb.alloc o) d m hg1;refine x.other (a:=⟨go,0,none⟩) (fun e=>?_) _;have y:b=go:=e;subst y;have:=hb.symm.trans hv;injection this with this
   injection this with _ z _
   exact p z
theorem leave1_any (h:Od w M go L) (k:Nat) (hl:L.length<1000000) :
 Calls Tryz.prog 168 #[.int .i64 (k:Int),.pointer (some ⟨go,0,none⟩)] w fun e w'=>e = .returned (.tuple #[])∧Od w' M go (L ++ [k])∧Below M w w'∧Bt w w':=by
 obtain ⟨⟨v,d,j⟩,p⟩:=h;have u:=d.cell 0;have x:=d.fz 0;have y:=d.lt;obtain ⟨s,hi,m,n,o⟩:=info_parts zeS;obtain ⟨A,c,rfl,_⟩:=Rd.own j;have H:=Lib.hid j;have V:=Lib.hid d;clear j d;go_enter Tryz.func168,Tryz.ntmps168
 go_wp2_with (first
  | (at_builtin;go_loud (refine zab _ rfl (.tmp 3) (.tmp 5) 146 146 rfl M 3 s (.int .i64 0) 1 8 Tryz.underlying146 hi m n o rfl yac _ L.length (ints L) rfl (H.out.alloc _) _ 1 [.int .i64 (k:Int)] rfl (Src.ofSlice _ Tryz.underlying146 _ 1 1 _ rfl (zbA _ _ _) (zdX [k])) yad yab (size_alloc yab) ?_;intro z B b f q;obtain ⟨C,D,rfl,_⟩:=Rd.own b;have g:=(zdZ V.out H.out p f b).1;have E:=g.cell 0;have F:=g.fz 0)))
 go_end0
 exact ⟨rfl,(zdZ V.out H.out p f b).2⟩
theorem leave2_any (h:Od w M go L) (k:Nat) (hl:L.length<1000000) :
 Calls Tryz.prog 170 #[.int .i64 (k:Int),.pointer (some ⟨go,0,none⟩)] w fun e w'=>e = .returned (.tuple #[])∧Od w' M go (L ++ [k])∧Below M w w'∧Bt w w':=by
 obtain ⟨⟨v,d,j⟩,p⟩:=h;have u:=d.cell 0;have x:=d.fz 0;have y:=d.lt;obtain ⟨s,hi,m,n,o⟩:=info_parts zeS;obtain ⟨A,c,rfl,_⟩:=Rd.own j;have H:=Lib.hid j;have V:=Lib.hid d;clear j d;go_enter Tryz.func170,Tryz.ntmps170
 go_wp2_with (first
  | (at_builtin;go_loud (refine zab _ rfl (.tmp 3) (.tmp 5) 146 146 rfl M 3 s (.int .i64 0) 1 8 Tryz.underlying146 hi m n o rfl yac _ L.length (ints L) rfl (H.out.alloc _) _ 1 [.int .i64 (k:Int)] rfl (Src.ofSlice _ Tryz.underlying146 _ 1 1 _ rfl (zbA _ _ _) (zdX [k])) yad yab (size_alloc yab) ?_;intro z B b f q;obtain ⟨C,D,rfl,_⟩:=Rd.own b;have g:=(zdZ V.out H.out p f b).1;have E:=g.cell 0;have F:=g.fz 0)))
 go_end0
 exact ⟨rfl,(zdZ V.out H.out p f b).2⟩
end
structure Sw (w:World) (M gs go n:Nat) (s:List Bool) (L:List Nat):Prop where
 seen:Bk w gs (bools s) 4
 od:Od w M go L
 len:s.length=n
theorem Gr.row {w:World} (h:Gr w B A c n l) (hi:i<n) :
 ∃b o Ai ci,A=some ⟨b,o,none⟩∧b<B∧w.cell? ⟨b,o + i,none⟩=some (.slice Ai (outE l i).length ci)∧Rd w B 3 Ai (outE l i).length ci (zay (outE l i)):=by
 obtain ⟨⟨k,f,g⟩,_,_⟩:=h;obtain ⟨Ai,ci,e,r⟩:=g i hi;obtain ⟨b,o,u,rfl,hb,d,j⟩:=f.get hi;rw [e] at d;cases d;exact ⟨b,o,Ai,ci,rfl,hb,j,r⟩
theorem zhj {w:World} (h:Rd w B 3 A n c (zay l)) {e:Ed} (hi:l[i]? = some e) :
 ∃b o,A=some ⟨b,o,none⟩∧b<B∧w.cell? ⟨b,o + i * 3,none⟩=some (.int .i64 e.1)∧w.cell? ⟨b,o + i * 3 + 1,none⟩=some (.int .i64 e.2.1)∧w.cell? ⟨b,o + i * 3 + 2,none⟩=some (.bool e.2.2):=by
 have f:0<n:=by
  have m:=h.len;have p:=zfv l;have q:=(yao.1 hi).1;omega
 obtain ⟨b,o,g,hb,d⟩:=h.at_ f;obtain ⟨g0,j,k⟩:=znD hi;exact ⟨b,o,g,hb,d _ _ g0,by rw [ya4];exact d _ _ j,by rw [ya4];exact d _ _ k⟩
theorem zoX (s:List Bool) (a:Nat):(bools s).setIfInBounds a (.bool true)=bools (s.set a true):=by
 unfold bools;apply ycN;simp [List.map_set]
theorem zgB (s:List Bool) (a:Nat):(bools s)[a]? = s[a]?.map Value.bool:=by simp [bools]
theorem zhY (s:List Bool):(bools s).size=s.length:=by simp [bools]
theorem walk_any {M0 M gs go cs:Nat} (fl:Nat) (hM:M0≤M) (hgs:M0≤gs) (hgg:gs≠go)
 (eg:∀args w,(callFunc fl args).run Tryz.prog w = .ok (.enter fl args) w)
 (hL:∀(w:World) (L:List Nat) (k:Nat),Od w M go L→L.length<1000000→Calls Tryz.prog fl #[.int .i64 (k:Int),.pointer (some ⟨go,0,none⟩)] w fun e w'=>e = .returned (.tuple #[])∧Od w' M go (L ++ [k])∧Below M w w'∧Bt w w') (k:Nat) :
 ∀{w:World} {s:List Bool} {L:List Nat} {a:Nat},s.count false≤k→a<n→Gr w M0 A c n l→Sw w M gs go n s L→L.length + s.count false≤4096 →
  Calls Tryz.prog 167 #[.slice A n c,.slice (some ⟨gs,0,none⟩) n cs,.int .i64 (a:Int),.func (.func fl) #[] #[.pointer (some ⟨go,0,none⟩)]] w fun e w' =>
   e = .returned (.tuple #[])∧∃s' L',Walks (goE l) s [a] s' L'∧Sw w' M gs go n s' (L ++ L')∧Kp gs M w w'∧Bw w w':=by
 induction k with
 | zero =>
  intro w s L a hk E H hS _;have d:s[a]? = some true:=by
   have p:a<s.length:=by rw [hS.len];exact E
   rw [yal p];cases hb:s[a] with
   | true=>rfl
   | false =>
    have:=List.count_pos_iff.2 (hb ▸ List.getElem_mem p);omega
  have m:=hS.seen.cell a;rw [zgB,d] at m;have I:(a:Int)<(n:Int):=by omega
  go_enter Tryz.func167,Tryz.ntmps167
  go_wp2_with fail
  refine bodyPost_ret (results_none rfl _ _ _) rfl ?_;exact ⟨rfl,s,[],.old d (.nil s),by rw [yaJ];exact hS,Kp.refl _ _ _,Bw.refl _⟩
 | succ k ih =>
  intro w s L a hk E H hS hf;have p:a<s.length:=by rw [hS.len];exact E
  have I:(a:Int)<(n:Int):=by omega
  have m:=hS.seen.cell a;have fz:=hS.seen.fz a;have J:=hS.seen.lt;rw [zgB] at m;cases d:s[a]? with
  | none=>rw [ycK] at d;omega
  | some b =>
  cases b with
  | true =>
   rw [d] at m;go_enter Tryz.func167,Tryz.ntmps167
   go_wp2_with fail
   refine bodyPost_ret (results_none rfl _ _ _) rfl ?_;exact ⟨rfl,s,[],.old d (.nil s),by rw [yaJ];exact hS,Kp.refl _ _ _,Bw.refl _⟩
  | false =>
   rw [d] at m;go_enter Tryz.func167,Tryz.ntmps167
   go_upto_region 2 with (fail)
   have ag:=zjU d;have K:Below M0 w (w.setCell ⟨gs,a,none⟩ (.bool true)):=(Below.refl M0 w).setCell hgs _;have N:Sw (w.setCell ⟨gs,a,none⟩ (.bool true)) M gs go n (s.set a true) L:=by
    refine ⟨?_,⟨?_,hS.od.ge⟩,by rw [yb8];exact hS.len⟩
    · have:=hS.seen.set a (.bool true);rwa [zoX] at this
    · obtain ⟨v,q,F⟩:=hS.od.one;refine ⟨v,q.other (a:=⟨gs,a,none⟩) (fun e=>hgg e.symm) _,zaD F fun g O=>Below.heap_setCell _ _ _ _ ?_⟩;exact fun e=>zdK hS.seen F yac ((show g=gs from e) ▸ O)
   have P:Kp gs M w (w.setCell ⟨gs,a,none⟩ (.bool true)):=⟨rfl,rfl,rfl,by simp [World.setCell],fun g _ O=>Below.heap_setCell _ _ _ _ O⟩;have Q:Bw w (w.setCell ⟨gs,a,none⟩ (.bool true)):=fun t b cs _ _ ht hb=>hb.other (a:=⟨gs,a,none⟩) (fun e=>by
    have R:b=gs:=e;subst R;have:=hb.symm.trans hS.seen;injection this with this
    injection this with _ h3 _
    exact ht h3) _
   have f:=H.below K;clear H hS m fz J;generalize w.setCell ⟨gs,a,none⟩ (.bool true)=w1 at *
   obtain ⟨b,o,Ai,ci,rfl,hb,hc,T⟩:=f.row E;have ah:((outE l a).length:Int)≤9223372036854775807:=by have:=T.cap;have:=T.capm;simp only [maxLen] at this;omega
   go_wp2_with fail
   go_loopw [22] (fun U V=>∃(j:Nat) (s':List Bool) (L':List Nat),U = .int .i64 j∧j≤(outE l a).length∧Walks (goE l) (s.set a true) ((goE l a).take j) s' L'∧Sw V M gs go n s' (L ++ L')∧Kp gs M w1 V∧Bw w1 V) (fun U _=>(outE l a).length-(intOf U).toNat)
   case atStart=>exact ⟨0,_,[],rfl,yap _,.nil _,by rw [yaJ];exact N,Kp.refl _ _ _,Bw.refl _⟩
   case round =>
    obtain ⟨j,s',L',rfl,hj,G,hS,u,X⟩:=hrel;have ai:=G.cf;have Y:=f.below (u.below hM hgs);by_cases x:j<(outE l a).length
    · have Z:(j:Int)<((outE l a).length:Int):=by omega
      obtain ⟨e,he⟩:∃e,(outE l a)[j]? = some e:=⟨_,yal x⟩;have y:=(ze0.1 (yar he)).1;have a1:e.2.1=((tt e:Nat):Int):=by have:=f.inr e y;unfold tt;omega
      have a2:=f.inr.tt y;have a6:(goE l a)[j]? = some (tt e):=by unfold goE;rw [ya0,he];rfl
      obtain ⟨b2,o2,rfl,aj,m,c1,c2⟩:=zhj (T.below (u.below hM hgs)) he;rw [a1] at c1;have ak:M0≤wr.heap.size:=by have:=u.size;have:=hS.od.ge;obtain ⟨v,q,_⟩:=hS.od.one;have:=q.lt;omega
      go_upto_region 5 with (fail)
      have a7:Sw (wr.alloc (.cells #[.int .i64 e.1,.int .i64 ((tt e:Nat):Int),.bool e.2.2] 207)) M gs go n s' (L ++ L'):=by
       obtain ⟨v,q,F⟩:=hS.od.one;exact ⟨hS.seen.alloc _,⟨⟨v,q.alloc _,F.alloc _⟩,hS.od.ge⟩,hS.len⟩
      have a8:M≤wr.heap.size:=by obtain ⟨v,q,_⟩:=hS.od.one;have:=q.lt;have:=hS.od.ge;omega
      have z:=u.alloc a8 (.cells #[.int .i64 e.1,.int .i64 ((tt e:Nat):Int),.bool e.2.2] 207);have aa:=X.alloc (.cells #[.int .i64 e.1,.int .i64 ((tt e:Nat):Int),.bool e.2.2] 207);have B:=f.below (z.below hM hgs);have d1:=(Bk.new wr #[.int .i64 e.1,.int .i64 ((tt e:Nat):Int),.bool e.2.2] 207).cell 1;clear hS u X Y m c1 c2;generalize wr.alloc (.cells #[.int .i64 e.1,.int .i64 ((tt e:Nat):Int),.bool e.2.2] 207)=w2 at *
      have kI:=ih (w:=w2) (s:=s') (L:=L ++ L') (a:=tt e) yab a2 B a7 (by rw [yam];omega);go_wp2_with fail
      refine kI.mono ?_;rintro R w3 ⟨rfl,s3,L3,ab,ac,ad,ae⟩;go_wp2
      go_roundw
      case rel =>
       refine ⟨j + 1,s3,L' ++ L3,by simp,by omega,?_,by rw [←yaB];exact ac,z.trans ad,aa.trans ae⟩;rw [yaC,a6];exact G.app ab
      case measure=>simp [intOf];omega
    · obtain rfl:j=(outE l a).length:=by omega
      have Z:¬((((outE l a).length:Nat):Int)<((outE l a).length:Int)):=by omega
      have C:(goE l a).take (outE l a).length=goE l a:=ybi (by unfold goE;simp);rw [C] at G;have kL:=hL wr (L ++ L') a hS.od (by rw [yam];omega);have kE:=eg #[.int .i64 (a:Int),.pointer (some ⟨go,0,none⟩)] wr;go_wp2_with fail
      refine kL.mono ?_;rintro R w3 ⟨rfl,hO,af,D⟩;go_wp2
      go_end0
      refine ⟨rfl,s',L' ++ [a],?_,⟨D _ _ _ yac yac hS.seen,by rw [←yaB];exact hO,hS.len⟩,P.trans (u.trans (Kp.of_below af _)),Q.trans (X.trans D.bw)⟩;exact .new d G (.nil _)
end
end Go.Proofs.YtmblgnddgmfkhaaGreat
