import Derived.Test.YtahegpfdbgbioaaGreatB05
set_option maxRecDepth 100000
set_option maxHeartbeats 4000000
namespace Go.Proofs.YtahegpfdbgbioaaGreat
open Go.RowKit
def RelC (w:World) (B:Nat) (ys:List Value) (x:RelP):Prop:=∃vs vo,ys=[.string x.name,.string x.view,.string x.edit,.string x.check,vs,vo]∧VSubs B w vs x.subs∧VOps B w vo x.ops
def RelsC (w:World) (B:Nat):List RelP→List Value→Prop
 | [],xs=>xs=[]
 | x::r,xs=>∃ys zs,xs=ys ++ zs∧RelC w B ys x∧RelsC w B r zs
def Keeps (w w':World) (B:Nat):Prop:=(∀v n xs,w.ownsRow B 126 2 v n xs→w'.ownsRow B 126 2 v n xs)∧(∀v n xs,w.ownsRow B 166 3 v n xs→w'.ownsRow B 166 3 v n xs)
theorem RelC.keep {w w':World} {B:Nat} {ys:List Value} {x:RelP} (h:RelC w B ys x) (hk:Keeps w w' B):RelC w' B ys x:=by
 obtain ⟨vs,vo,e,h1,h2⟩:=h;exact ⟨vs,vo,e,hk.1 _ _ _ h1,hk.2 _ _ _ h2⟩
theorem RelsC.keep {w w':World} {B:Nat} (hk:Keeps w w' B):∀{l:List RelP} {xs:List Value},RelsC w B l xs→RelsC w' B l xs
 | [],_,h=>h
 | _::_,_,h=>by
  obtain ⟨ys,zs,e,h1,h2⟩:=h;exact ⟨ys,zs,e,h1.keep hk,RelsC.keep hk h2⟩
theorem RelsC.snoc {w:World} {B:Nat} {y:RelP} {ws:List Value} (hy:RelC w B ws y):∀{l:List RelP} {xs:List Value},RelsC w B l xs→RelsC w B (l ++ [y]) (xs ++ ws)
 | [],xs,h=>by
  have:xs=[]:=h;subst this;exact ⟨ws,[],by simp,hy,rfl⟩
 | x::r,xs,h=>by
  obtain ⟨ys,zs,e,h1,h2⟩:=h;exact ⟨ys,zs ++ ws,by rw [e,List.append_assoc],h1,RelsC.snoc hy h2⟩
def VRels (B:Nat) (w:World) (v:Value) (l:List RelP):Prop:=∃xs,w.ownsRow B 149 6 v l.length xs∧RelsC w B l xs
def VTyp (B:Nat) (w:World) (v:Value) (t:TypP):Prop:=∃vr,v = .agg #[.string t.name,vr]∧VRels B w vr t.rels
theorem zbd {w w':World} {B B2:Nat} {e e2:TypeId} {s s2 n n2:Nat} {u v:Value} {xs ys:List Value} (h:w.ownsRow B e s v n xs) (hu:w.ownsRow B2 e2 s2 u n2 ys) (hne:e≠e2) (hg:w.grownBy w' u.ownBlock):w'.ownsRow B e s v n xs:=by
 refine zaI h fun k hk=>hg.block k (h.lt k hk).2 fun hk2=>?_;rcases h.2 with ⟨rfl,_⟩ | ⟨g,cap,cur,rfl,_,hh,_⟩
 · simp [Value.ownBlock] at hk
 rcases hu.2 with ⟨rfl,_⟩ | ⟨g2,cap2,cur2,rfl,_,hh2,_⟩
 · simp [Value.ownBlock] at hk2
 simp only [Value.ownBlock,Option.some.injEq] at hk hk2;subst hk;subst hk2;rw [hh] at hh2;injection hh2 with hh2
 injection hh2 with _ h3 _
 exact hne h3
theorem keeps_kp {g B:Nat} {w w':World} (hk:Kp g w.heap.size w w') (hg:g<B):Keeps w w' B:=⟨fun _ _ _ h=>zaL h hk hg,fun _ _ _ h=>zaL h hk hg⟩
theorem keeps_set {B:Nat} {w:World} {a:Addr} (ha:a.block<B) (u:Value):Keeps w (w.setCell a u) B:=⟨fun _ _ _ h=>zai h ha u,fun _ _ _ h=>zai h ha u⟩
theorem keeps_grown {w w':World} {B B2:Nat} {e2:TypeId} {s2 n2:Nat} {u:Value} {ys:List Value} {o:Obj} (hu:w.ownsRow B2 e2 s2 u n2 ys) (h1:126≠e2) (h2:166≠e2) (hg:(w.alloc o).grownBy w' u.ownBlock):Keeps w w' B :=
 ⟨fun _ _ _ h=>zbd (World.ownsRow.alloc h o) (World.ownsRow.alloc hu o) h1 hg,fun _ _ _ h=>zbd (World.ownsRow.alloc h o) (World.ownsRow.alloc hu o) h2 hg⟩
theorem Keeps.base {w:World} {B B':Nat} (h:B'≤B) {l:List RelP} {xs:List Value}:RelsC w B l xs→RelsC w B' l xs:=by
 intro hr;induction l generalizing xs with
 | nil=>exact hr
 | cons x r ih =>
  obtain ⟨ys,zs,e,⟨vs,vo,e2,h1,h2⟩,h3⟩:=hr;exact ⟨ys,zs,e,⟨vs,vo,e2,zav h1 h,zav h2 h⟩,ih h3⟩
theorem Kp.drew {g B:Nat} {w w':World} (h:Kp g B w w'):Kp g B w w'.drew:=h.trans ⟨rfl,rfl,rfl,Nat.le_refl _,fun _ _ _=>rfl⟩
theorem zbM {w:World} {B:Nat} {e:TypeId} {s n:Nat} {v:Value} {xs:List Value} (h:w.ownsRow B e s v n xs):w.drew.ownsRow B e s v n xs:=zaI h fun _ _=>rfl
theorem keeps_drew (w:World) (B:Nat):Keeps w w.drew B:=⟨fun _ _ _ h=>zbM h,fun _ _ _ h=>zbM h⟩
theorem zgq (a b c d:ByteArray) (p q:Option Addr) (m n r s:Nat):∀u ∈ [Value.string a,.string b,.string c,.string d,.slice p m r,.slice q n s],u.oneCell'=true:=by
 intro u hu;simp only [List.mem_cons,List.not_mem_nil,or_false] at hu;rcases hu with rfl | rfl | rfl | rfl | rfl | rfl <;> rfl
theorem Bk.grown {w w':World} {b base:Nat} {cs:Array Value} {t:TypeId} {e:TypeId} {size n:Nat} {v:Value} {xs:List Value} {o:Obj} (h:Bk w b cs t) (hg:(w.alloc o).grownBy w' v.ownBlock) (hown:w.ownsRow base e size v n xs) (hle:b<base):Bk w' b cs t:=by
 have:=h.lt;refine (hg.block b (by simp;omega) fun e=>?_).trans (h.alloc o);have:=(hown.lt b e.symm).1;omega
theorem info_rel:(Tryz.prog.info? 149).map (fun i=>(i.zero,i.size,i.bytes))=some (some (.agg #[.string .empty,.string .empty,.string .empty,.string .empty,.slice none 0 0,.slice none 0 0]),6,112):=by kernel_rfl
theorem info_typ:(Tryz.prog.info? 146).map (fun i=>(i.zero,i.size,i.bytes))=some (some (.agg #[.string .empty,.slice none 0 0]),2,40):=by kernel_rfl
theorem zeY (w:World) (a b c d e f:Value) (t:TypeId):∀j u,[a,b,c,d,e,f][j]? = some u→(w.alloc (.cells #[a,b,c,d,e,f] t)).cell? ((⟨w.heap.size,0,none⟩:Addr).add j)=some u:=by
 intro j u hj;rw [Addr.add_lit,cell_of_row _ _ _ _ _ _ (heap_alloc_new w _),Nat.zero_add];simpa using hj
def zhU (acc:List RelP) (l:List Tk):Rs (List RelP):=zaH (zjL acc l) fun rs r=>zaH (zaG (sg 125) r) fun _ r=>.ok (rs,r)
theorem zkb {s:ByteArray} {l:List Tk} (h:isT s l=true):(hdT l).2.1=s:=(of_decide_eq_true h).1
theorem isT_two {s s':ByteArray} {l:List Tk} (h:isT s l=true) (hne:s≠s'):isT s' l=false:=by
 cases h2:isT s' l with
 | false=>rfl
 | true=>exact absurd ((zkb h).symm.trans (zkb h2)) hne
theorem znd {acc:List RelP} {l:List Tk} (h:isT (sg 125) l=true):zhU acc l = .ok (acc,l.tail):=by
 unfold zhU;rw [zd0,isT_two h (by decide),if_neg (by decide),zcc];unfold zaG;rw [if_pos h];rfl
theorem zlt {acc:List RelP} {l:List Tk} (h:isT (sg 125) l=false):zhU acc l=zaH (relR l) fun x r=>zhU (acc ++ [x]) r:=by
 rw [zm9];unfold zhU;rw [zd0];cases hr:isT zgD l with
 | true =>
  rw [if_pos rfl];unfold zaG;rw [hr,if_pos rfl,zcc,zcn]
 | false =>
  rw [if_neg (by decide),zcc];unfold zaG;rw [h,hr,if_neg (by decide)];rfl
theorem relR_len {l r:List Tk} {x:RelP} (h:relR l = .ok (x,r)):r.length<l.length:=by
 rw [zm9] at h;obtain ⟨a,m,h1,h2⟩:=zae h;have:=zas zb7 h1;have:=(zcs (f:=m.length + 1) (l:=m) (by omega)).2 _ _ h2;omega
def typT (l:List Tk):Rs TypP:=zaH (zaG zcv l) fun _ r=>zaH (zaS r) fun n r=>zaH (zaG (sg 123) r) fun _ r=>zaH (zhU [] r) fun rs r=>.ok (⟨n,rs⟩,r)
section
variable {w:World} {g:Nat} {l:List Tk}
theorem typ_any (h:Rdr w g l):Calls Tryz.prog 169 #[.pointer (some ⟨g,0,none⟩)] w (Post (VTyp w.heap.size) w.heap.size w g (typT l)):=by
 suffices HH:∀R,To (Post (VTyp w.heap.size) w.heap.size w g (typT l)) R→Calls Tryz.prog 169 #[.pointer (some ⟨g,0,none⟩)] w R from HH _ fun _ _ h=>h
 intro R HP;have hg:=h.size;unfold typT at HP;go_enter Tryz.func169,Tryz.ntmps169
 go_wp2_with fail
 have hb0:=Bk.new w #[.string ⟨#[]⟩,.slice none 0 0] 146;have hR:=h.alloc (.cells #[.string ⟨#[]⟩,.slice none 0 0] 146);have hK:Kp g w.heap.size w _:=(Kp.refl g _ w).alloc (Nat.le_refl _) (.cells #[.string ⟨#[]⟩,.slice none 0 0] 146);clear h;generalize w.alloc (.cells #[.string ⟨#[]⟩,.slice none 0 0] 146)=W at *
 generalize w.heap.size=B at *
 refine (must_any hR zjX).mono ?_;intro e W1 hp;obtain ⟨hk,hc⟩:=hp.cases_;have hz:=Nat.le_of_lt hb0.lt;replace hK:=hK.trans (hk.more hz);replace hb0:=hb0.kp hk (by omega);clear hp hk hR hz;rcases hc with ⟨c,p,hr,rfl⟩ | ⟨_,l1,v,hr,rfl,rfl,hR⟩
 · go_wp2_with fail
   exact ⟨rfl,HP.bad hr hK⟩
 replace HP:=HP.bind hr;clear hr;go_wp2_with fail
 refine (rname_any hR).mono ?_;intro e W2 hp;obtain ⟨hk,hc⟩:=hp.cases_;have hz:=Nat.le_of_lt hb0.lt;replace hK:=hK.trans (hk.more hz);replace hb0:=hb0.kp hk (by omega);clear hp hk hR hz;rcases hc with ⟨c,p,hr,rfl⟩ | ⟨n,l2,v,hr,rfl,rfl,hR⟩
 · go_wp2_with fail
   exact ⟨rfl,HP.bad hr hK⟩
 replace HP:=HP.bind hr;clear hr;go_wp2_with fail
 have hBT:=hb0.lt;have hz:=Nat.le_of_lt hBT;have hb1:=Bk.new W2 #[.string n,.slice none 0 0] 146;replace hb0:=hb0.alloc (.cells #[.string n,.slice none 0 0] 146);replace hR:=hR.alloc (.cells #[.string n,.slice none 0 0] 146);replace hK:=hK.alloc hz (.cells #[.string n,.slice none 0 0] 146);clear hz;generalize W2.alloc (.cells #[.string n,.slice none 0 0] 146)=W3 at *
 generalize W2.heap.size=BT at *
 refine (must_any hR (zcM 123 (by decide))).mono ?_;intro e W4 hp;obtain ⟨hk,hc⟩:=hp.cases_;have hz:=Nat.le_of_lt hb0.lt;replace hK:=hK.trans (hk.more hz);replace hb0:=hb0.kp hk (by omega);replace hb1:=hb1.kp hk (by omega);clear hp hk hR hz;rcases hc with ⟨c,p,hr,rfl⟩ | ⟨_,l3,v,hr,rfl,rfl,hR⟩
 · go_wp2_with fail
   exact ⟨rfl,HP.bad hr hK⟩
 replace HP:=HP.bind hr;clear hr;go_wp2_with fail
 go_loopw [] (fun wr=>∃acc l4 vr,Bk wr BT #[.string n,vr] 146∧VRels (BT + 1) wr vr acc∧Rdr wr g l4∧Kp g B w wr∧Bk wr B #[.string ⟨#[]⟩,.slice none 0 0] 146∧To (Post (VTyp B) B w g (zaH (zhU acc l4) fun rs r=>.ok (⟨n,rs⟩,r))) R∧acc.length + l4.length≤2000000) (fun wr=>left wr g)
 case atStart=>exact ⟨[],l3,_,hb1,⟨[],World.ownsRow_nil _ _ _ _,rfl⟩,hR,hK,hb0,HP,by have:=hR.few;simp;omega⟩
 case round =>
  clear HP hb0 hb1 hR hK;obtain ⟨acc,l4,vr,hb1,hv,hR,hK,hb0,HP,hl⟩:=hrel;have hlf:=hR.left;have km:=may_any hR (zcM 125 (by decide));cases hi:isT (sg 125) l4 with
  | true =>
   rw [hi,if_pos rfl] at km;rw [znd hi,zcc] at HP;go_wp2_with fail
   refine km.mono ?_;rintro e W5 ⟨rfl,hR5,hk⟩;have hz:=Nat.le_of_lt hb0.lt;replace hK:=hK.trans (hk.more hz);replace hb0:=hb0.kp hk (by omega);replace hb1:=hb1.kp hk (by omega);obtain ⟨xs,hv1,hv2⟩:=hv;replace hv2:=hv2.keep (keeps_kp hk (by omega));replace hv1:=zaL hv1 hk (by omega);clear hk hR km hz;obtain ⟨A,c,rfl,_⟩:=Rd.own hv1;obtain ⟨x0,x1⟩:=hb1.c2;obtain ⟨y0,y1⟩:=hb0.c2;have fy:=hb0.fz;have hne:¬BT=B:=by omega
   have hne2:¬B=BT:=by omega
   go_wp2_with fail
   refine bodyPost_ret (v:=.agg #[.string n,.slice A acc.length c]) (by simp [results,Tryz.results169,go_sem,y0,y1];try rfl) rfl ?_;refine HP.ret rfl ?_ ⟨_,rfl,xs,?_,?_⟩ ?_
   · refine Kp.set (Kp.set hK ?_ _) ?_ _ <;> exact Nat.le_refl _
   · exact zav (zai (zai hv1 (show B<BT + 1 by omega) _) (show B<BT + 1 by omega) _) (show B≤BT + 1 by omega)
   · exact Keeps.base (show B≤BT + 1 by omega) ((hv2.keep (keeps_set (show B<BT + 1 by omega) _)).keep (keeps_set (show B<BT + 1 by omega) _))
   · refine Rdr.set (Rdr.set hR5 ?_ _) ?_ _ <;> exact hg
  | false =>
   rw [hi,if_neg (by decide)] at km;rw [zlt hi,zcn] at HP;go_wp2_with fail
   refine km.mono ?_;rintro e W5 ⟨rfl,hR5,hk⟩;have hz:=Nat.le_of_lt hb0.lt;replace hK:=hK.trans (hk.more hz);replace hb0:=hb0.kp hk (by omega);replace hb1:=hb1.kp hk (by omega);obtain ⟨xs,hv1,hv2⟩:=hv;replace hv2:=hv2.keep (keeps_kp hk (by omega));replace hv1:=zaL hv1 hk (by omega);clear hk hR km hz;obtain ⟨A,c,rfl,_⟩:=Rd.own hv1;go_wp2_with fail
   replace hR5:=hR5.drew;replace hK:=hK.drew;replace hb0:Bk W5.drew _ _ _:=hb0;replace hb1:Bk W5.drew _ _ _:=hb1;replace hv2:=hv2.keep (keeps_drew W5 (BT + 1));replace hv1:=zbM hv1;refine wp_region_any (by kernel_rfl) ?_;change wpAny _ _ _ _ _ _ _ (World.drew _);generalize W5.drew=W6 at *
   refine zdd 0 (some 14) (v:=?v0) rfl rfl (by kernel_rfl) (by kernel_rfl) (by kernel_rfl) (fun _ _ _ h=>h) (by rfl) ?y0 ?r0;case y0=>(intro w;go_simp;try with_reducible rfl)
   simp only [Act.put,List.setIfInBounds_toArray,List.set_cons_zero,List.set_cons_succ];refine zdd 2 (some 16) (v:=?v2) rfl rfl (by kernel_rfl) (by kernel_rfl) (by kernel_rfl) (fun _ _ _ h=>h) (by rfl) ?y2 ?r2;case y2=>(intro w;go_simp;try with_reducible rfl)
   simp only [Act.put,List.setIfInBounds_toArray,List.set_cons_zero,List.set_cons_succ];refine zh0 1 3 4 (some 15) (fun W=>W.cell? ⟨BT,1,none⟩=some (.slice A acc.length c)) (v:=?v1) rfl rfl rfl rfl (by kernel_rfl) (by kernel_rfl) (by kernel_rfl) (by decide) (by decide) (by decide) (by kernel_rfl) (by kernel_rfl) (by kernel_rfl) (by kernel_rfl) (by kernel_rfl) (by kernel_rfl) (by kernel_rfl) (by kernel_rfl) (by kernel_rfl) (by kernel_rfl) (fun _ _ _ h=>h) (by rfl) ?y1 (hb1.cell 1) ?r1;case y1=>(intro w hS;(try dsimp only at hS);go_simp;try with_reducible rfl)
   simp only [Act.put,List.setIfInBounds_toArray,List.set_cons_zero,List.set_cons_succ];intro K hK';go_simp;refine (relation_any hR5).mono ?_;intro e W7 hp;obtain ⟨hk,hc⟩:=hp.cases_;have hz:=Nat.le_of_lt hb0.lt;have hlt:=hb1.lt;replace hK:=hK.trans (hk.more hz);replace hb0:=hb0.kp hk (by omega);replace hb1:=hb1.kp hk (by omega);replace hv2:=hv2.keep (keeps_kp hk (by omega));replace hv1:=zaL hv1 hk (by omega);clear hp hk hR5 hz;rcases hc with ⟨c,p,hr,rfl⟩ | ⟨x,l5,v,hr,rfl,⟨vs,vo,rfl,hs1,hs2⟩,hR⟩
   · go_wp2_with fail
     exact ⟨rfl,HP.bad hr hK⟩
   replace HP:=HP.bind hr;have hlen:=relR_len hr;clear hr;have hs1':VSubs (BT + 1) W7 vs x.subs:=zav hs1 (by omega);have hs2':VOps (BT + 1) W7 vo x.ops:=zav hs2 (by omega);obtain ⟨As,cS,rfl,_⟩:=Rd.own hs1';obtain ⟨Ao,cO,rfl,_⟩:=Rd.own hs2';clear hs1 hs2;refine hK' _ _ (hb1.cell 1) ?_;clear hK' K;refine wpOp_step rfl fun K2 hK2=>?_;go_simp;refine hK2 _ _ ⟨zar (hb1.cell 1) _,?_⟩;clear hK2 K2;have hz7:BT + 1≤W7.heap.size:=hb1.lt;obtain ⟨i0,hi0,hz0,hz1,hz2⟩:=info_parts info_rel;have hlf6:=hR.few;refine wpAny_ready (rs:=[5]) (by kernel_rfl) (by simp) ?_;refine AllReady.cons rfl (fun K hK'=>?_) AllReady.nil;rw [if_pos (by rfl)];refine zbL _ (some 19) rfl (.tmp 15) (.tmp 18) 144 144 rfl (BT + 1) 149 i0 (.agg #[.string .empty,.string .empty,.string .empty,.string .empty,.slice none 0 0,.slice none 0 0]) 6 112 Tryz.underlying144 hi0 hz0 hz1 hz2 rfl (by decide) (.slice A acc.length c) acc.length xs rfl (World.ownsRow.alloc hv1 _) _ 1 [.string x.name,.string x.view,.string x.edit,.string x.check,.slice As x.subs.length cS,.slice Ao x.ops.length cO] rfl (Src.ofSlice _ Tryz.underlying144 _ 1 1 _ rfl (zeY _ _ _ _ _ _ _ _) (zgq _ _ _ _ _ _ _ _ _ _)) (by simp only [maxLen];omega) (by omega) (size_alloc hz7) ?_;intro v8 W8 hown8 hg8;refine hK' _ _ ?_;clear hK' K;simp only [Act.put,List.setIfInBounds_toArray,List.set_cons_zero,List.set_cons_succ];have hR8:=zeL (v:=.slice A acc.length c) hR hg8 hv1 (by omega);have hK8:=za6 (v:=.slice A acc.length c) hK hg8 hv1 (Nat.le_of_lt hb0.lt) (by omega)
   have hb08:=hb0.grown (v:=.slice A acc.length c) hg8 hv1 (by omega);have hb18:=hb1.grown (v:=.slice A acc.length c) hg8 hv1 (by omega);have hkp:=keeps_grown (B:=BT + 1) (u:=.slice A acc.length c) hv1 (by decide) (by decide) hg8;have hv28:=RelsC.snoc (y:=x) ⟨_,_,rfl,hkp.1 _ _ _ hs1',hkp.2 _ _ _ hs2'⟩ (hv2.keep hkp);clear hg8 hkp hv2 hv1 hs1' hs2' hb0 hb1 hK hR;obtain ⟨A8,c8,rfl,_⟩:=Rd.own hown8;refine zdd 6 (some 20) (v:=?v6) rfl rfl (by kernel_rfl) (by kernel_rfl) (by kernel_rfl) (fun _ _ _ h=>h) (by rfl) ?y6 ?r6;case y6=>(intro w;go_simp;try with_reducible rfl)
   simp only [Act.put,List.setIfInBounds_toArray,List.set_cons_zero,List.set_cons_succ];obtain ⟨x0,x1⟩:=hb18.c2;have fx:=hb18.fz;refine wpAny_ready (rs:=[7]) (by kernel_rfl) (by simp) ?_;refine AllReady.cons rfl (fun K hK'=>?_) AllReady.nil;go_simp;refine hK' _ _ ?_;clear hK' K;refine wpAny_done (by kernel_rfl) ?_ _;have hR9:=hR8.set (a:=⟨BT,1,none⟩) (show g<BT by omega) (.slice A8 (acc.length + 1) c8);have hK9:=hK8.set (a:=⟨BT,1,none⟩) (show B≤BT by omega) (.slice A8 (acc.length + 1) c8);have hb09:=hb08.other (a:=⟨BT,1,none⟩) (show B≠BT by omega) (.slice A8 (acc.length + 1) c8);have hb19:Bk _ BT #[.string n,.slice A8 (acc.length + 1) c8] 146:=hb18.set 1 (.slice A8 (acc.length + 1) c8);have hv29:=hv28.keep (keeps_set (a:=⟨BT,1,none⟩) (show BT<BT + 1 by omega) (.slice A8 (acc.length + 1) c8));have hv19:=zai (a:=⟨BT,1,none⟩) hown8 (show BT<BT + 1 by omega) (.slice A8 (acc.length + 1) c8);clear hR8 hK8 hb08 hb18 hv28 hown8 x0 x1 fx;generalize W8.setCell ⟨BT,1,none⟩ (.slice A8 (acc.length + 1) c8)=W9 at *
   go_wp2_with fail
   refine ⟨⟨acc ++ [x],l5,_,hb19,⟨_,?_,hv29⟩,hR9,hK9,hb09,HP,?_⟩,?_⟩
   · rw [List.length_append];exact hv19
   · rw [List.length_append,List.length_singleton];omega
   · rw [hR9.left,hlf];exact hlen
end
end Go.Proofs.YtahegpfdbgbioaaGreat
namespace Go.Proofs.YtahegpfdbgbioaaGreat
open Go.RowKit
open Go.RowKit
open Go.RowKit
def TypC (w:World) (B:Nat) (ys:List Value) (t:TypP):Prop:=∃vr,ys=[.string t.name,vr]∧VRels B w vr t.rels
def TypsC (w:World) (B:Nat):List TypP→List Value→Prop
 | [],xs=>xs=[]
 | x::r,xs=>∃ys zs,xs=ys ++ zs∧TypC w B ys x∧TypsC w B r zs
def Keeps3 (w w':World) (B:Nat):Prop:=Keeps w w' B∧∀v n xs,w.ownsRow B 149 6 v n xs→w'.ownsRow B 149 6 v n xs
theorem VRels.keep {w w':World} {B:Nat} (hk:Keeps3 w w' B) {v:Value} {l:List RelP} (h:VRels B w v l):VRels B w' v l:=by
 obtain ⟨xs,h1,h2⟩:=h;exact ⟨xs,hk.2 _ _ _ h1,h2.keep hk.1⟩
theorem TypsC.keep {w w':World} {B:Nat} (hk:Keeps3 w w' B):∀{l:List TypP} {xs:List Value},TypsC w B l xs→TypsC w' B l xs
 | [],_,h=>h
 | _::_,_,h=>by
  obtain ⟨ys,zs,e,⟨vr,e2,h1⟩,h2⟩:=h;exact ⟨ys,zs,e,⟨vr,e2,h1.keep hk⟩,TypsC.keep hk h2⟩
theorem TypsC.snoc {w:World} {B:Nat} {y:TypP} {ws:List Value} (hy:TypC w B ws y):∀{l:List TypP} {xs:List Value},TypsC w B l xs→TypsC w B (l ++ [y]) (xs ++ ws)
 | [],xs,h=>by
  have:xs=[]:=h;subst this;exact ⟨ws,[],by simp,hy,rfl⟩
 | x::r,xs,h=>by
  obtain ⟨ys,zs,e,h1,h2⟩:=h;exact ⟨ys,zs ++ ws,by rw [e,List.append_assoc],h1,TypsC.snoc hy h2⟩
theorem VRels.base {w:World} {B B':Nat} (h:B'≤B) {v:Value} {l:List RelP} (hr:VRels B w v l):VRels B' w v l:=by
 obtain ⟨xs,h1,h2⟩:=hr;exact ⟨xs,zav h1 h,Keeps.base h h2⟩
theorem TypsC.base {w:World} {B B':Nat} (h:B'≤B):∀{l:List TypP} {xs:List Value},TypsC w B l xs→TypsC w B' l xs
 | [],_,h=>h
 | _::_,_,hr=>by
  obtain ⟨ys,zs,e,⟨vr,e2,h1⟩,h2⟩:=hr;exact ⟨ys,zs,e,⟨vr,e2,h1.base h⟩,TypsC.base h h2⟩
def VTyps (B:Nat) (w:World) (v:Value) (l:List TypP):Prop:=∃xs,w.ownsRow B 146 2 v l.length xs∧TypsC w B l xs
def zja (B:Nat) (w:World) (v:Value) (l:List TypP):Prop:=∃vt,v = .agg #[vt]∧VTyps B w vt l
theorem keeps3_kp {g B:Nat} {w w':World} (hk:Kp g w.heap.size w w') (hg:g<B):Keeps3 w w' B:=⟨keeps_kp hk hg,fun _ _ _ h=>zaL h hk hg⟩
theorem keeps3_below {B:Nat} {w w':World} (hk:Below w.heap.size w w'):Keeps3 w w' B:=⟨⟨fun _ _ _ h=>zag h hk,fun _ _ _ h=>zag h hk⟩,fun _ _ _ h=>zag h hk⟩
theorem keeps3_set {B:Nat} {w:World} {a:Addr} (ha:a.block<B) (u:Value):Keeps3 w (w.setCell a u) B:=⟨keeps_set ha u,fun _ _ _ h=>zai h ha u⟩
theorem zjp (w:World) (B:Nat):Keeps3 w w.drew B:=⟨keeps_drew w B,fun _ _ _ h=>zbM h⟩
theorem keeps3_grown {w w':World} {B B2:Nat} {e2:TypeId} {s2 n2:Nat} {u:Value} {ys:List Value} {o:Obj} (hu:w.ownsRow B2 e2 s2 u n2 ys) (h1:126≠e2) (h2:166≠e2) (h3:149≠e2) (hg:(w.alloc o).grownBy w' u.ownBlock):Keeps3 w w' B :=
 ⟨keeps_grown hu h1 h2 hg,fun _ _ _ h=>zbd (World.ownsRow.alloc h o) (World.ownsRow.alloc hu o) h3 hg⟩
theorem zlI (a:ByteArray) (p:Option Addr) (m r:Nat):∀u ∈ [Value.string a,.slice p m r],u.oneCell'=true:=by
 intro u hu;simp only [List.mem_cons,List.not_mem_nil,or_false] at hu;rcases hu with rfl | rfl <;> rfl
def zeR (acc:List TypP) (l:List Tk):Rs (List TypP):=zaH (zdn acc l) fun t r=>if (hdT r).1=3 then .ok (t,r) else zjc 30 r
theorem zlJ {acc:List TypP} {l:List Tk} (hf:Fine l) (h:(hdT l).1=3):zeR acc l = .ok (acc,l):=by
 have ht:isT zcv l=false:=by
  rw [hf.isT zjX];rcases hf.hd with h2 | ⟨h1,_⟩ | ⟨_,h0⟩
  · omega
  · omega
  · rw [h0];decide
 unfold zeR;rw [zc3,ht,if_neg (by decide),zcc,if_pos h]
theorem zjT {acc:List TypP} {l:List Tk} (h:¬(hdT l).1=3):zeR acc l=zaH (typT l) fun t r=>zeR (acc ++ [t]) r:=by
 unfold zeR;rw [zc3];cases ht:isT zcv l with
 | true =>
  rw [if_pos rfl];unfold typT;rw [show zaG zcv l = .ok ((),l.tail) from by unfold zaG;rw [ht,if_pos rfl],zcc];simp only [zcn,zhU,zcc]
 | false =>
  rw [if_neg (by decide),zcc,if_neg h];unfold typT;rw [show zaG zcv l=zjc 30 l from by unfold zaG;rw [ht,if_neg (by decide)]];rfl
theorem typT_len {l r:List Tk} {x:TypP} (h:typT l = .ok (x,r)):r.length<l.length:=by
 unfold typT at h;obtain ⟨_,m,h1,h⟩:=zae h;obtain ⟨_,m2,h2,h⟩:=zae h;obtain ⟨_,m3,h3,h⟩:=zae h;obtain ⟨_,m4,h4,h⟩:=zae h;unfold zhU at h4;obtain ⟨_,m5,h5,h4⟩:=zae h4;obtain ⟨_,m6,h6,h4⟩:=zae h4;have a1:=zas zbX h1;have a2:=zau h2;have a3:=zas (zal _) h3;have a5:=zdY _ _ _ _ _ _ (by omega) h5;have a6:=zas (zal _) h6;cases h4;cases h;omega
section
variable {w:World} {g:Nat} {l:List Tk}
theorem Bk.c1 {w:World} {b:Nat} {x:Value} {t:TypeId} (h:Bk w b #[x] t):w.cell? ⟨b,0,none⟩=some x:=h.cell 0
theorem schema_any (h:Rdr w g l):Calls Tryz.prog 124 #[.pointer (some ⟨g,0,none⟩)] w (Post (zja w.heap.size) w.heap.size w g (zeR [] l)):=by
 suffices HH:∀R,To (Post (zja w.heap.size) w.heap.size w g (zeR [] l)) R→Calls Tryz.prog 124 #[.pointer (some ⟨g,0,none⟩)] w R from HH _ fun _ _ h=>h
 intro R HP;have hg:=h.size;go_enter Tryz.func124,Tryz.ntmps124
 go_wp2_with fail
 have hb0:=(Bk.new w #[.slice none 0 0] 92).alloc (.cells #[.slice none 0 0] 92);have hb1:Bk ((w.alloc (.cells #[.slice none 0 0] 92)).alloc (.cells #[.slice none 0 0] 92)) (w.heap.size + 1) #[.slice none 0 0] 92:=by have:=Bk.new (w.alloc (.cells #[.slice none 0 0] 92)) #[.slice none 0 0] 92;rwa [World.size_alloc] at this
 have hR:=(h.alloc (.cells #[.slice none 0 0] 92)).alloc (.cells #[.slice none 0 0] 92);have hK:Kp g w.heap.size w _:=((Kp.refl g _ w).alloc (Nat.le_refl _) (.cells #[.slice none 0 0] 92)).alloc (size_alloc (Nat.le_refl _)) (.cells #[.slice none 0 0] 92);clear h;generalize (w.alloc (.cells #[.slice none 0 0] 92)).alloc (.cells #[.slice none 0 0] 92)=W at *
 generalize w.heap.size=B at *
 obtain ⟨BT,hBT⟩:∃BT,BT=B + 1:=⟨_,rfl⟩;rw [←hBT] at hb1;go_loopw [] (fun wr=>∃acc l4 vr,Bk wr (B + 1) #[vr] 92∧VTyps (B + 2) wr vr acc∧Rdr wr g l4∧Kp g B w wr∧Bk wr B #[.slice none 0 0] 92∧To (Post (zja B) B w g (zeR acc l4)) R∧acc.length + l4.length≤2000000) (fun wr=>left wr g)
 case atStart=>exact ⟨[],l,_,by rw [←hBT];exact hb1,⟨[],World.ownsRow_nil _ _ _ _,rfl⟩,hR,hK,hb0,HP,by have:=hR.few;simp;omega⟩
 case round =>
  clear HP hb0 hb1 hR hK;obtain ⟨acc,l4,vr,hb1,hv,hR,hK,hb0,HP,hl⟩:=hrel;have hlf:=hR.left;have hfine:=hR.fine;have f0:=tok_f0;have kf:=zb6 hR;obtain ⟨xs,hv1,hv2⟩:=hv;by_cases h3:(hdT l4).1=3
  · have d3:((((hdT l4).1:Nat):Int) == 3)=true:=by rw [beq_iff_eq];omega
    rw [zlJ hfine h3] at HP;generalize (hdT l4).1=z at *
    go_wp2_with fail
    refine kf.mono ?_;rintro e W5 ⟨rfl,hb⟩;have hR5:=hR.below hb;replace hK:=hK.trans ((Kp.of_below hb g).more (Nat.le_of_lt hb0.lt));replace hb0:=hb0.below hb;replace hb1:=hb1.below hb;replace hv2:=hv2.keep (keeps3_below hb);replace hv1:=zag hv1 hb;clear hb hR kf;obtain ⟨A,c,rfl,_⟩:=Rd.own hv1;have x0:=hb1.c1;have y0:=hb0.c1;have fy:=hb0.fz;have hne:¬B + 1=B:=by omega
    have hne2:¬B=B + 1:=by omega
    go_wp2_with fail
    refine bodyPost_ret (v:=.agg #[.slice A acc.length c]) (by simp [results,Tryz.results124,go_sem,y0];try rfl) rfl ?_;refine HP.ret rfl ?_ ⟨_,rfl,xs,?_,?_⟩ ?_
    · refine Kp.set hK ?_ _;exact Nat.le_refl _
    · exact zav (zai hv1 (show B<B + 2 by omega) _) (show B≤B + 2 by omega)
    · exact TypsC.base (show B≤B + 2 by omega) (hv2.keep (keeps3_set (show B<B + 2 by omega) _))
    · refine Rdr.set hR5 ?_ _;exact hg
  · have d3:((((hdT l4).1:Nat):Int) == 3)=false:=by rw [beq_eq_false_iff_ne];omega
    rw [zjT h3] at HP;generalize (hdT l4).1=z at *
    go_wp2_with fail
    refine kf.mono ?_;rintro e W5 ⟨rfl,hb⟩;have hR5:=hR.below hb;replace hK:=hK.trans ((Kp.of_below hb g).more (Nat.le_of_lt hb0.lt));replace hb0:=hb0.below hb;replace hb1:=hb1.below hb;replace hv2:=hv2.keep (keeps3_below hb);replace hv1:=zag hv1 hb;clear hb hR kf;obtain ⟨A,c,rfl,_⟩:=Rd.own hv1;go_wp2_with fail
    replace hR5:=hR5.drew;replace hK:=hK.drew;replace hb0:Bk W5.drew _ _ _:=hb0;replace hb1:Bk W5.drew _ _ _:=hb1;replace hv2:=hv2.keep (zjp W5 (B + 2));replace hv1:=zbM hv1;refine wp_region_any (by kernel_rfl) ?_;change wpAny _ _ _ _ _ _ _ (World.drew _);generalize W5.drew=W6 at *
    refine zdd 0 (some 8) (v:=?v0) rfl rfl (by kernel_rfl) (by kernel_rfl) (by kernel_rfl) (fun _ _ _ h=>h) (by rfl) ?y0 ?r0;case y0=>(intro w;go_simp;try with_reducible rfl)
    simp only [Act.put,List.setIfInBounds_toArray,List.set_cons_zero,List.set_cons_succ];refine zdd 2 (some 10) (v:=?v2) rfl rfl (by kernel_rfl) (by kernel_rfl) (by kernel_rfl) (fun _ _ _ h=>h) (by rfl) ?y2 ?r2;case y2=>(intro w;go_simp;try with_reducible rfl)
    simp only [Act.put,List.setIfInBounds_toArray,List.set_cons_zero,List.set_cons_succ];refine zh0 1 3 4 (some 9) (fun W=>W.cell? ⟨B + 1,0,none⟩=some (.slice A acc.length c)) (v:=?v1) rfl rfl rfl rfl (by kernel_rfl) (by kernel_rfl) (by kernel_rfl) (by decide) (by decide) (by decide) (by kernel_rfl) (by kernel_rfl) (by kernel_rfl) (by kernel_rfl) (by kernel_rfl) (by kernel_rfl) (by kernel_rfl) (by kernel_rfl) (by kernel_rfl) (by kernel_rfl) (fun _ _ _ h=>h) (by rfl) ?y1 (hb1.cell 0) ?r1;case y1=>(intro w hS;(try dsimp only at hS);go_simp;try with_reducible rfl)
    simp only [Act.put,List.setIfInBounds_toArray,List.set_cons_zero,List.set_cons_succ];intro K hK';go_simp;refine (typ_any hR5).mono ?_;intro e W7 hp;obtain ⟨hk,hc⟩:=hp.cases_;have hz:=Nat.le_of_lt hb0.lt;have hlt:=hb1.lt;replace hK:=hK.trans (hk.more hz);replace hb0:=hb0.kp hk (by omega);replace hb1:=hb1.kp hk (by omega);replace hv2:=hv2.keep (keeps3_kp hk (by omega));replace hv1:=zaL hv1 hk (by omega);clear hp hk hR5 hz;rcases hc with ⟨c,p,hr,rfl⟩ | ⟨x,l5,v,hr,rfl,⟨vr,rfl,hs1⟩,hR⟩
    · go_wp2_with fail
      exact ⟨rfl,HP.bad hr hK⟩
    replace HP:=HP.bind hr;have hlen:=typT_len hr;clear hr;have hs1':VRels (B + 2) W7 vr x.rels:=hs1.base (by omega);obtain ⟨ys,hy1,hy2⟩:=hs1';obtain ⟨As,cS,rfl,_⟩:=Rd.own hy1;clear hs1;refine hK' _ _ (hb1.cell 0) ?_;clear hK' K;refine wpOp_step rfl fun K2 hK2=>?_;go_simp;refine hK2 _ _ ⟨zar (hb1.cell 0) _,?_⟩;clear hK2 K2;have hz7:B + 2≤W7.heap.size:=hb1.lt;obtain ⟨i0,hi0,hz0,hz1,hz2⟩:=info_parts info_typ;have hlf6:=hR.few;refine wpAny_ready (rs:=[5]) (by kernel_rfl) (by simp) ?_;refine AllReady.cons rfl (fun K hK'=>?_) AllReady.nil;rw [if_pos (by rfl)];refine zbL _ (some 13) rfl (.tmp 9) (.tmp 12) 90 90 rfl (B + 2) 146 i0 (.agg #[.string .empty,.slice none 0 0]) 2 40 Tryz.underlying90 hi0 hz0 hz1 hz2 rfl (by decide) (.slice A acc.length c) acc.length xs rfl (World.ownsRow.alloc hv1 _) _ 1 [.string x.name,.slice As x.rels.length cS] rfl (Src.ofSlice _ Tryz.underlying90 _ 1 1 _ rfl (zbq _ _ _ _) (zlI _ _ _ _)) (by simp only [maxLen];omega) (by omega) (size_alloc hz7) ?_;intro v8 W8 hown8 hg8;refine hK' _ _ ?_;clear hK' K;simp only [Act.put,List.setIfInBounds_toArray,List.set_cons_zero,List.set_cons_succ];have hR8:=zeL (v:=.slice A acc.length c) hR hg8 hv1 (by omega);have hK8:=za6 (v:=.slice A acc.length c) hK hg8 hv1 (Nat.le_of_lt hb0.lt) (by omega);have hb08:=hb0.grown (v:=.slice A acc.length c) hg8 hv1 (by omega);have hb18:=hb1.grown (v:=.slice A acc.length c) hg8 hv1 (by omega);have hkp:=keeps3_grown (B:=B + 2) (u:=.slice A acc.length c) hv1 (by decide) (by decide) (by decide) hg8
    have hv28:=TypsC.snoc (y:=x) ⟨_,rfl,VRels.keep hkp ⟨ys,hy1,hy2⟩⟩ (hv2.keep hkp);clear hg8 hkp hv2 hv1 hy1 hy2 hb0 hb1 hK hR;obtain ⟨A8,c8,rfl,_⟩:=Rd.own hown8;refine zdd 6 (some 14) (v:=?v6) rfl rfl (by kernel_rfl) (by kernel_rfl) (by kernel_rfl) (fun _ _ _ h=>h) (by rfl) ?y6 ?r6;case y6=>(intro w;go_simp;try with_reducible rfl)
    simp only [Act.put,List.setIfInBounds_toArray,List.set_cons_zero,List.set_cons_succ];have x0:=hb18.c1;have fx:=hb18.fz;refine wpAny_ready (rs:=[7]) (by kernel_rfl) (by simp) ?_;refine AllReady.cons rfl (fun K hK'=>?_) AllReady.nil;go_simp;refine hK' _ _ ?_;clear hK' K;refine wpAny_done (by kernel_rfl) ?_ _;have hR9:=hR8.set (a:=⟨B + 1,0,none⟩) (show g<B + 1 by omega) (.slice A8 (acc.length + 1) c8);have hK9:=hK8.set (a:=⟨B + 1,0,none⟩) (show B≤B + 1 by omega) (.slice A8 (acc.length + 1) c8);have hb09:=hb08.other (a:=⟨B + 1,0,none⟩) (show B≠B + 1 by omega) (.slice A8 (acc.length + 1) c8);have hb19:Bk _ (B + 1) #[.slice A8 (acc.length + 1) c8] 92:=hb18.set 0 (.slice A8 (acc.length + 1) c8);have hv29:=hv28.keep (keeps3_set (a:=⟨B + 1,0,none⟩) (show B + 1<B + 2 by omega) (.slice A8 (acc.length + 1) c8));have hv19:=zai (a:=⟨B + 1,0,none⟩) hown8 (show B + 1<B + 2 by omega) (.slice A8 (acc.length + 1) c8);clear hR8 hK8 hb08 hb18 hv28 hown8 x0 fx;generalize W8.setCell ⟨B + 1,0,none⟩ (.slice A8 (acc.length + 1) c8)=W9 at *
    go_wp2_with fail
    refine ⟨⟨acc ++ [x],l5,_,hb19,⟨_,?_,hv29⟩,hR9,hK9,hb09,HP,?_⟩,?_⟩
    · rw [List.length_append];exact hv19
    · rw [List.length_append,List.length_singleton];omega
    · rw [hR9.left,hlf];exact hlen
end
theorem catch_idle (p q r:Addr) (w:World) :
 CallsD Tryz.prog 123 #[.pointer (some p),.pointer (some q),.pointer (some r)] .returning w fun e u' w'=>e = .returned (.tuple #[])∧u' = .returning∧w'=w:=by
 refine callsD_of_wpS Tryz.func123 rfl fun c₀ cs hu=>?_;apply wpS_seq;apply wpS_region;simp [wpOpsS,go_sem,recoverD,hu,Exit.thenS,Tryz.ntmps123];rw [show (#[.pointer (some p),.pointer (some q),.pointer (some r)]:Array Value) ++ ((Array.replicate 19 undef).setIfInBounds 3 (.nilIface)).setIfInBounds 0 (.nilIface)=#[.pointer (some p),.pointer (some q),.pointer (some r),.nilIface,undef,undef,.nilIface,undef,undef,undef,undef,undef,undef,undef,undef,undef,undef,undef,undef,undef,undef,undef] from by kernel_rfl];refine wpS_of_wp ?_;go_wp2
 refine ⟨rfl,.returning,by rw [←hu],.tuple #[],?_,rfl,rfl,rfl⟩;simp [results,Tryz.results123,go_sem]
theorem zic (x y:Value) (W:World):(Instr.typeAssert (.iface 218 (.agg #[x,y])) 20 218 true).run Tryz.prog W = .ok (.tuple #[.agg #[x,y],.bool true]) W:=by kernel_rfl
theorem catch_fault (c k:Nat) (bs be ba:Nat) (v0 v1 v2:Value) (w:World) (h0:Bk w bs #[v0] 92) (h1:Bk w be #[v1] 28) (h2:Bk w ba #[v2] 3) (n1:bs<be) (n2:be<ba) :
 CallsD Tryz.prog 123 #[.pointer (some ⟨bs,0,none⟩),.pointer (some ⟨be,0,none⟩),.pointer (some ⟨ba,0,none⟩)] (.panicking [{ v:=.iface 218 (.agg #[.int .i64 c,.int .i64 k]),recovered:=false }]) w fun e u' w' =>
  e = .returned (.tuple #[])∧u' = .panicking [{ v:=.iface 218 (.agg #[.int .i64 c,.int .i64 k]),recovered:=true }] ∧
  Bk w' bs #[.slice none 0 0] 92∧Bk w' be #[.int .i64 c] 28∧Bk w' ba #[.int .i64 k] 3∧Below bs w w':=by
 have f0:=Bk.new w #[.int .i64 c,.int .i64 k] 218;have l0:=h2.lt;have hb:Below bs w (w.alloc (.cells #[.int .i64 c,.int .i64 k] 218)):=(Below.refl _ w).alloc (by omega) _;have hS:w.heap.size≤(w.alloc (.cells #[.int .i64 c,.int .i64 k] 218)).heap.size:=size_alloc (Nat.le_refl _);have g0:=h0.alloc (.cells #[.int .i64 c,.int .i64 k] 218);have g1:=h1.alloc (.cells #[.int .i64 c,.int .i64 k] 218);have g2:=h2.alloc (.cells #[.int .i64 c,.int .i64 k] 218);refine callsD_of_wpS Tryz.func123 rfl fun c₀ cs hu=>?_;apply wpS_seq;apply wpS_region;simp [wpOpsS,go_sem,recoverD,hu,Exit.thenS,Tryz.ntmps123];rw [show (#[.pointer (some ⟨bs,0,none⟩),.pointer (some ⟨be,0,none⟩),.pointer (some ⟨ba,0,none⟩)]:Array Value) ++ ((Array.replicate 19 undef).setIfInBounds 3 (.iface 218 (.agg #[.int .i64 c,.int .i64 k]))).setIfInBounds 0 (.iface 218 (.agg #[.int .i64 c,.int .i64 k]))=#[.pointer (some ⟨bs,0,none⟩),.pointer (some ⟨be,0,none⟩),.pointer (some ⟨ba,0,none⟩),.iface 218 (.agg #[.int .i64 c,.int .i64 k]),undef,undef,.iface 218 (.agg #[.int .i64 c,.int .i64 k]),undef,undef,undef,undef,undef,undef,undef,undef,undef,undef,undef,undef,undef,undef,undef] from by kernel_rfl];refine wpS_of_wp ?_;have hta:=zic;go_wp2
 replace g0:Bk (w.alloc (.cells #[.int .i64 c,.int .i64 k] 218)).drew _ _ _:=g0;replace g1:Bk (w.alloc (.cells #[.int .i64 c,.int .i64 k] 218)).drew _ _ _:=g1;replace g2:Bk (w.alloc (.cells #[.int .i64 c,.int .i64 k] 218)).drew _ _ _:=g2;replace f0:Bk (w.alloc (.cells #[.int .i64 c,.int .i64 k] 218)).drew _ _ _:=f0;replace hb:=hb.drew;refine wp_region_held (S:=fun W=>W.cell? ⟨w.heap.size,0,none⟩=some (.int .i64 c)∧W.cell? ⟨w.heap.size,1,none⟩=some (.int .i64 k)) (by kernel_rfl) ?_;change wpAnyH _ _ _ _ _ _ _ _ (World.drew _);generalize (w.alloc (.cells #[.int .i64 c,.int .i64 k] 218)).drew=W at *
 have q0:=g0.c1;have q1:=g1.c1;have q2:=g2.c1;have z0:=g0.fz;have z1:=g1.fz;have z2:=g2.fz;have hSW:W.cell? ⟨w.heap.size,0,none⟩=some (.int .i64 c)∧W.cell? ⟨w.heap.size,1,none⟩=some (.int .i64 k):=f0.c2;have ne1:¬bs=be:=by omega
 have ne2:¬be=bs:=by omega
 have ne3:¬bs=ba:=by omega
 have ne4:¬ba=bs:=by omega
 have ne5:¬be=ba:=by omega
 have ne6:¬ba=be:=by omega
 refine zac 1 (some 18) (v:=?v1) rfl rfl (by kernel_rfl) (by kernel_rfl) (by kernel_rfl) (fun _ _ _ h=>h) (by rfl) ?y1 hSW ?r1;case y1=>(intro w hS;(try dsimp only at hS);go_simp;try with_reducible rfl)
 simp only [Act.put,List.setIfInBounds_toArray,List.set_cons_zero,List.set_cons_succ];refine zac 3 (some 20) (v:=?v3) rfl rfl (by kernel_rfl) (by kernel_rfl) (by kernel_rfl) (fun _ _ _ h=>h) (by rfl) ?y3 hSW ?r3;case y3=>(intro w hS;(try dsimp only at hS);go_simp;try with_reducible rfl)
 simp only [Act.put,List.setIfInBounds_toArray,List.set_cons_zero,List.set_cons_succ];refine zac 2 (some 19) (v:=?v2) rfl rfl (by kernel_rfl) (by kernel_rfl) (by kernel_rfl) (fun _ _ _ h=>h) (by rfl) ?y2 hSW ?r2;case y2=>(intro w hS;(try dsimp only at hS);go_simp;try with_reducible rfl)
 simp only [Act.put,List.setIfInBounds_toArray,List.set_cons_zero,List.set_cons_succ];refine zac 4 (some 21) (v:=?v4) rfl rfl (by kernel_rfl) (by kernel_rfl) (by kernel_rfl) (fun _ _ _ h=>h) (by rfl) ?y4 hSW ?r4;case y4=>(intro w hS;(try dsimp only at hS);go_simp;try with_reducible rfl)
 simp only [Act.put,List.setIfInBounds_toArray,List.set_cons_zero,List.set_cons_succ];refine za2 0 rfl (by kernel_rfl) ?_;intro K hK;go_simp;refine hK _ _ hSW ?_;clear hK K;refine za2 5 rfl (by kernel_rfl) ?_;intro K hK;go_simp;have f1:=f0.other (a:=⟨bs,0,none⟩) (show w.heap.size≠bs by omega) (.slice none 0 0);refine hK _ _ f1.c2 ?_;clear hK K;refine za2 6 rfl (by kernel_rfl) ?_;intro K hK;go_simp;have f2:=f1.other (a:=⟨be,0,none⟩) (show w.heap.size≠be by omega) (.int .i64 c);refine hK _ _ f2.c2 ?_;clear hK K;refine za2 7 rfl (by kernel_rfl) ?_;intro K hK;go_simp;have f3:=f2.other (a:=⟨ba,0,none⟩) (show w.heap.size≠ba by omega) (.int .i64 k);refine hK _ _ f3.c2 ?_;clear hK K;refine wpAnyH_done (by kernel_rfl) ?_ _;refine ⟨rfl,_,rfl,.tuple #[],?_,rfl,rfl,?_,?_,?_,?_⟩
 · simp [results,Tryz.results123,go_sem]
 · exact (((g0.set 0 (.slice none 0 0)).other (a:=⟨be,0,none⟩) (show bs≠be by omega) (.int .i64 c)).other (a:=⟨ba,0,none⟩) (show bs≠ba by omega) (.int .i64 k))
 · exact (((g1.other (a:=⟨bs,0,none⟩) (show be≠bs by omega) (.slice none 0 0)).set 0 (.int .i64 c)).other (a:=⟨ba,0,none⟩) (show be≠ba by omega) (.int .i64 k))
 · exact (((g2.other (a:=⟨bs,0,none⟩) (show ba≠bs by omega) (.slice none 0 0)).other (a:=⟨be,0,none⟩) (show ba≠be by omega) (.int .i64 c)).set 0 (.int .i64 k))
 · refine Below.setCell (Below.setCell (Below.setCell hb ?_ _) ?_ _) ?_ _ <;> (dsimp only;omega)
def SPost (o:List TypP × Nat × Nat) (w:World) (e:Ending) (w':World):Prop :=
 ∃vt,e = .returned (.tuple #[.agg #[vt],.int .i64 o.2.1,.int .i64 o.2.2])∧VTyps w.heap.size w' vt o.1∧Below w.heap.size w w'
theorem Kp.belowG {g B:Nat} {w w':World} (h:Kp g B w w') (hg:B≤g):Below B w w':=⟨h.os,h.tape,h.output,h.size,fun k hk=>h.block k hk (by omega)⟩
theorem read_any {w:World} {A:Option Addr} {c:Nat} {l:List Tk} (hr:Rd w w.heap.size 3 A l.length c (tcells l)) (hf:Fine l) :
 Calls Tryz.prog 79 #[.slice A l.length c] w (SPost (outS (zdM l)) w):=by
 have hmf:∀(fn:Fn) (first cap:Array Value) (w:World),(Instr.makeFunc fn first cap).run Tryz.prog w = .ok (.func fn first cap) w:=fun _ _ _ _=>rfl;rw [zfi];change Calls _ _ _ _ (SPost (outS (zeR [] l)) w);go_enter_defers Tryz.func79,Tryz.ntmps79
 go_wp2_with fail
 have hA1:=(Bk.new w #[.slice none 0 0] 92);have hA2:=(Bk.new (w.alloc (.cells #[.slice none 0 0] 92)) #[.int .i64 0] 28);have hA3:=(Bk.new ((w.alloc (.cells #[.slice none 0 0] 92)).alloc (.cells #[.int .i64 0] 28)) #[.int .i64 0] 3);have hA4:=(Bk.new (((w.alloc (.cells #[.slice none 0 0] 92)).alloc (.cells #[.int .i64 0] 28)).alloc (.cells #[.int .i64 0] 3)) #[.slice A l.length c] 222);simp only [World.size_alloc] at hA2 hA3 hA4;have hb0:=((hA1.alloc (.cells #[.int .i64 0] 28)).alloc (.cells #[.int .i64 0] 3)).alloc (.cells #[.slice A l.length c] 222);have hb1:=(hA2.alloc (.cells #[.int .i64 0] 3)).alloc (.cells #[.slice A l.length c] 222);have hb2:=hA3.alloc (.cells #[.slice A l.length c] 222);have hB:Below w.heap.size w ((((w.alloc (.cells #[.slice none 0 0] 92)).alloc (.cells #[.int .i64 0] 28)).alloc (.cells #[.int .i64 0] 3)).alloc (.cells #[.slice A l.length c] 222)):=by
  refine Below.alloc (Below.alloc (Below.alloc (Below.alloc (Below.refl _ w) (Nat.le_refl _) _) ?_ _) ?_ _) ?_ _ <;> (simp only [World.size_alloc];omega)
 have hR:Rdr ((((w.alloc (.cells #[.slice none 0 0] 92)).alloc (.cells #[.int .i64 0] 28)).alloc (.cells #[.int .i64 0] 3)).alloc (.cells #[.slice A l.length c] 222)) (w.heap.size + 1 + 1 + 1) l:=⟨A,c,hA4,(hr.below hB).more (by omega),hf⟩;clear hA1 hA2 hA3 hA4;generalize (((w.alloc (.cells #[.slice none 0 0] 92)).alloc (.cells #[.int .i64 0] 28)).alloc (.cells #[.int .i64 0] 3)).alloc (.cells #[.slice A l.length c] 222)=W at *
 refine (schema_any hR).mono ?_;intro e W1 hp;obtain ⟨hk,hc⟩:=hp.cases_;have hlt:=hR.size;replace hb0:=hb0.kp hk (by omega);replace hb1:=hb1.kp hk (by omega);replace hb2:=hb2.kp hk (by omega);replace hB:=hB.trans (Kp.below hk (B':=w.heap.size) (by omega) (by omega));clear hp hk hR;rcases hc with ⟨k,p,hr,rfl⟩ | ⟨o,l1,v,hr,rfl,⟨vt,rfl,hv⟩,hR⟩
 · rw [hr];have kc:=catch_fault k p _ _ _ _ _ _ W1 hb0 hb1 hb2 (by omega) (by omega);clear hb0 hb1 hb2;go_wp2_with fail
   refine leaves_cons (f:=123) (args:=#[.pointer (some ⟨w.heap.size,0,none⟩),.pointer (some ⟨w.heap.size + 1,0,none⟩),.pointer (some ⟨w.heap.size + 1 + 1,0,none⟩)]) (by simp) (by simp [go_sem]) ?_;refine kc.mono ?_;rintro e u' w'' ⟨rfl,rfl,g0,g1,g2,hb⟩;have q0:=g0.c1;have q1:=g1.c1;have q2:=g2.c1;simp [Leaves,settle,results,Tryz.results79,go_sem,q0,q1,q2];exact ⟨.slice none 0 0,rfl,⟨[],World.ownsRow_nil _ _ _ _,rfl⟩,hB.trans hb⟩
 · rw [hr];have q0:=hb0.c1;have q1:=hb1.c1;have q2:=hb2.c1;have z0:=hb0.fz;have z1:=hb1.fz;have z2:=hb2.fz;have n1:¬w.heap.size=w.heap.size + 1:=by omega
   obtain ⟨A2,c2,rfl,_⟩:=Rd.own hv.choose_spec.1;go_wp2_with fail
   rw [hr];refine leaves_cons (f:=123) (args:=#[.pointer (some ⟨w.heap.size,0,none⟩),.pointer (some ⟨w.heap.size + 1,0,none⟩),.pointer (some ⟨w.heap.size + 1 + 1,0,none⟩)]) (by simp) (by simp [go_sem]) ?_;refine (catch_idle _ _ _ _).mono ?_;rintro e u' w'' ⟨rfl,rfl,rfl⟩;simp [Leaves,settle,results,Tryz.results79,go_sem,q0,q1,q2];obtain ⟨xs,h1,h2⟩:=hv;refine ⟨.slice A2 o.length c2,rfl,⟨xs,?_,?_⟩,?_⟩
   · refine zav (zai (zai (zai h1 ?_ _) ?_ _) ?_ _) (show w.heap.size≤W.heap.size by omega) <;> (dsimp only;omega)
   · exact TypsC.base (show w.heap.size≤W.heap.size by omega) (((h2.keep (keeps3_set (a:=⟨w.heap.size,0,none⟩) (by dsimp only;omega) _)).keep (keeps3_set (a:=⟨w.heap.size + 1,0,none⟩) (by dsimp only;omega) _)).keep (keeps3_set (a:=⟨w.heap.size + 1 + 1,0,none⟩) (by dsimp only;omega) _))
   · refine Below.setCell (Below.setCell (Below.setCell hB ?_ _) ?_ _) ?_ _ <;> (dsimp only;omega)
end Go.Proofs.YtahegpfdbgbioaaGreat
