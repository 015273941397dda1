import Derived.Deep.Cut
import Derived.Test.YtiepddmagfmllaaGreatT01
import Derived.Test.YtiepddmagfmllaaGreatT06
set_option maxRecDepth 100000
set_option maxHeartbeats 4000000
namespace Go.Proofs.YtiepddmagfmllaaGreat
open Go.RowKit
def RelC (w:World) (B:Nat) (ys:List Value) (x:RelP):Prop:=∃vs vo,ys=[.string x.name,.string x.view,.string x.edit,.string x.check,vs,vo]∧VSubs B w vs x.subs∧VOps B w vo x.ops
def RelsC (w:World) (B:Nat):List RelP→List Value→Prop
 | [],xs=>xs=[]
 | x::r,xs=>∃ys zs,xs=ys ++ zs∧RelC w B ys x∧RelsC w B r zs
def Keeps (w w':World) (B:Nat):Prop:=(∀v n xs,w.ownsRow B 104 2 v n xs→w'.ownsRow B 104 2 v n xs)∧(∀v n xs,w.ownsRow B 132 3 v n xs→w'.ownsRow B 132 3 v n xs)
theorem RelC.keep {w w':World} {B:Nat} {ys:List Value} {x:RelP} (h:RelC w B ys x) (hk:Keeps w w' B):RelC w' B ys x:=by
 obtain ⟨vs,vo,e,h1,h2⟩:=h;exact ⟨vs,vo,e,hk.1 _ _ _ h1,hk.2 _ _ _ h2⟩
theorem RelsC.keep {w w':World} {B:Nat} (hk:Keeps w w' B):∀{l:List RelP} {xs:List Value},RelsC w B l xs→RelsC w' B l xs
 | [],_,h=>h
 | _::_,_,h=>by
  obtain ⟨ys,zs,e,h1,h2⟩:=h;exact ⟨ys,zs,e,h1.keep hk,RelsC.keep hk h2⟩
theorem RelsC.snoc {w:World} {B:Nat} {y:RelP} {ws:List Value} (hy:RelC w B ws y):∀{l:List RelP} {xs:List Value},RelsC w B l xs→RelsC w B (l ++ [y]) (xs ++ ws)
 | [],xs,h=>by
  have:xs=[]:=h;subst this;exact ⟨ws,[],by simp,hy,rfl⟩
 | x::r,xs,h=>by
  obtain ⟨ys,zs,e,h1,h2⟩:=h;exact ⟨ys,zs ++ ws,by rw [e,List.append_assoc],h1,RelsC.snoc hy h2⟩
def VRels (B:Nat) (w:World) (v:Value) (l:List RelP):Prop:=∃xs,w.ownsRow B 115 6 v l.length xs∧RelsC w B l xs
def VTyp (B:Nat) (w:World) (v:Value) (t:TypP):Prop:=∃vr,v = .agg #[.string t.name,vr]∧VRels B w vr t.rels
theorem zbf {w w':World} {B B2:Nat} {e e2:TypeId} {s s2 n n2:Nat} {u v:Value} {xs ys:List Value} (h:w.ownsRow B e s v n xs) (hu:w.ownsRow B2 e2 s2 u n2 ys) (hne:e≠e2) (hg:w.grownBy w' u.ownBlock):w'.ownsRow B e s v n xs:=by
 refine zaI h fun k hk=>hg.block k (h.lt k hk).2 fun hk2=>?_;rcases h.2 with ⟨rfl,_⟩ | ⟨g,cap,cur,rfl,_,hh,_⟩
 · simp [Value.ownBlock] at hk
 rcases hu.2 with ⟨rfl,_⟩ | ⟨g2,cap2,cur2,rfl,_,hh2,_⟩
 · simp [Value.ownBlock] at hk2
 simp only [Value.ownBlock,Option.some.injEq] at hk hk2;subst hk;subst hk2;rw [hh] at hh2;injection hh2 with hh2
 injection hh2 with _ h3 _
 exact hne h3
theorem keeps_kp {g B:Nat} {w w':World} (hk:Kp g w.heap.size w w') (hg:g<B):Keeps w w' B:=⟨fun _ _ _ h=>zaM h hk hg,fun _ _ _ h=>zaM h hk hg⟩
theorem keeps_set {B:Nat} {w:World} {a:Addr} (ha:a.block<B) (u:Value):Keeps w (w.setCell a u) B:=⟨fun _ _ _ h=>zai h ha u,fun _ _ _ h=>zai h ha u⟩
theorem keeps_grown {w w':World} {B B2:Nat} {e2:TypeId} {s2 n2:Nat} {u:Value} {ys:List Value} {o:Obj} (hu:w.ownsRow B2 e2 s2 u n2 ys) (h1:104≠e2) (h2:132≠e2) (hg:(w.alloc o).grownBy w' u.ownBlock):Keeps w w' B :=
 ⟨fun _ _ _ h=>zbf (World.ownsRow.alloc h o) (World.ownsRow.alloc hu o) h1 hg,fun _ _ _ h=>zbf (World.ownsRow.alloc h o) (World.ownsRow.alloc hu o) h2 hg⟩
theorem Keeps.base {w:World} {B B':Nat} (h:B'≤B) {l:List RelP} {xs:List Value}:RelsC w B l xs→RelsC w B' l xs:=by
 intro hr;induction l generalizing xs with
 | nil=>exact hr
 | cons x r ih =>
  obtain ⟨ys,zs,e,⟨vs,vo,e2,h1,h2⟩,h3⟩:=hr;exact ⟨ys,zs,e,⟨vs,vo,e2,zav h1 h,zav h2 h⟩,ih h3⟩
theorem Kp.drew {g B:Nat} {w w':World} (h:Kp g B w w'):Kp g B w w'.drew:=h.trans ⟨rfl,rfl,rfl,Nat.le_refl _,fun _ _ _=>rfl⟩
theorem zbJ {w:World} {B:Nat} {e:TypeId} {s n:Nat} {v:Value} {xs:List Value} (h:w.ownsRow B e s v n xs):w.drew.ownsRow B e s v n xs:=zaI h fun _ _=>rfl
theorem keeps_drew (w:World) (B:Nat):Keeps w w.drew B:=⟨fun _ _ _ h=>zbJ h,fun _ _ _ h=>zbJ h⟩
theorem zf3 (a b c d:ByteArray) (p q:Option Addr) (m n r s:Nat):∀u ∈ [Value.string a,.string b,.string c,.string d,.slice p m r,.slice q n s],u.oneCell'=true:=by
 intro u hu;simp only [List.mem_cons,List.not_mem_nil,or_false] at hu;rcases hu with rfl | rfl | rfl | rfl | rfl | rfl <;> rfl
theorem Bk.grown {w w':World} {b base:Nat} {cs:Array Value} {t:TypeId} {e:TypeId} {size n:Nat} {v:Value} {xs:List Value} {o:Obj} (h:Bk w b cs t) (hg:(w.alloc o).grownBy w' v.ownBlock) (hown:w.ownsRow base e size v n xs) (hle:b<base):Bk w' b cs t:=by
 have:=h.lt;refine (hg.block b (by simp;omega) fun e=>?_).trans (h.alloc o);have:=(hown.lt b e.symm).1;omega
theorem info_rel:(Tryz.prog.info? 115).map (fun i=>(i.zero,i.size,i.bytes))=some (some (.agg #[.string .empty,.string .empty,.string .empty,.string .empty,.slice none 0 0,.slice none 0 0]),6,112):=by kernel_rfl
theorem info_typ:(Tryz.prog.info? 112).map (fun i=>(i.zero,i.size,i.bytes))=some (some (.agg #[.string .empty,.slice none 0 0]),2,40):=by kernel_rfl
theorem zeH (w:World) (a b c d e f:Value) (t:TypeId):∀j u,[a,b,c,d,e,f][j]? = some u→(w.alloc (.cells #[a,b,c,d,e,f] t)).cell? ((⟨w.heap.size,0,none⟩:Addr).add j)=some u:=by
 intro j u hj;rw [Addr.add_lit,cell_of_row _ _ _ _ _ _ (heap_alloc_new w _),Nat.zero_add];simpa using hj
def zho (acc:List RelP) (l:List Tk):Rs (List RelP):=zaH (zi9 acc l) fun rs r=>zaH (zaG (sg 125) r) fun _ r=>.ok (rs,r)
theorem zjx {s:ByteArray} {l:List Tk} (h:isT s l=true):(hdT l).2.1=s:=(of_decide_eq_true h).1
theorem isT_two {s s':ByteArray} {l:List Tk} (h:isT s l=true) (hne:s≠s'):isT s' l=false:=by
 cases h2:isT s' l with
 | false=>rfl
 | true=>exact absurd ((zjx h).symm.trans (zjx h2)) hne
theorem zmq {acc:List RelP} {l:List Tk} (h:isT (sg 125) l=true):zho acc l = .ok (acc,l.tail):=by
 unfold zho;rw [zdP,isT_two h (by decide),if_neg (by decide),zb8];unfold zaG;rw [if_pos h];rfl
theorem zkN {acc:List RelP} {l:List Tk} (h:isT (sg 125) l=false):zho acc l=zaH (relR l) fun x r=>zho (acc ++ [x]) r:=by
 rw [zmm];unfold zho;rw [zdP];cases hr:isT zgd l with
 | true =>
  rw [if_pos rfl];unfold zaG;rw [hr,if_pos rfl,zb8,zch]
 | false =>
  rw [if_neg (by decide),zb8];unfold zaG;rw [h,hr,if_neg (by decide)];rfl
theorem relR_len {l r:List Tk} {x:RelP} (h:relR l = .ok (x,r)):r.length<l.length:=by
 rw [zmm] at h;obtain ⟨a,m,h1,h2⟩:=zae h;have:=zat zb4 h1;have:=(zcp (f:=m.length + 1) (l:=m) (by omega)).2 _ _ h2;omega
def typT (l:List Tk):Rs TypP:=zaH (zaG zcr l) fun _ r=>zaH (zaR r) fun n r=>zaH (zaG (sg 123) r) fun _ r=>zaH (zho [] r) fun rs r=>.ok (⟨n,rs⟩,r)
section
variable {w:World} {g:Nat} {l:List Tk}
theorem typ_any (h:Rdr w g l):Calls Tryz.prog 122 #[.pointer (some ⟨g,0,none⟩)] w (Post (VTyp w.heap.size) w.heap.size w g (typT l)):=by
 suffices HH:∀R,To (Post (VTyp w.heap.size) w.heap.size w g (typT l)) R→Calls Tryz.prog 122 #[.pointer (some ⟨g,0,none⟩)] w R from HH _ fun _ _ h=>h
 intro R HP;have hg:=h.size;unfold typT at HP;go_enter Tryz.func122,Tryz.ntmps122
 go_wp2_with fail
 have hb0:=Bk.new w #[.string ⟨#[]⟩,.slice none 0 0] 112;have hR:=h.alloc (.cells #[.string ⟨#[]⟩,.slice none 0 0] 112);have hK:Kp g w.heap.size w _:=(Kp.refl g _ w).alloc (Nat.le_refl _) (.cells #[.string ⟨#[]⟩,.slice none 0 0] 112);clear h;generalize w.alloc (.cells #[.string ⟨#[]⟩,.slice none 0 0] 112)=W at *
 generalize w.heap.size=B at *
 refine (must_any hR zjk).mono ?_;intro e W1 hp;obtain ⟨hk,hc⟩:=hp.cases_;have hz:=Nat.le_of_lt hb0.lt;replace hK:=hK.trans (hk.more hz);replace hb0:=hb0.kp hk (by omega);clear hp hk hR hz;rcases hc with ⟨c,p,hr,rfl⟩ | ⟨_,l1,v,hr,rfl,rfl,hR⟩
 · go_wp2_with fail
   exact ⟨rfl,HP.bad hr hK⟩
 replace HP:=HP.bind hr;clear hr;go_wp2_with fail
 refine (rname_any hR).mono ?_;intro e W2 hp;obtain ⟨hk,hc⟩:=hp.cases_;have hz:=Nat.le_of_lt hb0.lt;replace hK:=hK.trans (hk.more hz);replace hb0:=hb0.kp hk (by omega);clear hp hk hR hz;rcases hc with ⟨c,p,hr,rfl⟩ | ⟨n,l2,v,hr,rfl,rfl,hR⟩
 · go_wp2_with fail
   exact ⟨rfl,HP.bad hr hK⟩
 replace HP:=HP.bind hr;clear hr;go_wp2_with fail
 have hBT:=hb0.lt;have hz:=Nat.le_of_lt hBT;have hb1:=Bk.new W2 #[.string n,.slice none 0 0] 112;replace hb0:=hb0.alloc (.cells #[.string n,.slice none 0 0] 112);replace hR:=hR.alloc (.cells #[.string n,.slice none 0 0] 112);replace hK:=hK.alloc hz (.cells #[.string n,.slice none 0 0] 112);clear hz;generalize W2.alloc (.cells #[.string n,.slice none 0 0] 112)=W3 at *
 generalize W2.heap.size=BT at *
 refine (must_any hR (zcH 123 (by decide))).mono ?_;intro e W4 hp;obtain ⟨hk,hc⟩:=hp.cases_;have hz:=Nat.le_of_lt hb0.lt;replace hK:=hK.trans (hk.more hz);replace hb0:=hb0.kp hk (by omega);replace hb1:=hb1.kp hk (by omega);clear hp hk hR hz;rcases hc with ⟨c,p,hr,rfl⟩ | ⟨_,l3,v,hr,rfl,rfl,hR⟩
 · go_wp2_with fail
   exact ⟨rfl,HP.bad hr hK⟩
 replace HP:=HP.bind hr;clear hr;go_wp2_with fail
 go_loopw [] (fun wr=>∃acc l4 vr,Bk wr BT #[.string n,vr] 112∧VRels (BT + 1) wr vr acc∧Rdr wr g l4∧Kp g B w wr∧Bk wr B #[.string ⟨#[]⟩,.slice none 0 0] 112∧To (Post (VTyp B) B w g (zaH (zho acc l4) fun rs r=>.ok (⟨n,rs⟩,r))) R∧acc.length + l4.length≤2000000) (fun wr=>left wr g)
 case atStart=>exact ⟨[],l3,_,hb1,⟨[],World.ownsRow_nil _ _ _ _,rfl⟩,hR,hK,hb0,HP,by have:=hR.few;simp;omega⟩
 case round =>
  clear HP hb0 hb1 hR hK;obtain ⟨acc,l4,vr,hb1,hv,hR,hK,hb0,HP,hl⟩:=hrel;have hlf:=hR.left;have km:=may_any hR (zcH 125 (by decide));cases hi:isT (sg 125) l4 with
  | true =>
   rw [hi,if_pos rfl] at km;rw [zmq hi,zb8] at HP;go_wp2_with fail
   refine km.mono ?_;rintro e W5 ⟨rfl,hR5,hk⟩;have hz:=Nat.le_of_lt hb0.lt;replace hK:=hK.trans (hk.more hz);replace hb0:=hb0.kp hk (by omega);replace hb1:=hb1.kp hk (by omega);obtain ⟨xs,hv1,hv2⟩:=hv;replace hv2:=hv2.keep (keeps_kp hk (by omega));replace hv1:=zaM hv1 hk (by omega);clear hk hR km hz;obtain ⟨A,c,rfl,_⟩:=Rd.own hv1;obtain ⟨x0,x1⟩:=hb1.c2;obtain ⟨y0,y1⟩:=hb0.c2;have fy:=hb0.fz;have hne:¬BT=B:=by omega
   have hne2:¬B=BT:=by omega
   go_wp2_with fail
   refine bodyPost_ret (v:=.agg #[.string n,.slice A acc.length c]) (by simp [results,Tryz.results122,go_sem,y0,y1];try rfl) rfl ?_;refine HP.ret rfl ?_ ⟨_,rfl,xs,?_,?_⟩ ?_
   · refine Kp.set (Kp.set hK ?_ _) ?_ _ <;> exact Nat.le_refl _
   · exact zav (zai (zai hv1 (show B<BT + 1 by omega) _) (show B<BT + 1 by omega) _) (show B≤BT + 1 by omega)
   · exact Keeps.base (show B≤BT + 1 by omega) ((hv2.keep (keeps_set (show B<BT + 1 by omega) _)).keep (keeps_set (show B<BT + 1 by omega) _))
   · refine Rdr.set (Rdr.set hR5 ?_ _) ?_ _ <;> exact hg
  | false =>
   rw [hi,if_neg (by decide)] at km;rw [zkN hi,zch] at HP;go_wp2_with fail
   refine km.mono ?_;rintro e W5 ⟨rfl,hR5,hk⟩;have hz:=Nat.le_of_lt hb0.lt;replace hK:=hK.trans (hk.more hz);replace hb0:=hb0.kp hk (by omega);replace hb1:=hb1.kp hk (by omega);obtain ⟨xs,hv1,hv2⟩:=hv;replace hv2:=hv2.keep (keeps_kp hk (by omega));replace hv1:=zaM hv1 hk (by omega);clear hk hR km hz;obtain ⟨A,c,rfl,_⟩:=Rd.own hv1;go_wp2_with fail
   replace hR5:=hR5.drew;replace hK:=hK.drew;replace hb0:Bk W5.drew _ _ _:=hb0;replace hb1:Bk W5.drew _ _ _:=hb1;replace hv2:=hv2.keep (keeps_drew W5 (BT + 1));replace hv1:=zbJ hv1;refine wp_region_any (by kernel_rfl) ?_;change wpAny _ _ _ _ _ _ _ (World.drew _);generalize W5.drew=W6 at *
   refine zc4 0 (some 14) (v:=?v0) rfl rfl (by kernel_rfl) (by kernel_rfl) (by kernel_rfl) (fun _ _ _ h=>h) (by rfl) ?y0 ?r0;case y0=>(intro w;go_simp;try with_reducible rfl)
   simp only [Act.put,List.setIfInBounds_toArray,List.set_cons_zero,List.set_cons_succ];refine zc4 2 (some 16) (v:=?v2) rfl rfl (by kernel_rfl) (by kernel_rfl) (by kernel_rfl) (fun _ _ _ h=>h) (by rfl) ?y2 ?r2;case y2=>(intro w;go_simp;try with_reducible rfl)
   simp only [Act.put,List.setIfInBounds_toArray,List.set_cons_zero,List.set_cons_succ];refine zhs 1 3 4 (some 15) (fun W=>W.cell? ⟨BT,1,none⟩=some (.slice A acc.length c)) (v:=?v1) rfl rfl rfl rfl (by kernel_rfl) (by kernel_rfl) (by kernel_rfl) (by decide) (by decide) (by decide) (by kernel_rfl) (by kernel_rfl) (by kernel_rfl) (by kernel_rfl) (by kernel_rfl) (by kernel_rfl) (by kernel_rfl) (by kernel_rfl) (by kernel_rfl) (by kernel_rfl) (fun _ _ _ h=>h) (by rfl) ?y1 (hb1.cell 1) ?r1;case y1=>(intro w hS;(try dsimp only at hS);go_simp;try with_reducible rfl)
   simp only [Act.put,List.setIfInBounds_toArray,List.set_cons_zero,List.set_cons_succ];intro K hK';go_simp;refine (relation_any hR5).mono ?_;intro e W7 hp;obtain ⟨hk,hc⟩:=hp.cases_;have hz:=Nat.le_of_lt hb0.lt;have hlt:=hb1.lt;replace hK:=hK.trans (hk.more hz);replace hb0:=hb0.kp hk (by omega);replace hb1:=hb1.kp hk (by omega);replace hv2:=hv2.keep (keeps_kp hk (by omega));replace hv1:=zaM hv1 hk (by omega);clear hp hk hR5 hz;rcases hc with ⟨c,p,hr,rfl⟩ | ⟨x,l5,v,hr,rfl,⟨vs,vo,rfl,hs1,hs2⟩,hR⟩
   · go_wp2_with fail
     exact ⟨rfl,HP.bad hr hK⟩
   replace HP:=HP.bind hr;have hlen:=relR_len hr;clear hr;have hs1':VSubs (BT + 1) W7 vs x.subs:=zav hs1 (by omega);have hs2':VOps (BT + 1) W7 vo x.ops:=zav hs2 (by omega);obtain ⟨As,cS,rfl,_⟩:=Rd.own hs1';obtain ⟨Ao,cO,rfl,_⟩:=Rd.own hs2';clear hs1 hs2;refine hK' _ _ (hb1.cell 1) ?_;clear hK' K;refine wpOp_step rfl fun K2 hK2=>?_;go_simp;refine hK2 _ _ ⟨zar (hb1.cell 1) _,?_⟩;clear hK2 K2;have hz7:BT + 1≤W7.heap.size:=hb1.lt;obtain ⟨i0,hi0,hz0,hz1,hz2⟩:=info_parts info_rel;have hlf6:=hR.few;refine wpAny_ready (rs:=[5]) (by kernel_rfl) (by simp) ?_;refine AllReady.cons rfl (fun K hK'=>?_) AllReady.nil;rw [if_pos (by rfl)];refine zbI _ (some 19) rfl (.tmp 15) (.tmp 18) 110 110 rfl (BT + 1) 115 i0 (.agg #[.string .empty,.string .empty,.string .empty,.string .empty,.slice none 0 0,.slice none 0 0]) 6 112 Tryz.underlying110 hi0 hz0 hz1 hz2 rfl (by decide) (.slice A acc.length c) acc.length xs rfl (World.ownsRow.alloc hv1 _) _ 1 [.string x.name,.string x.view,.string x.edit,.string x.check,.slice As x.subs.length cS,.slice Ao x.ops.length cO] rfl (Src.ofSlice _ Tryz.underlying110 _ 1 1 _ rfl (zeH _ _ _ _ _ _ _ _) (zf3 _ _ _ _ _ _ _ _ _ _)) (by simp only [maxLen];omega) (by omega) (size_alloc hz7) ?_;intro v8 W8 hown8 hg8;refine hK' _ _ ?_;clear hK' K;simp only [Act.put,List.setIfInBounds_toArray,List.set_cons_zero,List.set_cons_succ];have hR8:=zev (v:=.slice A acc.length c) hR hg8 hv1 (by omega);have hK8:=za7 (v:=.slice A acc.length c) hK hg8 hv1 (Nat.le_of_lt hb0.lt) (by omega)
   have hb08:=hb0.grown (v:=.slice A acc.length c) hg8 hv1 (by omega);have hb18:=hb1.grown (v:=.slice A acc.length c) hg8 hv1 (by omega);have hkp:=keeps_grown (B:=BT + 1) (u:=.slice A acc.length c) hv1 (by decide) (by decide) hg8;have hv28:=RelsC.snoc (y:=x) ⟨_,_,rfl,hkp.1 _ _ _ hs1',hkp.2 _ _ _ hs2'⟩ (hv2.keep hkp);clear hg8 hkp hv2 hv1 hs1' hs2' hb0 hb1 hK hR;obtain ⟨A8,c8,rfl,_⟩:=Rd.own hown8;refine zc4 6 (some 20) (v:=?v6) rfl rfl (by kernel_rfl) (by kernel_rfl) (by kernel_rfl) (fun _ _ _ h=>h) (by rfl) ?y6 ?r6;case y6=>(intro w;go_simp;try with_reducible rfl)
   simp only [Act.put,List.setIfInBounds_toArray,List.set_cons_zero,List.set_cons_succ];obtain ⟨x0,x1⟩:=hb18.c2;have fx:=hb18.fz;refine wpAny_ready (rs:=[7]) (by kernel_rfl) (by simp) ?_;refine AllReady.cons rfl (fun K hK'=>?_) AllReady.nil;go_simp;refine hK' _ _ ?_;clear hK' K;refine wpAny_done (by kernel_rfl) ?_ _;have hR9:=hR8.set (a:=⟨BT,1,none⟩) (show g<BT by omega) (.slice A8 (acc.length + 1) c8);have hK9:=hK8.set (a:=⟨BT,1,none⟩) (show B≤BT by omega) (.slice A8 (acc.length + 1) c8);have hb09:=hb08.other (a:=⟨BT,1,none⟩) (show B≠BT by omega) (.slice A8 (acc.length + 1) c8);have hb19:Bk _ BT #[.string n,.slice A8 (acc.length + 1) c8] 112:=hb18.set 1 (.slice A8 (acc.length + 1) c8);have hv29:=hv28.keep (keeps_set (a:=⟨BT,1,none⟩) (show BT<BT + 1 by omega) (.slice A8 (acc.length + 1) c8));have hv19:=zai (a:=⟨BT,1,none⟩) hown8 (show BT<BT + 1 by omega) (.slice A8 (acc.length + 1) c8);clear hR8 hK8 hb08 hb18 hv28 hown8 x0 x1 fx;generalize W8.setCell ⟨BT,1,none⟩ (.slice A8 (acc.length + 1) c8)=W9 at *
   go_wp2_with fail
   refine ⟨⟨acc ++ [x],l5,_,hb19,⟨_,?_,hv29⟩,hR9,hK9,hb09,HP,?_⟩,?_⟩
   · rw [List.length_append];exact hv19
   · rw [List.length_append,List.length_singleton];omega
   · rw [hR9.left,hlf];exact hlen
end
end Go.Proofs.YtiepddmagfmllaaGreat
namespace Go.Proofs.YtiepddmagfmllaaGreat
open Go.RowKit
open Go.RowKit
def zaT (e:Ed):List Value:=[.int .i64 e.1,.int .i64 e.2.1,.bool e.2.2]
def zan (l:List Ed):List Value:=l.flatMap zaT
def ints (L:List Nat):List Value:=L.map fun (k:Nat)=>Value.int .i64 (k:Int)
def bools (s:List Bool):Array Value:=(s.map Value.bool).toArray
theorem zek (a b:List Nat):ints (a ++ b)=ints a ++ ints b:=List.map_append
theorem zdI (L:List Nat):∀u ∈ ints L,u.oneCell'=true:=by
 intro u hu;obtain ⟨k,_,rfl⟩:=List.mem_map.1 hu;rfl
theorem zb1 (e:Ed):∀u ∈ zaT e,u.oneCell'=true:=by
 intro u hu;simp only [zaT,List.mem_cons,List.not_mem_nil,or_false] at hu;rcases hu with rfl | rfl | rfl <;> rfl
theorem zby (l:List Ed):∀u ∈ zan l,u.oneCell'=true:=by
 intro u hu;obtain ⟨e,_,he⟩:=List.mem_flatMap.1 hu;exact zb1 e u he
theorem zeK (l:List Ed):(zan l).length=l.length * 3:=by
 induction l with
 | nil=>rfl
 | cons a t ih=>rw [zan,List.flatMap_cons,List.length_append,←zan,ih];simp [zaT];omega
theorem zeJ (a b:List Ed):zan (a ++ b)=zan a ++ zan b:=List.flatMap_append
theorem zgq {l:List Ed} {i:Nat} {e:Ed} (h:l[i]? = some e):(zan l)[i * 3]? = some (.int .i64 e.1)∧(zan l)[i * 3 + 1]? = some (.int .i64 e.2.1)∧(zan l)[i * 3 + 2]? = some (.bool e.2.2):=by
 induction l generalizing i with
 | nil=>simp at h
 | cons a t ih =>
  rw [zan,List.flatMap_cons,←zan];cases i with
  | zero =>
   simp only [List.getElem?_cons_zero,Option.some.injEq] at h;subst h;exact ⟨rfl,rfl,rfl⟩
  | succ i =>
   obtain ⟨h1,h2,h3⟩:=ih (by simpa using h);have e1:(i + 1) * 3=i * 3 + 3:=by omega
   have e0:(zaT a).length=3:=rfl;rw [e1];refine ⟨?_,?_,?_⟩
   · rw [List.getElem?_append_right (by omega),e0,←h1];rfl
   · rw [List.getElem?_append_right (by omega),e0,←h2];congr 1
   · rw [List.getElem?_append_right (by omega),e0,←h3];congr 1
structure Gr (w:World) (B:Nat) (A:Option Addr) (c n:Nat) (l:List Ed):Prop where
 one:∃vs,Rd w B 1 A n c vs∧∀i,i<n→∃Ai ci,vs[i]? = some (.slice Ai (outE l i).length ci)∧Rd w B 3 Ai (outE l i).length ci (zan (outE l i))
 inr:InR n l
 few:n≤4096
theorem Gr.below {w w':World} {B n c:Nat} {A:Option Addr} {l:List Ed} (h:Gr w B A c n l) (hb:Below B w w'):Gr w' B A c n l:=by
 obtain ⟨⟨vs,h1,h2⟩,h3,h4⟩:=h;exact ⟨⟨vs,h1.below hb,fun i hi=>by obtain ⟨Ai,ci,e,r⟩:=h2 i hi;exact ⟨Ai,ci,e,r.below hb⟩⟩,h3,h4⟩
theorem Gr.more {w:World} {B B' n c:Nat} {A:Option Addr} {l:List Ed} (h:Gr w B A c n l) (hb:B≤B'):Gr w B' A c n l:=by
 obtain ⟨⟨vs,h1,h2⟩,h3,h4⟩:=h;exact ⟨⟨vs,h1.more hb,fun i hi=>by obtain ⟨Ai,ci,e,r⟩:=h2 i hi;exact ⟨Ai,ci,e,r.more hb⟩⟩,h3,h4⟩
structure Od (w:World) (M go:Nat) (L:List Nat):Prop where
 one:∃v,Bk w go #[v] 32∧w.ownsRow M 3 1 v L.length (ints L)
 ge:M≤go
theorem zdH:(Tryz.prog.info? 3).map (fun i=>(i.zero,i.size,i.bytes))=some (some (.int .i64 0),1,8):=by kernel_rfl
theorem zbn (w:World) (a:Value) (t:TypeId):∀j u,[a][j]? = some u→(w.alloc (.cells #[a] t)).cell? ((⟨w.heap.size,0,none⟩:Addr).add j)=some u:=by
 intro j u hj;rw [Addr.add_lit,cell_of_row _ _ _ _ _ _ (heap_alloc_new w _),Nat.zero_add];simpa using hj
def Bt (w w':World):Prop:=∀t b cs,t≠3→t≠32→Bk w b cs t→Bk w' b cs t
def Bw (w w':World):Prop:=∀t b cs,t≠3→t≠32→t≠4→Bk w b cs t→Bk w' b cs t
theorem Bt.bw {w w':World} (h:Bt w w'):Bw w w':=fun t b cs h1 h2 _ hb=>h t b cs h1 h2 hb
theorem Bw.refl (w:World):Bw w w:=fun _ _ _ _ _ _ h=>h
theorem Bw.trans {w w' w'':World} (h:Bw w w') (k:Bw w' w''):Bw w w'':=fun t b cs h1 h2 h3 hb=>k t b cs h1 h2 h3 (h t b cs h1 h2 h3 hb)
theorem Bw.alloc {w w':World} (h:Bw w w') (o:Obj):Bw w (w'.alloc o):=fun t b cs h1 h2 h3 hb=>(h t b cs h1 h2 h3 hb).alloc o
theorem zdc {w:World} {B2 b:Nat} {cs:Array Value} {t e2:TypeId} {s2 n2:Nat} {u:Value} {ys:List Value} (h:Bk w b cs t) (hu:w.ownsRow B2 e2 s2 u n2 ys) (hne:t≠e2):u.ownBlock≠some b:=fun hk2=>by
 rcases hu.2 with ⟨rfl,_⟩ | ⟨g2,cap2,cur2,rfl,_,hh2,_⟩
 · simp [Value.ownBlock] at hk2
 simp only [Value.ownBlock,Option.some.injEq] at hk2;subst hk2;rw [show w.heap[g2]? = _ from h] at hh2;injection hh2 with hh2
 injection hh2 with _ h3 _
 exact hne h3
theorem zbh {w w':World} {B2 b:Nat} {cs:Array Value} {t e2:TypeId} {s2 n2:Nat} {u:Value} {ys:List Value} (h:Bk w b cs t) (hu:w.ownsRow B2 e2 s2 u n2 ys) (hne:t≠e2) (hg:w.grownBy w' u.ownBlock):Bk w' b cs t :=
 (hg.block b h.lt fun hk2=>zdc h hu hne hk2.symm).trans h
section
variable {w:World} {M go:Nat} {L:List Nat}
theorem zdJ {w1:World} {v v1:Value} {k:Nat} {o:Obj} (hv:Bk w go #[v] 32) (hr:w.ownsRow M 3 1 v L.length (ints L)) (hM:M≤go) (hg1:(w.alloc o).grownBy w1 v.ownBlock) (hown1:w1.ownsRow M 3 1 v1 (L.length + 1) (ints L ++ [.int .i64 (k:Int)])) :
 Bk w1 go #[v] 32∧Od (w1.setCell ⟨go,0,none⟩ v1) M go (L ++ [k])∧Below M w (w1.setCell ⟨go,0,none⟩ v1)∧Bt w (w1.setCell ⟨go,0,none⟩ v1):=by
 have hr':=World.ownsRow.alloc hr o;have hb1:Bk w1 go #[v] 32:=zbh (hv.alloc o) hr' (by decide) hg1;have hlt:=hv.lt;have hbw:Below M w w1:=zak (((Below.refl _ w)).alloc (by omega) o) hg1 hr' (by simp;omega) (Nat.le_refl _);refine ⟨hb1,⟨⟨v1,?_,?_⟩,hM⟩,hbw.setCell hM _,fun t b cs ht1 ht2 hb=>?_⟩
 · have:=hb1.set 0 v1;simpa using this
 · rw [List.length_append,zek];refine zaI (n:=L.length + 1) (xs:=ints L ++ [.int .i64 (k:Int)]) hown1 fun g hg=>?_;have hne:g≠go:=fun e=>zdc hb1 hown1 (by decide) (e ▸ hg);exact Below.heap_setCell _ _ _ _ hne
 · have h2:=zbh (hb.alloc o) hr' ht1 hg1;refine h2.other (a:=⟨go,0,none⟩) (fun e=>?_) _;have e':b=go:=e;subst e';have:=hb.symm.trans hv;injection this with this
   injection this with _ h3 _
   exact ht2 h3
theorem leave1_any (h:Od w M go L) (k:Nat) (hl:L.length<1000000) :
 Calls Tryz.prog 87 #[.int .i64 (k:Int),.pointer (some ⟨go,0,none⟩)] w fun e w'=>e = .returned (.tuple #[])∧Od w' M go (L ++ [k])∧Below M w w'∧Bt w w':=by
 obtain ⟨⟨v,hv,hr⟩,hM⟩:=h;have c0:=hv.cell 0;have fz:=hv.fz 0;have hg:=hv.lt;obtain ⟨i0,hi,hz0,hz1,hz2⟩:=info_parts zdH;obtain ⟨A,c,rfl,_⟩:=Rd.own hr;have H:=Lib.hid hr;have V:=Lib.hid hv;clear hr hv;go_enter Tryz.func87,Tryz.ntmps87
 go_wp2_with (first
  | (at_builtin;go_loud (refine zab _ rfl (.tmp 3) (.tmp 5) 32 32 rfl M 3 i0 (.int .i64 0) 1 8 Tryz.underlying32 hi hz0 hz1 hz2 rfl (by decide) _ L.length (ints L) rfl (H.out.alloc _) _ 1 [.int .i64 (k:Int)] rfl (Src.ofSlice _ Tryz.underlying32 _ 1 1 _ rfl (zbn _ _ _) (zdI [k])) (by simp only [maxLen];omega) (by omega) (size_alloc (by omega)) ?_;intro v1 w1 hown1 hg1 hat1;obtain ⟨A1,c1,rfl,_⟩:=Rd.own hown1;have hcg:=(zdJ V.out H.out hM hg1 hown1).1;have cg:=hcg.cell 0;have fg:=hcg.fz 0)))
 go_end0
 exact ⟨rfl,(zdJ V.out H.out hM hg1 hown1).2⟩
theorem leave2_any (h:Od w M go L) (k:Nat) (hl:L.length<1000000) :
 Calls Tryz.prog 89 #[.int .i64 (k:Int),.pointer (some ⟨go,0,none⟩)] w fun e w'=>e = .returned (.tuple #[])∧Od w' M go (L ++ [k])∧Below M w w'∧Bt w w':=by
 obtain ⟨⟨v,hv,hr⟩,hM⟩:=h;have c0:=hv.cell 0;have fz:=hv.fz 0;have hg:=hv.lt;obtain ⟨i0,hi,hz0,hz1,hz2⟩:=info_parts zdH;obtain ⟨A,c,rfl,_⟩:=Rd.own hr;have H:=Lib.hid hr;have V:=Lib.hid hv;clear hr hv;go_enter Tryz.func89,Tryz.ntmps89
 go_wp2_with (first
  | (at_builtin;go_loud (refine zab _ rfl (.tmp 3) (.tmp 5) 32 32 rfl M 3 i0 (.int .i64 0) 1 8 Tryz.underlying32 hi hz0 hz1 hz2 rfl (by decide) _ L.length (ints L) rfl (H.out.alloc _) _ 1 [.int .i64 (k:Int)] rfl (Src.ofSlice _ Tryz.underlying32 _ 1 1 _ rfl (zbn _ _ _) (zdI [k])) (by simp only [maxLen];omega) (by omega) (size_alloc (by omega)) ?_;intro v1 w1 hown1 hg1 hat1;obtain ⟨A1,c1,rfl,_⟩:=Rd.own hown1;have hcg:=(zdJ V.out H.out hM hg1 hown1).1;have cg:=hcg.cell 0;have fg:=hcg.fz 0)))
 go_end0
 exact ⟨rfl,(zdJ V.out H.out hM hg1 hown1).2⟩
end
structure Sw (w:World) (M gs go n:Nat) (s:List Bool) (L:List Nat):Prop where
 seen:Bk w gs (bools s) 4
 od:Od w M go L
 len:s.length=n
theorem Gr.row {w:World} {B n c:Nat} {A:Option Addr} {l:List Ed} (h:Gr w B A c n l) {i:Nat} (hi:i<n) :
 ∃b o Ai ci,A=some ⟨b,o,none⟩∧b<B∧w.cell? ⟨b,o + i,none⟩=some (.slice Ai (outE l i).length ci)∧Rd w B 3 Ai (outE l i).length ci (zan (outE l i)):=by
 obtain ⟨⟨vs,h1,h2⟩,_,_⟩:=h;obtain ⟨Ai,ci,e,r⟩:=h2 i hi;obtain ⟨b,o,u,rfl,hb,hu,hc⟩:=h1.get hi;rw [e] at hu;cases hu;exact ⟨b,o,Ai,ci,rfl,hb,hc,r⟩
theorem zdA {w:World} {B n c:Nat} {A:Option Addr} {l:List Ed} (h:Rd w B 3 A n c (zan l)) {i:Nat} {e:Ed} (hi:l[i]? = some e) :
 ∃b o,A=some ⟨b,o,none⟩∧b<B∧w.cell? ⟨b,o + i * 3,none⟩=some (.int .i64 e.1)∧w.cell? ⟨b,o + i * 3 + 1,none⟩=some (.int .i64 e.2.1)∧w.cell? ⟨b,o + i * 3 + 2,none⟩=some (.bool e.2.2):=by
 have hn:0<n:=by
  have h1:=h.len;have h2:=zeK l;have h3:=(List.getElem?_eq_some_iff.1 hi).1;omega
 obtain ⟨b,o,e',hb,hc⟩:=h.at_ hn;obtain ⟨g0,g1,g2⟩:=zgq hi;exact ⟨b,o,e',hb,hc _ _ g0,by rw [Nat.add_assoc];exact hc _ _ g1,by rw [Nat.add_assoc];exact hc _ _ g2⟩
theorem zle (s:List Bool) (a:Nat):(bools s).setIfInBounds a (.bool true)=bools (s.set a true):=by
 unfold bools;apply Array.ext';simp [List.map_set]
theorem zed (s:List Bool) (a:Nat):(bools s)[a]? = s[a]?.map Value.bool:=by simp [bools]
theorem zgo (s:List Bool):(bools s).size=s.length:=by simp [bools]
theorem walk_any {n M0 M gs go c cs:Nat} {A:Option Addr} {l:List Ed} (fl:Nat) (hM:M0≤M) (hgs:M0≤gs) (hgg:gs≠go)
 (eg:∀args w,(callFunc fl args).run Tryz.prog w = .ok (.enter fl args) w)
 (hL:∀(w:World) (L:List Nat) (k:Nat),Od w M go L→L.length<1000000→Calls Tryz.prog fl #[.int .i64 (k:Int),.pointer (some ⟨go,0,none⟩)] w fun e w'=>e = .returned (.tuple #[])∧Od w' M go (L ++ [k])∧Below M w w'∧Bt w w') (k:Nat) :
 ∀{w:World} {s:List Bool} {L:List Nat} {a:Nat},s.count false≤k→a<n→Gr w M0 A c n l→Sw w M gs go n s L→L.length + s.count false≤4096 →
  Calls Tryz.prog 86 #[.slice A n c,.slice (some ⟨gs,0,none⟩) n cs,.int .i64 (a:Int),.func (.func fl) #[] #[.pointer (some ⟨go,0,none⟩)]] w fun e w' =>
   e = .returned (.tuple #[])∧∃s' L',Walks (goE l) s [a] s' L'∧Sw w' M gs go n s' (L ++ L')∧Kp gs M w w'∧Bw w w':=by
 induction k with
 | zero =>
  intro w s L a hk ha hG hS _;have hsa:s[a]? = some true:=by
   have hlt:a<s.length:=by rw [hS.len];exact ha
   rw [List.getElem?_eq_getElem hlt];cases hb:s[a] with
   | true=>rfl
   | false =>
    have:=List.count_pos_iff.2 (hb ▸ List.getElem_mem hlt);omega
  have c0:=hS.seen.cell a;rw [zed,hsa] at c0;have ha':(a:Int)<(n:Int):=by omega
  go_enter Tryz.func86,Tryz.ntmps86
  go_wp2_with fail
  refine bodyPost_ret (results_none rfl _ _ _) rfl ?_;exact ⟨rfl,s,[],.old hsa (.nil s),by rw [List.append_nil];exact hS,Kp.refl _ _ _,Bw.refl _⟩
 | succ k ih =>
  intro w s L a hk ha hG hS hf;have hlt:a<s.length:=by rw [hS.len];exact ha
  have ha':(a:Int)<(n:Int):=by omega
  have c0:=hS.seen.cell a;have fz:=hS.seen.fz a;have hgl:=hS.seen.lt;rw [zed] at c0;cases hsa:s[a]? with
  | none=>rw [List.getElem?_eq_none_iff] at hsa;omega
  | some b =>
  cases b with
  | true =>
   rw [hsa] at c0;go_enter Tryz.func86,Tryz.ntmps86
   go_wp2_with fail
   refine bodyPost_ret (results_none rfl _ _ _) rfl ?_;exact ⟨rfl,s,[],.old hsa (.nil s),by rw [List.append_nil];exact hS,Kp.refl _ _ _,Bw.refl _⟩
  | false =>
   rw [hsa] at c0;go_enter Tryz.func86,Tryz.ntmps86
   go_upto_region 2 with (fail)
   have hcs:=zhH hsa;have hB0:Below M0 w (w.setCell ⟨gs,a,none⟩ (.bool true)):=(Below.refl M0 w).setCell hgs _;have hS1:Sw (w.setCell ⟨gs,a,none⟩ (.bool true)) M gs go n (s.set a true) L:=by
    refine ⟨?_,⟨?_,hS.od.ge⟩,by rw [List.length_set];exact hS.len⟩
    · have:=hS.seen.set a (.bool true);rwa [zle] at this
    · obtain ⟨v,hv,hr⟩:=hS.od.one;refine ⟨v,hv.other (a:=⟨gs,a,none⟩) (fun e=>hgg e.symm) _,zaI hr fun g hg=>Below.heap_setCell _ _ _ _ ?_⟩;exact fun e=>zdc hS.seen hr (by decide) ((show g=gs from e) ▸ hg)
   have hK1:Kp gs M w (w.setCell ⟨gs,a,none⟩ (.bool true)):=⟨rfl,rfl,rfl,by simp [World.setCell],fun g _ hg=>Below.heap_setCell _ _ _ _ hg⟩;have hW1:Bw w (w.setCell ⟨gs,a,none⟩ (.bool true)):=fun t b cs _ _ ht hb=>hb.other (a:=⟨gs,a,none⟩) (fun e=>by
    have e':b=gs:=e;subst e';have:=hb.symm.trans hS.seen;injection this with this
    injection this with _ h3 _
    exact ht h3) _
   have hG1:=hG.below hB0;clear hG hS c0 fz hgl;generalize w.setCell ⟨gs,a,none⟩ (.bool true)=w1 at *
   obtain ⟨b,o,Ai,ci,rfl,hb,hc,hR⟩:=hG1.row ha;have hlE:((outE l a).length:Int)≤9223372036854775807:=by have:=hR.cap;have:=hR.capm;simp only [maxLen] at this;omega
   go_wp2_with fail
   go_loopw [22] (fun vi wx=>∃(j:Nat) (s':List Bool) (L':List Nat),vi = .int .i64 j∧j≤(outE l a).length∧Walks (goE l) (s.set a true) ((goE l a).take j) s' L'∧Sw wx M gs go n s' (L ++ L')∧Kp gs M w1 wx∧Bw w1 wx) (fun vi _=>(outE l a).length-(intOf vi).toNat)
   case atStart=>exact ⟨0,_,[],rfl,Nat.zero_le _,.nil _,by rw [List.append_nil];exact hS1,Kp.refl _ _ _,Bw.refl _⟩
   case round =>
    obtain ⟨j,s',L',rfl,hj,hW,hS,hK,hV⟩:=hrel;have hcf:=hW.cf;have hGr:=hG1.below (hK.below hM hgs);by_cases hlt2:j<(outE l a).length
    · have hj':(j:Int)<((outE l a).length:Int):=by omega
      obtain ⟨e,he⟩:∃e,(outE l a)[j]? = some e:=⟨_,List.getElem?_eq_getElem hlt2⟩;have hel:=(zem.1 (List.mem_of_getElem? he)).1;have hte:e.2.1=((tt e:Nat):Int):=by have:=hG1.inr e hel;unfold tt;omega
      have htn:=hG1.inr.tt hel;have hgo:(goE l a)[j]? = some (tt e):=by unfold goE;rw [List.getElem?_map,he];rfl
      obtain ⟨b2,o2,rfl,hb2,c0,c1,c2⟩:=zdA (hR.below (hK.below hM hgs)) he;rw [hte] at c1;have hwl:M0≤wr.heap.size:=by have:=hK.size;have:=hS.od.ge;obtain ⟨v,hv,_⟩:=hS.od.one;have:=hv.lt;omega
      go_upto_region 5 with (fail)
      have hS2:Sw (wr.alloc (.cells #[.int .i64 e.1,.int .i64 ((tt e:Nat):Int),.bool e.2.2] 117)) M gs go n s' (L ++ L'):=by
       obtain ⟨v,hv,hr⟩:=hS.od.one;exact ⟨hS.seen.alloc _,⟨⟨v,hv.alloc _,hr.alloc _⟩,hS.od.ge⟩,hS.len⟩
      have hMw:M≤wr.heap.size:=by obtain ⟨v,hv,_⟩:=hS.od.one;have:=hv.lt;have:=hS.od.ge;omega
      have hK2:=hK.alloc hMw (.cells #[.int .i64 e.1,.int .i64 ((tt e:Nat):Int),.bool e.2.2] 117);have hV2:=hV.alloc (.cells #[.int .i64 e.1,.int .i64 ((tt e:Nat):Int),.bool e.2.2] 117);have hGr2:=hG1.below (hK2.below hM hgs);have d1:=(Bk.new wr #[.int .i64 e.1,.int .i64 ((tt e:Nat):Int),.bool e.2.2] 117).cell 1;clear hS hK hV hGr c0 c1 c2;generalize wr.alloc (.cells #[.int .i64 e.1,.int .i64 ((tt e:Nat):Int),.bool e.2.2] 117)=w2 at *
      have kI:=ih (w:=w2) (s:=s') (L:=L ++ L') (a:=tt e) (by omega) htn hGr2 hS2 (by rw [List.length_append];omega);go_wp2_with fail
      refine kI.mono ?_;rintro e' w3 ⟨rfl,s3,L3,hW3,hS3,hK3,hV3⟩;go_wp2
      go_roundw
      case rel =>
       refine ⟨j + 1,s3,L' ++ L3,by simp,by omega,?_,by rw [←List.append_assoc];exact hS3,hK2.trans hK3,hV2.trans hV3⟩;rw [List.take_add_one,hgo];exact hW.app hW3
      case measure=>simp [intOf];omega
    · obtain rfl:j=(outE l a).length:=by omega
      have hj':¬((((outE l a).length:Nat):Int)<((outE l a).length:Int)):=by omega
      have hall:(goE l a).take (outE l a).length=goE l a:=List.take_of_length_le (by unfold goE;simp);rw [hall] at hW;have kL:=hL wr (L ++ L') a hS.od (by rw [List.length_append];omega);have kE:=eg #[.int .i64 (a:Int),.pointer (some ⟨go,0,none⟩)] wr;go_wp2_with fail
      refine kL.mono ?_;rintro e' w3 ⟨rfl,hO,hBw,hBt⟩;go_wp2
      go_end0
      refine ⟨rfl,s',L' ++ [a],?_,⟨hBt _ _ _ (by decide) (by decide) hS.seen,by rw [←List.append_assoc];exact hO,hS.len⟩,hK1.trans (hK.trans (Kp.of_below hBw _)),hW1.trans (hV.trans hBt.bw)⟩;exact .new hsa hW (.nil _)
end Go.Proofs.YtiepddmagfmllaaGreat
