import Derived.Test.YtiepddmagfmllaaGreatT07
set_option maxRecDepth 100000
set_option maxHeartbeats 4000000
namespace Go.Proofs.YtiepddmagfmllaaGreat
open Go.RowKit
open Go.RowKit
open Go.RowKit
def TypC (w:World) (B:Nat) (ys:List Value) (t:TypP):Prop:=∃vr,ys=[.string t.name,vr]∧VRels B w vr t.rels
def TypsC (w:World) (B:Nat):List TypP→List Value→Prop
 | [],xs=>xs=[]
 | x::r,xs=>∃ys zs,xs=ys ++ zs∧TypC w B ys x∧TypsC w B r zs
def Keeps3 (w w':World) (B:Nat):Prop:=Keeps w w' B∧∀v n xs,w.ownsRow B 115 6 v n xs→w'.ownsRow B 115 6 v n xs
theorem VRels.keep {w w':World} {B:Nat} (hk:Keeps3 w w' B) {v:Value} {l:List RelP} (h:VRels B w v l):VRels B w' v l:=by
 obtain ⟨xs,h1,h2⟩:=h;exact ⟨xs,hk.2 _ _ _ h1,h2.keep hk.1⟩
theorem TypsC.keep {w w':World} {B:Nat} (hk:Keeps3 w w' B):∀{l:List TypP} {xs:List Value},TypsC w B l xs→TypsC w' B l xs
 | [],_,h=>h
 | _::_,_,h=>by
  obtain ⟨ys,zs,e,⟨vr,e2,h1⟩,h2⟩:=h;exact ⟨ys,zs,e,⟨vr,e2,h1.keep hk⟩,TypsC.keep hk h2⟩
theorem TypsC.snoc {w:World} {B:Nat} {y:TypP} {ws:List Value} (hy:TypC w B ws y):∀{l:List TypP} {xs:List Value},TypsC w B l xs→TypsC w B (l ++ [y]) (xs ++ ws)
 | [],xs,h=>by
  have:xs=[]:=h;subst this;exact ⟨ws,[],by simp,hy,rfl⟩
 | x::r,xs,h=>by
  obtain ⟨ys,zs,e,h1,h2⟩:=h;exact ⟨ys,zs ++ ws,by rw [e,List.append_assoc],h1,TypsC.snoc hy h2⟩
theorem VRels.base {w:World} {B B':Nat} (h:B'≤B) {v:Value} {l:List RelP} (hr:VRels B w v l):VRels B' w v l:=by
 obtain ⟨xs,h1,h2⟩:=hr;exact ⟨xs,zav h1 h,Keeps.base h h2⟩
theorem TypsC.base {w:World} {B B':Nat} (h:B'≤B):∀{l:List TypP} {xs:List Value},TypsC w B l xs→TypsC w B' l xs
 | [],_,h=>h
 | _::_,_,hr=>by
  obtain ⟨ys,zs,e,⟨vr,e2,h1⟩,h2⟩:=hr;exact ⟨ys,zs,e,⟨vr,e2,h1.base h⟩,TypsC.base h h2⟩
def VTyps (B:Nat) (w:World) (v:Value) (l:List TypP):Prop:=∃xs,w.ownsRow B 112 2 v l.length xs∧TypsC w B l xs
def ziz (B:Nat) (w:World) (v:Value) (l:List TypP):Prop:=∃vt,v = .agg #[vt]∧VTyps B w vt l
theorem keeps3_kp {g B:Nat} {w w':World} (hk:Kp g w.heap.size w w') (hg:g<B):Keeps3 w w' B:=⟨keeps_kp hk hg,fun _ _ _ h=>zaM h hk hg⟩
theorem keeps3_below {B:Nat} {w w':World} (hk:Below w.heap.size w w'):Keeps3 w w' B:=⟨⟨fun _ _ _ h=>zag h hk,fun _ _ _ h=>zag h hk⟩,fun _ _ _ h=>zag h hk⟩
theorem keeps3_set {B:Nat} {w:World} {a:Addr} (ha:a.block<B) (u:Value):Keeps3 w (w.setCell a u) B:=⟨keeps_set ha u,fun _ _ _ h=>zai h ha u⟩
theorem ziN (w:World) (B:Nat):Keeps3 w w.drew B:=⟨keeps_drew w B,fun _ _ _ h=>zbJ h⟩
theorem keeps3_grown {w w':World} {B B2:Nat} {e2:TypeId} {s2 n2:Nat} {u:Value} {ys:List Value} {o:Obj} (hu:w.ownsRow B2 e2 s2 u n2 ys) (h1:104≠e2) (h2:132≠e2) (h3:115≠e2) (hg:(w.alloc o).grownBy w' u.ownBlock):Keeps3 w w' B :=
 ⟨keeps_grown hu h1 h2 hg,fun _ _ _ h=>zbf (World.ownsRow.alloc h o) (World.ownsRow.alloc hu o) h3 hg⟩
theorem zk1 (a:ByteArray) (p:Option Addr) (m r:Nat):∀u ∈ [Value.string a,.slice p m r],u.oneCell'=true:=by
 intro u hu;simp only [List.mem_cons,List.not_mem_nil,or_false] at hu;rcases hu with rfl | rfl <;> rfl
def zeB (acc:List TypP) (l:List Tk):Rs (List TypP):=zaH (zdd acc l) fun t r=>if (hdT r).1=3 then .ok (t,r) else ziB 30 r
theorem zk2 {acc:List TypP} {l:List Tk} (hf:Fine l) (h:(hdT l).1=3):zeB acc l = .ok (acc,l):=by
 have ht:isT zcr l=false:=by
  rw [hf.isT zjk];rcases hf.hd with h2 | ⟨h1,_⟩ | ⟨_,h0⟩
  · omega
  · omega
  · rw [h0];decide
 unfold zeB;rw [zcV,ht,if_neg (by decide),zb8,if_pos h]
theorem zjh {acc:List TypP} {l:List Tk} (h:¬(hdT l).1=3):zeB acc l=zaH (typT l) fun t r=>zeB (acc ++ [t]) r:=by
 unfold zeB;rw [zcV];cases ht:isT zcr l with
 | true =>
  rw [if_pos rfl];unfold typT;rw [show zaG zcr l = .ok ((),l.tail) from by unfold zaG;rw [ht,if_pos rfl],zb8];simp only [zch,zho,zb8]
 | false =>
  rw [if_neg (by decide),zb8,if_neg h];unfold typT;rw [show zaG zcr l=ziB 30 l from by unfold zaG;rw [ht,if_neg (by decide)]];rfl
theorem typT_len {l r:List Tk} {x:TypP} (h:typT l = .ok (x,r)):r.length<l.length:=by
 unfold typT at h;obtain ⟨_,m,h1,h⟩:=zae h;obtain ⟨_,m2,h2,h⟩:=zae h;obtain ⟨_,m3,h3,h⟩:=zae h;obtain ⟨_,m4,h4,h⟩:=zae h;unfold zho at h4;obtain ⟨_,m5,h5,h4⟩:=zae h4;obtain ⟨_,m6,h6,h4⟩:=zae h4;have a1:=zat zbW h1;have a2:=zau h2;have a3:=zat (zam _) h3;have a5:=zdN _ _ _ _ _ _ (by omega) h5;have a6:=zat (zam _) h6;cases h4;cases h;omega
section
variable {w:World} {g:Nat} {l:List Tk}
theorem Bk.c1 {w:World} {b:Nat} {x:Value} {t:TypeId} (h:Bk w b #[x] t):w.cell? ⟨b,0,none⟩=some x:=h.cell 0
theorem schema_any (h:Rdr w g l):Calls Tryz.prog 80 #[.pointer (some ⟨g,0,none⟩)] w (Post (ziz w.heap.size) w.heap.size w g (zeB [] l)):=by
 suffices HH:∀R,To (Post (ziz w.heap.size) w.heap.size w g (zeB [] l)) R→Calls Tryz.prog 80 #[.pointer (some ⟨g,0,none⟩)] w R from HH _ fun _ _ h=>h
 intro R HP;have hg:=h.size;go_enter Tryz.func80,Tryz.ntmps80
 go_wp2_with fail
 have hb0:=(Bk.new w #[.slice none 0 0] 70).alloc (.cells #[.slice none 0 0] 70);have hb1:Bk ((w.alloc (.cells #[.slice none 0 0] 70)).alloc (.cells #[.slice none 0 0] 70)) (w.heap.size + 1) #[.slice none 0 0] 70:=by have:=Bk.new (w.alloc (.cells #[.slice none 0 0] 70)) #[.slice none 0 0] 70;rwa [World.size_alloc] at this
 have hR:=(h.alloc (.cells #[.slice none 0 0] 70)).alloc (.cells #[.slice none 0 0] 70);have hK:Kp g w.heap.size w _:=((Kp.refl g _ w).alloc (Nat.le_refl _) (.cells #[.slice none 0 0] 70)).alloc (size_alloc (Nat.le_refl _)) (.cells #[.slice none 0 0] 70);clear h;generalize (w.alloc (.cells #[.slice none 0 0] 70)).alloc (.cells #[.slice none 0 0] 70)=W at *
 generalize w.heap.size=B at *
 obtain ⟨BT,hBT⟩:∃BT,BT=B + 1:=⟨_,rfl⟩;rw [←hBT] at hb1;go_loopw [] (fun wr=>∃acc l4 vr,Bk wr (B + 1) #[vr] 70∧VTyps (B + 2) wr vr acc∧Rdr wr g l4∧Kp g B w wr∧Bk wr B #[.slice none 0 0] 70∧To (Post (ziz B) B w g (zeB acc l4)) R∧acc.length + l4.length≤2000000) (fun wr=>left wr g)
 case atStart=>exact ⟨[],l,_,by rw [←hBT];exact hb1,⟨[],World.ownsRow_nil _ _ _ _,rfl⟩,hR,hK,hb0,HP,by have:=hR.few;simp;omega⟩
 case round =>
  clear HP hb0 hb1 hR hK;obtain ⟨acc,l4,vr,hb1,hv,hR,hK,hb0,HP,hl⟩:=hrel;have hlf:=hR.left;have hfine:=hR.fine;have f0:=tok_f0;have kf:=zb3 hR;obtain ⟨xs,hv1,hv2⟩:=hv;by_cases h3:(hdT l4).1=3
  · have d3:((((hdT l4).1:Nat):Int) == 3)=true:=by rw [beq_iff_eq];omega
    rw [zk2 hfine h3] at HP;generalize (hdT l4).1=z at *
    go_wp2_with fail
    refine kf.mono ?_;rintro e W5 ⟨rfl,hb⟩;have hR5:=hR.below hb;replace hK:=hK.trans ((Kp.of_below hb g).more (Nat.le_of_lt hb0.lt));replace hb0:=hb0.below hb;replace hb1:=hb1.below hb;replace hv2:=hv2.keep (keeps3_below hb);replace hv1:=zag hv1 hb;clear hb hR kf;obtain ⟨A,c,rfl,_⟩:=Rd.own hv1;have x0:=hb1.c1;have y0:=hb0.c1;have fy:=hb0.fz;have hne:¬B + 1=B:=by omega
    have hne2:¬B=B + 1:=by omega
    go_wp2_with fail
    refine bodyPost_ret (v:=.agg #[.slice A acc.length c]) (by simp [results,Tryz.results80,go_sem,y0];try rfl) rfl ?_;refine HP.ret rfl ?_ ⟨_,rfl,xs,?_,?_⟩ ?_
    · refine Kp.set hK ?_ _;exact Nat.le_refl _
    · exact zav (zai hv1 (show B<B + 2 by omega) _) (show B≤B + 2 by omega)
    · exact TypsC.base (show B≤B + 2 by omega) (hv2.keep (keeps3_set (show B<B + 2 by omega) _))
    · refine Rdr.set hR5 ?_ _;exact hg
  · have d3:((((hdT l4).1:Nat):Int) == 3)=false:=by rw [beq_eq_false_iff_ne];omega
    rw [zjh h3] at HP;generalize (hdT l4).1=z at *
    go_wp2_with fail
    refine kf.mono ?_;rintro e W5 ⟨rfl,hb⟩;have hR5:=hR.below hb;replace hK:=hK.trans ((Kp.of_below hb g).more (Nat.le_of_lt hb0.lt));replace hb0:=hb0.below hb;replace hb1:=hb1.below hb;replace hv2:=hv2.keep (keeps3_below hb);replace hv1:=zag hv1 hb;clear hb hR kf;obtain ⟨A,c,rfl,_⟩:=Rd.own hv1;go_wp2_with fail
    replace hR5:=hR5.drew;replace hK:=hK.drew;replace hb0:Bk W5.drew _ _ _:=hb0;replace hb1:Bk W5.drew _ _ _:=hb1;replace hv2:=hv2.keep (ziN W5 (B + 2));replace hv1:=zbJ hv1;refine wp_region_any (by kernel_rfl) ?_;change wpAny _ _ _ _ _ _ _ (World.drew _);generalize W5.drew=W6 at *
    refine zc4 0 (some 8) (v:=?v0) rfl rfl (by kernel_rfl) (by kernel_rfl) (by kernel_rfl) (fun _ _ _ h=>h) (by rfl) ?y0 ?r0;case y0=>(intro w;go_simp;try with_reducible rfl)
    simp only [Act.put,List.setIfInBounds_toArray,List.set_cons_zero,List.set_cons_succ];refine zc4 2 (some 10) (v:=?v2) rfl rfl (by kernel_rfl) (by kernel_rfl) (by kernel_rfl) (fun _ _ _ h=>h) (by rfl) ?y2 ?r2;case y2=>(intro w;go_simp;try with_reducible rfl)
    simp only [Act.put,List.setIfInBounds_toArray,List.set_cons_zero,List.set_cons_succ];refine zhs 1 3 4 (some 9) (fun W=>W.cell? ⟨B + 1,0,none⟩=some (.slice A acc.length c)) (v:=?v1) rfl rfl rfl rfl (by kernel_rfl) (by kernel_rfl) (by kernel_rfl) (by decide) (by decide) (by decide) (by kernel_rfl) (by kernel_rfl) (by kernel_rfl) (by kernel_rfl) (by kernel_rfl) (by kernel_rfl) (by kernel_rfl) (by kernel_rfl) (by kernel_rfl) (by kernel_rfl) (fun _ _ _ h=>h) (by rfl) ?y1 (hb1.cell 0) ?r1;case y1=>(intro w hS;(try dsimp only at hS);go_simp;try with_reducible rfl)
    simp only [Act.put,List.setIfInBounds_toArray,List.set_cons_zero,List.set_cons_succ];intro K hK';go_simp;refine (typ_any hR5).mono ?_;intro e W7 hp;obtain ⟨hk,hc⟩:=hp.cases_;have hz:=Nat.le_of_lt hb0.lt;have hlt:=hb1.lt;replace hK:=hK.trans (hk.more hz);replace hb0:=hb0.kp hk (by omega);replace hb1:=hb1.kp hk (by omega);replace hv2:=hv2.keep (keeps3_kp hk (by omega));replace hv1:=zaM hv1 hk (by omega);clear hp hk hR5 hz;rcases hc with ⟨c,p,hr,rfl⟩ | ⟨x,l5,v,hr,rfl,⟨vr,rfl,hs1⟩,hR⟩
    · go_wp2_with fail
      exact ⟨rfl,HP.bad hr hK⟩
    replace HP:=HP.bind hr;have hlen:=typT_len hr;clear hr;have hs1':VRels (B + 2) W7 vr x.rels:=hs1.base (by omega);obtain ⟨ys,hy1,hy2⟩:=hs1';obtain ⟨As,cS,rfl,_⟩:=Rd.own hy1;clear hs1;refine hK' _ _ (hb1.cell 0) ?_;clear hK' K;refine wpOp_step rfl fun K2 hK2=>?_;go_simp;refine hK2 _ _ ⟨zar (hb1.cell 0) _,?_⟩;clear hK2 K2;have hz7:B + 2≤W7.heap.size:=hb1.lt;obtain ⟨i0,hi0,hz0,hz1,hz2⟩:=info_parts info_typ;have hlf6:=hR.few;refine wpAny_ready (rs:=[5]) (by kernel_rfl) (by simp) ?_;refine AllReady.cons rfl (fun K hK'=>?_) AllReady.nil;rw [if_pos (by rfl)];refine zbI _ (some 13) rfl (.tmp 9) (.tmp 12) 68 68 rfl (B + 2) 112 i0 (.agg #[.string .empty,.slice none 0 0]) 2 40 Tryz.underlying68 hi0 hz0 hz1 hz2 rfl (by decide) (.slice A acc.length c) acc.length xs rfl (World.ownsRow.alloc hv1 _) _ 1 [.string x.name,.slice As x.rels.length cS] rfl (Src.ofSlice _ Tryz.underlying68 _ 1 1 _ rfl (zbo _ _ _ _) (zk1 _ _ _ _)) (by simp only [maxLen];omega) (by omega) (size_alloc hz7) ?_;intro v8 W8 hown8 hg8;refine hK' _ _ ?_;clear hK' K;simp only [Act.put,List.setIfInBounds_toArray,List.set_cons_zero,List.set_cons_succ];have hR8:=zev (v:=.slice A acc.length c) hR hg8 hv1 (by omega);have hK8:=za7 (v:=.slice A acc.length c) hK hg8 hv1 (Nat.le_of_lt hb0.lt) (by omega);have hb08:=hb0.grown (v:=.slice A acc.length c) hg8 hv1 (by omega);have hb18:=hb1.grown (v:=.slice A acc.length c) hg8 hv1 (by omega);have hkp:=keeps3_grown (B:=B + 2) (u:=.slice A acc.length c) hv1 (by decide) (by decide) (by decide) hg8
    have hv28:=TypsC.snoc (y:=x) ⟨_,rfl,VRels.keep hkp ⟨ys,hy1,hy2⟩⟩ (hv2.keep hkp);clear hg8 hkp hv2 hv1 hy1 hy2 hb0 hb1 hK hR;obtain ⟨A8,c8,rfl,_⟩:=Rd.own hown8;refine zc4 6 (some 14) (v:=?v6) rfl rfl (by kernel_rfl) (by kernel_rfl) (by kernel_rfl) (fun _ _ _ h=>h) (by rfl) ?y6 ?r6;case y6=>(intro w;go_simp;try with_reducible rfl)
    simp only [Act.put,List.setIfInBounds_toArray,List.set_cons_zero,List.set_cons_succ];have x0:=hb18.c1;have fx:=hb18.fz;refine wpAny_ready (rs:=[7]) (by kernel_rfl) (by simp) ?_;refine AllReady.cons rfl (fun K hK'=>?_) AllReady.nil;go_simp;refine hK' _ _ ?_;clear hK' K;refine wpAny_done (by kernel_rfl) ?_ _;have hR9:=hR8.set (a:=⟨B + 1,0,none⟩) (show g<B + 1 by omega) (.slice A8 (acc.length + 1) c8);have hK9:=hK8.set (a:=⟨B + 1,0,none⟩) (show B≤B + 1 by omega) (.slice A8 (acc.length + 1) c8);have hb09:=hb08.other (a:=⟨B + 1,0,none⟩) (show B≠B + 1 by omega) (.slice A8 (acc.length + 1) c8);have hb19:Bk _ (B + 1) #[.slice A8 (acc.length + 1) c8] 70:=hb18.set 0 (.slice A8 (acc.length + 1) c8);have hv29:=hv28.keep (keeps3_set (a:=⟨B + 1,0,none⟩) (show B + 1<B + 2 by omega) (.slice A8 (acc.length + 1) c8));have hv19:=zai (a:=⟨B + 1,0,none⟩) hown8 (show B + 1<B + 2 by omega) (.slice A8 (acc.length + 1) c8);clear hR8 hK8 hb08 hb18 hv28 hown8 x0 fx;generalize W8.setCell ⟨B + 1,0,none⟩ (.slice A8 (acc.length + 1) c8)=W9 at *
    go_wp2_with fail
    refine ⟨⟨acc ++ [x],l5,_,hb19,⟨_,?_,hv29⟩,hR9,hK9,hb09,HP,?_⟩,?_⟩
    · rw [List.length_append];exact hv19
    · rw [List.length_append,List.length_singleton];omega
    · rw [hR9.left,hlf];exact hlen
end
theorem catch_idle (p q r:Addr) (w:World) :
 CallsD Tryz.prog 79 #[.pointer (some p),.pointer (some q),.pointer (some r)] .returning w fun e u' w'=>e = .returned (.tuple #[])∧u' = .returning∧w'=w:=by
 refine callsD_of_wpS Tryz.func79 rfl fun c₀ cs hu=>?_;apply wpS_seq;apply wpS_region;simp [wpOpsS,go_sem,recoverD,hu,Exit.thenS,Tryz.ntmps79];rw [show (#[.pointer (some p),.pointer (some q),.pointer (some r)]:Array Value) ++ ((Array.replicate 19 undef).setIfInBounds 3 (.nilIface)).setIfInBounds 0 (.nilIface)=#[.pointer (some p),.pointer (some q),.pointer (some r),.nilIface,undef,undef,.nilIface,undef,undef,undef,undef,undef,undef,undef,undef,undef,undef,undef,undef,undef,undef,undef] from by kernel_rfl];refine wpS_of_wp ?_;go_wp2
 refine ⟨rfl,.returning,by rw [←hu],.tuple #[],?_,rfl,rfl,rfl⟩;simp [results,Tryz.results79,go_sem]
theorem zhF (x y:Value) (W:World):(Instr.typeAssert (.iface 181 (.agg #[x,y])) 20 181 true).run Tryz.prog W = .ok (.tuple #[.agg #[x,y],.bool true]) W:=by kernel_rfl
theorem catch_fault (c k:Nat) (bs be ba:Nat) (v0 v1 v2:Value) (w:World) (h0:Bk w bs #[v0] 70) (h1:Bk w be #[v1] 28) (h2:Bk w ba #[v2] 3) (n1:bs<be) (n2:be<ba) :
 CallsD Tryz.prog 79 #[.pointer (some ⟨bs,0,none⟩),.pointer (some ⟨be,0,none⟩),.pointer (some ⟨ba,0,none⟩)] (.panicking [{ v:=.iface 181 (.agg #[.int .i64 c,.int .i64 k]),recovered:=false }]) w fun e u' w' =>
  e = .returned (.tuple #[])∧u' = .panicking [{ v:=.iface 181 (.agg #[.int .i64 c,.int .i64 k]),recovered:=true }] ∧
  Bk w' bs #[.slice none 0 0] 70∧Bk w' be #[.int .i64 c] 28∧Bk w' ba #[.int .i64 k] 3∧Below bs w w':=by
 have f0:=Bk.new w #[.int .i64 c,.int .i64 k] 181;have l0:=h2.lt;have hb:Below bs w (w.alloc (.cells #[.int .i64 c,.int .i64 k] 181)):=(Below.refl _ w).alloc (by omega) _;have hS:w.heap.size≤(w.alloc (.cells #[.int .i64 c,.int .i64 k] 181)).heap.size:=size_alloc (Nat.le_refl _);have g0:=h0.alloc (.cells #[.int .i64 c,.int .i64 k] 181);have g1:=h1.alloc (.cells #[.int .i64 c,.int .i64 k] 181);have g2:=h2.alloc (.cells #[.int .i64 c,.int .i64 k] 181);refine callsD_of_wpS Tryz.func79 rfl fun c₀ cs hu=>?_;apply wpS_seq;apply wpS_region;simp [wpOpsS,go_sem,recoverD,hu,Exit.thenS,Tryz.ntmps79];rw [show (#[.pointer (some ⟨bs,0,none⟩),.pointer (some ⟨be,0,none⟩),.pointer (some ⟨ba,0,none⟩)]:Array Value) ++ ((Array.replicate 19 undef).setIfInBounds 3 (.iface 181 (.agg #[.int .i64 c,.int .i64 k]))).setIfInBounds 0 (.iface 181 (.agg #[.int .i64 c,.int .i64 k]))=#[.pointer (some ⟨bs,0,none⟩),.pointer (some ⟨be,0,none⟩),.pointer (some ⟨ba,0,none⟩),.iface 181 (.agg #[.int .i64 c,.int .i64 k]),undef,undef,.iface 181 (.agg #[.int .i64 c,.int .i64 k]),undef,undef,undef,undef,undef,undef,undef,undef,undef,undef,undef,undef,undef,undef,undef] from by kernel_rfl];refine wpS_of_wp ?_;have hta:=zhF;go_wp2
 replace g0:Bk (w.alloc (.cells #[.int .i64 c,.int .i64 k] 181)).drew _ _ _:=g0;replace g1:Bk (w.alloc (.cells #[.int .i64 c,.int .i64 k] 181)).drew _ _ _:=g1;replace g2:Bk (w.alloc (.cells #[.int .i64 c,.int .i64 k] 181)).drew _ _ _:=g2;replace f0:Bk (w.alloc (.cells #[.int .i64 c,.int .i64 k] 181)).drew _ _ _:=f0;replace hb:=hb.drew;refine wp_region_held (S:=fun W=>W.cell? ⟨w.heap.size,0,none⟩=some (.int .i64 c)∧W.cell? ⟨w.heap.size,1,none⟩=some (.int .i64 k)) (by kernel_rfl) ?_;change wpAnyH _ _ _ _ _ _ _ _ (World.drew _);generalize (w.alloc (.cells #[.int .i64 c,.int .i64 k] 181)).drew=W at *
 have q0:=g0.c1;have q1:=g1.c1;have q2:=g2.c1;have z0:=g0.fz;have z1:=g1.fz;have z2:=g2.fz;have hSW:W.cell? ⟨w.heap.size,0,none⟩=some (.int .i64 c)∧W.cell? ⟨w.heap.size,1,none⟩=some (.int .i64 k):=f0.c2;have ne1:¬bs=be:=by omega
 have ne2:¬be=bs:=by omega
 have ne3:¬bs=ba:=by omega
 have ne4:¬ba=bs:=by omega
 have ne5:¬be=ba:=by omega
 have ne6:¬ba=be:=by omega
 refine zaa 1 (some 18) (v:=?v1) rfl rfl (by kernel_rfl) (by kernel_rfl) (by kernel_rfl) (fun _ _ _ h=>h) (by rfl) ?y1 hSW ?r1;case y1=>(intro w hS;(try dsimp only at hS);go_simp;try with_reducible rfl)
 simp only [Act.put,List.setIfInBounds_toArray,List.set_cons_zero,List.set_cons_succ];refine zaa 3 (some 20) (v:=?v3) rfl rfl (by kernel_rfl) (by kernel_rfl) (by kernel_rfl) (fun _ _ _ h=>h) (by rfl) ?y3 hSW ?r3;case y3=>(intro w hS;(try dsimp only at hS);go_simp;try with_reducible rfl)
 simp only [Act.put,List.setIfInBounds_toArray,List.set_cons_zero,List.set_cons_succ];refine zaa 2 (some 19) (v:=?v2) rfl rfl (by kernel_rfl) (by kernel_rfl) (by kernel_rfl) (fun _ _ _ h=>h) (by rfl) ?y2 hSW ?r2;case y2=>(intro w hS;(try dsimp only at hS);go_simp;try with_reducible rfl)
 simp only [Act.put,List.setIfInBounds_toArray,List.set_cons_zero,List.set_cons_succ];refine zaa 4 (some 21) (v:=?v4) rfl rfl (by kernel_rfl) (by kernel_rfl) (by kernel_rfl) (fun _ _ _ h=>h) (by rfl) ?y4 hSW ?r4;case y4=>(intro w hS;(try dsimp only at hS);go_simp;try with_reducible rfl)
 simp only [Act.put,List.setIfInBounds_toArray,List.set_cons_zero,List.set_cons_succ];refine zaB 0 rfl (by kernel_rfl) ?_;intro K hK;go_simp;refine hK _ _ hSW ?_;clear hK K;refine zaB 5 rfl (by kernel_rfl) ?_;intro K hK;go_simp;have f1:=f0.other (a:=⟨bs,0,none⟩) (show w.heap.size≠bs by omega) (.slice none 0 0);refine hK _ _ f1.c2 ?_;clear hK K;refine zaB 6 rfl (by kernel_rfl) ?_;intro K hK;go_simp;have f2:=f1.other (a:=⟨be,0,none⟩) (show w.heap.size≠be by omega) (.int .i64 c);refine hK _ _ f2.c2 ?_;clear hK K;refine zaB 7 rfl (by kernel_rfl) ?_;intro K hK;go_simp;have f3:=f2.other (a:=⟨ba,0,none⟩) (show w.heap.size≠ba by omega) (.int .i64 k);refine hK _ _ f3.c2 ?_;clear hK K;refine wpAnyH_done (by kernel_rfl) ?_ _;refine ⟨rfl,_,rfl,.tuple #[],?_,rfl,rfl,?_,?_,?_,?_⟩
 · simp [results,Tryz.results79,go_sem]
 · exact (((g0.set 0 (.slice none 0 0)).other (a:=⟨be,0,none⟩) (show bs≠be by omega) (.int .i64 c)).other (a:=⟨ba,0,none⟩) (show bs≠ba by omega) (.int .i64 k))
 · exact (((g1.other (a:=⟨bs,0,none⟩) (show be≠bs by omega) (.slice none 0 0)).set 0 (.int .i64 c)).other (a:=⟨ba,0,none⟩) (show be≠ba by omega) (.int .i64 k))
 · exact (((g2.other (a:=⟨bs,0,none⟩) (show ba≠bs by omega) (.slice none 0 0)).other (a:=⟨be,0,none⟩) (show ba≠be by omega) (.int .i64 c)).set 0 (.int .i64 k))
 · refine Below.setCell (Below.setCell (Below.setCell hb ?_ _) ?_ _) ?_ _ <;> (dsimp only;omega)
def SPost (o:List TypP × Nat × Nat) (w:World) (e:Ending) (w':World):Prop :=
 ∃vt,e = .returned (.tuple #[.agg #[vt],.int .i64 o.2.1,.int .i64 o.2.2])∧VTyps w.heap.size w' vt o.1∧Below w.heap.size w w'
theorem Kp.belowG {g B:Nat} {w w':World} (h:Kp g B w w') (hg:B≤g):Below B w w':=⟨h.os,h.tape,h.output,h.size,fun k hk=>h.block k hk (by omega)⟩
theorem read_any {w:World} {A:Option Addr} {c:Nat} {l:List Tk} (hr:Rd w w.heap.size 3 A l.length c (tcells l)) (hf:Fine l) :
 Calls Tryz.prog 42 #[.slice A l.length c] w (SPost (outS (zdC l)) w):=by
 have hmf:∀(fn:Fn) (first cap:Array Value) (w:World),(Instr.makeFunc fn first cap).run Tryz.prog w = .ok (.func fn first cap) w:=fun _ _ _ _=>rfl;rw [zeY];change Calls _ _ _ _ (SPost (outS (zeB [] l)) w);go_enter_defers Tryz.func42,Tryz.ntmps42
 go_wp2_with fail
 have hA1:=(Bk.new w #[.slice none 0 0] 70);have hA2:=(Bk.new (w.alloc (.cells #[.slice none 0 0] 70)) #[.int .i64 0] 28);have hA3:=(Bk.new ((w.alloc (.cells #[.slice none 0 0] 70)).alloc (.cells #[.int .i64 0] 28)) #[.int .i64 0] 3);have hA4:=(Bk.new (((w.alloc (.cells #[.slice none 0 0] 70)).alloc (.cells #[.int .i64 0] 28)).alloc (.cells #[.int .i64 0] 3)) #[.slice A l.length c] 185);simp only [World.size_alloc] at hA2 hA3 hA4;have hb0:=((hA1.alloc (.cells #[.int .i64 0] 28)).alloc (.cells #[.int .i64 0] 3)).alloc (.cells #[.slice A l.length c] 185);have hb1:=(hA2.alloc (.cells #[.int .i64 0] 3)).alloc (.cells #[.slice A l.length c] 185);have hb2:=hA3.alloc (.cells #[.slice A l.length c] 185);have hB:Below w.heap.size w ((((w.alloc (.cells #[.slice none 0 0] 70)).alloc (.cells #[.int .i64 0] 28)).alloc (.cells #[.int .i64 0] 3)).alloc (.cells #[.slice A l.length c] 185)):=by
  refine Below.alloc (Below.alloc (Below.alloc (Below.alloc (Below.refl _ w) (Nat.le_refl _) _) ?_ _) ?_ _) ?_ _ <;> (simp only [World.size_alloc];omega)
 have hR:Rdr ((((w.alloc (.cells #[.slice none 0 0] 70)).alloc (.cells #[.int .i64 0] 28)).alloc (.cells #[.int .i64 0] 3)).alloc (.cells #[.slice A l.length c] 185)) (w.heap.size + 1 + 1 + 1) l:=⟨A,c,hA4,(hr.below hB).more (by omega),hf⟩;clear hA1 hA2 hA3 hA4;generalize (((w.alloc (.cells #[.slice none 0 0] 70)).alloc (.cells #[.int .i64 0] 28)).alloc (.cells #[.int .i64 0] 3)).alloc (.cells #[.slice A l.length c] 185)=W at *
 refine (schema_any hR).mono ?_;intro e W1 hp;obtain ⟨hk,hc⟩:=hp.cases_;have hlt:=hR.size;replace hb0:=hb0.kp hk (by omega);replace hb1:=hb1.kp hk (by omega);replace hb2:=hb2.kp hk (by omega);replace hB:=hB.trans (Kp.below hk (B':=w.heap.size) (by omega) (by omega));clear hp hk hR;rcases hc with ⟨k,p,hr,rfl⟩ | ⟨o,l1,v,hr,rfl,⟨vt,rfl,hv⟩,hR⟩
 · rw [hr];have kc:=catch_fault k p _ _ _ _ _ _ W1 hb0 hb1 hb2 (by omega) (by omega);clear hb0 hb1 hb2;go_wp2_with fail
   refine leaves_cons (f:=79) (args:=#[.pointer (some ⟨w.heap.size,0,none⟩),.pointer (some ⟨w.heap.size + 1,0,none⟩),.pointer (some ⟨w.heap.size + 1 + 1,0,none⟩)]) (by simp) (by simp [go_sem]) ?_;refine kc.mono ?_;rintro e u' w'' ⟨rfl,rfl,g0,g1,g2,hb⟩;have q0:=g0.c1;have q1:=g1.c1;have q2:=g2.c1;simp [Leaves,settle,results,Tryz.results42,go_sem,q0,q1,q2];exact ⟨.slice none 0 0,rfl,⟨[],World.ownsRow_nil _ _ _ _,rfl⟩,hB.trans hb⟩
 · rw [hr];have q0:=hb0.c1;have q1:=hb1.c1;have q2:=hb2.c1;have z0:=hb0.fz;have z1:=hb1.fz;have z2:=hb2.fz;have n1:¬w.heap.size=w.heap.size + 1:=by omega
   obtain ⟨A2,c2,rfl,_⟩:=Rd.own hv.choose_spec.1;go_wp2_with fail
   rw [hr];refine leaves_cons (f:=79) (args:=#[.pointer (some ⟨w.heap.size,0,none⟩),.pointer (some ⟨w.heap.size + 1,0,none⟩),.pointer (some ⟨w.heap.size + 1 + 1,0,none⟩)]) (by simp) (by simp [go_sem]) ?_;refine (catch_idle _ _ _ _).mono ?_;rintro e u' w'' ⟨rfl,rfl,rfl⟩;simp [Leaves,settle,results,Tryz.results42,go_sem,q0,q1,q2];obtain ⟨xs,h1,h2⟩:=hv;refine ⟨.slice A2 o.length c2,rfl,⟨xs,?_,?_⟩,?_⟩
   · refine zav (zai (zai (zai h1 ?_ _) ?_ _) ?_ _) (show w.heap.size≤W.heap.size by omega) <;> (dsimp only;omega)
   · exact TypsC.base (show w.heap.size≤W.heap.size by omega) (((h2.keep (keeps3_set (a:=⟨w.heap.size,0,none⟩) (by dsimp only;omega) _)).keep (keeps3_set (a:=⟨w.heap.size + 1,0,none⟩) (by dsimp only;omega) _)).keep (keeps3_set (a:=⟨w.heap.size + 1 + 1,0,none⟩) (by dsimp only;omega) _))
   · refine Below.setCell (Below.setCell (Below.setCell hB ?_ _) ?_ _) ?_ _ <;> (dsimp only;omega)
end Go.Proofs.YtiepddmagfmllaaGreat
