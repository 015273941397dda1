import Derived.Test.YtahegpfdbgbioaaGreatB04
set_option maxRecDepth 100000
set_option maxHeartbeats 4000000
namespace Go.Proofs.YtahegpfdbgbioaaGreat
open Go.RowKit
open Go.RowKit
def zjA (o:OpP):List Value:=[.int .i64 o.1,.string o.2.1,.string o.2.2]
def ocells (l:List OpP):List Value:=l.flatMap zjA
def zlA (s:zcb):List Value:=[.string s.1,.string s.2]
def zbS (l:List zcb):List Value:=l.flatMap zlA
theorem zbD (a b:List OpP):ocells (a ++ b)=ocells a ++ ocells b:=List.flatMap_append
theorem zfh (a b:List zcb):zbS (a ++ b)=zbS a ++ zbS b:=List.flatMap_append
theorem zcV (l:List OpP):∀u ∈ ocells l,u.oneCell'=true:=by
 intro u hu;obtain ⟨t,_,ht⟩:=List.mem_flatMap.1 hu;simp only [zjA,List.mem_cons,List.not_mem_nil,or_false] at ht;rcases ht with rfl | rfl | rfl <;> rfl
theorem zdH (t:OpP):∀u ∈ zjA t,u.oneCell'=true:=by
 intro u ht;simp only [zjA,List.mem_cons,List.not_mem_nil,or_false] at ht;rcases ht with rfl | rfl | rfl <;> rfl
theorem zdL (t:zcb):∀u ∈ zlA t,u.oneCell'=true:=by
 intro u ht;simp only [zlA,List.mem_cons,List.not_mem_nil,or_false] at ht;rcases ht with rfl | rfl <;> rfl
theorem zbq (w:World) (a b:Value) (t:TypeId):∀j u,[a,b][j]? = some u→(w.alloc (.cells #[a,b] t)).cell? ((⟨w.heap.size,0,none⟩:Addr).add j)=some u:=by
 intro j u hj;rw [Addr.add_lit,cell_of_row _ _ _ _ _ _ (heap_alloc_new w _),Nat.zero_add];simpa using hj
theorem za6 {g B base:Nat} {w0 w w':World} {e:TypeId} {size n:Nat} {v:Value} {xs:List Value} {o:Obj} (hk:Kp g B w0 w) (hg:(w.alloc o).grownBy w' v.ownBlock) (hown:w.ownsRow base e size v n xs) (hB:B≤w.heap.size) (hle:B≤base):Kp g B w0 w' :=
 hk.trans ⟨hg.os,hg.tape,hg.output,by have:=hg.size;simp at this;omega,fun k hk' hn=>by
  rw [hg.block k (by simp;omega) (fun e=>by have:=(hown.lt k e.symm).1;omega),Below.heap_alloc _ _ _ (by omega)]⟩
theorem zdF {g B base:Nat} {w0 w w':World} {e:TypeId} {size n:Nat} {v:Value} {xs:List Value} (hk:Kp g B w0 w) (hg:w.grownBy w' v.ownBlock) (hown:w.ownsRow base e size v n xs) (hB:B≤w.heap.size) (hle:B≤base):Kp g B w0 w' :=
 hk.trans ⟨hg.os,hg.tape,hg.output,hg.size,fun k hk' hn=>hg.block k (by omega) (fun e=>by have:=(hown.lt k e.symm).1;omega)⟩
theorem zlr {g base:Nat} {l:List Tk} {w w':World} {e:TypeId} {size n:Nat} {v:Value} {xs:List Value} (h:Rdr w g l) (hg:w.grownBy w' v.ownBlock) (hown:w.ownsRow base e size v n xs) (hle:g<base):Rdr w' g l :=
 h.keep fun k hk'=>hg.block k (by have:=h.size;omega) (fun e=>by have:=(hown.lt k e.symm).1;omega)
theorem zeL {g base:Nat} {l:List Tk} {w w':World} {e:TypeId} {size n:Nat} {v:Value} {xs:List Value} {o:Obj} (h:Rdr w g l) (hg:(w.alloc o).grownBy w' v.ownBlock) (hown:w.ownsRow base e size v n xs) (hle:g<base):Rdr w' g l :=
 h.keep fun k hk'=>by
  have:=h.size;rw [hg.block k (by simp;omega) (fun e=>by have:=(hown.lt k e.symm).1;omega),Below.heap_alloc _ _ _ (by omega)]
def VOps (B:Nat) (w:World) (v:Value) (o:List OpP):Prop:=w.ownsRow B 166 3 v o.length (ocells o)
def VSubs (B:Nat) (w:World) (v:Value) (s:List zcb):Prop:=w.ownsRow B 126 2 v s.length (zbS s)
def VSub (_:World) (v:Value) (s:zcb):Prop:=v = .agg #[.string s.1,.string s.2]
theorem info_op:(Tryz.prog.info? 166).map (fun i=>(i.zero,i.size,i.bytes))=some (some (.agg #[.int .i64 0,.string .empty,.string .empty]),3,40):=by kernel_rfl
theorem info_sub:(Tryz.prog.info? 126).map (fun i=>(i.zero,i.size,i.bytes))=some (some (.agg #[.string .empty,.string .empty]),2,32):=by kernel_rfl
section
variable {w w':World} {g B:Nat}
theorem zaL {e:TypeId} {size n:Nat} {v:Value} {xs:List Value} (h:w.ownsRow B e size v n xs) (hk:Kp g w.heap.size w w') (hg:g<B):w'.ownsRow B e size v n xs :=
 zaI h fun k hk'=>hk.block k (h.lt k hk').2 (by have:=(h.lt k hk').1;omega)
end
def Bk (w:World) (b:Nat) (cs:Array Value) (t:TypeId):Prop:=w.heap[b]? = some (.cells cs t (0,0))
section
variable {l:List Tk} {w w':World} {b g B:Nat} {cs:Array Value} {t:TypeId}
theorem Bk.new (w:World) (cs:Array Value) (t:TypeId):Bk (w.alloc (.cells cs t)) w.heap.size cs t:=heap_alloc_new w _
theorem Bk.lt (h:Bk w b cs t):b<w.heap.size:=(Array.getElem?_eq_some_iff.1 h).1
theorem Bk.kp (h:Bk w b cs t) (hk:Kp g w.heap.size w w') (hg:b≠g):Bk w' b cs t:=(hk.block b h.lt hg).trans h
theorem Bk.below (h:Bk w b cs t) (hk:Below w.heap.size w w'):Bk w' b cs t:=(hk.block b h.lt).trans h
theorem Bk.alloc (h:Bk w b cs t) (o:Obj):Bk (w.alloc o) b cs t:=(heap_alloc_old w _ h.lt).trans h
theorem Bk.cell (h:Bk w b cs t) (i:Nat):w.cell? ⟨b,i,none⟩=cs[i]?:=by rw [cell_of_row _ _ _ _ _ _ h]
theorem Bk.c2 {x y:Value} (h:Bk w b #[x,y] t):w.cell? ⟨b,0,none⟩=some x∧w.cell? ⟨b,1,none⟩=some y:=⟨h.cell 0,h.cell 1⟩
theorem Bk.fz (h:Bk w b cs t) (i:Nat):w.frozen? ⟨b,i,none⟩=false:=by simp [World.frozen?,show w.heap[b]? = some (.cells cs t (0,0)) from h]
theorem Kp.alloc (h:Kp g B w w') (hB:B≤w'.heap.size) (o:Obj):Kp g B w (w'.alloc o):=h.trans (Kp.of_below ((Below.refl _ w').alloc hB o) g)
theorem Kp.set (h:Kp g B w w') {a:Addr} (ha:B≤a.block) (v:Value):Kp g B w (w'.setCell a v) :=
 h.trans ⟨rfl,rfl,rfl,by simp [World.setCell],fun k hk _=>Below.heap_setCell _ _ _ _ (by omega)⟩
theorem Rdr.set (h:Rdr w g l) {a:Addr} (ha:g<a.block) (v:Value):Rdr (w.setCell a v) g l:=h.keep fun k hk=>Below.heap_setCell _ _ _ _ (by omega)
theorem Rdr.alloc {l:List Tk} (h:Rdr w g l) (o:Obj):Rdr (w.alloc o) g l:=h.below ((Below.refl _ w).alloc (Nat.le_refl _) o)
end
section
variable {w:World} {g:Nat} {l:List Tk}
theorem zcM (c:UInt8) (h:za8 c.toNat=true):Ask (sg c):=⟨zal c,.inr ⟨c,h,rfl⟩⟩
theorem zhk {s:ByteArray} (h:keyB s=true) (h0:0<s.size):Ask s:=⟨h0,.inl h⟩
theorem may_any (h:Rdr w g l) {s:ByteArray} (hs:Ask s):Calls Tryz.prog 196 #[.pointer (some ⟨g,0,none⟩),.string s] w fun e w'=>e = .returned (.bool (isT s l))∧Rdr w' g (if isT s l=true then l.tail else l)∧Kp g w.heap.size w w':=by
 rw [h.fine.isT hs];by_cases e:(hdT l).2.1=s
 · rw [decide_eq_true e,if_pos rfl];exact may_yes h hs.1 e
 · rw [decide_eq_false e,if_neg (by decide)];exact (may_no h e).mono fun _ _ ⟨h1,h2⟩=>⟨h1,h.below h2,Kp.of_below h2 g⟩
def To (X R:Ending→World→Prop):Prop:=∀e w',X e w'→R e w'
section
variable {α β:Type} {V:World→Value→β→Prop} {B:Nat} {w':World} {r:Rs α} {q:Rs β} {k:α→List Tk→Rs β} {R:Ending→World→Prop}
theorem To.bind (h:To (Post V B w g (zaH r k)) R) {a:α} {l:List Tk} (hr:r = .ok (a,l)):To (Post V B w g (k a l)) R:=fun e w' q=>h e w' (by rw [hr];exact q)
theorem To.bad (h:To (Post V B w g (zaH r k)) R) {c p:Nat} (hr:r = .error (c,p)) (hk:Kp g B w w'):R (zgV c p) w':=h _ _ (by rw [hr];exact Post.bad hk c p)
theorem To.fail (h:To (Post V B w g q) R) {c p:Nat} (hr:q = .error (c,p)) (hk:Kp g B w w'):R (zgV c p) w':=h _ _ (by rw [hr];exact Post.bad hk c p)
theorem To.ret (h:To (Post V B w g q) R) {a:β} {l:List Tk} {v:Value} (hr:q = .ok (a,l)) (hk:Kp g B w w') (hv:V w' v a) (hd:Rdr w' g l):R (.returned v) w':=h _ _ (by rw [hr];exact Post.ok hk hv hd)
end
theorem sub_any (h:Rdr w g l):Calls Tryz.prog 232 #[.pointer (some ⟨g,0,none⟩)] w
 (Post VSub w.heap.size w g (zaH (zaS l) fun n r=>zaH (if isT (sg 35) r=true then zaS r.tail else .ok (⟨#[]⟩,r)) fun m r=>.ok ((n,m),r))):=by
 suffices H:∀R,To (Post VSub w.heap.size w g (zaH (zaS l) fun n r=>zaH (if isT (sg 35) r=true then zaS r.tail else .ok (⟨#[]⟩,r)) fun m r=>.ok ((n,m),r))) R→Calls Tryz.prog 232 #[.pointer (some ⟨g,0,none⟩)] w R from H _ fun _ _ h=>h
 intro R HP;have hg:=h.size;have h0:=h.alloc (.cells #[.string ⟨#[]⟩,.string ⟨#[]⟩] 126);have b0:=Bk.new w #[.string ⟨#[]⟩,.string ⟨#[]⟩] 126;have k0:Kp g w.heap.size w _:=(Kp.refl g _ w).alloc (Nat.le_refl _) (.cells #[.string ⟨#[]⟩,.string ⟨#[]⟩] 126);have z0:w.heap.size≤_:=k0.size;go_enter Tryz.func232,Tryz.ntmps232
 go_wp2_with fail
 refine (rname_any h0).mono ?_;intro e w1 hp;obtain ⟨hk,hc⟩:=hp.cases_;clear hp h0 h;have k1:=k0.trans (hk.more z0);have c0:=b0.kp hk (by omega);have z1:=k1.size;have hn1:¬w1.heap.size=w.heap.size:=by have:=c0.lt;omega
 have hn2:¬w.heap.size=w1.heap.size:=by omega
 clear k0 b0 hk z0;rcases hc with ⟨c,p,hr,rfl⟩ | ⟨n,l1,v,hr,rfl,rfl,h1⟩
 · go_wp2_with fail
   exact ⟨rfl,HP.bad hr k1⟩
 replace HP:=HP.bind hr;clear hr;have h1':=h1.alloc (.cells #[.string n,.string ⟨#[]⟩] 126);have ka:=zcM 35 (by decide);cases hi:isT (sg 35) l1 with
 | false =>
  have km:=may_any h1' ka;rw [hi,if_neg (by decide)] at km;rw [hi,if_neg (by decide)] at HP;go_wp2_with fail
  refine km.mono ?_;rintro e w2 ⟨rfl,h2,hk⟩;have k2:=(k1.alloc z1 _).trans (hk.more (size_alloc z1));have d1:=(Bk.new w1 #[.string n,.string ⟨#[]⟩] 126).kp hk (by have:=h1.size;omega);have d0:=(c0.alloc (.cells #[.string n,.string ⟨#[]⟩] 126)).kp hk (by omega);clear hk km h1 h1' c0;obtain ⟨x0,x1⟩:=d1.c2;obtain ⟨y0,y1⟩:=d0.c2;have fy:=d0.fz;go_wp2_with fail
  refine bodyPost_ret (v:=.agg #[.string n,.string ⟨#[]⟩]) (by simp [results,Tryz.results232,go_sem,y0,y1];try rfl) rfl ?_;refine HP.ret rfl ?_ rfl ?_
  · refine Kp.set (Kp.set k2 ?_ _) ?_ _ <;> exact Nat.le_refl _
  · refine Rdr.set (Rdr.set h2 ?_ _) ?_ _ <;> exact hg
 | true =>
  have km:=may_any h1' ka;rw [hi,if_pos rfl] at km;rw [hi,if_pos rfl] at HP;go_wp2_with fail
  refine km.mono ?_;rintro e w2 ⟨rfl,h2,hk⟩;have k2:=(k1.alloc z1 _).trans (hk.more (size_alloc z1));have d1:=(Bk.new w1 #[.string n,.string ⟨#[]⟩] 126).kp hk (by have:=h1.size;omega);have d0:=(c0.alloc (.cells #[.string n,.string ⟨#[]⟩] 126)).kp hk (by omega);have hg1:w1.heap.size≠g:=by have:=h1.size;omega
  clear hk km h1 h1' c0;go_wp2_with fail
  refine (rname_any h2).mono ?_;intro e w3 hp;obtain ⟨hk,hc⟩:=hp.cases_;clear hp;have z2:=k2.size;have k3:=k2.trans (hk.more z2);have e1:=d1.kp hk hg1;have e0:=d0.kp hk (by omega);clear hk d1 d0 k2;rcases hc with ⟨c,p,hr,rfl⟩ | ⟨m,l3,v,hr,rfl,rfl,h3⟩
  · go_wp2_with fail
    exact ⟨rfl,HP.bad hr k3⟩
  replace HP:=HP.bind hr;obtain ⟨x0,x1⟩:=e1.c2;obtain ⟨y0,y1⟩:=e0.c2;have fx:=e1.fz;have fy:=e0.fz;go_wp2_with fail
  refine bodyPost_ret (v:=.agg #[.string n,.string m]) (by simp [results,Tryz.results232,go_sem,y0,y1];try rfl) rfl ?_;refine HP.ret rfl ?_ rfl ?_
  · refine Kp.set (Kp.set (Kp.set k3 z1 _) ?_ _) ?_ _ <;> exact Nat.le_refl _
  · refine Rdr.set (Rdr.set (Rdr.set h3 (by show g<w1.heap.size;omega) _) ?_ _) ?_ _ <;> exact hg
end
theorem zcn {α β γ:Type} (r:Rs α) (k:α→List Tk→Rs β) (k2:β→List Tk→Rs γ):zaH (zaH r k) k2=zaH r fun a l=>zaH (k a l) k2:=by
 cases r with
 | error e=>rfl
 | ok a=>rfl
theorem ask_this:Ask zcJ:=zhk rfl (by decide)
theorem zfL (w:World) (k:Nat) (a b:ByteArray) (B:Nat) (hB:B≤w.heap.size):VOps B (w.alloc (.cells #[.int .i64 k,.string a,.string b] 166)) (.slice (some ⟨w.heap.size,0,none⟩) 1 1) [(k,a,b)] :=
 zjD w #[.int .i64 k,.string a,.string b] 166 1 3 B rfl (by decide) hB
def zhi (N:Nat):Prop:=∀(d:Nat) (l:List Tk) (w:World) (g:Nat),l.length≤N→d≤8→Rdr w g l →
 Calls Tryz.prog 233 #[.pointer (some ⟨g,0,none⟩),.int .i64 d] w (Post (VOps w.heap.size) w.heap.size w g (zi7 d l))
def zer (N:Nat):Prop:=∀(d:Nat) (l:List Tk) (w:World) (g:Nat),l.length≤N→d≤8→Rdr w g l →
 Calls Tryz.prog 236 #[.pointer (some ⟨g,0,none⟩),.int .i64 d] w (Post (VOps w.heap.size) w.heap.size w g (zeI d l))
def zit (d p:Nat) (l:List Tk):Rs (List OpP):=if d=8 then .error (13,p) else zaH (zi7 (d + 1) l) fun o r=>zaH (zaG (sg 41) r) fun _ r=>.ok (o,r)
section
variable {w:World} {g:Nat} {l:List Tk}
theorem inner_any {N d p:Nat} (H:zhi N) (hN:l.length≤N) (hd:d≤8) (h:Rdr w g l) :
 Calls Tryz.prog 238 #[.pointer (some ⟨g,0,none⟩),.int .i64 d,.int .i64 p] w (Post (VOps w.heap.size) w.heap.size w g (zit d p l)):=by
 suffices HH:∀R,To (Post (VOps w.heap.size) w.heap.size w g (zit d p l)) R→Calls Tryz.prog 238 #[.pointer (some ⟨g,0,none⟩),.int .i64 d,.int .i64 p] w R from HH _ fun _ _ h=>h
 intro R HP;have hg:=h.size;unfold zit at HP;by_cases h8:d=8
 · subst h8;rw [if_pos rfl] at HP;go_enter Tryz.func238,Tryz.ntmps238
   go_wp2_with fail
   exact ⟨rfl,HP.fail rfl (Kp.refl _ _ _)⟩
 · rw [if_neg h8] at HP;have hd8:¬((8:Int)≤(d:Int)):=by omega
   have kr:=H (d + 1) l w g hN (by omega) h;have hcast:(((d + 1:Nat)):Int)=(d:Int) + 1:=by omega
   rw [hcast] at kr;go_enter Tryz.func238,Tryz.ntmps238
   go_wp2_with fail
   refine kr.mono ?_;intro e w1 hp;obtain ⟨hk,hc⟩:=hp.cases_;clear hp kr h;rcases hc with ⟨c,p,hr,rfl⟩ | ⟨o,l1,v,hr,rfl,hv,h1⟩
   · go_wp2_with fail
     exact ⟨rfl,HP.bad hr hk⟩
   replace HP:=HP.bind hr;clear hr;go_wp2_with fail
   refine (must_any h1 (zcM 41 (by decide))).mono ?_;intro e w2 hp;obtain ⟨hk2,hc⟩:=hp.cases_;have k2:=hk.trans (hk2.more hk.size);have hv2:=zaL hv hk2 hg;clear hp hk hk2 hv h1;rcases hc with ⟨c,p,hr,rfl⟩ | ⟨o2,l2,v2,hr,rfl,rfl,h2⟩
   · go_wp2_with fail
     exact ⟨rfl,HP.bad hr k2⟩
   replace HP:=HP.bind hr;go_wp2_with fail
   exact HP.ret rfl k2 hv2 h2
theorem partT_in {d:Nat} {l:List Tk} (h1:isT zcJ l=false) (h2:isT (sg 40) l=true):zeI d l=zit d (hdT l).2.2 l.tail:=by
 rw [zhK,h1,h2,if_neg (by decide),if_pos rfl];unfold zit zi7;by_cases h8:d=8
 · rw [if_pos h8,if_pos h8];rfl
 · rw [if_neg h8,if_neg h8,zcn]
theorem zlk {d:Nat} {l:List Tk} (h1:isT zcJ l=false) (h2:isT (sg 40) l=false):zeI d l=zaH (zaS l) fun n r=>if isT (sg 46) r=true then zaH (zaS r.tail) fun m r=>.ok ([(3,n,m)],r) else .ok ([(2,n,⟨#[]⟩)],r):=by
 rw [zhK,h1,h2,if_neg (by decide),if_neg (by decide)]
theorem zll {d:Nat} {l:List Tk} (h1:isT zcJ l=true):zeI d l = .ok ([(1,⟨#[]⟩,⟨#[]⟩)],l.tail):=by
 rw [zhK,h1,if_pos rfl]
theorem part_upto {N:Nat} (H:zhi (N-1)):zer N:=by
 intro d l w g hN hd h;suffices HH:∀R,To (Post (VOps w.heap.size) w.heap.size w g (zeI d l)) R→Calls Tryz.prog 236 #[.pointer (some ⟨g,0,none⟩),.int .i64 d] w R from HH _ fun _ _ h=>h
 intro R HP;have hg:=h.size;have km:=may_any h ask_this;have htl:l.tail.length=l.length-1:=List.length_tail;cases hi:isT zcJ l with
 | true =>
  rw [zll hi] at HP;rw [hi,if_pos rfl] at km;go_enter Tryz.func236,Tryz.ntmps236
  go_wp2_with fail
  refine km.mono ?_;rintro e w1 ⟨rfl,h1,hk⟩;go_wp2_with fail
  exact HP.ret rfl (hk.alloc hk.size _) (zfL _ _ _ _ _ hk.size) (h1.alloc _)
 | false =>
  rw [hi,if_neg (by decide)] at km;go_enter Tryz.func236,Tryz.ntmps236
  go_wp2_with fail
  refine km.mono ?_;rintro e w1 ⟨rfl,h1,k1⟩;have f2:=tok_f2;go_wp2_with fail
  refine (zb6 h1).mono ?_;rintro e w2 ⟨rfl,hb⟩;have h2:=h1.below hb;have k2:=k1.trans ((Kp.of_below hb g).more k1.size);clear hb h1 k1 km;have km:=may_any h2 (zcM 40 (by decide));cases hj:isT (sg 40) l with
  | true =>
   rw [partT_in hi hj] at HP;rw [hj,if_pos rfl] at km;go_wp2_with fail
   refine km.mono ?_;rintro e w3 ⟨rfl,h3,hk⟩;have k3:=k2.trans (hk.more k2.size);clear hk k2 km;go_wp2_with fail
   refine (inner_any (p:=(hdT l).2.2) H (by omega) hd h3).mono ?_;intro e w4 hp;obtain ⟨hk,hc⟩:=hp.cases_;have k4:=k3.trans (hk.more k3.size);clear hp hk;rcases hc with ⟨c,p,hr,rfl⟩ | ⟨o,l1,v,hr,rfl,hv,h4⟩
   · go_wp2_with fail
     exact ⟨rfl,HP.fail hr k4⟩
   go_wp2_with fail
   exact HP.ret hr k4 (zav hv k3.size) h4
  | false =>
   rw [zlk hi hj] at HP;rw [hj,if_neg (by decide)] at km;go_wp2_with fail
   refine km.mono ?_;rintro e w3 ⟨rfl,h3,hk⟩;have k3:=k2.trans (hk.more k2.size);clear hk k2 km h2;go_wp2_with fail
   refine (rname_any h3).mono ?_;intro e w4 hp;obtain ⟨hk,hc⟩:=hp.cases_;have k4:=k3.trans (hk.more k3.size);clear hp hk k3;rcases hc with ⟨c,p,hr,rfl⟩ | ⟨n,l4,v,hr,rfl,rfl,h4⟩
   · go_wp2_with fail
     exact ⟨rfl,HP.bad hr k4⟩
   replace HP:=HP.bind hr;clear hr;have km:=may_any h4 (zcM 46 (by decide));cases hq:isT (sg 46) l4 with
   | false =>
    rw [hq,if_neg (by decide)] at HP;rw [hq,if_neg (by decide)] at km;go_wp2_with fail
    refine km.mono ?_;rintro e w5 ⟨rfl,h5,hk⟩;have k5:=k4.trans (hk.more k4.size);clear hk k4 km;go_wp2_with fail
    exact HP.ret rfl (k5.alloc k5.size _) (zfL _ _ _ _ _ k5.size) (h5.alloc _)
   | true =>
    rw [hq,if_pos rfl] at HP;rw [hq,if_pos rfl] at km;go_wp2_with fail
    refine km.mono ?_;rintro e w5 ⟨rfl,h5,hk⟩;have k5:=k4.trans (hk.more k4.size);clear hk k4 km;go_wp2_with fail
    refine (rname_any h5).mono ?_;intro e w6 hp;obtain ⟨hk,hc⟩:=hp.cases_;have k6:=k5.trans (hk.more k5.size);clear hp hk k5;rcases hc with ⟨c,p,hr,rfl⟩ | ⟨m,l6,v,hr,rfl,rfl,h6⟩
    · go_wp2_with fail
      exact ⟨rfl,HP.bad hr k6⟩
    replace HP:=HP.bind hr;clear hr;go_wp2_with fail
    exact HP.ret rfl (k6.alloc k6.size _) (zfL _ _ _ _ _ k6.size) (h6.alloc _)
end
end Go.Proofs.YtahegpfdbgbioaaGreat
namespace Go.Proofs.YtahegpfdbgbioaaGreat
open Go.RowKit
open Go.RowKit
open Go.RowKit
open Go.RowKit
theorem ziM {d:Nat} {l r:List Tk} {o:List OpP} (h:zeI d l = .ok (o,r)):r.length<l.length:=(eats _).1 _ _ _ _ h
theorem few:∀f:Nat,(∀d l o r,partF f d l = .ok (o,r)→o.length + r.length≤l.length)∧(∀d acc l o r,moreF f d acc l = .ok (o,r)→o.length + r.length≤acc.length + l.length)
 | 0=>⟨fun d l o r h=>(by unfold partF at h;cases h),fun d acc l o r h=>(by unfold moreF at h;cases h)⟩
 | f + 1=>by
  obtain ⟨ih1,ih2⟩:=few f;constructor
  · intro d l o r h;unfold partF at h;split at h
    · rename_i hc
      cases h;have:=zay (by show 0<4;omega) hc;rw [List.length_singleton];omega
    · split at h
      · rename_i hc
        have h1:=zay (zal _) hc;split at h
        · cases h
        · obtain ⟨a,m,e1,h⟩:=zae h;obtain ⟨a2,m2,e2,h⟩:=zae h;obtain ⟨a3,m3,e3,h⟩:=zae h;cases h;have:=ih1 _ _ _ _ e1;have:=ih2 _ _ _ _ _ e2;have:=zas (zal _) e3;omega
      · obtain ⟨a,m,e1,h⟩:=zae h;have h1:=zau e1;split at h
        · rename_i hc
          have h2:=zay (zal _) hc;obtain ⟨a2,m2,e2,h⟩:=zae h;have:=zau e2;cases h;rw [List.length_singleton];omega
        · cases h;rw [List.length_singleton];omega
  · intro d acc l o r h;unfold moreF at h;split at h
    · cases h;omega
    · rename_i hc
      have h1:=zeh hc;obtain ⟨a,m,e1,h⟩:=zae h;have:=ih1 _ _ _ _ e1;have:=ih2 _ _ _ _ _ h;rw [List.length_append,List.length_append,List.length_singleton] at this;omega
theorem ziL {d:Nat} {l r:List Tk} {o:List OpP} (h:zeI d l = .ok (o,r)):o.length + r.length≤l.length:=(few _).1 _ _ _ _ h
theorem opT_text {l:List Tk} (hf:Fine l) (h:¬opT l=0):Fine l.tail:=by
 rw [←zhx hf] at h;unfold zfv at h;by_cases e1:(hdT l).2.1=⟨#[124]⟩
 · exact hf.next (by decide) e1
 by_cases e2:(hdT l).2.1=⟨#[38]⟩
 · exact hf.next (by decide) e2
 by_cases e3:(hdT l).2.1=⟨#[45]⟩
 · exact hf.next (by decide) e3
 rw [if_neg e1,if_neg e2,if_neg e3] at h;exact absurd rfl h
section
variable {w:World} {g:Nat} {l:List Tk}
theorem rew_upto {N:Nat} (H:zer N):zhi N:=by
 intro d l w g hN hd h;suffices HH:∀R,To (Post (VOps w.heap.size) w.heap.size w g (zi7 d l)) R→Calls Tryz.prog 233 #[.pointer (some ⟨g,0,none⟩),.int .i64 d] w R from HH _ fun _ _ h=>h
 intro R HP;have hg:=h.size;have kp:=H d l w g hN hd h;have hmaxl:=h.few;unfold zi7 at HP;go_enter Tryz.func233,Tryz.ntmps233
 go_wp2_with fail
 refine kp.mono ?_;intro e w1 hp;obtain ⟨k1,hc⟩:=hp.cases_;clear hp kp h;rcases hc with ⟨c,p,hr,rfl⟩ | ⟨o,l1,v,hr,rfl,hv,h1⟩
 · go_wp2_with fail
   exact ⟨rfl,HP.bad hr k1⟩
 replace HP:=HP.bind hr;have hlen:=ziM hr;have hfew:=ziL hr;clear hr;have hfl:=h1.few;go_wp2_with fail
 go_loopw [5] (fun vi wr=>∃acc l3,VOps w.heap.size wr vi acc∧Rdr wr g l3∧Kp g w.heap.size w wr∧To (Post (VOps w.heap.size) w.heap.size w g (zjw d acc l3)) R∧acc.length + l3.length≤l.length∧l3.length<l.length) (fun _ wr=>left wr g)
 case atStart=>exact ⟨o,l1,hv,h1,k1,HP,hfew,hlen⟩
 case round =>
  clear HP hv h1 k1 hlen hfew hfl;obtain ⟨acc,l3,hv,h3,k3,HP,hl,hl3⟩:=hrel;obtain ⟨A,c,rfl,_⟩:=Rd.own hv;have hlf:=h3.left;have f1:=zi1;have hfine:=h3.fine;rw [moreT_eq,←zhx hfine] at HP;have hop:=fun h=>opT_text hfine (by rw [←zhx hfine];exact h);have hol:=fun h=>zeh (l:=l3) (by rw [←zhx hfine];exact h);have kj:∀W,_:=fun W=>joins_any (hdT l3).2.1 W;have kf:=zb6 h3;generalize (hdT l3).2.1=x at *
  by_cases hz:zfv x=0
  · rw [if_pos hz] at HP;rw [hz] at kj;go_wp2_with fail
    refine kf.mono ?_;rintro e w3 ⟨rfl,hb⟩;have h4:=h3.below hb;have k4:=k3.trans ((Kp.of_below hb g).more k3.size);have hv4:=zag hv hb;clear hb h3 k3 hv kf;go_wp2_with ((with_reducible refine (kj _).mono ?_);rintro e w' ⟨rfl,rfl⟩)
    exact HP.ret rfl k4 hv4 h4
  · rw [if_neg hz] at HP;rw [decide_eq_false hz] at kj;have hf:=hop hz;have hol:=hol hz;go_wp2_with fail
    refine kf.mono ?_;rintro e w3 ⟨rfl,hb⟩;have h4:=h3.below hb;have k4:=k3.trans ((Kp.of_below hb g).more k3.size);have hv4:=zag hv hb;clear hb h3 k3 hv kf;go_wp2_with (first
     | ((with_reducible refine (kj _).mono ?_);rintro e w' ⟨rfl,rfl⟩)
     | ((with_reducible refine (pass_any h4 hf).mono ?_);rintro e w4 ⟨rfl,h5,hk⟩))
    have k5:=k4.trans (hk.more k4.size);have hv5:=zaL hv4 hk hg;clear hk k4 hv4 h4 kj;refine (H d l3.tail _ g (by omega) hd h5).mono ?_;intro e w5 hp;obtain ⟨hk,hc⟩:=hp.cases_;have k6:=k5.trans (hk.more k5.size);have hz5:=k5.size;have hv6:=zaL hv5 hk hg;clear hp hk k5 hv5 h5;rcases hc with ⟨c,p,hr,rfl⟩ | ⟨o5,l5,v5,hr,rfl,hv7,h6⟩
    · go_wp2_with fail
      exact ⟨rfl,HP.bad hr k6⟩
    replace HP:=HP.bind hr;have hlen:=ziM hr;have hfew:=ziL hr;clear hr;have hlf6:=h6.few;have hz6:=k6.size;have hmax:l.length≤1000000:=hmaxl;obtain ⟨i0,hi0,hz0,hz1,hz2⟩:=info_parts info_op;obtain ⟨A5,c5,rfl,hrd5⟩:=Rd.own hv7;have hsrc:=hrd5.src Tryz.underlying147 (zcV o5);clear hrd5;go_wp2_with (first
     | (at_builtin;refine zaa _ rfl (.tmp 23) (.tmp 26) 147 147 rfl w.heap.size 166 i0 (.agg #[.int .i64 0,.string .empty,.string .empty]) 3 40 Tryz.underlying147 hi0 hz0 hz1 hz2 rfl (by decide) _ acc.length (ocells acc) rfl hv6 _ o5.length (ocells o5) rfl hsrc (by simp only [maxLen];omega) (by omega) hz6 ?_;intro v1 w6 hown1 hg1 hat1;obtain ⟨A1,c1,rfl,_⟩:=Rd.own hown1;have k7:=zdF (v:=.slice A acc.length c) k6 hg1 hv6 hz6 (Nat.le_refl _);have h7:=zlr (v:=.slice A acc.length c) h6 hg1 hv6 hg;have hz7:=k7.size)
     | (at_builtin;refine zaa _ rfl (.tmp 28) (.tmp 31) 147 147 rfl w.heap.size 166 i0 (.agg #[.int .i64 0,.string .empty,.string .empty]) 3 40 Tryz.underlying147 hi0 hz0 hz1 hz2 rfl (by decide) _ (acc.length + o5.length) (ocells acc ++ ocells o5) rfl (World.ownsRow.alloc hown1 _) _ 1 [.int .i64 (zfv x),.string ⟨#[]⟩,.string ⟨#[]⟩] rfl (Src.ofSlice _ Tryz.underlying147 _ 1 1 _ rfl (za1 _ _ _ _ _) (zdH (zfv x,⟨#[]⟩,⟨#[]⟩))) (by simp only [maxLen];omega) (by omega) (size_alloc hz7) ?_;intro v2 w7 hown2 hg2 hat2;obtain ⟨A2,c2,rfl,_⟩:=Rd.own hown2;have k8:=za6 (v:=.slice A1 (acc.length + o5.length) c1) k7 hg2 hown1 hz7 (Nat.le_refl _);have h8:=zeL (v:=.slice A1 (acc.length + o5.length) c1) h7 hg2 hown1 hg))
    refine ⟨⟨acc ++ o5 ++ [(zfv x,⟨#[]⟩,⟨#[]⟩)],l5,?_,h8,k8,HP,?_,by omega⟩,?_⟩
    · unfold VOps;rw [List.length_append,List.length_append,zbD,zbD];exact hown2
    · rw [List.length_append,List.length_append,List.length_singleton];omega
    · rw [h8.left,hlf];omega
theorem zkt:∀N,zer N∧zhi N
 | 0=>by
  have h:zer 0:=fun d l w g hl _ h=>by
   obtain ⟨t,r,rfl⟩:=h.fine.cons;simp at hl
  exact ⟨h,rew_upto h⟩
 | N + 1=>by
  have h:zer (N + 1):=part_upto (zkt N).2;exact ⟨h,rew_upto h⟩
theorem rew_any (d:Nat) (hd:d≤8) (h:Rdr w g l):Calls Tryz.prog 233 #[.pointer (some ⟨g,0,none⟩),.int .i64 d] w (Post (VOps w.heap.size) w.heap.size w g (zi7 d l)) :=
 (zkt l.length).2 d l w g (Nat.le_refl _) hd h
end
def subT (l:List Tk):Rs zcb:=zaH (zaS l) fun n r=>zaH (if isT (sg 35) r=true then zaS r.tail else .ok (⟨#[]⟩,r)) fun m r=>.ok ((n,m),r)
def whoM (acc:List zcb) (l:List Tk):Rs (List zcb):=if isT (sg 44) l=true then whoT acc l.tail else .ok (acc,l)
theorem zkR (acc:List zcb) (l:List Tk):whoT acc l=zaH (subT l) fun s r=>whoM (acc ++ [s]) r:=by
 rw [znC];unfold subT;rw [zcn];congr 1
 funext n r
 rw [zcn];rfl
theorem subT_len {l r:List Tk} {s:zcb} (h:subT l = .ok (s,r)):r.length<l.length:=by
 obtain ⟨n,m,h1,h2⟩:=zae h;obtain ⟨a,m2,h3,h4⟩:=zae h2;have:=zau h1;have:=zh8 h3;cases h4;omega
def atN (l:List Tk):Bool:=decide ((hdT l).1=1) && !keyB (hdT l).2.1
def zlE (l:List Tk):Rs (List zcb):=if atN l=true then whoT [] l else .ok ([],l)
section
variable {w:World} {g:Nat} {l:List Tk}
theorem subs_any (h:Rdr w g l):Calls Tryz.prog 222 #[.pointer (some ⟨g,0,none⟩)] w (Post (VSubs w.heap.size) w.heap.size w g (zlE l)):=by
 suffices H:∀R,To (Post (VSubs w.heap.size) w.heap.size w g (zlE l)) R→Calls Tryz.prog 222 #[.pointer (some ⟨g,0,none⟩)] w R from H _ fun _ _ h=>h
 intro R HP;have hg:=h.size;have ka:=atName_any h;rw [show (decide ((hdT l).1=1) && !keyB (hdT l).2.1)=atN l from rfl] at ka;unfold zlE at HP;cases hn:atN l with
 | false =>
  rw [hn] at ka;rw [hn,if_neg (by decide)] at HP;go_enter Tryz.func222,Tryz.ntmps222
  go_wp2_with ((with_reducible refine ka.mono ?_);rintro e w1 ⟨rfl,hb⟩)
  exact HP.ret rfl (Kp.of_below hb g) (World.ownsRow_nil _ _ _ _) (h.below hb)
 | true =>
  rw [hn] at ka;rw [hn,if_pos rfl,zkR] at HP;go_enter Tryz.func222,Tryz.ntmps222
  go_wp2_with ((with_reducible refine ka.mono ?_);rintro e w1 ⟨rfl,hb⟩)
  have h1:=h.below hb;have k1:=Kp.of_below hb g;clear h hb ka;refine (sub_any h1).mono ?_;intro e w2 hp;obtain ⟨hk,hc⟩:=hp.cases_;clear hp;have k2:=k1.trans (hk.more k1.size);clear hk k1 h1;rcases hc with ⟨c,p,hr,rfl⟩ | ⟨s,l2,v,hr,rfl,rfl,h2⟩
  · go_wp2_with fail
    exact ⟨rfl,HP.bad hr k2⟩
  replace HP:=HP.bind hr;clear hr;go_wp2_with fail
  have hk0:Kp g w.heap.size w _:=k2.alloc k2.size (.cells #[.string s.1,.string s.2] 126);have ho0:VSubs w.heap.size _ _ ([] ++ [s]):=zjD w2 #[.string s.1,.string s.2] 126 1 2 w.heap.size rfl (by decide) k2.size;have hr0:=h2.alloc (.cells #[.string s.1,.string s.2] 126);clear k2 h2;go_loopw [3] (fun vi wr=>∃acc l3,VSubs w.heap.size wr vi acc∧Rdr wr g l3∧Kp g w.heap.size w wr∧To (Post (VSubs w.heap.size) w.heap.size w g (whoM acc l3)) R∧acc.length + l3.length≤2000000) (fun _ wr=>left wr g)
  case atStart=>exact ⟨[] ++ [s],l2,ho0,hr0,hk0,HP,by have:=hr0.few;simp;omega⟩
  case round =>
   clear HP ho0 hr0 hk0;obtain ⟨acc,l3,hv,h3,k3,HP,hl⟩:=hrel;obtain ⟨A,c,rfl,_⟩:=Rd.own hv;have km:=may_any h3 (zcM 44 (by decide));have hlf:=h3.left;cases hi:isT (sg 44) l3 with
   | false =>
    rw [hi,if_neg (by decide)] at km;unfold whoM at HP;rw [hi,if_neg (by decide)] at HP;go_wp2_with fail
    refine km.mono ?_;rintro e w3 ⟨rfl,h4,hk⟩;have k4:=k3.trans (hk.more k3.size);have hv4:=zaL hv hk hg;clear km hk k3 hv h3;go_wp2_with fail
    exact HP.ret rfl k4 hv4 h4
   | true =>
    rw [hi,if_pos rfl] at km;unfold whoM at HP;rw [hi,if_pos rfl,zkR] at HP;go_wp2_with fail
    refine km.mono ?_;rintro e w3 ⟨rfl,h4,hk⟩;have k4:=k3.trans (hk.more k3.size);have hv4:=zaL hv hk hg;clear km hk k3 hv h3;go_wp2_with fail
    refine (sub_any h4).mono ?_;intro e w4 hp;obtain ⟨hk,hc⟩:=hp.cases_;clear hp;have k5:=k4.trans (hk.more k4.size);have hv5:=zaL hv4 hk hg;clear hk k4 hv4 h4;rcases hc with ⟨c,p,hr,rfl⟩ | ⟨s4,l5,v,hr,rfl,rfl,h5⟩
    · go_wp2_with fail
      exact ⟨rfl,HP.bad hr k5⟩
    have hlen:=subT_len hr;replace HP:=HP.bind hr;obtain ⟨i0,hi0,hz0,hz1,hz2⟩:=info_parts info_sub;have hz5:=k5.size;have hll:l3.tail.length≤l3.length:=by rw [List.length_tail];omega
    clear hr;go_wp2_with (at_builtin;refine zaa _ rfl (.tmp 12) (.tmp 15) 120 120 rfl w.heap.size 126 i0 (.agg #[.string .empty,.string .empty]) 2 32 Tryz.underlying120 hi0 hz0 hz1 hz2 rfl (by decide) _ acc.length (zbS acc) rfl (World.ownsRow.alloc hv5 _) _ 1 [.string s4.1,.string s4.2] rfl (Src.ofSlice _ Tryz.underlying120 _ 1 1 _ rfl (zbq _ _ _ _) (zdL s4)) (by simp only [maxLen];omega) (by omega) (size_alloc hz5) ?_;intro v1 w5 hown1 hg1 hat1;obtain ⟨A1,c1,rfl,_⟩:=Rd.own hown1)
    have hr5:=zeL (v:=.slice A acc.length c) h5 hg1 hv5 hg;refine ⟨⟨acc ++ [s4],l5,?_,hr5,za6 (v:=.slice A acc.length c) k5 hg1 hv5 hz5 (Nat.le_refl _),HP,?_⟩,?_⟩
    · unfold VSubs;rw [List.length_append,zfh];exact hown1
    · rw [List.length_append,List.length_singleton];omega
    · rw [hr5.left,hlf];omega
end
def opsT (l:List Tk):Rs (List OpP):=if isT sIs l=true then zi7 0 l.tail else .ok ([(1,⟨#[]⟩,⟨#[]⟩)],l)
theorem ask_is:Ask sIs:=zhk rfl (by decide)
theorem ask_rel:Ask zgD:=zhk rfl (by decide)
theorem zjX:Ask zcv:=zhk rfl (by decide)
section
variable {w:World} {g:Nat} {l:List Tk}
theorem ops_any (h:Rdr w g l):Calls Tryz.prog 223 #[.pointer (some ⟨g,0,none⟩)] w (Post (VOps w.heap.size) w.heap.size w g (opsT l)):=by
 suffices HH:∀R,To (Post (VOps w.heap.size) w.heap.size w g (opsT l)) R→Calls Tryz.prog 223 #[.pointer (some ⟨g,0,none⟩)] w R from HH _ fun _ _ h=>h
 intro R HP;have hg:=h.size;have km:=may_any h ask_is;unfold opsT at HP;cases hi:isT sIs l with
 | false =>
  rw [hi,if_neg (by decide)] at km;rw [hi,if_neg (by decide)] at HP;go_enter Tryz.func223,Tryz.ntmps223
  go_wp2_with fail
  refine km.mono ?_;rintro e w1 ⟨rfl,h1,hk⟩;go_wp2_with fail
  exact HP.ret rfl (hk.alloc hk.size _) (zfL _ _ _ _ _ hk.size) (h1.alloc _)
 | true =>
  rw [hi,if_pos rfl] at km;rw [hi,if_pos rfl] at HP;go_enter Tryz.func223,Tryz.ntmps223
  go_wp2_with fail
  refine km.mono ?_;rintro e w1 ⟨rfl,h1,k1⟩;go_wp2_with fail
  refine (rew_any 0 (by omega) h1).mono ?_;intro e w2 hp;obtain ⟨hk,hc⟩:=hp.cases_;have k2:=k1.trans (hk.more k1.size);clear hp hk;rcases hc with ⟨c,p,hr,rfl⟩ | ⟨o,l2,v,hr,rfl,hv,h2⟩
  · go_wp2_with fail
    exact ⟨rfl,HP.fail hr k2⟩
  go_wp2_with fail
  exact HP.ret hr k2 (zav hv k1.size) h2
end
theorem znx (l:List Tk) (K:List zcb→List OpP→List Tk→Rs RelP) :
 (zaH (if isT sIs l=true∨isT (sg 59) l=true then .ok ([],l) else whoT [] l) fun w r=>zaH (opsT r) fun o r=>zaH (zaG (sg 59) r) fun _ r=>K w o r) =
 zaH (zlE l) fun w r=>zaH (opsT r) fun o r=>zaH (zaG (sg 59) r) fun _ r=>K w o r:=by
 unfold zlE;cases hn:atN l with
 | true =>
  have hn':=hn;unfold atN at hn';simp only [Bool.and_eq_true,decide_eq_true_eq,Bool.not_eq_true'] at hn';rw [if_pos rfl,if_neg];rintro (h | h)
  · unfold isT at h;have:=(of_decide_eq_true h).1;rw [this] at hn';exact absurd hn'.2 (by decide)
  · unfold isT at h;rcases (of_decide_eq_true h).2 with h2 | h2
    · omega
    · exact absurd h2 (by decide)
 | false =>
  rw [if_neg (show ¬(false=true) by decide)];by_cases h:isT sIs l=true∨isT (sg 59) l=true
  · rw [if_pos h]
  · rw [if_neg h,znC,zmO hn];have h1:isT sIs l=false:=by cases hh:isT sIs l with | true=>exact absurd (.inl hh) h | false=>rfl
    have h2:isT (sg 59) l=false:=by cases hh:isT (sg 59) l with | true=>exact absurd (.inr hh) h | false=>rfl
    rw [andT_err,zcc];unfold opsT;rw [h1,if_neg (by decide),zcc];unfold zaG;rw [h2,if_neg (by decide)];rfl
def relR (l:List Tk):Rs RelP :=
 zaH (zaG zgD l) fun _ r=>zaH (zaS r) fun n r=>zaH (zaG (sg 40) r) fun _ r=>zaH (zaS r) fun v r=>zaH (zaG (sg 44) r) fun _ r =>
 zaH (zaS r) fun e r=>zaH (zaG (sg 44) r) fun _ r=>zaH (zaS r) fun c r=>zaH (zaG (sg 41) r) fun _ r =>
 zaH (zaG (sg 58) r) fun _ r=>zaH (zlE r) fun w r=>zaH (opsT r) fun o r=>zaH (zaG (sg 59) r) fun _ r=>.ok (⟨n,v,e,c,w,o⟩,r)
theorem zm9 (l:List Tk):relR l=zaH (zaG zgD l) fun _ r=>zna r:=by
 unfold relR zna;refine zak rfl fun _ r _=>?_;refine zak rfl fun n r _=>?_;refine zak rfl fun _ r _=>?_;refine zak rfl fun v r _=>?_;refine zak rfl fun _ r _=>?_;refine zak rfl fun e r _=>?_;refine zak rfl fun _ r _=>?_;refine zak rfl fun c r _=>?_;refine zak rfl fun _ r _=>?_;refine zak rfl fun _ r _=>?_;exact (znx r fun w o r=>.ok (⟨n,v,e,c,w,o⟩,r)).symm
def VRel (B:Nat) (w:World) (v:Value) (x:RelP):Prop:=∃vs vo,v = .agg #[.string x.name,.string x.view,.string x.edit,.string x.check,vs,vo]∧VSubs B w vs x.subs∧VOps B w vo x.ops
section
variable {w:World} {g:Nat} {l:List Tk}
theorem Bk.set {w:World} {b:Nat} {cs:Array Value} {t:TypeId} (h:Bk w b cs t) (i:Nat) (v:Value):Bk (w.setCell ⟨b,i,none⟩ v) b (cs.setIfInBounds i v) t:=by
 unfold Bk at *
 simp [World.setCell,Array.getElem?_modify,h]
theorem Bk.other {w:World} {b:Nat} {cs:Array Value} {t:TypeId} (h:Bk w b cs t) {a:Addr} (ha:b≠a.block) (v:Value):Bk (w.setCell a v) b cs t:=(Below.heap_setCell _ _ _ _ ha).trans h
theorem zai {w:World} {base:Nat} {e:TypeId} {size n:Nat} {v:Value} {xs:List Value} (h:w.ownsRow base e size v n xs) {a:Addr} (ha:a.block<base) (u:Value):(w.setCell a u).ownsRow base e size v n xs :=
 zaI h fun k hk=>Below.heap_setCell _ _ _ _ (by have:=(h.lt k hk).1;omega)
theorem relation_any (h:Rdr w g l):Calls Tryz.prog 197 #[.pointer (some ⟨g,0,none⟩)] w (Post (VRel w.heap.size) w.heap.size w g (relR l)):=by
 suffices HH:∀R,To (Post (VRel w.heap.size) w.heap.size w g (relR l)) R→Calls Tryz.prog 197 #[.pointer (some ⟨g,0,none⟩)] w R from HH _ fun _ _ h=>h
 intro R HP;have hg:=h.size;unfold relR at HP;go_enter Tryz.func197,Tryz.ntmps197
 go_wp2_with fail
 have hb0:=(Bk.new w #[.string ⟨#[]⟩,.string ⟨#[]⟩,.string ⟨#[]⟩,.string ⟨#[]⟩,.slice none 0 0,.slice none 0 0] 149).alloc (.cells #[.string ⟨#[]⟩,.string ⟨#[]⟩,.string ⟨#[]⟩,.string ⟨#[]⟩,.slice none 0 0,.slice none 0 0] 149);have hb1:Bk ((w.alloc (.cells #[.string ⟨#[]⟩,.string ⟨#[]⟩,.string ⟨#[]⟩,.string ⟨#[]⟩,.slice none 0 0,.slice none 0 0] 149)).alloc (.cells #[.string ⟨#[]⟩,.string ⟨#[]⟩,.string ⟨#[]⟩,.string ⟨#[]⟩,.slice none 0 0,.slice none 0 0] 149)) (w.heap.size + 1) #[.string ⟨#[]⟩,.string ⟨#[]⟩,.string ⟨#[]⟩,.string ⟨#[]⟩,.slice none 0 0,.slice none 0 0] 149:=by have:=Bk.new (w.alloc (.cells #[.string ⟨#[]⟩,.string ⟨#[]⟩,.string ⟨#[]⟩,.string ⟨#[]⟩,.slice none 0 0,.slice none 0 0] 149)) #[.string ⟨#[]⟩,.string ⟨#[]⟩,.string ⟨#[]⟩,.string ⟨#[]⟩,.slice none 0 0,.slice none 0 0] 149;rwa [World.size_alloc] at this
 have hR:=(h.alloc (.cells #[.string ⟨#[]⟩,.string ⟨#[]⟩,.string ⟨#[]⟩,.string ⟨#[]⟩,.slice none 0 0,.slice none 0 0] 149)).alloc (.cells #[.string ⟨#[]⟩,.string ⟨#[]⟩,.string ⟨#[]⟩,.string ⟨#[]⟩,.slice none 0 0,.slice none 0 0] 149);have hK:Kp g w.heap.size w _:=((Kp.refl g _ w).alloc (Nat.le_refl _) (.cells #[.string ⟨#[]⟩,.string ⟨#[]⟩,.string ⟨#[]⟩,.string ⟨#[]⟩,.slice none 0 0,.slice none 0 0] 149)).alloc (size_alloc (Nat.le_refl _)) (.cells #[.string ⟨#[]⟩,.string ⟨#[]⟩,.string ⟨#[]⟩,.string ⟨#[]⟩,.slice none 0 0,.slice none 0 0] 149);clear h;generalize (w.alloc (.cells #[.string ⟨#[]⟩,.string ⟨#[]⟩,.string ⟨#[]⟩,.string ⟨#[]⟩,.slice none 0 0,.slice none 0 0] 149)).alloc (.cells #[.string ⟨#[]⟩,.string ⟨#[]⟩,.string ⟨#[]⟩,.string ⟨#[]⟩,.slice none 0 0,.slice none 0 0] 149)=W at *
 generalize w.heap.size=B at *
 refine (must_any hR ask_rel).mono ?_;intro e W1 hp;obtain ⟨hk,hc⟩:=hp.cases_;have hz:=Nat.le_of_lt hb0.lt;have hlt:=hb1.lt;replace hK:=hK.trans (hk.more hz);replace hb0:=hb0.kp hk (by omega);replace hb1:=hb1.kp hk (by omega);clear hp hk hR;rcases hc with ⟨c,p,hr,rfl⟩ | ⟨_,l1,v,hr,rfl,hv,hR⟩
 · go_wp2_with fail
   exact ⟨rfl,HP.bad hr hK⟩
 replace HP:=HP.bind hr;clear hr;obtain rfl:=hv;clear hz hlt;go_wp2_with fail
 refine (rname_any hR).mono ?_;intro e W1 hp;obtain ⟨hk,hc⟩:=hp.cases_;have hz:=Nat.le_of_lt hb0.lt;have hlt:=hb1.lt;replace hK:=hK.trans (hk.more hz);replace hb0:=hb0.kp hk (by omega);replace hb1:=hb1.kp hk (by omega);clear hp hk hR;rcases hc with ⟨c,p,hr,rfl⟩ | ⟨n,l1,v,hr,rfl,hv,hR⟩
 · go_wp2_with fail
   exact ⟨rfl,HP.bad hr hK⟩
 replace HP:=HP.bind hr;clear hr;obtain rfl:=hv;have hx:W1.cell? ⟨B + 1,0,none⟩=some (.string ⟨#[]⟩):=hb1.cell 0;have fx:=hb1.fz;go_wp2_with fail
 replace hR:=hR.set (a:=⟨B + 1,0,none⟩) (by show g<B + 1;omega) (.string n);replace hK:=hK.set (a:=⟨B + 1,0,none⟩) (by show B≤B + 1;omega) (.string n);replace hb0:=hb0.other (a:=⟨B + 1,0,none⟩) (by show B≠B + 1;omega) (.string n);replace hb1:Bk _ (B + 1) #[.string n,.string ⟨#[]⟩,.string ⟨#[]⟩,.string ⟨#[]⟩,.slice none 0 0,.slice none 0 0] 149:=hb1.set 0 (.string n);clear hx fx hlt hz;generalize W1.setCell ⟨B + 1,0,none⟩ (.string n)=W2 at *
 refine (must_any hR (zcM 40 (by decide))).mono ?_;intro e W1 hp;obtain ⟨hk,hc⟩:=hp.cases_;have hz:=Nat.le_of_lt hb0.lt;have hlt:=hb1.lt;replace hK:=hK.trans (hk.more hz);replace hb0:=hb0.kp hk (by omega);replace hb1:=hb1.kp hk (by omega);clear hp hk hR;rcases hc with ⟨c,p,hr,rfl⟩ | ⟨_,l1,v,hr,rfl,hv,hR⟩
 · go_wp2_with fail
   exact ⟨rfl,HP.bad hr hK⟩
 replace HP:=HP.bind hr;clear hr;obtain rfl:=hv;clear hz hlt;go_wp2_with fail
 refine (rname_any hR).mono ?_;intro e W1 hp;obtain ⟨hk,hc⟩:=hp.cases_;have hz:=Nat.le_of_lt hb0.lt;have hlt:=hb1.lt;replace hK:=hK.trans (hk.more hz);replace hb0:=hb0.kp hk (by omega);replace hb1:=hb1.kp hk (by omega);clear hp hk hR;rcases hc with ⟨c,p,hr,rfl⟩ | ⟨vi,l1,v,hr,rfl,hv,hR⟩
 · go_wp2_with fail
   exact ⟨rfl,HP.bad hr hK⟩
 replace HP:=HP.bind hr;clear hr;obtain rfl:=hv;have hx:W1.cell? ⟨B + 1,1,none⟩=some (.string ⟨#[]⟩):=hb1.cell 1;have fx:=hb1.fz;go_wp2_with fail
 replace hR:=hR.set (a:=⟨B + 1,1,none⟩) (by show g<B + 1;omega) (.string vi);replace hK:=hK.set (a:=⟨B + 1,1,none⟩) (by show B≤B + 1;omega) (.string vi);replace hb0:=hb0.other (a:=⟨B + 1,1,none⟩) (by show B≠B + 1;omega) (.string vi);replace hb1:Bk _ (B + 1) #[.string n,.string vi,.string ⟨#[]⟩,.string ⟨#[]⟩,.slice none 0 0,.slice none 0 0] 149:=hb1.set 1 (.string vi);clear hx fx hlt hz;generalize W1.setCell ⟨B + 1,1,none⟩ (.string vi)=W2 at *
 refine (must_any hR (zcM 44 (by decide))).mono ?_;intro e W1 hp;obtain ⟨hk,hc⟩:=hp.cases_;have hz:=Nat.le_of_lt hb0.lt;have hlt:=hb1.lt;replace hK:=hK.trans (hk.more hz);replace hb0:=hb0.kp hk (by omega);replace hb1:=hb1.kp hk (by omega);clear hp hk hR;rcases hc with ⟨c,p,hr,rfl⟩ | ⟨_,l1,v,hr,rfl,hv,hR⟩
 · go_wp2_with fail
   exact ⟨rfl,HP.bad hr hK⟩
 replace HP:=HP.bind hr;clear hr;obtain rfl:=hv;clear hz hlt;go_wp2_with fail
 refine (rname_any hR).mono ?_;intro e W1 hp;obtain ⟨hk,hc⟩:=hp.cases_;have hz:=Nat.le_of_lt hb0.lt;have hlt:=hb1.lt;replace hK:=hK.trans (hk.more hz);replace hb0:=hb0.kp hk (by omega);replace hb1:=hb1.kp hk (by omega);clear hp hk hR;rcases hc with ⟨c,p,hr,rfl⟩ | ⟨ed,l1,v,hr,rfl,hv,hR⟩
 · go_wp2_with fail
   exact ⟨rfl,HP.bad hr hK⟩
 replace HP:=HP.bind hr;clear hr;obtain rfl:=hv;have hx:W1.cell? ⟨B + 1,2,none⟩=some (.string ⟨#[]⟩):=hb1.cell 2;have fx:=hb1.fz;go_wp2_with fail
 replace hR:=hR.set (a:=⟨B + 1,2,none⟩) (by show g<B + 1;omega) (.string ed);replace hK:=hK.set (a:=⟨B + 1,2,none⟩) (by show B≤B + 1;omega) (.string ed);replace hb0:=hb0.other (a:=⟨B + 1,2,none⟩) (by show B≠B + 1;omega) (.string ed);replace hb1:Bk _ (B + 1) #[.string n,.string vi,.string ed,.string ⟨#[]⟩,.slice none 0 0,.slice none 0 0] 149:=hb1.set 2 (.string ed);clear hx fx hlt hz;generalize W1.setCell ⟨B + 1,2,none⟩ (.string ed)=W2 at *
 refine (must_any hR (zcM 44 (by decide))).mono ?_;intro e W1 hp;obtain ⟨hk,hc⟩:=hp.cases_;have hz:=Nat.le_of_lt hb0.lt;have hlt:=hb1.lt;replace hK:=hK.trans (hk.more hz);replace hb0:=hb0.kp hk (by omega);replace hb1:=hb1.kp hk (by omega);clear hp hk hR;rcases hc with ⟨c,p,hr,rfl⟩ | ⟨_,l1,v,hr,rfl,hv,hR⟩
 · go_wp2_with fail
   exact ⟨rfl,HP.bad hr hK⟩
 replace HP:=HP.bind hr;clear hr;obtain rfl:=hv;clear hz hlt;go_wp2_with fail
 refine (rname_any hR).mono ?_;intro e W1 hp;obtain ⟨hk,hc⟩:=hp.cases_;have hz:=Nat.le_of_lt hb0.lt;have hlt:=hb1.lt;replace hK:=hK.trans (hk.more hz);replace hb0:=hb0.kp hk (by omega);replace hb1:=hb1.kp hk (by omega);clear hp hk hR;rcases hc with ⟨c,p,hr,rfl⟩ | ⟨ck,l1,v,hr,rfl,hv,hR⟩
 · go_wp2_with fail
   exact ⟨rfl,HP.bad hr hK⟩
 replace HP:=HP.bind hr;clear hr;obtain rfl:=hv;have hx:W1.cell? ⟨B + 1,3,none⟩=some (.string ⟨#[]⟩):=hb1.cell 3;have fx:=hb1.fz;go_wp2_with fail
 replace hR:=hR.set (a:=⟨B + 1,3,none⟩) (by show g<B + 1;omega) (.string ck);replace hK:=hK.set (a:=⟨B + 1,3,none⟩) (by show B≤B + 1;omega) (.string ck);replace hb0:=hb0.other (a:=⟨B + 1,3,none⟩) (by show B≠B + 1;omega) (.string ck);replace hb1:Bk _ (B + 1) #[.string n,.string vi,.string ed,.string ck,.slice none 0 0,.slice none 0 0] 149:=hb1.set 3 (.string ck);clear hx fx hlt hz;generalize W1.setCell ⟨B + 1,3,none⟩ (.string ck)=W2 at *
 refine (must_any hR (zcM 41 (by decide))).mono ?_;intro e W1 hp;obtain ⟨hk,hc⟩:=hp.cases_;have hz:=Nat.le_of_lt hb0.lt;have hlt:=hb1.lt;replace hK:=hK.trans (hk.more hz);replace hb0:=hb0.kp hk (by omega);replace hb1:=hb1.kp hk (by omega);clear hp hk hR;rcases hc with ⟨c,p,hr,rfl⟩ | ⟨_,l1,v,hr,rfl,hv,hR⟩
 · go_wp2_with fail
   exact ⟨rfl,HP.bad hr hK⟩
 replace HP:=HP.bind hr;clear hr;obtain rfl:=hv;clear hz hlt;go_wp2_with fail
 refine (must_any hR (zcM 58 (by decide))).mono ?_;intro e W1 hp;obtain ⟨hk,hc⟩:=hp.cases_;have hz:=Nat.le_of_lt hb0.lt;have hlt:=hb1.lt;replace hK:=hK.trans (hk.more hz);replace hb0:=hb0.kp hk (by omega);replace hb1:=hb1.kp hk (by omega);clear hp hk hR;rcases hc with ⟨c,p,hr,rfl⟩ | ⟨_,l1,v,hr,rfl,hv,hR⟩
 · go_wp2_with fail
   exact ⟨rfl,HP.bad hr hK⟩
 replace HP:=HP.bind hr;clear hr;obtain rfl:=hv;clear hz hlt;go_wp2_with fail
 refine (subs_any hR).mono ?_;intro e W1 hp;obtain ⟨hk,hc⟩:=hp.cases_;have hz:=Nat.le_of_lt hb0.lt;have hlt:=hb1.lt;replace hK:=hK.trans (hk.more hz);replace hb0:=hb0.kp hk (by omega);replace hb1:=hb1.kp hk (by omega);clear hp hk hR;rcases hc with ⟨c,p,hr,rfl⟩ | ⟨ws,l1,v,hr,rfl,hv,hR⟩
 · go_wp2_with fail
   exact ⟨rfl,HP.bad hr hK⟩
 replace HP:=HP.bind hr;clear hr;have hvs:VSubs (B + 2) _ v ws:=zav hv (by omega);obtain ⟨As,cS,rfl,_⟩:=Rd.own hvs;clear hv;have hx:W1.cell? ⟨B + 1,4,none⟩=some (.slice none 0 0):=hb1.cell 4;have fx:=hb1.fz;go_wp2_with fail
 replace hR:=hR.set (a:=⟨B + 1,4,none⟩) (by show g<B + 1;omega) (.slice As ws.length cS);replace hK:=hK.set (a:=⟨B + 1,4,none⟩) (by show B≤B + 1;omega) (.slice As ws.length cS);replace hb0:=hb0.other (a:=⟨B + 1,4,none⟩) (by show B≠B + 1;omega) (.slice As ws.length cS);replace hb1:Bk _ (B + 1) #[.string n,.string vi,.string ed,.string ck,.slice As ws.length cS,.slice none 0 0] 149:=hb1.set 4 (.slice As ws.length cS);replace hvs:=zai hvs (a:=⟨B + 1,4,none⟩) (by show B + 1<B + 2;omega) (.slice As ws.length cS);clear hx fx hlt hz;generalize W1.setCell ⟨B + 1,4,none⟩ (.slice As ws.length cS)=W2 at *
 refine (ops_any hR).mono ?_;intro e W1 hp;obtain ⟨hk,hc⟩:=hp.cases_;have hz:=Nat.le_of_lt hb0.lt;have hlt:=hb1.lt;replace hK:=hK.trans (hk.more hz);replace hb0:=hb0.kp hk (by omega);replace hb1:=hb1.kp hk (by omega);replace hvs:=zaL hvs hk (by omega);clear hp hk hR;rcases hc with ⟨c,p,hr,rfl⟩ | ⟨os,l1,v,hr,rfl,hv,hR⟩
 · go_wp2_with fail
   exact ⟨rfl,HP.bad hr hK⟩
 replace HP:=HP.bind hr;clear hr;have hvo:VOps (B + 2) _ v os:=zav hv (by omega);obtain ⟨Ao,cO,rfl,_⟩:=Rd.own hvo;clear hv;have hx:W1.cell? ⟨B + 1,5,none⟩=some (.slice none 0 0):=hb1.cell 5;have fx:=hb1.fz;go_wp2_with fail
 replace hR:=hR.set (a:=⟨B + 1,5,none⟩) (by show g<B + 1;omega) (.slice Ao os.length cO);replace hK:=hK.set (a:=⟨B + 1,5,none⟩) (by show B≤B + 1;omega) (.slice Ao os.length cO);replace hb0:=hb0.other (a:=⟨B + 1,5,none⟩) (by show B≠B + 1;omega) (.slice Ao os.length cO);replace hb1:Bk _ (B + 1) #[.string n,.string vi,.string ed,.string ck,.slice As ws.length cS,.slice Ao os.length cO] 149:=hb1.set 5 (.slice Ao os.length cO);replace hvs:=zai hvs (a:=⟨B + 1,5,none⟩) (by show B + 1<B + 2;omega) (.slice Ao os.length cO);replace hvo:=zai hvo (a:=⟨B + 1,5,none⟩) (by show B + 1<B + 2;omega) (.slice Ao os.length cO);clear hx fx hlt hz;generalize W1.setCell ⟨B + 1,5,none⟩ (.slice Ao os.length cO)=W2 at *
 refine (must_any hR (zcM 59 (by decide))).mono ?_;intro e W1 hp;obtain ⟨hk,hc⟩:=hp.cases_;have hz:=Nat.le_of_lt hb0.lt;have hlt:=hb1.lt;replace hK:=hK.trans (hk.more hz);replace hb0:=hb0.kp hk (by omega);replace hb1:=hb1.kp hk (by omega);replace hvs:=zaL hvs hk (by omega);replace hvo:=zaL hvo hk (by omega);clear hp hk hR;rcases hc with ⟨c,p,hr,rfl⟩ | ⟨_,l1,v,hr,rfl,hv,hR⟩
 · go_wp2_with fail
   exact ⟨rfl,HP.bad hr hK⟩
 replace HP:=HP.bind hr;clear hr;obtain rfl:=hv;have x0:W1.cell? ⟨B + 1,0,none⟩=some (.string n):=hb1.cell 0;have y0:W1.cell? ⟨B,0,none⟩=some (.string ⟨#[]⟩):=hb0.cell 0;have x1:W1.cell? ⟨B + 1,1,none⟩=some (.string vi):=hb1.cell 1;have y1:W1.cell? ⟨B,1,none⟩=some (.string ⟨#[]⟩):=hb0.cell 1;have x2:W1.cell? ⟨B + 1,2,none⟩=some (.string ed):=hb1.cell 2;have y2:W1.cell? ⟨B,2,none⟩=some (.string ⟨#[]⟩):=hb0.cell 2;have x3:W1.cell? ⟨B + 1,3,none⟩=some (.string ck):=hb1.cell 3;have y3:W1.cell? ⟨B,3,none⟩=some (.string ⟨#[]⟩):=hb0.cell 3;have x4:W1.cell? ⟨B + 1,4,none⟩=some (.slice As ws.length cS):=hb1.cell 4;have y4:W1.cell? ⟨B,4,none⟩=some (.slice none 0 0):=hb0.cell 4;have x5:W1.cell? ⟨B + 1,5,none⟩=some (.slice Ao os.length cO):=hb1.cell 5;have y5:W1.cell? ⟨B,5,none⟩=some (.slice none 0 0):=hb0.cell 5;have fy:=hb0.fz;have hne:¬B + 1=B:=by omega
 have hne2:¬B=B + 1:=by omega
 go_wp2_with fail
 refine bodyPost_ret (v:=.agg #[.string n,.string vi,.string ed,.string ck,.slice As ws.length cS,.slice Ao os.length cO]) (by simp [results,Tryz.results197,go_sem,y0,y1,y2,y3,y4,y5];try rfl) rfl ?_;refine HP.ret rfl ?_ ⟨_,_,rfl,?_,?_⟩ ?_
 · refine Kp.set (Kp.set (Kp.set (Kp.set (Kp.set (Kp.set hK ?_ _) ?_ _) ?_ _) ?_ _) ?_ _) ?_ _ <;> exact Nat.le_refl _
 · refine zav (zai (zai (zai (zai (zai (zai hvs ?_ _) ?_ _) ?_ _) ?_ _) ?_ _) ?_ _) (show B≤B + 2 by omega) <;> (show B<B + 2;omega)
 · refine zav (zai (zai (zai (zai (zai (zai hvo ?_ _) ?_ _) ?_ _) ?_ _) ?_ _) ?_ _) (show B≤B + 2 by omega) <;> (show B<B + 2;omega)
 · refine Rdr.set (Rdr.set (Rdr.set (Rdr.set (Rdr.set (Rdr.set hR ?_ _) ?_ _) ?_ _) ?_ _) ?_ _) ?_ _ <;> exact hg
end
end Go.Proofs.YtahegpfdbgbioaaGreat
