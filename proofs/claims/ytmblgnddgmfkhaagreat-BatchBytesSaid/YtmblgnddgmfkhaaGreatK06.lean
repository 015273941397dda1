import Derived.Test.YtmblgnddgmfkhaaGreatK05
set_option maxRecDepth 100000
set_option maxHeartbeats 4000000
namespace Go.Proofs.YtmblgnddgmfkhaaGreat
open Go.RowKit
open Go.RowKit
variable {v:Value} {size n base d p:Nat} {xs:List Value}
def zmq (o:OpP):List Value:=[.int .i64 o.1,.string o.2.1,.string o.2.2]
def zbS (l:List OpP):List Value:=l.flatMap zmq
def zo9 (s:zdT):List Value:=[.string s.1,.string s.2]
def zdl (l:List zdT):List Value:=l.flatMap zo9
theorem zi8 (a b:List OpP):zbS (a ++ b)=zbS a ++ zbS b:=ya0
theorem zpa (a b:List zdT):zdl (a ++ b)=zdl a ++ zdl b:=ya0
theorem zoM (l:List OpP):∀u ∈ zbS l,u.oneCell'=true:=by
 intro u f;obtain ⟨t,_,b⟩:=ybz.1 f;simp only [zmq,yaw,ya1,ybA] at b;rcases b with rfl | rfl | rfl <;> rfl
theorem zrd (t:OpP):∀u ∈ zmq t,u.oneCell'=true:=by
 intro u b;simp only [zmq,yaw,ya1,ybA] at b;rcases b with rfl | rfl | rfl <;> rfl
theorem zh2 (t:zdT):∀u ∈ zo9 t,u.oneCell'=true:=by
 intro u b;simp only [zo9,yaw,ya1,ybA] at b;rcases b with rfl | rfl <;> rfl
theorem zcG (w:World) (a b:Value) (t:TypeId):∀j u,[a,b][j]? = some u→(w.alloc (.cells #[a,b] t)).cell? ((⟨w.heap.size,0,none⟩:Addr).add j)=some u:=by
 intro j u f;rw [Addr.add_lit,cell_of_row _ _ _ _ _ _ (heap_alloc_new w _),yaI];simpa using f
theorem zdx {g B:Nat} {w0 w w':World} {e:TypeId} {o:Obj} (hk:Kp g B w0 w) (hg:(w.alloc o).grownBy w' v.ownBlock) (hown:w.ownsRow base e size v n xs) (hB:B≤w.heap.size) (hle:B≤base):Kp g B w0 w' :=
 hk.trans ⟨hg.os,hg.tape,hg.output,by have:=hg.size;simp at this;omega,fun k b f=>by
  rw [hg.block k yag (fun e=>by have:=(hown.lt k e.symm).1;omega),Below.heap_alloc _ _ _ (by omega)]⟩
theorem zqE {g B:Nat} {w0 w w':World} {e:TypeId} (hk:Kp g B w0 w) (hg:w.grownBy w' v.ownBlock) (hown:w.ownsRow base e size v n xs) (hB:B≤w.heap.size) (hle:B≤base):Kp g B w0 w' :=
 hk.trans ⟨hg.os,hg.tape,hg.output,hg.size,fun k b f=>hg.block k yab (fun e=>by have:=(hown.lt k e.symm).1;omega)⟩
theorem zoY {g:Nat} {l:List Tk} {w w':World} {e:TypeId} (h:Rdr w g l) (hg:w.grownBy w' v.ownBlock) (hown:w.ownsRow base e size v n xs) (hle:g<base):Rdr w' g l :=
 h.keep fun k b=>hg.block k (by have:=h.size;omega) (fun e=>by have:=(hown.lt k e.symm).1;omega)
theorem zfG {g:Nat} {l:List Tk} {w w':World} {e:TypeId} {o:Obj} (h:Rdr w g l) (hg:(w.alloc o).grownBy w' v.ownBlock) (hown:w.ownsRow base e size v n xs) (hle:g<base):Rdr w' g l :=
 h.keep fun k b=>by
  have:=h.size;rw [hg.block k yag (fun e=>by have:=(hown.lt k e.symm).1;omega),Below.heap_alloc _ _ _ (by omega)]
def zjj (B:Nat) (w:World) (v:Value) (o:List OpP):Prop:=w.ownsRow B 222 3 v o.length (zbS o)
def zgw (B:Nat) (w:World) (v:Value) (s:List zdT):Prop:=w.ownsRow B 246 2 v s.length (zdl s)
def VSub (_:World) (v:Value) (s:zdT):Prop:=v = .agg #[.string s.1,.string s.2]
theorem info_op:(Tryz.prog.info? 222).map (fun i=>(i.zero,i.size,i.bytes))=some (some (.agg #[.int .i64 0,.string .empty,.string .empty]),3,40):=by kernel_rfl
theorem zjC:(Tryz.prog.info? 246).map (fun i=>(i.zero,i.size,i.bytes))=some (some (.agg #[.string .empty,.string .empty]),2,32):=by kernel_rfl
section
variable {w w':World} {g B:Nat}
theorem zcr {e:TypeId} (h:w.ownsRow B e size v n xs) (hk:Kp g w.heap.size w w') (hg:g<B):w'.ownsRow B e size v n xs :=
 zaH h fun k b=>hk.block k (h.lt k b).2 (by have:=(h.lt k b).1;omega)
end
def Bk (w:World) (b:Nat) (cs:Array Value) (t:TypeId):Prop:=w.heap[b]? = some (.cells cs t (0,0))
section
variable {l:List Tk} {w w':World} {b g B:Nat} {cs:Array Value} {t:TypeId}
theorem Bk.new (w:World) (cs:Array Value) (t:TypeId):Bk (w.alloc (.cells cs t)) w.heap.size cs t:=heap_alloc_new w _
theorem Bk.lt (h:Bk w b cs t):b<w.heap.size:=(yaR.1 h).1
theorem Bk.kp (h:Bk w b cs t) (hk:Kp g w.heap.size w w') (hg:b≠g):Bk w' b cs t:=(hk.block b h.lt hg).trans h
theorem Bk.below (h:Bk w b cs t) (hk:Below w.heap.size w w'):Bk w' b cs t:=(hk.block b h.lt).trans h
theorem Bk.alloc (h:Bk w b cs t) (o:Obj):Bk (w.alloc o) b cs t:=(heap_alloc_old w _ h.lt).trans h
theorem Bk.cell (h:Bk w b cs t) (i:Nat):w.cell? ⟨b,i,none⟩=cs[i]?:=by rw [cell_of_row _ _ _ _ _ _ h]
theorem Bk.c2 {x y:Value} (h:Bk w b #[x,y] t):w.cell? ⟨b,0,none⟩=some x∧w.cell? ⟨b,1,none⟩=some y:=⟨h.cell 0,h.cell 1⟩
theorem Bk.fz (h:Bk w b cs t) (i:Nat):w.frozen? ⟨b,i,none⟩=false:=by simp [World.frozen?,show w.heap[b]? = some (.cells cs t (0,0)) from h]
theorem Kp.alloc (h:Kp g B w w') (hB:B≤w'.heap.size) (o:Obj):Kp g B w (w'.alloc o):=h.trans (Kp.of_below ((Below.refl _ w').alloc hB o) g)
theorem Kp.set (h:Kp g B w w') {a:Addr} (ha:B≤a.block) (v:Value):Kp g B w (w'.setCell a v) :=
 h.trans ⟨rfl,rfl,rfl,by simp [World.setCell],fun k hk _=>Below.heap_setCell _ _ _ _ yab⟩
theorem Rdr.set (h:Rdr w g l) {a:Addr} (ha:g<a.block) (v:Value):Rdr (w.setCell a v) g l:=h.keep fun k hk=>Below.heap_setCell _ _ _ _ yab
theorem Rdr.alloc {l:List Tk} (h:Rdr w g l) (o:Obj):Rdr (w.alloc o) g l:=h.below ((Below.refl _ w).alloc (yaj _) o)
end
section
variable {w:World} {g:Nat} {l:List Tk}
theorem zc8 (c:UInt8) (h:zcq c.toNat=true):Ask (sg c):=⟨zap c,.inr ⟨c,h,rfl⟩⟩
theorem zjl {s:ByteArray} (h:keyB s=true) (h0:0<s.size):Ask s:=⟨h0,.inl h⟩
theorem may_any (h:Rdr w g l) {s:ByteArray} (hs:Ask s):Calls Tryz.prog 246 #[.pointer (some ⟨g,0,none⟩),.string s] w fun e w'=>e = .returned (.bool (isT s l))∧Rdr w' g (if isT s l=true then l.tail else l)∧Kp g w.heap.size w w':=by
 rw [h.fine.isT hs];by_cases e:(hdT l).2.1=s
 · rw [yaB e,yan rfl];exact may_yes h hs.1 e
 · rw [yaF e,yak (by decide)];exact (may_no h e).mono fun _ _ ⟨f,b⟩=>⟨f,h.below b,Kp.of_below b g⟩
def To (X R:Ending→World→Prop):Prop:=∀e w',X e w'→R e w'
section
variable {α β:Type} {V:World→Value→β→Prop} {B:Nat} {w':World} {r:Rs α} {q:Rs β} {k:α→List Tk→Rs β} {R:Ending→World→Prop}
theorem To.bind (h:To (Post V B w g (zaL r k)) R) {a:α} {l:List Tk} (hr:r = .ok (a,l)):To (Post V B w g (k a l)) R:=fun e w' q=>h e w' (by rw [hr];exact q)
theorem To.bad (h:To (Post V B w g (zaL r k)) R) {c:Nat} (hr:r = .error (c,p)) (hk:Kp g B w w'):R (ziM c p) w':=h _ _ (by rw [hr];exact Post.bad hk c p)
theorem To.fail (h:To (Post V B w g q) R) {c:Nat} (hr:q = .error (c,p)) (hk:Kp g B w w'):R (ziM c p) w':=h _ _ (by rw [hr];exact Post.bad hk c p)
theorem To.ret (h:To (Post V B w g q) R) {a:β} {l:List Tk} (hr:q = .ok (a,l)) (hk:Kp g B w w') (hv:V w' v a) (hd:Rdr w' g l):R (.returned v) w':=h _ _ (by rw [hr];exact Post.ok hk hv hd)
end
theorem sub_any (h:Rdr w g l):Calls Tryz.prog 284 #[.pointer (some ⟨g,0,none⟩)] w
 (Post VSub w.heap.size w g (zaL (zaY l) fun n r=>zaL (if isT (sg 35) r=true then zaY r.tail else .ok (⟨#[]⟩,r)) fun m r=>.ok ((n,m),r))):=by
 suffices H:∀R,To (Post VSub w.heap.size w g (zaL (zaY l) fun n r=>zaL (if isT (sg 35) r=true then zaY r.tail else .ok (⟨#[]⟩,r)) fun m r=>.ok ((n,m),r))) R→Calls Tryz.prog 284 #[.pointer (some ⟨g,0,none⟩)] w R from H _ fun _ _ h=>h
 intro R b;have J:=h.size;have K:=h.alloc (.cells #[.string ⟨#[]⟩,.string ⟨#[]⟩] 246);have L:=Bk.new w #[.string ⟨#[]⟩,.string ⟨#[]⟩] 246;have C:Kp g w.heap.size w _:=(Kp.refl g _ w).alloc (yaj _) (.cells #[.string ⟨#[]⟩,.string ⟨#[]⟩] 246);have z0:w.heap.size≤_:=C.size;go_enter Tryz.func284,Tryz.ntmps284
 go_wp2_with fail
 refine (rname_any K).mono ?_;intro e o s;obtain ⟨hk,D⟩:=s.cases_;clear s K h;have A:=C.trans (hk.more z0);have u:=L.kp hk yab;have x:=A.size;have Q:¬o.heap.size=w.heap.size:=by have:=u.lt;omega
 have T:¬w.heap.size=o.heap.size:=by omega
 clear C L hk z0;rcases D with ⟨c,p,j,rfl⟩ | ⟨n,U,v,j,rfl,rfl,q⟩
 · go_wp2_with fail
   exact ⟨rfl,b.bad j A⟩
 replace b:=b.bind j;clear j;have f:=q.alloc (.cells #[.string n,.string ⟨#[]⟩] 246);have M:=zc8 35 yac;cases hi:isT (sg 35) U with
 | false =>
  have k:=may_any f M;rw [hi,yak (by decide)] at k;rw [hi,yak (by decide)] at b;go_wp2_with fail
  refine k.mono ?_;rintro e V ⟨rfl,E,hk⟩;have y:=(A.alloc x _).trans (hk.more (size_alloc x));have B:=(Bk.new o #[.string n,.string ⟨#[]⟩] 246).kp hk (by have:=q.size;omega);have z:=(u.alloc (.cells #[.string n,.string ⟨#[]⟩] 246)).kp hk yab;clear hk k q f u;obtain ⟨X,Y⟩:=B.c2;obtain ⟨F,G⟩:=z.c2;have Z:=z.fz;go_wp2_with fail
  refine bodyPost_ret (v:=.agg #[.string n,.string ⟨#[]⟩]) (by simp [results,Tryz.results284,go_sem,F,G];try rfl) rfl ?_;refine b.ret rfl ?_ rfl ?_
  · refine Kp.set (Kp.set y ?_ _) ?_ _ <;> exact yaj _
  · refine Rdr.set (Rdr.set E ?_ _) ?_ _ <;> exact J
 | true =>
  have k:=may_any f M;rw [hi,yan rfl] at k;rw [hi,yan rfl] at b;go_wp2_with fail
  refine k.mono ?_;rintro e V ⟨rfl,E,hk⟩;have y:=(A.alloc x _).trans (hk.more (size_alloc x));have B:=(Bk.new o #[.string n,.string ⟨#[]⟩] 246).kp hk (by have:=q.size;omega);have z:=(u.alloc (.cells #[.string n,.string ⟨#[]⟩] 246)).kp hk yab;have I:o.heap.size≠g:=by have:=q.size;omega
  clear hk k q f u;go_wp2_with fail
  refine (rname_any E).mono ?_;intro e w3 s;obtain ⟨hk,D⟩:=s.cases_;clear s;have z2:=y.size;have N:=y.trans (hk.more z2);have O:=B.kp hk I;have P:=z.kp hk yab;clear hk B z y;rcases D with ⟨c,p,j,rfl⟩ | ⟨m,l3,v,j,rfl,rfl,h3⟩
  · go_wp2_with fail
    exact ⟨rfl,b.bad j N⟩
  replace b:=b.bind j;obtain ⟨X,Y⟩:=O.c2;obtain ⟨F,G⟩:=P.c2;have fx:=O.fz;have Z:=P.fz;go_wp2_with fail
  refine bodyPost_ret (v:=.agg #[.string n,.string m]) (by simp [results,Tryz.results284,go_sem,F,G];try rfl) rfl ?_;refine b.ret rfl ?_ rfl ?_
  · refine Kp.set (Kp.set (Kp.set N x _) ?_ _) ?_ _ <;> exact yaj _
  · refine Rdr.set (Rdr.set (Rdr.set h3 (by show g<o.heap.size;omega) _) ?_ _) ?_ _ <;> exact J
end
theorem zcF {α β γ:Type} (r:Rs α) (k:α→List Tk→Rs β) (k2:β→List Tk→Rs γ):zaL (zaL r k) k2=zaL r fun a l=>zaL (k a l) k2:=by
 cases r with
 | error e=>rfl
 | ok a=>rfl
theorem ask_this:Ask zis:=zjl rfl yac
theorem zgR (w:World) (k:Nat) (a b:ByteArray) (B:Nat) (hB:B≤w.heap.size):zjj B (w.alloc (.cells #[.int .i64 k,.string a,.string b] 222)) (.slice (some ⟨w.heap.size,0,none⟩) 1 1) [(k,a,b)] :=
 zhK w #[.int .i64 k,.string a,.string b] 222 1 3 B rfl yac hB
def zji (N:Nat):Prop:=∀(d:Nat) (l:List Tk) (w:World) (g:Nat),l.length≤N→d≤8→Rdr w g l →
 Calls Tryz.prog 285 #[.pointer (some ⟨g,0,none⟩),.int .i64 d] w (Post (zjj w.heap.size) w.heap.size w g (zlF d l))
def zfe (N:Nat):Prop:=∀(d:Nat) (l:List Tk) (w:World) (g:Nat),l.length≤N→d≤8→Rdr w g l →
 Calls Tryz.prog 288 #[.pointer (some ⟨g,0,none⟩),.int .i64 d] w (Post (zjj w.heap.size) w.heap.size w g (zfE d l))
def zkO (d p:Nat) (l:List Tk):Rs (List OpP):=if d=8 then .error (13,p) else zaL (zlF (d + 1) l) fun o r=>zaL (zaQ (sg 41) r) fun _ r=>.ok (o,r)
section
variable {w:World} {g:Nat} {l:List Tk}
theorem inner_any {N:Nat} (H:zji N) (hN:l.length≤N) (hd:d≤8) (h:Rdr w g l) :
 Calls Tryz.prog 290 #[.pointer (some ⟨g,0,none⟩),.int .i64 d,.int .i64 p] w (Post (zjj w.heap.size) w.heap.size w g (zkO d p l)):=by
 suffices A:∀R,To (Post (zjj w.heap.size) w.heap.size w g (zkO d p l)) R→Calls Tryz.prog 290 #[.pointer (some ⟨g,0,none⟩),.int .i64 d,.int .i64 p] w R from A _ fun _ _ h=>h
 intro R b;have B:=h.size;unfold zkO at b;by_cases u:d=8
 · subst u;rw [yan rfl] at b;go_enter Tryz.func290,Tryz.ntmps290
   go_wp2_with fail
   exact ⟨rfl,b.fail rfl (Kp.refl _ _ _)⟩
 · rw [yak u] at b;have C:¬((8:Int)≤(d:Int)):=by omega
   have n:=H (d + 1) l w g hN yab h;have j:(((d + 1:Nat)):Int)=(d:Int) + 1:=by omega
   rw [j] at n;go_enter Tryz.func290,Tryz.ntmps290
   go_wp2_with fail
   refine n.mono ?_;intro e E m;obtain ⟨hk,q⟩:=m.cases_;clear m n h;rcases q with ⟨c,p,f,rfl⟩ | ⟨o,F,v,f,rfl,x,y⟩
   · go_wp2_with fail
     exact ⟨rfl,b.bad f hk⟩
   replace b:=b.bind f;clear f;go_wp2_with fail
   refine (must_any y (zc8 41 yac)).mono ?_;intro e G m;obtain ⟨k,q⟩:=m.cases_;have z:=hk.trans (k.more hk.size);have s:=zcr x k B;clear m hk k x y;rcases q with ⟨c,p,f,rfl⟩ | ⟨I,J,K,f,rfl,rfl,D⟩
   · go_wp2_with fail
     exact ⟨rfl,b.bad f z⟩
   replace b:=b.bind f;go_wp2_with fail
   exact b.ret rfl z s D
theorem partT_in {l:List Tk} (h1:isT zis l=false) (h2:isT (sg 40) l=true):zfE d l=zkO d (hdT l).2.2 l.tail:=by
 rw [zjW,h1,h2,yak yac,yan rfl];unfold zkO zlF;by_cases b:d=8
 · rw [yan b,yan b];rfl
 · rw [yak b,yak b,zcF]
theorem zoR {l:List Tk} (h1:isT zis l=false) (h2:isT (sg 40) l=false):zfE d l=zaL (zaY l) fun n r=>if isT (sg 46) r=true then zaL (zaY r.tail) fun m r=>.ok ([(3,n,m)],r) else .ok ([(2,n,⟨#[]⟩)],r):=by
 rw [zjW,h1,h2,yak yac,yak (by decide)]
theorem zoS {l:List Tk} (h1:isT zis l=true):zfE d l = .ok ([(1,⟨#[]⟩,⟨#[]⟩)],l.tail):=by
 rw [zjW,h1,yan rfl]
theorem part_upto {N:Nat} (H:zji (N-1)):zfe N:=by
 intro d l w g X J h;suffices K:∀R,To (Post (zjj w.heap.size) w.heap.size w g (zfE d l)) R→Calls Tryz.prog 288 #[.pointer (some ⟨g,0,none⟩),.int .i64 d] w R from K _ fun _ _ h=>h
 intro R f;have Y:=h.size;have b:=may_any h ask_this;have L:l.tail.length=l.length-1:=List.length_tail;cases hi:isT zis l with
 | true =>
  rw [zoS hi] at f;rw [hi,yan rfl] at b;go_enter Tryz.func288,Tryz.ntmps288
  go_wp2_with fail
  refine b.mono ?_;rintro e M ⟨rfl,y,hk⟩;go_wp2_with fail
  exact f.ret rfl (hk.alloc hk.size _) (zgR _ _ _ _ _ hk.size) (y.alloc _)
 | false =>
  rw [hi,yak (by decide)] at b;go_enter Tryz.func288,Tryz.ntmps288
  go_wp2_with fail
  refine b.mono ?_;rintro e M ⟨rfl,y,D⟩;have Z:=tok_f2;go_wp2_with fail
  refine (zcd y).mono ?_;rintro e w2 ⟨rfl,hb⟩;have I:=y.below hb;have x:=D.trans ((Kp.of_below hb g).more D.size);clear hb y D b;have b:=may_any I (zc8 40 yac);cases A:isT (sg 40) l with
  | true =>
   rw [partT_in hi A] at f;rw [A,yan rfl] at b;go_wp2_with fail
   refine b.mono ?_;rintro e O ⟨rfl,E,hk⟩;have s:=x.trans (hk.more x.size);clear hk x b;go_wp2_with fail
   refine (inner_any (p:=(hdT l).2.2) H yab J E).mono ?_;intro e P q;obtain ⟨hk,z⟩:=q.cases_;have k:=s.trans (hk.more s.size);clear q hk;rcases z with ⟨c,p,j,rfl⟩ | ⟨o,l1,v,j,rfl,Q,F⟩
   · go_wp2_with fail
     exact ⟨rfl,f.fail j k⟩
   go_wp2_with fail
   exact f.ret j k (zaA Q s.size) F
  | false =>
   rw [zoR hi A] at f;rw [A,yak (by decide)] at b;go_wp2_with fail
   refine b.mono ?_;rintro e O ⟨rfl,E,hk⟩;have s:=x.trans (hk.more x.size);clear hk x b I;go_wp2_with fail
   refine (rname_any E).mono ?_;intro e P q;obtain ⟨hk,z⟩:=q.cases_;have k:=s.trans (hk.more s.size);clear q hk s;rcases z with ⟨c,p,j,rfl⟩ | ⟨n,T,v,j,rfl,rfl,F⟩
   · go_wp2_with fail
     exact ⟨rfl,f.bad j k⟩
   replace f:=f.bind j;clear j;have b:=may_any F (zc8 46 yac);cases B:isT (sg 46) T with
   | false =>
    rw [B,yak (by decide)] at f;rw [B,yak (by decide)] at b;go_wp2_with fail
    refine b.mono ?_;rintro e U ⟨rfl,G,hk⟩;have u:=k.trans (hk.more k.size);clear hk k b;go_wp2_with fail
    exact f.ret rfl (u.alloc u.size _) (zgR _ _ _ _ _ u.size) (G.alloc _)
   | true =>
    rw [B,yan rfl] at f;rw [B,yan rfl] at b;go_wp2_with fail
    refine b.mono ?_;rintro e U ⟨rfl,G,hk⟩;have u:=k.trans (hk.more k.size);clear hk k b;go_wp2_with fail
    refine (rname_any G).mono ?_;intro e w6 q;obtain ⟨hk,z⟩:=q.cases_;have C:=u.trans (hk.more u.size);clear q hk u;rcases z with ⟨c,p,j,rfl⟩ | ⟨m,l6,v,j,rfl,rfl,V⟩
    · go_wp2_with fail
      exact ⟨rfl,f.bad j C⟩
    replace f:=f.bind j;clear j;go_wp2_with fail
    exact f.ret rfl (C.alloc C.size _) (zgR _ _ _ _ _ C.size) (V.alloc _)
end
end Go.Proofs.YtmblgnddgmfkhaaGreat
