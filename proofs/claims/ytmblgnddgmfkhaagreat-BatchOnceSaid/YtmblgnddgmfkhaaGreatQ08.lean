import Derived.Test.YtmblgnddgmfkhaaGreatQ07
set_option maxRecDepth 100000
set_option maxHeartbeats 4000000
namespace Go.Proofs.YtmblgnddgmfkhaaGreat
open Go.RowKit
open Go.RowKit
open Go.RowKit
open Go.RowKit
theorem zkD {d:Nat} {l r:List Tk} {o:List OpP} (h:ze5 d l = .ok (o,r)):r.length<l.length:=(eats _).1 _ _ _ _ h
theorem few:∀f:Nat,(∀d l o r,partF f d l = .ok (o,r)→o.length + r.length≤l.length)∧(∀d acc l o r,moreF f d acc l = .ok (o,r)→o.length + r.length≤acc.length + l.length)
 | 0=>⟨fun d l o r h=>(by unfold partF at h;cases h),fun d acc l o r h=>(by unfold moreF at h;cases h)⟩
 | f + 1=>by
  obtain ⟨g,j⟩:=few f;constructor
  · intro d l o r h;unfold partF at h;split at h
    · rename_i b
      cases h;have:=zaw (by show 0<4;omega) b;rw [ybu];omega
    · split at h
      · rename_i b
        have p:=zaw (zao _) b;split at h
        · cases h
        · obtain ⟨a,m,k,h⟩:=zac h;obtain ⟨q,s,n,h⟩:=zac h;obtain ⟨a3,x,u,h⟩:=zac h;cases h;have:=g _ _ _ _ k;have:=j _ _ _ _ _ n;have:=zap (zao _) u;omega
      · obtain ⟨a,m,k,h⟩:=zac h;have p:=zaq k;split at h
        · rename_i b
          have y:=zaw (zao _) b;obtain ⟨q,s,n,h⟩:=zac h;have:=zaq n;cases h;rw [ybu];omega
        · cases h;rw [ybu];omega
  · intro d acc l o r h;unfold moreF at h;split at h
    · cases h;omega
    · rename_i b
      have p:=zfy b;obtain ⟨a,m,k,h⟩:=zac h;have:=g _ _ _ _ k;have:=j _ _ _ _ _ h;rw [yam,yam,ybu] at this;omega
theorem zkC {d:Nat} {l r:List Tk} {o:List OpP} (h:ze5 d l = .ok (o,r)):o.length + r.length≤l.length:=(few _).1 _ _ _ _ h
theorem opT_text {l:List Tk} (hf:Fine l) (h:¬opT l=0):Fine l.tail:=by
 rw [←ziZ hf] at h;unfold zf7 at h;by_cases b:(hdT l).2.1=⟨#[124]⟩
 · exact hf.next yac b
 by_cases d:(hdT l).2.1=⟨#[38]⟩
 · exact hf.next yac d
 by_cases f:(hdT l).2.1=⟨#[45]⟩
 · exact hf.next yac f
 rw [yak b,yak d,yak f] at h;exact absurd rfl h
section
variable {w:World} {g:Nat} {l:List Tk}
theorem rew_upto {N:Nat} (H:zeH N):ziE N:=by
 intro d l w g hN hd h;suffices HH:∀R,To (Post (ziF w.heap.size) w.heap.size w g (zk3 d l)) R→Calls Tryz.prog 285 #[.pointer (some ⟨g,0,none⟩),.int .i64 d] w R from HH _ fun _ _ h=>h
 intro R k;have hg:=h.size;have kp:=H d l w g hN hd h;have D:=h.few;unfold zk3 at k;go_enter Tryz.func285,Tryz.ntmps285
 go_wp2_with fail
 refine kp.mono ?_;intro e w1 J;obtain ⟨k1,hc⟩:=J.cases_;clear J kp h;rcases hc with ⟨c,p,m,rfl⟩ | ⟨o,l1,v,m,rfl,z,h1⟩
 · go_wp2_with fail
   exact ⟨rfl,k.bad m k1⟩
 replace k:=k.bind m;have n:=zkD m;have q:=zkC m;clear m;have a1:=h1.few;go_wp2_with fail
 go_loopw [5] (fun vi wr=>∃b u,ziF w.heap.size wr vi b∧Rdr wr g u∧Kp g w.heap.size w wr∧To (Post (ziF w.heap.size) w.heap.size w g (zlI d b u)) R∧b.length + u.length≤l.length∧u.length<l.length) (fun _ wr=>left wr g)
 case atStart=>exact ⟨o,l1,z,h1,k1,k,q,n⟩
 case round =>
  clear k z h1 k1 n q a1;obtain ⟨b,u,z,E,G,k,hl,ad⟩:=hrel;obtain ⟨A,c,rfl,_⟩:=Rd.own z;have a2:=E.left;have f1:=zkX;have f:=E.fine;rw [moreT_eq,←ziZ f] at k;have a6:=fun h=>opT_text f (by rw [←ziZ f];exact h);have K:=fun h=>zfy (l:=u) (by rw [←ziZ f];exact h);have kj:∀W,_:=fun W=>joins_any (hdT u).2.1 W;have kf:=zbY E;generalize (hdT u).2.1=x at *
  by_cases I:zf7 x=0
  · rw [yan I] at k;rw [I] at kj;go_wp2_with fail
    refine kf.mono ?_;rintro e w3 ⟨rfl,hb⟩;have h4:=E.below hb;have L:=G.trans ((Kp.of_below hb g).more G.size);have y:=zan z hb;clear hb E G z kf;go_wp2_with ((with_reducible refine (kj _).mono ?_);rintro e w' ⟨rfl,rfl⟩)
    exact k.ret rfl L y h4
  · rw [yak I] at k;rw [yaH I] at kj;have hf:=a6 I;have K:=K I;go_wp2_with fail
    refine kf.mono ?_;rintro e w3 ⟨rfl,hb⟩;have h4:=E.below hb;have L:=G.trans ((Kp.of_below hb g).more G.size);have y:=zan z hb;clear hb E G z kf;go_wp2_with (first
     | ((with_reducible refine (kj _).mono ?_);rintro e w' ⟨rfl,rfl⟩)
     | ((with_reducible refine (pass_any h4 hf).mono ?_);rintro e w4 ⟨rfl,h5,hk⟩))
    have k5:=L.trans (hk.more L.size);have M:=zcc y hk hg;clear hk L y h4 kj;refine (H d u.tail _ g yab hd h5).mono ?_;intro e w5 J;obtain ⟨hk,hc⟩:=J.cases_;have k6:=k5.trans (hk.more k5.size);have ae:=k5.size;have F:=zcc M hk hg;clear J hk k5 M h5;rcases hc with ⟨c,p,m,rfl⟩ | ⟨B,l5,v5,m,rfl,a7,h6⟩
    · go_wp2_with fail
      exact ⟨rfl,k.bad m k6⟩
    replace k:=k.bind m;have n:=zkD m;have q:=zkC m;clear m;have a8:=h6.few;have O:=k6.size;have aa:l.length≤1000000:=D;obtain ⟨i0,P,Q,T,U⟩:=info_parts info_op;obtain ⟨A5,c5,rfl,C⟩:=Rd.own a7;have V:=C.src Tryz.underlying201 (zn0 B);clear C;go_wp2_with (first
     | (at_builtin;refine zab _ rfl (.tmp 23) (.tmp 26) 201 201 rfl w.heap.size 222 i0 (.agg #[.int .i64 0,.string .empty,.string .empty]) 3 40 Tryz.underlying201 P Q T U rfl yac _ b.length (zbJ b) rfl F _ B.length (zbJ B) rfl V yad yab O ?_;intro v1 w6 j X ab;obtain ⟨A1,c1,rfl,_⟩:=Rd.own j;have k7:=zpO (v:=.slice A b.length c) k6 X F O (yaj _);have h7:=zod (v:=.slice A b.length c) h6 X F hg;have Y:=k7.size)
     | (at_builtin;refine zab _ rfl (.tmp 28) (.tmp 31) 201 201 rfl w.heap.size 222 i0 (.agg #[.int .i64 0,.string .empty,.string .empty]) 3 40 Tryz.underlying201 P Q T U rfl yac _ (b.length + B.length) (zbJ b ++ zbJ B) rfl (World.ownsRow.alloc j _) _ 1 [.int .i64 (zf7 x),.string ⟨#[]⟩,.string ⟨#[]⟩] rfl (Src.ofSlice _ Tryz.underlying201 _ 1 1 _ rfl (zeK _ _ _ _ _) (zqp (zf7 x,⟨#[]⟩,⟨#[]⟩))) yad yab (size_alloc Y) ?_;intro v2 w7 s Z ac;obtain ⟨A2,c2,rfl,_⟩:=Rd.own s;have k8:=zdf (v:=.slice A1 (b.length + B.length) c1) k7 Z j Y (yaj _);have h8:=ze7 (v:=.slice A1 (b.length + B.length) c1) h7 Z j hg))
    refine ⟨⟨b ++ B ++ [(zf7 x,⟨#[]⟩,⟨#[]⟩)],l5,?_,h8,k8,k,?_,by omega⟩,?_⟩
    · unfold ziF;rw [yam,yam,zit,zit];exact s
    · rw [yam,yam,ybu];omega
    · rw [h8.left,a2];omega
theorem zmX:∀N,zeH N∧ziE N
 | 0=>by
  have h:zeH 0:=fun d l w g b _ h=>by
   obtain ⟨t,r,rfl⟩:=h.fine.cons;simp at b
  exact ⟨h,rew_upto h⟩
 | N + 1=>by
  have h:zeH (N + 1):=part_upto (zmX N).2;exact ⟨h,rew_upto h⟩
theorem rew_any (d:Nat) (hd:d≤8) (h:Rdr w g l):Calls Tryz.prog 285 #[.pointer (some ⟨g,0,none⟩),.int .i64 d] w (Post (ziF w.heap.size) w.heap.size w g (zk3 d l)) :=
 (zmX l.length).2 d l w g (yaj _) hd h
end
def subT (l:List Tk):Rs zdv:=zaG (zaT l) fun n r=>zaG (if isT (sg 35) r=true then zaT r.tail else .ok (⟨#[]⟩,r)) fun m r=>.ok ((n,m),r)
def whoM (acc:List zdv) (l:List Tk):Rs (List zdv):=if isT (sg 44) l=true then whoT acc l.tail else .ok (acc,l)
theorem znr (acc:List zdv) (l:List Tk):whoT acc l=zaG (subT l) fun s r=>whoM (acc ++ [s]) r:=by
 rw [zrm];unfold subT;rw [zcp];congr 1
 funext n r
 rw [zcp];rfl
theorem subT_len {l r:List Tk} {s:zdv} (h:subT l = .ok (s,r)):r.length<l.length:=by
 obtain ⟨n,m,b,d⟩:=zac h;obtain ⟨a,j,f,g⟩:=zac d;have:=zaq b;have:=zjA f;cases g;omega
def atN (l:List Tk):Bool:=decide ((hdT l).1=1) && !keyB (hdT l).2.1
def zov (l:List Tk):Rs (List zdv):=if atN l=true then whoT [] l else .ok ([],l)
section
variable {w:World} {g:Nat} {l:List Tk}
theorem subs_any (h:Rdr w g l):Calls Tryz.prog 274 #[.pointer (some ⟨g,0,none⟩)] w (Post (zf3 w.heap.size) w.heap.size w g (zov l)):=by
 suffices H:∀R,To (Post (zf3 w.heap.size) w.heap.size w g (zov l)) R→Calls Tryz.prog 274 #[.pointer (some ⟨g,0,none⟩)] w R from H _ fun _ _ h=>h
 intro R b;have J:=h.size;have q:=atName_any h;rw [show (decide ((hdT l).1=1) && !keyB (hdT l).2.1)=atN l from rfl] at q;unfold zov at b;cases K:atN l with
 | false =>
  rw [K] at q;rw [K,yak (by decide)] at b;go_enter Tryz.func274,Tryz.ntmps274
  go_wp2_with ((with_reducible refine q.mono ?_);rintro e w1 ⟨rfl,hb⟩)
  exact b.ret rfl (Kp.of_below hb g) (World.ownsRow_nil _ _ _ _) (h.below hb)
 | true =>
  rw [K] at q;rw [K,yan rfl,znr] at b;go_enter Tryz.func274,Tryz.ntmps274
  go_wp2_with ((with_reducible refine q.mono ?_);rintro e w1 ⟨rfl,hb⟩)
  have Y:=h.below hb;have N:=Kp.of_below hb g;clear h hb q;refine (sub_any Y).mono ?_;intro e w2 y;obtain ⟨hk,O⟩:=y.cases_;clear y;have z:=N.trans (hk.more N.size);clear hk N Y;rcases O with ⟨c,p,j,rfl⟩ | ⟨s,l2,v,j,rfl,rfl,Z⟩
  · go_wp2_with fail
    exact ⟨rfl,b.bad j z⟩
  replace b:=b.bind j;clear j;go_wp2_with fail
  have B:Kp g w.heap.size w _:=z.alloc z.size (.cells #[.string s.1,.string s.2] 246);have C:zf3 w.heap.size _ _ ([] ++ [s]):=zjh w2 #[.string s.1,.string s.2] 246 1 2 w.heap.size rfl yac z.size;have m:=Z.alloc (.cells #[.string s.1,.string s.2] 246);clear z Z;go_loopw [3] (fun vi wr=>∃d n,zf3 w.heap.size wr vi d∧Rdr wr g n∧Kp g w.heap.size w wr∧To (Post (zf3 w.heap.size) w.heap.size w g (whoM d n)) R∧d.length + n.length≤2000000) (fun _ wr=>left wr g)
  case atStart=>exact ⟨[] ++ [s],l2,C,m,B,b,by have:=m.few;simp;omega⟩
  case round =>
   clear b C m B;obtain ⟨d,n,D,L,u,b,hl⟩:=hrel;obtain ⟨A,c,rfl,_⟩:=Rd.own D;have x:=may_any L (zcS 44 yac);have P:=L.left;cases hi:isT (sg 44) n with
   | false =>
    rw [hi,yak (by decide)] at x;unfold whoM at b;rw [hi,yak (by decide)] at b;go_wp2_with fail
    refine x.mono ?_;rintro e w3 ⟨rfl,M,hk⟩;have E:=u.trans (hk.more u.size);have k:=zcc D hk J;clear x hk u D L;go_wp2_with fail
    exact b.ret rfl E k M
   | true =>
    rw [hi,yan rfl] at x;unfold whoM at b;rw [hi,yan rfl,znr] at b;go_wp2_with fail
    refine x.mono ?_;rintro e w3 ⟨rfl,M,hk⟩;have E:=u.trans (hk.more u.size);have k:=zcc D hk J;clear x hk u D L;go_wp2_with fail
    refine (sub_any M).mono ?_;intro e w4 y;obtain ⟨hk,O⟩:=y.cases_;clear y;have Q:=E.trans (hk.more E.size);have o:=zcc k hk J;clear hk E k M;rcases O with ⟨c,p,j,rfl⟩ | ⟨s4,l5,v,j,rfl,rfl,h5⟩
    · go_wp2_with fail
      exact ⟨rfl,b.bad j Q⟩
    have a1:=subT_len j;replace b:=b.bind j;obtain ⟨i0,T,U,V,X⟩:=info_parts ziX;have F:=Q.size;have a6:n.tail.length≤n.length:=by rw [List.length_tail];omega
    clear j;go_wp2_with (at_builtin;refine zab _ rfl (.tmp 12) (.tmp 15) 200 200 rfl w.heap.size 246 i0 (.agg #[.string .empty,.string .empty]) 2 32 Tryz.underlying200 T U V X rfl yac _ d.length (zc8 d) rfl (World.ownsRow.alloc o _) _ 1 [.string s4.1,.string s4.2] rfl (Src.ofSlice _ Tryz.underlying200 _ 1 1 _ rfl (zcq _ _ _ _) (zhs s4)) yad yab (size_alloc F) ?_;intro v1 w5 f G a2;obtain ⟨A1,c1,rfl,_⟩:=Rd.own f)
    have I:=ze7 (v:=.slice A d.length c) h5 G o J;refine ⟨⟨d ++ [s4],l5,?_,I,zdf (v:=.slice A d.length c) Q G o F (yaj _),b,?_⟩,?_⟩
    · unfold zf3;rw [yam,zoo];exact f
    · rw [yam,ybu];omega
    · rw [I.left,P];omega
end
def opsT (l:List Tk):Rs (List OpP):=if isT sIs l=true then zk3 0 l.tail else .ok ([(1,⟨#[]⟩,⟨#[]⟩)],l)
theorem ask_is:Ask sIs:=ziH rfl yac
theorem ask_rel:Ask zm9:=ziH rfl yac
theorem zme:Ask zeB:=ziH rfl yac
section
variable {w:World} {g:Nat} {l:List Tk}
theorem ops_any (h:Rdr w g l):Calls Tryz.prog 275 #[.pointer (some ⟨g,0,none⟩)] w (Post (ziF w.heap.size) w.heap.size w g (opsT l)):=by
 suffices q:∀R,To (Post (ziF w.heap.size) w.heap.size w g (opsT l)) R→Calls Tryz.prog 275 #[.pointer (some ⟨g,0,none⟩)] w R from q _ fun _ _ h=>h
 intro R b;have z:=h.size;have d:=may_any h ask_is;unfold opsT at b;cases hi:isT sIs l with
 | false =>
  rw [hi,yak (by decide)] at d;rw [hi,yak (by decide)] at b;go_enter Tryz.func275,Tryz.ntmps275
  go_wp2_with fail
  refine d.mono ?_;rintro e s ⟨rfl,f,hk⟩;go_wp2_with fail
  exact b.ret rfl (hk.alloc hk.size _) (zgl _ _ _ _ _ hk.size) (f.alloc _)
 | true =>
  rw [hi,yan rfl] at d;rw [hi,yan rfl] at b;go_enter Tryz.func275,Tryz.ntmps275
  go_wp2_with fail
  refine d.mono ?_;rintro e s ⟨rfl,f,j⟩;go_wp2_with fail
  refine (rew_any 0 yab f).mono ?_;intro e A m;obtain ⟨hk,u⟩:=m.cases_;have n:=j.trans (hk.more j.size);clear m hk;rcases u with ⟨c,p,k,rfl⟩ | ⟨o,B,v,k,rfl,x,y⟩
  · go_wp2_with fail
    exact ⟨rfl,b.fail k n⟩
  go_wp2_with fail
  exact b.ret k n (zax x j.size) y
end
theorem zra (l:List Tk) (K:List zdv→List OpP→List Tk→Rs RelP) :
 (zaG (if isT sIs l=true∨isT (sg 59) l=true then .ok ([],l) else whoT [] l) fun w r=>zaG (opsT r) fun o r=>zaG (zaK (sg 59) r) fun _ r=>K w o r) =
 zaG (zov l) fun w r=>zaG (opsT r) fun o r=>zaG (zaK (sg 59) r) fun _ r=>K w o r:=by
 unfold zov;cases g:atN l with
 | true =>
  have b:=g;unfold atN at b;simp only [ya9,yaP,ycR] at b;rw [yan rfl,yak];rintro (h | h)
  · unfold isT at h;have:=(yaQ h).1;rw [this] at b;exact absurd b.2 yac
  · unfold isT at h;rcases (yaQ h).2 with d | d
    · omega
    · exact absurd d yac
 | false =>
  rw [yak (show ¬(false=true) by decide)];by_cases h:isT sIs l=true∨isT (sg 59) l=true
  · rw [yan h]
  · rw [yak h,zrm,zp9 g];have j:isT sIs l=false:=by cases f:isT sIs l with | true=>exact absurd (.inl f) h | false=>rfl
    have d:isT (sg 59) l=false:=by cases f:isT (sg 59) l with | true=>exact absurd (.inr f) h | false=>rfl
    rw [andT_err,zb6];unfold opsT;rw [j,yak yac,zb6];unfold zaK;rw [d,yak (by decide)];rfl
def relR (l:List Tk):Rs RelP :=
 zaG (zaK zm9 l) fun _ r=>zaG (zaT r) fun n r=>zaG (zaK (sg 40) r) fun _ r=>zaG (zaT r) fun v r=>zaG (zaK (sg 44) r) fun _ r =>
 zaG (zaT r) fun e r=>zaG (zaK (sg 44) r) fun _ r=>zaG (zaT r) fun c r=>zaG (zaK (sg 41) r) fun _ r =>
 zaG (zaK (sg 58) r) fun _ r=>zaG (zov r) fun w r=>zaG (opsT r) fun o r=>zaG (zaK (sg 59) r) fun _ r=>.ok (⟨n,v,e,c,w,o⟩,r)
theorem zqI (l:List Tk):relR l=zaG (zaK zm9 l) fun _ r=>zqJ r:=by
 unfold relR zqJ;refine zag rfl fun _ r _=>?_;refine zag rfl fun n r _=>?_;refine zag rfl fun _ r _=>?_;refine zag rfl fun v r _=>?_;refine zag rfl fun _ r _=>?_;refine zag rfl fun e r _=>?_;refine zag rfl fun _ r _=>?_;refine zag rfl fun c r _=>?_;refine zag rfl fun _ r _=>?_;refine zag rfl fun _ r _=>?_;exact (zra r fun w o r=>.ok (⟨n,v,e,c,w,o⟩,r)).symm
def VRel (B:Nat) (w:World) (v:Value) (x:RelP):Prop:=∃vs vo,v = .agg #[.string x.name,.string x.view,.string x.edit,.string x.check,vs,vo]∧zf3 B w vs x.subs∧ziF B w vo x.ops
section
variable {w:World} {g:Nat} {l:List Tk}
theorem Bk.set {w:World} {b:Nat} {cs:Array Value} {t:TypeId} (h:Bk w b cs t) (i:Nat) (v:Value):Bk (w.setCell ⟨b,i,none⟩ v) b (cs.setIfInBounds i v) t:=by
 unfold Bk at *
 simp [World.setCell,ybx,h]
theorem Bk.other {w:World} {b:Nat} {cs:Array Value} {t:TypeId} (h:Bk w b cs t) {a:Addr} (ha:b≠a.block) (v:Value):Bk (w.setCell a v) b cs t:=(Below.heap_setCell _ _ _ _ ha).trans h
theorem own_set {w:World} {base:Nat} {e:TypeId} {size n:Nat} {v:Value} {xs:List Value} (h:w.ownsRow base e size v n xs) {a:Addr} (ha:a.block<base) (u:Value):(w.setCell a u).ownsRow base e size v n xs :=
 zaD h fun k hk=>Below.heap_setCell _ _ _ _ (by have:=(h.lt k hk).1;omega)
theorem relation_any (h:Rdr w g l):Calls Tryz.prog 247 #[.pointer (some ⟨g,0,none⟩)] w (Post (VRel w.heap.size) w.heap.size w g (relR l)):=by
 suffices N:∀R,To (Post (VRel w.heap.size) w.heap.size w g (relR l)) R→Calls Tryz.prog 247 #[.pointer (some ⟨g,0,none⟩)] w R from N _ fun _ _ h=>h
 intro R o;have O:=h.size;unfold relR at o;go_enter Tryz.func247,Tryz.ntmps247
 go_wp2_with fail
 have d:=(Bk.new w #[.string ⟨#[]⟩,.string ⟨#[]⟩,.string ⟨#[]⟩,.string ⟨#[]⟩,.slice none 0 0,.slice none 0 0] 203).alloc (.cells #[.string ⟨#[]⟩,.string ⟨#[]⟩,.string ⟨#[]⟩,.string ⟨#[]⟩,.slice none 0 0,.slice none 0 0] 203);have b:Bk ((w.alloc (.cells #[.string ⟨#[]⟩,.string ⟨#[]⟩,.string ⟨#[]⟩,.string ⟨#[]⟩,.slice none 0 0,.slice none 0 0] 203)).alloc (.cells #[.string ⟨#[]⟩,.string ⟨#[]⟩,.string ⟨#[]⟩,.string ⟨#[]⟩,.slice none 0 0,.slice none 0 0] 203)) (w.heap.size + 1) #[.string ⟨#[]⟩,.string ⟨#[]⟩,.string ⟨#[]⟩,.string ⟨#[]⟩,.slice none 0 0,.slice none 0 0] 203:=by have:=Bk.new (w.alloc (.cells #[.string ⟨#[]⟩,.string ⟨#[]⟩,.string ⟨#[]⟩,.string ⟨#[]⟩,.slice none 0 0,.slice none 0 0] 203)) #[.string ⟨#[]⟩,.string ⟨#[]⟩,.string ⟨#[]⟩,.string ⟨#[]⟩,.slice none 0 0,.slice none 0 0] 203;rwa [World.size_alloc] at this
 have j:=(h.alloc (.cells #[.string ⟨#[]⟩,.string ⟨#[]⟩,.string ⟨#[]⟩,.string ⟨#[]⟩,.slice none 0 0,.slice none 0 0] 203)).alloc (.cells #[.string ⟨#[]⟩,.string ⟨#[]⟩,.string ⟨#[]⟩,.string ⟨#[]⟩,.slice none 0 0,.slice none 0 0] 203);have k:Kp g w.heap.size w _:=((Kp.refl g _ w).alloc (yaj _) (.cells #[.string ⟨#[]⟩,.string ⟨#[]⟩,.string ⟨#[]⟩,.string ⟨#[]⟩,.slice none 0 0,.slice none 0 0] 203)).alloc (size_alloc (yaj _)) (.cells #[.string ⟨#[]⟩,.string ⟨#[]⟩,.string ⟨#[]⟩,.string ⟨#[]⟩,.slice none 0 0,.slice none 0 0] 203);clear h;generalize (w.alloc (.cells #[.string ⟨#[]⟩,.string ⟨#[]⟩,.string ⟨#[]⟩,.string ⟨#[]⟩,.slice none 0 0,.slice none 0 0] 203)).alloc (.cells #[.string ⟨#[]⟩,.string ⟨#[]⟩,.string ⟨#[]⟩,.string ⟨#[]⟩,.slice none 0 0,.slice none 0 0] 203)=W at *
 generalize w.heap.size=B at *
 refine (must_any j ask_rel).mono ?_;intro e u q;obtain ⟨hk,y⟩:=q.cases_;have s:=ya2 d.lt;have m:=b.lt;replace k:=k.trans (hk.more s);replace d:=d.kp hk yab;replace b:=b.kp hk yab;clear q hk j;rcases y with ⟨c,p,f,rfl⟩ | ⟨_,C,v,f,rfl,x,j⟩
 · go_wp2_with fail
   exact ⟨rfl,o.bad f k⟩
 replace o:=o.bind f;clear f;obtain rfl:=x;clear s m;go_wp2_with fail
 refine (rname_any j).mono ?_;intro e u q;obtain ⟨hk,y⟩:=q.cases_;have s:=ya2 d.lt;have m:=b.lt;replace k:=k.trans (hk.more s);replace d:=d.kp hk yab;replace b:=b.kp hk yab;clear q hk j;rcases y with ⟨c,p,f,rfl⟩ | ⟨n,C,v,f,rfl,x,j⟩
 · go_wp2_with fail
   exact ⟨rfl,o.bad f k⟩
 replace o:=o.bind f;clear f;obtain rfl:=x;have E:u.cell? ⟨B + 1,0,none⟩=some (.string ⟨#[]⟩):=b.cell 0;have F:=b.fz;go_wp2_with fail
 replace j:=j.set (a:=⟨B + 1,0,none⟩) (by show g<B + 1;omega) (.string n);replace k:=k.set (a:=⟨B + 1,0,none⟩) (by show B≤B + 1;omega) (.string n);replace d:=d.other (a:=⟨B + 1,0,none⟩) (by show B≠B + 1;omega) (.string n);replace b:Bk _ (B + 1) #[.string n,.string ⟨#[]⟩,.string ⟨#[]⟩,.string ⟨#[]⟩,.slice none 0 0,.slice none 0 0] 203:=b.set 0 (.string n);clear E F m s;generalize u.setCell ⟨B + 1,0,none⟩ (.string n)=L at *
 refine (must_any j (zcS 40 yac)).mono ?_;intro e u q;obtain ⟨hk,y⟩:=q.cases_;have s:=ya2 d.lt;have m:=b.lt;replace k:=k.trans (hk.more s);replace d:=d.kp hk yab;replace b:=b.kp hk yab;clear q hk j;rcases y with ⟨c,p,f,rfl⟩ | ⟨_,C,v,f,rfl,x,j⟩
 · go_wp2_with fail
   exact ⟨rfl,o.bad f k⟩
 replace o:=o.bind f;clear f;obtain rfl:=x;clear s m;go_wp2_with fail
 refine (rname_any j).mono ?_;intro e u q;obtain ⟨hk,y⟩:=q.cases_;have s:=ya2 d.lt;have m:=b.lt;replace k:=k.trans (hk.more s);replace d:=d.kp hk yab;replace b:=b.kp hk yab;clear q hk j;rcases y with ⟨c,p,f,rfl⟩ | ⟨D,C,v,f,rfl,x,j⟩
 · go_wp2_with fail
   exact ⟨rfl,o.bad f k⟩
 replace o:=o.bind f;clear f;obtain rfl:=x;have E:u.cell? ⟨B + 1,1,none⟩=some (.string ⟨#[]⟩):=b.cell 1;have F:=b.fz;go_wp2_with fail
 replace j:=j.set (a:=⟨B + 1,1,none⟩) (by show g<B + 1;omega) (.string D);replace k:=k.set (a:=⟨B + 1,1,none⟩) (by show B≤B + 1;omega) (.string D);replace d:=d.other (a:=⟨B + 1,1,none⟩) (by show B≠B + 1;omega) (.string D);replace b:Bk _ (B + 1) #[.string n,.string D,.string ⟨#[]⟩,.string ⟨#[]⟩,.slice none 0 0,.slice none 0 0] 203:=b.set 1 (.string D);clear E F m s;generalize u.setCell ⟨B + 1,1,none⟩ (.string D)=L at *
 refine (must_any j (zcS 44 yac)).mono ?_;intro e u q;obtain ⟨hk,y⟩:=q.cases_;have s:=ya2 d.lt;have m:=b.lt;replace k:=k.trans (hk.more s);replace d:=d.kp hk yab;replace b:=b.kp hk yab;clear q hk j;rcases y with ⟨c,p,f,rfl⟩ | ⟨_,C,v,f,rfl,x,j⟩
 · go_wp2_with fail
   exact ⟨rfl,o.bad f k⟩
 replace o:=o.bind f;clear f;obtain rfl:=x;clear s m;go_wp2_with fail
 refine (rname_any j).mono ?_;intro e u q;obtain ⟨hk,y⟩:=q.cases_;have s:=ya2 d.lt;have m:=b.lt;replace k:=k.trans (hk.more s);replace d:=d.kp hk yab;replace b:=b.kp hk yab;clear q hk j;rcases y with ⟨c,p,f,rfl⟩ | ⟨G,C,v,f,rfl,x,j⟩
 · go_wp2_with fail
   exact ⟨rfl,o.bad f k⟩
 replace o:=o.bind f;clear f;obtain rfl:=x;have E:u.cell? ⟨B + 1,2,none⟩=some (.string ⟨#[]⟩):=b.cell 2;have F:=b.fz;go_wp2_with fail
 replace j:=j.set (a:=⟨B + 1,2,none⟩) (by show g<B + 1;omega) (.string G);replace k:=k.set (a:=⟨B + 1,2,none⟩) (by show B≤B + 1;omega) (.string G);replace d:=d.other (a:=⟨B + 1,2,none⟩) (by show B≠B + 1;omega) (.string G);replace b:Bk _ (B + 1) #[.string n,.string D,.string G,.string ⟨#[]⟩,.slice none 0 0,.slice none 0 0] 203:=b.set 2 (.string G);clear E F m s;generalize u.setCell ⟨B + 1,2,none⟩ (.string G)=L at *
 refine (must_any j (zcS 44 yac)).mono ?_;intro e u q;obtain ⟨hk,y⟩:=q.cases_;have s:=ya2 d.lt;have m:=b.lt;replace k:=k.trans (hk.more s);replace d:=d.kp hk yab;replace b:=b.kp hk yab;clear q hk j;rcases y with ⟨c,p,f,rfl⟩ | ⟨_,C,v,f,rfl,x,j⟩
 · go_wp2_with fail
   exact ⟨rfl,o.bad f k⟩
 replace o:=o.bind f;clear f;obtain rfl:=x;clear s m;go_wp2_with fail
 refine (rname_any j).mono ?_;intro e u q;obtain ⟨hk,y⟩:=q.cases_;have s:=ya2 d.lt;have m:=b.lt;replace k:=k.trans (hk.more s);replace d:=d.kp hk yab;replace b:=b.kp hk yab;clear q hk j;rcases y with ⟨c,p,f,rfl⟩ | ⟨ck,C,v,f,rfl,x,j⟩
 · go_wp2_with fail
   exact ⟨rfl,o.bad f k⟩
 replace o:=o.bind f;clear f;obtain rfl:=x;have E:u.cell? ⟨B + 1,3,none⟩=some (.string ⟨#[]⟩):=b.cell 3;have F:=b.fz;go_wp2_with fail
 replace j:=j.set (a:=⟨B + 1,3,none⟩) (by show g<B + 1;omega) (.string ck);replace k:=k.set (a:=⟨B + 1,3,none⟩) (by show B≤B + 1;omega) (.string ck);replace d:=d.other (a:=⟨B + 1,3,none⟩) (by show B≠B + 1;omega) (.string ck);replace b:Bk _ (B + 1) #[.string n,.string D,.string G,.string ck,.slice none 0 0,.slice none 0 0] 203:=b.set 3 (.string ck);clear E F m s;generalize u.setCell ⟨B + 1,3,none⟩ (.string ck)=L at *
 refine (must_any j (zcS 41 yac)).mono ?_;intro e u q;obtain ⟨hk,y⟩:=q.cases_;have s:=ya2 d.lt;have m:=b.lt;replace k:=k.trans (hk.more s);replace d:=d.kp hk yab;replace b:=b.kp hk yab;clear q hk j;rcases y with ⟨c,p,f,rfl⟩ | ⟨_,C,v,f,rfl,x,j⟩
 · go_wp2_with fail
   exact ⟨rfl,o.bad f k⟩
 replace o:=o.bind f;clear f;obtain rfl:=x;clear s m;go_wp2_with fail
 refine (must_any j (zcS 58 yac)).mono ?_;intro e u q;obtain ⟨hk,y⟩:=q.cases_;have s:=ya2 d.lt;have m:=b.lt;replace k:=k.trans (hk.more s);replace d:=d.kp hk yab;replace b:=b.kp hk yab;clear q hk j;rcases y with ⟨c,p,f,rfl⟩ | ⟨_,C,v,f,rfl,x,j⟩
 · go_wp2_with fail
   exact ⟨rfl,o.bad f k⟩
 replace o:=o.bind f;clear f;obtain rfl:=x;clear s m;go_wp2_with fail
 refine (subs_any j).mono ?_;intro e u q;obtain ⟨hk,y⟩:=q.cases_;have s:=ya2 d.lt;have m:=b.lt;replace k:=k.trans (hk.more s);replace d:=d.kp hk yab;replace b:=b.kp hk yab;clear q hk j;rcases y with ⟨c,p,f,rfl⟩ | ⟨ws,C,v,f,rfl,x,j⟩
 · go_wp2_with fail
   exact ⟨rfl,o.bad f k⟩
 replace o:=o.bind f;clear f;have z:zf3 (B + 2) _ v ws:=zax x yab;obtain ⟨H,I,rfl,_⟩:=Rd.own z;clear x;have E:u.cell? ⟨B + 1,4,none⟩=some (.slice none 0 0):=b.cell 4;have F:=b.fz;go_wp2_with fail
 replace j:=j.set (a:=⟨B + 1,4,none⟩) (by show g<B + 1;omega) (.slice H ws.length I);replace k:=k.set (a:=⟨B + 1,4,none⟩) (by show B≤B + 1;omega) (.slice H ws.length I);replace d:=d.other (a:=⟨B + 1,4,none⟩) (by show B≠B + 1;omega) (.slice H ws.length I);replace b:Bk _ (B + 1) #[.string n,.string D,.string G,.string ck,.slice H ws.length I,.slice none 0 0] 203:=b.set 4 (.slice H ws.length I);replace z:=own_set z (a:=⟨B + 1,4,none⟩) (by show B + 1<B + 2;omega) (.slice H ws.length I);clear E F m s;generalize u.setCell ⟨B + 1,4,none⟩ (.slice H ws.length I)=L at *
 refine (ops_any j).mono ?_;intro e u q;obtain ⟨hk,y⟩:=q.cases_;have s:=ya2 d.lt;have m:=b.lt;replace k:=k.trans (hk.more s);replace d:=d.kp hk yab;replace b:=b.kp hk yab;replace z:=zcc z hk yab;clear q hk j;rcases y with ⟨c,p,f,rfl⟩ | ⟨os,C,v,f,rfl,x,j⟩
 · go_wp2_with fail
   exact ⟨rfl,o.bad f k⟩
 replace o:=o.bind f;clear f;have A:ziF (B + 2) _ v os:=zax x yab;obtain ⟨J,K,rfl,_⟩:=Rd.own A;clear x;have E:u.cell? ⟨B + 1,5,none⟩=some (.slice none 0 0):=b.cell 5;have F:=b.fz;go_wp2_with fail
 replace j:=j.set (a:=⟨B + 1,5,none⟩) (by show g<B + 1;omega) (.slice J os.length K);replace k:=k.set (a:=⟨B + 1,5,none⟩) (by show B≤B + 1;omega) (.slice J os.length K);replace d:=d.other (a:=⟨B + 1,5,none⟩) (by show B≠B + 1;omega) (.slice J os.length K);replace b:Bk _ (B + 1) #[.string n,.string D,.string G,.string ck,.slice H ws.length I,.slice J os.length K] 203:=b.set 5 (.slice J os.length K);replace z:=own_set z (a:=⟨B + 1,5,none⟩) (by show B + 1<B + 2;omega) (.slice J os.length K);replace A:=own_set A (a:=⟨B + 1,5,none⟩) (by show B + 1<B + 2;omega) (.slice J os.length K);clear E F m s;generalize u.setCell ⟨B + 1,5,none⟩ (.slice J os.length K)=L at *
 refine (must_any j (zcS 59 yac)).mono ?_;intro e u q;obtain ⟨hk,y⟩:=q.cases_;have s:=ya2 d.lt;have m:=b.lt;replace k:=k.trans (hk.more s);replace d:=d.kp hk yab;replace b:=b.kp hk yab;replace z:=zcc z hk yab;replace A:=zcc A hk yab;clear q hk j;rcases y with ⟨c,p,f,rfl⟩ | ⟨_,C,v,f,rfl,x,j⟩
 · go_wp2_with fail
   exact ⟨rfl,o.bad f k⟩
 replace o:=o.bind f;clear f;obtain rfl:=x;have Z:u.cell? ⟨B + 1,0,none⟩=some (.string n):=b.cell 0;have P:u.cell? ⟨B,0,none⟩=some (.string ⟨#[]⟩):=d.cell 0;have x1:u.cell? ⟨B + 1,1,none⟩=some (.string D):=b.cell 1;have Q:u.cell? ⟨B,1,none⟩=some (.string ⟨#[]⟩):=d.cell 1;have x2:u.cell? ⟨B + 1,2,none⟩=some (.string G):=b.cell 2;have T:u.cell? ⟨B,2,none⟩=some (.string ⟨#[]⟩):=d.cell 2;have x3:u.cell? ⟨B + 1,3,none⟩=some (.string ck):=b.cell 3;have U:u.cell? ⟨B,3,none⟩=some (.string ⟨#[]⟩):=d.cell 3;have x4:u.cell? ⟨B + 1,4,none⟩=some (.slice H ws.length I):=b.cell 4;have V:u.cell? ⟨B,4,none⟩=some (.slice none 0 0):=d.cell 4;have x5:u.cell? ⟨B + 1,5,none⟩=some (.slice J os.length K):=b.cell 5;have X:u.cell? ⟨B,5,none⟩=some (.slice none 0 0):=d.cell 5;have fy:=d.fz;have Y:¬B + 1=B:=by omega
 have M:¬B=B + 1:=by omega
 go_wp2_with fail
 refine bodyPost_ret (v:=.agg #[.string n,.string D,.string G,.string ck,.slice H ws.length I,.slice J os.length K]) (by simp [results,Tryz.results247,go_sem,P,Q,T,U,V,X];try rfl) rfl ?_;refine o.ret rfl ?_ ⟨_,_,rfl,?_,?_⟩ ?_
 · refine Kp.set (Kp.set (Kp.set (Kp.set (Kp.set (Kp.set k ?_ _) ?_ _) ?_ _) ?_ _) ?_ _) ?_ _ <;> exact yaj _
 · refine zax (own_set (own_set (own_set (own_set (own_set (own_set z ?_ _) ?_ _) ?_ _) ?_ _) ?_ _) ?_ _) (show B≤B + 2 by omega) <;> (show B<B + 2;omega)
 · refine zax (own_set (own_set (own_set (own_set (own_set (own_set A ?_ _) ?_ _) ?_ _) ?_ _) ?_ _) ?_ _) (show B≤B + 2 by omega) <;> (show B<B + 2;omega)
 · refine Rdr.set (Rdr.set (Rdr.set (Rdr.set (Rdr.set (Rdr.set j ?_ _) ?_ _) ?_ _) ?_ _) ?_ _) ?_ _ <;> exact O
end
end Go.Proofs.YtmblgnddgmfkhaaGreat
