import Derived.Test.YtmblgnddgmfkhaaGreatK06
set_option maxRecDepth 100000
set_option maxHeartbeats 4000000
namespace Go.Proofs.YtmblgnddgmfkhaaGreat
open Go.RowKit
open Go.RowKit
open Go.RowKit
open Go.RowKit
theorem zld {d:Nat} {l r:List Tk} {o:List OpP} (h:zfE d l = .ok (o,r)):r.length<l.length:=(eats _).1 _ _ _ _ h
theorem few:∀f:Nat,(∀d l o r,partF f d l = .ok (o,r)→o.length + r.length≤l.length)∧(∀d acc l o r,moreF f d acc l = .ok (o,r)→o.length + r.length≤acc.length + l.length)
 | 0=>⟨fun d l o r h=>(by unfold partF at h;cases h),fun d acc l o r h=>(by unfold moreF at h;cases h)⟩
 | f + 1=>by
  obtain ⟨g,j⟩:=few f;constructor
  · intro d l o r h;unfold partF at h;split at h
    · rename_i b
      cases h;have:=zaz (by show 0<4;omega) b;rw [ybx];omega
    · split at h
      · rename_i b
        have q:=zaz (zap _) b;split at h
        · cases h
        · obtain ⟨a,m,k,h⟩:=zaf h;obtain ⟨s,u,n,h⟩:=zaf h;obtain ⟨a3,y,x,h⟩:=zaf h;cases h;have:=g _ _ _ _ k;have:=j _ _ _ _ _ n;have:=zaq (zap _) x;omega
      · obtain ⟨a,m,k,h⟩:=zaf h;have q:=zas k;split at h
        · rename_i b
          have z:=zaz (zap _) b;obtain ⟨s,u,n,h⟩:=zaf h;have:=zas n;cases h;rw [ybx];omega
        · cases h;rw [ybx];omega
  · intro d acc l o r h;unfold moreF at h;split at h
    · cases h;omega
    · rename_i b
      have q:=zf6 b;obtain ⟨a,m,k,h⟩:=zaf h;have:=g _ _ _ _ k;have:=j _ _ _ _ _ h;rw [yam,yam,ybx] at this;omega
theorem zlc {d:Nat} {l r:List Tk} {o:List OpP} (h:zfE d l = .ok (o,r)):o.length + r.length≤l.length:=(few _).1 _ _ _ _ h
theorem opT_text {l:List Tk} (hf:Fine l) (h:¬opT l=0):Fine l.tail:=by
 rw [←zjE hf] at h;unfold zgA at h;by_cases b:(hdT l).2.1=⟨#[124]⟩
 · exact hf.next yac b
 by_cases f:(hdT l).2.1=⟨#[38]⟩
 · exact hf.next yac f
 by_cases g:(hdT l).2.1=⟨#[45]⟩
 · exact hf.next yac g
 rw [yak b,yak f,yak g] at h;exact absurd rfl h
section
variable {w:World} {g:Nat} {l:List Tk}
theorem rew_upto {N:Nat} (H:zfe N):zji N:=by
 intro d l w g hN hd h;suffices HH:∀R,To (Post (zjj w.heap.size) w.heap.size w g (zlF d l)) R→Calls Tryz.prog 285 #[.pointer (some ⟨g,0,none⟩),.int .i64 d] w R from HH _ fun _ _ h=>h
 intro R k;have hg:=h.size;have kp:=H d l w g hN hd h;have D:=h.few;unfold zlF at k;go_enter Tryz.func285,Tryz.ntmps285
 go_wp2_with fail
 refine kp.mono ?_;intro e w1 J;obtain ⟨k1,hc⟩:=J.cases_;clear J kp h;rcases hc with ⟨c,p,m,rfl⟩ | ⟨o,l1,v,m,rfl,z,h1⟩
 · go_wp2_with fail
   exact ⟨rfl,k.bad m k1⟩
 replace k:=k.bind m;have n:=zld m;have q:=zlc m;clear m;have a1:=h1.few;go_wp2_with fail
 go_loopw [5] (fun vi wr=>∃b u,zjj w.heap.size wr vi b∧Rdr wr g u∧Kp g w.heap.size w wr∧To (Post (zjj w.heap.size) w.heap.size w g (zml d b u)) R∧b.length + u.length≤l.length∧u.length<l.length) (fun _ wr=>left wr g)
 case atStart=>exact ⟨o,l1,z,h1,k1,k,q,n⟩
 case round =>
  clear k z h1 k1 n q a1;obtain ⟨b,u,z,E,G,k,hl,ad⟩:=hrel;obtain ⟨A,c,rfl,_⟩:=Rd.own z;have a2:=E.left;have f1:=zly;have f:=E.fine;rw [moreT_eq,←zjE f] at k;have a6:=fun h=>opT_text f (by rw [←zjE f];exact h);have K:=fun h=>zf6 (l:=u) (by rw [←zjE f];exact h);have kj:∀W,_:=fun W=>joins_any (hdT u).2.1 W;have kf:=zcd E;generalize (hdT u).2.1=x at *
  by_cases I:zgA x=0
  · rw [yan I] at k;rw [I] at kj;go_wp2_with fail
    refine kf.mono ?_;rintro e w3 ⟨rfl,hb⟩;have h4:=E.below hb;have L:=G.trans ((Kp.of_below hb g).more G.size);have y:=zao z hb;clear hb E G z kf;go_wp2_with ((with_reducible refine (kj _).mono ?_);rintro e w' ⟨rfl,rfl⟩)
    exact k.ret rfl L y h4
  · rw [yak I] at k;rw [yaF I] at kj;have hf:=a6 I;have K:=K I;go_wp2_with fail
    refine kf.mono ?_;rintro e w3 ⟨rfl,hb⟩;have h4:=E.below hb;have L:=G.trans ((Kp.of_below hb g).more G.size);have y:=zao z hb;clear hb E G z kf;go_wp2_with (first
     | ((with_reducible refine (kj _).mono ?_);rintro e w' ⟨rfl,rfl⟩)
     | ((with_reducible refine (pass_any h4 hf).mono ?_);rintro e w4 ⟨rfl,h5,hk⟩))
    have k5:=L.trans (hk.more L.size);have M:=zcr y hk hg;clear hk L y h4 kj;refine (H d u.tail _ g yab hd h5).mono ?_;intro e w5 J;obtain ⟨hk,hc⟩:=J.cases_;have k6:=k5.trans (hk.more k5.size);have ae:=k5.size;have F:=zcr M hk hg;clear J hk k5 M h5;rcases hc with ⟨c,p,m,rfl⟩ | ⟨B,l5,v5,m,rfl,a7,h6⟩
    · go_wp2_with fail
      exact ⟨rfl,k.bad m k6⟩
    replace k:=k.bind m;have n:=zld m;have q:=zlc m;clear m;have a8:=h6.few;have O:=k6.size;have aa:l.length≤1000000:=D;obtain ⟨i0,P,Q,T,U⟩:=info_parts info_op;obtain ⟨A5,c5,rfl,C⟩:=Rd.own a7;have V:=C.src Tryz.underlying201 (zoM B);clear C;go_wp2_with (first
     | (at_builtin;refine zab _ rfl (.tmp 23) (.tmp 26) 201 201 rfl w.heap.size 222 i0 (.agg #[.int .i64 0,.string .empty,.string .empty]) 3 40 Tryz.underlying201 P Q T U rfl yac _ b.length (zbS b) rfl F _ B.length (zbS B) rfl V yad yab O ?_;intro v1 w6 j X ab;obtain ⟨A1,c1,rfl,_⟩:=Rd.own j;have k7:=zqE (v:=.slice A b.length c) k6 X F O (yaj _);have h7:=zoY (v:=.slice A b.length c) h6 X F hg;have Y:=k7.size)
     | (at_builtin;refine zab _ rfl (.tmp 28) (.tmp 31) 201 201 rfl w.heap.size 222 i0 (.agg #[.int .i64 0,.string .empty,.string .empty]) 3 40 Tryz.underlying201 P Q T U rfl yac _ (b.length + B.length) (zbS b ++ zbS B) rfl (World.ownsRow.alloc j _) _ 1 [.int .i64 (zgA x),.string ⟨#[]⟩,.string ⟨#[]⟩] rfl (Src.ofSlice _ Tryz.underlying201 _ 1 1 _ rfl (zfh _ _ _ _ _) (zrd (zgA x,⟨#[]⟩,⟨#[]⟩))) yad yab (size_alloc Y) ?_;intro v2 w7 s Z ac;obtain ⟨A2,c2,rfl,_⟩:=Rd.own s;have k8:=zdx (v:=.slice A1 (b.length + B.length) c1) k7 Z j Y (yaj _);have h8:=zfG (v:=.slice A1 (b.length + B.length) c1) h7 Z j hg))
    refine ⟨⟨b ++ B ++ [(zgA x,⟨#[]⟩,⟨#[]⟩)],l5,?_,h8,k8,k,?_,by omega⟩,?_⟩
    · unfold zjj;rw [yam,yam,zi8,zi8];exact s
    · rw [yam,yam,ybx];omega
    · rw [h8.left,a2];omega
theorem znJ:∀N,zfe N∧zji N
 | 0=>by
  have h:zfe 0:=fun d l w g b _ h=>by
   obtain ⟨t,r,rfl⟩:=h.fine.cons;simp at b
  exact ⟨h,rew_upto h⟩
 | N + 1=>by
  have h:zfe (N + 1):=part_upto (znJ N).2;exact ⟨h,rew_upto h⟩
theorem rew_any (d:Nat) (hd:d≤8) (h:Rdr w g l):Calls Tryz.prog 285 #[.pointer (some ⟨g,0,none⟩),.int .i64 d] w (Post (zjj w.heap.size) w.heap.size w g (zlF d l)) :=
 (znJ l.length).2 d l w g (yaj _) hd h
end
def subT (l:List Tk):Rs zdT:=zaL (zaY l) fun n r=>zaL (if isT (sg 35) r=true then zaY r.tail else .ok (⟨#[]⟩,r)) fun m r=>.ok ((n,m),r)
def whoM (acc:List zdT) (l:List Tk):Rs (List zdT):=if isT (sg 44) l=true then whoT acc l.tail else .ok (acc,l)
theorem zod (acc:List zdT) (l:List Tk):whoT acc l=zaL (subT l) fun s r=>whoM (acc ++ [s]) r:=by
 rw [zsc];unfold subT;rw [zcF];congr 1
 funext n r
 rw [zcF];rfl
theorem subT_len {l r:List Tk} {s:zdT} (h:subT l = .ok (s,r)):r.length<l.length:=by
 obtain ⟨n,m,b,f⟩:=zaf h;obtain ⟨a,k,g,j⟩:=zaf f;have:=zas b;have:=zkc g;cases j;omega
def atN (l:List Tk):Bool:=decide ((hdT l).1=1) && !keyB (hdT l).2.1
def zph (l:List Tk):Rs (List zdT):=if atN l=true then whoT [] l else .ok ([],l)
section
variable {w:World} {g:Nat} {l:List Tk}
theorem subs_any (h:Rdr w g l):Calls Tryz.prog 274 #[.pointer (some ⟨g,0,none⟩)] w (Post (zgw w.heap.size) w.heap.size w g (zph l)):=by
 suffices H:∀R,To (Post (zgw w.heap.size) w.heap.size w g (zph l)) R→Calls Tryz.prog 274 #[.pointer (some ⟨g,0,none⟩)] w R from H _ fun _ _ h=>h
 intro R b;have K:=h.size;have u:=atName_any h;rw [show (decide ((hdT l).1=1) && !keyB (hdT l).2.1)=atN l from rfl] at u;unfold zph at b;cases L:atN l with
 | false =>
  rw [L] at u;rw [L,yak (by decide)] at b;go_enter Tryz.func274,Tryz.ntmps274
  go_wp2_with ((with_reducible refine u.mono ?_);rintro e w1 ⟨rfl,hb⟩)
  exact b.ret rfl (Kp.of_below hb g) (World.ownsRow_nil _ _ _ _) (h.below hb)
 | true =>
  rw [L] at u;rw [L,yan rfl,zod] at b;go_enter Tryz.func274,Tryz.ntmps274
  go_wp2_with ((with_reducible refine u.mono ?_);rintro e w1 ⟨rfl,hb⟩)
  have Z:=h.below hb;have O:=Kp.of_below hb g;clear h hb u;refine (sub_any Z).mono ?_;intro e w2 z;obtain ⟨hk,P⟩:=z.cases_;clear z;have B:=O.trans (hk.more O.size);clear hk O Z;rcases P with ⟨c,p,k,rfl⟩ | ⟨s,l2,v,k,rfl,rfl,h2⟩
  · go_wp2_with fail
    exact ⟨rfl,b.bad k B⟩
  replace b:=b.bind k;clear k;go_wp2_with fail
  have C:Kp g w.heap.size w _:=B.alloc B.size (.cells #[.string s.1,.string s.2] 246);have D:zgw w.heap.size _ _ ([] ++ [s]):=zhK w2 #[.string s.1,.string s.2] 246 1 2 w.heap.size rfl yac B.size;have n:=h2.alloc (.cells #[.string s.1,.string s.2] 246);clear B h2;go_loopw [3] (fun vi wr=>∃f o,zgw w.heap.size wr vi f∧Rdr wr g o∧Kp g w.heap.size w wr∧To (Post (zgw w.heap.size) w.heap.size w g (whoM f o)) R∧f.length + o.length≤2000000) (fun _ wr=>left wr g)
  case atStart=>exact ⟨[] ++ [s],l2,D,n,C,b,by have:=n.few;simp;omega⟩
  case round =>
   clear b D n C;obtain ⟨f,o,E,M,x,b,hl⟩:=hrel;obtain ⟨A,c,rfl,_⟩:=Rd.own E;have y:=may_any M (zc8 44 yac);have Q:=M.left;cases hi:isT (sg 44) o with
   | false =>
    rw [hi,yak (by decide)] at y;unfold whoM at b;rw [hi,yak (by decide)] at b;go_wp2_with fail
    refine y.mono ?_;rintro e w3 ⟨rfl,N,hk⟩;have F:=x.trans (hk.more x.size);have m:=zcr E hk K;clear y hk x E M;go_wp2_with fail
    exact b.ret rfl F m N
   | true =>
    rw [hi,yan rfl] at y;unfold whoM at b;rw [hi,yan rfl,zod] at b;go_wp2_with fail
    refine y.mono ?_;rintro e w3 ⟨rfl,N,hk⟩;have F:=x.trans (hk.more x.size);have m:=zcr E hk K;clear y hk x E M;go_wp2_with fail
    refine (sub_any N).mono ?_;intro e w4 z;obtain ⟨hk,P⟩:=z.cases_;clear z;have T:=F.trans (hk.more F.size);have q:=zcr m hk K;clear hk F m N;rcases P with ⟨c,p,k,rfl⟩ | ⟨s4,l5,v,k,rfl,rfl,h5⟩
    · go_wp2_with fail
      exact ⟨rfl,b.bad k T⟩
    have a1:=subT_len k;replace b:=b.bind k;obtain ⟨i0,U,V,X,Y⟩:=info_parts zjC;have G:=T.size;have a6:o.tail.length≤o.length:=by rw [List.length_tail];omega
    clear k;go_wp2_with (at_builtin;refine zab _ rfl (.tmp 12) (.tmp 15) 200 200 rfl w.heap.size 246 i0 (.agg #[.string .empty,.string .empty]) 2 32 Tryz.underlying200 U V X Y rfl yac _ f.length (zdl f) rfl (World.ownsRow.alloc q _) _ 1 [.string s4.1,.string s4.2] rfl (Src.ofSlice _ Tryz.underlying200 _ 1 1 _ rfl (zcG _ _ _ _) (zh2 s4)) yad yab (size_alloc G) ?_;intro v1 w5 j I a2;obtain ⟨A1,c1,rfl,_⟩:=Rd.own j)
    have J:=zfG (v:=.slice A f.length c) h5 I q K;refine ⟨⟨f ++ [s4],l5,?_,J,zdx (v:=.slice A f.length c) T I q G (yaj _),b,?_⟩,?_⟩
    · unfold zgw;rw [yam,zpa];exact j
    · rw [yam,ybx];omega
    · rw [J.left,Q];omega
end
def opsT (l:List Tk):Rs (List OpP):=if isT sIs l=true then zlF 0 l.tail else .ok ([(1,⟨#[]⟩,⟨#[]⟩)],l)
theorem ask_is:Ask sIs:=zjl rfl yac
theorem ask_rel:Ask znV:=zjl rfl yac
theorem zmX:Ask zfa:=zjl rfl yac
section
variable {w:World} {g:Nat} {l:List Tk}
theorem ops_any (h:Rdr w g l):Calls Tryz.prog 275 #[.pointer (some ⟨g,0,none⟩)] w (Post (zjj w.heap.size) w.heap.size w g (opsT l)):=by
 suffices s:∀R,To (Post (zjj w.heap.size) w.heap.size w g (opsT l)) R→Calls Tryz.prog 275 #[.pointer (some ⟨g,0,none⟩)] w R from s _ fun _ _ h=>h
 intro R b;have A:=h.size;have f:=may_any h ask_is;unfold opsT at b;cases hi:isT sIs l with
 | false =>
  rw [hi,yak (by decide)] at f;rw [hi,yak (by decide)] at b;go_enter Tryz.func275,Tryz.ntmps275
  go_wp2_with fail
  refine f.mono ?_;rintro e u ⟨rfl,j,hk⟩;go_wp2_with fail
  exact b.ret rfl (hk.alloc hk.size _) (zgR _ _ _ _ _ hk.size) (j.alloc _)
 | true =>
  rw [hi,yan rfl] at f;rw [hi,yan rfl] at b;go_enter Tryz.func275,Tryz.ntmps275
  go_wp2_with fail
  refine f.mono ?_;rintro e u ⟨rfl,j,k⟩;go_wp2_with fail
  refine (rew_any 0 yab j).mono ?_;intro e B n;obtain ⟨hk,x⟩:=n.cases_;have q:=k.trans (hk.more k.size);clear n hk;rcases x with ⟨c,p,m,rfl⟩ | ⟨o,C,v,m,rfl,y,z⟩
  · go_wp2_with fail
    exact ⟨rfl,b.fail m q⟩
  go_wp2_with fail
  exact b.ret m q (zaA y k.size) z
end
theorem zrZ (l:List Tk) (K:List zdT→List OpP→List Tk→Rs RelP) :
 (zaL (if isT sIs l=true∨isT (sg 59) l=true then .ok ([],l) else whoT [] l) fun w r=>zaL (opsT r) fun o r=>zaL (zaQ (sg 59) r) fun _ r=>K w o r) =
 zaL (zph l) fun w r=>zaL (opsT r) fun o r=>zaL (zaQ (sg 59) r) fun _ r=>K w o r:=by
 unfold zph;cases j:atN l with
 | true =>
  have b:=j;unfold atN at b;simp only [ybc,yaP,ycY] at b;rw [yan rfl,yak];rintro (h | h)
  · unfold isT at h;have:=(yaL h).1;rw [this] at b;exact absurd b.2 yac
  · unfold isT at h;rcases (yaL h).2 with f | f
    · omega
    · exact absurd f yac
 | false =>
  rw [yak (show ¬(false=true) by decide)];by_cases h:isT sIs l=true∨isT (sg 59) l=true
  · rw [yan h]
  · rw [yak h,zsc,zqX j];have k:isT sIs l=false:=by cases g:isT sIs l with | true=>exact absurd (.inl g) h | false=>rfl
    have f:isT (sg 59) l=false:=by cases g:isT (sg 59) l with | true=>exact absurd (.inr g) h | false=>rfl
    rw [andT_err,zcn];unfold opsT;rw [k,yak yac,zcn];unfold zaQ;rw [f,yak (by decide)];rfl
def relR (l:List Tk):Rs RelP :=
 zaL (zaQ znV l) fun _ r=>zaL (zaY r) fun n r=>zaL (zaQ (sg 40) r) fun _ r=>zaL (zaY r) fun v r=>zaL (zaQ (sg 44) r) fun _ r =>
 zaL (zaY r) fun e r=>zaL (zaQ (sg 44) r) fun _ r=>zaL (zaY r) fun c r=>zaL (zaQ (sg 41) r) fun _ r =>
 zaL (zaQ (sg 58) r) fun _ r=>zaL (zph r) fun w r=>zaL (opsT r) fun o r=>zaL (zaQ (sg 59) r) fun _ r=>.ok (⟨n,v,e,c,w,o⟩,r)
theorem zrw (l:List Tk):relR l=zaL (zaQ znV l) fun _ r=>zrx r:=by
 unfold relR zrx;refine zai rfl fun _ r _=>?_;refine zai rfl fun n r _=>?_;refine zai rfl fun _ r _=>?_;refine zai rfl fun v r _=>?_;refine zai rfl fun _ r _=>?_;refine zai rfl fun e r _=>?_;refine zai rfl fun _ r _=>?_;refine zai rfl fun c r _=>?_;refine zai rfl fun _ r _=>?_;refine zai rfl fun _ r _=>?_;exact (zrZ r fun w o r=>.ok (⟨n,v,e,c,w,o⟩,r)).symm
def VRel (B:Nat) (w:World) (v:Value) (x:RelP):Prop:=∃vs vo,v = .agg #[.string x.name,.string x.view,.string x.edit,.string x.check,vs,vo]∧zgw B w vs x.subs∧zjj B w vo x.ops
section
variable {w:World} {g:Nat} {l:List Tk}
theorem Bk.set {w:World} {b:Nat} {cs:Array Value} {t:TypeId} (h:Bk w b cs t) (i:Nat) (v:Value):Bk (w.setCell ⟨b,i,none⟩ v) b (cs.setIfInBounds i v) t:=by
 unfold Bk at *
 simp [World.setCell,ybB,h]
theorem Bk.other {w:World} {b:Nat} {cs:Array Value} {t:TypeId} (h:Bk w b cs t) {a:Addr} (ha:b≠a.block) (v:Value):Bk (w.setCell a v) b cs t:=(Below.heap_setCell _ _ _ _ ha).trans h
theorem own_set {w:World} {base:Nat} {e:TypeId} {size n:Nat} {v:Value} {xs:List Value} (h:w.ownsRow base e size v n xs) {a:Addr} (ha:a.block<base) (u:Value):(w.setCell a u).ownsRow base e size v n xs :=
 zaH h fun k hk=>Below.heap_setCell _ _ _ _ (by have:=(h.lt k hk).1;omega)
theorem relation_any (h:Rdr w g l):Calls Tryz.prog 247 #[.pointer (some ⟨g,0,none⟩)] w (Post (VRel w.heap.size) w.heap.size w g (relR l)):=by
 suffices O:∀R,To (Post (VRel w.heap.size) w.heap.size w g (relR l)) R→Calls Tryz.prog 247 #[.pointer (some ⟨g,0,none⟩)] w R from O _ fun _ _ h=>h
 intro R q;have P:=h.size;unfold relR at q;go_enter Tryz.func247,Tryz.ntmps247
 go_wp2_with fail
 have f:=(Bk.new w #[.string ⟨#[]⟩,.string ⟨#[]⟩,.string ⟨#[]⟩,.string ⟨#[]⟩,.slice none 0 0,.slice none 0 0] 203).alloc (.cells #[.string ⟨#[]⟩,.string ⟨#[]⟩,.string ⟨#[]⟩,.string ⟨#[]⟩,.slice none 0 0,.slice none 0 0] 203);have b:Bk ((w.alloc (.cells #[.string ⟨#[]⟩,.string ⟨#[]⟩,.string ⟨#[]⟩,.string ⟨#[]⟩,.slice none 0 0,.slice none 0 0] 203)).alloc (.cells #[.string ⟨#[]⟩,.string ⟨#[]⟩,.string ⟨#[]⟩,.string ⟨#[]⟩,.slice none 0 0,.slice none 0 0] 203)) (w.heap.size + 1) #[.string ⟨#[]⟩,.string ⟨#[]⟩,.string ⟨#[]⟩,.string ⟨#[]⟩,.slice none 0 0,.slice none 0 0] 203:=by have:=Bk.new (w.alloc (.cells #[.string ⟨#[]⟩,.string ⟨#[]⟩,.string ⟨#[]⟩,.string ⟨#[]⟩,.slice none 0 0,.slice none 0 0] 203)) #[.string ⟨#[]⟩,.string ⟨#[]⟩,.string ⟨#[]⟩,.string ⟨#[]⟩,.slice none 0 0,.slice none 0 0] 203;rwa [World.size_alloc] at this
 have k:=(h.alloc (.cells #[.string ⟨#[]⟩,.string ⟨#[]⟩,.string ⟨#[]⟩,.string ⟨#[]⟩,.slice none 0 0,.slice none 0 0] 203)).alloc (.cells #[.string ⟨#[]⟩,.string ⟨#[]⟩,.string ⟨#[]⟩,.string ⟨#[]⟩,.slice none 0 0,.slice none 0 0] 203);have m:Kp g w.heap.size w _:=((Kp.refl g _ w).alloc (yaj _) (.cells #[.string ⟨#[]⟩,.string ⟨#[]⟩,.string ⟨#[]⟩,.string ⟨#[]⟩,.slice none 0 0,.slice none 0 0] 203)).alloc (size_alloc (yaj _)) (.cells #[.string ⟨#[]⟩,.string ⟨#[]⟩,.string ⟨#[]⟩,.string ⟨#[]⟩,.slice none 0 0,.slice none 0 0] 203);clear h;generalize (w.alloc (.cells #[.string ⟨#[]⟩,.string ⟨#[]⟩,.string ⟨#[]⟩,.string ⟨#[]⟩,.slice none 0 0,.slice none 0 0] 203)).alloc (.cells #[.string ⟨#[]⟩,.string ⟨#[]⟩,.string ⟨#[]⟩,.string ⟨#[]⟩,.slice none 0 0,.slice none 0 0] 203)=W at *
 generalize w.heap.size=B at *
 refine (must_any k ask_rel).mono ?_;intro e x s;obtain ⟨hk,z⟩:=s.cases_;have u:=ya5 f.lt;have o:=b.lt;replace m:=m.trans (hk.more u);replace f:=f.kp hk yab;replace b:=b.kp hk yab;clear s hk k;rcases z with ⟨c,p,j,rfl⟩ | ⟨_,D,v,j,rfl,y,k⟩
 · go_wp2_with fail
   exact ⟨rfl,q.bad j m⟩
 replace q:=q.bind j;clear j;obtain rfl:=y;clear u o;go_wp2_with fail
 refine (rname_any k).mono ?_;intro e x s;obtain ⟨hk,z⟩:=s.cases_;have u:=ya5 f.lt;have o:=b.lt;replace m:=m.trans (hk.more u);replace f:=f.kp hk yab;replace b:=b.kp hk yab;clear s hk k;rcases z with ⟨c,p,j,rfl⟩ | ⟨n,D,v,j,rfl,y,k⟩
 · go_wp2_with fail
   exact ⟨rfl,q.bad j m⟩
 replace q:=q.bind j;clear j;obtain rfl:=y;have F:x.cell? ⟨B + 1,0,none⟩=some (.string ⟨#[]⟩):=b.cell 0;have G:=b.fz;go_wp2_with fail
 replace k:=k.set (a:=⟨B + 1,0,none⟩) (by show g<B + 1;omega) (.string n);replace m:=m.set (a:=⟨B + 1,0,none⟩) (by show B≤B + 1;omega) (.string n);replace f:=f.other (a:=⟨B + 1,0,none⟩) (by show B≠B + 1;omega) (.string n);replace b:Bk _ (B + 1) #[.string n,.string ⟨#[]⟩,.string ⟨#[]⟩,.string ⟨#[]⟩,.slice none 0 0,.slice none 0 0] 203:=b.set 0 (.string n);clear F G o u;generalize x.setCell ⟨B + 1,0,none⟩ (.string n)=M at *
 refine (must_any k (zc8 40 yac)).mono ?_;intro e x s;obtain ⟨hk,z⟩:=s.cases_;have u:=ya5 f.lt;have o:=b.lt;replace m:=m.trans (hk.more u);replace f:=f.kp hk yab;replace b:=b.kp hk yab;clear s hk k;rcases z with ⟨c,p,j,rfl⟩ | ⟨_,D,v,j,rfl,y,k⟩
 · go_wp2_with fail
   exact ⟨rfl,q.bad j m⟩
 replace q:=q.bind j;clear j;obtain rfl:=y;clear u o;go_wp2_with fail
 refine (rname_any k).mono ?_;intro e x s;obtain ⟨hk,z⟩:=s.cases_;have u:=ya5 f.lt;have o:=b.lt;replace m:=m.trans (hk.more u);replace f:=f.kp hk yab;replace b:=b.kp hk yab;clear s hk k;rcases z with ⟨c,p,j,rfl⟩ | ⟨E,D,v,j,rfl,y,k⟩
 · go_wp2_with fail
   exact ⟨rfl,q.bad j m⟩
 replace q:=q.bind j;clear j;obtain rfl:=y;have F:x.cell? ⟨B + 1,1,none⟩=some (.string ⟨#[]⟩):=b.cell 1;have G:=b.fz;go_wp2_with fail
 replace k:=k.set (a:=⟨B + 1,1,none⟩) (by show g<B + 1;omega) (.string E);replace m:=m.set (a:=⟨B + 1,1,none⟩) (by show B≤B + 1;omega) (.string E);replace f:=f.other (a:=⟨B + 1,1,none⟩) (by show B≠B + 1;omega) (.string E);replace b:Bk _ (B + 1) #[.string n,.string E,.string ⟨#[]⟩,.string ⟨#[]⟩,.slice none 0 0,.slice none 0 0] 203:=b.set 1 (.string E);clear F G o u;generalize x.setCell ⟨B + 1,1,none⟩ (.string E)=M at *
 refine (must_any k (zc8 44 yac)).mono ?_;intro e x s;obtain ⟨hk,z⟩:=s.cases_;have u:=ya5 f.lt;have o:=b.lt;replace m:=m.trans (hk.more u);replace f:=f.kp hk yab;replace b:=b.kp hk yab;clear s hk k;rcases z with ⟨c,p,j,rfl⟩ | ⟨_,D,v,j,rfl,y,k⟩
 · go_wp2_with fail
   exact ⟨rfl,q.bad j m⟩
 replace q:=q.bind j;clear j;obtain rfl:=y;clear u o;go_wp2_with fail
 refine (rname_any k).mono ?_;intro e x s;obtain ⟨hk,z⟩:=s.cases_;have u:=ya5 f.lt;have o:=b.lt;replace m:=m.trans (hk.more u);replace f:=f.kp hk yab;replace b:=b.kp hk yab;clear s hk k;rcases z with ⟨c,p,j,rfl⟩ | ⟨H,D,v,j,rfl,y,k⟩
 · go_wp2_with fail
   exact ⟨rfl,q.bad j m⟩
 replace q:=q.bind j;clear j;obtain rfl:=y;have F:x.cell? ⟨B + 1,2,none⟩=some (.string ⟨#[]⟩):=b.cell 2;have G:=b.fz;go_wp2_with fail
 replace k:=k.set (a:=⟨B + 1,2,none⟩) (by show g<B + 1;omega) (.string H);replace m:=m.set (a:=⟨B + 1,2,none⟩) (by show B≤B + 1;omega) (.string H);replace f:=f.other (a:=⟨B + 1,2,none⟩) (by show B≠B + 1;omega) (.string H);replace b:Bk _ (B + 1) #[.string n,.string E,.string H,.string ⟨#[]⟩,.slice none 0 0,.slice none 0 0] 203:=b.set 2 (.string H);clear F G o u;generalize x.setCell ⟨B + 1,2,none⟩ (.string H)=M at *
 refine (must_any k (zc8 44 yac)).mono ?_;intro e x s;obtain ⟨hk,z⟩:=s.cases_;have u:=ya5 f.lt;have o:=b.lt;replace m:=m.trans (hk.more u);replace f:=f.kp hk yab;replace b:=b.kp hk yab;clear s hk k;rcases z with ⟨c,p,j,rfl⟩ | ⟨_,D,v,j,rfl,y,k⟩
 · go_wp2_with fail
   exact ⟨rfl,q.bad j m⟩
 replace q:=q.bind j;clear j;obtain rfl:=y;clear u o;go_wp2_with fail
 refine (rname_any k).mono ?_;intro e x s;obtain ⟨hk,z⟩:=s.cases_;have u:=ya5 f.lt;have o:=b.lt;replace m:=m.trans (hk.more u);replace f:=f.kp hk yab;replace b:=b.kp hk yab;clear s hk k;rcases z with ⟨c,p,j,rfl⟩ | ⟨ck,D,v,j,rfl,y,k⟩
 · go_wp2_with fail
   exact ⟨rfl,q.bad j m⟩
 replace q:=q.bind j;clear j;obtain rfl:=y;have F:x.cell? ⟨B + 1,3,none⟩=some (.string ⟨#[]⟩):=b.cell 3;have G:=b.fz;go_wp2_with fail
 replace k:=k.set (a:=⟨B + 1,3,none⟩) (by show g<B + 1;omega) (.string ck);replace m:=m.set (a:=⟨B + 1,3,none⟩) (by show B≤B + 1;omega) (.string ck);replace f:=f.other (a:=⟨B + 1,3,none⟩) (by show B≠B + 1;omega) (.string ck);replace b:Bk _ (B + 1) #[.string n,.string E,.string H,.string ck,.slice none 0 0,.slice none 0 0] 203:=b.set 3 (.string ck);clear F G o u;generalize x.setCell ⟨B + 1,3,none⟩ (.string ck)=M at *
 refine (must_any k (zc8 41 yac)).mono ?_;intro e x s;obtain ⟨hk,z⟩:=s.cases_;have u:=ya5 f.lt;have o:=b.lt;replace m:=m.trans (hk.more u);replace f:=f.kp hk yab;replace b:=b.kp hk yab;clear s hk k;rcases z with ⟨c,p,j,rfl⟩ | ⟨_,D,v,j,rfl,y,k⟩
 · go_wp2_with fail
   exact ⟨rfl,q.bad j m⟩
 replace q:=q.bind j;clear j;obtain rfl:=y;clear u o;go_wp2_with fail
 refine (must_any k (zc8 58 yac)).mono ?_;intro e x s;obtain ⟨hk,z⟩:=s.cases_;have u:=ya5 f.lt;have o:=b.lt;replace m:=m.trans (hk.more u);replace f:=f.kp hk yab;replace b:=b.kp hk yab;clear s hk k;rcases z with ⟨c,p,j,rfl⟩ | ⟨_,D,v,j,rfl,y,k⟩
 · go_wp2_with fail
   exact ⟨rfl,q.bad j m⟩
 replace q:=q.bind j;clear j;obtain rfl:=y;clear u o;go_wp2_with fail
 refine (subs_any k).mono ?_;intro e x s;obtain ⟨hk,z⟩:=s.cases_;have u:=ya5 f.lt;have o:=b.lt;replace m:=m.trans (hk.more u);replace f:=f.kp hk yab;replace b:=b.kp hk yab;clear s hk k;rcases z with ⟨c,p,j,rfl⟩ | ⟨ws,D,v,j,rfl,y,k⟩
 · go_wp2_with fail
   exact ⟨rfl,q.bad j m⟩
 replace q:=q.bind j;clear j;have A:zgw (B + 2) _ v ws:=zaA y yab;obtain ⟨I,J,rfl,_⟩:=Rd.own A;clear y;have F:x.cell? ⟨B + 1,4,none⟩=some (.slice none 0 0):=b.cell 4;have G:=b.fz;go_wp2_with fail
 replace k:=k.set (a:=⟨B + 1,4,none⟩) (by show g<B + 1;omega) (.slice I ws.length J);replace m:=m.set (a:=⟨B + 1,4,none⟩) (by show B≤B + 1;omega) (.slice I ws.length J);replace f:=f.other (a:=⟨B + 1,4,none⟩) (by show B≠B + 1;omega) (.slice I ws.length J);replace b:Bk _ (B + 1) #[.string n,.string E,.string H,.string ck,.slice I ws.length J,.slice none 0 0] 203:=b.set 4 (.slice I ws.length J);replace A:=own_set A (a:=⟨B + 1,4,none⟩) (by show B + 1<B + 2;omega) (.slice I ws.length J);clear F G o u;generalize x.setCell ⟨B + 1,4,none⟩ (.slice I ws.length J)=M at *
 refine (ops_any k).mono ?_;intro e x s;obtain ⟨hk,z⟩:=s.cases_;have u:=ya5 f.lt;have o:=b.lt;replace m:=m.trans (hk.more u);replace f:=f.kp hk yab;replace b:=b.kp hk yab;replace A:=zcr A hk yab;clear s hk k;rcases z with ⟨c,p,j,rfl⟩ | ⟨os,D,v,j,rfl,y,k⟩
 · go_wp2_with fail
   exact ⟨rfl,q.bad j m⟩
 replace q:=q.bind j;clear j;have C:zjj (B + 2) _ v os:=zaA y yab;obtain ⟨K,L,rfl,_⟩:=Rd.own C;clear y;have F:x.cell? ⟨B + 1,5,none⟩=some (.slice none 0 0):=b.cell 5;have G:=b.fz;go_wp2_with fail
 replace k:=k.set (a:=⟨B + 1,5,none⟩) (by show g<B + 1;omega) (.slice K os.length L);replace m:=m.set (a:=⟨B + 1,5,none⟩) (by show B≤B + 1;omega) (.slice K os.length L);replace f:=f.other (a:=⟨B + 1,5,none⟩) (by show B≠B + 1;omega) (.slice K os.length L);replace b:Bk _ (B + 1) #[.string n,.string E,.string H,.string ck,.slice I ws.length J,.slice K os.length L] 203:=b.set 5 (.slice K os.length L);replace A:=own_set A (a:=⟨B + 1,5,none⟩) (by show B + 1<B + 2;omega) (.slice K os.length L);replace C:=own_set C (a:=⟨B + 1,5,none⟩) (by show B + 1<B + 2;omega) (.slice K os.length L);clear F G o u;generalize x.setCell ⟨B + 1,5,none⟩ (.slice K os.length L)=M at *
 refine (must_any k (zc8 59 yac)).mono ?_;intro e x s;obtain ⟨hk,z⟩:=s.cases_;have u:=ya5 f.lt;have o:=b.lt;replace m:=m.trans (hk.more u);replace f:=f.kp hk yab;replace b:=b.kp hk yab;replace A:=zcr A hk yab;replace C:=zcr C hk yab;clear s hk k;rcases z with ⟨c,p,j,rfl⟩ | ⟨_,D,v,j,rfl,y,k⟩
 · go_wp2_with fail
   exact ⟨rfl,q.bad j m⟩
 replace q:=q.bind j;clear j;obtain rfl:=y;have x0:x.cell? ⟨B + 1,0,none⟩=some (.string n):=b.cell 0;have Q:x.cell? ⟨B,0,none⟩=some (.string ⟨#[]⟩):=f.cell 0;have x1:x.cell? ⟨B + 1,1,none⟩=some (.string E):=b.cell 1;have T:x.cell? ⟨B,1,none⟩=some (.string ⟨#[]⟩):=f.cell 1;have x2:x.cell? ⟨B + 1,2,none⟩=some (.string H):=b.cell 2;have U:x.cell? ⟨B,2,none⟩=some (.string ⟨#[]⟩):=f.cell 2;have x3:x.cell? ⟨B + 1,3,none⟩=some (.string ck):=b.cell 3;have V:x.cell? ⟨B,3,none⟩=some (.string ⟨#[]⟩):=f.cell 3;have x4:x.cell? ⟨B + 1,4,none⟩=some (.slice I ws.length J):=b.cell 4;have X:x.cell? ⟨B,4,none⟩=some (.slice none 0 0):=f.cell 4;have x5:x.cell? ⟨B + 1,5,none⟩=some (.slice K os.length L):=b.cell 5;have Y:x.cell? ⟨B,5,none⟩=some (.slice none 0 0):=f.cell 5;have fy:=f.fz;have Z:¬B + 1=B:=by omega
 have N:¬B=B + 1:=by omega
 go_wp2_with fail
 refine bodyPost_ret (v:=.agg #[.string n,.string E,.string H,.string ck,.slice I ws.length J,.slice K os.length L]) (by simp [results,Tryz.results247,go_sem,Q,T,U,V,X,Y];try rfl) rfl ?_;refine q.ret rfl ?_ ⟨_,_,rfl,?_,?_⟩ ?_
 · refine Kp.set (Kp.set (Kp.set (Kp.set (Kp.set (Kp.set m ?_ _) ?_ _) ?_ _) ?_ _) ?_ _) ?_ _ <;> exact yaj _
 · refine zaA (own_set (own_set (own_set (own_set (own_set (own_set A ?_ _) ?_ _) ?_ _) ?_ _) ?_ _) ?_ _) (show B≤B + 2 by omega) <;> (show B<B + 2;omega)
 · refine zaA (own_set (own_set (own_set (own_set (own_set (own_set C ?_ _) ?_ _) ?_ _) ?_ _) ?_ _) ?_ _) (show B≤B + 2 by omega) <;> (show B<B + 2;omega)
 · refine Rdr.set (Rdr.set (Rdr.set (Rdr.set (Rdr.set (Rdr.set k ?_ _) ?_ _) ?_ _) ?_ _) ?_ _) ?_ _ <;> exact P
end
end Go.Proofs.YtmblgnddgmfkhaaGreat
