import Derived.Test.YtmblgnddgmfkhaaGreatK36
set_option maxRecDepth 100000
set_option maxHeartbeats 4000000
namespace Go.Proofs.YtmblgnddgmfkhaaGreat
section
open Go.RowKit
variable {x k g:Nat} {st:RSt} {w w':World}
theorem zr1 {l:List UInt8} {f:Nat} (h:zb6 l=(x,k,f)):(f=0→1≤k∧k≤l.length∧k≤9)∧x<2 ^ 64∧(f≠0→x=0∧k=0):=by
 cases l with
 | nil=>simp [zb6] at h;omega
 | cons b r =>
  simp only [zb6] at h;split at h
  · simp at h;omega
  · split at h
    · simp at h;omega
    · split at h
      · simp at h;omega
      · simp only [Prod.mk.injEq] at h;obtain ⟨rfl,rfl,rfl⟩:=h;refine ⟨fun _=>⟨by omega,by simp;omega,by omega⟩,?_,fun h=>absurd rfl h⟩;exact yas (val_lt _) (yay (Nat.pow_le_pow_right (n:=256) yab (show (r.take b.toNat).length≤8 by have:=ycP b.toNat r;omega)) yab)
theorem num_any (g:Nat) (st:RSt) (w:World) (h:IsR w g st) :
 Calls Tryz.prog 92 #[.pointer (some ⟨g,0,none⟩)] w fun e w'=>e = .returned (.int .u64 (zbn st).1)∧IsR w' g (zbn st).2∧w.grownBy w' (some g):=by
 have F:=h.lt;obtain ⟨l,x⟩:=st;by_cases B:x=0
 · subst B;obtain ⟨q,k,f,o⟩:∃q k f,zb6 l=(q,k,f):=⟨_,_,_,rfl⟩;have y:zgg l = .tuple #[.int .u64 q,.int .i64 k,.int .i64 f]:=by rw [zgg,o]
   obtain ⟨A,n,c,N,O,P,s⟩:=h.cells;have G:n=l.length:=s.lenB;subst G;have z:=Lib.hid s;have H:=Lib.hid h;have C:=s.cap;have D:c≤9223372036854775807:=by have:=s.capm;unfold maxLen at this;omega
   by_cases j:f=0
   · subst j;obtain ⟨⟨I,u,J⟩,K,_⟩:=And.imp_left (fun h=>h rfl) (zr1 o);have b:zbn (l,0)=(q,(l.drop k,0)):=by simp [zbn,o]
     have E:=Lib.hid b;have T:=Lib.hid y;clear b y o s h K;go_enter Tryz.func92,Tryz.ntmps92
     go_wp2_with fail
     refine (err_any g _ _ H.out).mono ?_;rintro e w' ⟨rfl,rfl⟩;go_wp2_with fail
     refine (take_any g A _ c l w z.out).mono ?_;rintro e w' ⟨rfl,rfl⟩;rw [T.out];go_wp2
     · have m:c=k:=by assumption
       go_ret
       rw [E.out];exact ⟨rfl,H.out.set0 A _ _ (l.drop k) (by rw [←zjn];exact z.out.cutE u m),zcO (World.grownBy.refl _ _) _ _⟩
     · have m:¬c=k:=by assumption
       go_ret
       rw [E.out];exact ⟨rfl,H.out.set0 _ _ _ (l.drop k) (by rw [←zjn];exact z.out.cutN u m),zcO (World.grownBy.refl _ _) _ _⟩
   · have L:((f:Int) != 0)=true:=by simp [j]
     have b:zbn (l,0)=(0,(l,f)):=by simp [zbn,o,j]
     have E:=Lib.hid b;have T:=Lib.hid y;clear b y o s h;go_enter Tryz.func92,Tryz.ntmps92
     go_wp2_with fail
     refine (err_any g _ _ H.out).mono ?_;rintro e w' ⟨rfl,rfl⟩;go_wp2_with fail
     refine (take_any g A _ c l w z.out).mono ?_;rintro e w' ⟨rfl,rfl⟩;rw [T.out];go_wp2
     go_ret
     rw [E.out];exact ⟨rfl,H.out.set1 f,zcO (World.grownBy.refl _ _) _ _⟩
 · have M:((x:Int) != 0)=true:=by simp [B]
   have b:zbn (l,x)=(0,(l,x)):=by simp [zbn,B]
   have E:=Lib.hid b;clear b;go_enter Tryz.func92,Tryz.ntmps92
   go_wp2_with fail
   refine (err_any g _ _ h).mono ?_;rintro e w' ⟨rfl,rfl⟩;go_wp2
   go_ret
   rw [E.out];exact ⟨rfl,h,World.grownBy.refl _ _⟩
theorem text_any (g:Nat) (st:RSt) (w:World) (h:IsR w g st) :
 Calls Tryz.prog 94 #[.pointer (some ⟨g,0,none⟩)] w fun e w'=>e = .returned (.string (strOf (zaX st).1))∧IsR w' g (zaX st).2∧w.grownBy w' (some g):=by
 obtain ⟨q,⟨l,x⟩,k⟩:∃q u,zbn st=(q,u):=⟨_,_,rfl⟩;have y:=Lib.hid k;by_cases z:x=0
 · subst z;by_cases F:l.length<q
   · have E:Hid (zaX st=([],(l,10))):=Lib.hid (by simp [zaX,k,F]);clear k;go_enter Tryz.func94,Tryz.ntmps94
     go_wp2_with fail
     refine (num_any g _ _ h).mono ?_;rintro e w1 ⟨rfl,b,f⟩;rw [y.out] at b ⊢;have H:=Lib.hid b;have G:=Lib.hid f;obtain ⟨A,n,c,K,L,M,j⟩:=b.cells;have C:n=l.length:=j.lenB;subst C;clear b f;have s:l.length≤9223372036854775807:=by have:=j.capm;have:=j.cap;unfold maxLen at *;omega
     have D:=Lib.hid j;clear j;go_wp2_with fail
     refine (err_any g _ _ H.out).mono ?_;rintro e w' ⟨rfl,rfl⟩;go_wp2
     go_ret
     rw [E.out];exact ⟨rfl,H.out.set1 10,zcO G.out _ _⟩
   · have E:Hid (zaX st=(l.take q,(l.drop q,0))):=Lib.hid (by simp [zaX,k,F]);clear k;go_enter Tryz.func94,Tryz.ntmps94
     go_wp2_with fail
     refine (num_any g _ _ h).mono ?_;rintro e w1 ⟨rfl,b,f⟩;rw [y.out] at b ⊢;have H:=Lib.hid b;have G:=Lib.hid f;obtain ⟨A,n,c,K,L,M,j⟩:=b.cells;have C:n=l.length:=j.lenB;subst C;clear b f;have s:l.length≤9223372036854775807:=by have:=j.capm;have:=j.cap;unfold maxLen at *;omega
     have I:=j.cap;have J:c≤9223372036854775807:=by have:=j.capm;unfold maxLen at this;omega
     have m:q≤l.length:=by omega
     have D:=Lib.hid j;have N:(convert 24 9 (.slice A q c)).run Tryz.prog w1 = .ok (.string (strOf (l.take q))) w1 :=
      Rd.conv (B:=g) (by have:=j.pre m;rwa [yb4,bv_take] at this) 24 9 5 Tryz.underlying24 Tryz.underlying5 Tryz.underlying9
     clear j;go_wp2_with fail
     refine (err_any g _ _ H.out).mono ?_;rintro e w' ⟨rfl,rfl⟩;go_wp2
     · have o:c=q:=by assumption
       go_ret
       rw [E.out];exact ⟨rfl,H.out.set0 A _ _ (l.drop q) (by rw [←zjn];exact D.out.cutE m o),zcO G.out _ _⟩
     · have o:¬c=q:=by assumption
       go_ret
       rw [E.out];exact ⟨rfl,H.out.set0 _ _ _ (l.drop q) (by rw [←zjn];exact D.out.cutN m o),zcO G.out _ _⟩
 · have O:((x:Int) != 0)=true:=by simp [z]
   have E:Hid (zaX st=([],(l,x))):=Lib.hid (by simp [zaX,k,z]);clear k;go_enter Tryz.func94,Tryz.ntmps94
   go_wp2_with fail
   refine (num_any g _ _ h).mono ?_;rintro e w1 ⟨rfl,b,f⟩;rw [y.out] at b ⊢;have G:=Lib.hid f;clear f;go_wp2_with fail
   refine (err_any g _ _ b).mono ?_;rintro e w' ⟨rfl,rfl⟩;go_wp2
   go_ret
   rw [E.out];exact ⟨rfl,b,G.out⟩
def steps:Nat→RSt→List (List UInt8) × RSt
 | 0,st=>([],st)
 | k + 1,st=>((steps k st).1 ++ [(zaX (steps k st).2).1],(zaX (steps k st).2).2)
def zcA (st:RSt) (most:Nat):List (List UInt8) × RSt :=
 if (zbn st).2.2≠0 then ([],(zbn st).2) else if most<(zbn st).1 then ([],((zbn st).2.1,13))
 else if (steps (zbn st).1 (zbn st).2).2.2≠0 then ([],(steps (zbn st).1 (zbn st).2).2) else steps (zbn st).1 (zbn st).2
theorem zrJ (h:st.2≠0):zaX st=([],st):=by simp [zaX,zbn,h]
theorem zrU {j:Nat} (hjk:j≤k) (h:(steps j st).2.2≠0):(steps k st).2=(steps j st).2:=by
 induction k with
 | zero=>rw [show j=0 from by omega]
 | succ k ih =>
  by_cases e:j=k + 1
  · rw [e]
  · have:=ih yab;show (zaX (steps k st).2).2=_;rw [this,zrJ h]
theorem zrV (k:Nat) (st:RSt):(steps k st).1.length=k:=by
 induction k with
 | zero=>rfl
 | succ k ih=>simp [steps,ih]
def tv (l:List (List UInt8)):List Value:=l.map fun s=>Value.string (strOf s)
theorem tv_snoc (l:List (List UInt8)) (s:List UInt8):tv (l ++ [s])=tv l ++ [.string (strOf s)]:=by simp [tv]
theorem IsR.grown {r:Option Nat} (h:IsR w g st) (hg:w.grownBy w' r) (hr:∀k,r=some k→g<k):IsR w' g st:=by
 have b:=h.lt;have hb:∀k,k≤g→w'.heap[k]? = w.heap[k]?:=fun k hk=>hg.block k yab (fun e=>by have:=hr k e.symm;omega);obtain ⟨A,n,c,f,j⟩:=h;exact ⟨A,n,c,by rw [hb g (yaj _)];exact f,j.keep fun p m=>World.cell?_of_block (w:=w) (hb p.block yab)⟩
theorem own_far {base:Nat} {e:TypeId} {size n:Nat} {v:Value} {xs:List Value} (h:w.ownsRow base e size v n xs) (hg:w.grownBy w' (some g)) (hlt:g<base):w'.ownsRow base e size v n xs:=by
 refine h.kept hg ?_;cases b:v.ownBlock with
 | none=>exact .inl rfl
 | some k=>exact .inr fun e=>by have:=(h.lt k b).1;simp at e;omega
theorem zp9 {w0:World} {base:Nat} {e:TypeId} {size n:Nat} {v:Value} {xs:List Value} (h0:w0.grownBy w (some g)) (h:w.ownsRow base e size v n xs) (hg:w.grownBy w' v.ownBlock) (hb:w0.heap.size≤base):w0.grownBy w' (some g) :=
 ⟨hg.os.trans h0.os,hg.tape.trans h0.tape,hg.output.trans h0.output,yay h0.size hg.size,fun i hi b=>(hg.block i (yas hi h0.size) (fun e=>by have:=(h.lt i e.symm).1;omega)).trans (h0.block i hi b)⟩
theorem zqn:(Tryz.prog.info? 9).map (fun i=>(i.zero,i.size,i.bytes))=some (some (.string .empty),1,16):=by kernel_rfl
theorem list_any (g:Nat) (st:RSt) (most:Int) (hm0 : -1000000000≤most) (hm1:most≤1000000000) (w:World) (h:IsR w g st) :
 Calls Tryz.prog 95 #[.pointer (some ⟨g,0,none⟩),.int .i64 most] w fun e w'=>∃v,e = .returned v ∧
  w'.ownsRow w.heap.size 9 1 v (zcA st most.toNat).1.length (tv (zcA st most.toNat).1)∧IsR w' g (zcA st most.toNat).2∧w.grownBy w' (some g):=by
 obtain ⟨i0,hi,V,X,Y⟩:=info_parts zqn;have L:=h.lt;obtain ⟨q,⟨l,x⟩,D⟩:∃q Z,zbn st=(q,Z):=⟨_,_,rfl⟩;have T:=Lib.hid D;by_cases hx:x=0
 · subst hx;by_cases hq:most.toNat<q
   · have E:Hid (zcA st most.toNat=([],(l,13))):=Lib.hid (by simp [zcA,D,hq]);clear D;by_cases M:most<0;all_goals
      go_enter Tryz.func95,Tryz.ntmps95
      go_wp2_with fail
      refine (num_any g _ _ h).mono ?_;rintro e w1 ⟨rfl,b,f⟩;rw [T.out] at b ⊢;have H:=Lib.hid b;have G:=Lib.hid f;obtain ⟨A,n,c,h0,h1,hf,hr⟩:=b.cells;clear b f hr;go_wp2_with fail
      refine (err_any g _ _ H.out).mono ?_;rintro e w' ⟨rfl,rfl⟩;go_wp2
      go_ret
      rw [E.out];exact ⟨_,rfl,World.ownsRow_nil _ _ _ _,H.out.set1 13,zcO G.out _ _⟩
   · have E:Hid (zcA st most.toNat=if (steps q (l,0)).2.2≠0 then ([],(steps q (l,0)).2) else steps q (l,0)):=Lib.hid (by simp [zcA,D,hq]);have a7:q≤1000000000:=by omega
     clear D;by_cases M:most<0
     · obtain rfl:q=0:=by omega
       go_enter Tryz.func95,Tryz.ntmps95
       go_wp2_with fail
       refine (num_any g _ _ h).mono ?_;rintro e w1 ⟨rfl,b,f⟩;rw [T.out] at b ⊢;have H:=Lib.hid b;have G:=Lib.hid f;clear b f;go_wp2_with fail
       refine (err_any g _ _ H.out).mono ?_;rintro e w' ⟨rfl,rfl⟩;go_wp2_with fail
       refine wp_loop_rounds 1 ?_;rw [rounds_succ];go_wp2
       go_ret
       rw [E.out];exact ⟨_,rfl,World.ownsRow_nil _ _ _ _,H.out,G.out⟩
     · go_enter Tryz.func95,Tryz.ntmps95
       go_wp2_with fail
       refine (num_any g _ _ h).mono ?_;rintro e w1 ⟨rfl,b,f⟩;rw [T.out] at b ⊢;have H:=Lib.hid b;have G:=Lib.hid f;clear b f;go_wp2_with fail
       refine (err_any g _ _ H.out).mono ?_;rintro e w' ⟨rfl,rfl⟩;go_wp2_with fail
       go_loopw [6,22] (fun v i wr=>∃k:Nat,k≤q∧i = .int .u64 k∧wr.ownsRow w.heap.size 9 1 v k (tv (steps k (l,0)).1)∧IsR wr g (steps k (l,0)).2∧(steps k (l,0)).2.2=0∧w.grownBy wr (some g)) (fun _ i _=>q-(intOf i).toNat)
       case atStart=>exact ⟨0,yao _,rfl,World.ownsRow_nil _ _ _ _,H.out,rfl,G.out⟩
       case round =>
        obtain ⟨k,hk,rfl,B,N,O,F⟩:=hrel;have Ho:=Lib.hid B;have Hr:=Lib.hid N;have Hg:=Lib.hid F;have Hk:=Lib.hid O;have a8:=F.size;clear B N F O;by_cases aa:k<q
        · obtain ⟨a,⟨s',y⟩,U⟩:∃a r,zaX (steps k (l,0)).2=(a,r):=⟨_,_,rfl⟩;have P:(steps (k + 1) (l,0)).1=(steps k (l,0)).1 ++ [a]:=by simp [steps,U]
          have Q:(steps (k + 1) (l,0)).2=(s',y):=by simp [steps,U]
          have HT:=Lib.hid U;have a1:=Lib.hid P;have z:=Lib.hid Q;clear U P Q;by_cases hy:y=0
          · subst hy;go_wp2_with fail
            refine (text_any g _ _ Hr.out).mono ?_;rintro e w2 ⟨rfl,m,o⟩;rw [HT.out] at m ⊢;have s:=Lib.hid m;have I:=Lib.hid (Hg.out.trans o);have J:=Lib.hid (own_far Ho.out o L);have a2:=o.size;clear m o;go_wp2_with fail
            refine (err_any g _ _ s.out).mono ?_;rintro e w' ⟨rfl,rfl⟩;go_wp2_with (at_builtin;go_must (refine zab _ rfl (.tmp 29) (.tmp 31) 46 46 rfl w.heap.size 9 i0 (.string .empty) 1 16 Tryz.underlying46 hi V X Y rfl yac _ k _ rfl (J.out.alloc _) _ 1 [_] rfl (Src.ofSlice _ Tryz.underlying46 _ 1 1 _ rfl (cell_one_new _ _ _) (fun u hu=>by simp at hu;subst hu;rfl)) yad yab yag ?_);intro v3 w3 K R a6)
            refine ⟨⟨k + 1,by omega,by go_num,?_,?_,?_,?_⟩,by simp [intOf];omega⟩
            · rw [a1.out,tv_snoc];exact K
            · rw [z.out];refine IsR.grown (s.out.below ((Below.refl _ _).alloc (yaj _) _) s.out.lt) R fun j hj=>?_;have:=(J.out.lt j hj).1;omega
            · rw [z.out]
            · exact zp9 (zl6 I.out _) (J.out.alloc _) R (yaj _)
          · have ab:((y:Int) != 0)=true:=by simp [hy]
            go_wp2_with fail
            refine (text_any g _ _ Hr.out).mono ?_;rintro e w2 ⟨rfl,m,o⟩;rw [HT.out] at m ⊢;have s:=Lib.hid m;have I:=Lib.hid (Hg.out.trans o);clear m o;go_wp2_with fail
            refine (err_any g _ _ s.out).mono ?_;rintro e w' ⟨rfl,rfl⟩;go_wp2
            go_ret
            have hn:(steps (k + 1) (l,0)).2.2≠0:=by rw [z.out];exact hy
            have C:=zrU (show k + 1≤q by omega) hn;rw [E.out,yan (by rw [C];exact hn),C,z.out];exact ⟨_,rfl,World.ownsRow_nil _ _ _ _,s.out,I.out⟩
        · have e3:k=q:=by omega
          subst e3;go_wp2
          go_ret
          rw [E.out,yak (by rw [Hk.out];simp),zrV];exact ⟨_,rfl,Ho.out,Hr.out,Hg.out⟩
 · have ac:((x:Int) != 0)=true:=by simp [hx]
   have E:Hid (zcA st most.toNat=([],(l,x))):=Lib.hid (by simp [zcA,D,hx]);clear D;go_enter Tryz.func95,Tryz.ntmps95
   go_wp2_with fail
   refine (num_any g _ _ h).mono ?_;rintro e w1 ⟨rfl,b,f⟩;rw [T.out] at b ⊢;have G:=Lib.hid f;clear f;go_wp2_with fail
   refine (err_any g _ _ b).mono ?_;rintro e w' ⟨rfl,rfl⟩;go_wp2
   go_ret
   rw [E.out];exact ⟨_,rfl,World.ownsRow_nil _ _ _ _,b,G.out⟩
theorem val_be (x:Nat):val (be x)=x:=by
 induction x using Nat.strongRecOn with
 | _ x ih =>
  by_cases h:x=0
  · subst h;rw [zg5];rfl
  · rw [zkl yab,zkb,ih _ yab,UInt8.toNat_ofNat'];omega
theorem be_head (h:0<x):(be x).head?≠some 0:=by
 induction x using Nat.strongRecOn with
 | _ x ih =>
  rw [zkl h];by_cases b:x / 256=0
  · rw [b,zg5];simp;intro e;have:=congrArg UInt8.toNat e;simp at this;omega
  · have:=ih (x / 256) yab yab;rw [List.head?_append];cases hb:(be (x / 256)).head? with
    | none =>
     rw [List.head?_eq_none_iff] at hb;have:=zca (x / 256);rw [hb,zi7 (by omega)] at this;simp at this
    | some y=>rw [hb] at this;simpa using this
theorem take_num (x:Nat) (hx:x<2 ^ 64) (rest:List UInt8):zb6 (num x ++ rest)=(x,nb x + 1,0):=by
 have m:=zi6 hx;have hb:(UInt8.ofNat (nb x)).toNat=nb x:=by rw [UInt8.toNat_ofNat'];omega
 have f:=zca x;rw [num,ybq,zb6,hb,yak yab,yak (by rw [yam,f];omega),yak]
 · rw [←f,ycV,val_be]
 · rintro ⟨k,g⟩;have b:0<x:=by rcases ybg x with b | b;(subst b;rw [ze6] at k;omega);exact b
   have j:=be_head b;rw [List.head?_append] at g;cases hb:(be x).head? with
   | none=>rw [List.head?_eq_none_iff] at hb;rw [hb] at f;simp at f;omega
   | some y=>rw [hb] at g j;simp at g;rw [g] at j;exact j rfl
theorem be_val (t:List UInt8) (h:t.head?≠some 0):be (val t)=t:=by
 have key:∀(n:Nat) (t:List UInt8),t.length=n→t.head?≠some 0→be (val t)=t:=by
  intro n;induction n with
  | zero =>
   intro t f _;have:t=[]:=yaU f;subst this;rw [val_nil,zg5]
  | succ n ih =>
   intro t f j;obtain ⟨s,c,rfl⟩:∃s c,t=s ++ [c]:=⟨t.dropLast,t.getLast (by intro e;subst e;simp at f),(List.dropLast_concat_getLast _).symm⟩;have m:s.length=n:=by simpa using f
   have q:=c.toNat_lt;have o:s.head?≠some 0:=by
    intro e;apply j;rw [List.head?_append,e];rfl
   rw [zkb];have g:=ih s m o;have b:0<val s * 256 + c.toNat:=by
    rcases ybg (val s) with k | k
    · rw [k,zg5] at g;subst g;have:c≠0:=by intro e;apply j;subst e;rfl
      have:c.toNat≠0:=fun e=>this (UInt8.toNat_inj.1 e);omega
    · omega
   rw [zkl b,show (val s * 256 + c.toNat) / 256=val s by omega,show (val s * 256 + c.toNat) % 256=c.toNat by omega,g];simp
 exact key t.length t rfl h
theorem take_inv {l:List UInt8} (h:zb6 l=(x,k,0)):∃rest,l=num x ++ rest∧k=nb x + 1∧x<2 ^ 64:=by
 have m:=(zr1 h).2.1;cases l with
 | nil=>simp [zb6] at h
 | cons b r =>
  simp only [zb6] at h;split at h
  · simp at h
  · rename_i q
    split at h
    · simp at h
    · rename_i g
      split at h
      · simp at h
      · rename_i n
        simp only [Prod.mk.injEq] at h;obtain ⟨rfl,rfl,_⟩:=h;have o:(r.take b.toNat).head?≠some 0:=by
         intro e;apply n;rw [List.head?_take] at e;split at e
         · cases e
         · exact ⟨by omega,e⟩
        have j:=be_val _ o;have f:nb (val (r.take b.toNat))=b.toNat:=by rw [←zca,j,yaN];omega
        refine ⟨r.drop b.toNat,?_,by rw [f],m⟩;rw [num,f,j,ybq,ybk];simp
theorem zbD (x:Nat) (hx:x<2 ^ 64) (rest:List UInt8):zbn (num x ++ rest,0)=(x,(rest,0)):=by
 have h:=take_num x hx rest;have b:=zb4 x;simp only [zbn,ne_eq,not_true_eq_false,if_false,h];rw [←b,List.drop_left]
theorem zbJ (s:ByteArray) (hs:s.size<2 ^ 64) (rest:List UInt8):zaX (text s ++ rest,0)=(s.data.toList,(rest,0)):=by
 have h:=zbD s.size hs (s.data.toList ++ rest);rw [←yaD] at h;have b:=size_eq s;simp only [zaX,text,h,ne_eq,not_true_eq_false,if_false];rw [yak (by rw [yam,b];omega),←b,ycV,List.drop_left]
theorem zpj (s:ByteArray) (r:List ByteArray):texts (s::r)=text s ++ texts r:=by simp [texts]
theorem zmK (ss:List ByteArray) (hs:∀s ∈ ss,s.size<2 ^ 64) (rest:List UInt8) (k:Nat) (hk:k≤ss.length) :
 steps k (texts ss ++ rest,0)=((ss.take k).map (fun s=>s.data.toList),(texts (ss.drop k) ++ rest,0)):=by
 induction k with
 | zero=>simp [steps]
 | succ k ih =>
  have h:=ih yab;have f:ss.drop k=ss[k]'(by omega)::ss.drop (k + 1):=ya8 yab;have b:=zbJ (ss[k]'(by omega)) (hs _ (List.getElem_mem _)) (texts (ss.drop (k + 1)) ++ rest);rw [←yaD,←zpj,←f] at b;simp only [steps,h,b];rw [ybI yab,yaM];rfl
theorem zeK (ss:List ByteArray) (hs:∀s ∈ ss,s.size<2 ^ 64) (hn:ss.length<2 ^ 64) (rest:List UInt8) (most:Nat) :
 zcA (num ss.length ++ texts ss ++ rest,0) most=if most<ss.length then ([],(texts ss ++ rest,13)) else (ss.map (fun s=>s.data.toList),(rest,0)):=by
 have h:=zbD ss.length hn (texts ss ++ rest);rw [←yaD] at h;have b:=zmK ss hs rest ss.length (yaj _);rw [yaz,yb0,show texts []=[] from rfl,ya6] at b;simp only [zcA,h,b,ne_eq,not_true_eq_false,if_false]
end
section
open Go.RowKit
def zgG:List ByteArray→List ByteArray→List (ByteArray × Bool)
 | _,[]=>[]
 | t,k::l=>(k,!hasK t k)::zgG (zkg t (k,!hasK t k)) l
theorem zh9:∀(l t:List ByteArray),(zgG t l).map Prod.fst=l
 | [],_=>rfl
 | k::l,t=>by
  unfold zgG;rw [yaX,zh9 l]
theorem zn6:∀{c:List (ByteArray × Bool)} {t r:List ByteArray} {i:Nat},zct t c i=(r,0,0)→zgG t (c.map Prod.fst)=c
 | [],_,_,_,_=>rfl
 | c::d,t,r,i,h=>by
  by_cases e:hasK t c.1 = !c.2
  · rw [zb1 e] at h;rw [yaX];unfold zgG;have b:(c.1,!hasK t c.1)=c:=by rw [e,Bool.not_not]
    rw [b,zn6 h]
  · rw [zb7 (by cases f:hasK t c.1 <;> cases g:c.2 <;> simp_all)] at h;injection h with _ h
    injection h with h _
    split at h <;> cases h
def oddL (l:List ByteArray) (k:ByteArray):Bool:=decide ((l.filter fun x=>decide (x=k)).length % 2=1)
theorem odd_flip {n m:Nat} (h:n=m + 1):decide (n % 2=1) = !decide (m % 2=1):=by
 by_cases q:m % 2=1
 · rw [yaB q,yaF (by omega)];rfl
 · rw [yaF q,yaB (by omega)];rfl
theorem zre (l:List ByteArray) (a k:ByteArray):oddL (a::l) k=if k=a then !oddL l k else oddL l k:=by
 unfold oddL;rw [ybE];by_cases q:k=a
 · rw [yan q,yan (by simp [q]),yat];exact odd_flip rfl
 · rw [yak q,yak (by simpa using fun e=>q e.symm)]
theorem zn5:∀{l t:List ByteArray} {i:Nat} {k:ByteArray},l[i]? = some k→(zgG t l)[i]? = some (k,!(hasK t k != oddL (l.take i) k))
 | a::l,t,0,k,h=>by
  have h:a=k:=yaZ h;subst h;unfold zgG oddL;simp
 | a::l,t,i + 1,k,h=>by
  have h:l[i]? = some k:=h;unfold zgG;rw [ybj,zn5 h,ycO,zre,zbT (c:=(a,!hasK t a)) yaf k];dsimp only;by_cases q:k=a
  · subst q;rw [yan rfl,yan rfl];cases hasK t k <;> cases oddL (l.take i) k <;> rfl
  · rw [yak q,yak q]
theorem ziH:∀{c:List (ByteArray × Bool)} {t r:List ByteArray} {i:Nat},zct t c i=(r,0,0)→r.length≤t.length + c.length
 | [],t,r,i,h=>by unfold zct at h;cases h;simp
 | c::d,t,r,i,h=>by
  by_cases e:hasK t c.1 = !c.2
  · rw [zb1 e] at h;have:=ziH h;have:=oneS_len t c;rw [yat];omega
  · rw [zb7 (by cases b:hasK t c.1 <;> cases f:c.2 <;> simp_all)] at h;injection h with _ h
    injection h with h _
    split at h <;> cases h
section
variable {τ α:Type} [Inhabited τ]
def zdR (st:RSt):Nd15 × RSt:=((strOf (zaX st).1,strOf (zaX (zaX st).2).1,strOf (zaX (zaX (zaX st).2).2).1),(zaX (zaX (zaX st).2).2).2)
def zg1 (p:Bp τ α) (s:Sto τ Nd15) (n:Nd15) (x:List UInt8 × RSt):Bool × Sto τ Nd15 × RSt:=(decide ((zaC p s n (strOf x.1)).2=0),(zaC p s n (strOf x.1)).1,x.2)
def chgL (p:Bp τ α) (s:Sto τ Nd15) (l:List ByteArray):List (α × Bool):=(zgG (zah s).keys l).map fun c=>(p.of c.1,c.2)
def zg2 (p:Bp τ α) (s:Sto τ Nd15) (n:Nd15) (x:List (List UInt8) × RSt):Bool × Sto τ Nd15 × RSt:=(decide ((zaE p s n [] (chgL p s (x.1.map strOf))).2.1=0),(zaE p s n [] (chgL p s (x.1.map strOf))).1,x.2)
def zgl (p:Bp τ α) (s:Sto τ Nd15) (n:Nd15) (k:Nat × RSt):Bool × Sto τ Nd15 × RSt:=if k.1≠0 then zg1 p s n (zaX k.2) else zg2 p s n (zcA k.2 100000)
def zbk (p:Bp τ α) (s:Sto τ Nd15) (st:RSt):Bool × Sto τ Nd15 × RSt:=zgl p s (zdR st).1 (zbn (zdR st).2)
theorem zn3 {a b c:ByteArray} (h1:a.size<2 ^ 63) (h2:b.size<2 ^ 63) (h3:c.size<2 ^ 63) (r:List UInt8):zdR (text a ++ (text b ++ (text c ++ r)),0)=((a,b,c),(r,0)):=by
 unfold zdR;rw [zbJ a (by omega)];dsimp only;rw [zbJ b (by omega)];dsimp only;rw [zbJ c (by omega)];dsimp only;rw [zcD,zcD,zcD]
def zgZ (p:Bp τ α) (u v:Rv τ Nd15):Prop:=v.schema=false→∀k ∈ v.wrote,∃x,p.right u.T x=0∧p.key x=k
theorem zkj {p:Bp τ α} (hp:BpOk p) {z:Sto τ Nd15} {u v:Rv τ Nd15} (ht:(zah z).text=u.text) (hT:(zah z).T=u.T) (hk:(zah z).keys=u.keys) (hn:z.L.length≤63) (hb:Beh p u v) (hw:zgZ p u v) (hf:zbW p v.T v.keys=0) (hq:(v.keys.length:Int)≤z.quota) (hc:p.comp v.text=(0,v.text,v.T)) (ho:ROk c15 v) (rest:List UInt8) :
 zbk p z (zfS c15 v ++ rest,0)=(true,zaV z v,(rest,0)):=by
 obtain ⟨D,E,F⟩:v.by_.1.size<2 ^ 63∧v.by_.2.1.size<2 ^ 63∧v.by_.2.2.size<2 ^ 63:=⟨ho.by1,ho.by2,ho.by3⟩;have N:v.text.size<2 ^ 63:=ho.text;have G:zfS c15 v ++ rest=text v.by_.1 ++ (text v.by_.2.1 ++ (text v.by_.2.2 ++ ((if v.schema=true then num 1 ++ text v.text else num 0 ++ (num v.wrote.length ++ texts v.wrote)) ++ rest))):=by
  rw [znO];simp only [yaD]
 unfold zbk;rw [G,zn3 D E F];dsimp only;cases b:v.schema with
 | true =>
  have a4:=zbD 1 yac (text v.text ++ rest);have a5:=zbJ v.text yab rest;rw [yan rfl,yaD,a4];unfold zgl;rw [yan (show (1:Nat)≠0 by decide)];dsimp only;rw [a5];unfold zg1;dsimp only;rw [zcD];obtain ⟨n,o,_⟩:=hb.same b;have A:zaC p z (v.by_.1,v.by_.2.1,v.by_.2.2) v.text=(zaV z v,0):=by
   unfold zaC;rw [hc];dsimp only;rw [yan rfl,hk,←n,yan hf,yak (by omega)];congr 2
   rw [←o,←b]
  rw [A];rfl
 | false =>
  obtain ⟨n,o,O,P,c,f,B⟩:=hb.turn b;have a4:=zbD 0 yac ((num v.wrote.length ++ texts v.wrote) ++ rest);have a5:=zeK v.wrote (fun k hk=>ych (ho.wrote.each k hk) yac) yab rest 100000;rw [yak (by omega)] at a5;rw [yak yac,yaD,a4];unfold zgl;rw [yak (show ¬(0:Nat)≠0 by decide)];dsimp only;rw [a5];unfold zg2 chgL;dsimp only;have H:(v.wrote.map fun s=>s.data.toList).map strOf=v.wrote:=by
   rw [ybp];conv=>rhs;rw [←ycF v.wrote]
   exact ybC fun s _=>zcD s
  rw [H,hk,←f,zn6 B];have C:keyed p (c.map fun x=>(p.of x.1,x.2))=c:=by
   unfold keyed;rw [ybp];conv=>rhs;rw [←ycF c]
   refine ybC fun x g=>?_;obtain ⟨q,j,m⟩:=hw b x.1 (by rw [←f];exact ybi g);show (p.key (p.of x.1),x.2)=x;rw [←m,hp.back _ _ j,m]
  have I:c.length=v.wrote.length:=by rw [←f,yax]
  have A:zaE p z (v.by_.1,v.by_.2.1,v.by_.2.2) [] (c.map fun x=>(p.of x.1,x.2))=(zaV z v,0,0):=by
   have J:(zaW p (zah z).T ((([]:List (α × Bool)) ++ c.map fun (x:ByteArray × Bool)=>(p.of x.1,x.2)).map Prod.fst) 0).1=0:=zcT.2 fun x g=>by
    rw [ya6,ybp] at g;obtain ⟨y,K,rfl⟩:=yaH.1 g;obtain ⟨q,j,m⟩:=hw b y.1 (by rw [←f];exact ybi K);show p.right (zah z).T (p.of y.1)=0;rw [←m,hp.back _ _ j,hT,j]
   have M:zcm (zah z).keys (keyed p ([]:List (α × Bool))) (keyed p (c.map fun (x:ByteArray × Bool)=>(p.of x.1,x.2)))=(v.keys,0,0):=by
    rw [C,hk];unfold zcm;have:ziq u.keys (keyed p ([]:List (α × Bool)))=none:=rfl;rw [this];exact B
   unfold zaE;rw [M,yak (by rw [yax];omega),yak (by rw [yax];simp;omega),yak (by rw [J];decide),yak (show ¬(0:Nat)≠0 by decide),yak yah,C,ht,hT,←n,←o,f,←b]
  rw [A];rfl
theorem zdf (z:Sto τ Nd15) (v:Rv τ Nd15):zah (zaV z v)=v:=by
 unfold zah zaV;dsimp only;rw [List.getLast?_append];rfl
def zda (p:Bp τ α) (q fl:Int) (x:ByteArray) (l:List ByteArray):Option (Sto τ Nd15) :=
 if (p.comp x).1≠0∨(fl=0∧x≠⟨#[]⟩)∨q<(l.length:Int) then none
 else if 0<l.length∧fl≤(((l.length + 15) / 16:Nat):Int) then none
 else if zbW p (p.comp x).2.2 l=0∧l.Nodup then some ⟨fl,[⟨(p.comp x).2.1,(p.comp x).2.2,zpc l,default,false,[]⟩],q⟩ else none
def zin (p:Bp τ α):Nat→Sto τ Nd15→RSt→Bool × Sto τ Nd15 × RSt
 | 0,s,st=>(true,s,st)
 | n + 1,s,st=>if (zbk p s st).1=true then zin p n (zbk p s st).2.1 (zbk p s st).2.2 else zbk p s st
def unpE (p:Bp τ α) (q:Int) (fl n:Nat) (x:ByteArray) (l:List (List UInt8) × RSt):Bool × Sto τ Nd15 × RSt :=
 match zda p (zbQ q:Sto τ Nd15).quota fl x (l.1.map strOf) with
 | none=>(false,zbQ q,l.2)
 | some s=>zin p n s l.2
def unpC (p:Bp τ α) (q:Int) (fl rv:Nat) (st:RSt):Bool × Sto τ Nd15 × RSt :=
 if rv<fl∨64≤rv-fl∨9223372036854775807<rv then (false,zbQ q,st) else unpE p q fl (rv-fl) (strOf (zaX st).1) (zcA (zaX st).2 100000)
def zaJ (p:Bp τ α) (q:Int) (b:List UInt8):Bool × Sto τ Nd15 × RSt:=unpC p q (zbn (b,0)).1 (zbn (zbn (b,0)).2).1 (zbn (zbn (b,0)).2).2
theorem zkU {p:Bp τ α} (hp:BpOk p):∀(r:List (Rv τ Nd15)) (z:Sto τ Nd15) (u:Rv τ Nd15),(zah z).text=u.text→(zah z).T=u.T→(zah z).keys=u.keys→z.L.length + r.length≤64 →
 (∀(i:Nat) a b,(u::r)[i]? = some a→(u::r)[i + 1]? = some b→Beh p a b∧zgZ p a b)→(∀v ∈ r,zbW p v.T v.keys=0∧(v.keys.length:Int)≤z.quota∧p.comp v.text=(0,v.text,v.T)∧ROk c15 v) →
 zin p r.length z (r.flatMap (zfS c15),0)=(true,{ z with L:=z.L ++ r },([],0))
 | [],z,u,_,_,_,_,_,_=>by
  rw [yaK];rfl
 | v::r,z,u,k,m,n,o,g,j=>by
  obtain ⟨q,s⟩:=g 0 u v rfl rfl;obtain ⟨y,A,B,C⟩:=j v yar;rw [yat] at o;have f:=zkj hp k m n yab q s y A B C (r.flatMap (zfS c15));have D:=zkU hp r (zaV z v) v (by rw [zdf]) (by rw [zdf]) (by rw [zdf]) (by unfold zaV;dsimp only;rw [yam];simp;omega) (fun i a b f hb=>g (i + 1) a b f hb) fun x E=>j x (yau _ E);rw [yaS,yat];unfold zin;rw [f];dsimp only;rw [yan rfl,D];unfold zaV;dsimp only;rw [yaD];rfl
structure OkU (p:Bp τ α) (s:Sto τ Nd15):Prop where
 wrote:∀(i:Nat) u v,s.L[i]? = some u→s.L[i + 1]? = some v→zgZ p u v
 grow:∀(i:Nat) v,s.L[i]? = some v→v.keys≠[]→(v.keys.length:Int)≤16 * (s.floor + i-1)
 first:s.floor=0→∀v,s.L[0]? = some v→v.text=⟨#[]⟩∧v.T=default∧v.keys=[]
theorem zmP {p:Bp τ α} (hp:BpOk p) {s:Sto τ Nd15} (hs:OkB p s) (ht:OkT p s) (hu:OkU p s) (ho:∀v ∈ s.L,ROk c15 v) {q:Int} (hq:s.quota≤q) (hr:revB s≤9223372036854775807) (hk:∀v ∈ s.L,v.keys.length≤100000) :
 ∃v u r,s.L=u::r∧Alike u v∧zaJ p q (zbj c15 s)=(true,⟨s.floor,v::r,q⟩,([],0)):=by
 have I:=hs.floor;have F:=hs.quota;have m:=hs.few;cases f:s.L with
 | nil=>exact absurd f hs.has
 | cons u r =>
  have g:u ∈ s.L:=by rw [f];exact yar
  have n:=ho u g;have D:revB s=s.floor + r.length:=by unfold revB;rw [f,yat];omega
  have J:r.length≤63:=by rw [f,yat] at m;omega
  have o:=hs.rise u g;have x:zpc u.keys=u.keys:=zeJ (zeO _) o fun k=>zfI;have y:zda p (zbQ q:Sto τ Nd15).quota (s.floor.toNat:Int) u.text u.keys=some ⟨s.floor,[⟨u.text,u.T,u.keys,default,false,[]⟩],q⟩:=by
   have A:(zbQ q:Sto τ Nd15).quota=q:=by unfold zbQ;dsimp only;rw [yak (by omega)]
   have B:(s.floor.toNat:Int)=s.floor:=by omega
   have K:=hs.most u g;unfold zda;rw [A,B,ht u g];dsimp only;rw [yak,yak,yan ⟨hs.fits u g,o.nodup⟩,x]
   · rintro ⟨a,b⟩;have:=hu.grow 0 u (by rw [f];rfl) (fun e=>by rw [e] at a;cases a);omega
   · rintro (a | ⟨a,b⟩ | a)
     · exact a rfl
     · exact b (hu.first a u (by rw [f];rfl)).1
     · omega
  have j:=zkU hp r ⟨s.floor,[⟨u.text,u.T,u.keys,default,false,[]⟩],q⟩ u rfl rfl rfl yag (fun i a b E hb=>⟨hs.steps i a b (by rw [f];exact E) (by rw [f];exact hb),hu.wrote i a b (by rw [f];exact E) (by rw [f];exact hb)⟩) fun v G=>by
   have z:v ∈ s.L:=by rw [f];exact yau _ G
   exact ⟨hs.fits v z,by have:=hs.most v z;dsimp only;omega,ht v z,ho v z⟩
  refine ⟨⟨u.text,u.T,u.keys,default,false,[]⟩,u,r,rfl,⟨rfl,rfl,rfl⟩,?_⟩;have C:zbj c15 s=num s.floor.toNat ++ (num (revB s).toNat ++ (text u.text ++ ((num u.keys.length ++ texts u.keys) ++ r.flatMap (zfS c15)))):=by
   unfold zbj;rw [f];rfl
  have M:u.text.size<2 ^ 63:=n.text;unfold zaJ;rw [C,zbD _ (by omega)];dsimp only;rw [zbD _ (by omega)];unfold unpC;dsimp only;rw [yak yab,zbJ _ (by omega)];dsimp only;rw [zcD,zeK u.keys (fun k h=>ych (n.keys.each k h) yac) (by have:=hk u g;omega),yak (by have:=hk u g;omega)];unfold unpE;dsimp only;have H:(u.keys.map fun s=>s.data.toList).map strOf=u.keys:=by
   rw [ybp];conv=>rhs;rw [←ycF u.keys]
   exact ybC fun s _=>zcD s
  rw [H,y];dsimp only;rw [show (revB s).toNat-s.floor.toNat=r.length by omega,j];rfl
theorem OkU.new (p:Bp τ α) (q:Int):OkU p (zbQ q:Sto τ Nd15):=by
 have b:∀(i:Nat) v,(zbQ q:Sto τ Nd15).L[i]? = some v→i=0∧v=zjP:=fun i v h=>by
  unfold zbQ at h;cases i with
  | zero=>exact ⟨rfl,(yaZ h).symm⟩
  | succ i=>cases h
 refine ⟨fun i u v _ f=>?_,fun i v h hk=>?_,fun _ v h=>?_⟩
 · exact absurd (b _ _ f).1 (Nat.succ_ne_zero i)
 · rw [(b i v h).2] at hk;exact absurd rfl hk
 · rw [(b 0 v h).2];exact ⟨rfl,rfl,rfl⟩
theorem OkU.next {p:Bp τ α} {s:Sto τ Nd15} (h:OkU p s) (hs:s.L≠[]) {v:Rv τ Nd15} (hw:zgZ p (zah s) v) (hg:v.keys≠[]→(v.keys.length:Int)≤16 * revB s):OkU p (zaV s v):=by
 have u:=ybD.2 hs;have j:∀(i:Nat) x,(zaV s v).L[i]? = some x→s.L[i]? = some x∨(i=s.L.length∧x=v):=fun i x f=>by
  have f:(s.L ++ [v])[i]? = some x:=f;rw [List.getElem?_append] at f;split at f
  · exact .inl f
  · rename_i o
    have g:=(yap.1 f).1;simp at g;have:i-s.L.length=0:=by omega
    rw [this] at f;exact .inr ⟨by omega,(yaZ f).symm⟩
 refine ⟨fun i a b m hb=>?_,fun i x f hk=>?_,fun q x f=>?_⟩
 · rcases j _ _ hb with g | ⟨g,rfl⟩
   · rcases j _ _ m with k | ⟨k,rfl⟩
     · exact h.wrote i a b k g
     · have:=(yap.1 g).1;omega
   · rcases j _ _ m with k | ⟨k,_⟩
     · have e:zah s=a:=by
        have n:=zfx hs;rw [show s.L.length-1=i by omega,k] at n;exact (yaZ n).symm
       rw [←e];exact hw
     · omega
 · rcases j _ _ f with g | ⟨g,rfl⟩
   · exact h.grow i x g hk
   · have:=hg hk;show _≤16 * (s.floor + (i:Int)-1);unfold revB at this;rw [g];exact this
 · rcases j _ _ f with g | ⟨g,_⟩
   · exact h.first q x g
   · omega
theorem OkU.last {p:Bp τ α} {s:Sto τ Nd15} (h:OkU p s) (hs:s.L≠[]) (hk:(zah s).keys≠[]):((zah s).keys.length:Int)≤16 * (revB s-1):=by
 have b:=ybD.2 hs;have:=h.grow _ _ (zfx hs) hk;unfold revB;omega
theorem OkU.define {p:Bp τ α} {s:Sto τ Nd15} (h:OkU p s) (hs:s.L≠[]) (n:Nd15) (x:ByteArray):OkU p (zaC p s n x).1:=by
 unfold zaC;split
 · split
   · split
     · exact h
     · exact h.next hs (fun q=>by cases q) fun hk=>by have:=h.last hs hk;dsimp only at this ⊢;omega
   · exact h
 · exact h
theorem OkU.write {p:Bp τ α} (hno:∀x,p.right default x≠0) {s:Sto τ Nd15} (h:OkU p s) (hs:OkB p s) (n:Nd15) (q c:List (α × Bool)):OkU p (zaE p s n q c).1:=by
 by_cases e:(zaE p s n q c).2.1=0
 · obtain ⟨B,_,F,u,_,_,k,C,_,_,f⟩:=zen hs e;rw [f];have G:=ybD.2 hs.has;refine h.next hs.has (fun _ a z=>?_) fun hk=>?_
   · rw [zhw] at z;obtain ⟨x,D,rfl⟩:=yaH.1 z;exact ⟨x.1,u x (yb7 _ D),rfl⟩
   · have g:=ziH C;unfold keyed at g;rw [yax] at g;dsimp only;by_cases A:(zah s).keys=[]
     · rw [A,yaE] at g;have H:0<revB s:=by
        refine Int.not_le.1 fun j=>?_;have I:=hs.floor;unfold revB at j;have m:s.floor=0:=by omega
        have o:s.L.length=1:=by omega
        have b:=zfx hs.has;rw [o] at b;obtain ⟨_,E,_⟩:=h.first m _ b;cases c with
        | nil=>cases B
        | cons y c =>
         have:=u y (yb7 _ yar);rw [E] at this;exact hno _ this
       omega
     · have:=h.last hs.has A;omega
 · have:(zaE p s n q c).1=s:=zfQ e;rw [this];exact h
end
end
section
abbrev KT:=Nat × ByteArray
end
section
open Go.RowKit
theorem CompIs.short {s tx:ByteArray} {e:Nat} {ty:List ByteArray} {ps:List Path} {R:List RelT} (h:CompIs s e tx ty ps R):tx.size≤2048:=by
 rcases h.yes with ⟨_,rfl,_⟩ | ⟨_,v,k⟩
 · exact yao _
 · rw [k.text];exact k.size
structure CompG (f:CoF):Prop where
 is:zpv f
 all:∀x,(∃(e:Nat) (tx:ByteArray) (ty:List ByteArray) (ps:List Path) (R:List RelT),CompIs x e tx ty ps R)∨f x=(0,⟨#[]⟩,([],[],[]))
theorem zjp:∃f,CompG f:=by
 have h:∀x:ByteArray,∃a:Int × ByteArray × Tb,(∀(e:Nat) (tx:ByteArray) (ty:List ByteArray) (ps:List Path) (R:List RelT),CompIs x e tx ty ps R→a=((e:Int),tx,(ty,ps,R)))∧((∃(e:Nat) (tx:ByteArray) (ty:List ByteArray) (ps:List Path) (R:List RelT),CompIs x e tx ty ps R)∨a=(0,⟨#[]⟩,([],[],[]))):=fun x=>by
  by_cases q:∃(e:Nat) (tx:ByteArray) (ty:List ByteArray) (ps:List Path) (R:List RelT),CompIs x e tx ty ps R
  · obtain ⟨e,tx,ty,ps,R,q⟩:=q;refine ⟨((e:Int),tx,(ty,ps,R)),fun m b g j n k=>?_,.inl ⟨_,_,_,_,_,q⟩⟩;obtain ⟨rfl,rfl,rfl,rfl,rfl⟩:=q.one k;rfl
  · exact ⟨(0,⟨#[]⟩,([],[],[])),fun _ _ _ _ _ k=>absurd ⟨_,_,_,_,_,k⟩ q,.inr rfl⟩
 exact ⟨fun x=>(h x).choose,fun {x e tx ty ps R} k=>(h x).choose_spec.1 e tx ty ps R k,fun x=>(h x).choose_spec.2⟩
theorem CompG.short {f:CoF} (h:CompG f) (x:ByteArray):(f x).2.1.size≤2048:=by
 rcases h.all x with ⟨e,tx,ty,ps,R,k⟩ | k
 · rw [h.is k];exact k.short
 · rw [k];exact yao _
theorem p15_none {f:CoF} (x:TuP):(p15 f).right default x≠0:=by
 rw [zbz];have e:(default:Tb)=([],[],[]):=rfl;rw [e];unfold zaR zeg;have:(zat ([]:List Path) (x.1.1,x.1.2.2)).isSome=false:=rfl;rw [this];simp
end
section
open Go.ChangeShapes Go.WideShapes Go.ChangeAt Go.RowKit
variable {R:Nat}
section
variable {H:Type} {enc:TypeId × Value→H} {P:Program} {W:World} {base:Nat} {spare:Nat→Bool} {held:Bool} {y:DataW H × List MemPlace}
theorem zfL {e:TypeId} {fs:Array Field} {ys:List (DataW H × List MemPlace)} (he:P.underlying e=some (.struct fs)) (hS:Sz P R e (.agg (ys.map Prod.fst))) {i:Nat} {f:Field} (hi:fs[i]? = some f) (hy:ys[i]? = some y):Sz P R f.type y.1:=fun k hk=>hS k (by
 rw [DataW.weights,he];refine DataW.weights_mem_each (j:=i) (t:=f.type) (d:=y.1) ?_ ?_ k hk
 · rw [yaY,ycJ,hi];rfl
 · rw [yaY,hy];rfl)
theorem rd_nodeW {fuel:Nat} {cs:List Value} (h:DataW.trod enc Tryz.prog W base spare held fuel 31 cs=some y) (hS:Sz Tryz.prog R 31 y.1) :
 ∃n:Nd15,cs=[.string n.1,.string n.2.1,.string n.2.2]∧n.1.size≤R∧n.2.1.size≤R∧n.2.2.size≤R:=by
 obtain ⟨D,g,_,rfl,u,j,k⟩:=DataW.trod_struct Tryz.underlying31 h;rw [show Tryz.prog.cellsOf 31=3 by kernel_rfl] at u;have E:Tryz.prog.cellsOf 9=1:=by kernel_rfl
 have m:=fun (i:Nat) f y hi F=>zfL (i:=i) (f:=f) (y:=y) Tryz.underlying31 hS hi F;match cs,u,D,j with
 | [o,q,s],_,[y0,y1,y2],_ =>
  have g0:DataW.trod enc Tryz.prog W base spare held g 9 (([o,q,s].drop 0).take (Tryz.prog.cellsOf 9))=some y0:=k 0 _ rfl;have x:DataW.trod enc Tryz.prog W base spare held g 9 (([o,q,s].drop 1).take (Tryz.prog.cellsOf 9))=some y1:=k 1 _ rfl;have z:DataW.trod enc Tryz.prog W base spare held g 9 (([o,q,s].drop 2).take (Tryz.prog.cellsOf 9))=some y2:=k 2 _ rfl;rw [E] at g0 x z;obtain ⟨a,A,G⟩:=zeD Tryz.underlying9 (y:=y0) (by simpa using g0) (m 0 _ _ rfl rfl);obtain ⟨b,B,H⟩:=zeD Tryz.underlying9 (y:=y1) (by simpa using x) (m 1 _ _ rfl rfl);obtain ⟨c,C,I⟩:=zeD Tryz.underlying9 (y:=y2) (by simpa using z) (m 2 _ _ rfl rfl);simp at A B C;subst A B C;exact ⟨(a,b,c),rfl,G,H,I⟩
theorem rd_tupleW {fuel:Nat} {cs:List Value} (h:DataW.trod enc Tryz.prog W base spare held fuel 51 cs=some y) (hS:Sz Tryz.prog R 51 y.1) :
 ∃u:TuP,cs=zeT u∧∀x ∈ zav u,x.size≤R:=by
 obtain ⟨G,j,_,rfl,k,g,m⟩:=DataW.trod_struct Tryz.underlying51 h;rw [show Tryz.prog.cellsOf 51=6 by kernel_rfl] at k;have H:Tryz.prog.cellsOf 31=3:=by kernel_rfl
 have n:=fun (i:Nat) f y hi I=>zfL (i:=i) (f:=f) (y:=y) Tryz.underlying51 hS hi I;match cs,k,G,g with
 | [o,q,s,z,A,B],_,[y0,y1],_ =>
  have g0:DataW.trod enc Tryz.prog W base spare held j 31 (([o,q,s,z,A,B].drop 0).take (Tryz.prog.cellsOf 31))=some y0:=m 0 _ rfl;have C:DataW.trod enc Tryz.prog W base spare held j 31 (([o,q,s,z,A,B].drop 3).take (Tryz.prog.cellsOf 31))=some y1:=m 1 _ rfl;rw [H] at g0 C;obtain ⟨a,D,J,K,a3⟩:=rd_nodeW (y:=y0) (by simpa using g0) (n 0 _ _ rfl rfl);obtain ⟨b,E,L,M,N⟩:=rd_nodeW (y:=y1) (by simpa using C) (n 1 _ _ rfl rfl);simp at D E;obtain ⟨rfl,rfl,rfl⟩:=D;obtain ⟨rfl,rfl,rfl⟩:=E;exact ⟨(a,b),rfl,fun x F=>by
   simp only [zav,yaw,ya1,ybA] at F;rcases F with rfl | rfl | rfl | rfl | rfl | rfl <;> assumption⟩
theorem rd_tuple15 {v:Value} {d:DataW H} {p:List MemPlace} {r:Go.Reach} {b0:Nat} (hv:Value.okWide Tryz.prog W r b0 51 v) (h:DataW.Trod enc Tryz.prog W base spare held 51 v d p) (hS:Sz Tryz.prog R 51 d) :
 ∃u:TuP,v=zgF u∧∀x ∈ zav u,x.size≤R:=by
 obtain ⟨cs,rfl,_⟩:=okWide_struct Tryz.underlying51 hv;obtain ⟨fuel,b⟩:=h;obtain ⟨u,f,g⟩:=rd_tupleW (y:=(d,p)) (by simpa [Value.cells] using b) hS;exact ⟨u,by rw [←Array.toArray_toList (xs:=cs),f];rfl,g⟩
end
end
end Go.Proofs.YtmblgnddgmfkhaaGreat
