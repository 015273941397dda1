import Derived.Test.YtmblgnddgmfkhaaGreatQ33
set_option maxRecDepth 100000
set_option maxHeartbeats 4000000
namespace Go.Proofs.YtmblgnddgmfkhaaGreat
section
open Go.RowKit
variable {st:RSt} {w w':World} {g:Nat}
def steps:Nat→RSt→List (List UInt8) × RSt
 | 0,st=>([],st)
 | k + 1,st=>((steps k st).1 ++ [(zaV (steps k st).2).1],(zaV (steps k st).2).2)
def zcQ (st:RSt) (most:Nat):List (List UInt8) × RSt :=
 if (zbx st).2.2≠0 then ([],(zbx st).2) else if most<(zbx st).1 then ([],((zbx st).2.1,13))
 else if (steps (zbx st).1 (zbx st).2).2.2≠0 then ([],(steps (zbx st).1 (zbx st).2).2) else steps (zbx st).1 (zbx st).2
theorem zqU (h:st.2≠0):zaV st=([],st):=by simp [zaV,zbx,h]
theorem zq5 {j k:Nat} (hjk:j≤k) (h:(steps j st).2.2≠0):(steps k st).2=(steps j st).2:=by
 induction k with
 | zero=>rw [show j=0 from by omega]
 | succ k ih =>
  by_cases e:j=k + 1
  · rw [e]
  · have:=ih yab;show (zaV (steps k st).2).2=_;rw [this,zqU h]
theorem zq6 (k:Nat) (st:RSt):(steps k st).1.length=k:=by
 induction k with
 | zero=>rfl
 | succ k ih=>simp [steps,ih]
def tv (l:List (List UInt8)):List Value:=l.map fun s=>Value.string (strOf s)
theorem tv_snoc (l:List (List UInt8)) (s:List UInt8):tv (l ++ [s])=tv l ++ [.string (strOf s)]:=by simp [tv]
theorem IsR.grown {r:Option Nat} (h:IsR w g st) (hg:w.grownBy w' r) (hr:∀k,r=some k→g<k):IsR w' g st:=by
 have b:=h.lt;have hb:∀k,k≤g→w'.heap[k]? = w.heap[k]?:=fun k hk=>hg.block k yab (fun e=>by have:=hr k e.symm;omega);obtain ⟨A,n,c,d,f⟩:=h;exact ⟨A,n,c,by rw [hb g (yaj _)];exact d,f.keep fun p j=>World.cell?_of_block (w:=w) (hb p.block yab)⟩
theorem own_far {base:Nat} {e:TypeId} {size n:Nat} {v:Value} {xs:List Value} (h:w.ownsRow base e size v n xs) (hg:w.grownBy w' (some g)) (hlt:g<base):w'.ownsRow base e size v n xs:=by
 refine h.kept hg ?_;cases b:v.ownBlock with
 | none=>exact .inl rfl
 | some k=>exact .inr fun e=>by have:=(h.lt k b).1;simp at e;omega
theorem zpl {w0:World} {base:Nat} {e:TypeId} {size n:Nat} {v:Value} {xs:List Value} (h0:w0.grownBy w (some g)) (h:w.ownsRow base e size v n xs) (hg:w.grownBy w' v.ownBlock) (hb:w0.heap.size≤base):w0.grownBy w' (some g) :=
 ⟨hg.os.trans h0.os,hg.tape.trans h0.tape,hg.output.trans h0.output,yax h0.size hg.size,fun i hi b=>(hg.block i (yaw hi h0.size) (fun e=>by have:=(h.lt i e.symm).1;omega)).trans (h0.block i hi b)⟩
theorem zpy:(Tryz.prog.info? 9).map (fun i=>(i.zero,i.size,i.bytes))=some (some (.string .empty),1,16):=by kernel_rfl
theorem list_any (g:Nat) (st:RSt) (most:Int) (hm0 : -1000000000≤most) (hm1:most≤1000000000) (w:World) (h:IsR w g st) :
 Calls Tryz.prog 95 #[.pointer (some ⟨g,0,none⟩),.int .i64 most] w fun e w'=>∃v,e = .returned v ∧
  w'.ownsRow w.heap.size 9 1 v (zcQ st most.toNat).1.length (tv (zcQ st most.toNat).1)∧IsR w' g (zcQ st most.toNat).2∧w.grownBy w' (some g):=by
 obtain ⟨i0,hi,T,U,V⟩:=info_parts zpy;have J:=h.lt;obtain ⟨q,⟨l,x⟩,B⟩:∃q X,zbx st=(q,X):=⟨_,_,rfl⟩;have Q:=Lib.hid B;by_cases Y:x=0
 · subst Y;by_cases hq:most.toNat<q
   · have E:Hid (zcQ st most.toNat=([],(l,13))):=Lib.hid (by simp [zcQ,B,hq]);clear B;by_cases K:most<0;all_goals
      go_enter Tryz.func95,Tryz.ntmps95
      go_wp2_with fail
      refine (num_any g _ _ h).mono ?_;rintro e Z ⟨rfl,b,d⟩;rw [Q.out] at b ⊢;have H:=Lib.hid b;have G:=Lib.hid d;obtain ⟨A,n,c,h0,h1,hf,hr⟩:=b.cells;clear b d hr;go_wp2_with fail
      refine (err_any g _ _ H.out).mono ?_;rintro e w' ⟨rfl,rfl⟩;go_wp2
      go_ret
      rw [E.out];exact ⟨_,rfl,World.ownsRow_nil _ _ _ _,H.out.set1 13,zcz G.out _ _⟩
   · have E:Hid (zcQ st most.toNat=if (steps q (l,0)).2.2≠0 then ([],(steps q (l,0)).2) else steps q (l,0)):=Lib.hid (by simp [zcQ,B,hq]);have a7:q≤1000000000:=by omega
     clear B;by_cases K:most<0
     · obtain rfl:q=0:=by omega
       go_enter Tryz.func95,Tryz.ntmps95
       go_wp2_with fail
       refine (num_any g _ _ h).mono ?_;rintro e Z ⟨rfl,b,d⟩;rw [Q.out] at b ⊢;have H:=Lib.hid b;have G:=Lib.hid d;clear b d;go_wp2_with fail
       refine (err_any g _ _ H.out).mono ?_;rintro e w' ⟨rfl,rfl⟩;go_wp2_with fail
       refine wp_loop_rounds 1 ?_;rw [rounds_succ];go_wp2
       go_ret
       rw [E.out];exact ⟨_,rfl,World.ownsRow_nil _ _ _ _,H.out,G.out⟩
     · go_enter Tryz.func95,Tryz.ntmps95
       go_wp2_with fail
       refine (num_any g _ _ h).mono ?_;rintro e Z ⟨rfl,b,d⟩;rw [Q.out] at b ⊢;have H:=Lib.hid b;have G:=Lib.hid d;clear b d;go_wp2_with fail
       refine (err_any g _ _ H.out).mono ?_;rintro e w' ⟨rfl,rfl⟩;go_wp2_with fail
       go_loopw [6,22] (fun v i wr=>∃k:Nat,k≤q∧i = .int .u64 k∧wr.ownsRow w.heap.size 9 1 v k (tv (steps k (l,0)).1)∧IsR wr g (steps k (l,0)).2∧(steps k (l,0)).2.2=0∧w.grownBy wr (some g)) (fun _ i _=>q-(intOf i).toNat)
       case atStart=>exact ⟨0,yap _,rfl,World.ownsRow_nil _ _ _ _,H.out,rfl,G.out⟩
       case round =>
        obtain ⟨k,hk,rfl,s,L,M,C⟩:=hrel;have Ho:=Lib.hid s;have Hr:=Lib.hid L;have Hg:=Lib.hid C;have Hk:=Lib.hid M;have a8:=C.size;clear s L C M;by_cases aa:k<q
        · obtain ⟨a,⟨s',y⟩,R⟩:∃a r,zaV (steps k (l,0)).2=(a,r):=⟨_,_,rfl⟩;have N:(steps (k + 1) (l,0)).1=(steps k (l,0)).1 ++ [a]:=by simp [steps,R]
          have O:(steps (k + 1) (l,0)).2=(s',y):=by simp [steps,R]
          have HT:=Lib.hid R;have a1:=Lib.hid N;have p:=Lib.hid O;clear R N O;by_cases hy:y=0
          · subst hy;go_wp2_with fail
            refine (text_any g _ _ Hr.out).mono ?_;rintro e w2 ⟨rfl,f,m⟩;rw [HT.out] at f ⊢;have o:=Lib.hid f;have D:=Lib.hid (Hg.out.trans m);have F:=Lib.hid (own_far Ho.out m J);have a2:=m.size;clear f m;go_wp2_with fail
            refine (err_any g _ _ o.out).mono ?_;rintro e w' ⟨rfl,rfl⟩;go_wp2_with (at_builtin;go_must (refine zab _ rfl (.tmp 29) (.tmp 31) 46 46 rfl w.heap.size 9 i0 (.string .empty) 1 16 Tryz.underlying46 hi T U V rfl yac _ k _ rfl (F.out.alloc _) _ 1 [_] rfl (Src.ofSlice _ Tryz.underlying46 _ 1 1 _ rfl (cell_one_new _ _ _) (fun u hu=>by simp at hu;subst hu;rfl)) yad yab yag ?_);intro v3 w3 I P a6)
            refine ⟨⟨k + 1,by omega,by go_num,?_,?_,?_,?_⟩,by simp [intOf];omega⟩
            · rw [a1.out,tv_snoc];exact I
            · rw [p.out];refine IsR.grown (o.out.below ((Below.refl _ _).alloc (yaj _) _) o.out.lt) P fun j hj=>?_;have:=(F.out.lt j hj).1;omega
            · rw [p.out]
            · exact zpl (zlt D.out _) (F.out.alloc _) P (yaj _)
          · have ab:((y:Int) != 0)=true:=by simp [hy]
            go_wp2_with fail
            refine (text_any g _ _ Hr.out).mono ?_;rintro e w2 ⟨rfl,f,m⟩;rw [HT.out] at f ⊢;have o:=Lib.hid f;have D:=Lib.hid (Hg.out.trans m);clear f m;go_wp2_with fail
            refine (err_any g _ _ o.out).mono ?_;rintro e w' ⟨rfl,rfl⟩;go_wp2
            go_ret
            have hn:(steps (k + 1) (l,0)).2.2≠0:=by rw [p.out];exact hy
            have z:=zq5 (show k + 1≤q by omega) hn;rw [E.out,yan (by rw [z];exact hn),z,p.out];exact ⟨_,rfl,World.ownsRow_nil _ _ _ _,o.out,D.out⟩
        · have e3:k=q:=by omega
          subst e3;go_wp2
          go_ret
          rw [E.out,yak (by rw [Hk.out];simp),zq6];exact ⟨_,rfl,Ho.out,Hr.out,Hg.out⟩
 · have ac:((x:Int) != 0)=true:=by simp [Y]
   have E:Hid (zcQ st most.toNat=([],(l,x))):=Lib.hid (by simp [zcQ,B,Y]);clear B;go_enter Tryz.func95,Tryz.ntmps95
   go_wp2_with fail
   refine (num_any g _ _ h).mono ?_;rintro e Z ⟨rfl,b,d⟩;rw [Q.out] at b ⊢;have G:=Lib.hid d;clear d;go_wp2_with fail
   refine (err_any g _ _ b).mono ?_;rintro e w' ⟨rfl,rfl⟩;go_wp2
   go_ret
   rw [E.out];exact ⟨_,rfl,World.ownsRow_nil _ _ _ _,b,G.out⟩
theorem val_be (x:Nat):val (be x)=x:=by
 induction x using Nat.strongRecOn with
 | _ x ih =>
  by_cases h:x=0
  · subst h;rw [zgz];rfl
  · rw [zjN yab,zjz,ih _ yab,UInt8.toNat_ofNat'];omega
theorem be_head {x:Nat} (h:0<x):(be x).head?≠some 0:=by
 induction x using Nat.strongRecOn with
 | _ x ih =>
  rw [zjN h];by_cases b:x / 256=0
  · rw [b,zgz];simp;intro e;have:=congrArg UInt8.toNat e;simp at this;omega
  · have:=ih (x / 256) yab yab;rw [List.head?_append];cases hb:(be (x / 256)).head? with
    | none =>
     rw [List.head?_eq_none_iff] at hb;have:=zbV (x / 256);rw [hb,zis (by omega)] at this;simp at this
    | some y=>rw [hb] at this;simpa using this
theorem take_num (x:Nat) (hx:x<2 ^ 64) (rest:List UInt8):zcm (num x ++ rest)=(x,nb x + 1,0):=by
 have k:=zir hx;have hb:(UInt8.ofNat (nb x)).toNat=nb x:=by rw [UInt8.toNat_ofNat'];omega
 have d:=zbV x;rw [num,ybs,zcm,hb,yak yab,yak (by rw [yam,d];omega),yak]
 · rw [←d,ycM,val_be]
 · rintro ⟨j,f⟩;have b:0<x:=by rcases ybh x with b | b;(subst b;rw [zew] at j;omega);exact b
   have g:=be_head b;rw [List.head?_append] at f;cases hb:(be x).head? with
   | none=>rw [List.head?_eq_none_iff] at hb;rw [hb] at d;simp at d;omega
   | some y=>rw [hb] at f g;simp at f;rw [f] at g;exact g rfl
theorem be_val (t:List UInt8) (h:t.head?≠some 0):be (val t)=t:=by
 have key:∀(n:Nat) (t:List UInt8),t.length=n→t.head?≠some 0→be (val t)=t:=by
  intro n;induction n with
  | zero =>
   intro t d _;have:t=[]:=yaY d;subst this;rw [val_nil,zgz]
  | succ n ih =>
   intro t d g;obtain ⟨s,c,rfl⟩:∃s c,t=s ++ [c]:=⟨t.dropLast,t.getLast (by intro e;subst e;simp at d),(List.dropLast_concat_getLast _).symm⟩;have k:s.length=n:=by simpa using d
   have o:=c.toNat_lt;have m:s.head?≠some 0:=by
    intro e;apply g;rw [List.head?_append,e];rfl
   rw [zjz];have f:=ih s k m;have b:0<val s * 256 + c.toNat:=by
    rcases ybh (val s) with j | j
    · rw [j,zgz] at f;subst f;have:c≠0:=by intro e;apply g;subst e;rfl
      have:c.toNat≠0:=fun e=>this (UInt8.toNat_inj.1 e);omega
    · omega
   rw [zjN b,show (val s * 256 + c.toNat) / 256=val s by omega,show (val s * 256 + c.toNat) % 256=c.toNat by omega,f];simp
 exact key t.length t rfl h
theorem take_inv {l:List UInt8} {x k:Nat} (h:zcm l=(x,k,0)):∃rest,l=num x ++ rest∧k=nb x + 1∧x<2 ^ 64:=by
 have j:=(zrc h).2.1;cases l with
 | nil=>simp [zcm] at h
 | cons b r =>
  simp only [zcm] at h;split at h
  · simp at h
  · rename_i o
    split at h
    · simp at h
    · rename_i f
      split at h
      · simp at h
      · rename_i m
        simp only [Prod.mk.injEq] at h;obtain ⟨rfl,rfl,_⟩:=h;have n:(r.take b.toNat).head?≠some 0:=by
         intro e;apply m;rw [List.head?_take] at e;split at e
         · cases e
         · exact ⟨by omega,e⟩
        have g:=be_val _ n;have d:nb (val (r.take b.toNat))=b.toNat:=by rw [←zbV,g,yaK];omega
        refine ⟨r.drop b.toNat,?_,by rw [d],j⟩;rw [num,d,g,ybs,ybg];simp
theorem zbw (x:Nat) (hx:x<2 ^ 64) (rest:List UInt8):zbx (num x ++ rest,0)=(x,(rest,0)):=by
 have h:=take_num x hx rest;have b:=zcs x;simp only [zbx,ne_eq,not_true_eq_false,if_false,h];rw [←b,List.drop_left]
theorem zbD (s:ByteArray) (hs:s.size<2 ^ 64) (rest:List UInt8):zaV (text s ++ rest,0)=(s.data.toList,(rest,0)):=by
 have h:=zbw s.size hs (s.data.toList ++ rest);rw [←yaB] at h;have b:=size_eq s;simp only [zaV,text,h,ne_eq,not_true_eq_false,if_false];rw [yak (by rw [yam,b];omega),←b,ycM,List.drop_left]
theorem zoy (s:ByteArray) (r:List ByteArray):texts (s::r)=text s ++ texts r:=by simp [texts]
theorem zl2 (ss:List ByteArray) (hs:∀s ∈ ss,s.size<2 ^ 64) (rest:List UInt8) (k:Nat) (hk:k≤ss.length) :
 steps k (texts ss ++ rest,0)=((ss.take k).map (fun s=>s.data.toList),(texts (ss.drop k) ++ rest,0)):=by
 induction k with
 | zero=>simp [steps]
 | succ k ih =>
  have h:=ih yab;have d:ss.drop k=ss[k]'(by omega)::ss.drop (k + 1):=ya3 yab;have b:=zbD (ss[k]'(by omega)) (hs _ (List.getElem_mem _)) (texts (ss.drop (k + 1)) ++ rest);rw [←yaB,←zoy,←d] at b;simp only [steps,h,b];rw [ybB yab,yaL];rfl
theorem zeb (ss:List ByteArray) (hs:∀s ∈ ss,s.size<2 ^ 64) (hn:ss.length<2 ^ 64) (rest:List UInt8) (most:Nat) :
 zcQ (num ss.length ++ texts ss ++ rest,0) most=if most<ss.length then ([],(texts ss ++ rest,13)) else (ss.map (fun s=>s.data.toList),(rest,0)):=by
 have h:=zbw ss.length hn (texts ss ++ rest);rw [←yaB] at h;have b:=zl2 ss hs rest ss.length (yaj _);rw [yaA,ybV,show texts []=[] from rfl,yba] at b;simp only [zcQ,h,b,ne_eq,not_true_eq_false,if_false]
end
section
open Go.RowKit
def zgb:List ByteArray→List ByteArray→List (ByteArray × Bool)
 | _,[]=>[]
 | t,k::l=>(k,!hasK t k)::zgb (zjF t (k,!hasK t k)) l
theorem zhA:∀(l t:List ByteArray),(zgb t l).map Prod.fst=l
 | [],_=>rfl
 | k::l,t=>by
  unfold zgb;rw [yaW,zhA l]
theorem znj:∀{c:List (ByteArray × Bool)} {t r:List ByteArray} {i:Nat},zcy t c i=(r,0,0)→zgb t (c.map Prod.fst)=c
 | [],_,_,_,_=>rfl
 | c::d,t,r,i,h=>by
  by_cases e:hasK t c.1 = !c.2
  · rw [zb8 e] at h;rw [yaW];unfold zgb;have b:(c.1,!hasK t c.1)=c:=by rw [e,Bool.not_not]
    rw [b,znj h]
  · rw [zbR (by cases f:hasK t c.1 <;> cases g:c.2 <;> simp_all)] at h;injection h with _ h
    injection h with h _
    split at h <;> cases h
def oddL (l:List ByteArray) (k:ByteArray):Bool:=decide ((l.filter fun x=>decide (x=k)).length % 2=1)
theorem odd_flip {n m:Nat} (h:n=m + 1):decide (n % 2=1) = !decide (m % 2=1):=by
 by_cases q:m % 2=1
 · rw [yaD q,yaH (by omega)];rfl
 · rw [yaH q,yaD (by omega)];rfl
theorem zqq (l:List ByteArray) (a k:ByteArray):oddL (a::l) k=if k=a then !oddL l k else oddL l k:=by
 unfold oddL;rw [ycp];by_cases q:k=a
 · rw [yan q,yan (by simp [q]),yaq];exact odd_flip rfl
 · rw [yak q,yak (by simpa using fun e=>q e.symm)]
theorem zni:∀{l t:List ByteArray} {i:Nat} {k:ByteArray},l[i]? = some k→(zgb t l)[i]? = some (k,!(hasK t k != oddL (l.take i) k))
 | a::l,t,0,k,h=>by
  have h:a=k:=yaX h;subst h;unfold zgb oddL;simp
 | a::l,t,i + 1,k,h=>by
  have h:l[i]? = some k:=h;unfold zgb;rw [ybe,zni h,ycI,zqq,zcK (c:=(a,!hasK t a)) yaf k];dsimp only;by_cases q:k=a
  · subst q;rw [yan rfl,yan rfl];cases hasK t k <;> cases oddL (l.take i) k <;> rfl
  · rw [yak q,yak q]
theorem zh2:∀{c:List (ByteArray × Bool)} {t r:List ByteArray} {i:Nat},zcy t c i=(r,0,0)→r.length≤t.length + c.length
 | [],t,r,i,h=>by unfold zcy at h;cases h;simp
 | c::d,t,r,i,h=>by
  by_cases e:hasK t c.1 = !c.2
  · rw [zb8 e] at h;have:=zh2 h;have:=oneS_len t c;rw [yaq];omega
  · rw [zbR (by cases b:hasK t c.1 <;> cases f:c.2 <;> simp_all)] at h;injection h with _ h
    injection h with h _
    split at h <;> cases h
section
variable {τ α:Type} [Inhabited τ]
def zei (st:RSt):Nd15 × RSt:=((strOf (zaV st).1,strOf (zaV (zaV st).2).1,strOf (zaV (zaV (zaV st).2).2).1),(zaV (zaV (zaV st).2).2).2)
def zjI (p:Bp τ α) (s:Sto τ Nd15) (n:Nd15) (x:List UInt8 × RSt):Bool × Sto τ Nd15 × RSt:=(decide ((zaC p s n (strOf x.1)).2=0),(zaC p s n (strOf x.1)).1,x.2)
def chgL (p:Bp τ α) (s:Sto τ Nd15) (l:List ByteArray):List (α × Bool):=(zgb (zai s).keys l).map fun c=>(p.of c.1,c.2)
def zjJ (p:Bp τ α) (s:Sto τ Nd15) (n:Nd15) (x:List (List UInt8) × RSt):Bool × Sto τ Nd15 × RSt:=(decide ((zaA p s n [] (chgL p s (x.1.map strOf))).2.1=0),(zaA p s n [] (chgL p s (x.1.map strOf))).1,x.2)
def zgw (p:Bp τ α) (s:Sto τ Nd15) (n:Nd15) (k:Nat × RSt):Bool × Sto τ Nd15 × RSt:=if k.1≠0 then zjI p s n (zaV k.2) else zjJ p s n (zcQ k.2 100000)
def zbp (p:Bp τ α) (s:Sto τ Nd15) (st:RSt):Bool × Sto τ Nd15 × RSt:=zgw p s (zei st).1 (zbx (zei st).2)
theorem zng {a b c:ByteArray} (h1:a.size<2 ^ 63) (h2:b.size<2 ^ 63) (h3:c.size<2 ^ 63) (r:List UInt8):zei (text a ++ (text b ++ (text c ++ r)),0)=((a,b,c),(r,0)):=by
 unfold zei;rw [zbD a (by omega)];dsimp only;rw [zbD b (by omega)];dsimp only;rw [zbD c (by omega)];dsimp only;rw [zcl,zcl,zcl]
def zgu (p:Bp τ α) (u v:Rv τ Nd15):Prop:=v.schema=false→∀k ∈ v.wrote,∃x,p.right u.T x=0∧p.key x=k
theorem zjK {p:Bp τ α} (hp:BpOk p) {z:Sto τ Nd15} {u v:Rv τ Nd15} (ht:(zai z).text=u.text) (hT:(zai z).T=u.T) (hk:(zai z).keys=u.keys) (hn:z.L.length≤63) (hb:Beh p u v) (hw:zgu p u v) (hf:zbL p v.T v.keys=0) (hq:(v.keys.length:Int)≤z.quota) (hc:p.comp v.text=(0,v.text,v.T)) (ho:ROk c15 v) (rest:List UInt8) :
 zbp p z (zfk c15 v ++ rest,0)=(true,zaQ z v,(rest,0)):=by
 obtain ⟨C,D,E⟩:v.by_.1.size<2 ^ 63∧v.by_.2.1.size<2 ^ 63∧v.by_.2.2.size<2 ^ 63:=⟨ho.by1,ho.by2,ho.by3⟩;have M:v.text.size<2 ^ 63:=ho.text;have F:zfk c15 v ++ rest=text v.by_.1 ++ (text v.by_.2.1 ++ (text v.by_.2.2 ++ ((if v.schema=true then num 1 ++ text v.text else num 0 ++ (num v.wrote.length ++ texts v.wrote)) ++ rest))):=by
  rw [zm2];simp only [yaB]
 unfold zbp;rw [F,zng C D E];dsimp only;cases b:v.schema with
 | true =>
  have a4:=zbw 1 yac (text v.text ++ rest);have a5:=zbD v.text yab rest;rw [yan rfl,yaB,a4];unfold zgw;rw [yan (show (1:Nat)≠0 by decide)];dsimp only;rw [a5];unfold zjI;dsimp only;rw [zcl];obtain ⟨m,n,_⟩:=hb.same b;have o:zaC p z (v.by_.1,v.by_.2.1,v.by_.2.2) v.text=(zaQ z v,0):=by
   unfold zaC;rw [hc];dsimp only;rw [yan rfl,hk,←m,yan hf,yak (by omega)];congr 2
   rw [←n,←b]
  rw [o];rfl
 | false =>
  obtain ⟨m,n,N,O,c,d,A⟩:=hb.turn b;have a4:=zbw 0 yac ((num v.wrote.length ++ texts v.wrote) ++ rest);have a5:=zeb v.wrote (fun k hk=>ycd (ho.wrote.each k hk) yac) yab rest 100000;rw [yak (by omega)] at a5;rw [yak yac,yaB,a4];unfold zgw;rw [yak (show ¬(0:Nat)≠0 by decide)];dsimp only;rw [a5];unfold zjJ chgL;dsimp only;have G:(v.wrote.map fun s=>s.data.toList).map strOf=v.wrote:=by
   rw [ybn];conv=>rhs;rw [←ycy v.wrote]
   exact yby fun s _=>zcl s
  rw [G,hk,←d,znj A];have B:keyed p (c.map fun x=>(p.of x.1,x.2))=c:=by
   unfold keyed;rw [ybn];conv=>rhs;rw [←ycy c]
   refine yby fun x f=>?_;obtain ⟨q,g,j⟩:=hw b x.1 (by rw [←d];exact ybj f);show (p.key (p.of x.1),x.2)=x;rw [←j,hp.back _ _ g,j]
  have H:c.length=v.wrote.length:=by rw [←d,yay]
  have o:zaA p z (v.by_.1,v.by_.2.1,v.by_.2.2) [] (c.map fun x=>(p.of x.1,x.2))=(zaQ z v,0,0):=by
   have I:(zaU p (zai z).T ((([]:List (α × Bool)) ++ c.map fun (x:ByteArray × Bool)=>(p.of x.1,x.2)).map Prod.fst) 0).1=0:=zdi.2 fun x f=>by
    rw [yba,ybn] at f;obtain ⟨y,J,rfl⟩:=yaN.1 f;obtain ⟨q,g,j⟩:=hw b y.1 (by rw [←d];exact ybj J);show p.right (zai z).T (p.of y.1)=0;rw [←j,hp.back _ _ g,hT,g]
   have K:zcb (zai z).keys (keyed p ([]:List (α × Bool))) (keyed p (c.map fun (x:ByteArray × Bool)=>(p.of x.1,x.2)))=(v.keys,0,0):=by
    rw [B,hk];unfold zcb;have:zhM u.keys (keyed p ([]:List (α × Bool)))=none:=rfl;rw [this];exact A
   unfold zaA;rw [K,yak (by rw [yay];omega),yak (by rw [yay];simp;omega),yak (by rw [I];decide),yak (show ¬(0:Nat)≠0 by decide),yak yah,B,ht,hT,←m,←n,d,←b]
  rw [o];rfl
theorem zc0 (z:Sto τ Nd15) (v:Rv τ Nd15):zai (zaQ z v)=v:=by
 unfold zai zaQ;dsimp only;rw [List.getLast?_append];rfl
def zcU (p:Bp τ α) (q fl:Int) (x:ByteArray) (l:List ByteArray):Option (Sto τ Nd15) :=
 if (p.comp x).1≠0∨(fl=0∧x≠⟨#[]⟩)∨q<(l.length:Int) then none
 else if 0<l.length∧fl≤(((l.length + 15) / 16:Nat):Int) then none
 else if zbL p (p.comp x).2.2 l=0∧l.Nodup then some ⟨fl,[⟨(p.comp x).2.1,(p.comp x).2.2,zoq l,default,false,[]⟩],q⟩ else none
def zkl (p:Bp τ α):Nat→Sto τ Nd15→RSt→Bool × Sto τ Nd15 × RSt
 | 0,s,st=>(true,s,st)
 | n + 1,s,st=>if (zbp p s st).1=true then zkl p n (zbp p s st).2.1 (zbp p s st).2.2 else zbp p s st
def unpE (p:Bp τ α) (q:Int) (fl n:Nat) (x:ByteArray) (l:List (List UInt8) × RSt):Bool × Sto τ Nd15 × RSt :=
 match zcU p (zbT q:Sto τ Nd15).quota fl x (l.1.map strOf) with
 | none=>(false,zbT q,l.2)
 | some s=>zkl p n s l.2
def unpC (p:Bp τ α) (q:Int) (fl rv:Nat) (st:RSt):Bool × Sto τ Nd15 × RSt :=
 if rv<fl∨64≤rv-fl∨9223372036854775807<rv then (false,zbT q,st) else unpE p q fl (rv-fl) (strOf (zaV st).1) (zcQ (zaV st).2 100000)
def zaS (p:Bp τ α) (q:Int) (b:List UInt8):Bool × Sto τ Nd15 × RSt:=unpC p q (zbx (b,0)).1 (zbx (zbx (b,0)).2).1 (zbx (zbx (b,0)).2).2
theorem zkm {p:Bp τ α} (hp:BpOk p):∀(r:List (Rv τ Nd15)) (z:Sto τ Nd15) (u:Rv τ Nd15),(zai z).text=u.text→(zai z).T=u.T→(zai z).keys=u.keys→z.L.length + r.length≤64 →
 (∀(i:Nat) a b,(u::r)[i]? = some a→(u::r)[i + 1]? = some b→Beh p a b∧zgu p a b)→(∀v ∈ r,zbL p v.T v.keys=0∧(v.keys.length:Int)≤z.quota∧p.comp v.text=(0,v.text,v.T)∧ROk c15 v) →
 zkl p r.length z (r.flatMap (zfk c15),0)=(true,{ z with L:=z.L ++ r },([],0))
 | [],z,u,_,_,_,_,_,_=>by
  rw [yaJ];rfl
 | v::r,z,u,j,k,m,n,f,g=>by
  obtain ⟨o,q⟩:=f 0 u v rfl rfl;obtain ⟨s,y,A,B⟩:=g v yat;rw [yaq] at n;have d:=zjK hp j k m yab o q s y A B (r.flatMap (zfk c15));have C:=zkm hp r (zaQ z v) v (by rw [zc0]) (by rw [zc0]) (by rw [zc0]) (by unfold zaQ;dsimp only;rw [yam];simp;omega) (fun i a b d hb=>f (i + 1) a b d hb) fun x D=>g x (yau _ D);rw [yaS,yaq];unfold zkl;rw [d];dsimp only;rw [yan rfl,C];unfold zaQ;dsimp only;rw [yaB];rfl
structure OkU (p:Bp τ α) (s:Sto τ Nd15):Prop where
 wrote:∀(i:Nat) u v,s.L[i]? = some u→s.L[i + 1]? = some v→zgu p u v
 grow:∀(i:Nat) v,s.L[i]? = some v→v.keys≠[]→(v.keys.length:Int)≤16 * (s.floor + i-1)
 first:s.floor=0→∀v,s.L[0]? = some v→v.text=⟨#[]⟩∧v.T=default∧v.keys=[]
theorem zl7 {p:Bp τ α} (hp:BpOk p) {s:Sto τ Nd15} (hs:OkB p s) (ht:OkT p s) (hu:OkU p s) (ho:∀v ∈ s.L,ROk c15 v) {q:Int} (hq:s.quota≤q) (hr:revB s≤9223372036854775807) (hk:∀v ∈ s.L,v.keys.length≤100000) :
 ∃v u r,s.L=u::r∧Alike u v∧zaS p q (zbi c15 s)=(true,⟨s.floor,v::r,q⟩,([],0)):=by
 have H:=hs.floor;have E:=hs.quota;have j:=hs.few;cases d:s.L with
 | nil=>exact absurd d hs.has
 | cons u r =>
  have f:u ∈ s.L:=by rw [d];exact yat
  have m:=ho u f;have C:revB s=s.floor + r.length:=by unfold revB;rw [d,yaq];omega
  have I:r.length≤63:=by rw [d,yaq] at j;omega
  have n:=hs.rise u f;have o:zoq u.keys=u.keys:=ze8 (zed _) n fun k=>zfb;have x:zcU p (zbT q:Sto τ Nd15).quota (s.floor.toNat:Int) u.text u.keys=some ⟨s.floor,[⟨u.text,u.T,u.keys,default,false,[]⟩],q⟩:=by
   have z:(zbT q:Sto τ Nd15).quota=q:=by unfold zbT;dsimp only;rw [yak (by omega)]
   have A:(s.floor.toNat:Int)=s.floor:=by omega
   have J:=hs.most u f;unfold zcU;rw [z,A,ht u f];dsimp only;rw [yak,yak,yan ⟨hs.fits u f,n.nodup⟩,o]
   · rintro ⟨a,b⟩;have:=hu.grow 0 u (by rw [d];rfl) (fun e=>by rw [e] at a;cases a);omega
   · rintro (a | ⟨a,b⟩ | a)
     · exact a rfl
     · exact b (hu.first a u (by rw [d];rfl)).1
     · omega
  have g:=zkm hp r ⟨s.floor,[⟨u.text,u.T,u.keys,default,false,[]⟩],q⟩ u rfl rfl rfl yag (fun i a b D hb=>⟨hs.steps i a b (by rw [d];exact D) (by rw [d];exact hb),hu.wrote i a b (by rw [d];exact D) (by rw [d];exact hb)⟩) fun v F=>by
   have y:v ∈ s.L:=by rw [d];exact yau _ F
   exact ⟨hs.fits v y,by have:=hs.most v y;dsimp only;omega,ht v y,ho v y⟩
  refine ⟨⟨u.text,u.T,u.keys,default,false,[]⟩,u,r,rfl,⟨rfl,rfl,rfl⟩,?_⟩;have B:zbi c15 s=num s.floor.toNat ++ (num (revB s).toNat ++ (text u.text ++ ((num u.keys.length ++ texts u.keys) ++ r.flatMap (zfk c15)))):=by
   unfold zbi;rw [d];rfl
  have K:u.text.size<2 ^ 63:=m.text;unfold zaS;rw [B,zbw _ (by omega)];dsimp only;rw [zbw _ (by omega)];unfold unpC;dsimp only;rw [yak yab,zbD _ (by omega)];dsimp only;rw [zcl,zeb u.keys (fun k h=>ycd (m.keys.each k h) yac) (by have:=hk u f;omega),yak (by have:=hk u f;omega)];unfold unpE;dsimp only;have G:(u.keys.map fun s=>s.data.toList).map strOf=u.keys:=by
   rw [ybn];conv=>rhs;rw [←ycy u.keys]
   exact yby fun s _=>zcl s
  rw [G,x];dsimp only;rw [show (revB s).toNat-s.floor.toNat=r.length by omega,g];rfl
theorem OkU.new (p:Bp τ α) (q:Int):OkU p (zbT q:Sto τ Nd15):=by
 have b:∀(i:Nat) v,(zbT q:Sto τ Nd15).L[i]? = some v→i=0∧v=zjE:=fun i v h=>by
  unfold zbT at h;cases i with
  | zero=>exact ⟨rfl,(yaX h).symm⟩
  | succ i=>cases h
 refine ⟨fun i u v _ d=>?_,fun i v h hk=>?_,fun _ v h=>?_⟩
 · exact absurd (b _ _ d).1 (Nat.succ_ne_zero i)
 · rw [(b i v h).2] at hk;exact absurd rfl hk
 · rw [(b 0 v h).2];exact ⟨rfl,rfl,rfl⟩
theorem OkU.next {p:Bp τ α} {s:Sto τ Nd15} (h:OkU p s) (hs:s.L≠[]) {v:Rv τ Nd15} (hw:zgu p (zai s) v) (hg:v.keys≠[]→(v.keys.length:Int)≤16 * revB s):OkU p (zaQ s v):=by
 have q:=ybG.2 hs;have g:∀(i:Nat) x,(zaQ s v).L[i]? = some x→s.L[i]? = some x∨(i=s.L.length∧x=v):=fun i x d=>by
  have d:(s.L ++ [v])[i]? = some x:=d;rw [List.getElem?_append] at d;split at d
  · exact .inl d
  · rename_i n
    have f:=(yao.1 d).1;simp at f;have:i-s.L.length=0:=by omega
    rw [this] at d;exact .inr ⟨by omega,(yaX d).symm⟩
 refine ⟨fun i a b k hb=>?_,fun i x d hk=>?_,fun o x d=>?_⟩
 · rcases g _ _ hb with f | ⟨f,rfl⟩
   · rcases g _ _ k with j | ⟨j,rfl⟩
     · exact h.wrote i a b j f
     · have:=(yao.1 f).1;omega
   · rcases g _ _ k with j | ⟨j,_⟩
     · have e:zai s=a:=by
        have m:=zeY hs;rw [show s.L.length-1=i by omega,j] at m;exact (yaX m).symm
       rw [←e];exact hw
     · omega
 · rcases g _ _ d with f | ⟨f,rfl⟩
   · exact h.grow i x f hk
   · have:=hg hk;show _≤16 * (s.floor + (i:Int)-1);unfold revB at this;rw [f];exact this
 · rcases g _ _ d with f | ⟨f,_⟩
   · exact h.first o x f
   · omega
theorem OkU.last {p:Bp τ α} {s:Sto τ Nd15} (h:OkU p s) (hs:s.L≠[]) (hk:(zai s).keys≠[]):((zai s).keys.length:Int)≤16 * (revB s-1):=by
 have b:=ybG.2 hs;have:=h.grow _ _ (zeY hs) hk;unfold revB;omega
theorem OkU.define {p:Bp τ α} {s:Sto τ Nd15} (h:OkU p s) (hs:s.L≠[]) (n:Nd15) (x:ByteArray):OkU p (zaC p s n x).1:=by
 unfold zaC;split
 · split
   · split
     · exact h
     · exact h.next hs (fun q=>by cases q) fun hk=>by have:=h.last hs hk;dsimp only at this ⊢;omega
   · exact h
 · exact h
theorem OkU.write {p:Bp τ α} (hno:∀x,p.right default x≠0) {s:Sto τ Nd15} (h:OkU p s) (hs:OkB p s) (n:Nd15) (q c:List (α × Bool)):OkU p (zaA p s n q c).1:=by
 by_cases e:(zaA p s n q c).2.1=0
 · obtain ⟨A,_,E,o,_,_,k,B,_,_,d⟩:=zfj hs e;rw [d];have F:=ybG.2 hs.has;refine h.next hs.has (fun _ a u=>?_) fun hk=>?_
   · rw [zgZ] at u;obtain ⟨x,C,rfl⟩:=yaN.1 u;exact ⟨x.1,o x (ycg _ C),rfl⟩
   · have f:=zh2 B;unfold keyed at f;rw [yay] at f;dsimp only;by_cases z:(zai s).keys=[]
     · rw [z,yaI] at f;have G:0<revB s:=by
        refine Int.not_le.1 fun g=>?_;have H:=hs.floor;unfold revB at g;have j:s.floor=0:=by omega
        have m:s.L.length=1:=by omega
        have b:=zeY hs.has;rw [m] at b;obtain ⟨_,D,_⟩:=h.first j _ b;cases c with
        | nil=>cases A
        | cons y c =>
         have:=o y (ycg _ yat);rw [D] at this;exact hno _ this
       omega
     · have:=h.last hs.has z;omega
 · have:(zaA p s n q c).1=s:=zhF e;rw [this];exact h
end
end
section
open Go.RowKit
theorem CompIs.short {s tx:ByteArray} {e:Nat} {ty:List ByteArray} {ps:List Path} {R:List RelT} (h:CompIs s e tx ty ps R):tx.size≤2048:=by
 rcases h.yes with ⟨_,rfl,_⟩ | ⟨_,v,k⟩
 · exact yap _
 · rw [k.text];exact k.size
structure CompG (f:CoF):Prop where
 is:zoJ f
 all:∀x,(∃(e:Nat) (tx:ByteArray) (ty:List ByteArray) (ps:List Path) (R:List RelT),CompIs x e tx ty ps R)∨f x=(0,⟨#[]⟩,([],[],[]))
theorem zmh:∃f,CompG f:=by
 have h:∀x:ByteArray,∃a:Int × ByteArray × Tb,(∀(e:Nat) (tx:ByteArray) (ty:List ByteArray) (ps:List Path) (R:List RelT),CompIs x e tx ty ps R→a=((e:Int),tx,(ty,ps,R)))∧((∃(e:Nat) (tx:ByteArray) (ty:List ByteArray) (ps:List Path) (R:List RelT),CompIs x e tx ty ps R)∨a=(0,⟨#[]⟩,([],[],[]))):=fun x=>by
  by_cases q:∃(e:Nat) (tx:ByteArray) (ty:List ByteArray) (ps:List Path) (R:List RelT),CompIs x e tx ty ps R
  · obtain ⟨e,tx,ty,ps,R,q⟩:=q;refine ⟨((e:Int),tx,(ty,ps,R)),fun j b d g m k=>?_,.inl ⟨_,_,_,_,_,q⟩⟩;obtain ⟨rfl,rfl,rfl,rfl,rfl⟩:=q.one k;rfl
  · exact ⟨(0,⟨#[]⟩,([],[],[])),fun _ _ _ _ _ k=>absurd ⟨_,_,_,_,_,k⟩ q,.inr rfl⟩
 exact ⟨fun x=>(h x).choose,fun {x e tx ty ps R} k=>(h x).choose_spec.1 e tx ty ps R k,fun x=>(h x).choose_spec.2⟩
theorem CompG.short {f:CoF} (h:CompG f) (x:ByteArray):(f x).2.1.size≤2048:=by
 rcases h.all x with ⟨e,tx,ty,ps,R,k⟩ | k
 · rw [h.is k];exact k.short
 · rw [k];exact yap _
theorem p15_none {f:CoF} (x:TuP):(p15 f).right default x≠0:=by
 rw [zbs];have e:(default:Tb)=([],[],[]):=rfl;rw [e];unfold zaR zcM;have:(zar ([]:List Path) (x.1.1,x.1.2.2)).isSome=false:=rfl;rw [this];simp
end
section
open Go.RowKit
variable {l:List ByteArray} {fl q last:Int} {x k:ByteArray} {L:List Sp} {i:Nat}
abbrev zeT (l:List ByteArray):List (ByteArray × Bool):=l.map fun k=>(k,true)
theorem zpz (l:List ByteArray):(zeT l).map Prod.fst=l:=by
 rw [ybn];conv=>rhs;rw [←ycy l]
 rfl
theorem zhV (h:1≤fl) (hn:l.Nodup):TurnB [] (zcn fl ([],0) (zeT l)).1 (zcn fl ([],0) (zeT l)).2 fl (zeT l) :=
 zl5 h FineS.nil yab (by rw [zpz];exact hn) fun c b=>by
  obtain ⟨k,_,rfl⟩:=yaN.1 b;exact ⟨(fun _ h=>by cases h),rfl⟩
theorem zjO (h:TurnB [] L last fl (zeT l)) (k:ByteArray):zdC L k fl=hasK l k:=by
 by_cases q:k ∈ l
 · rw [h.is (k,true) (ybj q)];exact (zas.2 q).symm
 · rw [(h.rest k (by rw [zpz];exact q)).1];cases e:hasK l k with
   | true=>exact absurd (zas.1 e) q
   | false=>rfl
theorem zoU (h:TurnB [] L last fl (zeT l)) (hfl:1≤fl) (k:ByteArray):(zgm L last k fl).isSome = !hasK l k:=by
 have j:=zjO h k;have n:=h.late;rw [←j];by_cases q:zdh L k<0
 · have d:zgm L last k fl=some (L ++ [(k,fl,0)]):=yak yab;rw [d];cases e:zdC L k fl with
   | false=>rfl
   | true =>
    obtain ⟨x,b,f,o,p⟩:=zaJ.1 e;have s:=zgk q x b f;have:=h.fine.at_ x b;omega
 · have d:zgm L last k fl=none:=yan yab;obtain ⟨i,x,_,b,f,m⟩:=ze4 q;have g:=yar b;have:=h.fine.at_ x g;have e:zdC L k fl=true:=zaJ.2 ⟨x,g,f,by omega,.inl m⟩;rw [d,e];rfl
theorem ins_snoc (h:l[i]? = some k):zcn fl ([],0) (zeT (l.take (i + 1)))=turn1 fl (zcn fl ([],0) (zeT (l.take i))) (k,true):=by
 unfold zcn;have e:zeT (l.take (i + 1))=zeT (l.take i) ++ [(k,true)]:=by
  unfold zeT;rw [yaC,h,yaR,yaL];rfl
 rw [e,yci];rfl
theorem znM (h:l[i]? = some k) (hn:(l.take i).Nodup) (hk:hasK (l.take i) k=false):(l.take (i + 1)).Nodup:=by
 rw [yaC,h,yaR];refine ya7.2 ⟨hn,by simp,fun a d b hb e=>?_⟩;rw [yas] at hb;subst hb e;rw [zas.2 d] at hk;cases hk
theorem zqk (h:l[i]? = some k) (hk:hasK (l.take i) k=true):¬l.Nodup:=fun b=>by
 have hi:=yao.1 h;rw [←ybg i l,ya7] at b;refine b.2.2 k (zas.1 hk) k ?_ rfl;rw [ya3 hi.1,hi.2];exact yat
section
variable {τ α:Type}
def zhU (p:Bp τ α) (q fl:Int) (x:ByteArray) (l:List ByteArray):Sto τ Nd15:=⟨fl,[⟨(p.comp x).2.1,(p.comp x).2.2,zoq l,default,false,[]⟩],q⟩
theorem zgA {p:Bp τ α} {s:Sto τ Nd15} (h:zcU p q fl x l=some s) :
 (p.comp x).1=0∧¬(fl=0∧x≠⟨#[]⟩)∧(l.length:Int)≤q∧¬(0<l.length∧fl≤(((l.length + 15) / 16:Nat):Int))∧zbL p (p.comp x).2.2 l=0∧l.Nodup∧s=zhU p q fl x l:=by
 unfold zcU at h;split at h
 · cases h
 · rename_i b
   split at h
   · cases h
   · rename_i f
     split at h
     · rename_i d
       rw [not_or,not_or] at b;exact ⟨ycB.1 b.1,b.2.1,Int.not_lt.1 b.2.2,f,d.1,d.2,(yaX h).symm⟩
     · cases h
theorem zcT (p:Bp τ α) (q fl:Int) (x:ByteArray) (l:List ByteArray):revB (zhU p q fl x l)=fl:=by
 unfold revB zhU;simp
theorem zoS [Inhabited τ] (p:Bp τ α) (q fl:Int) (x:ByteArray) (l:List ByteArray):atB (zhU p q fl x l) fl=⟨(p.comp x).2.1,(p.comp x).2.2,zoq l,default,false,[]⟩:=by
 have h:=zeJ (s:=zhU p q fl x l) (i:=0) rfl;have e:(zhU p q fl x l).floor + ((0:Nat):Int)=fl:=by unfold zhU;simp
 rw [e] at h;exact h
theorem hasK_set (l:List ByteArray) (k:ByteArray):hasK (zoq l) k=hasK l k:=by
 rw [ya6,zas,zas,zfb]
theorem zoT [Inhabited τ] {p:Bp τ α} (h:TurnB [] L last fl (zeT l)):SpB L last (zhU p q fl x l) where
 fine:=h.fine
 late:=by rw [zcT];exact h.late
 tell:=fun r d b k=>by
  rw [zcT] at b;obtain rfl:r=fl:=by
   have:(zhU p q fl x l).floor=fl:=rfl;omega
  rw [zoS,zjO h,hasK_set]
 apart:=h.apart (fun _ h=>by cases h)
theorem znt [Inhabited τ] {p:Bp τ α} (h:0≤fl):SpB [] 0 (zhU p q fl x []) where
 fine:=FineS.nil
 late:=by rw [zcT];exact h
 tell:=fun r d b k=>by
  rw [zcT] at b;obtain rfl:r=fl:=by
   have:(zhU p q fl x []).floor=fl:=rfl;omega
  rw [zoS];rfl
 apart:=fun _ h=>by cases h
theorem begS_ok {p:Bp τ α} (h0:0≤fl) (hq:0≤q) (hl:(l.length:Int)≤q) (hf:zbL p (p.comp x).2.2 l=0):OkB p (zhU p q fl x l):=by
 have one:∀v ∈ (zhU p q fl x l).L,v=⟨(p.comp x).2.1,(p.comp x).2.2,zoq l,default,false,[]⟩:=fun v b=>yas.1 b;refine ⟨h0,(fun e=>by cases e),(by show 1≤64;decide),hq,fun v b=>?_,fun v b=>?_,fun v b=>?_,fun i u v _ b=>?_⟩
 · rw [one v b];exact zed _
 · rw [one v b];have:=(zed l).len fun k hk=>zfb.1 hk;show ((zoq l).length:Int)≤q;omega
 · rw [one v b];exact zbZ.2 fun k hk=>zbZ.1 hf k (zfb.1 hk)
 · have b:([⟨(p.comp x).2.1,(p.comp x).2.2,zoq l,default,false,[]⟩]:List (Rv τ Nd15))[i + 1]? = some v:=b;rw [ybe] at b;cases b
end
end
section
open Go.RowKit
theorem info_u8':(Tryz.prog.info? 5).map (fun i=>(i.zero,i.size,i.bytes))=some (some (.int .u8 0),1,1):=by kernel_rfl
theorem clone_any (A:Option Addr) (n c:Nat) (l:List UInt8) (w:World) (hr:Rd w w.heap.size 1 A n c (bv l)) (hn:n≤100000000000) :
 Calls Tryz.prog 91 #[.slice A n c] w fun e w'=>∃v,e = .returned v∧w'.ownsRow w.heap.size 5 1 v l.length (bv l)∧Below w.heap.size w w':=by
 obtain ⟨q,hi,f,g,j⟩:=info_parts info_u8';have s:n=l.length:=hr.lenB;subst s;have o:=Lib.hid hr;clear hr;have d:=fun (w:World)=>Lib.run_eql_slice_nil (P:=Tryz.prog) w 24 5 A l.length c 0 0 Tryz.underlying24;rcases A with _ | a
 · obtain ⟨u,rfl⟩:=o.out.nil rfl;have x:l=[]:=yaY u;subst x;simp only [Option.isNone_none,yaI] at d ⊢;go_enter Tryz.func91,Tryz.ntmps91
   go_wp2
   go_ret
   exact ⟨_,rfl,World.ownsRow_nil _ _ _ _,Below.refl _ _⟩
 · simp only [Option.isNone_some] at d;go_enter Tryz.func91,Tryz.ntmps91
   go_wp2_with (at_builtin;go_must (refine zab _ rfl (.tmp 5) (.tmp 6) 24 24 rfl w.heap.size 5 q (.int .u8 0) 1 1 Tryz.underlying24 hi f g j rfl yac _ 0 [] rfl (zjh w #[] 5 0 1 w.heap.size rfl yaf (yaj _)) _ l.length (bv l) rfl (Rd.src Tryz.underlying24 (o.out.alloc (yaj _) _) (zfQ l)) yad yab yaf ?_);intro y w1 b k p)
   have m:Below w.heap.size w w1:=zaf ((Below.refl _ _).alloc (yaj _) _) k (zjh w #[] 5 0 1 w.heap.size rfl yaf (yaj _)) yaf (yaj _);rw [yaG,yba] at b;go_ret
   exact ⟨_,rfl,b,m⟩
theorem open_any (A:Option Addr) (n c:Nat) (l:List UInt8) (w:World) (hr:Rd w w.heap.size 1 A n c (bv l)) (hn:n≤100000000000) :
 Calls Tryz.prog 52 #[.slice A n c] w fun e w'=>∃g,e = .returned (.pointer (some ⟨g,0,none⟩))∧w.heap.size≤g∧IsR w' g (l,0)∧Below w.heap.size w w':=by
 go_enter Tryz.func52,Tryz.ntmps52
 go_wp2_with fail
 refine (clone_any A n c l w hr hn).mono ?_;rintro e j ⟨o,rfl,b,hb⟩;obtain ⟨k,m,rfl,f⟩:=Rd.own b;have d:=hb.size;go_wp2
 go_ret
 refine ⟨j.heap.size,rfl,d,⟨k,_,m,heap_alloc_new j _,f.alloc (yaj _) _⟩,hb.alloc d _⟩
end
section
open Go.RowKit
variable {st:RSt} {n:Nat}
theorem equal_any {w:World} {A1 A2:Option Addr} {n1 c1 n2 c2 B1 B2:Nat} {l k:List UInt8} (h1:Rd w B1 1 A1 n1 c1 (bv l)) (h2:Rd w B2 1 A2 n2 c2 (bv k)) :
 Calls Tryz.prog 55 #[.slice A1 n1 c1,.slice A2 n2 c2] w fun e w'=>e = .returned (.bool (decide (l=k)))∧w'=w:=by
 have d:(convert 24 9 (.slice A1 n1 c1)).run Tryz.prog w = .ok (.string (strOf l)) w:=h1.conv (P:=Tryz.prog) 24 9 5 Tryz.underlying24 Tryz.underlying5 Tryz.underlying9;have f:(convert 24 9 (.slice A2 n2 c2)).run Tryz.prog w = .ok (.string (strOf k)) w:=h2.conv (P:=Tryz.prog) 24 9 5 Tryz.underlying24 Tryz.underlying5 Tryz.underlying9;have b:decide (l=k)=((strOf l).toList == (strOf k).toList):=by
  rw [zfZ,zfZ];by_cases q:l=k
  · subst q;simp
  · rw [yaH q];exact (ybc.2 q).symm
 rw [b];generalize strOf l=x at *
 generalize strOf k=y at *
 clear h1 h2 b;go_enter Tryz.func55,Tryz.ntmps55
 go_wp2_with fail
 go_ret
 exact ⟨rfl,rfl⟩
section
variable {S:SpW} {f:CoF} {X Y F F':Nat→Prop} {w w':World} {g gr:Nat} {s:Sto Tb Nd15} {L:List Sp} {last:Int} {m:Mm}
theorem StM.off (K:SpK S) (h:StM S f X w F g s L last m) (hle:w.heap.size≤w'.heap.size) (hk:∀b,b<w.heap.size→b≠gr→w'.heap[b]? = w.heap[b]?) (hX:X gr) (hF:¬F gr):StM S f X w' F g s L last m:=by
 have d:∀b,F b→b≠gr:=fun b hb e=>hF (e ▸ hb);have k:Stay X w w':=⟨hle,fun b hb n=>hk b hb fun e=>n (e ▸ hX)⟩;exact
  {box:=h.box.same (hk g h.box.lt (d g ((h.own g).2 (.inl rfl))))
   sp:=K.keep h.sp fun b q=>hk b (K.lt h.sp b q) (d b ((h.own b).2 (.inr (.inl q))))
   row:=zau h.row fun j o=>hk j (h.row.lt j o).2 (d j ((h.own j).2 (.inr (.inr o))))
   own:=h.own
   g0:=h.g0
   r0:=h.r0
   sub:=h.sub
   lt:=fun j q=>yaw (h.lt j q) hle
   head:=h.head
   first:=h.first.step k fun _ q=>.inl q
   each:=fun x n=>(h.each x n).step k fun _ q=>.inl q
   revs:=h.revs
   fl0:=h.fl0
   most:=h.most
   few:=h.few
   keys:=h.keys
   len:=h.len
   fine:=h.fine
   spb:=h.spb
   ok:=h.ok }
theorem StM.beside (K:SpK S) (h:StM S f X w F g s L last m) (hg:w.grownBy w' (some gr)) (hX:X gr) (hF:¬F gr):StM S f X w' F g s L last m:=h.off K hg.size (fun b hb d=>hg.block b hb fun e=>d (yaX e)) hX hF
structure StX (S:SpW) (f:CoF) (gr:Nat) (w:World) (g:Nat) (s:Sto Tb Nd15) (st:RSt) (n:Nat) (X F:Nat→Prop) (L:List Sp) (last:Int) (m:Mm):Prop where
 sto:StM S f X w F g s L last m
 rd:IsR w gr st
 inX:X gr
 ahead:∀b,F b→gr<b
 len:L.length≤n
theorem StX.notF (h:StX S f gr w g s st n X F L last m):¬F gr:=fun q=>Nat.lt_irrefl _ (h.ahead gr q)
theorem StX.read (K:SpK S) {st':RSt} (h:StX S f gr w g s st n X F L last m) (hg:w.grownBy w' (some gr)) (hr:IsR w' gr st'):StX S f gr w' g s st' n X F L last m:=⟨h.sto.beside K hg h.inX h.notF,hr,h.inX,h.ahead,h.len⟩
theorem StX.up (K:SpK S) (h:StX S f gr w g s st n X F L last m) (hb:Below w.heap.size w w'):StX S f gr w' g s st n X F L last m:=⟨h.sto.up K hb,h.rd.below hb h.rd.lt,h.inX,h.ahead,h.len⟩
theorem StX.moved {n':Nat} (h:StX S f gr w g s st n X F L last m) {X' F':Nat→Prop} {s':Sto Tb Nd15} {L':List Sp} {last':Int} {m':Mm} (hs:StM S f X' w' F' g s' L' last' m') (hm:Mv X F w X' F' w') (hl:L'.length≤n'):StX S f gr w' g s' st n' X' F' L' last' m'∧Below (gr + 1) w w':=by
 have d:=h.rd.lt;have hb:Below (gr + 1) w w':=hm.own.rest (gr + 1) d fun b q=>h.ahead b q;exact ⟨⟨hs,h.rd.below hb (ycs _),hm.up _ h.inX,fun b q=>by
  rcases hm.own.grow b q with q | q
  · exact h.ahead b q
  · omega,hl⟩,hb⟩
end
end
end Go.Proofs.YtmblgnddgmfkhaaGreat
