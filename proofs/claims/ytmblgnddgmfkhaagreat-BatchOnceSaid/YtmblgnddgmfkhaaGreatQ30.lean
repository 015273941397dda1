import Derived.Test.YtmblgnddgmfkhaaGreatQ29
set_option maxRecDepth 100000
set_option maxHeartbeats 4000000
namespace Go.Proofs.YtmblgnddgmfkhaaGreat
section
open Go.RowKit
variable {s:List ByteArray} {T:ByteArray→Bool} {w:World} {b mm:Nat} {k:ByteArray}
def AppO (w w':World) (r:List ByteArray × Nat × Nat) (e:Ending):Prop:=∃A c,e = .returned (.tuple #[.slice A r.1.length c,.int .i64 (r.2.1:Nat),.int .i64 (r.2.2:Nat)])∧w'.ownsRow w.heap.size 9 1 (.slice A r.1.length c) r.1.length (ks r.1)∧Below w.heap.size w w'
theorem zo8 (k:ByteArray) (b:Bool) (w:World):Calls Tryz.prog 69 #[.agg #[.string k,.bool b]] w fun e w'=>e = .returned (.func (.func (if b then 109 else 110)) #[] #[])∧w'=w.alloc (.cells #[.string k,.bool b] 128):=by
 cases b
 · go_enter Tryz.func69,Tryz.ntmps69
   go_wp2_with fail
   go_ret
   exact ⟨rfl,rfl⟩
 · go_enter Tryz.func69,Tryz.ntmps69
   go_wp2_with fail
   go_ret
   exact ⟨rfl,rfl⟩
theorem ddo_any {A:Option Addr} {n c B:Nat} (add:Bool) (h:Rd w B 1 A n c (ks s)) (hB:B≤w.heap.size) (hn:n=s.length) (hs:Rises s) (hl:n≤1000000) (hM:MapD w b mm T) (hmm:mm<1000000) (hk:k.size≤maxLen) :
 Calls Tryz.prog (if add then 109 else 110) #[.agg #[.slice A n c,.map (some b)],.string k] w fun e w'=>∃z,e = .returned (.int .i64 z)∧Step w w' b mm T k (hasK s k != T k) add z∧w.grownBy w' (some b):=by
 cases add
 · exact ddrop_any h hB hn hs hl hM hmm hk
 · exact dput_any h hB hn hs hl hM hmm hk
theorem zq3 {w':World} {add:Bool} {z:Int} {e:Ending} (he:e = .returned (.int .i64 z)) (h:Step w w' b mm T k (!add) add z) (hg:w.grownBy w' (some b)):e = .returned (.int .i64 0)∧MapD w' b (mm + 1) (zdq T k)∧w.grownBy w' (some b):=by
 cases h with
 | done h d _=>exact ⟨he,d,hg⟩
 | not h=>cases add <;> cases h
theorem step_not {w':World} {add:Bool} {z:Int} {e:Ending} (he:e = .returned (.int .i64 z)) (h:Step w w' b mm T k add add z) (hg:w.grownBy w' (some b)):e = .returned (.int .i64 (if add then 32 else 41))∧w.grownBy w' (some b):=by
 cases h with
 | done h d _=>cases add <;> cases h
 | not h=>exact ⟨he,hg⟩
structure Now (s t:List ByteArray) (T:ByteArray→Bool):Prop where
 rises:Rises t
 has:∀k:ByteArray,k.size≤maxLen→hasK t k=(hasK s k != T k)
 small:∀k ∈ t,k.size≤maxLen
theorem Now.start (h:Rises s) (hk:∀k ∈ s,k.size≤maxLen):Now s s fun _=>false:=⟨h,fun k _=>by cases hasK s k <;> rfl,hk⟩
theorem Now.step {t:List ByteArray} {c:ByteArray × Bool} (h:Now s t T) (hc:c.1.size≤maxLen) (k:hasK t c.1 = !c.2):Now s (zjF t c) (zdq T c.1):=by
 refine ⟨zc4 h.rises k,fun x b=>?_,fun x b=>?_⟩
 · rw [zcK k];unfold zdq;by_cases e:x=c.1
   · rw [yan e,yan e,e];have d:=h.has c.1 hc;rw [k] at d;cases f:c.2 <;> cases g:T c.1 <;> cases j:hasK s c.1 <;> simp_all
   · rw [yak e,yak e,h.has x b]
 · rcases Decidable.em (x=c.1) with e | e
   · rw [e];exact hc
   · have:=zcK k x;rw [yak e,zas.2 b] at this;exact h.small x (zas.1 this.symm)
theorem Now.end_ {t r:List ByteArray} (h:Now s t T) (hk:∀k ∈ s,k.size≤maxLen) (hr:Rises r) (h2:∀k:ByteArray,hasK r k=(hasK s k != (decide (k.size≤maxLen) && T k))):r=t:=by
 refine ze8 hr h.rises fun k=>?_;rw [←zas,←zas,h2 k];by_cases e:k.size≤maxLen
 · rw [yaD e,ycG,h.has k e]
 · rw [yaH e,yb1];have b:hasK s k=false:=za7.2 fun q=>e (hk k q);have d:hasK t k=false:=za7.2 fun q=>e (h.small k q);rw [b,d];rfl
theorem apply_any {A A1 A2:Option Addr} {c c1 c2:Nat} {p ch:List (ByteArray × Bool)} (h:Rd w w.heap.size 1 A s.length c (ks s)) (hs:Rises s) (hsk:∀k ∈ s,k.size≤maxLen) (hl:s.length≤500000)
 (h1:Rd w w.heap.size 2 A1 p.length c1 (pcs p)) (hp:p.length≤100000) (h2:Rd w w.heap.size 2 A2 ch.length c2 (pcs ch)) (hc:ch.length≤100000) (hck:∀x ∈ ch,x.1.size≤maxLen) :
 Calls Tryz.prog 37 #[.slice A s.length c,.slice A1 p.length c1,.slice A2 ch.length c2] w fun e w'=>AppO w w' (zcb s p ch) e:=by
 have ac:=@run_makeMap Tryz.prog;obtain ⟨r,U⟩:∃r,zcb s p ch=r:=⟨_,rfl⟩;rw [U];have U:=Lib.hid U;have kh:=fun (W:World) (hW:Below w.heap.size w W) (k:ByteArray)=>has_any (h.below hW) rfl hs yab k;go_enter Tryz.func37,Tryz.ntmps37
 go_wp2_with fail
 go_loopw [18] (fun V wx=>∃i:Nat,V = .int .i64 i∧i≤p.length∧Below w.heap.size w wx∧Hid (∀(j:Nat) y,j<i→p[j]? = some y→hasK s y.1=y.2)) (fun V _=>p.length-(intOf V).toNat)
 case atStart=>exact ⟨0,rfl,yap _,Below.refl _ _,Lib.hid fun j y hj=>by omega⟩
 case round =>
  obtain ⟨i,rfl,hi,hb,ha⟩:=hrel;have d:=hb.size;by_cases ad:i<p.length
  · have di:(i:Int)<(p.length:Int):=by omega
    obtain ⟨x,E⟩:∃x,p[i]? = some x:=⟨_,yal ad⟩;obtain ⟨b1,o1,rfl,ae,g0,G⟩:=zfC (h1.below hb) E;obtain ⟨k,e⟩:=x;dsimp only at g0 G;obtain ⟨W1,b⟩:∃W1,wr.alloc (.cells #[.string k,.bool e] 126)=W1:=⟨_,rfl⟩;obtain ⟨p0,p1⟩:=box2 wr (.string k) (.bool e) 126;rw [b] at p0 p1;have H:Below w.heap.size w W1:=b ▸ hb.alloc d _;replace b:=Lib.hid b;have kq:=fun q=>kh (W1.drewN q) (H.trans (zav _ _ _)) k;by_cases f:hasK s k=e
    · have a6:Hid (∀(j:Nat) y,j<i + 1→p[j]? = some y→hasK s y.1=y.2):=Lib.hid fun j y hj hy=>by
       by_cases q:j=i
       · subst q;rw [E] at hy;cases hy;exact f
       · exact ha.out j y yab hy
      rw [f] at kq;clear ha E f kh;cases e
      · go_upto_region 4 with (fail)
        rw [b.out];clear b g0 G;go_quiet ((go_at_call 68;exact Calls.quiet_of (kq _)))
        go_wp2_with fail
        exact ⟨⟨i + 1,by go_num,by omega,H.trans (zav _ _ _),a6⟩,by simp [intOf];omega⟩
      · go_upto_region 4 with (fail)
        rw [b.out];clear b g0 G;go_quiet ((go_at_call 68;exact Calls.quiet_of (kq _)))
        go_wp2_with fail
        exact ⟨⟨i + 1,by go_num,by omega,H.trans (zav _ _ _),a6⟩,by simp [intOf];omega⟩
    · have I:Hid (r=([],41,i)):=Lib.hid (by rw [←U.out,zcb,zkJ ha.out E f]);have n:hasK s k = !e:=(by cases q1:hasK s k <;> cases e <;> simp_all);rw [n] at kq;clear ha E f kh n U;cases e
      · go_upto_region 4 with (fail)
        rw [b.out];clear b g0 G;go_quiet ((go_at_call 68;exact Calls.quiet_of (kq _)))
        go_wp2_with fail
        go_returns
        rw [I.out];exact ⟨none,0,rfl,World.ownsRow_nil _ _ _ _,H.trans (zav _ _ _)⟩
      · go_upto_region 4 with (fail)
        rw [b.out];clear b g0 G;go_quiet ((go_at_call 68;exact Calls.quiet_of (kq _)))
        go_wp2_with fail
        go_returns
        rw [I.out];exact ⟨none,0,rfl,World.ownsRow_nil _ _ _ _,H.trans (zav _ _ _)⟩
  · obtain rfl:i=p.length:=by omega
    have di:¬(((p.length:Nat):Int)<(p.length:Int)):=by omega
    have I:Hid (zcy s ch p.length=r):=Lib.hid (by
     have hn:zhM s p=none:=zkH fun x E=>by
      obtain ⟨j,hj,e⟩:=yb9 E;exact ha.out j x hj (by rw [yal hj,e])
     rw [←U.out,zcb,hn])
    have X:MapD ((wr.alloc (.map #[] 0)).alloc (.cells #[.slice A s.length c,.map (some wr.heap.size)] 134)) wr.heap.size 0 fun _=>false :=
     MapD.alloc ⟨.map [],0,yaj _,World.ownsMap_made wr _ _ _,yaj _,fun _ _=>rfl⟩ _
    obtain ⟨d0,d1⟩:=box2 (wr.alloc (.map #[] 0)) (.slice A s.length c) (.map (some wr.heap.size)) 134;have Y:=(hb.alloc d (.map #[] 0)).alloc (zae d) (.cells #[.slice A s.length c,.map (some wr.heap.size)] 134);obtain ⟨bm,a7⟩:∃bm,wr.heap.size=bm:=⟨_,rfl⟩;have af:bm≠bm + 1:=by omega
    simp only [World.size_alloc] at d0 d1;rw [a7] at X d0 d1 Y d;have hN:=Lib.hid (Now.start hs hsk);have C:w.heap.size≤bm:=d;clear ha U hi h1 kh hb af d;go_wp2_with fail
    clear ac a7;go_loopw [37] (fun V wx=>∃(j:Nat) (t:List ByteArray) (T:ByteArray→Bool),V = .int .i64 j∧j≤ch.length∧Below w.heap.size w wx∧MapD wx bm j T∧wx.cell? ⟨bm + 1,0,none⟩=some (.slice A s.length c)∧wx.cell? ⟨bm + 1,1,none⟩=some (.map (some bm))∧Hid (Now s t T)∧Hid (zcy t (ch.drop j) (p.length + j)=r)) (fun V _=>ch.length-(intOf V).toNat)
    case atStart=>exact ⟨0,s,_,rfl,yap _,Y,X,d0,d1,hN,I⟩
    case round =>
     obtain ⟨j,t,T,rfl,hj,hb,hM,e0,e1,D,F⟩:=hrel;clear X d0 d1 Y hN I;have d:=hb.size;have al:=hM.lt;by_cases ag:j<ch.length
     · have dj:(j:Int)<(ch.length:Int):=by omega
       obtain ⟨x,E⟩:∃x,ch[j]? = some x:=⟨_,yal ag⟩;obtain ⟨b1,o1,rfl,ae,g0,G⟩:=zfC (h2.below hb) E;have N:=hck x (yar E);have O:=zdd E;obtain ⟨k,e⟩:=x;dsimp only at g0 G N;have P:=D.out;have hT:=P.has k N;obtain ⟨p0,p1⟩:=box2 wr (.string k) (.bool e) 128;have J:=hb.alloc d (.cells #[.string k,.bool e] 128);have Q:=hM.alloc (.cells #[.string k,.bool e] 128);have R:bm + 1<wr.heap.size:=World.block_lt_of_cell? wr _ e0;have f0:(wr.alloc (.cells #[.string k,.bool e] 128)).cell? ⟨bm + 1,0,none⟩=some (.slice A s.length c):=Lib.cell?_alloc_some _ e0;have f1:(wr.alloc (.cells #[.string k,.bool e] 128)).cell? ⟨bm + 1,1,none⟩=some (.map (some bm)):=Lib.cell?_alloc_some _ e1;have a8:wr.heap.size<(wr.alloc (.cells #[.string k,.bool e] 128)).heap.size:=by simp
       obtain ⟨W1,b⟩:∃W1,wr.alloc (.cells #[.string k,.bool e] 128)=W1:=⟨_,rfl⟩;rw [b] at p0 p1 J Q f0 f1 a8;obtain ⟨W2,B⟩:∃W2,W1.alloc (.cells #[.string k,.bool e] 128)=W2:=⟨_,rfl⟩;have r0:W2.cell? ⟨wr.heap.size,0,none⟩=some (.string k):=B ▸ Lib.cell?_alloc_some _ p0;have q0:W2.cell? ⟨bm + 1,0,none⟩=some (.slice A s.length c):=B ▸ Lib.cell?_alloc_some _ f0;have q1:W2.cell? ⟨bm + 1,1,none⟩=some (.map (some bm)):=B ▸ Lib.cell?_alloc_some _ f1;have m:Below w.heap.size w W2:=B ▸ J.alloc J.size _;have Z:MapD W2 bm j T:=B ▸ Q.alloc _;have kd:=zo8 k e W1;rw [B] at kd;have K:=ddo_any e (h.below m) m.size rfl hs yab Z yab N;rw [←hT] at K;replace b:=Lib.hid b;by_cases f:hasK t k = !e
       · have aa:Hid (Now s (zjF t (k,e)) (zdq T k)):=Lib.hid (P.step (c:=(k,e)) N f);have L:Hid (zcy (zjF t (k,e)) (ch.drop (j + 1)) (p.length + (j + 1))=r):=Lib.hid (by rw [←F.out,O,zb8 (c:=(k,e)) f];rfl);rw [f] at K;replace K:=K.mono fun M w9 ⟨z,he,a1,hg⟩=>zq3 he a1 hg;clear O E hT f P D F hM Q Z e0 e1 hb J d R B;cases e
         · go_upto_region 11 with (fail)
           rw [b.out];clear b g0 G;go_wp2_with (first
            | (go_at_call 69;refine kd.mono ?_;rintro M w4 ⟨rfl,rfl⟩)
            | (go_at_call 110;refine K.mono ?_;rintro M w5 ⟨rfl,a2,g⟩)
            | fail)
           have o:=m.grown g m.size fun k hk=>(by cases hk;exact C);exact ⟨⟨j + 1,zjF t (k,false),zdq T k,by go_num,by omega,o,a2,g.cell q0 yaf,g.cell q1 yaf,aa,L⟩,by simp [intOf];omega⟩
         · go_upto_region 11 with (fail)
           rw [b.out];clear b g0 G;go_wp2_with (first
            | (go_at_call 69;refine kd.mono ?_;rintro M w4 ⟨rfl,rfl⟩)
            | (go_at_call 109;refine K.mono ?_;rintro M w5 ⟨rfl,a2,g⟩)
            | fail)
           have o:=m.grown g m.size fun k hk=>(by cases hk;exact C);exact ⟨⟨j + 1,zjF t (k,true),zdq T k,by go_num,by omega,o,a2,g.cell q0 yaf,g.cell q1 yaf,aa,L⟩,by simp [intOf];omega⟩
       · have n:hasK t k=e:=by cases q1:hasK t k <;> cases e <;> simp_all
         have L:Hid (r=([],if e then 32 else 41,p.length + j)):=Lib.hid (by rw [←F.out,O,zbR (c:=(k,e)) n]);rw [n] at K;replace K:=K.mono fun M w9 ⟨z,he,a1,hg⟩=>step_not he a1 hg;clear O E hT f n P D F hM Q Z e0 e1 hb J d R B;cases e
         · go_upto_region 11 with (fail)
           rw [b.out];clear b g0 G;go_wp2_with (first
            | (go_at_call 69;refine kd.mono ?_;rintro M w4 ⟨rfl,rfl⟩)
            | (go_at_call 110;refine K.mono ?_;rintro M w5 ⟨rfl,g⟩)
            | fail)
           have o:=m.grown g m.size fun k hk=>(by cases hk;exact C);go_returns
           rw [L.out];exact ⟨none,0,rfl,World.ownsRow_nil _ _ _ _,o⟩
         · go_upto_region 11 with (fail)
           rw [b.out];clear b g0 G;go_wp2_with (first
            | (go_at_call 69;refine kd.mono ?_;rintro M w4 ⟨rfl,rfl⟩)
            | (go_at_call 109;refine K.mono ?_;rintro M w5 ⟨rfl,g⟩)
            | fail)
           have o:=m.grown g m.size fun k hk=>(by cases hk;exact C);go_returns
           rw [L.out];exact ⟨none,0,rfl,World.ownsRow_nil _ _ _ _,o⟩
     · obtain rfl:j=ch.length:=by omega
       have dj:¬(((ch.length:Nat):Int)<(ch.length:Int)):=by omega
       have ah:r=(t,0,0):=by
        rw [←F.out,ybV];rfl
       subst ah;have ab:=set_any (h.up hb) hs yab hM yab;clear F;go_wp2_with (go_at_call 70;refine ab.mono ?_;rintro M w5 ⟨A5,c5,u,rfl,ai,aj,_,ak,o⟩)
       go_returns
       obtain rfl:=D.out.end_ hsk ai aj;exact ⟨A5,c5,rfl,zax ak d,zad hb d o⟩
end
section
open Go.RowKit
theorem zg9 (k:ByteArray) (hk:k.size≤100000) (w:World):Calls Tryz.prog 57 #[.string k] w fun e w'=>e = .returned (zf0 (ofT k))∧Below w.heap.size w w':=by
 have f:=from_any12 (w:=w.alloc (.cells #[.string ⟨#[]⟩,.string ⟨#[]⟩,.string ⟨#[]⟩,.string ⟨#[]⟩,.string ⟨#[]⟩,.string ⟨#[]⟩] 51)) k hk;have m:tupO (zds k)=ofT k:=rfl;rw [m] at f;unfold zf0;obtain ⟨u,n⟩:∃u,ofT k=u:=⟨_,rfl⟩;rw [n] at f ⊢;generalize (zds k).isSome=z at *
 clear m n;have d:=Bk.new w #[.string ⟨#[]⟩,.string ⟨#[]⟩,.string ⟨#[]⟩,.string ⟨#[]⟩,.string ⟨#[]⟩,.string ⟨#[]⟩] 51;have hb:=zaM w (.cells #[.string ⟨#[]⟩,.string ⟨#[]⟩,.string ⟨#[]⟩,.string ⟨#[]⟩,.string ⟨#[]⟩,.string ⟨#[]⟩] 51);go_enter Tryz.func57,Tryz.ntmps57
 go_upto_region 1 with (fail)
 generalize w.alloc (.cells #[.string ⟨#[]⟩,.string ⟨#[]⟩,.string ⟨#[]⟩,.string ⟨#[]⟩,.string ⟨#[]⟩,.string ⟨#[]⟩] 51)=D at *
 go_upto_region 2 with (go_at_call 98;refine f.mono ?_;rintro e g ⟨rfl,b⟩)
 have p:=(zad hb hb.size b).alloc (zad hb hb.size b).size (.cells #[.string u.1.1,.string u.1.2.1,.string u.1.2.2,.string u.2.1,.string u.2.2.1,.string u.2.2.2] 51);have o:=Bk.new g #[.string u.1.1,.string u.1.2.1,.string u.1.2.2,.string u.2.1,.string u.2.2.1,.string u.2.2.2] 51;replace d:=(d.below b).alloc (.cells #[.string u.1.1,.string u.1.2.1,.string u.1.2.2,.string u.2.1,.string u.2.2.1,.string u.2.2.2] 51);clear b f hb;generalize g.alloc (.cells #[.string u.1.1,.string u.1.2.1,.string u.1.2.2,.string u.2.1,.string u.2.2.1,.string u.2.2.2] 51)=E at *
 generalize g.heap.size=F at *
 obtain ⟨G,H,I,J,K,L⟩:=o.c6;obtain ⟨z0,M,N,z3,z4,z5⟩:=d.c6;have O:=o.lt;have P:=d.lt;have Q:=d.fz;go_wp2_with fail
 obtain ⟨q,j⟩:=set6 d p (yaj _) (.string u.1.1) (.string u.1.2.1) (.string u.1.2.2) (.string u.2.1) (.string u.2.2.1) (.string u.2.2.2);obtain ⟨s,x,y,A,B,C⟩:=q.c6;refine bodyPost_ret (v:=.agg #[.string u.1.1,.string u.1.2.1,.string u.1.2.2,.string u.2.1,.string u.2.2.1,.string u.2.2.2]) (by simp [results,Tryz.results57,go_sem,s,x,y,A,B,C];try rfl) rfl ?_;exact ⟨rfl,j⟩
theorem Rd.grown_map {w w':World} {sz n c b m:Nat} {A:Option Addr} {xs:List Value} {D:DataW Unit} (h:Rd w w.heap.size sz A n c xs) (hsz:0<sz) (hm:w.ownsMap Tryz.prog 9 unitElem b m D) (hg:w.grownBy w' (some b)):Rd w' w'.heap.size sz A n c xs :=
 ⟨h.len,h.cap,h.capm,h.nil,fun k=>by
  obtain ⟨d,o,e,hb,p⟩:=h.at_ k;have E:=h.len;have s:0<n * sz:=Nat.mul_pos k hsz;obtain ⟨u,x⟩:∃u,xs[0]? = some u:=⟨_,yal yab⟩;have y:=p 0 u x;have f:d≠b:=fun q=>by
   obtain ⟨F,g,z,_⟩:=hm;subst q;simp [World.cell?,z] at y
  have B:=hg.block d hb fun q=>f (by cases q;rfl);refine ⟨d,o,e,yaw hb hg.size,fun j u C=>?_⟩;have:=p j u C;unfold World.cell? at this ⊢;dsimp only at this ⊢;rw [B];exact this⟩
theorem evT_flip {T:ByteArray→Bool} {e:Ev} (h:T e.2.1 = !e.2.2):evT T e=zdq T e.2.1:=by
 funext x
 unfold evT zdq;split
 · rw [h,Bool.not_not]
 · rfl
theorem MapD.same {w:World} {b n:Nat} {T U:ByteArray→Bool} (h:MapD w b n T) (e:T=U):MapD w b n U:=e ▸ h
section
variable {S:SpW} {f:CoF} {X Y F F':Nat→Prop} {w w':World} {g:Nat} {s:Sto Tb Nd15} {L:List Sp} {last:Int} {m:Mm}
theorem keysAt_any (K:SpK S) (h:StM S f X w F g s L last m) (r:Int) :
 Calls Tryz.prog 50 #[.pointer (some ⟨g,0,none⟩),.int .i64 r] w fun e w'=>(∃A c,e = .returned (.slice A (atB s r).keys.length c)∧Rd w' w'.heap.size 1 A (atB s r).keys.length c (ks (atB s r).keys))∧Below w.heap.size w w':=by
 have k1:=zi0 h r;obtain ⟨ke,u⟩:∃ke,(atB s r).keys=ke:=⟨_,rfl⟩;rw [u];cases hk:zaO s r with
 | false =>
  rw [hk] at k1;rw [zfn hk] at u;obtain rfl:ke=[]:=u.symm;go_enter Tryz.func50,Tryz.ntmps50
  go_wp2_with (go_at_call 30;refine k1.mono ?_;rintro e N ⟨rfl,y⟩)
  go_ret
  exact ⟨⟨none,0,rfl,Rd.none_ _ _ _⟩,y⟩
 | true =>
  rw [hk] at k1;obtain ⟨h2,h3⟩:=zbG.1 hk;have a1:0≤r:=by have:=h.floor0;omega
  have aq:r≤9223372036854775807:=by have:=h.most;omega
  have ac:=@run_makeMap Tryz.prog;have G:=fun k=>evT_all h.spb.fine a1 k;have o:=fun (i:Nat) e he=>zoO h.spb.fine a1 (i:=i) (e:=e) he;have hT:=h.spb.tell r h2 h3;rw [u] at hT;have O:Rises ke:=by
   obtain ⟨i,_,hv⟩:=ziI hk;rw [←u];exact h.ok.rise _ (yar hv)
  have ad:=zlo L 0 r;have ar:=h.len;have P:∀(i:Nat) e,(eventsP L 0 r)[i]? = some e→e.2.1.size≤100000:=fun i e he=>by
   obtain ⟨x,H,ae⟩:=zlH.1 (yar he);have:=h.keys x H;rcases (zc2.1 ae).2 with q | ⟨_,q⟩ <;> (rw [q];exact this)
  have Q:=fun W (hb:Below w.heap.size w W)=>K.events 0 r (h.up K hb).sp h.spb.fine yab;obtain ⟨ev,a2⟩:∃ev,eventsP L 0 r=ev:=⟨_,rfl⟩;rw [a2] at G o ad P Q;clear u a2;go_enter Tryz.func50,Tryz.ntmps50
  go_upto_region 4 with (go_at_call 30;refine k1.mono ?_;rintro e N ⟨rfl,y⟩)
  have a6:MapD (N.alloc (.map #[] 0)) N.heap.size 0 (fun _=>false):=⟨_,0,yaj _,World.ownsMap_made N Tryz.prog 9 unitElem,yaj _,fun _ _=>rfl⟩;have B:=y.alloc y.size (.map #[] 0);have au:w.heap.size≤N.heap.size:=y.size;generalize N.alloc (.map #[] 0)=w3 at *
  generalize N.heap.size=b at *
  have R:=h.up K B;have c0:=R.cs.1;have lt:=R.box.lt;have a7:=Q w3 B;clear ac k1 y Q R;go_wp2_with (go_at_call 60;refine a7.mono ?_;rintro e w4 ⟨A,c,rfl,I,d⟩)
  have a8:MapD w4 b 0 (fun _=>false):=a6.kept ⟨d.os,d.tape,d.output,d.size,fun k hk _=>d.block k hk⟩ (row:=none) yaf;have aa:=zad B B.size d;clear a7 c0 lt a6 B d;go_loopw [20] (fun vi wx=>∃i:Nat,vi = .int .i64 i∧i≤ev.length∧MapD wx b i ((ev.take i).foldl evT fun _=>false)∧Rd wx wx.heap.size 3 A ev.length c (ecs ev)∧Below w.heap.size w wx) (fun vi _=>ev.length-(intOf vi).toNat)
  case atStart=>exact ⟨0,rfl,yap _,a8,I,aa⟩
  case round =>
   clear I a8 aa;obtain ⟨i,rfl,hi,hM,I,hb⟩:=hrel;have af:=hb.size;by_cases ag:i<ev.length
   · have di:(i:Int)<(ev.length:Int):=by omega
     obtain ⟨x,H⟩:∃x,ev[i]? = some x:=⟨_,yal ag⟩;obtain ⟨b3,o3,rfl,av,g0,g1,g2⟩:=rd_ev I H;have z:=o i x H;have ah:=P i x H;have C:(ev.take (i + 1)).foldl evT (fun _=>false)=evT ((ev.take i).foldl evT fun _=>false) x:=by rw [yaC,H,yaR,yci];rfl
     rw [evT_flip z] at C;obtain ⟨rv,k,Z⟩:=x;dsimp only at g0 g1 g2 z ah C;obtain ⟨D,mm,hm,n,E,hh⟩:=hM;have ai:k.size≤maxLen:=by simp only [maxLen];omega
     have J:=zgY ai;have p:=n.alloc (.cells #[.int .i64 rv,.string k,.bool Z] 118);have d:=hb.alloc af (.cells #[.int .i64 rv,.string k,.bool Z] 118);have aj:=(I.alloc (yaj _) (.cells #[.int .i64 rv,.string k,.bool Z] 118)).more (B':=(wr.alloc (.cells #[.int .i64 rv,.string k,.bool Z] 118)).heap.size) yaf;have ak:mm<maxLen:=by simp only [maxLen];omega
     generalize ((ev.take i).foldl evT fun _=>false)=T at *
     have M:∀W,(wr.alloc (.cells #[.int .i64 rv,.string k,.bool Z] 118)).grownBy W (some b)→Rd W W.heap.size 3 (some ⟨b3,o3,none⟩) ev.length c (ecs ev)∧Below w.heap.size w W:=fun W hg=>⟨aj.grown_map yac p hg,⟨hg.os.trans d.os,hg.tape.trans d.tape,hg.output.trans d.output,yax d.size hg.size,fun j hj=>(hg.block j (yaw hj d.size) yag).trans (d.block j hj)⟩⟩;cases Z with
     | true =>
      have U:∀W,W.ownsMap Tryz.prog 9 unitElem b (mm + 1) (D.put (kB k) (.agg []))→MapD W b (i + 1) (zdq T k):=fun W h=>MapD.put z hm n E hh h;clear hh hm E z n I;go_wp2_with (at_mapUpdate;go_loud (refine wpList_mapUpdate_own _ rfl _ _ _ 132 rfl 9 168 zbv Tryz.underlying132 _ b mm _ rfl p ak _ _ _ rfl rfl J _ [] unitElem_mk ?_;intro w5 V Y))
      obtain ⟨q1,q2⟩:=M _ Y;exact ⟨⟨i + 1,by go_num,by omega,(U _ V).same C.symm,q1,q2⟩,by simp [intOf];omega⟩
     | false =>
      have U:∀W,W.ownsMap Tryz.prog 9 unitElem b mm (D.del (kB k))→MapD W b (i + 1) (zdq T k):=fun W h=>MapD.del z hm n E hh h;clear hh hm E z n I;go_wp2_with (at_delete;go_loud (refine wpList_delete_own _ rfl _ _ 132 9 rfl 168 zbv Tryz.underlying132 _ b mm D rfl p _ _ rfl J ?_;intro w5 V Y))
      obtain ⟨q1,q2⟩:=M _ Y.grown;exact ⟨⟨i + 1,by go_num,by omega,(U _ V).same C.symm,q1,q2⟩,by simp [intOf];omega⟩
   · obtain rfl:i=ev.length:=by omega
     have di:¬(((ev.length:Nat):Int)<(ev.length:Int)):=by omega
     rw [yaA] at hM;have kk:=zjY b wr;have al:=sorted_any hM yab;clear o P hM I;go_wp2_with (first
      | (go_at_call 90;refine kk.mono ?_;rintro e w5 ⟨rfl,rfl⟩)
      | (go_at_call 89;refine al.mono ?_;rintro e w6 ⟨A6,c6,t,rfl,ht,aw,ab,am,an⟩)
      | fail)
     go_ret
     have ao:t=ke:=ze8 ht O fun k=>by
      rw [ab k,G k,hT k];constructor
      · rintro ⟨_,q⟩;exact zas.1 q
      · intro q;exact ⟨by
         have hq:zdC L k r=true:=by rw [hT k];exact zas.2 q
         obtain ⟨x,H,e,_⟩:=zaJ.1 hq;have:=h.keys x H;rw [e] at this;simp only [maxLen];omega,zas.2 q⟩
     subst ao;exact ⟨⟨A6,c6,rfl,am⟩,zad hb hb.size an⟩
end
end
section
open Go.RowKit
theorem zps:(Tryz.prog.info? 54).map (fun i=>(i.zero,i.size,i.bytes))=some (some (.agg #[.string ⟨#[]⟩,.string ⟨#[]⟩,.string ⟨#[]⟩,.string ⟨#[]⟩,.string ⟨#[]⟩,.string ⟨#[]⟩,.bool false]),7,104):=by kernel_rfl
section
variable {S:SpW} {f:CoF} {X Y F F':Nat→Prop} {w w':World} {g:Nat} {s:Sto Tb Nd15} {L:List Sp} {last:Int} {m:Mm}
theorem StM.small (h:StM S f X w F g s L last m) (r:Int):(∀k ∈ (atB s r).keys,k.size≤100000)∧(atB s r).keys.length≤50000:=by
 cases hk:zaO s r with
 | false=>rw [zfn hk];exact ⟨fun _ q=>(by cases q),yap _⟩
 | true =>
  obtain ⟨b,d⟩:=zbG.1 hk;refine ⟨fun k q=>?_,?_⟩
  · have j:zdC L k r=true:=by rw [h.spb.tell r b d];exact zas.2 q
    obtain ⟨x,n,e,_⟩:=zaJ.1 j;have:=h.keys x n;rwa [e] at this
  · rw [←(h.spb.keys h.ok b d).2];exact yax (ybf _ _) h.len
theorem tuples_any (K:SpK S) (h:StM S f X w F g s L last m) (r:Int) :
 Calls Tryz.prog 20 #[.pointer (some ⟨g,0,none⟩),.int .i64 r] w fun e w'=>(∃A c,e = .returned (.slice A (atB s r).keys.length c)∧Rd w' w'.heap.size 6 A (atB s r).keys.length c (((atB s r).keys.map ofT).flatMap zeE))∧Below w.heap.size w w':=by
 obtain ⟨V,y,z,B,C⟩:=info_parts zic;have Y:=keysAt_any K h r;obtain ⟨D,Z⟩:=h.small r;generalize (atB s r).keys=b at *
 go_enter Tryz.func20,Tryz.ntmps20
 go_wp2_with (go_at_call 50;refine Y.mono ?_;rintro e n ⟨⟨A,c,rfl,hR⟩,o⟩)
 go_loopw [5,12] (fun vm E R=>∃i:Nat,E = .int .i64 i∧i≤b.length∧R.ownsRow n.heap.size 51 6 vm i (((b.take i).map ofT).flatMap zeE)∧Below n.heap.size n R) (fun _ E _=>b.length-(intOf E).toNat)
 case atStart=>exact ⟨0,rfl,yap _,World.ownsRow_nil _ _ _ _,Below.refl _ _⟩
 case round =>
  obtain ⟨i,rfl,hi,x,hb⟩:=hrel;have G:=hb.size;by_cases H:i<b.length
  · have di:(i:Int)<(b.length:Int):=by omega
    obtain ⟨k,hk⟩:∃k,b[i]? = some k:=⟨_,yal H⟩;obtain ⟨b3,o3,rfl,a1,g0⟩:=zhk (hR.below hb) hk;obtain ⟨I,J,rfl,_⟩:=Rd.own x;have M:((b.take (i + 1)).map ofT).flatMap zeE=((b.take i).map ofT).flatMap zeE ++ zeE (ofT k):=by rw [yaC,hk];simp
    have T:=fun W=>zg9 k (D k (yar hk)) W;unfold zf0 at T;generalize ofT k=u at *
    go_wp2_with (first
     | (go_at_call 57;refine (T _).mono ?_;rintro e w5 ⟨rfl,p⟩;have q:=zan x p;have d:=zad hb G p)
     | (at_builtin;go_loud (refine zab _ rfl (.tmp 16) (.tmp 19) 47 47 rfl n.heap.size 51 V _ 6 96 Tryz.underlying47 y z B C rfl yac (.slice I i J) i _ rfl (q.alloc _) _ 1 (zeE u) rfl (Src.ofSlice _ Tryz.underlying47 _ 1 1 _ rfl (cells_at _ #[.string u.1.1,.string u.1.2.1,.string u.1.2.2,.string u.2.1,.string u.2.2.1,.string u.2.2.2] _ _ yaf) (zjw _)) yad yab (zae d.size) ?_;intro v9 w8 j N U)))
    have O:w8.ownsRow n.heap.size 51 6 v9 (i + 1) (((b.take (i + 1)).map ofT).flatMap zeE):=by rw [M];exact j
    have P:=zaf (d.alloc d.size _) N (q.alloc _) (zae d.size) (yaj _);exact ⟨⟨i + 1,by go_num,by omega,O,P⟩,by simp [intOf];omega⟩
  · obtain rfl:i=b.length:=by omega
    have di:¬(((b.length:Nat):Int)<(b.length:Int)):=by omega
    rw [yaA] at x;obtain ⟨I,J,rfl,Q⟩:=Rd.own x;go_wp2_with fail
    go_ret
    exact ⟨⟨I,J,rfl,Q⟩,zad o o.size hb⟩
end
end
section
open Go.RowKit
def zeh (p:List (TuP × Bool)):List (ByteArray × Bool):=p.map fun x=>(zbu x.1,x.2)
theorem zgi (p:List (TuP × Bool)):(zeh p).length=p.length:=yay _
theorem zki {p:List (TuP × Bool)} {i:Nat} {x:TuP × Bool} (h:p[i]? = some x):zeh (p.take (i + 1))=zeh (p.take i) ++ [(zbu x.1,x.2)]:=by
 unfold zeh;rw [yaC,h];simp
theorem Bk.c7 {w:World} {b:Nat} {t:TypeId} {x0 x1 x2 x3 x4 x5 x6:Value} (h:Bk w b #[x0,x1,x2,x3,x4,x5,x6] t):w.cell? ⟨b,0,none⟩=some x0∧w.cell? ⟨b,1,none⟩=some x1∧w.cell? ⟨b,2,none⟩=some x2∧w.cell? ⟨b,3,none⟩=some x3∧w.cell? ⟨b,4,none⟩=some x4∧w.cell? ⟨b,5,none⟩=some x5∧w.cell? ⟨b,6,none⟩=some x6:=⟨h.cell 0,h.cell 1,h.cell 2,h.cell 3,h.cell 4,h.cell 5,h.cell 6⟩
theorem ofKeys_any {w:World} {A1 A2:Option Addr} {c1 c2:Nat} {p q:List (TuP × Bool)} (h1:Rd w w.heap.size 7 A1 p.length c1 (p.flatMap zco)) (h2:Rd w w.heap.size 7 A2 q.length c2 (q.flatMap zco)) (hp:p.length≤100000) (hq:q.length≤100000)
 (hkp:∀x ∈ p,(zbu x.1).size≤100000) (hkq:∀x ∈ q,(zbu x.1).size≤100000) :
 Calls Tryz.prog 35 #[.slice A1 p.length c1,.slice A2 q.length c2] w fun e w'=>(∃B1 d1 B2 d2,e = .returned (.tuple #[.slice B1 p.length d1,.slice B2 q.length d2])∧Rd w' w'.heap.size 2 B1 p.length d1 (pcs (zeh p))∧Rd w' w'.heap.size 2 B2 q.length d2 (pcs (zeh q)))∧Below w.heap.size w w':=by
 obtain ⟨i0,a6,a7,a8,aa⟩:=info_parts zpv;obtain ⟨j0,ab,ac,ad,ae⟩:=info_parts zgS;go_enter Tryz.func35,Tryz.ntmps35
 go_wp2_with fail
 go_loopw [6,14] (fun vm M X=>∃i:Nat,M = .int .i64 i∧i≤p.length∧X.ownsRow w.heap.size 126 2 vm i (pcs (zeh (p.take i)))∧Below w.heap.size w X) (fun _ M _=>p.length-(intOf M).toNat)
 case atStart=>exact ⟨0,rfl,yap _,World.ownsRow_nil _ _ _ _,Below.refl _ _⟩
 case round =>
  obtain ⟨i,rfl,hi,F,hb⟩:=hrel;have G:=hb.size;by_cases N:i<p.length
  · have di:(i:Int)<(p.length:Int):=by omega
    obtain ⟨x,H⟩:∃x,p[i]? = some x:=⟨_,yal N⟩;obtain ⟨b3,o3,rfl,af,j⟩:=zfB zco zfh (h1.below hb) rfl H;obtain ⟨J,K,rfl,_⟩:=Rd.own F;have s:=zki H;have O:=fun W=>zgX x.1 (hkp x (yar H)) W;obtain ⟨u,m⟩:=x;have g0:=j 0 _ rfl;have Y:=j 1 _ rfl;have Z:=j 2 _ rfl;have g3:=j 3 _ rfl;have g4:=j 4 _ rfl;have g5:=j 5 _ rfl;have g6:=j 6 _ rfl;dsimp only at g0 Y Z g3 g4 g5 g6 s O;rw [ybP] at g0;unfold zf0 at O;generalize zbu u=k at *
    clear H j;have y:=hb.alloc G (.cells #[.string u.1.1,.string u.1.2.1,.string u.1.2.2,.string u.2.1,.string u.2.2.1,.string u.2.2.2,.bool m] 66);have z:=F.alloc (.cells #[.string u.1.1,.string u.1.2.1,.string u.1.2.2,.string u.2.1,.string u.2.2.1,.string u.2.2.2,.bool m] 66);have n:=Bk.new wr #[.string u.1.1,.string u.1.2.1,.string u.1.2.2,.string u.2.1,.string u.2.2.1,.string u.2.2.2,.bool m] 66;go_upto_region 5 with (fail)
    generalize wr.alloc (.cells #[.string u.1.1,.string u.1.2.1,.string u.1.2.2,.string u.2.1,.string u.2.2.1,.string u.2.2.2,.bool m] 66)=A at *
    generalize wr.heap.size=gx at *
    have B:=n.below (zbj A);have P:=zan z (zbj A);have C:=zad y y.size (zbj A);have ah:=n.lt;have b:=fun W (hb:Below A.drew.heap.size A.drew W)=>(B.below hb).c7;obtain ⟨x0,x1,x2,x3,x4,x5,x6⟩:=b _ (Below.refl _ _);clear g0 Y Z g3 g4 g5 g6;have ag:(Value.slice J i K).ownBlock≠some gx:=Rk.apart n z yac;go_region_held3 (fun W=>W.cell? ⟨gx,0,none⟩=some (.string u.1.1)∧W.cell? ⟨gx,1,none⟩=some (.string u.1.2.1)∧W.cell? ⟨gx,2,none⟩=some (.string u.1.2.2)∧W.cell? ⟨gx,3,none⟩=some (.string u.2.1)∧W.cell? ⟨gx,4,none⟩=some (.string u.2.2.1)∧W.cell? ⟨gx,5,none⟩=some (.string u.2.2.2)∧W.cell? ⟨gx,6,none⟩=some (.bool m))
     (first | exact Q | exact R | go_keep | fail)
     ((first
      | (with_reducible refine (O _).mono ?_;rintro e6 I ⟨rfl,f⟩;have Q:=b I f;have D:=B.below f;have E:=zan P f;have g:=zad C C.size f)
      | (refine step_append_lies _ yae _ _ _ yae w.heap.size 126 i0 _ 2 24 Tryz.underlying83 a6 a7 a8 aa rfl yab (.slice J i K) i (pcs (zeh (p.take i))) yae (E.alloc _) ⟨I.heap.size,0,none⟩ 1 1 [.string k,.bool m] yae yae (World.news_of_block (cs:=#[.string k,.bool m]) (t:=126) (fr:=(0,0)) (heap_alloc_new I _)) (by simp [Value.oneCell']) yab yad yab (zae g.size) (I.heap.size + 1) yaf ?_;intro gg cap w8 o d ai aj;have R:=Bk.c7 (Rk.same (D.alloc _) (d.block gx (by have:=D.lt;simp;omega) (Ne.symm ag))))
      | fail))
    go_wp2_with fail
    have T:w8.ownsRow w.heap.size 126 2 (.slice (some ⟨gg,0,none⟩) (i + 1) cap) (i + 1) (pcs (zeh (p.take (i + 1)))):=by rw [s,zd3];exact o
    have U:=zaf (g.alloc g.size _) d (E.alloc _) (zae g.size) (yaj _);exact ⟨⟨i + 1,by go_num,by omega,T,U⟩,by simp [intOf];omega⟩
  · obtain rfl:i=p.length:=by omega
    have di:¬(((p.length:Nat):Int)<(p.length:Int)):=by omega
    rw [yaA] at F;obtain ⟨A7,c7,rfl,a1⟩:=Rd.own F;clear di F;go_wp2_with fail
    obtain ⟨V,a2⟩:∃V,V=wr:=⟨_,rfl⟩;rw [←a2] at hb a1 ⊢;have ak:=(h2.below hb).more hb.size;clear a2 G h1 h2;go_loopw [9,30] (fun vm M X=>∃i:Nat,M = .int .i64 i∧i≤q.length∧X.ownsRow V.heap.size 128 2 vm i (pcs (zeh (q.take i)))∧Below V.heap.size V X) (fun _ M _=>q.length-(intOf M).toNat)
    case atStart=>exact ⟨0,rfl,yap _,World.ownsRow_nil _ _ _ _,Below.refl _ _⟩
    case round =>
     have L:=hb;clear hb;obtain ⟨i,rfl,hi,F,hb⟩:=hrel;have G:=hb.size;by_cases N:i<q.length
     · have di:(i:Int)<(q.length:Int):=by omega
       obtain ⟨x,H⟩:∃x,q[i]? = some x:=⟨_,yal N⟩;obtain ⟨b3,o3,rfl,af,j⟩:=zfB zco zfh (ak.below hb) rfl H;obtain ⟨J,K,rfl,_⟩:=Rd.own F;have s:=zki H;have O:=fun W=>zgX x.1 (hkq x (yar H)) W;obtain ⟨u,m⟩:=x;have g0:=j 0 _ rfl;have Y:=j 1 _ rfl;have Z:=j 2 _ rfl;have g3:=j 3 _ rfl;have g4:=j 4 _ rfl;have g5:=j 5 _ rfl;have g6:=j 6 _ rfl;dsimp only at g0 Y Z g3 g4 g5 g6 s O;rw [ybP] at g0;unfold zf0 at O;generalize zbu u=k at *
       clear H j;have y:=hb.alloc G (.cells #[.string u.1.1,.string u.1.2.1,.string u.1.2.2,.string u.2.1,.string u.2.2.1,.string u.2.2.2,.bool m] 54);have z:=F.alloc (.cells #[.string u.1.1,.string u.1.2.1,.string u.1.2.2,.string u.2.1,.string u.2.2.1,.string u.2.2.2,.bool m] 54);have n:=Bk.new wr #[.string u.1.1,.string u.1.2.1,.string u.1.2.2,.string u.2.1,.string u.2.2.1,.string u.2.2.2,.bool m] 54;go_upto_region 11 with (fail)
       generalize wr.alloc (.cells #[.string u.1.1,.string u.1.2.1,.string u.1.2.2,.string u.2.1,.string u.2.2.1,.string u.2.2.2,.bool m] 54)=A at *
       generalize wr.heap.size=gx at *
       have B:=n.below (zbj A);have P:=zan z (zbj A);have C:=zad y y.size (zbj A);have ah:=n.lt;have b:=fun W (hb:Below A.drew.heap.size A.drew W)=>(B.below hb).c7;obtain ⟨x0,x1,x2,x3,x4,x5,x6⟩:=b _ (Below.refl _ _);clear g0 Y Z g3 g4 g5 g6;have ag:(Value.slice J i K).ownBlock≠some gx:=Rk.apart n z yac;go_region_held3 (fun W=>W.cell? ⟨gx,0,none⟩=some (.string u.1.1)∧W.cell? ⟨gx,1,none⟩=some (.string u.1.2.1)∧W.cell? ⟨gx,2,none⟩=some (.string u.1.2.2)∧W.cell? ⟨gx,3,none⟩=some (.string u.2.1)∧W.cell? ⟨gx,4,none⟩=some (.string u.2.2.1)∧W.cell? ⟨gx,5,none⟩=some (.string u.2.2.2)∧W.cell? ⟨gx,6,none⟩=some (.bool m))
        (first | exact Q | exact R | go_keep | fail)
        ((first
         | (with_reducible refine (O _).mono ?_;rintro e6 I ⟨rfl,f⟩;have Q:=b I f;have D:=B.below f;have E:=zan P f;have g:=zad C C.size f)
         | (refine step_append_lies _ yae _ _ _ yae V.heap.size 128 j0 _ 2 24 Tryz.underlying84 ab ac ad ae rfl yab (.slice J i K) i (pcs (zeh (q.take i))) yae (E.alloc _) ⟨I.heap.size,0,none⟩ 1 1 [.string k,.bool m] yae yae (World.news_of_block (cs:=#[.string k,.bool m]) (t:=128) (fr:=(0,0)) (heap_alloc_new I _)) (by simp [Value.oneCell']) yab yad yab (zae g.size) (I.heap.size + 1) yaf ?_;intro gg cap w8 o d ai aj;have R:=Bk.c7 (Rk.same (D.alloc _) (d.block gx (by have:=D.lt;simp;omega) (Ne.symm ag))))
         | fail))
       go_wp2_with fail
       have T:w8.ownsRow V.heap.size 128 2 (.slice (some ⟨gg,0,none⟩) (i + 1) cap) (i + 1) (pcs (zeh (q.take (i + 1)))):=by rw [s,zd3];exact o
       have U:=zaf (g.alloc g.size _) d (E.alloc _) (zae g.size) (yaj _);exact ⟨⟨i + 1,by go_num,by omega,T,U⟩,by simp [intOf];omega⟩
     · obtain rfl:i=q.length:=by omega
       have di:¬(((q.length:Nat):Int)<(q.length:Int)):=by omega
       rw [yaA] at F;obtain ⟨J,K,rfl,al⟩:=Rd.own F;go_wp2_with fail
       refine bodyPost_ret (v:=.tuple #[.slice A7 p.length c7,.slice J q.length K]) (by simp [results,Tryz.results35,go_sem]) rfl ?_;exact ⟨⟨A7,c7,J,K,rfl,a1.up hb,al⟩,zad L L.size hb⟩
section
variable {S:SpW} {f:CoF} {X Y F F':Nat→Prop} {w w':World} {g:Nat} {s:Sto Tb Nd15} {L:List Sp} {last:Int} {m:Mm}
theorem right15_any (K:SpK S) (h:StM S f X w F g s L last m) {A:Option Addr} {c:Nat} {l:List TuP} (hR:Rd w w.heap.size 6 A l.length c (l.flatMap zeE)) (hl:l.length≤100000) (hs:∀u ∈ l,∀x ∈ zaE u,x.size≤100000) :
 Calls Tryz.prog 33 #[.pointer (some ⟨g,0,none⟩),.slice A l.length c] w fun e w'=>e = .returned (.tuple #[.int .i64 (zaU (p15 f) (zai s).T l 0).1,.int .i64 ((zaU (p15 f) (zai s).T l 0).2:Nat)])∧Below w.heap.size w w':=by
 have Y:=zcP h.toStR;have D:=fun W (hb:Below w.heap.size w W)=>schema15_any K (h.up K hb) (revB s);rw [za5 h.ok.has] at D;obtain ⟨R,B⟩:∃R,zaU (p15 f) (zai s).T l 0=R:=⟨_,rfl⟩;rw [B];generalize (zai s).T=T at *
 generalize (zai s).text=tx at *
 simp only [Tm.val] at D;go_enter Tryz.func33,Tryz.ntmps33
 go_upto_region 2 with (first
  | (go_at_call 17;refine Y.mono ?_;rintro e w2 ⟨rfl,j⟩)
  | (go_at_call 26;refine (D _ j).mono ?_;rintro e C ⟨⟨t,rfl,Z,I,k⟩,n⟩;clear I;replace k:=Lib.hid k))
 have hT:=Bk.new C #[.string t.tx,.slice t.Ay t.ty.length t.cy,.map t.mb,.slice t.Ar t.K.length t.cr] 61;have y:=zad (zad j j.size n) (zad j j.size n).size (zaM C (.cells #[.string t.tx,.slice t.Ay t.ty.length t.cy,.map t.mb,.slice t.Ar t.K.length t.cr] 61));have J:=Z.step (Stay.below (zaM C (.cells #[.string t.tx,.slice t.Ay t.ty.length t.cy,.map t.mb,.slice t.Ar t.K.length t.cr] 61))) fun _ q=>.inl q;generalize C.alloc (.cells #[.string t.tx,.slice t.Ay t.ty.length t.cy,.map t.mb,.slice t.Ar t.K.length t.cr] 61)=E at *
 generalize C.heap.size=gt at *
 clear Y D j n Z;go_wp2_with fail
 go_loopw [16] (fun M wx=>∃i:Nat,M = .int .i64 i∧i≤l.length∧Hid (zaU (p15 f) T (l.drop i) i=R)∧Below E.heap.size E wx) (fun M _=>l.length-(intOf M).toNat)
 case atStart=>exact ⟨0,rfl,yap _,Lib.hid B,Below.refl _ _⟩
 case round =>
  obtain ⟨i,rfl,hi,N,hb⟩:=hrel;have O:=hb.size;by_cases P:i<l.length
  · have di:(i:Int)<(l.length:Int):=by omega
    obtain ⟨u,Q⟩:∃u,l[i]? = some u:=⟨_,yal P⟩;obtain ⟨b3,o3,rfl,a1,o⟩:=zfB zeE znh ((hR.below y).belowLe hb y.size) rfl Q;have g0:=o 0 _ rfl;have g1:=o 1 _ rfl;have g2:=o 2 _ rfl;have g3:=o 3 _ rfl;have g4:=o 4 _ rfl;have g5:=o 5 _ rfl;rw [ybP] at g0;have b:=N.out;rw [zdd Q] at b;unfold zaU at b;rw [zbs] at b;have d:=hb.alloc O (.cells #[.string u.1.1,.string u.1.2.1,.string u.1.2.2,.string u.2.1,.string u.2.2.1,.string u.2.2.2] 51);have G:=fun W (hb:Below E.heap.size E W)=>Tm.right (J.step (Stay.below hb) fun _ q=>.inl q) u (hs u (yar Q));rw [k.out] at G;simp only [Tm.val,zf0] at G;have U:=hT.below d;obtain ⟨t0,t1,t2,t3⟩:=U.c4;have V:=Bk.new wr #[.string u.1.1,.string u.1.2.1,.string u.1.2.2,.string u.2.1,.string u.2.2.1,.string u.2.2.2] 51;generalize zaR T u=z at *
    clear o N V;by_cases H:z=0
    · rw [yan H] at b;subst H;replace b:=Lib.hid b;go_wp2_with (go_at_call 44;refine (G _ d).mono ?_;rintro e w6 ⟨rfl,p⟩)
      exact ⟨⟨i + 1,by go_num,by omega,b,zad d d.size p⟩,by simp [intOf];omega⟩
    · rw [yak H] at b;have a2:(z == 0)=false:=by simpa using H
      obtain ⟨R1,R2⟩:=R;injection b with e1 e2
      subst e1 e2;go_wp2_with (go_at_call 44;refine (G _ d).mono ?_;rintro e w6 ⟨rfl,p⟩)
      refine bodyPost_ret (v:=.tuple #[.int .i64 z,.int .i64 (i:Nat)]) (by simp [results,Tryz.results33,go_sem]) rfl ?_;exact ⟨rfl,zad y y.size (zad d d.size p)⟩
  · obtain rfl:i=l.length:=by omega
    have di:¬(((l.length:Nat):Int)<(l.length:Int)):=by omega
    have b:=N.out;rw [ybV] at b;obtain rfl:R=(0,0):=b.symm;go_wp2_with fail
    refine bodyPost_ret (v:=.tuple #[.int .i64 0,.int .i64 0]) (by simp [results,Tryz.results33,go_sem]) rfl ?_;exact ⟨rfl,zad y y.size hb⟩
end
end
end Go.Proofs.YtmblgnddgmfkhaaGreat
