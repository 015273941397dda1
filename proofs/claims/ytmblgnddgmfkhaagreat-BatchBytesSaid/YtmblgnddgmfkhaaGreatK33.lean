import Derived.Test.YtmblgnddgmfkhaaGreatK32
set_option maxRecDepth 100000
set_option maxHeartbeats 4000000
namespace Go.Proofs.YtmblgnddgmfkhaaGreat
section
open Go.RowKit
variable {s:List ByteArray} {T:ByteArray→Bool} {w:World} {b mm:Nat} {k:ByteArray}
def AppO (w w':World) (r:List ByteArray × Nat × Nat) (e:Ending):Prop:=∃A c,e = .returned (.tuple #[.slice A r.1.length c,.int .i64 (r.2.1:Nat),.int .i64 (r.2.2:Nat)])∧w'.ownsRow w.heap.size 9 1 (.slice A r.1.length c) r.1.length (ks r.1)∧Below w.heap.size w w'
theorem zpW (k:ByteArray) (b:Bool) (w:World):Calls Tryz.prog 69 #[.agg #[.string k,.bool b]] w fun e w'=>e = .returned (.func (.func (if b then 109 else 110)) #[] #[])∧w'=w.alloc (.cells #[.string k,.bool b] 128):=by
 cases b
 · go_enter Tryz.func69,Tryz.ntmps69
   go_wp2_with fail
   go_ret
   exact ⟨rfl,rfl⟩
 · go_enter Tryz.func69,Tryz.ntmps69
   go_wp2_with fail
   go_ret
   exact ⟨rfl,rfl⟩
theorem ddo_any {A:Option Addr} {n c B:Nat} (add:Bool) (h:Rd w B 1 A n c (ks s)) (hB:B≤w.heap.size) (hn:n=s.length) (hs:Rises s) (hl:n≤1000000) (hM:MapD w b mm T) (hmm:mm<1000000) (hk:k.size≤maxLen) :
 Calls Tryz.prog (if add then 109 else 110) #[.agg #[.slice A n c,.map (some b)],.string k] w fun e w'=>∃z,e = .returned (.int .i64 z)∧Step w w' b mm T k (hasK s k != T k) add z∧w.grownBy w' (some b):=by
 cases add
 · exact ddrop_any h hB hn hs hl hM hmm hk
 · exact dput_any h hB hn hs hl hM hmm hk
theorem zrS {w':World} {add:Bool} {z:Int} {e:Ending} (he:e = .returned (.int .i64 z)) (h:Step w w' b mm T k (!add) add z) (hg:w.grownBy w' (some b)):e = .returned (.int .i64 0)∧MapD w' b (mm + 1) (zdN T k)∧w.grownBy w' (some b):=by
 cases h with
 | done h f _=>exact ⟨he,f,hg⟩
 | not h=>cases add <;> cases h
theorem step_not {w':World} {add:Bool} {z:Int} {e:Ending} (he:e = .returned (.int .i64 z)) (h:Step w w' b mm T k add add z) (hg:w.grownBy w' (some b)):e = .returned (.int .i64 (if add then 32 else 41))∧w.grownBy w' (some b):=by
 cases h with
 | done h f _=>cases add <;> cases h
 | not h=>exact ⟨he,hg⟩
structure Now (s t:List ByteArray) (T:ByteArray→Bool):Prop where
 rises:Rises t
 has:∀k:ByteArray,k.size≤maxLen→hasK t k=(hasK s k != T k)
 small:∀k ∈ t,k.size≤maxLen
theorem Now.start (h:Rises s) (hk:∀k ∈ s,k.size≤maxLen):Now s s fun _=>false:=⟨h,fun k _=>by cases hasK s k <;> rfl,hk⟩
theorem Now.step {t:List ByteArray} {c:ByteArray × Bool} (h:Now s t T) (hc:c.1.size≤maxLen) (k:hasK t c.1 = !c.2):Now s (zkg t c) (zdN T c.1):=by
 refine ⟨zcJ h.rises k,fun x b=>?_,fun x b=>?_⟩
 · rw [zbT k];unfold zdN;by_cases e:x=c.1
   · rw [yan e,yan e,e];have f:=h.has c.1 hc;rw [k] at f;cases g:c.2 <;> cases j:T c.1 <;> cases m:hasK s c.1 <;> simp_all
   · rw [yak e,yak e,h.has x b]
 · rcases Decidable.em (x=c.1) with e | e
   · rw [e];exact hc
   · have:=zbT k x;rw [yak e,zar.2 b] at this;exact h.small x (zar.1 this.symm)
theorem Now.end_ {t r:List ByteArray} (h:Now s t T) (hk:∀k ∈ s,k.size≤maxLen) (hr:Rises r) (h2:∀k:ByteArray,hasK r k=(hasK s k != (decide (k.size≤maxLen) && T k))):r=t:=by
 refine zeJ hr h.rises fun k=>?_;rw [←zar,←zar,h2 k];by_cases e:k.size≤maxLen
 · rw [yaB e,ycl,h.has k e]
 · rw [yaF e,yb6];have b:hasK s k=false:=zbg.2 fun q=>e (hk k q);have f:hasK t k=false:=zbg.2 fun q=>e (h.small k q);rw [b,f];rfl
theorem apply_any {A A1 A2:Option Addr} {c c1 c2:Nat} {p ch:List (ByteArray × Bool)} (h:Rd w w.heap.size 1 A s.length c (ks s)) (hs:Rises s) (hsk:∀k ∈ s,k.size≤maxLen) (hl:s.length≤500000)
 (h1:Rd w w.heap.size 2 A1 p.length c1 (pcs p)) (hp:p.length≤100000) (h2:Rd w w.heap.size 2 A2 ch.length c2 (pcs ch)) (hc:ch.length≤100000) (hck:∀x ∈ ch,x.1.size≤maxLen) :
 Calls Tryz.prog 37 #[.slice A s.length c,.slice A1 p.length c1,.slice A2 ch.length c2] w fun e w'=>AppO w w' (zcm s p ch) e:=by
 have ad:=@run_makeMap Tryz.prog;obtain ⟨r,V⟩:∃r,zcm s p ch=r:=⟨_,rfl⟩;rw [V];have V:=Lib.hid V;have kh:=fun (W:World) (hW:Below w.heap.size w W) (k:ByteArray)=>has_any (h.below hW) rfl hs yab k;go_enter Tryz.func37,Tryz.ntmps37
 go_wp2_with fail
 go_loopw [18] (fun X wx=>∃i:Nat,X = .int .i64 i∧i≤p.length∧Below w.heap.size w wx∧Hid (∀(j:Nat) y,j<i→p[j]? = some y→hasK s y.1=y.2)) (fun X _=>p.length-(intOf X).toNat)
 case atStart=>exact ⟨0,rfl,yao _,Below.refl _ _,Lib.hid fun j y hj=>by omega⟩
 case round =>
  obtain ⟨i,rfl,hi,hb,ha⟩:=hrel;have f:=hb.size;by_cases ae:i<p.length
  · have di:(i:Int)<(p.length:Int):=by omega
    obtain ⟨x,F⟩:∃x,p[i]? = some x:=⟨_,yal ae⟩;obtain ⟨b1,o1,rfl,af,g0,H⟩:=zf9 (h1.below hb) F;obtain ⟨k,e⟩:=x;dsimp only at g0 H;obtain ⟨W1,b⟩:∃W1,wr.alloc (.cells #[.string k,.bool e] 126)=W1:=⟨_,rfl⟩;obtain ⟨p0,p1⟩:=box2 wr (.string k) (.bool e) 126;rw [b] at p0 p1;have I:Below w.heap.size w W1:=b ▸ hb.alloc f _;replace b:=Lib.hid b;have kq:=fun q=>kh (W1.drewN q) (I.trans (zam _ _ _)) k;by_cases g:hasK s k=e
    · have a7:Hid (∀(j:Nat) y,j<i + 1→p[j]? = some y→hasK s y.1=y.2):=Lib.hid fun j y hj hy=>by
       by_cases q:j=i
       · subst q;rw [F] at hy;cases hy;exact g
       · exact ha.out j y yab hy
      rw [g] at kq;clear ha F g kh;cases e
      · go_upto_region 4 with (fail)
        rw [b.out];clear b g0 H;go_quiet ((go_at_call 68;exact Calls.quiet_of (kq _)))
        go_wp2_with fail
        exact ⟨⟨i + 1,by go_num,by omega,I.trans (zam _ _ _),a7⟩,by simp [intOf];omega⟩
      · go_upto_region 4 with (fail)
        rw [b.out];clear b g0 H;go_quiet ((go_at_call 68;exact Calls.quiet_of (kq _)))
        go_wp2_with fail
        exact ⟨⟨i + 1,by go_num,by omega,I.trans (zam _ _ _),a7⟩,by simp [intOf];omega⟩
    · have J:Hid (r=([],41,i)):=Lib.hid (by rw [←V.out,zcm,zlj ha.out F g]);have o:hasK s k = !e:=(by cases q1:hasK s k <;> cases e <;> simp_all);rw [o] at kq;clear ha F g kh o V;cases e
      · go_upto_region 4 with (fail)
        rw [b.out];clear b g0 H;go_quiet ((go_at_call 68;exact Calls.quiet_of (kq _)))
        go_wp2_with fail
        go_returns
        rw [J.out];exact ⟨none,0,rfl,World.ownsRow_nil _ _ _ _,I.trans (zam _ _ _)⟩
      · go_upto_region 4 with (fail)
        rw [b.out];clear b g0 H;go_quiet ((go_at_call 68;exact Calls.quiet_of (kq _)))
        go_wp2_with fail
        go_returns
        rw [J.out];exact ⟨none,0,rfl,World.ownsRow_nil _ _ _ _,I.trans (zam _ _ _)⟩
  · obtain rfl:i=p.length:=by omega
    have di:¬(((p.length:Nat):Int)<(p.length:Int)):=by omega
    have J:Hid (zct s ch p.length=r):=Lib.hid (by
     have hn:ziq s p=none:=zlh fun x F=>by
      obtain ⟨j,hj,e⟩:=ycf F;exact ha.out j x hj (by rw [yal hj,e])
     rw [←V.out,zcm,hn])
    have Y:MapD ((wr.alloc (.map #[] 0)).alloc (.cells #[.slice A s.length c,.map (some wr.heap.size)] 134)) wr.heap.size 0 fun _=>false :=
     MapD.alloc ⟨.map [],0,yaj _,World.ownsMap_made wr _ _ _,yaj _,fun _ _=>rfl⟩ _
    obtain ⟨d0,d1⟩:=box2 (wr.alloc (.map #[] 0)) (.slice A s.length c) (.map (some wr.heap.size)) 134;have Z:=(hb.alloc f (.map #[] 0)).alloc (zad f) (.cells #[.slice A s.length c,.map (some wr.heap.size)] 134);obtain ⟨bm,a8⟩:∃bm,wr.heap.size=bm:=⟨_,rfl⟩;have ag:bm≠bm + 1:=by omega
    simp only [World.size_alloc] at d0 d1;rw [a8] at Y d0 d1 Z f;have hN:=Lib.hid (Now.start hs hsk);have D:w.heap.size≤bm:=f;clear ha V hi h1 kh hb ag f;go_wp2_with fail
    clear ad a8;go_loopw [37] (fun X wx=>∃(j:Nat) (t:List ByteArray) (T:ByteArray→Bool),X = .int .i64 j∧j≤ch.length∧Below w.heap.size w wx∧MapD wx bm j T∧wx.cell? ⟨bm + 1,0,none⟩=some (.slice A s.length c)∧wx.cell? ⟨bm + 1,1,none⟩=some (.map (some bm))∧Hid (Now s t T)∧Hid (zct t (ch.drop j) (p.length + j)=r)) (fun X _=>ch.length-(intOf X).toNat)
    case atStart=>exact ⟨0,s,_,rfl,yao _,Z,Y,d0,d1,hN,J⟩
    case round =>
     obtain ⟨j,t,T,rfl,hj,hb,hM,e0,e1,E,G⟩:=hrel;clear Y d0 d1 Z hN J;have f:=hb.size;have am:=hM.lt;by_cases ah:j<ch.length
     · have dj:(j:Int)<(ch.length:Int):=by omega
       obtain ⟨x,F⟩:∃x,ch[j]? = some x:=⟨_,yal ah⟩;obtain ⟨b1,o1,rfl,af,g0,H⟩:=zf9 (h2.below hb) F;have O:=hck x (yaq F);have P:=zc3 F;obtain ⟨k,e⟩:=x;dsimp only at g0 H O;have Q:=E.out;have hT:=Q.has k O;obtain ⟨p0,p1⟩:=box2 wr (.string k) (.bool e) 128;have K:=hb.alloc f (.cells #[.string k,.bool e] 128);have R:=hM.alloc (.cells #[.string k,.bool e] 128);have U:bm + 1<wr.heap.size:=World.block_lt_of_cell? wr _ e0;have f0:(wr.alloc (.cells #[.string k,.bool e] 128)).cell? ⟨bm + 1,0,none⟩=some (.slice A s.length c):=Lib.cell?_alloc_some _ e0;have f1:(wr.alloc (.cells #[.string k,.bool e] 128)).cell? ⟨bm + 1,1,none⟩=some (.map (some bm)):=Lib.cell?_alloc_some _ e1;have aa:wr.heap.size<(wr.alloc (.cells #[.string k,.bool e] 128)).heap.size:=by simp
       obtain ⟨W1,b⟩:∃W1,wr.alloc (.cells #[.string k,.bool e] 128)=W1:=⟨_,rfl⟩;rw [b] at p0 p1 K R f0 f1 aa;obtain ⟨W2,C⟩:∃W2,W1.alloc (.cells #[.string k,.bool e] 128)=W2:=⟨_,rfl⟩;have r0:W2.cell? ⟨wr.heap.size,0,none⟩=some (.string k):=C ▸ Lib.cell?_alloc_some _ p0;have q0:W2.cell? ⟨bm + 1,0,none⟩=some (.slice A s.length c):=C ▸ Lib.cell?_alloc_some _ f0;have q1:W2.cell? ⟨bm + 1,1,none⟩=some (.map (some bm)):=C ▸ Lib.cell?_alloc_some _ f1;have n:Below w.heap.size w W2:=C ▸ K.alloc K.size _;have a1:MapD W2 bm j T:=C ▸ R.alloc _;have kd:=zpW k e W1;rw [C] at kd;have L:=ddo_any e (h.below n) n.size rfl hs yab a1 yab O;rw [←hT] at L;replace b:=Lib.hid b;by_cases g:hasK t k = !e
       · have ab:Hid (Now s (zkg t (k,e)) (zdN T k)):=Lib.hid (Q.step (c:=(k,e)) O g);have M:Hid (zct (zkg t (k,e)) (ch.drop (j + 1)) (p.length + (j + 1))=r):=Lib.hid (by rw [←G.out,P,zb1 (c:=(k,e)) g];rfl);rw [g] at L;replace L:=L.mono fun N w9 ⟨z,he,a2,hg⟩=>zrS he a2 hg;clear P F hT g Q E G hM R a1 e0 e1 hb K f U C;cases e
         · go_upto_region 11 with (fail)
           rw [b.out];clear b g0 H;go_wp2_with (first
            | (go_at_call 69;refine kd.mono ?_;rintro N w4 ⟨rfl,rfl⟩)
            | (go_at_call 110;refine L.mono ?_;rintro N w5 ⟨rfl,a6,m⟩)
            | fail)
           have B:=n.grown m n.size fun k hk=>(by cases hk;exact D);exact ⟨⟨j + 1,zkg t (k,false),zdN T k,by go_num,by omega,B,a6,m.cell q0 yaf,m.cell q1 yaf,ab,M⟩,by simp [intOf];omega⟩
         · go_upto_region 11 with (fail)
           rw [b.out];clear b g0 H;go_wp2_with (first
            | (go_at_call 69;refine kd.mono ?_;rintro N w4 ⟨rfl,rfl⟩)
            | (go_at_call 109;refine L.mono ?_;rintro N w5 ⟨rfl,a6,m⟩)
            | fail)
           have B:=n.grown m n.size fun k hk=>(by cases hk;exact D);exact ⟨⟨j + 1,zkg t (k,true),zdN T k,by go_num,by omega,B,a6,m.cell q0 yaf,m.cell q1 yaf,ab,M⟩,by simp [intOf];omega⟩
       · have o:hasK t k=e:=by cases q1:hasK t k <;> cases e <;> simp_all
         have M:Hid (r=([],if e then 32 else 41,p.length + j)):=Lib.hid (by rw [←G.out,P,zb7 (c:=(k,e)) o]);rw [o] at L;replace L:=L.mono fun N w9 ⟨z,he,a2,hg⟩=>step_not he a2 hg;clear P F hT g o Q E G hM R a1 e0 e1 hb K f U C;cases e
         · go_upto_region 11 with (fail)
           rw [b.out];clear b g0 H;go_wp2_with (first
            | (go_at_call 69;refine kd.mono ?_;rintro N w4 ⟨rfl,rfl⟩)
            | (go_at_call 110;refine L.mono ?_;rintro N w5 ⟨rfl,m⟩)
            | fail)
           have B:=n.grown m n.size fun k hk=>(by cases hk;exact D);go_returns
           rw [M.out];exact ⟨none,0,rfl,World.ownsRow_nil _ _ _ _,B⟩
         · go_upto_region 11 with (fail)
           rw [b.out];clear b g0 H;go_wp2_with (first
            | (go_at_call 69;refine kd.mono ?_;rintro N w4 ⟨rfl,rfl⟩)
            | (go_at_call 109;refine L.mono ?_;rintro N w5 ⟨rfl,m⟩)
            | fail)
           have B:=n.grown m n.size fun k hk=>(by cases hk;exact D);go_returns
           rw [M.out];exact ⟨none,0,rfl,World.ownsRow_nil _ _ _ _,B⟩
     · obtain rfl:j=ch.length:=by omega
       have dj:¬(((ch.length:Nat):Int)<(ch.length:Int)):=by omega
       have ai:r=(t,0,0):=by
        rw [←G.out,yb0];rfl
       subst ai;have ac:=set_any (h.up hb) hs yab hM yab;clear G;go_wp2_with (go_at_call 70;refine ac.mono ?_;rintro N w5 ⟨A5,c5,u,rfl,aj,ak,_,al,B⟩)
       go_returns
       obtain rfl:=E.out.end_ hsk aj ak;exact ⟨A5,c5,rfl,zaA al f,zac hb f B⟩
end
section
open Go.RowKit
theorem zfC (k:ByteArray) (hk:k.size≤100000) (w:World):Calls Tryz.prog 57 #[.string k] w fun e w'=>e = .returned (zgF (ofT k))∧Below w.heap.size w w':=by
 have g:=from_any12 (w:=w.alloc (.cells #[.string ⟨#[]⟩,.string ⟨#[]⟩,.string ⟨#[]⟩,.string ⟨#[]⟩,.string ⟨#[]⟩,.string ⟨#[]⟩] 51)) k hk;have n:tupO (zdP k)=ofT k:=rfl;rw [n] at g;unfold zgF;obtain ⟨u,o⟩:∃u,ofT k=u:=⟨_,rfl⟩;rw [o] at g ⊢;generalize (zdP k).isSome=z at *
 clear n o;have f:=Bk.new w #[.string ⟨#[]⟩,.string ⟨#[]⟩,.string ⟨#[]⟩,.string ⟨#[]⟩,.string ⟨#[]⟩,.string ⟨#[]⟩] 51;have hb:=zaI w (.cells #[.string ⟨#[]⟩,.string ⟨#[]⟩,.string ⟨#[]⟩,.string ⟨#[]⟩,.string ⟨#[]⟩,.string ⟨#[]⟩] 51);go_enter Tryz.func57,Tryz.ntmps57
 go_upto_region 1 with (fail)
 generalize w.alloc (.cells #[.string ⟨#[]⟩,.string ⟨#[]⟩,.string ⟨#[]⟩,.string ⟨#[]⟩,.string ⟨#[]⟩,.string ⟨#[]⟩] 51)=F at *
 go_upto_region 2 with (go_at_call 98;refine g.mono ?_;rintro e j ⟨rfl,b⟩)
 have s:=(zac hb hb.size b).alloc (zac hb hb.size b).size (.cells #[.string u.1.1,.string u.1.2.1,.string u.1.2.2,.string u.2.1,.string u.2.2.1,.string u.2.2.2] 51);have q:=Bk.new j #[.string u.1.1,.string u.1.2.1,.string u.1.2.2,.string u.2.1,.string u.2.2.1,.string u.2.2.2] 51;replace f:=(f.below b).alloc (.cells #[.string u.1.1,.string u.1.2.1,.string u.1.2.2,.string u.2.1,.string u.2.2.1,.string u.2.2.2] 51);clear b g hb;generalize j.alloc (.cells #[.string u.1.1,.string u.1.2.1,.string u.1.2.2,.string u.2.1,.string u.2.2.1,.string u.2.2.2] 51)=G at *
 generalize j.heap.size=H at *
 obtain ⟨I,J,K,L,M,N⟩:=q.c6;obtain ⟨z0,O,P,z3,z4,z5⟩:=f.c6;have Q:=q.lt;have R:=f.lt;have T:=f.fz;go_wp2_with fail
 obtain ⟨x,m⟩:=set6 f s (yaj _) (.string u.1.1) (.string u.1.2.1) (.string u.1.2.2) (.string u.2.1) (.string u.2.2.1) (.string u.2.2.2);obtain ⟨y,A,B,C,D,E⟩:=x.c6;refine bodyPost_ret (v:=.agg #[.string u.1.1,.string u.1.2.1,.string u.1.2.2,.string u.2.1,.string u.2.2.1,.string u.2.2.2]) (by simp [results,Tryz.results57,go_sem,y,A,B,C,D,E];try rfl) rfl ?_;exact ⟨rfl,m⟩
theorem Rd.grown_map {w w':World} {sz n c b m:Nat} {A:Option Addr} {xs:List Value} {D:DataW Unit} (h:Rd w w.heap.size sz A n c xs) (hsz:0<sz) (hm:w.ownsMap Tryz.prog 9 unitElem b m D) (hg:w.grownBy w' (some b)):Rd w' w'.heap.size sz A n c xs :=
 ⟨h.len,h.cap,h.capm,h.nil,fun s=>by
  obtain ⟨f,o,e,hb,x⟩:=h.at_ s;have G:=h.len;have y:0<n * sz:=Nat.mul_pos s hsz;obtain ⟨u,z⟩:∃u,xs[0]? = some u:=⟨_,yal yab⟩;have B:=x 0 u z;have g:f≠b:=fun q=>by
   obtain ⟨H,k,C,_⟩:=hm;subst q;simp [World.cell?,C] at B
  have E:=hg.block f hb fun q=>g (by cases q;rfl);refine ⟨f,o,e,yas hb hg.size,fun j u F=>?_⟩;have:=x j u F;unfold World.cell? at this ⊢;dsimp only at this ⊢;rw [E];exact this⟩
theorem evT_flip {T:ByteArray→Bool} {e:Ev} (h:T e.2.1 = !e.2.2):evT T e=zdN T e.2.1:=by
 funext x
 unfold evT zdN;split
 · rw [h,Bool.not_not]
 · rfl
theorem MapD.same {w:World} {b n:Nat} {T U:ByteArray→Bool} (h:MapD w b n T) (e:T=U):MapD w b n U:=e ▸ h
section
variable {S:SpW} {f:CoF} {X Y F F':Nat→Prop} {w w':World} {g:Nat} {s:Sto Tb Nd15} {L:List Sp} {last:Int} {m:Mm}
theorem keysAt_any (K:SpK S) (h:StM S f X w F g s L last m) (r:Int) :
 Calls Tryz.prog 50 #[.pointer (some ⟨g,0,none⟩),.int .i64 r] w fun e w'=>(∃A c,e = .returned (.slice A (atB s r).keys.length c)∧Rd w' w'.heap.size 1 A (atB s r).keys.length c (ks (atB s r).keys))∧Below w.heap.size w w':=by
 have k1:=zft h r;obtain ⟨ke,z⟩:∃ke,(atB s r).keys=ke:=⟨_,rfl⟩;rw [z];cases hk:zaw s r with
 | false =>
  rw [hk] at k1;rw [zbK hk] at z;obtain rfl:ke=[]:=z.symm;go_enter Tryz.func50,Tryz.ntmps50
  go_wp2_with (go_at_call 30;refine k1.mono ?_;rintro e P ⟨rfl,B⟩)
  go_ret
  exact ⟨⟨none,0,rfl,Rd.none_ _ _ _⟩,B⟩
 | true =>
  rw [hk] at k1;obtain ⟨h2,h3⟩:=zay.1 hk;have a2:0≤r:=by have:=h.floor0;omega
  have ar:r≤9223372036854775807:=by have:=h.most;omega
  have ad:=@run_makeMap Tryz.prog;have I:=fun k=>evT_all h.spb.fine a2 k;have u:=fun (i:Nat) e he=>zpC h.spb.fine a2 (i:=i) (e:=e) he;have hT:=h.spb.tell r h2 h3;rw [z] at hT;have Q:Rises ke:=by
   obtain ⟨i,_,hv⟩:=zdr hk;rw [←z];exact h.ok.rise _ (yaq hv)
  have ae:=zhh L 0 r;have au:=h.len;have R:∀(i:Nat) e,(eventsP L 0 r)[i]? = some e→e.2.1.size≤100000:=fun i e he=>by
   obtain ⟨x,J,af⟩:=zdz.1 (yaq he);have:=h.keys x J;rcases (zbO.1 af).2 with q | ⟨_,q⟩ <;> (rw [q];exact this)
  have U:=fun W (hb:Below w.heap.size w W)=>K.events 0 r (h.up K hb).sp h.spb.fine yab;obtain ⟨ev,a6⟩:∃ev,eventsP L 0 r=ev:=⟨_,rfl⟩;rw [a6] at I u ae R U;clear z a6;go_enter Tryz.func50,Tryz.ntmps50
  go_upto_region 4 with (go_at_call 30;refine k1.mono ?_;rintro e P ⟨rfl,B⟩)
  have a7:MapD (P.alloc (.map #[] 0)) P.heap.size 0 (fun _=>false):=⟨_,0,yaj _,World.ownsMap_made P Tryz.prog 9 unitElem,yaj _,fun _ _=>rfl⟩;have E:=B.alloc B.size (.map #[] 0);have av:w.heap.size≤P.heap.size:=B.size;generalize P.alloc (.map #[] 0)=w3 at *
  generalize P.heap.size=b at *
  have V:=h.up K E;have c0:=V.cs.1;have lt:=V.box.lt;have a8:=U w3 E;clear ad k1 B U V;go_wp2_with (go_at_call 60;refine a8.mono ?_;rintro e w4 ⟨A,c,rfl,M,n⟩)
  have aa:MapD w4 b 0 (fun _=>false):=a7.kept ⟨n.os,n.tape,n.output,n.size,fun k hk _=>n.block k hk⟩ (row:=none) yaf;have ab:=zac E E.size n;clear a8 c0 lt a7 E n;go_loopw [20] (fun vi wx=>∃i:Nat,vi = .int .i64 i∧i≤ev.length∧MapD wx b i ((ev.take i).foldl evT fun _=>false)∧Rd wx wx.heap.size 3 A ev.length c (ecs ev)∧Below w.heap.size w wx) (fun vi _=>ev.length-(intOf vi).toNat)
  case atStart=>exact ⟨0,rfl,yao _,aa,M,ab⟩
  case round =>
   clear M aa ab;obtain ⟨i,rfl,hi,hM,M,hb⟩:=hrel;have ag:=hb.size;by_cases ah:i<ev.length
   · have di:(i:Int)<(ev.length:Int):=by omega
     obtain ⟨x,J⟩:∃x,ev[i]? = some x:=⟨_,yal ah⟩;obtain ⟨b3,o3,rfl,aw,g0,g1,g2⟩:=rd_ev M J;have C:=u i x J;have ai:=R i x J;have G:(ev.take (i + 1)).foldl evT (fun _=>false)=evT ((ev.take i).foldl evT fun _=>false) x:=by rw [yaC,J,yaO,ycn];rfl
     rw [evT_flip C] at G;obtain ⟨rv,k,fl⟩:=x;dsimp only at g0 g1 g2 C ai G;obtain ⟨D,mm,hm,o,H,hh⟩:=hM;have aj:k.size≤maxLen:=by simp only [maxLen];omega
     have N:=zhv aj;have y:=o.alloc (.cells #[.int .i64 rv,.string k,.bool fl] 118);have n:=hb.alloc ag (.cells #[.int .i64 rv,.string k,.bool fl] 118);have ak:=(M.alloc (yaj _) (.cells #[.int .i64 rv,.string k,.bool fl] 118)).more (B':=(wr.alloc (.cells #[.int .i64 rv,.string k,.bool fl] 118)).heap.size) yaf;have al:mm<maxLen:=by simp only [maxLen];omega
     generalize ((ev.take i).foldl evT fun _=>false)=T at *
     have O:∀W,(wr.alloc (.cells #[.int .i64 rv,.string k,.bool fl] 118)).grownBy W (some b)→Rd W W.heap.size 3 (some ⟨b3,o3,none⟩) ev.length c (ecs ev)∧Below w.heap.size w W:=fun W hg=>⟨ak.grown_map yac y hg,⟨hg.os.trans n.os,hg.tape.trans n.tape,hg.output.trans n.output,yay n.size hg.size,fun j hj=>(hg.block j (yas hj n.size) yag).trans (n.block j hj)⟩⟩;cases fl with
     | true =>
      have Y:∀W,W.ownsMap Tryz.prog 9 unitElem b (mm + 1) (D.put (kB k) (.agg []))→MapD W b (i + 1) (zdN T k):=fun W h=>MapD.put C hm o H hh h;clear hh hm H C o M;go_wp2_with (at_mapUpdate;go_loud (refine wpList_mapUpdate_own _ rfl _ _ _ 132 rfl 9 168 zbC Tryz.underlying132 _ b mm _ rfl y al _ _ _ rfl rfl N _ [] unitElem_mk ?_;intro w5 Z a1))
      obtain ⟨q1,q2⟩:=O _ a1;exact ⟨⟨i + 1,by go_num,by omega,(Y _ Z).same G.symm,q1,q2⟩,by simp [intOf];omega⟩
     | false =>
      have Y:∀W,W.ownsMap Tryz.prog 9 unitElem b mm (D.del (kB k))→MapD W b (i + 1) (zdN T k):=fun W h=>MapD.del C hm o H hh h;clear hh hm H C o M;go_wp2_with (at_delete;go_loud (refine wpList_delete_own _ rfl _ _ 132 9 rfl 168 zbC Tryz.underlying132 _ b mm D rfl y _ _ rfl N ?_;intro w5 Z a1))
      obtain ⟨q1,q2⟩:=O _ a1.grown;exact ⟨⟨i + 1,by go_num,by omega,(Y _ Z).same G.symm,q1,q2⟩,by simp [intOf];omega⟩
   · obtain rfl:i=ev.length:=by omega
     have di:¬(((ev.length:Nat):Int)<(ev.length:Int)):=by omega
     rw [yaz] at hM;have kk:=zkx b wr;have am:=sorted_any hM yab;clear u R hM M;go_wp2_with (first
      | (go_at_call 90;refine kk.mono ?_;rintro e w5 ⟨rfl,rfl⟩)
      | (go_at_call 89;refine am.mono ?_;rintro e w6 ⟨A6,c6,t,rfl,ht,ax,ac,an,ao⟩)
      | fail)
     go_ret
     have aq:t=ke:=zeJ ht Q fun k=>by
      rw [ac k,I k,hT k];constructor
      · rintro ⟨_,q⟩;exact zar.1 q
      · intro q;exact ⟨by
         have hq:zdw L k r=true:=by rw [hT k];exact zar.2 q
         obtain ⟨x,J,e,_⟩:=zaP.1 hq;have:=h.keys x J;rw [e] at this;simp only [maxLen];omega,zar.2 q⟩
     subst aq;exact ⟨⟨A6,c6,rfl,an⟩,zac hb hb.size ao⟩
end
end
section
open Go.RowKit
theorem zkM:(Tryz.prog.info? 54).map (fun i=>(i.zero,i.size,i.bytes))=some (some (.agg #[.string ⟨#[]⟩,.string ⟨#[]⟩,.string ⟨#[]⟩,.string ⟨#[]⟩,.string ⟨#[]⟩,.string ⟨#[]⟩,.bool false]),7,104):=by kernel_rfl
section
variable {S:SpW} {f:CoF} {X Y F F':Nat→Prop} {w w':World} {g:Nat} {s:Sto Tb Nd15} {L:List Sp} {last:Int} {m:Mm}
theorem StM.small (h:StM S f X w F g s L last m) (r:Int):(∀k ∈ (atB s r).keys,k.size≤100000)∧(atB s r).keys.length≤50000:=by
 cases hk:zaw s r with
 | false=>rw [zbK hk];exact ⟨fun _ q=>(by cases q),yao _⟩
 | true =>
  obtain ⟨b,j⟩:=zay.1 hk;refine ⟨fun k q=>?_,?_⟩
  · have n:zdw L k r=true:=by rw [h.spb.tell r b j];exact zar.2 q
    obtain ⟨x,o,e,_⟩:=zaP.1 n;have:=h.keys x o;rwa [e] at this
  · rw [←(h.spb.keys h.ok b j).2];exact yay (yba _ _) h.len
theorem tuples_any (K:SpK S) (h:StM S f X w F g s L last m) (r:Int) :
 Calls Tryz.prog 20 #[.pointer (some ⟨g,0,none⟩),.int .i64 r] w fun e w'=>(∃A c,e = .returned (.slice A (atB s r).keys.length c)∧Rd w' w'.heap.size 6 A (atB s r).keys.length c (((atB s r).keys.map ofT).flatMap zeT))∧Below w.heap.size w w':=by
 obtain ⟨Z,B,C,D,E⟩:=info_parts ziT;have k1:=keysAt_any K h r;obtain ⟨G,a1⟩:=h.small r;generalize (atB s r).keys=b at *
 go_enter Tryz.func20,Tryz.ntmps20
 go_wp2_with (go_at_call 50;refine k1.mono ?_;rintro e o ⟨⟨A,c,rfl,hR⟩,q⟩)
 go_loopw [5,12] (fun vm H U=>∃i:Nat,H = .int .i64 i∧i≤b.length∧U.ownsRow o.heap.size 51 6 vm i (((b.take i).map ofT).flatMap zeT)∧Below o.heap.size o U) (fun _ H _=>b.length-(intOf H).toNat)
 case atStart=>exact ⟨0,rfl,yao _,World.ownsRow_nil _ _ _ _,Below.refl _ _⟩
 case round =>
  obtain ⟨i,rfl,hi,z,hb⟩:=hrel;have I:=hb.size;by_cases J:i<b.length
  · have di:(i:Int)<(b.length:Int):=by omega
    obtain ⟨k,hk⟩:∃k,b[i]? = some k:=⟨_,yal J⟩;obtain ⟨b3,o3,rfl,a2,g0⟩:=zee (hR.below hb) hk;obtain ⟨M,N,rfl,_⟩:=Rd.own z;have O:((b.take (i + 1)).map ofT).flatMap zeT=((b.take i).map ofT).flatMap zeT ++ zeT (ofT k):=by rw [yaC,hk];simp
    have V:=fun W=>zfC k (G k (yaq hk)) W;unfold zgF at V;generalize ofT k=u at *
    go_wp2_with (first
     | (go_at_call 57;refine (V _).mono ?_;rintro e w5 ⟨rfl,x⟩;have y:=zao z x;have j:=zac hb I x)
     | (at_builtin;go_loud (refine zab _ rfl (.tmp 16) (.tmp 19) 47 47 rfl o.heap.size 51 Z _ 6 96 Tryz.underlying47 B C D E rfl yac (.slice M i N) i _ rfl (y.alloc _) _ 1 (zeT u) rfl (Src.ofSlice _ Tryz.underlying47 _ 1 1 _ rfl (cells_at _ #[.string u.1.1,.string u.1.2.1,.string u.1.2.2,.string u.2.1,.string u.2.2.1,.string u.2.2.2] _ _ yaf) (zj8 _)) yad yab (zad j.size) ?_;intro v9 w8 n P Y)))
    have Q:w8.ownsRow o.heap.size 51 6 v9 (i + 1) (((b.take (i + 1)).map ofT).flatMap zeT):=by rw [O];exact n
    have R:=zae (j.alloc j.size _) P (y.alloc _) (zad j.size) (yaj _);exact ⟨⟨i + 1,by go_num,by omega,Q,R⟩,by simp [intOf];omega⟩
  · obtain rfl:i=b.length:=by omega
    have di:¬(((b.length:Nat):Int)<(b.length:Int)):=by omega
    rw [yaz] at z;obtain ⟨M,N,rfl,T⟩:=Rd.own z;go_wp2_with fail
    go_ret
    exact ⟨⟨M,N,rfl,T⟩,zac q q.size hb⟩
theorem StM.csmall (h:StM S f X w F g s L last m) (r:Int):∀c ∈ zaU s r,c.1.size≤100000:=fun c b=>by
 unfold zaU at b;split at b
 · rcases zdX b with q | q
   · exact (h.small _).1 _ q
   · exact (h.small _).1 _ q
 · cases b
def ofU (c:ByteArray × Bool):TuP × Bool:=(ofT c.1,c.2)
theorem changes_any (K:SpK S) (h:StM S f X w F g s L last m) (r:Int) (hr : -9223372036854775808≤r∧r≤9223372036854775807) :
 Calls Tryz.prog 22 #[.pointer (some ⟨g,0,none⟩),.int .i64 r] w fun e w'=>(∃A c,e = .returned (.slice A (zaU s r).length c)∧Rd w' w'.heap.size 7 A (zaU s r).length c (((zaU s r).map ofU).flatMap za5))∧Below w.heap.size w w':=by
 obtain ⟨i0,a2,a6,a7,a8⟩:=info_parts zkM;have G:=zd2 K h r;have H:=h.csmall r;obtain ⟨d,hd⟩:∃d,zaU s r=d:=⟨_,rfl⟩;rw [hd] at H ⊢;by_cases hk:s.floor<r∧r≤revB s
 · rw [yaB hk] at G;have ak:=h.floor0;have j:=h.spb.changes h.ok hk.1 hk.2;rw [hd] at j;have al:=zhh L (r-1) r;have am:=h.len;have I:=fun W (hb:Below w.heap.size w W)=>K.events (r-1) r (h.up K hb).sp h.spb.fine yab;have J:=fun W (hb:Below w.heap.size w W)=>(h.up K hb).cs.1;have lt:=h.box.lt;generalize eventsP L (r-1) r=ev at *
   have q:ev.length=d.length:=by rw [←j,yax]
   have e1:IntKind.i64.wrap (r-1)=r-1:=IntWalk.i64_in _ ⟨by omega,by omega⟩;go_enter Tryz.func22,Tryz.ntmps22
   go_upto_region 4 with (go_at_call 59;refine G.mono ?_;rintro e w2 ⟨rfl,b⟩)
   have c0:=J w2 b;have aa:g<w2.heap.size:=yas lt b.size;have M:=I w2 b;clear G I J;go_wp2_with (go_at_call 60;refine M.mono ?_;rintro e N ⟨A,c,rfl,hR,O⟩)
   have P:=zac b b.size O;clear M c0 lt aa b O e1;rw [q] at hR;have an:d.length≤100000:=by omega
   replace q:=Lib.hid q;replace j:=Lib.hid j;go_loopw [5,21] (fun vm vi wx=>∃i:Nat,vi = .int .i64 i∧i≤d.length∧wx.ownsRow N.heap.size 54 7 vm i (((d.take i).map ofU).flatMap za5)∧Below N.heap.size N wx) (fun _ vi _=>d.length-(intOf vi).toNat)
   case atStart=>exact ⟨0,rfl,yao _,World.ownsRow_nil _ _ _ _,Below.refl _ _⟩
   case round =>
    obtain ⟨i,rfl,hi,hO,hb⟩:=hrel;have ab:=hb.size;by_cases ao:i<d.length
    · have di:(i:Int)<(d.length:Int):=by omega
      obtain ⟨x,hx⟩:∃x,ev[i]? = some x:=⟨_,yal (by have:=q.out;omega)⟩;have y:d[i]? = some (x.2.1,x.2.2):=by rw [←j.out,yaY,hx];rfl
      obtain ⟨b3,o3,rfl,aq,g0,g1,g2⟩:=rd_ev (hR.below hb) hx;obtain ⟨A4,c4,rfl,_⟩:=Rd.own hO;obtain ⟨Q,k,C⟩:=x;dsimp only at g0 g1 g2 y;have ac:((d.take (i + 1)).map ofU).flatMap za5=((d.take i).map ofU).flatMap za5 ++ za5 (ofT k,C):=by rw [yaC,y];simp [ofU]
      have ko:=fun W=>zfC k (H _ (yaq y)) W;unfold zgF at ko;generalize ofT k=u at *
      clear y hx;have R:=hb.alloc ab (.cells #[.int .i64 Q,.string k,.bool C] 118);have T:=hO.alloc (.cells #[.int .i64 Q,.string k,.bool C] 118);have D:=Bk.new wr #[.int .i64 Q,.string k,.bool C] 118;go_upto_region 7 with (fail)
      generalize wr.alloc (.cells #[.int .i64 Q,.string k,.bool C] 118)=U at *
      generalize wr.heap.size=gx at *
      have V:=D.below (za1 U);have ad:=zao T (za1 U);have Y:=zac R R.size (za1 U);have ar:=D.lt;have n:=fun W (hb:Below U.drew.heap.size U.drew W)=>(V.below hb).c3;obtain ⟨x0,x1,x2⟩:=n _ (Below.refl _ _);clear g0 g1 g2;have ag:(Value.slice A4 i c4).ownBlock≠some gx:=Rk.apart D T yac;go_region_held3 (fun W=>W.cell? ⟨gx,0,none⟩=some (.int .i64 Q)∧W.cell? ⟨gx,1,none⟩=some (.string k)∧W.cell? ⟨gx,2,none⟩=some (.bool C))
       (first | exact ae | exact af | go_keep | fail)
       ((first
        | (with_reducible refine (ko _).mono ?_;rintro e6 w6 ⟨rfl,z⟩;have ae:=n w6 z;have Z:=V.below z;have a1:=zao ad z;have B:=zac Y Y.size z)
        | (refine step_append_lies _ yae _ _ _ yae N.heap.size 54 i0 (.agg #[.string ⟨#[]⟩,.string ⟨#[]⟩,.string ⟨#[]⟩,.string ⟨#[]⟩,.string ⟨#[]⟩,.string ⟨#[]⟩,.bool false]) 7 104 Tryz.underlying33 a2 a6 a7 a8 rfl yab (.slice A4 i c4) i (((d.take i).map ofU).flatMap za5) yae (a1.alloc _) ⟨w6.heap.size,0,none⟩ 1 1 [.string u.1.1,.string u.1.2.1,.string u.1.2.2,.string u.2.1,.string u.2.2.1,.string u.2.2.2,.bool C] yae yae (World.news_of_block (cs:=#[.string u.1.1,.string u.1.2.1,.string u.1.2.2,.string u.2.1,.string u.2.2.1,.string u.2.2.2,.bool C]) (t:=54) (fr:=(0,0)) (heap_alloc_new w6 _)) (by simp [Value.oneCell']) yab yad yab (zad B.size) (w6.heap.size + 1) yaf ?_;intro gg cap w8 E o au av;have af:=Bk.c3 (Rk.same (Z.alloc _) (o.block gx (by have:=Z.lt;simp;omega) (Ne.symm ag))))
        | fail))
      go_wp2_with fail
      have ah:w8.ownsRow N.heap.size 54 7 (.slice (some ⟨gg,0,none⟩) (i + 1) cap) (i + 1) (((d.take (i + 1)).map ofU).flatMap za5):=by rw [ac];exact E
      have ai:=zae (B.alloc B.size _) o (a1.alloc _) (zad B.size) (yaj _);exact ⟨⟨i + 1,by go_num,by omega,ah,ai⟩,by simp [intOf];omega⟩
    · obtain rfl:i=d.length:=by omega
      have di:¬(((d.length:Nat):Int)<(d.length:Int)):=by omega
      rw [yaz] at hO;obtain ⟨A4,c4,rfl,aj⟩:=Rd.own hO;go_wp2_with fail
      go_ret
      exact ⟨⟨A4,c4,rfl,aj⟩,zac P P.size hb⟩
 · rw [yaF hk] at G;obtain rfl:d=[]:=by rw [←hd];unfold zaU;rw [yak hk]
   go_enter Tryz.func22,Tryz.ntmps22
   go_wp2_with (go_at_call 59;refine G.mono ?_;rintro e w2 ⟨rfl,b⟩)
   go_ret
   exact ⟨⟨none,0,rfl,Rd.none_ _ _ _⟩,b⟩
end
end
end Go.Proofs.YtmblgnddgmfkhaaGreat
