import Derived.Test.YtmblgnddgmfkhaaGreatK31
set_option maxRecDepth 100000
set_option maxHeartbeats 4000000
namespace Go.Proofs.YtmblgnddgmfkhaaGreat
open Go.RowKit
variable {w w':World} {b n c mm B c1 c2:Nat} {T:ByteArray→Bool} {A A1 A2:Option Addr} {k:ByteArray} {s:List ByteArray} {D:DataW Unit}
theorem zho:(Tryz.prog.info? 128).map (fun i=>(i.zero,i.size,i.bytes))=some (some (.agg #[.string ⟨#[]⟩,.bool false]),2,24):=by kernel_rfl
theorem diff_own {t:List ByteArray} (h1:Rd w w.heap.size 1 A1 s.length c1 (ks s)) (h2:Rd w w.heap.size 1 A2 t.length c2 (ks t)) (hs:s.length≤1000000) (ht:t.length≤1000000) :
 Calls Tryz.prog 42 #[.slice A1 s.length c1,.slice A2 t.length c2] w fun e w'=>∃A c,e = .returned (.slice A (zaO s t).length c)∧w'.ownsRow w.heap.size 128 2 (.slice A (zaO s t).length c) (zaO s t).length (pcs (zaO s t))∧Below w.heap.size w w':=by
 obtain ⟨i0,V,X,Y,Z⟩:=info_parts zho;have a6:=zm5 s t;obtain ⟨d,hd⟩:∃d,zaO s t=d:=⟨_,rfl⟩;rw [hd] at a6 ⊢;have hd:=Lib.hid hd;go_enter Tryz.func42,Tryz.ntmps42
 go_wp2_with fail
 go_loopw [5,6,7] (fun vm vi vk wx=>∃(i k:Nat) (m:List (ByteArray × Bool)),vi = .int .i64 i∧vk = .int .i64 k∧i≤s.length∧k≤t.length∧wx.ownsRow w.heap.size 128 2 vm m.length (pcs m)∧Below w.heap.size w wx∧Hid (m ++ zaO (s.drop i) (t.drop k)=d)) (fun _ vi vk _=>s.length + t.length-(intOf vi).toNat-(intOf vk).toNat)
 case atStart=>exact ⟨0,0,[],rfl,rfl,yao _,yao _,World.ownsRow_nil _ _ _ _,Below.refl _ _,Lib.hid (by simpa using hd.out)⟩
 case round =>
  obtain ⟨i,k,m,rfl,rfl,hi,hk,O,hb,K⟩:=hrel;have ab:m.length≤2000000:=by
   have:=congrArg List.length K.out;rw [yam] at this;omega
  obtain ⟨L,M,rfl,N⟩:=Rd.own O;have P:=hb.size;have F:=(h1.below hb);have D:=(h2.below hb);by_cases a7:i<s.length
  · have di:(i:Int)<(s.length:Int):=by omega
    have ei:((i:Int) == (s.length:Int))=false:=ybh.2 yab;obtain ⟨a,ha⟩:∃a,s[i]? = some a:=⟨_,yal a7⟩;obtain ⟨b1,o1,rfl,ac,g1⟩:=zee F ha;by_cases a1:k<t.length
    · have dk:(k:Int)<(t.length:Int):=by omega
      have ek:((k:Int) == (t.length:Int))=false:=ybh.2 yab;obtain ⟨x,Q⟩:∃x,t[k]? = some x:=⟨_,yal a1⟩;obtain ⟨b2,o2,rfl,a8,g2⟩:=zee D Q;cases q:kl a x
      · cases y:kl x a
        · have C:Hid (m ++ zaO (s.drop (i + 1)) (t.drop (k + 1))=d):=Lib.hid (by rw [←K.out,zc3 ha,zc3 Q,zkw q y]);have l1:Op.bytesLess a.toList x.toList=false:=q;have l2:Op.bytesLess x.toList a.toList=false:=y;clear K q y F D;clear ha;clear Q;go_wp2_with fail
          go_quiet (fail)
          obtain ⟨W,n⟩:∃W,wr.drewN nq=W:=⟨_,rfl⟩;have u:W.ownsRow w.heap.size 128 2 (.slice L m.length M) m.length (pcs m):=by rw [←n];exact O
          have f:Below w.heap.size w W:=by rw [←n];exact hb.trans (zam _ _ nq)
          have R:W.cell? ⟨b1,o1 + i,none⟩=some (.string a):=by rw [←n];exact g1
          have E:W.cell? ⟨b2,o2 + k,none⟩=some (.string x):=by rw [←n];exact g2
          have b:=f.size;rw [n];clear n O hb N P g1 g2;go_wp2_with fail
          go_quiet (fail)
          obtain ⟨W2,j⟩:∃W2,W.drewN nq=W2:=⟨_,rfl⟩;have G:W2.ownsRow w.heap.size 128 2 (.slice L m.length M) m.length (pcs m):=by rw [←j];exact u
          have B:Below w.heap.size w W2:=by rw [←j];exact f.trans (zam _ _ nq)
          have g:=B.size;rw [j];clear j u f b R E;go_wp2_with fail
          exact ⟨⟨i + 1,k + 1,m,by go_num,by go_num,by omega,by omega,G,B,C⟩,by simp [intOf];omega⟩
        · have C:Hid ((m ++ [(x,true)]) ++ zaO (s.drop i) (t.drop (k + 1))=d):=Lib.hid (by rw [←K.out,zc3 Q,zeq (by exact fun z T=>by rw [List.head?_drop,ha] at T;cases T;exact ⟨q,y⟩),yaD];rfl);have l1:Op.bytesLess a.toList x.toList=false:=q;have l2:Op.bytesLess x.toList a.toList=true:=y;clear K q y F D;clear ha;clear Q;go_wp2_with fail
          go_quiet (fail)
          obtain ⟨W,n⟩:∃W,wr.drewN nq=W:=⟨_,rfl⟩;have u:W.ownsRow w.heap.size 128 2 (.slice L m.length M) m.length (pcs m):=by rw [←n];exact O
          have f:Below w.heap.size w W:=by rw [←n];exact hb.trans (zam _ _ nq)
          have R:W.cell? ⟨b1,o1 + i,none⟩=some (.string a):=by rw [←n];exact g1
          have E:W.cell? ⟨b2,o2 + k,none⟩=some (.string x):=by rw [←n];exact g2
          have b:=f.size;rw [n];clear n O hb N P g1 g2;go_wp2_with fail
          go_quiet (fail)
          obtain ⟨W2,j⟩:∃W2,W.drewN nq=W2:=⟨_,rfl⟩;have G:W2.ownsRow w.heap.size 128 2 (.slice L m.length M) m.length (pcs m):=by rw [←j];exact u
          have B:Below w.heap.size w W2:=by rw [←j];exact f.trans (zam _ _ nq)
          have a2:W2.cell? ⟨b2,o2 + k,none⟩=some (.string x):=by rw [←j];exact E
          have g:=B.size;rw [j];clear j u f b R E;go_wp2_with (at_builtin;go_loud (refine zab _ rfl (.tmp 70) (.tmp 76) 84 84 rfl w.heap.size 128 i0 (.agg #[.string ⟨#[]⟩,.bool false]) 2 24 Tryz.underlying84 V X Y Z rfl yac (.slice L m.length M) m.length (pcs m) rfl (G.alloc _) _ 1 [.string x,.bool true] rfl (Src.ofSlice _ Tryz.underlying84 _ 1 1 _ rfl (zbI _ _ _) (zey (x,true))) yad yab (zad g) ?_;intro v9 w8 o H U))
          have I:w8.ownsRow w.heap.size 128 2 v9 (m ++ [(x,true)]).length (pcs (m ++ [(x,true)])):=by rw [zez,yam];exact o
          have J:=zae (B.alloc g _) H (G.alloc _) (zad g) (yaj _);exact ⟨⟨i,k + 1,m ++ [(x,true)],by go_num,by go_num,by omega,by omega,I,J,C⟩,by simp [intOf];omega⟩
      · have y:True:=trivial;have C:Hid ((m ++ [(a,false)]) ++ zaO (s.drop (i + 1)) (t.drop k)=d):=Lib.hid (by rw [←K.out,zc3 ha,zfl (by exact fun z T=>by rw [List.head?_drop,Q] at T;cases T;exact q),yaD];rfl);have l1:Op.bytesLess a.toList x.toList=true:=q;clear K q y F D;clear ha;clear Q;go_wp2_with fail
        go_quiet (fail)
        obtain ⟨W,n⟩:∃W,wr.drewN nq=W:=⟨_,rfl⟩;have u:W.ownsRow w.heap.size 128 2 (.slice L m.length M) m.length (pcs m):=by rw [←n];exact O
        have f:Below w.heap.size w W:=by rw [←n];exact hb.trans (zam _ _ nq)
        have R:W.cell? ⟨b1,o1 + i,none⟩=some (.string a):=by rw [←n];exact g1
        have E:W.cell? ⟨b2,o2 + k,none⟩=some (.string x):=by rw [←n];exact g2
        have b:=f.size;rw [n];clear n O hb N P g1 g2;go_wp2_with (at_builtin;go_loud (refine zab _ rfl (.tmp 44) (.tmp 50) 84 84 rfl w.heap.size 128 i0 (.agg #[.string ⟨#[]⟩,.bool false]) 2 24 Tryz.underlying84 V X Y Z rfl yac (.slice L m.length M) m.length (pcs m) rfl (u.alloc _) _ 1 [.string a,.bool false] rfl (Src.ofSlice _ Tryz.underlying84 _ 1 1 _ rfl (zbI _ _ _) (zey (a,false))) yad yab (zad b) ?_;intro v9 w8 o H U))
        have I:w8.ownsRow w.heap.size 128 2 v9 (m ++ [(a,false)]).length (pcs (m ++ [(a,false)])):=by rw [zez,yam];exact o
        have J:=zae (f.alloc b _) H (u.alloc _) (zad b) (yaj _);exact ⟨⟨i + 1,k,m ++ [(a,false)],by go_num,by go_num,by omega,by omega,I,J,C⟩,by simp [intOf];omega⟩
    · have ek:((k:Int) == (t.length:Int))=true:=ybY.2 yab;have dk:¬(k:Int)<(t.length:Int):=by omega
      have C:Hid ((m ++ [(a,false)]) ++ zaO (s.drop (i + 1)) (t.drop k)=d):=Lib.hid (by rw [←K.out,zc3 ha,zfl (by exact fun z T=>by rw [List.head?_drop,ycI (by omega)] at T;cases T),yaD];rfl);clear K F D;clear ha;go_wp2_with fail
      go_quiet (fail)
      obtain ⟨W,n⟩:∃W,wr.drewN nq=W:=⟨_,rfl⟩;have u:W.ownsRow w.heap.size 128 2 (.slice L m.length M) m.length (pcs m):=by rw [←n];exact O
      have f:Below w.heap.size w W:=by rw [←n];exact hb.trans (zam _ _ nq)
      have R:W.cell? ⟨b1,o1 + i,none⟩=some (.string a):=by rw [←n];exact g1
      have b:=f.size;rw [n];clear n O hb N P g1;go_wp2_with (at_builtin;go_loud (refine zab _ rfl (.tmp 44) (.tmp 50) 84 84 rfl w.heap.size 128 i0 (.agg #[.string ⟨#[]⟩,.bool false]) 2 24 Tryz.underlying84 V X Y Z rfl yac (.slice L m.length M) m.length (pcs m) rfl (u.alloc _) _ 1 [.string a,.bool false] rfl (Src.ofSlice _ Tryz.underlying84 _ 1 1 _ rfl (zbI _ _ _) (zey (a,false))) yad yab (zad b) ?_;intro v9 w8 o H U))
      have I:w8.ownsRow w.heap.size 128 2 v9 (m ++ [(a,false)]).length (pcs (m ++ [(a,false)])):=by rw [zez,yam];exact o
      have J:=zae (f.alloc b _) H (u.alloc _) (zad b) (yaj _);exact ⟨⟨i + 1,k,m ++ [(a,false)],by go_num,by go_num,by omega,by omega,I,J,C⟩,by simp [intOf];omega⟩
  · have di:¬(i:Int)<(s.length:Int):=by omega
    have ei:((i:Int) == (s.length:Int))=true:=ybY.2 yab;by_cases a1:k<t.length
    · have dk:(k:Int)<(t.length:Int):=by omega
      have ek:((k:Int) == (t.length:Int))=false:=ybh.2 yab;obtain ⟨x,Q⟩:∃x,t[k]? = some x:=⟨_,yal a1⟩;obtain ⟨b2,o2,rfl,a8,g2⟩:=zee D Q;have C:Hid ((m ++ [(x,true)]) ++ zaO (s.drop i) (t.drop (k + 1))=d):=Lib.hid (by rw [←K.out,zc3 Q,zeq (by exact fun z T=>by rw [List.head?_drop,ycI (by omega)] at T;cases T),yaD];rfl);clear K F D;clear Q;go_wp2_with fail
      go_quiet (fail)
      obtain ⟨W,n⟩:∃W,wr.drewN nq=W:=⟨_,rfl⟩;have u:W.ownsRow w.heap.size 128 2 (.slice L m.length M) m.length (pcs m):=by rw [←n];exact O
      have f:Below w.heap.size w W:=by rw [←n];exact hb.trans (zam _ _ nq)
      have E:W.cell? ⟨b2,o2 + k,none⟩=some (.string x):=by rw [←n];exact g2
      have b:=f.size;rw [n];clear n O hb N P g2;go_wp2_with fail
      go_quiet (fail)
      obtain ⟨W2,j⟩:∃W2,W.drewN nq=W2:=⟨_,rfl⟩;have G:W2.ownsRow w.heap.size 128 2 (.slice L m.length M) m.length (pcs m):=by rw [←j];exact u
      have B:Below w.heap.size w W2:=by rw [←j];exact f.trans (zam _ _ nq)
      have a2:W2.cell? ⟨b2,o2 + k,none⟩=some (.string x):=by rw [←j];exact E
      have g:=B.size;rw [j];clear j u f b E;go_wp2_with (at_builtin;go_loud (refine zab _ rfl (.tmp 70) (.tmp 76) 84 84 rfl w.heap.size 128 i0 (.agg #[.string ⟨#[]⟩,.bool false]) 2 24 Tryz.underlying84 V X Y Z rfl yac (.slice L m.length M) m.length (pcs m) rfl (G.alloc _) _ 1 [.string x,.bool true] rfl (Src.ofSlice _ Tryz.underlying84 _ 1 1 _ rfl (zbI _ _ _) (zey (x,true))) yad yab (zad g) ?_;intro v9 w8 o H U))
      have I:w8.ownsRow w.heap.size 128 2 v9 (m ++ [(x,true)]).length (pcs (m ++ [(x,true)])):=by rw [zez,yam];exact o
      have J:=zae (B.alloc g _) H (G.alloc _) (zad g) (yaj _);exact ⟨⟨i,k + 1,m ++ [(x,true)],by go_num,by go_num,by omega,by omega,I,J,C⟩,by simp [intOf];omega⟩
    · have dk:¬(k:Int)<(t.length:Int):=by omega
      have aa:m=d:=by
       have:=K.out;rwa [ycG yab,ycG yab,zm6,yaK] at this
      subst aa;clear K hd F D N h1 h2;go_wp2_with fail
      go_ret
      exact ⟨L,M,rfl,O,hb⟩
theorem diff_any {t:List ByteArray} (h1:Rd w w.heap.size 1 A1 s.length c1 (ks s)) (h2:Rd w w.heap.size 1 A2 t.length c2 (ks t)) (hs:s.length≤1000000) (ht:t.length≤1000000) :
 Calls Tryz.prog 42 #[.slice A1 s.length c1,.slice A2 t.length c2] w fun e w'=>∃A c,e = .returned (.slice A (zaO s t).length c)∧Rd w' w'.heap.size 2 A (zaO s t).length c (pcs (zaO s t))∧Below w.heap.size w w' :=
 (diff_own h1 h2 hs ht).mono fun _ _ ⟨A,c,e,b,hb⟩=>⟨A,c,e,by
  obtain ⟨_,_,f,g⟩:=Rd.own b;cases f;exact g,hb⟩
theorem zc5 {α:Type} (h:α→List Value) {sz:Nat} (hg:∀a,(h a).length=sz) {l:List α} (hR:Rd w B sz A n c (l.flatMap h)) (hn:n=l.length) {i:Nat} {x:α} (hi:l[i]? = some x) :
 ∃b o,A=some ⟨b,o,none⟩∧b<B∧∀k u,(h x)[k]? = some u→w.cell? ⟨b,o + i * sz + k,none⟩=some u:=by
 obtain ⟨b,o,e,hb,g⟩:=hR.at_ (by rw [hn];exact zd8 hi);refine ⟨b,o,e,hb,fun k u f=>?_⟩;have hk:k<sz:=by have:=(yap.1 f).1;rwa [hg] at this
 rw [ya7];exact g _ _ ((zbf h (sz:=sz) hg hi (k:=k) hk).trans f)
def zeT (u:TuP):List Value:=[.string u.1.1,.string u.1.2.1,.string u.1.2.2,.string u.2.1,.string u.2.2.1,.string u.2.2.2]
def za5 (x:TuP × Bool):List Value:=[.string x.1.1.1,.string x.1.1.2.1,.string x.1.1.2.2,.string x.1.2.1,.string x.1.2.2.1,.string x.1.2.2.2,.bool x.2]
theorem zn4 (u:TuP):(zeT u).length=6:=rfl
theorem zdp (x:TuP × Bool):(za5 x).length=7:=rfl
theorem zj8 (u:TuP):∀v ∈ zeT u,v.oneCell'=true:=by
 intro v b;simp only [zeT,yaw,ya1,ybA] at b;rcases b with rfl | rfl | rfl | rfl | rfl | rfl <;> rfl
theorem ziT:(Tryz.prog.info? 51).map (fun i=>(i.zero,i.size,i.bytes))=some (some (.agg #[.string ⟨#[]⟩,.string ⟨#[]⟩,.string ⟨#[]⟩,.string ⟨#[]⟩,.string ⟨#[]⟩,.string ⟨#[]⟩]),6,96):=by kernel_rfl
theorem zqk:(Tryz.prog.info? 126).map (fun i=>(i.zero,i.size,i.bytes))=some (some (.agg #[.string ⟨#[]⟩,.bool false]),2,24):=by kernel_rfl
theorem keysOf_any {d:List (ByteArray × Bool)} (h:Rd w w.heap.size 2 A d.length c (pcs d)) (hl:d.length≤1000000) :
 Calls Tryz.prog 40 #[.slice A d.length c] w fun e w'=>∃A' c',e = .returned (.slice A' d.length c')∧w'.ownsRow w.heap.size 9 1 (.slice A' d.length c') d.length (ks (d.map Prod.fst))∧Below w.heap.size w w':=by
 obtain ⟨I,m,n,o,q⟩:=info_parts zcP;go_enter Tryz.func40,Tryz.ntmps40
 go_wp2_with fail
 go_loopw [3,8] (fun J s F=>∃i:Nat,s = .int .i64 i∧i≤d.length∧F.ownsRow w.heap.size 9 1 J i (ks ((d.take i).map Prod.fst))∧Below w.heap.size w F) (fun _ s _=>d.length-(intOf s).toNat)
 case atStart=>exact ⟨0,rfl,yao _,World.ownsRow_nil _ _ _ _,Below.refl _ _⟩
 case round =>
  obtain ⟨i,rfl,hi,g,hb⟩:=hrel;have b:=hb.size;by_cases u:i<d.length
  · have K:(i:Int)<(d.length:Int):=by omega
    obtain ⟨p,G⟩:∃p,d[i]? = some p:=⟨_,yal u⟩;obtain ⟨P,Q,rfl,L,g0,M⟩:=zf9 (h.below hb) G;obtain ⟨x,y,rfl,_⟩:=Rd.own g;obtain ⟨k,e⟩:=p;dsimp only at g0 M;have z:(d.take (i + 1)).map Prod.fst=(d.take i).map Prod.fst ++ [k]:=by rw [yaC,G];simp
    have j:=g.alloc (.cells #[.string k,.bool e] 128);have B:=hb.alloc b (.cells #[.string k,.bool e] 128);go_wp2_with (at_builtin;go_loud (refine zab _ rfl (.tmp 12) (.tmp 15) 46 46 rfl w.heap.size 9 I (.string ⟨#[]⟩) 1 16 Tryz.underlying46 m n o q rfl yac (.slice x i y) i _ rfl (j.alloc _) _ 1 [.string k] rfl (Src.ofSlice _ Tryz.underlying46 _ 1 1 _ rfl (cells_at _ #[.string k] _ _ yaf) (zfw [k])) yad yab (zad (zad b)) ?_;intro v9 N f C H))
    have D:N.ownsRow w.heap.size 9 1 v9 (i + 1) (ks ((d.take (i + 1)).map Prod.fst)):=by rw [z,zno];exact f
    have E:=zae (B.alloc (zad b) _) C (j.alloc _) (zad (zad b)) (yaj _);exact ⟨⟨i + 1,by go_num,by omega,D,E⟩,by simp [intOf];omega⟩
  · obtain rfl:i=d.length:=by omega
    have K:¬(((d.length:Nat):Int)<(d.length:Int)):=by omega
    rw [yaz] at g;obtain ⟨x,y,rfl,O⟩:=Rd.own g;go_wp2_with fail
    go_ret
    exact ⟨x,y,rfl,g,hb⟩
theorem tuplesOf_any {p q:List (TuP × Bool)} (h1:Rd w w.heap.size 7 A1 p.length c1 (p.flatMap za5)) (h2:Rd w w.heap.size 7 A2 q.length c2 (q.flatMap za5)) (hp:p.length≤100000) (hq:q.length≤100000) :
 Calls Tryz.prog 34 #[.slice A1 p.length c1,.slice A2 q.length c2] w fun e w'=>∃A c,e = .returned (.slice A (p.length + q.length) c)∧Rd w' w'.heap.size 6 A (p.length + q.length) c (((p ++ q).map Prod.fst).flatMap zeT)∧Below w.heap.size w w':=by
 obtain ⟨i0,F,G,H,I⟩:=info_parts ziT;go_enter Tryz.func34,Tryz.ntmps34
 go_wp2_with fail
 go_loopw [5,12] (fun Q o J=>∃i:Nat,o = .int .i64 i∧i≤p.length∧J.ownsRow w.heap.size 51 6 Q i (((p.take i).map Prod.fst).flatMap zeT)∧Below w.heap.size w J) (fun _ o _=>p.length-(intOf o).toNat)
 case atStart=>exact ⟨0,rfl,yao _,World.ownsRow_nil _ _ _ _,Below.refl _ _⟩
 case round =>
  obtain ⟨i,rfl,hi,k,hb⟩:=hrel;have f:=hb.size;by_cases s:i<p.length
  · have N:(i:Int)<(p.length:Int):=by omega
    obtain ⟨x,K⟩:∃x,p[i]? = some x:=⟨_,yal s⟩;obtain ⟨b3,o3,rfl,R,g⟩:=zc5 za5 zdp (h1.below hb) rfl K;obtain ⟨O,P,rfl,_⟩:=Rd.own k;obtain ⟨⟨⟨a,b,c⟩,⟨y,z,t⟩⟩,e⟩:=x;have g0:=g 0 _ rfl;have T:=g 1 _ rfl;have U:=g 2 _ rfl;have V:=g 3 _ rfl;have X:=g 4 _ rfl;have Y:=g 5 _ rfl;have Z:=g 6 _ rfl;dsimp only at g0 T U V X Y Z;rw [ybH] at g0;have u:((p.take (i + 1)).map Prod.fst).flatMap zeT=((p.take i).map Prod.fst).flatMap zeT ++ zeT ((a,b,c),(y,z,t)):=by rw [yaC,K];simp
    have m:=k.alloc (.cells #[.string a,.string b,.string c,.string y,.string z,.string t,.bool e] 66);have B:=hb.alloc f (.cells #[.string a,.string b,.string c,.string y,.string z,.string t,.bool e] 66);clear g;go_wp2_with (at_builtin;go_loud (refine zab _ rfl (.tmp 16) (.tmp 19) 47 47 rfl w.heap.size 51 i0 _ 6 96 Tryz.underlying47 F G H I rfl yac (.slice O i P) i _ rfl (m.alloc _) _ 1 (zeT ((a,b,c),(y,z,t))) rfl (Src.ofSlice _ Tryz.underlying47 _ 1 1 _ rfl (cells_at _ #[.string a,.string b,.string c,.string y,.string z,.string t] _ _ yaf) (zj8 _)) yad yab (zad (zad f)) ?_;intro v9 w8 j C L))
    have D:w8.ownsRow w.heap.size 51 6 v9 (i + 1) (((p.take (i + 1)).map Prod.fst).flatMap zeT):=by rw [u];exact j
    have E:=zae (B.alloc (zad f) _) C (m.alloc _) (zad (zad f)) (yaj _);exact ⟨⟨i + 1,by go_num,by omega,D,E⟩,by simp [intOf];omega⟩
  · obtain rfl:i=p.length:=by omega
    have N:¬(((p.length:Nat):Int)<(p.length:Int)):=by omega
    rw [yaz] at k;clear N;go_wp2_with fail
    go_loopw [5,24] (fun Q o J=>∃i:Nat,o = .int .i64 i∧i≤q.length∧J.ownsRow w.heap.size 51 6 Q (p.length + i) ((p.map Prod.fst).flatMap zeT ++ ((q.take i).map Prod.fst).flatMap zeT)∧Below w.heap.size w J) (fun _ o _=>q.length-(intOf o).toNat)
    case atStart=>exact ⟨0,rfl,yao _,by simpa using k,hb⟩
    case round =>
     clear hb k f;obtain ⟨i,rfl,hi,k,hb⟩:=hrel;have f:=hb.size;by_cases s:i<q.length
     · have N:(i:Int)<(q.length:Int):=by omega
       obtain ⟨x,K⟩:∃x,q[i]? = some x:=⟨_,yal s⟩;obtain ⟨b3,o3,rfl,R,g⟩:=zc5 za5 zdp (h2.below hb) rfl K;obtain ⟨n,M⟩:∃n,p.length + i=n:=⟨_,rfl⟩;rw [M] at k;replace M:=Lib.hid M;have a2:n≤200000:=by have:=M.out;omega
       obtain ⟨O,P,rfl,_⟩:=Rd.own k;obtain ⟨⟨⟨a,b,c⟩,⟨y,z,t⟩⟩,e⟩:=x;have g0:=g 0 _ rfl;have T:=g 1 _ rfl;have U:=g 2 _ rfl;have V:=g 3 _ rfl;have X:=g 4 _ rfl;have Y:=g 5 _ rfl;have Z:=g 6 _ rfl;dsimp only at g0 T U V X Y Z;rw [ybH] at g0;have u:((q.take (i + 1)).map Prod.fst).flatMap zeT=((q.take i).map Prod.fst).flatMap zeT ++ zeT ((a,b,c),(y,z,t)):=by rw [yaC,K];simp
       have m:=k.alloc (.cells #[.string a,.string b,.string c,.string y,.string z,.string t,.bool e] 54);have B:=hb.alloc f (.cells #[.string a,.string b,.string c,.string y,.string z,.string t,.bool e] 54);clear g;go_wp2_with (at_builtin;go_loud (refine zab _ rfl (.tmp 28) (.tmp 31) 47 47 rfl w.heap.size 51 i0 _ 6 96 Tryz.underlying47 F G H I rfl yac _ n _ rfl (m.alloc _) _ 1 (zeT ((a,b,c),(y,z,t))) rfl (Src.ofSlice _ Tryz.underlying47 _ 1 1 _ rfl (cells_at _ #[.string a,.string b,.string c,.string y,.string z,.string t] _ _ yaf) (zj8 _)) yad yab (zad (zad f)) ?_;intro v9 w8 j C L))
       have D:w8.ownsRow w.heap.size 51 6 v9 (p.length + (i + 1)) ((p.map Prod.fst).flatMap zeT ++ ((q.take (i + 1)).map Prod.fst).flatMap zeT):=by rw [u,←yaD,←ya7,M.out];exact j
       have E:=zae (B.alloc (zad f) _) C (m.alloc _) (zad (zad f)) (yaj _);exact ⟨⟨i + 1,by go_num,by omega,D,E⟩,by simp [intOf];omega⟩
     · obtain rfl:i=q.length:=by omega
       have N:¬(((q.length:Nat):Int)<(q.length:Int)):=by omega
       rw [yaz] at k;obtain ⟨O,P,rfl,a1⟩:=Rd.own k;go_wp2_with fail
       go_ret
       exact ⟨O,P,rfl,a1,hb⟩
theorem zbC:Maps.Keyed Tryz.prog 9:=Maps.string_keyed Tryz.underlying9
def kB (k:ByteArray):Lit:=.string k.data.toList
theorem zhv (h:k.size≤maxLen):keyOf Tryz.prog 9 (.string k)=some (kB k):=by
 simp [keyOf,Tryz.underlying9,mapKey,h,kB]
theorem zqt {a b:ByteArray} (h:kB a=kB b):a=b:=by
 have h:=Lit.string.inj h;exact ByteArray.ext (ycK.1 h)
def MapD (w:World) (b n:Nat) (T:ByteArray→Bool):Prop:=∃(D:DataW Unit) (m:Nat),m≤n∧w.ownsMap Tryz.prog 9 unitElem b m D∧Maps.size D≤n∧∀k:ByteArray,k.size≤maxLen→Maps.has D (kB k)=T k
theorem MapD.kept {row:Option Nat} (h:MapD w b n T) (hg:w.grownBy w' row) (hne:some b≠row):MapD w' b n T:=by
 obtain ⟨D,m,f,g,j⟩:=h;exact ⟨D,m,f,g.kept hg hne,j⟩
theorem MapD.alloc (h:MapD w b n T) (o:Obj):MapD (w.alloc o) b n T:=h.kept (World.grownBy_alloc w o none) yaf
theorem MapD.lt (h:MapD w b n T):b<w.heap.size:=by
 obtain ⟨D,m,g,f,j⟩:=h;exact f.lt
def zdN (T:ByteArray→Bool) (k:ByteArray):ByteArray→Bool:=fun x=>if x=k then !T k else T x
theorem MapD.put {m:Nat} (hT:T k=false) (hm:m≤n) (h:w.ownsMap Tryz.prog 9 unitElem b m D) (hs:Maps.size D≤n) (hh:∀k:ByteArray,k.size≤maxLen→Maps.has D (kB k)=T k)
 (h':w'.ownsMap Tryz.prog 9 unitElem b (m + 1) (D.put (kB k) (.agg []))):MapD w' b (n + 1) (zdN T k):=by
 refine ⟨_,m + 1,by omega,h',?_,fun x f=>?_⟩
 · rw [Maps.size_put (h.tidy zbC)];split <;> omega
 · unfold zdN;by_cases e:x=k
   · subst e;rw [yan rfl,hT,Maps.has_put_same h.isMap (by trivial)];rfl
   · rw [yak e,Maps.has_put_other fun g=>e (zqt g),hh x f]
theorem MapD.del {m:Nat} (hT:T k=true) (hm:m≤n) (h:w.ownsMap Tryz.prog 9 unitElem b m D) (hs:Maps.size D≤n) (hh:∀k:ByteArray,k.size≤maxLen→Maps.has D (kB k)=T k)
 (h':w'.ownsMap Tryz.prog 9 unitElem b m (D.del (kB k))):MapD w' b (n + 1) (zdN T k):=by
 refine ⟨_,m,by omega,h',?_,fun x f=>?_⟩
 · have:=Maps.size_del (k:=kB k) (h.tidy zbC);omega
 · unfold zdN;by_cases e:x=k
   · subst e;rw [yan rfl,hT,Maps.has_del_same];rfl
   · rw [yak e,Maps.has_del_other fun g=>e (zqt g),hh x f]
theorem zlD (w:World):(zeroValue 168).run Tryz.prog w = .ok (.agg #[]) w:=Tryz.zeroValue168 w
theorem dhas_any (h:Rd w B 1 A n c (ks s)) (hB:B≤w.heap.size) (hn:n=s.length) (hs:Rises s) (hl:n≤1000000) (hM:MapD w b mm T) (hk:k.size≤maxLen) :
 Calls Tryz.prog 154 #[.agg #[.slice A n c,.map (some b)],.string k] w fun e w'=>e = .returned (.bool (hasK s k != T k))∧w.grownBy w' none:=by
 obtain ⟨D,m,E,g,o,u⟩:=hM;have x:=u k hk;have j:=zhv hk;have z:=fun (W:World) (F:Below B w W)=>has_any (h.below F) hn hs hl k;obtain ⟨H,C⟩:∃H,hasK s k=H:=⟨_,rfl⟩;rw [C];simp only [C] at z;rw [←x];have f:=g.alloc (.cells #[.slice A n c,.map (some b)] 134);have G:=zlD;clear x u E o hn hl h;go_enter Tryz.func154,Tryz.ntmps154
 go_wp2_with (first
  | (at_lookup;go_loud (refine wpList_lookup_own_unit _ rfl _ _ 132 rfl 9 168 zbC Tryz.underlying132 (G _) b m D rfl f _ _ rfl j ?_))
  | (go_at_call 68;go_loud (refine (z _ (((Below.refl B w).alloc hB _).alloc (zad hB) _)).mono ?_;rintro e w' ⟨rfl,q,rfl⟩)))
 go_ret
 refine ⟨?_,?_⟩
 · obtain ⟨y,I⟩:∃y,Maps.has D (kB k)=y:=⟨_,rfl⟩;rw [I];cases H <;> cases y <;> rfl
 · exact ((World.grownBy_alloc w _ none).trans (World.grownBy_alloc _ _ none)).trans ⟨rfl,rfl,rfl,yaj _,fun _ _ _=>rfl⟩
theorem dturn_any (hM:MapD w b mm T) (hmm:mm<1000000) (hk:k.size≤maxLen) :
 Calls Tryz.prog 155 #[.agg #[.slice A n c,.map (some b)],.string k] w fun e w'=>e = .returned (.tuple #[])∧MapD w' b (mm + 1) (zdN T k)∧w.grownBy w' (some b):=by
 obtain ⟨D,m,C,f,s,z⟩:=hM;have F:=z k hk;have j:=zhv hk;have g:=f.alloc (.cells #[.slice A n c,.map (some b)] 134);have q:=g.alloc (.cells #[] 168);have G:=zlD;have B:w.grownBy ((w.alloc (.cells #[.slice A n c,.map (some b)] 134)).alloc (.cells #[] 168)) (some b):=(World.grownBy_alloc w _ _).trans (World.grownBy_alloc _ _ _);cases o:T k
 · rw [o] at F;have u:∀W,W.ownsMap Tryz.prog 9 unitElem b (m + 1) (D.put (kB k) (.agg []))→MapD W b (mm + 1) (zdN T k):=fun W h=>MapD.put o C f s z h;have E:m<maxLen:=by simp only [maxLen];omega
   clear z C s o hmm f;go_enter Tryz.func155,Tryz.ntmps155
   go_wp2_with (first
    | (at_lookup;refine wpList_lookup_own_unit _ rfl _ _ 132 rfl 9 168 zbC Tryz.underlying132 (G _) b m D rfl g _ _ rfl j ?_)
    | (at_mapUpdate;go_loud (refine wpList_mapUpdate_own _ rfl _ _ _ 132 rfl 9 168 zbC Tryz.underlying132 _ b m _ rfl q E _ _ _ rfl rfl j _ [] unitElem_mk ?_;intro H x y)))
   go_end0
   exact ⟨rfl,u _ x,B.trans y⟩
 · rw [o] at F;have u:∀W,W.ownsMap Tryz.prog 9 unitElem b m (D.del (kB k))→MapD W b (mm + 1) (zdN T k):=fun W h=>MapD.del o C f s z h;clear z C s o hmm f;go_enter Tryz.func155,Tryz.ntmps155
   go_wp2_with (first
    | (at_lookup;refine wpList_lookup_own_unit _ rfl _ _ 132 rfl 9 168 zbC Tryz.underlying132 (G _) b m D rfl g _ _ rfl j ?_)
    | (at_delete;go_loud (refine wpList_delete_own _ rfl _ _ 132 9 rfl 168 zbC Tryz.underlying132 _ b m D rfl q _ _ rfl j ?_;intro H x y)))
   (try simp only [Exit.inBlock,Exit.then])
   refine bodyPost_ret (results_none rfl _ _ _) rfl ?_;exact ⟨rfl,u _ x,B.trans y.grown⟩
inductive Step (w w':World) (b mm:Nat) (T:ByteArray→Bool) (k:ByteArray) (is add:Bool):Int→Prop
 | done (h:is = !add) (hM:MapD w' b (mm + 1) (zdN T k)) (hg:w.grownBy w' (some b)):Step w w' b mm T k is add 0
 | not (h:is=add):Step w w' b mm T k is add (if add then 32 else 41)
theorem dput_any (h:Rd w B 1 A n c (ks s)) (hB:B≤w.heap.size) (hn:n=s.length) (hs:Rises s) (hl:n≤1000000) (hM:MapD w b mm T) (hmm:mm<1000000) (hk:k.size≤maxLen) :
 Calls Tryz.prog 109 #[.agg #[.slice A n c,.map (some b)],.string k] w fun e w'=>∃z,e = .returned (.int .i64 z)∧Step w w' b mm T k (hasK s k != T k) true z∧w.grownBy w' (some b):=by
 have m:=World.grownBy_alloc w (.cells #[.slice A n c,.map (some b)] 134) (some b);have o:=dhas_any (w:=w.alloc (.cells #[.slice A n c,.map (some b)] 134)) (c:=c) (b:=b) (k:=k) (h.below ((Below.refl B w).alloc hB _)) (zad hB) hn hs hl (hM.alloc _) hk;have u:=fun (W:World) (q:(w.alloc (.cells #[.slice A n c,.map (some b)] 134)).grownBy W none)=>dturn_any (A:=A) (n:=n) (c:=c) ((hM.alloc (.cells #[.slice A n c,.map (some b)] 134)).kept q yaf) hmm hk;have x:=fun (W:World) (q:(w.alloc (.cells #[.slice A n c,.map (some b)] 134)).grownBy W none)=>ziE q;obtain ⟨I,y⟩:∃I,(hasK s k != T k)=I:=⟨_,rfl⟩;rw [y] at o ⊢;clear y h hM hmm hl hn;cases I
 · go_enter Tryz.func109,Tryz.ntmps109
   go_wp2_with (first
    | (go_at_call 154;refine o.mono ?_;rintro e C ⟨rfl,f⟩;obtain ⟨D,E⟩:=x _ f)
    | (go_at_call 155;refine (u _ f).mono ?_;rintro e F ⟨rfl,j,g⟩)
    | fail)
   go_ret
   exact ⟨0,rfl,.done rfl j (m.trans ((f.weak _).trans g)),m.trans ((f.weak _).trans g)⟩
 · go_enter Tryz.func109,Tryz.ntmps109
   go_wp2_with (first
    | (go_at_call 154;refine o.mono ?_;rintro e C ⟨rfl,f⟩;obtain ⟨D,E⟩:=x _ f)
    | (go_at_call 155;refine (u _ f).mono ?_;rintro e F ⟨rfl,j,g⟩)
    | fail)
   go_ret
   exact ⟨32,rfl,.not rfl,m.trans (f.weak _)⟩
theorem ddrop_any (h:Rd w B 1 A n c (ks s)) (hB:B≤w.heap.size) (hn:n=s.length) (hs:Rises s) (hl:n≤1000000) (hM:MapD w b mm T) (hmm:mm<1000000) (hk:k.size≤maxLen) :
 Calls Tryz.prog 110 #[.agg #[.slice A n c,.map (some b)],.string k] w fun e w'=>∃z,e = .returned (.int .i64 z)∧Step w w' b mm T k (hasK s k != T k) false z∧w.grownBy w' (some b):=by
 have m:=World.grownBy_alloc w (.cells #[.slice A n c,.map (some b)] 134) (some b);have o:=dhas_any (w:=w.alloc (.cells #[.slice A n c,.map (some b)] 134)) (c:=c) (b:=b) (k:=k) (h.below ((Below.refl B w).alloc hB _)) (zad hB) hn hs hl (hM.alloc _) hk;have u:=fun (W:World) (q:(w.alloc (.cells #[.slice A n c,.map (some b)] 134)).grownBy W none)=>dturn_any (A:=A) (n:=n) (c:=c) ((hM.alloc (.cells #[.slice A n c,.map (some b)] 134)).kept q yaf) hmm hk;have x:=fun (W:World) (q:(w.alloc (.cells #[.slice A n c,.map (some b)] 134)).grownBy W none)=>ziE q;obtain ⟨I,y⟩:∃I,(hasK s k != T k)=I:=⟨_,rfl⟩;rw [y] at o ⊢;clear y h hM hmm hl hn;cases I
 · go_enter Tryz.func110,Tryz.ntmps110
   go_wp2_with (first
    | (go_at_call 154;refine o.mono ?_;rintro e C ⟨rfl,f⟩;obtain ⟨D,E⟩:=x _ f)
    | (go_at_call 155;refine (u _ f).mono ?_;rintro e F ⟨rfl,j,g⟩)
    | fail)
   go_ret
   exact ⟨41,rfl,.not rfl,m.trans (f.weak _)⟩
 · go_enter Tryz.func110,Tryz.ntmps110
   go_wp2_with (first
    | (go_at_call 154;refine o.mono ?_;rintro e C ⟨rfl,f⟩;obtain ⟨D,E⟩:=x _ f)
    | (go_at_call 155;refine (u _ f).mono ?_;rintro e F ⟨rfl,j,g⟩)
    | fail)
   go_ret
   exact ⟨0,rfl,.done rfl j (m.trans ((f.weak _).trans g)),m.trans ((f.weak _).trans g)⟩
theorem zhE (h:w.ownsMap Tryz.prog 9 unitElem b n D) (x:List UInt8):x ∈ strKeys D↔Maps.has D (.string x)=true:=by
 obtain ⟨m,rfl,hk⟩:=h.keysOf;rw [Maps.has_eq,ybV];show x ∈ m.map (fun p=>_root_.Go.strOf p.1)↔_;rw [yaH];constructor
 · rintro ⟨p,f,rfl⟩;obtain ⟨v,j⟩:=hk p f;obtain ⟨y,_,g,_⟩:=Maps.keyOf_str Tryz.underlying9 j;exact ⟨p,f,by rw [g];simp [Lit.sameKey,_root_.Go.strOf]⟩
 · rintro ⟨p,f,k⟩;obtain ⟨v,j⟩:=hk p f;obtain ⟨y,_,g,_⟩:=Maps.keyOf_str Tryz.underlying9 j;rw [g] at k;simp only [Lit.sameKey,ybY] at k;exact ⟨p,f,by rw [g];exact k⟩
theorem zkx (b:Nat) (w:World):Calls Tryz.prog 90 #[.map (some b)] w fun e w'=>e = .returned (.func (.func 139) #[] #[.pointer (some ⟨w.heap.size,0,none⟩)])∧w'=w.alloc (.cells #[.map (some b)] 132) :=
 callsIn_wide.1 (AnyZ.keys_in znt Fence.wide 5 trivial rfl (some b) w)
theorem sorts_in (m:Nat):AnyZ.SortsIn Tryz.prog zeX Fence.wide m :=
 ⟨fun blk f cap j W k b g=>callsIn_wide.2 (AnyM.slices_Sort_string zeu blk f cap j W k b g),fun p cap W=>callsIn_wide.2 (AnyM.slices_Sort_string_none zeu p cap W)⟩
theorem sorted_any (hM:MapD w b mm T) (hmm:mm<1000000) :
 Calls Tryz.prog 89 #[.func (.func 139) #[] #[.pointer (some ⟨w.heap.size,0,none⟩)]] (w.alloc (.cells #[.map (some b)] 132)) fun e w' =>
  ∃A c t,e = .returned (.slice A t.length c)∧Rises t∧t.length≤mm∧(∀k:ByteArray,k ∈ t↔k.size≤maxLen∧T k=true)∧Rd w' w'.heap.size 1 A t.length c (ks t)∧Below w.heap.size w w':=by
 obtain ⟨D,m,Z,f,B,P⟩:=hM;have V:=f.lt;have hseq:SeqGives Fence.wide 2 Tryz.prog 139 #[.pointer (some ⟨w.heap.size,0,none⟩)] encStr (fun z=>z.Perm (strKeys D)) (Maps.size D) (w.alloc (.cells #[.map (some b)] 132)) :=
  AnyZ.keys_gives (ρ:=zgq) { znt with } Fence.wide _ trivial rfl yab w.heap.size b m D _ yaf yaf (f.alloc _)
 have X:=AnyZ.sorted_in zoE Fence.wide 5 trivial trivial trivial trivial rfl yab (sorts_in _) (enters_of Tryz.func106 yaa rfl) 139 #[.pointer (some ⟨w.heap.size,0,none⟩)] trivial (enters_of Tryz.func139 yaa rfl) _ _ yad yab _ hseq;refine (callsIn_wide.1 X).mono ?_;rintro e w' ⟨v,z,rfl,C,g,_,hb⟩;have E:(strKeys D).Nodup:=by
  obtain ⟨F,Q,G,_⟩:=f.entries zbC;obtain ⟨es',o,s⟩:=f.keysOf;obtain rfl:F=es':=by rw [Q] at o;simpa using o
  subst Q;show (F.map fun p=>_root_.Go.strOf p.1).Nodup;refine yce.2 (G.imp_of_mem fun {p q} H I J e=>J ?_);obtain ⟨v1,K⟩:=s p H;obtain ⟨v2,L⟩:=s q I;obtain ⟨y1,_,M,_⟩:=Maps.keyOf_str Tryz.underlying9 K;obtain ⟨y2,_,N,_⟩:=Maps.keyOf_str Tryz.underlying9 L;rw [M,N] at e ⊢;exact congrArg _ e
 obtain ⟨R,U⟩:=zlv (C.nodup_iff.2 E);obtain ⟨ms,u⟩:∃ms,(z.mergeSort fun x y=>decide (x≤y))=ms:=⟨_,rfl⟩;have n:z.length=(ms.map zdd).length:=by rw [yax,←u,List.length_mergeSort]
 rw [u] at g R U;rw [n,ks_enc] at g;obtain ⟨A,c,rfl,Y⟩:=Rd.own g;have O:(strKeys D).length=Maps.size D:=by
  obtain ⟨F,rfl,_⟩:=f.keysOf;exact yax _
 refine ⟨A,c,ms.map zdd,rfl,R,by rw [←n,C.length_eq,O];exact B,fun k=>?_,Y,zac (zaI w _) yaf hb⟩;rw [U k,C.mem_iff,zhE f];constructor
 · intro hk;have j:k.size≤maxLen:=by
    have:=strKeys_le f Tryz.underlying9 k.data.toList ((zhE f _).2 hk);rw [ybo] at this;exact this
   exact ⟨j,by rw [←P k j];exact hk⟩
 · rintro ⟨j,hk⟩;rw [←P k j] at hk;exact hk
theorem set_any (h:Rd w w.heap.size 1 A s.length c (ks s)) (hs:Rises s) (hl:s.length≤1000000) (hM:MapD w b mm T) (hmm:mm<1000000) :
 Calls Tryz.prog 70 #[.agg #[.slice A s.length c,.map (some b)]] w fun e w'=>∃A' c' r,e = .returned (.slice A' r.length c')∧Rises r∧(∀k:ByteArray,hasK r k=(hasK s k != (decide (k.size≤maxLen) && T k)))∧r.length≤s.length + mm∧w'.ownsRow w.heap.size 9 1 (.slice A' r.length c') r.length (ks r)∧Below w.heap.size w w':=by
 obtain ⟨i0,J,K,L,M⟩:=info_parts zcP;obtain ⟨w1,f⟩:∃w1,w.alloc (.cells #[.slice A s.length c,.map (some b)] 134)=w1:=⟨_,rfl⟩;have m:Below w.heap.size w w1:=f ▸ zaI w _;have y:MapD w1 b mm T:=f ▸ hM.alloc _;obtain ⟨N,p1⟩:=box2 w (.slice A s.length c) (.map (some b)) 134;rw [f] at N p1;have q:w.heap.size<w1.heap.size:=by rw [←f];simp
 have kk:=zkx b w1;have z:=sorted_any y hmm;have h1:=h.up m;clear hM y h;go_enter Tryz.func70,Tryz.ntmps70
 go_upto_region 1 with (fail)
 clear f;go_upto_region 2 with (first
  | (go_at_call 90;refine kk.mono ?_;rintro e w' ⟨rfl,rfl⟩)
  | (go_at_call 89;refine z.mono ?_;rintro e w2 ⟨A2,c2,t,rfl,ht,a7,B,C,n⟩)
  | fail)
 have q0:w2.cell? ⟨w.heap.size,0,none⟩=some (.slice A s.length c):=(n.cell q).trans N;have h2:=h1.up n;have g:=zac m m.size n;have kd:=diff_any h2 C hl yab;obtain ⟨D,E⟩:=zjs hs ht;have O:=zm5 s t;obtain ⟨d,hd⟩:∃d,zaO s t=d:=⟨_,rfl⟩;rw [hd] at kd D E O;clear kk z N p1 h1 h2 C m n hd;go_upto_region 4 with (go_at_call 42;refine kd.mono ?_;rintro e F ⟨A3,c3,rfl,P,G⟩)
 have j:=zac g g.size G;clear kd q0 g G q;go_wp2_with fail
 go_loopw [4,16] (fun vm Q wx=>∃i:Nat,Q = .int .i64 i∧i≤d.length∧wx.ownsRow F.heap.size 9 1 vm i (ks ((d.take i).map Prod.fst))∧Below F.heap.size F wx) (fun _ Q _=>d.length-(intOf Q).toNat)
 case atStart=>exact ⟨0,rfl,yao _,World.ownsRow_nil _ _ _ _,Below.refl _ _⟩
 case round =>
  obtain ⟨i,rfl,hi,H,hb⟩:=hrel;have o:=hb.size;by_cases R:i<d.length
  · have di:(i:Int)<(d.length:Int):=by omega
    obtain ⟨p,hp⟩:∃p,d[i]? = some p:=⟨_,yal R⟩;obtain ⟨b3,o3,rfl,a8,g0,g1⟩:=zf9 (P.below hb) hp;obtain ⟨U,V,rfl,_⟩:=Rd.own H;obtain ⟨k,e⟩:=p;dsimp only at g0 g1;have X:(d.take (i + 1)).map Prod.fst=(d.take i).map Prod.fst ++ [k]:=by rw [yaC,hp];simp
    have I:=H.alloc (.cells #[.string k,.bool e] 128);have Y:=hb.alloc o (.cells #[.string k,.bool e] 128);go_wp2_with (at_builtin;go_loud (refine zab _ rfl (.tmp 20) (.tmp 23) 87 87 rfl F.heap.size 9 i0 (.string ⟨#[]⟩) 1 16 Tryz.underlying87 J K L M rfl yac (.slice U i V) i _ rfl (I.alloc _) _ 1 [.string k] rfl (Src.ofSlice _ Tryz.underlying87 _ 1 1 _ rfl (cells_at _ #[.string k] _ _ yaf) (zfw [k])) yad yab (zad (zad o)) ?_;intro v9 w8 u Z a6))
    have a1:w8.ownsRow F.heap.size 9 1 v9 (i + 1) (ks ((d.take (i + 1)).map Prod.fst)):=by rw [X,zno];exact u
    have a2:=zae (Y.alloc (zad o) _) Z (I.alloc _) (zad (zad o)) (yaj _);exact ⟨⟨i + 1,by go_num,by omega,a1,a2⟩,by simp [intOf];omega⟩
  · obtain rfl:i=d.length:=by omega
    have di:¬(((d.length:Nat):Int)<(d.length:Int)):=by omega
    rw [yaz] at H;obtain ⟨U,V,rfl,aa⟩:=Rd.own H;go_wp2_with fail
    go_ret
    have x:d.length=(d.map Prod.fst).length:=by simp
    refine ⟨U,V,d.map Prod.fst,by rw [←x];rfl,D,fun k=>?_,by rw [←x];omega,by rw [←x];exact zaA H j.size,zac j j.size hb⟩;rw [E k];congr 1
    rw [ya9,zar,B k,ybc,yaP]
end Go.Proofs.YtmblgnddgmfkhaaGreat
