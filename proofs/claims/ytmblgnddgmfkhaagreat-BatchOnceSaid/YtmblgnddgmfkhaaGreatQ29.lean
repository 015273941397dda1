import Derived.Test.YtmblgnddgmfkhaaGreatQ28
set_option maxRecDepth 100000
set_option maxHeartbeats 4000000
namespace Go.Proofs.YtmblgnddgmfkhaaGreat
open Go.RowKit
theorem _root_.Go.World.grownBy.weak {w w':World} (h:w.grownBy w' none) (row:Option Nat):w.grownBy w' row:=by
 obtain ⟨p,q,r,s,t⟩:=h;exact ⟨p,q,r,s,fun k hk _=>t k hk (by simp)⟩
theorem _root_.Go.World.grownBy.upto {w w':World} (h:w.grownBy w' none):Below w.heap.size w w':=⟨h.os,h.tape,h.output,h.size,fun k hk=>h.block k hk (by simp)⟩
variable {w w':World} {b n c mm B c1 c2:Nat} {T:ByteArray→Bool} {A A1 A2:Option Addr} {k:ByteArray} {s:List ByteArray} {D:DataW Unit}
theorem zgS:(Tryz.prog.info? 128).map (fun i=>(i.zero,i.size,i.bytes))=some (some (.agg #[.string ⟨#[]⟩,.bool false]),2,24):=by kernel_rfl
theorem diff_own {t:List ByteArray} (h1:Rd w w.heap.size 1 A1 s.length c1 (ks s)) (h2:Rd w w.heap.size 1 A2 t.length c2 (ks t)) (hs:s.length≤1000000) (ht:t.length≤1000000) :
 Calls Tryz.prog 42 #[.slice A1 s.length c1,.slice A2 t.length c2] w fun e w'=>∃A c,e = .returned (.slice A (zaN s t).length c)∧w'.ownsRow w.heap.size 128 2 (.slice A (zaN s t).length c) (zaN s t).length (pcs (zaN s t))∧Below w.heap.size w w':=by
 obtain ⟨i0,U,V,X,Y⟩:=info_parts zgS;have a6:=zmm s t;obtain ⟨d,hd⟩:∃d,zaN s t=d:=⟨_,rfl⟩;rw [hd] at a6 ⊢;have hd:=Lib.hid hd;go_enter Tryz.func42,Tryz.ntmps42
 go_wp2_with fail
 go_loopw [5,6,7] (fun vm vi vk wx=>∃(i k:Nat) (m:List (ByteArray × Bool)),vi = .int .i64 i∧vk = .int .i64 k∧i≤s.length∧k≤t.length∧wx.ownsRow w.heap.size 128 2 vm m.length (pcs m)∧Below w.heap.size w wx∧Hid (m ++ zaN (s.drop i) (t.drop k)=d)) (fun _ vi vk _=>s.length + t.length-(intOf vi).toNat-(intOf vk).toNat)
 case atStart=>exact ⟨0,0,[],rfl,rfl,yap _,yap _,World.ownsRow_nil _ _ _ _,Below.refl _ _,Lib.hid (by simpa using hd.out)⟩
 case round =>
  obtain ⟨i,k,m,rfl,rfl,hi,hk,N,hb,J⟩:=hrel;have ab:m.length≤2000000:=by
   have:=congrArg List.length J.out;rw [yam] at this;omega
  obtain ⟨K,L,rfl,M⟩:=Rd.own N;have O:=hb.size;have E:=(h1.below hb);have C:=(h2.below hb);by_cases a7:i<s.length
  · have di:(i:Int)<(s.length:Int):=by omega
    have ei:((i:Int) == (s.length:Int))=false:=ybc.2 yab;obtain ⟨a,Z⟩:∃a,s[i]? = some a:=⟨_,yal a7⟩;obtain ⟨b1,o1,rfl,ac,g1⟩:=zhk E Z;by_cases a1:k<t.length
    · have dk:(k:Int)<(t.length:Int):=by omega
      have ek:((k:Int) == (t.length:Int))=false:=ybc.2 yab;obtain ⟨x,P⟩:∃x,t[k]? = some x:=⟨_,yal a1⟩;obtain ⟨b2,o2,rfl,a8,g2⟩:=zhk C P;cases p:kl a x
      · cases u:kl x a
        · have B:Hid (m ++ zaN (s.drop (i + 1)) (t.drop (k + 1))=d):=Lib.hid (by rw [←J.out,zdd Z,zdd P,zjX p u]);have l1:Op.bytesLess a.toList x.toList=false:=p;have l2:Op.bytesLess x.toList a.toList=false:=u;clear J p u E C;clear Z;clear P;go_wp2_with fail
          go_quiet (fail)
          obtain ⟨W,n⟩:∃W,wr.drewN nq=W:=⟨_,rfl⟩;have q:W.ownsRow w.heap.size 128 2 (.slice K m.length L) m.length (pcs m):=by rw [←n];exact N
          have f:Below w.heap.size w W:=by rw [←n];exact hb.trans (zav _ _ nq)
          have Q:W.cell? ⟨b1,o1 + i,none⟩=some (.string a):=by rw [←n];exact g1
          have D:W.cell? ⟨b2,o2 + k,none⟩=some (.string x):=by rw [←n];exact g2
          have b:=f.size;rw [n];clear n N hb M O g1 g2;go_wp2_with fail
          go_quiet (fail)
          obtain ⟨W2,j⟩:∃W2,W.drewN nq=W2:=⟨_,rfl⟩;have F:W2.ownsRow w.heap.size 128 2 (.slice K m.length L) m.length (pcs m):=by rw [←j];exact q
          have y:Below w.heap.size w W2:=by rw [←j];exact f.trans (zav _ _ nq)
          have g:=y.size;rw [j];clear j q f b Q D;go_wp2_with fail
          exact ⟨⟨i + 1,k + 1,m,by go_num,by go_num,by omega,by omega,F,y,B⟩,by simp [intOf];omega⟩
        · have B:Hid ((m ++ [(x,true)]) ++ zaN (s.drop i) (t.drop (k + 1))=d):=Lib.hid (by rw [←J.out,zdd P,zdV (by exact fun z R=>by rw [List.head?_drop,Z] at R;cases R;exact ⟨p,u⟩),yaB];rfl);have l1:Op.bytesLess a.toList x.toList=false:=p;have l2:Op.bytesLess x.toList a.toList=true:=u;clear J p u E C;clear Z;clear P;go_wp2_with fail
          go_quiet (fail)
          obtain ⟨W,n⟩:∃W,wr.drewN nq=W:=⟨_,rfl⟩;have q:W.ownsRow w.heap.size 128 2 (.slice K m.length L) m.length (pcs m):=by rw [←n];exact N
          have f:Below w.heap.size w W:=by rw [←n];exact hb.trans (zav _ _ nq)
          have Q:W.cell? ⟨b1,o1 + i,none⟩=some (.string a):=by rw [←n];exact g1
          have D:W.cell? ⟨b2,o2 + k,none⟩=some (.string x):=by rw [←n];exact g2
          have b:=f.size;rw [n];clear n N hb M O g1 g2;go_wp2_with fail
          go_quiet (fail)
          obtain ⟨W2,j⟩:∃W2,W.drewN nq=W2:=⟨_,rfl⟩;have F:W2.ownsRow w.heap.size 128 2 (.slice K m.length L) m.length (pcs m):=by rw [←j];exact q
          have y:Below w.heap.size w W2:=by rw [←j];exact f.trans (zav _ _ nq)
          have a2:W2.cell? ⟨b2,o2 + k,none⟩=some (.string x):=by rw [←j];exact D
          have g:=y.size;rw [j];clear j q f b Q D;go_wp2_with (at_builtin;go_loud (refine zab _ rfl (.tmp 70) (.tmp 76) 84 84 rfl w.heap.size 128 i0 (.agg #[.string ⟨#[]⟩,.bool false]) 2 24 Tryz.underlying84 U V X Y rfl yac (.slice K m.length L) m.length (pcs m) rfl (F.alloc _) _ 1 [.string x,.bool true] rfl (Src.ofSlice _ Tryz.underlying84 _ 1 1 _ rfl (zbB _ _ _) (zd2 (x,true))) yad yab (zae g) ?_;intro v9 w8 o G T))
          have H:w8.ownsRow w.heap.size 128 2 v9 (m ++ [(x,true)]).length (pcs (m ++ [(x,true)])):=by rw [zd3,yam];exact o
          have I:=zaf (y.alloc g _) G (F.alloc _) (zae g) (yaj _);exact ⟨⟨i,k + 1,m ++ [(x,true)],by go_num,by go_num,by omega,by omega,H,I,B⟩,by simp [intOf];omega⟩
      · have u:True:=trivial;have B:Hid ((m ++ [(a,false)]) ++ zaN (s.drop (i + 1)) (t.drop k)=d):=Lib.hid (by rw [←J.out,zdd Z,zeO (by exact fun z R=>by rw [List.head?_drop,P] at R;cases R;exact p),yaB];rfl);have l1:Op.bytesLess a.toList x.toList=true:=p;clear J p u E C;clear Z;clear P;go_wp2_with fail
        go_quiet (fail)
        obtain ⟨W,n⟩:∃W,wr.drewN nq=W:=⟨_,rfl⟩;have q:W.ownsRow w.heap.size 128 2 (.slice K m.length L) m.length (pcs m):=by rw [←n];exact N
        have f:Below w.heap.size w W:=by rw [←n];exact hb.trans (zav _ _ nq)
        have Q:W.cell? ⟨b1,o1 + i,none⟩=some (.string a):=by rw [←n];exact g1
        have D:W.cell? ⟨b2,o2 + k,none⟩=some (.string x):=by rw [←n];exact g2
        have b:=f.size;rw [n];clear n N hb M O g1 g2;go_wp2_with (at_builtin;go_loud (refine zab _ rfl (.tmp 44) (.tmp 50) 84 84 rfl w.heap.size 128 i0 (.agg #[.string ⟨#[]⟩,.bool false]) 2 24 Tryz.underlying84 U V X Y rfl yac (.slice K m.length L) m.length (pcs m) rfl (q.alloc _) _ 1 [.string a,.bool false] rfl (Src.ofSlice _ Tryz.underlying84 _ 1 1 _ rfl (zbB _ _ _) (zd2 (a,false))) yad yab (zae b) ?_;intro v9 w8 o G T))
        have H:w8.ownsRow w.heap.size 128 2 v9 (m ++ [(a,false)]).length (pcs (m ++ [(a,false)])):=by rw [zd3,yam];exact o
        have I:=zaf (f.alloc b _) G (q.alloc _) (zae b) (yaj _);exact ⟨⟨i + 1,k,m ++ [(a,false)],by go_num,by go_num,by omega,by omega,H,I,B⟩,by simp [intOf];omega⟩
    · have ek:((k:Int) == (t.length:Int))=true:=ybS.2 yab;have dk:¬(k:Int)<(t.length:Int):=by omega
      have B:Hid ((m ++ [(a,false)]) ++ zaN (s.drop (i + 1)) (t.drop k)=d):=Lib.hid (by rw [←J.out,zdd Z,zeO (by exact fun z R=>by rw [List.head?_drop,ycD (by omega)] at R;cases R),yaB];rfl);clear J E C;clear Z;go_wp2_with fail
      go_quiet (fail)
      obtain ⟨W,n⟩:∃W,wr.drewN nq=W:=⟨_,rfl⟩;have q:W.ownsRow w.heap.size 128 2 (.slice K m.length L) m.length (pcs m):=by rw [←n];exact N
      have f:Below w.heap.size w W:=by rw [←n];exact hb.trans (zav _ _ nq)
      have Q:W.cell? ⟨b1,o1 + i,none⟩=some (.string a):=by rw [←n];exact g1
      have b:=f.size;rw [n];clear n N hb M O g1;go_wp2_with (at_builtin;go_loud (refine zab _ rfl (.tmp 44) (.tmp 50) 84 84 rfl w.heap.size 128 i0 (.agg #[.string ⟨#[]⟩,.bool false]) 2 24 Tryz.underlying84 U V X Y rfl yac (.slice K m.length L) m.length (pcs m) rfl (q.alloc _) _ 1 [.string a,.bool false] rfl (Src.ofSlice _ Tryz.underlying84 _ 1 1 _ rfl (zbB _ _ _) (zd2 (a,false))) yad yab (zae b) ?_;intro v9 w8 o G T))
      have H:w8.ownsRow w.heap.size 128 2 v9 (m ++ [(a,false)]).length (pcs (m ++ [(a,false)])):=by rw [zd3,yam];exact o
      have I:=zaf (f.alloc b _) G (q.alloc _) (zae b) (yaj _);exact ⟨⟨i + 1,k,m ++ [(a,false)],by go_num,by go_num,by omega,by omega,H,I,B⟩,by simp [intOf];omega⟩
  · have di:¬(i:Int)<(s.length:Int):=by omega
    have ei:((i:Int) == (s.length:Int))=true:=ybS.2 yab;by_cases a1:k<t.length
    · have dk:(k:Int)<(t.length:Int):=by omega
      have ek:((k:Int) == (t.length:Int))=false:=ybc.2 yab;obtain ⟨x,P⟩:∃x,t[k]? = some x:=⟨_,yal a1⟩;obtain ⟨b2,o2,rfl,a8,g2⟩:=zhk C P;have B:Hid ((m ++ [(x,true)]) ++ zaN (s.drop i) (t.drop (k + 1))=d):=Lib.hid (by rw [←J.out,zdd P,zdV (by exact fun z R=>by rw [List.head?_drop,ycD (by omega)] at R;cases R),yaB];rfl);clear J E C;clear P;go_wp2_with fail
      go_quiet (fail)
      obtain ⟨W,n⟩:∃W,wr.drewN nq=W:=⟨_,rfl⟩;have q:W.ownsRow w.heap.size 128 2 (.slice K m.length L) m.length (pcs m):=by rw [←n];exact N
      have f:Below w.heap.size w W:=by rw [←n];exact hb.trans (zav _ _ nq)
      have D:W.cell? ⟨b2,o2 + k,none⟩=some (.string x):=by rw [←n];exact g2
      have b:=f.size;rw [n];clear n N hb M O g2;go_wp2_with fail
      go_quiet (fail)
      obtain ⟨W2,j⟩:∃W2,W.drewN nq=W2:=⟨_,rfl⟩;have F:W2.ownsRow w.heap.size 128 2 (.slice K m.length L) m.length (pcs m):=by rw [←j];exact q
      have y:Below w.heap.size w W2:=by rw [←j];exact f.trans (zav _ _ nq)
      have a2:W2.cell? ⟨b2,o2 + k,none⟩=some (.string x):=by rw [←j];exact D
      have g:=y.size;rw [j];clear j q f b D;go_wp2_with (at_builtin;go_loud (refine zab _ rfl (.tmp 70) (.tmp 76) 84 84 rfl w.heap.size 128 i0 (.agg #[.string ⟨#[]⟩,.bool false]) 2 24 Tryz.underlying84 U V X Y rfl yac (.slice K m.length L) m.length (pcs m) rfl (F.alloc _) _ 1 [.string x,.bool true] rfl (Src.ofSlice _ Tryz.underlying84 _ 1 1 _ rfl (zbB _ _ _) (zd2 (x,true))) yad yab (zae g) ?_;intro v9 w8 o G T))
      have H:w8.ownsRow w.heap.size 128 2 v9 (m ++ [(x,true)]).length (pcs (m ++ [(x,true)])):=by rw [zd3,yam];exact o
      have I:=zaf (y.alloc g _) G (F.alloc _) (zae g) (yaj _);exact ⟨⟨i,k + 1,m ++ [(x,true)],by go_num,by go_num,by omega,by omega,H,I,B⟩,by simp [intOf];omega⟩
    · have dk:¬(k:Int)<(t.length:Int):=by omega
      have aa:m=d:=by
       have:=J.out;rwa [ycz yab,ycz yab,zmn,yaJ] at this
      subst aa;clear J hd E C M h1 h2;go_wp2_with fail
      go_ret
      exact ⟨K,L,rfl,N,hb⟩
theorem diff_any {t:List ByteArray} (h1:Rd w w.heap.size 1 A1 s.length c1 (ks s)) (h2:Rd w w.heap.size 1 A2 t.length c2 (ks t)) (hs:s.length≤1000000) (ht:t.length≤1000000) :
 Calls Tryz.prog 42 #[.slice A1 s.length c1,.slice A2 t.length c2] w fun e w'=>∃A c,e = .returned (.slice A (zaN s t).length c)∧Rd w' w'.heap.size 2 A (zaN s t).length c (pcs (zaN s t))∧Below w.heap.size w w' :=
 (diff_own h1 h2 hs ht).mono fun _ _ ⟨A,c,e,b,hb⟩=>⟨A,c,e,by
  obtain ⟨_,_,d,f⟩:=Rd.own b;cases d;exact f,hb⟩
theorem zfB {α:Type} (h:α→List Value) {sz:Nat} (hg:∀a,(h a).length=sz) {l:List α} (hR:Rd w B sz A n c (l.flatMap h)) (hn:n=l.length) {i:Nat} {x:α} (hi:l[i]? = some x) :
 ∃b o,A=some ⟨b,o,none⟩∧b<B∧∀k u,(h x)[k]? = some u→w.cell? ⟨b,o + i * sz + k,none⟩=some u:=by
 obtain ⟨b,o,e,hb,f⟩:=hR.at_ (by rw [hn];exact zdI hi);refine ⟨b,o,e,hb,fun k u d=>?_⟩;have hk:k<sz:=by have:=(yao.1 d).1;rwa [hg] at this
 rw [ya4];exact f _ _ ((za6 h (sz:=sz) hg hi (k:=k) hk).trans d)
def zeE (u:TuP):List Value:=[.string u.1.1,.string u.1.2.1,.string u.1.2.2,.string u.2.1,.string u.2.2.1,.string u.2.2.2]
def zco (x:TuP × Bool):List Value:=[.string x.1.1.1,.string x.1.1.2.1,.string x.1.1.2.2,.string x.1.2.1,.string x.1.2.2.1,.string x.1.2.2.2,.bool x.2]
theorem znh (u:TuP):(zeE u).length=6:=rfl
theorem zfh (x:TuP × Bool):(zco x).length=7:=rfl
theorem zjw (u:TuP):∀v ∈ zeE u,v.oneCell'=true:=by
 intro v b;simp only [zeE,yav,ya1,ybw] at b;rcases b with rfl | rfl | rfl | rfl | rfl | rfl <;> rfl
theorem zic:(Tryz.prog.info? 51).map (fun i=>(i.zero,i.size,i.bytes))=some (some (.agg #[.string ⟨#[]⟩,.string ⟨#[]⟩,.string ⟨#[]⟩,.string ⟨#[]⟩,.string ⟨#[]⟩,.string ⟨#[]⟩]),6,96):=by kernel_rfl
theorem zpv:(Tryz.prog.info? 126).map (fun i=>(i.zero,i.size,i.bytes))=some (some (.agg #[.string ⟨#[]⟩,.bool false]),2,24):=by kernel_rfl
theorem keysOf_any {d:List (ByteArray × Bool)} (h:Rd w w.heap.size 2 A d.length c (pcs d)) (hl:d.length≤1000000) :
 Calls Tryz.prog 40 #[.slice A d.length c] w fun e w'=>∃A' c',e = .returned (.slice A' d.length c')∧w'.ownsRow w.heap.size 9 1 (.slice A' d.length c') d.length (ks (d.map Prod.fst))∧Below w.heap.size w w':=by
 obtain ⟨I,m,n,o,q⟩:=info_parts zet;go_enter Tryz.func40,Tryz.ntmps40
 go_wp2_with fail
 go_loopw [3,8] (fun J s F=>∃i:Nat,s = .int .i64 i∧i≤d.length∧F.ownsRow w.heap.size 9 1 J i (ks ((d.take i).map Prod.fst))∧Below w.heap.size w F) (fun _ s _=>d.length-(intOf s).toNat)
 case atStart=>exact ⟨0,rfl,yap _,World.ownsRow_nil _ _ _ _,Below.refl _ _⟩
 case round =>
  obtain ⟨i,rfl,hi,g,hb⟩:=hrel;have b:=hb.size;by_cases u:i<d.length
  · have K:(i:Int)<(d.length:Int):=by omega
    obtain ⟨p,G⟩:∃p,d[i]? = some p:=⟨_,yal u⟩;obtain ⟨P,Q,rfl,L,g0,M⟩:=zfC (h.below hb) G;obtain ⟨x,y,rfl,_⟩:=Rd.own g;obtain ⟨k,e⟩:=p;dsimp only at g0 M;have z:(d.take (i + 1)).map Prod.fst=(d.take i).map Prod.fst ++ [k]:=by rw [yaC,G];simp
    have j:=g.alloc (.cells #[.string k,.bool e] 128);have B:=hb.alloc b (.cells #[.string k,.bool e] 128);go_wp2_with (at_builtin;go_loud (refine zab _ rfl (.tmp 12) (.tmp 15) 46 46 rfl w.heap.size 9 I (.string ⟨#[]⟩) 1 16 Tryz.underlying46 m n o q rfl yac (.slice x i y) i _ rfl (j.alloc _) _ 1 [.string k] rfl (Src.ofSlice _ Tryz.underlying46 _ 1 1 _ rfl (cells_at _ #[.string k] _ _ yaf) (zpQ [k])) yad yab (zae (zae b)) ?_;intro v9 N f C H))
    have D:N.ownsRow w.heap.size 9 1 v9 (i + 1) (ks ((d.take (i + 1)).map Prod.fst)):=by rw [z,zpP];exact f
    have E:=zaf (B.alloc (zae b) _) C (j.alloc _) (zae (zae b)) (yaj _);exact ⟨⟨i + 1,by go_num,by omega,D,E⟩,by simp [intOf];omega⟩
  · obtain rfl:i=d.length:=by omega
    have K:¬(((d.length:Nat):Int)<(d.length:Int)):=by omega
    rw [yaA] at g;obtain ⟨x,y,rfl,O⟩:=Rd.own g;go_wp2_with fail
    go_ret
    exact ⟨x,y,rfl,g,hb⟩
theorem tuplesOf_any {p q:List (TuP × Bool)} (h1:Rd w w.heap.size 7 A1 p.length c1 (p.flatMap zco)) (h2:Rd w w.heap.size 7 A2 q.length c2 (q.flatMap zco)) (hp:p.length≤100000) (hq:q.length≤100000) :
 Calls Tryz.prog 34 #[.slice A1 p.length c1,.slice A2 q.length c2] w fun e w'=>∃A c,e = .returned (.slice A (p.length + q.length) c)∧Rd w' w'.heap.size 6 A (p.length + q.length) c (((p ++ q).map Prod.fst).flatMap zeE)∧Below w.heap.size w w':=by
 obtain ⟨i0,E,F,G,H⟩:=info_parts zic;go_enter Tryz.func34,Tryz.ntmps34
 go_wp2_with fail
 go_loopw [5,12] (fun P m I=>∃i:Nat,m = .int .i64 i∧i≤p.length∧I.ownsRow w.heap.size 51 6 P i (((p.take i).map Prod.fst).flatMap zeE)∧Below w.heap.size w I) (fun _ m _=>p.length-(intOf m).toNat)
 case atStart=>exact ⟨0,rfl,yap _,World.ownsRow_nil _ _ _ _,Below.refl _ _⟩
 case round =>
  obtain ⟨i,rfl,hi,j,hb⟩:=hrel;have d:=hb.size;by_cases o:i<p.length
  · have M:(i:Int)<(p.length:Int):=by omega
    obtain ⟨x,J⟩:∃x,p[i]? = some x:=⟨_,yal o⟩;obtain ⟨b3,o3,rfl,Q,f⟩:=zfB zco zfh (h1.below hb) rfl J;obtain ⟨N,O,rfl,_⟩:=Rd.own j;obtain ⟨⟨⟨a,b,c⟩,⟨y,z,t⟩⟩,e⟩:=x;have g0:=f 0 _ rfl;have R:=f 1 _ rfl;have T:=f 2 _ rfl;have U:=f 3 _ rfl;have V:=f 4 _ rfl;have X:=f 5 _ rfl;have Y:=f 6 _ rfl;dsimp only at g0 R T U V X Y;rw [ybP] at g0;have s:((p.take (i + 1)).map Prod.fst).flatMap zeE=((p.take i).map Prod.fst).flatMap zeE ++ zeE ((a,b,c),(y,z,t)):=by rw [yaC,J];simp
    have k:=j.alloc (.cells #[.string a,.string b,.string c,.string y,.string z,.string t,.bool e] 66);have u:=hb.alloc d (.cells #[.string a,.string b,.string c,.string y,.string z,.string t,.bool e] 66);clear f;go_wp2_with (at_builtin;go_loud (refine zab _ rfl (.tmp 16) (.tmp 19) 47 47 rfl w.heap.size 51 i0 _ 6 96 Tryz.underlying47 E F G H rfl yac (.slice N i O) i _ rfl (k.alloc _) _ 1 (zeE ((a,b,c),(y,z,t))) rfl (Src.ofSlice _ Tryz.underlying47 _ 1 1 _ rfl (cells_at _ #[.string a,.string b,.string c,.string y,.string z,.string t] _ _ yaf) (zjw _)) yad yab (zae (zae d)) ?_;intro v9 Z g B K))
    have C:Z.ownsRow w.heap.size 51 6 v9 (i + 1) (((p.take (i + 1)).map Prod.fst).flatMap zeE):=by rw [s];exact g
    have D:=zaf (u.alloc (zae d) _) B (k.alloc _) (zae (zae d)) (yaj _);exact ⟨⟨i + 1,by go_num,by omega,C,D⟩,by simp [intOf];omega⟩
  · obtain rfl:i=p.length:=by omega
    have M:¬(((p.length:Nat):Int)<(p.length:Int)):=by omega
    rw [yaA] at j;clear M;go_wp2_with fail
    go_loopw [5,24] (fun P m I=>∃i:Nat,m = .int .i64 i∧i≤q.length∧I.ownsRow w.heap.size 51 6 P (p.length + i) ((p.map Prod.fst).flatMap zeE ++ ((q.take i).map Prod.fst).flatMap zeE)∧Below w.heap.size w I) (fun _ m _=>q.length-(intOf m).toNat)
    case atStart=>exact ⟨0,rfl,yap _,by simpa using j,hb⟩
    case round =>
     clear hb j d;obtain ⟨i,rfl,hi,j,hb⟩:=hrel;have d:=hb.size;by_cases o:i<q.length
     · have M:(i:Int)<(q.length:Int):=by omega
       obtain ⟨x,J⟩:∃x,q[i]? = some x:=⟨_,yal o⟩;obtain ⟨b3,o3,rfl,Q,f⟩:=zfB zco zfh (h2.below hb) rfl J;obtain ⟨n,L⟩:∃n,p.length + i=n:=⟨_,rfl⟩;rw [L] at j;replace L:=Lib.hid L;have a2:n≤200000:=by have:=L.out;omega
       obtain ⟨N,O,rfl,_⟩:=Rd.own j;obtain ⟨⟨⟨a,b,c⟩,⟨y,z,t⟩⟩,e⟩:=x;have g0:=f 0 _ rfl;have R:=f 1 _ rfl;have T:=f 2 _ rfl;have U:=f 3 _ rfl;have V:=f 4 _ rfl;have X:=f 5 _ rfl;have Y:=f 6 _ rfl;dsimp only at g0 R T U V X Y;rw [ybP] at g0;have s:((q.take (i + 1)).map Prod.fst).flatMap zeE=((q.take i).map Prod.fst).flatMap zeE ++ zeE ((a,b,c),(y,z,t)):=by rw [yaC,J];simp
       have k:=j.alloc (.cells #[.string a,.string b,.string c,.string y,.string z,.string t,.bool e] 54);have u:=hb.alloc d (.cells #[.string a,.string b,.string c,.string y,.string z,.string t,.bool e] 54);clear f;go_wp2_with (at_builtin;go_loud (refine zab _ rfl (.tmp 28) (.tmp 31) 47 47 rfl w.heap.size 51 i0 _ 6 96 Tryz.underlying47 E F G H rfl yac _ n _ rfl (k.alloc _) _ 1 (zeE ((a,b,c),(y,z,t))) rfl (Src.ofSlice _ Tryz.underlying47 _ 1 1 _ rfl (cells_at _ #[.string a,.string b,.string c,.string y,.string z,.string t] _ _ yaf) (zjw _)) yad yab (zae (zae d)) ?_;intro v9 Z g B K))
       have C:Z.ownsRow w.heap.size 51 6 v9 (p.length + (i + 1)) ((p.map Prod.fst).flatMap zeE ++ ((q.take (i + 1)).map Prod.fst).flatMap zeE):=by rw [s,←yaB,←ya4,L.out];exact g
       have D:=zaf (u.alloc (zae d) _) B (k.alloc _) (zae (zae d)) (yaj _);exact ⟨⟨i + 1,by go_num,by omega,C,D⟩,by simp [intOf];omega⟩
     · obtain rfl:i=q.length:=by omega
       have M:¬(((q.length:Nat):Int)<(q.length:Int)):=by omega
       rw [yaA] at j;obtain ⟨N,O,rfl,a1⟩:=Rd.own j;go_wp2_with fail
       go_ret
       exact ⟨N,O,rfl,a1,hb⟩
theorem zbv:Maps.Keyed Tryz.prog 9:=Maps.string_keyed Tryz.underlying9
def kB (k:ByteArray):Lit:=.string k.data.toList
theorem zgY (h:k.size≤maxLen):keyOf Tryz.prog 9 (.string k)=some (kB k):=by
 simp [keyOf,Tryz.underlying9,mapKey,h,kB]
theorem zpE {a b:ByteArray} (h:kB a=kB b):a=b:=by
 have h:=Lit.string.inj h;exact ByteArray.ext (ycF.1 h)
def MapD (w:World) (b n:Nat) (T:ByteArray→Bool):Prop:=∃(D:DataW Unit) (m:Nat),m≤n∧w.ownsMap Tryz.prog 9 unitElem b m D∧Maps.size D≤n∧∀k:ByteArray,k.size≤maxLen→Maps.has D (kB k)=T k
theorem MapD.kept {row:Option Nat} (h:MapD w b n T) (hg:w.grownBy w' row) (hne:some b≠row):MapD w' b n T:=by
 obtain ⟨D,m,d,f,g⟩:=h;exact ⟨D,m,d,f.kept hg hne,g⟩
theorem MapD.alloc (h:MapD w b n T) (o:Obj):MapD (w.alloc o) b n T:=h.kept (World.grownBy_alloc w o none) yaf
theorem MapD.lt (h:MapD w b n T):b<w.heap.size:=by
 obtain ⟨D,m,f,d,g⟩:=h;exact d.lt
def zdq (T:ByteArray→Bool) (k:ByteArray):ByteArray→Bool:=fun x=>if x=k then !T k else T x
theorem MapD.put {m:Nat} (hT:T k=false) (hm:m≤n) (h:w.ownsMap Tryz.prog 9 unitElem b m D) (hs:Maps.size D≤n) (hh:∀k:ByteArray,k.size≤maxLen→Maps.has D (kB k)=T k)
 (h':w'.ownsMap Tryz.prog 9 unitElem b (m + 1) (D.put (kB k) (.agg []))):MapD w' b (n + 1) (zdq T k):=by
 refine ⟨_,m + 1,by omega,h',?_,fun x d=>?_⟩
 · rw [Maps.size_put (h.tidy zbv)];split <;> omega
 · unfold zdq;by_cases e:x=k
   · subst e;rw [yan rfl,hT,Maps.has_put_same h.isMap (by trivial)];rfl
   · rw [yak e,Maps.has_put_other fun f=>e (zpE f),hh x d]
theorem MapD.del {m:Nat} (hT:T k=true) (hm:m≤n) (h:w.ownsMap Tryz.prog 9 unitElem b m D) (hs:Maps.size D≤n) (hh:∀k:ByteArray,k.size≤maxLen→Maps.has D (kB k)=T k)
 (h':w'.ownsMap Tryz.prog 9 unitElem b m (D.del (kB k))):MapD w' b (n + 1) (zdq T k):=by
 refine ⟨_,m,by omega,h',?_,fun x d=>?_⟩
 · have:=Maps.size_del (k:=kB k) (h.tidy zbv);omega
 · unfold zdq;by_cases e:x=k
   · subst e;rw [yan rfl,hT,Maps.has_del_same];rfl
   · rw [yak e,Maps.has_del_other fun f=>e (zpE f),hh x d]
theorem zk1 (w:World):(zeroValue 168).run Tryz.prog w = .ok (.agg #[]) w:=Tryz.zeroValue168 w
theorem dhas_any (h:Rd w B 1 A n c (ks s)) (hB:B≤w.heap.size) (hn:n=s.length) (hs:Rises s) (hl:n≤1000000) (hM:MapD w b mm T) (hk:k.size≤maxLen) :
 Calls Tryz.prog 154 #[.agg #[.slice A n c,.map (some b)],.string k] w fun e w'=>e = .returned (.bool (hasK s k != T k))∧w.grownBy w' none:=by
 obtain ⟨D,m,z,f,j,o⟩:=hM;have p:=o k hk;have g:=zgY hk;have u:=fun (W:World) (C:Below B w W)=>has_any (h.below C) hn hs hl k;obtain ⟨H,x⟩:∃H,hasK s k=H:=⟨_,rfl⟩;rw [x];simp only [x] at u;rw [←p];have d:=f.alloc (.cells #[.slice A n c,.map (some b)] 134);have E:=zk1;clear p o z j hn hl h;go_enter Tryz.func154,Tryz.ntmps154
 go_wp2_with (first
  | (at_lookup;go_loud (refine wpList_lookup_own_unit _ rfl _ _ 132 rfl 9 168 zbv Tryz.underlying132 (E _) b m D rfl d _ _ rfl g ?_))
  | (go_at_call 68;go_loud (refine (u _ (((Below.refl B w).alloc hB _).alloc (zae hB) _)).mono ?_;rintro e w' ⟨rfl,q,rfl⟩)))
 go_ret
 refine ⟨?_,?_⟩
 · obtain ⟨y,F⟩:∃y,Maps.has D (kB k)=y:=⟨_,rfl⟩;rw [F];cases H <;> cases y <;> rfl
 · exact ((World.grownBy_alloc w _ none).trans (World.grownBy_alloc _ _ none)).trans ⟨rfl,rfl,rfl,yaj _,fun _ _ _=>rfl⟩
theorem dturn_any (hM:MapD w b mm T) (hmm:mm<1000000) (hk:k.size≤maxLen) :
 Calls Tryz.prog 155 #[.agg #[.slice A n c,.map (some b)],.string k] w fun e w'=>e = .returned (.tuple #[])∧MapD w' b (mm + 1) (zdq T k)∧w.grownBy w' (some b):=by
 obtain ⟨D,m,z,d,p,x⟩:=hM;have C:=x k hk;have g:=zgY hk;have f:=d.alloc (.cells #[.slice A n c,.map (some b)] 134);have o:=f.alloc (.cells #[] 168);have E:=zk1;have y:w.grownBy ((w.alloc (.cells #[.slice A n c,.map (some b)] 134)).alloc (.cells #[] 168)) (some b):=(World.grownBy_alloc w _ _).trans (World.grownBy_alloc _ _ _);cases j:T k
 · rw [j] at C;have q:∀W,W.ownsMap Tryz.prog 9 unitElem b (m + 1) (D.put (kB k) (.agg []))→MapD W b (mm + 1) (zdq T k):=fun W h=>MapD.put j z d p x h;have B:m<maxLen:=by simp only [maxLen];omega
   clear x z p j hmm d;go_enter Tryz.func155,Tryz.ntmps155
   go_wp2_with (first
    | (at_lookup;refine wpList_lookup_own_unit _ rfl _ _ 132 rfl 9 168 zbv Tryz.underlying132 (E _) b m D rfl f _ _ rfl g ?_)
    | (at_mapUpdate;go_loud (refine wpList_mapUpdate_own _ rfl _ _ _ 132 rfl 9 168 zbv Tryz.underlying132 _ b m _ rfl o B _ _ _ rfl rfl g _ [] unitElem_mk ?_;intro F s u)))
   go_end0
   exact ⟨rfl,q _ s,y.trans u⟩
 · rw [j] at C;have q:∀W,W.ownsMap Tryz.prog 9 unitElem b m (D.del (kB k))→MapD W b (mm + 1) (zdq T k):=fun W h=>MapD.del j z d p x h;clear x z p j hmm d;go_enter Tryz.func155,Tryz.ntmps155
   go_wp2_with (first
    | (at_lookup;refine wpList_lookup_own_unit _ rfl _ _ 132 rfl 9 168 zbv Tryz.underlying132 (E _) b m D rfl f _ _ rfl g ?_)
    | (at_delete;go_loud (refine wpList_delete_own _ rfl _ _ 132 9 rfl 168 zbv Tryz.underlying132 _ b m D rfl o _ _ rfl g ?_;intro F s u)))
   (try simp only [Exit.inBlock,Exit.then])
   refine bodyPost_ret (results_none rfl _ _ _) rfl ?_;exact ⟨rfl,q _ s,y.trans u.grown⟩
inductive Step (w w':World) (b mm:Nat) (T:ByteArray→Bool) (k:ByteArray) (is add:Bool):Int→Prop
 | done (h:is = !add) (hM:MapD w' b (mm + 1) (zdq T k)) (hg:w.grownBy w' (some b)):Step w w' b mm T k is add 0
 | not (h:is=add):Step w w' b mm T k is add (if add then 32 else 41)
theorem dput_any (h:Rd w B 1 A n c (ks s)) (hB:B≤w.heap.size) (hn:n=s.length) (hs:Rises s) (hl:n≤1000000) (hM:MapD w b mm T) (hmm:mm<1000000) (hk:k.size≤maxLen) :
 Calls Tryz.prog 109 #[.agg #[.slice A n c,.map (some b)],.string k] w fun e w'=>∃z,e = .returned (.int .i64 z)∧Step w w' b mm T k (hasK s k != T k) true z∧w.grownBy w' (some b):=by
 have j:=World.grownBy_alloc w (.cells #[.slice A n c,.map (some b)] 134) (some b);have m:=dhas_any (w:=w.alloc (.cells #[.slice A n c,.map (some b)] 134)) (c:=c) (b:=b) (k:=k) (h.below ((Below.refl B w).alloc hB _)) (zae hB) hn hs hl (hM.alloc _) hk;have p:=fun (W:World) (o:(w.alloc (.cells #[.slice A n c,.map (some b)] 134)).grownBy W none)=>dturn_any (A:=A) (n:=n) (c:=c) ((hM.alloc (.cells #[.slice A n c,.map (some b)] 134)).kept o yaf) hmm hk;have q:=fun (W:World) (o:(w.alloc (.cells #[.slice A n c,.map (some b)] 134)).grownBy W none)=>zhZ o;obtain ⟨I,u⟩:∃I,(hasK s k != T k)=I:=⟨_,rfl⟩;rw [u] at m ⊢;clear u h hM hmm hl hn;cases I
 · go_enter Tryz.func109,Tryz.ntmps109
   go_wp2_with (first
    | (go_at_call 154;refine m.mono ?_;rintro e x ⟨rfl,d⟩;obtain ⟨y,C⟩:=q _ d)
    | (go_at_call 155;refine (p _ d).mono ?_;rintro e D ⟨rfl,g,f⟩)
    | fail)
   go_ret
   exact ⟨0,rfl,.done rfl g (j.trans ((d.weak _).trans f)),j.trans ((d.weak _).trans f)⟩
 · go_enter Tryz.func109,Tryz.ntmps109
   go_wp2_with (first
    | (go_at_call 154;refine m.mono ?_;rintro e x ⟨rfl,d⟩;obtain ⟨y,C⟩:=q _ d)
    | (go_at_call 155;refine (p _ d).mono ?_;rintro e D ⟨rfl,g,f⟩)
    | fail)
   go_ret
   exact ⟨32,rfl,.not rfl,j.trans (d.weak _)⟩
theorem ddrop_any (h:Rd w B 1 A n c (ks s)) (hB:B≤w.heap.size) (hn:n=s.length) (hs:Rises s) (hl:n≤1000000) (hM:MapD w b mm T) (hmm:mm<1000000) (hk:k.size≤maxLen) :
 Calls Tryz.prog 110 #[.agg #[.slice A n c,.map (some b)],.string k] w fun e w'=>∃z,e = .returned (.int .i64 z)∧Step w w' b mm T k (hasK s k != T k) false z∧w.grownBy w' (some b):=by
 have j:=World.grownBy_alloc w (.cells #[.slice A n c,.map (some b)] 134) (some b);have m:=dhas_any (w:=w.alloc (.cells #[.slice A n c,.map (some b)] 134)) (c:=c) (b:=b) (k:=k) (h.below ((Below.refl B w).alloc hB _)) (zae hB) hn hs hl (hM.alloc _) hk;have p:=fun (W:World) (o:(w.alloc (.cells #[.slice A n c,.map (some b)] 134)).grownBy W none)=>dturn_any (A:=A) (n:=n) (c:=c) ((hM.alloc (.cells #[.slice A n c,.map (some b)] 134)).kept o yaf) hmm hk;have q:=fun (W:World) (o:(w.alloc (.cells #[.slice A n c,.map (some b)] 134)).grownBy W none)=>zhZ o;obtain ⟨I,u⟩:∃I,(hasK s k != T k)=I:=⟨_,rfl⟩;rw [u] at m ⊢;clear u h hM hmm hl hn;cases I
 · go_enter Tryz.func110,Tryz.ntmps110
   go_wp2_with (first
    | (go_at_call 154;refine m.mono ?_;rintro e x ⟨rfl,d⟩;obtain ⟨y,C⟩:=q _ d)
    | (go_at_call 155;refine (p _ d).mono ?_;rintro e D ⟨rfl,g,f⟩)
    | fail)
   go_ret
   exact ⟨41,rfl,.not rfl,j.trans (d.weak _)⟩
 · go_enter Tryz.func110,Tryz.ntmps110
   go_wp2_with (first
    | (go_at_call 154;refine m.mono ?_;rintro e x ⟨rfl,d⟩;obtain ⟨y,C⟩:=q _ d)
    | (go_at_call 155;refine (p _ d).mono ?_;rintro e D ⟨rfl,g,f⟩)
    | fail)
   go_ret
   exact ⟨0,rfl,.done rfl g (j.trans ((d.weak _).trans f)),j.trans ((d.weak _).trans f)⟩
theorem zg6 (h:w.ownsMap Tryz.prog 9 unitElem b n D) (x:List UInt8):x ∈ strKeys D↔Maps.has D (.string x)=true:=by
 obtain ⟨k,rfl,hk⟩:=h.keysOf;rw [Maps.has_eq,ybM];show x ∈ k.map (fun p=>_root_.Go.strOf p.1)↔_;rw [yaN];constructor
 · rintro ⟨p,d,rfl⟩;obtain ⟨v,g⟩:=hk p d;obtain ⟨y,_,f,_⟩:=Maps.keyOf_str Tryz.underlying9 g;exact ⟨p,d,by rw [f];simp [Lit.sameKey,_root_.Go.strOf]⟩
 · rintro ⟨p,d,j⟩;obtain ⟨v,g⟩:=hk p d;obtain ⟨y,_,f,_⟩:=Maps.keyOf_str Tryz.underlying9 g;rw [f] at j;simp only [Lit.sameKey,ybS] at j;exact ⟨p,d,by rw [f];exact j⟩
theorem zjY (b:Nat) (w:World):Calls Tryz.prog 90 #[.map (some b)] w fun e w'=>e = .returned (.func (.func 139) #[] #[.pointer (some ⟨w.heap.size,0,none⟩)])∧w'=w.alloc (.cells #[.map (some b)] 132) :=
 callsIn_wide.1 (AnyZ.keys_in zmJ Fence.wide 5 trivial rfl (some b) w)
theorem sorts_in (m:Nat):AnyZ.SortsIn Tryz.prog zel Fence.wide m :=
 ⟨fun blk d cap g W j b f=>callsIn_wide.2 (AnyM.slices_Sort_string zdY blk d cap g W j b f),fun p cap W=>callsIn_wide.2 (AnyM.slices_Sort_string_none zdY p cap W)⟩
theorem sorted_any (hM:MapD w b mm T) (hmm:mm<1000000) :
 Calls Tryz.prog 89 #[.func (.func 139) #[] #[.pointer (some ⟨w.heap.size,0,none⟩)]] (w.alloc (.cells #[.map (some b)] 132)) fun e w' =>
  ∃A c t,e = .returned (.slice A t.length c)∧Rises t∧t.length≤mm∧(∀k:ByteArray,k ∈ t↔k.size≤maxLen∧T k=true)∧Rd w' w'.heap.size 1 A t.length c (ks t)∧Below w.heap.size w w':=by
 obtain ⟨D,m,Y,d,z,O⟩:=hM;have U:=d.lt;have hseq:SeqGives Fence.wide 2 Tryz.prog 139 #[.pointer (some ⟨w.heap.size,0,none⟩)] encStr (fun u=>u.Perm (strKeys D)) (Maps.size D) (w.alloc (.cells #[.map (some b)] 132)) :=
  AnyZ.keys_gives (ρ:=zfV) { zmJ with } Fence.wide _ trivial rfl yab w.heap.size b m D _ yaf yaf (d.alloc _)
 have V:=AnyZ.sorted_in znS Fence.wide 5 trivial trivial trivial trivial rfl yab (sorts_in _) (enters_of Tryz.func106 yaa rfl) 139 #[.pointer (some ⟨w.heap.size,0,none⟩)] trivial (enters_of Tryz.func139 yaa rfl) _ _ yad yab _ hseq;refine (callsIn_wide.1 V).mono ?_;rintro e w' ⟨v,u,rfl,B,f,_,hb⟩;have C:(strKeys D).Nodup:=by
  obtain ⟨E,P,F,_⟩:=d.entries zbv;obtain ⟨es',n,o⟩:=d.keysOf;obtain rfl:E=es':=by rw [P] at n;simpa using n
  subst P;show (E.map fun p=>_root_.Go.strOf p.1).Nodup;refine yck.2 (F.imp_of_mem fun {p q} G H I e=>I ?_);obtain ⟨Z,J⟩:=o p G;obtain ⟨v2,K⟩:=o q H;obtain ⟨y1,_,L,_⟩:=Maps.keyOf_str Tryz.underlying9 J;obtain ⟨y2,_,M,_⟩:=Maps.keyOf_str Tryz.underlying9 K;rw [L,M] at e ⊢;exact congrArg _ e
 obtain ⟨Q,R⟩:=zkV (B.nodup_iff.2 C);obtain ⟨ms,s⟩:∃ms,(u.mergeSort fun x y=>decide (x≤y))=ms:=⟨_,rfl⟩;have j:u.length=(ms.map zcY).length:=by rw [yay,←s,List.length_mergeSort]
 rw [s] at f Q R;rw [j,ks_enc] at f;obtain ⟨A,c,rfl,X⟩:=Rd.own f;have N:(strKeys D).length=Maps.size D:=by
  obtain ⟨E,rfl,_⟩:=d.keysOf;exact yay _
 refine ⟨A,c,ms.map zcY,rfl,Q,by rw [←j,B.length_eq,N];exact z,fun k=>?_,X,zad (zaM w _) yaf hb⟩;rw [R k,B.mem_iff,zg6 d];constructor
 · intro hk;have g:k.size≤maxLen:=by
    have:=strKeys_le d Tryz.underlying9 k.data.toList ((zg6 d _).2 hk);rw [ybm] at this;exact this
   exact ⟨g,by rw [←O k g];exact hk⟩
 · rintro ⟨g,hk⟩;rw [←O k g] at hk;exact hk
theorem set_any (h:Rd w w.heap.size 1 A s.length c (ks s)) (hs:Rises s) (hl:s.length≤1000000) (hM:MapD w b mm T) (hmm:mm<1000000) :
 Calls Tryz.prog 70 #[.agg #[.slice A s.length c,.map (some b)]] w fun e w'=>∃A' c' r,e = .returned (.slice A' r.length c')∧Rises r∧(∀k:ByteArray,hasK r k=(hasK s k != (decide (k.size≤maxLen) && T k)))∧r.length≤s.length + mm∧w'.ownsRow w.heap.size 9 1 (.slice A' r.length c') r.length (ks r)∧Below w.heap.size w w':=by
 obtain ⟨i0,J,K,L,M⟩:=info_parts zet;obtain ⟨w1,f⟩:∃w1,w.alloc (.cells #[.slice A s.length c,.map (some b)] 134)=w1:=⟨_,rfl⟩;have m:Below w.heap.size w w1:=f ▸ zaM w _;have y:MapD w1 b mm T:=f ▸ hM.alloc _;obtain ⟨N,p1⟩:=box2 w (.slice A s.length c) (.map (some b)) 134;rw [f] at N p1;have q:w.heap.size<w1.heap.size:=by rw [←f];simp
 have kk:=zjY b w1;have z:=sorted_any y hmm;have h1:=h.up m;clear hM y h;go_enter Tryz.func70,Tryz.ntmps70
 go_upto_region 1 with (fail)
 clear f;go_upto_region 2 with (first
  | (go_at_call 90;refine kk.mono ?_;rintro e w' ⟨rfl,rfl⟩)
  | (go_at_call 89;refine z.mono ?_;rintro e w2 ⟨A2,c2,t,rfl,ht,a7,B,C,n⟩)
  | fail)
 have q0:w2.cell? ⟨w.heap.size,0,none⟩=some (.slice A s.length c):=(n.cell q).trans N;have h2:=h1.up n;have g:=zad m m.size n;have kd:=diff_any h2 C hl yab;obtain ⟨D,E⟩:=zlk hs ht;have O:=zmm s t;obtain ⟨d,hd⟩:∃d,zaN s t=d:=⟨_,rfl⟩;rw [hd] at kd D E O;clear kk z N p1 h1 h2 C m n hd;go_upto_region 4 with (go_at_call 42;refine kd.mono ?_;rintro e F ⟨A3,c3,rfl,P,G⟩)
 have j:=zad g g.size G;clear kd q0 g G q;go_wp2_with fail
 go_loopw [4,16] (fun vm Q wx=>∃i:Nat,Q = .int .i64 i∧i≤d.length∧wx.ownsRow F.heap.size 9 1 vm i (ks ((d.take i).map Prod.fst))∧Below F.heap.size F wx) (fun _ Q _=>d.length-(intOf Q).toNat)
 case atStart=>exact ⟨0,rfl,yap _,World.ownsRow_nil _ _ _ _,Below.refl _ _⟩
 case round =>
  obtain ⟨i,rfl,hi,H,hb⟩:=hrel;have o:=hb.size;by_cases R:i<d.length
  · have di:(i:Int)<(d.length:Int):=by omega
    obtain ⟨p,hp⟩:∃p,d[i]? = some p:=⟨_,yal R⟩;obtain ⟨b3,o3,rfl,a8,g0,g1⟩:=zfC (P.below hb) hp;obtain ⟨U,V,rfl,_⟩:=Rd.own H;obtain ⟨k,e⟩:=p;dsimp only at g0 g1;have X:(d.take (i + 1)).map Prod.fst=(d.take i).map Prod.fst ++ [k]:=by rw [yaC,hp];simp
    have I:=H.alloc (.cells #[.string k,.bool e] 128);have Y:=hb.alloc o (.cells #[.string k,.bool e] 128);go_wp2_with (at_builtin;go_loud (refine zab _ rfl (.tmp 20) (.tmp 23) 87 87 rfl F.heap.size 9 i0 (.string ⟨#[]⟩) 1 16 Tryz.underlying87 J K L M rfl yac (.slice U i V) i _ rfl (I.alloc _) _ 1 [.string k] rfl (Src.ofSlice _ Tryz.underlying87 _ 1 1 _ rfl (cells_at _ #[.string k] _ _ yaf) (zpQ [k])) yad yab (zae (zae o)) ?_;intro v9 w8 u Z a6))
    have a1:w8.ownsRow F.heap.size 9 1 v9 (i + 1) (ks ((d.take (i + 1)).map Prod.fst)):=by rw [X,zpP];exact u
    have a2:=zaf (Y.alloc (zae o) _) Z (I.alloc _) (zae (zae o)) (yaj _);exact ⟨⟨i + 1,by go_num,by omega,a1,a2⟩,by simp [intOf];omega⟩
  · obtain rfl:i=d.length:=by omega
    have di:¬(((d.length:Nat):Int)<(d.length:Int)):=by omega
    rw [yaA] at H;obtain ⟨U,V,rfl,aa⟩:=Rd.own H;go_wp2_with fail
    go_ret
    have x:d.length=(d.map Prod.fst).length:=by simp
    refine ⟨U,V,d.map Prod.fst,by rw [←x];rfl,D,fun k=>?_,by rw [←x];omega,by rw [←x];exact zax H j.size,zad j j.size hb⟩;rw [E k];congr 1
    rw [ya6,zas,B k,ya9,yaP]
end Go.Proofs.YtmblgnddgmfkhaaGreat
