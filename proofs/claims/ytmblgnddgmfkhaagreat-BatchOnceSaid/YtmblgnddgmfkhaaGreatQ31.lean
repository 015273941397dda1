import Derived.Test.YtmblgnddgmfkhaaGreatQ30
set_option maxRecDepth 100000
set_option maxHeartbeats 4000000
namespace Go.Proofs.YtmblgnddgmfkhaaGreat
section
open Go.RowKit
structure Mv (X F:Nat→Prop) (w:World) (X' F':Nat→Prop) (w':World):Prop where
 own:Own14 F F' w w'
 up:∀b,X b→X' b
 new:∀b,X' b→X b∨w.heap.size≤b
theorem Mv.below {X F:Nat→Prop} {w w':World} (hb:Below w.heap.size w w'):Mv X F w X F w':=⟨⟨hb.size,fun b h _=>hb.block b h,fun _ h=>.inl h,fun _ d _=>hb.mono d⟩,fun _ h=>h,fun _ h=>.inl h⟩
theorem Mv.trans {X X1 X2 F F1 F2:Nat→Prop} {w w1 w2:World} (h:Mv X F w X1 F1 w1) (k:Mv X1 F1 w1 X2 F2 w2):Mv X F w X2 F2 w2 where
 own:=⟨yax h.own.le k.own.le,fun b hb d=>(k.own.old b (yaw hb h.own.le) fun q=>by
  rcases h.own.grow b q with q | q
  · exact d q
  · omega).trans (h.own.old b hb d),fun b q=>by
  have:=h.own.le;rcases k.own.grow b q with q | q
  · exact h.own.grow b q
  · exact .inr yab,fun B f d=>(h.own.rest B f d).trans (k.own.rest B (yax f h.own.le) fun b q=>by
  rcases h.own.grow b q with q | q
  · exact d b q
  · omega)⟩
 up:=fun b q=>k.up b (h.up b q)
 new:=fun b q=>by
  have:=h.own.le;rcases k.new b q with q | q
  · exact h.new b q
  · exact .inr yab
section
variable {S:SpW} {f:CoF} {X Y F F' F0':Nat→Prop} {w w':World} {g:Nat} {s:Sto Tb Nd15} {L L':List Sp} {last last':Int} {m:Mm}
theorem StR.spanned (K:SpK S) (h:StR S X w F g s L last m) (ho:Own14 m.F0 F0' w w') (hs:S w' F0' m.gs L' last') (hf:FineS L' last') (hk:∀x ∈ L',x.1.size≤100000) (hl:L'.length≤50000) :
 ∃X' F',StR S X' w' F' g s L' last' { m with F0:=F0' }∧Mv X F w X' F' w':=by
 have n:=h.box.lt;have d:∀j,m.F0 j→F j:=fun j q=>(h.own j).2 (.inr (.inl q));have f:Stay X w w':=⟨ho.le,fun b hb o=>ho.old b hb fun q=>o (h.sub b (d b q))⟩;have p:∀b,(X b∨F0' b)→X b∨w.heap.size≤b:=fun b q=>by
  rcases q with q | q
  · exact .inl q
  · rcases ho.grow b q with q | q
    · exact .inl (h.sub b (d b q))
    · exact .inr q
 refine ⟨fun b=>X b∨F0' b,fun j=>j=g∨F0' j∨m.row.ownBlock=some j,?_,⟨⟨ho.le,fun b hb u=>ho.old b hb fun q=>u (d b q),fun b q=>?_,fun B y u=>ho.rest B y fun b q=>u b (d b q)⟩,fun _ q=>.inl q,p⟩⟩
 · exact
    {box:=h.box.same (ho.old g n h.g0)
     sp:=hs
     row:=zau h.row fun j k=>ho.old j (h.row.lt j k).2 (h.r0 j k)
     own:=fun _=>Iff.rfl
     g0:=fun q=>by
      rcases ho.grow g q with q | q
      · exact h.g0 q
      · omega
     r0:=fun j k q=>by
      have z:=(h.row.lt j k).2;rcases ho.grow j q with q | q
      · exact h.r0 j k q
      · omega
     sub:=fun j q=>by
      rcases q with q | q | q
      · exact .inl (h.sub j ((h.own j).2 (.inl q)))
      · exact .inr q
      · exact .inl (h.sub j ((h.own j).2 (.inr (.inr q))))
     lt:=fun j q=>by
      rcases q with q | q
      · exact yaw (h.lt j q) ho.le
      · exact K.lt hs j q
     head:=h.head
     first:=h.first.step f p
     each:=fun x o=>(h.each x o).step f p
     revs:=h.revs
     fl0:=h.fl0
     most:=h.most
     few:=h.few
     keys:=hk
     len:=hl
     fine:=hf }
 · rcases q with q | q | q
   · exact .inl ((h.own b).2 (.inl q))
   · rcases ho.grow b q with q | q
     · exact .inl (d b q)
     · exact .inr q
   · exact .inl ((h.own b).2 (.inr (.inr q)))
theorem StR.added (K:SpK S) (h:StR S X w F g s L last m) {t:Tm} (ht:t.ok X w) {v:Rv Tb Nd15} {Ak:Option Addr} {ck ga ca:Nat} (htx:v.text=t.tx) (hT:v.T=t.tb) (hw:KeyX X w Ak ck v.wrote) (hmax:revB s + 1≤9223372036854775807) (hfew:m.l.length<63)
 (hr:w'.ownsRow 0 100 10 (.slice (some ⟨ga,0,none⟩) (m.l.length + 1) ca) (m.l.length + 1) (m.l.flatMap Rm.cells ++ Rm.cells ⟨v,t,revB s + 1,Ak,ck⟩))
 (hb:Rk w' g #[.pointer (some ⟨m.gs,0,none⟩),.int .i64 s.quota,.int .i64 s.floor,.string m.t.tx,.slice m.t.Ay m.t.ty.length m.t.cy,.map m.t.mb,.slice m.t.Ar m.t.K.length m.t.cr,.slice (some ⟨ga,0,none⟩) (m.l.length + 1) ca] 80)
 (hat:m.row.ownBlock=some ga∨w.heap.size≤ga) (ho:OnlyF (fun j=>j=g∨m.row.ownBlock=some j) w w') :
 ∃X' F',StR S X' w' F' g (zaQ s v) L last { m with A:=some ⟨ga,0,none⟩,c:=ca,l:=m.l ++ [⟨v,t,revB s + 1,Ak,ck⟩] }∧Mv X F w X' F' w':=by
 have G:=h.box.lt;have d:∀j,j=g∨m.row.ownBlock=some j→F j:=fun j q=>(h.own j).2 (by rcases q with q | q;exact .inl q;exact .inr (.inr q));have k:Stay X w w':=⟨ho.le,fun b hb n=>ho.old b hb fun q=>n (h.sub b (d b q))⟩;have o:∀b,(X b∨b=ga)→X b∨w.heap.size≤b:=fun b q=>by
  rcases q with q | rfl
  · exact .inl q
  · rcases hat with q | q
    · exact .inl (h.sub _ (d _ (.inr q)))
    · exact .inr q
 have y:ga<w'.heap.size:=(hr.lt ga rfl).2;have C:∀j,m.F0 j→¬(j=g∨m.row.ownBlock=some j):=fun j q z=>by
  rcases z with rfl | z
  · exact h.g0 q
  · exact h.r0 j z q
 have p:(m.l ++ [⟨v,t,revB s + 1,Ak,ck⟩]:List Rm).flatMap Rm.cells=m.l.flatMap Rm.cells ++ Rm.cells ⟨v,t,revB s + 1,Ak,ck⟩:=by rw [yaZ];simp
 have f:(m.l ++ [⟨v,t,revB s + 1,Ak,ck⟩]:List Rm).length=m.l.length + 1:=by simp
 have H:=h.rev_eq;have I:revB (zaQ s v)=revB s + 1:=zbd s v;refine ⟨fun b=>X b∨b=ga,fun j=>j=g∨m.F0 j∨j=ga,?_,⟨⟨ho.le,fun b hb D=>ho.old b hb fun q=>D (d b q),fun b q=>?_,fun B J D=>⟨ho.os,ho.tape,ho.output,ho.le,fun b hb=>ho.old b (yaw hb J) fun q=>by have:=D b (d b q);omega⟩⟩,fun _ q=>.inl q,o⟩⟩
 · exact
    {box:=by unfold boxC;dsimp only;rw [f];exact hb
     sp:=K.keep h.sp fun b q=>ho.old b (K.lt h.sp b q) (C b q)
     row:=by
      unfold Mm.row;dsimp only;rw [f,p];exact hr
     own:=fun j=>by simp only [Value.ownBlock,yaT];rw [eq_comm (a:=ga)]
     g0:=h.g0
     r0:=fun j E q=>by
      simp only [Value.ownBlock,yaT] at E;subst E;rcases hat with z | z
      · exact h.r0 _ z q
      · have:=K.lt h.sp _ q;omega
     sub:=fun j q=>by
      rcases q with q | q | q
      · exact .inl (h.sub j ((h.own j).2 (.inl q)))
      · exact .inl (h.sub j ((h.own j).2 (.inr (.inl q))))
      · exact .inr q
     lt:=fun j q=>by
      rcases q with q | rfl
      · exact yaw (h.lt j q) ho.le
      · exact y
     head:=by
      obtain ⟨u,M,N,O⟩:=h.head;exact ⟨u,by show s.L ++ [v]=_;rw [M,yaL];rfl,N,O⟩
     first:=h.first.step k o
     each:=fun x n=>by
      rcases yaz.1 n with n | n
      · exact (h.each x n).step k o
      · rw [yas.1 n];exact ⟨ht.step k o,htx,hT,hw.step k o⟩
     revs:=fun i x hi=>by
      show x.rev=s.floor + 1 + i;rw [List.getElem?_append] at hi;split at hi
      · exact h.revs i x hi
      · rename_i P
        have:i-m.l.length=0:=by
         have:=(yao.1 hi).1;simp at this;omega
        rw [this] at hi;have n:=yaX hi;rw [←n];show revB s + 1=_;omega
     fl0:=h.fl0
     most:=by rw [I];exact hmax
     few:=by dsimp only;rw [f];omega
     keys:=h.keys
     len:=h.len
     fine:=h.fine }
 · rcases q with q | q | rfl
   · exact .inl ((h.own b).2 (.inl q))
   · exact .inl ((h.own b).2 (.inr (.inl q)))
   · rcases hat with q | q
     · exact .inl (d _ (.inr q))
     · exact .inr q
end
end
section
open Go.RowKit
variable {d:List (ByteArray × Bool)} {r:Int} {x:ByteArray × Bool}
section
variable {S:SpW} {f:CoF} {X Y F F':Nat→Prop} {w w':World} {g:Nat} {s:Sto Tb Nd15} {L:List Sp} {last:Int} {m:Mm}
theorem touched_any (K:SpK S) (h:StM S f X w F g s L last m) {A1 A2:Option Addr} {c1 c2:Nat} {p:List (ByteArray × Bool)} (h1:Rd w w.heap.size 2 A1 p.length c1 (pcs p)) (h2:Rd w w.heap.size 2 A2 d.length c2 (pcs d)) (hp:p.length≤100000) (hd:d.length≤100000) (hkp:∀x ∈ p,x.1.size≤100000) (hkd:∀x ∈ d,x.1.size≤100000) :
 Calls Tryz.prog 36 #[.pointer (some ⟨g,0,none⟩),.slice A1 p.length c1,.slice A2 d.length c2] w fun e w'=>(∃A c u,e = .returned (.slice A u.length c)∧Rises u∧(∀k,k ∈ u↔k ∈ (zai s).keys∧(k ∈ d.map Prod.fst∨k ∈ p.map Prod.fst))∧KeyX (·<w.heap.size) w' A c u)∧Below w.heap.size w w':=by
 obtain ⟨i0,T,U,V,Y⟩:=info_parts zet;have o:=zaM w (.cells #[.pointer (some ⟨g,0,none⟩)] 28);have y:=Rk.new w #[.pointer (some ⟨g,0,none⟩)] 28;have E:=h.up K o;have k1:=keysOf_any (h2.up o) yab;have G:=h1.up o;go_enter Tryz.func36,Tryz.ntmps36
 go_upto_region 1 with (fail)
 generalize w.alloc (.cells #[.pointer (some ⟨g,0,none⟩)] 28)=M at *
 go_upto_region 2 with (go_at_call 40;refine k1.mono ?_;rintro e w2 ⟨A3,c3,rfl,B,z⟩)
 have Z:=y.same (z.block _ y.lt);have a1:=E.up K z;have a2:=G.up z;clear k1 h1 h2 a2 a1 Z;go_wp2_with fail
 go_loopw [7,15] (fun vm vi wx=>∃i:Nat,vi = .int .i64 i∧i≤p.length∧wx.ownsRow M.heap.size 9 1 vm (d.length + i) (ks (d.map Prod.fst) ++ ks ((p.take i).map Prod.fst))∧Below M.heap.size M wx) (fun _ vi _=>p.length-(intOf vi).toNat)
 case atStart=>exact ⟨0,rfl,yap _,by simpa [ks] using B,z⟩
 case round =>
  clear B z;obtain ⟨i,rfl,hi,B,hb⟩:=hrel;have C:=hb.size;by_cases a6:i<p.length
  · have di:(i:Int)<(p.length:Int):=by omega
    obtain ⟨x,D⟩:∃x,p[i]? = some x:=⟨_,yal a6⟩;obtain ⟨b3,o3,rfl,ak,g0,g1⟩:=zfC (G.below hb) D;obtain ⟨n,N⟩:∃n,d.length + i=n:=⟨_,rfl⟩;rw [N] at B;replace N:=Lib.hid N;have al:n≤200000:=by have:=N.out;omega
    obtain ⟨A4,c4,rfl,_⟩:=Rd.own B;obtain ⟨k,e⟩:=x;dsimp only at g0 g1;have a7:ks ((p.take (i + 1)).map Prod.fst)=ks ((p.take i).map Prod.fst) ++ ks [k]:=by rw [yaC,D];simp [ks]
    have O:=B.alloc (.cells #[.string k,.bool e] 126);have a8:=hb.alloc C (.cells #[.string k,.bool e] 126);go_wp2_with (at_builtin;go_loud (refine zab _ rfl (.tmp 19) (.tmp 22) 46 46 rfl M.heap.size 9 i0 (.string ⟨#[]⟩) 1 16 Tryz.underlying46 T U V Y rfl yac (.slice A4 n c4) n _ rfl (O.alloc _) _ 1 [.string k] rfl (Src.ofSlice _ Tryz.underlying46 _ 1 1 _ rfl (cells_at _ #[.string k] _ _ yaf) (zpQ [k])) yad yab (zae (zae C)) ?_;intro v9 w8 H aa aj))
    have ab:w8.ownsRow M.heap.size 9 1 v9 (d.length + (i + 1)) (ks (d.map Prod.fst) ++ ks ((p.take (i + 1)).map Prod.fst)):=by rw [a7,←yaB,←ya4,N.out];exact H
    have ac:=zaf (a8.alloc (zae C) _) aa (O.alloc _) (zae (zae C)) (yaj _);exact ⟨⟨i + 1,by go_num,by omega,ab,ac⟩,by simp [intOf];omega⟩
  · obtain rfl:i=p.length:=by omega
    have di:¬(((p.length:Nat):Int)<(p.length:Int)):=by omega
    rw [yaA,←zpP] at B;obtain ⟨kl,q⟩:∃kl,d.map Prod.fst ++ p.map Prod.fst=kl:=⟨_,rfl⟩;have j:d.length + p.length=kl.length:=by rw [←q];simp
    rw [q,j] at B;have ad:∀k ∈ kl,k.size≤maxLen:=fun k hk=>by
     rw [←q,yaz] at hk;simp only [maxLen];rcases hk with hk | hk
     · obtain ⟨x,D,rfl⟩:=yaN.1 hk;have:=hkd x D;omega
     · obtain ⟨x,D,rfl⟩:=yaN.1 hk;have:=hkp x D;omega
    obtain ⟨A4,c4,rfl,P⟩:=Rd.own B;have Q:=E.up K (hb.mono (yaj _));have I:=y.same (hb.block _ y.lt);have hB:=zad o o.size hb;have ae:Asks wr w.heap.size fun k=>!hasK (zai s).keys k:=fun W hW k hk=>gone_any K (Q.up K hW) ((I.same (hW.block _ I.lt)).one) k hk;have ko:=of_any P yab;clear G E y I Q B P hb o;replace j:=Lib.hid j;replace q:=Lib.hid q;unfold SetIs at ko;go_wp2_with (first
     | (go_at_call 67;refine ko.mono ?_;rintro e w5 ⟨A5,c5,u,rfl,R,J,af,ag⟩;have am:=R.len (m:=kl) (fun x D=>(J x).1 D);have kd:=deleteF_any ae ag af (by have:=j.out;omega) (fun k hk=>ad k ((J k).1 hk)))
     | (go_at_call 66;refine kd.mono ?_;rintro e w6 ⟨⟨A6,c6,rfl,ah⟩,ai⟩)
     | fail)
    go_ret
    refine ⟨⟨A6,c6,_,rfl,R.filter _,fun k=>?_,ah.weak hB.size⟩,zad hB hB.size ai⟩;unfold noP;rw [ybd,J k,←q.out,yaz,Bool.not_not,zas];exact ⟨fun ⟨a,b⟩=>⟨b,a⟩,fun ⟨a,b⟩=>⟨b,a⟩⟩
def PairX (X:Nat→Prop) (w:World) (A:Option Addr) (c:Nat) (l:List (ByteArray × Bool)):Prop:=∀w',Stay X w w'→Rd w' w'.heap.size 2 A l.length c (pcs l)
theorem Mv.stay {X F X' F':Nat→Prop} {w w':World} (h:Mv X F w X' F' w') (hF:∀b,F b→X b):Stay X w w':=⟨h.own.le,fun b hb d=>h.own.old b hb fun q=>d (hF b q)⟩
theorem zoC {a:List Sp × Int} {i:Nat} (h:d[i]? = some x):zcn r a (d.take (i + 1))=turn1 r (zcn r a (d.take i)) x:=by
 unfold zcn;rw [yaC,h,yaR,yci];rfl
theorem zee {L:List Sp} {last:Int} (hL:∀y ∈ L,y.1.size≤100000) (hx:x.1.size≤100000):(∀y ∈ (turn1 r (L,last) x).1,y.1.size≤100000)∧(turn1 r (L,last) x).1.length≤L.length + 1:=by
 unfold turn1;dsimp only;split
 · refine ⟨fun y b=>?_,zqF _ _ _ _⟩;cases e:zgm L last x.1 r with
   | none=>rw [e] at b;exact hL y b
   | some d =>
    rw [e] at b;obtain ⟨_,_,_,rfl⟩:=zhi e;rcases yaz.1 b with b | b
    · exact hL y b
    · rw [yas.1 b];exact hx
 · refine ⟨fun y b=>?_,by have:=znC L last r x.1;dsimp only at *;omega⟩;cases e:zbX L last x.1 r with
   | none=>rw [e] at b;exact hL y b
   | some d =>
    rw [e] at b;obtain ⟨i,z,_,_,_,_,_,_,rfl⟩:=zft e;rcases ycl b with b | rfl
    · exact hL y b
    · exact hx
theorem StR.turn1 (K:SpK S) (h:StR S X w F g s L last m) {F0':Nat→Prop} (hx:x.1.size≤100000) (hl:L.length + 1≤50000) (hs:S w' F0' m.gs (turn1 r (L,last) x).1 (turn1 r (L,last) x).2) (ho:Own14 m.F0 F0' w w') :
 ∃X' F',StR S X' w' F' g s (Go.Proofs.YtmblgnddgmfkhaaGreat.turn1 r (L,last) x).1 (Go.Proofs.YtmblgnddgmfkhaaGreat.turn1 r (L,last) x).2 { m with F0:=F0' }∧Mv X F w X' F' w':=by
 obtain ⟨b,d⟩:=zee (r:=r) (last:=last) h.keys hx;refine h.spanned K ho hs ?_ b yab;unfold Go.Proofs.YtmblgnddgmfkhaaGreat.turn1;dsimp only;split
 · exact h.fine.putD
 · exact h.fine.dropD
theorem znk {F0' F0'':Nat→Prop} {w7:World} {gx:Nat} {kk:ByteArray} {fl:Bool} (h:StR S X w F g s L last { m with F0:=F0' }) (hp:Rk w gx #[.string kk,.bool fl] 128) (ho:Own14 F0' F0'' w w7) (hx:¬F0' gx):w7.cell? ⟨g,0,none⟩=some (.pointer (some ⟨m.gs,0,none⟩))∧w7.cell? ⟨gx,0,none⟩=some (.string kk) :=
 ⟨(h.box.same (ho.old g h.box.lt h.g0)).cell 0,(hp.same (ho.old gx hp.lt hx)).two.1⟩
theorem turn_any (K:SpK S) (h:StR S X w F g s L last m) {A:Option Addr} {c:Nat} (hR:PairX X w A c d) (hL:L.length + d.length≤50000) (hk:∀x ∈ d,x.1.size≤100000) :
 Calls Tryz.prog 41 #[.pointer (some ⟨g,0,none⟩),.slice A d.length c] w fun e w'=>e = .returned (.tuple #[])∧∃X' F' F0',StR S X' w' F' g s (zcn (revB s) (L,last) d).1 (zcn (revB s) (L,last) d).2 { m with F0:=F0' }∧Mv X F w X' F' w':=by
 go_enter Tryz.func41,Tryz.ntmps41
 go_wp2_with fail
 go_loopw [8] (fun vi wx=>∃(i:Nat) (X' F' F0':Nat→Prop),vi = .int .i64 i∧i≤d.length∧StR S X' wx F' g s (zcn (revB s) (L,last) (d.take i)).1 (zcn (revB s) (L,last) (d.take i)).2 { m with F0:=F0' }∧Mv X F w X' F' wx∧(zcn (revB s) (L,last) (d.take i)).1.length≤L.length + i) (fun vi _=>d.length-(intOf vi).toNat)
 case atStart=>exact ⟨0,X,F,m.F0,rfl,yap _,h,Mv.below (Below.refl _ _),yaj _⟩
 case round =>
  obtain ⟨i,X',F',F0',rfl,hi,H,hM,I⟩:=hrel;by_cases a1:i<d.length
  · have di:(i:Int)<(d.length:Int):=by omega
    obtain ⟨x,J⟩:∃x,d[i]? = some x:=⟨_,yal a1⟩;obtain ⟨b3,o3,rfl,a6,g0,g1⟩:=zfC (hR wr (hM.stay h.sub)) J;have k:=zoC (r:=revB s) (a:=(L,last)) J;have y:=hk x (yar J);obtain ⟨p,u,e1⟩:∃p u,zcn (revB s) (L,last) (d.take i)=(p,u):=⟨_,_,rfl⟩;rw [e1] at H I k;dsimp only at H I;obtain ⟨f,fl⟩:=x;dsimp only at g0 g1 y;have U:=zaM wr (.cells #[.string f,.bool fl] 128);have V:=H.up K U;have Y:=hM.trans (Mv.below U);have M:=Rk.new wr #[.string f,.bool fl] 128;have a7:=V.box.lt;have Z:¬F0' wr.heap.size:=fun q=>Nat.lt_irrefl _ (K.lt H.sp _ q);go_upto_region 3 with (fail)
    generalize wr.alloc (.cells #[.string f,.bool fl] 128)=z at *
    generalize wr.heap.size=gx at *
    have j:=V.up K (zbj z);have o:Rk z.drew gx _ _:=M;have k1:=zcP j;have n:=fun W (hb:Below z.drew.heap.size z.drew W)=>(⟨(j.up K hb).cs.1,(o.same (hb.block _ o.lt)).two.1⟩:_∧_);obtain ⟨c0,p0⟩:=n z.drew (Below.refl _ _);obtain ⟨a2,p1⟩:=M.two;have pl:=M.lt;clear g0 g1 a2;cases fl with
    | true =>
     have B:turn1 (revB s) (p,u) (f,true)=((zgm p u f (revB s)).getD p,if (zgm p u f (revB s)).isSome then revB s else u):=rfl;rw [B] at k;have kq:=fun W (hb:Below z.drew.heap.size z.drew W)=>K.put f (revB s) (j.up K hb).sp j.fine yab yab;dsimp only at kq;go_upto_region 4 with (fail)
     go_region_held3 (fun W=>W.cell? ⟨g,0,none⟩=some (.pointer (some ⟨m.gs,0,none⟩))∧W.cell? ⟨gx,0,none⟩=some (.string f))
      (first | exact N | exact Q | go_keep | fail)
      ((first
       | (with_reducible refine k1.mono ?_;rintro e6 w6 ⟨rfl,b⟩;have N:=n w6 b;have C:=j.up K b;have O:=o.same (b.block _ o.lt))
       | (with_reducible refine (kq _ b).mono ?_;rintro e7 w7 ⟨F7,rfl,P,D⟩;have Q:=znk C O D Z)
       | fail))
     go_wp2_with fail
     obtain ⟨X7,R,E,T⟩:=StR.turn1 K C (r:=revB s) (x:=(f,true)) y yab P D;have G:=(zee (r:=revB s) (L:=p) (last:=u) (x:=(f,true)) H.keys y).2;rw [B] at E G;exact ⟨⟨i + 1,X7,R,F7,by go_num,by omega,by rw [k];exact E,((Y.trans (Mv.below (zbj z))).trans (Mv.below b)).trans T,by rw [k];dsimp only at G ⊢;omega⟩,by simp [intOf];omega⟩
    | false =>
     have B:turn1 (revB s) (p,u) (f,false)=((zbX p u f (revB s)).getD p,if (zbX p u f (revB s)).isSome then revB s else u):=rfl;rw [B] at k;have kq:=fun W (hb:Below z.drew.heap.size z.drew W)=>K.drop f (revB s) (j.up K hb).sp j.fine yab yab;dsimp only at kq;go_upto_region 5 with (fail)
     go_region_held3 (fun W=>W.cell? ⟨g,0,none⟩=some (.pointer (some ⟨m.gs,0,none⟩))∧W.cell? ⟨gx,0,none⟩=some (.string f))
      (first | exact N | exact Q | go_keep | fail)
      ((first
       | (with_reducible refine k1.mono ?_;rintro e6 w6 ⟨rfl,b⟩;have N:=n w6 b;have C:=j.up K b;have O:=o.same (b.block _ o.lt))
       | (with_reducible refine (kq _ b).mono ?_;rintro e7 w7 ⟨F7,rfl,P,D⟩;have Q:=znk C O D Z)
       | fail))
     go_wp2_with fail
     obtain ⟨X7,R,E,T⟩:=StR.turn1 K C (r:=revB s) (x:=(f,false)) y yab P D;have G:=(zee (r:=revB s) (L:=p) (last:=u) (x:=(f,false)) H.keys y).2;rw [B] at E G;exact ⟨⟨i + 1,X7,R,F7,by go_num,by omega,by rw [k];exact E,((Y.trans (Mv.below (zbj z))).trans (Mv.below b)).trans T,by rw [k];dsimp only at G ⊢;omega⟩,by simp [intOf];omega⟩
  · obtain rfl:i=d.length:=by omega
    have di:¬(((d.length:Nat):Int)<(d.length:Int)):=by omega
    rw [yaA] at H;go_wp2_with fail
    go_end0
    exact ⟨rfl,X',F',⟨F0',H⟩,hM⟩
end
end
section
open Go.RowKit
theorem TabX.weak {X Y:Nat→Prop} {w:World} {Ay:Option Addr} {cy:Nat} {ty:List ByteArray} {mb:Option Nat} {ps:List Path} {Ar:Option Addr} {cr:Nat} {K:List TabR} (h:TabX Y w Ay cy ty mb ps Ar cr K) (hs:∀b,X b→Y b):TabX X w Ay cy ty mb ps Ar cr K:=fun w' d=>h w' ⟨d.1,fun b hb f=>d.2 b hb fun q=>f (hs b q)⟩
theorem zkx {k:ByteArray} (hk:k.size≤100000):∀x ∈ zaE (ofT k),x.size≤100000:=by
 unfold ofT;cases e:zds k with
 | none =>
  intro x b;simp only [Option.getD_none,zaE,yav,ya1,ybw] at b;rcases b with rfl | rfl | rfl | rfl | rfl | rfl <;> decide
 | some t =>
  intro x b;have:=zfx t x b;rw [(zj8 e).2] at this;omega
section
variable {S:SpW} {f:CoF} {X Y F F':Nat→Prop} {w w':World} {g:Nat} {s:Sto Tb Nd15} {L:List Sp} {last:Int} {m:Mm}
theorem zpi (T:Tb) (k:ByteArray) (r:List ByteArray):zbL (p15 f) T (k::r)=if zaR T (ofT k)=0 then zbL (p15 f) T r else zaR T (ofT k):=by
 rw [zbL,zbs,zhd]
theorem define_any (K:SpK S) (hF:zoJ f) (h:StM S f X w F g s L last m) (b1 b2 b3 x:ByteArray) (hx:x.size≤1000000) (hmax:revB s + 1≤9223372036854775807) :
 Calls Tryz.prog 13 #[.pointer (some ⟨g,0,none⟩),.agg #[.string b1,.string b2,.string b3],.string x] w fun e w'=>e = .returned (.int .i64 (zaC (p15 f) s (b1,b2,b3) x).2)∧∃X' F' m',StM S f X' w' F' g (zaC (p15 f) s (b1,b2,b3) x).1 L last m'∧Mv X F w X' F' w':=by
 obtain ⟨D,hD⟩:∃D,Hid (zaC (p15 f) s (b1,b2,b3) x=D):=⟨_,Lib.hid rfl⟩;rw [hD.out];have E:=Rk.new w #[.string b1,.string b2,.string b3] 31;have G:=zaM w (.cells #[.string b1,.string b2,.string b3] 31);have kc:=compile_any x hx (w.alloc (.cells #[.string b1,.string b2,.string b3] 31));have a7:∀b,X b→b<(w.alloc (.cells #[.string b1,.string b2,.string b3] 31)).heap.size:=fun b q=>by have:=h.lt b q;simp;omega
 go_enter Tryz.func13,Tryz.ntmps13
 go_upto_region 1 with (fail)
 generalize w.alloc (.cells #[.string b1,.string b2,.string b3] 31)=w1 at *
 unfold ziD at kc;go_upto_region 4 with (go_at_call 43;refine kc.mono ?_;rintro e w2 ⟨⟨tx,Y,cy,ty,mb,ps,Z,cr,C,M,rfl,hT,hC⟩,N⟩)
 have hf:=hF hC;have a8:=hC.few;have aa:Tm.ok X w2 ⟨tx,Y,cy,ty,mb,ps,Z,cr,C⟩:=⟨hT.weak a7,a8⟩;have a1:=zaM w2 (.cells #[.string tx,.slice Y ty.length cy,.map mb,.slice Z C.length cr] 61);have ab:=aa.step (Stay.below a1) fun _ q=>.inl q;have ac:=(E.same (N.block _ E.lt)).alloc (.cells #[.string tx,.slice Y ty.length cy,.map mb,.slice Z C.length cr] 61);have H:=Rk.new w2 #[.string tx,.slice Y ty.length cy,.map mb,.slice Z C.length cr] 61;have A:=zad (zad G G.size N) (zad G G.size N).size a1;have y:=h.up K A;generalize w2.alloc (.cells #[.string tx,.slice Y ty.length cy,.map mb,.slice Z C.length cr] 61)=w3 at *
 generalize w2.heap.size=gt at *
 clear kc hT hC N a1 aa E G a7 h;replace hf:=Lib.hid hf;have I:∀e:Int,D=(s,e)→∀W,Below w3.heap.size w3 W→D.2=e∧∃X' F' m',StM S f X' W F' g D.1 L last m'∧Mv X F w X' F' W:=fun e hd W hW=>by
  rw [hd];exact ⟨rfl,X,F,m,y.up K hW,Mv.below (zad A A.size hW)⟩
 by_cases he:M=0
 · subst he;have o:Hid ((if zbL (p15 f) (ty,ps,C.map (·.r)) (zai s).keys=0 then if 63<s.L.length then (s,42) else (zaQ s ⟨tx,(ty,ps,C.map (·.r)),(zai s).keys,(b1,b2,b3),true,[]⟩,0) else (s,zbL (p15 f) (ty,ps,C.map (·.r)) (zai s).keys))=D):=Lib.hid (by
    rw [←hD.out];unfold zaC;rw [zbh,hf.out];exact (yan (show ((0:Nat):Int)=0 from rfl)).symm)
   have ad:OkB (p15 f) D.1:=by rw [←hD.out];exact y.ok.define _ _
   clear hD hf;have k1:=zcP y.toStR;have k2:=fun W (hb:Below w3.heap.size w3 W)=>tuples_any K (y.up K hb) (revB s);rw [za5 y.ok.has] at k2;obtain ⟨a2,ae⟩:=y.small (revB s);rw [za5 y.ok.has] at a2 ae;obtain ⟨ke,O⟩:∃ke,(zai s).keys=ke:=⟨_,rfl⟩;rw [O] at k2 a2 ae o;obtain ⟨R,hR⟩:∃R,zbL (p15 f) (ty,ps,C.map (·.r)) ke=R:=⟨_,rfl⟩;rw [hR] at o;replace O:=Lib.hid O;go_upto_region 7 with (first
    | (go_at_call 17;refine k1.mono ?_;rintro e w4 ⟨rfl,P⟩)
    | (go_at_call 20;refine (k2 _ P).mono ?_;rintro e w5 ⟨⟨A5,c5,rfl,al⟩,af⟩))
   have ag:=zad P P.size af;have am:(ke.map ofT).length=ke.length:=yay _;clear k1 k2 P af;go_loopw [27] (fun vi wx=>∃i:Nat,vi = .int .i64 i∧i≤ke.length∧Hid (zbL (p15 f) (ty,ps,C.map (·.r)) (ke.drop i)=R)∧Below w5.heap.size w5 wx) (fun vi _=>ke.length-(intOf vi).toNat)
   case atStart=>exact ⟨0,rfl,yap _,Lib.hid hR,Below.refl _ _⟩
   case round =>
    obtain ⟨i,rfl,hi,hA,hb⟩:=hrel;have an:=hb.size;have j:=zad ag ag.size hb;obtain ⟨p0,p1,p2,p3⟩:=(H.same (j.block _ H.lt)).c4x;have pl:=(H.same (j.block _ H.lt)).lt;by_cases ao:i<ke.length
    · have di:(i:Int)<(ke.length:Int):=by omega
      obtain ⟨k,hk⟩:∃k,ke[i]? = some k:=⟨_,yal ao⟩;have ah:(ke.map ofT)[i]? = some (ofT k):=by rw [ya0,hk];rfl
      obtain ⟨az,o3,rfl,b0,hg⟩:=zfB zeE znh (al.below hb) am.symm ah;have g0:=hg 0 _ rfl;have g1:=hg 1 _ rfl;have g2:=hg 2 _ rfl;have g3:=hg 3 _ rfl;have g4:=hg 4 _ rfl;have g5:=hg 5 _ rfl;rw [ybP] at g0;have n:=hA.out;rw [zdd hk,zpi] at n;have U:=fun W (hb:Below w3.heap.size w3 W)=>Tm.right (ab.step (Stay.below hb) fun _ q=>.inl q) (ofT k) (zkx (a2 k (yar hk)));simp only [Tm.val,zf0,Tm.tb] at U;generalize ofT k=u at *
      have Q:=j.alloc j.size (.cells #[.string u.1.1,.string u.1.2.1,.string u.1.2.2,.string u.2.1,.string u.2.2.1,.string u.2.2.2] 51);have E:=hb.alloc an (.cells #[.string u.1.1,.string u.1.2.1,.string u.1.2.2,.string u.2.1,.string u.2.2.1,.string u.2.2.2] 51);generalize zaR (ty,ps,C.map (·.r)) u=z at *
      clear hg hA ah;by_cases hz:z=0
      · rw [yan hz] at n;subst hz;replace n:=Lib.hid n;go_wp2_with (go_at_call 44;refine (U _ Q).mono ?_;rintro e w6 ⟨rfl,d⟩)
        exact ⟨⟨i + 1,by go_num,by omega,n,zad E E.size d⟩,by simp [intOf];omega⟩
      · rw [yak hz] at n;subst n;have b4:(z == 0)=false:=by simpa using hz
        have B:D=(s,z):=by rw [←o.out,yak hz]
        clear o;go_wp2_with (go_at_call 44;refine (U _ Q).mono ?_;rintro e w6 ⟨rfl,d⟩)
        go_ret
        obtain ⟨V,q2⟩:=I _ B w6 (zad Q Q.size d);rw [V];exact ⟨rfl,q2⟩
    · obtain rfl:i=ke.length:=by omega
      have di:¬(((ke.length:Nat):Int)<(ke.length:Int)):=by omega
      have n:=hA.out;rw [ybV] at n;obtain rfl:R=0:=n.symm;have B:=o.out;rw [yan rfl] at B;have ai:=y.up K j;have U:=zjr K ai;clear o hA n hR H;by_cases J:63<s.L.length
      · rw [yan J] at B;rw [yaH (by omega)] at U;go_wp2_with (go_at_call 38;refine U.mono ?_;rintro e w6 ⟨rfl,d⟩)
        go_ret
        obtain ⟨V,q2⟩:=I _ B.symm w6 (zad j j.size d);rw [V];exact ⟨rfl,q2⟩
      · rw [yak J] at B;rw [yaD (by omega)] at U;have aq:m.l.length<63:=by have:=y.len_eq;omega
        have aj:=fun W (hb:Below wr.heap.size wr W)=>ai.up K hb;have ka:=fun W (hb:Below wr.heap.size wr W)=>badd_any K (aj W hb).toStR tx Y ty.length cy mb Z C.length cr 0 b1 b2 b3 true none 0 0 hmax yab;have ak:=ac.same (j.block _ ac.lt);clear I;go_wp2_with (first
         | (go_at_call 38;refine U.mono ?_;rintro e w6 ⟨rfl,d⟩;have T:=ak.same (d.block _ ak.lt);have y0:=T.cell 0;have y1:=T.cell 1;have y2:=T.cell 2;have b5:=T.lt;have q0:=(d.cell (p:=⟨gt,0,none⟩) pl).trans p0;have V:=(d.cell (p:=⟨gt,1,none⟩) pl).trans p1;have q2:=(d.cell (p:=⟨gt,2,none⟩) pl).trans p2;have q3:=(d.cell (p:=⟨gt,3,none⟩) pl).trans p3;have b6:=yaw pl d.size)
         | (go_at_call 39;refine (ka _ d).mono ?_;rintro e w7 ⟨rfl,ga,ca,ar,au,av,aw⟩))
        go_ret
        have a6:=aj _ d;obtain ⟨X7,F7,ax,ay⟩:=StR.added K a6.toStR (v:=⟨tx,(ty,ps,C.map (·.r)),ke,(b1,b2,b3),true,[]⟩) (t:=⟨tx,Y,cy,ty,mb,ps,Z,cr,C⟩) (Ak:=none) (ck:=0) (ab.step (Stay.below (zad j j.size d)) fun _ q=>.inl q) rfl rfl (fun _ _=>Rd.none_ _ _ _) hmax aq ar au av aw;rw [←B] at ad ⊢;exact ⟨rfl,X7,F7,_,⟨ax,a6.spb.same a6.ok.has (by show ke=_;rw [←O.out]),ad⟩,(Mv.below (zad (zad A A.size j) (zad A A.size j).size d)).trans ay⟩
 · have hz:¬((M:Int)=0):=by omega
   have o:D=(s,(M:Int)):=by
    rw [←hD.out];unfold zaC;rw [zbh,hf.out,yak hz]
   obtain ⟨V,q2⟩:=I _ o w3 (Below.refl _ _);replace o:=Lib.hid o;have b7:((M:Int) == 0)=false:=by simpa using he
   replace V:=Lib.hid V;clear I hD hf;go_wp2_with fail
   go_ret
   exact ⟨by rw [V.out];rfl,q2⟩
end
end
end Go.Proofs.YtmblgnddgmfkhaaGreat
