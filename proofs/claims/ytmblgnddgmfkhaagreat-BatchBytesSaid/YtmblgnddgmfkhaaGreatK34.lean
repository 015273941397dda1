import Derived.Test.YtmblgnddgmfkhaaGreatK33
set_option maxRecDepth 100000
set_option maxHeartbeats 4000000
namespace Go.Proofs.YtmblgnddgmfkhaaGreat
section
open Go.RowKit
def zeS (p:List (TuP × Bool)):List (ByteArray × Bool):=p.map fun x=>(za4 x.1,x.2)
theorem zgO (p:List (TuP × Bool)):(zeS p).length=p.length:=yax _
theorem zkR {p:List (TuP × Bool)} {i:Nat} {x:TuP × Bool} (h:p[i]? = some x):zeS (p.take (i + 1))=zeS (p.take i) ++ [(za4 x.1,x.2)]:=by
 unfold zeS;rw [yaC,h];simp
theorem Bk.c7 {w:World} {b:Nat} {t:TypeId} {x0 x1 x2 x3 x4 x5 x6:Value} (h:Bk w b #[x0,x1,x2,x3,x4,x5,x6] t):w.cell? ⟨b,0,none⟩=some x0∧w.cell? ⟨b,1,none⟩=some x1∧w.cell? ⟨b,2,none⟩=some x2∧w.cell? ⟨b,3,none⟩=some x3∧w.cell? ⟨b,4,none⟩=some x4∧w.cell? ⟨b,5,none⟩=some x5∧w.cell? ⟨b,6,none⟩=some x6:=⟨h.cell 0,h.cell 1,h.cell 2,h.cell 3,h.cell 4,h.cell 5,h.cell 6⟩
theorem ofKeys_any {w:World} {A1 A2:Option Addr} {c1 c2:Nat} {p q:List (TuP × Bool)} (h1:Rd w w.heap.size 7 A1 p.length c1 (p.flatMap za5)) (h2:Rd w w.heap.size 7 A2 q.length c2 (q.flatMap za5)) (hp:p.length≤100000) (hq:q.length≤100000)
 (hkp:∀x ∈ p,(za4 x.1).size≤100000) (hkq:∀x ∈ q,(za4 x.1).size≤100000) :
 Calls Tryz.prog 35 #[.slice A1 p.length c1,.slice A2 q.length c2] w fun e w'=>(∃B1 d1 B2 d2,e = .returned (.tuple #[.slice B1 p.length d1,.slice B2 q.length d2])∧Rd w' w'.heap.size 2 B1 p.length d1 (pcs (zeS p))∧Rd w' w'.heap.size 2 B2 q.length d2 (pcs (zeS q)))∧Below w.heap.size w w':=by
 obtain ⟨i0,a6,a7,a8,aa⟩:=info_parts zqk;obtain ⟨j0,ab,ac,ad,ae⟩:=info_parts zho;go_enter Tryz.func35,Tryz.ntmps35
 go_wp2_with fail
 go_loopw [6,14] (fun vm N Y=>∃i:Nat,N = .int .i64 i∧i≤p.length∧Y.ownsRow w.heap.size 126 2 vm i (pcs (zeS (p.take i)))∧Below w.heap.size w Y) (fun _ N _=>p.length-(intOf N).toNat)
 case atStart=>exact ⟨0,rfl,yao _,World.ownsRow_nil _ _ _ _,Below.refl _ _⟩
 case round =>
  obtain ⟨i,rfl,hi,G,hb⟩:=hrel;have H:=hb.size;by_cases O:i<p.length
  · have di:(i:Int)<(p.length:Int):=by omega
    obtain ⟨x,I⟩:∃x,p[i]? = some x:=⟨_,yal O⟩;obtain ⟨b3,o3,rfl,af,m⟩:=zc5 za5 zdp (h1.below hb) rfl I;obtain ⟨K,L,rfl,_⟩:=Rd.own G;have y:=zkR I;have P:=fun W=>zht x.1 (hkp x (yaq I)) W;obtain ⟨u,n⟩:=x;have g0:=m 0 _ rfl;have Z:=m 1 _ rfl;have g2:=m 2 _ rfl;have g3:=m 3 _ rfl;have g4:=m 4 _ rfl;have g5:=m 5 _ rfl;have g6:=m 6 _ rfl;dsimp only at g0 Z g2 g3 g4 g5 g6 y P;rw [ybH] at g0;unfold zgF at P;generalize za4 u=k at *
    clear I m;have z:=hb.alloc H (.cells #[.string u.1.1,.string u.1.2.1,.string u.1.2.2,.string u.2.1,.string u.2.2.1,.string u.2.2.2,.bool n] 66);have A:=G.alloc (.cells #[.string u.1.1,.string u.1.2.1,.string u.1.2.2,.string u.2.1,.string u.2.2.1,.string u.2.2.2,.bool n] 66);have o:=Bk.new wr #[.string u.1.1,.string u.1.2.1,.string u.1.2.2,.string u.2.1,.string u.2.2.1,.string u.2.2.2,.bool n] 66;go_upto_region 5 with (fail)
    generalize wr.alloc (.cells #[.string u.1.1,.string u.1.2.1,.string u.1.2.2,.string u.2.1,.string u.2.2.1,.string u.2.2.2,.bool n] 66)=B at *
    generalize wr.heap.size=gx at *
    have C:=o.below (za1 B);have Q:=zao A (za1 B);have D:=zac z z.size (za1 B);have ah:=o.lt;have b:=fun W (hb:Below B.drew.heap.size B.drew W)=>(C.below hb).c7;obtain ⟨x0,x1,x2,x3,x4,x5,x6⟩:=b _ (Below.refl _ _);clear g0 Z g2 g3 g4 g5 g6;have ag:(Value.slice K i L).ownBlock≠some gx:=Rk.apart o A yac;go_region_held3 (fun W=>W.cell? ⟨gx,0,none⟩=some (.string u.1.1)∧W.cell? ⟨gx,1,none⟩=some (.string u.1.2.1)∧W.cell? ⟨gx,2,none⟩=some (.string u.1.2.2)∧W.cell? ⟨gx,3,none⟩=some (.string u.2.1)∧W.cell? ⟨gx,4,none⟩=some (.string u.2.2.1)∧W.cell? ⟨gx,5,none⟩=some (.string u.2.2.2)∧W.cell? ⟨gx,6,none⟩=some (.bool n))
     (first | exact R | exact T | go_keep | fail)
     ((first
      | (with_reducible refine (P _).mono ?_;rintro e6 J ⟨rfl,g⟩;have R:=b J g;have E:=C.below g;have F:=zao Q g;have j:=zac D D.size g)
      | (refine step_append_lies _ yae _ _ _ yae w.heap.size 126 i0 _ 2 24 Tryz.underlying83 a6 a7 a8 aa rfl yab (.slice K i L) i (pcs (zeS (p.take i))) yae (F.alloc _) ⟨J.heap.size,0,none⟩ 1 1 [.string k,.bool n] yae yae (World.news_of_block (cs:=#[.string k,.bool n]) (t:=126) (fr:=(0,0)) (heap_alloc_new J _)) (by simp [Value.oneCell']) yab yad yab (zad j.size) (J.heap.size + 1) yaf ?_;intro gg cap w8 s f ai aj;have T:=Bk.c7 (Rk.same (E.alloc _) (f.block gx (by have:=E.lt;simp;omega) (Ne.symm ag))))
      | fail))
    go_wp2_with fail
    have U:w8.ownsRow w.heap.size 126 2 (.slice (some ⟨gg,0,none⟩) (i + 1) cap) (i + 1) (pcs (zeS (p.take (i + 1)))):=by rw [y,zez];exact s
    have V:=zae (j.alloc j.size _) f (F.alloc _) (zad j.size) (yaj _);exact ⟨⟨i + 1,by go_num,by omega,U,V⟩,by simp [intOf];omega⟩
  · obtain rfl:i=p.length:=by omega
    have di:¬(((p.length:Nat):Int)<(p.length:Int)):=by omega
    rw [yaz] at G;obtain ⟨A7,c7,rfl,a1⟩:=Rd.own G;clear di G;go_wp2_with fail
    obtain ⟨X,a2⟩:∃X,X=wr:=⟨_,rfl⟩;rw [←a2] at hb a1 ⊢;have ak:=(h2.below hb).more hb.size;clear a2 H h1 h2;go_loopw [9,30] (fun vm N Y=>∃i:Nat,N = .int .i64 i∧i≤q.length∧Y.ownsRow X.heap.size 128 2 vm i (pcs (zeS (q.take i)))∧Below X.heap.size X Y) (fun _ N _=>q.length-(intOf N).toNat)
    case atStart=>exact ⟨0,rfl,yao _,World.ownsRow_nil _ _ _ _,Below.refl _ _⟩
    case round =>
     have M:=hb;clear hb;obtain ⟨i,rfl,hi,G,hb⟩:=hrel;have H:=hb.size;by_cases O:i<q.length
     · have di:(i:Int)<(q.length:Int):=by omega
       obtain ⟨x,I⟩:∃x,q[i]? = some x:=⟨_,yal O⟩;obtain ⟨b3,o3,rfl,af,m⟩:=zc5 za5 zdp (ak.below hb) rfl I;obtain ⟨K,L,rfl,_⟩:=Rd.own G;have y:=zkR I;have P:=fun W=>zht x.1 (hkq x (yaq I)) W;obtain ⟨u,n⟩:=x;have g0:=m 0 _ rfl;have Z:=m 1 _ rfl;have g2:=m 2 _ rfl;have g3:=m 3 _ rfl;have g4:=m 4 _ rfl;have g5:=m 5 _ rfl;have g6:=m 6 _ rfl;dsimp only at g0 Z g2 g3 g4 g5 g6 y P;rw [ybH] at g0;unfold zgF at P;generalize za4 u=k at *
       clear I m;have z:=hb.alloc H (.cells #[.string u.1.1,.string u.1.2.1,.string u.1.2.2,.string u.2.1,.string u.2.2.1,.string u.2.2.2,.bool n] 54);have A:=G.alloc (.cells #[.string u.1.1,.string u.1.2.1,.string u.1.2.2,.string u.2.1,.string u.2.2.1,.string u.2.2.2,.bool n] 54);have o:=Bk.new wr #[.string u.1.1,.string u.1.2.1,.string u.1.2.2,.string u.2.1,.string u.2.2.1,.string u.2.2.2,.bool n] 54;go_upto_region 11 with (fail)
       generalize wr.alloc (.cells #[.string u.1.1,.string u.1.2.1,.string u.1.2.2,.string u.2.1,.string u.2.2.1,.string u.2.2.2,.bool n] 54)=B at *
       generalize wr.heap.size=gx at *
       have C:=o.below (za1 B);have Q:=zao A (za1 B);have D:=zac z z.size (za1 B);have ah:=o.lt;have b:=fun W (hb:Below B.drew.heap.size B.drew W)=>(C.below hb).c7;obtain ⟨x0,x1,x2,x3,x4,x5,x6⟩:=b _ (Below.refl _ _);clear g0 Z g2 g3 g4 g5 g6;have ag:(Value.slice K i L).ownBlock≠some gx:=Rk.apart o A yac;go_region_held3 (fun W=>W.cell? ⟨gx,0,none⟩=some (.string u.1.1)∧W.cell? ⟨gx,1,none⟩=some (.string u.1.2.1)∧W.cell? ⟨gx,2,none⟩=some (.string u.1.2.2)∧W.cell? ⟨gx,3,none⟩=some (.string u.2.1)∧W.cell? ⟨gx,4,none⟩=some (.string u.2.2.1)∧W.cell? ⟨gx,5,none⟩=some (.string u.2.2.2)∧W.cell? ⟨gx,6,none⟩=some (.bool n))
        (first | exact R | exact T | go_keep | fail)
        ((first
         | (with_reducible refine (P _).mono ?_;rintro e6 J ⟨rfl,g⟩;have R:=b J g;have E:=C.below g;have F:=zao Q g;have j:=zac D D.size g)
         | (refine step_append_lies _ yae _ _ _ yae X.heap.size 128 j0 _ 2 24 Tryz.underlying84 ab ac ad ae rfl yab (.slice K i L) i (pcs (zeS (q.take i))) yae (F.alloc _) ⟨J.heap.size,0,none⟩ 1 1 [.string k,.bool n] yae yae (World.news_of_block (cs:=#[.string k,.bool n]) (t:=128) (fr:=(0,0)) (heap_alloc_new J _)) (by simp [Value.oneCell']) yab yad yab (zad j.size) (J.heap.size + 1) yaf ?_;intro gg cap w8 s f ai aj;have T:=Bk.c7 (Rk.same (E.alloc _) (f.block gx (by have:=E.lt;simp;omega) (Ne.symm ag))))
         | fail))
       go_wp2_with fail
       have U:w8.ownsRow X.heap.size 128 2 (.slice (some ⟨gg,0,none⟩) (i + 1) cap) (i + 1) (pcs (zeS (q.take (i + 1)))):=by rw [y,zez];exact s
       have V:=zae (j.alloc j.size _) f (F.alloc _) (zad j.size) (yaj _);exact ⟨⟨i + 1,by go_num,by omega,U,V⟩,by simp [intOf];omega⟩
     · obtain rfl:i=q.length:=by omega
       have di:¬(((q.length:Nat):Int)<(q.length:Int)):=by omega
       rw [yaz] at G;obtain ⟨K,L,rfl,al⟩:=Rd.own G;go_wp2_with fail
       refine bodyPost_ret (v:=.tuple #[.slice A7 p.length c7,.slice K q.length L]) (by simp [results,Tryz.results35,go_sem]) rfl ?_;exact ⟨⟨A7,c7,K,L,rfl,a1.up hb,al⟩,zac M M.size hb⟩
section
variable {S:SpW} {f:CoF} {X Y F F':Nat→Prop} {w w':World} {g:Nat} {s:Sto Tb Nd15} {L:List Sp} {last:Int} {m:Mm}
theorem right15_any (K:SpK S) (h:StM S f X w F g s L last m) {A:Option Addr} {c:Nat} {l:List TuP} (hR:Rd w w.heap.size 6 A l.length c (l.flatMap zeT)) (hl:l.length≤100000) (hs:∀u ∈ l,∀x ∈ zav u,x.size≤100000) :
 Calls Tryz.prog 33 #[.pointer (some ⟨g,0,none⟩),.slice A l.length c] w fun e w'=>e = .returned (.tuple #[.int .i64 (zaW (p15 f) (zah s).T l 0).1,.int .i64 ((zaW (p15 f) (zah s).T l 0).2:Nat)])∧Below w.heap.size w w':=by
 have k1:=zc6 h.toStR;have G:=fun W (hb:Below w.heap.size w W)=>schema15_any K (h.up K hb) (revB s);rw [zbA h.ok.has] at G;obtain ⟨R,D⟩:∃R,zaW (p15 f) (zah s).T l 0=R:=⟨_,rfl⟩;rw [D];generalize (zah s).T=T at *
 generalize (zah s).text=tx at *
 simp only [Tm.val] at G;go_enter Tryz.func33,Tryz.ntmps33
 go_upto_region 2 with (first
  | (go_at_call 17;refine k1.mono ?_;rintro e w2 ⟨rfl,k⟩)
  | (go_at_call 26;refine (G _ k).mono ?_;rintro e E ⟨⟨t,rfl,ht,M,n⟩,o⟩;clear M;replace n:=Lib.hid n))
 have hT:=Bk.new E #[.string t.tx,.slice t.Ay t.ty.length t.cy,.map t.mb,.slice t.Ar t.K.length t.cr] 61;have C:=zac (zac k k.size o) (zac k k.size o).size (zaI E (.cells #[.string t.tx,.slice t.Ay t.ty.length t.cy,.map t.mb,.slice t.Ar t.K.length t.cr] 61));have N:=ht.step (Stay.below (zaI E (.cells #[.string t.tx,.slice t.Ay t.ty.length t.cy,.map t.mb,.slice t.Ar t.K.length t.cr] 61))) fun _ q=>.inl q;generalize E.alloc (.cells #[.string t.tx,.slice t.Ay t.ty.length t.cy,.map t.mb,.slice t.Ar t.K.length t.cr] 61)=H at *
 generalize E.heap.size=gt at *
 clear k1 G k o ht;go_wp2_with fail
 go_loopw [16] (fun O wx=>∃i:Nat,O = .int .i64 i∧i≤l.length∧Hid (zaW (p15 f) T (l.drop i) i=R)∧Below H.heap.size H wx) (fun O _=>l.length-(intOf O).toNat)
 case atStart=>exact ⟨0,rfl,yao _,Lib.hid D,Below.refl _ _⟩
 case round =>
  obtain ⟨i,rfl,hi,P,hb⟩:=hrel;have Q:=hb.size;by_cases U:i<l.length
  · have di:(i:Int)<(l.length:Int):=by omega
    obtain ⟨u,V⟩:∃u,l[i]? = some u:=⟨_,yal U⟩;obtain ⟨b3,o3,rfl,a1,y⟩:=zc5 zeT zn4 ((hR.below C).belowLe hb C.size) rfl V;have g0:=y 0 _ rfl;have g1:=y 1 _ rfl;have g2:=y 2 _ rfl;have g3:=y 3 _ rfl;have g4:=y 4 _ rfl;have g5:=y 5 _ rfl;rw [ybH] at g0;have b:=P.out;rw [zc3 V] at b;unfold zaW at b;rw [zbz] at b;have j:=hb.alloc Q (.cells #[.string u.1.1,.string u.1.2.1,.string u.1.2.2,.string u.2.1,.string u.2.2.1,.string u.2.2.2] 51);have I:=fun W (hb:Below H.heap.size H W)=>Tm.right (N.step (Stay.below hb) fun _ q=>.inl q) u (hs u (yaq V));rw [n.out] at I;simp only [Tm.val,zgF] at I;have Y:=hT.below j;obtain ⟨t0,t1,t2,t3⟩:=Y.c4;have Z:=Bk.new wr #[.string u.1.1,.string u.1.2.1,.string u.1.2.2,.string u.2.1,.string u.2.2.1,.string u.2.2.2] 51;generalize zaR T u=z at *
    clear y P Z;by_cases J:z=0
    · rw [yan J] at b;subst J;replace b:=Lib.hid b;go_wp2_with (go_at_call 44;refine (I _ j).mono ?_;rintro e w6 ⟨rfl,B⟩)
      exact ⟨⟨i + 1,by go_num,by omega,b,zac j j.size B⟩,by simp [intOf];omega⟩
    · rw [yak J] at b;have a2:(z == 0)=false:=by simpa using J
      obtain ⟨R1,R2⟩:=R;injection b with e1 e2
      subst e1 e2;go_wp2_with (go_at_call 44;refine (I _ j).mono ?_;rintro e w6 ⟨rfl,B⟩)
      refine bodyPost_ret (v:=.tuple #[.int .i64 z,.int .i64 (i:Nat)]) (by simp [results,Tryz.results33,go_sem]) rfl ?_;exact ⟨rfl,zac C C.size (zac j j.size B)⟩
  · obtain rfl:i=l.length:=by omega
    have di:¬(((l.length:Nat):Int)<(l.length:Int)):=by omega
    have b:=P.out;rw [yb0] at b;obtain rfl:R=(0,0):=b.symm;go_wp2_with fail
    refine bodyPost_ret (v:=.tuple #[.int .i64 0,.int .i64 0]) (by simp [results,Tryz.results33,go_sem]) rfl ?_;exact ⟨rfl,zac C C.size hb⟩
end
end
section
open Go.RowKit
structure Mv (X F:Nat→Prop) (w:World) (X' F':Nat→Prop) (w':World):Prop where
 own:Own14 F F' w w'
 up:∀b,X b→X' b
 new:∀b,X' b→X b∨w.heap.size≤b
theorem Mv.below {X F:Nat→Prop} {w w':World} (hb:Below w.heap.size w w'):Mv X F w X F w':=⟨⟨hb.size,fun b h _=>hb.block b h,fun _ h=>.inl h,fun _ f _=>hb.mono f⟩,fun _ h=>h,fun _ h=>.inl h⟩
theorem Mv.trans {X X1 X2 F F1 F2:Nat→Prop} {w w1 w2:World} (h:Mv X F w X1 F1 w1) (k:Mv X1 F1 w1 X2 F2 w2):Mv X F w X2 F2 w2 where
 own:=⟨yay h.own.le k.own.le,fun b hb f=>(k.own.old b (yas hb h.own.le) fun q=>by
  rcases h.own.grow b q with q | q
  · exact f q
  · omega).trans (h.own.old b hb f),fun b q=>by
  have:=h.own.le;rcases k.own.grow b q with q | q
  · exact h.own.grow b q
  · exact .inr yab,fun B g f=>(h.own.rest B g f).trans (k.own.rest B (yay g h.own.le) fun b q=>by
  rcases h.own.grow b q with q | q
  · exact f b q
  · omega)⟩
 up:=fun b q=>k.up b (h.up b q)
 new:=fun b q=>by
  have:=h.own.le;rcases k.new b q with q | q
  · exact h.new b q
  · exact .inr yab
section
variable {S:SpW} {f:CoF} {X Y F F' F0':Nat→Prop} {w w':World} {g:Nat} {s:Sto Tb Nd15} {L L':List Sp} {last last':Int} {m:Mm}
theorem StR.spanned (K:SpK S) (h:StR S X w F g s L last m) (ho:Own14 m.F0 F0' w w') (hs:S w' F0' m.gs L' last') (hf:FineS L' last') (hk:∀x ∈ L',x.1.size≤100000) (hl:L'.length≤50000) :
 ∃X' F',StR S X' w' F' g s L' last' { m with F0:=F0' }∧Mv X F w X' F' w':=by
 have o:=h.box.lt;have f:∀j,m.F0 j→F j:=fun j q=>(h.own j).2 (.inr (.inl q));have k:Stay X w w':=⟨ho.le,fun b hb u=>ho.old b hb fun q=>u (h.sub b (f b q))⟩;have y:∀b,(X b∨F0' b)→X b∨w.heap.size≤b:=fun b q=>by
  rcases q with q | q
  · exact .inl q
  · rcases ho.grow b q with q | q
    · exact .inl (h.sub b (f b q))
    · exact .inr q
 refine ⟨fun b=>X b∨F0' b,fun j=>j=g∨F0' j∨m.row.ownBlock=some j,?_,⟨⟨ho.le,fun b hb z=>ho.old b hb fun q=>z (f b q),fun b q=>?_,fun B A z=>ho.rest B A fun b q=>z b (f b q)⟩,fun _ q=>.inl q,y⟩⟩
 · exact
    {box:=h.box.same (ho.old g o h.g0)
     sp:=hs
     row:=zau h.row fun j n=>ho.old j (h.row.lt j n).2 (h.r0 j n)
     own:=fun _=>Iff.rfl
     g0:=fun q=>by
      rcases ho.grow g q with q | q
      · exact h.g0 q
      · omega
     r0:=fun j n q=>by
      have C:=(h.row.lt j n).2;rcases ho.grow j q with q | q
      · exact h.r0 j n q
      · omega
     sub:=fun j q=>by
      rcases q with q | q | q
      · exact .inl (h.sub j ((h.own j).2 (.inl q)))
      · exact .inr q
      · exact .inl (h.sub j ((h.own j).2 (.inr (.inr q))))
     lt:=fun j q=>by
      rcases q with q | q
      · exact yas (h.lt j q) ho.le
      · exact K.lt hs j q
     head:=h.head
     first:=h.first.step k y
     each:=fun x u=>(h.each x u).step k y
     revs:=h.revs
     fl0:=h.fl0
     most:=h.most
     few:=h.few
     keys:=hk
     len:=hl
     fine:=hf }
 · rcases q with q | q | q
   · exact .inl ((h.own b).2 (.inl q))
   · rcases ho.grow b q with q | q
     · exact .inl (f b q)
     · exact .inr q
   · exact .inl ((h.own b).2 (.inr (.inr q)))
theorem StR.added (K:SpK S) (h:StR S X w F g s L last m) {t:Tm} (ht:t.ok X w) {v:Rv Tb Nd15} {Ak:Option Addr} {ck ga ca:Nat} (htx:v.text=t.tx) (hT:v.T=t.tb) (hw:KeyX X w Ak ck v.wrote) (hmax:revB s + 1≤9223372036854775807) (hfew:m.l.length<63)
 (hr:w'.ownsRow 0 100 10 (.slice (some ⟨ga,0,none⟩) (m.l.length + 1) ca) (m.l.length + 1) (m.l.flatMap Rm.cells ++ Rm.cells ⟨v,t,revB s + 1,Ak,ck⟩))
 (hb:Rk w' g #[.pointer (some ⟨m.gs,0,none⟩),.int .i64 s.quota,.int .i64 s.floor,.string m.t.tx,.slice m.t.Ay m.t.ty.length m.t.cy,.map m.t.mb,.slice m.t.Ar m.t.K.length m.t.cr,.slice (some ⟨ga,0,none⟩) (m.l.length + 1) ca] 80)
 (hat:m.row.ownBlock=some ga∨w.heap.size≤ga) (ho:OnlyF (fun j=>j=g∨m.row.ownBlock=some j) w w') :
 ∃X' F',StR S X' w' F' g (zaV s v) L last { m with A:=some ⟨ga,0,none⟩,c:=ca,l:=m.l ++ [⟨v,t,revB s + 1,Ak,ck⟩] }∧Mv X F w X' F' w':=by
 have I:=h.box.lt;have f:∀j,j=g∨m.row.ownBlock=some j→F j:=fun j q=>(h.own j).2 (by rcases q with q | q;exact .inl q;exact .inr (.inr q));have n:Stay X w w':=⟨ho.le,fun b hb o=>ho.old b hb fun q=>o (h.sub b (f b q))⟩;have y:∀b,(X b∨b=ga)→X b∨w.heap.size≤b:=fun b q=>by
  rcases q with q | rfl
  · exact .inl q
  · rcases hat with q | q
    · exact .inl (h.sub _ (f _ (.inr q)))
    · exact .inr q
 have D:ga<w'.heap.size:=(hr.lt ga rfl).2;have E:∀j,m.F0 j→¬(j=g∨m.row.ownBlock=some j):=fun j q z=>by
  rcases z with rfl | z
  · exact h.g0 q
  · exact h.r0 j z q
 have C:(m.l ++ [⟨v,t,revB s + 1,Ak,ck⟩]:List Rm).flatMap Rm.cells=m.l.flatMap Rm.cells ++ Rm.cells ⟨v,t,revB s + 1,Ak,ck⟩:=by rw [ya0];simp
 have k:(m.l ++ [⟨v,t,revB s + 1,Ak,ck⟩]:List Rm).length=m.l.length + 1:=by simp
 have J:=h.rev_eq;have M:revB (zaV s v)=revB s + 1:=za0 s v;refine ⟨fun b=>X b∨b=ga,fun j=>j=g∨m.F0 j∨j=ga,?_,⟨⟨ho.le,fun b hb G=>ho.old b hb fun q=>G (f b q),fun b q=>?_,fun B N G=>⟨ho.os,ho.tape,ho.output,ho.le,fun b hb=>ho.old b (yas hb N) fun q=>by have:=G b (f b q);omega⟩⟩,fun _ q=>.inl q,y⟩⟩
 · exact
    {box:=by
      unfold boxC;dsimp only;rw [k];exact hb
     sp:=K.keep h.sp fun b q=>ho.old b (K.lt h.sp b q) (E b q)
     row:=by
      unfold Mm.row;dsimp only;rw [k,C];exact hr
     own:=fun j=>by simp only [Value.ownBlock,yaT];rw [eq_comm (a:=ga)]
     g0:=h.g0
     r0:=fun j H q=>by
      simp only [Value.ownBlock,yaT] at H;subst H;rcases hat with z | z
      · exact h.r0 _ z q
      · have:=K.lt h.sp _ q;omega
     sub:=fun j q=>by
      rcases q with q | q | q
      · exact .inl (h.sub j ((h.own j).2 (.inl q)))
      · exact .inl (h.sub j ((h.own j).2 (.inr (.inl q))))
      · exact .inr q
     lt:=fun j q=>by
      rcases q with q | rfl
      · exact yas (h.lt j q) ho.le
      · exact D
     head:=by
      obtain ⟨u,O,P,Q⟩:=h.head;exact ⟨u,by show s.L ++ [v]=_;rw [O,yaM];rfl,P,Q⟩
     first:=h.first.step n y
     each:=fun x o=>by
      rcases yaA.1 o with o | o
      · exact (h.each x o).step n y
      · rw [yav.1 o];exact ⟨ht.step n y,htx,hT,hw.step n y⟩
     revs:=fun i x hi=>by
      show x.rev=s.floor + 1 + i;rw [List.getElem?_append] at hi;split at hi
      · exact h.revs i x hi
      · rename_i R
        have:i-m.l.length=0:=by
         have:=(yap.1 hi).1;simp at this;omega
        rw [this] at hi;have o:=yaZ hi;rw [←o];show revB s + 1=_;omega
     fl0:=h.fl0
     most:=by rw [M];exact hmax
     few:=by dsimp only;rw [k];omega
     keys:=h.keys
     len:=h.len
     fine:=h.fine }
 · rcases q with q | q | rfl
   · exact .inl ((h.own b).2 (.inl q))
   · exact .inl ((h.own b).2 (.inr (.inl q)))
   · rcases hat with q | q
     · exact .inl (f _ (.inr q))
     · exact .inr q
end
end
section
open Go.RowKit
variable {d:List (ByteArray × Bool)} {r:Int} {x:ByteArray × Bool}
section
variable {S:SpW} {f:CoF} {X Y F F':Nat→Prop} {w w':World} {g:Nat} {s:Sto Tb Nd15} {L:List Sp} {last:Int} {m:Mm}
theorem touched_any (K:SpK S) (h:StM S f X w F g s L last m) {A1 A2:Option Addr} {c1 c2:Nat} {p:List (ByteArray × Bool)} (h1:Rd w w.heap.size 2 A1 p.length c1 (pcs p)) (h2:Rd w w.heap.size 2 A2 d.length c2 (pcs d)) (hp:p.length≤100000) (hd:d.length≤100000) (hkp:∀x ∈ p,x.1.size≤100000) (hkd:∀x ∈ d,x.1.size≤100000) :
 Calls Tryz.prog 36 #[.pointer (some ⟨g,0,none⟩),.slice A1 p.length c1,.slice A2 d.length c2] w fun e w'=>(∃A c u,e = .returned (.slice A u.length c)∧Rises u∧(∀k,k ∈ u↔k ∈ (zah s).keys∧(k ∈ d.map Prod.fst∨k ∈ p.map Prod.fst))∧KeyX (·<w.heap.size) w' A c u)∧Below w.heap.size w w':=by
 obtain ⟨i0,T,U,V,Y⟩:=info_parts zcP;have o:=zaI w (.cells #[.pointer (some ⟨g,0,none⟩)] 28);have y:=Rk.new w #[.pointer (some ⟨g,0,none⟩)] 28;have E:=h.up K o;have k1:=keysOf_any (h2.up o) yab;have G:=h1.up o;go_enter Tryz.func36,Tryz.ntmps36
 go_upto_region 1 with (fail)
 generalize w.alloc (.cells #[.pointer (some ⟨g,0,none⟩)] 28)=M at *
 go_upto_region 2 with (go_at_call 40;refine k1.mono ?_;rintro e w2 ⟨A3,c3,rfl,B,z⟩)
 have Z:=y.same (z.block _ y.lt);have a1:=E.up K z;have a2:=G.up z;clear k1 h1 h2 a2 a1 Z;go_wp2_with fail
 go_loopw [7,15] (fun vm vi wx=>∃i:Nat,vi = .int .i64 i∧i≤p.length∧wx.ownsRow M.heap.size 9 1 vm (d.length + i) (ks (d.map Prod.fst) ++ ks ((p.take i).map Prod.fst))∧Below M.heap.size M wx) (fun _ vi _=>p.length-(intOf vi).toNat)
 case atStart=>exact ⟨0,rfl,yao _,by simpa [ks] using B,z⟩
 case round =>
  clear B z;obtain ⟨i,rfl,hi,B,hb⟩:=hrel;have C:=hb.size;by_cases a6:i<p.length
  · have di:(i:Int)<(p.length:Int):=by omega
    obtain ⟨x,D⟩:∃x,p[i]? = some x:=⟨_,yal a6⟩;obtain ⟨b3,o3,rfl,ak,g0,g1⟩:=zf9 (G.below hb) D;obtain ⟨n,N⟩:∃n,d.length + i=n:=⟨_,rfl⟩;rw [N] at B;replace N:=Lib.hid N;have al:n≤200000:=by have:=N.out;omega
    obtain ⟨A4,c4,rfl,_⟩:=Rd.own B;obtain ⟨k,e⟩:=x;dsimp only at g0 g1;have a7:ks ((p.take (i + 1)).map Prod.fst)=ks ((p.take i).map Prod.fst) ++ ks [k]:=by rw [yaC,D];simp [ks]
    have O:=B.alloc (.cells #[.string k,.bool e] 126);have a8:=hb.alloc C (.cells #[.string k,.bool e] 126);go_wp2_with (at_builtin;go_loud (refine zab _ rfl (.tmp 19) (.tmp 22) 46 46 rfl M.heap.size 9 i0 (.string ⟨#[]⟩) 1 16 Tryz.underlying46 T U V Y rfl yac (.slice A4 n c4) n _ rfl (O.alloc _) _ 1 [.string k] rfl (Src.ofSlice _ Tryz.underlying46 _ 1 1 _ rfl (cells_at _ #[.string k] _ _ yaf) (zfw [k])) yad yab (zad (zad C)) ?_;intro v9 w8 H aa aj))
    have ab:w8.ownsRow M.heap.size 9 1 v9 (d.length + (i + 1)) (ks (d.map Prod.fst) ++ ks ((p.take (i + 1)).map Prod.fst)):=by rw [a7,←yaD,←ya7,N.out];exact H
    have ac:=zae (a8.alloc (zad C) _) aa (O.alloc _) (zad (zad C)) (yaj _);exact ⟨⟨i + 1,by go_num,by omega,ab,ac⟩,by simp [intOf];omega⟩
  · obtain rfl:i=p.length:=by omega
    have di:¬(((p.length:Nat):Int)<(p.length:Int)):=by omega
    rw [yaz,←zno] at B;obtain ⟨kl,q⟩:∃kl,d.map Prod.fst ++ p.map Prod.fst=kl:=⟨_,rfl⟩;have j:d.length + p.length=kl.length:=by rw [←q];simp
    rw [q,j] at B;have ad:∀k ∈ kl,k.size≤maxLen:=fun k hk=>by
     rw [←q,yaA] at hk;simp only [maxLen];rcases hk with hk | hk
     · obtain ⟨x,D,rfl⟩:=yaH.1 hk;have:=hkd x D;omega
     · obtain ⟨x,D,rfl⟩:=yaH.1 hk;have:=hkp x D;omega
    obtain ⟨A4,c4,rfl,P⟩:=Rd.own B;have Q:=E.up K (hb.mono (yaj _));have I:=y.same (hb.block _ y.lt);have hB:=zac o o.size hb;have ae:Asks wr w.heap.size fun k=>!hasK (zah s).keys k:=fun W hW k hk=>gone_any K (Q.up K hW) ((I.same (hW.block _ I.lt)).one) k hk;have ko:=of_any P yab;clear G E y I Q B P hb o;replace j:=Lib.hid j;replace q:=Lib.hid q;unfold SetIs at ko;go_wp2_with (first
     | (go_at_call 67;refine ko.mono ?_;rintro e w5 ⟨A5,c5,u,rfl,R,J,af,ag⟩;have am:=R.len (m:=kl) (fun x D=>(J x).1 D);have kd:=deleteF_any ae ag af (by have:=j.out;omega) (fun k hk=>ad k ((J k).1 hk)))
     | (go_at_call 66;refine kd.mono ?_;rintro e w6 ⟨⟨A6,c6,rfl,ah⟩,ai⟩)
     | fail)
    go_ret
    refine ⟨⟨A6,c6,_,rfl,R.filter _,fun k=>?_,ah.weak hB.size⟩,zac hB hB.size ai⟩;unfold noP;rw [ya4,J k,←q.out,yaA,Bool.not_not,zar];exact ⟨fun ⟨a,b⟩=>⟨b,a⟩,fun ⟨a,b⟩=>⟨b,a⟩⟩
def PairX (X:Nat→Prop) (w:World) (A:Option Addr) (c:Nat) (l:List (ByteArray × Bool)):Prop:=∀w',Stay X w w'→Rd w' w'.heap.size 2 A l.length c (pcs l)
theorem Mv.stay {X F X' F':Nat→Prop} {w w':World} (h:Mv X F w X' F' w') (hF:∀b,F b→X b):Stay X w w':=⟨h.own.le,fun b hb f=>h.own.old b hb fun q=>f (hF b q)⟩
theorem zpo {a:List Sp × Int} {i:Nat} (h:d[i]? = some x):zcE r a (d.take (i + 1))=turn1 r (zcE r a (d.take i)) x:=by
 unfold zcE;rw [yaC,h,yaO,ycn];rfl
theorem zeP {L:List Sp} {last:Int} (hL:∀y ∈ L,y.1.size≤100000) (hx:x.1.size≤100000):(∀y ∈ (turn1 r (L,last) x).1,y.1.size≤100000)∧(turn1 r (L,last) x).1.length≤L.length + 1:=by
 unfold turn1;dsimp only;split
 · refine ⟨fun y b=>?_,zrs _ _ _ _⟩;cases e:zgS L last x.1 r with
   | none=>rw [e] at b;exact hL y b
   | some f =>
    rw [e] at b;obtain ⟨_,_,_,rfl⟩:=zhR e;rcases yaA.1 b with b | b
    · exact hL y b
    · rw [yav.1 b];exact hx
 · refine ⟨fun y b=>?_,by have:=zoo L last r x.1;dsimp only at *;omega⟩;cases e:zcc L last x.1 r with
   | none=>rw [e] at b;exact hL y b
   | some f =>
    rw [e] at b;obtain ⟨i,z,_,_,_,_,_,_,rfl⟩:=zfZ e;rcases yco b with b | rfl
    · exact hL y b
    · exact hx
theorem StR.turn1 (K:SpK S) (h:StR S X w F g s L last m) {F0':Nat→Prop} (hx:x.1.size≤100000) (hl:L.length + 1≤50000) (hs:S w' F0' m.gs (turn1 r (L,last) x).1 (turn1 r (L,last) x).2) (ho:Own14 m.F0 F0' w w') :
 ∃X' F',StR S X' w' F' g s (Go.Proofs.YtmblgnddgmfkhaaGreat.turn1 r (L,last) x).1 (Go.Proofs.YtmblgnddgmfkhaaGreat.turn1 r (L,last) x).2 { m with F0:=F0' }∧Mv X F w X' F' w':=by
 obtain ⟨b,f⟩:=zeP (r:=r) (last:=last) h.keys hx;refine h.spanned K ho hs ?_ b yab;unfold Go.Proofs.YtmblgnddgmfkhaaGreat.turn1;dsimp only;split
 · exact h.fine.putD
 · exact h.fine.dropD
theorem zn7 {F0' F0'':Nat→Prop} {w7:World} {gx:Nat} {kk:ByteArray} {fl:Bool} (h:StR S X w F g s L last { m with F0:=F0' }) (hp:Rk w gx #[.string kk,.bool fl] 128) (ho:Own14 F0' F0'' w w7) (hx:¬F0' gx):w7.cell? ⟨g,0,none⟩=some (.pointer (some ⟨m.gs,0,none⟩))∧w7.cell? ⟨gx,0,none⟩=some (.string kk) :=
 ⟨(h.box.same (ho.old g h.box.lt h.g0)).cell 0,(hp.same (ho.old gx hp.lt hx)).two.1⟩
theorem turn_any (K:SpK S) (h:StR S X w F g s L last m) {A:Option Addr} {c:Nat} (hR:PairX X w A c d) (hL:L.length + d.length≤50000) (hk:∀x ∈ d,x.1.size≤100000) :
 Calls Tryz.prog 41 #[.pointer (some ⟨g,0,none⟩),.slice A d.length c] w fun e w'=>e = .returned (.tuple #[])∧∃X' F' F0',StR S X' w' F' g s (zcE (revB s) (L,last) d).1 (zcE (revB s) (L,last) d).2 { m with F0:=F0' }∧Mv X F w X' F' w':=by
 go_enter Tryz.func41,Tryz.ntmps41
 go_wp2_with fail
 go_loopw [8] (fun vi wx=>∃(i:Nat) (X' F' F0':Nat→Prop),vi = .int .i64 i∧i≤d.length∧StR S X' wx F' g s (zcE (revB s) (L,last) (d.take i)).1 (zcE (revB s) (L,last) (d.take i)).2 { m with F0:=F0' }∧Mv X F w X' F' wx∧(zcE (revB s) (L,last) (d.take i)).1.length≤L.length + i) (fun vi _=>d.length-(intOf vi).toNat)
 case atStart=>exact ⟨0,X,F,m.F0,rfl,yao _,h,Mv.below (Below.refl _ _),yaj _⟩
 case round =>
  obtain ⟨i,X',F',F0',rfl,hi,I,hM,J⟩:=hrel;by_cases a2:i<d.length
  · have di:(i:Int)<(d.length:Int):=by omega
    obtain ⟨x,M⟩:∃x,d[i]? = some x:=⟨_,yal a2⟩;obtain ⟨b3,o3,rfl,a7,g0,g1⟩:=zf9 (hR wr (hM.stay h.sub)) M;have k:=zpo (r:=revB s) (a:=(L,last)) M;have z:=hk x (yaq M);obtain ⟨u,y,e1⟩:∃u y,zcE (revB s) (L,last) (d.take i)=(u,y):=⟨_,_,rfl⟩;rw [e1] at I J k;dsimp only at I J;obtain ⟨f,fl⟩:=x;dsimp only at g0 g1 z;have V:=zaI wr (.cells #[.string f,.bool fl] 128);have Y:=I.up K V;have Z:=hM.trans (Mv.below V);have N:=Rk.new wr #[.string f,.bool fl] 128;have a8:=Y.box.lt;have a1:¬F0' wr.heap.size:=fun q=>Nat.lt_irrefl _ (K.lt I.sp _ q);go_upto_region 3 with (fail)
    generalize wr.alloc (.cells #[.string f,.bool fl] 128)=B at *
    generalize wr.heap.size=gx at *
    have j:=Y.up K (za1 B);have o:Rk B.drew gx _ _:=N;have k1:=zc6 j;have n:=fun W (hb:Below B.drew.heap.size B.drew W)=>(⟨(j.up K hb).cs.1,(o.same (hb.block _ o.lt)).two.1⟩:_∧_);obtain ⟨c0,p0⟩:=n B.drew (Below.refl _ _);obtain ⟨a6,p1⟩:=N.two;have pl:=N.lt;clear g0 g1 a6;cases fl with
    | true =>
     have C:turn1 (revB s) (u,y) (f,true)=((zgS u y f (revB s)).getD u,if (zgS u y f (revB s)).isSome then revB s else y):=rfl;rw [C] at k;have kq:=fun W (hb:Below B.drew.heap.size B.drew W)=>K.put f (revB s) (j.up K hb).sp j.fine yab yab;dsimp only at kq;go_upto_region 4 with (fail)
     go_region_held3 (fun W=>W.cell? ⟨g,0,none⟩=some (.pointer (some ⟨m.gs,0,none⟩))∧W.cell? ⟨gx,0,none⟩=some (.string f))
      (first | exact O | exact R | go_keep | fail)
      ((first
       | (with_reducible refine k1.mono ?_;rintro e6 w6 ⟨rfl,b⟩;have O:=n w6 b;have D:=j.up K b;have P:=o.same (b.block _ o.lt))
       | (with_reducible refine (kq _ b).mono ?_;rintro e7 w7 ⟨F7,rfl,Q,E⟩;have R:=zn7 D P E a1)
       | fail))
     go_wp2_with fail
     obtain ⟨X7,T,G,U⟩:=StR.turn1 K D (r:=revB s) (x:=(f,true)) z yab Q E;have H:=(zeP (r:=revB s) (L:=u) (last:=y) (x:=(f,true)) I.keys z).2;rw [C] at G H;exact ⟨⟨i + 1,X7,T,F7,by go_num,by omega,by rw [k];exact G,((Z.trans (Mv.below (za1 B))).trans (Mv.below b)).trans U,by rw [k];dsimp only at H ⊢;omega⟩,by simp [intOf];omega⟩
    | false =>
     have C:turn1 (revB s) (u,y) (f,false)=((zcc u y f (revB s)).getD u,if (zcc u y f (revB s)).isSome then revB s else y):=rfl;rw [C] at k;have kq:=fun W (hb:Below B.drew.heap.size B.drew W)=>K.drop f (revB s) (j.up K hb).sp j.fine yab yab;dsimp only at kq;go_upto_region 5 with (fail)
     go_region_held3 (fun W=>W.cell? ⟨g,0,none⟩=some (.pointer (some ⟨m.gs,0,none⟩))∧W.cell? ⟨gx,0,none⟩=some (.string f))
      (first | exact O | exact R | go_keep | fail)
      ((first
       | (with_reducible refine k1.mono ?_;rintro e6 w6 ⟨rfl,b⟩;have O:=n w6 b;have D:=j.up K b;have P:=o.same (b.block _ o.lt))
       | (with_reducible refine (kq _ b).mono ?_;rintro e7 w7 ⟨F7,rfl,Q,E⟩;have R:=zn7 D P E a1)
       | fail))
     go_wp2_with fail
     obtain ⟨X7,T,G,U⟩:=StR.turn1 K D (r:=revB s) (x:=(f,false)) z yab Q E;have H:=(zeP (r:=revB s) (L:=u) (last:=y) (x:=(f,false)) I.keys z).2;rw [C] at G H;exact ⟨⟨i + 1,X7,T,F7,by go_num,by omega,by rw [k];exact G,((Z.trans (Mv.below (za1 B))).trans (Mv.below b)).trans U,by rw [k];dsimp only at H ⊢;omega⟩,by simp [intOf];omega⟩
  · obtain rfl:i=d.length:=by omega
    have di:¬(((d.length:Nat):Int)<(d.length:Int)):=by omega
    rw [yaz] at I;go_wp2_with fail
    go_end0
    exact ⟨rfl,X',F',⟨F0',I⟩,hM⟩
end
end
section
open Go.RowKit
theorem TabX.weak {X Y:Nat→Prop} {w:World} {Ay:Option Addr} {cy:Nat} {ty:List ByteArray} {mb:Option Nat} {ps:List Path} {Ar:Option Addr} {cr:Nat} {K:List TabR} (h:TabX Y w Ay cy ty mb ps Ar cr K) (hs:∀b,X b→Y b):TabX X w Ay cy ty mb ps Ar cr K:=fun w' f=>h w' ⟨f.1,fun b hb g=>f.2 b hb fun q=>g (hs b q)⟩
theorem zk6 {k:ByteArray} (hk:k.size≤100000):∀x ∈ zav (ofT k),x.size≤100000:=by
 unfold ofT;cases e:zdP k with
 | none =>
  intro x b;simp only [Option.getD_none,zav,yaw,ya1,ybA] at b;rcases b with rfl | rfl | rfl | rfl | rfl | rfl <;> decide
 | some t =>
  intro x b;have:=zf4 t x b;rw [(from_some e).2] at this;omega
section
variable {S:SpW} {f:CoF} {X Y F F':Nat→Prop} {w w':World} {g:Nat} {s:Sto Tb Nd15} {L:List Sp} {last:Int} {m:Mm}
theorem zp6 (T:Tb) (k:ByteArray) (r:List ByteArray):zbW (p15 f) T (k::r)=if zaR T (ofT k)=0 then zbW (p15 f) T r else zaR T (ofT k):=by
 rw [zbW,zbz,zhM]
theorem define_any (K:SpK S) (hF:zpv f) (h:StM S f X w F g s L last m) (b1 b2 b3 x:ByteArray) (hx:x.size≤1000000) (hmax:revB s + 1≤9223372036854775807) :
 Calls Tryz.prog 13 #[.pointer (some ⟨g,0,none⟩),.agg #[.string b1,.string b2,.string b3],.string x] w fun e w'=>e = .returned (.int .i64 (zaC (p15 f) s (b1,b2,b3) x).2)∧∃X' F' m',StM S f X' w' F' g (zaC (p15 f) s (b1,b2,b3) x).1 L last m'∧Mv X F w X' F' w':=by
 obtain ⟨D,hD⟩:∃D,Hid (zaC (p15 f) s (b1,b2,b3) x=D):=⟨_,Lib.hid rfl⟩;rw [hD.out];have G:=Rk.new w #[.string b1,.string b2,.string b3] 31;have H:=zaI w (.cells #[.string b1,.string b2,.string b3] 31);have kc:=compile_any x hx (w.alloc (.cells #[.string b1,.string b2,.string b3] 31));have a7:∀b,X b→b<(w.alloc (.cells #[.string b1,.string b2,.string b3] 31)).heap.size:=fun b q=>by have:=h.lt b q;simp;omega
 go_enter Tryz.func13,Tryz.ntmps13
 go_upto_region 1 with (fail)
 generalize w.alloc (.cells #[.string b1,.string b2,.string b3] 31)=w1 at *
 unfold zjh at kc;go_upto_region 4 with (go_at_call 43;refine kc.mono ?_;rintro e w2 ⟨⟨tx,Z,cy,ty,mb,ps,Ar,cr,E,N,rfl,hT,hC⟩,O⟩)
 have hf:=hF hC;have a8:=hC.few;have aa:Tm.ok X w2 ⟨tx,Z,cy,ty,mb,ps,Ar,cr,E⟩:=⟨hT.weak a7,a8⟩;have a1:=zaI w2 (.cells #[.string tx,.slice Z ty.length cy,.map mb,.slice Ar E.length cr] 61);have ab:=aa.step (Stay.below a1) fun _ q=>.inl q;have ac:=(G.same (O.block _ G.lt)).alloc (.cells #[.string tx,.slice Z ty.length cy,.map mb,.slice Ar E.length cr] 61);have I:=Rk.new w2 #[.string tx,.slice Z ty.length cy,.map mb,.slice Ar E.length cr] 61;have B:=zac (zac H H.size O) (zac H H.size O).size a1;have A:=h.up K B;generalize w2.alloc (.cells #[.string tx,.slice Z ty.length cy,.map mb,.slice Ar E.length cr] 61)=w3 at *
 generalize w2.heap.size=gt at *
 clear kc hT hC O a1 aa G H a7 h;replace hf:=Lib.hid hf;have J:∀e:Int,D=(s,e)→∀W,Below w3.heap.size w3 W→D.2=e∧∃X' F' m',StM S f X' W F' g D.1 L last m'∧Mv X F w X' F' W:=fun e hd W hW=>by
  rw [hd];exact ⟨rfl,X,F,m,A.up K hW,Mv.below (zac B B.size hW)⟩
 by_cases he:N=0
 · subst he;have y:Hid ((if zbW (p15 f) (ty,ps,E.map (·.r)) (zah s).keys=0 then if 63<s.L.length then (s,42) else (zaV s ⟨tx,(ty,ps,E.map (·.r)),(zah s).keys,(b1,b2,b3),true,[]⟩,0) else (s,zbW (p15 f) (ty,ps,E.map (·.r)) (zah s).keys))=D):=Lib.hid (by
    rw [←hD.out];unfold zaC;rw [zbh,hf.out];exact (yan (show ((0:Nat):Int)=0 from rfl)).symm)
   have ad:OkB (p15 f) D.1:=by rw [←hD.out];exact A.ok.define _ _
   clear hD hf;have k1:=zc6 A.toStR;have k2:=fun W (hb:Below w3.heap.size w3 W)=>tuples_any K (A.up K hb) (revB s);rw [zbA A.ok.has] at k2;obtain ⟨a2,ae⟩:=A.small (revB s);rw [zbA A.ok.has] at a2 ae;obtain ⟨ke,P⟩:∃ke,(zah s).keys=ke:=⟨_,rfl⟩;rw [P] at k2 a2 ae y;obtain ⟨R,hR⟩:∃R,zbW (p15 f) (ty,ps,E.map (·.r)) ke=R:=⟨_,rfl⟩;rw [hR] at y;replace P:=Lib.hid P;go_upto_region 7 with (first
    | (go_at_call 17;refine k1.mono ?_;rintro e w4 ⟨rfl,Q⟩)
    | (go_at_call 20;refine (k2 _ Q).mono ?_;rintro e w5 ⟨⟨A5,c5,rfl,al⟩,af⟩))
   have ag:=zac Q Q.size af;have am:(ke.map ofT).length=ke.length:=yax _;clear k1 k2 Q af;go_loopw [27] (fun vi wx=>∃i:Nat,vi = .int .i64 i∧i≤ke.length∧Hid (zbW (p15 f) (ty,ps,E.map (·.r)) (ke.drop i)=R)∧Below w5.heap.size w5 wx) (fun vi _=>ke.length-(intOf vi).toNat)
   case atStart=>exact ⟨0,rfl,yao _,Lib.hid hR,Below.refl _ _⟩
   case round =>
    obtain ⟨i,rfl,hi,hA,hb⟩:=hrel;have an:=hb.size;have n:=zac ag ag.size hb;obtain ⟨p0,p1,p2,p3⟩:=(I.same (n.block _ I.lt)).c4x;have pl:=(I.same (n.block _ I.lt)).lt;by_cases ao:i<ke.length
    · have di:(i:Int)<(ke.length:Int):=by omega
      obtain ⟨k,hk⟩:∃k,ke[i]? = some k:=⟨_,yal ao⟩;have ah:(ke.map ofT)[i]? = some (ofT k):=by rw [yaY,hk];rfl
      obtain ⟨az,o3,rfl,b0,hg⟩:=zc5 zeT zn4 (al.below hb) am.symm ah;have g0:=hg 0 _ rfl;have g1:=hg 1 _ rfl;have g2:=hg 2 _ rfl;have g3:=hg 3 _ rfl;have g4:=hg 4 _ rfl;have g5:=hg 5 _ rfl;rw [ybH] at g0;have o:=hA.out;rw [zc3 hk,zp6] at o;have V:=fun W (hb:Below w3.heap.size w3 W)=>Tm.right (ab.step (Stay.below hb) fun _ q=>.inl q) (ofT k) (zk6 (a2 k (yaq hk)));simp only [Tm.val,zgF,Tm.tb] at V;generalize ofT k=u at *
      have T:=n.alloc n.size (.cells #[.string u.1.1,.string u.1.2.1,.string u.1.2.2,.string u.2.1,.string u.2.2.1,.string u.2.2.2] 51);have G:=hb.alloc an (.cells #[.string u.1.1,.string u.1.2.1,.string u.1.2.2,.string u.2.1,.string u.2.2.1,.string u.2.2.2] 51);generalize zaR (ty,ps,E.map (·.r)) u=z at *
      clear hg hA ah;by_cases hz:z=0
      · rw [yan hz] at o;subst hz;replace o:=Lib.hid o;go_wp2_with (go_at_call 44;refine (V _ T).mono ?_;rintro e w6 ⟨rfl,j⟩)
        exact ⟨⟨i + 1,by go_num,by omega,o,zac G G.size j⟩,by simp [intOf];omega⟩
      · rw [yak hz] at o;subst o;have b4:(z == 0)=false:=by simpa using hz
        have C:D=(s,z):=by rw [←y.out,yak hz]
        clear y;go_wp2_with (go_at_call 44;refine (V _ T).mono ?_;rintro e w6 ⟨rfl,j⟩)
        go_ret
        obtain ⟨Y,q2⟩:=J _ C w6 (zac T T.size j);rw [Y];exact ⟨rfl,q2⟩
    · obtain rfl:i=ke.length:=by omega
      have di:¬(((ke.length:Nat):Int)<(ke.length:Int)):=by omega
      have o:=hA.out;rw [yb0] at o;obtain rfl:R=0:=o.symm;have C:=y.out;rw [yan rfl] at C;have ai:=A.up K n;have V:=zj3 K ai;clear y hA o hR I;by_cases M:63<s.L.length
      · rw [yan M] at C;rw [yaF (by omega)] at V;go_wp2_with (go_at_call 38;refine V.mono ?_;rintro e w6 ⟨rfl,j⟩)
        go_ret
        obtain ⟨Y,q2⟩:=J _ C.symm w6 (zac n n.size j);rw [Y];exact ⟨rfl,q2⟩
      · rw [yak M] at C;rw [yaB (by omega)] at V;have aq:m.l.length<63:=by have:=A.len_eq;omega
        have aj:=fun W (hb:Below wr.heap.size wr W)=>ai.up K hb;have ka:=fun W (hb:Below wr.heap.size wr W)=>badd_any K (aj W hb).toStR tx Z ty.length cy mb Ar E.length cr 0 b1 b2 b3 true none 0 0 hmax yab;have ak:=ac.same (n.block _ ac.lt);clear J;go_wp2_with (first
         | (go_at_call 38;refine V.mono ?_;rintro e w6 ⟨rfl,j⟩;have U:=ak.same (j.block _ ak.lt);have y0:=U.cell 0;have y1:=U.cell 1;have y2:=U.cell 2;have b5:=U.lt;have q0:=(j.cell (p:=⟨gt,0,none⟩) pl).trans p0;have Y:=(j.cell (p:=⟨gt,1,none⟩) pl).trans p1;have q2:=(j.cell (p:=⟨gt,2,none⟩) pl).trans p2;have q3:=(j.cell (p:=⟨gt,3,none⟩) pl).trans p3;have b6:=yas pl j.size)
         | (go_at_call 39;refine (ka _ j).mono ?_;rintro e w7 ⟨rfl,ga,ca,ar,au,av,aw⟩))
        go_ret
        have a6:=aj _ j;obtain ⟨X7,F7,ax,ay⟩:=StR.added K a6.toStR (v:=⟨tx,(ty,ps,E.map (·.r)),ke,(b1,b2,b3),true,[]⟩) (t:=⟨tx,Z,cy,ty,mb,ps,Ar,cr,E⟩) (Ak:=none) (ck:=0) (ab.step (Stay.below (zac n n.size j)) fun _ q=>.inl q) rfl rfl (fun _ _=>Rd.none_ _ _ _) hmax aq ar au av aw;rw [←C] at ad ⊢;exact ⟨rfl,X7,F7,_,⟨ax,a6.spb.same a6.ok.has (by show ke=_;rw [←P.out]),ad⟩,(Mv.below (zac (zac B B.size n) (zac B B.size n).size j)).trans ay⟩
 · have hz:¬((N:Int)=0):=by omega
   have y:D=(s,(N:Int)):=by
    rw [←hD.out];unfold zaC;rw [zbh,hf.out,yak hz]
   obtain ⟨Y,q2⟩:=J _ y w3 (Below.refl _ _);replace y:=Lib.hid y;have b7:((N:Int) == 0)=false:=by simpa using he
   replace Y:=Lib.hid Y;clear J hD hf;go_wp2_with fail
   go_ret
   exact ⟨by rw [Y.out];rfl,q2⟩
end
end
end Go.Proofs.YtmblgnddgmfkhaaGreat
