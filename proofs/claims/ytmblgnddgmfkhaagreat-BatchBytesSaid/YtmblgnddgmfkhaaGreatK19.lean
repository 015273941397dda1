import Derived.Deep.DeepCutAuto
import Derived.Laws.CopyOwn
import Derived.Deep.RegionLaw
import Derived.Maps.Own
import Derived.Maps.OwnOps
import Derived.Maps.OwnSet
import Derived.Maps.Views
import Derived.Test.YtmblgnddgmfkhaaGreatK18
set_option maxRecDepth 100000
set_option maxHeartbeats 4000000
namespace Go.Proofs.YtmblgnddgmfkhaaGreat
section
open Go.RowKit
open Go.RowKit
open Go.RowKit
variable {w:World} {n j c:Nat} {r:List Nat} {A:Option Addr} {l:List Ed} {z x:Int} {v:List Int}
theorem zaj {w':World} {a:Addr} {v:Value} (h:w.cell? a=some v) (hb:Below w.heap.size w w'):w'.cell? a=some v:=(hb.cell (World.block_lt_of_cell? _ _ h)).trans h
theorem rise_any (x y:Int) (b:Bool) (w:World):Calls Tryz.prog 171 #[.agg #[.int .i64 x,.int .i64 y,.bool b]] w fun e w'=>e = .returned (.int .i64 (if b then 1 else 0))∧Below w.heap.size w w':=by
 go_enter Tryz.func171,Tryz.ntmps171
 cases b
 · go_wp2
   go_ret
   exact ⟨rfl,(Below.refl _ w).alloc (yaj _) _⟩
 · go_wp2
   go_ret
   exact ⟨rfl,(Below.refl _ w).alloc (yaj _) _⟩
theorem turned_any (h:Rd w w.heap.size 3 A l.length c (zaB l)) (hl:l.length≤1000000) :
 Calls Tryz.prog 119 #[.slice A l.length c] w fun e w'=>(∃A' c',e = .returned (.slice A' l.length c')∧Rd w' w'.heap.size 3 A' l.length c' (zaB (l.map turn)))∧Below w.heap.size w w':=by
 obtain ⟨M,s,u,x,y⟩:=info_parts zhp;go_enter Tryz.func119,Tryz.ntmps119
 go_wp2_with fail
 go_loopw [3,8] (fun v z J=>∃j:Nat,z = .int .i64 j∧j≤l.length∧J.ownsRow w.heap.size 207 3 v j (zaB ((l.take j).map turn))∧Below w.heap.size w J) (fun _ z _=>l.length-(intOf z).toNat)
 case atStart=>exact ⟨0,rfl,yao _,World.ownsRow_nil _ _ _ _,Below.refl _ _⟩
 case round =>
  obtain ⟨j,rfl,T,n,f⟩:=hrel;by_cases B:j<l.length
  · have C:(j:Int)<(l.length:Int):=by omega
    obtain ⟨e,K⟩:∃e,l[j]? = some e:=⟨_,yal B⟩;obtain ⟨b,o,rfl,hb,N,O,P⟩:=zhS ((h.below f).more f.size) K;obtain ⟨D,E,rfl,_⟩:=Rd.own n;have F:=f.size;have m:=n.alloc (.cells #[.int .i64 e.1,.int .i64 e.2.1,.bool e.2.2] 207);have g:=f.alloc F (.cells #[.int .i64 e.1,.int .i64 e.2.1,.bool e.2.2] 207);have q:=Bk.new wr #[.int .i64 e.1,.int .i64 e.2.1,.bool e.2.2] 207;go_upto_region 5 with (fail)
    have U:=q.cell 0;have V:=q.cell 1;have X:=q.cell 2;clear N O P q;generalize wr.alloc (.cells #[.int .i64 e.1,.int .i64 e.2.1,.bool e.2.2] 207)=Y at *
    go_wp2_with (at_builtin;go_loud (refine zab _ rfl (.tmp 12) (.tmp 20) 149 149 rfl w.heap.size 207 M (.agg #[.int .i64 0,.int .i64 0,.bool false]) 3 24 Tryz.underlying149 s u x y rfl yac (.slice D j E) j (zaB ((l.take j).map turn)) rfl (m.alloc _) _ 1 [.int .i64 e.2.1,.int .i64 e.1,.bool e.2.2] rfl (Src.ofSlice _ Tryz.underlying149 _ 1 1 _ rfl (zfh _ _ _ _ _) (zhf (turn e))) yad yab (size_alloc g.size) ?_;intro v9 Q k G L))
    have H:Q.ownsRow w.heap.size 207 3 v9 (j + 1) (zaB ((l.take (j + 1)).map turn)):=by
     rw [yaC,K,yaO,yaM,zf0];have:zaB ([e].map turn)=za8 (turn e):=by simp [zaB]
     rw [this];exact k
    have I:=zae (g.alloc g.size _) G (m.alloc _) (size_alloc g.size) (yaj _);exact ⟨⟨j + 1,by go_num,by omega,H,I⟩,by simp [intOf];omega⟩
  · obtain rfl:j=l.length:=by omega
    have C:¬(((l.length:Nat):Int)<(l.length:Int)):=by omega
    rw [yaz] at n;obtain ⟨D,E,rfl,R⟩:=Rd.own n;go_wp2_with fail
    go_ret
    exact ⟨⟨D,E,rfl,R⟩,f⟩
theorem zjf {v l lev} {s:List Nat}:upR v l lev (r ++ s)=match upR v l lev r with | none=>none | some z=>upR v l z s:=by
 induction r generalizing lev with
 | nil=>rfl
 | cons a t ih =>
  rw [ybq];simp only [upR];cases upE v lev (outE l a) with
  | none=>rfl
  | some y=>exact ih
theorem upE_snoc {v lev} {es:List Ed} {e:Ed} (h:es[j]? = some e) (hz:upE v lev (es.take j)=some z):upE v lev (es.take (j + 1))=up1 v z e:=by
 rw [yaC,h,yaO,zgi,hz];simp only [upE];cases up1 v z e <;> rfl
theorem upE_stop {v lev} {es:List Ed} (h:upE v lev (es.take j)=none):upE v lev es=none:=by
 rw [←ybk j es,zgi,h]
theorem zoa {v l lev} {a:Nat} (h:r[j]? = some a) (hz:upR v l lev (r.take j)=some z):upR v l lev (r.take (j + 1))=upE v z (outE l a):=by
 rw [yaC,h,yaO,zjf,hz];simp only [upR];cases upE v z (outE l a) <;> rfl
theorem upR_stop {v l lev} (h:upR v l lev (r.take j)=none):upR v l lev r=none:=by
 rw [←ybk j r,zjf,h]
def rlV (o:Option Int):Value:=match o with
 | none=>.tuple #[.int .i64 0,.bool false]
 | some z=>.tuple #[.int .i64 z,.bool true]
def lvs (v:List Int):List Value:=v.map fun z=>Value.int .i64 z
theorem ringLevel_any {cr cv:Nat} {Ar Av:Option Addr} (hR:Rd w w.heap.size 1 Ar r.length cr (ints r)) (hG:Gr w w.heap.size A c n l) (hV:Rd w w.heap.size 1 Av n cv (lvs v)) (hvn:v.length=n) (hr:∀k ∈ r,k<n) (hb:∀x ∈ v,-1≤x∧x≤5000) :
 Calls Tryz.prog 120 #[.slice Ar r.length cr,.slice A n c,.slice Av n cv] w fun e w'=>e = .returned (rlV (upR v l 0 r))∧Below w.heap.size w w':=by
 have ag:(r.length:Int)≤9223372036854775807:=by have:=hR.cap;have:=hR.capm;simp only [maxLen] at this;omega
 go_enter Tryz.func120,Tryz.ntmps120
 go_wp2_with fail
 go_loopw [8,16] (fun B C wx=>∃(j:Nat) (z:Int),B = .int .i64 z∧C = .int .i64 j∧j≤r.length∧upR v l 0 (r.take j)=some z∧0≤z∧z≤6000∧Below w.heap.size w wx) (fun _ C _=>r.length-(intOf C).toNat)
 case atStart=>exact ⟨0,0,rfl,rfl,yao _,rfl,by omega,by omega,Below.refl _ _⟩
 case round =>
  obtain ⟨j,z,rfl,rfl,hj,X,a1,a2,m⟩:=hrel;by_cases J:j<r.length
  · have a6:(j:Int)<(r.length:Int):=by omega
    obtain ⟨b,o,u,rfl,ah,hu,hc⟩:=(hR.below m).get J;obtain ⟨a,Y⟩:∃a,r[j]? = some a:=⟨_,yal J⟩;have a7:u = .int .i64 (a:Int):=by
     simp only [ints,yaY,Y,ybG,yaT] at hu;exact hu.symm
    subst a7;have a8:=hr a (yaq Y);have ai:(a:Int)<(n:Int):=by omega
    obtain ⟨bg,og,Ai,ci,rfl,aj,L,D⟩:=hG.row a8;have ak:=zaj L m;have al:((outE l a).length:Int)≤9223372036854775807:=by have:=D.cap;have:=D.capm;simp only [maxLen] at this;omega
    go_wp2_with fail
    obtain ⟨wo,rfl⟩:∃wo:World,wo=wr:=⟨_,rfl⟩;go_loopw [8,25] (fun B C wx=>∃(k:Nat) (y:Int),B = .int .i64 y∧C = .int .i64 k∧k≤(outE l a).length∧upE v z ((outE l a).take k)=some y∧0≤y∧y≤6000∧Below w.heap.size w wx) (fun _ C _=>(outE l a).length-(intOf C).toNat)
    case atStart=>exact ⟨0,z,rfl,rfl,yao _,rfl,a1,a2,m⟩
    case round =>
     obtain ⟨k,y,rfl,rfl,hk,Z,M,N,g⟩:=hrel;by_cases aa:k<(outE l a).length
     · have ab:(k:Int)<((outE l a).length:Int):=by omega
       obtain ⟨e,he⟩:∃e,(outE l a)[k]? = some e:=⟨_,yal aa⟩;have O:=(zfz.1 (yaq he)).1;have ac:e.2.1=((tt e:Nat):Int):=by have:=hG.inr e O;unfold tt;omega
       have E:=hG.inr.tt O;have am:((tt e:Nat):Int)<(n:Int):=by omega
       obtain ⟨b2,o2,rfl,an,c0,c1,c2⟩:=zhS (D.below g) he;rw [ac] at c1;obtain ⟨bv,ov,u,rfl,ao,F,P⟩:=hV.get E;have ad:u = .int .i64 (zcg v (tt e)):=by
        have Q:tt e<v.length:=by rw [hvn];exact E
        simp only [lvs,yaY,yal Q,ybG,yaT] at F;rw [←F,zd9 (yal Q)]
       subst ad;have aq : -1≤zcg v (tt e)∧zcg v (tt e)≤5000:=by
        have Q:tt e<v.length:=by rw [hvn];exact E
        have:=hb _ (List.getElem_mem Q);rwa [←zd9 (yal Q)] at this
       have G:Hid (upE v z ((outE l a).take (k + 1))=up1 v y e):=Lib.hid (upE_snoc he Z);have H:Hid (upE v z ((outE l a).take (k + 1))=none→upR v l 0 r=none):=Lib.hid fun h=>upR_stop (j:=j + 1) ((zoa Y X).trans (upE_stop h));have I:Hid (up1 v y e=if zcg v (tt e) = -1 then (if e.2.2=true then none else some y) else some (max y (zcg v (tt e) + rise e))):=Lib.hid rfl;have ae:Hid (rise e=if e.2.2=true then 1 else 0):=Lib.hid rfl;generalize hq:zcg v (tt e)=q at *
       have cv:=zaj P g;clear P F;have f:=g.alloc g.size (.cells #[.int .i64 e.1,.int .i64 ((tt e:Nat):Int),.bool e.2.2] 207);have R:=Bk.new wr #[.int .i64 e.1,.int .i64 ((tt e:Nat):Int),.bool e.2.2] 207;replace cv:=zaN cv (.cells #[.int .i64 e.1,.int .i64 ((tt e:Nat):Int),.bool e.2.2] 207);go_upto_region 8 with (fail)
       clear c0 c1 c2 g Z X;generalize hW2:wr.alloc (.cells #[.int .i64 e.1,.int .i64 ((tt e:Nat):Int),.bool e.2.2] 207)=s at *
       clear hW2;have ar:=Lib.hid R;have d0:=R.cell 0;have d1:=R.cell 1;have d2:=R.cell 2;clear R;by_cases hm:q = -1
       · subst hm;cases hN:e.2.2 with
         | true =>
          rw [hN] at d2;go_wp2_with fail
          go_ret2
          have h3:=H.out (by rw [G.out,I.out];simp [hN]);exact ⟨by rw [h3];rfl,f⟩
         | false =>
          rw [hN] at d2;go_wp2_with fail
          refine ⟨⟨k + 1,y,rfl,by go_num,by omega,?_,M,N,f⟩,by simp [intOf];omega⟩;rw [G.out,I.out];simp [hN]
       · have au:(q != -1)=true:=by simpa using hm
         go_upto_region 12 with (fail)
         have hSc:∀W:World,Below s.heap.size s W→W.cell? ⟨wr.heap.size,0,none⟩=some (.int .i64 e.1)∧W.cell? ⟨wr.heap.size,1,none⟩=some (.int .i64 ((tt e:Nat):Int))∧W.cell? ⟨wr.heap.size,2,none⟩=some (.bool e.2.2)∧W.cell? ⟨bv,ov + tt e,none⟩=some (.int .i64 q):=fun W h=>⟨zaj d0 h,zaj d1 h,zaj d2 h,zaj cv h⟩;have T:Below s.heap.size s s.drew:=(Below.refl _ _).drew;refine wp_region_any yaa ?_;change wpAny _ _ _ _ _ _ _ (World.drew _);refine wpAny_of_held (S:=fun W=>Below s.heap.size s W) _ _ _ _ ?_;refine zaa 0 (some 42) yai ?_ (hy:=zu4);refine zaa 1 (some 43) yai ?_ (hy:=zu4);refine zaa 2 (some 44) yai ?_ (hy:=zu4);refine zaa 3 (some 45) yai ?_ (hy:=zu4);refine zaa 4 (some 46) yai ?_ (hy:=zu4);refine zaa 5 (some 47) yai ?_ (hy:=zu4);refine zaa 6 (some 48) yai ?_ (hy:=zu4);refine zaS 7 rfl yaa ?_;intro K hK;go_simp;refine (rise_any _ _ _ _).mono ?_;rintro e4 w4 ⟨rfl,U⟩;have V:Below s.heap.size s w4:=T.trans (U.mono T.size);refine hK _ _ V ?_;clear hK K U;refine zaa 8 (some 50) yai ?_;refine zaa 9 (some 51) yai ?_;refine zaa 10 (some 8) yai ?_;refine wpAnyH_done yaa ?_ _;go_wp2_with fail
         have av:=zmC e;have af:IntKind.i64.wrap (q + rise e)=q + rise e:=IntWalk.i64_in _ ⟨by omega,by omega⟩;rw [←ae.out,af];refine ⟨⟨k + 1,max y (q + rise e),by congr 1 <;> (split <;> omega),by go_num,by omega,?_,by omega,by omega,f.trans (V.mono f.size)⟩,by simp [intOf];omega⟩;rw [G.out,I.out,yak hm]
     · obtain rfl:k=(outE l a).length:=by omega
       have ab:¬((((outE l a).length:Nat):Int)<((outE l a).length:Int)):=by omega
       rw [yaz] at Z;go_wp2_with fail
       exact ⟨⟨j + 1,y,rfl,by go_num,by omega,by rw [zoa Y X];exact Z,M,N,g⟩,by simp [intOf];omega⟩
  · obtain rfl:j=r.length:=by omega
    have a6:¬(((r.length:Nat):Int)<(r.length:Int)):=by omega
    rw [yaz] at X;go_wp2_with fail
    go_ret2
    exact ⟨rfl,m⟩
def zkh (x:Int) (n m:Nat):List Value:=List.replicate m (.int .i64 x) ++ List.replicate (n-m) (.int .i64 0)
theorem znQ {m:Nat} (h:m≤n):(zkh x n m).length=n:=by simp [zkh];omega
theorem znR (x:Int) (k:Nat):∀u ∈ List.replicate k (Value.int .i64 x),u.oneCell'=true:=by
 intro u b;rw [List.mem_replicate] at b;rw [b.2];rfl
theorem zhV {m k:Nat} (h:m + k≤n):splice (zkh x n m) m (List.replicate k (.int .i64 x))=zkh x n (m + k):=by
 unfold splice zkh;rw [List.take_append_of_le_length yaf,ybl yaf,ybQ,List.drop_append,List.drop_of_length_le yaf,ybQ,ya6,List.drop_replicate,←yaD,List.replicate_append_replicate];congr 2
 omega
theorem zkN:(Tryz.prog.info? 3).map (·.size)=some 1:=by kernel_rfl
theorem repeat_any {b:Nat} (hb:w.cell? ⟨b,0,none⟩=some (.int .i64 x)) (hn:n≤4096) :
 Calls Tryz.prog 117 #[.slice (some ⟨b,0,none⟩) 1 1,.int .i64 (n:Int)] w fun e w'=>(∃g,e = .returned (.slice (some ⟨g,0,none⟩) n n)∧w.heap.size≤g∧Bk w' g (List.replicate n (Value.int .i64 x)).toArray 3)∧Below w.heap.size w w':=by
 obtain ⟨Z,G,H,I,J⟩:=info_parts zfp;have K:∀W:World,(Instr.makeSlice 146 (.int .i64 (n:Int)) (.int .i64 (n:Int))).run Tryz.prog W = .ok (.slice (some ⟨W.heap.size,0,none⟩) n n) (W.alloc (.cells (zkh x n 0).toArray 3)):=fun W=>by
  have:=run_make (P:=Tryz.prog) W 146 3 Z _ Tryz.underlying146 G H .i64 .i64 n n yab (ybf _) (by rw [J];omega) yab;rw [ybn,I,yb4] at this;rw [this];congr 3
  apply ycU;show (madeCells #[.int .i64 0] n).toList=_;rw [toList_madeCells_one];simp [zkh]
 have q:∀W:World,Calls Tryz.prog 166 #[.int .u64 1,.int .u64 (n:Int)] W fun e w'=>e = .returned (.tuple #[.int .u64 0,.int .u64 (n:Int)])∧w'=W:=fun W=>by
  have:=Any.bits_Mul lays212 1 n yab yab W;rw [Nat.one_mul,Nat.div_eq_of_lt yab,Nat.mod_eq_of_lt (by omega)] at this;exact this
 have a1:¬((n:Int)<0):=by omega
 go_enter Tryz.func117,Tryz.ntmps117
 go_upto_region 7 with (go_at_call 166;refine (q _).mono ?_;rintro e w9 ⟨rfl,y⟩;have h9:=y.symm;clear y;subst h9)
 have z:=World.block_lt_of_cell? _ _ hb;dsimp only at z;have A:=zaN hb (.cells (zkh x n 0).toArray 3);have B:=Bk.new w (zkh x n 0).toArray 3;have C:Below w.heap.size w (w.alloc (.cells (zkh x n 0).toArray 3)):=(Below.refl _ w).alloc (yaj _) _;have L:Nat.min 1 n=min 1 n:=rfl;clear K q;generalize w.alloc (.cells (zkh x n 0).toArray 3)=w1 at *
 go_wp2_with (
  refine wpList_copy_splice rfl (.tmp 31) (.tmp 32) 146 146 rfl 3 Tryz.underlying146 zkN (some ⟨w.heap.size,0,none⟩) (some ⟨b,0,none⟩) n n 1 1 rfl rfl w.heap.size 0 (zkh x n 0) 3 B (List.replicate (min 1 n) (.int .i64 x)) (by rw [ybQ,L]) (fun _=>⟨rfl,_,rfl,fun j u k=>by
  rw [ybJ] at k;split at k
  · cases k;obtain rfl:j=0:=by omega
    exact A
  · cases k⟩) (by rw [ybQ,znQ (yao _)];omega) (znR x _) w.heap.size w C (yaj _) ?_;intro w2 s M)
 replace s:Hid (w2.heap[w.heap.size]? = some (.cells (zkh x n (min 1 n)).toArray 3 (0,0))):=Lib.hid (by
  have h:=s.out;rw [zhV yab,yaI] at h;exact h)
 clear A B C hb z;have N:min 1 n≤n:=by omega
 have O:0<n→0<min 1 n:=by omega
 generalize min 1 n=m0 at *
 go_loopw [8] (fun v U=>∃m:Nat,v = .int .i64 m∧m≤n∧(0<n→0<m)∧Hid (U.heap[w.heap.size]? = some (.cells (zkh x n m).toArray 3 (0,0)))∧Below w.heap.size w U) (fun v _=>n-(intOf v).toNat)
 case atStart=>exact ⟨m0,rfl,N,O,s,M⟩
 case round =>
  obtain ⟨m,rfl,hm,a2,V,X⟩:=hrel;by_cases a6:m<n
  · have D:(m:Int)<(n:Int):=by omega
    have a7:¬n=m:=by omega
    have Y:¬m=n:=by omega
    go_upto_region 9 with (fail)
    have o:wr.drew.heap[w.heap.size]? = some (.cells (zkh x n m).toArray 3 (0,0)):=V.out;have Q:=X.drew;have E:Hid (Nat.min m (n-m)=min m (n-m)):=Lib.hid rfl;have f:∀j v,(List.replicate (min m (n-m)) (Value.int .i64 x))[j]? = some v→wr.drew.cell? ((⟨w.heap.size,0,none⟩:Addr).add j)=some v:=fun j u k=>by
     rw [Addr.add_lit,cell_of_row _ _ _ _ _ _ o,yaI];rw [ybJ] at k;split at k
     · cases k;rw [ybZ,zkh,ybt yag,ybJ];simp;omega
     · cases k
    have f:=Lib.hid f;replace o:=Lib.hid o;go_region_law (refine step_copy_splice rfl (.tmp 41) (.tmp 44) 146 146 rfl 3 Tryz.underlying146 zkN (some ⟨w.heap.size,m,none⟩) (some ⟨w.heap.size,0,none⟩) (n-m) (n-m) m n (by simp [Act.eval,Act.put]) (by simp [Act.eval,Act.put]) w.heap.size m (zkh x n m) 3 o.out (List.replicate (min m (n-m)) (.int .i64 x)) (by rw [ybQ,E.out]) (fun _=>⟨rfl,_,rfl,f.out⟩) (by rw [ybQ,znQ hm];omega) (znR x _) w.heap.size w Q (yaj _) ?_;intro w4 R a8)
    all_goals
     go_wp2_with fail
     have T:IntKind.i64.wrap ((m:Int) + ((min m (n-m):Nat):Int))=((m + min m (n-m):Nat):Int):=by
      rw [IntWalk.i64_in _ ⟨by omega,by omega⟩];omega
     rw [T];have F:=R.out;rw [zhV (by omega)] at F;exact ⟨⟨m + min m (n-m),rfl,by omega,by omega,Lib.hid F⟩,by simp [intOf];omega⟩
  · obtain rfl:m=n:=by omega
    have D:¬((m:Int)<(m:Nat)):=by omega
    go_wp2_with fail
    go_ret
    have h:=V.out;rw [zkh,ycu,List.replicate_zero,yaK] at h;exact ⟨⟨_,rfl,yaj _,h⟩,X⟩
theorem zrE {B c':Nat} {A':Option Addr} (h1:Gr w B A c n l) (h2:Gr w B A' c' n (l.map turn)) (hB:B≤w.heap.size) :
 Calls Tryz.prog 118 #[.slice A n c,.slice A' n c'] w fun e w'=>∃v all ord s,e = .returned v∧OrdOk l n ord∧Told l n ord s all∧VRing w.heap.size w' v all∧Below w.heap.size w w' :=
 callsIn_wide.1 (rings_in 6 (yaj _) h1 h2 hB)
inductive LvAns (n:Int) (l:List Ed) (w':World):Ending→Prop
 | arg (h:n<0∨4096<n∨¬InR n.toNat l):LvAns n l w' (.returned (.tuple #[.slice none 0 0,.int .i64 1]))
 | cyc (h0:0≤n) (h1:n≤4096) (hi:InR n.toNat l) (hc:Cyc l):LvAns n l w' (.returned (.tuple #[.slice none 0 0,.int .i64 33]))
 | ok (h0:0≤n) (h1:n≤4096) (hi:InR n.toNat l) (v:List Int) (A:Option Addr) (c:Nat) (hr:Rd w' w'.heap.size 1 A n.toNat c (lvs v)) (hv:v.length=n.toNat) (hL:Least n.toNat l (zcg v)) (hb:∀x ∈ v,0≤x∧x≤4096):LvAns n l w' (.returned (.tuple #[.slice A n.toNat c,.int .i64 0]))
theorem zmj (v:List Int) (a:Nat) (z:Int):(lvs v).toArray.setIfInBounds a (.int .i64 z)=(lvs (v.set a z)).toArray:=by
 apply ycU;simp [lvs,List.map_set]
theorem zrN {a:Nat} (h:r[j]? = some a):zpb v z (r.take (j + 1))=(zpb v z (r.take j)).set a z:=by
 rw [yaC,h,yaO];have:∀(s:List Nat) (v:List Int),zpb v z (s ++ [a])=(zpb v z s).set a z:=by
  intro s;induction s with
  | nil=>intro v;rfl
  | cons b t ih=>intro v;exact ih _
 exact this _ v
theorem znN {g:Nat} (h:Bk w g (lvs v).toArray 3) (hv:v.length=n) (hn:n≤4096):Rd w w.heap.size 1 (some ⟨g,0,none⟩) n n (lvs v) :=
 ⟨by simp [lvs,hv],yaj _,by simp only [maxLen];omega,fun e=>(by cases e),fun _=>⟨g,0,rfl,h.lt,fun j u b=>by rw [yaI,h.cell j];simpa using b⟩⟩
theorem levels_any {n:Int} (h:Rd w w.heap.size 3 A l.length c (zaB l)) (hl:l.length≤100000) :
 Calls Tryz.prog 76 #[.int .i64 n,.slice A l.length c] w fun e w'=>LvAns n l w' e∧Below w.heap.size w w':=by
 by_cases h0:n<0
 · have b5:decide (n<0)=true:=by simpa using h0
   go_enter Tryz.func76,Tryz.ntmps76
   go_wp2_with fail
   go_ret2
   exact ⟨.arg (.inl h0),Below.refl _ _⟩
 · by_cases h1:4096<n
   · go_enter Tryz.func76,Tryz.ntmps76
     go_wp2_with fail
     go_ret2
     exact ⟨.arg (.inr (.inl h1)),Below.refl _ _⟩
   · obtain ⟨k,rfl⟩:∃k:Nat,n=(k:Int):=⟨n.toNat,by omega⟩;have hk:k≤4096:=by omega
     have b5:¬((k:Int)<0):=by omega
     go_enter Tryz.func76,Tryz.ntmps76
     go_wp2_with fail
     go_loopw [24] (fun I wx=>∃j:Nat,I = .int .i64 j∧j≤l.length∧InR k (l.take j)∧Below w.heap.size w wx) (fun I _=>l.length-(intOf I).toNat)
     case atStart=>exact ⟨0,rfl,yao _,fun e U=>by simp at U,Below.refl _ _⟩
     case round =>
      obtain ⟨j,rfl,hj,E,C⟩:=hrel;by_cases P:j<l.length
      · have a2:(j:Int)<(l.length:Int):=by omega
        obtain ⟨e,U⟩:∃e,l[j]? = some e:=⟨_,yal P⟩;obtain ⟨b,o,rfl,hb,c0,c1,c2⟩:=zhS (h.below C) U;have b6:=C.size;have m:=C.alloc b6 (.cells #[.int .i64 e.1,.int .i64 e.2.1,.bool e.2.2] 207);have x1:=Bk.new wr #[.int .i64 e.1,.int .i64 e.2.1,.bool e.2.2] 207;go_upto_region 6 with (fail)
        have y0:=x1.cell 0;have y1:=x1.cell 1;clear c0 c1 c2 x1;generalize wr.alloc (.cells #[.int .i64 e.1,.int .i64 e.2.1,.bool e.2.2] 207)=w1 at *
        have ag:0≤e.1∧e.1<k∧0≤e.2.1∧e.2.1<k→InR k (l.take (j + 1)):=fun q d hd=>by
         rw [yaC,U,yaO,yaA,yav] at hd;rcases hd with hd | rfl
         · exact E d hd
         · exact q
        by_cases bu:e.2.1<e.1
        · by_cases b7:e.2.1<0
          · go_wp2_with fail
            go_ret2
            exact ⟨.arg (.inr (.inr fun E=>by have:=E e (yaq U);simp only [ybn] at this;omega)),m⟩
          · by_cases b8:e.1 ≥ (k:Int)
            · go_wp2_with fail
              go_ret2
              exact ⟨.arg (.inr (.inr fun E=>by have:=E e (yaq U);simp only [ybn] at this;omega)),m⟩
            · go_wp2_with fail
              exact ⟨⟨j + 1,by go_num,by omega,ag yab,m⟩,by simp [intOf];omega⟩
        · by_cases b7:e.1<0
          · go_wp2_with fail
            go_ret2
            exact ⟨.arg (.inr (.inr fun E=>by have:=E e (yaq U);simp only [ybn] at this;omega)),m⟩
          · by_cases b8:e.2.1 ≥ (k:Int)
            · go_wp2_with fail
              go_ret2
              exact ⟨.arg (.inr (.inr fun E=>by have:=E e (yaq U);simp only [ybn] at this;omega)),m⟩
            · go_wp2_with fail
              exact ⟨⟨j + 1,by go_num,by omega,ag yab,m⟩,by simp [intOf];omega⟩
      · obtain rfl:j=l.length:=by omega
        have a2:¬(((l.length:Nat):Int)<(l.length:Int)):=by omega
        rw [yaz] at E;have ah:InR ((k:Int).toNat) l:=E;have hT:(l.map turn).length=l.length:=by simp
        have h9:=h.below C;go_upto_region 9 with (fail)
        have k1:=leaving_any (h9.more C.size) E hk yab;go_upto_region 10 with (go_at_call 116;refine k1.mono ?_;rintro e2 V ⟨rfl,ai,J⟩)
        have K:=C.trans (J.mono C.size);have b9:=K.size;clear k1 C;generalize wr.heap.size=g2 at *
        have k2:=repeat_any (w:=V.alloc (.cells #[.int .i64 (-1)] 3)) (b:=V.heap.size) (n:=k) (x:=-1) (by rw [cell_of_row _ _ _ _ _ _ (heap_alloc_new V _)];rfl) hk;go_upto_region 11 with (go_at_call 117;refine k2.mono ?_;rintro e3 w3 ⟨⟨g,rfl,a6,a7⟩,aj⟩)
        have F:Below V.heap.size V w3:=((Below.refl _ V).alloc (yaj _) _).trans (aj.mono yaf);have B:=K.trans (F.mono b9);have ak:=F.size;replace a6:V.heap.size≤g:=by simp at a6;omega
        clear k2 aj;have a8:=ai.below F;have kt:=turned_any ((h.below B).more B.size) yab;have kl:∀(W:World) (A4:Option Addr) (c4:Nat),Rd W W.heap.size 3 A4 l.length c4 (zaB (l.map turn))→Calls Tryz.prog 116 #[.int .i64 (k:Int),.slice A4 l.length c4] W fun e w'=>e = .returned (.slice (some ⟨W.heap.size,0,none⟩) k k)∧Gr w' w'.heap.size (some ⟨W.heap.size,0,none⟩) k k (l.map turn)∧Below W.heap.size W w':=fun W A4 c4 X=>by
         have:=leaving_any (w:=W) (l:=l.map turn) (A:=A4) (c:=c4) (by rw [hT];exact X) E.turn hk yab;rw [hT] at this;exact this
        have kr:∀(G:World) (x:Nat),Gr G G.heap.size (some ⟨g2,0,none⟩) k k l→Gr G G.heap.size (some ⟨x,0,none⟩) k k (l.map turn)→Calls Tryz.prog 118 #[.slice (some ⟨g2,0,none⟩) k k,.slice (some ⟨x,0,none⟩) k k] G fun e w'=>∃v all aa s,e = .returned v∧OrdOk l k aa∧Told l k aa s all∧VRing G.heap.size w' v all∧Below G.heap.size G w':=fun G x q1 q2=>zrE q1 q2 (yaj _);have Y:=a8.more ak;clear hT;go_wp2_with (first
         | (go_at_call 119;refine kt.mono ?_;rintro e4 w4 ⟨⟨A4,c4,rfl,al⟩,L⟩;have am:=(Y.below L).more L.size)
         | (go_at_call 116;refine (kl _ _ _ al).mono ?_;rintro e5 G ⟨rfl,an,M⟩;have ao:=(am.below M).more M.size)
         | (go_at_call 118;refine (kr _ _ ao an).mono ?_;rintro e6 w6 ⟨va,all,aa,s,rfl,hO,ab,ba,ac⟩;obtain ⟨vs,aq,bb⟩:=ba;obtain ⟨A6,c6,rfl,bz⟩:=Rd.own aq))
        have bc:=L.size;have c3:=M.size;have c5:=ac.size;have Q:Below w3.heap.size w3 w6:=(L.trans (M.mono bc)).trans (ac.mono yab);have Z:=B.trans (Q.mono B.size);have c7:=a7.lt;have c8:=B.size;have bd:Gr w6 V.heap.size _ _ _ _:=a8.below (Q.mono ak);have bf:Bk w6 g (lvs (List.replicate k (-1))).toArray 3:=by
         have:=a7.below Q;simpa [lvs] using this
        have ar:w.heap.size≤g:=by omega
        have bw:g<G.heap.size:=by omega
        have R:∀i,i<k↔i ∈ all.flatten:=ab.whole hO;have ad:=ab.rings;have bx:=zrF ad fun i hi=>(R i).2 hi;have ca:(all.length:Int)≤9223372036854775807:=by omega
        clear kl kr kt ai J K F B a7 a8 Y L M ac am ao an Q ab hO al h9;go_loopw [57] (fun I wx=>∃(j:Nat) (v:List Int),I = .int .i64 j∧j≤all.length∧Lv l k (all.take j) v∧Bk wx g (lvs v).toArray 3∧Kp g w6.heap.size w6 wx) (fun I _=>all.length-(intOf I).toNat)
        case atStart=>exact ⟨0,_,rfl,yao _,Lv.start,bf,Kp.refl _ _ _⟩
        case round =>
         obtain ⟨j,v,rfl,hj,f,hX,hK⟩:=hrel;have bg:=hK.size;by_cases P:j<all.length
         · have a2:(j:Int)<(all.length:Int):=by omega
           obtain ⟨r,X⟩:∃r,all[j]? = some r:=⟨_,yal P⟩;obtain ⟨u,hu,bh⟩:=bb j r X;have ks:∀{e s n} {q:Value} {xs},w6.ownsRow G.heap.size e s q n xs→wr.ownsRow G.heap.size e s q n xs:=fun q=>zaH q fun b hb=>hK.block b (q.lt b hb).2 (by have:=(q.lt b hb).1;omega);have au:=ks aq;have H:=ks bh;obtain ⟨Ar,cr,rfl,ae⟩:=Rd.own H;obtain ⟨cb,cc,e6,av⟩:=Rd.own au;injection e6 with e6 _ bi
           subst e6 bi;obtain ⟨b,o,q,rfl,_,hq,ce⟩:=av.get P;rw [hu] at hq;cases hq;have N:all=all.take j ++ r::all.drop (j + 1):=by
            rw [yap] at X;obtain ⟨h1,rfl⟩:=X;simp
           have af:all.take (j + 1)=all.take j ++ [r]:=by rw [yaC,X];rfl
           have aw:∀i ∈ r,i<k:=fun i hi=>(R i).2 (by rw [N];simp [hi]);have bj:∀x ∈ v,-1≤x∧x≤5000:=fun x hx=>by
            have:=f.small x hx;rw [yaN] at this;omega
           have kR:=ringLevel_any (w:=wr) ae ((bd.below (hK.below yab a6)).more yab) (znN hX f.len hk) f.len aw bj;have a1:∀i,i ∈ all.flatten→i<k:=fun i hi=>(R i).2 hi;cases hz:upR v l 0 r with
           | none =>
            rw [hz] at kR;simp only [rlV] at kR;have bl:=f.bad ad N a1 hz;clear N af X hz;go_wp2_with (go_at_call 120;refine kR.mono ?_;rintro e7 w7 ⟨rfl,T⟩)
            go_ret2
            exact ⟨.cyc yab yab ah bl,Z.trans ((hK.below yab ar).trans (T.mono yab))⟩
           | some z =>
            rw [hz] at kR;simp only [rlV] at kR;have ax:=f.step ad N a1 hz;rw [←af] at ax;clear N af X hz;go_wp2_with (go_at_call 120;refine kR.mono ?_;rintro e7 w7 ⟨rfl,T⟩)
            have cf:(r.length:Int)≤9223372036854775807:=by have:=ae.cap;have:=ae.capm;simp only [maxLen] at this;omega
            have bm:=hX.below (T.mono (yaj _));obtain ⟨wo,rfl⟩:∃wo:World,wo=wr:=⟨_,rfl⟩;go_loopw [72] (fun I wy=>∃i:Nat,I = .int .i64 i∧i≤r.length∧Bk wy g (lvs (zpb v z (r.take i))).toArray 3∧Kp g wo.heap.size wo wy) (fun I _=>r.length-(intOf I).toNat)
            case atStart=>exact ⟨0,rfl,yao _,bm,Kp.of_below T _⟩
            case round =>
             obtain ⟨i,rfl,hi,O,D⟩:=hrel;by_cases ay:i<r.length
             · have bn:(i:Int)<(r.length:Int):=by omega
               obtain ⟨a,ha⟩:∃a,r[i]? = some a:=⟨_,yal ay⟩;have bo:=aw a (yaq ha);have cg:(a:Int)<(k:Int):=by omega
               have az:wr.ownsRow G.heap.size 3 1 _ _ _:=zaH H fun b hb=>D.block b (H.lt b hb).2 (by have:=(H.lt b hb).1;omega);obtain ⟨A9,c9,e9,bp⟩:=Rd.own az;injection e9 with e9 _ bq
               subst e9 bq;obtain ⟨b2,o2,q2,rfl,_,b0,ch⟩:=bp.get ay;have br:q2 = .int .i64 (a:Int):=by
                simp only [ints,yaY,ha,ybG,yaT] at b0;exact b0.symm
               subst br;have b1:∃y:Int,wr.cell? ⟨g,a,none⟩=some (.int .i64 y):=by
                rw [O.cell a];have:a<(lvs (zpb v z (r.take i))).length:=by simp [lvs,znX,f.len,bo]
                rw [ybZ,yal this];simp [lvs]
               obtain ⟨y,b1⟩:=b1;have ci:=O.fz a;go_wp2_with fail
               have b3:=O.set a (.int .i64 z);rw [zmj,←zrN ha] at b3;exact ⟨⟨i + 1,by go_num,by omega,b3,⟨D.os,D.tape,D.output,by have:=D.size;simp [World.setCell];omega,fun b bs J=>(Below.heap_setCell _ _ _ _ J).trans (D.block b bs J)⟩⟩,by simp [intOf];omega⟩
             · obtain rfl:i=r.length:=by omega
               have bn:¬(((r.length:Nat):Int)<(r.length:Int)):=by omega
               rw [yaz] at O;go_wp2_with fail
               exact ⟨⟨j + 1,_,by go_num,by omega,ax,O,hK.trans (D.more bg)⟩,by simp [intOf];omega⟩
         · obtain rfl:j=all.length:=by omega
           have a2:¬(((all.length:Nat):Int)<(all.length:Int)):=by omega
           rw [yaz] at f;go_wp2_with fail
           go_ret2
           have b4:=f.least E R;refine ⟨.ok yab yab ah v _ _ (znN hX f.len hk) f.len b4 fun x hx=>?_,Z.trans (hK.below yab ar)⟩;have h1:=f.small x hx;obtain ⟨i,hi,rfl⟩:=ycf hx;have h2:=b4.1.1 i (by rw [f.len] at hi;exact hi);rw [zd9 (yal hi)] at h2;omega
end
section
open Go.RowKit Go.Maps
theorem laidP:laidOutB Tryz.prog=true:=by kernel_rfl
theorem rowE:(207:TypeId)<Tryz.prog.types.size:=yaL yaa
theorem rowS:(246:TypeId)<Tryz.prog.types.size:=yaL yaa
theorem keyAE:Tryz.prog.keyTypeAt 2 207=true:=by kernel_rfl
theorem keyAS:Tryz.prog.keyTypeAt 2 246=true:=by kernel_rfl
theorem lawE:WideMaps.KeyLaw Tryz.prog 207:=deep_law_laid laidP (m:=2) yab rowE keyAE (by rw [Tryz.underlying207])
theorem lawS:WideMaps.KeyLaw Tryz.prog 246:=deep_law_laid laidP (m:=2) yab rowS keyAS (by rw [Tryz.underlying246])
theorem ziY:Keyed Tryz.prog 207:=Keyed.of_law lawE
theorem zd6:Keyed Tryz.prog 246:=Keyed.of_law lawS
theorem keyTE:Tryz.prog.keyType 207=true:=by kernel_rfl
theorem keyTS:Tryz.prog.keyType 246=true:=by kernel_rfl
theorem cellsE:Tryz.prog.cellsOf 207=3:=by kernel_rfl
theorem cellsS:Tryz.prog.cellsOf 246=2:=by kernel_rfl
theorem cells1:Tryz.prog.cellsOf 3=1:=by kernel_rfl
theorem cells1b:Tryz.prog.cellsOf 4=1:=by kernel_rfl
theorem zpN:Tryz.prog.cellsOf 9=1:=by kernel_rfl
def kE (e:Ed):Lit:=.string (keyBytes [.int .i64 e.1,.int .i64 e.2.1,.bool e.2.2])
def kS (s:ByteArray × ByteArray):Lit:=.string (keyBytes [.string s.1.data.toList,.string s.2.data.toList])
theorem zqH (n:Nat) {e:Ed} (h1:(Lit.int .i64 e.1).wf=true) (h2:(Lit.int .i64 e.2.1).wf=true):Tryz.prog.keyLits (n + 2) 207 [.int .i64 e.1,.int .i64 e.2.1,.bool e.2.2]=some [.int .i64 e.1,.int .i64 e.2.1,.bool e.2.2]:=by
 simp [Program.keyLits,Tryz.underlying207,cellsE,cells1,cells1b,Tryz.underlying3,Tryz.underlying4,h1,h2]
theorem lits_sub (n:Nat) {s:ByteArray × ByteArray} (h1:s.1.size≤maxLen) (h2:s.2.size≤maxLen):Tryz.prog.keyLits (n + 2) 246 [.string s.1,.string s.2]=some [.string s.1.data.toList,.string s.2.data.toList]:=by
 simp [Program.keyLits,Tryz.underlying246,cellsS,zpN,Tryz.underlying9,h1,h2]
theorem formE (a b c:Value):(Value.agg #[a,b,c]).formed Tryz.prog 207=true:=by simp [Value.formed,Tryz.underlying207,cellsE]
theorem formS (a b:Value):(Value.agg #[a,b]).formed Tryz.prog 246=true:=by simp [Value.formed,Tryz.underlying246,cellsS]
theorem zjN {t:TypeId} {cs:List Value} {r:List Lit} (h:∀n,Tryz.prog.keyLits (n + 2) t cs=some r) (ht:0<Tryz.prog.types.size):Tryz.prog.keyLits (Tryz.prog.types.size + 1) t cs=some r:=by
 obtain ⟨n,b⟩:∃n,Tryz.prog.types.size=n + 1:=⟨Tryz.prog.types.size-1,by omega⟩;rw [b];exact h n
theorem zjF {e:Ed} (h1:(Lit.int .i64 e.1).wf=true) (h2:(Lit.int .i64 e.2.1).wf=true):keyOf Tryz.prog 207 (.agg #[.int .i64 e.1,.int .i64 e.2.1,.bool e.2.2])=some (kE e):=by
 have b:=zjN (fun n=>zqH n h1 h2) (ybw (yao _) rowE);unfold keyOf;simp only [Tryz.underlying207,keyTE,formE,Bool.and_self,if_true,Value.cells,List.toList_toArray];rw [b];rfl
theorem zd5 {s:ByteArray × ByteArray} (h1:s.1.size≤maxLen) (h2:s.2.size≤maxLen):keyOf Tryz.prog 246 (.agg #[.string s.1,.string s.2])=some (kS s):=by
 have b:=zjN (fun n=>lits_sub n h1 h2) (ybw (yao _) rowS);unfold keyOf;simp only [Tryz.underlying246,keyTS,formS,Bool.and_self,if_true,Value.cells,List.toList_toArray];rw [b];rfl
theorem kE_inj {e d:Ed} (h1:(Lit.int .i64 e.1).wf=true) (h2:(Lit.int .i64 e.2.1).wf=true) (h3:(Lit.int .i64 d.1).wf=true) (h4:(Lit.int .i64 d.2.1).wf=true) (h:kE e=kE d):e=d:=by
 have:=ziY.inj (zjF h1 h2) (h ▸ zjF h3 h4);simp at this;obtain ⟨b,f,g⟩:=this;exact ycb b (ycb f g)
theorem kS_inj {e d:ByteArray × ByteArray} (h1:e.1.size≤maxLen) (h2:e.2.size≤maxLen) (h3:d.1.size≤maxLen) (h4:d.2.size≤maxLen) (h:kS e=kS d):e=d:=by
 have:=zd6.inj (zd5 h1 h2) (h ▸ zd5 h3 h4);simp at this;exact ycb this.1 this.2
end
end Go.Proofs.YtmblgnddgmfkhaaGreat
