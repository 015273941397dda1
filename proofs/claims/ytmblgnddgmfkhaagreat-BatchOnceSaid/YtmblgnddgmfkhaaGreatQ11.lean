import Derived.Deep.DeepCutAuto
import Derived.Laws.CopyOwn
import Derived.Deep.RegionLaw
import Derived.Maps.Own
import Derived.Maps.OwnOps
import Derived.Maps.OwnSet
import Derived.Maps.Views
import Derived.Test.YtmblgnddgmfkhaaGreatQ10
set_option maxRecDepth 100000
set_option maxHeartbeats 4000000
namespace Go.Proofs.YtmblgnddgmfkhaaGreat
section
open Go.RowKit
open Go.RowKit
open Go.RowKit
variable {w:World} {n j c:Nat} {r:List Nat} {A:Option Addr} {l:List Ed} {z x:Int} {v:List Int}
theorem zah {w':World} {a:Addr} {v:Value} (h:w.cell? a=some v) (hb:Below w.heap.size w w'):w'.cell? a=some v:=(hb.cell (World.block_lt_of_cell? _ _ h)).trans h
theorem rise_any (x y:Int) (b:Bool) (w:World):Calls Tryz.prog 171 #[.agg #[.int .i64 x,.int .i64 y,.bool b]] w fun e w'=>e = .returned (.int .i64 (if b then 1 else 0))∧Below w.heap.size w w':=by
 go_enter Tryz.func171,Tryz.ntmps171
 cases b
 · go_wp2
   go_ret
   exact ⟨rfl,(Below.refl _ w).alloc (yaj _) _⟩
 · go_wp2
   go_ret
   exact ⟨rfl,(Below.refl _ w).alloc (yaj _) _⟩
theorem turned_any (h:Rd w w.heap.size 3 A l.length c (zay l)) (hl:l.length≤1000000) :
 Calls Tryz.prog 119 #[.slice A l.length c] w fun e w'=>(∃A' c',e = .returned (.slice A' l.length c')∧Rd w' w'.heap.size 3 A' l.length c' (zay (l.map turn)))∧Below w.heap.size w w':=by
 obtain ⟨K,p,q,s,u⟩:=info_parts zgT;go_enter Tryz.func119,Tryz.ntmps119
 go_wp2_with fail
 go_loopw [3,8] (fun v x H=>∃j:Nat,x = .int .i64 j∧j≤l.length∧H.ownsRow w.heap.size 207 3 v j (zay ((l.take j).map turn))∧Below w.heap.size w H) (fun _ x _=>l.length-(intOf x).toNat)
 case atStart=>exact ⟨0,rfl,yap _,World.ownsRow_nil _ _ _ _,Below.refl _ _⟩
 case round =>
  obtain ⟨j,rfl,Q,m,d⟩:=hrel;by_cases y:j<l.length
  · have z:(j:Int)<(l.length:Int):=by omega
    obtain ⟨e,I⟩:∃e,l[j]? = some e:=⟨_,yal y⟩;obtain ⟨b,o,rfl,hb,L,M,N⟩:=zhj ((h.below d).more d.size) I;obtain ⟨B,C,rfl,_⟩:=Rd.own m;have D:=d.size;have k:=m.alloc (.cells #[.int .i64 e.1,.int .i64 e.2.1,.bool e.2.2] 207);have f:=d.alloc D (.cells #[.int .i64 e.1,.int .i64 e.2.1,.bool e.2.2] 207);have n:=Bk.new wr #[.int .i64 e.1,.int .i64 e.2.1,.bool e.2.2] 207;go_upto_region 5 with (fail)
    have R:=n.cell 0;have T:=n.cell 1;have U:=n.cell 2;clear L M N n;generalize wr.alloc (.cells #[.int .i64 e.1,.int .i64 e.2.1,.bool e.2.2] 207)=V at *
    go_wp2_with (at_builtin;go_loud (refine zab _ rfl (.tmp 12) (.tmp 20) 149 149 rfl w.heap.size 207 K (.agg #[.int .i64 0,.int .i64 0,.bool false]) 3 24 Tryz.underlying149 p q s u rfl yac (.slice B j C) j (zay ((l.take j).map turn)) rfl (k.alloc _) _ 1 [.int .i64 e.2.1,.int .i64 e.1,.bool e.2.2] rfl (Src.ofSlice _ Tryz.underlying149 _ 1 1 _ rfl (zeK _ _ _ _ _) (zgK (turn e))) yad yab (size_alloc f.size) ?_;intro v9 O g E J))
    have F:O.ownsRow w.heap.size 207 3 v9 (j + 1) (zay ((l.take (j + 1)).map turn)):=by
     rw [yaC,I,yaR,yaL,zfu];have:zay ([e].map turn)=za0 (turn e):=by simp [zay]
     rw [this];exact g
    have G:=zaf (f.alloc f.size _) E (k.alloc _) (size_alloc f.size) (yaj _);exact ⟨⟨j + 1,by go_num,by omega,F,G⟩,by simp [intOf];omega⟩
  · obtain rfl:j=l.length:=by omega
    have z:¬(((l.length:Nat):Int)<(l.length:Int)):=by omega
    rw [yaA] at m;obtain ⟨B,C,rfl,P⟩:=Rd.own m;go_wp2_with fail
    go_ret
    exact ⟨⟨B,C,rfl,P⟩,d⟩
theorem ziA {v l lev} {s:List Nat}:upR v l lev (r ++ s)=match upR v l lev r with | none=>none | some z=>upR v l z s:=by
 induction r generalizing lev with
 | nil=>rfl
 | cons a t ih =>
  rw [ybs];simp only [upR];cases upE v lev (outE l a) with
  | none=>rfl
  | some y=>exact ih
theorem upE_snoc {v lev} {es:List Ed} {e:Ed} (h:es[j]? = some e) (hz:upE v lev (es.take j)=some z):upE v lev (es.take (j + 1))=up1 v z e:=by
 rw [yaC,h,yaR,zfO,hz];simp only [upE];cases up1 v z e <;> rfl
theorem upE_stop {v lev} {es:List Ed} (h:upE v lev (es.take j)=none):upE v lev es=none:=by
 rw [←ybg j es,zfO,h]
theorem zno {v l lev} {a:Nat} (h:r[j]? = some a) (hz:upR v l lev (r.take j)=some z):upR v l lev (r.take (j + 1))=upE v z (outE l a):=by
 rw [yaC,h,yaR,ziA,hz];simp only [upR];cases upE v z (outE l a) <;> rfl
theorem upR_stop {v l lev} (h:upR v l lev (r.take j)=none):upR v l lev r=none:=by
 rw [←ybg j r,ziA,h]
def rlV (o:Option Int):Value:=match o with
 | none=>.tuple #[.int .i64 0,.bool false]
 | some z=>.tuple #[.int .i64 z,.bool true]
def lvs (v:List Int):List Value:=v.map fun z=>Value.int .i64 z
theorem ringLevel_any {cr cv:Nat} {Ar Av:Option Addr} (hR:Rd w w.heap.size 1 Ar r.length cr (ints r)) (hG:Gr w w.heap.size A c n l) (hV:Rd w w.heap.size 1 Av n cv (lvs v)) (hvn:v.length=n) (hr:∀k ∈ r,k<n) (hb:∀x ∈ v,-1≤x∧x≤5000) :
 Calls Tryz.prog 120 #[.slice Ar r.length cr,.slice A n c,.slice Av n cv] w fun e w'=>e = .returned (rlV (upR v l 0 r))∧Below w.heap.size w w':=by
 have ag:(r.length:Int)≤9223372036854775807:=by have:=hR.cap;have:=hR.capm;simp only [maxLen] at this;omega
 go_enter Tryz.func120,Tryz.ntmps120
 go_wp2_with fail
 go_loopw [8,16] (fun p s Z=>∃(j:Nat) (z:Int),p = .int .i64 z∧s = .int .i64 j∧j≤r.length∧upR v l 0 (r.take j)=some z∧0≤z∧z≤6000∧Below w.heap.size w Z) (fun _ s _=>r.length-(intOf s).toNat)
 case atStart=>exact ⟨0,0,rfl,rfl,yap _,rfl,by omega,by omega,Below.refl _ _⟩
 case round =>
  obtain ⟨j,z,rfl,rfl,hj,U,a1,a2,g⟩:=hrel;by_cases H:j<r.length
  · have a6:(j:Int)<(r.length:Int):=by omega
    obtain ⟨b,o,u,rfl,ah,hu,hc⟩:=(hR.below g).get H;obtain ⟨a,V⟩:∃a,r[j]? = some a:=⟨_,yal H⟩;have a7:u = .int .i64 (a:Int):=by
     simp only [ints,ya0,V,ybE,yaT] at hu;exact hu.symm
    subst a7;have a8:=hr a (yar V);have ai:(a:Int)<(n:Int):=by omega
    obtain ⟨bg,og,Ai,ci,rfl,aj,I,B⟩:=hG.row a8;have ak:=zah I g;have al:((outE l a).length:Int)≤9223372036854775807:=by have:=B.cap;have:=B.capm;simp only [maxLen] at this;omega
    go_wp2_with fail
    obtain ⟨wo,rfl⟩:∃wo:World,wo=wr:=⟨_,rfl⟩;go_loopw [8,25] (fun p s Z=>∃(k:Nat) (y:Int),p = .int .i64 y∧s = .int .i64 k∧k≤(outE l a).length∧upE v z ((outE l a).take k)=some y∧0≤y∧y≤6000∧Below w.heap.size w Z) (fun _ s _=>(outE l a).length-(intOf s).toNat)
    case atStart=>exact ⟨0,z,rfl,rfl,yap _,rfl,a1,a2,g⟩
    case round =>
     obtain ⟨k,y,rfl,rfl,hk,X,J,L,f⟩:=hrel;by_cases aa:k<(outE l a).length
     · have ab:(k:Int)<((outE l a).length:Int):=by omega
       obtain ⟨e,he⟩:∃e,(outE l a)[k]? = some e:=⟨_,yal aa⟩;have M:=(ze0.1 (yar he)).1;have ac:e.2.1=((tt e:Nat):Int):=by have:=hG.inr e M;unfold tt;omega
       have C:=hG.inr.tt M;have am:((tt e:Nat):Int)<(n:Int):=by omega
       obtain ⟨b2,o2,rfl,an,c0,c1,c2⟩:=zhj (B.below f) he;rw [ac] at c1;obtain ⟨bv,ov,u,rfl,ao,D,N⟩:=hV.get C;have ad:u = .int .i64 (zb5 v (tt e)):=by
        have O:tt e<v.length:=by rw [hvn];exact C
        simp only [lvs,ya0,yal O,ybE,yaT] at D;rw [←D,zdJ (yal O)]
       subst ad;have aq : -1≤zb5 v (tt e)∧zb5 v (tt e)≤5000:=by
        have O:tt e<v.length:=by rw [hvn];exact C
        have:=hb _ (List.getElem_mem O);rwa [←zdJ (yal O)] at this
       have E:Hid (upE v z ((outE l a).take (k + 1))=up1 v y e):=Lib.hid (upE_snoc he X);have F:Hid (upE v z ((outE l a).take (k + 1))=none→upR v l 0 r=none):=Lib.hid fun h=>upR_stop (j:=j + 1) ((zno V U).trans (upE_stop h));have G:Hid (up1 v y e=if zb5 v (tt e) = -1 then (if e.2.2=true then none else some y) else some (max y (zb5 v (tt e) + rise e))):=Lib.hid rfl;have ae:Hid (rise e=if e.2.2=true then 1 else 0):=Lib.hid rfl;generalize hq:zb5 v (tt e)=q at *
       have cv:=zah N f;clear N D;have d:=f.alloc f.size (.cells #[.int .i64 e.1,.int .i64 ((tt e:Nat):Int),.bool e.2.2] 207);have P:=Bk.new wr #[.int .i64 e.1,.int .i64 ((tt e:Nat):Int),.bool e.2.2] 207;replace cv:=zaI cv (.cells #[.int .i64 e.1,.int .i64 ((tt e:Nat):Int),.bool e.2.2] 207);go_upto_region 8 with (fail)
       clear c0 c1 c2 f X U;generalize hW2:wr.alloc (.cells #[.int .i64 e.1,.int .i64 ((tt e:Nat):Int),.bool e.2.2] 207)=m at *
       clear hW2;have ar:=Lib.hid P;have d0:=P.cell 0;have d1:=P.cell 1;have d2:=P.cell 2;clear P;by_cases hm:q = -1
       · subst hm;cases Y:e.2.2 with
         | true =>
          rw [Y] at d2;go_wp2_with fail
          go_ret2
          have h3:=F.out (by rw [E.out,G.out];simp [Y]);exact ⟨by rw [h3];rfl,d⟩
         | false =>
          rw [Y] at d2;go_wp2_with fail
          refine ⟨⟨k + 1,y,rfl,by go_num,by omega,?_,J,L,d⟩,by simp [intOf];omega⟩;rw [E.out,G.out];simp [Y]
       · have au:(q != -1)=true:=by simpa using hm
         go_upto_region 12 with (fail)
         have hSc:∀W:World,Below m.heap.size m W→W.cell? ⟨wr.heap.size,0,none⟩=some (.int .i64 e.1)∧W.cell? ⟨wr.heap.size,1,none⟩=some (.int .i64 ((tt e:Nat):Int))∧W.cell? ⟨wr.heap.size,2,none⟩=some (.bool e.2.2)∧W.cell? ⟨bv,ov + tt e,none⟩=some (.int .i64 q):=fun W h=>⟨zah d0 h,zah d1 h,zah d2 h,zah cv h⟩;have Q:Below m.heap.size m m.drew:=(Below.refl _ _).drew;refine wp_region_any yaa ?_;change wpAny _ _ _ _ _ _ _ (World.drew _);refine wpAny_of_held (S:=fun W=>Below m.heap.size m W) _ _ _ _ ?_;refine zaa 0 (some 42) yai ?_ (hy:=zu4);refine zaa 1 (some 43) yai ?_ (hy:=zu4);refine zaa 2 (some 44) yai ?_ (hy:=zu4);refine zaa 3 (some 45) yai ?_ (hy:=zu4);refine zaa 4 (some 46) yai ?_ (hy:=zu4);refine zaa 5 (some 47) yai ?_ (hy:=zu4);refine zaa 6 (some 48) yai ?_ (hy:=zu4);refine zaP 7 rfl yaa ?_;intro K hK;go_simp;refine (rise_any _ _ _ _).mono ?_;rintro e4 w4 ⟨rfl,R⟩;have T:Below m.heap.size m w4:=Q.trans (R.mono Q.size);refine hK _ _ T ?_;clear hK K R;refine zaa 8 (some 50) yai ?_;refine zaa 9 (some 51) yai ?_;refine zaa 10 (some 8) yai ?_;refine wpAnyH_done yaa ?_ _;go_wp2_with fail
         have av:=zlV e;have af:IntKind.i64.wrap (q + rise e)=q + rise e:=IntWalk.i64_in _ ⟨by omega,by omega⟩;rw [←ae.out,af];refine ⟨⟨k + 1,max y (q + rise e),by congr 1 <;> (split <;> omega),by go_num,by omega,?_,by omega,by omega,d.trans (T.mono d.size)⟩,by simp [intOf];omega⟩;rw [E.out,G.out,yak hm]
     · obtain rfl:k=(outE l a).length:=by omega
       have ab:¬((((outE l a).length:Nat):Int)<((outE l a).length:Int)):=by omega
       rw [yaA] at X;go_wp2_with fail
       exact ⟨⟨j + 1,y,rfl,by go_num,by omega,by rw [zno V U];exact X,J,L,f⟩,by simp [intOf];omega⟩
  · obtain rfl:j=r.length:=by omega
    have a6:¬(((r.length:Nat):Int)<(r.length:Int)):=by omega
    rw [yaA] at U;go_wp2_with fail
    go_ret2
    exact ⟨rfl,g⟩
def zjG (x:Int) (n m:Nat):List Value:=List.replicate m (.int .i64 x) ++ List.replicate (n-m) (.int .i64 0)
theorem zm4 {m:Nat} (h:m≤n):(zjG x n m).length=n:=by simp [zjG];omega
theorem zm5 (x:Int) (k:Nat):∀u ∈ List.replicate k (Value.int .i64 x),u.oneCell'=true:=by
 intro u b;rw [List.mem_replicate] at b;rw [b.2];rfl
theorem zhl {m k:Nat} (h:m + k≤n):splice (zjG x n m) m (List.replicate k (.int .i64 x))=zjG x n (m + k):=by
 unfold splice zjG;rw [List.take_append_of_le_length yaf,ybi yaf,ybJ,List.drop_append,List.drop_of_length_le yaf,ybJ,yba,List.drop_replicate,←yaB,List.replicate_append_replicate];congr 2
 omega
theorem zke:(Tryz.prog.info? 3).map (·.size)=some 1:=by kernel_rfl
theorem repeat_any {b:Nat} (hb:w.cell? ⟨b,0,none⟩=some (.int .i64 x)) (hn:n≤4096) :
 Calls Tryz.prog 117 #[.slice (some ⟨b,0,none⟩) 1 1,.int .i64 (n:Int)] w fun e w'=>(∃g,e = .returned (.slice (some ⟨g,0,none⟩) n n)∧w.heap.size≤g∧Bk w' g (List.replicate n (Value.int .i64 x)).toArray 3)∧Below w.heap.size w w':=by
 obtain ⟨X,E,F,G,H⟩:=info_parts zeS;have I:∀W:World,(Instr.makeSlice 146 (.int .i64 (n:Int)) (.int .i64 (n:Int))).run Tryz.prog W = .ok (.slice (some ⟨W.heap.size,0,none⟩) n n) (W.alloc (.cells (zjG x n 0).toArray 3)):=fun W=>by
  have:=run_make (P:=Tryz.prog) W 146 3 X _ Tryz.underlying146 E F .i64 .i64 n n yab (ybp _) (by rw [H];omega) yab;rw [ybk,G,ycA] at this;rw [this];congr 3
  apply ycN;show (madeCells #[.int .i64 0] n).toList=_;rw [toList_madeCells_one];simp [zjG]
 have o:∀W:World,Calls Tryz.prog 166 #[.int .u64 1,.int .u64 (n:Int)] W fun e w'=>e = .returned (.tuple #[.int .u64 0,.int .u64 (n:Int)])∧w'=W:=fun W=>by
  have:=Any.bits_Mul lays212 1 n yab yab W;rw [Nat.one_mul,Nat.div_eq_of_lt yab,Nat.mod_eq_of_lt (by omega)] at this;exact this
 have Y:¬((n:Int)<0):=by omega
 go_enter Tryz.func117,Tryz.ntmps117
 go_upto_region 7 with (go_at_call 166;refine (o _).mono ?_;rintro e w9 ⟨rfl,q⟩;have Z:=q.symm;clear q;subst Z)
 have s:=World.block_lt_of_cell? _ _ hb;dsimp only at s;have y:=zaI hb (.cells (zjG x n 0).toArray 3);have z:=Bk.new w (zjG x n 0).toArray 3;have A:Below w.heap.size w (w.alloc (.cells (zjG x n 0).toArray 3)):=(Below.refl _ w).alloc (yaj _) _;have J:Nat.min 1 n=min 1 n:=rfl;clear I o;generalize w.alloc (.cells (zjG x n 0).toArray 3)=w1 at *
 go_wp2_with (
  refine wpList_copy_splice rfl (.tmp 31) (.tmp 32) 146 146 rfl 3 Tryz.underlying146 zke (some ⟨w.heap.size,0,none⟩) (some ⟨b,0,none⟩) n n 1 1 rfl rfl w.heap.size 0 (zjG x n 0) 3 z (List.replicate (min 1 n) (.int .i64 x)) (by rw [ybJ,J]) (fun _=>⟨rfl,_,rfl,fun j u f=>by
  rw [ybC] at f;split at f
  · cases f;obtain rfl:j=0:=by omega
    exact y
  · cases f⟩) (by rw [ybJ,zm4 (yap _)];omega) (zm5 x _) w.heap.size w A (yaj _) ?_;intro w2 p K)
 replace p:Hid (w2.heap[w.heap.size]? = some (.cells (zjG x n (min 1 n)).toArray 3 (0,0))):=Lib.hid (by
  have h:=p.out;rw [zhl yab,yaG] at h;exact h)
 clear y z A hb s;have L:min 1 n≤n:=by omega
 have M:0<n→0<min 1 n:=by omega
 generalize min 1 n=m0 at *
 go_loopw [8] (fun v R=>∃m:Nat,v = .int .i64 m∧m≤n∧(0<n→0<m)∧Hid (R.heap[w.heap.size]? = some (.cells (zjG x n m).toArray 3 (0,0)))∧Below w.heap.size w R) (fun v _=>n-(intOf v).toNat)
 case atStart=>exact ⟨m0,rfl,L,M,p,K⟩
 case round =>
  obtain ⟨m,rfl,hm,a1,T,U⟩:=hrel;by_cases a2:m<n
  · have B:(m:Int)<(n:Int):=by omega
    have a6:¬n=m:=by omega
    have V:¬m=n:=by omega
    go_upto_region 9 with (fail)
    have k:wr.drew.heap[w.heap.size]? = some (.cells (zjG x n m).toArray 3 (0,0)):=T.out;have N:=U.drew;have C:Hid (Nat.min m (n-m)=min m (n-m)):=Lib.hid rfl;have d:∀j v,(List.replicate (min m (n-m)) (Value.int .i64 x))[j]? = some v→wr.drew.cell? ((⟨w.heap.size,0,none⟩:Addr).add j)=some v:=fun j u f=>by
     rw [Addr.add_lit,cell_of_row _ _ _ _ _ _ k,yaG];rw [ybC] at f;split at f
     · cases f;rw [ybU,zjG,ybr yag,ybC];simp;omega
     · cases f
    have d:=Lib.hid d;replace k:=Lib.hid k;go_region_law (refine step_copy_splice rfl (.tmp 41) (.tmp 44) 146 146 rfl 3 Tryz.underlying146 zke (some ⟨w.heap.size,m,none⟩) (some ⟨w.heap.size,0,none⟩) (n-m) (n-m) m n (by simp [Act.eval,Act.put]) (by simp [Act.eval,Act.put]) w.heap.size m (zjG x n m) 3 k.out (List.replicate (min m (n-m)) (.int .i64 x)) (by rw [ybJ,C.out]) (fun _=>⟨rfl,_,rfl,d.out⟩) (by rw [ybJ,zm4 hm];omega) (zm5 x _) w.heap.size w N (yaj _) ?_;intro w4 O a7)
    all_goals
     go_wp2_with fail
     have Q:IntKind.i64.wrap ((m:Int) + ((min m (n-m):Nat):Int))=((m + min m (n-m):Nat):Int):=by
      rw [IntWalk.i64_in _ ⟨by omega,by omega⟩];omega
     rw [Q];have D:=O.out;rw [zhl (by omega)] at D;exact ⟨⟨m + min m (n-m),rfl,by omega,by omega,Lib.hid D⟩,by simp [intOf];omega⟩
  · obtain rfl:m=n:=by omega
    have B:¬((m:Int)<(m:Nat)):=by omega
    go_wp2_with fail
    go_ret
    have h:=T.out;rw [zjG,yct,List.replicate_zero,yaJ] at h;exact ⟨⟨_,rfl,yaj _,h⟩,U⟩
theorem zqP {B c':Nat} {A':Option Addr} (h1:Gr w B A c n l) (h2:Gr w B A' c' n (l.map turn)) (hB:B≤w.heap.size) :
 Calls Tryz.prog 118 #[.slice A n c,.slice A' n c'] w fun e w'=>∃v all ord s,e = .returned v∧OrdOk l n ord∧Told l n ord s all∧VRing w.heap.size w' v all∧Below w.heap.size w w' :=
 callsIn_wide.1 (rings_in 6 (yaj _) h1 h2 hB)
inductive LvAns (n:Int) (l:List Ed) (w':World):Ending→Prop
 | arg (h:n<0∨4096<n∨¬InR n.toNat l):LvAns n l w' (.returned (.tuple #[.slice none 0 0,.int .i64 1]))
 | cyc (h0:0≤n) (h1:n≤4096) (hi:InR n.toNat l) (hc:Cyc l):LvAns n l w' (.returned (.tuple #[.slice none 0 0,.int .i64 33]))
 | ok (h0:0≤n) (h1:n≤4096) (hi:InR n.toNat l) (v:List Int) (A:Option Addr) (c:Nat) (hr:Rd w' w'.heap.size 1 A n.toNat c (lvs v)) (hv:v.length=n.toNat) (hL:Least n.toNat l (zb5 v)) (hb:∀x ∈ v,0≤x∧x≤4096):LvAns n l w' (.returned (.tuple #[.slice A n.toNat c,.int .i64 0]))
theorem zlF (v:List Int) (a:Nat) (z:Int):(lvs v).toArray.setIfInBounds a (.int .i64 z)=(lvs (v.set a z)).toArray:=by
 apply ycN;simp [lvs,List.map_set]
theorem zqX {a:Nat} (h:r[j]? = some a):zop v z (r.take (j + 1))=(zop v z (r.take j)).set a z:=by
 rw [yaC,h,yaR];have:∀(s:List Nat) (v:List Int),zop v z (s ++ [a])=(zop v z s).set a z:=by
  intro s;induction s with
  | nil=>intro v;rfl
  | cons b t ih=>intro v;exact ih _
 exact this _ v
theorem zm1 {g:Nat} (h:Bk w g (lvs v).toArray 3) (hv:v.length=n) (hn:n≤4096):Rd w w.heap.size 1 (some ⟨g,0,none⟩) n n (lvs v) :=
 ⟨by simp [lvs,hv],yaj _,by simp only [maxLen];omega,fun e=>(by cases e),fun _=>⟨g,0,rfl,h.lt,fun j u b=>by rw [yaG,h.cell j];simpa using b⟩⟩
theorem levels_any {n:Int} (h:Rd w w.heap.size 3 A l.length c (zay l)) (hl:l.length≤100000) :
 Calls Tryz.prog 76 #[.int .i64 n,.slice A l.length c] w fun e w'=>LvAns n l w' e∧Below w.heap.size w w':=by
 by_cases h0:n<0
 · have b4:decide (n<0)=true:=by simpa using h0
   go_enter Tryz.func76,Tryz.ntmps76
   go_wp2_with fail
   go_ret2
   exact ⟨.arg (.inl h0),Below.refl _ _⟩
 · by_cases h1:4096<n
   · go_enter Tryz.func76,Tryz.ntmps76
     go_wp2_with fail
     go_ret2
     exact ⟨.arg (.inr (.inl h1)),Below.refl _ _⟩
   · obtain ⟨k,rfl⟩:∃k:Nat,n=(k:Int):=⟨n.toNat,by omega⟩;have hk:k≤4096:=by omega
     have b4:¬((k:Int)<0):=by omega
     go_enter Tryz.func76,Tryz.ntmps76
     go_wp2_with fail
     go_loopw [24] (fun H wx=>∃j:Nat,H = .int .i64 j∧j≤l.length∧InR k (l.take j)∧Below w.heap.size w wx) (fun H _=>l.length-(intOf H).toNat)
     case atStart=>exact ⟨0,rfl,yap _,fun e T=>by simp at T,Below.refl _ _⟩
     case round =>
      obtain ⟨j,rfl,hj,D,B⟩:=hrel;by_cases O:j<l.length
      · have a1:(j:Int)<(l.length:Int):=by omega
        obtain ⟨e,T⟩:∃e,l[j]? = some e:=⟨_,yal O⟩;obtain ⟨b,o,rfl,hb,c0,c1,c2⟩:=zhj (h.below B) T;have b5:=B.size;have m:=B.alloc b5 (.cells #[.int .i64 e.1,.int .i64 e.2.1,.bool e.2.2] 207);have x1:=Bk.new wr #[.int .i64 e.1,.int .i64 e.2.1,.bool e.2.2] 207;go_upto_region 6 with (fail)
        have y0:=x1.cell 0;have y1:=x1.cell 1;clear c0 c1 c2 x1;generalize wr.alloc (.cells #[.int .i64 e.1,.int .i64 e.2.1,.bool e.2.2] 207)=w1 at *
        have af:0≤e.1∧e.1<k∧0≤e.2.1∧e.2.1<k→InR k (l.take (j + 1)):=fun q d hd=>by
         rw [yaC,T,yaR,yaz,yas] at hd;rcases hd with hd | rfl
         · exact D d hd
         · exact q
        by_cases bs:e.2.1<e.1
        · by_cases b6:e.2.1<0
          · go_wp2_with fail
            go_ret2
            exact ⟨.arg (.inr (.inr fun D=>by have:=D e (yar T);simp only [ybk] at this;omega)),m⟩
          · by_cases b7:e.1 ≥ (k:Int)
            · go_wp2_with fail
              go_ret2
              exact ⟨.arg (.inr (.inr fun D=>by have:=D e (yar T);simp only [ybk] at this;omega)),m⟩
            · go_wp2_with fail
              exact ⟨⟨j + 1,by go_num,by omega,af yab,m⟩,by simp [intOf];omega⟩
        · by_cases b6:e.1<0
          · go_wp2_with fail
            go_ret2
            exact ⟨.arg (.inr (.inr fun D=>by have:=D e (yar T);simp only [ybk] at this;omega)),m⟩
          · by_cases b7:e.2.1 ≥ (k:Int)
            · go_wp2_with fail
              go_ret2
              exact ⟨.arg (.inr (.inr fun D=>by have:=D e (yar T);simp only [ybk] at this;omega)),m⟩
            · go_wp2_with fail
              exact ⟨⟨j + 1,by go_num,by omega,af yab,m⟩,by simp [intOf];omega⟩
      · obtain rfl:j=l.length:=by omega
        have a1:¬(((l.length:Nat):Int)<(l.length:Int)):=by omega
        rw [yaA] at D;have ag:InR ((k:Int).toNat) l:=D;have hT:(l.map turn).length=l.length:=by simp
        have h9:=h.below B;go_upto_region 9 with (fail)
        have k1:=leaving_any (h9.more B.size) D hk yab;go_upto_region 10 with (go_at_call 116;refine k1.mono ?_;rintro e2 U ⟨rfl,ah,I⟩)
        have J:=B.trans (I.mono B.size);have b8:=J.size;clear k1 B;generalize wr.heap.size=g2 at *
        have k2:=repeat_any (w:=U.alloc (.cells #[.int .i64 (-1)] 3)) (b:=U.heap.size) (n:=k) (x:=-1) (by rw [cell_of_row _ _ _ _ _ _ (heap_alloc_new U _)];rfl) hk;go_upto_region 11 with (go_at_call 117;refine k2.mono ?_;rintro e3 w3 ⟨⟨g,rfl,a2,a6⟩,ai⟩)
        have E:Below U.heap.size U w3:=((Below.refl _ U).alloc (yaj _) _).trans (ai.mono yaf);have p:=J.trans (E.mono b8);have aj:=E.size;replace a2:U.heap.size≤g:=by simp at a2;omega
        clear k2 ai;have a7:=ah.below E;have kt:=turned_any ((h.below p).more p.size) yab;have kl:∀(W:World) (A4:Option Addr) (c4:Nat),Rd W W.heap.size 3 A4 l.length c4 (zay (l.map turn))→Calls Tryz.prog 116 #[.int .i64 (k:Int),.slice A4 l.length c4] W fun e w'=>e = .returned (.slice (some ⟨W.heap.size,0,none⟩) k k)∧Gr w' w'.heap.size (some ⟨W.heap.size,0,none⟩) k k (l.map turn)∧Below W.heap.size W w':=fun W A4 c4 V=>by
         have:=leaving_any (w:=W) (l:=l.map turn) (A:=A4) (c:=c4) (by rw [hT];exact V) D.turn hk yab;rw [hT] at this;exact this
        have kr:∀(F:World) (x:Nat),Gr F F.heap.size (some ⟨g2,0,none⟩) k k l→Gr F F.heap.size (some ⟨x,0,none⟩) k k (l.map turn)→Calls Tryz.prog 118 #[.slice (some ⟨g2,0,none⟩) k k,.slice (some ⟨x,0,none⟩) k k] F fun e w'=>∃v all a8 s,e = .returned v∧OrdOk l k a8∧Told l k a8 s all∧VRing F.heap.size w' v all∧Below F.heap.size F w':=fun F x q1 q2=>zqP q1 q2 (yaj _);have X:=a7.more aj;clear hT;go_wp2_with (first
         | (go_at_call 119;refine kt.mono ?_;rintro e4 w4 ⟨⟨A4,c4,rfl,ak⟩,K⟩;have al:=(X.below K).more K.size)
         | (go_at_call 116;refine (kl _ _ _ ak).mono ?_;rintro e5 F ⟨rfl,am,L⟩;have an:=(al.below L).more L.size)
         | (go_at_call 118;refine (kr _ _ an am).mono ?_;rintro e6 w6 ⟨va,all,a8,s,rfl,hO,aa,b9,ab⟩;obtain ⟨vs,ao,ba⟩:=b9;obtain ⟨A6,c6,rfl,bx⟩:=Rd.own ao))
        have bb:=K.size;have bz:=L.size;have c3:=ab.size;have P:Below w3.heap.size w3 w6:=(K.trans (L.mono bb)).trans (ab.mono yab);have Y:=p.trans (P.mono p.size);have c5:=a6.lt;have c7:=p.size;have bc:Gr w6 U.heap.size _ _ _ _:=a7.below (P.mono aj);have bd:Bk w6 g (lvs (List.replicate k (-1))).toArray 3:=by
         have:=a6.below P;simpa [lvs] using this
        have aq:w.heap.size≤g:=by omega
        have bu:g<F.heap.size:=by omega
        have Q:∀i,i<k↔i ∈ all.flatten:=aa.whole hO;have ac:=aa.rings;have bw:=zqQ ac fun i hi=>(Q i).2 hi;have c8:(all.length:Int)≤9223372036854775807:=by omega
        clear kl kr kt ah I J E p a6 a7 X K L ab al an am P aa hO ak h9;go_loopw [57] (fun H wx=>∃(j:Nat) (v:List Int),H = .int .i64 j∧j≤all.length∧Lv l k (all.take j) v∧Bk wx g (lvs v).toArray 3∧Kp g w6.heap.size w6 wx) (fun H _=>all.length-(intOf H).toNat)
        case atStart=>exact ⟨0,_,rfl,yap _,Lv.start,bd,Kp.refl _ _ _⟩
        case round =>
         obtain ⟨j,v,rfl,hj,f,hX,hK⟩:=hrel;have bf:=hK.size;by_cases O:j<all.length
         · have a1:(j:Int)<(all.length:Int):=by omega
           obtain ⟨r,V⟩:∃r,all[j]? = some r:=⟨_,yal O⟩;obtain ⟨u,hu,bg⟩:=ba j r V;have ks:∀{e s n} {q:Value} {xs},w6.ownsRow F.heap.size e s q n xs→wr.ownsRow F.heap.size e s q n xs:=fun q=>zaD q fun b hb=>hK.block b (q.lt b hb).2 (by have:=(q.lt b hb).1;omega);have ar:=ks ao;have G:=ks bg;obtain ⟨Ar,cr,rfl,ad⟩:=Rd.own G;obtain ⟨ca,cb,e6,au⟩:=Rd.own ar;injection e6 with e6 _ bh
           subst e6 bh;obtain ⟨b,o,q,rfl,_,hq,cc⟩:=au.get O;rw [hu] at hq;cases hq;have M:all=all.take j ++ r::all.drop (j + 1):=by
            rw [yao] at V;obtain ⟨h1,rfl⟩:=V;simp
           have ae:all.take (j + 1)=all.take j ++ [r]:=by rw [yaC,V];rfl
           have av:∀i ∈ r,i<k:=fun i hi=>(Q i).2 (by rw [M];simp [hi]);have bi:∀x ∈ v,-1≤x∧x≤5000:=fun x hx=>by
            have:=f.small x hx;rw [yaK] at this;omega
           have kR:=ringLevel_any (w:=wr) ad ((bc.below (hK.below yab a2)).more yab) (zm1 hX f.len hk) f.len av bi;have Z:∀i,i ∈ all.flatten→i<k:=fun i hi=>(Q i).2 hi;cases hz:upR v l 0 r with
           | none =>
            rw [hz] at kR;simp only [rlV] at kR;have bj:=f.bad ac M Z hz;clear M ae V hz;go_wp2_with (go_at_call 120;refine kR.mono ?_;rintro e7 w7 ⟨rfl,R⟩)
            go_ret2
            exact ⟨.cyc yab yab ag bj,Y.trans ((hK.below yab aq).trans (R.mono yab))⟩
           | some z =>
            rw [hz] at kR;simp only [rlV] at kR;have aw:=f.step ac M Z hz;rw [←ae] at aw;clear M ae V hz;go_wp2_with (go_at_call 120;refine kR.mono ?_;rintro e7 w7 ⟨rfl,R⟩)
            have cd:(r.length:Int)≤9223372036854775807:=by have:=ad.cap;have:=ad.capm;simp only [maxLen] at this;omega
            have bl:=hX.below (R.mono (yaj _));obtain ⟨wo,rfl⟩:∃wo:World,wo=wr:=⟨_,rfl⟩;go_loopw [72] (fun H wy=>∃i:Nat,H = .int .i64 i∧i≤r.length∧Bk wy g (lvs (zop v z (r.take i))).toArray 3∧Kp g wo.heap.size wo wy) (fun H _=>r.length-(intOf H).toNat)
            case atStart=>exact ⟨0,rfl,yap _,bl,Kp.of_below R _⟩
            case round =>
             obtain ⟨i,rfl,hi,N,C⟩:=hrel;by_cases ax:i<r.length
             · have bm:(i:Int)<(r.length:Int):=by omega
               obtain ⟨a,ha⟩:∃a,r[i]? = some a:=⟨_,yal ax⟩;have bn:=av a (yar ha);have ce:(a:Int)<(k:Int):=by omega
               have ay:wr.ownsRow F.heap.size 3 1 _ _ _:=zaD G fun b hb=>C.block b (G.lt b hb).2 (by have:=(G.lt b hb).1;omega);obtain ⟨A9,c9,e9,bo⟩:=Rd.own ay;injection e9 with e9 _ bp
               subst e9 bp;obtain ⟨b2,o2,q2,rfl,_,az,cf⟩:=bo.get ax;have bq:q2 = .int .i64 (a:Int):=by
                simp only [ints,ya0,ha,ybE,yaT] at az;exact az.symm
               subst bq;have b0:∃y:Int,wr.cell? ⟨g,a,none⟩=some (.int .i64 y):=by
                rw [N.cell a];have:a<(lvs (zop v z (r.take i))).length:=by simp [lvs,znb,f.len,bn]
                rw [ybU,yal this];simp [lvs]
               obtain ⟨y,b0⟩:=b0;have cg:=N.fz a;go_wp2_with fail
               have b1:=N.set a (.int .i64 z);rw [zlF,←zqX ha] at b1;exact ⟨⟨i + 1,by go_num,by omega,b1,⟨C.os,C.tape,C.output,by have:=C.size;simp [World.setCell];omega,fun b br I=>(Below.heap_setCell _ _ _ _ I).trans (C.block b br I)⟩⟩,by simp [intOf];omega⟩
             · obtain rfl:i=r.length:=by omega
               have bm:¬(((r.length:Nat):Int)<(r.length:Int)):=by omega
               rw [yaA] at N;go_wp2_with fail
               exact ⟨⟨j + 1,_,by go_num,by omega,aw,N,hK.trans (C.more bf)⟩,by simp [intOf];omega⟩
         · obtain rfl:j=all.length:=by omega
           have a1:¬(((all.length:Nat):Int)<(all.length:Int)):=by omega
           rw [yaA] at f;go_wp2_with fail
           go_ret2
           have b3:=f.least D Q;refine ⟨.ok yab yab ag v _ _ (zm1 hX f.len hk) f.len b3 fun x hx=>?_,Y.trans (hK.below yab aq)⟩;have h1:=f.small x hx;obtain ⟨i,hi,rfl⟩:=yb9 hx;have h2:=b3.1.1 i (by rw [f.len] at hi;exact hi);rw [zdJ (yal hi)] at h2;omega
end
section
open Go.RowKit Go.Maps
theorem laidP:laidOutB Tryz.prog=true:=by kernel_rfl
theorem rowE:(207:TypeId)<Tryz.prog.types.size:=yaQ yaa
theorem rowS:(246:TypeId)<Tryz.prog.types.size:=yaQ yaa
theorem keyAE:Tryz.prog.keyTypeAt 2 207=true:=by kernel_rfl
theorem keyAS:Tryz.prog.keyTypeAt 2 246=true:=by kernel_rfl
theorem lawE:WideMaps.KeyLaw Tryz.prog 207:=deep_law_laid laidP (m:=2) yab rowE keyAE (by rw [Tryz.underlying207])
theorem lawS:WideMaps.KeyLaw Tryz.prog 246:=deep_law_laid laidP (m:=2) yab rowS keyAS (by rw [Tryz.underlying246])
theorem zii:Keyed Tryz.prog 207:=Keyed.of_law lawE
theorem zdG:Keyed Tryz.prog 246:=Keyed.of_law lawS
theorem keyTE:Tryz.prog.keyType 207=true:=by kernel_rfl
theorem keyTS:Tryz.prog.keyType 246=true:=by kernel_rfl
theorem cellsE:Tryz.prog.cellsOf 207=3:=by kernel_rfl
theorem cellsS:Tryz.prog.cellsOf 246=2:=by kernel_rfl
theorem cells1:Tryz.prog.cellsOf 3=1:=by kernel_rfl
theorem cells1b:Tryz.prog.cellsOf 4=1:=by kernel_rfl
theorem zoY:Tryz.prog.cellsOf 9=1:=by kernel_rfl
def kE (e:Ed):Lit:=.string (keyBytes [.int .i64 e.1,.int .i64 e.2.1,.bool e.2.2])
def kS (s:ByteArray × ByteArray):Lit:=.string (keyBytes [.string s.1.data.toList,.string s.2.data.toList])
theorem zpT (n:Nat) {e:Ed} (h1:(Lit.int .i64 e.1).wf=true) (h2:(Lit.int .i64 e.2.1).wf=true):Tryz.prog.keyLits (n + 2) 207 [.int .i64 e.1,.int .i64 e.2.1,.bool e.2.2]=some [.int .i64 e.1,.int .i64 e.2.1,.bool e.2.2]:=by
 simp [Program.keyLits,Tryz.underlying207,cellsE,cells1,cells1b,Tryz.underlying3,Tryz.underlying4,h1,h2]
theorem lits_sub (n:Nat) {s:ByteArray × ByteArray} (h1:s.1.size≤maxLen) (h2:s.2.size≤maxLen):Tryz.prog.keyLits (n + 2) 246 [.string s.1,.string s.2]=some [.string s.1.data.toList,.string s.2.data.toList]:=by
 simp [Program.keyLits,Tryz.underlying246,cellsS,zoY,Tryz.underlying9,h1,h2]
theorem formE (a b c:Value):(Value.agg #[a,b,c]).formed Tryz.prog 207=true:=by simp [Value.formed,Tryz.underlying207,cellsE]
theorem formS (a b:Value):(Value.agg #[a,b]).formed Tryz.prog 246=true:=by simp [Value.formed,Tryz.underlying246,cellsS]
theorem zi9 {t:TypeId} {cs:List Value} {r:List Lit} (h:∀n,Tryz.prog.keyLits (n + 2) t cs=some r) (ht:0<Tryz.prog.types.size):Tryz.prog.keyLits (Tryz.prog.types.size + 1) t cs=some r:=by
 obtain ⟨n,b⟩:∃n,Tryz.prog.types.size=n + 1:=⟨Tryz.prog.types.size-1,by omega⟩;rw [b];exact h n
theorem zi1 {e:Ed} (h1:(Lit.int .i64 e.1).wf=true) (h2:(Lit.int .i64 e.2.1).wf=true):keyOf Tryz.prog 207 (.agg #[.int .i64 e.1,.int .i64 e.2.1,.bool e.2.2])=some (kE e):=by
 have b:=zi9 (fun n=>zpT n h1 h2) (ybt (yap _) rowE);unfold keyOf;simp only [Tryz.underlying207,keyTE,formE,Bool.and_self,if_true,Value.cells,List.toList_toArray];rw [b];rfl
theorem zdF {s:ByteArray × ByteArray} (h1:s.1.size≤maxLen) (h2:s.2.size≤maxLen):keyOf Tryz.prog 246 (.agg #[.string s.1,.string s.2])=some (kS s):=by
 have b:=zi9 (fun n=>lits_sub n h1 h2) (ybt (yap _) rowS);unfold keyOf;simp only [Tryz.underlying246,keyTS,formS,Bool.and_self,if_true,Value.cells,List.toList_toArray];rw [b];rfl
theorem kE_inj {e d:Ed} (h1:(Lit.int .i64 e.1).wf=true) (h2:(Lit.int .i64 e.2.1).wf=true) (h3:(Lit.int .i64 d.1).wf=true) (h4:(Lit.int .i64 d.2.1).wf=true) (h:kE e=kE d):e=d:=by
 have:=zii.inj (zi1 h1 h2) (h ▸ zi1 h3 h4);simp at this;obtain ⟨b,f,g⟩:=this;exact yb5 b (yb5 f g)
theorem kS_inj {e d:ByteArray × ByteArray} (h1:e.1.size≤maxLen) (h2:e.2.size≤maxLen) (h3:d.1.size≤maxLen) (h4:d.2.size≤maxLen) (h:kS e=kS d):e=d:=by
 have:=zdG.inj (zdF h1 h2) (h ▸ zdF h3 h4);simp at this;exact yb5 this.1 this.2
end
end Go.Proofs.YtmblgnddgmfkhaaGreat
