import Derived.Shelf.SlSortCmp.WholeK
import Derived.Shelf.SlicesG.Cmp
import Derived.Shelf.Small.Bits
import Derived.Shelf.Bits.Mul64
import Derived.Test.YtiepddmagfmllaaGreatProg
import Derived.Test.YtiepddmagfmllaaGreatT08
set_option maxRecDepth 100000
set_option maxHeartbeats 4000000
namespace Go.Proofs.YtiepddmagfmllaaGreat
open Go.RowKit
structure LvO (w:World) (base g n:Nat) (l:List Ed) (vs:List Value):Prop where
 blk:Bk w g vs.toArray 78
 len:vs.length=n
 rows:∀i,i<n→∃u,vs[i]? = some u∧w.ownsRow base 117 3 u (outE l i).length (zan (outE l i))
 ap:∀(i j:Nat) (u v:Value) (b:Nat),i≠j→vs[i]? = some u→vs[j]? = some v→u.ownBlock=some b→v.ownBlock≠some b
theorem zmd (l:List Ed) (e:Ed) (i:Nat):outE (l ++ [e]) i=outE l i ++ if fr e=i then [e] else []:=by
 unfold outE;rw [List.filter_append];by_cases h:fr e=i <;> simp [h]
section
variable {w w':World} {base g n:Nat} {l:List Ed} {vs:List Value}
theorem LvO.same (h:LvO w base g n l vs) (hg:w'.heap[g]? = w.heap[g]?) (hb:∀v m xs,w.ownsRow base 117 3 v m xs→w'.ownsRow base 117 3 v m xs):LvO w' base g n l vs :=
 ⟨hg.trans h.blk,h.len,fun i hi=>by obtain ⟨u,hu,hr⟩:=h.rows i hi;exact ⟨u,hu,hb _ _ _ hr⟩,h.ap⟩
theorem LvO.alloc (h:LvO w base g n l vs) (o:Obj):LvO (w.alloc o) base g n l vs:=h.same (Below.heap_alloc _ _ _ h.blk.lt) fun _ _ _ hr=>hr.alloc o
theorem LvO.drew (h:LvO w base g n l vs):LvO w.drew base g n l vs:=h.same rfl fun _ _ _ hr=>zbJ hr
theorem LvO.start (n:Nat) (hw:w.heap[g]? = some (.cells (Array.replicate n (.slice none 0 0)) 78 (0,0))):LvO w base g n [] (List.replicate n (.slice none 0 0)) :=
 ⟨by rw [List.toArray_replicate];exact hw,by simp,fun i hi=>⟨.slice none 0 0,by rw [List.getElem?_replicate];simp [hi],World.ownsRow_nil _ _ _ _⟩,fun i j u v b _ hu hv e=>by
  rw [List.getElem?_replicate] at hu;split at hu
  · cases hu;simp [Value.ownBlock] at e
  · cases hu⟩
theorem LvO.cell (h:LvO w base g n l vs) {i:Nat} {u:Value} (hu:vs[i]? = some u):w.cell? ⟨g,i,none⟩=some u:=by
 rw [h.blk.cell i];simpa using hu
theorem LvO.step {w8:World} {e:Ed} {u v9:Value} {o:Obj} (h:LvO w base g n l vs) (hu:vs[fr e]? = some u) (hr:w.ownsRow base 117 3 u (outE l (fr e)).length (zan (outE l (fr e))))
 (hg:(w.alloc o).grownBy w8 u.ownBlock) (hown:w8.ownsRow base 117 3 v9 ((outE l (fr e)).length + 1) (zan (outE l (fr e)) ++ zaT e)) (hat:v9.ownBlock=u.ownBlock∨v9.ownBlock=some (w.alloc o).heap.size) :
 Bk w8 g vs.toArray 78∧LvO (w8.setCell ⟨g,fr e,none⟩ v9) base g n (l ++ [e]) (vs.set (fr e) v9):=by
 have hb8:Bk w8 g vs.toArray 78:=zbh (h.blk.alloc o) (hr.alloc o) (by decide) hg;have hset:∀{v:Value} {m:Nat} {xs:List Value},w8.ownsRow base 117 3 v m xs→(w8.setCell ⟨g,fr e,none⟩ v9).ownsRow base 117 3 v m xs:=fun q =>
  zaI q fun k hk=>Below.heap_setCell _ _ _ _ fun e'=>zdc hb8 q (by decide) ((show k=g from e') ▸ hk)
 have hlt:fr e<vs.length:=(List.getElem?_eq_some_iff.1 hu).1;refine ⟨hb8,?_,by rw [List.length_set];exact h.len,fun i hi=>?_,fun i j x y b hne hx hy hb=>?_⟩
 · have:=hb8.set (fr e) v9;simpa using this
 · rw [zmd];by_cases hie:fr e=i
   · subst hie;refine ⟨v9,by rw [List.getElem?_set_self hlt],?_⟩;rw [if_pos rfl,List.length_append,zeJ];have:zan [e]=zaT e:=by simp [zan]
     rw [this];exact hset hown
   · obtain ⟨x,hx,hr2⟩:=h.rows i hi;refine ⟨x,by rw [List.getElem?_set_ne hie];exact hx,?_⟩;rw [if_neg hie,List.append_nil];refine hset (World.ownsRow.kept (hr2.alloc o) hg ?_);rcases hb:x.ownBlock with _ | b
     · exact .inl rfl
     · exact .inr fun e'=>h.ap i (fr e) x u b (fun q=>hie q.symm) hx hu hb e'.symm
 · have old:∀(k:Nat) (z:Value) (c:Nat),vs[k]? = some z→z.ownBlock=some c→c<w.heap.size:=fun k z c hz hc=>by
    have hk:k<n:=by have:=(List.getElem?_eq_some_iff.1 hz).1;rw [h.len] at this;exact this
    obtain ⟨z',hz',hr'⟩:=h.rows k hk;rw [hz] at hz';cases hz';exact (hr'.lt c hc).2
   by_cases hie:fr e=i
   · subst hie;rw [List.getElem?_set_self hlt] at hx;cases hx;rw [List.getElem?_set_ne hne] at hy;rcases hat with ha | ha
     · rw [ha] at hb;exact h.ap _ _ _ _ _ hne hu hy hb
     · rw [ha] at hb;cases hb;intro hc;have:=old j y _ hy hc;simp at this;omega
   · rw [List.getElem?_set_ne hie] at hx;by_cases hje:fr e=j
     · subst hje;rw [List.getElem?_set_self hlt] at hy;cases hy;intro hc;rcases hat with ha | ha
       · rw [ha] at hc;exact h.ap _ _ _ _ _ hne hx hu hb hc
       · rw [ha] at hc;cases hc;have:=old i x _ hx hb;simp at this;omega
     · rw [List.getElem?_set_ne hje] at hy;exact h.ap _ _ _ _ _ hne hx hy hb
theorem LvO.gr (h:LvO w base g n l vs) (hi:InR n l) (hn:n≤4096):Gr w w.heap.size (some ⟨g,0,none⟩) n n l:=by
 refine ⟨⟨vs,⟨by rw [h.len];omega,Nat.le_refl _,by simp only [maxLen];omega,fun e=>(by cases e),fun _=>⟨g,0,rfl,h.blk.lt,fun j u hj=>by rw [Nat.zero_add];exact h.cell hj⟩⟩,fun i hi2=>?_⟩,hi,hn⟩;obtain ⟨u,hu,hr⟩:=h.rows i hi2;obtain ⟨A,c,rfl,hR⟩:=Rd.own hr;exact ⟨A,c,hu,hR⟩
end
theorem zfL:(Tryz.prog.info? 117).map (fun i=>(i.zero,i.size,i.bytes))=some (some (.agg #[.int .i64 0,.int .i64 0,.bool false]),3,24):=by kernel_rfl
theorem zks:(Tryz.prog.info? 78).map (fun i=>(i.zero,i.size,i.bytes))=some (some (.slice none 0 0),1,24):=by kernel_rfl
theorem zh3 {P:Program} (w:World) {Q:Exit→Act→World→Prop} {o:Oper} {a:Act} {K:Act→World→Prop} (d:Option Tmp) (hd:o.dst=d) (s x:Operand) (t tx:TypeId)
 (ho:o.op = .call { callee:=.builtin .append,args:=#[s,x],argTypes:=#[t,tx] })
 (base:Nat) (e:TypeId) (i:TypeInfo) (z:Value) (size bytes:Nat) (ht:P.underlying t=some (.slice e)) (hi:P.info? e=some i) (hz:i.zero=some z)
 (hsize:i.size=size) (hby:i.bytes=bytes) (hzs:z.cells.size=size) (hsz:0<size)
 (v:Value) (n:Nat) (xs:List Value) (hv:a.eval s=v) (hown:w.ownsRow base e size v n xs) (y:Value) (m:Nat) (news:List Value) (hx:a.eval x=y) (hs:Src P size tx y m news w)
 (h63:n + m≤maxLen) (hbytes:(n + m) * bytes≤140737488355328) (hbase:base≤w.heap.size)
 (h:∀v' w',w'.ownsRow base e size v' (n + m) (xs ++ news)→w.grownBy w' v.ownBlock→(v'.ownBlock=v.ownBlock∨v'.ownBlock=some w.heap.size)→K (a.put d v') w') :
 Oper.wp P o a w K Q:=by
 subst hd;obtain ⟨v',w',hr,h2,h3,h4⟩:=zcD (P:=P) w base t tx o.type e i z size bytes ht hi hz hsize hby hzs hsz v n xs hown y m news hs h63 hbytes hbase;unfold Oper.wp execOp;simp only [ho,resolve,invoke,builtin,Sem.run_bind,Sem.run_pure,Result.andThen_ok,List.map_toArray,List.map_cons,List.map_nil,hv,hx,hr];exact h v' w' h2 h3 h4
theorem outE_le (l:List Ed) (i:Nat):(outE l i).length≤l.length:=List.length_filter_le _ _
theorem zlX (n:Nat):madeCells #[.slice none 0 0] n=Array.replicate n (Value.slice none 0 0):=by
 apply Array.ext';rw [toList_madeCells_one,Array.toList_replicate]
theorem leaving_any {w:World} {n c:Nat} {A:Option Addr} {l:List Ed} (h:Rd w w.heap.size 3 A l.length c (zan l)) (hi:InR n l) (hn:n≤4096) (hl:l.length≤1000000) :
 Calls Tryz.prog 45 #[.int .i64 (n:Int),.slice A l.length c] w fun e w'=>e = .returned (.slice (some ⟨w.heap.size,0,none⟩) n n)∧Gr w' w'.heap.size (some ⟨w.heap.size,0,none⟩) n n l∧Below w.heap.size w w':=by
 obtain ⟨i1,hi1,hy0,hy1,hy2⟩:=info_parts zks;obtain ⟨i0,hi0,hz0,hz1,hz2⟩:=info_parts zfL;have hmk:∀W:World,(Instr.makeSlice 118 (.int .i64 (n:Int)) (.int .i64 (n:Int))).run Tryz.prog W = .ok (.slice (some ⟨W.heap.size,0,none⟩) n n) (W.alloc (.cells (Array.replicate n (.slice none 0 0)) 78)):=fun W=>by
  have:=run_make (P:=Tryz.prog) W 118 78 i1 _ Tryz.underlying118 hi1 hy0 .i64 .i64 n n (by omega) (Int.le_refl _) (by rw [hy2];omega) (by omega);rw [Int.toNat_natCast,hy1,Nat.mul_one] at this;rw [←zlX];exact this
 go_enter Tryz.func45,Tryz.ntmps45
 go_wp2_with fail
 have hb0:Below w.heap.size w (w.alloc (.cells (Array.replicate n (.slice none 0 0)) 78)):=(Below.refl _ w).alloc (Nat.le_refl _) _;have hO0:=LvO.start (w:=w.alloc (.cells (Array.replicate n (.slice none 0 0)) 78)) (base:=w.heap.size) (g:=w.heap.size) n (heap_alloc_new w _);clear hmk;generalize w.alloc (.cells (Array.replicate n (.slice none 0 0)) 78)=w0 at *
 go_loopw [12] (fun vi wx=>∃(j:Nat) (vs:List Value),vi = .int .i64 j∧j≤l.length∧LvO wx w.heap.size w.heap.size n (l.take j) vs∧Below w.heap.size w wx) (fun vi _=>l.length-(intOf vi).toNat)
 case atStart=>exact ⟨0,_,rfl,Nat.zero_le _,hO0,hb0⟩
 case round =>
  obtain ⟨j,vs,rfl,hj,hO,hbx⟩:=hrel;by_cases hjl:j<l.length
  · have hdj:(j:Int)<(l.length:Int):=by omega
    obtain ⟨e,he⟩:∃e,l[j]? = some e:=⟨_,List.getElem?_eq_getElem hjl⟩;have hem:=List.mem_of_getElem? he;have hfe:e.1=((fr e:Nat):Int):=by have:=hi e hem;unfold fr;omega
    have hfn:=hi.fr hem;have hfi:((fr e:Nat):Int)<(n:Int):=by omega
    obtain ⟨b,o,rfl,hb,c0,c1,c2⟩:=zdA ((h.below hbx).more hbx.size) he;rw [hfe] at c0;obtain ⟨u,hu,hr⟩:=hO.rows (fr e) hfn;have hub:∀b,u.ownBlock=some b→b<wr.heap.size:=fun b e'=>(hr.lt b e').2;have hol:=outE_le (l.take j) (fr e);rw [List.length_take] at hol;go_upto_region 5 with (fail)
    have hO1:=(hO.alloc (.cells #[.int .i64 ((fr e:Nat):Int),.int .i64 e.2.1,.bool e.2.2] 117)).drew;have hr1:=zbJ (hr.alloc (.cells #[.int .i64 ((fr e:Nat):Int),.int .i64 e.2.1,.bool e.2.2] 117));have hbx1:Below w.heap.size w (World.drew (wr.alloc (.cells #[.int .i64 ((fr e:Nat):Int),.int .i64 e.2.1,.bool e.2.2] 117))):=(hbx.alloc hbx.size _).drew;have hx1:Bk (World.drew (wr.alloc (.cells #[.int .i64 ((fr e:Nat):Int),.int .i64 e.2.1,.bool e.2.2] 117))) wr.heap.size _ _:=Bk.new wr _ _;have hws:=hbx.size;refine zbL (fun W=>W.cell? ⟨wr.heap.size,0,none⟩=some (.int .i64 ((fr e:Nat):Int))∧W.cell? ⟨wr.heap.size,1,none⟩=some (.int .i64 e.2.1)∧W.cell? ⟨wr.heap.size,2,none⟩=some (.bool e.2.2)∧W.cell? ⟨w.heap.size,fr e,none⟩=some u) 12 (by kernel_rfl) ?_;change zbs _ _ _ _ _ _ _ _ _ (World.drew _);clear hO hr c0 c1 c2 hbx;generalize hdw:World.drew (wr.alloc (.cells #[.int .i64 ((fr e:Nat):Int),.int .i64 e.2.1,.bool e.2.2] 117))=wd at *
    have hzd:Hid (wd.heap.size=wr.heap.size + 1):=Lib.hid (by subst hdw;show (wr.alloc _).heap.size=_;simp);have HS:wd.cell? ⟨wr.heap.size,0,none⟩=some (.int .i64 ((fr e:Nat):Int))∧wd.cell? ⟨wr.heap.size,1,none⟩=some (.int .i64 e.2.1)∧wd.cell? ⟨wr.heap.size,2,none⟩=some (.bool e.2.2)∧wd.cell? ⟨w.heap.size,fr e,none⟩=some u:=⟨hx1.cell 0,hx1.cell 1,hx1.cell 2,hO1.cell hu⟩;clear hdw;refine zad 0 (some 16) (v:=?v0r5) rfl rfl (by kernel_rfl) (by decide) (by kernel_rfl) (by kernel_rfl) (by kernel_rfl) (fun _ _ _ h=>h) (by rfl) ?y0r5 HS ?r0r5;case y0r5=>(intro w hS;(try dsimp only at hS);obtain ⟨q0,q1,q2,q3⟩:=hS;go_simp;try with_reducible rfl)
    simp only [Act.put,List.setIfInBounds_toArray,List.set_cons_zero,List.set_cons_succ];refine zad 1 (some 17) (v:=?v1r5) rfl rfl (by kernel_rfl) (by decide) (by kernel_rfl) (by kernel_rfl) (by kernel_rfl) (fun _ _ _ h=>h) (by rfl) ?y1r5 HS ?r1r5;case y1r5=>(intro w hS;(try dsimp only at hS);obtain ⟨q0,q1,q2,q3⟩:=hS;go_simp;try with_reducible rfl)
    simp only [Act.put,List.setIfInBounds_toArray,List.set_cons_zero,List.set_cons_succ];refine zad 2 (some 18) (v:=?v2r5) rfl rfl (by kernel_rfl) (by decide) (by kernel_rfl) (by kernel_rfl) (by kernel_rfl) (fun _ _ _ h=>h) (by rfl) ?y2r5 HS ?r2r5;case y2r5=>(intro w hS;(try dsimp only at hS);obtain ⟨q0,q1,q2,q3⟩:=hS;go_simp;try with_reducible rfl)
    simp only [Act.put,List.setIfInBounds_toArray,List.set_cons_zero,List.set_cons_succ];refine zad 3 (some 19) (v:=?v3r5) rfl rfl (by kernel_rfl) (by decide) (by kernel_rfl) (by kernel_rfl) (by kernel_rfl) (fun _ _ _ h=>h) (by rfl) ?y3r5 HS ?r3r5;case y3r5=>(intro w hS;(try dsimp only at hS);obtain ⟨q0,q1,q2,q3⟩:=hS;go_simp;try with_reducible rfl)
    simp only [Act.put,List.setIfInBounds_toArray,List.set_cons_zero,List.set_cons_succ];refine zad 4 (some 20) (v:=?v4r5) rfl rfl (by kernel_rfl) (by decide) (by kernel_rfl) (by kernel_rfl) (by kernel_rfl) (fun _ _ _ h=>h) (by rfl) ?y4r5 HS ?r4r5;case y4r5=>(intro w hS;(try dsimp only at hS);obtain ⟨q0,q1,q2,q3⟩:=hS;go_simp;try with_reducible rfl)
    simp only [Act.put,List.setIfInBounds_toArray,List.set_cons_zero,List.set_cons_succ];refine zad 5 (some 21) (v:=?v5r5) rfl rfl (by kernel_rfl) (by decide) (by kernel_rfl) (by kernel_rfl) (by kernel_rfl) (fun _ _ _ h=>h) (by rfl) ?y5r5 HS ?r5r5;case y5r5=>(intro w hS;(try dsimp only at hS);obtain ⟨q0,q1,q2,q3⟩:=hS;go_simp;try with_reducible rfl)
    simp only [Act.put,List.setIfInBounds_toArray,List.set_cons_zero,List.set_cons_succ];refine zad 6 (some 22) (v:=?v6r5) rfl rfl (by kernel_rfl) (by decide) (by kernel_rfl) (by kernel_rfl) (by kernel_rfl) (fun _ _ _ h=>h) (by rfl) ?y6r5 HS ?r6r5;case y6r5=>(intro w hS;(try dsimp only at hS);obtain ⟨q0,q1,q2,q3⟩:=hS;go_simp;try with_reducible rfl)
    simp only [Act.put,List.setIfInBounds_toArray,List.set_cons_zero,List.set_cons_succ];refine zad 7 (some 23) (v:=?v7r5) rfl rfl (by kernel_rfl) (by decide) (by kernel_rfl) (by kernel_rfl) (by kernel_rfl) (fun _ _ _ h=>h) (by rfl) ?y7r5 HS ?r7r5;case y7r5=>(intro w hS;(try dsimp only at hS);obtain ⟨q0,q1,q2,q3⟩:=hS;go_simp;try with_reducible rfl)
    simp only [Act.put,List.setIfInBounds_toArray,List.set_cons_zero,List.set_cons_succ];refine zad 8 (some 24) (v:=?v8r5) rfl rfl (by kernel_rfl) (by decide) (by kernel_rfl) (by kernel_rfl) (by kernel_rfl) (fun _ _ _ h=>h) (by rfl) ?y8r5 HS ?r8r5;case y8r5=>(intro w hS;(try dsimp only at hS);obtain ⟨q0,q1,q2,q3⟩:=hS;go_simp;try with_reducible rfl)
    simp only [Act.put,List.setIfInBounds_toArray,List.set_cons_zero,List.set_cons_succ];refine zaD 9 rfl (by kernel_rfl) fun K hK'=>?_;go_simp;refine hK' _ _ (fun _=>⟨zar HS.1 _,zar HS.2.1 _,zar HS.2.2.1 _,zar HS.2.2.2 _⟩) ?_;clear hK' K;refine zaD 10 rfl (by kernel_rfl) fun K hK'=>?_;rw [if_pos (by rfl)];refine zh3 _ (some 26) rfl (.tmp 23) (.tmp 25) 78 78 rfl w.heap.size 117 i0 (.agg #[.int .i64 0,.int .i64 0,.bool false]) 3 24 Tryz.underlying78 hi0 hz0 hz1 hz2 rfl (by decide) u (outE (l.take j) (fr e)).length (zan (outE (l.take j) (fr e))) rfl (World.ownsRow.alloc hr1 _) _ 1 [.int .i64 ((fr e:Nat):Int),.int .i64 e.2.1,.bool e.2.2] rfl (Src.ofSlice _ Tryz.underlying78 _ 1 1 _ rfl (zaZ _ _ _ _ _) (by intro u hu;simp only [List.mem_cons,List.not_mem_nil,or_false] at hu;rcases hu with rfl | rfl | rfl <;> rfl)) (by simp only [maxLen];omega) (by omega) (size_alloc (by have:=hzd.out;omega)) ?_;intro v9 w8 hown8 hg8 hat8;rw [←hfe] at hown8;obtain ⟨hb8,hO8⟩:=hO1.step hu hr1 hg8 hown8 hat8;have hx8:Bk w8 wr.heap.size _ _:=(hg8.block wr.heap.size (by have:=hzd.out;simp;omega) fun e'=>by have:=hub _ e'.symm;omega).trans (hx1.alloc _);have HS8:w8.cell? ⟨wr.heap.size,0,none⟩=some (.int .i64 ((fr e:Nat):Int))∧w8.cell? ⟨wr.heap.size,1,none⟩=some (.int .i64 e.2.1)∧w8.cell? ⟨wr.heap.size,2,none⟩=some (.bool e.2.2)∧w8.cell? ⟨w.heap.size,fr e,none⟩=some u:=⟨hx8.cell 0,hx8.cell 1,hx8.cell 2,by rw [hb8.cell];simpa using hu⟩;have hbx8:Below w.heap.size w w8:=zak (hbx1.alloc hbx1.size _) hg8 (World.ownsRow.alloc hr1 _) (by have:=hbx1.size;simp;omega) (Nat.le_refl _)
    refine hK' _ _ (fun _=>HS8) ?_;clear hK' K HS hO1 hr1 hbx1 hx1 hg8 hat8;simp only [Act.put,List.setIfInBounds_toArray,List.set_cons_zero,List.set_cons_succ];refine zad 11 (some 27) (v:=?v11r5) rfl rfl (by kernel_rfl) (by decide) (by kernel_rfl) (by kernel_rfl) (by kernel_rfl) (fun _ _ _ h=>h) (by rfl) ?y11r5 HS8 ?r11r5;case y11r5=>(intro w hS;(try dsimp only at hS);obtain ⟨q0,q1,q2,q3⟩:=hS;go_simp;try with_reducible rfl)
    simp only [Act.put,List.setIfInBounds_toArray,List.set_cons_zero,List.set_cons_succ];refine zaD 12 rfl (by kernel_rfl) fun K hK'=>?_;obtain ⟨A9,c9,rfl,_⟩:=Rd.own hown8;have fz8:=hb8.fz (fr e);have q8:=HS8.2.2.2;go_simp;refine hK' _ _ (fun h=>absurd rfl h) ?_;clear hK' K;refine zbq (by kernel_rfl) ?_ _;have hbx9:Below w.heap.size w (w8.setCell ⟨w.heap.size,fr e,none⟩ (.slice A9 ((outE (l.take j) (fr e)).length + 1) c9)):=hbx8.setCell (Nat.le_refl _) _;clear hx8 hb8 HS8 hbx8 hown8 fz8 q8;generalize World.setCell w8 _ _=w9 at *
    go_wp2_with fail
    have hO9:LvO w9 w.heap.size w.heap.size n (l.take (j + 1)) (vs.set (fr e) (.slice A9 ((outE (l.take j) (fr e)).length + 1) c9)):=by
     rw [List.take_add_one,he];exact hO8
    exact ⟨⟨j + 1,_,by go_num,by omega,hO9,hbx9⟩,by simp [intOf];omega⟩
  · obtain rfl:j=l.length:=by omega
    have hdj:¬(((l.length:Nat):Int)<(l.length:Int)):=by omega
    rw [List.take_length] at hO;go_wp2_with fail
    go_ret
    exact ⟨rfl,hO.gr hi hn,hbx⟩
end Go.Proofs.YtiepddmagfmllaaGreat
namespace Go.Proofs.YtiepddmagfmllaaGreat
open Go.Shelf Go.RowKit Go.Lib Go.Sort
def ziP:Go.Shelf.Ren:=⟨fun | 212=>85 | 263=>128 | 264=>129 | n=>n,fun | 46=>191 | 51=>232 | 146=>233 | 53=>235 | 148=>236 | n=>n,fun | n=>n⟩
theorem lays212:Go.Proofs.Lays.n212 Tryz.prog ziP:={
 mixed:=by kernel_rfl
 f212:=Tryz.func85.trans (congrArg some (by kernel_rfl))
 f263:=Tryz.func128.trans (congrArg some (by kernel_rfl))
 f264:=Tryz.func129.trans (congrArg some (by kernel_rfl))
 t46:=Tryz.underlying191
 a46:=Tryz.isAgg191
 z46:=Tryz.sizeOf191
 v46:=Tryz.zeroValue191
 t51:=Tryz.underlying232
 a51:=Tryz.isAgg232
 z51:=Tryz.sizeOf232
 v51:=Tryz.zeroValue232
 t53:=Tryz.underlying235
 a53:=Tryz.isAgg235
 z53:=Tryz.sizeOf235
 v53:=Tryz.zeroValue235
 t146:=Tryz.underlying233
 a146:=Tryz.isAgg233
 z146:=Tryz.sizeOf233
 v146:=Tryz.zeroValue233
 t148:=Tryz.underlying236
 a148:=Tryz.isAgg236
 z148:=Tryz.sizeOf236
 v148:=Tryz.zeroValue236 }
def ziQ:Go.Shelf.Ren:=⟨fun | 5=>98 | 7=>134 | n=>n,fun | 22=>3 | 3=>3 | 4=>4 | n=>n,fun | n=>n⟩
theorem laysCmp:Go.Proofs.SlLaysC2.n5 Tryz.prog ziQ:={
 mixed:=by kernel_rfl
 f5:=⟨Tryz.f98.name,by decide,Tryz.func98.trans (congrArg some (by kernel_rfl))⟩
 f7:=⟨Tryz.f134.name,by decide,Tryz.func134.trans (congrArg some (by kernel_rfl))⟩
 t3:=Tryz.underlying3
 a3:=Tryz.isAgg3
 z3:=Tryz.sizeOf3
 v3:=Tryz.zeroValue3
 t4:=Tryz.underlying4
 a4:=Tryz.isAgg4
 z4:=Tryz.sizeOf4
 v4:=Tryz.zeroValue4
 t22:=Tryz.underlying3
 a22:=Tryz.isAgg3
 z22:=Tryz.sizeOf3
 v22:=Tryz.zeroValue3 }
def ze5:Go.Shelf.Ren:=⟨fun | 6=>95 | 15=>133 | 14=>132 | 28=>159 | 29=>160 | 20=>151 | 21=>152 | 22=>153 | 23=>154 | 24=>155 | 25=>156 | 26=>157 | 27=>158 | 46=>179 | 47=>180 | 48=>181 | 49=>182 | 50=>183 | 57=>190 | n=>n,fun | 22=>78 | 24=>117 | 25=>139 | 3=>3 | 39=>191 | 0=>0 | 53=>232 | 55=>235 | 4=>4 | 46=>263 | 45=>262 | 50=>65 | 5=>5 | 9=>9 | 66=>276 | 70=>280 | 76=>288 | 77=>289 | n=>n,fun | n=>n⟩
theorem zjB:Go.Proofs.SlLaysF0.n6 Tryz.prog ze5:={
 mixed:=by kernel_rfl
 f6:=⟨Tryz.f95.name,by decide,Tryz.func95.trans (congrArg some (by kernel_rfl))⟩
 f14:=⟨Tryz.f132.name,by decide,Tryz.func132.trans (congrArg some (by kernel_rfl))⟩
 f15:=Tryz.func133.trans (congrArg some (by kernel_rfl))
 f20:=⟨Tryz.f151.name,by decide,Tryz.func151.trans (congrArg some (by kernel_rfl))⟩
 f21:=⟨Tryz.f152.name,by decide,Tryz.func152.trans (congrArg some (by kernel_rfl))⟩
 f22:=⟨Tryz.f153.name,by decide,Tryz.func153.trans (congrArg some (by kernel_rfl))⟩
 f23:=⟨Tryz.f154.name,by decide,Tryz.func154.trans (congrArg some (by kernel_rfl))⟩
 f24:=⟨Tryz.f155.name,by decide,Tryz.func155.trans (congrArg some (by kernel_rfl))⟩
 f25:=⟨Tryz.f156.name,by decide,Tryz.func156.trans (congrArg some (by kernel_rfl))⟩
 f26:=⟨Tryz.f157.name,by decide,Tryz.func157.trans (congrArg some (by kernel_rfl))⟩
 f27:=⟨Tryz.f158.name,by decide,Tryz.func158.trans (congrArg some (by kernel_rfl))⟩
 f28:=Tryz.func159.trans (congrArg some (by kernel_rfl))
 f29:=Tryz.func160.trans (congrArg some (by kernel_rfl))
 f46:=⟨Tryz.f179.name,by decide,Tryz.func179.trans (congrArg some (by kernel_rfl))⟩
 f47:=Tryz.func180.trans (congrArg some (by kernel_rfl))
 f48:=Tryz.func181.trans (congrArg some (by kernel_rfl))
 f49:=⟨Tryz.f182.name,by decide,Tryz.func182.trans (congrArg some (by kernel_rfl))⟩
 f50:=⟨Tryz.f183.name,by decide,Tryz.func183.trans (congrArg some (by kernel_rfl))⟩
 f57:=⟨Tryz.f190.name,by decide,Tryz.func190.trans (congrArg some (by kernel_rfl))⟩
 t0:=Tryz.underlying0
 a0:=Tryz.isAgg0
 z0:=Tryz.sizeOf0
 v0:=Tryz.zeroValue0
 t3:=Tryz.underlying3
 a3:=Tryz.isAgg3
 z3:=Tryz.sizeOf3
 v3:=Tryz.zeroValue3
 t4:=Tryz.underlying4
 a4:=Tryz.isAgg4
 z4:=Tryz.sizeOf4
 v4:=Tryz.zeroValue4
 t5:=Tryz.underlying5
 a5:=Tryz.isAgg5
 z5:=Tryz.sizeOf5
 v5:=Tryz.zeroValue5
 t9:=Tryz.underlying9
 a9:=Tryz.isAgg9
 z9:=Tryz.sizeOf9
 v9:=Tryz.zeroValue9
 t22:=Tryz.underlying78
 a22:=Tryz.isAgg78
 z22:=Tryz.sizeOf78
 v22:=Tryz.zeroValue78
 t25:=Tryz.underlying139
 a25:=Tryz.isAgg139
 z25:=Tryz.sizeOf139
 v25:=Tryz.zeroValue139
 t39:=Tryz.underlying191
 a39:=Tryz.isAgg191
 z39:=Tryz.sizeOf191
 v39:=Tryz.zeroValue191
 t45:=Tryz.underlying262
 a45:=Tryz.isAgg262
 z45:=Tryz.sizeOf262
 v45:=Tryz.zeroValue262
 t46:=Tryz.underlying263
 a46:=Tryz.isAgg263
 z46:=Tryz.sizeOf263
 v46:=Tryz.zeroValue263
 t50:=Tryz.underlying65
 a50:=Tryz.isAgg65
 z50:=Tryz.sizeOf65
 v50:=Tryz.zeroValue65
 t53:=Tryz.underlying232
 a53:=Tryz.isAgg232
 z53:=Tryz.sizeOf232
 v53:=Tryz.zeroValue232
 t55:=Tryz.underlying235
 a55:=Tryz.isAgg235
 z55:=Tryz.sizeOf235
 v55:=Tryz.zeroValue235
 t66:=Tryz.underlying276
 a66:=Tryz.isAgg276
 z66:=Tryz.sizeOf276
 v66:=Tryz.zeroValue276
 t70:=Tryz.underlying280
 a70:=Tryz.isAgg280
 z70:=Tryz.sizeOf280
 v70:=Tryz.zeroValue280
 t76:=Tryz.underlying288
 a76:=Tryz.isAgg288
 z76:=Tryz.sizeOf288
 v76:=Tryz.zeroValue288
 t77:=Tryz.underlying289
 a77:=Tryz.isAgg289
 z77:=Tryz.sizeOf289
 v77:=Tryz.zeroValue289 }
end Go.Proofs.YtiepddmagfmllaaGreat
