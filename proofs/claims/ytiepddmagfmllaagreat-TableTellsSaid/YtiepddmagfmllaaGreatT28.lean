import Derived.Test.YtiepddmagfmllaaGreatT27
set_option maxRecDepth 100000
set_option maxHeartbeats 4000000
namespace Go.Proofs.YtiepddmagfmllaaGreat
open Go.RowKit
section
variable {w:World} {g:Nat} {q:St}
theorem rfail_any (h:PSt w g q) {c0:Nat} (hc:c0≠0):Calls Tryz.prog 66 #[.pointer (some ⟨g,0,none⟩),.int .i64 c0] w (zdZ zk8 w g ((),zdV c0 q)):=by
 obtain ⟨A,c,T,i,e,p,h,hs⟩:=h;have lt:=h.cells.lt;have u2:w.cell? ⟨g,2,none⟩=some (.int .i64 e):=h.cells.cell 2;have z2:=h.cells.fz 2;cases q with
 | error x =>
  obtain ⟨rfl,hx,rfl⟩:=hs;have d0:(((x.1:Nat):Int) == 0)=false:=by rw [beq_eq_false_iff_ne];omega
  go_enter Tryz.func66,Tryz.ntmps66
  go_wp2
  go_returns
  exact ⟨⟨rfl,rfl,rfl,Nat.le_refl _,fun _ _ _=>rfl⟩,⟨_,rfl,rfl⟩,A,c,T,i,_,_,h,rfl,hx,rfl⟩
 | ok l =>
  obtain ⟨rfl,rfl⟩:=hs;go_enter Tryz.func66,Tryz.ntmps66
  go_wp2_with fail
  have h2:PAt (w.setCell ⟨g,2,none⟩ (.int .i64 c0)).drew g A c T i c0 p:=(h.set2 c0).keep fun _ _=>rfl;have k1:Kp g w.heap.size w (w.setCell ⟨g,2,none⟩ (.int .i64 c0)).drew:=(zdu g w.heap.size w 2 _).drew;clear u2 z2 h;generalize w.setCell ⟨g,2,none⟩ (.int .i64 c0)=W at *
  obtain ⟨b,o,rfl,hi,hb,s0,s1,s2⟩:=h2.get;generalize hd:hdT (T.drop i)=t at *
  obtain ⟨tk,tx,tp⟩:=t;dsimp only at s0 s1 s2;have u0:W.drew.cell? ⟨g,0,none⟩=some (.slice (some ⟨b,o,none⟩) T.length c):=h2.cells.cell 0;have u1:W.drew.cell? ⟨g,1,none⟩=some (.int .i64 i):=h2.cells.cell 1;have u3:W.drew.cell? ⟨g,3,none⟩=some (.int .i64 p):=h2.cells.cell 3;have z3:=h2.cells.fz 3;have hi2:(i:Int)<(T.length:Nat):=by omega
  refine zbL (fun W=>W.cell? ⟨g,0,none⟩=some (.slice (some ⟨b,o,none⟩) T.length c)∧W.cell? ⟨g,1,none⟩=some (.int .i64 i)∧W.cell? ⟨b,o + i * 3,none⟩=some (.int .i64 tk)∧W.cell? ⟨b,o + i * 3 + 1,none⟩=some (.string tx)∧W.cell? ⟨b,o + i * 3 + 2,none⟩=some (.int .i64 tp)) 14 (by kernel_rfl) ?_;change zbs _ _ _ _ _ _ _ _ _ (World.drew _);have HS:(World.drew _).cell? ⟨g,0,none⟩=some (.slice (some ⟨b,o,none⟩) T.length c)∧(World.drew _).cell? ⟨g,1,none⟩=some (.int .i64 i)∧(World.drew _).cell? ⟨b,o + i * 3,none⟩=some (.int .i64 tk)∧(World.drew _).cell? ⟨b,o + i * 3 + 1,none⟩=some (.string tx)∧(World.drew _).cell? ⟨b,o + i * 3 + 2,none⟩=some (.int .i64 tp):=⟨u0,u1,s0,s1,s2⟩;refine zad 0 (some 13) (v:=?v0f) rfl rfl (by kernel_rfl) (by decide) (by kernel_rfl) (by kernel_rfl) (by kernel_rfl) (fun _ _ _ h=>h) (by rfl) ?y0f HS ?r0f;case y0f=>(intro w hS;(try dsimp only at hS);obtain ⟨q0,q1,t0,t1,t2⟩:=hS;go_simp;try with_reducible rfl)
  simp only [Act.put,List.setIfInBounds_toArray,List.set_cons_zero,List.set_cons_succ];refine zad 1 (some 14) (v:=?v1f) rfl rfl (by kernel_rfl) (by decide) (by kernel_rfl) (by kernel_rfl) (by kernel_rfl) (fun _ _ _ h=>h) (by rfl) ?y1f HS ?r1f;case y1f=>(intro w hS;(try dsimp only at hS);obtain ⟨q0,q1,t0,t1,t2⟩:=hS;go_simp;try with_reducible rfl)
  simp only [Act.put,List.setIfInBounds_toArray,List.set_cons_zero,List.set_cons_succ];refine zad 2 (some 15) (v:=?v2f) rfl rfl (by kernel_rfl) (by decide) (by kernel_rfl) (by kernel_rfl) (by kernel_rfl) (fun _ _ _ h=>h) (by rfl) ?y2f HS ?r2f;case y2f=>(intro w hS;(try dsimp only at hS);obtain ⟨q0,q1,t0,t1,t2⟩:=hS;go_simp;try with_reducible rfl)
  simp only [Act.put,List.setIfInBounds_toArray,List.set_cons_zero,List.set_cons_succ];refine zad 3 (some 16) (v:=?v3f) rfl rfl (by kernel_rfl) (by decide) (by kernel_rfl) (by kernel_rfl) (by kernel_rfl) (fun _ _ _ h=>h) (by rfl) ?y3f HS ?r3f;case y3f=>(intro w hS;(try dsimp only at hS);obtain ⟨q0,q1,t0,t1,t2⟩:=hS;go_simp;try with_reducible rfl)
  simp only [Act.put,List.setIfInBounds_toArray,List.set_cons_zero,List.set_cons_succ];refine zad 4 (some 17) (v:=?v4f) rfl rfl (by kernel_rfl) (by decide) (by kernel_rfl) (by kernel_rfl) (by kernel_rfl) (fun _ _ _ h=>h) (by rfl) ?y4f HS ?r4f;case y4f=>(intro w hS;(try dsimp only at hS);obtain ⟨q0,q1,t0,t1,t2⟩:=hS;go_simp;try with_reducible rfl)
  simp only [Act.put,List.setIfInBounds_toArray,List.set_cons_zero,List.set_cons_succ];refine zad 5 (some 18) (v:=?v5f) rfl rfl (by kernel_rfl) (by decide) (by kernel_rfl) (by kernel_rfl) (by kernel_rfl) (fun _ _ _ h=>h) (by rfl) ?y5f HS ?r5f;case y5f=>(intro w hS;(try dsimp only at hS);obtain ⟨q0,q1,t0,t1,t2⟩:=hS;go_simp;try with_reducible rfl)
  simp only [Act.put,List.setIfInBounds_toArray,List.set_cons_zero,List.set_cons_succ];refine zad 6 (some 19) (v:=?v6f) rfl rfl (by kernel_rfl) (by decide) (by kernel_rfl) (by kernel_rfl) (by kernel_rfl) (fun _ _ _ h=>h) (by rfl) ?y6f HS ?r6f;case y6f=>(intro w hS;(try dsimp only at hS);obtain ⟨q0,q1,t0,t1,t2⟩:=hS;go_simp;try with_reducible rfl)
  simp only [Act.put,List.setIfInBounds_toArray,List.set_cons_zero,List.set_cons_succ];refine zad 7 (some 20) (v:=?v7f) rfl rfl (by kernel_rfl) (by decide) (by kernel_rfl) (by kernel_rfl) (by kernel_rfl) (fun _ _ _ h=>h) (by rfl) ?y7f HS ?r7f;case y7f=>(intro w hS;(try dsimp only at hS);obtain ⟨q0,q1,t0,t1,t2⟩:=hS;go_simp;try with_reducible rfl)
  simp only [Act.put,List.setIfInBounds_toArray,List.set_cons_zero,List.set_cons_succ];refine zad 8 (some 21) (v:=?v8f) rfl rfl (by kernel_rfl) (by decide) (by kernel_rfl) (by kernel_rfl) (by kernel_rfl) (fun _ _ _ h=>h) (by rfl) ?y8f HS ?r8f;case y8f=>(intro w hS;(try dsimp only at hS);obtain ⟨q0,q1,t0,t1,t2⟩:=hS;go_simp;try with_reducible rfl)
  simp only [Act.put,List.setIfInBounds_toArray,List.set_cons_zero,List.set_cons_succ];refine zad 9 (some 22) (v:=?v9f) rfl rfl (by kernel_rfl) (by decide) (by kernel_rfl) (by kernel_rfl) (by kernel_rfl) (fun _ _ _ h=>h) (by rfl) ?y9f HS ?r9f;case y9f=>(intro w hS;(try dsimp only at hS);obtain ⟨q0,q1,t0,t1,t2⟩:=hS;go_simp;try with_reducible rfl)
  simp only [Act.put,List.setIfInBounds_toArray,List.set_cons_zero,List.set_cons_succ];refine zad 10 (some 23) (v:=?v10f) rfl rfl (by kernel_rfl) (by decide) (by kernel_rfl) (by kernel_rfl) (by kernel_rfl) (fun _ _ _ h=>h) (by rfl) ?y10f HS ?r10f;case y10f=>(intro w hS;(try dsimp only at hS);obtain ⟨q0,q1,t0,t1,t2⟩:=hS;go_simp;try with_reducible rfl)
  simp only [Act.put,List.setIfInBounds_toArray,List.set_cons_zero,List.set_cons_succ];refine zad 11 (some 24) (v:=?v11f) rfl rfl (by kernel_rfl) (by decide) (by kernel_rfl) (by kernel_rfl) (by kernel_rfl) (fun _ _ _ h=>h) (by rfl) ?y11f HS ?r11f;case y11f=>(intro w hS;(try dsimp only at hS);obtain ⟨q0,q1,t0,t1,t2⟩:=hS;go_simp;try with_reducible rfl)
  simp only [Act.put,List.setIfInBounds_toArray,List.set_cons_zero,List.set_cons_succ];refine zaD 12 rfl (by kernel_rfl) fun K hK'=>?_;go_simp;refine hK' _ _ (fun _=>HS) ?_;clear hK' K;try simp only [Act.put,List.setIfInBounds_toArray,List.set_cons_zero,List.set_cons_succ]
  refine zaD 13 rfl (by kernel_rfl) fun K hK'=>?_;go_simp;refine hK' _ _ (fun _=>HS) ?_;clear hK' K;try simp only [Act.put,List.setIfInBounds_toArray,List.set_cons_zero,List.set_cons_succ]
  obtain ⟨q0,q1,t0,t1,t2⟩:=HS;refine zaD 14 rfl (by kernel_rfl) fun K hK'=>?_;go_simp;refine hK' _ _ (fun h=>absurd rfl h) ?_;clear hK' K;refine zbq (by kernel_rfl) ?_ _;go_wp2
  go_returns
  refine ⟨k1.trans (zdu g w.heap.size _ 3 _),⟨_,rfl,rfl⟩,_,_,_,_,_,_,h2.set3 tp,rfl,hc,by rw [hd]⟩
theorem ris_any (h:PSt w g q) (s:ByteArray):Calls Tryz.prog 62 #[.pointer (some ⟨g,0,none⟩),.string s] w fun e w'=>e = .returned (.bool (isU s q))∧Below w.heap.size w w':=by
 obtain ⟨A,c,T,i,e,p,h,hs⟩:=h;have kk:∀W,_:=fun W=>zjW s W;go_enter Tryz.func62,Tryz.ntmps62
 go_wp2_with fail
 have h2:PAt w.drew g A c T i e p:=h.keep fun _ _=>rfl;have lt:=h2.cells.lt;clear h;obtain ⟨b,o,rfl,hi,hb,s0,s1,s2⟩:=h2.get;generalize hd:hdT (T.drop i)=t at *
 obtain ⟨tk,tx,tp⟩:=t;dsimp only at s0 s1 s2;have u0:w.drew.cell? ⟨g,0,none⟩=some (.slice (some ⟨b,o,none⟩) T.length c):=h2.cells.cell 0;have u1:w.drew.cell? ⟨g,1,none⟩=some (.int .i64 i):=h2.cells.cell 1;have hi2:(i:Int)<(T.length:Nat):=by omega
 have hlb:=World.block_lt_of_cell? _ _ s0;dsimp only at hlb;refine zbL (fun W=>W.cell? ⟨g,0,none⟩=some (.slice (some ⟨b,o,none⟩) T.length c)∧W.cell? ⟨g,1,none⟩=some (.int .i64 i)∧W.cell? ⟨b,o + i * 3,none⟩=some (.int .i64 tk)∧W.cell? ⟨b,o + i * 3 + 1,none⟩=some (.string tx)∧W.cell? ⟨b,o + i * 3 + 2,none⟩=some (.int .i64 tp)) 11 (by kernel_rfl) ?_;change zbs _ _ _ _ _ _ _ _ _ (World.drew _);have HS:(World.drew _).cell? ⟨g,0,none⟩=some (.slice (some ⟨b,o,none⟩) T.length c)∧(World.drew _).cell? ⟨g,1,none⟩=some (.int .i64 i)∧(World.drew _).cell? ⟨b,o + i * 3,none⟩=some (.int .i64 tk)∧(World.drew _).cell? ⟨b,o + i * 3 + 1,none⟩=some (.string tx)∧(World.drew _).cell? ⟨b,o + i * 3 + 2,none⟩=some (.int .i64 tp):=⟨u0,u1,s0,s1,s2⟩;refine zad 0 (some 7) (v:=?v0i) rfl rfl (by kernel_rfl) (by decide) (by kernel_rfl) (by kernel_rfl) (by kernel_rfl) (fun _ _ _ h=>h) (by rfl) ?y0i HS ?r0i;case y0i=>(intro w hS;(try dsimp only at hS);obtain ⟨q0,q1,t0,t1,t2⟩:=hS;go_simp;try with_reducible rfl)
 simp only [Act.put,List.setIfInBounds_toArray,List.set_cons_zero,List.set_cons_succ];refine zad 1 (some 8) (v:=?v1i) rfl rfl (by kernel_rfl) (by decide) (by kernel_rfl) (by kernel_rfl) (by kernel_rfl) (fun _ _ _ h=>h) (by rfl) ?y1i HS ?r1i;case y1i=>(intro w hS;(try dsimp only at hS);obtain ⟨q0,q1,t0,t1,t2⟩:=hS;go_simp;try with_reducible rfl)
 simp only [Act.put,List.setIfInBounds_toArray,List.set_cons_zero,List.set_cons_succ];refine zad 2 (some 9) (v:=?v2i) rfl rfl (by kernel_rfl) (by decide) (by kernel_rfl) (by kernel_rfl) (by kernel_rfl) (fun _ _ _ h=>h) (by rfl) ?y2i HS ?r2i;case y2i=>(intro w hS;(try dsimp only at hS);obtain ⟨q0,q1,t0,t1,t2⟩:=hS;go_simp;try with_reducible rfl)
 simp only [Act.put,List.setIfInBounds_toArray,List.set_cons_zero,List.set_cons_succ];refine zad 3 (some 10) (v:=?v3i) rfl rfl (by kernel_rfl) (by decide) (by kernel_rfl) (by kernel_rfl) (by kernel_rfl) (fun _ _ _ h=>h) (by rfl) ?y3i HS ?r3i;case y3i=>(intro w hS;(try dsimp only at hS);obtain ⟨q0,q1,t0,t1,t2⟩:=hS;go_simp;try with_reducible rfl)
 simp only [Act.put,List.setIfInBounds_toArray,List.set_cons_zero,List.set_cons_succ];refine zad 4 (some 11) (v:=?v4i) rfl rfl (by kernel_rfl) (by decide) (by kernel_rfl) (by kernel_rfl) (by kernel_rfl) (fun _ _ _ h=>h) (by rfl) ?y4i HS ?r4i;case y4i=>(intro w hS;(try dsimp only at hS);obtain ⟨q0,q1,t0,t1,t2⟩:=hS;go_simp;try with_reducible rfl)
 simp only [Act.put,List.setIfInBounds_toArray,List.set_cons_zero,List.set_cons_succ];refine zad 5 (some 12) (v:=?v5i) rfl rfl (by kernel_rfl) (by decide) (by kernel_rfl) (by kernel_rfl) (by kernel_rfl) (fun _ _ _ h=>h) (by rfl) ?y5i HS ?r5i;case y5i=>(intro w hS;(try dsimp only at hS);obtain ⟨q0,q1,t0,t1,t2⟩:=hS;go_simp;try with_reducible rfl)
 simp only [Act.put,List.setIfInBounds_toArray,List.set_cons_zero,List.set_cons_succ];refine zad 6 (some 13) (v:=?v6i) rfl rfl (by kernel_rfl) (by decide) (by kernel_rfl) (by kernel_rfl) (by kernel_rfl) (fun _ _ _ h=>h) (by rfl) ?y6i HS ?r6i;case y6i=>(intro w hS;(try dsimp only at hS);obtain ⟨q0,q1,t0,t1,t2⟩:=hS;go_simp;try with_reducible rfl)
 simp only [Act.put,List.setIfInBounds_toArray,List.set_cons_zero,List.set_cons_succ];refine zad 7 (some 14) (v:=?v7i) rfl rfl (by kernel_rfl) (by decide) (by kernel_rfl) (by kernel_rfl) (by kernel_rfl) (fun _ _ _ h=>h) (by rfl) ?y7i HS ?r7i;case y7i=>(intro w hS;(try dsimp only at hS);obtain ⟨q0,q1,t0,t1,t2⟩:=hS;go_simp;try with_reducible rfl)
 simp only [Act.put,List.setIfInBounds_toArray,List.set_cons_zero,List.set_cons_succ];refine zad 8 (some 15) (v:=?v8i) rfl rfl (by kernel_rfl) (by decide) (by kernel_rfl) (by kernel_rfl) (by kernel_rfl) (fun _ _ _ h=>h) (by rfl) ?y8i HS ?r8i;case y8i=>(intro w hS;(try dsimp only at hS);obtain ⟨q0,q1,t0,t1,t2⟩:=hS;go_simp;try with_reducible rfl)
 simp only [Act.put,List.setIfInBounds_toArray,List.set_cons_zero,List.set_cons_succ];refine zad 9 (some 16) (v:=?v9i) rfl rfl (by kernel_rfl) (by decide) (by kernel_rfl) (by kernel_rfl) (by kernel_rfl) (fun _ _ _ h=>h) (by rfl) ?y9i HS ?r9i;case y9i=>(intro w hS;(try dsimp only at hS);obtain ⟨q0,q1,t0,t1,t2⟩:=hS;go_simp;try with_reducible rfl)
 simp only [Act.put,List.setIfInBounds_toArray,List.set_cons_zero,List.set_cons_succ];refine zaD 10 rfl (by kernel_rfl) fun K hK'=>?_;go_simp;refine hK' _ _ (fun _=>⟨zar HS.1 _,zar HS.2.1 _,zar HS.2.2.1 _,zar HS.2.2.2.1 _,zar HS.2.2.2.2 _⟩) ?_;clear hK' K;try simp only [Act.put,List.setIfInBounds_toArray,List.set_cons_zero,List.set_cons_succ]
 refine zaD 11 rfl (by kernel_rfl) fun K hK'=>?_;go_simp;refine hK' _ _ (fun h=>absurd rfl h) ?_;clear hK' K;refine zbq (by kernel_rfl) ?_ _;have hbl:Below w.heap.size w (w.alloc (.cells #[.int .i64 tk,.string tx,.int .i64 tp] 160)).drew:=((Below.refl _ w).alloc (Nat.le_refl _) _).trans ⟨rfl,rfl,rfl,Nat.le_refl _,fun _ _=>rfl⟩;have tb:Bk (w.alloc (.cells #[.int .i64 tk,.string tx,.int .i64 tp] 160)).drew w.heap.size #[.int .i64 tk,.string tx,.int .i64 tp] 160:=Bk.new w _ _;have h3:PAt (w.alloc (.cells #[.int .i64 tk,.string tx,.int .i64 tp] 160)).drew g _ c T i e p:=h2.keep fun k hk=>hbl.block k (by have:g<w.heap.size:=lt;omega);clear h2 u0 u1 s0 s1 s2 HS;generalize (w.alloc (.cells #[.int .i64 tk,.string tx,.int .i64 tp] 160)).drew=W at *
 have u2:W.cell? ⟨g,2,none⟩=some (.int .i64 e):=h3.cells.cell 2;have c0:W.cell? ⟨w.heap.size,0,none⟩=some (.int .i64 tk):=tb.cell 0;have c1:W.cell? ⟨w.heap.size,1,none⟩=some (.string tx):=tb.cell 1;have e1:=zaE tx s;have e2:(((tk:Nat):Int) == 2)=decide (tk=2):=by
  by_cases hk:tk=2
  · subst hk;rfl
  · rw [decide_eq_false hk,beq_eq_false_iff_ne];omega
 clear tb h3;cases q with
 | error x =>
  obtain ⟨rfl,hx,rfl⟩:=hs;have d0:(((x.1:Nat):Int) == 0)=false:=by rw [beq_eq_false_iff_ne];omega
  generalize decide (tx=s)=f1 at *
  generalize decide (tk=2)=f2 at *
  generalize keyB s=f3 at *
  clear hd;go_wp2_with ((with_reducible refine (kk _).mono ?_);rintro e w2 ⟨rfl,rfl⟩)
  go_returns
  exact ⟨rfl,hbl⟩
 | ok l =>
  obtain ⟨rfl,rfl⟩:=hs;have hT:isU s (.ok (T.drop i))=(decide (tx=s) && (decide (tk=2) || keyB s)):=by
   show decide (_∧(_∨_))=_;rw [hd];simp only [Bool.decide_and,Bool.decide_or,Bool.decide_eq_true]
  have HT:=Lib.hid hT;clear hT hd;generalize decide (tx=s)=f1 at *
  generalize decide (tk=2)=f2 at *
  generalize keyB s=f3 at *
  cases f1 <;> cases f2 <;> cases f3;all_goals go_wp2_with ((with_reducible refine (kk _).mono ?_);rintro e w2 ⟨rfl,rfl⟩)
  all_goals go_returns
  all_goals (refine ⟨?_,hbl⟩;rw [HT.out];rfl)
theorem zhq (h:PSt w g q):Calls Tryz.prog 66 #[.pointer (some ⟨g,0,none⟩),.int .i64 30] w (zdZ zk8 w g ((),zdV 30 q)):=rfail_any h (c0:=30) (by decide)
theorem rfail13 (h:PSt w g q):Calls Tryz.prog 66 #[.pointer (some ⟨g,0,none⟩),.int .i64 13] w (zdZ zk8 w g ((),zdV 13 q)):=rfail_any h (c0:=13) (by decide)
theorem rneed_any (h:PSt w g q) {s:ByteArray} (hs:0<s.size):Calls Tryz.prog 64 #[.pointer (some ⟨g,0,none⟩),.string s] w (zdZ zk8 w g ((),zaC s q)):=by
 have k:=ris_any h s;have hlt:=h.size;cases hb:isU s q with
 | true =>
  rw [hb] at k;have hn:zaC s q=upU q:=if_pos hb;obtain ⟨l,rfl,he⟩:=zcN hb;obtain ⟨A,c,T,i,e,p,h,rfl,rfl⟩:=h;have hf:=h.fine.next hs he;obtain ⟨_,_,_,hi,_⟩:=h.get;have hm:=h.few;go_enter Tryz.func64,Tryz.ntmps64
  go_wp2_with ((with_reducible refine k.mono ?_);rintro e1 w1 ⟨rfl,hb1⟩;have h1:=h.below hb1;have u1:w1.cell? ⟨g,1,none⟩=some (.int .i64 i):=h1.cells.cell 1;have z1:=h1.cells.fz 1;have lt1:=h1.cells.lt)
  go_returns
  refine ⟨(Kp.of_below hb1 g).trans (zdu g w.heap.size _ 1 _),⟨_,rfl,rfl⟩,?_⟩;rw [hn];exact h1.up hf
 | false =>
  rw [hb] at k;have hn:zaC s q=zdV 30 q:=if_neg (by rw [hb];decide);go_enter Tryz.func64,Tryz.ntmps64
  go_wp2_with (first
   | ((with_reducible refine k.mono ?_);rintro e1 w1 ⟨rfl,hb1⟩)
   | ((with_reducible refine (zhq (h.below hb1)).mono ?_);rintro e2 w2 ⟨hk,⟨v,rfl,rfl⟩,h2⟩))
  go_returns
  refine ⟨(Kp.of_below hb1 g).trans (hk.more hb1.size),⟨_,rfl,rfl⟩,?_⟩;rw [hn];exact h2
theorem pname_any (h:PSt w g q):Calls Tryz.prog 63 #[.pointer (some ⟨g,0,none⟩)] w (zdZ VStr w g (zaF q)):=by
 have hq:=h;obtain ⟨A,c,T,i,e,p,h,hs⟩:=h;have hm:=h.few;go_enter Tryz.func63,Tryz.ntmps63
 go_wp2_with fail
 have h2:PAt w.drew g A c T i e p:=h.keep fun _ _=>rfl;have lt:=h2.cells.lt;obtain ⟨b,o,rfl,hi,hb,s0,s1,s2⟩:=h2.get;generalize hd:hdT (T.drop i)=t at *
 obtain ⟨tk,tx,tp⟩:=t;dsimp only at s0 s1 s2;have u0:w.drew.cell? ⟨g,0,none⟩=some (.slice (some ⟨b,o,none⟩) T.length c):=h2.cells.cell 0;have u1:w.drew.cell? ⟨g,1,none⟩=some (.int .i64 i):=h2.cells.cell 1;have hi2:(i:Int)<(T.length:Nat):=by omega
 have hlb:=World.block_lt_of_cell? _ _ s0;dsimp only at hlb;refine zbL (fun W=>W.cell? ⟨g,0,none⟩=some (.slice (some ⟨b,o,none⟩) T.length c)∧W.cell? ⟨g,1,none⟩=some (.int .i64 i)∧W.cell? ⟨b,o + i * 3,none⟩=some (.int .i64 tk)∧W.cell? ⟨b,o + i * 3 + 1,none⟩=some (.string tx)∧W.cell? ⟨b,o + i * 3 + 2,none⟩=some (.int .i64 tp)) 11 (by kernel_rfl) ?_;change zbs _ _ _ _ _ _ _ _ _ (World.drew _);have HS:(World.drew _).cell? ⟨g,0,none⟩=some (.slice (some ⟨b,o,none⟩) T.length c)∧(World.drew _).cell? ⟨g,1,none⟩=some (.int .i64 i)∧(World.drew _).cell? ⟨b,o + i * 3,none⟩=some (.int .i64 tk)∧(World.drew _).cell? ⟨b,o + i * 3 + 1,none⟩=some (.string tx)∧(World.drew _).cell? ⟨b,o + i * 3 + 2,none⟩=some (.int .i64 tp):=⟨u0,u1,s0,s1,s2⟩;refine zad 0 (some 5) (v:=?v0n) rfl rfl (by kernel_rfl) (by decide) (by kernel_rfl) (by kernel_rfl) (by kernel_rfl) (fun _ _ _ h=>h) (by rfl) ?y0n HS ?r0n;case y0n=>(intro w hS;(try dsimp only at hS);obtain ⟨q0,q1,t0,t1,t2⟩:=hS;go_simp;try with_reducible rfl)
 simp only [Act.put,List.setIfInBounds_toArray,List.set_cons_zero,List.set_cons_succ];refine zad 1 (some 6) (v:=?v1n) rfl rfl (by kernel_rfl) (by decide) (by kernel_rfl) (by kernel_rfl) (by kernel_rfl) (fun _ _ _ h=>h) (by rfl) ?y1n HS ?r1n;case y1n=>(intro w hS;(try dsimp only at hS);obtain ⟨q0,q1,t0,t1,t2⟩:=hS;go_simp;try with_reducible rfl)
 simp only [Act.put,List.setIfInBounds_toArray,List.set_cons_zero,List.set_cons_succ];refine zad 2 (some 7) (v:=?v2n) rfl rfl (by kernel_rfl) (by decide) (by kernel_rfl) (by kernel_rfl) (by kernel_rfl) (fun _ _ _ h=>h) (by rfl) ?y2n HS ?r2n;case y2n=>(intro w hS;(try dsimp only at hS);obtain ⟨q0,q1,t0,t1,t2⟩:=hS;go_simp;try with_reducible rfl)
 simp only [Act.put,List.setIfInBounds_toArray,List.set_cons_zero,List.set_cons_succ];refine zad 3 (some 8) (v:=?v3n) rfl rfl (by kernel_rfl) (by decide) (by kernel_rfl) (by kernel_rfl) (by kernel_rfl) (fun _ _ _ h=>h) (by rfl) ?y3n HS ?r3n;case y3n=>(intro w hS;(try dsimp only at hS);obtain ⟨q0,q1,t0,t1,t2⟩:=hS;go_simp;try with_reducible rfl)
 simp only [Act.put,List.setIfInBounds_toArray,List.set_cons_zero,List.set_cons_succ];refine zad 4 (some 9) (v:=?v4n) rfl rfl (by kernel_rfl) (by decide) (by kernel_rfl) (by kernel_rfl) (by kernel_rfl) (fun _ _ _ h=>h) (by rfl) ?y4n HS ?r4n;case y4n=>(intro w hS;(try dsimp only at hS);obtain ⟨q0,q1,t0,t1,t2⟩:=hS;go_simp;try with_reducible rfl)
 simp only [Act.put,List.setIfInBounds_toArray,List.set_cons_zero,List.set_cons_succ];refine zad 5 (some 10) (v:=?v5n) rfl rfl (by kernel_rfl) (by decide) (by kernel_rfl) (by kernel_rfl) (by kernel_rfl) (fun _ _ _ h=>h) (by rfl) ?y5n HS ?r5n;case y5n=>(intro w hS;(try dsimp only at hS);obtain ⟨q0,q1,t0,t1,t2⟩:=hS;go_simp;try with_reducible rfl)
 simp only [Act.put,List.setIfInBounds_toArray,List.set_cons_zero,List.set_cons_succ];refine zad 6 (some 11) (v:=?v6n) rfl rfl (by kernel_rfl) (by decide) (by kernel_rfl) (by kernel_rfl) (by kernel_rfl) (fun _ _ _ h=>h) (by rfl) ?y6n HS ?r6n;case y6n=>(intro w hS;(try dsimp only at hS);obtain ⟨q0,q1,t0,t1,t2⟩:=hS;go_simp;try with_reducible rfl)
 simp only [Act.put,List.setIfInBounds_toArray,List.set_cons_zero,List.set_cons_succ];refine zad 7 (some 12) (v:=?v7n) rfl rfl (by kernel_rfl) (by decide) (by kernel_rfl) (by kernel_rfl) (by kernel_rfl) (fun _ _ _ h=>h) (by rfl) ?y7n HS ?r7n;case y7n=>(intro w hS;(try dsimp only at hS);obtain ⟨q0,q1,t0,t1,t2⟩:=hS;go_simp;try with_reducible rfl)
 simp only [Act.put,List.setIfInBounds_toArray,List.set_cons_zero,List.set_cons_succ];refine zad 8 (some 13) (v:=?v8n) rfl rfl (by kernel_rfl) (by decide) (by kernel_rfl) (by kernel_rfl) (by kernel_rfl) (fun _ _ _ h=>h) (by rfl) ?y8n HS ?r8n;case y8n=>(intro w hS;(try dsimp only at hS);obtain ⟨q0,q1,t0,t1,t2⟩:=hS;go_simp;try with_reducible rfl)
 simp only [Act.put,List.setIfInBounds_toArray,List.set_cons_zero,List.set_cons_succ];refine zad 9 (some 14) (v:=?v9n) rfl rfl (by kernel_rfl) (by decide) (by kernel_rfl) (by kernel_rfl) (by kernel_rfl) (fun _ _ _ h=>h) (by rfl) ?y9n HS ?r9n;case y9n=>(intro w hS;(try dsimp only at hS);obtain ⟨q0,q1,t0,t1,t2⟩:=hS;go_simp;try with_reducible rfl)
 simp only [Act.put,List.setIfInBounds_toArray,List.set_cons_zero,List.set_cons_succ];refine zaD 10 rfl (by kernel_rfl) fun K hK'=>?_;go_simp;refine hK' _ _ (fun _=>⟨zar HS.1 _,zar HS.2.1 _,zar HS.2.2.1 _,zar HS.2.2.2.1 _,zar HS.2.2.2.2 _⟩) ?_;clear hK' K;try simp only [Act.put,List.setIfInBounds_toArray,List.set_cons_zero,List.set_cons_succ]
 refine zaD 11 rfl (by kernel_rfl) fun K hK'=>?_;go_simp;refine hK' _ _ (fun h=>absurd rfl h) ?_;clear hK' K;refine zbq (by kernel_rfl) ?_ _;have hbl:Below w.heap.size w (w.alloc (.cells #[.int .i64 tk,.string tx,.int .i64 tp] 160)).drew:=((Below.refl _ w).alloc (Nat.le_refl _) _).trans ⟨rfl,rfl,rfl,Nat.le_refl _,fun _ _=>rfl⟩;have tb:Bk (w.alloc (.cells #[.int .i64 tk,.string tx,.int .i64 tp] 160)).drew w.heap.size #[.int .i64 tk,.string tx,.int .i64 tp] 160:=Bk.new w _ _;have h3:PAt (w.alloc (.cells #[.int .i64 tk,.string tx,.int .i64 tp] 160)).drew g _ c T i e p:=h.below hbl;have hq3:=hq.below hbl;clear h h2 u0 u1 s0 s1 s2 HS hq;generalize (w.alloc (.cells #[.int .i64 tk,.string tx,.int .i64 tp] 160)).drew=W at *
 have u1:W.cell? ⟨g,1,none⟩=some (.int .i64 i):=h3.cells.cell 1;have u2:W.cell? ⟨g,2,none⟩=some (.int .i64 e):=h3.cells.cell 2;have z1:=h3.cells.fz 1;have c0:W.cell? ⟨w.heap.size,0,none⟩=some (.int .i64 tk):=tb.cell 0;have c1:W.cell? ⟨w.heap.size,1,none⟩=some (.string tx):=tb.cell 1;have lt3:=h3.cells.lt;have ltb:=tb.lt;have hgb:(w.heap.size=g)=False:=by
  have:g<w.heap.size:=lt;exact eq_false (by omega)
 have hgb2:(g=w.heap.size)=False:=by
  have:g<w.heap.size:=lt;exact eq_false (by omega)
 have kk:∀W,_:=fun W=>zjW tx W;have e2:(((tk:Nat):Int) == 1)=decide (tk=1):=by
  by_cases hk:tk=1
  · subst hk;rfl
  · rw [decide_eq_false hk,beq_eq_false_iff_ne];omega
 have hN:∀l,q = .ok l→isN q=(decide (tk=1) && !keyB tx):=by
  rintro l rfl;obtain ⟨rfl,rfl⟩:=hs;show (decide _ && !keyB _)=_;rw [hd]
 have HN:=Lib.hid hN;clear hN;have kf:∀W,PSt W g q→_:=fun W H=>zhq (w:=W) H;cases hn:isN q with
 | true =>
  have hq2:∃l,q = .ok l:=by
   cases q with
   | error x=>cases hn
   | ok l=>exact ⟨l,rfl⟩
  obtain ⟨l,rfl⟩:=hq2;have hN:=HN.out l rfl;rw [hn] at hN;have hN1:decide (tk=1)=true:=by revert hN;cases decide (tk=1) <;> simp
  have hN2:keyB tx=false:=by revert hN;cases keyB tx <;> simp
  obtain ⟨rfl,rfl⟩:=hs;have hf:Fine (T.drop i).tail:=zhW h3.fine hn;have hU:zaF (.ok (T.drop i))=(tx,upU (.ok (T.drop i))):=by
   unfold zaF;rw [if_pos hn];show (((hdT (T.drop i)).2.1,_):ByteArray × St)=_;rw [hd]
  have e3:((tk:Nat):Int)=1:=by have:=of_decide_eq_true hN1;omega
  clear e2;rw [hN2] at kk;have HU:=Lib.hid hU;clear hU hN hn hd HN hN1 hN2;go_wp2_with ((with_reducible refine (kk _).mono ?_);rintro e w2 ⟨rfl,rfl⟩)
  go_returns
  refine ⟨(Kp.of_below hbl g).trans (zdu g w.heap.size _ 1 _),⟨_,rfl,?_⟩,?_⟩
  · rw [HU.out];rfl
  · rw [HU.out];exact h3.up hf
 | false =>
  have hU:zaF q=(⟨#[]⟩,zdV 30 q):=by
   unfold zaF;rw [if_neg (by rw [hn];decide)]
  have HU:=Lib.hid hU;cases q with
  | error x =>
   obtain ⟨rfl,hx,rfl⟩:=hs;have d0:(((x.1:Nat):Int) == 0)=false:=by rw [beq_eq_false_iff_ne];omega
   generalize decide (tk=1)=f1 at *
   generalize keyB tx=f2 at *
   clear hd HN hU hn;cases f1 <;> cases f2;all_goals go_wp2_with (first
    | ((with_reducible refine (kk _).mono ?_);rintro e w2 ⟨rfl,rfl⟩)
    | ((with_reducible refine (kf _ hq3).mono ?_);rintro e w4 ⟨hk,⟨v,rfl,rfl⟩,h5⟩;obtain ⟨A5,c5,T5,i5,e5,p5,h6,rfl,_,rfl⟩:=id h5;have u5:w4.cell? ⟨g,2,none⟩=some (.int .i64 (x.1:Nat)):=h6.cells.cell 2))
   all_goals go_returns
   all_goals (first
    | exact ⟨(Kp.of_below hbl g).trans (hk.more hbl.size),⟨_,rfl,by rw [HU.out];rfl⟩,by rw [HU.out];exact h5⟩
    | exact ⟨Kp.of_below hbl g,⟨_,rfl,by rw [HU.out];rfl⟩,by rw [HU.out];exact hq3⟩)
  | ok l =>
   have hN:=HN.out l rfl;rw [hn] at hN;obtain ⟨rfl,rfl⟩:=hs;by_cases hk1:tk=1
   · have e3:((tk:Nat):Int)=1:=by omega
     have hkt:keyB tx=true:=by
      rw [decide_eq_true hk1] at hN;revert hN
      cases keyB tx <;> simp
     rw [hkt] at kk;clear hd HN hU hn hN e2 hk1 hkt;go_wp2_with (first
      | ((with_reducible refine (kk _).mono ?_);rintro e w2 ⟨rfl,rfl⟩)
      | ((with_reducible refine (kf _ hq3).mono ?_);rintro e w4 ⟨hk,⟨v,rfl,rfl⟩,h5⟩;obtain ⟨A5,c5,T5,i5,e5,p5,h6,rfl,_,rfl⟩:=id h5;have u5:w4.cell? ⟨g,2,none⟩=some (.int .i64 (30:Nat)):=h6.cells.cell 2))
     go_returns
     exact ⟨(Kp.of_below hbl g).trans (hk.more hbl.size),⟨_,rfl,by rw [HU.out];rfl⟩,by rw [HU.out];exact h5⟩
   · have e3:¬((tk:Nat):Int)=1:=by omega
     generalize keyB tx=f2 at *
     clear hd HN hU hn hN e2 hk1;cases f2;all_goals go_wp2_with (first
      | ((with_reducible refine (kk _).mono ?_);rintro e w2 ⟨rfl,rfl⟩)
      | ((with_reducible refine (kf _ hq3).mono ?_);rintro e w4 ⟨hk,⟨v,rfl,rfl⟩,h5⟩;obtain ⟨A5,c5,T5,i5,e5,p5,h6,rfl,_,rfl⟩:=id h5;have u5:w4.cell? ⟨g,2,none⟩=some (.int .i64 (30:Nat)):=h6.cells.cell 2))
     all_goals go_returns
     all_goals exact ⟨(Kp.of_below hbl g).trans (hk.more hbl.size),⟨_,rfl,by rw [HU.out];rfl⟩,by rw [HU.out];exact h5⟩
end
end Go.Proofs.YtiepddmagfmllaaGreat
namespace Go.Proofs.YtiepddmagfmllaaGreat
open Go.RowKit
open Go.RowKit
def zbr:St→Nat
 | .ok l=>l.length
 | .error _=>0
theorem ze6 {q:St}:zbr (upU q)≤zbr q-1:=by
 cases q with
 | error x=>exact Nat.zero_le _
 | ok l=>show l.tail.length≤l.length-1;rw [List.length_tail];exact Nat.le_refl _
theorem zdK {c:Nat} {q:St}:zbr (zdV c q)≤zbr q:=by
 cases q <;> exact Nat.zero_le _
theorem zfO {s:ByteArray} {q:St} (hs:0<s.size) (h:isU s q=true):zbr (upU q) + 1=zbr q:=by
 cases q with
 | error x=>cases h
 | ok l=>exact zay hs h
theorem zj0 (w:World) (a:Addr) (v:Value):(w.setCell a v).heap.size=w.heap.size:=by simp [World.setCell]
def RewUp (f:Nat):Prop:=∀(w:World) (g:Nat) (q:St) (d:Nat),PSt w g q→zbr q<f→d≤8→Calls Tryz.prog 108 #[.pointer (some ⟨g,0,none⟩),.int .i64 d] w (zdZ (NDVOps w.heap.size) w g (zjb f d q))
def zhE (f:Nat):Prop:=∀(w:World) (g:Nat) (q:St) (d:Nat),PSt w g q→zbr q<f→d≤8→Calls Tryz.prog 140 #[.pointer (some ⟨g,0,none⟩),.int .i64 d] w (zdZ (NDVOps w.heap.size) w g (partU f d q))
theorem zlp (w:World) (k:Nat) (a b:ByteArray) (B:Nat) (hB:B≤w.heap.size):NDVOps B (w.alloc (.cells #[.int .i64 k,.string a,.string b] 60)) (.slice (some ⟨w.heap.size,0,none⟩) 1 1) [(k,a,b)] :=
 zhc w #[.int .i64 k,.string a,.string b] 60 1 3 B rfl (by decide) hB
section
variable {w:World} {g d:Nat} {q:St}
theorem rpart_any {f:Nat} (H:RewUp f):zhE (f + 1):=by
 intro w g q d h hl hd;have hlt:=h.size;have k:=ris_any h zcE;cases hb:isU zcE q with
 | true =>
  have hU:partU (f + 1) d q=([(1,⟨#[]⟩,⟨#[]⟩)],upU q):=by unfold partU;rw [if_pos hb]
  have HU:=Lib.hid hU;rw [hb] at k;obtain ⟨l,rfl,he⟩:=zcN hb;obtain ⟨A,c,T,i,e,p,h,rfl,rfl⟩:=h;have hf:=h.fine.next (by decide) he;obtain ⟨_,_,_,hi,_⟩:=h.get;have hm:=h.few;clear hU hb he;go_enter Tryz.func140,Tryz.ntmps140
  go_wp2_with fail
  refine k.mono ?_;rintro e1 w1 ⟨rfl,hb1⟩;have h1:=h.below hb1;have u1:w1.cell? ⟨g,1,none⟩=some (.int .i64 i):=h1.cells.cell 1;have z1:=h1.cells.fz 1;have lt1:=h1.cells.lt;go_wp2_with fail
  go_returns
  have k2:=(Kp.of_below hb1 g).trans (zdu g w.heap.size w1 1 (.int .i64 ((i:Int) + 1)));refine ⟨k2.alloc k2.size _,⟨_,rfl,?_⟩,?_⟩
  · rw [HU.out];have o1:=zlp (w1.setCell ⟨g,1,none⟩ (.int .i64 ((i:Int) + 1))) 1 ⟨#[]⟩ ⟨#[]⟩ w.heap.size k2.size;rw [zj0] at o1;exact o1
  · rw [HU.out];exact (h1.up hf).alloc _
 | false =>
  rw [hb] at k;have hb':¬isU zcE q=true:=by rw [hb];decide
  cases hc:isU (sg 40) q with
  | true =>
   have hlen:=zfO (zam 40) hc;obtain ⟨l,rfl,he⟩:=zcN hc;have hq:=h;obtain ⟨A,c,T,i,e,p,h,rfl,rfl⟩:=h;have hf:=h.fine.next (zam 40) he;obtain ⟨_,_,_,hi,_⟩:=h.get;have hm:=h.few;by_cases h8:d=8
   · have hU:partU (f + 1) d (.ok (T.drop i))=([],zdV 13 (.ok (T.drop i))):=by unfold partU;rw [if_neg hb',if_pos hc,if_pos h8]
     have HU:=Lib.hid hU;have d8:(d:Int)=8:=by omega
     clear hU hb hb' he;go_enter Tryz.func140,Tryz.ntmps140
     go_wp2_with fail
     refine k.mono ?_;rintro e1 w1 ⟨rfl,hb1⟩;have h1:=hq.below hb1;have k2:=ris_any h1 (sg 40);rw [hc] at k2;go_wp2_with fail
     refine k2.mono ?_;rintro e2 w2 ⟨rfl,hb2⟩;have h2:=h1.below hb2;have kb:=(Kp.of_below hb1 g).trans ((Kp.of_below hb2 g).more hb1.size);clear hc;go_wp2_with fail
     refine (rfail13 h2).mono ?_;rintro e3 w3 ⟨hk,⟨v,rfl,rfl⟩,h3⟩;go_wp2_with fail
     go_returns
     refine ⟨kb.trans (hk.more kb.size),⟨_,rfl,?_⟩,?_⟩
     · rw [HU.out];exact World.ownsRow_nil _ _ _ _
     · rw [HU.out];exact h3
   · have hU:partU (f + 1) d (.ok (T.drop i))=((zjb f (d + 1) (upU (.ok (T.drop i)))).1,zaC (sg 41) (zjb f (d + 1) (upU (.ok (T.drop i)))).2):=by unfold partU;rw [if_neg hb',if_pos hc,if_neg h8];rfl
     have HU:=Lib.hid hU;have d8:¬(d:Int)=8:=by omega
     have hd2:(d:Int)≤8:=by omega
     clear hU hb hb' he;go_enter Tryz.func140,Tryz.ntmps140
     go_wp2_with fail
     refine k.mono ?_;rintro e1 w1 ⟨rfl,hb1⟩;have h1:=hq.below hb1;have k2:=ris_any h1 (sg 40);rw [hc] at k2;go_wp2_with fail
     refine k2.mono ?_;rintro e2 w2 ⟨rfl,hb2⟩;have h2:=(h.below hb1).below hb2;have kb:=(Kp.of_below hb1 g).trans ((Kp.of_below hb2 g).more hb1.size);clear hc;have u1:w2.cell? ⟨g,1,none⟩=some (.int .i64 i):=h2.cells.cell 1;have z1:=h2.cells.fz 1;have lt2:=h2.cells.lt;go_wp2_with fail
     have h3:=h2.up hf;have k3:=kb.trans (zdu g w.heap.size w2 1 (.int .i64 ((i:Int) + 1)));generalize w2.setCell ⟨g,1,none⟩ (.int .i64 ((i:Int) + 1))=W at *
     refine (H W g _ (d + 1) h3 (by omega) (by omega)).mono ?_;generalize zjb f (d + 1) (upU (.ok (T.drop i)))=r at *
     rintro e3 w3 ⟨hk,⟨v,rfl,hv⟩,h4⟩;have k4:=k3.trans (hk.more k3.size);have hv4:NDVOps w.heap.size w3 v r.1:=zav hv k3.size;obtain ⟨Av,cv,rfl,_⟩:=Rd.own hv4;go_wp2_with fail
     refine (rneed_any h4 (zam 41)).mono ?_;rintro e5 w5 ⟨hk5,⟨v,rfl,rfl⟩,h5⟩;go_wp2_with fail
     go_returns
     refine ⟨k4.trans (hk5.more k4.size),⟨_,rfl,?_⟩,?_⟩
     · rw [HU.out];exact zaM hv4 hk5 hlt
     · rw [HU.out];exact h5
  | false =>
   have hc':¬isU (sg 40) q=true:=by rw [hc];decide
   have k0:=fun W H=>ris_any (w:=W) (g:=g) (q:=q) H (sg 40);rw [hc] at k0;obtain ⟨r,hr⟩:∃r,zaF q=r:=⟨_,rfl⟩;have kn:=pname_any (w:=w) (g:=g) (q:=q);go_enter Tryz.func140,Tryz.ntmps140
   go_wp2_with fail
   refine k.mono ?_;rintro e1 w1 ⟨rfl,hb1⟩;have h1:=h.below hb1;go_wp2_with fail
   refine (k0 _ h1).mono ?_;rintro e2 w2 ⟨rfl,hb2⟩;have h2:=h1.below hb2;have kb:=(Kp.of_below hb1 g).trans ((Kp.of_below hb2 g).more hb1.size);clear k0 kn h1 hb1 hb2 k;go_wp2_with fail
   refine (pname_any h2).mono ?_;rw [hr];rintro e3 w3 ⟨hk,⟨v,rfl,hvs⟩,h3⟩;obtain rfl:v = .string r.1:=hvs;have k3:=kb.trans (hk.more kb.size);clear kb hk h2;have hz3:=k3.size;have hg3:=h3.size;have h4:=h3.alloc (.cells #[.int .i64 2,.string r.1,.string ⟨#[]⟩] 60);have b4:=Bk.new w3 #[.int .i64 2,.string r.1,.string ⟨#[]⟩] 60;have k4:=k3.alloc hz3 (.cells #[.int .i64 2,.string r.1,.string ⟨#[]⟩] 60);have kd:=ris_any h4 (sg 46);cases hdot:isU (sg 46) r.2 with
   | false =>
    have hU:partU (f + 1) d q=([(2,r.1,⟨#[]⟩)],r.2):=by
     unfold partU;rw [if_neg hb',if_neg hc',hr];show (if isU (sg 46) r.2=true then _ else _)=_;rw [if_neg (by rw [hdot];decide)]
    have HU:=Lib.hid hU;rw [hdot] at kd;clear hU hr;go_wp2_with fail
    refine kd.mono ?_;rintro e5 w5 ⟨rfl,hb5⟩;have k5:=k4.trans ((Kp.of_below hb5 g).more k4.size);have h5:=h4.below hb5;have b5:=b4.below hb5;have c0:w5.cell? ⟨w3.heap.size,0,none⟩=some (.int .i64 2):=b5.cell 0;have c1:w5.cell? ⟨w3.heap.size,1,none⟩=some (.string r.1):=b5.cell 1;have c2:w5.cell? ⟨w3.heap.size,2,none⟩=some (.string ⟨#[]⟩):=b5.cell 2;go_wp2_with fail
    go_returns
    refine ⟨k5.alloc k5.size _,⟨_,rfl,?_⟩,?_⟩
    · rw [HU.out];exact zlp w5 2 r.1 ⟨#[]⟩ w.heap.size k5.size
    · rw [HU.out];exact h5.alloc _
   | true =>
    obtain ⟨m,hm⟩:∃m,zaF (upU r.2)=m:=⟨_,rfl⟩;have hU:partU (f + 1) d q=([(3,r.1,m.1)],m.2):=by
     unfold partU;rw [if_neg hb',if_neg hc',hr];show (if isU (sg 46) r.2=true then _ else _)=_;rw [if_pos hdot];show ([(3,r.1,(zaF (upU r.2)).1)],(zaF (upU r.2)).2)=_;rw [hm]
    have HU:=Lib.hid hU;rw [hdot] at kd;obtain ⟨l,hl2,he⟩:=zcN hdot;generalize r.2=q2 at *
    subst hl2;clear hU hr hdot;go_wp2_with fail
    refine kd.mono ?_;rintro e5 w5 ⟨rfl,hb5⟩;have k5:=k4.trans ((Kp.of_below hb5 g).more k4.size);have b5:=b4.below hb5;obtain ⟨A,c,T,i,e,p,h5,rfl,rfl⟩:=h4.below hb5;have hf:=h5.fine.next (zam 46) he;obtain ⟨_,_,_,hi,_⟩:=h5.get;have hmT:=h5.few;have u1:w5.cell? ⟨g,1,none⟩=some (.int .i64 i):=h5.cells.cell 1;have z1:=h5.cells.fz 1;have lt5:=h5.cells.lt;have c0:w5.cell? ⟨w3.heap.size,0,none⟩=some (.int .i64 2):=b5.cell 0;have zo:=b5.fz 0;have hne:w3.heap.size≠g:=by omega
    have hgo:(w3.heap.size=g)=False:=eq_false hne;have hgo2:(g=w3.heap.size)=False:=eq_false (Ne.symm hne);go_wp2_with fail
    have h6:=(h5.up hf).set (a:=⟨w3.heap.size,0,none⟩) (by dsimp only;omega) (.int .i64 3);have k6:Kp g w.heap.size w ((w5.setCell ⟨g,1,none⟩ (.int .i64 ((i:Int) + 1))).setCell ⟨w3.heap.size,0,none⟩ (.int .i64 3)):=(k5.trans (zdu g w.heap.size w5 1 (.int .i64 ((i:Int) + 1)))).set (by dsimp only;omega) _;have b6:Bk ((w5.setCell ⟨g,1,none⟩ (.int .i64 ((i:Int) + 1))).setCell ⟨w3.heap.size,0,none⟩ (.int .i64 3)) w3.heap.size #[.int .i64 3,.string r.1,.string ⟨#[]⟩] 60:=(b5.other (a:=⟨g,1,none⟩) (by dsimp only;omega) (.int .i64 ((i:Int) + 1))).set 0 (.int .i64 3);clear h5 b5 k5 u1 z1 lt5 c0 zo kd h4 b4 k4 h3;generalize (w5.setCell ⟨g,1,none⟩ (.int .i64 ((i:Int) + 1))).setCell ⟨w3.heap.size,0,none⟩ (.int .i64 3)=w6 at *
    generalize w3.heap.size=bo at *
    refine (pname_any h6).mono ?_;rw [hm];rintro e7 w7 ⟨hk,⟨v,rfl,hvs⟩,h7⟩;obtain rfl:v = .string m.1:=hvs;have k7:=k6.trans (hk.more k6.size);have b7:=b6.kp hk hne;have c0:w7.cell? ⟨bo,0,none⟩=some (.int .i64 3):=b7.cell 0;have c1:w7.cell? ⟨bo,1,none⟩=some (.string r.1):=b7.cell 1;have c2:w7.cell? ⟨bo,2,none⟩=some (.string ⟨#[]⟩):=b7.cell 2;have zo:=b7.fz 2;have lt7:=b7.lt;go_wp2_with fail
    go_returns
    have h8:=h7.set (a:=⟨bo,2,none⟩) (by dsimp only;omega) (.string m.1);have k8:=k7.set (a:=⟨bo,2,none⟩) (by dsimp only;omega) (.string m.1);refine ⟨k8.alloc k8.size _,⟨_,rfl,?_⟩,?_⟩
    · rw [HU.out];have o1:=zlp (w7.setCell ⟨bo,2,none⟩ (.string m.1)) 3 r.1 m.1 w.heap.size k8.size;rw [zj0] at o1;exact o1
    · rw [HU.out];exact h8.alloc _
end
theorem zbi {s:ByteArray} {q:St}:zbr (zaC s q)≤zbr q:=by
 unfold zaC;split
 · have:=@ze6 q;omega
 · exact zdK
theorem za8 {q:St}:zbr (zaF q).2≤zbr q:=by
 unfold zaF;split
 · have:=@ze6 q;show zbr (upU q)≤_;omega
 · exact zdK
theorem zjH {q:St} (h:¬opU q=0):zbr (upU q) + 1=zbr q:=by
 cases q with
 | error x=>exact absurd rfl h
 | ok l=>exact zd4 h
theorem zbV:∀f:Nat,(∀d q,(partU f d q).1.length + 2 * zbr (partU f d q).2≤2 * zbr q + 1∧zbr (partU f d q).2≤zbr q)∧(∀d acc q,(moreU f d acc q).1.length + 2 * zbr (moreU f d acc q).2≤acc.length + 2 * zbr q∧zbr (moreU f d acc q).2≤zbr q)
 | 0=>by
  refine ⟨fun d q=>?_,fun d acc q=>?_⟩
  · unfold partU;have:=@zdK 30 q;simp only [List.length_nil];omega
  · unfold moreU;have:=@zdK 30 q;simp only;omega
 | f + 1=>by
  obtain ⟨ih1,ih2⟩:=zbV f;constructor
  · intro d q;unfold partU;split
    · rename_i h
      have:=zfO (show 0<zcE.size by decide) h;simp only [List.length_cons,List.length_nil];omega
    · split
      · rename_i h
        have h1:=zfO (zam 40) h;split
        · have:=@zdK 13 q;simp only [List.length_nil];omega
        · show (moreU f (d + 1) (partU f (d + 1) (upU q)).1 (partU f (d + 1) (upU q)).2).1.length + 2 * zbr (zaC (sg 41) (moreU f (d + 1) (partU f (d + 1) (upU q)).1 (partU f (d + 1) (upU q)).2).2)≤_∧zbr (zaC (sg 41) (moreU f (d + 1) (partU f (d + 1) (upU q)).1 (partU f (d + 1) (upU q)).2).2)≤_;have a:=ih1 (d + 1) (upU q);have b:=ih2 (d + 1) (partU f (d + 1) (upU q)).1 (partU f (d + 1) (upU q)).2;have c:=@zbi (sg 41) (moreU f (d + 1) (partU f (d + 1) (upU q)).1 (partU f (d + 1) (upU q)).2).2;omega
      · show (if isU (sg 46) (zaF q).2=true then _ else _:List OpP × St).1.length + 2 * zbr (if isU (sg 46) (zaF q).2=true then _ else _:List OpP × St).2≤_∧zbr (if isU (sg 46) (zaF q).2=true then _ else _:List OpP × St).2≤_;have a:=@za8 q;split
        · show [(3,(zaF q).1,(zaF (upU (zaF q).2)).1)].length + 2 * zbr (zaF (upU (zaF q).2)).2≤_∧zbr (zaF (upU (zaF q).2)).2≤_;have b:=@za8 (upU (zaF q).2);have c:=@ze6 (zaF q).2;simp only [List.length_cons,List.length_nil];omega
        · simp only [List.length_cons,List.length_nil];omega
  · intro d acc q;unfold moreU;split
    · exact ⟨Nat.le_refl _,Nat.le_refl _⟩
    · rename_i h
      have h1:=zjH h;show (moreU f d (acc ++ (partU f d (upU q)).1 ++ [(opU q,⟨#[]⟩,⟨#[]⟩)]) (partU f d (upU q)).2).1.length + 2 * zbr (moreU f d (acc ++ (partU f d (upU q)).1 ++ [(opU q,⟨#[]⟩,⟨#[]⟩)]) (partU f d (upU q)).2).2≤_∧zbr (moreU f d (acc ++ (partU f d (upU q)).1 ++ [(opU q,⟨#[]⟩,⟨#[]⟩)]) (partU f d (upU q)).2).2≤_;have a:=ih1 d (upU q);have b:=ih2 d (acc ++ (partU f d (upU q)).1 ++ [(opU q,⟨#[]⟩,⟨#[]⟩)]) (partU f d (upU q)).2;simp only [List.length_append,List.length_cons,List.length_nil] at b;omega
def zff (w:World) (g:Nat):Nat:=match w.cell? ⟨g,0,none⟩,w.cell? ⟨g,1,none⟩,w.cell? ⟨g,2,none⟩ with
 | some (.slice _ n _),some (.int _ i),some (.int _ e)=>if e=0 then n-i.toNat else 0
 | _,_,_=>0
theorem PSt.left {w:World} {g:Nat} {q:St} (h:PSt w g q):zff w g=zbr q:=by
 obtain ⟨A,c,T,i,e,p,h,hs⟩:=h;have u0:w.cell? ⟨g,0,none⟩=some (.slice A T.length c):=h.cells.cell 0;have u1:w.cell? ⟨g,1,none⟩=some (.int .i64 i):=h.cells.cell 1;have u2:w.cell? ⟨g,2,none⟩=some (.int .i64 e):=h.cells.cell 2;unfold zff;rw [u0,u1,u2];cases q with
 | error x =>
  obtain ⟨rfl,hx,rfl⟩:=hs;exact if_neg (by omega)
 | ok l =>
  obtain ⟨rfl,rfl⟩:=hs;show _=(T.drop i).length;rw [List.length_drop];exact if_pos rfl
theorem PSt.few {w:World} {g:Nat} {q:St} (h:PSt w g q):zbr q≤1000000:=by
 obtain ⟨A,c,T,i,e,p,h,hs⟩:=h;cases q with
 | error x=>exact Nat.zero_le _
 | ok l =>
  obtain ⟨rfl,rfl⟩:=hs;have:=h.few;show (T.drop i).length≤_;rw [List.length_drop];omega
end Go.Proofs.YtiepddmagfmllaaGreat
namespace Go.Proofs.YtiepddmagfmllaaGreat
open Go.RowKit
theorem zaP {w w':World} {a:Addr} {v:Value} (h:w.cell? a=some v) (hb:Below w.heap.size w w'):w'.cell? a=some v:=(hb.cell (World.block_lt_of_cell? _ _ h)).trans h
theorem zcW (w:World) (a b c:Value) (t:TypeId):∀j u,[a,b,c][j]? = some u→(w.alloc (.cells #[a,b,c] t)).cell? ((⟨w.heap.size,0,none⟩:Addr).add j)=some u:=by
 intro j u hj;rw [Addr.add_lit,cell_of_row _ _ _ _ _ _ (heap_alloc_new w _),Nat.zero_add];simpa using hj
theorem Bk.new2N (w:World) (o:Obj) (cs:Array Value) (t:TypeId):Bk ((w.alloc o).alloc (.cells cs t)) (w.heap.size + 1) cs t:=by
 have h:=Bk.new (w.alloc o) cs t;rw [show (w.alloc o).heap.size=w.heap.size + 1 by simp] at h;exact h
theorem ziy (a:ByteArray) (p:Option Addr) (n c:Nat):∀u ∈ [Value.string a,.slice p n c],u.oneCell'=true:=by
 intro u hu;simp only [List.mem_cons,List.not_mem_nil,or_false] at hu;rcases hu with rfl | rfl <;> rfl
end Go.Proofs.YtiepddmagfmllaaGreat
