/- The statement BatchOnce, proved: for every input the call returns true and each argument reads behind it as it read before; no condition (the form's own reach holds each string and slice under 2^47 bytes). -/
import Derived.SizedLaws
import Derived.Test.YtmblgnddgmfkhaaGreatQ39
import Derived.Test.YtmblgnddgmfkhaaGreatQxWOnce15
set_option maxRecDepth 100000
set_option maxHeartbeats 4000000
namespace Go.Proofs.YtmblgnddgmfkhaaGreat
open Go.ChangeShapes Go.WideShapes Go.ChangeAt Go.RowKit
open Go.ChangeMaps (open_string shut_string)
theorem batchOnce_lifted (os:Os) (started:os.Started) (H:Type) (enc:TypeId × Value→H) :
 ReturnsInHanded {} Tryz.checked os 6 .any (Rows.batchOnceSpec.pre6 enc Tryz.prog Tryz.f6 Rows.batchOnceRow.domain false) (Rows.batchOnceSpec.post enc Tryz.prog Tryz.f6 false true false false):=by
 refine returnsInHanded_of_change_sized (C:=Tryz.checked) own_ started yaa Tryz.func6
  (ChangeSpec.witness6 (enc:=enc) (C:=Tryz.checked) false ⟨#[],#[.string .empty,.agg #[.string .empty,.string .empty,.string .empty,.string .empty,.string .empty,.string .empty],.agg #[.string .empty,.string .empty,.string .empty]],[]⟩ 8 yaa yaa yaa yaa) ?_
 intro W base b Q gs s g G I n _;have f:∀(j:Nat) t v,Tryz.f6.params[j]? = some t→b[j]? = some v→Value.okWide Tryz.prog W .any base t v:=g;have y:=G;obtain ⟨p,q,o,R,rfl,T,U⟩:=G;have J:DataW.TrodAll enc Tryz.prog W 0 (fun _=>true) true Tryz.f6.params.toList b.toList Q p:=o;rw [Tryz.params6] at J f n;obtain ⟨v0,V,d0,X,p0,q0,z,rfl,rfl,Y,t0⟩:=trodAll_cons J;obtain ⟨K,Z,d1,a1,p1,q1,rfl,rfl,rfl,L,t1⟩:=trodAll_cons t0;obtain ⟨M,a2,d2,a6,p2,q2,rfl,rfl,rfl,N,t2⟩:=trodAll_cons t1;obtain ⟨rfl,rfl,rfl⟩:=trodAll_nil t2;obtain rfl:b=#[v0,K,M]:=by cases b;simp_all
 obtain ⟨rfl,rfl⟩:=trodVars_none R;obtain ⟨u,rfl,rfl,rfl,f0⟩:=open_string Tryz.underlying9 (f 0 9 v0 rfl rfl) Y;have z0:u.size≤140737488351232:=yaQ (ybN.1 n _ (DataW.weights_mem_each (j:=0) (t:=9) (d:=.lit (.string u.data.toList)) rfl rfl u.size (by simp [DataW.weights])));have O:=L;have A:∀x ∈ p1,x.block<W.heap.size:=by obtain ⟨m,B⟩:=O;exact DataW.trod_lt m _ _ _ B
 have D:Sz Tryz.prog 140737488351232 51 d1:=fun k hk=>yaQ (ybN.1 n _ (DataW.weights_mem_each (j:=1) (t:=51) (d:=d1) rfl rfl k hk));obtain ⟨u1,rfl,f1⟩:=rd_tuple15 (f 1 51 K rfl rfl) L D;have P:=N;have E:∀x ∈ p2,x.block<W.heap.size:=by obtain ⟨m,B⟩:=P;exact DataW.trod_lt m _ _ _ B
 have F:Sz Tryz.prog 140737488351232 31 d2:=fun k hk=>yaQ (ybN.1 n _ (DataW.weights_mem_each (j:=2) (t:=31) (d:=d2) rfl rfl k hk));obtain ⟨u2,rfl,f2⟩:=rd_node15 (f 2 31 M rfl rfl) N F;clear o g;refine (batchOnce_walk u u1 u2 W z0 f1 f2).mono fun e W' ⟨he,bel⟩=>?_;subst he;exact ⟨_,rfl,_,_,_,[],_,[],y,trodAll_mk1 (shut_bool Tryz.underlying4 _),(trodAll_cons_mk (shut_string Tryz.underlying9 f0) (trodAll_cons_mk (Below.trod zmH yaa (yaQ yaa) O bel A) (trodAll_cons_mk (Below.trod zmH yaa (yaQ yaa) P bel E) trodAll_mk0))),rfl,bel.frame _,fun h=>by cases h⟩
theorem and_t {a b:Bool} (ha:a=true) (hb:b=true):(a && b)=true:=by rw [ha,hb];rfl
theorem batchOnce_facts:joinedFacts Tryz.prog 6 Tryz.f6 Rows.batchOnceSpec Rows.batchOnceRow=true:=by
 unfold joinedFacts;repeat' with_reducible refine and_t ?_ ?_
 all_goals (as_aux_lemma=>kernel_rfl)
theorem batchOnce_holds:Rows.BatchOnceSaid :=
 OpenClaim.holds_of_wide 6 Tryz.f6 rfl rfl rfl rfl rfl rfl rfl ⟨rfl,rfl,rfl,rfl,rfl⟩ rfl rfl rfl rfl rfl yaa Tryz.func6 batchOnce_facts
  (yaQ yaa) (by unfold Func.isWrapper;first | (rw [yan (by decide +kernel)];kernel_rfl) | (rw [yak (by decide +kernel)];exact ⟨rfl,rfl⟩))
  (fun os b H d _=>batchOnce_lifted os b H d)
#print axioms batchOnce_holds
end Go.Proofs.YtmblgnddgmfkhaaGreat
