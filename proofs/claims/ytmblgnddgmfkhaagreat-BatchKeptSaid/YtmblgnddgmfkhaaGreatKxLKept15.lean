/- The statement BatchKept, proved: for every input the call returns true and each argument reads behind it as it read before; no condition (the form's own reach holds each string and slice under 2^47 bytes). -/
import Derived.SizedLaws
import Derived.Test.YtmblgnddgmfkhaaGreatK44
import Derived.Test.YtmblgnddgmfkhaaGreatKxWKept15
set_option maxRecDepth 100000
set_option maxHeartbeats 4000000
namespace Go.Proofs.YtmblgnddgmfkhaaGreat
open Go.ChangeShapes Go.WideShapes Go.ChangeAt Go.RowKit
open Go.ChangeMaps (open_string shut_string)
theorem batchKept_lifted (os:Os) (started:os.Started) (H:Type) (enc:TypeId × Value→H) :
 ReturnsInHanded {} Tryz.checked os 8 .any (Rows.batchKeptSpec.pre6 enc Tryz.prog Tryz.f8 Rows.batchKeptRow.domain false) (Rows.batchKeptSpec.post enc Tryz.prog Tryz.f8 false true false false):=by
 refine returnsInHanded_of_change_sized (C:=Tryz.checked) own_ started yaa Tryz.func8
  (ChangeSpec.witness6 (enc:=enc) (C:=Tryz.checked) false ⟨#[],#[.slice none 0 0,.int .i64 0,.agg #[.string .empty,.string .empty,.string .empty,.string .empty,.string .empty,.string .empty]],[]⟩ 8 yaa yaa yaa yaa) ?_
 intro W base b Q gs s g F G n _;have f:∀(j:Nat) t v,Tryz.f8.params[j]? = some t→b[j]? = some v→Value.okWide Tryz.prog W .any base t v:=g;have u:=F;obtain ⟨p,q,o,R,rfl,T,U⟩:=F;have I:DataW.TrodAll enc Tryz.prog W 0 (fun _=>true) true Tryz.f8.params.toList b.toList Q p:=o;rw [Tryz.params8] at I f n;obtain ⟨v0,V,d0,X,Y,q0,y,rfl,rfl,J,t0⟩:=trodAll_cons I;obtain ⟨K,Z,d1,a1,p1,q1,rfl,rfl,rfl,h1,t1⟩:=trodAll_cons t0;obtain ⟨L,a2,d2,a6,p2,q2,rfl,rfl,rfl,M,t2⟩:=trodAll_cons t1;obtain ⟨rfl,rfl,rfl⟩:=trodAll_nil t2;obtain rfl:b=#[v0,K,L]:=by cases b;simp_all
 obtain ⟨rfl,rfl⟩:=trodVars_none R;have N:=J;have z:∀x ∈ Y,x.block<W.heap.size:=by obtain ⟨m,A⟩:=N;exact DataW.trod_lt m _ _ _ A
 have B:Sz Tryz.prog 140737488351232 22 d0:=fun k hk=>yaL (ybr.1 n _ (DataW.weights_mem_each (j:=0) (t:=22) (d:=d0) rfl rfl k hk));obtain ⟨A0,c0,l0,rfl,r0,f0⟩:=rd_acts15 (f 0 22 v0 rfl rfl) J B;obtain ⟨x1,rfl,rfl,rfl,O⟩:=open_int Tryz.underlying3 (f 1 3 K rfl rfl) h1;have P:=M;have D:∀x ∈ p2,x.block<W.heap.size:=by obtain ⟨m,A⟩:=P;exact DataW.trod_lt m _ _ _ A
 have E:Sz Tryz.prog 140737488351232 51 d2:=fun k hk=>yaL (ybr.1 n _ (DataW.weights_mem_each (j:=2) (t:=51) (d:=d2) rfl rfl k hk));obtain ⟨u2,rfl,f2⟩:=rd_tuple15 (f 2 51 L rfl rfl) M E;clear o g;refine (batchKept_walk A0 c0 l0 x1 u2 W r0 f0 O f2).mono fun e W' ⟨he,bel⟩=>?_;subst he;exact ⟨_,rfl,_,_,_,[],_,[],u,trodAll_mk1 (shut_bool Tryz.underlying4 _),(trodAll_cons_mk (Below.trod znr yaa (yaL yaa) N bel z) (trodAll_cons_mk (shut_int Tryz.underlying3 O) (trodAll_cons_mk (Below.trod znr yaa (yaL yaa) P bel D) trodAll_mk0))),rfl,bel.frame _,fun h=>by cases h⟩
theorem and_t {a b:Bool} (ha:a=true) (hb:b=true):(a && b)=true:=by rw [ha,hb];rfl
theorem batchKept_facts:joinedFacts Tryz.prog 8 Tryz.f8 Rows.batchKeptSpec Rows.batchKeptRow=true:=by
 unfold joinedFacts;repeat' with_reducible refine and_t ?_ ?_
 all_goals (as_aux_lemma=>kernel_rfl)
theorem batchKept_holds:Rows.BatchKeptSaid :=
 OpenClaim.holds_of_wide 8 Tryz.f8 rfl rfl rfl rfl rfl rfl rfl ⟨rfl,rfl,rfl,rfl,rfl⟩ rfl rfl rfl rfl rfl yaa Tryz.func8 batchKept_facts
  (yaL yaa) (by unfold Func.isWrapper;first | (rw [yan (by decide +kernel)];kernel_rfl) | (rw [yak (by decide +kernel)];exact ⟨rfl,rfl⟩))
  (fun os b H f _=>batchKept_lifted os b H f)
#print axioms batchKept_holds
end Go.Proofs.YtmblgnddgmfkhaaGreat
