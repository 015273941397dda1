import Derived.SizedLaws
import Derived.Test.YtmblgnddgmfkhaaGreatK44
import Derived.Test.YtmblgnddgmfkhaaGreatKxWBytes15
import Derived.Test.YtmblgnddgmfkhaaGreatKxFrm15
set_option maxRecDepth 100000
set_option maxHeartbeats 4000000
namespace Go.Proofs.YtmblgnddgmfkhaaGreat
open Go.ChangeShapes Go.WideShapes Go.ChangeAt Go.RowKit
open Go.ChangeMaps (open_string shut_string)
theorem batchBytes_lifted (os:Os) (started:os.Started) (H:Type) (enc:TypeId × Value→H) :
 ReturnsInHanded {} Tryz.checked os 3 .any (Rows.batchBytesSpec.pre6 enc Tryz.prog Tryz.f3 Rows.batchBytesRow.domain false) (Rows.batchBytesSpec.post enc Tryz.prog Tryz.f3 false true false false):=by
 refine returnsInHanded_of_change_sized (C:=Tryz.checked) own_ started (by kernel_rfl) Tryz.func3
  (ChangeSpec.witness6 (enc:=enc) (C:=Tryz.checked) false ⟨#[],#[.slice none 0 0,.slice none 0 0,.slice none 0 0,.int .u16 0],[]⟩ 8 (by kernel_rfl) (by kernel_rfl) (by kernel_rfl) (by kernel_rfl)) ?_
 intro W g b P gs o c A B i _;have a:∀(j:Nat) t v,Tryz.f3.params[j]? = some t→b[j]? = some v→Value.okWide Tryz.prog W .any g t v:=c;have r:=A;obtain ⟨p,q,l,Q,rfl,R,T⟩:=A;have D:DataW.TrodAll enc Tryz.prog W 0 (fun _=>true) true Tryz.f3.params.toList b.toList P p:=l;rw [Tryz.params3] at D a i;obtain ⟨E,U,d0,V,X,q0,s,rfl,rfl,F,Y⟩:=trodAll_cons D;obtain ⟨G,Z,d1,a0,p1,q1,rfl,rfl,rfl,I,t1⟩:=trodAll_cons Y;obtain ⟨J,a1,d2,a2,p2,q2,rfl,rfl,rfl,K,t2⟩:=trodAll_cons t1;obtain ⟨L,a3,d3,a4,p3,q3,rfl,rfl,rfl,h3,t3⟩:=trodAll_cons t2;obtain ⟨rfl,rfl,rfl⟩:=trodAll_nil t3;obtain rfl:b=#[E,G,J,L]:=by cases b;simp_all
 obtain ⟨rfl,rfl⟩:=trodVars_none Q;have M:=F;have u:∀x ∈ X,x.block<W.heap.size:=by obtain ⟨m,n⟩:=M;exact DataW.trod_lt m _ _ _ n
 have w:Sz Tryz.prog 140737488351232 22 d0:=fun k hk=>of_decide_eq_true (List.all_eq_true.1 i _ (DataW.weights_mem_each (j:=0) (t:=22) (d:=d0) rfl rfl k hk));obtain ⟨A0,c0,l0,rfl,r0,f0⟩:=rd_acts15 (a 0 22 E rfl rfl) F w;have N:=I;have y:∀x ∈ p1,x.block<W.heap.size:=by obtain ⟨m,n⟩:=N;exact DataW.trod_lt m _ _ _ n
 obtain ⟨A1,n1,c1,z1,rfl,r1,f1⟩:=rd_ints Tryz.underlying23 Tryz.underlying25 (by kernel_rfl) (a 1 23 G rfl rfl) I;have O:=K;have z:∀x ∈ p2,x.block<W.heap.size:=by obtain ⟨m,n⟩:=O;exact DataW.trod_lt m _ _ _ n
 obtain ⟨A2,n2,c2,l2,rfl,r2⟩:=rd_bytes Tryz.underlying24 Tryz.underlying5 (by kernel_rfl) (a 2 24 J rfl rfl) K;obtain ⟨x3,rfl,rfl,rfl,f3⟩:=open_int Tryz.underlying25 (a 3 25 L rfl rfl) h3;clear l c;refine (batchBytes_walk A0 c0 l0 A1 n1 c1 z1 A2 n2 c2 l2 x3 W r0 f0 r1 f1 r2 f3).mono fun e W' ⟨he,f⟩=>?_;subst he;exact ⟨_,rfl,_,_,_,[],_,[],r,trodAll_mk1 (shut_bool Tryz.underlying4 _),(trodAll_cons_mk (Below.trod znr (by kernel_rfl) (of_decide_eq_true (by kernel_rfl)) M f u) (trodAll_cons_mk (Below.trod znr (by kernel_rfl) (of_decide_eq_true (by kernel_rfl)) N f y) (trodAll_cons_mk (Below.trod znr (by kernel_rfl) (of_decide_eq_true (by kernel_rfl)) O f z) (trodAll_cons_mk (shut_int Tryz.underlying25 f3) trodAll_mk0)))),rfl,f.frame _,fun h=>by cases h⟩
theorem and_t {a b:Bool} (ha:a=true) (hb:b=true):(a && b)=true:=by rw [ha,hb];rfl
theorem batchBytes_facts:joinedFacts Tryz.prog 3 Tryz.f3 Rows.batchBytesSpec Rows.batchBytesRow=true:=by
 unfold joinedFacts;repeat' with_reducible refine and_t ?_ ?_
 all_goals (as_aux_lemma=>kernel_rfl)
theorem batchBytes_holds:Rows.BatchBytesSaid :=
 OpenClaim.holds_of_wide 3 Tryz.f3 rfl rfl rfl rfl rfl rfl rfl ⟨rfl,rfl,rfl,rfl,rfl⟩ rfl rfl rfl rfl rfl (by kernel_rfl) Tryz.func3 batchBytes_facts
  (of_decide_eq_true (by kernel_rfl)) (by unfold Func.isWrapper;first | (rw [if_pos (by decide +kernel)];kernel_rfl) | (rw [if_neg (by decide +kernel)];exact ⟨rfl,rfl⟩))
  (fun c a H b _=>batchBytes_lifted c a H b)
end Go.Proofs.YtmblgnddgmfkhaaGreat
