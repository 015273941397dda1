/- The statement BatchRoom, proved: for every input the call returns true and each argument reads behind it as it read before; no condition. -/
import Derived.Test.YtmblgnddgmfkhaaGreatK44
import Derived.Test.YtmblgnddgmfkhaaGreatKxWRoom15
set_option maxRecDepth 100000
set_option maxHeartbeats 4000000
namespace Go.Proofs.YtmblgnddgmfkhaaGreat
open Go.ChangeShapes Go.WideShapes Go.ChangeAt Go.RowKit
open Go.ChangeMaps (open_string shut_string)
theorem batchRoom_lifted (os:Os) (started:os.Started) (H:Type) (enc:TypeId × Value→H) :
 ReturnsInHanded {} Tryz.checked os 7 .any (Rows.batchRoomSpec.pre6 enc Tryz.prog Tryz.f7 Rows.batchRoomRow.domain false) (Rows.batchRoomSpec.post enc Tryz.prog Tryz.f7 false true false false):=by
 refine returnsInHanded_of_change (C:=Tryz.checked) own_ started yaa Tryz.func7
  (ChangeSpec.witness6 (enc:=enc) (C:=Tryz.checked) false ⟨#[],#[.int .u8 0,.int .u8 0],[]⟩ 8 yaa yaa yaa yaa) ?_
 intro W base b B gs m f s u _;have g:∀(j:Nat) t v,Tryz.f7.params[j]? = some t→b[j]? = some v→Value.okWide Tryz.prog W .any base t v:=f;have n:=s;obtain ⟨p,q,k,D,rfl,E,F⟩:=s;have x:DataW.TrodAll enc Tryz.prog W 0 (fun _=>true) true Tryz.f7.params.toList b.toList B p:=k;rw [Tryz.params7] at x g;obtain ⟨v0,G,R,I,T,U,o,rfl,rfl,J,t0⟩:=trodAll_cons x;obtain ⟨y,K,V,L,X,Y,rfl,rfl,rfl,M,N⟩:=trodAll_cons t0;obtain ⟨rfl,rfl,rfl⟩:=trodAll_nil N;obtain rfl:b=#[v0,y]:=by cases b;simp_all
 obtain ⟨rfl,rfl⟩:=trodVars_none D;obtain ⟨O,rfl,rfl,rfl,z⟩:=open_int Tryz.underlying5 (g 0 5 v0 rfl rfl) J;obtain ⟨P,rfl,rfl,rfl,A⟩:=open_int Tryz.underlying5 (g 1 5 y rfl rfl) M;clear k f;refine (batchRoom_walk O P W z A).mono fun e Z ⟨Q,bel⟩=>?_;subst Q;exact ⟨_,rfl,_,_,_,[],_,[],n,trodAll_mk1 (shut_bool Tryz.underlying4 _),(trodAll_cons_mk (shut_int Tryz.underlying5 z) (trodAll_cons_mk (shut_int Tryz.underlying5 A) trodAll_mk0)),rfl,bel.frame _,fun h=>by cases h⟩
theorem and_t {a b:Bool} (ha:a=true) (hb:b=true):(a && b)=true:=by rw [ha,hb];rfl
theorem batchRoom_facts:joinedFacts Tryz.prog 7 Tryz.f7 Rows.batchRoomSpec Rows.batchRoomRow=true:=by
 unfold joinedFacts;repeat' with_reducible refine and_t ?_ ?_
 all_goals (as_aux_lemma=>kernel_rfl)
theorem batchRoom_holds:Rows.BatchRoomSaid :=
 OpenClaim.holds_of_wide 7 Tryz.f7 rfl rfl rfl rfl rfl rfl rfl ⟨rfl,rfl,rfl,rfl,rfl⟩ rfl rfl rfl rfl rfl yaa Tryz.func7 batchRoom_facts
  (yaL yaa) (by unfold Func.isWrapper;first | (rw [yan (by decide +kernel)];kernel_rfl) | (rw [yak (by decide +kernel)];exact ⟨rfl,rfl⟩))
  (fun os b H f _=>batchRoom_lifted os b H f)
#print axioms batchRoom_holds
end Go.Proofs.YtmblgnddgmfkhaaGreat
