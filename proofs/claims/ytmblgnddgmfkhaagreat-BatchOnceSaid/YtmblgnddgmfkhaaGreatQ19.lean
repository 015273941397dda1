import Derived.Test.YtmblgnddgmfkhaaGreatQ18
set_option maxRecDepth 100000
set_option maxHeartbeats 4000000
namespace Go.Proofs.YtmblgnddgmfkhaaGreat
open Go.RowKit
theorem zkR {l:List Ed} (h:zhR l):l.Nodup:=h.imp fun {a b} d e=>by subst e;rw [zgF] at d;omega
theorem zcx {B:Nat} {w w1 w2:World} (h:Below B w w1) (hB:B≤w1.heap.size) (k:Below w1.heap.size w1 w2):Below B w w2:=h.trans (k.mono hB)
theorem bnewZ (w:World) (o:Obj):Below w.heap.size w (w.alloc o):=(Below.refl _ w).alloc (yaj _) o
theorem few_of {l:List TypA} {m n:Nat} (h1:(zbc (l.map TypA.says)).length≤m) (h2:∀x ∈ zbc (l.map TypA.says),x.2.subs.length≤n∧x.2.ops.length≤n):(relsA l).length≤m∧∀x ∈ relsA l,x.2.subs.length≤n∧x.2.ops.length≤n:=by
 rw [←zcu] at h1 h2;rw [yay] at h1;exact ⟨h1,fun x b=>h2 _ (yaN.2 ⟨x,b,rfl⟩)⟩
inductive LvIs (n:Nat) (l:List Ed):List Int→Int→Prop
 | arg (hi:¬InR n l):LvIs n l [] 1
 | cyc (hi:InR n l) (hc:Cyc l):LvIs n l [] 33
 | ok (hi:InR n l) (v:List Int) (hv:v.length=n) (hL:Least n l (zb5 v)) (hb:∀x ∈ v,0≤x∧x≤4096):LvIs n l v 0
theorem znV {w:World} {n c:Nat} {A:Option Addr} {l:List Ed} (h:Rd w w.heap.size 3 A l.length c (zay l)) (hl:l.length≤100000) (hn:n≤4096) :
 Calls Tryz.prog 76 #[.int .i64 (n:Int),.slice A l.length c] w fun e w'=>(∃A' c' v s,e = .returned (.tuple #[.slice A' v.length c',.int .i64 s])∧Rd w' w'.heap.size 1 A' v.length c' (lvs v)∧LvIs n l v s)∧Below w.heap.size w w' :=
 (levels_any (n:=(n:Int)) h hl).mono fun e w' ⟨b,d⟩=>⟨by
  cases b with
  | arg h =>
   rcases h with h | h | h
   · omega
   · omega
   · exact ⟨none,0,[],1,rfl,Rd.none_ _ _ _,.arg h⟩
  | cyc _ _ hi f=>exact ⟨none,0,[],33,rfl,Rd.none_ _ _ _,.cyc hi f⟩
  | ok _ _ hi v A c g j k hb =>
   rw [ybk] at *
   subst j;exact ⟨A,c,v,0,rfl,g,.ok hi v rfl k hb⟩,d⟩
theorem zp1 {v:List Int} {i:Nat} (hi:i<v.length):(lvs v)[i]? = some (.int .i64 (zb5 v i)):=by
 simp only [lvs,ya0,yal hi,ybE];simp [zb5,hi]
end Go.Proofs.YtmblgnddgmfkhaaGreat
