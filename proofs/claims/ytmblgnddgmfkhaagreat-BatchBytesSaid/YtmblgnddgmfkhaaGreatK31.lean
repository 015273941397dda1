import Derived.Lib.LazyBuf
import Derived.Shelf.SlGeneric
import Derived.Shelf.SlIter.Nil
import Derived.Shelf.SortM.Plain
import Derived.Shelf.SortM.SortNone
import Derived.Shelf.SlicesG.CompactS
import Derived.Shelf.SlicesG.Clone
import Derived.Laws.Shifts
import Derived.Lib.OwnBridge
import Derived.Lib.RowBridge
import Derived.Test.YtmblgnddgmfkhaaGreatK30
set_option maxRecDepth 100000
set_option maxHeartbeats 4000000
namespace Go.Proofs.YtmblgnddgmfkhaaGreat
section
open Go.RowKit
variable {p:ByteArray→Bool} {Br c:Nat} {A:Option Addr}
section
variable {S:SpW} {f:CoF} {X Y F F':Nat→Prop} {w w':World} {g:Nat} {s:Sto Tb Nd15} {L:List Sp} {last:Int} {m:Mm}
theorem gone_any (K:SpK S) (h:StM S f X w F g s L last m) (hBr:w.cell? ⟨Br,0,none⟩=some (.pointer (some ⟨g,0,none⟩))) (k:ByteArray) (hk:k.size≤maxLen) :
 Calls Tryz.prog 65 #[.string k,.pointer (some ⟨Br,0,none⟩)] w fun e w'=>e = .returned (.bool (!hasK (zah s).keys k))∧Below w.heap.size w w':=by
 have u:=World.block_lt_of_cell? w _ hBr;have q:=h.up K (za1 w);have D:=zc6 q.toStR;have n:s.floor≤revB s:=by have:=h.rev_eq;omega
 have x:=h.spb.tell (revB s) n (ybf _) k;rw [zbA h.ok.has] at x;have C:=fun W (hb:Below w.drew.heap.size w.drew W)=>K.has k (revB s) (q.up K hb).sp h.spb.fine (by have:=h.len;omega) hk;rw [x] at C;have b:=fun W (hb:Below w.drew.heap.size w.drew W)=>(⟨(hb.cell (p:=⟨Br,0,none⟩) u).trans hBr,(q.up K hb).cs.1⟩:_∧_);obtain ⟨H,I⟩:=b _ (Below.refl _ _);have lt:=h.box.lt;generalize hasK (zah s).keys k=z at *
 generalize revB s=y at *
 clear n x h q hBr;go_enter Tryz.func65,Tryz.ntmps65
 go_upto_region 1 with (fail)
 go_region_held3 (fun W=>W.cell? ⟨Br,0,none⟩=some (.pointer (some ⟨g,0,none⟩))∧W.cell? ⟨g,0,none⟩=some (.pointer (some ⟨m.gs,0,none⟩)))
  (first | exact A | exact B | go_keep | fail)
  ((first
   | (with_reducible refine D.mono ?_;rintro J E ⟨rfl,j⟩;have A:=b E j)
   | (with_reducible refine (C _ j).mono ?_;rintro M G ⟨rfl,o⟩;have B:=b G (zac j j.size o))
   | fail))
 go_wp2_with fail
 go_ret
 exact ⟨rfl,zac (za1 w) (yaj _) (zac j j.size o)⟩
end
def Asks (w:World) (Br:Nat) (p:ByteArray→Bool):Prop:=∀W,Below w.heap.size w W→∀k:ByteArray,k.size≤maxLen→Calls Tryz.prog 65 #[.string k,.pointer (some ⟨Br,0,none⟩)] W fun e W'=>e = .returned (.bool (p k))∧Below W.heap.size W W'
def FirstIs (p:ByteArray→Bool) (s:List ByteArray) (z:Int):Prop:=(z = -1∧∀k ∈ s,p k=false)∨∃(i:Nat) (k:ByteArray),z=i∧s[i]? = some k∧p k=true∧∀x ∈ s.take i,p x=false
theorem indexF_any {w0 w:World} {s:List ByteArray} (hp:Asks w0 Br p) (hw:Below w0.heap.size w0 w) (hR:Rd w w.heap.size 1 A s.length c (ks s)) (hl:s.length≤1000000) (hs:∀k ∈ s,k.size≤maxLen) :
 Calls Tryz.prog 105 #[.slice A s.length c,.func (.func 65) #[] #[.pointer (some ⟨Br,0,none⟩)]] w fun e w'=>(∃z:Int,e = .returned (.int .i64 z)∧FirstIs p s z)∧Below w.heap.size w w':=by
 have C:∀g W,(callFunc 65 g).run Tryz.prog W = .ok (.enter 65 g) W:=enters_of Tryz.func65 yaa rfl;go_enter Tryz.func105,Tryz.ntmps105
 go_wp2_with fail
 go_loopw [8] (fun y D=>∃i:Nat,y = .int .i64 i∧i≤s.length∧Below w.heap.size w D∧Hid (∀x ∈ s.take i,p x=false)) (fun y _=>s.length-(intOf y).toNat)
 case atStart=>exact ⟨0,rfl,yao _,Below.refl _ _,Lib.hid fun x n=>by simp at n⟩
 case round =>
  obtain ⟨i,rfl,hi,hb,f⟩:=hrel;by_cases B:i<s.length
  · have E:(i:Int)<(s.length:Int):=by omega
    have G:(0:Int)≤(i:Int):=by omega
    obtain ⟨k,hk⟩:∃k,s[i]? = some k:=⟨_,yal B⟩;obtain ⟨b,o,rfl,_,H⟩:=zee (hR.below hb) hk;have q:=hp wr (zac hw hw.size hb) k (hs k (yaq hk));cases u:p k with
    | true =>
     rw [u] at q;go_wp2_with (refine q.mono ?_;rintro e F ⟨rfl,j⟩)
     go_ret
     exact ⟨⟨i,rfl,.inr ⟨i,k,rfl,hk,u,f.out⟩⟩,zac hb hb.size j⟩
    | false =>
     rw [u] at q;have m:Hid (∀x ∈ s.take (i + 1),p x=false):=Lib.hid fun x n=>by
      rw [yaC,hk,yaO,yaA,yav] at n;rcases n with n | rfl
      · exact f.out x n
      · exact u
     go_wp2_with (refine q.mono ?_;rintro e F ⟨rfl,j⟩)
     exact ⟨⟨i + 1,by go_num,by omega,zac hb hb.size j,m⟩,by simp [intOf];omega⟩
  · obtain rfl:i=s.length:=by omega
    have E:¬(((s.length:Nat):Int)<(s.length:Int)):=by omega
    go_wp2_with fail
    go_ret
    exact ⟨⟨-1,rfl,.inl ⟨rfl,by have:=f.out;rwa [yaz] at this⟩⟩,hb⟩
def noP (p:ByteArray→Bool) (s:List ByteArray):List ByteArray:=s.filter fun k=>!p k
theorem zq5 {s:List ByteArray} (h:∀k ∈ s,p k=false):noP p s=s:=List.filter_eq_self.2 fun k hk=>by rw [h k hk];rfl
theorem zny {s:List ByteArray} {j:Nat} {k:ByteArray} (h:s[j]? = some k):noP p (s.take (j + 1))=noP p (s.take j) ++ if p k then [] else [k]:=by
 unfold noP;rw [yaC,h,yaO,ybv];cases q:p k <;> simp [q]
theorem Stay.weak {X Y:Nat→Prop} {w w1:World} (h:Stay X w w1) (hX:∀b,X b→Y b):Stay Y w w1:=⟨h.1,fun b hb f=>h.2 b hb fun q=>f (hX b q)⟩
theorem KeyX.weak {a b:Nat} {w:World} {l:List ByteArray} (h:KeyX (·<b) w A c l) (hab:a≤b):KeyX (·<a) w A c l:=fun w' f=>h w' (f.weak fun _ q=>yas q hab)
theorem deleteF_any {w0 w:World} {s:List ByteArray} (hp:Asks w0 Br p) (hw:Below w0.heap.size w0 w) (hO:w.ownsRow w0.heap.size 9 1 (.slice A s.length c) s.length (ks s)) (hl:s.length≤1000000) (hs:∀k ∈ s,k.size≤maxLen) :
 Calls Tryz.prog 66 #[.slice A s.length c,.func (.func 65) #[] #[.pointer (some ⟨Br,0,none⟩)]] w fun e w'=>(∃A' c',e = .returned (.slice A' (noP p s).length c')∧KeyX (·<w0.heap.size) w' A' c' (noP p s))∧Below w0.heap.size w0 w':=by
 have aq:∀M W,(callFunc 65 M).run Tryz.prog W = .ok (.enter 65 M) W:=enters_of Tryz.func65 yaa rfl;obtain ⟨A0,c0,V,Y⟩:=Rd.own hO;injection V with e1 _ e3
 subst e1 e3;have ki:=indexF_any hp hw Y hl hs;have Z:=Y.cap;have ad:=Y.capm;obtain ⟨n,I⟩:∃n,s.length=n:=⟨_,rfl⟩;rw [I] at ki hO Y hl Z ⊢;replace I:=Lib.hid I;go_enter Tryz.func66,Tryz.ntmps66
 go_upto_region 2 with (go_at_call 105;refine ki.mono ?_;rintro e w1 ⟨⟨z,rfl,hz⟩,J⟩)
 have N:=zac hw hw.size J;rcases hz with ⟨rfl,o⟩ | ⟨i,k,rfl,hk,a1,o⟩
 · clear ki;have E:noP p s=s:=zq5 o;go_wp2_with fail
   go_ret
   rw [E];refine ⟨⟨A,c,by rw [I.out];rfl,fun w' X=>?_⟩,N⟩;have ae:=zau hO fun j hj=>J.block j (hO.lt j hj).2;obtain ⟨A9,c9,e9,af⟩:=Rd.own (X.row ae fun _ q=>q);injection e9 with ag _ ah
   subst ag ah;rw [I.out];exact af
 · have ai:i<n:=by have:=zgB hk;have:=I.out;omega
   rcases hO.2 with ⟨V,_⟩ | ⟨f,ao,O,V,P,a2,ar,au,av,a6⟩
   · injection V with _ V
     omega
   injection V with e1 _ e3
   subst e1 e3;have a7:Rk w1 f O 9:=(show Rk w f O 9 from a2).same (J.block f (yaR.1 a2).1);rw [yb4] at a6;have aj:((i:Int) == -1)=false:=ybh.2 yab;have ak:IntKind.i64.wrap ((i:Int) + 1)=((i + 1:Nat):Int):=by rw [show (i:Int) + 1=((i + 1:Nat):Int) by omega];exact IntWalk.i64_in _ ⟨by omega,by omega⟩
   have a8:noP p (s.take (i + 1))=s.take i:=by
    rw [zny hk,a1,yan rfl,yaK,zq5 o]
   clear ki o a1 J Y;go_upto_region 5 with (fail)
   go_loopw [5,6] (fun vi vj wx=>∃(i j:Nat) (cs:List ByteArray) (g:Array Value),vi = .int .i64 i∧vj = .int .i64 j∧i<j∧j≤n∧Hid (cs.length=n∧cs.take i=noP p (s.take j)∧cs.drop j=s.drop j∧g.toList.take n=ks cs)∧Rk wx f g 9∧Below w0.heap.size w0 wx) (fun _ vj _=>n-(intOf vj).toNat)
   case atStart=>exact ⟨i,i + 1,s,O,rfl,by go_num,by omega,by omega,Lib.hid ⟨I.out,a8.symm,rfl,a6⟩,a7,N⟩
   case round =>
    clear a8 aj ak hk ai a7 N;obtain ⟨i,j,cs,g,rfl,rfl,aw,hj,hc,G,hb⟩:=hrel;obtain ⟨y,B,F,m⟩:=hc.out;have ax:n≤g.size:=by
     have:=congrArg List.length m;rw [yaN,znq,y,ybo] at this;omega
    have b:∀(t:Nat) v,t<n→cs[t]? = some v→wr.cell? ⟨f,t,none⟩=some (.string v):=fun t v ht H=>by
     rw [G.cell t,←ycJ];have:(g.toList.take n)[t]? = some (.string v):=by rw [m];exact znp H
     rwa [List.getElem?_take,yan ht] at this
    have gl:=G.lt;have gf:=G.fz;by_cases al:j<n
    · have dj:(j:Int)<(n:Int):=by omega
      have ay:(0:Int)≤(j:Int):=by omega
      have am:(0:Int)≤(i:Int):=by omega
      have di:(i:Int)<(n:Int):=by omega
      obtain ⟨v,H⟩:∃v,s[j]? = some v:=⟨_,yal (by have:=I.out;omega)⟩;have Q:cs[j]? = some v:=by
       have:=congrArg (fun l:List ByteArray=>l[0]?) F;simp only [ycC,ybH] at this;rw [this,H]
      have g0:=b j v al Q;have kh:=hp wr hb v (hs v (yaq H));have e1:IntKind.i64.wrap ((j:Int) + 1)=((j + 1:Nat):Int):=by rw [show (j:Int) + 1=((j + 1:Nat):Int) by omega];exact IntWalk.i64_in _ ⟨by omega,by omega⟩
      have e2:IntKind.i64.wrap ((i:Int) + 1)=((i + 1:Nat):Int):=by rw [show (i:Int) + 1=((i + 1:Nat):Int) by omega];exact IntWalk.i64_in _ ⟨by omega,by omega⟩
      have K:cs.drop (j + 1)=s.drop (j + 1):=by
       have:=congrArg (List.drop 1) F;rwa [List.drop_drop,List.drop_drop] at this
      have C:=zny (p:=p) H;cases L:p v with
      | true =>
       rw [L] at kh;rw [L,yan rfl,yaK] at C;have R:Hid (cs.length=n∧cs.take i=noP p (s.take (j + 1))∧cs.drop (j + 1)=s.drop (j + 1)∧g.toList.take n=ks cs):=Lib.hid ⟨y,by rw [C];exact B,K,m⟩;clear hc y B F m K C b Q H;go_wp2_with (refine kh.mono ?_;rintro e w5 ⟨rfl,D⟩)
       exact ⟨⟨i,j + 1,cs,g,rfl,by go_num,by omega,by omega,R,G.same (D.block f G.lt),zac hb hb.size D⟩,by simp [intOf];omega⟩
      | false =>
       rw [L] at kh;rw [L,yak (by decide)] at C;have T:i<cs.length:=by omega
       have R:Hid ((cs.set i v).length=n∧(cs.set i v).take (i + 1)=noP p (s.take (j + 1))∧(cs.set i v).drop (j + 1)=s.drop (j + 1)∧(g.setIfInBounds i (.string v)).toList.take n=ks (cs.set i v)):=Lib.hid ⟨by rw [ycc];exact y,by
        rw [C,←B,yaC,ycm,yan rfl,yan T,List.take_set_of_le (yaj _)];rfl,by rw [List.drop_set_of_lt (by omega)];exact K,by
        rw [ycN,List.take_set,m];unfold ks;rw [List.map_set]⟩
       have aa:∃u,wr.cell? ⟨f,i,none⟩=some u:=⟨_,b i _ yab (yal T)⟩;obtain ⟨u,hu⟩:=aa;clear hc y B F m K C b Q H T;go_wp2_with (refine kh.mono ?_;rintro e w5 ⟨rfl,D⟩;have U:=G.same (D.block f G.lt);have az:=(D.cell (p:=⟨f,i,none⟩) G.lt).trans hu;have b0:=U.fz;have b1:=U.lt)
       exact ⟨⟨i + 1,j + 1,cs.set i v,_,by go_num,by go_num,by omega,by omega,R,U.set i _,(zac hb hb.size D).setCell (show w0.heap.size≤f from P) _⟩,by simp [intOf];omega⟩
    · obtain rfl:j=n:=by omega
      have dj:¬(((j:Nat):Int)<(j:Int)):=by omega
      have E:noP p s=cs.take i:=by rw [B,←I.out,yaz]
      have b2:∀ty,(Builtin.clear_ #[87] ty #[.slice (some ⟨f,i,none⟩) (j-i) (c-i)]).run Tryz.prog wr = .ok (.tuple #[]) (wr.setCells f i (List.replicate (j-i) (.string ⟨#[]⟩))):=fun ty=>Lib.run_clear_slice wr _ _ ty _ Tryz.underlying87 (fun w=>Tryz.zeroValue9 w) rfl rfl f i _ _ yab (fun q L=>by
       rw [b (i + q) _ yab (yal yab)];rfl) fun q L=>G.fz _
      have am:(0:Int)≤(i:Int):=by omega
      have b3:(i:Int)≤(j:Int):=by omega
      have b4:(i:Int)≤(c:Int):=by omega
      have aa:¬c=i:=by omega
      have x:(noP p s).length=i:=by rw [E,yaN];omega
      have an:=below_setCells (show w0.heap.size≤f from P) (List.replicate (j-i) (.string ⟨#[]⟩)) i wr hb;have ab:∀w',Stay (·<w0.heap.size) (wr.setCells f i (List.replicate (j-i) (.string ⟨#[]⟩))) w'→Rd w' w'.heap.size 1 (some ⟨f,0,none⟩) i c (ks (cs.take i)):=fun w' X=>by
       have ac:f<(wr.setCells f i (List.replicate (j-i) (.string ⟨#[]⟩))).heap.size:=yas G.lt (World.keptBut_setCells f (may:=fun _=>True) _ i wr fun _ _=>trivial).size;refine Rd.of_cells (by rw [znq,yaN];omega) yac yab ad (yas ac X.1) fun q u hu=>?_;have L:q<i:=by
        have:=(yap.1 hu).1;rw [znq,yaN] at this;omega
       obtain ⟨v,H⟩:∃v,cs[q]? = some v:=⟨_,yal yab⟩;have:(ks (cs.take i))[q]? = some (.string v):=znp (by rw [List.getElem?_take,yan L,H]);rw [this] at hu;cases hu;rw [Addr.add_lit,yaI,World.cell?_of_block (X.2 f ac (show ¬f<w0.heap.size from Nat.not_lt.2 P)),World.cell?_setCells_out f _ i wr _ (fun _ _=>.inl L)];exact b q v yab H
      rw [←E] at ab;replace x:=Lib.hid x;clear b hc y B F m E;go_wp2_with fail
      go_ret
      exact ⟨⟨some ⟨f,0,none⟩,c,by rw [x.out];rfl,fun w' X=>by rw [x.out];exact ab w' X⟩,an⟩
end
section
open Go.Shelf Go.RowKit Go.Lib Go.Sort
def zjK:Go.Shelf.Ren:=⟨fun | 42=>64 | n=>n,fun | 25=>46 | 26=>9 | 4=>4 | n=>n,fun | n=>n⟩
theorem zhC:Go.Proofs.SlLaysN.n42 Tryz.prog zjK:={
 mixed:=by kernel_rfl
 f42:=⟨Tryz.f64.name,by decide,Tryz.func64.trans (congrArg some yaa)⟩
 t4:=Tryz.underlying4
 a4:=Tryz.isAgg4
 z4:=Tryz.sizeOf4
 v4:=Tryz.zeroValue4
 t25:=Tryz.underlying46
 a25:=Tryz.isAgg46
 z25:=Tryz.sizeOf46
 v25:=Tryz.zeroValue46
 t26:=Tryz.underlying9
 a26:=Tryz.isAgg9
 z26:=Tryz.sizeOf9
 v26:=Tryz.zeroValue9
 i26:=by kernel_rfl }
def zim:Go.Shelf.Ren:=⟨fun | 6=>106 | 8=>144 | 9=>151 | 19=>195 | 20=>137 | 21=>199 | 22=>200 | 23=>201 | 24=>202 | 25=>203 | 26=>204 | 27=>152 | 28=>205 | 29=>206 | 36=>240 | 31=>235 | 32=>236 | 37=>241 | 38=>242 | 39=>197 | 41=>269 | n=>n,fun | 27=>46 | 29=>9 | 3=>3 | 32=>258 | 26=>46 | 0=>0 | 44=>315 | 46=>103 | 4=>4 | 36=>309 | 35=>308 | 41=>154 | 5=>5 | 9=>9 | 53=>358 | 57=>361 | 63=>375 | 64=>376 | n=>n,fun | n=>n⟩
theorem zeu:Go.Proofs.SlLaysM.n6 Tryz.prog zim:={
 mixed:=by kernel_rfl
 f6:=⟨Tryz.f106.name,by decide,Tryz.func106.trans (congrArg some yaa)⟩
 f8:=Tryz.func144.trans (congrArg some yaa)
 f9:=⟨Tryz.f151.name,by decide,Tryz.func151.trans (congrArg some yaa)⟩
 f19:=Tryz.func195.trans (congrArg some yaa)
 f20:=Tryz.func137.trans (congrArg some yaa)
 f21:=⟨Tryz.f199.name,by decide,Tryz.func199.trans (congrArg some yaa)⟩
 f22:=⟨Tryz.f200.name,by decide,Tryz.func200.trans (congrArg some yaa)⟩
 f23:=⟨Tryz.f201.name,by decide,Tryz.func201.trans (congrArg some yaa)⟩
 f24:=⟨Tryz.f202.name,by decide,Tryz.func202.trans (congrArg some yaa)⟩
 f25:=⟨Tryz.f203.name,by decide,Tryz.func203.trans (congrArg some yaa)⟩
 f26:=⟨Tryz.f204.name,by decide,Tryz.func204.trans (congrArg some yaa)⟩
 f27:=⟨Tryz.f152.name,by decide,Tryz.func152.trans (congrArg some yaa)⟩
 f28:=⟨Tryz.f205.name,by decide,Tryz.func205.trans (congrArg some yaa)⟩
 f29:=⟨Tryz.f206.name,by decide,Tryz.func206.trans (congrArg some yaa)⟩
 f31:=Tryz.func235.trans (congrArg some yaa)
 f32:=Tryz.func236.trans (congrArg some yaa)
 f36:=⟨Tryz.f240.name,by decide,Tryz.func240.trans (congrArg some yaa)⟩
 f37:=⟨Tryz.f241.name,by decide,Tryz.func241.trans (congrArg some yaa)⟩
 f38:=⟨Tryz.f242.name,by decide,Tryz.func242.trans (congrArg some yaa)⟩
 f39:=⟨Tryz.f197.name,by decide,Tryz.func197.trans (congrArg some yaa)⟩
 f41:=⟨Tryz.f269.name,by decide,Tryz.func269.trans (congrArg some yaa)⟩
 t0:=Tryz.underlying0
 a0:=Tryz.isAgg0
 z0:=Tryz.sizeOf0
 v0:=Tryz.zeroValue0
 t3:=Tryz.underlying3
 a3:=Tryz.isAgg3
 z3:=Tryz.sizeOf3
 v3:=Tryz.zeroValue3
 t4:=Tryz.underlying4
 a4:=Tryz.isAgg4
 z4:=Tryz.sizeOf4
 v4:=Tryz.zeroValue4
 t5:=Tryz.underlying5
 a5:=Tryz.isAgg5
 z5:=Tryz.sizeOf5
 v5:=Tryz.zeroValue5
 t9:=Tryz.underlying9
 a9:=Tryz.isAgg9
 z9:=Tryz.sizeOf9
 v9:=Tryz.zeroValue9
 t26:=Tryz.underlying46
 a26:=Tryz.isAgg46
 z26:=Tryz.sizeOf46
 v26:=Tryz.zeroValue46
 t27:=Tryz.underlying46
 a27:=Tryz.isAgg46
 z27:=Tryz.sizeOf46
 v27:=Tryz.zeroValue46
 t29:=Tryz.underlying9
 a29:=Tryz.isAgg9
 z29:=Tryz.sizeOf9
 v29:=Tryz.zeroValue9
 t32:=Tryz.underlying258
 a32:=Tryz.isAgg258
 z32:=Tryz.sizeOf258
 v32:=Tryz.zeroValue258
 t35:=Tryz.underlying308
 a35:=Tryz.isAgg308
 z35:=Tryz.sizeOf308
 v35:=Tryz.zeroValue308
 t36:=Tryz.underlying309
 a36:=Tryz.isAgg309
 z36:=Tryz.sizeOf309
 v36:=Tryz.zeroValue309
 t41:=Tryz.underlying154
 a41:=Tryz.isAgg154
 z41:=Tryz.sizeOf154
 v41:=Tryz.zeroValue154
 t44:=Tryz.underlying315
 a44:=Tryz.isAgg315
 z44:=Tryz.sizeOf315
 v44:=Tryz.zeroValue315
 t46:=Tryz.underlying103
 a46:=Tryz.isAgg103
 z46:=Tryz.sizeOf103
 v46:=Tryz.zeroValue103
 t53:=Tryz.underlying358
 a53:=Tryz.isAgg358
 z53:=Tryz.sizeOf358
 v53:=Tryz.zeroValue358
 t57:=Tryz.underlying361
 a57:=Tryz.isAgg361
 z57:=Tryz.sizeOf361
 v57:=Tryz.zeroValue361
 t63:=Tryz.underlying375
 a63:=Tryz.isAgg375
 z63:=Tryz.sizeOf375
 v63:=Tryz.zeroValue375
 t64:=Tryz.underlying376
 a64:=Tryz.isAgg376
 z64:=Tryz.sizeOf376
 v64:=Tryz.zeroValue376 }
def zkT:Go.Shelf.Ren:=⟨fun | 44=>107 | n=>n,fun | 25=>46 | 26=>9 | 3=>3 | 4=>4 | 0=>0 | n=>n,fun | n=>n⟩
theorem zns:Go.Proofs.SlLaysN.n44 Tryz.prog zkT:={
 mixed:=by kernel_rfl
 f44:=⟨Tryz.f107.name,by decide,Tryz.func107.trans (congrArg some yaa)⟩
 t0:=Tryz.underlying0
 a0:=Tryz.isAgg0
 z0:=Tryz.sizeOf0
 v0:=Tryz.zeroValue0
 t3:=Tryz.underlying3
 a3:=Tryz.isAgg3
 z3:=Tryz.sizeOf3
 v3:=Tryz.zeroValue3
 t4:=Tryz.underlying4
 a4:=Tryz.isAgg4
 z4:=Tryz.sizeOf4
 v4:=Tryz.zeroValue4
 t25:=Tryz.underlying46
 a25:=Tryz.isAgg46
 z25:=Tryz.sizeOf46
 v25:=Tryz.zeroValue46
 t26:=Tryz.underlying9
 a26:=Tryz.isAgg9
 z26:=Tryz.sizeOf9
 v26:=Tryz.zeroValue9
 i26:=by kernel_rfl }
def zgq:Go.Shelf.Ren:=⟨fun | 7=>90 | 10=>139 | n=>n,fun | 23=>132 | 26=>9 | 3=>168 | 28=>171 | 0=>0 | 27=>170 | 33=>129 | 4=>4 | n=>n,fun | n=>n⟩
theorem znt:Go.Proofs.SlLaysZ.n7 Tryz.prog zgq:={
 mixed:=by kernel_rfl
 f7:=⟨Tryz.f90.name,by decide,Tryz.func90.trans (congrArg some yaa)⟩
 f10:=⟨Tryz.f139.name,by decide,Tryz.func139.trans (congrArg some yaa)⟩
 t0:=Tryz.underlying0
 a0:=Tryz.isAgg0
 z0:=Tryz.sizeOf0
 v0:=Tryz.zeroValue0
 t4:=Tryz.underlying4
 a4:=Tryz.isAgg4
 z4:=Tryz.sizeOf4
 v4:=Tryz.zeroValue4
 t23:=Tryz.underlying132
 a23:=Tryz.isAgg132
 z23:=Tryz.sizeOf132
 v23:=Tryz.zeroValue132
 t26:=Tryz.underlying9
 a26:=Tryz.isAgg9
 z26:=Tryz.sizeOf9
 v26:=Tryz.zeroValue9
 t27:=Tryz.underlying170
 a27:=Tryz.isAgg170
 z27:=Tryz.sizeOf170
 v27:=Tryz.zeroValue170
 t28:=Tryz.underlying171
 a28:=Tryz.isAgg171
 z28:=Tryz.sizeOf171
 v28:=Tryz.zeroValue171
 t33:=Tryz.underlying129
 a33:=Tryz.isAgg129
 z33:=Tryz.sizeOf129
 v33:=Tryz.zeroValue129 }
def zeX:Go.Shelf.Ren:=⟨fun | 6=>89 | 8=>138 | 9=>106 | 11=>185 | 13=>144 | 12=>151 | 23=>195 | 24=>137 | 14=>199 | 15=>200 | 16=>201 | 17=>202 | 18=>203 | 19=>204 | 20=>152 | 21=>205 | 22=>206 | 25=>240 | 26=>235 | 27=>236 | 28=>241 | 29=>242 | 30=>197 | 31=>269 | n=>n,fun | 26=>9 | 28=>171 | 24=>46 | 0=>0 | 3=>3 | 37=>258 | 48=>315 | 50=>103 | 4=>4 | 40=>309 | 39=>308 | 45=>154 | 5=>5 | 9=>9 | 51=>358 | 55=>361 | 57=>375 | 58=>376 | 33=>129 | n=>n,fun | n=>n⟩
theorem zoE:Go.Proofs.SlLaysZ.n6 Tryz.prog zeX:={
 mixed:=by kernel_rfl
 f6:=⟨Tryz.f89.name,by decide,Tryz.func89.trans (congrArg some yaa)⟩
 f8:=⟨Tryz.f138.name,by decide,Tryz.func138.trans (congrArg some yaa)⟩
 f11:=⟨Tryz.f185.name,by decide,Tryz.func185.trans (congrArg some yaa)⟩
 t0:=Tryz.underlying0
 a0:=Tryz.isAgg0
 z0:=Tryz.sizeOf0
 v0:=Tryz.zeroValue0
 t24:=Tryz.underlying46
 a24:=Tryz.isAgg46
 z24:=Tryz.sizeOf46
 v24:=Tryz.zeroValue46
 t26:=Tryz.underlying9
 a26:=Tryz.isAgg9
 z26:=Tryz.sizeOf9
 v26:=Tryz.zeroValue9
 t28:=Tryz.underlying171
 a28:=Tryz.isAgg171
 z28:=Tryz.sizeOf171
 v28:=Tryz.zeroValue171
 i26:=by kernel_rfl }
end
section
open Go.RowKit Go.Shelf Go.Sort Go.Lib
variable {w:World} {c n g B:Nat} {ss:List (List UInt8)} {A:Option Addr} {s:List ByteArray}
theorem ks_enc (l:List (List UInt8)):l.map encStr=ks (l.map zdd):=by simp [ks,zdd,Function.comp_def]
theorem enc_ks (l:List ByteArray):ks l=(l.map fun s=>s.data.toList).map encStr:=by
 simp only [ks,ybp];refine ybC fun s _=>?_;show Value.string s=Value.string ⟨s.data.toList.toArray⟩;rw [Array.toArray_toList]
theorem zqx (l:List ByteArray):(l.map fun s=>s.data.toList).map zdd=l:=by
 rw [ybp];conv=>rhs;rw [←ycF l]
 exact ybC fun s _=>keyB_of s
theorem ziJ {b o:Nat} {l:List ByteArray} (hn:n=l.length) (hl:l.length≤1000000) (hc:∀(j:Nat) u,(ks l)[j]? = some u→w.cell? ⟨b,o + j,none⟩=some u) :
 Calls Tryz.prog 64 #[.slice (some ⟨b,o,none⟩) n c] w fun e w'=>∃v',e = .returned v'∧w'.ownsRow w.heap.size 9 1 v' n (ks l)∧v'≠.slice none 0 0∧Below w.heap.size w w':=by
 have h:=AnyG.slices_Clone_string zhC b o n c l w yab yab fun j f=>hc j _ (by
  simp [ks,yal f])
 subst hn;rw [yaz] at h;exact h
theorem zkr (n c:Nat) (w:World):Calls Tryz.prog 64 #[.slice none n c] w fun e w'=>e = .returned (.slice none 0 0)∧w'=w:=AnyG.slices_Clone_string_nil zhC n c w
theorem ziK (a:Addr) (c:Nat) (w:World):Calls Tryz.prog 64 #[.slice (some a) 0 c] w fun e w'=>∃v',e = .returned v'∧w'.ownsRow w.heap.size 9 1 v' 0 []∧v'≠.slice none 0 0∧Below w.heap.size w w':=AnyG.slices_Clone_string_zero zhC a c w
theorem zrR (hn:n=ss.length) (hH:Holds encStr w g 0 ss.toArray) (hg:g<w.heap.size) (hl:ss.length≤1000000) :
 Calls Tryz.prog 106 #[.slice (some ⟨g,0,none⟩) n c] w fun e w'=>e = .returned (.tuple #[])∧∃q os,w'=grow (putRow encStr (Sort.ahead w q) g 0 (ss.mergeSort fun x y=>decide (x≤y)).toArray) os:=by
 subst hn;exact AnyM.slices_Sort_string zeu g 0 c ss w hH hg yab
theorem zh3 (p:Option Addr) (c:Nat) (w:World):Calls Tryz.prog 106 #[.slice p 0 c] w fun e w'=>e = .returned (.tuple #[])∧w'=w:=AnyM.slices_Sort_string_none zeu p c w
theorem zpP (hn:n=ss.length) (hH:Holds encStr w g 0 ss.toArray) (hc:n≤c) (hl:ss.length≤1000000) :
 Calls Tryz.prog 107 #[.slice (some ⟨g,0,none⟩) n c] w fun e w'=>e = .returned (.slice (some ⟨g,0,none⟩) (Lib.compact ss).length c)∧∃q,w'=putRow encStr (Sort.ahead w q) g 0 (Lib.compact ss ++ List.replicate (ss.length-(Lib.compact ss).length) []).toArray:=by
 subst hn;exact AnyG.slices_Compact_string zns g 0 c ss w hH yab hc
theorem zks (p:Option Addr) (c:Nat) (w:World):Calls Tryz.prog 107 #[.slice p 0 c] w fun e w'=>e = .returned (.slice p 0 c)∧w'=w:=AnyG.slices_Compact_string_empty zns p c w
theorem sort_own (hO:w.ownsRow B 9 1 (.slice (some ⟨g,0,none⟩) n c) n (ss.map encStr)) (hl:ss.length≤1000000) :
 Calls Tryz.prog 106 #[.slice (some ⟨g,0,none⟩) n c] w fun e w'=>e = .returned (.tuple #[]) ∧
  w'.ownsRow B 9 1 (.slice (some ⟨g,0,none⟩) n c) n ((ss.mergeSort fun x y=>decide (x≤y)).map encStr)∧w.grownBy w' (some g):=by
 obtain ⟨C,cap,D,E,F,j,G,f,H⟩:=holds_of_ownsRow hO yaf;injection D with b _ k
 injection b with b
 injection b with b
 subst b;subst k;refine (zrR f.symm H F hl).mono ?_;rintro e w' ⟨rfl,q,os,rfl⟩;refine ⟨rfl,?_,grownBy_sorted _⟩;rcases hO.2 with ⟨m,_⟩ | ⟨C,A,I,m,o,s,J,u,z,K⟩
 · cases m
 · injection m with b _ k
   injection b with b
   injection b with b
   subst b;subst k;have:=ownsRow_sorted (n:=q) (os:=os) (ss:=ss) (ts:=ss.mergeSort fun x y=>decide (x≤y)) (List.length_mergeSort _) o s yab u z;rw [f] at this;exact this
theorem comp_own (hO:w.ownsRow B 9 1 (.slice (some ⟨g,0,none⟩) n c) n (ss.map encStr)) (hl:ss.length≤1000000) :
 Calls Tryz.prog 107 #[.slice (some ⟨g,0,none⟩) n c] w fun e w'=>e = .returned (.slice (some ⟨g,0,none⟩) (Lib.compact ss).length c) ∧
  w'.ownsRow B 9 1 (.slice (some ⟨g,0,none⟩) (Lib.compact ss).length c) (Lib.compact ss).length ((Lib.compact ss).map encStr)∧w.grownBy w' (some g):=by
 obtain ⟨A,cap,o,s,C,b,u,f,x⟩:=holds_of_ownsRow hO yaf;injection o with j _ y
 injection j with j
 injection j with j
 subst j;subst y;have z:(Lib.compact ss).length≤ss.length:=compact_length_le ss;refine (zpP f.symm x b hl).mono ?_;rintro e w' ⟨rfl,q,rfl⟩;refine ⟨rfl,?_,?_⟩
 · have m:=ownsRow_putRow (q:=q) (ys:=Lib.compact ss ++ List.replicate (ss.length-(Lib.compact ss).length) []) (k:=(Lib.compact ss).length) hO yag yab;rwa [ycV] at m
 · have:=grownBy_sorted (w:=w) (g:=g) (n:=q) (os:=#[]) (Lib.compact ss ++ List.replicate (ss.length-(Lib.compact ss).length) []).toArray;rwa [grow_empty] at this
def SetIs (w w':World) (l:List ByteArray) (e:Ending):Prop:=∃A c s,e = .returned (.slice A s.length c)∧Rises s∧(∀k,k ∈ s↔k ∈ l)∧w'.ownsRow w.heap.size 9 1 (.slice A s.length c) s.length (ks s)∧Below w.heap.size w w'
theorem of_any {l:List ByteArray} (h:Rd w w.heap.size 1 A l.length c (ks l)) (hl:l.length≤1000000) :
 Calls Tryz.prog 67 #[.slice A l.length c] w fun e w'=>SetIs w w' l e:=by
 rcases ybg l.length with H | H
 · obtain rfl:l=[]:=yaU H;rcases A with _ | a
   · go_enter Tryz.func67,Tryz.ntmps67
     go_wp2_with (first
      | (go_at_call 64;refine (zkr _ _ _).mono ?_;rintro e G ⟨rfl,rfl⟩)
      | (go_at_call 106;refine (zh3 _ _ _).mono ?_;rintro e G ⟨rfl,rfl⟩)
      | (go_at_call 107;refine (zks _ _ _).mono ?_;rintro e G ⟨rfl,rfl⟩)
      | fail)
     go_ret
     exact ⟨none,0,[],rfl,List.Pairwise.nil,fun _=>Iff.rfl,World.ownsRow_nil _ _ _ _,Below.refl _ _⟩
   · go_enter Tryz.func67,Tryz.ntmps67
     go_wp2_with (first
      | (go_at_call 64;refine (ziK _ _ _).mono ?_;rintro e G ⟨v,rfl,n,_,hb⟩;obtain ⟨R,T,rfl,_⟩:=Rd.own n)
      | (go_at_call 106;refine (zh3 _ _ _).mono ?_;rintro e U ⟨rfl,rfl⟩)
      | (go_at_call 107;refine (zks _ _ _).mono ?_;rintro e V ⟨rfl,rfl⟩)
      | fail)
     go_ret
     exact ⟨R,T,[],rfl,List.Pairwise.nil,fun _=>Iff.rfl,n,hb⟩
 · obtain ⟨b,o,rfl,_,N⟩:=h.at_ H;have O:=ziJ (c:=c) rfl hl N;go_enter Tryz.func67,Tryz.ntmps67
   go_wp2_with (go_at_call 64;refine O.mono ?_;rintro e G ⟨v,rfl,n,I,hb⟩)
   rw [enc_ks] at n;obtain ⟨g,cap,rfl,B,_,_,_,m,_⟩:=holds_of_ownsRow n I;obtain ⟨ss,q⟩:∃ss,(l.map fun s=>s.data.toList)=ss:=⟨_,rfl⟩;have f:=zpf ss;have j:ss.map zdd=l:=by rw [←q,zqx]
   rw [j] at f;rw [q] at n m;obtain ⟨ts,u⟩:∃ts,(ss.mergeSort fun x y=>decide (x≤y))=ts:=⟨_,rfl⟩;have C:ts.length≤1000000:=by rw [←u,List.length_mergeSort];omega
   have P:=sort_own n yab;rw [u] at P f;have Q:=fun (W:World) (h:W.ownsRow w.heap.size 9 1 (.slice (some ⟨g,0,none⟩) l.length cap) l.length (ts.map encStr))=>comp_own h C;obtain ⟨us,z⟩:∃us,Lib.compact ts=us:=⟨_,rfl⟩;rw [z] at f;simp only [z] at Q;clear q N O h u j m C z;go_wp2_with (first
    | (go_at_call 106;refine P.mono ?_;rintro e U ⟨rfl,J,K⟩)
    | (go_at_call 107;refine (Q _ J).mono ?_;rintro e V ⟨rfl,D,L⟩)
    | fail)
   go_ret
   have E:=hb.grown K hb.size fun k hk=>(by cases hk;exact B);have M:=E.grown L E.size fun k hk=>(by cases hk;exact B);rw [ks_enc] at D;have F:us.length=(us.map zdd).length:=by simp
   exact ⟨_,cap,us.map zdd,(by rw [←F];rfl),f.1,f.2,by rw [←F];exact D,M⟩
theorem zqe {k:ByteArray} (hs:Rises s) {i:Nat} (h1:∀(j:Nat) a,j<i→s[j]? = some a→kl a k=true) (h2:∀a,s[i]? = some a→kl a k=false):hasK s k=(match s[i]? with | some a=>decide (a=k) | none=>false):=by
 rw [ya9,zar];constructor
 · intro h;obtain ⟨j,g,e⟩:=ycf h;have b:s[j]? = some k:=by rw [yal g,e]
   rcases ycW j i with q | q | q
   · have:=h1 j k q b;rw [zi1] at this;cases this
   · subst q;rw [b];simp
   · have hi:i<s.length:=by omega
     have f:=hs.at_ (yal hi) b q;rw [h2 _ (yal hi)] at f;cases f
 · intro h;cases q:s[i]? with
   | none=>rw [q] at h;cases h
   | some a =>
    rw [q] at h;have:=yaL h;subst this;exact yaq q
theorem znv (x y:ByteArray) (w:World):Calls Tryz.prog 152 #[.string x,.string y] w fun e w'=>e = .returned (.bool (kl x y))∧w'=w:=by
 have b:∀(z:ByteArray) (W:World),Calls Tryz.prog 197 #[.string z] W fun e w'=>e = .returned (.bool false)∧w'=W:=fun z W=>by
  go_enter Tryz.func197,Tryz.ntmps197
  go_wp2_with fail
  go_ret
  exact ⟨by simp,rfl⟩
 go_enter Tryz.func152,Tryz.ntmps152
 go_wp2_with (go_at_call 197;refine (b _ _).mono ?_;rintro e w' ⟨rfl,rfl⟩)
 go_ret
 exact ⟨rfl,rfl⟩
theorem zmn (z:ByteArray) (W:World):Calls Tryz.prog 153 #[.string z] W fun e w'=>e = .returned (.bool false)∧w'=W:=by
 go_enter Tryz.func153,Tryz.ntmps153
 go_wp2_with fail
 go_ret
 exact ⟨by simp,rfl⟩
theorem search_any (h:Rd w B 1 A n c (ks s)) (hn:n=s.length) (hs:Rises s) (hl:n≤1000000) (k:ByteArray) :
 Calls Tryz.prog 108 #[.slice A n c,.string k] w fun e w'=>∃z,e = .returned (.tuple #[.int .i64 z,.bool (hasK s k)])∧∃q,w'=w.drewN q:=by
 have u:∀(i:Nat) a,s[i]? = some a→∃b o,A=some ⟨b,o,none⟩∧w.cell? ⟨b,o + i,none⟩=some (.string a):=fun i a f=>by
  have:=zgB f;obtain ⟨b,o,e,_,u⟩:=h.at_ yab;exact ⟨b,o,e,u i _ (znp f)⟩
 clear h;subst hn;obtain ⟨H,y⟩:∃H,hasK s k=H:=⟨_,rfl⟩;rw [y];have y:=Lib.hid y;go_enter Tryz.func108,Tryz.ntmps108
 go_wp2_with fail
 go_loopw [7,8] (fun G I wr=>∃lo hi q:Nat,G = .int .i64 lo∧I = .int .i64 hi∧lo≤hi∧hi≤s.length∧wr=w.drewN q∧(∀(j:Nat) a,j<lo→s[j]? = some a→kl a k=true)∧(∀(j:Nat) a,hi≤j→s[j]? = some a→kl a k=false)) (fun G I _=>(intOf I-intOf G).toNat)
 case atStart=>exact ⟨0,s.length,0,rfl,rfl,yao _,yaj _,rfl,fun j a J=>(by omega),fun j a J f=>by have:=zgB f;omega⟩
 case round =>
  obtain ⟨lo,hi,q,rfl,rfl,M,N,rfl,D,E⟩:=hrel;by_cases O:lo<hi
  · obtain ⟨m,P⟩:∃m,(lo + hi) / 2=m:=⟨_,rfl⟩;have Q:lo≤m∧m<hi:=by omega
    obtain ⟨a,f⟩:∃a,s[m]? = some a:=⟨_,yal yab⟩;obtain ⟨b,o,rfl,R⟩:=u m a f;have F:Hid (((lo:Int) + (hi:Int)) / 2=(m:Int)):=Lib.hid yab;subst P;cases g:kl a k
    · have K:∀(j:Nat) x,(lo + hi) / 2≤j→s[j]? = some x→kl x k=false:=fun j x J C=>by
       by_cases e:(lo + hi) / 2=j
       · subst e;rw [f] at C;cases C;exact g
       · cases T:kl x k
         · rfl
         · have:=zc0 (hs.at_ f C yab) T;rw [g] at this;cases this
      have L:∀W,Calls Tryz.prog 152 #[.string a,.string k] W fun e w'=>e = .returned (.bool false)∧w'=W:=fun W=>by rw [←g];exact znv a k W
      clear u f g E;go_wp2_with (go_at_call 152;refine (L _).mono ?_;rintro e w' ⟨rfl,rfl⟩)
      exact ⟨⟨lo,(lo + hi) / 2,q,rfl,by rw [F.out],by omega,by omega,rfl,D,K⟩,by simp [intOf];omega⟩
    · have K:∀(j:Nat) x,j<(lo + hi) / 2 + 1→s[j]? = some x→kl x k=true:=fun j x J C=>by
       by_cases e:(lo + hi) / 2=j
       · subst e;rw [f] at C;cases C;exact g
       · exact zc0 (hs.at_ C f yab) g
      have L:∀W,Calls Tryz.prog 152 #[.string a,.string k] W fun e w'=>e = .returned (.bool true)∧w'=W:=fun W=>by rw [←g];exact znv a k W
      clear u f g D;go_wp2_with (go_at_call 152;refine (L _).mono ?_;rintro e w' ⟨rfl,rfl⟩)
      exact ⟨⟨(lo + hi) / 2 + 1,hi,q,by rw [F.out];rfl,rfl,by omega,by omega,rfl,K,E⟩,by simp [intOf];omega⟩
  · obtain rfl:lo=hi:=by omega
    have hk:=zqe hs D fun a f=>E lo a (yaj _) f;by_cases U:lo<s.length
    · obtain ⟨a,f⟩:∃a,s[lo]? = some a:=⟨_,yal yab⟩;obtain ⟨b,o,rfl,R⟩:=u lo a f;rw [f] at hk;have X:(a.toList == k.toList)=H:=by rw [tl_eq,←y.out,hk]
      clear u f hk D E y;cases H
      · go_wp2_with (go_at_call 153;refine (zmn _ _).mono ?_;rintro e w' ⟨rfl,rfl⟩)
        go_ret2
        refine ⟨(lo:Int),?_,_,rfl⟩;first | rfl | simp [*]
      · go_wp2_with (go_at_call 153;refine (zmn _ _).mono ?_;rintro e w' ⟨rfl,rfl⟩)
        go_ret2
        refine ⟨(lo:Int),?_,_,rfl⟩;first | rfl | simp [*]
    · have V:H=false:=by rw [←y.out,hk,ycI (by omega)]
      subst V;clear u hk D E y;go_wp2_with (go_at_call 153;refine (zmn _ _).mono ?_;rintro e w' ⟨rfl,rfl⟩)
      go_ret2
      exact ⟨_,rfl,_,rfl⟩
theorem has_any (h:Rd w B 1 A n c (ks s)) (hn:n=s.length) (hs:Rises s) (hl:n≤1000000) (k:ByteArray) :
 Calls Tryz.prog 68 #[.slice A n c,.string k] w fun e w'=>e = .returned (.bool (hasK s k))∧∃q,w'=w.drewN q:=by
 have b:=search_any h hn hs hl k;clear hn h hl;go_enter Tryz.func68,Tryz.ntmps68
 go_wp2_with (go_at_call 108;refine b.mono ?_;rintro e w' ⟨z,rfl,f⟩)
 go_ret
 exact ⟨rfl,f⟩
end
section
open Go.RowKit
theorem zcP:(Tryz.prog.info? 9).map (fun i=>(i.zero,i.size,i.bytes))=some (some (.string ⟨#[]⟩),1,16):=by kernel_rfl
theorem zqa {l:List ByteArray} {i:Nat} {a:ByteArray} (k:ByteArray) (h:l[i]? = some a):hasK (l.take (i + 1)) k=(hasK (l.take i) k || (a.toList == k.toList)):=by
 rw [tl_eq,yaC,h,yaO];unfold hasK;rw [List.any_append,ycM,List.any_nil,Bool.or_false];congr 1
 by_cases e:k=a
 · rw [yaB e,yaB e.symm]
 · rw [yaF e,yaF (Ne.symm e)]
end
end Go.Proofs.YtmblgnddgmfkhaaGreat
