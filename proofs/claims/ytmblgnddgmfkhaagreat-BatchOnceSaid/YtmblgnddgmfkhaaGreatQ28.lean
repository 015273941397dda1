import Derived.Lib.LazyBuf
import Derived.Shelf.SlGeneric
import Derived.Shelf.SlIter.Nil
import Derived.Shelf.SortM.Plain
import Derived.Shelf.SortM.SortNone
import Derived.Shelf.SlicesG.CompactS
import Derived.Shelf.SlicesG.Clone
import Derived.Laws.Shifts
import Derived.Lib.OwnBridge
import Derived.Lib.RowBridge
import Derived.Test.YtmblgnddgmfkhaaGreatQ27
set_option maxRecDepth 100000
set_option maxHeartbeats 4000000
namespace Go.Proofs.YtmblgnddgmfkhaaGreat
section
open Go.RowKit
variable {p:ByteArray→Bool} {Br c:Nat} {A:Option Addr}
section
variable {S:SpW} {f:CoF} {X Y F F':Nat→Prop} {w w':World} {g:Nat} {s:Sto Tb Nd15} {L:List Sp} {last:Int} {m:Mm}
theorem gone_any (K:SpK S) (h:StM S f X w F g s L last m) (hBr:w.cell? ⟨Br,0,none⟩=some (.pointer (some ⟨g,0,none⟩))) (k:ByteArray) (hk:k.size≤maxLen) :
 Calls Tryz.prog 65 #[.string k,.pointer (some ⟨Br,0,none⟩)] w fun e w'=>e = .returned (.bool (!hasK (zai s).keys k))∧Below w.heap.size w w':=by
 have q:=World.block_lt_of_cell? w _ hBr;have o:=h.up K (zbj w);have C:=zcP o.toStR;have j:s.floor≤revB s:=by have:=h.rev_eq;omega
 have u:=h.spb.tell (revB s) j (ybp _) k;rw [za5 h.ok.has] at u;have B:=fun W (hb:Below w.drew.heap.size w.drew W)=>K.has k (revB s) (o.up K hb).sp h.spb.fine (by have:=h.len;omega) hk;rw [u] at B;have b:=fun W (hb:Below w.drew.heap.size w.drew W)=>(⟨(hb.cell (p:=⟨Br,0,none⟩) q).trans hBr,(o.up K hb).cs.1⟩:_∧_);obtain ⟨G,H⟩:=b _ (Below.refl _ _);have lt:=h.box.lt;generalize hasK (zai s).keys k=z at *
 generalize revB s=y at *
 clear j u h o hBr;go_enter Tryz.func65,Tryz.ntmps65
 go_upto_region 1 with (fail)
 go_region_held3 (fun W=>W.cell? ⟨Br,0,none⟩=some (.pointer (some ⟨g,0,none⟩))∧W.cell? ⟨g,0,none⟩=some (.pointer (some ⟨m.gs,0,none⟩)))
  (first | exact x | exact A | go_keep | fail)
  ((first
   | (with_reducible refine C.mono ?_;rintro I D ⟨rfl,d⟩;have x:=b D d)
   | (with_reducible refine (B _ d).mono ?_;rintro J E ⟨rfl,n⟩;have A:=b E (zad d d.size n))
   | fail))
 go_wp2_with fail
 go_ret
 exact ⟨rfl,zad (zbj w) (yaj _) (zad d d.size n)⟩
end
def Asks (w:World) (Br:Nat) (p:ByteArray→Bool):Prop:=∀W,Below w.heap.size w W→∀k:ByteArray,k.size≤maxLen→Calls Tryz.prog 65 #[.string k,.pointer (some ⟨Br,0,none⟩)] W fun e W'=>e = .returned (.bool (p k))∧Below W.heap.size W W'
def FirstIs (p:ByteArray→Bool) (s:List ByteArray) (z:Int):Prop:=(z = -1∧∀k ∈ s,p k=false)∨∃(i:Nat) (k:ByteArray),z=i∧s[i]? = some k∧p k=true∧∀x ∈ s.take i,p x=false
theorem indexF_any {w0 w:World} {s:List ByteArray} (hp:Asks w0 Br p) (hw:Below w0.heap.size w0 w) (hR:Rd w w.heap.size 1 A s.length c (ks s)) (hl:s.length≤1000000) (hs:∀k ∈ s,k.size≤maxLen) :
 Calls Tryz.prog 105 #[.slice A s.length c,.func (.func 65) #[] #[.pointer (some ⟨Br,0,none⟩)]] w fun e w'=>(∃z:Int,e = .returned (.int .i64 z)∧FirstIs p s z)∧Below w.heap.size w w':=by
 have B:∀f W,(callFunc 65 f).run Tryz.prog W = .ok (.enter 65 f) W:=enters_of Tryz.func65 yaa rfl;go_enter Tryz.func105,Tryz.ntmps105
 go_wp2_with fail
 go_loopw [8] (fun u C=>∃i:Nat,u = .int .i64 i∧i≤s.length∧Below w.heap.size w C∧Hid (∀x ∈ s.take i,p x=false)) (fun u _=>s.length-(intOf u).toNat)
 case atStart=>exact ⟨0,rfl,yap _,Below.refl _ _,Lib.hid fun x m=>by simp at m⟩
 case round =>
  obtain ⟨i,rfl,hi,hb,d⟩:=hrel;by_cases y:i<s.length
  · have D:(i:Int)<(s.length:Int):=by omega
    have F:(0:Int)≤(i:Int):=by omega
    obtain ⟨k,hk⟩:∃k,s[i]? = some k:=⟨_,yal y⟩;obtain ⟨b,o,rfl,_,G⟩:=zhk (hR.below hb) hk;have n:=hp wr (zad hw hw.size hb) k (hs k (yar hk));cases q:p k with
    | true =>
     rw [q] at n;go_wp2_with (refine n.mono ?_;rintro e E ⟨rfl,g⟩)
     go_ret
     exact ⟨⟨i,rfl,.inr ⟨i,k,rfl,hk,q,d.out⟩⟩,zad hb hb.size g⟩
    | false =>
     rw [q] at n;have j:Hid (∀x ∈ s.take (i + 1),p x=false):=Lib.hid fun x m=>by
      rw [yaC,hk,yaR,yaz,yas] at m;rcases m with m | rfl
      · exact d.out x m
      · exact q
     go_wp2_with (refine n.mono ?_;rintro e E ⟨rfl,g⟩)
     exact ⟨⟨i + 1,by go_num,by omega,zad hb hb.size g,j⟩,by simp [intOf];omega⟩
  · obtain rfl:i=s.length:=by omega
    have D:¬(((s.length:Nat):Int)<(s.length:Int)):=by omega
    go_wp2_with fail
    go_ret
    exact ⟨⟨-1,rfl,.inl ⟨rfl,by have:=d.out;rwa [yaA] at this⟩⟩,hb⟩
def noP (p:ByteArray→Bool) (s:List ByteArray):List ByteArray:=s.filter fun k=>!p k
theorem zqh {s:List ByteArray} (h:∀k ∈ s,p k=false):noP p s=s:=List.filter_eq_self.2 fun k hk=>by rw [h k hk];rfl
theorem zmO {s:List ByteArray} {j:Nat} {k:ByteArray} (h:s[j]? = some k):noP p (s.take (j + 1))=noP p (s.take j) ++ if p k then [] else [k]:=by
 unfold noP;rw [yaC,h,yaR,yb2];cases q:p k <;> simp [q]
theorem Stay.weak {X Y:Nat→Prop} {w w1:World} (h:Stay X w w1) (hX:∀b,X b→Y b):Stay Y w w1:=⟨h.1,fun b hb d=>h.2 b hb fun q=>d (hX b q)⟩
theorem KeyX.weak {a b:Nat} {w:World} {l:List ByteArray} (h:KeyX (·<b) w A c l) (hab:a≤b):KeyX (·<a) w A c l:=fun w' d=>h w' (d.weak fun _ q=>yaw q hab)
theorem deleteF_any {w0 w:World} {s:List ByteArray} (hp:Asks w0 Br p) (hw:Below w0.heap.size w0 w) (hO:w.ownsRow w0.heap.size 9 1 (.slice A s.length c) s.length (ks s)) (hl:s.length≤1000000) (hs:∀k ∈ s,k.size≤maxLen) :
 Calls Tryz.prog 66 #[.slice A s.length c,.func (.func 65) #[] #[.pointer (some ⟨Br,0,none⟩)]] w fun e w'=>(∃A' c',e = .returned (.slice A' (noP p s).length c')∧KeyX (·<w0.heap.size) w' A' c' (noP p s))∧Below w0.heap.size w0 w':=by
 have ao:∀L W,(callFunc 65 L).run Tryz.prog W = .ok (.enter 65 L) W:=enters_of Tryz.func65 yaa rfl;obtain ⟨A0,c0,U,X⟩:=Rd.own hO;injection U with e1 _ e3
 subst e1 e3;have ki:=indexF_any hp hw X hl hs;have Y:=X.cap;have ac:=X.capm;obtain ⟨n,H⟩:∃n,s.length=n:=⟨_,rfl⟩;rw [H] at ki hO X hl Y ⊢;replace H:=Lib.hid H;go_enter Tryz.func66,Tryz.ntmps66
 go_upto_region 2 with (go_at_call 105;refine ki.mono ?_;rintro e w1 ⟨⟨z,rfl,hz⟩,I⟩)
 have M:=zad hw hw.size I;rcases hz with ⟨rfl,m⟩ | ⟨i,k,rfl,hk,Z,m⟩
 · clear ki;have D:noP p s=s:=zqh m;go_wp2_with fail
   go_ret
   rw [D];refine ⟨⟨A,c,by rw [H.out];rfl,fun w' V=>?_⟩,M⟩;have ad:=zau hO fun j hj=>I.block j (hO.lt j hj).2;obtain ⟨A9,c9,e9,ae⟩:=Rd.own (V.row ad fun _ q=>q);injection e9 with af _ ag
   subst af ag;rw [H.out];exact ae
 · have ah:i<n:=by have:=zg4 hk;have:=H.out;omega
   rcases hO.2 with ⟨U,_⟩ | ⟨d,an,N,U,O,a1,aq,ar,au,a2⟩
   · injection U with _ U
     omega
   injection U with e1 _ e3
   subst e1 e3;have a6:Rk w1 d N 9:=(show Rk w d N 9 from a1).same (I.block d (yaO.1 a1).1);rw [ycA] at a2;have ai:((i:Int) == -1)=false:=ybc.2 yab;have aj:IntKind.i64.wrap ((i:Int) + 1)=((i + 1:Nat):Int):=by rw [show (i:Int) + 1=((i + 1:Nat):Int) by omega];exact IntWalk.i64_in _ ⟨by omega,by omega⟩
   have a7:noP p (s.take (i + 1))=s.take i:=by
    rw [zmO hk,Z,yan rfl,yaJ,zqh m]
   clear ki m Z I X;go_upto_region 5 with (fail)
   go_loopw [5,6] (fun vi vj wx=>∃(i j:Nat) (cs:List ByteArray) (f:Array Value),vi = .int .i64 i∧vj = .int .i64 j∧i<j∧j≤n∧Hid (cs.length=n∧cs.take i=noP p (s.take j)∧cs.drop j=s.drop j∧f.toList.take n=ks cs)∧Rk wx d f 9∧Below w0.heap.size w0 wx) (fun _ vj _=>n-(intOf vj).toNat)
   case atStart=>exact ⟨i,i + 1,s,N,rfl,by go_num,by omega,by omega,Lib.hid ⟨H.out,a7.symm,rfl,a2⟩,a6,M⟩
   case round =>
    clear a7 ai aj hk ah a6 M;obtain ⟨i,j,cs,f,rfl,rfl,av,hj,hc,F,hb⟩:=hrel;obtain ⟨x,y,E,g⟩:=hc.out;have aw:n≤f.size:=by
     have:=congrArg List.length g;rw [yaK,zmG,x,ybm] at this;omega
    have b:∀(t:Nat) v,t<n→cs[t]? = some v→wr.cell? ⟨d,t,none⟩=some (.string v):=fun t v ht G=>by
     rw [F.cell t,←ycf];have:(f.toList.take n)[t]? = some (.string v):=by rw [g];exact zmF G
     rwa [List.getElem?_take,yan ht] at this
    have gl:=F.lt;have gf:=F.fz;by_cases ak:j<n
    · have dj:(j:Int)<(n:Int):=by omega
      have ax:(0:Int)≤(j:Int):=by omega
      have al:(0:Int)≤(i:Int):=by omega
      have di:(i:Int)<(n:Int):=by omega
      obtain ⟨v,G⟩:∃v,s[j]? = some v:=⟨_,yal (by have:=H.out;omega)⟩;have P:cs[j]? = some v:=by
       have:=congrArg (fun l:List ByteArray=>l[0]?) E;simp only [List.getElem?_drop,ybP] at this;rw [this,G]
      have g0:=b j v ak P;have kh:=hp wr hb v (hs v (yar G));have e1:IntKind.i64.wrap ((j:Int) + 1)=((j + 1:Nat):Int):=by rw [show (j:Int) + 1=((j + 1:Nat):Int) by omega];exact IntWalk.i64_in _ ⟨by omega,by omega⟩
      have e2:IntKind.i64.wrap ((i:Int) + 1)=((i + 1:Nat):Int):=by rw [show (i:Int) + 1=((i + 1:Nat):Int) by omega];exact IntWalk.i64_in _ ⟨by omega,by omega⟩
      have J:cs.drop (j + 1)=s.drop (j + 1):=by
       have:=congrArg (List.drop 1) E;rwa [List.drop_drop,List.drop_drop] at this
      have B:=zmO (p:=p) G;cases K:p v with
      | true =>
       rw [K] at kh;rw [K,yan rfl,yaJ] at B;have Q:Hid (cs.length=n∧cs.take i=noP p (s.take (j + 1))∧cs.drop (j + 1)=s.drop (j + 1)∧f.toList.take n=ks cs):=Lib.hid ⟨x,by rw [B];exact y,J,g⟩;clear hc x y E g J B b P G;go_wp2_with (refine kh.mono ?_;rintro e w5 ⟨rfl,C⟩)
       exact ⟨⟨i,j + 1,cs,f,rfl,by go_num,by omega,by omega,Q,F.same (C.block d F.lt),zad hb hb.size C⟩,by simp [intOf];omega⟩
      | false =>
       rw [K] at kh;rw [K,yak (by decide)] at B;have R:i<cs.length:=by omega
       have Q:Hid ((cs.set i v).length=n∧(cs.set i v).take (i + 1)=noP p (s.take (j + 1))∧(cs.set i v).drop (j + 1)=s.drop (j + 1)∧(f.setIfInBounds i (.string v)).toList.take n=ks (cs.set i v)):=Lib.hid ⟨by rw [yb8];exact x,by
        rw [B,←y,yaC,ycj,yan rfl,yan R,List.take_set_of_le (yaj _)];rfl,by rw [List.drop_set_of_lt (by omega)];exact J,by
        rw [ycH,List.take_set,g];unfold ks;rw [List.map_set]⟩
       have a8:∃u,wr.cell? ⟨d,i,none⟩=some u:=⟨_,b i _ yab (yal R)⟩;obtain ⟨u,hu⟩:=a8;clear hc x y E g J B b P G R;go_wp2_with (refine kh.mono ?_;rintro e w5 ⟨rfl,C⟩;have T:=F.same (C.block d F.lt);have ay:=(C.cell (p:=⟨d,i,none⟩) F.lt).trans hu;have az:=T.fz;have b0:=T.lt)
       exact ⟨⟨i + 1,j + 1,cs.set i v,_,by go_num,by go_num,by omega,by omega,Q,T.set i _,(zad hb hb.size C).setCell (show w0.heap.size≤d from O) _⟩,by simp [intOf];omega⟩
    · obtain rfl:j=n:=by omega
      have dj:¬(((j:Nat):Int)<(j:Int)):=by omega
      have D:noP p s=cs.take i:=by rw [y,←H.out,yaA]
      have b1:∀ty,(Builtin.clear_ #[87] ty #[.slice (some ⟨d,i,none⟩) (j-i) (c-i)]).run Tryz.prog wr = .ok (.tuple #[]) (wr.setCells d i (List.replicate (j-i) (.string ⟨#[]⟩))):=fun ty=>Lib.run_clear_slice wr _ _ ty _ Tryz.underlying87 (fun w=>Tryz.zeroValue9 w) rfl rfl d i _ _ yab (fun q K=>by
       rw [b (i + q) _ yab (yal yab)];rfl) fun q K=>F.fz _
      have al:(0:Int)≤(i:Int):=by omega
      have b2:(i:Int)≤(j:Int):=by omega
      have b3:(i:Int)≤(c:Int):=by omega
      have a8:¬c=i:=by omega
      have o:(noP p s).length=i:=by rw [D,yaK];omega
      have am:=below_setCells (show w0.heap.size≤d from O) (List.replicate (j-i) (.string ⟨#[]⟩)) i wr hb;have aa:∀w',Stay (·<w0.heap.size) (wr.setCells d i (List.replicate (j-i) (.string ⟨#[]⟩))) w'→Rd w' w'.heap.size 1 (some ⟨d,0,none⟩) i c (ks (cs.take i)):=fun w' V=>by
       have ab:d<(wr.setCells d i (List.replicate (j-i) (.string ⟨#[]⟩))).heap.size:=yaw F.lt (World.keptBut_setCells d (may:=fun _=>True) _ i wr fun _ _=>trivial).size;refine Rd.of_cells (by rw [zmG,yaK];omega) yac yab ac (yaw ab V.1) fun q u hu=>?_;have K:q<i:=by
        have:=(yao.1 hu).1;rw [zmG,yaK] at this;omega
       obtain ⟨v,G⟩:∃v,cs[q]? = some v:=⟨_,yal yab⟩;have:(ks (cs.take i))[q]? = some (.string v):=zmF (by rw [List.getElem?_take,yan K,G]);rw [this] at hu;cases hu;rw [Addr.add_lit,yaG,World.cell?_of_block (V.2 d ab (show ¬d<w0.heap.size from Nat.not_lt.2 O)),World.cell?_setCells_out d _ i wr _ (fun _ _=>.inl K)];exact b q v yab G
      rw [←D] at aa;replace o:=Lib.hid o;clear b hc x y E g D;go_wp2_with fail
      go_ret
      exact ⟨⟨some ⟨d,0,none⟩,c,by rw [o.out];rfl,fun w' V=>by rw [o.out];exact aa w' V⟩,am⟩
end
section
open Go.Shelf Go.RowKit Go.Lib Go.Sort
def zi6:Go.Shelf.Ren:=⟨fun | 42=>64 | n=>n,fun | 25=>46 | 26=>9 | 4=>4 | n=>n,fun | n=>n⟩
theorem zg3:Go.Proofs.SlLaysN.n42 Tryz.prog zi6:={
 mixed:=by kernel_rfl
 f42:=⟨Tryz.f64.name,by decide,Tryz.func64.trans (congrArg some yaa)⟩
 t4:=Tryz.underlying4
 a4:=Tryz.isAgg4
 z4:=Tryz.sizeOf4
 v4:=Tryz.zeroValue4
 t25:=Tryz.underlying46
 a25:=Tryz.isAgg46
 z25:=Tryz.sizeOf46
 v25:=Tryz.zeroValue46
 t26:=Tryz.underlying9
 a26:=Tryz.isAgg9
 z26:=Tryz.sizeOf9
 v26:=Tryz.zeroValue9
 i26:=by kernel_rfl }
def zhL:Go.Shelf.Ren:=⟨fun | 6=>106 | 8=>144 | 9=>151 | 19=>195 | 20=>137 | 21=>199 | 22=>200 | 23=>201 | 24=>202 | 25=>203 | 26=>204 | 27=>152 | 28=>205 | 29=>206 | 36=>240 | 31=>235 | 32=>236 | 37=>241 | 38=>242 | 39=>197 | 41=>269 | n=>n,fun | 27=>46 | 29=>9 | 3=>3 | 32=>258 | 26=>46 | 0=>0 | 44=>315 | 46=>103 | 4=>4 | 36=>309 | 35=>308 | 41=>154 | 5=>5 | 9=>9 | 53=>358 | 57=>361 | 63=>375 | 64=>376 | n=>n,fun | n=>n⟩
theorem zdY:Go.Proofs.SlLaysM.n6 Tryz.prog zhL:={
 mixed:=by kernel_rfl
 f6:=⟨Tryz.f106.name,by decide,Tryz.func106.trans (congrArg some yaa)⟩
 f8:=Tryz.func144.trans (congrArg some yaa)
 f9:=⟨Tryz.f151.name,by decide,Tryz.func151.trans (congrArg some yaa)⟩
 f19:=Tryz.func195.trans (congrArg some yaa)
 f20:=Tryz.func137.trans (congrArg some yaa)
 f21:=⟨Tryz.f199.name,by decide,Tryz.func199.trans (congrArg some yaa)⟩
 f22:=⟨Tryz.f200.name,by decide,Tryz.func200.trans (congrArg some yaa)⟩
 f23:=⟨Tryz.f201.name,by decide,Tryz.func201.trans (congrArg some yaa)⟩
 f24:=⟨Tryz.f202.name,by decide,Tryz.func202.trans (congrArg some yaa)⟩
 f25:=⟨Tryz.f203.name,by decide,Tryz.func203.trans (congrArg some yaa)⟩
 f26:=⟨Tryz.f204.name,by decide,Tryz.func204.trans (congrArg some yaa)⟩
 f27:=⟨Tryz.f152.name,by decide,Tryz.func152.trans (congrArg some yaa)⟩
 f28:=⟨Tryz.f205.name,by decide,Tryz.func205.trans (congrArg some yaa)⟩
 f29:=⟨Tryz.f206.name,by decide,Tryz.func206.trans (congrArg some yaa)⟩
 f31:=Tryz.func235.trans (congrArg some yaa)
 f32:=Tryz.func236.trans (congrArg some yaa)
 f36:=⟨Tryz.f240.name,by decide,Tryz.func240.trans (congrArg some yaa)⟩
 f37:=⟨Tryz.f241.name,by decide,Tryz.func241.trans (congrArg some yaa)⟩
 f38:=⟨Tryz.f242.name,by decide,Tryz.func242.trans (congrArg some yaa)⟩
 f39:=⟨Tryz.f197.name,by decide,Tryz.func197.trans (congrArg some yaa)⟩
 f41:=⟨Tryz.f269.name,by decide,Tryz.func269.trans (congrArg some yaa)⟩
 t0:=Tryz.underlying0
 a0:=Tryz.isAgg0
 z0:=Tryz.sizeOf0
 v0:=Tryz.zeroValue0
 t3:=Tryz.underlying3
 a3:=Tryz.isAgg3
 z3:=Tryz.sizeOf3
 v3:=Tryz.zeroValue3
 t4:=Tryz.underlying4
 a4:=Tryz.isAgg4
 z4:=Tryz.sizeOf4
 v4:=Tryz.zeroValue4
 t5:=Tryz.underlying5
 a5:=Tryz.isAgg5
 z5:=Tryz.sizeOf5
 v5:=Tryz.zeroValue5
 t9:=Tryz.underlying9
 a9:=Tryz.isAgg9
 z9:=Tryz.sizeOf9
 v9:=Tryz.zeroValue9
 t26:=Tryz.underlying46
 a26:=Tryz.isAgg46
 z26:=Tryz.sizeOf46
 v26:=Tryz.zeroValue46
 t27:=Tryz.underlying46
 a27:=Tryz.isAgg46
 z27:=Tryz.sizeOf46
 v27:=Tryz.zeroValue46
 t29:=Tryz.underlying9
 a29:=Tryz.isAgg9
 z29:=Tryz.sizeOf9
 v29:=Tryz.zeroValue9
 t32:=Tryz.underlying258
 a32:=Tryz.isAgg258
 z32:=Tryz.sizeOf258
 v32:=Tryz.zeroValue258
 t35:=Tryz.underlying308
 a35:=Tryz.isAgg308
 z35:=Tryz.sizeOf308
 v35:=Tryz.zeroValue308
 t36:=Tryz.underlying309
 a36:=Tryz.isAgg309
 z36:=Tryz.sizeOf309
 v36:=Tryz.zeroValue309
 t41:=Tryz.underlying154
 a41:=Tryz.isAgg154
 z41:=Tryz.sizeOf154
 v41:=Tryz.zeroValue154
 t44:=Tryz.underlying315
 a44:=Tryz.isAgg315
 z44:=Tryz.sizeOf315
 v44:=Tryz.zeroValue315
 t46:=Tryz.underlying103
 a46:=Tryz.isAgg103
 z46:=Tryz.sizeOf103
 v46:=Tryz.zeroValue103
 t53:=Tryz.underlying358
 a53:=Tryz.isAgg358
 z53:=Tryz.sizeOf358
 v53:=Tryz.zeroValue358
 t57:=Tryz.underlying361
 a57:=Tryz.isAgg361
 z57:=Tryz.sizeOf361
 v57:=Tryz.zeroValue361
 t63:=Tryz.underlying375
 a63:=Tryz.isAgg375
 z63:=Tryz.sizeOf375
 v63:=Tryz.zeroValue375
 t64:=Tryz.underlying376
 a64:=Tryz.isAgg376
 z64:=Tryz.sizeOf376
 v64:=Tryz.zeroValue376 }
def zkk:Go.Shelf.Ren:=⟨fun | 44=>107 | n=>n,fun | 25=>46 | 26=>9 | 3=>3 | 4=>4 | 0=>0 | n=>n,fun | n=>n⟩
theorem zmI:Go.Proofs.SlLaysN.n44 Tryz.prog zkk:={
 mixed:=by kernel_rfl
 f44:=⟨Tryz.f107.name,by decide,Tryz.func107.trans (congrArg some yaa)⟩
 t0:=Tryz.underlying0
 a0:=Tryz.isAgg0
 z0:=Tryz.sizeOf0
 v0:=Tryz.zeroValue0
 t3:=Tryz.underlying3
 a3:=Tryz.isAgg3
 z3:=Tryz.sizeOf3
 v3:=Tryz.zeroValue3
 t4:=Tryz.underlying4
 a4:=Tryz.isAgg4
 z4:=Tryz.sizeOf4
 v4:=Tryz.zeroValue4
 t25:=Tryz.underlying46
 a25:=Tryz.isAgg46
 z25:=Tryz.sizeOf46
 v25:=Tryz.zeroValue46
 t26:=Tryz.underlying9
 a26:=Tryz.isAgg9
 z26:=Tryz.sizeOf9
 v26:=Tryz.zeroValue9
 i26:=by kernel_rfl }
def zfV:Go.Shelf.Ren:=⟨fun | 7=>90 | 10=>139 | n=>n,fun | 23=>132 | 26=>9 | 3=>168 | 28=>171 | 0=>0 | 27=>170 | 33=>129 | 4=>4 | n=>n,fun | n=>n⟩
theorem zmJ:Go.Proofs.SlLaysZ.n7 Tryz.prog zfV:={
 mixed:=by kernel_rfl
 f7:=⟨Tryz.f90.name,by decide,Tryz.func90.trans (congrArg some yaa)⟩
 f10:=⟨Tryz.f139.name,by decide,Tryz.func139.trans (congrArg some yaa)⟩
 t0:=Tryz.underlying0
 a0:=Tryz.isAgg0
 z0:=Tryz.sizeOf0
 v0:=Tryz.zeroValue0
 t4:=Tryz.underlying4
 a4:=Tryz.isAgg4
 z4:=Tryz.sizeOf4
 v4:=Tryz.zeroValue4
 t23:=Tryz.underlying132
 a23:=Tryz.isAgg132
 z23:=Tryz.sizeOf132
 v23:=Tryz.zeroValue132
 t26:=Tryz.underlying9
 a26:=Tryz.isAgg9
 z26:=Tryz.sizeOf9
 v26:=Tryz.zeroValue9
 t27:=Tryz.underlying170
 a27:=Tryz.isAgg170
 z27:=Tryz.sizeOf170
 v27:=Tryz.zeroValue170
 t28:=Tryz.underlying171
 a28:=Tryz.isAgg171
 z28:=Tryz.sizeOf171
 v28:=Tryz.zeroValue171
 t33:=Tryz.underlying129
 a33:=Tryz.isAgg129
 z33:=Tryz.sizeOf129
 v33:=Tryz.zeroValue129 }
def zel:Go.Shelf.Ren:=⟨fun | 6=>89 | 8=>138 | 9=>106 | 11=>185 | 13=>144 | 12=>151 | 23=>195 | 24=>137 | 14=>199 | 15=>200 | 16=>201 | 17=>202 | 18=>203 | 19=>204 | 20=>152 | 21=>205 | 22=>206 | 25=>240 | 26=>235 | 27=>236 | 28=>241 | 29=>242 | 30=>197 | 31=>269 | n=>n,fun | 26=>9 | 28=>171 | 24=>46 | 0=>0 | 3=>3 | 37=>258 | 48=>315 | 50=>103 | 4=>4 | 40=>309 | 39=>308 | 45=>154 | 5=>5 | 9=>9 | 51=>358 | 55=>361 | 57=>375 | 58=>376 | 33=>129 | n=>n,fun | n=>n⟩
theorem znS:Go.Proofs.SlLaysZ.n6 Tryz.prog zel:={
 mixed:=by kernel_rfl
 f6:=⟨Tryz.f89.name,by decide,Tryz.func89.trans (congrArg some yaa)⟩
 f8:=⟨Tryz.f138.name,by decide,Tryz.func138.trans (congrArg some yaa)⟩
 f11:=⟨Tryz.f185.name,by decide,Tryz.func185.trans (congrArg some yaa)⟩
 t0:=Tryz.underlying0
 a0:=Tryz.isAgg0
 z0:=Tryz.sizeOf0
 v0:=Tryz.zeroValue0
 t24:=Tryz.underlying46
 a24:=Tryz.isAgg46
 z24:=Tryz.sizeOf46
 v24:=Tryz.zeroValue46
 t26:=Tryz.underlying9
 a26:=Tryz.isAgg9
 z26:=Tryz.sizeOf9
 v26:=Tryz.zeroValue9
 t28:=Tryz.underlying171
 a28:=Tryz.isAgg171
 z28:=Tryz.sizeOf171
 v28:=Tryz.zeroValue171
 i26:=by kernel_rfl }
end
section
open Go.RowKit Go.Shelf Go.Sort Go.Lib
variable {w:World} {c n g B:Nat} {ss:List (List UInt8)} {A:Option Addr} {s:List ByteArray}
theorem ks_enc (l:List (List UInt8)):l.map encStr=ks (l.map zcY):=by simp [ks,zcY,Function.comp_def]
theorem enc_ks (l:List ByteArray):ks l=(l.map fun s=>s.data.toList).map encStr:=by
 simp only [ks,ybn];refine yby fun s _=>?_;show Value.string s=Value.string ⟨s.data.toList.toArray⟩;rw [Array.toArray_toList]
theorem zpI (l:List ByteArray):(l.map fun s=>s.data.toList).map zcY=l:=by
 rw [ybn];conv=>rhs;rw [←ycy l]
 exact yby fun s _=>keyB_of s
theorem znx {b o:Nat} {l:List ByteArray} (hn:n=l.length) (hl:l.length≤1000000) (hc:∀(j:Nat) u,(ks l)[j]? = some u→w.cell? ⟨b,o + j,none⟩=some u) :
 Calls Tryz.prog 64 #[.slice (some ⟨b,o,none⟩) n c] w fun e w'=>∃v',e = .returned v'∧w'.ownsRow w.heap.size 9 1 v' n (ks l)∧v'≠.slice none 0 0∧Below w.heap.size w w':=by
 have h:=AnyG.slices_Clone_string zg3 b o n c l w yab yab fun j d=>hc j _ (by
  simp [ks,yal d])
 subst hn;rw [yaA] at h;exact h
theorem zo0 (n c:Nat) (w:World):Calls Tryz.prog 64 #[.slice none n c] w fun e w'=>e = .returned (.slice none 0 0)∧w'=w:=AnyG.slices_Clone_string_nil zg3 n c w
theorem zny (a:Addr) (c:Nat) (w:World):Calls Tryz.prog 64 #[.slice (some a) 0 c] w fun e w'=>∃v',e = .returned v'∧w'.ownsRow w.heap.size 9 1 v' 0 []∧v'≠.slice none 0 0∧Below w.heap.size w w':=AnyG.slices_Clone_string_zero zg3 a c w
theorem zq1 (hn:n=ss.length) (hH:Holds encStr w g 0 ss.toArray) (hg:g<w.heap.size) (hl:ss.length≤1000000) :
 Calls Tryz.prog 106 #[.slice (some ⟨g,0,none⟩) n c] w fun e w'=>e = .returned (.tuple #[])∧∃q os,w'=grow (putRow encStr (Sort.ahead w q) g 0 (ss.mergeSort fun x y=>decide (x≤y)).toArray) os:=by
 subst hn;exact AnyM.slices_Sort_string zdY g 0 c ss w hH hg yab
theorem zht (p:Option Addr) (c:Nat) (w:World):Calls Tryz.prog 106 #[.slice p 0 c] w fun e w'=>e = .returned (.tuple #[])∧w'=w:=AnyM.slices_Sort_string_none zdY p c w
theorem zo1 (hn:n=ss.length) (hH:Holds encStr w g 0 ss.toArray) (hc:n≤c) (hl:ss.length≤1000000) :
 Calls Tryz.prog 107 #[.slice (some ⟨g,0,none⟩) n c] w fun e w'=>e = .returned (.slice (some ⟨g,0,none⟩) (Lib.compact ss).length c)∧∃q,w'=putRow encStr (Sort.ahead w q) g 0 (Lib.compact ss ++ List.replicate (ss.length-(Lib.compact ss).length) []).toArray:=by
 subst hn;exact AnyG.slices_Compact_string zmI g 0 c ss w hH yab hc
theorem zjT (p:Option Addr) (c:Nat) (w:World):Calls Tryz.prog 107 #[.slice p 0 c] w fun e w'=>e = .returned (.slice p 0 c)∧w'=w:=AnyG.slices_Compact_string_empty zmI p c w
theorem sort_own (hO:w.ownsRow B 9 1 (.slice (some ⟨g,0,none⟩) n c) n (ss.map encStr)) (hl:ss.length≤1000000) :
 Calls Tryz.prog 106 #[.slice (some ⟨g,0,none⟩) n c] w fun e w'=>e = .returned (.tuple #[]) ∧
  w'.ownsRow B 9 1 (.slice (some ⟨g,0,none⟩) n c) n ((ss.mergeSort fun x y=>decide (x≤y)).map encStr)∧w.grownBy w' (some g):=by
 obtain ⟨z,cap,A,C,D,f,E,d,F⟩:=holds_of_ownsRow hO yaf;injection A with b _ j
 injection b with b
 injection b with b
 subst b;subst j;refine (zq1 d.symm F D hl).mono ?_;rintro e w' ⟨rfl,q,os,rfl⟩;refine ⟨rfl,?_,grownBy_sorted _⟩;rcases hO.2 with ⟨k,_⟩ | ⟨z,u,G,k,m,o,H,p,s,I⟩
 · cases k
 · injection k with b _ j
   injection b with b
   injection b with b
   subst b;subst j;have:=ownsRow_sorted (n:=q) (os:=os) (ss:=ss) (ts:=ss.mergeSort fun x y=>decide (x≤y)) (List.length_mergeSort _) m o yab p s;rw [d] at this;exact this
theorem comp_own (hO:w.ownsRow B 9 1 (.slice (some ⟨g,0,none⟩) n c) n (ss.map encStr)) (hl:ss.length≤1000000) :
 Calls Tryz.prog 107 #[.slice (some ⟨g,0,none⟩) n c] w fun e w'=>e = .returned (.slice (some ⟨g,0,none⟩) (Lib.compact ss).length c) ∧
  w'.ownsRow B 9 1 (.slice (some ⟨g,0,none⟩) (Lib.compact ss).length c) (Lib.compact ss).length ((Lib.compact ss).map encStr)∧w.grownBy w' (some g):=by
 obtain ⟨y,cap,m,o,z,b,p,d,s⟩:=holds_of_ownsRow hO yaf;injection m with f _ u
 injection f with f
 injection f with f
 subst f;subst u;have x:(Lib.compact ss).length≤ss.length:=compact_length_le ss;refine (zo1 d.symm s b hl).mono ?_;rintro e w' ⟨rfl,q,rfl⟩;refine ⟨rfl,?_,?_⟩
 · have j:=ownsRow_putRow (q:=q) (ys:=Lib.compact ss ++ List.replicate (ss.length-(Lib.compact ss).length) []) (k:=(Lib.compact ss).length) hO yag yab;rwa [ycM] at j
 · have:=grownBy_sorted (w:=w) (g:=g) (n:=q) (os:=#[]) (Lib.compact ss ++ List.replicate (ss.length-(Lib.compact ss).length) []).toArray;rwa [grow_empty] at this
def SetIs (w w':World) (l:List ByteArray) (e:Ending):Prop:=∃A c s,e = .returned (.slice A s.length c)∧Rises s∧(∀k,k ∈ s↔k ∈ l)∧w'.ownsRow w.heap.size 9 1 (.slice A s.length c) s.length (ks s)∧Below w.heap.size w w'
theorem of_any {l:List ByteArray} (h:Rd w w.heap.size 1 A l.length c (ks l)) (hl:l.length≤1000000) :
 Calls Tryz.prog 67 #[.slice A l.length c] w fun e w'=>SetIs w w' l e:=by
 rcases ybh l.length with F | F
 · obtain rfl:l=[]:=yaY F;rcases A with _ | a
   · go_enter Tryz.func67,Tryz.ntmps67
     go_wp2_with (first
      | (go_at_call 64;refine (zo0 _ _ _).mono ?_;rintro e E ⟨rfl,rfl⟩)
      | (go_at_call 106;refine (zht _ _ _).mono ?_;rintro e E ⟨rfl,rfl⟩)
      | (go_at_call 107;refine (zjT _ _ _).mono ?_;rintro e E ⟨rfl,rfl⟩)
      | fail)
     go_ret
     exact ⟨none,0,[],rfl,List.Pairwise.nil,fun _=>Iff.rfl,World.ownsRow_nil _ _ _ _,Below.refl _ _⟩
   · go_enter Tryz.func67,Tryz.ntmps67
     go_wp2_with (first
      | (go_at_call 64;refine (zny _ _ _).mono ?_;rintro e E ⟨v,rfl,m,_,hb⟩;obtain ⟨P,Q,rfl,_⟩:=Rd.own m)
      | (go_at_call 106;refine (zht _ _ _).mono ?_;rintro e R ⟨rfl,rfl⟩)
      | (go_at_call 107;refine (zjT _ _ _).mono ?_;rintro e T ⟨rfl,rfl⟩)
      | fail)
     go_ret
     exact ⟨P,Q,[],rfl,List.Pairwise.nil,fun _=>Iff.rfl,m,hb⟩
 · obtain ⟨b,o,rfl,_,L⟩:=h.at_ F;have M:=znx (c:=c) rfl hl L;go_enter Tryz.func67,Tryz.ntmps67
   go_wp2_with (go_at_call 64;refine M.mono ?_;rintro e E ⟨v,rfl,m,G,hb⟩)
   rw [enc_ks] at m;obtain ⟨g,cap,rfl,u,_,_,_,j,_⟩:=holds_of_ownsRow m G;obtain ⟨ss,n⟩:∃ss,(l.map fun s=>s.data.toList)=ss:=⟨_,rfl⟩;have d:=zot ss;have f:ss.map zcY=l:=by rw [←n,zpI]
   rw [f] at d;rw [n] at m j;obtain ⟨ts,p⟩:∃ts,(ss.mergeSort fun x y=>decide (x≤y))=ts:=⟨_,rfl⟩;have z:ts.length≤1000000:=by rw [←p,List.length_mergeSort];omega
   have N:=sort_own m yab;rw [p] at N d;have O:=fun (W:World) (h:W.ownsRow w.heap.size 9 1 (.slice (some ⟨g,0,none⟩) l.length cap) l.length (ts.map encStr))=>comp_own h z;obtain ⟨us,q⟩:∃us,Lib.compact ts=us:=⟨_,rfl⟩;rw [q] at d;simp only [q] at O;clear n L M h p f j z q;go_wp2_with (first
    | (go_at_call 106;refine N.mono ?_;rintro e R ⟨rfl,H,I⟩)
    | (go_at_call 107;refine (O _ H).mono ?_;rintro e T ⟨rfl,B,J⟩)
    | fail)
   go_ret
   have C:=hb.grown I hb.size fun k hk=>(by cases hk;exact u);have K:=C.grown J C.size fun k hk=>(by cases hk;exact u);rw [ks_enc] at B;have D:us.length=(us.map zcY).length:=by simp
   exact ⟨_,cap,us.map zcY,(by rw [←D];rfl),d.1,d.2,by rw [←D];exact B,K⟩
theorem zpo {k:ByteArray} (hs:Rises s) {i:Nat} (h1:∀(j:Nat) a,j<i→s[j]? = some a→kl a k=true) (h2:∀a,s[i]? = some a→kl a k=false):hasK s k=(match s[i]? with | some a=>decide (a=k) | none=>false):=by
 rw [ya6,zas];constructor
 · intro h;obtain ⟨j,f,e⟩:=yb9 h;have b:s[j]? = some k:=by rw [yal f,e]
   rcases ycP j i with q | q | q
   · have:=h1 j k q b;rw [zik] at this;cases this
   · subst q;rw [b];simp
   · have hi:i<s.length:=by omega
     have d:=hs.at_ (yal hi) b q;rw [h2 _ (yal hi)] at d;cases d
 · intro h;cases q:s[i]? with
   | none=>rw [q] at h;cases h
   | some a =>
    rw [q] at h;have:=yaQ h;subst this;exact yar q
theorem zmL (x y:ByteArray) (w:World):Calls Tryz.prog 152 #[.string x,.string y] w fun e w'=>e = .returned (.bool (kl x y))∧w'=w:=by
 have b:∀(z:ByteArray) (W:World),Calls Tryz.prog 197 #[.string z] W fun e w'=>e = .returned (.bool false)∧w'=W:=fun z W=>by
  go_enter Tryz.func197,Tryz.ntmps197
  go_wp2_with fail
  go_ret
  exact ⟨by simp,rfl⟩
 go_enter Tryz.func152,Tryz.ntmps152
 go_wp2_with (go_at_call 197;refine (b _ _).mono ?_;rintro e w' ⟨rfl,rfl⟩)
 go_ret
 exact ⟨rfl,rfl⟩
theorem zlK (z:ByteArray) (W:World):Calls Tryz.prog 153 #[.string z] W fun e w'=>e = .returned (.bool false)∧w'=W:=by
 go_enter Tryz.func153,Tryz.ntmps153
 go_wp2_with fail
 go_ret
 exact ⟨by simp,rfl⟩
theorem search_any (h:Rd w B 1 A n c (ks s)) (hn:n=s.length) (hs:Rises s) (hl:n≤1000000) (k:ByteArray) :
 Calls Tryz.prog 108 #[.slice A n c,.string k] w fun e w'=>∃z,e = .returned (.tuple #[.int .i64 z,.bool (hasK s k)])∧∃q,w'=w.drewN q:=by
 have g:∀(i:Nat) a,s[i]? = some a→∃b o,A=some ⟨b,o,none⟩∧w.cell? ⟨b,o + i,none⟩=some (.string a):=fun i a d=>by
  have:=zg4 d;obtain ⟨b,o,e,_,g⟩:=h.at_ yab;exact ⟨b,o,e,g i _ (zmF d)⟩
 clear h;subst hn;obtain ⟨H,p⟩:∃H,hasK s k=H:=⟨_,rfl⟩;rw [p];have p:=Lib.hid p;go_enter Tryz.func108,Tryz.ntmps108
 go_wp2_with fail
 go_loopw [7,8] (fun E F wr=>∃lo hi q:Nat,E = .int .i64 lo∧F = .int .i64 hi∧lo≤hi∧hi≤s.length∧wr=w.drewN q∧(∀(j:Nat) a,j<lo→s[j]? = some a→kl a k=true)∧(∀(j:Nat) a,hi≤j→s[j]? = some a→kl a k=false)) (fun E F _=>(intOf F-intOf E).toNat)
 case atStart=>exact ⟨0,s.length,0,rfl,rfl,yap _,yaj _,rfl,fun j a G=>(by omega),fun j a G d=>by have:=zg4 d;omega⟩
 case round =>
  obtain ⟨lo,hi,q,rfl,rfl,J,K,rfl,y,C⟩:=hrel;by_cases M:lo<hi
  · obtain ⟨m,N⟩:∃m,(lo + hi) / 2=m:=⟨_,rfl⟩;have O:lo≤m∧m<hi:=by omega
    obtain ⟨a,d⟩:∃a,s[m]? = some a:=⟨_,yal yab⟩;obtain ⟨b,o,rfl,P⟩:=g m a d;have D:Hid (((lo:Int) + (hi:Int)) / 2=(m:Int)):=Lib.hid yab;subst N;cases f:kl a k
    · have I:∀(j:Nat) x,(lo + hi) / 2≤j→s[j]? = some x→kl x k=false:=fun j x G u=>by
       by_cases e:(lo + hi) / 2=j
       · subst e;rw [d] at u;cases u;exact f
       · cases Q:kl x k
         · rfl
         · have:=zcJ (hs.at_ d u yab) Q;rw [f] at this;cases this
      have L:∀W,Calls Tryz.prog 152 #[.string a,.string k] W fun e w'=>e = .returned (.bool false)∧w'=W:=fun W=>by rw [←f];exact zmL a k W
      clear g d f C;go_wp2_with (go_at_call 152;refine (L _).mono ?_;rintro e w' ⟨rfl,rfl⟩)
      exact ⟨⟨lo,(lo + hi) / 2,q,rfl,by rw [D.out],by omega,by omega,rfl,y,I⟩,by simp [intOf];omega⟩
    · have I:∀(j:Nat) x,j<(lo + hi) / 2 + 1→s[j]? = some x→kl x k=true:=fun j x G u=>by
       by_cases e:(lo + hi) / 2=j
       · subst e;rw [d] at u;cases u;exact f
       · exact zcJ (hs.at_ u d yab) f
      have L:∀W,Calls Tryz.prog 152 #[.string a,.string k] W fun e w'=>e = .returned (.bool true)∧w'=W:=fun W=>by rw [←f];exact zmL a k W
      clear g d f y;go_wp2_with (go_at_call 152;refine (L _).mono ?_;rintro e w' ⟨rfl,rfl⟩)
      exact ⟨⟨(lo + hi) / 2 + 1,hi,q,by rw [D.out];rfl,rfl,by omega,by omega,rfl,I,C⟩,by simp [intOf];omega⟩
  · obtain rfl:lo=hi:=by omega
    have hk:=zpo hs y fun a d=>C lo a (yaj _) d;by_cases R:lo<s.length
    · obtain ⟨a,d⟩:∃a,s[lo]? = some a:=⟨_,yal yab⟩;obtain ⟨b,o,rfl,P⟩:=g lo a d;rw [d] at hk;have U:(a.toList == k.toList)=H:=by rw [tl_eq,←p.out,hk]
      clear g d hk y C p;cases H
      · go_wp2_with (go_at_call 153;refine (zlK _ _).mono ?_;rintro e w' ⟨rfl,rfl⟩)
        go_ret2
        refine ⟨(lo:Int),?_,_,rfl⟩;first | rfl | simp [*]
      · go_wp2_with (go_at_call 153;refine (zlK _ _).mono ?_;rintro e w' ⟨rfl,rfl⟩)
        go_ret2
        refine ⟨(lo:Int),?_,_,rfl⟩;first | rfl | simp [*]
    · have T:H=false:=by rw [←p.out,hk,ycD (by omega)]
      subst T;clear g hk y C p;go_wp2_with (go_at_call 153;refine (zlK _ _).mono ?_;rintro e w' ⟨rfl,rfl⟩)
      go_ret2
      exact ⟨_,rfl,_,rfl⟩
theorem has_any (h:Rd w B 1 A n c (ks s)) (hn:n=s.length) (hs:Rises s) (hl:n≤1000000) (k:ByteArray) :
 Calls Tryz.prog 68 #[.slice A n c,.string k] w fun e w'=>e = .returned (.bool (hasK s k))∧∃q,w'=w.drewN q:=by
 have b:=search_any h hn hs hl k;clear hn h hl;go_enter Tryz.func68,Tryz.ntmps68
 go_wp2_with (go_at_call 108;refine b.mono ?_;rintro e w' ⟨z,rfl,d⟩)
 go_ret
 exact ⟨rfl,d⟩
end
section
open Go.RowKit
theorem zet:(Tryz.prog.info? 9).map (fun i=>(i.zero,i.size,i.bytes))=some (some (.string ⟨#[]⟩),1,16):=by kernel_rfl
end
end Go.Proofs.YtmblgnddgmfkhaaGreat
