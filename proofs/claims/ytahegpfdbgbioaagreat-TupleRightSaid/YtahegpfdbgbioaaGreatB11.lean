import Derived.Shelf.Strings.OnBuilder
import Derived.Shelf.Strings.BuilderK
import Derived.Deep.DeepCutAuto
import Derived.Test.YtahegpfdbgbioaaGreatB09
import Derived.Test.YtahegpfdbgbioaaGreatB10
set_option maxRecDepth 100000
set_option maxHeartbeats 4000000
namespace Go.Proofs.YtahegpfdbgbioaaGreat
open Go.Shelf Go.RowKit
def zga:Go.Shelf.Ren:=⟨fun | 156=>73 | 165=>114 | 166=>93 | 169=>95 | 240=>143 | 241=>158 | 276=>182 | 277=>193 | n=>n,fun | 31=>23 | 9=>9 | 3=>3 | 4=>4 | 0=>0 | 20=>20 | 72=>177 | 76=>180 | 70=>174 | 37=>175 | 75=>179 | 127=>246 | 164=>278 | 5=>5 | 80=>39 | n=>n,fun | n=>n⟩
theorem zhC:Go.Proofs.Lays.n156 Tryz.prog zga:={
 mixed:=by kernel_rfl
 f156:=Tryz.func73.trans (congrArg some (by kernel_rfl))
 f165:=Tryz.func114.trans (congrArg some (by kernel_rfl))
 f166:=Tryz.func93.trans (congrArg some (by kernel_rfl))
 f169:=Tryz.func95.trans (congrArg some (by kernel_rfl))
 f240:=Tryz.func143.trans (congrArg some (by kernel_rfl))
 f241:=Tryz.func158.trans (congrArg some (by kernel_rfl))
 f276:=Tryz.func182.trans (congrArg some (by kernel_rfl))
 f277:=Tryz.func193.trans (congrArg some (by kernel_rfl))
 t0:=Tryz.underlying0
 a0:=Tryz.isAgg0
 z0:=Tryz.sizeOf0
 v0:=Tryz.zeroValue0
 t3:=Tryz.underlying3
 a3:=Tryz.isAgg3
 z3:=Tryz.sizeOf3
 v3:=Tryz.zeroValue3
 t4:=Tryz.underlying4
 a4:=Tryz.isAgg4
 z4:=Tryz.sizeOf4
 v4:=Tryz.zeroValue4
 t9:=Tryz.underlying9
 a9:=Tryz.isAgg9
 z9:=Tryz.sizeOf9
 v9:=Tryz.zeroValue9
 t20:=Tryz.underlying20
 a20:=Tryz.isAgg20
 z20:=Tryz.sizeOf20
 v20:=Tryz.zeroValue20
 t31:=Tryz.underlying23
 a31:=Tryz.isAgg23
 z31:=Tryz.sizeOf23
 v31:=Tryz.zeroValue23
 t37:=Tryz.underlying175
 a37:=Tryz.isAgg175
 z37:=Tryz.sizeOf175
 v37:=Tryz.zeroValue175
 t70:=Tryz.underlying174
 a70:=Tryz.isAgg174
 z70:=Tryz.sizeOf174
 v70:=Tryz.zeroValue174
 t72:=Tryz.underlying177
 a72:=Tryz.isAgg177
 z72:=Tryz.sizeOf177
 v72:=Tryz.zeroValue177
 t75:=Tryz.underlying179
 a75:=Tryz.isAgg179
 z75:=Tryz.sizeOf179
 v75:=Tryz.zeroValue179
 t76:=Tryz.underlying180
 a76:=Tryz.isAgg180
 z76:=Tryz.sizeOf180
 v76:=Tryz.zeroValue180
 t127:=Tryz.underlying246
 a127:=Tryz.isAgg246
 z127:=Tryz.sizeOf246
 v127:=Tryz.zeroValue246
 t164:=Tryz.underlying278
 a164:=Tryz.isAgg278
 z164:=Tryz.sizeOf278
 v164:=Tryz.zeroValue278 }
theorem zfF:Builder.Extra Tryz.prog zga:={
 sizeBuilder:=by kernel_rfl
 liesBuilder:=by kernel_rfl
 t5:=Tryz.underlying5
 a5:=Tryz.isAgg5
 z5:=Tryz.sizeOf5
 v5:=Tryz.zeroValue5
 infoByte:=by kernel_rfl
 cellsByte:=by kernel_rfl
 sizeByte:=by kernel_rfl
 neB5:=by decide }
theorem ziv (a:Option Addr) (c:Nat) (sep:ByteArray) (w:World) :
 Calls Tryz.prog 73 #[.slice a 0 c,.string sep] w fun e w'=>e = .returned (.string ⟨#[]⟩)∧w'=w:=Any.strings_Join_none zhC zfF a c sep w
theorem zf7 (bk o c:Nat) (xs:List ByteArray) (sep:ByteArray) (w:World) (hcells:∀(j:Nat) x,xs[j]? = some x→w.cell? ⟨bk,o + j,none⟩=some (.string x)) (hbk:bk<w.heap.size) (hN:xs.length≤140737488355328) (hcap:xs.length≤c) (hlen:(Lib.join (xs.map (·.data.toList)) sep.data.toList).length≤140737488355328) :
 Calls Tryz.prog 73 #[.slice (some ⟨bk,o,none⟩) xs.length c,.string sep] w fun e w'=>e = .returned (.string ⟨(Lib.join (xs.map (·.data.toList)) sep.data.toList).toArray⟩)∧Below w.heap.size w w':=Any.strings_Join zhC zfF bk o c xs sep w hcells hbk hN hcap hlen
theorem zkY (B b:Nat) (bs:List Value) (s:ByteArray) (w:World) (h:Lib.IsBuilderF 177 5 B b bs w) (hlen:bs.length + s.size≤140737488355328) (hBw:B≤w.heap.size) :
 Calls Tryz.prog 93 #[.pointer (some ⟨b,0,none⟩),.string s] w fun e w'=>e = .returned (.tuple #[.int .i64 s.size,.nilIface])∧(Lib.BuilderAtF 177 5 B b (.pointer (some ⟨b,0,none⟩)) (bs ++ Lib.strCells s) w'∧Below B w w'∧Lib.OthersKept 5 (some b) w w'):=Any.Builder_WriteString_k { zhC with } zfF B b bs s w h hlen hBw
theorem zje (B b:Nat) (l:List UInt8) (w:World) (h:Lib.IsBuilderF 177 5 B b (Lib.byteCells l) w) (hBw:B≤w.heap.size) :
 Calls Tryz.prog 95 #[.pointer (some ⟨b,0,none⟩)] w fun e w'=>e = .returned (.string ⟨l.toArray⟩)∧(Lib.IsBuilderF 177 5 B b (Lib.byteCells l) w'∧Below B w w'∧Lib.OthersKept 5 (some b) w w'):=Any.Builder_String_any_k { zhC with } zfF B b l w h hBw
end Go.Proofs.YtahegpfdbgbioaaGreat
namespace Go.Proofs.YtahegpfdbgbioaaGreat
open Go.RowKit
open Go.RowKit
open Go.RowKit
theorem zeO (k:Nat):(zgL k).size≤100:=by
 unfold zgL;split
 · show 3≤100;omega
 · split <;> (show 3≤100;omega)
section
variable {w:World} {B g m bx t4 t5 t6:Nat} {gs:List Gp}
theorem act_this (hm:Mp B g m w bx t4 t5 t6) (h:Ln B w g gs) (hg:g<B) (hB:B≤w.heap.size) (hn:gs.length≤1000000) (hp:(zaw gs).length≤1000000) (o:OpP) :
 Calls Tryz.prog 212 #[.agg #[.int .i64 (o.1:Nat),.string o.2.1,.string o.2.2],.pointer (some ⟨bx,0,none⟩)] w (zi8 B w g (zlp zcJ gs)):=by
 have hal:Below w.heap.size w (w.alloc (.cells #[.int .i64 (o.1:Nat),.string o.2.1,.string o.2.2] 166)):=(Below.refl _ w).alloc (Nat.le_refl _) _;have k:=put_any zcJ (h.below hal) hg (Nat.le_trans hB hal.size) hn hp;have b0:=(hm.box.below hal).cell 0;have lb:=(hm.box.below hal).lt;have hK:Kp g B w _:=Kp.of_below (hal.mono hB) g;clear h hal;go_enter Tryz.func212,Tryz.ntmps212
 go_wp2_with fail
 generalize w.alloc (.cells #[.int .i64 (o.1:Nat),.string o.2.1,.string o.2.2] 166)=W at *
 refine k.mono ?_;rintro e W1 ⟨rfl,hl,hk⟩;go_wp2_with fail
 go_returns
 exact ⟨rfl,hl,hK.trans hk⟩
theorem act_same (hm:Mp B g m w bx t4 t5 t6) (h:Ln B w g gs) (hg:g<B) (hB:B≤w.heap.size) (hn:gs.length≤1000000) (hp:(zaw gs).length≤1000000) (o:OpP) :
 Calls Tryz.prog 214 #[.agg #[.int .i64 (o.1:Nat),.string o.2.1,.string o.2.2],.pointer (some ⟨bx,0,none⟩)] w (zi8 B w g (zlp o.2.1 gs)):=by
 have hal:Below w.heap.size w (w.alloc (.cells #[.int .i64 (o.1:Nat),.string o.2.1,.string o.2.2] 166)):=(Below.refl _ w).alloc (Nat.le_refl _) _;have k:=put_any o.2.1 (h.below hal) hg (Nat.le_trans hB hal.size) hn hp;have b0:=(hm.box.below hal).cell 0;have lb:=(hm.box.below hal).lt;have ho:=Bk.new w #[.int .i64 (o.1:Nat),.string o.2.1,.string o.2.2] 166;have o1:=ho.cell 1;have lo:=ho.lt;have hK:Kp g B w _:=Kp.of_below (hal.mono hB) g;clear h hal ho;go_enter Tryz.func214,Tryz.ntmps214
 go_wp2_with fail
 generalize w.alloc (.cells #[.int .i64 (o.1:Nat),.string o.2.1,.string o.2.2] 166)=W at *
 refine k.mono ?_;rintro e W1 ⟨rfl,hl,hk⟩;go_wp2_with fail
 go_returns
 exact ⟨rfl,hl,hK.trans hk⟩
theorem act_via (hm:Mp B g m w bx t4 t5 t6) (h:Ln B w g gs) (hg:g<B) (hB:B≤w.heap.size) (hn:gs.length≤1000000) (hp:(zaw gs).length≤1000000) (o:OpP) (h1:o.2.1.size≤1000000) (h2:o.2.2.size≤1000000) :
 Calls Tryz.prog 215 #[.agg #[.int .i64 (o.1:Nat),.string o.2.1,.string o.2.2],.pointer (some ⟨bx,0,none⟩)] w (zi8 B w g (zlp (o.2.1 ++ ⟨#[46]⟩ ++ o.2.2) gs)):=by
 have hal:Below w.heap.size w (w.alloc (.cells #[.int .i64 (o.1:Nat),.string o.2.1,.string o.2.2] 166)):=(Below.refl _ w).alloc (Nat.le_refl _) _;have k:=put_any (o.2.1 ++ ⟨#[46]⟩ ++ o.2.2) (h.below hal) hg (Nat.le_trans hB hal.size) hn hp;have b0:=(hm.box.below hal).cell 0;have lb:=(hm.box.below hal).lt;have ho:=Bk.new w #[.int .i64 (o.1:Nat),.string o.2.1,.string o.2.2] 166;have o1:=ho.cell 1;have o2:=ho.cell 2;have lo:=ho.lt;have n1:¬9223372036854775807<o.2.1.size + 1:=by omega
 have n2:¬9223372036854775807<o.2.1.size + 1 + o.2.2.size:=by omega
 have hK:Kp g B w _:=Kp.of_below (hal.mono hB) g;clear h hal ho;go_enter Tryz.func215,Tryz.ntmps215
 go_wp2_with fail
 generalize w.alloc (.cells #[.int .i64 (o.1:Nat),.string o.2.1,.string o.2.2] 166)=W at *
 refine k.mono ?_;rintro e W1 ⟨rfl,hl,hk⟩;go_wp2_with fail
 go_returns
 exact ⟨rfl,hl,hK.trans hk⟩
theorem act_sign8 {ts:Nat} {s:ByteArray} (hm:Mp B g m w bx t4 t5 t6) (hs:Bk w ts #[.string s] 9) (hz:s.size≤100) (h:Ln B w g gs) (hg:g<B) (hB:B≤w.heap.size) (hn:gs.length≤1000000) (hp:(zaw gs).length≤1000000) (o:OpP) :
 Calls Tryz.prog 210 #[.agg #[.int .i64 (o.1:Nat),.string o.2.1,.string o.2.2],.pointer (some ⟨bx,0,none⟩),.pointer (some ⟨ts,0,none⟩)] w (zi8 B w g (ziu s gs)):=by
 have hal:Below w.heap.size w (w.alloc (.cells #[.int .i64 (o.1:Nat),.string o.2.1,.string o.2.2] 166)):=(Below.refl _ w).alloc (Nat.le_refl _) _;have k:=join_any s (h.below hal) hg (Nat.le_trans hB hal.size) hn hp hz;have b0:=(hm.box.below hal).cell 0;have lb:=(hm.box.below hal).lt;have s0:=(hs.below hal).cell 0;have ls:=(hs.below hal).lt;have hK:Kp g B w _:=Kp.of_below (hal.mono hB) g;clear h hal;go_enter Tryz.func210,Tryz.ntmps210
 go_wp2_with fail
 generalize w.alloc (.cells #[.int .i64 (o.1:Nat),.string o.2.1,.string o.2.2] 166)=W at *
 refine k.mono ?_;rintro e W1 ⟨rfl,hl,hk⟩;go_wp2_with fail
 go_returns
 exact ⟨rfl,hl,hK.trans hk⟩
end
theorem zci (a b:List ByteArray):(za9 (a ++ b)).size=(za9 a).size + (za9 b).size:=by rw [zdQ,size_app]
theorem step_len (gs:List Gp) (o:OpP) (h1:o.2.1.size≤1000) (h2:o.2.2.size≤1000) :
 (zdt gs o).length≤gs.length + 1∧(zaw (zdt gs o)).length≤(zaw gs).length + 2∧(za9 (zaw (zdt gs o))).size≤(za9 (zaw gs)).size + 3000:=by
 unfold zdt;split
 · have ht:(zny o).size≤2001:=by
    unfold zny;split
    · show 4≤2001;omega
    · split
      · omega
      · rw [size_app,size_app];show o.2.1.size + 1 + o.2.2.size≤2001;omega
   unfold zlp;rw [zey,List.length_append,List.length_append,zci];refine ⟨Nat.le_refl _,Nat.le_refl _,?_⟩;show _ + (⟨#[]⟩ ++ (zny o ++ ⟨#[]⟩):ByteArray).size≤_;rw [size_app,size_app];show _ + (0 + ((zny o).size + 0))≤_;omega
 · split
   · have hs:=zeO o.1;rcases List.eq_nil_or_concat gs with rfl | ⟨l1,b,rfl⟩
     · exact ⟨Nat.zero_le _,Nat.zero_le _,Nat.zero_le _⟩
     · rcases List.eq_nil_or_concat l1 with rfl | ⟨l,a,rfl⟩
       · refine ⟨?_,?_,?_⟩ <;> (simp only [List.concat_eq_append,List.nil_append];show _≤_ + _;exact Nat.le_add_right _ _)
       · simp only [List.concat_eq_append,List.append_assoc,List.singleton_append];rw [zeB,zgY,zj7];refine ⟨by simp,?_,?_⟩
         · split <;> (simp only [List.length_append,List.length_cons,List.length_nil];omega)
         · rw [zci,zci];show _ + ((if b.2=true then zgL o.1 ++ ⟨#[40]⟩ else zgL o.1) ++ za9 (b.1 ++ if b.2=true then [⟨#[41]⟩] else [])).size≤_ + (⟨#[]⟩ ++ za9 b.1:ByteArray).size + 3000;rw [size_app,zci,size_app];have e1:(if b.2=true then zgL o.1 ++ ⟨#[40]⟩ else zgL o.1).size≤101:=by
            split
            · rw [size_app];show _ + 1≤_;omega
            · omega
           have e2:(za9 (if b.2=true then [⟨#[41]⟩] else [])).size≤1:=by split <;> decide
           show _≤_ + (0 + _) + 3000;omega
   · omega
theorem zhs:∀(l:List OpP) (gs:List Gp),(∀o ∈ l,o.2.1.size≤1000∧o.2.2.size≤1000) →
 (zcA gs l).length≤gs.length + l.length∧(zaw (zcA gs l)).length≤(zaw gs).length + 2 * l.length∧(za9 (zaw (zcA gs l))).size≤(za9 (zaw gs)).size + 3000 * l.length
 | [],gs,_=>by
  show gs.length≤gs.length + 0∧(zaw gs).length≤_ + 2 * 0∧(za9 (zaw gs)).size≤_ + 3000 * 0;omega
 | o::r,gs,h=>by
  obtain ⟨a1,a2,a3⟩:=step_len gs o (h o List.mem_cons_self).1 (h o List.mem_cons_self).2;obtain ⟨b1,b2,b3⟩:=zhs r (zdt gs o) fun x hx=>h x (List.mem_cons_of_mem _ hx);show (zcA (zdt gs o) r).length≤_∧(zaw (zcA (zdt gs o) r)).length≤_∧(za9 (zaw (zcA (zdt gs o) r))).size≤_;rw [List.length_cons];omega
theorem zkK:∀xs:List ByteArray,Lib.joinTail [] (xs.map (·.data.toList))=(za9 xs).data.toList
 | []=>rfl
 | x::r=>by
  have ih:=zkK r;unfold Lib.joinTail at *
  rw [List.map_cons,List.map_cons,List.flatten_cons,ih,List.nil_append];show _=(x ++ za9 r).data.toList;rw [ByteArray.data_append,Array.toList_append]
theorem zkc (xs:List ByteArray):Lib.join (xs.map (·.data.toList)) []=(za9 xs).data.toList:=by
 cases xs with
 | nil=>rfl
 | cons x r =>
  rw [List.map_cons,Lib.join_cons,zkK];show _=(x ++ za9 r).data.toList;rw [ByteArray.data_append,Array.toList_append]
theorem zmq {w:World} {B:Nat} {A:Option Addr} {c:Nat} {xs:List ByteArray} (h:w.ownsRow B 9 1 (.slice A xs.length c) xs.length (xs.map .string)) (hz:(za9 xs).size≤1000000000) (hn:xs.length≤1000000) :
 Calls Tryz.prog 73 #[.slice A xs.length c,.string ⟨#[]⟩] w fun e w'=>e = .returned (.string (za9 xs))∧Below w.heap.size w w':=by
 rcases Nat.eq_zero_or_pos xs.length with h0 | h0
 · have hx:=List.eq_nil_of_length_eq_zero h0;subst hx;exact (ziv A c ⟨#[]⟩ w).mono fun e w' ⟨h1,h2⟩=>⟨h1,by subst h2;exact Below.refl _ _⟩
 · obtain ⟨g,rfl,_,hl,hc⟩:=zkq h h0;refine (zf7 g 0 c xs ⟨#[]⟩ w (fun j x hj=>?_) hl (by omega) hc ?_).mono fun e w' ⟨h1,h2⟩=>⟨?_,h2⟩
   · rw [Nat.zero_add,h.cellAt j (by have:=(List.getElem?_eq_some_iff.1 hj).1;omega),List.getElem?_map,hj];rfl
   · rw [show (⟨#[]⟩:ByteArray).data.toList=[] from rfl,zkc,Array.length_toList];exact Nat.le_trans hz (by omega)
   · rw [h1,show (⟨#[]⟩:ByteArray).data.toList=[] from rfl,zkc]
theorem zd5 {α:Type} {l:List α} {i:Nat} {x:α} (h:l[i]? = some x):l.take (i + 1)=l.take i ++ [x]:=by
 rw [List.take_add_one,h];rfl
theorem zk4 (gs:List Gp) (l:List OpP) (o:OpP):zcA gs (l ++ [o])=zdt (zcA gs l) o:=by unfold zcA;rw [List.foldl_append];rfl
theorem zcZ {f:FuncId} {fn:Func} (hf:Tryz.prog.funcs[f]? = some fn) (hname:(fn.name == "runtime.NumGoroutine")=false) (hb:fn.body.isNone=false) (args:Array Value) (W:World):(callFunc f args).run Tryz.prog W = .ok (.enter f args) W:=by
 have h1:¬fn.name="runtime.NumGoroutine":=by
  intro e;rw [e] at hname;exact absurd hname (by decide)
 have h2:¬fn.body=none:=by
  intro e;rw [e] at hb;cases hb
 simp [callFunc,hf,h1,h2,Result.andThen]
theorem act_k {w:World} {B g m bx t4 t5 t6:Nat} {gs:List Gp} {o:OpP} (hm:Mp B g m w bx t4 t5 t6) (h:Ln B w g gs) (hg:g<B) (hB:B≤w.heap.size) (hn:gs.length≤1000000) (hp:(zaw gs).length≤1000000) (h1:o.2.1.size≤1000) (h2:o.2.2.size≤1000) :
 (¬(1≤o.1∧o.1≤6)∧zdt gs o=gs)∨∃f caps i,((actL bx t4 t5 t6).zipIdx 0).find? (fun q=>decide ((q.1.1:Int)=(o.1:Int)))=some ((o.1,fnV f caps),i)∧(∀args W,(callFunc f args).run Tryz.prog W = .ok (.enter f args) W)∧Calls Tryz.prog f (#[.agg #[.int .i64 (o.1:Nat),.string o.2.1,.string o.2.2]] ++ caps) w (zi8 B w g (zdt gs o)):=by
 by_cases hk:1≤o.1∧o.1≤6
 · refine .inr ?_;have hc:o.1=1∨o.1=2∨o.1=3∨o.1=4∨o.1=5∨o.1=6:=by omega
   obtain ⟨k,n,q⟩:=o;dsimp only at *
   rcases hc with rfl | rfl | rfl | rfl | rfl | rfl
   · exact ⟨_,_,_,rfl,zcZ Tryz.func212 (by kernel_rfl) (by kernel_rfl),act_this hm h hg hB hn hp (1,n,q)⟩
   · exact ⟨_,_,_,rfl,zcZ Tryz.func214 (by kernel_rfl) (by kernel_rfl),act_same hm h hg hB hn hp (2,n,q)⟩
   · exact ⟨_,_,_,rfl,zcZ Tryz.func215 (by kernel_rfl) (by kernel_rfl),act_via hm h hg hB hn hp (3,n,q) (by dsimp only;omega) (by dsimp only;omega)⟩
   · exact ⟨_,_,_,rfl,zcZ Tryz.func210 (by kernel_rfl) (by kernel_rfl),act_sign8 hm hm.s4 (zeO 4) h hg hB hn hp (4,n,q)⟩
   · exact ⟨_,_,_,rfl,zcZ Tryz.func210 (by kernel_rfl) (by kernel_rfl),act_sign8 hm hm.s5 (zeO 5) h hg hB hn hp (5,n,q)⟩
   · exact ⟨_,_,_,rfl,zcZ Tryz.func210 (by kernel_rfl) (by kernel_rfl),act_sign8 hm hm.s6 (zeO 6) h hg hB hn hp (6,n,q)⟩
 · refine .inl ⟨hk,?_⟩;unfold zdt;rw [if_neg (by omega),if_neg (by omega)]
theorem ln_new (B:Nat) (w:World):Ln B (w.alloc (.cells #[.slice none 0 0,.slice none 0 0] 284)) w.heap.size []:=⟨none,0,none,0,Bk.new w _ _,World.ownsRow_nil _ _ _ _,World.ownsRow_nil _ _ _ _⟩
theorem rewrite_any {w:World} {A:Option Addr} {c:Nat} {l:List OpP} (hr:Rd w w.heap.size 3 A l.length c (ocells l)) (hn:l.length≤100000) (hs:∀o ∈ l,o.2.1.size≤1000∧o.2.2.size≤1000) :
 Calls Tryz.prog 146 #[.slice A l.length c] w fun e w'=>e = .returned (.string (zi6 l))∧Below w.heap.size w w':=by
 have HS:=Lib.hid hs;go_enter Tryz.func146,Tryz.ntmps146
 go_wp2_with fail
 have hal:Below w.heap.size w (w.alloc (.cells #[.slice none 0 0,.slice none 0 0] 284)):=(Below.refl _ w).alloc (Nat.le_refl _) _;have hl0:=fun B=>ln_new B w;have hz0:w.heap.size<(w.alloc (.cells #[.slice none 0 0,.slice none 0 0] 284)).heap.size:=by simp
 have k:=does_any _ w.heap.size hz0;generalize w.alloc (.cells #[.slice none 0 0,.slice none 0 0] 284)=W0 at *
 refine k.mono ?_;rintro e W1 ⟨⟨m,bx,t4,t5,t6,rfl,hm⟩,hb1⟩;have hl1:=(hl0 W1.heap.size).below hb1;have hB1:=hal.trans (hb1.mono hal.size);have hgz:w.heap.size<W1.heap.size:=Nat.lt_of_lt_of_le hz0 hb1.size;have hr1:=hr.below hB1;clear k hl0 hal hz0 hb1;go_wp2_with fail
 go_loopw [15] (fun vi wr=>∃i:Nat,vi = .int .i64 i∧i≤l.length∧Ln W1.heap.size wr w.heap.size (zcA [] (l.take i))∧Kp w.heap.size W1.heap.size W1 wr) (fun vi _=>l.length-(intOf vi).toNat)
 case atStart=>exact ⟨0,rfl,Nat.zero_le _,hl1,Kp.refl _ _ _⟩
 case round =>
  clear hl1;obtain ⟨i,rfl,hi,hL,hK⟩:=hrel;obtain ⟨b1,b2,b3⟩:=zhs (l.take i) [] fun o ho=>HS.out o (List.mem_of_mem_take ho);have hti:(l.take i).length=i:=by rw [List.length_take];omega
  rw [hti] at b1 b2 b3;replace b1:(zcA [] (l.take i)).length≤0 + i:=b1;replace b2:(zaw (zcA [] (l.take i))).length≤0 + 2 * i:=b2;replace b3:(za9 (zaw (zcA [] (l.take i)))).size≤0 + 3000 * i:=b3;by_cases hil:i<l.length
  · obtain ⟨o,ho⟩:∃o,l[i]? = some o:=⟨l[i],List.getElem?_eq_getElem hil⟩;have hso:=HS.out o (List.mem_of_getElem? ho);have hts:zcA [] (l.take (i + 1))=zdt (zcA [] (l.take i)) o:=by rw [zd5 ho,zk4]
    have hrr:=hr1.keep fun p hp=>(by unfold World.cell?;rw [hK.block p.block (by omega) (by omega)]);obtain ⟨b,f,rfl,hbb,hc⟩:=hrr.at_ (by omega);obtain ⟨e0,e1,e2⟩:=ocells_at l i o ho;have q0:=hc _ _ e0;have q1:wr.cell? ⟨b,f + i * 3 + 1,none⟩=_:=hc _ _ e1;have q2:wr.cell? ⟨b,f + i * 3 + 2,none⟩=_:=hc _ _ e2;have hdi:(i:Int)<(l.length:Nat):=by omega
    have hal:Below wr.heap.size wr (wr.alloc (.cells #[.int .i64 (o.1:Nat),.string o.2.1,.string o.2.2] 166)):=(Below.refl _ wr).alloc (Nat.le_refl _) _;have hz:=hK.size;have hbo:=Bk.new wr #[.int .i64 (o.1:Nat),.string o.2.1,.string o.2.2] 166;have hm2:=(hm.kp hK).kp (Kp.of_below (hal.mono hz) w.heap.size);have hstep:=act_k (o:=o) hm2 (hL.below hal) hgz (Nat.le_trans hz hal.size) (by omega) (by omega) hso.1 hso.2;have hK2:=hK.trans (Kp.of_below (hal.mono hz) w.heap.size);have z0:World.cell? _ ⟨wr.heap.size,0,none⟩=some (.int .i64 (o.1:Nat)):=hbo.cell 0;have z1:World.cell? _ ⟨wr.heap.size,1,none⟩=some (.string o.2.1):=hbo.cell 1;have z2:World.cell? _ ⟨wr.heap.size,2,none⟩=some (.string o.2.2):=hbo.cell 2;rcases hstep with ⟨hk,he⟩ | ⟨fn,caps,j,hf,hen,hcall⟩
    · have hlk:=look_no hm2 hk;clear hm hm2 hr hr1 hrr hs;go_wp2_with fail
      refine ⟨⟨i + 1,by go_num,by omega,?_,hK2⟩,?_⟩
      · rw [hts,he];exact hL.below hal
      · simp only [intOf];omega
    · have hlk:=zmF hm2 o.1 j fn caps hf;clear hm hm2 hr hr1 hrr hs;go_wp2_with fail
      refine hcall.mono ?_;rintro e W2 ⟨rfl,hL2,hk2⟩;go_wp2_with fail
      refine ⟨⟨i + 1,by go_num,by omega,?_,hK2.trans hk2⟩,?_⟩
      · rw [hts];exact hL2
      · simp only [intOf];omega
  · obtain rfl:i=l.length:=by omega
    have hdi:¬(l.length:Int)<(l.length:Nat):=by omega
    rw [List.take_length] at hL b2 b3;have hrw:za9 (zaw (zcA [] l))=zi6 l:=rfl;obtain ⟨Ap,cp,Aq,cq,hL⟩:=hL;have x0:wr.cell? ⟨w.heap.size,0,none⟩=some (.slice Ap (zaw (zcA [] l)).length cp):=hL.cells.cell 0;have lg:=hL.cells.lt;have kj:=zmq hL.ps (by omega) (by omega);rw [hrw] at kj;clear hL hm hr1;go_wp2_with fail
    refine kj.mono ?_;rintro e W2 ⟨rfl,hb2⟩;go_wp2_with fail
    go_returns
    exact ⟨rfl,(hB1.trans (Kp.below hK (Nat.le_of_lt hgz) (Nat.le_refl _))).trans (hb2.mono (Nat.le_of_lt lg))⟩
def zep (s:zcb):ByteArray:=if s.2=⟨#[]⟩ then s.1 else s.1 ++ ⟨#[35]⟩ ++ s.2
def zd8 (sep:ByteArray):List ByteArray→ByteArray
 | []=>⟨#[]⟩
 | x::r=>sep ++ x ++ zd8 sep r
def zlb (sep:ByteArray):List ByteArray→ByteArray
 | []=>⟨#[]⟩
 | x::r=>x ++ zd8 sep r
def ziX (l:List zcb):ByteArray:=zlb ⟨#[44,32]⟩ (l.map zep)
def zcC (l:List OpP):Bool:=match l with
 | [o]=>o.1 == 1
 | _=>false
def zht (x:RelP):ByteArray:=(⟨#[114,101,108,32]⟩:ByteArray) ++ x.name ++ ⟨#[32,40]⟩ ++ x.view ++ ⟨#[44,32]⟩ ++ x.edit ++ ⟨#[44,32]⟩ ++ x.check ++ ⟨#[41,58]⟩
def zlO (x:RelP):ByteArray:=if x.subs.length=0 then zht x else zht x ++ (⟨#[32]⟩ ++ ziX x.subs)
def relS (x:RelP):ByteArray:=(if zcC x.ops=true then zlO x else zlO x ++ (⟨#[32,105,115,32]⟩ ++ zi6 x.ops)) ++ ⟨#[59]⟩
structure Sml (x:RelP):Prop where
 name:x.name.size≤1000
 view:x.view.size≤1000
 edit:x.edit.size≤1000
 check:x.check.size≤1000
 subs:x.subs.length≤100000∧∀s ∈ x.subs,s.1.size≤1000∧s.2.size≤1000
 ops:x.ops.length≤100000∧∀o ∈ x.ops,o.2.1.size≤1000∧o.2.2.size≤1000
theorem zkG {s:zcb} (h1:s.1.size≤1000) (h2:s.2.size≤1000):(zep s).size≤2001:=by
 unfold zep;split
 · omega
 · rw [size_app,size_app];show s.1.size + 1 + s.2.size≤2001;omega
theorem zi0 (sep:ByteArray) (hs:sep.size≤2):∀l:List ByteArray,(∀x ∈ l,x.size≤2001)→(zd8 sep l).size≤2003 * l.length
 | [],_=>Nat.le_refl _
 | x::r,h=>by
  show (sep ++ x ++ zd8 sep r).size≤_;have:=zi0 sep hs r fun y hy=>h y (List.mem_cons_of_mem _ hy);have:=h x List.mem_cons_self;rw [size_app,size_app,List.length_cons];omega
theorem zdO {l:List zcb} (h:∀s ∈ l,s.1.size≤1000∧s.2.size≤1000):(ziX l).size≤2003 * l.length:=by
 cases l with
 | nil=>exact Nat.le_refl _
 | cons s r =>
  show (zep s ++ zd8 _ (r.map zep)).size≤_;have h1:=zkG (h s List.mem_cons_self).1 (h s List.mem_cons_self).2;have h2:=zi0 ⟨#[44,32]⟩ (by decide) (r.map zep) fun x hx=>by
   obtain ⟨y,hy,rfl⟩:=List.mem_map.1 hx;exact zkG (h y (List.mem_cons_of_mem _ hy)).1 (h y (List.mem_cons_of_mem _ hy)).2
  rw [List.length_map] at h2;rw [size_app,List.length_cons];omega
theorem zfN {l:List OpP} (h:∀o ∈ l,o.2.1.size≤1000∧o.2.2.size≤1000):(zi6 l).size≤3000 * l.length:=by
 have:=(zhs l [] h).2.2;have e:(za9 (zaw [])).size=0:=rfl;rw [e] at this;unfold zi6;omega
theorem zeT {x:RelP} (h:Sml x):(zht x).size≤4100∧(zlO x).size≤4101 + 2003 * x.subs.length:=by
 have h1:=h.name;have h2:=h.view;have h3:=h.edit;have h4:=h.check;have hh:(zht x).size≤4100:=by
  unfold zht;simp only [size_app];show 4 + _ + 2 + _ + 2 + _ + 2 + _ + 2≤_;omega
 refine ⟨hh,?_⟩;unfold zlO;split
 · omega
 · have:=zdO h.subs.2;rw [size_app,size_app];show _ + (1 + _)≤_;omega
theorem zkJ (sep:ByteArray):∀xs:List ByteArray,Lib.joinTail sep.data.toList (xs.map (·.data.toList))=(zd8 sep xs).data.toList
 | []=>rfl
 | x::r=>by
  have ih:=zkJ sep r;unfold Lib.joinTail at *
  rw [List.map_cons,List.map_cons,List.flatten_cons,ih];show _=(sep ++ x ++ zd8 sep r).data.toList;rw [ByteArray.data_append,ByteArray.data_append,Array.toList_append,Array.toList_append]
theorem zfG (sep:ByteArray) (xs:List ByteArray):Lib.join (xs.map (·.data.toList)) sep.data.toList=(zlb sep xs).data.toList:=by
 cases xs with
 | nil=>rfl
 | cons x r =>
  rw [List.map_cons,Lib.join_cons,zkJ];show _=(x ++ zd8 sep r).data.toList;rw [ByteArray.data_append,Array.toList_append]
theorem zmp {w:World} {B:Nat} {A:Option Addr} {c:Nat} {xs:List ByteArray} (sep:ByteArray) (h:w.ownsRow B 9 1 (.slice A xs.length c) xs.length (xs.map .string)) (hz:(zlb sep xs).size≤1000000000) (hn:xs.length≤1000000) :
 Calls Tryz.prog 73 #[.slice A xs.length c,.string sep] w fun e w'=>e = .returned (.string (zlb sep xs))∧Below w.heap.size w w':=by
 rcases Nat.eq_zero_or_pos xs.length with h0 | h0
 · have hx:=List.eq_nil_of_length_eq_zero h0;subst hx;exact (ziv A c sep w).mono fun e w' ⟨h1,h2⟩=>⟨h1,by subst h2;exact Below.refl _ _⟩
 · obtain ⟨g,rfl,_,hl,hc⟩:=zkq h h0;refine (zf7 g 0 c xs sep w (fun j x hj=>?_) hl (by omega) hc ?_).mono fun e w' ⟨h1,h2⟩=>⟨?_,h2⟩
   · rw [Nat.zero_add,h.cellAt j (by have:=(List.getElem?_eq_some_iff.1 hj).1;omega),List.getElem?_map,hj];rfl
   · rw [zfG,Array.length_toList];exact Nat.le_trans hz (by omega)
   · rw [h1,zfG]
section
variable {w:World}
theorem sub_any8 (s:zcb) (h1:s.1.size≤1000) (h2:s.2.size≤1000):Calls Tryz.prog 183 #[.agg #[.string s.1,.string s.2]] w fun e w'=>e = .returned (.string (zep s))∧Below w.heap.size w w':=by
 have hb:=Bk.new w #[.string s.1,.string s.2] 126;have b0:=hb.cell 0;have b1:=hb.cell 1;have lb:=hb.lt;have hB:Below w.heap.size w (w.alloc (.cells #[.string s.1,.string s.2] 126)):=(Below.refl _ w).alloc (Nat.le_refl _) _;clear hb;unfold zep;by_cases he:s.2=⟨#[]⟩
 · rw [if_pos he];have d:s.2.toList.isEmpty=true:=by rw [he];decide +kernel
   clear he;go_enter Tryz.func183,Tryz.ntmps183
   go_wp2_with fail
   go_returns
   exact ⟨rfl,hB⟩
 · rw [if_neg he];have d:s.2.toList.isEmpty=false:=zfH (by
    rcases Nat.eq_zero_or_pos s.2.size with h | h
    · exact absurd (zeF h) he
    · exact h)
   go_enter Tryz.func183,Tryz.ntmps183
   go_wp2_with fail
   go_returns
   exact ⟨rfl,hB⟩
theorem subs_any8 {A:Option Addr} {c:Nat} {l:List zcb} (hr:Rd w w.heap.size 2 A l.length c (zbS l)) (hn:l.length≤100000) (hs:∀s ∈ l,s.1.size≤1000∧s.2.size≤1000) :
 Calls Tryz.prog 144 #[.slice A l.length c] w fun e w'=>e = .returned (.string (ziX l))∧Below w.heap.size w w':=by
 have HS:=Lib.hid hs;go_enter Tryz.func144,Tryz.ntmps144
 go_wp2_with fail
 go_loopw [3,8] (fun vt vi wr=>∃i:Nat,vi = .int .i64 i∧i≤l.length∧wr.ownsRow w.heap.size 9 1 vt i (((l.take i).map zep).map .string)∧Below w.heap.size w wr) (fun _ vi _=>l.length-(intOf vi).toNat)
 case atStart=>exact ⟨0,rfl,Nat.zero_le _,World.ownsRow_nil _ _ _ _,Below.refl _ _⟩
 case round =>
  obtain ⟨i,rfl,hi,ho,hb⟩:=hrel;obtain ⟨A1,c1,rfl,_⟩:=Rd.own ho;by_cases hil:i<l.length
  · obtain ⟨s,hsi⟩:∃s,l[i]? = some s:=⟨l[i],List.getElem?_eq_getElem hil⟩;obtain ⟨s1,s2⟩:=HS.out s (List.mem_of_getElem? hsi);have hrr:=hr.below hb;obtain ⟨b,f,rfl,hbb,hc⟩:=hrr.at_ (by omega);obtain ⟨e0,e1⟩:=zc0 l i s hsi;have q0:=hc _ _ e0;have q1:wr.cell? ⟨b,f + i * 2 + 1,none⟩=_:=hc _ _ e1;have hdi:(i:Int)<(l.length:Nat):=by omega
    have hz:=hb.size;have hbs:=Bk.new wr #[.string s.1,.string s.2] 126;have x0:World.cell? _ ⟨wr.heap.size,0,none⟩=some (.string s.1):=hbs.cell 0;have x1:World.cell? _ ⟨wr.heap.size,1,none⟩=some (.string s.2):=hbs.cell 1;have lb:=hbs.lt;have hb2:=hb.alloc hz (.cells #[.string s.1,.string s.2] 126);have ho2:=zag ho ((Below.refl _ wr).alloc (Nat.le_refl _) (.cells #[.string s.1,.string s.2] 126));have ht:(l.take (i + 1)).map zep=(l.take i).map zep ++ [zep s]:=by rw [zd5 hsi,List.map_append];rfl
    clear hr hrr hs hbs ho hb;go_wp2_with fail
    generalize wr.alloc (.cells #[.string s.1,.string s.2] 126)=W at *
    refine (sub_any8 s s1 s2).mono ?_;rintro e W2 ⟨rfl,hb3⟩;have hb4:=hb2.trans (hb3.mono hb2.size);have ho4:=zag ho2 hb3;have hz4:=hb4.size;obtain ⟨i0,hi0,hz0,hz1,hz2⟩:=info_parts zhv;clear hb2 hb3 ho2 x0 x1 q0 q1;go_wp2_with (at_builtin;refine zaa _ rfl (.tmp 12) (.tmp 15) 23 23 rfl w.heap.size 9 i0 (.string .empty) 1 16 Tryz.underlying23 hi0 hz0 hz1 hz2 rfl (by decide) _ i (((l.take i).map zep).map .string) rfl (World.ownsRow.alloc ho4 _) _ 1 [.string (zep s)] rfl (Src.ofSlice _ Tryz.underlying23 _ 1 1 _ rfl (zfU _ _ _) (zjR [zep s])) (by simp only [maxLen];omega) (by omega) (size_alloc hz4) ?_;intro v1 W5 hown1 hg1 hat1;obtain ⟨A5,c5,rfl,_⟩:=Rd.own hown1)
    refine ⟨⟨i + 1,by go_num,by omega,?_,?_⟩,?_⟩
    · rw [ht,List.map_append];exact hown1
    · exact zaj (v:=.slice A1 i c1) (hb4.alloc hz4 _) hg1 (World.ownsRow.alloc ho4 _) (size_alloc hz4) (Nat.le_refl _)
    · simp only [intOf];omega
  · obtain rfl:i=l.length:=by omega
    have hdi:¬(l.length:Int)<(l.length:Nat):=by omega
    rw [List.take_length] at ho;have hl:(l.map zep).length=l.length:=List.length_map ..;have hsz:=zdO HS.out;have kj:=zmp (w:=wr) (B:=w.heap.size) (A:=A1) (c:=c1) (xs:=l.map zep) ⟨#[44,32]⟩ (by rw [hl];exact ho) (by show (ziX l).size≤_;omega) (by omega);rw [hl,show zlb ⟨#[44,32]⟩ (l.map zep)=ziX l from rfl] at kj;have hz:=hb.size;clear ho hr hs hl;go_wp2_with fail
    refine kj.mono ?_;rintro e W2 ⟨rfl,hb2⟩;go_wp2_with fail
    go_returns
    exact ⟨rfl,hb.trans (hb2.mono hz)⟩
theorem alone_any8 {A:Option Addr} {c:Nat} {l:List OpP} (hr:Rd w w.heap.size 3 A l.length c (ocells l)) :
 Calls Tryz.prog 145 #[.slice A l.length c] w fun e w'=>e = .returned (.bool (zcC l))∧Below w.heap.size w w':=by
 rcases l with _ | ⟨o,_ | ⟨o2,r⟩⟩
 · go_enter Tryz.func145,Tryz.ntmps145
   go_wp2_with fail
   go_returns
   exact ⟨rfl,Below.refl _ _⟩
 · obtain ⟨b,f,rfl,hbb,hc⟩:=hr.at_ (show 0<1 by omega);have q0:w.cell? ⟨b,f,none⟩=some (.int .i64 (o.1:Nat)):=hc 0 _ rfl;have hv:zcC [o]=(((o.1:Nat):Int) == 1):=by
    show (o.1 == 1)=_;rw [Bool.eq_iff_iff];simp only [beq_iff_eq];omega
   rw [hv];clear hr hc hv;obtain ⟨k,hk⟩:∃k:Int,((o.1:Nat):Int)=k:=⟨_,rfl⟩;rw [hk] at q0 ⊢;go_enter Tryz.func145,Tryz.ntmps145
   go_wp2_with fail
   go_returns
   exact ⟨rfl,Below.refl _ _⟩
 · have d:((((o::o2::r).length:Nat):Int) == 1)=false:=by
    rw [beq_eq_false_iff_ne];simp only [List.length_cons];omega
   obtain ⟨n,hn⟩:∃n,(o::o2::r).length=n:=⟨_,rfl⟩;rw [hn] at d ⊢;clear hr hn;go_enter Tryz.func145,Tryz.ntmps145
   go_wp2_with fail
   go_returns
   exact ⟨rfl,Below.refl _ _⟩
def relV (As:Option Addr) (cS:Nat) (Ao:Option Addr) (cO:Nat) (x:RelP):Value:=.agg #[.string x.name,.string x.view,.string x.edit,.string x.check,.slice As x.subs.length cS,.slice Ao x.ops.length cO]
theorem relation_any8 {As Ao:Option Addr} {cS cO:Nat} {x:RelP} (hs:Rd w w.heap.size 2 As x.subs.length cS (zbS x.subs)) (ho:Rd w w.heap.size 3 Ao x.ops.length cO (ocells x.ops)) (hx:Sml x) :
 Calls Tryz.prog 94 #[relV As cS Ao cO x] w fun e w'=>e = .returned (.string (relS x))∧Below w.heap.size w w':=by
 have h1:=hx.name;have h2:=hx.view;have h3:=hx.edit;have h4:=hx.check;have h5:=(zeT hx).1;have h6:=(zeT hx).2;have h7:=hx.subs.1;have h8:=hx.ops.1;have h9:=zdO hx.subs.2;have h10:=zfN hx.ops.2;unfold relV;have hb:=Bk.new w #[.string x.name,.string x.view,.string x.edit,.string x.check,.slice As x.subs.length cS,.slice Ao x.ops.length cO] 149;have hB:Below w.heap.size w (w.alloc (.cells #[.string x.name,.string x.view,.string x.edit,.string x.check,.slice As x.subs.length cS,.slice Ao x.ops.length cO] 149)):=(Below.refl _ w).alloc (Nat.le_refl _) _;have HH:Hid (zht x=(⟨#[114,101,108,32]⟩:ByteArray) ++ x.name ++ ⟨#[32,40]⟩ ++ x.view ++ ⟨#[44,32]⟩ ++ x.edit ++ ⟨#[44,32]⟩ ++ x.check ++ ⟨#[41,58]⟩):=Lib.hid rfl;have b0:=hb.cell 0;have b1:=hb.cell 1;have b2:=hb.cell 2;have b3:=hb.cell 3;have b4:=hb.cell 4;have b5:=hb.cell 5;have lb:=hb.lt;have hs':=hs.below hB;have ho':=ho.below hB;have hN:=hx.subs.2;have hO:=hx.ops.2;have hsz:=hB.size;clear hs ho hx hb;obtain ⟨RS,hRS⟩:∃r,relS x=r:=⟨_,rfl⟩;rw [hRS];have hR1:∀b,zcC x.ops=b→(if b=true then zlO x else zlO x ++ (⟨#[32,105,115,32]⟩ ++ zi6 x.ops)) ++ ⟨#[59]⟩=RS:=fun b hb=>by rw [←hRS,←hb];rfl
 clear hRS;generalize hw:zlO x=WS at *
 unfold zlO at hw;go_enter Tryz.func94,Tryz.ntmps94
 by_cases hz:x.subs.length=0
 · rw [if_pos hz] at hw;have d:¬(0:Int)<(x.subs.length:Nat):=by omega
   clear hz;go_wp2_with fail
   rw [←HH.out,hw];generalize (w.alloc (.cells #[.string x.name,.string x.view,.string x.edit,.string x.check,.slice As x.subs.length cS,.slice Ao x.ops.length cO] 149))=W at *
   refine (alone_any8 (ho'.more hsz)).mono ?_;rintro e V ⟨rfl,hV⟩;have b5':=(hV.cell (p:=⟨w.heap.size,5,none⟩) lb).trans b5;have lb':w.heap.size<V.heap.size:=Nat.lt_of_lt_of_le lb hV.size;have hoV:=((ho'.more hsz).below hV).more hV.size;have hBV:=hB.trans (hV.mono hsz);cases hal:zcC x.ops with
   | true =>
    have hR2:=hR1 _ hal;simp only [↓reduceIte] at hR2;subst hR2;clear hR1;go_wp2_with fail
    go_returns
    exact ⟨rfl,hBV⟩
   | false =>
    have hR2:=hR1 _ hal;simp only [Bool.false_eq_true,↓reduceIte] at hR2;subst hR2;clear hR1;go_wp2_with fail
    refine (rewrite_any hoV h8 hO).mono ?_;rintro e V2 ⟨rfl,hV2⟩;go_wp2_with fail
    go_returns
    exact ⟨rfl,hBV.trans (hV2.mono hBV.size)⟩
 · rw [if_neg hz] at hw;have d:(0:Int)<(x.subs.length:Nat):=by omega
   clear hz;go_wp2_with fail
   rw [←HH.out];have h5':=h5;generalize zht x=HD at *
   generalize (w.alloc (.cells #[.string x.name,.string x.view,.string x.edit,.string x.check,.slice As x.subs.length cS,.slice Ao x.ops.length cO] 149))=W at *
   refine (subs_any8 (hs'.more hsz) h7 hN).mono ?_;rintro e U ⟨rfl,hU⟩;have b5u:=(hU.cell (p:=⟨w.heap.size,5,none⟩) lb).trans b5;have lbu:w.heap.size<U.heap.size:=Nat.lt_of_lt_of_le lb hU.size;have hoU:=((ho'.more hsz).below hU).more hU.size;have hBU:=hB.trans (hU.mono hsz);go_wp2_with fail
   refine (alone_any8 hoU).mono ?_;rintro e V ⟨rfl,hV⟩;have b5':=(hV.cell (p:=⟨w.heap.size,5,none⟩) lbu).trans b5u;have lb':w.heap.size<V.heap.size:=Nat.lt_of_lt_of_le lbu hV.size;have hoV:=(hoU.below hV).more hV.size;have hBV:=hBU.trans (hV.mono hBU.size);cases hal:zcC x.ops with
   | true =>
    have hR2:=hR1 _ hal;simp only [↓reduceIte] at hR2;subst hR2;clear hR1;go_wp2_with fail
    go_returns
    exact ⟨rfl,hBV⟩
   | false =>
    have hR2:=hR1 _ hal;simp only [Bool.false_eq_true,↓reduceIte] at hR2;subst hR2;clear hR1;go_wp2_with fail
    refine (rewrite_any hoV h8 hO).mono ?_;rintro e V2 ⟨rfl,hV2⟩;go_wp2_with fail
    go_returns
    exact ⟨rfl,hBV.trans (hV2.mono hBV.size)⟩
end
def zbn (x:RelP):ByteArray:=(⟨#[9]⟩:ByteArray) ++ relS x ++ ⟨#[10]⟩
def zlH (t:TypP):ByteArray:=(⟨#[116,121,112,101,32]⟩:ByteArray) ++ t.name ++ ⟨#[32,123,10]⟩
def zeQ (t:TypP):ByteArray:=zlH t ++ za9 (t.rels.map zbn) ++ ⟨#[125,10]⟩
def zb8 (T:List TypP):ByteArray:=za9 (T.map zeQ)
theorem zj0 {α:Type} (f:α→ByteArray) {l:List α} {i:Nat} {x:α} (h:l[i]? = some x):za9 ((l.take (i + 1)).map f)=za9 ((l.take i).map f) ++ f x∧(za9 ((l.take i).map f)).size + (f x).size≤(za9 (l.map f)).size:=by
 have e:za9 ((l.take (i + 1)).map f)=za9 ((l.take i).map f) ++ f x:=by
  rw [zd5 h,List.map_append,zdQ];show _ ++ (f x ++ ⟨#[]⟩)=_;rw [zbF]
 refine ⟨e,?_⟩;have h2:za9 (l.map f)=za9 ((l.take (i + 1)).map f) ++ za9 ((l.drop (i + 1)).map f):=by rw [←zdQ,←List.map_append,List.take_append_drop]
 rw [h2,e,size_app,size_app];omega
def Bld (b:Nat) (txt:ByteArray) (w:World):Prop:=Lib.IsBuilderF 177 5 b b (Lib.byteCells txt.data.toList) w
theorem Bld.below {b:Nat} {txt:ByteArray} {w w':World} (h:Bld b txt w) (hb:Below w.heap.size w w'):Bld b txt w':=by
 have key:∀p,Lib.BuilderAtF 177 5 b b p (Lib.byteCells txt.data.toList) w→Lib.BuilderAtF 177 5 b b p (Lib.byteCells txt.data.toList) w':=by
  rintro p ⟨h1,v,h2,h3,h4⟩;have hlt:b<w.heap.size:=(Array.getElem?_eq_some_iff.1 h2).1;refine ⟨h1,v,(hb.block b hlt).trans h2,?_,h4⟩;obtain ⟨a1,a2⟩:=h3;refine ⟨a1,?_⟩;rcases a2 with a2 | ⟨g,cap,cur,fz,a3,a4,a5,a6⟩
  · exact .inl a2
  · exact .inr ⟨g,cap,cur,fz,a3,a4,(hb.block g (Array.getElem?_eq_some_iff.1 a5).1).trans a5,a6⟩
 exact h.imp (key _) (key _)
theorem zjg {b:Nat} {txt:ByteArray} {w:World} (s:ByteArray) (h:Bld b txt w) (hz:txt.size + s.size≤100000000000000) (hb:b≤w.heap.size) :
 Calls Tryz.prog 93 #[.pointer (some ⟨b,0,none⟩),.string s] w fun e w'=>e = .returned (.tuple #[.int .i64 s.size,.nilIface])∧Bld b (txt ++ s) w'∧Below b w w'∧Lib.OthersKept 5 (some b) w w':=by
 refine (zkY b b _ s w h (by rw [Lib.byteCells_length,Array.length_toList];show txt.size + s.size≤_;omega) hb).mono ?_;rintro e w' ⟨rfl,h2,h3,h4⟩;refine ⟨rfl,.inr ?_,h3,h4⟩;have:Lib.byteCells (txt ++ s).data.toList=Lib.byteCells txt.data.toList ++ Lib.strCells s:=by
  unfold Lib.byteCells Lib.strCells;rw [ByteArray.data_append,Array.toList_append,List.map_append]
 rw [this];exact h2
theorem bstring8 {b:Nat} {txt:ByteArray} {w:World} (h:Bld b txt w) (hb:b≤w.heap.size) :
 Calls Tryz.prog 95 #[.pointer (some ⟨b,0,none⟩)] w fun e w'=>e = .returned (.string txt)∧Below b w w':=by
 refine (zje b b _ w h hb).mono ?_;rintro e w' ⟨rfl,h2,h3,h4⟩;exact ⟨rfl,h3⟩
theorem kept_bk {b k:Nat} {w w':World} {cs:Array Value} {t:TypeId} (h:Lib.OthersKept 5 (some b) w w') (hk:Bk w k cs t) (hne:k≠b) (ht:t≠5):Bk w' k cs t :=
 h k _ hk (fun e=>hne (by injection e)) fun c fz e=>ht (by injection e)
structure SmlT (t:TypP):Prop where
 name:t.name.size≤1000
 rels:t.rels.length≤1000000∧∀x ∈ t.rels,Sml x
theorem show_any8 {w:World} {B:Nat} {A:Option Addr} {c:Nat} {T:List TypP} (hv:VTyps B w (.slice A T.length c) T) (hT:T.length≤1000000) (hs:∀t ∈ T,SmlT t) (hz:(zb8 T).size≤90000000000000) :
 Calls Tryz.prog 52 #[.agg #[.slice A T.length c]] w fun e w'=>e = .returned (.string (zb8 T))∧Below w.heap.size w w':=by
 have HS:=Lib.hid hs;clear hs;have hbx:=(Bk.new w #[.slice A T.length c] 92).alloc (.cells #[.pointer none,.slice none 0 0] 177);have hbb:Bld (w.heap.size + 1) ⟨#[]⟩ ((w.alloc (.cells #[.slice A T.length c] 92)).alloc (.cells #[.pointer none,.slice none 0 0] 177)):=by
  have h:=Lib.fresh_isBuilder 177 5 (w.alloc (.cells #[.slice A T.length c] 92));rw [show (w.alloc (.cells #[.slice A T.length c] 92)).heap.size=w.heap.size + 1 by simp] at h;exact Lib.IsBuilderF.of h
 have hB0:Below w.heap.size w ((w.alloc (.cells #[.slice A T.length c] 92)).alloc (.cells #[.pointer none,.slice none 0 0] 177)):=((Below.refl _ w).alloc (Nat.le_refl _) _).alloc (by simp) _;have hs0:((w.alloc (.cells #[.slice A T.length c] 92)).alloc (.cells #[.pointer none,.slice none 0 0] 177)).heap.size=w.heap.size + 2:=by simp
 have hv0:=hv.below hB0;have hvz:∀t i,T[i]? = some t→∃g vr,A=some ⟨g,0,none⟩∧g<w.heap.size∧VRels B w vr t.rels∧w.cell? ⟨g,i * 2,none⟩=some (.string t.name)∧w.cell? ⟨g,i * 2 + 1,none⟩=some vr:=by
  intro t i hi;obtain ⟨g,c2,vr,e1,hr,g0,g1⟩:=hv.get hi;cases e1;exact ⟨g,vr,rfl,World.block_lt_of_cell? _ _ g0,hr,g0,g1⟩
 have HV:=Lib.hid hvz;clear hv hv0 hvz;go_enter Tryz.func52,Tryz.ntmps52
 go_wp2_with fail
 generalize (w.alloc (.cells #[.slice A T.length c] 92)).alloc (.cells #[.pointer none,.slice none 0 0] 177)=W0 at *
 go_loopw [11] (fun vi wr=>∃i:Nat,vi = .int .i64 i∧i≤T.length∧Bld (w.heap.size + 1) (za9 ((T.take i).map zeQ)) wr∧Below (w.heap.size + 1) W0 wr) (fun vi _=>T.length-(intOf vi).toNat)
 case atStart=>exact ⟨0,rfl,Nat.zero_le _,hbb,Below.refl _ _⟩
 case round =>
  clear hbb;obtain ⟨i,rfl,hi,hL,hb⟩:=hrel;have hz1:=hb.size;by_cases hil:i<T.length
  · obtain ⟨t,ht⟩:∃t,T[i]? = some t:=⟨T[i],List.getElem?_eq_getElem hil⟩;obtain ⟨hn,hr1,hr2⟩:=HS.out t (List.mem_of_getElem? ht);obtain ⟨hc1,hc2⟩:=zj0 zeQ ht;obtain ⟨g,vr,rfl,hg,hr,g0,g1⟩:=HV.out t i ht;obtain ⟨Ar,cr,rfl,_⟩:=Rd.own hr.choose_spec.1;have hbw:Below w.heap.size w wr:=hB0.trans (hb.mono (by omega));have q0:=(hbw.cell (p:=⟨g,i * 2,none⟩) hg).trans g0;have q1:=(hbw.cell (p:=⟨g,i * 2 + 1,none⟩) hg).trans g1;have hdi:(i:Int)<(T.length:Nat):=by omega
    have htz:(zlH t).size≤1010∧(zlH t).size≤(zeQ t).size:=by
     constructor
     · unfold zlH;rw [size_app,size_app];show 5 + _ + 3≤_;omega
     · unfold zeQ;rw [size_app,size_app];omega
    have hzt:(zb8 T).size=(za9 (T.map zeQ)).size:=rfl;have HT:Hid (zlH t=(⟨#[116,121,112,101,32]⟩:ByteArray) ++ t.name ++ ⟨#[32,123,10]⟩):=Lib.hid rfl;have hal:Below wr.heap.size wr (wr.alloc (.cells #[.string t.name,.slice Ar t.rels.length cr] 146)):=(Below.refl _ wr).alloc (Nat.le_refl _) _;have hL2:=hL.below hal;have hb2:=hb.trans (hal.mono (by omega));have hbt:=Bk.new wr #[.string t.name,.slice Ar t.rels.length cr] 146;have x0:World.cell? _ ⟨wr.heap.size,0,none⟩=some (.string t.name):=hbt.cell 0;have lx:=hbt.lt;have kw:=zjg (zlH t) hL2 (by omega) (by omega);rw [HT.out] at kw;clear hL hal hbw g0 g1;go_wp2_with fail
    generalize wr.alloc (.cells #[.string t.name,.slice Ar t.rels.length cr] 146)=W1 at *
    refine kw.mono ?_;rintro e W2 ⟨rfl,hL3,hb3,hk3⟩;rw [←HT.out] at hL3;have hb4:=hb2.trans hb3;have hbt2:=kept_bk hk3 hbt (by omega) (by decide);have y1:W2.cell? ⟨wr.heap.size,1,none⟩=some (.slice Ar t.rels.length cr):=hbt2.cell 1;have ly:=hbt2.lt;clear kw hL2 hb2 hb3 hk3 hbt x0 lx hbt2 q0 q1;obtain ⟨P,hP⟩:∃p,za9 ((T.take i).map zeQ) ++ zlH t=p:=⟨_,rfl⟩;rw [hP] at hL3;have hPz:P.size + (za9 (t.rels.map zbn)).size + 2≤(zb8 T).size:=by
     rw [←hP,size_app,hzt];have:(zeQ t).size=(zlH t).size + (za9 (t.rels.map zbn)).size + 2:=by unfold zeQ;rw [size_app,size_app];rfl
     omega
    have hty:P ++ za9 (t.rels.map zbn) ++ ⟨#[125,10]⟩=za9 ((T.take (i + 1)).map zeQ):=by
     rw [hc1,←hP];unfold zeQ;simp only [zaJ]
    have HTY:=Lib.hid hty;clear hty;go_wp2_with fail
    go_loopw [23] (fun vk wy=>∃k:Nat,vk = .int .i64 k∧k≤t.rels.length∧Bld (w.heap.size + 1) (P ++ za9 ((t.rels.take k).map zbn)) wy∧Below (w.heap.size + 1) W0 wy) (fun vk _=>t.rels.length-(intOf vk).toNat)
    case atStart=>exact ⟨0,rfl,Nat.zero_le _,(by rw [show za9 ((t.rels.take 0).map zbn)=⟨#[]⟩ from rfl,zbF];exact hL3),hb4⟩
    case round =>
     clear hL3 hb4 y1 ly;obtain ⟨k,rfl,hk,hL,hb⟩:=hrel;have hz2:=hb.size;by_cases hkl:k<t.rels.length
     · obtain ⟨x,hx⟩:∃x,t.rels[k]? = some x:=⟨t.rels[k],List.getElem?_eq_getElem hkl⟩;have hsx:=hr2 x (List.mem_of_getElem? hx);obtain ⟨hd1,hd2⟩:=zj0 zbn hx;obtain ⟨gr,c3,vs,vo,e1,hs,ho,r0,r1,r2,r3,r4,r5⟩:=hr.get hx;cases e1;obtain ⟨As,cS,rfl,rs⟩:=Rd.own hs;obtain ⟨Ao,cO,rfl,ro⟩:=Rd.own ho;have hgr:=World.block_lt_of_cell? _ _ r0;dsimp only at hgr;have hbw:Below w.heap.size w wr:=hB0.trans (hb.mono (by omega));have s0:=(hbw.cell (p:=⟨gr,k * 6,none⟩) hgr).trans r0;have s1:=(hbw.cell (p:=⟨gr,k * 6 + 1,none⟩) hgr).trans r1;have s2:=(hbw.cell (p:=⟨gr,k * 6 + 2,none⟩) hgr).trans r2;have s3:=(hbw.cell (p:=⟨gr,k * 6 + 3,none⟩) hgr).trans r3;have s4:=(hbw.cell (p:=⟨gr,k * 6 + 4,none⟩) hgr).trans r4;have s5:=(hbw.cell (p:=⟨gr,k * 6 + 5,none⟩) hgr).trans r5;have hdk:(k:Int)<(t.rels.length:Nat):=by omega
       have hal:Below wr.heap.size wr (wr.alloc (.cells #[.string x.name,.string x.view,.string x.edit,.string x.check,.slice As x.subs.length cS,.slice Ao x.ops.length cO] 149)):=(Below.refl _ wr).alloc (Nat.le_refl _) _;have hL2:=hL.below hal;have hb2:=hb.trans (hal.mono (by omega));have hbx:=Bk.new wr #[.string x.name,.string x.view,.string x.edit,.string x.check,.slice As x.subs.length cS,.slice Ao x.ops.length cO] 149;have z0:=hbx.cell 0;have z1:=hbx.cell 1;have z2:=hbx.cell 2;have z3:=hbx.cell 3;have z4:=hbx.cell 4;have z5:=hbx.cell 5;have lz:=hbx.lt;have hzw:w.heap.size≤wr.heap.size:=by omega
       have hbw2:=hbw.trans (hal.mono hzw);have hrs:=(rs.below hbw2).more hbw2.size;have hro:=(ro.below hbw2).more hbw2.size;have hlz:(zbn x).size=1 + (relS x).size + 1:=by unfold zbn;rw [size_app,size_app];rfl
       have HLN:Hid (zbn x=(⟨#[9]⟩:ByteArray) ++ relS x ++ ⟨#[10]⟩):=Lib.hid rfl;clear hs ho rs ro r0 r1 r2 r3 r4 r5 hL hal hbw hbx;go_wp2_with fail
       generalize wr.alloc (.cells #[.string x.name,.string x.view,.string x.edit,.string x.check,.slice As x.subs.length cS,.slice Ao x.ops.length cO] 149)=W3 at *
       refine (relation_any8 hrs hro hsx).mono ?_;rintro e W4 ⟨rfl,hb5⟩;have hL4:=hL2.below hb5;have hb6:=hb2.trans (hb5.mono (by omega));have hz6:=hb6.size;have kw:=zjg (zbn x) hL4 (by rw [size_app];omega) (by omega);rw [zaJ,←hd1,HLN.out] at kw;have hrz:(relS x).size≤90000000000000:=by omega
       clear hL2 hb2 hL4 hb5 s0 s1 s2 s3 s4 s5 z0 z1 z2 z3 z4 z5 hrs hro;go_wp2_with fail
       refine kw.mono ?_;rintro e W5 ⟨rfl,hL5,hb7,_⟩;go_wp2_with fail
       refine ⟨⟨k + 1,by go_num,by omega,hL5,hb6.trans (hb7.mono (by omega))⟩,?_⟩;simp only [intOf];omega
     · obtain rfl:k=t.rels.length:=by omega
       have hdk:¬(t.rels.length:Int)<(t.rels.length:Nat):=by omega
       rw [List.take_length] at hL;have kw:=zjg ⟨#[125,10]⟩ hL (by rw [size_app];show _ + 2≤_;omega) (by omega);rw [HTY.out] at kw;clear hL;go_wp2_with fail
       refine kw.mono ?_;rintro e W5 ⟨rfl,hL5,hb7,_⟩;go_wp2_with fail
       refine ⟨⟨i + 1,by go_num,by omega,hL5,hb.trans (hb7.mono (by omega))⟩,?_⟩;simp only [intOf];omega
  · obtain rfl:i=T.length:=by omega
    have hdi:¬(T.length:Int)<(T.length:Nat):=by omega
    rw [List.take_length] at hL;have ks:=bstring8 hL (by omega);rw [show za9 (T.map zeQ)=zb8 T from rfl] at ks;clear hL;go_wp2_with fail
    refine ks.mono ?_;rintro e W5 ⟨rfl,hb5⟩;go_wp2_with fail
    go_returns
    exact ⟨rfl,hB0.trans ((hb.trans (hb5.mono (Nat.le_refl _))).mono (by omega))⟩
end Go.Proofs.YtahegpfdbgbioaaGreat
namespace Go.Proofs.YtahegpfdbgbioaaGreat
open Go.RowKit
theorem zgr {s:ByteArray} (h:zcH s=none) (hs:s.size≤100000) (w:World):Calls Tryz.prog 30 #[.string s] w fun e w'=>e = .returned (.tuple #[.agg #[.string ⟨#[]⟩,.string ⟨#[]⟩,.string ⟨#[]⟩],.int .i64 11])∧Below w.heap.size w w':=by
 have k:=read_any12 (w:=w) s hs;rw [h] at k;exact k
theorem zei {s:ByteArray} {a b c:ByteArray} (h:zcH s=some (a,b,c)) (hs:s.size≤100000) (w:World):Calls Tryz.prog 30 #[.string s] w fun e w'=>e = .returned (.tuple #[.agg #[.string a,.string b,.string c],.int .i64 0])∧Below w.heap.size w w':=by
 have k:=read_any12 (w:=w) s hs;rw [h] at k;exact k
theorem zg9 {s a b c:ByteArray} (h:zcH s=some (a,b,c)):a.size≤s.size∧b.size≤s.size∧c.size≤s.size:=by
 have h2:=(zgs h).2;unfold zem objN at h2;dsimp only at h2;by_cases he:c=⟨#[]⟩
 · rw [if_pos he] at h2;have:=congrArg ByteArray.size h2;rw [size_app,size_app] at this;subst he;have h0:(⟨#[]⟩:ByteArray).size=0:=rfl;omega
 · rw [if_neg he] at h2;have:=congrArg ByteArray.size h2;rw [size_app,size_app,size_app,size_app] at this;omega
section
variable {w:World}
theorem fmd_is {a b c x y z:ByteArray} {q:Bool} (h:zj8 ((a,b,c),(x,y,z))=q) (ha:a.size≤100000) (hb:b.size≤100000) (hc:c.size≤100000) (hx:x.size≤100000) (hy:y.size≤100000) (hz:z.size≤100000) (W:World) :
 Calls Tryz.prog 70 #[.agg #[.string a,.string b,.string c,.string x,.string y,.string z]] W fun e w'=>e = .returned (.bool q)∧Below W.heap.size W w':=by
 rw [←h];exact fmd_any a b c x y z ha hb hc hx hy hz
theorem parse_any12 (s:ByteArray) (hs:s.size≤100000) :
 Calls Tryz.prog 32 #[.string s] w fun e w'=>e = .returned (.tuple #[.agg #[.string (zlN (zdI s)).1.1,.string (zlN (zdI s)).1.2.1,.string (zlN (zdI s)).1.2.2,.string (zlN (zdI s)).2.1,.string (zlN (zdI s)).2.2.1,.string (zlN (zdI s)).2.2.2],.int .i64 (errO (zdI s))])∧Below w.heap.size w w':=by
 have hml:s.size≤maxLen:=by simp only [maxLen];omega
 obtain ⟨R,hRd⟩:∃R,Hid (zdI s=R):=⟨_,Lib.hid rfl⟩;rw [hRd.out];unfold zdI at hRd;have zo:(zcO s 64).1.size≤100000:=by have h1:=zev s 64;have h2:=(zcS s 64).1;omega
 have zr:(zcO s 64).2.size≤100000:=by have h1:=zdR s 64;omega
 have k1:=fun W=>cut64 s W hml;generalize (zcO s 64).1=o at *
 generalize (zcO s 64).2=r at *
 generalize decide (zdi s 64<s.size)=g1 at k1;have hR:=Bk.new w #[.string ⟨#[]⟩,.string ⟨#[]⟩,.string ⟨#[]⟩,.string ⟨#[]⟩,.string ⟨#[]⟩,.string ⟨#[]⟩] 71;have hB:=zb0 w (.cells #[.string ⟨#[]⟩,.string ⟨#[]⟩,.string ⟨#[]⟩,.string ⟨#[]⟩,.string ⟨#[]⟩,.string ⟨#[]⟩] 71);go_enter Tryz.func32,Tryz.ntmps32
 go_upto_region 1 with (fail)
 generalize w.alloc (.cells #[.string ⟨#[]⟩,.string ⟨#[]⟩,.string ⟨#[]⟩,.string ⟨#[]⟩,.string ⟨#[]⟩,.string ⟨#[]⟩] 71)=w1 at *
 go_upto_region 2 with (go_at_call 67;refine (k1 _).mono ?_;rintro e w2 ⟨rfl,hb⟩)
 replace hR:=hR.below hb;replace hB:=zad hB hB.size hb;clear hb k1;cases hA:zcH o with
 | none =>
  obtain rfl:R=none:=by have q:=hRd.out;rw [hA] at q;exact q.symm
  have kr:=zgr hA zo w2;clear hRd;go_wp2_with (go_at_call 30;refine kr.mono ?_;rintro e w3 ⟨rfl,hb⟩;have hR3:=(hR.below hb).alloc (.cells #[.string ⟨#[]⟩,.string ⟨#[]⟩,.string ⟨#[]⟩] 69);have hB3:=(zad hB hB.size hb).alloc (zad hB hB.size hb).size (.cells #[.string ⟨#[]⟩,.string ⟨#[]⟩,.string ⟨#[]⟩] 69);obtain ⟨r0,r1,r2,r3,r4,r5⟩:=hR3.c6;have rl:=hR3.lt;have rf:=hR3.fz)
  obtain ⟨hw,hb6⟩:=zkD hR3 hB3 (Nat.le_refl _) (.string ⟨#[]⟩) (.string ⟨#[]⟩) (.string ⟨#[]⟩) (.string ⟨#[]⟩) (.string ⟨#[]⟩) (.string ⟨#[]⟩);obtain ⟨y0,y1,y2,y3,y4,y5⟩:=hw.c6;refine bodyPost_ret (v:=.tuple #[.agg #[.string ⟨#[]⟩,.string ⟨#[]⟩,.string ⟨#[]⟩,.string ⟨#[]⟩,.string ⟨#[]⟩,.string ⟨#[]⟩],.int .i64 11]) (by simp [results,Tryz.results32,go_sem,y0,y1,y2,y3,y4,y5];try rfl) rfl ?_;exact ⟨rfl,hb6⟩
 | some n =>
  obtain ⟨a,b,c⟩:=n;have kr:=zei hA zo w2;obtain ⟨za,zb,zc⟩:=zg9 hA;have fA:=(zgs hA).1;go_upto_region 5 with (go_at_call 30;refine kr.mono ?_;rintro e w3 ⟨rfl,hb⟩)
  have hN:=Bk.new w3 #[.string a,.string b,.string c] 69;replace hR:=(hR.below hb).alloc (.cells #[.string a,.string b,.string c] 69);replace hB:=(zad hB hB.size hb).alloc (zad hB hB.size hb).size (.cells #[.string a,.string b,.string c] 69);clear hb kr;generalize w3.alloc (.cells #[.string a,.string b,.string c] 69)=w4 at *
  generalize w3.heap.size=gn at *
  cases hA2:zcH r with
  | none =>
   obtain rfl:R=none:=by have q:=hRd.out;rw [hA,hA2] at q;exact q.symm
   have kr:=zgr hA2 zr w4;clear hRd;go_wp2_with (go_at_call 30;refine kr.mono ?_;rintro e w5 ⟨rfl,hb⟩;have hR3:=(hR.below hb).alloc (.cells #[.string ⟨#[]⟩,.string ⟨#[]⟩,.string ⟨#[]⟩] 69);have hB3:=(zad hB hB.size hb).alloc (zad hB hB.size hb).size (.cells #[.string ⟨#[]⟩,.string ⟨#[]⟩,.string ⟨#[]⟩] 69);obtain ⟨r0,r1,r2,r3,r4,r5⟩:=hR3.c6;have rl:=hR3.lt;have rf:=hR3.fz)
   obtain ⟨hw,hb6⟩:=zkD hR3 hB3 (Nat.le_refl _) (.string ⟨#[]⟩) (.string ⟨#[]⟩) (.string ⟨#[]⟩) (.string ⟨#[]⟩) (.string ⟨#[]⟩) (.string ⟨#[]⟩);obtain ⟨y0,y1,y2,y3,y4,y5⟩:=hw.c6;refine bodyPost_ret (v:=.tuple #[.agg #[.string ⟨#[]⟩,.string ⟨#[]⟩,.string ⟨#[]⟩,.string ⟨#[]⟩,.string ⟨#[]⟩,.string ⟨#[]⟩],.int .i64 11]) (by simp [results,Tryz.results32,go_sem,y0,y1,y2,y3,y4,y5];try rfl) rfl ?_;exact ⟨rfl,hb6⟩
  | some m =>
   obtain ⟨x,y,z⟩:=m;have kr:=zei hA2 zr w4;obtain ⟨zx,zy,zz⟩:=zg9 hA2;have fB:=(zgs hA2).1;go_upto_region 8 with (go_at_call 30;refine kr.mono ?_;rintro e w5 ⟨rfl,hb⟩)
   have hM:=Bk.new w5 #[.string x,.string y,.string z] 69;replace hN:=(hN.below hb).alloc (.cells #[.string x,.string y,.string z] 69);replace hR:=(hR.below hb).alloc (.cells #[.string x,.string y,.string z] 69);replace hB:=(zad hB hB.size hb).alloc (zad hB hB.size hb).size (.cells #[.string x,.string y,.string z] 69);clear hb kr;generalize w5.alloc (.cells #[.string x,.string y,.string z] 69)=w6 at *
   generalize w5.heap.size=gm at *
   obtain ⟨n0,n1,n2⟩:=hN.c3;obtain ⟨m0,m1,m2⟩:=hM.c3;have nl:=hN.lt;have ml:=hM.lt;have hT:=Bk.new w6 #[.string a,.string b,.string c,.string x,.string y,.string z] 71;go_upto_region 9 with (fail)
   replace hR:=hR.alloc (.cells #[.string a,.string b,.string c,.string x,.string y,.string z] 71);replace hB:=hB.alloc hB.size (.cells #[.string a,.string b,.string c,.string x,.string y,.string z] 71);clear n0 n1 n2 m0 m1 m2 nl ml hN hM;generalize w6.alloc (.cells #[.string a,.string b,.string c,.string x,.string y,.string z] 71)=w7 at *
   generalize w6.heap.size=gt at *
   obtain ⟨t0,t1,t2,t3,t4,t5⟩:=hT.c6;have tl:=hT.lt;by_cases he:c=⟨#[]⟩
   · obtain rfl:R=none:=by have q:=hRd.out;rw [hA,hA2] at q;dsimp only at q;rw [if_pos he] at q;exact q.symm
     have kf:=fmd_is (a:=a) (b:=b) (c:=c) (x:=x) (y:=y) (z:=z) (q:=false) (by unfold zj8;rw [fA,fB];simp [he]) (by omega) (by omega) (by omega) (by omega) (by omega) (by omega) w7;clear hRd he;go_wp2_with (go_at_call 70;refine kf.mono ?_;rintro e w8 ⟨rfl,hb⟩;have hR3:=hR.below hb;have hB3:=zad hB hB.size hb;obtain ⟨r0,r1,r2,r3,r4,r5⟩:=hR3.c6;have rl:=hR3.lt;have rf:=hR3.fz)
     obtain ⟨hw,hb6⟩:=zkD hR3 hB3 (Nat.le_refl _) (.string ⟨#[]⟩) (.string ⟨#[]⟩) (.string ⟨#[]⟩) (.string ⟨#[]⟩) (.string ⟨#[]⟩) (.string ⟨#[]⟩);obtain ⟨y0,y1,y2,y3,y4,y5⟩:=hw.c6;refine bodyPost_ret (v:=.tuple #[.agg #[.string ⟨#[]⟩,.string ⟨#[]⟩,.string ⟨#[]⟩,.string ⟨#[]⟩,.string ⟨#[]⟩,.string ⟨#[]⟩],.int .i64 11]) (by simp [results,Tryz.results32,go_sem,y0,y1,y2,y3,y4,y5];try rfl) rfl ?_;exact ⟨rfl,hb6⟩
   · obtain rfl:R=some ((a,b,c),(x,y,z)):=by have q:=hRd.out;rw [hA,hA2] at q;dsimp only at q;rw [if_neg he] at q;exact q.symm
     have kf:=fmd_is (a:=a) (b:=b) (c:=c) (x:=x) (y:=y) (z:=z) (q:=true) (by unfold zj8;rw [fA,fB];simp [he]) (by omega) (by omega) (by omega) (by omega) (by omega) (by omega) w7;clear hRd he;go_wp2_with (go_at_call 70;refine kf.mono ?_;rintro e w8 ⟨rfl,hb⟩;have hT8:=hT.below hb;obtain ⟨s0,s1,s2,s3,s4,s5⟩:=hT8.c6;have hR3:=hR.below hb;have hB3:=zad hB hB.size hb;obtain ⟨r0,r1,r2,r3,r4,r5⟩:=hR3.c6;have rl:=hR3.lt;have rf:=hR3.fz)
     obtain ⟨hw,hb6⟩:=zkD hR3 hB3 (Nat.le_refl _) (.string a) (.string b) (.string c) (.string x) (.string y) (.string z);obtain ⟨y0,y1,y2,y3,y4,y5⟩:=hw.c6;refine bodyPost_ret (v:=.tuple #[.agg #[.string a,.string b,.string c,.string x,.string y,.string z],.int .i64 0]) (by simp [results,Tryz.results32,go_sem,y0,y1,y2,y3,y4,y5];try rfl) rfl ?_;exact ⟨rfl,hb6⟩
end
end Go.Proofs.YtahegpfdbgbioaaGreat
