import Derived.Test.YtiepddmagfmllaaGreatT23
import Derived.Test.YtiepddmagfmllaaGreatT24
set_option maxRecDepth 100000
set_option maxHeartbeats 4000000
namespace Go.Proofs.YtiepddmagfmllaaGreat
open Go.RowKit
open Go.RowKit
open Go.RowKit
theorem zex (k:Nat):(zgj k).size≤100:=by
 unfold zgj;split
 · show 3≤100;omega
 · split <;> (show 3≤100;omega)
section
variable {w:World} {B g m bx t4 t5 t6:Nat} {gs:List Gp}
theorem act_this (hm:Mp B g m w bx t4 t5 t6) (h:Ln B w g gs) (hg:g<B) (hB:B≤w.heap.size) (hn:gs.length≤1000000) (hp:(zaw gs).length≤1000000) (o:OpP) :
 Calls Tryz.prog 165 #[.agg #[.int .i64 (o.1:Nat),.string o.2.1,.string o.2.2],.pointer (some ⟨bx,0,none⟩)] w (zix B w g (zkI zcE gs)):=by
 have hal:Below w.heap.size w (w.alloc (.cells #[.int .i64 (o.1:Nat),.string o.2.1,.string o.2.2] 132)):=(Below.refl _ w).alloc (Nat.le_refl _) _;have k:=put_any zcE (h.below hal) hg (Nat.le_trans hB hal.size) hn hp;have b0:=(hm.box.below hal).cell 0;have lb:=(hm.box.below hal).lt;have hK:Kp g B w _:=Kp.of_below (hal.mono hB) g;clear h hal;go_enter Tryz.func165,Tryz.ntmps165
 go_wp2_with fail
 generalize w.alloc (.cells #[.int .i64 (o.1:Nat),.string o.2.1,.string o.2.2] 132)=W at *
 refine k.mono ?_;rintro e W1 ⟨rfl,hl,hk⟩;go_wp2_with fail
 go_returns
 exact ⟨rfl,hl,hK.trans hk⟩
theorem act_same (hm:Mp B g m w bx t4 t5 t6) (h:Ln B w g gs) (hg:g<B) (hB:B≤w.heap.size) (hn:gs.length≤1000000) (hp:(zaw gs).length≤1000000) (o:OpP) :
 Calls Tryz.prog 167 #[.agg #[.int .i64 (o.1:Nat),.string o.2.1,.string o.2.2],.pointer (some ⟨bx,0,none⟩)] w (zix B w g (zkI o.2.1 gs)):=by
 have hal:Below w.heap.size w (w.alloc (.cells #[.int .i64 (o.1:Nat),.string o.2.1,.string o.2.2] 132)):=(Below.refl _ w).alloc (Nat.le_refl _) _;have k:=put_any o.2.1 (h.below hal) hg (Nat.le_trans hB hal.size) hn hp;have b0:=(hm.box.below hal).cell 0;have lb:=(hm.box.below hal).lt;have ho:=Bk.new w #[.int .i64 (o.1:Nat),.string o.2.1,.string o.2.2] 132;have o1:=ho.cell 1;have lo:=ho.lt;have hK:Kp g B w _:=Kp.of_below (hal.mono hB) g;clear h hal ho;go_enter Tryz.func167,Tryz.ntmps167
 go_wp2_with fail
 generalize w.alloc (.cells #[.int .i64 (o.1:Nat),.string o.2.1,.string o.2.2] 132)=W at *
 refine k.mono ?_;rintro e W1 ⟨rfl,hl,hk⟩;go_wp2_with fail
 go_returns
 exact ⟨rfl,hl,hK.trans hk⟩
theorem act_via (hm:Mp B g m w bx t4 t5 t6) (h:Ln B w g gs) (hg:g<B) (hB:B≤w.heap.size) (hn:gs.length≤1000000) (hp:(zaw gs).length≤1000000) (o:OpP) (h1:o.2.1.size≤1000000) (h2:o.2.2.size≤1000000) :
 Calls Tryz.prog 168 #[.agg #[.int .i64 (o.1:Nat),.string o.2.1,.string o.2.2],.pointer (some ⟨bx,0,none⟩)] w (zix B w g (zkI (o.2.1 ++ ⟨#[46]⟩ ++ o.2.2) gs)):=by
 have hal:Below w.heap.size w (w.alloc (.cells #[.int .i64 (o.1:Nat),.string o.2.1,.string o.2.2] 132)):=(Below.refl _ w).alloc (Nat.le_refl _) _;have k:=put_any (o.2.1 ++ ⟨#[46]⟩ ++ o.2.2) (h.below hal) hg (Nat.le_trans hB hal.size) hn hp;have b0:=(hm.box.below hal).cell 0;have lb:=(hm.box.below hal).lt;have ho:=Bk.new w #[.int .i64 (o.1:Nat),.string o.2.1,.string o.2.2] 132;have o1:=ho.cell 1;have o2:=ho.cell 2;have lo:=ho.lt;have n1:¬9223372036854775807<o.2.1.size + 1:=by omega
 have n2:¬9223372036854775807<o.2.1.size + 1 + o.2.2.size:=by omega
 have hK:Kp g B w _:=Kp.of_below (hal.mono hB) g;clear h hal ho;go_enter Tryz.func168,Tryz.ntmps168
 go_wp2_with fail
 generalize w.alloc (.cells #[.int .i64 (o.1:Nat),.string o.2.1,.string o.2.2] 132)=W at *
 refine k.mono ?_;rintro e W1 ⟨rfl,hl,hk⟩;go_wp2_with fail
 go_returns
 exact ⟨rfl,hl,hK.trans hk⟩
theorem act_sign8 {ts:Nat} {s:ByteArray} (hm:Mp B g m w bx t4 t5 t6) (hs:Bk w ts #[.string s] 9) (hz:s.size≤100) (h:Ln B w g gs) (hg:g<B) (hB:B≤w.heap.size) (hn:gs.length≤1000000) (hp:(zaw gs).length≤1000000) (o:OpP) :
 Calls Tryz.prog 163 #[.agg #[.int .i64 (o.1:Nat),.string o.2.1,.string o.2.2],.pointer (some ⟨bx,0,none⟩),.pointer (some ⟨ts,0,none⟩)] w (zix B w g (zhR s gs)):=by
 have hal:Below w.heap.size w (w.alloc (.cells #[.int .i64 (o.1:Nat),.string o.2.1,.string o.2.2] 132)):=(Below.refl _ w).alloc (Nat.le_refl _) _;have k:=join_any s (h.below hal) hg (Nat.le_trans hB hal.size) hn hp hz;have b0:=(hm.box.below hal).cell 0;have lb:=(hm.box.below hal).lt;have s0:=(hs.below hal).cell 0;have ls:=(hs.below hal).lt;have hK:Kp g B w _:=Kp.of_below (hal.mono hB) g;clear h hal;go_enter Tryz.func163,Tryz.ntmps163
 go_wp2_with fail
 generalize w.alloc (.cells #[.int .i64 (o.1:Nat),.string o.2.1,.string o.2.2] 132)=W at *
 refine k.mono ?_;rintro e W1 ⟨rfl,hl,hk⟩;go_wp2_with fail
 go_returns
 exact ⟨rfl,hl,hK.trans hk⟩
end
theorem zcd (a b:List ByteArray):(zba (a ++ b)).size=(zba a).size + (zba b).size:=by rw [zdG,size_app]
theorem step_len (gs:List Gp) (o:OpP) (h1:o.2.1.size≤1000) (h2:o.2.2.size≤1000) :
 (zdi gs o).length≤gs.length + 1∧(zaw (zdi gs o)).length≤(zaw gs).length + 2∧(zba (zaw (zdi gs o))).size≤(zba (zaw gs)).size + 3000:=by
 unfold zdi;split
 · have ht:(zmL o).size≤2001:=by
    unfold zmL;split
    · show 4≤2001;omega
    · split
      · omega
      · rw [size_app,size_app];show o.2.1.size + 1 + o.2.2.size≤2001;omega
   unfold zkI;rw [zei,List.length_append,List.length_append,zcd];refine ⟨Nat.le_refl _,Nat.le_refl _,?_⟩;show _ + (⟨#[]⟩ ++ (zmL o ++ ⟨#[]⟩):ByteArray).size≤_;rw [size_app,size_app];show _ + (0 + ((zmL o).size + 0))≤_;omega
 · split
   · have hs:=zex o.1;rcases List.eq_nil_or_concat gs with rfl | ⟨l1,b,rfl⟩
     · exact ⟨Nat.zero_le _,Nat.zero_le _,Nat.zero_le _⟩
     · rcases List.eq_nil_or_concat l1 with rfl | ⟨l,a,rfl⟩
       · refine ⟨?_,?_,?_⟩ <;> (simp only [List.concat_eq_append,List.nil_append];show _≤_ + _;exact Nat.le_add_right _ _)
       · simp only [List.concat_eq_append,List.append_assoc,List.singleton_append];rw [zel,zgt,zju];refine ⟨by simp,?_,?_⟩
         · split <;> (simp only [List.length_append,List.length_cons,List.length_nil];omega)
         · rw [zcd,zcd];show _ + ((if b.2=true then zgj o.1 ++ ⟨#[40]⟩ else zgj o.1) ++ zba (b.1 ++ if b.2=true then [⟨#[41]⟩] else [])).size≤_ + (⟨#[]⟩ ++ zba b.1:ByteArray).size + 3000;rw [size_app,zcd,size_app];have e1:(if b.2=true then zgj o.1 ++ ⟨#[40]⟩ else zgj o.1).size≤101:=by
            split
            · rw [size_app];show _ + 1≤_;omega
            · omega
           have e2:(zba (if b.2=true then [⟨#[41]⟩] else [])).size≤1:=by split <;> decide
           show _≤_ + (0 + _) + 3000;omega
   · omega
theorem zgU:∀(l:List OpP) (gs:List Gp),(∀o ∈ l,o.2.1.size≤1000∧o.2.2.size≤1000) →
 (zcv gs l).length≤gs.length + l.length∧(zaw (zcv gs l)).length≤(zaw gs).length + 2 * l.length∧(zba (zaw (zcv gs l))).size≤(zba (zaw gs)).size + 3000 * l.length
 | [],gs,_=>by
  show gs.length≤gs.length + 0∧(zaw gs).length≤_ + 2 * 0∧(zba (zaw gs)).size≤_ + 3000 * 0;omega
 | o::r,gs,h=>by
  obtain ⟨a1,a2,a3⟩:=step_len gs o (h o List.mem_cons_self).1 (h o List.mem_cons_self).2;obtain ⟨b1,b2,b3⟩:=zgU r (zdi gs o) fun x hx=>h x (List.mem_cons_of_mem _ hx);show (zcv (zdi gs o) r).length≤_∧(zaw (zcv (zdi gs o) r)).length≤_∧(zba (zaw (zcv (zdi gs o) r))).size≤_;rw [List.length_cons];omega
theorem zj5:∀xs:List ByteArray,Lib.joinTail [] (xs.map (·.data.toList))=(zba xs).data.toList
 | []=>rfl
 | x::r=>by
  have ih:=zj5 r;unfold Lib.joinTail at *
  rw [List.map_cons,List.map_cons,List.flatten_cons,ih,List.nil_append];show _=(x ++ zba r).data.toList;rw [ByteArray.data_append,Array.toList_append]
theorem zjz (xs:List ByteArray):Lib.join (xs.map (·.data.toList)) []=(zba xs).data.toList:=by
 cases xs with
 | nil=>rfl
 | cons x r =>
  rw [List.map_cons,Lib.join_cons,zj5];show _=(x ++ zba r).data.toList;rw [ByteArray.data_append,Array.toList_append]
theorem zlH {w:World} {B:Nat} {A:Option Addr} {c:Nat} {xs:List ByteArray} (h:w.ownsRow B 9 1 (.slice A xs.length c) xs.length (xs.map .string)) (hz:(zba xs).size≤1000000000) (hn:xs.length≤1000000) :
 Calls Tryz.prog 137 #[.slice A xs.length c,.string ⟨#[]⟩] w fun e w'=>e = .returned (.string (zba xs))∧Below w.heap.size w w':=by
 rcases Nat.eq_zero_or_pos xs.length with h0 | h0
 · have hx:=List.eq_nil_of_length_eq_zero h0;subst hx;exact (zhS A c ⟨#[]⟩ w).mono fun e w' ⟨h1,h2⟩=>⟨h1,by subst h2;exact Below.refl _ _⟩
 · obtain ⟨g,rfl,_,hl,hc⟩:=zjL h h0;refine (zhT g 0 c xs ⟨#[]⟩ w (fun j x hj=>?_) hl (by omega) hc ?_).mono fun e w' ⟨h1,h2⟩=>⟨?_,h2⟩
   · rw [Nat.zero_add,h.cellAt j (by have:=(List.getElem?_eq_some_iff.1 hj).1;omega),List.getElem?_map,hj];rfl
   · rw [show (⟨#[]⟩:ByteArray).data.toList=[] from rfl,zjz,Array.length_toList];exact Nat.le_trans hz (by omega)
   · rw [h1,show (⟨#[]⟩:ByteArray).data.toList=[] from rfl,zjz]
theorem zdU {α:Type} {l:List α} {i:Nat} {x:α} (h:l[i]? = some x):l.take (i + 1)=l.take i ++ [x]:=by
 rw [List.take_add_one,h];rfl
theorem zko (gs:List Gp) (l:List OpP) (o:OpP):zcv gs (l ++ [o])=zdi (zcv gs l) o:=by unfold zcv;rw [List.foldl_append];rfl
theorem zcR {f:FuncId} {fn:Func} (hf:Tryz.prog.funcs[f]? = some fn) (hname:(fn.name == "runtime.NumGoroutine")=false) (hb:fn.body.isNone=false) (args:Array Value) (W:World):(callFunc f args).run Tryz.prog W = .ok (.enter f args) W:=by
 have h1:¬fn.name="runtime.NumGoroutine":=by
  intro e;rw [e] at hname;exact absurd hname (by decide)
 have h2:¬fn.body=none:=by
  intro e;rw [e] at hb;cases hb
 simp [callFunc,hf,h1,h2,Result.andThen]
theorem act_k {w:World} {B g m bx t4 t5 t6:Nat} {gs:List Gp} {o:OpP} (hm:Mp B g m w bx t4 t5 t6) (h:Ln B w g gs) (hg:g<B) (hB:B≤w.heap.size) (hn:gs.length≤1000000) (hp:(zaw gs).length≤1000000) (h1:o.2.1.size≤1000) (h2:o.2.2.size≤1000) :
 (¬(1≤o.1∧o.1≤6)∧zdi gs o=gs)∨∃f caps i,((actL bx t4 t5 t6).zipIdx 0).find? (fun q=>decide ((q.1.1:Int)=(o.1:Int)))=some ((o.1,fnV f caps),i)∧(∀args W,(callFunc f args).run Tryz.prog W = .ok (.enter f args) W)∧Calls Tryz.prog f (#[.agg #[.int .i64 (o.1:Nat),.string o.2.1,.string o.2.2]] ++ caps) w (zix B w g (zdi gs o)):=by
 by_cases hk:1≤o.1∧o.1≤6
 · refine .inr ?_;have hc:o.1=1∨o.1=2∨o.1=3∨o.1=4∨o.1=5∨o.1=6:=by omega
   obtain ⟨k,n,q⟩:=o;dsimp only at *
   rcases hc with rfl | rfl | rfl | rfl | rfl | rfl
   · exact ⟨_,_,_,rfl,zcR Tryz.func165 (by kernel_rfl) (by kernel_rfl),act_this hm h hg hB hn hp (1,n,q)⟩
   · exact ⟨_,_,_,rfl,zcR Tryz.func167 (by kernel_rfl) (by kernel_rfl),act_same hm h hg hB hn hp (2,n,q)⟩
   · exact ⟨_,_,_,rfl,zcR Tryz.func168 (by kernel_rfl) (by kernel_rfl),act_via hm h hg hB hn hp (3,n,q) (by dsimp only;omega) (by dsimp only;omega)⟩
   · exact ⟨_,_,_,rfl,zcR Tryz.func163 (by kernel_rfl) (by kernel_rfl),act_sign8 hm hm.s4 (zex 4) h hg hB hn hp (4,n,q)⟩
   · exact ⟨_,_,_,rfl,zcR Tryz.func163 (by kernel_rfl) (by kernel_rfl),act_sign8 hm hm.s5 (zex 5) h hg hB hn hp (5,n,q)⟩
   · exact ⟨_,_,_,rfl,zcR Tryz.func163 (by kernel_rfl) (by kernel_rfl),act_sign8 hm hm.s6 (zex 6) h hg hB hn hp (6,n,q)⟩
 · refine .inl ⟨hk,?_⟩;unfold zdi;rw [if_neg (by omega),if_neg (by omega)]
theorem ln_new (B:Nat) (w:World):Ln B (w.alloc (.cells #[.slice none 0 0,.slice none 0 0] 249)) w.heap.size []:=⟨none,0,none,0,Bk.new w _ _,World.ownsRow_nil _ _ _ _,World.ownsRow_nil _ _ _ _⟩
theorem rewrite_any {w:World} {A:Option Addr} {c:Nat} {l:List OpP} (hr:Rd w w.heap.size 3 A l.length c (ocells l)) (hn:l.length≤100000) (hs:∀o ∈ l,o.2.1.size≤1000∧o.2.2.size≤1000) :
 Calls Tryz.prog 102 #[.slice A l.length c] w fun e w'=>e = .returned (.string (ziv l))∧Below w.heap.size w w':=by
 have HS:=Lib.hid hs;go_enter Tryz.func102,Tryz.ntmps102
 go_wp2_with fail
 have hal:Below w.heap.size w (w.alloc (.cells #[.slice none 0 0,.slice none 0 0] 249)):=(Below.refl _ w).alloc (Nat.le_refl _) _;have hl0:=fun B=>ln_new B w;have hz0:w.heap.size<(w.alloc (.cells #[.slice none 0 0,.slice none 0 0] 249)).heap.size:=by simp
 have k:=does_any _ w.heap.size hz0;generalize w.alloc (.cells #[.slice none 0 0,.slice none 0 0] 249)=W0 at *
 refine k.mono ?_;rintro e W1 ⟨⟨m,bx,t4,t5,t6,rfl,hm⟩,hb1⟩;have hl1:=(hl0 W1.heap.size).below hb1;have hB1:=hal.trans (hb1.mono hal.size);have hgz:w.heap.size<W1.heap.size:=Nat.lt_of_lt_of_le hz0 hb1.size;have hr1:=hr.below hB1;clear k hl0 hal hz0 hb1;go_wp2_with fail
 go_loopw [15] (fun vi wr=>∃i:Nat,vi = .int .i64 i∧i≤l.length∧Ln W1.heap.size wr w.heap.size (zcv [] (l.take i))∧Kp w.heap.size W1.heap.size W1 wr) (fun vi _=>l.length-(intOf vi).toNat)
 case atStart=>exact ⟨0,rfl,Nat.zero_le _,hl1,Kp.refl _ _ _⟩
 case round =>
  clear hl1;obtain ⟨i,rfl,hi,hL,hK⟩:=hrel;obtain ⟨b1,b2,b3⟩:=zgU (l.take i) [] fun o ho=>HS.out o (List.mem_of_mem_take ho);have hti:(l.take i).length=i:=by rw [List.length_take];omega
  rw [hti] at b1 b2 b3;replace b1:(zcv [] (l.take i)).length≤0 + i:=b1;replace b2:(zaw (zcv [] (l.take i))).length≤0 + 2 * i:=b2;replace b3:(zba (zaw (zcv [] (l.take i)))).size≤0 + 3000 * i:=b3;by_cases hil:i<l.length
  · obtain ⟨o,ho⟩:∃o,l[i]? = some o:=⟨l[i],List.getElem?_eq_getElem hil⟩;have hso:=HS.out o (List.mem_of_getElem? ho);have hts:zcv [] (l.take (i + 1))=zdi (zcv [] (l.take i)) o:=by rw [zdU ho,zko]
    have hrr:=hr1.keep fun p hp=>(by unfold World.cell?;rw [hK.block p.block (by omega) (by omega)]);obtain ⟨b,f,rfl,hbb,hc⟩:=hrr.at_ (by omega);obtain ⟨e0,e1,e2⟩:=ocells_at l i o ho;have q0:=hc _ _ e0;have q1:wr.cell? ⟨b,f + i * 3 + 1,none⟩=_:=hc _ _ e1;have q2:wr.cell? ⟨b,f + i * 3 + 2,none⟩=_:=hc _ _ e2;have hdi:(i:Int)<(l.length:Nat):=by omega
    have hal:Below wr.heap.size wr (wr.alloc (.cells #[.int .i64 (o.1:Nat),.string o.2.1,.string o.2.2] 132)):=(Below.refl _ wr).alloc (Nat.le_refl _) _;have hz:=hK.size;have hbo:=Bk.new wr #[.int .i64 (o.1:Nat),.string o.2.1,.string o.2.2] 132;have hm2:=(hm.kp hK).kp (Kp.of_below (hal.mono hz) w.heap.size);have hstep:=act_k (o:=o) hm2 (hL.below hal) hgz (Nat.le_trans hz hal.size) (by omega) (by omega) hso.1 hso.2;have hK2:=hK.trans (Kp.of_below (hal.mono hz) w.heap.size);have z0:World.cell? _ ⟨wr.heap.size,0,none⟩=some (.int .i64 (o.1:Nat)):=hbo.cell 0;have z1:World.cell? _ ⟨wr.heap.size,1,none⟩=some (.string o.2.1):=hbo.cell 1;have z2:World.cell? _ ⟨wr.heap.size,2,none⟩=some (.string o.2.2):=hbo.cell 2;rcases hstep with ⟨hk,he⟩ | ⟨fn,caps,j,hf,hen,hcall⟩
    · have hlk:=look_no hm2 hk;clear hm hm2 hr hr1 hrr hs;go_wp2_with fail
      refine ⟨⟨i + 1,by go_num,by omega,?_,hK2⟩,?_⟩
      · rw [hts,he];exact hL.below hal
      · simp only [intOf];omega
    · have hlk:=zlV hm2 o.1 j fn caps hf;clear hm hm2 hr hr1 hrr hs;go_wp2_with fail
      refine hcall.mono ?_;rintro e W2 ⟨rfl,hL2,hk2⟩;go_wp2_with fail
      refine ⟨⟨i + 1,by go_num,by omega,?_,hK2.trans hk2⟩,?_⟩
      · rw [hts];exact hL2
      · simp only [intOf];omega
  · obtain rfl:i=l.length:=by omega
    have hdi:¬(l.length:Int)<(l.length:Nat):=by omega
    rw [List.take_length] at hL b2 b3;have hrw:zba (zaw (zcv [] l))=ziv l:=rfl;obtain ⟨Ap,cp,Aq,cq,hL⟩:=hL;have x0:wr.cell? ⟨w.heap.size,0,none⟩=some (.slice Ap (zaw (zcv [] l)).length cp):=hL.cells.cell 0;have lg:=hL.cells.lt;have kj:=zlH hL.ps (by omega) (by omega);rw [hrw] at kj;clear hL hm hr1;go_wp2_with fail
    refine kj.mono ?_;rintro e W2 ⟨rfl,hb2⟩;go_wp2_with fail
    go_returns
    exact ⟨rfl,(hB1.trans (Kp.below hK (Nat.le_of_lt hgz) (Nat.le_refl _))).trans (hb2.mono (Nat.le_of_lt lg))⟩
def zd9 (s:zb7):ByteArray:=if s.2=⟨#[]⟩ then s.1 else s.1 ++ ⟨#[35]⟩ ++ s.2
def zey (sep:ByteArray):List ByteArray→ByteArray
 | []=>⟨#[]⟩
 | x::r=>sep ++ x ++ zey sep r
def zlF (sep:ByteArray):List ByteArray→ByteArray
 | []=>⟨#[]⟩
 | x::r=>x ++ zey sep r
def zij (l:List zb7):ByteArray:=zlF ⟨#[44,32]⟩ (l.map zd9)
def zcx (l:List OpP):Bool:=match l with
 | [o]=>o.1 == 1
 | _=>false
def zgV (x:RelP):ByteArray:=(⟨#[114,101,108,32]⟩:ByteArray) ++ x.name ++ ⟨#[32,40]⟩ ++ x.view ++ ⟨#[44,32]⟩ ++ x.edit ++ ⟨#[44,32]⟩ ++ x.check ++ ⟨#[41,58]⟩
def zk5 (x:RelP):ByteArray:=if x.subs.length=0 then zgV x else zgV x ++ (⟨#[32]⟩ ++ zij x.subs)
def relS (x:RelP):ByteArray:=(if zcx x.ops=true then zk5 x else zk5 x ++ (⟨#[32,105,115,32]⟩ ++ ziv x.ops)) ++ ⟨#[59]⟩
structure Sml (x:RelP):Prop where
 name:x.name.size≤1000
 view:x.view.size≤1000
 edit:x.edit.size≤1000
 check:x.check.size≤1000
 subs:x.subs.length≤100000∧∀s ∈ x.subs,s.1.size≤1000∧s.2.size≤1000
 ops:x.ops.length≤100000∧∀o ∈ x.ops,o.2.1.size≤1000∧o.2.2.size≤1000
theorem zj1 {s:zb7} (h1:s.1.size≤1000) (h2:s.2.size≤1000):(zd9 s).size≤2001:=by
 unfold zd9;split
 · omega
 · rw [size_app,size_app];show s.1.size + 1 + s.2.size≤2001;omega
theorem zim (sep:ByteArray) (hs:sep.size≤2):∀l:List ByteArray,(∀x ∈ l,x.size≤2001)→(zey sep l).size≤2003 * l.length
 | [],_=>Nat.le_refl _
 | x::r,h=>by
  show (sep ++ x ++ zey sep r).size≤_;have:=zim sep hs r fun y hy=>h y (List.mem_cons_of_mem _ hy);have:=h x List.mem_cons_self;rw [size_app,size_app,List.length_cons];omega
theorem zdE {l:List zb7} (h:∀s ∈ l,s.1.size≤1000∧s.2.size≤1000):(zij l).size≤2003 * l.length:=by
 cases l with
 | nil=>exact Nat.le_refl _
 | cons s r =>
  show (zd9 s ++ zey _ (r.map zd9)).size≤_;have h1:=zj1 (h s List.mem_cons_self).1 (h s List.mem_cons_self).2;have h2:=zim ⟨#[44,32]⟩ (by decide) (r.map zd9) fun x hx=>by
   obtain ⟨y,hy,rfl⟩:=List.mem_map.1 hx;exact zj1 (h y (List.mem_cons_of_mem _ hy)).1 (h y (List.mem_cons_of_mem _ hy)).2
  rw [List.length_map] at h2;rw [size_app,List.length_cons];omega
theorem zfs {l:List OpP} (h:∀o ∈ l,o.2.1.size≤1000∧o.2.2.size≤1000):(ziv l).size≤3000 * l.length:=by
 have:=(zgU l [] h).2.2;have e:(zba (zaw [])).size=0:=rfl;rw [e] at this;unfold ziv;omega
theorem zeD {x:RelP} (h:Sml x):(zgV x).size≤4100∧(zk5 x).size≤4101 + 2003 * x.subs.length:=by
 have h1:=h.name;have h2:=h.view;have h3:=h.edit;have h4:=h.check;have hh:(zgV x).size≤4100:=by
  unfold zgV;simp only [size_app];show 4 + _ + 2 + _ + 2 + _ + 2 + _ + 2≤_;omega
 refine ⟨hh,?_⟩;unfold zk5;split
 · omega
 · have:=zdE h.subs.2;rw [size_app,size_app];show _ + (1 + _)≤_;omega
theorem zj4 (sep:ByteArray):∀xs:List ByteArray,Lib.joinTail sep.data.toList (xs.map (·.data.toList))=(zey sep xs).data.toList
 | []=>rfl
 | x::r=>by
  have ih:=zj4 sep r;unfold Lib.joinTail at *
  rw [List.map_cons,List.map_cons,List.flatten_cons,ih];show _=(sep ++ x ++ zey sep r).data.toList;rw [ByteArray.data_append,ByteArray.data_append,Array.toList_append,Array.toList_append]
theorem zjy (sep:ByteArray) (xs:List ByteArray):Lib.join (xs.map (·.data.toList)) sep.data.toList=(zlF sep xs).data.toList:=by
 cases xs with
 | nil=>rfl
 | cons x r =>
  rw [List.map_cons,Lib.join_cons,zj4];show _=(x ++ zey sep r).data.toList;rw [ByteArray.data_append,Array.toList_append]
theorem zlG {w:World} {B:Nat} {A:Option Addr} {c:Nat} {xs:List ByteArray} (sep:ByteArray) (h:w.ownsRow B 9 1 (.slice A xs.length c) xs.length (xs.map .string)) (hz:(zlF sep xs).size≤1000000000) (hn:xs.length≤1000000) :
 Calls Tryz.prog 137 #[.slice A xs.length c,.string sep] w fun e w'=>e = .returned (.string (zlF sep xs))∧Below w.heap.size w w':=by
 rcases Nat.eq_zero_or_pos xs.length with h0 | h0
 · have hx:=List.eq_nil_of_length_eq_zero h0;subst hx;exact (zhS A c sep w).mono fun e w' ⟨h1,h2⟩=>⟨h1,by subst h2;exact Below.refl _ _⟩
 · obtain ⟨g,rfl,_,hl,hc⟩:=zjL h h0;refine (zhT g 0 c xs sep w (fun j x hj=>?_) hl (by omega) hc ?_).mono fun e w' ⟨h1,h2⟩=>⟨?_,h2⟩
   · rw [Nat.zero_add,h.cellAt j (by have:=(List.getElem?_eq_some_iff.1 hj).1;omega),List.getElem?_map,hj];rfl
   · rw [zjy,Array.length_toList];exact Nat.le_trans hz (by omega)
   · rw [h1,zjy]
section
variable {w:World}
theorem sub_any8 (s:zb7) (h1:s.1.size≤1000) (h2:s.2.size≤1000):Calls Tryz.prog 136 #[.agg #[.string s.1,.string s.2]] w fun e w'=>e = .returned (.string (zd9 s))∧Below w.heap.size w w':=by
 have hb:=Bk.new w #[.string s.1,.string s.2] 104;have b0:=hb.cell 0;have b1:=hb.cell 1;have lb:=hb.lt;have hB:Below w.heap.size w (w.alloc (.cells #[.string s.1,.string s.2] 104)):=(Below.refl _ w).alloc (Nat.le_refl _) _;clear hb;unfold zd9;by_cases he:s.2=⟨#[]⟩
 · rw [if_pos he];have d:s.2.toList.isEmpty=true:=by rw [he];decide +kernel
   clear he;go_enter Tryz.func136,Tryz.ntmps136
   go_wp2_with fail
   go_returns
   exact ⟨rfl,hB⟩
 · rw [if_neg he];have d:s.2.toList.isEmpty=false:=zg5 (by
    rcases Nat.eq_zero_or_pos s.2.size with h | h
    · exact absurd (zg9 h) he
    · exact h)
   go_enter Tryz.func136,Tryz.ntmps136
   go_wp2_with fail
   go_returns
   exact ⟨rfl,hB⟩
theorem subs_any8 {A:Option Addr} {c:Nat} {l:List zb7} (hr:Rd w w.heap.size 2 A l.length c (zbR l)) (hn:l.length≤100000) (hs:∀s ∈ l,s.1.size≤1000∧s.2.size≤1000) :
 Calls Tryz.prog 100 #[.slice A l.length c] w fun e w'=>e = .returned (.string (zij l))∧Below w.heap.size w w':=by
 have HS:=Lib.hid hs;go_enter Tryz.func100,Tryz.ntmps100
 go_wp2_with fail
 go_loopw [3,8] (fun vt vi wr=>∃i:Nat,vi = .int .i64 i∧i≤l.length∧wr.ownsRow w.heap.size 9 1 vt i (((l.take i).map zd9).map .string)∧Below w.heap.size w wr) (fun _ vi _=>l.length-(intOf vi).toNat)
 case atStart=>exact ⟨0,rfl,Nat.zero_le _,World.ownsRow_nil _ _ _ _,Below.refl _ _⟩
 case round =>
  obtain ⟨i,rfl,hi,ho,hb⟩:=hrel;obtain ⟨A1,c1,rfl,_⟩:=Rd.own ho;by_cases hil:i<l.length
  · obtain ⟨s,hsi⟩:∃s,l[i]? = some s:=⟨l[i],List.getElem?_eq_getElem hil⟩;obtain ⟨s1,s2⟩:=HS.out s (List.mem_of_getElem? hsi);have hrr:=hr.below hb;obtain ⟨b,f,rfl,hbb,hc⟩:=hrr.at_ (by omega);obtain ⟨e0,e1⟩:=zcT l i s hsi;have q0:=hc _ _ e0;have q1:wr.cell? ⟨b,f + i * 2 + 1,none⟩=_:=hc _ _ e1;have hdi:(i:Int)<(l.length:Nat):=by omega
    have hz:=hb.size;have hbs:=Bk.new wr #[.string s.1,.string s.2] 104;have x0:World.cell? _ ⟨wr.heap.size,0,none⟩=some (.string s.1):=hbs.cell 0;have x1:World.cell? _ ⟨wr.heap.size,1,none⟩=some (.string s.2):=hbs.cell 1;have lb:=hbs.lt;have hb2:=hb.alloc hz (.cells #[.string s.1,.string s.2] 104);have ho2:=zag ho ((Below.refl _ wr).alloc (Nat.le_refl _) (.cells #[.string s.1,.string s.2] 104));have ht:(l.take (i + 1)).map zd9=(l.take i).map zd9 ++ [zd9 s]:=by rw [zdU hsi,List.map_append];rfl
    clear hr hrr hs hbs ho hb;go_wp2_with fail
    generalize wr.alloc (.cells #[.string s.1,.string s.2] 104)=W at *
    refine (sub_any8 s s1 s2).mono ?_;rintro e W2 ⟨rfl,hb3⟩;have hb4:=hb2.trans (hb3.mono hb2.size);have ho4:=zag ho2 hb3;have hz4:=hb4.size;obtain ⟨i0,hi0,hz0,hz1,hz2⟩:=info_parts zgX;clear hb2 hb3 ho2 x0 x1 q0 q1;go_wp2_with (at_builtin;refine zab _ rfl (.tmp 12) (.tmp 15) 23 23 rfl w.heap.size 9 i0 (.string .empty) 1 16 Tryz.underlying23 hi0 hz0 hz1 hz2 rfl (by decide) _ i (((l.take i).map zd9).map .string) rfl (World.ownsRow.alloc ho4 _) _ 1 [.string (zd9 s)] rfl (Src.ofSlice _ Tryz.underlying23 _ 1 1 _ rfl (zfA _ _ _) (zjf [zd9 s])) (by simp only [maxLen];omega) (by omega) (size_alloc hz4) ?_;intro v1 W5 hown1 hg1 hat1;obtain ⟨A5,c5,rfl,_⟩:=Rd.own hown1)
    refine ⟨⟨i + 1,by go_num,by omega,?_,?_⟩,?_⟩
    · rw [ht,List.map_append];exact hown1
    · exact zak (v:=.slice A1 i c1) (hb4.alloc hz4 _) hg1 (World.ownsRow.alloc ho4 _) (size_alloc hz4) (Nat.le_refl _)
    · simp only [intOf];omega
  · obtain rfl:i=l.length:=by omega
    have hdi:¬(l.length:Int)<(l.length:Nat):=by omega
    rw [List.take_length] at ho;have hl:(l.map zd9).length=l.length:=List.length_map ..;have hsz:=zdE HS.out;have kj:=zlG (w:=wr) (B:=w.heap.size) (A:=A1) (c:=c1) (xs:=l.map zd9) ⟨#[44,32]⟩ (by rw [hl];exact ho) (by show (zij l).size≤_;omega) (by omega);rw [hl,show zlF ⟨#[44,32]⟩ (l.map zd9)=zij l from rfl] at kj;have hz:=hb.size;clear ho hr hs hl;go_wp2_with fail
    refine kj.mono ?_;rintro e W2 ⟨rfl,hb2⟩;go_wp2_with fail
    go_returns
    exact ⟨rfl,hb.trans (hb2.mono hz)⟩
theorem alone_any8 {A:Option Addr} {c:Nat} {l:List OpP} (hr:Rd w w.heap.size 3 A l.length c (ocells l)) :
 Calls Tryz.prog 101 #[.slice A l.length c] w fun e w'=>e = .returned (.bool (zcx l))∧Below w.heap.size w w':=by
 rcases l with _ | ⟨o,_ | ⟨o2,r⟩⟩
 · go_enter Tryz.func101,Tryz.ntmps101
   go_wp2_with fail
   go_returns
   exact ⟨rfl,Below.refl _ _⟩
 · obtain ⟨b,f,rfl,hbb,hc⟩:=hr.at_ (show 0<1 by omega);have q0:w.cell? ⟨b,f,none⟩=some (.int .i64 (o.1:Nat)):=hc 0 _ rfl;have hv:zcx [o]=(((o.1:Nat):Int) == 1):=by
    show (o.1 == 1)=_;rw [Bool.eq_iff_iff];simp only [beq_iff_eq];omega
   rw [hv];clear hr hc hv;obtain ⟨k,hk⟩:∃k:Int,((o.1:Nat):Int)=k:=⟨_,rfl⟩;rw [hk] at q0 ⊢;go_enter Tryz.func101,Tryz.ntmps101
   go_wp2_with fail
   go_returns
   exact ⟨rfl,Below.refl _ _⟩
 · have d:((((o::o2::r).length:Nat):Int) == 1)=false:=by
    rw [beq_eq_false_iff_ne];simp only [List.length_cons];omega
   obtain ⟨n,hn⟩:∃n,(o::o2::r).length=n:=⟨_,rfl⟩;rw [hn] at d ⊢;clear hr hn;go_enter Tryz.func101,Tryz.ntmps101
   go_wp2_with fail
   go_returns
   exact ⟨rfl,Below.refl _ _⟩
def relV (As:Option Addr) (cS:Nat) (Ao:Option Addr) (cO:Nat) (x:RelP):Value:=.agg #[.string x.name,.string x.view,.string x.edit,.string x.check,.slice As x.subs.length cS,.slice Ao x.ops.length cO]
theorem relation_any8 {As Ao:Option Addr} {cS cO:Nat} {x:RelP} (hs:Rd w w.heap.size 2 As x.subs.length cS (zbR x.subs)) (ho:Rd w w.heap.size 3 Ao x.ops.length cO (ocells x.ops)) (hx:Sml x) :
 Calls Tryz.prog 57 #[relV As cS Ao cO x] w fun e w'=>e = .returned (.string (relS x))∧Below w.heap.size w w':=by
 have h1:=hx.name;have h2:=hx.view;have h3:=hx.edit;have h4:=hx.check;have h5:=(zeD hx).1;have h6:=(zeD hx).2;have h7:=hx.subs.1;have h8:=hx.ops.1;have h9:=zdE hx.subs.2;have h10:=zfs hx.ops.2;unfold relV;have hb:=Bk.new w #[.string x.name,.string x.view,.string x.edit,.string x.check,.slice As x.subs.length cS,.slice Ao x.ops.length cO] 115;have hB:Below w.heap.size w (w.alloc (.cells #[.string x.name,.string x.view,.string x.edit,.string x.check,.slice As x.subs.length cS,.slice Ao x.ops.length cO] 115)):=(Below.refl _ w).alloc (Nat.le_refl _) _;have HH:Hid (zgV x=(⟨#[114,101,108,32]⟩:ByteArray) ++ x.name ++ ⟨#[32,40]⟩ ++ x.view ++ ⟨#[44,32]⟩ ++ x.edit ++ ⟨#[44,32]⟩ ++ x.check ++ ⟨#[41,58]⟩):=Lib.hid rfl;have b0:=hb.cell 0;have b1:=hb.cell 1;have b2:=hb.cell 2;have b3:=hb.cell 3;have b4:=hb.cell 4;have b5:=hb.cell 5;have lb:=hb.lt;have hs':=hs.below hB;have ho':=ho.below hB;have hN:=hx.subs.2;have hO:=hx.ops.2;have hsz:=hB.size;clear hs ho hx hb;obtain ⟨RS,hRS⟩:∃r,relS x=r:=⟨_,rfl⟩;rw [hRS];have hR1:∀b,zcx x.ops=b→(if b=true then zk5 x else zk5 x ++ (⟨#[32,105,115,32]⟩ ++ ziv x.ops)) ++ ⟨#[59]⟩=RS:=fun b hb=>by rw [←hRS,←hb];rfl
 clear hRS;generalize hw:zk5 x=WS at *
 unfold zk5 at hw;go_enter Tryz.func57,Tryz.ntmps57
 by_cases hz:x.subs.length=0
 · rw [if_pos hz] at hw;have d:¬(0:Int)<(x.subs.length:Nat):=by omega
   clear hz;go_wp2_with fail
   rw [←HH.out,hw];generalize (w.alloc (.cells #[.string x.name,.string x.view,.string x.edit,.string x.check,.slice As x.subs.length cS,.slice Ao x.ops.length cO] 115))=W at *
   refine (alone_any8 (ho'.more hsz)).mono ?_;rintro e V ⟨rfl,hV⟩;have b5':=(hV.cell (p:=⟨w.heap.size,5,none⟩) lb).trans b5;have lb':w.heap.size<V.heap.size:=Nat.lt_of_lt_of_le lb hV.size;have hoV:=((ho'.more hsz).below hV).more hV.size;have hBV:=hB.trans (hV.mono hsz);cases hal:zcx x.ops with
   | true =>
    have hR2:=hR1 _ hal;simp only [↓reduceIte] at hR2;subst hR2;clear hR1;go_wp2_with fail
    go_returns
    exact ⟨rfl,hBV⟩
   | false =>
    have hR2:=hR1 _ hal;simp only [Bool.false_eq_true,↓reduceIte] at hR2;subst hR2;clear hR1;go_wp2_with fail
    refine (rewrite_any hoV h8 hO).mono ?_;rintro e V2 ⟨rfl,hV2⟩;go_wp2_with fail
    go_returns
    exact ⟨rfl,hBV.trans (hV2.mono hBV.size)⟩
 · rw [if_neg hz] at hw;have d:(0:Int)<(x.subs.length:Nat):=by omega
   clear hz;go_wp2_with fail
   rw [←HH.out];have h5':=h5;generalize zgV x=HD at *
   generalize (w.alloc (.cells #[.string x.name,.string x.view,.string x.edit,.string x.check,.slice As x.subs.length cS,.slice Ao x.ops.length cO] 115))=W at *
   refine (subs_any8 (hs'.more hsz) h7 hN).mono ?_;rintro e U ⟨rfl,hU⟩;have b5u:=(hU.cell (p:=⟨w.heap.size,5,none⟩) lb).trans b5;have lbu:w.heap.size<U.heap.size:=Nat.lt_of_lt_of_le lb hU.size;have hoU:=((ho'.more hsz).below hU).more hU.size;have hBU:=hB.trans (hU.mono hsz);go_wp2_with fail
   refine (alone_any8 hoU).mono ?_;rintro e V ⟨rfl,hV⟩;have b5':=(hV.cell (p:=⟨w.heap.size,5,none⟩) lbu).trans b5u;have lb':w.heap.size<V.heap.size:=Nat.lt_of_lt_of_le lbu hV.size;have hoV:=(hoU.below hV).more hV.size;have hBV:=hBU.trans (hV.mono hBU.size);cases hal:zcx x.ops with
   | true =>
    have hR2:=hR1 _ hal;simp only [↓reduceIte] at hR2;subst hR2;clear hR1;go_wp2_with fail
    go_returns
    exact ⟨rfl,hBV⟩
   | false =>
    have hR2:=hR1 _ hal;simp only [Bool.false_eq_true,↓reduceIte] at hR2;subst hR2;clear hR1;go_wp2_with fail
    refine (rewrite_any hoV h8 hO).mono ?_;rintro e V2 ⟨rfl,hV2⟩;go_wp2_with fail
    go_returns
    exact ⟨rfl,hBV.trans (hV2.mono hBV.size)⟩
end
def zbm (x:RelP):ByteArray:=(⟨#[9]⟩:ByteArray) ++ relS x ++ ⟨#[10]⟩
def zk0 (t:TypP):ByteArray:=(⟨#[116,121,112,101,32]⟩:ByteArray) ++ t.name ++ ⟨#[32,123,10]⟩
def zeA (t:TypP):ByteArray:=zk0 t ++ zba (t.rels.map zbm) ++ ⟨#[125,10]⟩
def zbN (T:List TypP):ByteArray:=zba (T.map zeA)
theorem zjm {α:Type} (f:α→ByteArray) {l:List α} {i:Nat} {x:α} (h:l[i]? = some x):zba ((l.take (i + 1)).map f)=zba ((l.take i).map f) ++ f x∧(zba ((l.take i).map f)).size + (f x).size≤(zba (l.map f)).size:=by
 have e:zba ((l.take (i + 1)).map f)=zba ((l.take i).map f) ++ f x:=by
  rw [zdU h,List.map_append,zdG];show _ ++ (f x ++ ⟨#[]⟩)=_;rw [zbC]
 refine ⟨e,?_⟩;have h2:zba (l.map f)=zba ((l.take (i + 1)).map f) ++ zba ((l.drop (i + 1)).map f):=by rw [←zdG,←List.map_append,List.take_append_drop]
 rw [h2,e,size_app,size_app];omega
def Bld (b:Nat) (txt:ByteArray) (w:World):Prop:=Lib.IsBuilderF 143 5 b b (Lib.byteCells txt.data.toList) w
theorem Bld.below {b:Nat} {txt:ByteArray} {w w':World} (h:Bld b txt w) (hb:Below w.heap.size w w'):Bld b txt w':=by
 have key:∀p,Lib.BuilderAtF 143 5 b b p (Lib.byteCells txt.data.toList) w→Lib.BuilderAtF 143 5 b b p (Lib.byteCells txt.data.toList) w':=by
  rintro p ⟨h1,v,h2,h3,h4⟩;have hlt:b<w.heap.size:=(Array.getElem?_eq_some_iff.1 h2).1;refine ⟨h1,v,(hb.block b hlt).trans h2,?_,h4⟩;obtain ⟨a1,a2⟩:=h3;refine ⟨a1,?_⟩;rcases a2 with a2 | ⟨g,cap,cur,fz,a3,a4,a5,a6⟩
  · exact .inl a2
  · exact .inr ⟨g,cap,cur,fz,a3,a4,(hb.block g (Array.getElem?_eq_some_iff.1 a5).1).trans a5,a6⟩
 exact h.imp (key _) (key _)
theorem ziE {b:Nat} {txt:ByteArray} {w:World} (s:ByteArray) (h:Bld b txt w) (hz:txt.size + s.size≤100000000000000) (hb:b≤w.heap.size) :
 Calls Tryz.prog 56 #[.pointer (some ⟨b,0,none⟩),.string s] w fun e w'=>e = .returned (.tuple #[.int .i64 s.size,.nilIface])∧Bld b (txt ++ s) w'∧Below b w w'∧Lib.OthersKept 5 (some b) w w':=by
 refine (zki b b _ s w h (by rw [Lib.byteCells_length,Array.length_toList];show txt.size + s.size≤_;omega) hb).mono ?_;rintro e w' ⟨rfl,h2,h3,h4⟩;refine ⟨rfl,.inr ?_,h3,h4⟩;have:Lib.byteCells (txt ++ s).data.toList=Lib.byteCells txt.data.toList ++ Lib.strCells s:=by
  unfold Lib.byteCells Lib.strCells;rw [ByteArray.data_append,Array.toList_append,List.map_append]
 rw [this];exact h2
theorem bstring8 {b:Nat} {txt:ByteArray} {w:World} (h:Bld b txt w) (hb:b≤w.heap.size) :
 Calls Tryz.prog 58 #[.pointer (some ⟨b,0,none⟩)] w fun e w'=>e = .returned (.string txt)∧Below b w w':=by
 refine (ziD b b _ w h hb).mono ?_;rintro e w' ⟨rfl,h2,h3,h4⟩;exact ⟨rfl,h3⟩
theorem kept_bk {b k:Nat} {w w':World} {cs:Array Value} {t:TypeId} (h:Lib.OthersKept 5 (some b) w w') (hk:Bk w k cs t) (hne:k≠b) (ht:t≠5):Bk w' k cs t :=
 h k _ hk (fun e=>hne (by injection e)) fun c fz e=>ht (by injection e)
structure SmlT (t:TypP):Prop where
 name:t.name.size≤1000
 rels:t.rels.length≤1000000∧∀x ∈ t.rels,Sml x
theorem show_any8 {w:World} {B:Nat} {A:Option Addr} {c:Nat} {T:List TypP} (hv:VTyps B w (.slice A T.length c) T) (hT:T.length≤1000000) (hs:∀t ∈ T,SmlT t) (hz:(zbN T).size≤90000000000000) :
 Calls Tryz.prog 27 #[.agg #[.slice A T.length c]] w fun e w'=>e = .returned (.string (zbN T))∧Below w.heap.size w w':=by
 have HS:=Lib.hid hs;clear hs;have hbx:=(Bk.new w #[.slice A T.length c] 70).alloc (.cells #[.pointer none,.slice none 0 0] 143);have hbb:Bld (w.heap.size + 1) ⟨#[]⟩ ((w.alloc (.cells #[.slice A T.length c] 70)).alloc (.cells #[.pointer none,.slice none 0 0] 143)):=by
  have h:=Lib.fresh_isBuilder 143 5 (w.alloc (.cells #[.slice A T.length c] 70));rw [show (w.alloc (.cells #[.slice A T.length c] 70)).heap.size=w.heap.size + 1 by simp] at h;exact Lib.IsBuilderF.of h
 have hB0:Below w.heap.size w ((w.alloc (.cells #[.slice A T.length c] 70)).alloc (.cells #[.pointer none,.slice none 0 0] 143)):=((Below.refl _ w).alloc (Nat.le_refl _) _).alloc (by simp) _;have hs0:((w.alloc (.cells #[.slice A T.length c] 70)).alloc (.cells #[.pointer none,.slice none 0 0] 143)).heap.size=w.heap.size + 2:=by simp
 have hv0:=hv.below hB0;have hvz:∀t i,T[i]? = some t→∃g vr,A=some ⟨g,0,none⟩∧g<w.heap.size∧VRels B w vr t.rels∧w.cell? ⟨g,i * 2,none⟩=some (.string t.name)∧w.cell? ⟨g,i * 2 + 1,none⟩=some vr:=by
  intro t i hi;obtain ⟨g,c2,vr,e1,hr,g0,g1⟩:=hv.get hi;cases e1;exact ⟨g,vr,rfl,World.block_lt_of_cell? _ _ g0,hr,g0,g1⟩
 have HV:=Lib.hid hvz;clear hv hv0 hvz;go_enter Tryz.func27,Tryz.ntmps27
 go_wp2_with fail
 generalize (w.alloc (.cells #[.slice A T.length c] 70)).alloc (.cells #[.pointer none,.slice none 0 0] 143)=W0 at *
 go_loopw [11] (fun vi wr=>∃i:Nat,vi = .int .i64 i∧i≤T.length∧Bld (w.heap.size + 1) (zba ((T.take i).map zeA)) wr∧Below (w.heap.size + 1) W0 wr) (fun vi _=>T.length-(intOf vi).toNat)
 case atStart=>exact ⟨0,rfl,Nat.zero_le _,hbb,Below.refl _ _⟩
 case round =>
  clear hbb;obtain ⟨i,rfl,hi,hL,hb⟩:=hrel;have hz1:=hb.size;by_cases hil:i<T.length
  · obtain ⟨t,ht⟩:∃t,T[i]? = some t:=⟨T[i],List.getElem?_eq_getElem hil⟩;obtain ⟨hn,hr1,hr2⟩:=HS.out t (List.mem_of_getElem? ht);obtain ⟨hc1,hc2⟩:=zjm zeA ht;obtain ⟨g,vr,rfl,hg,hr,g0,g1⟩:=HV.out t i ht;obtain ⟨Ar,cr,rfl,_⟩:=Rd.own hr.choose_spec.1;have hbw:Below w.heap.size w wr:=hB0.trans (hb.mono (by omega));have q0:=(hbw.cell (p:=⟨g,i * 2,none⟩) hg).trans g0;have q1:=(hbw.cell (p:=⟨g,i * 2 + 1,none⟩) hg).trans g1;have hdi:(i:Int)<(T.length:Nat):=by omega
    have htz:(zk0 t).size≤1010∧(zk0 t).size≤(zeA t).size:=by
     constructor
     · unfold zk0;rw [size_app,size_app];show 5 + _ + 3≤_;omega
     · unfold zeA;rw [size_app,size_app];omega
    have hzt:(zbN T).size=(zba (T.map zeA)).size:=rfl;have HT:Hid (zk0 t=(⟨#[116,121,112,101,32]⟩:ByteArray) ++ t.name ++ ⟨#[32,123,10]⟩):=Lib.hid rfl;have hal:Below wr.heap.size wr (wr.alloc (.cells #[.string t.name,.slice Ar t.rels.length cr] 112)):=(Below.refl _ wr).alloc (Nat.le_refl _) _;have hL2:=hL.below hal;have hb2:=hb.trans (hal.mono (by omega));have hbt:=Bk.new wr #[.string t.name,.slice Ar t.rels.length cr] 112;have x0:World.cell? _ ⟨wr.heap.size,0,none⟩=some (.string t.name):=hbt.cell 0;have lx:=hbt.lt;have kw:=ziE (zk0 t) hL2 (by omega) (by omega);rw [HT.out] at kw;clear hL hal hbw g0 g1;go_wp2_with fail
    generalize wr.alloc (.cells #[.string t.name,.slice Ar t.rels.length cr] 112)=W1 at *
    refine kw.mono ?_;rintro e W2 ⟨rfl,hL3,hb3,hk3⟩;rw [←HT.out] at hL3;have hb4:=hb2.trans hb3;have hbt2:=kept_bk hk3 hbt (by omega) (by decide);have y1:W2.cell? ⟨wr.heap.size,1,none⟩=some (.slice Ar t.rels.length cr):=hbt2.cell 1;have ly:=hbt2.lt;clear kw hL2 hb2 hb3 hk3 hbt x0 lx hbt2 q0 q1;obtain ⟨P,hP⟩:∃p,zba ((T.take i).map zeA) ++ zk0 t=p:=⟨_,rfl⟩;rw [hP] at hL3;have hPz:P.size + (zba (t.rels.map zbm)).size + 2≤(zbN T).size:=by
     rw [←hP,size_app,hzt];have:(zeA t).size=(zk0 t).size + (zba (t.rels.map zbm)).size + 2:=by unfold zeA;rw [size_app,size_app];rfl
     omega
    have hty:P ++ zba (t.rels.map zbm) ++ ⟨#[125,10]⟩=zba ((T.take (i + 1)).map zeA):=by
     rw [hc1,←hP];unfold zeA;simp only [zaK]
    have HTY:=Lib.hid hty;clear hty;go_wp2_with fail
    go_loopw [23] (fun vk wy=>∃k:Nat,vk = .int .i64 k∧k≤t.rels.length∧Bld (w.heap.size + 1) (P ++ zba ((t.rels.take k).map zbm)) wy∧Below (w.heap.size + 1) W0 wy) (fun vk _=>t.rels.length-(intOf vk).toNat)
    case atStart=>exact ⟨0,rfl,Nat.zero_le _,(by rw [show zba ((t.rels.take 0).map zbm)=⟨#[]⟩ from rfl,zbC];exact hL3),hb4⟩
    case round =>
     clear hL3 hb4 y1 ly;obtain ⟨k,rfl,hk,hL,hb⟩:=hrel;have hz2:=hb.size;by_cases hkl:k<t.rels.length
     · obtain ⟨x,hx⟩:∃x,t.rels[k]? = some x:=⟨t.rels[k],List.getElem?_eq_getElem hkl⟩;have hsx:=hr2 x (List.mem_of_getElem? hx);obtain ⟨hd1,hd2⟩:=zjm zbm hx;obtain ⟨gr,c3,vs,vo,e1,hs,ho,r0,r1,r2,r3,r4,r5⟩:=hr.get hx;cases e1;obtain ⟨As,cS,rfl,rs⟩:=Rd.own hs;obtain ⟨Ao,cO,rfl,ro⟩:=Rd.own ho;have hgr:=World.block_lt_of_cell? _ _ r0;dsimp only at hgr;have hbw:Below w.heap.size w wr:=hB0.trans (hb.mono (by omega));have s0:=(hbw.cell (p:=⟨gr,k * 6,none⟩) hgr).trans r0;have s1:=(hbw.cell (p:=⟨gr,k * 6 + 1,none⟩) hgr).trans r1;have s2:=(hbw.cell (p:=⟨gr,k * 6 + 2,none⟩) hgr).trans r2;have s3:=(hbw.cell (p:=⟨gr,k * 6 + 3,none⟩) hgr).trans r3;have s4:=(hbw.cell (p:=⟨gr,k * 6 + 4,none⟩) hgr).trans r4;have s5:=(hbw.cell (p:=⟨gr,k * 6 + 5,none⟩) hgr).trans r5;have hdk:(k:Int)<(t.rels.length:Nat):=by omega
       have hal:Below wr.heap.size wr (wr.alloc (.cells #[.string x.name,.string x.view,.string x.edit,.string x.check,.slice As x.subs.length cS,.slice Ao x.ops.length cO] 115)):=(Below.refl _ wr).alloc (Nat.le_refl _) _;have hL2:=hL.below hal;have hb2:=hb.trans (hal.mono (by omega));have hbx:=Bk.new wr #[.string x.name,.string x.view,.string x.edit,.string x.check,.slice As x.subs.length cS,.slice Ao x.ops.length cO] 115;have z0:=hbx.cell 0;have z1:=hbx.cell 1;have z2:=hbx.cell 2;have z3:=hbx.cell 3;have z4:=hbx.cell 4;have z5:=hbx.cell 5;have lz:=hbx.lt;have hzw:w.heap.size≤wr.heap.size:=by omega
       have hbw2:=hbw.trans (hal.mono hzw);have hrs:=(rs.below hbw2).more hbw2.size;have hro:=(ro.below hbw2).more hbw2.size;have hlz:(zbm x).size=1 + (relS x).size + 1:=by unfold zbm;rw [size_app,size_app];rfl
       have HLN:Hid (zbm x=(⟨#[9]⟩:ByteArray) ++ relS x ++ ⟨#[10]⟩):=Lib.hid rfl;clear hs ho rs ro r0 r1 r2 r3 r4 r5 hL hal hbw hbx;go_wp2_with fail
       generalize wr.alloc (.cells #[.string x.name,.string x.view,.string x.edit,.string x.check,.slice As x.subs.length cS,.slice Ao x.ops.length cO] 115)=W3 at *
       refine (relation_any8 hrs hro hsx).mono ?_;rintro e W4 ⟨rfl,hb5⟩;have hL4:=hL2.below hb5;have hb6:=hb2.trans (hb5.mono (by omega));have hz6:=hb6.size;have kw:=ziE (zbm x) hL4 (by rw [size_app];omega) (by omega);rw [zaK,←hd1,HLN.out] at kw;have hrz:(relS x).size≤90000000000000:=by omega
       clear hL2 hb2 hL4 hb5 s0 s1 s2 s3 s4 s5 z0 z1 z2 z3 z4 z5 hrs hro;go_wp2_with fail
       refine kw.mono ?_;rintro e W5 ⟨rfl,hL5,hb7,_⟩;go_wp2_with fail
       refine ⟨⟨k + 1,by go_num,by omega,hL5,hb6.trans (hb7.mono (by omega))⟩,?_⟩;simp only [intOf];omega
     · obtain rfl:k=t.rels.length:=by omega
       have hdk:¬(t.rels.length:Int)<(t.rels.length:Nat):=by omega
       rw [List.take_length] at hL;have kw:=ziE ⟨#[125,10]⟩ hL (by rw [size_app];show _ + 2≤_;omega) (by omega);rw [HTY.out] at kw;clear hL;go_wp2_with fail
       refine kw.mono ?_;rintro e W5 ⟨rfl,hL5,hb7,_⟩;go_wp2_with fail
       refine ⟨⟨i + 1,by go_num,by omega,hL5,hb.trans (hb7.mono (by omega))⟩,?_⟩;simp only [intOf];omega
  · obtain rfl:i=T.length:=by omega
    have hdi:¬(T.length:Int)<(T.length:Nat):=by omega
    rw [List.take_length] at hL;have ks:=bstring8 hL (by omega);rw [show zba (T.map zeA)=zbN T from rfl] at ks;clear hL;go_wp2_with fail
    refine ks.mono ?_;rintro e W5 ⟨rfl,hb5⟩;go_wp2_with fail
    go_returns
    exact ⟨rfl,hB0.trans ((hb.trans (hb5.mono (Nat.le_refl _))).mono (by omega))⟩
end Go.Proofs.YtiepddmagfmllaaGreat
