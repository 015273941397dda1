import Derived.Laws.StandIn
import Derived.Maps.Own
import Derived.LoopN
import Derived.Deep.WholeRow
import Derived.Test.YtiepddmagfmllaaGreatT03
set_option maxRecDepth 100000
set_option maxHeartbeats 4000000
namespace Go.Proofs.YtiepddmagfmllaaGreat
open Go.RowKit
open Go.RowKit
open Go.RowKit
theorem ziX {u:ByteArray} {q:Nat} (h:q<plc u (ntN u)):bt u q≠10:=by
 obtain ⟨j,h1,h2⟩:=zmB (s:=u) (k:=q) (ntN u) h;have hj:j<ntN u:=by
  rcases Nat.lt_or_ge j (ntN u) with hh | hh
  · exact hh
  · have:=zaX u hh;omega
 obtain ⟨a,b⟩:=(zcq _ u).1 j hj;rcases Nat.lt_or_ge (plc u j) q with hq | hq
 · rw [zaJ a] at h2;have:=zkv a hq h2;omega
 · obtain rfl:plc u j=q:=by omega
   simpa using b
theorem nt_end {u:ByteArray} (h:plc u (ntN u)<u.size):bt u (plc u (ntN u))=10:=by
 have h2:(!decide (bt u (plc u (ntN u))=10))=false:=(zcq (fun i=>!decide (bt u i=10)) u).2 h;simpa using h2
def nlZ (u:ByteArray):Int:=if plc u (ntN u)<u.size then (plc u (ntN u):Int) else -1
theorem zgW (u:ByteArray) (i:Nat) (h:i<u.size):(u[i]! == UInt8.ofNat 10)=decide (bt u i=10):=by
 rw [getElem!_pos u i h,zdm u i h,Bool.eq_iff_iff,beq_iff_eq,decide_eq_true_iff];constructor
 · intro e;rw [e];rfl
 · intro e;exact UInt8.toNat_inj.1 e
theorem ziK (u:ByteArray):firstIdx u (10:Int).toNat.toUInt8=nlZ u:=by
 show firstIdx u (UInt8.ofNat 10)=nlZ u;unfold firstIdx nlZ;by_cases h:plc u (ntN u)<u.size
 · rw [if_pos h];have e:(List.range u.size).find? (fun i=>u[i]! == UInt8.ofNat 10)=some (plc u (ntN u)):=by
    rw [List.find?_range_eq_some];refine ⟨by rw [zgW u _ h,decide_eq_true (nt_end h)],by simpa using h,fun j hj=>?_⟩;rw [zgW u j (by omega),decide_eq_false (ziX hj)];rfl
   rw [e]
 · rw [if_neg h];have e:(List.range u.size).find? (fun i=>u[i]! == UInt8.ofNat 10)=none:=by
    rw [List.find?_range_eq_none];intro i hi;rw [zgW u i hi];have:=ziX (u:=u) (q:=i) (by omega);simp [this]
   rw [e]
theorem hasPrefix_any (u t:ByteArray) (w:World) :
 Calls Tryz.prog 143 #[.string u,.string t] w fun e w'=>e = .returned (.bool (preB u t))∧w'=w:=by
 go_enter Tryz.func143,Tryz.ntmps143
 go_wp2_with ((refine (pre_any _ _ _).mono ?_);rintro e w' ⟨rfl,rfl⟩)
 go_ret
 exact ⟨rfl,rfl⟩
theorem indexByte_any (u:ByteArray) (w:World) :
 Calls Tryz.prog 192 #[.string u,.int .u8 10] w fun e w'=>e = .returned (.int .i64 (nlZ u))∧w'=w:=by
 have hib:∀W,(callFunc 198 #[.string u,.int .u8 10]).run Tryz.prog W = .ok (.value (.int .i64 (nlZ u))) W:=fun W=>by
  rw [run_callFunc_indexByte Tryz.func198 (by kernel_rfl) (by kernel_rfl) (by kernel_rfl) (by kernel_rfl),run_indexByte_string,ziK];rfl
 go_enter Tryz.func192,Tryz.ntmps192
 go_wp2
 go_ret
 exact ⟨rfl,rfl⟩
theorem index_nl (u:ByteArray) (w:World) (_:u.size≤1000000) :
 Calls Tryz.prog 185 #[.string u,.string ⟨#[10]⟩] w fun e w'=>e = .returned (.int .i64 (nlZ u))∧w'=w:=by
 by_cases hu:u=sNl
 · have hd:([10] == u.toList)=true:=by subst hu;decide +kernel
   have hz:nlZ u=0:=by subst hu;decide +kernel
   have HZ:=Lib.hid hz;clear hu hz;go_enter Tryz.func185,Tryz.ntmps185
   go_wp2
   go_ret
   exact ⟨by rw [HZ.out];rfl,rfl⟩
 · have hd:([10] == u.toList)=false:=by
    have:=zmM (a:=sNl) (b:=u) (fun e=>hu e.symm);rwa [show sNl.toList=[10] by decide +kernel] at this
   clear hu;go_enter Tryz.func185,Tryz.ntmps185
   go_wp2_with ((refine (indexByte_any u _).mono ?_);rintro e w' ⟨rfl,rfl⟩)
   go_ret
   exact ⟨rfl,rfl⟩
theorem cutLite_nl (u:ByteArray) (w:World) (hs:u.size≤1000000) :
 Calls Tryz.prog 170 #[.string u,.string ⟨#[10]⟩] w fun e w'=>(∃y b,e = .returned (.tuple #[.string (cutA u (ntN u)),.string y,.bool b]))∧Below w.heap.size w w':=by
 have hp:=zaU u (ntN u);by_cases h:plc u (ntN u)<u.size
 · have hz:nlZ u=(plc u (ntN u):Int):=if_pos h;have kc:∀W,_:=fun W=>index_nl u W hs;rw [hz] at kc;have HX:Hid (cutA u (ntN u)=u.extract 0 (plc u (ntN u))):=Lib.hid rfl;clear hz;generalize plc u (ntN u)=p at *
   go_enter Tryz.func170,Tryz.ntmps170
   go_wp2_with ((with_reducible refine (kc _).mono ?_);rintro e w' ⟨rfl,rfl⟩)
   go_quiet (fail)
   go_wp2
   go_ret3
   rw [HX.out];exact ⟨⟨_,_,rfl⟩,⟨rfl,rfl,rfl,Nat.le_refl _,fun _ _=>rfl⟩⟩
 · have hz:nlZ u = -1:=if_neg h;have kc:∀W,_:=fun W=>index_nl u W hs;rw [hz] at kc;have HX:Hid (cutA u (ntN u)=u):=Lib.hid (by unfold cutA;rw [show plc u (ntN u)=u.size by omega];exact ziJ u);go_enter Tryz.func170,Tryz.ntmps170
   go_wp2_with ((with_reducible refine (kc _).mono ?_);rintro e w' ⟨rfl,rfl⟩)
   go_ret3
   rw [HX.out];exact ⟨⟨_,_,rfl⟩,Below.refl _ _⟩
theorem cut_nl (u:ByteArray) (w:World) (hs:u.size≤1000000) :
 Calls Tryz.prog 144 #[.string u,.string ⟨#[10]⟩] w fun e w'=>(∃y b,e = .returned (.tuple #[.string (cutA u (ntN u)),.string y,.bool b]))∧Below w.heap.size w w':=by
 go_enter Tryz.func144,Tryz.ntmps144
 go_wp2_with ((with_reducible refine (cutLite_nl u _ hs).mono ?_);rintro e w' ⟨⟨y,b,rfl⟩,hb⟩)
 go_ret3
 exact ⟨⟨_,_,rfl⟩,hb⟩
theorem firstWord_any (u:ByteArray) (w:World) (_:u.size≤1000000) (hv:zb6 u=true) :
 Calls Tryz.prog 118 #[.string u] w fun e w'=>e = .returned (.string (cutA u (wrN u)))∧Below w.heap.size w w':=by
 have HV:=Lib.hid (zbX.1 hv);clear hv;go_enter Tryz.func118,Tryz.ntmps118
 go_wp2
 go_loopw [] (fun wr=>∃k:Nat,k≤cnt u∧zlE w wr u (plc u k)∧Below w.heap.size w wr∧∀j,j<k→zci u (plc u j)=true) (fun wr=>u.size-wr.iterPos w.heap.size)
 case atStart=>exact ⟨0,Nat.zero_le _,zce w u,zbG w u,fun j hj=>by omega⟩
 case round =>
  obtain ⟨k,hk,hit,hbw,hall⟩:=hrel;have Hall:=Lib.hid hall;clear hall;have Hit:=Lib.hid hit;have Hbw:=Lib.hid hbw;have hc:=zc8 u;have hl:=zaU u k;by_cases h:plc u k<u.size
  · have hk2:=za1.2 h;have hw:=zde h;have HS:=Lib.hid (zaJ h);have hnx:∀ty,(Instr.next (.pointer (some ⟨w.heap.size,0,none⟩)) true ty).run Tryz.prog wr=_:=fun ty=>Lib.run_next_any_at wr w.heap.size u (plc u k) ty hit h;have Hit2:=Lib.hid (Lib.iterAt_heap wr w.heap.size u (plc u k) (plc u k + (Utf8.decode u (plc u k)).2) hit);have Hbw2:=Lib.hid (Lib.below_iterAt hbw (k:=w.heap.size) (Nat.le_refl _) u (plc u k + (Utf8.decode u (plc u k)).2));clear hit hbw;have hnm:zep (Utf8.encode ((Utf8.decode u (plc u k)).1:Int))=zci u (plc u k):=rn_name h (HV.out k hk2);have kn:∀W,_:=fun W=>name_any (Utf8.encode ((Utf8.decode u (plc u k)).1:Int)) W (Nat.le_trans (encode_size_le _) (by omega));rw [hnm] at kn;clear hnm;have hsz2:w.heap.size≤(wr.iterAt w.heap.size u (plc u k + (Utf8.decode u (plc u k)).2)).heap.size:=Hbw2.out.size;cases hm:zci u (plc u k) with
    | true =>
     rw [hm] at kn;go_wp2_with ((with_reducible refine (kn _).mono ?_);rintro e w2 ⟨rfl,hb2⟩)
     go_roundw
     case rel =>
      refine ⟨k + 1,by omega,?_,Hbw2.out.trans (hb2.mono hsz2),fun j hj=>?_⟩
      · rw [HS.out];show w2.heap[w.heap.size]? = _;rw [hb2.block _ (by have:=Hit2.out;exact (Array.getElem?_eq_some_iff.1 this).1)];exact Hit2.out
      · by_cases e:j=k
        · subst e;exact hm
        · exact Hall.out j (by omega)
     case measure =>
      have h2:zlE w w2 u (plc u k + wd u (plc u k)):=by
       show w2.heap[w.heap.size]? = _;rw [hb2.block _ (by have:=Hit2.out;exact (Array.getElem?_eq_some_iff.1 this).1)];exact Hit2.out
      rw [zc9 Hit.out,zc9 h2];omega
    | false =>
     rw [hm] at kn;have HE:Hid (wrN u=k):=Lib.hid (zd6 (fun j hj=>⟨za1.1 (by omega),Hall.out j hj⟩) fun _=>hm);go_wp2_with ((with_reducible refine (kn _).mono ?_);rintro e w2 ⟨rfl,hb2⟩)
     go_ret
     exact ⟨by rw [HE.out];rfl,Hbw2.out.trans (hb2.mono hsz2)⟩
  · have e:=zdX h fun j hj=>za1.1 (by omega);have HE:Hid (wrN u=k):=Lib.hid (zd6 (fun j hj=>⟨za1.1 (by omega),Hall.out j hj⟩) fun h'=>absurd h' h);have HC:Hid (cutA u k=u):=Lib.hid (zjn (by omega));have hnx:∀ty,(Instr.next (.pointer (some ⟨w.heap.size,0,none⟩)) true ty).run Tryz.prog wr=_:=fun ty=>Lib.run_next_end_at wr w.heap.size u (plc u k) ty hit h;clear e hit hbw;go_wp2
    go_ret
    exact ⟨by rw [HE.out,HC.out];rfl,Hbw.out⟩
def badZ (s:ByteArray):Int:=if plc s (zgb s)<s.size then (plc s (zgb s):Int) else -1
theorem broken_at (s:ByteArray) (w:World) (hs:s.size≤1000000) :
 Calls Tryz.prog 75 #[.string s] w fun e w'=>e = .returned (.int .i64 (badZ s))∧Below w.heap.size w w':=by
 go_enter Tryz.func75,Tryz.ntmps75
 go_wp2
 go_loopw [] (fun wr=>∃k:Nat,k≤cnt s∧zlE w wr s (plc s k)∧Below w.heap.size w wr∧∀j,j<k→brk s (plc s j)=false) (fun wr=>s.size-wr.iterPos w.heap.size)
 case atStart=>exact ⟨0,Nat.zero_le _,zce w s,zbG w s,fun j hj=>by omega⟩
 case round =>
  obtain ⟨k,hk,hit,hbw,hall⟩:=hrel;have Hall:=Lib.hid hall;clear hall;have Hit:=Lib.hid hit;have Hbw:=Lib.hid hbw;have hc:=zc8 s;have hl:=zaU s k;by_cases h:plc s k<s.size
  · have hk2:=za1.2 h;have hw:=zde h;have HS:=Lib.hid (zaJ h);have hnx:∀ty,(Instr.next (.pointer (some ⟨w.heap.size,0,none⟩)) true ty).run Tryz.prog wr=_:=fun ty=>Lib.run_next_any_at wr w.heap.size s (plc s k) ty hit h;have Hit2:=Lib.hid (Lib.iterAt_heap wr w.heap.size s (plc s k) (plc s k + (Utf8.decode s (plc s k)).2) hit);have Hbw2:=Lib.hid (Lib.below_iterAt hbw (k:=w.heap.size) (Nat.le_refl _) s (plc s k + (Utf8.decode s (plc s k)).2));clear hit hbw;have hsz:=zax s k;have hsz2:w.heap.size≤(wr.iterAt w.heap.size s (plc s k + (Utf8.decode s (plc s k)).2)).heap.size:=Hbw2.out.size;have hil:w.heap.size<(wr.iterAt w.heap.size s (plc s k + (Utf8.decode s (plc s k)).2)).heap.size:=(Array.getElem?_eq_some_iff.1 Hit2.out).1;have hve:zb6 (cutA (cutB s k) 1) = !brk s (plc s k):=by rw [ziM (by omega),brk_cutB h]
    have hcs:(cutA (cutB s k) 1).size≤1000000:=by have:=zbc (cutB s k) 1;have:=zaU (cutB s k) 1;omega
    have kc:∀W,Calls Tryz.prog 113 #[.string (s.extract (plc s k) s.size),.int .i64 1] W fun e w'=>e = .returned (.tuple #[.string (cutA (cutB s k) 1),.string (cutB (cutB s k) 1)])∧Below W.heap.size W w':=fun W=>cut_any (cutB s k) 1 W (by omega) (by omega) (by omega);have kv:∀W,_:=fun W=>valid_any (cutA (cutB s k) 1) W hcs;rw [hve] at kv;clear hve hcs;generalize cutA (cutB s k) 1=x at *
    generalize cutB (cutB s k) 1=y at *
    cases hm:brk s (plc s k) with
    | false =>
     rw [hm] at kv;go_wp2_with (first
      | ((with_reducible refine (kc _).mono ?_);rintro e w2 ⟨rfl,hb2⟩)
      | ((with_reducible refine (kv _).mono ?_);rintro e w3 ⟨rfl,hb3⟩))
     have hbb:Below (wr.iterAt w.heap.size s (plc s k + (Utf8.decode s (plc s k)).2)).heap.size (wr.iterAt w.heap.size s (plc s k + (Utf8.decode s (plc s k)).2)) w3:=hb2.trans (hb3.mono hb2.size);go_roundw
     case rel =>
      refine ⟨k + 1,by omega,?_,Hbw2.out.trans (hbb.mono hsz2),fun j hj=>?_⟩
      · rw [HS.out];show w3.heap[w.heap.size]? = _;rw [hbb.block _ hil];exact Hit2.out
      · by_cases e:j=k
        · subst e;exact hm
        · exact Hall.out j (by omega)
     case measure =>
      have h2:zlE w w3 s (plc s k + wd s (plc s k)):=by
       show w3.heap[w.heap.size]? = _;rw [hbb.block _ hil];exact Hit2.out
      rw [zc9 Hit.out,zc9 h2];omega
    | true =>
     rw [hm] at kv;have HE:Hid (zgb s=k):=Lib.hid (zd6 (fun j hj=>⟨za1.1 (by omega),by have:=Hall.out j hj;simp [this]⟩) fun _=>by simp [hm]);go_wp2_with (first
      | ((with_reducible refine (kc _).mono ?_);rintro e w2 ⟨rfl,hb2⟩)
      | ((with_reducible refine (kv _).mono ?_);rintro e w3 ⟨rfl,hb3⟩))
     go_ret
     refine ⟨?_,Hbw2.out.trans ((hb2.trans (hb3.mono hb2.size)).mono hsz2)⟩;unfold badZ;rw [HE.out,if_pos h];rfl
  · have e:=zdX h fun j hj=>za1.1 (by omega);have HE:Hid (zgb s=k):=Lib.hid (zd6 (fun j hj=>⟨za1.1 (by omega),by have:=Hall.out j hj;simp [this]⟩) fun h'=>absurd h' h);have hnx:∀ty,(Instr.next (.pointer (some ⟨w.heap.size,0,none⟩)) true ty).run Tryz.prog wr=_:=fun ty=>Lib.run_next_end_at wr w.heap.size s (plc s k) ty hit h;clear e hit hbw;go_wp2
    go_ret
    refine ⟨?_,Hbw.out⟩;unfold badZ;rw [HE.out,if_neg h];rfl
def zcF (u:ByteArray) (off:Nat):List Tk:=if kd u=0 then [] else [(kd u,cutA u (ln u),off)]
def Stepped (B g:Nat) (s:ByteArray) (k:Nat) (l:List Tk) (w:World) (e:Ending) (w':World):Prop :=
 Kp g B w w' ∧
 ((kd (cutB s k)<3∧e = .returned (.int .i64 (plc s (k + ln (cutB s k)):Nat))∧Sc B w' g s (l ++ zcF (cutB s k) (plc s k)) 0) ∨
  (3≤kd (cutB s k)∧e = .returned (.int .i64 (plc s k:Nat))∧Sc B w' g s l (kd (cutB s k))))
section
variable {B:Nat} {w:World} {g:Nat} {s:ByteArray} {l:List Tk} {e:Nat} {k:Nat}
theorem fail_any (h:Sc B w g s l e) (c p:Nat) :
 Calls Tryz.prog 119 #[.pointer (some ⟨g,0,none⟩),.int .i64 c,.int .i64 p] w fun e' w'=>e' = .returned (.int .i64 p)∧Sc B w' g s l c∧Kp g B w w':=by
 obtain ⟨v,h⟩:=h;have c2:=h.c2;have fz:=h.fz;have H:=Lib.hid h;clear h;go_enter Tryz.func119,Tryz.ntmps119
 go_wp2
 go_ret
 have hc:=H.out.cells;have hlt:=H.out.lt;refine ⟨rfl,⟨v,?_,zaI H.out.row fun j hj=>Below.heap_setCell _ _ _ _ (by have:=(H.out.row.lt j hj).1;show j≠g;omega),hlt⟩,rfl,rfl,rfl,by simp [World.setCell],fun j hj hn=>Below.heap_setCell _ _ _ _ (by show j≠g;exact hn)⟩;simp [World.setCell,Array.getElem?_modify,hc]
theorem zbT {s:ByteArray} {k j:Nat} (h:plc s k + j<s.size):bt (cutB s k) j=bt s (plc s k + j):=by
 have:=zax s k;exact zcl s k j (by omega)
theorem zhg {s:ByteArray} {k:Nat} (h:plc s k<s.size) (hb:bt s (plc s k)<128):plc s (k + 1)=plc s k + 1:=by
 rw [zaJ h,(ziH h hb).2]
theorem zld (h:Sc B w g s l 0) (hs:s.size≤2048) (hk:plc s k<s.size) (hb:zaY (bt s (plc s k))=true) (A:Option Addr) :
 Calls Tryz.prog 117 #[.pointer A,.int .i64 (plc s k:Nat)] w (Stepped B g s k l w):=by
 have h0:bt (cutB s k) 0=bt s (plc s k):=zbT (j:=0) (by omega);have hkd:kd (cutB s k)=0:=by unfold kd;rw [h0,if_pos hb]
 have hln:ln (cutB s k)=1:=by unfold ln;rw [h0,if_pos hb]
 have h10:=zaV.1 hb;have hpl:=zhg hk (by omega);have HX:Hid (Stepped B g s k l w (.returned (.int .i64 ((plc s k:Nat) + 1:Int))) w):=Lib.hid ⟨Kp.refl _ _ _,.inl ⟨by omega,by rw [hln,hpl];rfl,by unfold zcF;rw [if_pos hkd,List.append_nil];exact h⟩⟩;clear h h0 hkd hln h10 hb hpl;go_enter Tryz.func117,Tryz.ntmps117
 go_wp2
 go_ret
 exact HX.out
theorem zcX (s:ByteArray) (k j:Nat):cutA (cutB s k) j=s.extract (plc s k) (plc s (k + j)):=by
 have h1:=zbK s k j;have h2:=zax s k;have h3:=zbc (cutB s k) j;have h4:=zaU s (k + j);refine zc7 (by rw [za0];omega) fun i hi=>?_;rw [zeI _ _ i hi,zcl _ _ i (by have:=zaU (cutB s k) j;omega),zbU _ _ _ _ (by omega)]
theorem zk3 {s:ByteArray} (hv:zb6 s=true) (k:Nat):zb6 (cutB s k)=true:=by
 rw [zbX] at hv ⊢;intro j hj;rw [zgQ] at hj;have h1:=zbK s k j;have h2:=zax s k;have h3:=za1.1 (show k + j<cnt s by omega);have h4:=zcL h2 (zcl s k) (i:=plc (cutB s k) j) (by omega);have h5:=hv (k + j) (by omega);unfold brk rn wd at h5 ⊢;rw [h4,h1];exact h5
theorem sign_any (h:Sc B w g s l 0) (hB:B≤w.heap.size) (hs:s.size≤2048) (hl:l.length<1000000) (hk:plc s k<s.size) (hb:za9 (bt s (plc s k))=true) :
 Calls Tryz.prog 116 #[.pointer (some ⟨g,0,none⟩),.int .i64 (plc s k:Nat)] w (Stepped B g s k l w):=by
 have h0:bt (cutB s k) 0=bt s (plc s k):=zbT (j:=0) (by omega);have h10:=zb5.1 hb;have hnb:¬zaY (bt s (plc s k))=true:=by rw [zaV];omega
 have hkd:kd (cutB s k)=2:=by unfold kd;rw [h0,if_neg hnb,if_pos hb]
 have hln:ln (cutB s k)=1:=by unfold ln;rw [h0,if_neg hnb,if_pos hb]
 have hpl:=zhg hk (by omega);have hx:s.extract (plc s k) (plc s k + 1)=cutA (cutB s k) 1:=by rw [zcX,hpl]
 have hxs:(s.extract (plc s k) (plc s k + 1)).size=1:=by rw [za0];omega
 have ka:∀W,Sc B W g s l 0→B≤W.heap.size→_:=fun W hW hBW=>add_any (k:=2) (t:=s.extract (plc s k) (plc s k + 1)) (p:=plc s k) hW hBW hl (by omega) (by omega);have HX:∀W',Sc B W' g s (l ++ [(2,s.extract (plc s k) (plc s k + 1),plc s k)]) 0→Kp g B w W'→Hid (Stepped B g s k l w (.returned (.int .i64 ((plc s k + (s.extract (plc s k) (plc s k + 1)).size:Nat):Int))) W'):=fun W' a b=>Lib.hid ⟨b,.inl ⟨by omega,by rw [hln,hpl,hxs],by unfold zcF;rw [if_neg (by omega),hkd,hln,←hx];exact a⟩⟩;clear hb h0 hkd hln h10 hpl hnb hx;have hb1:plc s k + 1≤s.size:=hk;obtain ⟨v,h⟩:=h;have c0:=h.c0;have H:=Lib.hid h;clear h;generalize plc s k=p at *
 go_enter Tryz.func116,Tryz.ntmps116
 go_wp2_with ((refine (ka _ ⟨v,H.out⟩ hB).mono ?_);rintro e w1 ⟨rfl,hsc,hkp⟩)
 go_ret
 have hx:=(HX _ hsc hkp).out;rw [hxs] at hx;exact hx
theorem word_any (h:Sc B w g s l 0) (hB:B≤w.heap.size) (hs:s.size≤2048) (hv:zb6 s=true) (hl:l.length<1000000) (hk:plc s k<s.size) (hnb:zaY (bt s (plc s k))=false) (hns:za9 (bt s (plc s k))=false) (h47:bt s (plc s k)≠47) :
 Calls Tryz.prog 77 #[.pointer (some ⟨g,0,none⟩),.int .i64 (plc s k:Nat)] w (Stepped B g s k l w):=by
 have h0:bt (cutB s k) 0=bt s (plc s k):=zbT (j:=0) (by omega);have hz:=zax s k;have hkd:kd (cutB s k)=if zci (cutB s k) 0=true then (if wrN (cutB s k)≤24 then 1 else 31) else 30:=by
  conv=>lhs;unfold kd
  rw [h0,hnb,hns,if_neg (by decide),if_neg (by decide),if_neg h47]
 have hln:ln (cutB s k)=wrN (cutB s k):=by
  conv=>lhs;unfold ln
  rw [h0,hnb,hns,if_neg (by decide),if_neg (by decide),if_neg h47]
 have hpl:=zbK s k (wrN (cutB s k));have hcs:=zbc (cutB s k) (wrN (cutB s k));have hcc:cnt (cutA (cutB s k) (wrN (cutB s k)))=wrN (cutB s k):=by rw [zgP];have:=zf6 (zci (cutB s k)) (cutB s k);unfold wrN;omega
 have hwl:wrN (cutB s k)≤2048:=by have:=zf6 (zci (cutB s k)) (cutB s k);have:=zc8 (cutB s k);unfold wrN;omega
 have hbig:(cutA (cutB s k) (wrN (cutB s k))).size≤1000000:=by have:=zaU (cutB s k) (wrN (cutB s k));omega
 have kf:∀W,Calls Tryz.prog 118 #[.string (s.extract (plc s k) s.size)] W fun e w'=>e = .returned (.string (cutA (cutB s k) (wrN (cutB s k))))∧Below W.heap.size W w':=fun W=>firstWord_any (cutB s k) W (by omega) (zk3 hv k);have kc:∀W,_:=fun W=>count_any (cutA (cutB s k) (wrN (cutB s k))) W hbig;rw [hcc] at kc;have hb1:plc s k≤s.size:=Nat.le_of_lt hk;obtain ⟨v,h⟩:=h;have c0:=h.c0;have hgs:=h.size;have H:=Lib.hid h;clear h h0 hnb hns h47 hcc;by_cases hm:zci (cutB s k) 0=true
 · rw [if_pos hm] at hkd;have hp:0<wrN (cutB s k):=zft (by omega) hm;have hpo:0<(cutA (cutB s k) (wrN (cutB s k))).size:=by
    have h1:=zaX (cutB s k) (show 1≤wrN (cutB s k) from hp);have h2:plc (cutB s k) 0<plc (cutB s k) 1:=zaQ (s:=cutB s k) (k:=0) (by show 0<_;omega);omega
   have hne:=zg5 hpo;by_cases h24:wrN (cutB s k)≤24
   · rw [if_pos h24] at hkd;have hd:¬((24:Int)<(wrN (cutB s k):Nat)):=by omega
     have ka:∀W,Sc B W g s l 0→B≤W.heap.size→_:=fun W hW hBW=>add_any (k:=1) (t:=cutA (cutB s k) (wrN (cutB s k))) (p:=plc s k) hW hBW hl (by omega) hbig;have HX:∀W',Sc B W' g s (l ++ [(1,cutA (cutB s k) (wrN (cutB s k)),plc s k)]) 0→Kp g B w W'→Hid (Stepped B g s k l w (.returned (.int .i64 ((plc s k + (cutA (cutB s k) (wrN (cutB s k))).size:Nat):Int))) W'):=fun W' a b=>Lib.hid ⟨b,.inl ⟨by omega,by rw [hln,hcs,hpl],by unfold zcF;rw [if_neg (by omega),hkd,hln];exact a⟩⟩;clear hkd hln hpl hcs h24 hp hpo hm hz;generalize cutA (cutB s k) (wrN (cutB s k))=x at *
     generalize wrN (cutB s k)=n at *
     generalize plc s k=p at *
     go_enter Tryz.func77,Tryz.ntmps77
     go_wp2_with (first
      | ((with_reducible refine (kf _).mono ?_);rintro e w1 ⟨rfl,hb1⟩)
      | ((with_reducible refine (kc _).mono ?_);rintro e w2 ⟨rfl,hb2⟩;have hb3:=hb1.trans (hb2.mono hb1.size);have hsz:=hb3.size;have H3:Hid (ScAt B w2 g s l 0 v):=Lib.hid (H.out.below hb3))
      | ((refine (ka _ ⟨v,H3.out⟩ (Nat.le_trans hB hsz)).mono ?_);rintro e w4 ⟨rfl,hsc,hkp⟩))
     go_ret
     exact (HX _ hsc ((Kp.of_below (hb3.mono hB) g).trans hkp)).out
   · rw [if_neg h24] at hkd;have hd:(24:Int)<(wrN (cutB s k):Nat):=by omega
     have HX:∀W',Sc B W' g s l 31→Kp g B w W'→Hid (Stepped B g s k l w (.returned (.int .i64 (plc s k:Nat))) W'):=fun W' a b=>Lib.hid ⟨b,.inr ⟨by omega,rfl,by rw [hkd];exact a⟩⟩;clear hkd hln hpl hcs h24 hp hpo hm hz;generalize cutA (cutB s k) (wrN (cutB s k))=x at *
     generalize wrN (cutB s k)=n at *
     generalize plc s k=p at *
     go_enter Tryz.func77,Tryz.ntmps77
     go_wp2_with (first
      | ((with_reducible refine (kf _).mono ?_);rintro e w1 ⟨rfl,hb1⟩)
      | ((with_reducible refine (kc _).mono ?_);rintro e w2 ⟨rfl,hb2⟩;have hb3:=hb1.trans (hb2.mono hb1.size);have hsz:=hb3.size;have H3:Hid (ScAt B w2 g s l 0 v):=Lib.hid (H.out.below hb3))
      | ((refine (fail_any ⟨v,H3.out⟩ 31 p).mono ?_);rintro e w4 ⟨rfl,hsc,hkp⟩))
     go_ret
     exact (HX _ hsc ((Kp.of_below (hb3.mono hB) g).trans hkp)).out
 · rw [if_neg hm] at hkd;rw [Bool.not_eq_true] at hm;have hp:wrN (cutB s k)=0:=zmA hm;have hx:cutA (cutB s k) (wrN (cutB s k))=⟨#[]⟩:=by rw [hp,zln]
   rw [hx] at kf;have HX:∀W',Sc B W' g s l 30→Kp g B w W'→Hid (Stepped B g s k l w (.returned (.int .i64 (plc s k:Nat))) W'):=fun W' a b=>Lib.hid ⟨b,.inr ⟨by omega,rfl,by rw [hkd];exact a⟩⟩;clear hkd hln hpl hcs hp hm hz hx kc hbig hwl;generalize plc s k=p at *
   go_enter Tryz.func77,Tryz.ntmps77
   go_wp2_with (first
    | ((with_reducible refine (kf _).mono ?_);rintro e w1 ⟨rfl,hb1⟩;have hsz:=hb1.size;have H3:Hid (ScAt B w1 g s l 0 v):=Lib.hid (H.out.below hb1))
    | ((refine (fail_any ⟨v,H3.out⟩ 30 p).mono ?_);rintro e w4 ⟨rfl,hsc,hkp⟩))
   go_ret
   exact (HX _ hsc ((Kp.of_below (hb1.mono hB) g).trans hkp)).out
theorem zml {u:ByteArray}:preB u ⟨#[47,47]⟩=decide (1<u.size∧bt u 0=47∧bt u 1=47):=by
 unfold preB;rw [Bool.eq_iff_iff,decide_eq_true_iff,decide_eq_true_iff,show (⟨#[47,47]⟩:ByteArray).size=2 from rfl];have hg:∀j,j<min 2 u.size→bt (u.extract 0 2) j=bt u j:=fun j hj=>by rw [zbU _ _ _ _ (by omega),Nat.zero_add]
 constructor
 · rintro ⟨h1,h2⟩;refine ⟨by omega,?_,?_⟩
   · rw [←hg 0 (by omega),h2];rfl
   · rw [←hg 1 (by omega),h2];rfl
 · rintro ⟨h1,h2,h3⟩;refine ⟨by omega,zc7 (by rw [za0,show (⟨#[47,47]⟩:ByteArray).size=2 from rfl];omega) fun j hj=>?_⟩;rw [za0] at hj;rw [hg j (by omega)];obtain rfl | rfl:j=0∨j=1:=by omega
   · rw [h2];rfl
   · rw [h3];rfl
theorem note_any (h:Sc B w g s l 0) (hB:B≤w.heap.size) (hs:s.size≤2048) (hk:plc s k<s.size) (h47:bt s (plc s k)=47) :
 Calls Tryz.prog 115 #[.pointer (some ⟨g,0,none⟩),.int .i64 (plc s k:Nat)] w (Stepped B g s k l w):=by
 have h0:bt (cutB s k) 0=bt s (plc s k):=zbT (j:=0) (by omega);have hz:=zax s k;have hkd:kd (cutB s k)=if 1<(cutB s k).size∧bt (cutB s k) 1=47 then 0 else 30:=by
  conv=>lhs;unfold kd
  rw [h0,h47,show zaY 47=false from rfl,show za9 47=false from rfl,if_neg (by decide),if_neg (by decide),if_pos rfl]
 have hln:ln (cutB s k)=ntN (cutB s k):=by
  conv=>lhs;unfold ln
  rw [h0,h47,show zaY 47=false from rfl,show za9 47=false from rfl,if_neg (by decide),if_neg (by decide),if_pos rfl]
 have hpl:=zbK s k (ntN (cutB s k));have hcs:=zbc (cutB s k) (ntN (cutB s k));have hbig:(cutA (cutB s k) (ntN (cutB s k))).size≤1000000:=by have:=zaU (cutB s k) (ntN (cutB s k));omega
 have kp:∀W,Calls Tryz.prog 143 #[.string (s.extract (plc s k) s.size),.string ⟨#[47,47]⟩] W fun e w'=>e = .returned (.bool (preB (cutB s k) ⟨#[47,47]⟩))∧w'=W:=fun W=>hasPrefix_any (cutB s k) _ W;have kc:∀W,Calls Tryz.prog 144 #[.string (s.extract (plc s k) s.size),.string ⟨#[10]⟩] W fun e w'=>(∃y b,e = .returned (.tuple #[.string (cutA (cutB s k) (ntN (cutB s k))),.string y,.bool b]))∧Below W.heap.size W w':=fun W=>cut_nl (cutB s k) W (by omega);have hb1:plc s k≤s.size:=Nat.le_of_lt hk;rw [zml,h0] at kp;obtain ⟨v,h⟩:=h;have c0:=h.c0;have hgs:=h.size;have H:=Lib.hid h;clear h;by_cases hm:1<(cutB s k).size∧bt (cutB s k) 1=47
 · rw [if_pos hm] at hkd;rw [decide_eq_true ⟨hm.1,h47,hm.2⟩] at kp;have HX:∀W',Below w.heap.size w W'→Hid (Stepped B g s k l w (.returned (.int .i64 ((plc s k + (cutA (cutB s k) (ntN (cutB s k))).size:Nat):Int))) W'):=fun W' b=>Lib.hid ⟨Kp.of_below (b.mono hB) g,.inl ⟨by omega,by rw [hln,hcs,hpl],by unfold zcF;rw [if_pos hkd,List.append_nil];exact ⟨v,H.out.below b⟩⟩⟩;clear hkd hln hpl hcs hm hz h0 h47;generalize cutA (cutB s k) (ntN (cutB s k))=x at *
   generalize plc s k=p at *
   go_enter Tryz.func115,Tryz.ntmps115
   go_wp2_with (first
    | ((with_reducible refine (kp _).mono ?_);rintro e w' ⟨rfl,rfl⟩)
    | ((with_reducible refine (kc _).mono ?_);rintro e w1 ⟨⟨y,b,rfl⟩,hb1⟩))
   go_ret
   exact (HX _ hb1).out
 · rw [if_neg hm] at hkd;rw [decide_eq_false (fun h=>hm ⟨h.1,h.2.2⟩)] at kp;have HX:∀W',Sc B W' g s l 30→Kp g B w W'→Hid (Stepped B g s k l w (.returned (.int .i64 (plc s k:Nat))) W'):=fun W' a b=>Lib.hid ⟨b,.inr ⟨by omega,rfl,by rw [hkd];exact a⟩⟩;clear hkd hln hpl hcs hm hz h0 h47 hbig kc;generalize plc s k=p at *
   go_enter Tryz.func115,Tryz.ntmps115
   go_wp2_with (first
    | ((with_reducible refine (kp _).mono ?_);rintro e w' ⟨rfl,rfl⟩)
    | ((refine (fail_any ⟨v,H.out⟩ 30 p).mono ?_);rintro e w4 ⟨rfl,hsc,hkp⟩))
   go_ret
   exact (HX _ hsc hkp).out
end
end Go.Proofs.YtiepddmagfmllaaGreat
namespace Go.Proofs.YtiepddmagfmllaaGreat
open Go.RowKit Go.ChangeMaps
open Go.RowKit Go.ChangeMaps
def meth (f g:Nat):Value:=.func (.func f) #[.pointer (some ⟨g,0,none⟩)] #[]
def ent (g:Nat) (i:Nat) (p:Nat × Nat):MapEntry:=⟨.int .i32 p.1,meth p.2 g,i⟩
def ents (g:Nat) (l:List (Nat × Nat)):Array MapEntry:=(l.mapIdx (ent g)).toArray
theorem zlr (g:Nat) (l:List (Nat × Nat)) (p:Nat × Nat):ents g (l ++ [p])=(ents g l).push (ent g l.length p):=by
 unfold ents;rw [List.mapIdx_append];simp
def sgs:List Nat:=[123,125,40,41,58,44,59,124,38,45,46,35]
def bls:List Nat:=[32,9,10]
def sgE (j:Nat):List (Nat × Nat):=(47,115)::(sgs.take j).map fun c=>(c,116)
def blE (j:Nat):List (Nat × Nat):=sgE 12 ++ (bls.take j).map fun c=>(c,117)
theorem ze4 (g:Nat) (z:Int):∀(l:List (Nat × Nat)) (i k:Nat),Instr.findNow (.int .i32) (.int .i32 z) (l.mapIdx fun j p=>ent g (j + k) p) i=some ((l.zipIdx i).find? (fun q=>decide ((q.1.1:Int)=z)) |>.map fun q=>(q.2,meth q.1.2 g))
 | [],_,_=>rfl
 | p::r,i,k=>by
  rw [List.mapIdx_cons];show Instr.findNow (.int .i32) (.int .i32 z) (ent g (0 + k) p::_) i=_;have ih:=ze4 g z r (i + 1) (k + 1);unfold Instr.findNow;rw [List.zipIdx_cons,List.find?_cons];by_cases h:(p.1:Int)=z
  · have:Instr.sameNow (.int .i32) (.int .i32 z) (ent g (0 + k) p).key=some true:=by simp [Instr.sameNow,ent,h]
    rw [this];simp [h,ent]
  · have h':¬z=(p.1:Int):=fun e=>h e.symm;have:Instr.sameNow (.int .i32) (.int .i32 z) (ent g (0 + k) p).key=some false:=by simp [Instr.sameNow,ent,h']
    rw [this];simp only [h,decide_false];rw [←ih];congr 2
    funext j q
    rw [show j + 1 + k=j + (k + 1) by omega]
theorem zfG (g:Nat) (z:Int) (l:List (Nat × Nat)):Instr.findNow (.int .i32) (.int .i32 z) (ents g l).toList 0=some ((l.zipIdx 0).find? (fun q=>decide ((q.1.1:Int)=z)) |>.map fun q=>(q.2,meth q.1.2 g)):=by
 have:=ze4 g z l 0 0;simpa [ents] using this
theorem zfB (b:Bool) (z:Int) (W:World):(Instr.checkKey b 10000 21 (.int .i32 z)).run Tryz.prog W = .ok () W:=by
 unfold Instr.checkKey;simp [run_underlying Tryz.underlying21]
theorem run_upd (W:World) {b g clk:Nat} {l:List (Nat × Nat)} (hb:W.heap[b]? = some (.map (ents g l) clk)) (hc:clk=l.length) (z f:Nat) (hf:(l.zipIdx 0).find? (fun q=>decide ((q.1.1:Int)=(z:Int)))=none) :
 (Instr.mapUpdate 176 (.map (some b)) (.int .i32 z) (meth f g)).run Tryz.prog W = .ok () (setBlock W b (.map (ents g (l ++ [(z,f)])) (l ++ [(z,f)]).length)):=by
 subst hc;rw [zlr];have h1:=zfG g z l;rw [hf] at h1;simp [Instr.mapUpdate,Instr.findKey,run_underlying Tryz.underlying176,run_underlying Tryz.underlying21,MapKept.run_getObj_map hb,zfB,h1,MapKept.run_setObj_map _ hb,Result.andThen,setBlock,ent]
structure Kb (b:Nat) (w w':World):Prop where
 os:w'.os=w.os
 tape:w'.tape=w.tape
 output:w'.output=w.output
 size:w'.heap.size=w.heap.size
 block:∀k,k≠b→w'.heap[k]? = w.heap[k]?
theorem Kb.below {b B:Nat} {w0 w w':World} (h:Kb b w w') (hb:Below B w0 w) (hB:B≤b):Below B w0 w' :=
 hb.trans ⟨h.os,h.tape,h.output,by rw [h.size];exact Nat.le_refl _,fun k hk=>h.block k (by omega)⟩
theorem kb_set (W:World) (b:Nat) (o:Obj):Kb b W (setBlock W b o) :=
 ⟨rfl,rfl,rfl,by simp [setBlock],fun k hk=>by simp only [setBlock];rw [Array.getElem?_setIfInBounds,if_neg (by omega)]⟩
theorem zmP (W:World) {b g clk:Nat} {l l':List (Nat × Nat)} (hb:W.heap[b]? = some (.map (ents g l) clk)) (hc:clk=l.length) (z:Int) (c f:Nat) (hz:z=(c:Int)) (hl:l'=l ++ [(c,f)]) (hf:(l.zipIdx 0).find? (fun q=>decide ((q.1.1:Int)=(c:Int)))=none) :
 ∃W',(Instr.mapUpdate 176 (.map (some b)) (.int .i32 z) (.func (.func f) #[.pointer (some ⟨g,0,none⟩)] #[])).run Tryz.prog W = .ok () W'∧W'.heap[b]? = some (.map (ents g l') l'.length)∧Kb b W W':=by
 subst hl hz;refine ⟨_,run_upd W hb hc c f hf,?_,kb_set _ _ _⟩;have:b<W.heap.size:=(Array.getElem?_eq_some_iff.1 hb).1;simp [setBlock,this]
def sgS:ByteArray:=⟨#[123,125,40,41,58,44,59,124,38,45,46,35]⟩
def blS:ByteArray:=⟨#[32,9,10]⟩
theorem sg_dec:∀k,k<12→Utf8.decode sgS k=(sgs.getD k 0,1):=by decide +kernel
theorem sg_new:∀k,k<12→sgE (k + 1)=sgE k ++ [(sgs.getD k 0,116)]∧(((sgE k).zipIdx 0).find? (fun q=>decide ((q.1.1:Int)=(sgs.getD k 0:Nat)))).isNone=true:=by decide +kernel
theorem bl_dec:∀k,k<3→Utf8.decode blS k=(bls.getD k 0,1):=by decide +kernel
theorem bl_new:∀k,k<3→blE (k + 1)=blE k ++ [(bls.getD k 0,117)]∧(((blE k).zipIdx 0).find? (fun q=>decide ((q.1.1:Int)=(bls.getD k 0:Nat)))).isNone=true:=by decide +kernel
theorem acts_any (w:World) (g:Nat) :
 Calls Tryz.prog 76 #[.pointer (some ⟨g,0,none⟩)] w fun e w'=>e = .returned (.map (some w.heap.size))∧w'.heap[w.heap.size]? = some (.map (ents g (blE 3)) (blE 3).length)∧Below w.heap.size w w':=by
 have hmm:=@run_makeMap Tryz.prog;have h0:(w.alloc (.map #[] 0)).heap[w.heap.size]? = some (.map (ents g []) 0):=heap_alloc_new w _;obtain ⟨W1,hu,hW1,hk1⟩:=zmP (w.alloc (.map #[] 0)) h0 rfl 47 47 115 rfl (l':=sgE 0) rfl rfl;have hs1:W1.heap.size=w.heap.size + 1:=by rw [hk1.size];simp
 have Hb1:Hid (Below w.heap.size w W1):=Lib.hid (hk1.below ((Below.refl _ w).alloc (Nat.le_refl _) _) (Nat.le_refl _));have HW1:=Lib.hid hW1;clear hW1 hk1 h0;go_enter Tryz.func76,Tryz.ntmps76
 go_wp2
 have hs2:(W1.iter sgS 0).heap.size=w.heap.size + 2:=by simp [World.iter];omega
 go_loopw [] (fun wr=>∃k:Nat,k≤12∧wr.heap[w.heap.size + 1]? = some (.stringIter sgS k)∧wr.heap[w.heap.size]? = some (.map (ents g (sgE k)) (sgE k).length)∧Below w.heap.size w wr∧wr.heap.size=w.heap.size + 2) (fun wr=>12-wr.iterPos (w.heap.size + 1))
 case atStart =>
  refine ⟨0,by omega,?_,?_,Hb1.out.trans ((zbG W1 sgS).mono (by omega)),hs2⟩
  · rw [←hs1];exact zce W1 sgS
  · exact ((zbG W1 sgS).block w.heap.size (by omega)).trans HW1.out
 case round =>
  obtain ⟨k,hk,hit,hmp,hbw,hsz⟩:=hrel;have Hit:=Lib.hid hit;have Hmp:=Lib.hid hmp;have Hbw:=Lib.hid hbw;have Hsz:=Lib.hid hsz;by_cases h:k<12
  · have hnx:=fun ty=>Lib.run_next_any_at (P:=Tryz.prog) wr (w.heap.size + 1) sgS k ty hit h;have hi2:=Lib.iterAt_heap wr (w.heap.size + 1) sgS k (k + 1) hit;have hb2:Below (w.heap.size + 1) wr (wr.iterAt (w.heap.size + 1) sgS (k + 1)):=Lib.below_iterAt (Below.refl _ _) (Nat.le_refl _) sgS (k + 1);rw [sg_dec k h] at hnx;dsimp only at hnx;have hmp2:(wr.iterAt (w.heap.size + 1) sgS (k + 1)).heap[w.heap.size]? = some (.map (ents g (sgE k)) (sgE k).length):=by rw [hb2.block _ (by omega)];exact hmp
    obtain ⟨W2,hu2,hW2,hk2⟩:=zmP _ hmp2 rfl ((sgs.getD k 0:Nat):Int) (sgs.getD k 0) 116 rfl (sg_new k h).1 (by simpa using (sg_new k h).2);have HS:Hid (W2.heap.size=w.heap.size + 2):=Lib.hid (by rw [hk2.size];have:=hb2.size;simp [World.iterAt];omega);have HI:Hid (W2.heap[w.heap.size + 1]? = some (.stringIter sgS (k + 1))):=Lib.hid (by rw [hk2.block _ (by omega)];exact hi2);have HM:=Lib.hid hW2;have HB:Hid (Below w.heap.size w W2):=Lib.hid (hk2.below (hbw.trans (hb2.mono (by omega))) (Nat.le_refl _));clear hit hmp hbw hsz hi2 hb2 hmp2 hW2 hk2;generalize sgs.getD k 0=c at *
    go_wp2
    go_roundw
    case rel=>exact ⟨k + 1,by omega,HI.out,HM.out,HB.out,HS.out⟩
    case measure =>
     have e1:wr.iterPos (w.heap.size + 1)=k:=by simp only [World.iterPos,Hit.out]
     have e2:W2.iterPos (w.heap.size + 1)=k + 1:=by simp only [World.iterPos,HI.out]
     rw [e1,e2];omega
  · obtain rfl:k=12:=by omega
    have hnx:=fun ty=>Lib.run_next_end_at (P:=Tryz.prog) wr (w.heap.size + 1) sgS 12 ty hit h;clear hit hmp hbw;go_wp2
    have hs3:(wr.iter blS 0).heap.size=w.heap.size + 3:=by simp [World.iter];omega
    go_loopw [] (fun wr=>∃k:Nat,k≤3∧wr.heap[w.heap.size + 2]? = some (.stringIter blS k)∧wr.heap[w.heap.size]? = some (.map (ents g (blE k)) (blE k).length)∧Below w.heap.size w wr∧wr.heap.size=w.heap.size + 3) (fun wr=>3-wr.iterPos (w.heap.size + 2))
    case atStart =>
     refine ⟨0,by omega,?_,?_,Hbw.out.trans ((zbG wr blS).mono (by omega)),hs3⟩
     · rw [←hsz];exact zce wr blS
     · exact ((zbG wr blS).block w.heap.size (by omega)).trans Hmp.out
    case round =>
     clear hs3 hnx hsz Hit Hmp Hbw Hsz;obtain ⟨k,hk,hit,hmp,hbw,hsz⟩:=hrel;have Hit:=Lib.hid hit;have Hmp:=Lib.hid hmp;have Hbw:=Lib.hid hbw;by_cases h:k<3
     · have hnx:=fun ty=>Lib.run_next_any_at (P:=Tryz.prog) wr (w.heap.size + 2) blS k ty hit h;have hi2:=Lib.iterAt_heap wr (w.heap.size + 2) blS k (k + 1) hit;have hb2:Below (w.heap.size + 2) wr (wr.iterAt (w.heap.size + 2) blS (k + 1)):=Lib.below_iterAt (Below.refl _ _) (Nat.le_refl _) blS (k + 1);rw [bl_dec k h] at hnx;dsimp only at hnx;have hmp2:(wr.iterAt (w.heap.size + 2) blS (k + 1)).heap[w.heap.size]? = some (.map (ents g (blE k)) (blE k).length):=by rw [hb2.block _ (by omega)];exact hmp
       obtain ⟨W2,hu2,hW2,hk2⟩:=zmP _ hmp2 rfl ((bls.getD k 0:Nat):Int) (bls.getD k 0) 117 rfl (bl_new k h).1 (by simpa using (bl_new k h).2);have HS:Hid (W2.heap.size=w.heap.size + 3):=Lib.hid (by rw [hk2.size];simp [World.iterAt];omega);have HI:Hid (W2.heap[w.heap.size + 2]? = some (.stringIter blS (k + 1))):=Lib.hid (by rw [hk2.block _ (by omega)];exact hi2);have HM:=Lib.hid hW2;have HB:Hid (Below w.heap.size w W2):=Lib.hid (hk2.below (hbw.trans (hb2.mono (by omega))) (Nat.le_refl _));clear hit hmp hbw hsz hi2 hb2 hmp2 hW2 hk2;generalize bls.getD k 0=c at *
       go_wp2
       go_roundw
       case rel=>exact ⟨k + 1,by omega,HI.out,HM.out,HB.out,HS.out⟩
       case measure =>
        have e1:wr.iterPos (w.heap.size + 2)=k:=by simp only [World.iterPos,Hit.out]
        have e2:W2.iterPos (w.heap.size + 2)=k + 1:=by simp only [World.iterPos,HI.out]
        rw [e1,e2];omega
     · obtain rfl:k=3:=by omega
       have hnx:=fun ty=>Lib.run_next_end_at (P:=Tryz.prog) wr (w.heap.size + 2) blS 3 ty hit h;clear hit hmp hbw hsz;go_wp2
       go_ret
       exact ⟨rfl,Hmp.out,Hbw.out⟩
theorem act_sign:∀c ∈ sgs,((blE 3).zipIdx 0).find? (fun q=>decide ((q.1.1:Int)=(c:Nat))) |>.map (fun q=>q.1.2) |>.any (· == 116):=by decide +kernel
theorem zk9:∀c ∈ bls,((blE 3).zipIdx 0).find? (fun q=>decide ((q.1.1:Int)=(c:Nat))) |>.map (fun q=>q.1.2) |>.any (· == 117):=by decide +kernel
theorem act_all:∀q ∈ (blE 3).zipIdx 0,q.1.1=47∨za9 q.1.1=true∨zaY q.1.1=true:=by decide +kernel
theorem zmF {c:Nat} (h:za9 c=true):c ∈ sgs:=by
 have:=zb5.1 h;simp only [sgs,List.mem_cons,List.not_mem_nil,or_false];omega
theorem bls_mem {c:Nat} (h:zaY c=true):c ∈ bls:=by
 have:=zaV.1 h;simp only [bls,List.mem_cons,List.not_mem_nil,or_false];omega
section
variable (W:World) {m g clk:Nat} (hb:W.heap[m]? = some (.map (ents g (blE 3)) clk))
include hb
theorem look_hit (r f:Nat) (i:Nat) (hf:Instr.findNow (.int .i32) (.int .i32 (r:Int)) (ents g (blE 3)).toList 0=some (some (i,meth f g))) :
 (Instr.lookup 176 (.map (some m)) (.int .i32 (r:Int)) true).run Tryz.prog W = .ok (.tuple #[.func (.func f) #[.pointer (some ⟨g,0,none⟩)] #[],.bool true]) W:=by
 simp [Instr.lookup,Instr.findKey,run_underlying Tryz.underlying176,run_underlying Tryz.underlying21,MapKept.run_getObj_map hb,zfB,hf,Result.andThen,meth]
theorem zlR (r f:Nat) (h:(((blE 3).zipIdx 0).find? (fun q=>decide ((q.1.1:Int)=(r:Nat))) |>.map (fun q=>q.1.2) |>.any (· == f))=true) :
 (Instr.lookup 176 (.map (some m)) (.int .i32 (r:Int)) true).run Tryz.prog W = .ok (.tuple #[.func (.func f) #[.pointer (some ⟨g,0,none⟩)] #[],.bool true]) W:=by
 have h1:=zfG g (r:Int) (blE 3);cases hq:((blE 3).zipIdx 0).find? (fun q=>decide ((q.1.1:Int)=(r:Int))) with
 | none=>rw [hq] at h;simp at h
 | some q =>
  rw [hq] at h h1;simp only [Option.map_some,Option.any_some,beq_iff_eq] at h h1;rw [h] at h1;exact look_hit W hb r f q.2 h1
theorem zlU {r:Nat} (h:za9 r=true):(Instr.lookup 176 (.map (some m)) (.int .i32 (r:Int)) true).run Tryz.prog W = .ok (.tuple #[.func (.func 116) #[.pointer (some ⟨g,0,none⟩)] #[],.bool true]) W :=
 zlR W hb r _ (act_sign r (zmF h))
theorem zkz {r:Nat} (h:zaY r=true):(Instr.lookup 176 (.map (some m)) (.int .i32 (r:Int)) true).run Tryz.prog W = .ok (.tuple #[.func (.func 117) #[.pointer (some ⟨g,0,none⟩)] #[],.bool true]) W :=
 zlR W hb r _ (zk9 r (bls_mem h))
theorem zlT {r:Nat} (h1:r≠47) (h2:za9 r=false) (h3:zaY r=false):(Instr.lookup 176 (.map (some m)) (.int .i32 (r:Int)) true).run Tryz.prog W = .ok (.tuple #[.nilFunc,.bool false]) W:=by
 have hz:∀W,(zeroValue 57).run Tryz.prog W = .ok .nilFunc W:=(zero_of_info (P:=Tryz.prog) (t:=57) (v:=.nilFunc) (n:=1) (by kernel_rfl)).1;have hn:((blE 3).zipIdx 0).find? (fun q=>decide ((q.1.1:Int)=(r:Int)))=none:=by
  rw [List.find?_eq_none];intro q hq;have:=act_all q hq;simp only [decide_eq_true_eq];intro e;have e':q.1.1=r:=by omega
  rw [e',h2,h3] at this;simp at this;exact h1 this
 have h4:=zfG g (r:Int) (blE 3);rw [hn] at h4;simp [Instr.lookup,Instr.findKey,run_underlying Tryz.underlying176,run_underlying Tryz.underlying21,MapKept.run_getObj_map hb,zfB,h4,hz,Result.andThen]
end
end Go.Proofs.YtiepddmagfmllaaGreat
namespace Go.Proofs.YtiepddmagfmllaaGreat
open Go.RowKit Go.ChangeMaps
structure Al (w0:World) (g m i B:Nat) (s:ByteArray) (wr:World) (k j:Nat) (l:List Tk):Prop where
 kj:k≤j
 jc:j≤cnt s
 it:wr.heap[i]? = some (.stringIter s (plc s k))
 mp:wr.heap[m]? = some (.map (ents g (blE 3)) (blE 3).length)
 sc:Sc B wr g s l 0
 bel:Below w0.heap.size w0 wr
 big:B≤wr.heap.size
 toks:l ++ (zcc (cutB s j) (plc s j)).1=(zcc s 0).1
 code:(zcc (cutB s j) (plc s j)).2=(zcc s 0).2
 few:l.length≤j
 lo:w0.heap.size≤g
 li:w0.heap.size≤i
 gi:g≠i
 gm:g≠m
 mi:m≠i
 iB:i<B
 mB:m<B
section
variable {w0 wr w3:World} {g m i B:Nat} {s:ByteArray} {k j:Nat} {l:List Tk}
theorem Al.next (h:Al w0 g m i B s wr k j l) (hk:plc s k<s.size):(wr.iterAt i s (plc s k + (Utf8.decode s (plc s k)).2)).heap[i]? = some (.stringIter s (plc s (k + 1))):=by
 rw [zaJ hk];exact Lib.iterAt_heap wr i s _ _ h.it
theorem zdr (w:World) (i:Nat) (s:ByteArray) (p:Nat) {q:Nat} (h:q≠i):(w.iterAt i s p).heap[q]? = w.heap[q]?:=Lib.iterAt_other w i q s p h
theorem Sc.at_iter (h:Sc B wr g s l 0) {t:ByteArray} {p q:Nat} (hi:wr.heap[i]? = some (.stringIter t p)) (hg:g≠i):Sc B (wr.iterAt i t q) g s l 0:=by
 obtain ⟨v,h⟩:=h;refine ⟨v,(zdr _ _ _ _ hg).trans h.cells,zaI h.row fun y hy=>zdr _ _ _ _ ?_,h.lt⟩;rintro rfl;rcases h.row.2 with ⟨e,_⟩ | ⟨b,cap,cur,e,_,hh,_⟩
 · rw [e] at hy;simp [Value.ownBlock] at hy
 · rw [e] at hy;simp only [Value.ownBlock,Option.some.injEq] at hy;rw [hy,hi] at hh;cases hh
theorem Al.sc2 (h:Al w0 g m i B s wr k j l) (q:Nat):Sc B (wr.iterAt i s q) g s l 0:=h.sc.at_iter h.it h.gi
theorem Al.bel2 (h:Al w0 g m i B s wr k j l) (q:Nat):Below w0.heap.size w0 (wr.iterAt i s q):=Lib.below_iterAt h.bel h.li s q
theorem Al.mp2 (h:Al w0 g m i B s wr k j l) (q:Nat):(wr.iterAt i s q).heap[m]? = some (.map (ents g (blE 3)) (blE 3).length):=(zdr _ _ _ _ h.mi).trans h.mp
theorem Al.big2 (h:Al w0 g m i B s wr k j l) (q:Nat):B≤(wr.iterAt i s q).heap.size:=by rw [Lib.iterAt_size];exact h.big
theorem Al.skip (h:Al w0 g m i B s wr k j l) (hk:plc s k<s.size) (hj:k<j):Al w0 g m i B s (wr.iterAt i s (plc s k + (Utf8.decode s (plc s k)).2)) (k + 1) j l :=
 ⟨hj,h.jc,h.next hk,h.mp2 _,h.sc2 _,h.bel2 _,h.big2 _,h.toks,h.code,h.few,h.lo,h.li,h.gi,h.gm,h.mi,h.iB,h.mB⟩
theorem zfk {s:ByteArray} {k:Nat} (hk:plc s k<s.size):0<(cutB s k).size:=by have:=zax s k;omega
theorem Al.scan_err (h:Al w0 g m i B s wr k k l) (hk:plc s k<s.size) (h3:3≤kd (cutB s k)):(zcc s 0).2=(kd (cutB s k),plc s k):=by
 have e:=Go.Proofs.YtiepddmagfmllaaGreat.scan_err (off:=plc s k) (zfk hk) h3;have hc:=h.code;rw [e] at hc;exact hc.symm
theorem Al.step (h:Al w0 g m i B s wr k k l) (hk:plc s k<s.size) (h3:kd (cutB s k)<3) (hp:Kp g B (wr.iterAt i s (plc s k + (Utf8.decode s (plc s k)).2)) w3) (hs:Sc B w3 g s (l ++ zcF (cutB s k) (plc s k)) 0) :
 Al w0 g m i B s w3 (k + 1) (k + ln (cutB s k)) (l ++ zcF (cutB s k) (plc s k)):=by
 have hz:=zfk hk;have h1:=zlP hz h3;have h2:=ln_le hz;rw [zgQ] at h2;have hE:=zhy (off:=plc s k) hz h3;have h4:=zbK s k (ln (cutB s k));rw [zhI,h4] at hE;have ht:=h.toks;have hc:=h.code;obtain ⟨r,hr⟩:∃r,zcc (cutB s (k + ln (cutB s k))) (plc s (k + ln (cutB s k)))=r:=⟨_,rfl⟩;rw [hr] at hE;generalize zcc (cutB s k) (plc s k)=r0 at *
 subst hE;dsimp only at ht hc;refine ⟨by omega,by have:=h.jc;omega,(hp.block i h.iB (Ne.symm h.gi)).trans (h.next hk),(hp.block m h.mB (Ne.symm h.gm)).trans (h.mp2 _),hs,(h.bel2 (plc s k + (Utf8.decode s (plc s k)).2)).trans (hp.below (by have:=h.iB;have:=h.li;omega) h.lo),Nat.le_trans (h.big2 _) hp.size,?_,by rw [hr];exact hc,?_,h.lo,h.li,h.gi,h.gm,h.mi,h.iB,h.mB⟩
 · rw [hr,List.append_assoc];exact ht
 · rw [List.length_append];have:=h.few;have:(zcF (cutB s k) (plc s k)).length≤1:=by unfold zcF;split <;> simp
   omega
theorem Al.fin (h:Al w0 g m i B s wr k j l) (hk:¬plc s k<s.size):plc s j=s.size∧(zcc s 0).2=(0,0)∧(zcc s 0).1=l ++ [(3,⟨#[]⟩,s.size)]:=by
 have h1:=zaU s j;have h2:=zaX s h.kj;have hj:plc s j=s.size:=by omega
 have hz:=zax s j;have e:=zdR (u:=cutB s j) (off:=plc s j) (by omega);have ht:=h.toks;have hc:=h.code;rw [e,hj] at ht;rw [e] at hc;exact ⟨hj,hc.symm,ht.symm⟩
end
def Toks (w:World) (A:Option Addr) (c:Nat) (l:List Tk):Prop:=Rd w w.heap.size 3 A l.length c (tcells l)
theorem Toks.below {w w':World} {A:Option Addr} {c:Nat} {l:List Tk} (h:Toks w A c l) (hb:Below w.heap.size w w'):Toks w' A c l:=(Rd.below h hb).more hb.size
def AllPost (s:ByteArray) (w:World) (e:Ending) (w':World):Prop :=
 (∃A c,e = .returned (.tuple #[.slice A (zbP s).1.length c,.int .i64 (zbP s).2.1,.int .i64 (zbP s).2.2])∧Toks w' A c (zbP s).1)∧Below w.heap.size w w'
theorem AllPost.empty {s:ByteArray} {w w':World} {e p:Nat} (h:zbP s=([],e,p)) (hb:Below w.heap.size w w'):AllPost s w (.returned (.tuple #[.slice none 0 0,.int .i64 e,.int .i64 p])) w':=by
 refine ⟨⟨none,0,by rw [h];rfl,?_⟩,hb⟩;rw [h];exact Rd.none_ _ _ _
end Go.Proofs.YtiepddmagfmllaaGreat
