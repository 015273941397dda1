import Derived.Laws.StandIn
import Derived.Maps.Own
import Derived.LoopN
import Derived.Deep.WholeRow
import Derived.Test.YtmblgnddgmfkhaaGreatK04
set_option maxRecDepth 100000
set_option maxHeartbeats 4000000
namespace Go.Proofs.YtmblgnddgmfkhaaGreat
section
open Go.RowKit
open Go.RowKit
open Go.RowKit
variable {u:ByteArray}
theorem zra {q:Nat} (h:q<plc u (ntN u)):bt u q≠10:=by
 obtain ⟨j,o,g⟩:=zmG (s:=u) (k:=q) (ntN u) h;have n:j<ntN u:=by
  rcases ybM j (ntN u) with f | f
  · exact f
  · have:=zbi u f;omega
 obtain ⟨a,b⟩:=(zcU _ u).1 j n;rcases ybM (plc u j) q with m | m
 · rw [zaK a] at g;have:=ziU a m g;omega
 · obtain rfl:plc u j=q:=by omega
   simpa using b
theorem nt_end (h:plc u (ntN u)<u.size):bt u (plc u (ntN u))=10:=by
 have b:(!decide (bt u (plc u (ntN u))=10))=false:=(zcU (fun i=>!decide (bt u i=10)) u).2 h;simpa using b
def nlZ (u:ByteArray):Int:=if plc u (ntN u)<u.size then (plc u (ntN u):Int) else -1
theorem zjA (u:ByteArray) (i:Nat) (h:i<u.size):(u[i]! == UInt8.ofNat 10)=decide (bt u i=10):=by
 rw [getElem!_pos u i h,zig u i h,ya9,ybY,ybF];constructor
 · intro e;rw [e];rfl
 · intro e;exact UInt8.toNat_inj.1 e
theorem zl2 (u:ByteArray):firstIdx u (10:Int).toNat.toUInt8=nlZ u:=by
 show firstIdx u (UInt8.ofNat 10)=nlZ u;unfold firstIdx nlZ;by_cases h:plc u (ntN u)<u.size
 · rw [yan h];have e:(List.range u.size).find? (fun i=>u[i]! == UInt8.ofNat 10)=some (plc u (ntN u)):=by
    rw [List.find?_range_eq_some];refine ⟨by rw [zjA u _ h,yaB (nt_end h)],by simpa using h,fun j b=>?_⟩;rw [zjA u j yab,yaF (zra b)];rfl
   rw [e]
 · rw [yak h];have e:(List.range u.size).find? (fun i=>u[i]! == UInt8.ofNat 10)=none:=by
    rw [List.find?_range_eq_none];intro i hi;rw [zjA u i hi];have:=zra (u:=u) (q:=i) yab;simp [this]
   rw [e]
theorem hasPrefix_any (u t:ByteArray) (w:World) :
 Calls Tryz.prog 243 #[.string u,.string t] w fun e w'=>e = .returned (.bool (preB u t))∧w'=w:=by
 go_enter Tryz.func243,Tryz.ntmps243
 go_wp2_with ((refine (pre_any _ _ _).mono ?_);rintro e w' ⟨rfl,rfl⟩)
 go_ret
 exact ⟨rfl,rfl⟩
theorem indexByte_any (u:ByteArray) (w:World) :
 Calls Tryz.prog 264 #[.string u,.int .u8 10] w fun e w'=>e = .returned (.int .i64 (nlZ u))∧w'=w:=by
 have b:∀W,(callFunc 281 #[.string u,.int .u8 10]).run Tryz.prog W = .ok (.value (.int .i64 (nlZ u))) W:=fun W=>by
  rw [run_callFunc_indexByte Tryz.func281 yaa yaa yaa yaa,run_indexByte_string,zl2];rfl
 go_enter Tryz.func264,Tryz.ntmps264
 go_wp2
 go_ret
 exact ⟨rfl,rfl⟩
theorem index_nl (u:ByteArray) (w:World) (_:u.size≤1000000) :
 Calls Tryz.prog 233 #[.string u,.string ⟨#[10]⟩] w fun e w'=>e = .returned (.int .i64 (nlZ u))∧w'=w:=by
 by_cases f:u=sNl
 · have j:([10] == u.toList)=true:=by subst f;decide +kernel
   have g:nlZ u=0:=by subst f;decide +kernel
   have k:=Lib.hid g;clear f g;go_enter Tryz.func233,Tryz.ntmps233
   go_wp2
   go_ret
   exact ⟨by rw [k.out];rfl,rfl⟩
 · have j:([10] == u.toList)=false:=by
    have:=zh7 (a:=sNl) (b:=u) (fun e=>f e.symm);rwa [show sNl.toList=[10] by decide +kernel] at this
   clear f;go_enter Tryz.func233,Tryz.ntmps233
   go_wp2_with ((refine (indexByte_any u _).mono ?_);rintro e w' ⟨rfl,rfl⟩)
   go_ret
   exact ⟨rfl,rfl⟩
theorem cutLite_nl (u:ByteArray) (w:World) (hs:u.size≤1000000) :
 Calls Tryz.prog 186 #[.string u,.string ⟨#[10]⟩] w fun e w'=>(∃y b,e = .returned (.tuple #[.string (cutA u (ntN u)),.string y,.bool b]))∧Below w.heap.size w w':=by
 have k:=zba u (ntN u);by_cases h:plc u (ntN u)<u.size
 · have g:nlZ u=(plc u (ntN u):Int):=yan h;have f:∀W,_:=fun W=>index_nl u W hs;rw [g] at f;have j:Hid (cutA u (ntN u)=u.extract 0 (plc u (ntN u))):=Lib.hid rfl;clear g;generalize plc u (ntN u)=p at *
   go_enter Tryz.func186,Tryz.ntmps186
   go_wp2_with ((with_reducible refine (f _).mono ?_);rintro e w' ⟨rfl,rfl⟩)
   go_quiet (fail)
   go_wp2
   go_ret3
   rw [j.out];exact ⟨⟨_,_,rfl⟩,⟨rfl,rfl,rfl,yaj _,fun _ _=>rfl⟩⟩
 · have g:nlZ u = -1:=yak h;have f:∀W,_:=fun W=>index_nl u W hs;rw [g] at f;have j:Hid (cutA u (ntN u)=u):=Lib.hid (by unfold cutA;rw [show plc u (ntN u)=u.size by omega];exact zju u);go_enter Tryz.func186,Tryz.ntmps186
   go_wp2_with ((with_reducible refine (f _).mono ?_);rintro e w' ⟨rfl,rfl⟩)
   go_ret3
   rw [j.out];exact ⟨⟨_,_,rfl⟩,Below.refl _ _⟩
theorem cut_nl (u:ByteArray) (w:World) (hs:u.size≤1000000) :
 Calls Tryz.prog 141 #[.string u,.string ⟨#[10]⟩] w fun e w'=>(∃y b,e = .returned (.tuple #[.string (cutA u (ntN u)),.string y,.bool b]))∧Below w.heap.size w w':=by
 go_enter Tryz.func141,Tryz.ntmps141
 go_wp2_with ((with_reducible refine (cutLite_nl u _ hs).mono ?_);rintro e w' ⟨⟨y,b,rfl⟩,hb⟩)
 go_ret3
 exact ⟨⟨_,_,rfl⟩,hb⟩
theorem firstWord_any (u:ByteArray) (w:World) (_:u.size≤1000000) (hv:zck u=true) :
 Calls Tryz.prog 212 #[.string u] w fun e w'=>e = .returned (.string (cutA u (wrN u)))∧Below w.heap.size w w':=by
 have G:=Lib.hid (zcL.1 hv);clear hv;go_enter Tryz.func212,Tryz.ntmps212
 go_wp2
 go_loopw [] (fun wr=>∃k:Nat,k≤cnt u∧zqp w wr u (plc u k)∧Below w.heap.size w wr∧∀j,j<k→zfy u (plc u j)=true) (fun wr=>u.size-wr.iterPos w.heap.size)
 case atStart=>exact ⟨0,yao _,zcv w u,zbN w u,fun j s=>by omega⟩
 case round =>
  obtain ⟨k,hk,hit,n,o⟩:=hrel;have f:=Lib.hid o;clear o;have B:=Lib.hid hit;have C:=Lib.hid n;have L:=zeV u;have M:=zba u k;by_cases h:plc u k<u.size
  · have D:=za3.2 h;have N:=zgu h;have H:=Lib.hid (zaK h);have E:∀ty,(Instr.next (.pointer (some ⟨w.heap.size,0,none⟩)) true ty).run Tryz.prog wr=_:=fun ty=>Lib.run_next_any_at wr w.heap.size u (plc u k) ty hit h;have b:=Lib.hid (Lib.iterAt_heap wr w.heap.size u (plc u k) (plc u k + (Utf8.decode u (plc u k)).2) hit);have g:=Lib.hid (Lib.below_iterAt n (k:=w.heap.size) (yaj _) u (plc u k + (Utf8.decode u (plc u k)).2));clear hit n;have x:nameS (Utf8.encode ((Utf8.decode u (plc u k)).1:Int))=zfy u (plc u k):=rn_name h (G.out k D);have y:∀W,_:=fun W=>name_any (Utf8.encode ((Utf8.decode u (plc u k)).1:Int)) W (yay (encode_size_le _) yab);rw [x] at y;clear x;have q:w.heap.size≤(wr.iterAt w.heap.size u (plc u k + (Utf8.decode u (plc u k)).2)).heap.size:=g.out.size;cases z:zfy u (plc u k) with
    | true =>
     rw [z] at y;go_wp2_with ((with_reducible refine (y _).mono ?_);rintro e A ⟨rfl,m⟩)
     go_roundw
     case rel =>
      refine ⟨k + 1,by omega,?_,g.out.trans (m.mono q),fun j s=>?_⟩
      · rw [H.out];show A.heap[w.heap.size]? = _;rw [m.block _ (by have:=b.out;exact (yaR.1 this).1)];exact b.out
      · by_cases e:j=k
        · subst e;exact z
        · exact f.out j yab
     case measure =>
      have I:zqp w A u (plc u k + wd u (plc u k)):=by
       show A.heap[w.heap.size]? = _;rw [m.block _ (by have:=b.out;exact (yaR.1 this).1)];exact b.out
      rw [zdI B.out,zdI I];omega
    | false =>
     rw [z] at y;have F:Hid (wrN u=k):=Lib.hid (zhZ (fun j s=>⟨za3.1 yab,f.out j s⟩) fun _=>z);go_wp2_with ((with_reducible refine (y _).mono ?_);rintro e A ⟨rfl,m⟩)
     go_ret
     exact ⟨by rw [F.out];rfl,g.out.trans (m.mono q)⟩
  · have e:=zfj h fun j s=>za3.1 yab;have F:Hid (wrN u=k):=Lib.hid (zhZ (fun j s=>⟨za3.1 yab,f.out j s⟩) fun J=>absurd J h);have K:Hid (cutA u k=u):=Lib.hid (zm2 yab);have E:∀ty,(Instr.next (.pointer (some ⟨w.heap.size,0,none⟩)) true ty).run Tryz.prog wr=_:=fun ty=>Lib.run_next_end_at wr w.heap.size u (plc u k) ty hit h;clear e hit n;go_wp2
    go_ret
    exact ⟨by rw [F.out,K.out];rfl,C.out⟩
def badZ (s:ByteArray):Int:=if plc s (zkf s)<s.size then (plc s (zkf s):Int) else -1
theorem broken_at (s:ByteArray) (w:World) (hs:s.size≤1000000) :
 Calls Tryz.prog 156 #[.string s] w fun e w'=>e = .returned (.int .i64 (badZ s))∧Below w.heap.size w w':=by
 go_enter Tryz.func156,Tryz.ntmps156
 go_wp2
 go_loopw [] (fun wr=>∃k:Nat,k≤cnt s∧zqp w wr s (plc s k)∧Below w.heap.size w wr∧∀j,j<k→brk s (plc s j)=false) (fun wr=>s.size-wr.iterPos w.heap.size)
 case atStart=>exact ⟨0,yao _,zcv w s,zbN w s,fun j A=>by omega⟩
 case round =>
  obtain ⟨k,hk,hit,n,o⟩:=hrel;have b:=Lib.hid o;clear o;have G:=Lib.hid hit;have H:=Lib.hid n;have R:=zeV s;have T:=zba s k;by_cases h:plc s k<s.size
  · have L:=za3.2 h;have U:=zgu h;have M:=Lib.hid (zaK h);have I:∀ty,(Instr.next (.pointer (some ⟨w.heap.size,0,none⟩)) true ty).run Tryz.prog wr=_:=fun ty=>Lib.run_next_any_at wr w.heap.size s (plc s k) ty hit h;have f:=Lib.hid (Lib.iterAt_heap wr w.heap.size s (plc s k) (plc s k + (Utf8.decode s (plc s k)).2) hit);have g:=Lib.hid (Lib.below_iterAt n (k:=w.heap.size) (yaj _) s (plc s k + (Utf8.decode s (plc s k)).2));clear hit n;have N:=zaM s k;have q:w.heap.size≤(wr.iterAt w.heap.size s (plc s k + (Utf8.decode s (plc s k)).2)).heap.size:=g.out.size;have B:w.heap.size<(wr.iterAt w.heap.size s (plc s k + (Utf8.decode s (plc s k)).2)).heap.size:=(yaR.1 f.out).1;have C:zck (cutA (cutB s k) 1) = !brk s (plc s k):=by rw [zl4 yab,brk_cutB h]
    have D:(cutA (cutB s k) 1).size≤1000000:=by have:=za7 (cutB s k) 1;have:=zba (cutB s k) 1;omega
    have K:∀W,Calls Tryz.prog 207 #[.string (s.extract (plc s k) s.size),.int .i64 1] W fun e w'=>e = .returned (.tuple #[.string (cutA (cutB s k) 1),.string (cutB (cutB s k) 1)])∧Below W.heap.size W w':=fun W=>cut_any (cutB s k) 1 W yab yab yab;have E:∀W,_:=fun W=>valid_any (cutA (cutB s k) 1) W D;rw [C] at E;clear C D;generalize cutA (cutB s k) 1=x at *
    generalize cutB (cutB s k) 1=y at *
    cases F:brk s (plc s k) with
    | false =>
     rw [F] at E;go_wp2_with (first
      | ((with_reducible refine (K _).mono ?_);rintro e O ⟨rfl,m⟩)
      | ((with_reducible refine (E _).mono ?_);rintro e w3 ⟨rfl,u⟩))
     have z:Below (wr.iterAt w.heap.size s (plc s k + (Utf8.decode s (plc s k)).2)).heap.size (wr.iterAt w.heap.size s (plc s k + (Utf8.decode s (plc s k)).2)) w3:=m.trans (u.mono m.size);go_roundw
     case rel =>
      refine ⟨k + 1,by omega,?_,g.out.trans (z.mono q),fun j A=>?_⟩
      · rw [M.out];show w3.heap[w.heap.size]? = _;rw [z.block _ B];exact f.out
      · by_cases e:j=k
        · subst e;exact F
        · exact b.out j yab
     case measure =>
      have P:zqp w w3 s (plc s k + wd s (plc s k)):=by
       show w3.heap[w.heap.size]? = _;rw [z.block _ B];exact f.out
      rw [zdI G.out,zdI P];omega
    | true =>
     rw [F] at E;have J:Hid (zkf s=k):=Lib.hid (zhZ (fun j A=>⟨za3.1 yab,by have:=b.out j A;simp [this]⟩) fun _=>by simp [F]);go_wp2_with (first
      | ((with_reducible refine (K _).mono ?_);rintro e O ⟨rfl,m⟩)
      | ((with_reducible refine (E _).mono ?_);rintro e w3 ⟨rfl,u⟩))
     go_ret
     refine ⟨?_,g.out.trans ((m.trans (u.mono m.size)).mono q)⟩;unfold badZ;rw [J.out,yan h];rfl
  · have e:=zfj h fun j A=>za3.1 yab;have J:Hid (zkf s=k):=Lib.hid (zhZ (fun j A=>⟨za3.1 yab,by have:=b.out j A;simp [this]⟩) fun Q=>absurd Q h);have I:∀ty,(Instr.next (.pointer (some ⟨w.heap.size,0,none⟩)) true ty).run Tryz.prog wr=_:=fun ty=>Lib.run_next_end_at wr w.heap.size s (plc s k) ty hit h;clear e hit n;go_wp2
    go_ret
    refine ⟨?_,H.out⟩;unfold badZ;rw [J.out,yak h];rfl
def zfK (u:ByteArray) (off:Nat):List Tk:=if kd u=0 then [] else [(kd u,cutA u (ln u),off)]
def Stepped (B g:Nat) (s:ByteArray) (k:Nat) (l:List Tk) (w:World) (e:Ending) (w':World):Prop :=
 Kp g B w w' ∧
 ((kd (cutB s k)<3∧e = .returned (.int .i64 (plc s (k + ln (cutB s k)):Nat))∧Sc B w' g s (l ++ zfK (cutB s k) (plc s k)) 0) ∨
  (3≤kd (cutB s k)∧e = .returned (.int .i64 (plc s k:Nat))∧Sc B w' g s l (kd (cutB s k))))
section
variable {B:Nat} {w:World} {g:Nat} {s:ByteArray} {l:List Tk} {e:Nat} {k:Nat}
theorem fail_any (h:Sc B w g s l e) (c p:Nat) :
 Calls Tryz.prog 213 #[.pointer (some ⟨g,0,none⟩),.int .i64 c,.int .i64 p] w fun e' w'=>e' = .returned (.int .i64 p)∧Sc B w' g s l c∧Kp g B w w':=by
 obtain ⟨v,h⟩:=h;have n:=h.c2;have o:=h.fz;have H:=Lib.hid h;clear h;go_enter Tryz.func213,Tryz.ntmps213
 go_wp2
 go_ret
 have k:=H.out.cells;have b:=H.out.lt;refine ⟨rfl,⟨v,?_,zaH H.out.row fun j f=>Below.heap_setCell _ _ _ _ (by have:=(H.out.row.lt j f).1;show j≠g;omega),b⟩,rfl,rfl,rfl,by simp [World.setCell],fun j f m=>Below.heap_setCell _ _ _ _ (by show j≠g;exact m)⟩;simp [World.setCell,ybB,k]
theorem zjm {s:ByteArray} {k j:Nat} (h:plc s k + j<s.size):bt (cutB s k) j=bt s (plc s k + j):=by
 have:=zaM s k;exact zds s k j yab
theorem zrp {s:ByteArray} {k:Nat} (h:plc s k<s.size) (hb:bt s (plc s k)<128):plc s (k + 1)=plc s k + 1:=by
 rw [zaK h,(zlV h hb).2]
theorem zpL (h:Sc B w g s l 0) (hs:s.size≤2048) (hk:plc s k<s.size) (hb:zbG (bt s (plc s k))=true) (A:Option Addr) :
 Calls Tryz.prog 211 #[.pointer A,.int .i64 (plc s k:Nat)] w (Stepped B g s k l w):=by
 have n:bt (cutB s k) 0=bt s (plc s k):=zjm (j:=0) yab;have b:kd (cutB s k)=0:=by unfold kd;rw [n,yan hb]
 have f:ln (cutB s k)=1:=by unfold ln;rw [n,yan hb]
 have o:=zb0.1 hb;have m:=zrp hk yab;have q:Hid (Stepped B g s k l w (.returned (.int .i64 ((plc s k:Nat) + 1:Int))) w):=Lib.hid ⟨Kp.refl _ _ _,.inl ⟨by omega,by rw [f,m];rfl,by unfold zfK;rw [yan b,yaK];exact h⟩⟩;clear h n b f o hb m;go_enter Tryz.func211,Tryz.ntmps211
 go_wp2
 go_ret
 exact q.out
theorem zjq (s:ByteArray) (k j:Nat):cutA (cutB s k) j=s.extract (plc s k) (plc s (k + j)):=by
 have b:=zeA s k j;have f:=zaM s k;have g:=za7 (cutB s k) j;have m:=zba s (k + j);refine zcX (by rw [zaF];omega) fun i hi=>?_;rw [zfX _ _ i hi,zds _ _ i (by have:=zba (cutB s k) j;omega),zbo _ _ _ _ (by omega)]
theorem zpr {s:ByteArray} (hv:zck s=true) (k:Nat):zck (cutB s k)=true:=by
 rw [zcL] at hv ⊢;intro j f;rw [zm0] at f;have g:=zeA s k j;have m:=zaM s k;have o:=za3.1 (show k + j<cnt s by omega);have n:=zfY m (zds s k) (i:=plc (cutB s k) j) yab;have b:=hv (k + j) yab;unfold brk rn wd at b ⊢;rw [n,g];exact b
theorem sign_any (h:Sc B w g s l 0) (hB:B≤w.heap.size) (hs:s.size≤2048) (hl:l.length<1000000) (hk:plc s k<s.size) (hb:zcq (bt s (plc s k))=true) :
 Calls Tryz.prog 210 #[.pointer (some ⟨g,0,none⟩),.int .i64 (plc s k:Nat)] w (Stepped B g s k l w):=by
 have y:bt (cutB s k) 0=bt s (plc s k):=zjm (j:=0) yab;have z:=zcV.1 hb;have f:¬zbG (bt s (plc s k))=true:=by rw [zb0];omega
 have o:kd (cutB s k)=2:=by unfold kd;rw [y,yak f,yan hb]
 have m:ln (cutB s k)=1:=by unfold ln;rw [y,yak f,yan hb]
 have n:=zrp hk yab;have q:s.extract (plc s k) (plc s k + 1)=cutA (cutB s k) 1:=by rw [zjq,n]
 have u:(s.extract (plc s k) (plc s k + 1)).size=1:=by rw [zaF];omega
 have E:∀W,Sc B W g s l 0→B≤W.heap.size→_:=fun W F A=>add_any (k:=2) (t:=s.extract (plc s k) (plc s k + 1)) (p:=plc s k) F A hl yab yab;have G:∀x,Sc B x g s (l ++ [(2,s.extract (plc s k) (plc s k + 1),plc s k)]) 0→Kp g B w x→Hid (Stepped B g s k l w (.returned (.int .i64 ((plc s k + (s.extract (plc s k) (plc s k + 1)).size:Nat):Int))) x):=fun x a b=>Lib.hid ⟨b,.inl ⟨by omega,by rw [m,n,u],by unfold zfK;rw [yak yab,o,m,←q];exact a⟩⟩;clear hb y o m z n f q;have I:plc s k + 1≤s.size:=hk;obtain ⟨v,h⟩:=h;have J:=h.c0;have H:=Lib.hid h;clear h;generalize plc s k=p at *
 go_enter Tryz.func210,Tryz.ntmps210
 go_wp2_with ((refine (E _ ⟨v,H.out⟩ hB).mono ?_);rintro e K ⟨rfl,C,D⟩)
 go_ret
 have q:=(G _ C D).out;rw [u] at q;exact q
theorem word_any (h:Sc B w g s l 0) (hB:B≤w.heap.size) (hs:s.size≤2048) (hv:zck s=true) (hl:l.length<1000000) (hk:plc s k<s.size) (hnb:zbG (bt s (plc s k))=false) (hns:zcq (bt s (plc s k))=false) (h47:bt s (plc s k)≠47) :
 Calls Tryz.prog 158 #[.pointer (some ⟨g,0,none⟩),.int .i64 (plc s k:Nat)] w (Stepped B g s k l w):=by
 have Q:bt (cutB s k) 0=bt s (plc s k):=zjm (j:=0) yab;have R:=zaM s k;have f:kd (cutB s k)=if zfy (cutB s k) 0=true then (if wrN (cutB s k)≤24 then 1 else 31) else 30:=by
  conv=>lhs;unfold kd
  rw [Q,hnb,hns,yak yac,yak yac,yak h47]
 have u:ln (cutB s k)=wrN (cutB s k):=by
  conv=>lhs;unfold ln
  rw [Q,hnb,hns,yak yac,yak yac,yak h47]
 have C:=zeA s k (wrN (cutB s k));have D:=za7 (cutB s k) (wrN (cutB s k));have L:cnt (cutA (cutB s k) (wrN (cutB s k)))=wrN (cutB s k):=by rw [zjo];have:=zh0 (zfy (cutB s k)) (cutB s k);unfold wrN;omega
 have T:wrN (cutB s k)≤2048:=by have:=zh0 (zfy (cutB s k)) (cutB s k);have:=zeV (cutB s k);unfold wrN;omega
 have y:(cutA (cutB s k) (wrN (cutB s k))).size≤1000000:=by have:=zba (cutB s k) (wrN (cutB s k));omega
 have O:∀W,Calls Tryz.prog 212 #[.string (s.extract (plc s k) s.size)] W fun e w'=>e = .returned (.string (cutA (cutB s k) (wrN (cutB s k))))∧Below W.heap.size W w':=fun W=>firstWord_any (cutB s k) W yab (zpr hv k);have P:∀W,_:=fun W=>count_any (cutA (cutB s k) (wrN (cutB s k))) W y;rw [L] at P;have m:plc s k≤s.size:=ya5 hk;obtain ⟨v,h⟩:=h;have c0:=h.c0;have a1:=h.size;have H:=Lib.hid h;clear h Q hnb hns h47 L;by_cases F:zfy (cutB s k) 0=true
 · rw [yan F] at f;have K:0<wrN (cutB s k):=zgV yab F;have G:0<(cutA (cutB s k) (wrN (cutB s k))).size:=by
    have h1:=zbi (cutB s k) (show 1≤wrN (cutB s k) from K);have h2:plc (cutB s k) 0<plc (cutB s k) 1:=zbl (s:=cutB s k) (k:=0) (by show 0<_;omega);omega
   have a2:=zjM G;by_cases E:wrN (cutB s k)≤24
   · rw [yan E] at f;have hd:¬((24:Int)<(wrN (cutB s k):Nat)):=by omega
     have ka:∀W,Sc B W g s l 0→B≤W.heap.size→_:=fun W hW U=>add_any (k:=1) (t:=cutA (cutB s k) (wrN (cutB s k))) (p:=plc s k) hW U hl yab y;have M:∀q,Sc B q g s (l ++ [(1,cutA (cutB s k) (wrN (cutB s k)),plc s k)]) 0→Kp g B w q→Hid (Stepped B g s k l w (.returned (.int .i64 ((plc s k + (cutA (cutB s k) (wrN (cutB s k))).size:Nat):Int))) q):=fun q a b=>Lib.hid ⟨b,.inl ⟨by omega,by rw [u,D,C],by unfold zfK;rw [yak yab,f,u];exact a⟩⟩;clear f u C D E K G F R;generalize cutA (cutB s k) (wrN (cutB s k))=x at *
     generalize wrN (cutB s k)=n at *
     generalize plc s k=p at *
     go_enter Tryz.func158,Tryz.ntmps158
     go_wp2_with (first
      | ((with_reducible refine (O _).mono ?_);rintro e V ⟨rfl,m⟩)
      | ((with_reducible refine (P _).mono ?_);rintro e X ⟨rfl,I⟩;have o:=m.trans (I.mono m.size);have J:=o.size;have N:Hid (ScAt B X g s l 0 v):=Lib.hid (H.out.below o))
      | ((refine (ka _ ⟨v,N.out⟩ (yay hB J)).mono ?_);rintro e Y ⟨rfl,z,A⟩))
     go_ret
     exact (M _ z ((Kp.of_below (o.mono hB) g).trans A)).out
   · rw [yak E] at f;have hd:(24:Int)<(wrN (cutB s k):Nat):=by omega
     have M:∀q,Sc B q g s l 31→Kp g B w q→Hid (Stepped B g s k l w (.returned (.int .i64 (plc s k:Nat))) q):=fun q a b=>Lib.hid ⟨b,.inr ⟨by omega,rfl,by rw [f];exact a⟩⟩;clear f u C D E K G F R;generalize cutA (cutB s k) (wrN (cutB s k))=x at *
     generalize wrN (cutB s k)=n at *
     generalize plc s k=p at *
     go_enter Tryz.func158,Tryz.ntmps158
     go_wp2_with (first
      | ((with_reducible refine (O _).mono ?_);rintro e V ⟨rfl,m⟩)
      | ((with_reducible refine (P _).mono ?_);rintro e X ⟨rfl,I⟩;have o:=m.trans (I.mono m.size);have J:=o.size;have N:Hid (ScAt B X g s l 0 v):=Lib.hid (H.out.below o))
      | ((refine (fail_any ⟨v,N.out⟩ 31 p).mono ?_);rintro e Y ⟨rfl,z,A⟩))
     go_ret
     exact (M _ z ((Kp.of_below (o.mono hB) g).trans A)).out
 · rw [yak F] at f;rw [yb5] at F;have K:wrN (cutB s k)=0:=zrK F;have Z:cutA (cutB s k) (wrN (cutB s k))=⟨#[]⟩:=by rw [K,zpR]
   rw [Z] at O;have M:∀q,Sc B q g s l 30→Kp g B w q→Hid (Stepped B g s k l w (.returned (.int .i64 (plc s k:Nat))) q):=fun q a b=>Lib.hid ⟨b,.inr ⟨by omega,rfl,by rw [f];exact a⟩⟩;clear f u C D K F R Z P y T;generalize plc s k=p at *
   go_enter Tryz.func158,Tryz.ntmps158
   go_wp2_with (first
    | ((with_reducible refine (O _).mono ?_);rintro e V ⟨rfl,m⟩;have J:=m.size;have N:Hid (ScAt B V g s l 0 v):=Lib.hid (H.out.below m))
    | ((refine (fail_any ⟨v,N.out⟩ 30 p).mono ?_);rintro e Y ⟨rfl,z,A⟩))
   go_ret
   exact (M _ z ((Kp.of_below (m.mono hB) g).trans A)).out
theorem zrq:preB u ⟨#[47,47]⟩=decide (1<u.size∧bt u 0=47∧bt u 1=47):=by
 unfold preB;rw [ya9,ybF,ybF,show (⟨#[47,47]⟩:ByteArray).size=2 from rfl];have f:∀j,j<min 2 u.size→bt (u.extract 0 2) j=bt u j:=fun j g=>by rw [zbo _ _ _ _ yab,yaI]
 constructor
 · rintro ⟨k,b⟩;refine ⟨by omega,?_,?_⟩
   · rw [←f 0 yab,b];rfl
   · rw [←f 1 yab,b];rfl
 · rintro ⟨k,b,m⟩;refine ⟨by omega,zcX (by rw [zaF,show (⟨#[47,47]⟩:ByteArray).size=2 from rfl];omega) fun j g=>?_⟩;rw [zaF] at g;rw [f j (by omega)];obtain rfl | rfl:j=0∨j=1:=by omega
   · rw [b];rfl
   · rw [m];rfl
theorem note_any (h:Sc B w g s l 0) (hB:B≤w.heap.size) (hs:s.size≤2048) (hk:plc s k<s.size) (h47:bt s (plc s k)=47) :
 Calls Tryz.prog 209 #[.pointer (some ⟨g,0,none⟩),.int .i64 (plc s k:Nat)] w (Stepped B g s k l w):=by
 have z:bt (cutB s k) 0=bt s (plc s k):=zjm (j:=0) yab;have I:=zaM s k;have f:kd (cutB s k)=if 1<(cutB s k).size∧bt (cutB s k) 1=47 then 0 else 30:=by
  conv=>lhs;unfold kd
  rw [z,h47,show zbG 47=false from rfl,show zcq 47=false from rfl,yak yac,yak yac,yan rfl]
 have n:ln (cutB s k)=ntN (cutB s k):=by
  conv=>lhs;unfold ln
  rw [z,h47,show zbG 47=false from rfl,show zcq 47=false from rfl,yak yac,yak yac,yan rfl]
 have o:=zeA s k (ntN (cutB s k));have q:=za7 (cutB s k) (ntN (cutB s k));have A:(cutA (cutB s k) (ntN (cutB s k))).size≤1000000:=by have:=zba (cutB s k) (ntN (cutB s k));omega
 have C:∀W,Calls Tryz.prog 243 #[.string (s.extract (plc s k) s.size),.string ⟨#[47,47]⟩] W fun e w'=>e = .returned (.bool (preB (cutB s k) ⟨#[47,47]⟩))∧w'=W:=fun W=>hasPrefix_any (cutB s k) _ W;have J:∀W,Calls Tryz.prog 141 #[.string (s.extract (plc s k) s.size),.string ⟨#[10]⟩] W fun e w'=>(∃y b,e = .returned (.tuple #[.string (cutA (cutB s k) (ntN (cutB s k))),.string y,.bool b]))∧Below W.heap.size W w':=fun W=>cut_nl (cutB s k) W yab;have D:plc s k≤s.size:=ya5 hk;rw [zrq,z] at C;obtain ⟨v,h⟩:=h;have L:=h.c0;have K:=h.size;have H:=Lib.hid h;clear h;by_cases u:1<(cutB s k).size∧bt (cutB s k) 1=47
 · rw [yan u] at f;rw [yaB ⟨u.1,h47,u.2⟩] at C;have E:∀m,Below w.heap.size w m→Hid (Stepped B g s k l w (.returned (.int .i64 ((plc s k + (cutA (cutB s k) (ntN (cutB s k))).size:Nat):Int))) m):=fun m b=>Lib.hid ⟨Kp.of_below (b.mono hB) g,.inl ⟨by omega,by rw [n,q,o],by unfold zfK;rw [yan f,yaK];exact ⟨v,H.out.below b⟩⟩⟩;clear f n o q u I z h47;generalize cutA (cutB s k) (ntN (cutB s k))=x at *
   generalize plc s k=p at *
   go_enter Tryz.func209,Tryz.ntmps209
   go_wp2_with (first
    | ((with_reducible refine (C _).mono ?_);rintro e w' ⟨rfl,rfl⟩)
    | ((with_reducible refine (J _).mono ?_);rintro e M ⟨⟨y,b,rfl⟩,D⟩))
   go_ret
   exact (E _ D).out
 · rw [yak u] at f;rw [yaF (fun h=>u ⟨h.1,h.2.2⟩)] at C;have E:∀m,Sc B m g s l 30→Kp g B w m→Hid (Stepped B g s k l w (.returned (.int .i64 (plc s k:Nat))) m):=fun m a b=>Lib.hid ⟨b,.inr ⟨by omega,rfl,by rw [f];exact a⟩⟩;clear f n o q u I z h47 A J;generalize plc s k=p at *
   go_enter Tryz.func209,Tryz.ntmps209
   go_wp2_with (first
    | ((with_reducible refine (C _).mono ?_);rintro e w' ⟨rfl,rfl⟩)
    | ((refine (fail_any ⟨v,H.out⟩ 30 p).mono ?_);rintro e N ⟨rfl,F,G⟩))
   go_ret
   exact (E _ F G).out
end
end
section
open Go.RowKit Go.ChangeMaps
open Go.RowKit Go.ChangeMaps
variable {b r:Nat}
def meth (f g:Nat):Value:=.func (.func f) #[.pointer (some ⟨g,0,none⟩)] #[]
def ent (g:Nat) (i:Nat) (p:Nat × Nat):MapEntry:=⟨.int .i32 p.1,meth p.2 g,i⟩
def ents (g:Nat) (l:List (Nat × Nat)):Array MapEntry:=(l.mapIdx (ent g)).toArray
theorem zpZ (g:Nat) (l:List (Nat × Nat)) (p:Nat × Nat):ents g (l ++ [p])=(ents g l).push (ent g l.length p):=by
 unfold ents;rw [List.mapIdx_append];simp
def sgs:List Nat:=[123,125,40,41,58,44,59,124,38,45,46,35]
def bls:List Nat:=[32,9,10]
def sgE (j:Nat):List (Nat × Nat):=(47,209)::(sgs.take j).map fun c=>(c,210)
def blE (j:Nat):List (Nat × Nat):=sgE 12 ++ (bls.take j).map fun c=>(c,211)
theorem zgo (g:Nat) (z:Int):∀(l:List (Nat × Nat)) (i k:Nat),Instr.findNow (.int .i32) (.int .i32 z) (l.mapIdx fun j p=>ent g (j + k) p) i=some ((l.zipIdx i).find? (fun q=>decide ((q.1.1:Int)=z)) |>.map fun q=>(q.2,meth q.1.2 g))
 | [],_,_=>rfl
 | p::r,i,k=>by
  rw [List.mapIdx_cons];show Instr.findNow (.int .i32) (.int .i32 z) (ent g (0 + k) p::_) i=_;have ih:=zgo g z r (i + 1) (k + 1);unfold Instr.findNow;rw [List.zipIdx_cons,ycQ];by_cases h:(p.1:Int)=z
  · have:Instr.sameNow (.int .i32) (.int .i32 z) (ent g (0 + k) p).key=some true:=by simp [Instr.sameNow,ent,h]
    rw [this];simp [h,ent]
  · have b:¬z=(p.1:Int):=fun e=>h e.symm;have:Instr.sameNow (.int .i32) (.int .i32 z) (ent g (0 + k) p).key=some false:=by simp [Instr.sameNow,ent,b]
    rw [this];simp only [h,decide_false];rw [←ih];congr 2
    funext j q
    rw [show j + 1 + k=j + (k + 1) by omega]
theorem zhk (g:Nat) (z:Int) (l:List (Nat × Nat)):Instr.findNow (.int .i32) (.int .i32 z) (ents g l).toList 0=some ((l.zipIdx 0).find? (fun q=>decide ((q.1.1:Int)=z)) |>.map fun q=>(q.2,meth q.1.2 g)):=by
 have:=zgo g z l 0 0;simpa [ents] using this
theorem zhc (b:Bool) (z:Int) (W:World):(Instr.checkKey b 10000 21 (.int .i32 z)).run Tryz.prog W = .ok () W:=by
 unfold Instr.checkKey;simp [run_underlying Tryz.underlying21]
theorem run_upd (W:World) {g clk:Nat} {l:List (Nat × Nat)} (hb:W.heap[b]? = some (.map (ents g l) clk)) (hc:clk=l.length) (z f:Nat) (hf:(l.zipIdx 0).find? (fun q=>decide ((q.1.1:Int)=(z:Int)))=none) :
 (Instr.mapUpdate 271 (.map (some b)) (.int .i32 z) (meth f g)).run Tryz.prog W = .ok () (setBlock W b (.map (ents g (l ++ [(z,f)])) (l ++ [(z,f)]).length)):=by
 subst hc;rw [zpZ];have j:=zhk g z l;rw [hf] at j;simp [Instr.mapUpdate,Instr.findKey,run_underlying Tryz.underlying271,run_underlying Tryz.underlying21,MapKept.run_getObj_map hb,zhc,j,MapKept.run_setObj_map _ hb,Result.andThen,setBlock,ent]
structure Kb (b:Nat) (w w':World):Prop where
 os:w'.os=w.os
 tape:w'.tape=w.tape
 output:w'.output=w.output
 size:w'.heap.size=w.heap.size
 block:∀k,k≠b→w'.heap[k]? = w.heap[k]?
theorem Kb.below {B:Nat} {w0 w w':World} (h:Kb b w w') (hb:Below B w0 w) (hB:B≤b):Below B w0 w' :=
 hb.trans ⟨h.os,h.tape,h.output,by rw [h.size];exact yaj _,fun k hk=>h.block k yab⟩
theorem kb_set (W:World) (b:Nat) (o:Obj):Kb b W (setBlock W b o) :=
 ⟨rfl,rfl,rfl,by simp [setBlock],fun k hk=>by simp only [setBlock];rw [Array.getElem?_setIfInBounds,yak (by omega)]⟩
theorem zsb (W:World) {g clk:Nat} {l l':List (Nat × Nat)} (hb:W.heap[b]? = some (.map (ents g l) clk)) (hc:clk=l.length) (z:Int) (c f:Nat) (hz:z=(c:Int)) (hl:l'=l ++ [(c,f)]) (hf:(l.zipIdx 0).find? (fun q=>decide ((q.1.1:Int)=(c:Int)))=none) :
 ∃W',(Instr.mapUpdate 271 (.map (some b)) (.int .i32 z) (.func (.func f) #[.pointer (some ⟨g,0,none⟩)] #[])).run Tryz.prog W = .ok () W'∧W'.heap[b]? = some (.map (ents g l') l'.length)∧Kb b W W':=by
 subst hl hz;refine ⟨_,run_upd W hb hc c f hf,?_,kb_set _ _ _⟩;have:b<W.heap.size:=(yaR.1 hb).1;simp [setBlock,this]
def sgS:ByteArray:=⟨#[123,125,40,41,58,44,59,124,38,45,46,35]⟩
def blS:ByteArray:=⟨#[32,9,10]⟩
theorem sg_dec:∀k,k<12→Utf8.decode sgS k=(sgs.getD k 0,1):=by decide +kernel
theorem sg_new:∀k,k<12→sgE (k + 1)=sgE k ++ [(sgs.getD k 0,210)]∧(((sgE k).zipIdx 0).find? (fun q=>decide ((q.1.1:Int)=(sgs.getD k 0:Nat)))).isNone=true:=by decide +kernel
theorem bl_dec:∀k,k<3→Utf8.decode blS k=(bls.getD k 0,1):=by decide +kernel
theorem bl_new:∀k,k<3→blE (k + 1)=blE k ++ [(bls.getD k 0,211)]∧(((blE k).zipIdx 0).find? (fun q=>decide ((q.1.1:Int)=(bls.getD k 0:Nat)))).isNone=true:=by decide +kernel
theorem acts_any (w:World) (g:Nat) :
 Calls Tryz.prog 157 #[.pointer (some ⟨g,0,none⟩)] w fun e w'=>e = .returned (.map (some w.heap.size))∧w'.heap[w.heap.size]? = some (.map (ents g (blE 3)) (blE 3).length)∧Below w.heap.size w w':=by
 have U:=@run_makeMap Tryz.prog;have T:(w.alloc (.map #[] 0)).heap[w.heap.size]? = some (.map (ents g []) 0):=heap_alloc_new w _;obtain ⟨C,V,D,B⟩:=zsb (w.alloc (.map #[] 0)) T rfl 47 47 209 rfl (l':=sgE 0) rfl rfl;have G:C.heap.size=w.heap.size + 1:=by rw [B.size];simp
 have H:Hid (Below w.heap.size w C):=Lib.hid (B.below ((Below.refl _ w).alloc (yaj _) _) (yaj _));have I:=Lib.hid D;clear D B T;go_enter Tryz.func157,Tryz.ntmps157
 go_wp2
 have J:(C.iter sgS 0).heap.size=w.heap.size + 2:=by simp [World.iter];omega
 go_loopw [] (fun wr=>∃k:Nat,k≤12∧wr.heap[w.heap.size + 1]? = some (.stringIter sgS k)∧wr.heap[w.heap.size]? = some (.map (ents g (sgE k)) (sgE k).length)∧Below w.heap.size w wr∧wr.heap.size=w.heap.size + 2) (fun wr=>12-wr.iterPos (w.heap.size + 1))
 case atStart =>
  refine ⟨0,by omega,?_,?_,H.out.trans ((zbN C sgS).mono yab),J⟩
  · rw [←G];exact zcv C sgS
  · exact ((zbN C sgS).block w.heap.size yab).trans I.out
 case round =>
  obtain ⟨k,hk,hit,b,f,q⟩:=hrel;have x:=Lib.hid hit;have y:=Lib.hid b;have z:=Lib.hid f;have K:=Lib.hid q;by_cases h:k<12
  · have m:=fun ty=>Lib.run_next_any_at (P:=Tryz.prog) wr (w.heap.size + 1) sgS k ty hit h;have s:=Lib.iterAt_heap wr (w.heap.size + 1) sgS k (k + 1) hit;have n:Below (w.heap.size + 1) wr (wr.iterAt (w.heap.size + 1) sgS (k + 1)):=Lib.below_iterAt (Below.refl _ _) (yaj _) sgS (k + 1);rw [sg_dec k h] at m;dsimp only at m;have o:(wr.iterAt (w.heap.size + 1) sgS (k + 1)).heap[w.heap.size]? = some (.map (ents g (sgE k)) (sgE k).length):=by rw [n.block _ (by omega)];exact b
    obtain ⟨A,L,u,j⟩:=zsb _ o rfl ((sgs.getD k 0:Nat):Int) (sgs.getD k 0) 210 rfl (sg_new k h).1 (by simpa using (sg_new k h).2);have M:Hid (A.heap.size=w.heap.size + 2):=Lib.hid (by rw [j.size];have:=n.size;simp [World.iterAt];omega);have E:Hid (A.heap[w.heap.size + 1]? = some (.stringIter sgS (k + 1))):=Lib.hid (by rw [j.block _ (by omega)];exact s);have N:=Lib.hid u;have O:Hid (Below w.heap.size w A):=Lib.hid (j.below (f.trans (n.mono yab)) (yaj _));clear hit b f q s n o u j;generalize sgs.getD k 0=c at *
    go_wp2
    go_roundw
    case rel=>exact ⟨k + 1,by omega,E.out,N.out,O.out,M.out⟩
    case measure =>
     have Q:wr.iterPos (w.heap.size + 1)=k:=by simp only [World.iterPos,x.out]
     have R:A.iterPos (w.heap.size + 1)=k + 1:=by simp only [World.iterPos,E.out]
     rw [Q,R];omega
  · obtain rfl:k=12:=by omega
    have m:=fun ty=>Lib.run_next_end_at (P:=Tryz.prog) wr (w.heap.size + 1) sgS 12 ty hit h;clear hit b f;go_wp2
    have F:(wr.iter blS 0).heap.size=w.heap.size + 3:=by simp [World.iter];omega
    go_loopw [] (fun wr=>∃k:Nat,k≤3∧wr.heap[w.heap.size + 2]? = some (.stringIter blS k)∧wr.heap[w.heap.size]? = some (.map (ents g (blE k)) (blE k).length)∧Below w.heap.size w wr∧wr.heap.size=w.heap.size + 3) (fun wr=>3-wr.iterPos (w.heap.size + 2))
    case atStart =>
     refine ⟨0,by omega,?_,?_,z.out.trans ((zbN wr blS).mono yab),F⟩
     · rw [←q];exact zcv wr blS
     · exact ((zbN wr blS).block w.heap.size yab).trans y.out
    case round =>
     clear F m q x y z K;obtain ⟨k,hk,hit,b,f,q⟩:=hrel;have x:=Lib.hid hit;have y:=Lib.hid b;have z:=Lib.hid f;by_cases h:k<3
     · have m:=fun ty=>Lib.run_next_any_at (P:=Tryz.prog) wr (w.heap.size + 2) blS k ty hit h;have s:=Lib.iterAt_heap wr (w.heap.size + 2) blS k (k + 1) hit;have n:Below (w.heap.size + 2) wr (wr.iterAt (w.heap.size + 2) blS (k + 1)):=Lib.below_iterAt (Below.refl _ _) (yaj _) blS (k + 1);rw [bl_dec k h] at m;dsimp only at m;have o:(wr.iterAt (w.heap.size + 2) blS (k + 1)).heap[w.heap.size]? = some (.map (ents g (blE k)) (blE k).length):=by rw [n.block _ (by omega)];exact b
       obtain ⟨A,L,u,j⟩:=zsb _ o rfl ((bls.getD k 0:Nat):Int) (bls.getD k 0) 211 rfl (bl_new k h).1 (by simpa using (bl_new k h).2);have M:Hid (A.heap.size=w.heap.size + 3):=Lib.hid (by rw [j.size];simp [World.iterAt];omega);have E:Hid (A.heap[w.heap.size + 2]? = some (.stringIter blS (k + 1))):=Lib.hid (by rw [j.block _ (by omega)];exact s);have N:=Lib.hid u;have O:Hid (Below w.heap.size w A):=Lib.hid (j.below (f.trans (n.mono yab)) (yaj _));clear hit b f q s n o u j;generalize bls.getD k 0=c at *
       go_wp2
       go_roundw
       case rel=>exact ⟨k + 1,by omega,E.out,N.out,O.out,M.out⟩
       case measure =>
        have Q:wr.iterPos (w.heap.size + 2)=k:=by simp only [World.iterPos,x.out]
        have R:A.iterPos (w.heap.size + 2)=k + 1:=by simp only [World.iterPos,E.out]
        rw [Q,R];omega
     · obtain rfl:k=3:=by omega
       have m:=fun ty=>Lib.run_next_end_at (P:=Tryz.prog) wr (w.heap.size + 2) blS 3 ty hit h;clear hit b f q;go_wp2
       go_ret
       exact ⟨rfl,y.out,z.out⟩
theorem act_sign:∀c ∈ sgs,((blE 3).zipIdx 0).find? (fun q=>decide ((q.1.1:Int)=(c:Nat))) |>.map (fun q=>q.1.2) |>.any (· == 210):=by decide +kernel
theorem zpy:∀c ∈ bls,((blE 3).zipIdx 0).find? (fun q=>decide ((q.1.1:Int)=(c:Nat))) |>.map (fun q=>q.1.2) |>.any (· == 211):=by decide +kernel
theorem act_all:∀q ∈ (blE 3).zipIdx 0,q.1.1=47∨zcq q.1.1=true∨zbG q.1.1=true:=by decide +kernel
theorem sgs_mem {c:Nat} (h:zcq c=true):c ∈ sgs:=by
 have:=zcV.1 h;simp only [sgs,yaw,ya1,ybA];omega
theorem bls_mem {c:Nat} (h:zbG c=true):c ∈ bls:=by
 have:=zb0.1 h;simp only [bls,yaw,ya1,ybA];omega
section
variable (W:World) {m g clk:Nat} (hb:W.heap[m]? = some (.map (ents g (blE 3)) clk))
include hb
theorem look_hit (r f:Nat) (i:Nat) (hf:Instr.findNow (.int .i32) (.int .i32 (r:Int)) (ents g (blE 3)).toList 0=some (some (i,meth f g))) :
 (Instr.lookup 271 (.map (some m)) (.int .i32 (r:Int)) true).run Tryz.prog W = .ok (.tuple #[.func (.func f) #[.pointer (some ⟨g,0,none⟩)] #[],.bool true]) W:=by
 simp [Instr.lookup,Instr.findKey,run_underlying Tryz.underlying271,run_underlying Tryz.underlying21,MapKept.run_getObj_map hb,zhc,hf,Result.andThen,meth]
theorem zqK (r f:Nat) (h:(((blE 3).zipIdx 0).find? (fun q=>decide ((q.1.1:Int)=(r:Nat))) |>.map (fun q=>q.1.2) |>.any (· == f))=true) :
 (Instr.lookup 271 (.map (some m)) (.int .i32 (r:Int)) true).run Tryz.prog W = .ok (.tuple #[.func (.func f) #[.pointer (some ⟨g,0,none⟩)] #[],.bool true]) W:=by
 have b:=zhk g (r:Int) (blE 3);cases j:((blE 3).zipIdx 0).find? (fun q=>decide ((q.1.1:Int)=(r:Int))) with
 | none=>rw [j] at h;simp at h
 | some q =>
  rw [j] at h b;simp only [ybG,Option.any_some,ybY] at h b;rw [h] at b;exact look_hit W hb r f q.2 b
theorem zqN (h:zcq r=true):(Instr.lookup 271 (.map (some m)) (.int .i32 (r:Int)) true).run Tryz.prog W = .ok (.tuple #[.func (.func 210) #[.pointer (some ⟨g,0,none⟩)] #[],.bool true]) W :=
 zqK W hb r _ (act_sign r (sgs_mem h))
theorem zoJ (h:zbG r=true):(Instr.lookup 271 (.map (some m)) (.int .i32 (r:Int)) true).run Tryz.prog W = .ok (.tuple #[.func (.func 211) #[.pointer (some ⟨g,0,none⟩)] #[],.bool true]) W :=
 zqK W hb r _ (zpy r (bls_mem h))
theorem zqM (h1:r≠47) (h2:zcq r=false) (h3:zbG r=false):(Instr.lookup 271 (.map (some m)) (.int .i32 (r:Int)) true).run Tryz.prog W = .ok (.tuple #[.nilFunc,.bool false]) W:=by
 have f:∀W,(zeroValue 101).run Tryz.prog W = .ok .nilFunc W:=(zero_of_info (P:=Tryz.prog) (t:=101) (v:=.nilFunc) (n:=1) yaa).1;have j:((blE 3).zipIdx 0).find? (fun q=>decide ((q.1.1:Int)=(r:Int)))=none:=by
  rw [List.find?_eq_none];intro q k;have:=act_all q k;simp only [yaP];intro e;have o:q.1.1=r:=by omega
  rw [o,h2,h3] at this;simp at this;exact h1 this
 have b:=zhk g (r:Int) (blE 3);rw [j] at b;simp [Instr.lookup,Instr.findKey,run_underlying Tryz.underlying271,run_underlying Tryz.underlying21,MapKept.run_getObj_map hb,zhc,b,f,Result.andThen]
end
end
section
open Go.RowKit Go.ChangeMaps
structure Al (w0:World) (g m i B:Nat) (s:ByteArray) (wr:World) (k j:Nat) (l:List Tk):Prop where
 kj:k≤j
 jc:j≤cnt s
 it:wr.heap[i]? = some (.stringIter s (plc s k))
 mp:wr.heap[m]? = some (.map (ents g (blE 3)) (blE 3).length)
 sc:Sc B wr g s l 0
 bel:Below w0.heap.size w0 wr
 big:B≤wr.heap.size
 toks:l ++ (zei (cutB s j) (plc s j)).1=(zei s 0).1
 code:(zei (cutB s j) (plc s j)).2=(zei s 0).2
 few:l.length≤j
 lo:w0.heap.size≤g
 li:w0.heap.size≤i
 gi:g≠i
 gm:g≠m
 mi:m≠i
 iB:i<B
 mB:m<B
section
variable {w0 wr w3:World} {g m i B:Nat} {s:ByteArray} {k j:Nat} {l:List Tk}
theorem Al.next (h:Al w0 g m i B s wr k j l) (hk:plc s k<s.size):(wr.iterAt i s (plc s k + (Utf8.decode s (plc s k)).2)).heap[i]? = some (.stringIter s (plc s (k + 1))):=by
 rw [zaK hk];exact Lib.iterAt_heap wr i s _ _ h.it
theorem zd3 (w:World) (i:Nat) (s:ByteArray) (p:Nat) {q:Nat} (h:q≠i):(w.iterAt i s p).heap[q]? = w.heap[q]?:=Lib.iterAt_other w i q s p h
theorem Sc.at_iter (h:Sc B wr g s l 0) {t:ByteArray} {p q:Nat} (hi:wr.heap[i]? = some (.stringIter t p)) (hg:g≠i):Sc B (wr.iterAt i t q) g s l 0:=by
 obtain ⟨v,h⟩:=h;refine ⟨v,(zd3 _ _ _ _ hg).trans h.cells,zaH h.row fun y f=>zd3 _ _ _ _ ?_,h.lt⟩;rintro rfl;rcases h.row.2 with ⟨e,_⟩ | ⟨b,cap,k,e,_,j,_⟩
 · rw [e] at f;simp [Value.ownBlock] at f
 · rw [e] at f;simp only [Value.ownBlock,yaT] at f;rw [f,hi] at j;cases j
theorem Al.sc2 (h:Al w0 g m i B s wr k j l) (q:Nat):Sc B (wr.iterAt i s q) g s l 0:=h.sc.at_iter h.it h.gi
theorem Al.bel2 (h:Al w0 g m i B s wr k j l) (q:Nat):Below w0.heap.size w0 (wr.iterAt i s q):=Lib.below_iterAt h.bel h.li s q
theorem Al.mp2 (h:Al w0 g m i B s wr k j l) (q:Nat):(wr.iterAt i s q).heap[m]? = some (.map (ents g (blE 3)) (blE 3).length):=(zd3 _ _ _ _ h.mi).trans h.mp
theorem Al.big2 (h:Al w0 g m i B s wr k j l) (q:Nat):B≤(wr.iterAt i s q).heap.size:=by rw [Lib.iterAt_size];exact h.big
theorem Al.skip (h:Al w0 g m i B s wr k j l) (hk:plc s k<s.size) (hj:k<j):Al w0 g m i B s (wr.iterAt i s (plc s k + (Utf8.decode s (plc s k)).2)) (k + 1) j l :=
 ⟨hj,h.jc,h.next hk,h.mp2 _,h.sc2 _,h.bel2 _,h.big2 _,h.toks,h.code,h.few,h.lo,h.li,h.gi,h.gm,h.mi,h.iB,h.mB⟩
theorem zm3 {s:ByteArray} {k:Nat} (hk:plc s k<s.size):0<(cutB s k).size:=by have:=zaM s k;omega
theorem Al.scan_err (h:Al w0 g m i B s wr k k l) (hk:plc s k<s.size) (h3:3≤kd (cutB s k)):(zei s 0).2=(kd (cutB s k),plc s k):=by
 have e:=Go.Proofs.YtmblgnddgmfkhaaGreat.scan_err (off:=plc s k) (zm3 hk) h3;have b:=h.code;rw [e] at b;exact b.symm
theorem Al.step (h:Al w0 g m i B s wr k k l) (hk:plc s k<s.size) (h3:kd (cutB s k)<3) (hp:Kp g B (wr.iterAt i s (plc s k + (Utf8.decode s (plc s k)).2)) w3) (hs:Sc B w3 g s (l ++ zfK (cutB s k) (plc s k)) 0) :
 Al w0 g m i B s w3 (k + 1) (k + ln (cutB s k)) (l ++ zfK (cutB s k) (plc s k)):=by
 have b:=zm3 hk;have x:=ln_pos b h3;have q:=ln_le b;rw [zm0] at q;have f:=zmH (off:=plc s k) b h3;have u:=zeA s k (ln (cutB s k));rw [zpS,u] at f;have n:=h.toks;have o:=h.code;obtain ⟨r,j⟩:∃r,zei (cutB s (k + ln (cutB s k))) (plc s (k + ln (cutB s k)))=r:=⟨_,rfl⟩;rw [j] at f;generalize zei (cutB s k) (plc s k)=r0 at *
 subst f;dsimp only at n o;refine ⟨by omega,by have:=h.jc;omega,(hp.block i h.iB (Ne.symm h.gi)).trans (h.next hk),(hp.block m h.mB (Ne.symm h.gm)).trans (h.mp2 _),hs,(h.bel2 (plc s k + (Utf8.decode s (plc s k)).2)).trans (hp.below (by have:=h.iB;have:=h.li;omega) h.lo),yay (h.big2 _) hp.size,?_,by rw [j];exact o,?_,h.lo,h.li,h.gi,h.gm,h.mi,h.iB,h.mB⟩
 · rw [j,yaD];exact n
 · rw [yam];have:=h.few;have:(zfK (cutB s k) (plc s k)).length≤1:=by unfold zfK;split <;> simp
   omega
theorem Al.fin (h:Al w0 g m i B s wr k j l) (hk:¬plc s k<s.size):plc s j=s.size∧(zei s 0).2=(0,0)∧(zei s 0).1=l ++ [(3,⟨#[]⟩,s.size)]:=by
 have o:=zba s j;have q:=zbi s h.kj;have b:plc s j=s.size:=by omega
 have x:=zaM s j;have e:=zfH (u:=cutB s j) (off:=plc s j) yab;have f:=h.toks;have n:=h.code;rw [e,b] at f;rw [e] at n;exact ⟨b,n.symm,f.symm⟩
end
def Toks (w:World) (A:Option Addr) (c:Nat) (l:List Tk):Prop:=Rd w w.heap.size 3 A l.length c (tcells l)
def AllPost (s:ByteArray) (w:World) (e:Ending) (w':World):Prop :=
 (∃A c,e = .returned (.tuple #[.slice A (zc2 s).1.length c,.int .i64 (zc2 s).2.1,.int .i64 (zc2 s).2.2])∧Toks w' A c (zc2 s).1)∧Below w.heap.size w w'
theorem AllPost.empty {s:ByteArray} {w w':World} {e p:Nat} (h:zc2 s=([],e,p)) (hb:Below w.heap.size w w'):AllPost s w (.returned (.tuple #[.slice none 0 0,.int .i64 e,.int .i64 p])) w':=by
 refine ⟨⟨none,0,by rw [h];rfl,?_⟩,hb⟩;rw [h];exact Rd.none_ _ _ _
end
end Go.Proofs.YtmblgnddgmfkhaaGreat
