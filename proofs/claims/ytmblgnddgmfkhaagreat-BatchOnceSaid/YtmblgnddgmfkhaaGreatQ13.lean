import Derived.Laws.StandIn
import Derived.Maps.Own
import Derived.LoopN
import Derived.Deep.WholeRow
import Derived.Test.YtmblgnddgmfkhaaGreatQ06
set_option maxRecDepth 100000
set_option maxHeartbeats 4000000
namespace Go.Proofs.YtmblgnddgmfkhaaGreat
section
open Go.RowKit
open Go.RowKit
open Go.RowKit
variable {u:ByteArray}
theorem zqm {q:Nat} (h:q<plc u (ntN u)):bt u q≠10:=by
 obtain ⟨j,n,f⟩:=zlZ (s:=u) (k:=q) (ntN u) h;have m:j<ntN u:=by
  rcases ybH j (ntN u) with d | d
  · exact d
  · have:=za8 u d;omega
 obtain ⟨a,b⟩:=(zcD _ u).1 j m;rcases ybH (plc u j) q with g | g
 · rw [zaF a] at f;have:=zid a g f;omega
 · obtain rfl:plc u j=q:=by omega
   simpa using b
theorem nt_end (h:plc u (ntN u)<u.size):bt u (plc u (ntN u))=10:=by
 have b:(!decide (bt u (plc u (ntN u))=10))=false:=(zcD (fun i=>!decide (bt u i=10)) u).2 h;simpa using b
def nlZ (u:ByteArray):Int:=if plc u (ntN u)<u.size then (plc u (ntN u):Int) else -1
theorem ziV (u:ByteArray) (i:Nat) (h:i<u.size):(u[i]! == UInt8.ofNat 10)=decide (bt u i=10):=by
 rw [getElem!_pos u i h,zhH u i h,ya6,ybS,ybA];constructor
 · intro e;rw [e];rfl
 · intro e;exact UInt8.toNat_inj.1 e
theorem zlq (u:ByteArray):firstIdx u (10:Int).toNat.toUInt8=nlZ u:=by
 show firstIdx u (UInt8.ofNat 10)=nlZ u;unfold firstIdx nlZ;by_cases h:plc u (ntN u)<u.size
 · rw [yan h];have e:(List.range u.size).find? (fun i=>u[i]! == UInt8.ofNat 10)=some (plc u (ntN u)):=by
    rw [List.find?_range_eq_some];refine ⟨by rw [ziV u _ h,yaD (nt_end h)],by simpa using h,fun j b=>?_⟩;rw [ziV u j yab,yaH (zqm b)];rfl
   rw [e]
 · rw [yak h];have e:(List.range u.size).find? (fun i=>u[i]! == UInt8.ofNat 10)=none:=by
    rw [List.find?_range_eq_none];intro i hi;rw [ziV u i hi];have:=zqm (u:=u) (q:=i) yab;simp [this]
   rw [e]
theorem hasPrefix_any (u t:ByteArray) (w:World) :
 Calls Tryz.prog 243 #[.string u,.string t] w fun e w'=>e = .returned (.bool (preB u t))∧w'=w:=by
 go_enter Tryz.func243,Tryz.ntmps243
 go_wp2_with ((refine (pre_any _ _ _).mono ?_);rintro e w' ⟨rfl,rfl⟩)
 go_ret
 exact ⟨rfl,rfl⟩
theorem indexByte_any (u:ByteArray) (w:World) :
 Calls Tryz.prog 264 #[.string u,.int .u8 10] w fun e w'=>e = .returned (.int .i64 (nlZ u))∧w'=w:=by
 have b:∀W,(callFunc 281 #[.string u,.int .u8 10]).run Tryz.prog W = .ok (.value (.int .i64 (nlZ u))) W:=fun W=>by
  rw [run_callFunc_indexByte Tryz.func281 yaa yaa yaa yaa,run_indexByte_string,zlq];rfl
 go_enter Tryz.func264,Tryz.ntmps264
 go_wp2
 go_ret
 exact ⟨rfl,rfl⟩
theorem index_nl (u:ByteArray) (w:World) (_:u.size≤1000000) :
 Calls Tryz.prog 233 #[.string u,.string ⟨#[10]⟩] w fun e w'=>e = .returned (.int .i64 (nlZ u))∧w'=w:=by
 by_cases d:u=sNl
 · have g:([10] == u.toList)=true:=by subst d;decide +kernel
   have f:nlZ u=0:=by subst d;decide +kernel
   have j:=Lib.hid f;clear d f;go_enter Tryz.func233,Tryz.ntmps233
   go_wp2
   go_ret
   exact ⟨by rw [j.out];rfl,rfl⟩
 · have g:([10] == u.toList)=false:=by
    have:=zhy (a:=sNl) (b:=u) (fun e=>d e.symm);rwa [show sNl.toList=[10] by decide +kernel] at this
   clear d;go_enter Tryz.func233,Tryz.ntmps233
   go_wp2_with ((refine (indexByte_any u _).mono ?_);rintro e w' ⟨rfl,rfl⟩)
   go_ret
   exact ⟨rfl,rfl⟩
theorem cutLite_nl (u:ByteArray) (w:World) (hs:u.size≤1000000) :
 Calls Tryz.prog 186 #[.string u,.string ⟨#[10]⟩] w fun e w'=>(∃y b,e = .returned (.tuple #[.string (cutA u (ntN u)),.string y,.bool b]))∧Below w.heap.size w w':=by
 have j:=za2 u (ntN u);by_cases h:plc u (ntN u)<u.size
 · have f:nlZ u=(plc u (ntN u):Int):=yan h;have d:∀W,_:=fun W=>index_nl u W hs;rw [f] at d;have g:Hid (cutA u (ntN u)=u.extract 0 (plc u (ntN u))):=Lib.hid rfl;clear f;generalize plc u (ntN u)=p at *
   go_enter Tryz.func186,Tryz.ntmps186
   go_wp2_with ((with_reducible refine (d _).mono ?_);rintro e w' ⟨rfl,rfl⟩)
   go_quiet (fail)
   go_wp2
   go_ret3
   rw [g.out];exact ⟨⟨_,_,rfl⟩,⟨rfl,rfl,rfl,yaj _,fun _ _=>rfl⟩⟩
 · have f:nlZ u = -1:=yak h;have d:∀W,_:=fun W=>index_nl u W hs;rw [f] at d;have g:Hid (cutA u (ntN u)=u):=Lib.hid (by unfold cutA;rw [show plc u (ntN u)=u.size by omega];exact ziP u);go_enter Tryz.func186,Tryz.ntmps186
   go_wp2_with ((with_reducible refine (d _).mono ?_);rintro e w' ⟨rfl,rfl⟩)
   go_ret3
   rw [g.out];exact ⟨⟨_,_,rfl⟩,Below.refl _ _⟩
theorem cut_nl (u:ByteArray) (w:World) (hs:u.size≤1000000) :
 Calls Tryz.prog 141 #[.string u,.string ⟨#[10]⟩] w fun e w'=>(∃y b,e = .returned (.tuple #[.string (cutA u (ntN u)),.string y,.bool b]))∧Below w.heap.size w w':=by
 go_enter Tryz.func141,Tryz.ntmps141
 go_wp2_with ((with_reducible refine (cutLite_nl u _ hs).mono ?_);rintro e w' ⟨⟨y,b,rfl⟩,hb⟩)
 go_ret3
 exact ⟨⟨_,_,rfl⟩,hb⟩
theorem firstWord_any (u:ByteArray) (w:World) (_:u.size≤1000000) (hv:zb4 u=true) :
 Calls Tryz.prog 212 #[.string u] w fun e w'=>e = .returned (.string (cutA u (wrN u)))∧Below w.heap.size w w':=by
 have E:=Lib.hid (zcw.1 hv);clear hv;go_enter Tryz.func212,Tryz.ntmps212
 go_wp2
 go_loopw [] (fun wr=>∃k:Nat,k≤cnt u∧zpA w wr u (plc u k)∧Below w.heap.size w wr∧∀j,j<k→zeZ u (plc u j)=true) (fun wr=>u.size-wr.iterPos w.heap.size)
 case atStart=>exact ⟨0,yap _,zcg w u,zbF w u,fun j p=>by omega⟩
 case round =>
  obtain ⟨k,hk,hit,m,n⟩:=hrel;have d:=Lib.hid n;clear n;have z:=Lib.hid hit;have A:=Lib.hid m;have J:=zej u;have K:=za2 u k;by_cases h:plc u k<u.size
  · have B:=zaX.2 h;have L:=zf1 h;have F:=Lib.hid (zaF h);have C:∀ty,(Instr.next (.pointer (some ⟨w.heap.size,0,none⟩)) true ty).run Tryz.prog wr=_:=fun ty=>Lib.run_next_any_at wr w.heap.size u (plc u k) ty hit h;have b:=Lib.hid (Lib.iterAt_heap wr w.heap.size u (plc u k) (plc u k + (Utf8.decode u (plc u k)).2) hit);have f:=Lib.hid (Lib.below_iterAt m (k:=w.heap.size) (yaj _) u (plc u k + (Utf8.decode u (plc u k)).2));clear hit m;have q:nameS (Utf8.encode ((Utf8.decode u (plc u k)).1:Int))=zeZ u (plc u k):=rn_name h (E.out k B);have s:∀W,_:=fun W=>name_any (Utf8.encode ((Utf8.decode u (plc u k)).1:Int)) W (yax (encode_size_le _) yab);rw [q] at s;clear q;have o:w.heap.size≤(wr.iterAt w.heap.size u (plc u k + (Utf8.decode u (plc u k)).2)).heap.size:=f.out.size;cases x:zeZ u (plc u k) with
    | true =>
     rw [x] at s;go_wp2_with ((with_reducible refine (s _).mono ?_);rintro e y ⟨rfl,g⟩)
     go_roundw
     case rel =>
      refine ⟨k + 1,by omega,?_,f.out.trans (g.mono o),fun j p=>?_⟩
      · rw [F.out];show y.heap[w.heap.size]? = _;rw [g.block _ (by have:=b.out;exact (yaO.1 this).1)];exact b.out
      · by_cases e:j=k
        · subst e;exact x
        · exact d.out j yab
     case measure =>
      have G:zpA w y u (plc u k + wd u (plc u k)):=by
       show y.heap[w.heap.size]? = _;rw [g.block _ (by have:=b.out;exact (yaO.1 this).1)];exact b.out
      rw [zdn z.out,zdn G];omega
    | false =>
     rw [x] at s;have D:Hid (wrN u=k):=Lib.hid (zhp (fun j p=>⟨zaX.1 yab,d.out j p⟩) fun _=>x);go_wp2_with ((with_reducible refine (s _).mono ?_);rintro e y ⟨rfl,g⟩)
     go_ret
     exact ⟨by rw [D.out];rfl,f.out.trans (g.mono o)⟩
  · have e:=zeL h fun j p=>zaX.1 yab;have D:Hid (wrN u=k):=Lib.hid (zhp (fun j p=>⟨zaX.1 yab,d.out j p⟩) fun H=>absurd H h);have I:Hid (cutA u k=u):=Lib.hid (zmj yab);have C:∀ty,(Instr.next (.pointer (some ⟨w.heap.size,0,none⟩)) true ty).run Tryz.prog wr=_:=fun ty=>Lib.run_next_end_at wr w.heap.size u (plc u k) ty hit h;clear e hit m;go_wp2
    go_ret
    exact ⟨by rw [D.out,I.out];rfl,A.out⟩
def badZ (s:ByteArray):Int:=if plc s (zjD s)<s.size then (plc s (zjD s):Int) else -1
theorem broken_at (s:ByteArray) (w:World) (hs:s.size≤1000000) :
 Calls Tryz.prog 156 #[.string s] w fun e w'=>e = .returned (.int .i64 (badZ s))∧Below w.heap.size w w':=by
 go_enter Tryz.func156,Tryz.ntmps156
 go_wp2
 go_loopw [] (fun wr=>∃k:Nat,k≤cnt s∧zpA w wr s (plc s k)∧Below w.heap.size w wr∧∀j,j<k→brk s (plc s j)=false) (fun wr=>s.size-wr.iterPos w.heap.size)
 case atStart=>exact ⟨0,yap _,zcg w s,zbF w s,fun j u=>by omega⟩
 case round =>
  obtain ⟨k,hk,hit,m,n⟩:=hrel;have b:=Lib.hid n;clear n;have E:=Lib.hid hit;have F:=Lib.hid m;have P:=zej s;have Q:=za2 s k;by_cases h:plc s k<s.size
  · have J:=zaX.2 h;have R:=zf1 h;have K:=Lib.hid (zaF h);have G:∀ty,(Instr.next (.pointer (some ⟨w.heap.size,0,none⟩)) true ty).run Tryz.prog wr=_:=fun ty=>Lib.run_next_any_at wr w.heap.size s (plc s k) ty hit h;have d:=Lib.hid (Lib.iterAt_heap wr w.heap.size s (plc s k) (plc s k + (Utf8.decode s (plc s k)).2) hit);have f:=Lib.hid (Lib.below_iterAt m (k:=w.heap.size) (yaj _) s (plc s k + (Utf8.decode s (plc s k)).2));clear hit m;have L:=zaH s k;have o:w.heap.size≤(wr.iterAt w.heap.size s (plc s k + (Utf8.decode s (plc s k)).2)).heap.size:=f.out.size;have z:w.heap.size<(wr.iterAt w.heap.size s (plc s k + (Utf8.decode s (plc s k)).2)).heap.size:=(yaO.1 d.out).1;have A:zb4 (cutA (cutB s k) 1) = !brk s (plc s k):=by rw [zls yab,brk_cutB h]
    have B:(cutA (cutB s k) 1).size≤1000000:=by have:=zaZ (cutB s k) 1;have:=za2 (cutB s k) 1;omega
    have I:∀W,Calls Tryz.prog 207 #[.string (s.extract (plc s k) s.size),.int .i64 1] W fun e w'=>e = .returned (.tuple #[.string (cutA (cutB s k) 1),.string (cutB (cutB s k) 1)])∧Below W.heap.size W w':=fun W=>cut_any (cutB s k) 1 W yab yab yab;have C:∀W,_:=fun W=>valid_any (cutA (cutB s k) 1) W B;rw [A] at C;clear A B;generalize cutA (cutB s k) 1=x at *
    generalize cutB (cutB s k) 1=y at *
    cases D:brk s (plc s k) with
    | false =>
     rw [D] at C;go_wp2_with (first
      | ((with_reducible refine (I _).mono ?_);rintro e M ⟨rfl,g⟩)
      | ((with_reducible refine (C _).mono ?_);rintro e w3 ⟨rfl,p⟩))
     have q:Below (wr.iterAt w.heap.size s (plc s k + (Utf8.decode s (plc s k)).2)).heap.size (wr.iterAt w.heap.size s (plc s k + (Utf8.decode s (plc s k)).2)) w3:=g.trans (p.mono g.size);go_roundw
     case rel =>
      refine ⟨k + 1,by omega,?_,f.out.trans (q.mono o),fun j u=>?_⟩
      · rw [K.out];show w3.heap[w.heap.size]? = _;rw [q.block _ z];exact d.out
      · by_cases e:j=k
        · subst e;exact D
        · exact b.out j yab
     case measure =>
      have N:zpA w w3 s (plc s k + wd s (plc s k)):=by
       show w3.heap[w.heap.size]? = _;rw [q.block _ z];exact d.out
      rw [zdn E.out,zdn N];omega
    | true =>
     rw [D] at C;have H:Hid (zjD s=k):=Lib.hid (zhp (fun j u=>⟨zaX.1 yab,by have:=b.out j u;simp [this]⟩) fun _=>by simp [D]);go_wp2_with (first
      | ((with_reducible refine (I _).mono ?_);rintro e M ⟨rfl,g⟩)
      | ((with_reducible refine (C _).mono ?_);rintro e w3 ⟨rfl,p⟩))
     go_ret
     refine ⟨?_,f.out.trans ((g.trans (p.mono g.size)).mono o)⟩;unfold badZ;rw [H.out,yan h];rfl
  · have e:=zeL h fun j u=>zaX.1 yab;have H:Hid (zjD s=k):=Lib.hid (zhp (fun j u=>⟨zaX.1 yab,by have:=b.out j u;simp [this]⟩) fun O=>absurd O h);have G:∀ty,(Instr.next (.pointer (some ⟨w.heap.size,0,none⟩)) true ty).run Tryz.prog wr=_:=fun ty=>Lib.run_next_end_at wr w.heap.size s (plc s k) ty hit h;clear e hit m;go_wp2
    go_ret
    refine ⟨?_,F.out⟩;unfold badZ;rw [H.out,yak h];rfl
def zfd (u:ByteArray) (off:Nat):List Tk:=if kd u=0 then [] else [(kd u,cutA u (ln u),off)]
def Stepped (B g:Nat) (s:ByteArray) (k:Nat) (l:List Tk) (w:World) (e:Ending) (w':World):Prop :=
 Kp g B w w' ∧
 ((kd (cutB s k)<3∧e = .returned (.int .i64 (plc s (k + ln (cutB s k)):Nat))∧Sc B w' g s (l ++ zfd (cutB s k) (plc s k)) 0) ∨
  (3≤kd (cutB s k)∧e = .returned (.int .i64 (plc s k:Nat))∧Sc B w' g s l (kd (cutB s k))))
section
variable {B:Nat} {w:World} {g:Nat} {s:ByteArray} {l:List Tk} {e:Nat} {k:Nat}
theorem fail_any (h:Sc B w g s l e) (c p:Nat) :
 Calls Tryz.prog 213 #[.pointer (some ⟨g,0,none⟩),.int .i64 c,.int .i64 p] w fun e' w'=>e' = .returned (.int .i64 p)∧Sc B w' g s l c∧Kp g B w w':=by
 obtain ⟨v,h⟩:=h;have m:=h.c2;have n:=h.fz;have H:=Lib.hid h;clear h;go_enter Tryz.func213,Tryz.ntmps213
 go_wp2
 go_ret
 have f:=H.out.cells;have b:=H.out.lt;refine ⟨rfl,⟨v,?_,zaD H.out.row fun j d=>Below.heap_setCell _ _ _ _ (by have:=(H.out.row.lt j d).1;show j≠g;omega),b⟩,rfl,rfl,rfl,by simp [World.setCell],fun j d k=>Below.heap_setCell _ _ _ _ (by show j≠g;exact k)⟩;simp [World.setCell,ybx,f]
theorem ziJ {s:ByteArray} {k j:Nat} (h:plc s k + j<s.size):bt (cutB s k) j=bt s (plc s k + j):=by
 have:=zaH s k;exact zdc s k j yab
theorem zqD {s:ByteArray} {k:Nat} (h:plc s k<s.size) (hb:bt s (plc s k)<128):plc s (k + 1)=plc s k + 1:=by
 rw [zaF h,(zli h hb).2]
theorem zoW (h:Sc B w g s l 0) (hs:s.size≤2048) (hk:plc s k<s.size) (hb:zbz (bt s (plc s k))=true) (A:Option Addr) :
 Calls Tryz.prog 211 #[.pointer A,.int .i64 (plc s k:Nat)] w (Stepped B g s k l w):=by
 have m:bt (cutB s k) 0=bt s (plc s k):=ziJ (j:=0) yab;have b:kd (cutB s k)=0:=by unfold kd;rw [m,yan hb]
 have d:ln (cutB s k)=1:=by unfold ln;rw [m,yan hb]
 have n:=zbO.1 hb;have f:=zqD hk yab;have o:Hid (Stepped B g s k l w (.returned (.int .i64 ((plc s k:Nat) + 1:Int))) w):=Lib.hid ⟨Kp.refl _ _ _,.inl ⟨by omega,by rw [d,f];rfl,by unfold zfd;rw [yan b,yaJ];exact h⟩⟩;clear h m b d n hb f;go_enter Tryz.func211,Tryz.ntmps211
 go_wp2
 go_ret
 exact o.out
theorem ziM (s:ByteArray) (k j:Nat):cutA (cutB s k) j=s.extract (plc s k) (plc s (k + j)):=by
 have b:=zd4 s k j;have d:=zaH s k;have f:=zaZ (cutB s k) j;have g:=za2 s (k + j);refine zcH (by rw [zaB];omega) fun i hi=>?_;rw [zfq _ _ i hi,zdc _ _ i (by have:=za2 (cutB s k) j;omega),zbf _ _ _ _ (by omega)]
theorem zoF {s:ByteArray} (hv:zb4 s=true) (k:Nat):zb4 (cutB s k)=true:=by
 rw [zcw] at hv ⊢;intro j d;rw [zmg] at d;have f:=zd4 s k j;have g:=zaH s k;have n:=zaX.1 (show k + j<cnt s by omega);have m:=zfr g (zdc s k) (i:=plc (cutB s k) j) yab;have b:=hv (k + j) yab;unfold brk rn wd at b ⊢;rw [m,f];exact b
theorem sign_any (h:Sc B w g s l 0) (hB:B≤w.heap.size) (hs:s.size≤2048) (hl:l.length<1000000) (hk:plc s k<s.size) (hb:zca (bt s (plc s k))=true) :
 Calls Tryz.prog 210 #[.pointer (some ⟨g,0,none⟩),.int .i64 (plc s k:Nat)] w (Stepped B g s k l w):=by
 have x:bt (cutB s k) 0=bt s (plc s k):=ziJ (j:=0) yab;have y:=zcE.1 hb;have d:¬zbz (bt s (plc s k))=true:=by rw [zbO];omega
 have n:kd (cutB s k)=2:=by unfold kd;rw [x,yak d,yan hb]
 have f:ln (cutB s k)=1:=by unfold ln;rw [x,yak d,yan hb]
 have m:=zqD hk yab;have o:s.extract (plc s k) (plc s k + 1)=cutA (cutB s k) 1:=by rw [ziM,m]
 have q:(s.extract (plc s k) (plc s k + 1)).size=1:=by rw [zaB];omega
 have D:∀W,Sc B W g s l 0→B≤W.heap.size→_:=fun W E z=>add_any (k:=2) (t:=s.extract (plc s k) (plc s k + 1)) (p:=plc s k) E z hl yab yab;have F:∀u,Sc B u g s (l ++ [(2,s.extract (plc s k) (plc s k + 1),plc s k)]) 0→Kp g B w u→Hid (Stepped B g s k l w (.returned (.int .i64 ((plc s k + (s.extract (plc s k) (plc s k + 1)).size:Nat):Int))) u):=fun u a b=>Lib.hid ⟨b,.inl ⟨by omega,by rw [f,m,q],by unfold zfd;rw [yak yab,n,f,←o];exact a⟩⟩;clear hb x n f y m d o;have G:plc s k + 1≤s.size:=hk;obtain ⟨v,h⟩:=h;have I:=h.c0;have H:=Lib.hid h;clear h;generalize plc s k=p at *
 go_enter Tryz.func210,Tryz.ntmps210
 go_wp2_with ((refine (D _ ⟨v,H.out⟩ hB).mono ?_);rintro e J ⟨rfl,A,C⟩)
 go_ret
 have o:=(F _ A C).out;rw [q] at o;exact o
theorem word_any (h:Sc B w g s l 0) (hB:B≤w.heap.size) (hs:s.size≤2048) (hv:zb4 s=true) (hl:l.length<1000000) (hk:plc s k<s.size) (hnb:zbz (bt s (plc s k))=false) (hns:zca (bt s (plc s k))=false) (h47:bt s (plc s k)≠47) :
 Calls Tryz.prog 158 #[.pointer (some ⟨g,0,none⟩),.int .i64 (plc s k:Nat)] w (Stepped B g s k l w):=by
 have P:bt (cutB s k) 0=bt s (plc s k):=ziJ (j:=0) yab;have Q:=zaH s k;have d:kd (cutB s k)=if zeZ (cutB s k) 0=true then (if wrN (cutB s k)≤24 then 1 else 31) else 30:=by
  conv=>lhs;unfold kd
  rw [P,hnb,hns,yak yac,yak yac,yak h47]
 have q:ln (cutB s k)=wrN (cutB s k):=by
  conv=>lhs;unfold ln
  rw [P,hnb,hns,yak yac,yak yac,yak h47]
 have A:=zd4 s k (wrN (cutB s k));have C:=zaZ (cutB s k) (wrN (cutB s k));have K:cnt (cutA (cutB s k) (wrN (cutB s k)))=wrN (cutB s k):=by rw [ziL];have:=zhq (zeZ (cutB s k)) (cutB s k);unfold wrN;omega
 have R:wrN (cutB s k)≤2048:=by have:=zhq (zeZ (cutB s k)) (cutB s k);have:=zej (cutB s k);unfold wrN;omega
 have u:(cutA (cutB s k) (wrN (cutB s k))).size≤1000000:=by have:=za2 (cutB s k) (wrN (cutB s k));omega
 have N:∀W,Calls Tryz.prog 212 #[.string (s.extract (plc s k) s.size)] W fun e w'=>e = .returned (.string (cutA (cutB s k) (wrN (cutB s k))))∧Below W.heap.size W w':=fun W=>firstWord_any (cutB s k) W yab (zoF hv k);have O:∀W,_:=fun W=>count_any (cutA (cutB s k) (wrN (cutB s k))) W u;rw [K] at O;have f:plc s k≤s.size:=ya2 hk;obtain ⟨v,h⟩:=h;have c0:=h.c0;have Z:=h.size;have H:=Lib.hid h;clear h P hnb hns h47 K;by_cases E:zeZ (cutB s k) 0=true
 · rw [yan E] at d;have J:0<wrN (cutB s k):=zgq yab E;have F:0<(cutA (cutB s k) (wrN (cutB s k))).size:=by
    have h1:=za8 (cutB s k) (show 1≤wrN (cutB s k) from J);have h2:plc (cutB s k) 0<plc (cutB s k) 1:=zbb (s:=cutB s k) (k:=0) (by show 0<_;omega);omega
   have a1:=zi8 F;by_cases D:wrN (cutB s k)≤24
   · rw [yan D] at d;have hd:¬((24:Int)<(wrN (cutB s k):Nat)):=by omega
     have ka:∀W,Sc B W g s l 0→B≤W.heap.size→_:=fun W hW T=>add_any (k:=1) (t:=cutA (cutB s k) (wrN (cutB s k))) (p:=plc s k) hW T hl yab u;have L:∀o,Sc B o g s (l ++ [(1,cutA (cutB s k) (wrN (cutB s k)),plc s k)]) 0→Kp g B w o→Hid (Stepped B g s k l w (.returned (.int .i64 ((plc s k + (cutA (cutB s k) (wrN (cutB s k))).size:Nat):Int))) o):=fun o a b=>Lib.hid ⟨b,.inl ⟨by omega,by rw [q,C,A],by unfold zfd;rw [yak yab,d,q];exact a⟩⟩;clear d q A C D J F E Q;generalize cutA (cutB s k) (wrN (cutB s k))=x at *
     generalize wrN (cutB s k)=n at *
     generalize plc s k=p at *
     go_enter Tryz.func158,Tryz.ntmps158
     go_wp2_with (first
      | ((with_reducible refine (N _).mono ?_);rintro e U ⟨rfl,f⟩)
      | ((with_reducible refine (O _).mono ?_);rintro e V ⟨rfl,G⟩;have m:=f.trans (G.mono f.size);have I:=m.size;have M:Hid (ScAt B V g s l 0 v):=Lib.hid (H.out.below m))
      | ((refine (ka _ ⟨v,M.out⟩ (yax hB I)).mono ?_);rintro e X ⟨rfl,y,z⟩))
     go_ret
     exact (L _ y ((Kp.of_below (m.mono hB) g).trans z)).out
   · rw [yak D] at d;have hd:(24:Int)<(wrN (cutB s k):Nat):=by omega
     have L:∀o,Sc B o g s l 31→Kp g B w o→Hid (Stepped B g s k l w (.returned (.int .i64 (plc s k:Nat))) o):=fun o a b=>Lib.hid ⟨b,.inr ⟨by omega,rfl,by rw [d];exact a⟩⟩;clear d q A C D J F E Q;generalize cutA (cutB s k) (wrN (cutB s k))=x at *
     generalize wrN (cutB s k)=n at *
     generalize plc s k=p at *
     go_enter Tryz.func158,Tryz.ntmps158
     go_wp2_with (first
      | ((with_reducible refine (N _).mono ?_);rintro e U ⟨rfl,f⟩)
      | ((with_reducible refine (O _).mono ?_);rintro e V ⟨rfl,G⟩;have m:=f.trans (G.mono f.size);have I:=m.size;have M:Hid (ScAt B V g s l 0 v):=Lib.hid (H.out.below m))
      | ((refine (fail_any ⟨v,M.out⟩ 31 p).mono ?_);rintro e X ⟨rfl,y,z⟩))
     go_ret
     exact (L _ y ((Kp.of_below (m.mono hB) g).trans z)).out
 · rw [yak E] at d;rw [ybZ] at E;have J:wrN (cutB s k)=0:=zqV E;have Y:cutA (cutB s k) (wrN (cutB s k))=⟨#[]⟩:=by rw [J,zo3]
   rw [Y] at N;have L:∀o,Sc B o g s l 30→Kp g B w o→Hid (Stepped B g s k l w (.returned (.int .i64 (plc s k:Nat))) o):=fun o a b=>Lib.hid ⟨b,.inr ⟨by omega,rfl,by rw [d];exact a⟩⟩;clear d q A C J E Q Y O u R;generalize plc s k=p at *
   go_enter Tryz.func158,Tryz.ntmps158
   go_wp2_with (first
    | ((with_reducible refine (N _).mono ?_);rintro e U ⟨rfl,f⟩;have I:=f.size;have M:Hid (ScAt B U g s l 0 v):=Lib.hid (H.out.below f))
    | ((refine (fail_any ⟨v,M.out⟩ 30 p).mono ?_);rintro e X ⟨rfl,y,z⟩))
   go_ret
   exact (L _ y ((Kp.of_below (f.mono hB) g).trans z)).out
theorem zqE:preB u ⟨#[47,47]⟩=decide (1<u.size∧bt u 0=47∧bt u 1=47):=by
 unfold preB;rw [ya6,ybA,ybA,show (⟨#[47,47]⟩:ByteArray).size=2 from rfl];have d:∀j,j<min 2 u.size→bt (u.extract 0 2) j=bt u j:=fun j f=>by rw [zbf _ _ _ _ yab,yaG]
 constructor
 · rintro ⟨g,b⟩;refine ⟨by omega,?_,?_⟩
   · rw [←d 0 yab,b];rfl
   · rw [←d 1 yab,b];rfl
 · rintro ⟨g,b,k⟩;refine ⟨by omega,zcH (by rw [zaB,show (⟨#[47,47]⟩:ByteArray).size=2 from rfl];omega) fun j f=>?_⟩;rw [zaB] at f;rw [d j (by omega)];obtain rfl | rfl:j=0∨j=1:=by omega
   · rw [b];rfl
   · rw [k];rfl
theorem note_any (h:Sc B w g s l 0) (hB:B≤w.heap.size) (hs:s.size≤2048) (hk:plc s k<s.size) (h47:bt s (plc s k)=47) :
 Calls Tryz.prog 209 #[.pointer (some ⟨g,0,none⟩),.int .i64 (plc s k:Nat)] w (Stepped B g s k l w):=by
 have u:bt (cutB s k) 0=bt s (plc s k):=ziJ (j:=0) yab;have G:=zaH s k;have d:kd (cutB s k)=if 1<(cutB s k).size∧bt (cutB s k) 1=47 then 0 else 30:=by
  conv=>lhs;unfold kd
  rw [u,h47,show zbz 47=false from rfl,show zca 47=false from rfl,yak yac,yak yac,yan rfl]
 have m:ln (cutB s k)=ntN (cutB s k):=by
  conv=>lhs;unfold ln
  rw [u,h47,show zbz 47=false from rfl,show zca 47=false from rfl,yak yac,yak yac,yan rfl]
 have n:=zd4 s k (ntN (cutB s k));have o:=zaZ (cutB s k) (ntN (cutB s k));have z:(cutA (cutB s k) (ntN (cutB s k))).size≤1000000:=by have:=za2 (cutB s k) (ntN (cutB s k));omega
 have A:∀W,Calls Tryz.prog 243 #[.string (s.extract (plc s k) s.size),.string ⟨#[47,47]⟩] W fun e w'=>e = .returned (.bool (preB (cutB s k) ⟨#[47,47]⟩))∧w'=W:=fun W=>hasPrefix_any (cutB s k) _ W;have I:∀W,Calls Tryz.prog 141 #[.string (s.extract (plc s k) s.size),.string ⟨#[10]⟩] W fun e w'=>(∃y b,e = .returned (.tuple #[.string (cutA (cutB s k) (ntN (cutB s k))),.string y,.bool b]))∧Below W.heap.size W w':=fun W=>cut_nl (cutB s k) W yab;have C:plc s k≤s.size:=ya2 hk;rw [zqE,u] at A;obtain ⟨v,h⟩:=h;have K:=h.c0;have J:=h.size;have H:=Lib.hid h;clear h;by_cases q:1<(cutB s k).size∧bt (cutB s k) 1=47
 · rw [yan q] at d;rw [yaD ⟨q.1,h47,q.2⟩] at A;have D:∀f,Below w.heap.size w f→Hid (Stepped B g s k l w (.returned (.int .i64 ((plc s k + (cutA (cutB s k) (ntN (cutB s k))).size:Nat):Int))) f):=fun f b=>Lib.hid ⟨Kp.of_below (b.mono hB) g,.inl ⟨by omega,by rw [m,o,n],by unfold zfd;rw [yan d,yaJ];exact ⟨v,H.out.below b⟩⟩⟩;clear d m n o q G u h47;generalize cutA (cutB s k) (ntN (cutB s k))=x at *
   generalize plc s k=p at *
   go_enter Tryz.func209,Tryz.ntmps209
   go_wp2_with (first
    | ((with_reducible refine (A _).mono ?_);rintro e w' ⟨rfl,rfl⟩)
    | ((with_reducible refine (I _).mono ?_);rintro e L ⟨⟨y,b,rfl⟩,C⟩))
   go_ret
   exact (D _ C).out
 · rw [yak q] at d;rw [yaH (fun h=>q ⟨h.1,h.2.2⟩)] at A;have D:∀f,Sc B f g s l 30→Kp g B w f→Hid (Stepped B g s k l w (.returned (.int .i64 (plc s k:Nat))) f):=fun f a b=>Lib.hid ⟨b,.inr ⟨by omega,rfl,by rw [d];exact a⟩⟩;clear d m n o q G u h47 z I;generalize plc s k=p at *
   go_enter Tryz.func209,Tryz.ntmps209
   go_wp2_with (first
    | ((with_reducible refine (A _).mono ?_);rintro e w' ⟨rfl,rfl⟩)
    | ((refine (fail_any ⟨v,H.out⟩ 30 p).mono ?_);rintro e M ⟨rfl,E,F⟩))
   go_ret
   exact (D _ E F).out
end
end
section
open Go.RowKit Go.ChangeMaps
open Go.RowKit Go.ChangeMaps
variable {b r:Nat}
def meth (f g:Nat):Value:=.func (.func f) #[.pointer (some ⟨g,0,none⟩)] #[]
def ent (g:Nat) (i:Nat) (p:Nat × Nat):MapEntry:=⟨.int .i32 p.1,meth p.2 g,i⟩
def ents (g:Nat) (l:List (Nat × Nat)):Array MapEntry:=(l.mapIdx (ent g)).toArray
theorem zpb (g:Nat) (l:List (Nat × Nat)) (p:Nat × Nat):ents g (l ++ [p])=(ents g l).push (ent g l.length p):=by
 unfold ents;rw [List.mapIdx_append];simp
def sgs:List Nat:=[123,125,40,41,58,44,59,124,38,45,46,35]
def bls:List Nat:=[32,9,10]
def sgE (j:Nat):List (Nat × Nat):=(47,209)::(sgs.take j).map fun c=>(c,210)
def blE (j:Nat):List (Nat × Nat):=sgE 12 ++ (bls.take j).map fun c=>(c,211)
theorem zfT (g:Nat) (z:Int):∀(l:List (Nat × Nat)) (i k:Nat),Instr.findNow (.int .i32) (.int .i32 z) (l.mapIdx fun j p=>ent g (j + k) p) i=some ((l.zipIdx i).find? (fun q=>decide ((q.1.1:Int)=z)) |>.map fun q=>(q.2,meth q.1.2 g))
 | [],_,_=>rfl
 | p::r,i,k=>by
  rw [List.mapIdx_cons];show Instr.findNow (.int .i32) (.int .i32 z) (ent g (0 + k) p::_) i=_;have ih:=zfT g z r (i + 1) (k + 1);unfold Instr.findNow;rw [List.zipIdx_cons,ycL];by_cases h:(p.1:Int)=z
  · have:Instr.sameNow (.int .i32) (.int .i32 z) (ent g (0 + k) p).key=some true:=by simp [Instr.sameNow,ent,h]
    rw [this];simp [h,ent]
  · have b:¬z=(p.1:Int):=fun e=>h e.symm;have:Instr.sameNow (.int .i32) (.int .i32 z) (ent g (0 + k) p).key=some false:=by simp [Instr.sameNow,ent,b]
    rw [this];simp only [h,decide_false];rw [←ih];congr 2
    funext j q
    rw [show j + 1 + k=j + (k + 1) by omega]
theorem zgO (g:Nat) (z:Int) (l:List (Nat × Nat)):Instr.findNow (.int .i32) (.int .i32 z) (ents g l).toList 0=some ((l.zipIdx 0).find? (fun q=>decide ((q.1.1:Int)=z)) |>.map fun q=>(q.2,meth q.1.2 g)):=by
 have:=zfT g z l 0 0;simpa [ents] using this
theorem zgH (b:Bool) (z:Int) (W:World):(Instr.checkKey b 10000 21 (.int .i32 z)).run Tryz.prog W = .ok () W:=by
 unfold Instr.checkKey;simp [run_underlying Tryz.underlying21]
theorem run_upd (W:World) {g clk:Nat} {l:List (Nat × Nat)} (hb:W.heap[b]? = some (.map (ents g l) clk)) (hc:clk=l.length) (z f:Nat) (hf:(l.zipIdx 0).find? (fun q=>decide ((q.1.1:Int)=(z:Int)))=none) :
 (Instr.mapUpdate 271 (.map (some b)) (.int .i32 z) (meth f g)).run Tryz.prog W = .ok () (setBlock W b (.map (ents g (l ++ [(z,f)])) (l ++ [(z,f)]).length)):=by
 subst hc;rw [zpb];have d:=zgO g z l;rw [hf] at d;simp [Instr.mapUpdate,Instr.findKey,run_underlying Tryz.underlying271,run_underlying Tryz.underlying21,MapKept.run_getObj_map hb,zgH,d,MapKept.run_setObj_map _ hb,Result.andThen,setBlock,ent]
structure Kb (b:Nat) (w w':World):Prop where
 os:w'.os=w.os
 tape:w'.tape=w.tape
 output:w'.output=w.output
 size:w'.heap.size=w.heap.size
 block:∀k,k≠b→w'.heap[k]? = w.heap[k]?
theorem Kb.below {B:Nat} {w0 w w':World} (h:Kb b w w') (hb:Below B w0 w) (hB:B≤b):Below B w0 w' :=
 hb.trans ⟨h.os,h.tape,h.output,by rw [h.size];exact yaj _,fun k hk=>h.block k yab⟩
theorem kb_set (W:World) (b:Nat) (o:Obj):Kb b W (setBlock W b o) :=
 ⟨rfl,rfl,rfl,by simp [setBlock],fun k hk=>by simp only [setBlock];rw [Array.getElem?_setIfInBounds,yak (by omega)]⟩
theorem zrl (W:World) {g clk:Nat} {l l':List (Nat × Nat)} (hb:W.heap[b]? = some (.map (ents g l) clk)) (hc:clk=l.length) (z:Int) (c f:Nat) (hz:z=(c:Int)) (hl:l'=l ++ [(c,f)]) (hf:(l.zipIdx 0).find? (fun q=>decide ((q.1.1:Int)=(c:Int)))=none) :
 ∃W',(Instr.mapUpdate 271 (.map (some b)) (.int .i32 z) (.func (.func f) #[.pointer (some ⟨g,0,none⟩)] #[])).run Tryz.prog W = .ok () W'∧W'.heap[b]? = some (.map (ents g l') l'.length)∧Kb b W W':=by
 subst hl hz;refine ⟨_,run_upd W hb hc c f hf,?_,kb_set _ _ _⟩;have:b<W.heap.size:=(yaO.1 hb).1;simp [setBlock,this]
def sgS:ByteArray:=⟨#[123,125,40,41,58,44,59,124,38,45,46,35]⟩
def blS:ByteArray:=⟨#[32,9,10]⟩
theorem sg_dec:∀k,k<12→Utf8.decode sgS k=(sgs.getD k 0,1):=by decide +kernel
theorem sg_new:∀k,k<12→sgE (k + 1)=sgE k ++ [(sgs.getD k 0,210)]∧(((sgE k).zipIdx 0).find? (fun q=>decide ((q.1.1:Int)=(sgs.getD k 0:Nat)))).isNone=true:=by decide +kernel
theorem bl_dec:∀k,k<3→Utf8.decode blS k=(bls.getD k 0,1):=by decide +kernel
theorem bl_new:∀k,k<3→blE (k + 1)=blE k ++ [(bls.getD k 0,211)]∧(((blE k).zipIdx 0).find? (fun q=>decide ((q.1.1:Int)=(bls.getD k 0:Nat)))).isNone=true:=by decide +kernel
theorem acts_any (w:World) (g:Nat) :
 Calls Tryz.prog 157 #[.pointer (some ⟨g,0,none⟩)] w fun e w'=>e = .returned (.map (some w.heap.size))∧w'.heap[w.heap.size]? = some (.map (ents g (blE 3)) (blE 3).length)∧Below w.heap.size w w':=by
 have R:=@run_makeMap Tryz.prog;have Q:(w.alloc (.map #[] 0)).heap[w.heap.size]? = some (.map (ents g []) 0):=heap_alloc_new w _;obtain ⟨A,T,B,z⟩:=zrl (w.alloc (.map #[] 0)) Q rfl 47 47 209 rfl (l':=sgE 0) rfl rfl;have E:A.heap.size=w.heap.size + 1:=by rw [z.size];simp
 have F:Hid (Below w.heap.size w A):=Lib.hid (z.below ((Below.refl _ w).alloc (yaj _) _) (yaj _));have G:=Lib.hid B;clear B z Q;go_enter Tryz.func157,Tryz.ntmps157
 go_wp2
 have H:(A.iter sgS 0).heap.size=w.heap.size + 2:=by simp [World.iter];omega
 go_loopw [] (fun wr=>∃k:Nat,k≤12∧wr.heap[w.heap.size + 1]? = some (.stringIter sgS k)∧wr.heap[w.heap.size]? = some (.map (ents g (sgE k)) (sgE k).length)∧Below w.heap.size w wr∧wr.heap.size=w.heap.size + 2) (fun wr=>12-wr.iterPos (w.heap.size + 1))
 case atStart =>
  refine ⟨0,by omega,?_,?_,F.out.trans ((zbF A sgS).mono yab),H⟩
  · rw [←E];exact zcg A sgS
  · exact ((zbF A sgS).block w.heap.size yab).trans G.out
 case round =>
  obtain ⟨k,hk,hit,b,d,o⟩:=hrel;have s:=Lib.hid hit;have u:=Lib.hid b;have x:=Lib.hid d;have I:=Lib.hid o;by_cases h:k<12
  · have j:=fun ty=>Lib.run_next_any_at (P:=Tryz.prog) wr (w.heap.size + 1) sgS k ty hit h;have p:=Lib.iterAt_heap wr (w.heap.size + 1) sgS k (k + 1) hit;have m:Below (w.heap.size + 1) wr (wr.iterAt (w.heap.size + 1) sgS (k + 1)):=Lib.below_iterAt (Below.refl _ _) (yaj _) sgS (k + 1);rw [sg_dec k h] at j;dsimp only at j;have n:(wr.iterAt (w.heap.size + 1) sgS (k + 1)).heap[w.heap.size]? = some (.map (ents g (sgE k)) (sgE k).length):=by rw [m.block _ (by omega)];exact b
    obtain ⟨y,J,q,f⟩:=zrl _ n rfl ((sgs.getD k 0:Nat):Int) (sgs.getD k 0) 210 rfl (sg_new k h).1 (by simpa using (sg_new k h).2);have K:Hid (y.heap.size=w.heap.size + 2):=Lib.hid (by rw [f.size];have:=m.size;simp [World.iterAt];omega);have C:Hid (y.heap[w.heap.size + 1]? = some (.stringIter sgS (k + 1))):=Lib.hid (by rw [f.block _ (by omega)];exact p);have L:=Lib.hid q;have M:Hid (Below w.heap.size w y):=Lib.hid (f.below (d.trans (m.mono yab)) (yaj _));clear hit b d o p m n q f;generalize sgs.getD k 0=c at *
    go_wp2
    go_roundw
    case rel=>exact ⟨k + 1,by omega,C.out,L.out,M.out,K.out⟩
    case measure =>
     have N:wr.iterPos (w.heap.size + 1)=k:=by simp only [World.iterPos,s.out]
     have O:y.iterPos (w.heap.size + 1)=k + 1:=by simp only [World.iterPos,C.out]
     rw [N,O];omega
  · obtain rfl:k=12:=by omega
    have j:=fun ty=>Lib.run_next_end_at (P:=Tryz.prog) wr (w.heap.size + 1) sgS 12 ty hit h;clear hit b d;go_wp2
    have D:(wr.iter blS 0).heap.size=w.heap.size + 3:=by simp [World.iter];omega
    go_loopw [] (fun wr=>∃k:Nat,k≤3∧wr.heap[w.heap.size + 2]? = some (.stringIter blS k)∧wr.heap[w.heap.size]? = some (.map (ents g (blE k)) (blE k).length)∧Below w.heap.size w wr∧wr.heap.size=w.heap.size + 3) (fun wr=>3-wr.iterPos (w.heap.size + 2))
    case atStart =>
     refine ⟨0,by omega,?_,?_,x.out.trans ((zbF wr blS).mono yab),D⟩
     · rw [←o];exact zcg wr blS
     · exact ((zbF wr blS).block w.heap.size yab).trans u.out
    case round =>
     clear D j o s u x I;obtain ⟨k,hk,hit,b,d,o⟩:=hrel;have s:=Lib.hid hit;have u:=Lib.hid b;have x:=Lib.hid d;by_cases h:k<3
     · have j:=fun ty=>Lib.run_next_any_at (P:=Tryz.prog) wr (w.heap.size + 2) blS k ty hit h;have p:=Lib.iterAt_heap wr (w.heap.size + 2) blS k (k + 1) hit;have m:Below (w.heap.size + 2) wr (wr.iterAt (w.heap.size + 2) blS (k + 1)):=Lib.below_iterAt (Below.refl _ _) (yaj _) blS (k + 1);rw [bl_dec k h] at j;dsimp only at j;have n:(wr.iterAt (w.heap.size + 2) blS (k + 1)).heap[w.heap.size]? = some (.map (ents g (blE k)) (blE k).length):=by rw [m.block _ (by omega)];exact b
       obtain ⟨y,J,q,f⟩:=zrl _ n rfl ((bls.getD k 0:Nat):Int) (bls.getD k 0) 211 rfl (bl_new k h).1 (by simpa using (bl_new k h).2);have K:Hid (y.heap.size=w.heap.size + 3):=Lib.hid (by rw [f.size];simp [World.iterAt];omega);have C:Hid (y.heap[w.heap.size + 2]? = some (.stringIter blS (k + 1))):=Lib.hid (by rw [f.block _ (by omega)];exact p);have L:=Lib.hid q;have M:Hid (Below w.heap.size w y):=Lib.hid (f.below (d.trans (m.mono yab)) (yaj _));clear hit b d o p m n q f;generalize bls.getD k 0=c at *
       go_wp2
       go_roundw
       case rel=>exact ⟨k + 1,by omega,C.out,L.out,M.out,K.out⟩
       case measure =>
        have N:wr.iterPos (w.heap.size + 2)=k:=by simp only [World.iterPos,s.out]
        have O:y.iterPos (w.heap.size + 2)=k + 1:=by simp only [World.iterPos,C.out]
        rw [N,O];omega
     · obtain rfl:k=3:=by omega
       have j:=fun ty=>Lib.run_next_end_at (P:=Tryz.prog) wr (w.heap.size + 2) blS 3 ty hit h;clear hit b d o;go_wp2
       go_ret
       exact ⟨rfl,u.out,x.out⟩
theorem act_sign:∀c ∈ sgs,((blE 3).zipIdx 0).find? (fun q=>decide ((q.1.1:Int)=(c:Nat))) |>.map (fun q=>q.1.2) |>.any (· == 210):=by decide +kernel
theorem zoL:∀c ∈ bls,((blE 3).zipIdx 0).find? (fun q=>decide ((q.1.1:Int)=(c:Nat))) |>.map (fun q=>q.1.2) |>.any (· == 211):=by decide +kernel
theorem act_all:∀q ∈ (blE 3).zipIdx 0,q.1.1=47∨zca q.1.1=true∨zbz q.1.1=true:=by decide +kernel
theorem sgs_mem {c:Nat} (h:zca c=true):c ∈ sgs:=by
 have:=zcE.1 h;simp only [sgs,yav,ya1,ybw];omega
theorem bls_mem {c:Nat} (h:zbz c=true):c ∈ bls:=by
 have:=zbO.1 h;simp only [bls,yav,ya1,ybw];omega
section
variable (W:World) {m g clk:Nat} (hb:W.heap[m]? = some (.map (ents g (blE 3)) clk))
include hb
theorem look_hit (r f:Nat) (i:Nat) (hf:Instr.findNow (.int .i32) (.int .i32 (r:Int)) (ents g (blE 3)).toList 0=some (some (i,meth f g))) :
 (Instr.lookup 271 (.map (some m)) (.int .i32 (r:Int)) true).run Tryz.prog W = .ok (.tuple #[.func (.func f) #[.pointer (some ⟨g,0,none⟩)] #[],.bool true]) W:=by
 simp [Instr.lookup,Instr.findKey,run_underlying Tryz.underlying271,run_underlying Tryz.underlying21,MapKept.run_getObj_map hb,zgH,hf,Result.andThen,meth]
theorem zpW (r f:Nat) (h:(((blE 3).zipIdx 0).find? (fun q=>decide ((q.1.1:Int)=(r:Nat))) |>.map (fun q=>q.1.2) |>.any (· == f))=true) :
 (Instr.lookup 271 (.map (some m)) (.int .i32 (r:Int)) true).run Tryz.prog W = .ok (.tuple #[.func (.func f) #[.pointer (some ⟨g,0,none⟩)] #[],.bool true]) W:=by
 have b:=zgO g (r:Int) (blE 3);cases d:((blE 3).zipIdx 0).find? (fun q=>decide ((q.1.1:Int)=(r:Int))) with
 | none=>rw [d] at h;simp at h
 | some q =>
  rw [d] at h b;simp only [ybE,Option.any_some,ybS] at h b;rw [h] at b;exact look_hit W hb r f q.2 b
theorem zpZ (h:zca r=true):(Instr.lookup 271 (.map (some m)) (.int .i32 (r:Int)) true).run Tryz.prog W = .ok (.tuple #[.func (.func 210) #[.pointer (some ⟨g,0,none⟩)] #[],.bool true]) W :=
 zpW W hb r _ (act_sign r (sgs_mem h))
theorem znX (h:zbz r=true):(Instr.lookup 271 (.map (some m)) (.int .i32 (r:Int)) true).run Tryz.prog W = .ok (.tuple #[.func (.func 211) #[.pointer (some ⟨g,0,none⟩)] #[],.bool true]) W :=
 zpW W hb r _ (zoL r (bls_mem h))
theorem zpY (h1:r≠47) (h2:zca r=false) (h3:zbz r=false):(Instr.lookup 271 (.map (some m)) (.int .i32 (r:Int)) true).run Tryz.prog W = .ok (.tuple #[.nilFunc,.bool false]) W:=by
 have d:∀W,(zeroValue 101).run Tryz.prog W = .ok .nilFunc W:=(zero_of_info (P:=Tryz.prog) (t:=101) (v:=.nilFunc) (n:=1) yaa).1;have f:((blE 3).zipIdx 0).find? (fun q=>decide ((q.1.1:Int)=(r:Int)))=none:=by
  rw [List.find?_eq_none];intro q j;have:=act_all q j;simp only [yaP];intro e;have k:q.1.1=r:=by omega
  rw [k,h2,h3] at this;simp at this;exact h1 this
 have b:=zgO g (r:Int) (blE 3);rw [f] at b;simp [Instr.lookup,Instr.findKey,run_underlying Tryz.underlying271,run_underlying Tryz.underlying21,MapKept.run_getObj_map hb,zgH,b,d,Result.andThen]
end
end
section
open Go.RowKit Go.ChangeMaps
structure Al (w0:World) (g m i B:Nat) (s:ByteArray) (wr:World) (k j:Nat) (l:List Tk):Prop where
 kj:k≤j
 jc:j≤cnt s
 it:wr.heap[i]? = some (.stringIter s (plc s k))
 mp:wr.heap[m]? = some (.map (ents g (blE 3)) (blE 3).length)
 sc:Sc B wr g s l 0
 bel:Below w0.heap.size w0 wr
 big:B≤wr.heap.size
 toks:l ++ (zdO (cutB s j) (plc s j)).1=(zdO s 0).1
 code:(zdO (cutB s j) (plc s j)).2=(zdO s 0).2
 few:l.length≤j
 lo:w0.heap.size≤g
 li:w0.heap.size≤i
 gi:g≠i
 gm:g≠m
 mi:m≠i
 iB:i<B
 mB:m<B
section
variable {w0 wr w3:World} {g m i B:Nat} {s:ByteArray} {k j:Nat} {l:List Tk}
theorem Al.next (h:Al w0 g m i B s wr k j l) (hk:plc s k<s.size):(wr.iterAt i s (plc s k + (Utf8.decode s (plc s k)).2)).heap[i]? = some (.stringIter s (plc s (k + 1))):=by
 rw [zaF hk];exact Lib.iterAt_heap wr i s _ _ h.it
theorem zdD (w:World) (i:Nat) (s:ByteArray) (p:Nat) {q:Nat} (h:q≠i):(w.iterAt i s p).heap[q]? = w.heap[q]?:=Lib.iterAt_other w i q s p h
theorem Sc.at_iter (h:Sc B wr g s l 0) {t:ByteArray} {p q:Nat} (hi:wr.heap[i]? = some (.stringIter t p)) (hg:g≠i):Sc B (wr.iterAt i t q) g s l 0:=by
 obtain ⟨v,h⟩:=h;refine ⟨v,(zdD _ _ _ _ hg).trans h.cells,zaD h.row fun y d=>zdD _ _ _ _ ?_,h.lt⟩;rintro rfl;rcases h.row.2 with ⟨e,_⟩ | ⟨b,cap,j,e,_,f,_⟩
 · rw [e] at d;simp [Value.ownBlock] at d
 · rw [e] at d;simp only [Value.ownBlock,yaT] at d;rw [d,hi] at f;cases f
theorem Al.sc2 (h:Al w0 g m i B s wr k j l) (q:Nat):Sc B (wr.iterAt i s q) g s l 0:=h.sc.at_iter h.it h.gi
theorem Al.bel2 (h:Al w0 g m i B s wr k j l) (q:Nat):Below w0.heap.size w0 (wr.iterAt i s q):=Lib.below_iterAt h.bel h.li s q
theorem Al.mp2 (h:Al w0 g m i B s wr k j l) (q:Nat):(wr.iterAt i s q).heap[m]? = some (.map (ents g (blE 3)) (blE 3).length):=(zdD _ _ _ _ h.mi).trans h.mp
theorem Al.big2 (h:Al w0 g m i B s wr k j l) (q:Nat):B≤(wr.iterAt i s q).heap.size:=by rw [Lib.iterAt_size];exact h.big
theorem Al.skip (h:Al w0 g m i B s wr k j l) (hk:plc s k<s.size) (hj:k<j):Al w0 g m i B s (wr.iterAt i s (plc s k + (Utf8.decode s (plc s k)).2)) (k + 1) j l :=
 ⟨hj,h.jc,h.next hk,h.mp2 _,h.sc2 _,h.bel2 _,h.big2 _,h.toks,h.code,h.few,h.lo,h.li,h.gi,h.gm,h.mi,h.iB,h.mB⟩
theorem zmk {s:ByteArray} {k:Nat} (hk:plc s k<s.size):0<(cutB s k).size:=by have:=zaH s k;omega
theorem Al.scan_err (h:Al w0 g m i B s wr k k l) (hk:plc s k<s.size) (h3:3≤kd (cutB s k)):(zdO s 0).2=(kd (cutB s k),plc s k):=by
 have e:=Go.Proofs.YtmblgnddgmfkhaaGreat.scan_err (off:=plc s k) (zmk hk) h3;have b:=h.code;rw [e] at b;exact b.symm
theorem Al.step (h:Al w0 g m i B s wr k k l) (hk:plc s k<s.size) (h3:kd (cutB s k)<3) (hp:Kp g B (wr.iterAt i s (plc s k + (Utf8.decode s (plc s k)).2)) w3) (hs:Sc B w3 g s (l ++ zfd (cutB s k) (plc s k)) 0) :
 Al w0 g m i B s w3 (k + 1) (k + ln (cutB s k)) (l ++ zfd (cutB s k) (plc s k)):=by
 have b:=zmk hk;have q:=ln_pos b h3;have o:=ln_le b;rw [zmg] at o;have d:=zl0 (off:=plc s k) b h3;have p:=zd4 s k (ln (cutB s k));rw [zo4,p] at d;have j:=h.toks;have n:=h.code;obtain ⟨r,f⟩:∃r,zdO (cutB s (k + ln (cutB s k))) (plc s (k + ln (cutB s k)))=r:=⟨_,rfl⟩;rw [f] at d;generalize zdO (cutB s k) (plc s k)=r0 at *
 subst d;dsimp only at j n;refine ⟨by omega,by have:=h.jc;omega,(hp.block i h.iB (Ne.symm h.gi)).trans (h.next hk),(hp.block m h.mB (Ne.symm h.gm)).trans (h.mp2 _),hs,(h.bel2 (plc s k + (Utf8.decode s (plc s k)).2)).trans (hp.below (by have:=h.iB;have:=h.li;omega) h.lo),yax (h.big2 _) hp.size,?_,by rw [f];exact n,?_,h.lo,h.li,h.gi,h.gm,h.mi,h.iB,h.mB⟩
 · rw [f,yaB];exact j
 · rw [yam];have:=h.few;have:(zfd (cutB s k) (plc s k)).length≤1:=by unfold zfd;split <;> simp
   omega
theorem Al.fin (h:Al w0 g m i B s wr k j l) (hk:¬plc s k<s.size):plc s j=s.size∧(zdO s 0).2=(0,0)∧(zdO s 0).1=l ++ [(3,⟨#[]⟩,s.size)]:=by
 have n:=za2 s j;have o:=za8 s h.kj;have b:plc s j=s.size:=by omega
 have p:=zaH s j;have e:=zfa (u:=cutB s j) (off:=plc s j) yab;have d:=h.toks;have f:=h.code;rw [e,b] at d;rw [e] at f;exact ⟨b,f.symm,d.symm⟩
end
def Toks (w:World) (A:Option Addr) (c:Nat) (l:List Tk):Prop:=Rd w w.heap.size 3 A l.length c (tcells l)
def AllPost (s:ByteArray) (w:World) (e:Ending) (w':World):Prop :=
 (∃A c,e = .returned (.tuple #[.slice A (zcN s).1.length c,.int .i64 (zcN s).2.1,.int .i64 (zcN s).2.2])∧Toks w' A c (zcN s).1)∧Below w.heap.size w w'
theorem AllPost.empty {s:ByteArray} {w w':World} {e p:Nat} (h:zcN s=([],e,p)) (hb:Below w.heap.size w w'):AllPost s w (.returned (.tuple #[.slice none 0 0,.int .i64 e,.int .i64 p])) w':=by
 refine ⟨⟨none,0,by rw [h];rfl,?_⟩,hb⟩;rw [h];exact Rd.none_ _ _ _
end
end Go.Proofs.YtmblgnddgmfkhaaGreat
