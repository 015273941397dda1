import Derived.ProofKit
import Derived.OpenShut
import Derived.ShutString
import Derived.ChangeOld
import Derived.SliceStrings
import Derived.ChangeMaps
import Derived.SizedLaws
import Derived.Deep.Slices
import Derived.Deep.Fields
import Derived.Test.YtmblgnddgmfkhaaGreatK01
import Derived.Test.YtmblgnddgmfkhaaGreatK02
set_option maxRecDepth 100000
set_option maxHeartbeats 4000000
namespace Go.Proofs.YtmblgnddgmfkhaaGreat
section
open Go.RowKit
variable {s:ByteArray}
def zqp (w wr:World) (s:ByteArray) (p:Nat):Prop:=wr.heap[w.heap.size]? = some (.stringIter s p)
theorem zcv (w:World) (s:ByteArray):zqp w (w.iter s 0) s 0:=World.iter_heap w s 0
theorem zbN (w:World) (s:ByteArray):Below w.heap.size w (w.iter s 0):=(Below.refl _ w).alloc (yaj _) _
theorem zhY (s:ByteArray) (p:Nat):((Utf8.decode s p).1:Int)=(rn s p:Int):=rfl
theorem zdI {w wr:World} {p:Nat} (h:zqp w wr s p):wr.iterPos w.heap.size=p:=by unfold zqp at h;simp only [World.iterPos,h]
theorem count_any (s:ByteArray) (w:World) (hs:s.size≤1000000) :
 Calls Tryz.prog 214 #[.string s] w fun e w'=>e = .returned (.int .i64 (cnt s))∧Below w.heap.size w w':=by
 go_enter Tryz.func214,Tryz.ntmps214
 go_wp2
 go_loopw [3] (fun n wr=>∃k:Nat,k≤cnt s∧n = .int .i64 k∧zqp w wr s (plc s k)∧Below w.heap.size w wr) (fun _ wr=>s.size-wr.iterPos w.heap.size)
 case atStart=>exact ⟨0,yao _,rfl,zcv w s,zbN w s⟩
 case round =>
  obtain ⟨k,hk,rfl,hit,b⟩:=hrel;have m:=Lib.hid hit;have o:=Lib.hid b;have y:=zeV s;have z:=zba s k;by_cases h:plc s k<s.size
  · have u:=za3.2 h;have A:=zgu h;have x:=Lib.hid (zaK h);have q:∀ty,(Instr.next (.pointer (some ⟨w.heap.size,0,none⟩)) true ty).run Tryz.prog wr=_:=fun ty=>Lib.run_next_any_at wr w.heap.size s (plc s k) ty hit h;have f:=Lib.hid (Lib.iterAt_heap wr w.heap.size s (plc s k) (plc s k + (Utf8.decode s (plc s k)).2) hit);have g:=Lib.hid (Lib.below_iterAt b (k:=w.heap.size) (yaj _) s (plc s k + (Utf8.decode s (plc s k)).2));clear hit b;go_wp2
    go_roundw
    case rel =>
     refine ⟨k + 1,by omega,by go_num,?_,g.out⟩;rw [x.out];exact f.out
    case measure=>rw [zdI m.out,zdI (w:=w) f.out];show s.size-(plc s k + wd s (plc s k))<_;omega
  · have e:=zfj h fun j B=>za3.1 yab;have E:=Lib.hid e;have q:∀ty,(Instr.next (.pointer (some ⟨w.heap.size,0,none⟩)) true ty).run Tryz.prog wr=_:=fun ty=>Lib.run_next_end_at wr w.heap.size s (plc s k) ty hit h;clear e hit b;go_wp2
    go_ret
    exact ⟨by rw [E.out];rfl,o.out⟩
theorem valid_any (s:ByteArray) (w:World) (_:s.size≤1000000) :
 Calls Tryz.prog 208 #[.string s] w fun e w'=>e = .returned (.bool (zck s))∧Below w.heap.size w w':=by
 go_enter Tryz.func208,Tryz.ntmps208
 go_wp2
 go_loopw [] (fun wr=>∃k:Nat,k≤cnt s∧zqp w wr s (plc s k)∧Below w.heap.size w wr∧∀j,j<k→brk s (plc s j)=false) (fun wr=>s.size-wr.iterPos w.heap.size)
 case atStart=>exact ⟨0,yao _,zcv w s,zbN w s,fun j y=>by omega⟩
 case round =>
  obtain ⟨k,hk,hit,b,f⟩:=hrel;have g:=Lib.hid f;clear f;have o:=Lib.hid hit;have q:=Lib.hid b;have B:=zeV s;have C:=zba s k;by_cases h:plc s k<s.size
  · have u:=za3.2 h;have D:=zgu h;have z:=Lib.hid (zaK h);have x:∀ty,(Instr.next (.pointer (some ⟨w.heap.size,0,none⟩)) true ty).run Tryz.prog wr=_:=fun ty=>Lib.run_next_any_at wr w.heap.size s (plc s k) ty hit h;have m:=Lib.hid (Lib.iterAt_heap wr w.heap.size s (plc s k) (plc s k + (Utf8.decode s (plc s k)).2) hit);have n:=Lib.hid (Lib.below_iterAt b (k:=w.heap.size) (yaj _) s (plc s k + (Utf8.decode s (plc s k)).2));clear hit b;by_cases hb:brk s (plc s k)=true
    · go_wp2_with ((with_reducible refine (broken_any s (plc s k) _ _ _ rfl (zhY s (plc s k)) h).mono ?_);rintro e w' ⟨rfl,rfl⟩)
      go_ret
      refine ⟨za9 ?_,n.out⟩;symm
      rw [ya3];intro A;have:=zcL.1 A k u;rw [hb] at this;cases this
    · rw [yb5] at hb;go_wp2_with ((with_reducible refine (broken_any s (plc s k) _ _ _ rfl (zhY s (plc s k)) h).mono ?_);rintro e w' ⟨rfl,rfl⟩)
      go_roundw
      case rel =>
       refine ⟨k + 1,by omega,?_,n.out,fun j y=>?_⟩
       · rw [z.out];exact m.out
       · by_cases e:j=k
         · subst e;exact hb
         · exact g.out j yab
      case measure=>rw [zdI o.out,zdI (w:=w) m.out];show s.size-(plc s k + wd s (plc s k))<_;omega
  · have e:=zfj h fun j y=>za3.1 yab;have E:=Lib.hid e;have x:∀ty,(Instr.next (.pointer (some ⟨w.heap.size,0,none⟩)) true ty).run Tryz.prog wr=_:=fun ty=>Lib.run_next_end_at wr w.heap.size s (plc s k) ty hit h;clear e hit b;go_wp2
    go_ret
    exact ⟨za9 (by symm;rw [zcL,E.out];exact g.out),q.out⟩
theorem name_any (s:ByteArray) (w:World) (_:s.size≤1000000) :
 Calls Tryz.prog 182 #[.string s] w fun e w'=>e = .returned (.bool (nameS s))∧Below w.heap.size w w':=by
 go_enter Tryz.func182,Tryz.ntmps182
 go_wp2
 go_loopw [3] (fun n wr=>∃k:Nat,k≤cnt s∧n = .int .i64 k∧k≤24∧zqp w wr s (plc s k)∧Below w.heap.size w wr∧∀j,j<k→zfy s (plc s j)=true) (fun _ wr=>s.size-wr.iterPos w.heap.size)
 case atStart=>exact ⟨0,yao _,rfl,yao _,zcv w s,zbN w s,fun j F=>by omega⟩
 case round =>
  obtain ⟨k,hk,rfl,y,hit,f,g⟩:=hrel;have m:=Lib.hid g;clear g;have z:=Lib.hid hit;have A:=Lib.hid f;have K:=zeV s;have L:=zba s k;by_cases h:plc s k<s.size
  · have q:=za3.2 h;have M:=zgu h;have G:=Lib.hid (zaK h);have B:∀ty,(Instr.next (.pointer (some ⟨w.heap.size,0,none⟩)) true ty).run Tryz.prog wr=_:=fun ty=>Lib.run_next_any_at wr w.heap.size s (plc s k) ty hit h;have o:=Lib.hid (Lib.iterAt_heap wr w.heap.size s (plc s k) (plc s k + (Utf8.decode s (plc s k)).2) hit);have b:=Lib.hid (Lib.below_iterAt f (k:=w.heap.size) (yaj _) s (plc s k + (Utf8.decode s (plc s k)).2));clear hit f;by_cases H:24<k + 1
    · have I:(24:Int)<(k:Int) + 1:=by omega
      go_wp2_with fail
      go_ret
      refine ⟨za9 ?_,b.out⟩;symm
      rw [ya3];intro u;have:=(zby.1 u).2.1;omega
    · have I:¬(24:Int)<(k:Int) + 1:=by omega
      have x:zfy s (plc s k)=(!brk s (plc s k) && zbM (rn s (plc s k))):=rfl;have C:=Lib.hid x;clear x;by_cases hb:brk s (plc s k)=true
      · go_wp2_with ((with_reducible refine (broken_any s (plc s k) _ _ _ rfl (zhY s (plc s k)) h).mono ?_);rintro e w' ⟨rfl,rfl⟩)
        go_ret
        refine ⟨za9 ?_,b.out⟩;symm
        rw [ya3];intro u;have:=(zby.1 u).2.2 k q;rw [C.out,hb] at this;cases this
      · rw [yb5] at hb;by_cases D:zbM (rn s (plc s k))=true
        · go_wp2_with (first
           | ((with_reducible refine (broken_any s (plc s k) _ _ _ rfl (zhY s (plc s k)) h).mono ?_);rintro e w' ⟨rfl,rfl⟩)
           | ((with_reducible refine (inname_any _ (rn s (plc s k)) _ (zhY s (plc s k))).mono ?_);rintro e w' ⟨rfl,rfl⟩))
          go_roundw
          case rel =>
           refine ⟨k + 1,by omega,by go_num,by omega,?_,b.out,fun j F=>?_⟩
           · rw [G.out];exact o.out
           · by_cases e:j=k
             · subst e;rw [C.out,hb,D];rfl
             · exact m.out j yab
          case measure=>rw [zdI z.out,zdI (w:=w) o.out];show s.size-(plc s k + wd s (plc s k))<_;omega
        · rw [yb5] at D;go_wp2_with (first
           | ((with_reducible refine (broken_any s (plc s k) _ _ _ rfl (zhY s (plc s k)) h).mono ?_);rintro e w' ⟨rfl,rfl⟩)
           | ((with_reducible refine (inname_any _ (rn s (plc s k)) _ (zhY s (plc s k))).mono ?_);rintro e w' ⟨rfl,rfl⟩))
          go_ret
          refine ⟨za9 ?_,b.out⟩;symm
          rw [ya3];intro u;have:=(zby.1 u).2.2 k q;rw [C.out,hb,D] at this;cases this
  · have e:=zfj h fun j F=>za3.1 yab;have E:=Lib.hid e;have B:∀ty,(Instr.next (.pointer (some ⟨w.heap.size,0,none⟩)) true ty).run Tryz.prog wr=_:=fun ty=>Lib.run_next_end_at wr w.heap.size s (plc s k) ty hit h;clear e hit f;go_wp2
    go_ret
    refine ⟨za9 ?_,A.out⟩;rw [ya9,zby,E.out];simp only [yaP];exact ⟨fun J=>⟨by omega,y,m.out⟩,fun J=>by omega⟩
theorem zm2 {n:Nat} (h:cnt s≤n):cutA s n=s:=by unfold cutA;rw [zjY h];exact zju s
theorem cutB_end {n:Nat} (h:cnt s≤n):cutB s n=⟨#[]⟩:=by
 unfold cutB;rw [zjY h];exact zcX (by rw [zaF];show _=0;omega) fun k hk=>by rw [zaF] at hk;omega
theorem cut_any (s:ByteArray) (n:Int) (w:World) (_:s.size≤1000000) (hn : -9223372036854775808≤n) (hn2:n≤9223372036854775807) :
 Calls Tryz.prog 207 #[.string s,.int .i64 n] w fun e w'=>e = .returned (.tuple #[.string (cutA s n.toNat),.string (cutB s n.toNat)])∧Below w.heap.size w w':=by
 go_enter Tryz.func207,Tryz.ntmps207
 go_wp2
 go_loopw [1] (fun m wr=>∃k:Nat,k≤cnt s∧k≤n.toNat∧m = .int .i64 (n-k)∧zqp w wr s (plc s k)∧Below w.heap.size w wr) (fun _ wr=>s.size-wr.iterPos w.heap.size)
 case atStart=>exact ⟨0,yao _,yao _,by simp,zcv w s,zbN w s⟩
 case round =>
  obtain ⟨k,hk,z,rfl,hit,b⟩:=hrel;have o:=Lib.hid hit;have q:=Lib.hid b;have F:=zeV s;have G:=zba s k;by_cases h:plc s k<s.size
  · have A:=za3.2 h;have H:=zgu h;have B:=Lib.hid (zaK h);have u:∀ty,(Instr.next (.pointer (some ⟨w.heap.size,0,none⟩)) true ty).run Tryz.prog wr=_:=fun ty=>Lib.run_next_any_at wr w.heap.size s (plc s k) ty hit h;have f:=Lib.hid (Lib.iterAt_heap wr w.heap.size s (plc s k) (plc s k + (Utf8.decode s (plc s k)).2) hit);have g:=Lib.hid (Lib.below_iterAt b (k:=w.heap.size) (yaj _) s (plc s k + (Utf8.decode s (plc s k)).2));clear hit b;by_cases I:n-k≤0
    · have e:n.toNat=k:=by omega
      have E:=Lib.hid e;clear e;go_wp2
      go_quiet (fail)
      go_wp2
      go_ret2
      exact ⟨by rw [E.out];rfl,g.out.trans ⟨rfl,rfl,rfl,yaj _,fun _ _=>rfl⟩⟩
    · go_wp2
      go_roundw
      case rel =>
       refine ⟨k + 1,by omega,by omega,by go_num,?_,g.out⟩;rw [B.out];exact f.out
      case measure=>rw [zdI o.out,zdI (w:=w) f.out];show s.size-(plc s k + wd s (plc s k))<_;omega
  · have e:=zfj h fun j J=>za3.1 yab;have E:=Lib.hid e;have u:∀ty,(Instr.next (.pointer (some ⟨w.heap.size,0,none⟩)) true ty).run Tryz.prog wr=_:=fun ty=>Lib.run_next_end_at wr w.heap.size s (plc s k) ty hit h;clear e hit b;have x:=zm2 (s:=s) (n:=n.toNat) (by have:=E.out;omega);have y:=cutB_end (s:=s) (n:=n.toNat) (by have:=E.out;omega);have C:=Lib.hid x;have D:=Lib.hid y;clear x y;go_wp2
    go_ret2
    exact ⟨by rw [C.out,D.out];rfl,q.out⟩
end
section
open Go.ChangeShapes Go.WideShapes Go.ChangeAt Go.RowKit
theorem own_:ownKnob Tryz.prog.godebug=none:=by kernel_rfl
theorem znr:laidOutB Tryz.prog=true:=by kernel_rfl
section
variable {H:Type} {enc:TypeId × Value→H} {P:Program} {W:World} {base:Nat} {spare:Nat→Bool} {held:Bool}
end
theorem wf_i64 {z:Int} (h:(Lit.int .i64 z).wf=true) : -9223372036854775808≤z∧z≤9223372036854775807:=by
 simpa [Lit.wf,IntKind.min,IntKind.max,IntKind.signed,IntKind.bits] using h
end
section
open Go.ChangeShapes Go.WideShapes Go.ChangeAt Go.RowKit
variable {sz:Nat}
theorem zdy {α β:Type} {g:β→α} {Q:β→Prop}:∀{E:List α},(∀l ∈ E,∃b,l=g b∧Q b)→∃bs:List β,E=bs.map g∧∀b ∈ bs,Q b
 | [],_=>⟨[],rfl,fun _ h=>(by cases h)⟩
 | l::r,h=>by
  obtain ⟨b,rfl,hb⟩:=h l (yar ..);obtain ⟨bs,rfl,j⟩:=zdy (E:=r) fun x f=>h x (yau _ f);exact ⟨b::bs,rfl,fun x f=>by
   rcases yaw.1 f with rfl | f
   · exact hb
   · exact j x f⟩
theorem ze2 {α:Type}:∀{E:List (List α)},(∀l ∈ E,l.length=sz)→∀{i r:Nat} {l:List α},E[i]? = some l→r<sz→E.flatten[i * sz + r]? = l[r]?
 | [],_,i,r,l,h,_=>by simp at h
 | c::E,f,i,r,l,h,g=>by
  have b:=f c (yar ..);rw [ybP];cases i with
  | zero =>
   simp at h;subst h;rw [Nat.zero_mul,yaI,ybt (by rw [b];exact g)]
  | succ i =>
   rw [yaJ (by rw [b,ycz];omega),b,show (i + 1) * sz + r-sz=i * sz + r from by rw [ycz];omega];exact ze2 (fun d j=>f d (yau _ j)) (by simpa using h) g
theorem zd1 {α:Type}:∀{E:List (List α)},(∀l ∈ E,l.length=sz)→E.flatten.length=E.length * sz
 | [],_=>by simp
 | c::E,b=>by rw [ybP,yam,zd1 (fun d f=>b d (yau _ f)),b c (yar ..),yat,ycz];omega
section
variable {H:Type} {enc:TypeId × Value→H} {P:Program} {W:World} {base:Nat} {spare:Nat→Bool} {held:Bool}
theorem zio {e:TypeId} {l:List (DataW H)} {d:DataW H} (h:d ∈ l):∀k ∈ d.weights P e,k ∈ DataW.weightsAll P e l:=by
 induction l with
 | nil=>cases h
 | cons x r ih =>
  intro k hk;show k ∈ DataW.weights P e x ++ DataW.weightsAll P e r;rcases yaw.1 h with rfl | h
  · exact ycp _ hk
  · exact yb7 _ (ih h k hk)
def Sz (P:Program) (R:Nat) (t:TypeId) (d:DataW H):Prop:=∀k ∈ d.weights P t,k≤R
theorem zhT {R:Nat} {t e:TypeId} {fuel:Nat} {v:Value} {x:DataW H × List MemPlace} (ht:P.underlying t=some (.slice e)) (hc:P.cellsOf e=sz) (hpos:0<sz) (h:DataW.trod enc P W base spare held fuel t [v]=some x) (hS:Sz P R t x.1) :
 ∃(A:Option Addr) (c:Nat) (E:List (List Value)),v = .slice A E.length c∧E.length * P.bytesOf e≤R∧Rd W W.heap.size sz A E.length c E.flatten∧∀l ∈ E,l.length=sz∧∃fuel' y,DataW.trod enc P W base spare held fuel' e l=some y∧Sz P R e y.1:=by
 rcases Go.Deep.open_slice ht h with ⟨g,_⟩ | ⟨a,len,cap,m,n,D,Pl,g,_,B,T,J,U,hi⟩
 · simp at g;subst g;exact ⟨none,0,[],rfl,by simp,Rd.none_ _ _ _,fun _ h=>(by cases h)⟩
 · simp at g;subst g;rw [hc] at hi;have V:len≤m:=by rw [J];split <;> omega
   have C:∀i,∃l:List Value,i<m→W.cells? base (a.add (i * sz)) sz=some l∧DataW.trod enc P W base spare held n e l=some (D i,Pl i):=fun i=>by
    by_cases F:i<m
    · obtain ⟨l,X,Y⟩:=hi i F;exact ⟨l,fun _=>⟨X,Y⟩⟩
    · exact ⟨[],fun h=>absurd h F⟩
   have K:∃f:Nat→List Value,∀i,i<m→W.cells? base (a.add (i * sz)) sz=some (f i)∧DataW.trod enc P W base spare held n e (f i)=some (D i,Pl i):=⟨fun i=>(C i).choose,fun i hi=>(C i).choose_spec hi⟩;obtain ⟨f,L⟩:=K;have b:((List.range len).map f).length=len:=by simp
   have o:∀l ∈ (List.range len).map f,l.length=sz:=fun l B=>by
    obtain ⟨i,hi,rfl⟩:=yaH.1 B;exact (World.cells?_some (L i (by have:=yct.1 hi;omega)).1).2.1
   have Z:∀i,i<len→Sz P R e (D i):=fun i hi k hk=>hS k (by
    subst U;dsimp only;rw [DataW.weights,ht];exact yau _ (ycp _ (zio (yaH.2 ⟨i,yct.2 hi,rfl⟩) k hk)))
   have hW:len * P.bytesOf e≤R:=by
    have:=hS ((((List.range len).map D).length + ((List.range (m-len)).map fun j=>D (len + j)).length) * P.bytesOf e) (by
     subst U;dsimp only;rw [DataW.weights,ht];exact yar)
    refine yay (ybm _ ?_) this;rw [yax,List.length_range];exact Nat.le_add_right _ _
   refine ⟨some a,cap,(List.range len).map f,by rw [b],by rw [b];exact hW,?_,fun l B=>⟨o l B,?_⟩⟩
   · rw [b];rcases ybg len with I | I
     · subst I;exact ⟨by simp,yao _,T,fun e=>(by cases e),fun h=>absurd h yab⟩
     · have q:∀i r,i<len→r<sz→W.cell? (a.add (i * sz + r))=(f i)[r]?:=fun i r a1 hr=>by
        rw [←add_add'];exact (World.cells?_some (L i yab).1).2.2 r hr
       have hb:a.block<W.heap.size:=by
        have G:=q 0 0 I hpos;have M:0<(f 0).length:=by rw [o _ (yaH.2 ⟨0,yct.2 I,rfl⟩)];exact hpos
        rw [yal M] at G;have:=World.block_lt_of_cell? W _ G;rwa [blk_add] at this
       refine Rd.of_cells (by rw [zd1 o,b]) hpos B T hb fun j u N=>?_;have O:j<len * sz:=by have:=(yap.1 N).1;rwa [zd1 o,b] at this
       have s:j / sz<len:=(Nat.div_lt_iff_lt_mul hpos).2 O;have z:=Nat.mod_lt j hpos;have Q:j / sz * sz + j % sz=j:=by rw [Nat.mul_comm];exact Nat.div_add_mod j sz
       rw [←Q] at N ⊢;rw [q _ _ s z,←N];exact (ze2 o (by rw [yaY,List.getElem?_range s];rfl) z).symm
   · obtain ⟨i,hi,rfl⟩:=yaH.1 B;have hi:=yct.1 hi;exact ⟨n,_,(L i yab).2,Z i hi⟩
theorem zeD {R:Nat} {t:TypeId} {fuel:Nat} {cs:List Value} {y:DataW H × List MemPlace} (ht:P.underlying t=some .string) (h:DataW.trod enc P W base spare held fuel t cs=some y) (hS:Sz P R t y.1):∃s:ByteArray,cs=[.string s]∧s.size≤R:=by
 obtain ⟨s,b,rfl,_⟩:=DataW.trod_string ht h;exact ⟨s,b,hS _ (by simp [DataW.weights])⟩
end
end
section
abbrev OpI:=Int × ByteArray × ByteArray
structure RelI where
 name:ByteArray
 view:ByteArray
 edit:ByteArray
 check:ByteArray
 subs:List (ByteArray × ByteArray)
 ops:List OpI
 deriving DecidableEq
structure TypI where
 name:ByteArray
 rels:List RelI
 deriving DecidableEq
def zp5 (l:List TypI) (n:ByteArray):Option TypI:=l.find? fun t=>decide (t.name=n)
def znd (t:TypI) (n:ByteArray):Option RelI:=t.rels.find? fun r=>decide (r.name=n)
def hasT (l:List TypI) (n:ByteArray):Bool:=(zp5 l n).isSome
def zgy (t:TypI) (n:ByteArray):Bool:=(znd t n).isSome
def findI (l:List TypI) (ty re:ByteArray):Option RelI:=(zp5 l ty).bind fun t=>znd t re
def hasI (l:List TypI) (ty re:ByteArray):Bool:=(findI l ty re).isSome
def zqG (l:List TypI) (r:RelI) (next:ByteArray):Bool:=r.subs.any fun x=>decide (x.2=⟨#[]⟩) && hasI l x.1 next
def znz (l:List TypI) (t:TypI) (o:OpI):Bool :=
 if o.1=2 then zgy t o.2.1
 else if o.1=3 then (match znd t o.2.1 with
  | none=>false
  | some r=>zqG l r o.2.2)
 else true
def zrX (l:List TypI) (x:ByteArray × ByteArray):Bool:=hasT l x.1 && (decide (x.2=⟨#[]⟩) || hasI l x.1 x.2)
def zgE (l:List TypI):List (ByteArray × ByteArray)→List (ByteArray × ByteArray)→Nat
 | _,[]=>0
 | ahead,x::r=>if zrX l x=false then 31 else if ahead.any (fun y=>decide (y=x))=true then 32 else zgE l (ahead ++ [x]) r
def zdJ (l:List TypI) (t:TypI) (r:RelI):Nat :=
 if (zgy t r.view && (zgy t r.edit && zgy t r.check))=false then 31
 else if zgE l [] r.subs≠0 then zgE l [] r.subs
 else if r.ops.all (znz l t)=false then 31 else 0
def zjX (t:TypI) (r:RelI):ByteArray:=t.name ++ ⟨#[46]⟩ ++ r.name
def zef (t:TypI):List RelI→List RelI→Nat × ByteArray
 | _,[]=>(0,⟨#[]⟩)
 | ahead,r::q=>if ahead.any (fun x=>decide (x.name=r.name))=true then (32,zjX t r) else if 16<r.ops.length then (13,zjX t r) else zef t (ahead ++ [r]) q
def zdo:List TypI→List TypI→Nat × ByteArray
 | _,[]=>(0,⟨#[]⟩)
 | ahead,t::q=>if ahead.any (fun x=>decide (x.name=t.name))=true then (32,t.name) else if 12<t.rels.length then (13,t.name)
  else if (zef t [] t.rels).1≠0 then zef t [] t.rels else zdo (ahead ++ [t]) q
def zbu (l:List TypI) (t:TypI):List RelI→Nat × ByteArray
 | []=>(0,⟨#[]⟩)
 | r::q=>if zdJ l t r≠0 then (zdJ l t r,zjX t r) else zbu l t q
def zbP (l:List TypI):List TypI→Nat × ByteArray
 | []=>(0,⟨#[]⟩)
 | t::q=>if (zbu l t t.rels).1≠0 then zbu l t t.rels else zbP l q
def zcY (l:List TypI):Nat × ByteArray :=
 if 8<l.length then (13,⟨#[]⟩) else if (zdo [] l).1≠0 then zdo [] l else zbP l l
structure RightR (t:TypI):Prop where
 few:t.rels.length≤12
 names:(t.rels.map (·.name)).Nodup
 ops:∀r ∈ t.rels,r.ops.length≤16
structure Right (l:List TypI):Prop where
 few:l.length≤8
 names:(l.map (·.name)).Nodup
 rels:∀t ∈ l,RightR t
 named:∀t ∈ l,∀r ∈ t.rels,zdJ l t r=0
theorem znP (t:TypI):∀(q ahead:List RelI),(ahead.map (·.name)).Nodup →
 ((zef t ahead q).1=0↔((ahead ++ q).map (·.name)).Nodup∧∀r ∈ q,r.ops.length≤16)∧((zef t ahead q).1=0→zef t ahead q=(0,⟨#[]⟩))
 | [],ahead,h=>⟨⟨fun _=>⟨by rw [yaK];exact h,fun r o=>by cases o⟩,fun _=>rfl⟩,fun _=>rfl⟩
 | r::q,ahead,h=>by
  unfold zef;by_cases g:ahead.any (fun x=>decide (x.name=r.name))=true
  · rw [yan g];refine ⟨⟨fun e=>(by cases e),fun ⟨e,_⟩=>?_⟩,fun e=>(by cases e)⟩;obtain ⟨x,f,j⟩:=ybV.1 g;have j:=yaL j;rw [yaM,ybb] at e;exact absurd j (e.2.2 x.name (ybi f) r.name (ybi yar))
  · rw [yak g];by_cases n:16<r.ops.length
    · rw [yan n];refine ⟨⟨fun e=>(by cases e),fun ⟨_,e⟩=>?_⟩,fun e=>(by cases e)⟩;have:=e r yar;omega
    · rw [yak n];have k:((ahead ++ [r]).map (·.name)).Nodup:=by
       rw [yaM,ybb];refine ⟨h,by simp,fun a s b hb=>?_⟩;obtain ⟨x,f,rfl⟩:=yaH.1 s;simp only [yaX,ycw,yav] at hb;subst hb;intro e;exact g (ybV.2 ⟨x,f,yaB e⟩)
      obtain ⟨ih,m⟩:=znP t q (ahead ++ [r]) k;rw [yaD,yb9] at ih;refine ⟨ih.trans ⟨fun ⟨a,b⟩=>⟨a,fun x f=>?_⟩,fun ⟨a,b⟩=>⟨a,fun x f=>b x (yau _ f)⟩⟩,m⟩;rcases yaw.1 f with rfl | f
      · omega
      · exact b x f
theorem zn8:∀(q ahead:List TypI),(ahead.map (·.name)).Nodup →
 ((zdo ahead q).1=0↔((ahead ++ q).map (·.name)).Nodup∧∀t ∈ q,RightR t)∧((zdo ahead q).1=0→zdo ahead q=(0,⟨#[]⟩))
 | [],ahead,h=>⟨⟨fun _=>⟨by rw [yaK];exact h,fun r g=>by cases g⟩,fun _=>rfl⟩,fun _=>rfl⟩
 | t::q,ahead,h=>by
  unfold zdo;by_cases m:ahead.any (fun x=>decide (x.name=t.name))=true
  · rw [yan m];refine ⟨⟨fun e=>(by cases e),fun ⟨e,_⟩=>?_⟩,fun e=>(by cases e)⟩;obtain ⟨x,f,n⟩:=ybV.1 m;have n:=yaL n;rw [yaM,ybb] at e;exact absurd n (e.2.2 x.name (ybi f) t.name (ybi yar))
  · rw [yak m];by_cases u:12<t.rels.length
    · rw [yan u];refine ⟨⟨fun e=>(by cases e),fun ⟨_,e⟩=>?_⟩,fun e=>(by cases e)⟩;have:=(e t yar).few;omega
    · rw [yak u];obtain ⟨g,y⟩:=znP t t.rels [] yaf;rw [ya6] at g;by_cases j:(zef t [] t.rels).1=0
      · rw [yak (by simpa using j)];have o:((ahead ++ [t]).map (·.name)).Nodup:=by
         rw [yaM,ybb];refine ⟨h,by simp,fun a z b hb=>?_⟩;obtain ⟨x,f,rfl⟩:=yaH.1 z;simp only [yaX,ycw,yav] at hb;subst hb;intro e;exact m (ybV.2 ⟨x,f,yaB e⟩)
        obtain ⟨ih,s⟩:=zn8 q (ahead ++ [t]) o;rw [yaD,yb9] at ih;refine ⟨ih.trans ⟨fun ⟨a,b⟩=>⟨a,fun x f=>?_⟩,fun ⟨a,b⟩=>⟨a,fun x f=>b x (yau _ f)⟩⟩,s⟩;rcases yaw.1 f with rfl | f
        · exact ⟨by omega,(g.1 j).1,(g.1 j).2⟩
        · exact b x f
      · rw [yan j];refine ⟨⟨fun e=>absurd e j,fun ⟨_,e⟩=>?_⟩,fun e=>absurd e j⟩;have k:=e t yar;exact g.2 ⟨k.names,k.ops⟩
theorem zi5 (l:List TypI) (t:TypI):∀q:List RelI,((zbu l t q).1=0↔∀r ∈ q,zdJ l t r=0)∧((zbu l t q).1=0→zbu l t q=(0,⟨#[]⟩))
 | []=>⟨⟨fun _ r g=>(by cases g),fun _=>rfl⟩,fun _=>rfl⟩
 | r::q=>by
  obtain ⟨ih,f⟩:=zi5 l t q;unfold zbu;by_cases h:zdJ l t r=0
  · rw [yak (by simpa using h)];refine ⟨ih.trans ⟨fun a x b=>?_,fun a x b=>a x (yau _ b)⟩,f⟩;rcases yaw.1 b with rfl | b
    · exact h
    · exact a x b
  · rw [yan h];exact ⟨⟨fun e=>absurd e h,fun a=>absurd (a r yar) h⟩,fun e=>absurd e h⟩
theorem zk0 (l:List TypI):∀q:List TypI,((zbP l q).1=0↔∀t ∈ q,∀r ∈ t.rels,zdJ l t r=0)∧((zbP l q).1=0→zbP l q=(0,⟨#[]⟩))
 | []=>⟨⟨fun _ r f=>(by cases f),fun _=>rfl⟩,fun _=>rfl⟩
 | t::q=>by
  obtain ⟨ih,g⟩:=zk0 l q;obtain ⟨f,j⟩:=zi5 l t t.rels;unfold zbP;by_cases h:(zbu l t t.rels).1=0
  · rw [yak (by simpa using h)];refine ⟨ih.trans ⟨fun a x b=>?_,fun a x b=>a x (yau _ b)⟩,g⟩;rcases yaw.1 b with rfl | b
    · exact f.1 h
    · exact a x b
  · rw [yan h];exact ⟨⟨fun e=>absurd e h,fun a=>f.2 (a t yar)⟩,fun e=>absurd e h⟩
theorem zfi (l:List TypI):((zcY l).1=0↔Right l)∧((zcY l).1=0→zcY l=(0,⟨#[]⟩)):=by
 obtain ⟨f,m⟩:=zn8 l [] yaf;obtain ⟨j,k⟩:=zk0 l l;rw [ya6] at f;unfold zcY;by_cases g:8<l.length
 · rw [yan g];refine ⟨⟨fun e=>(by cases e),fun e=>?_⟩,fun e=>(by cases e)⟩;have:=e.few;omega
 · rw [yak g];by_cases b:(zdo [] l).1=0
   · rw [yak (by simpa using b)];refine ⟨j.trans ⟨fun a=>⟨by omega,(f.1 b).1,(f.1 b).2,a⟩,fun e=>e.named⟩,k⟩
   · rw [yan b];exact ⟨⟨fun e=>absurd e b,fun e=>f.2 ⟨e.names,e.rels⟩⟩,fun e=>absurd e b⟩
end
section
open Go.ChangeShapes Go.WideShapes Go.ChangeAt Go.RowKit
section
variable {H:Type} {enc:TypeId × Value→H} {P:Program} {W:World} {base:Nat} {spare:Nat→Bool} {held:Bool}
def zpt (s:ByteArray × ByteArray):List Value:=[.string s.1,.string s.2]
def aOp (o:OpI):List Value:=[.int .i64 o.1,.string o.2.1,.string o.2.2]
end
structure RelA where
 name:ByteArray
 view:ByteArray
 edit:ByteArray
 check:ByteArray
 As:Option Addr
 cs:Nat
 subs:List (ByteArray × ByteArray)
 Ao:Option Addr
 co:Nat
 ops:List OpI
def RelA.cells (a:RelA):List Value:=[.string a.name,.string a.view,.string a.edit,.string a.check,.slice a.As a.subs.length a.cs,.slice a.Ao a.ops.length a.co]
def RelA.says (a:RelA):RelI:=⟨a.name,a.view,a.edit,a.check,a.subs,a.ops⟩
structure RelA.ok (W:World) (R:Nat) (a:RelA):Prop where
 name:a.name.size≤R
 view:a.view.size≤R
 edit:a.edit.size≤R
 check:a.check.size≤R
 subs:Rd W W.heap.size 2 a.As a.subs.length a.cs (a.subs.flatMap zpt)
 subn:a.subs.length * 32≤R
 subz:∀s ∈ a.subs,s.1.size≤R∧s.2.size≤R
 ops:Rd W W.heap.size 3 a.Ao a.ops.length a.co (a.ops.flatMap aOp)
 opn:a.ops.length * 40≤R
 opz:∀o ∈ a.ops,(Lit.int .i64 o.1).wf=true∧o.2.1.size≤R∧o.2.2.size≤R
structure TypA where
 name:ByteArray
 A:Option Addr
 c:Nat
 rels:List RelA
def TypA.cells (a:TypA):List Value:=[.string a.name,.slice a.A a.rels.length a.c]
def TypA.says (a:TypA):TypI:=⟨a.name,a.rels.map RelA.says⟩
structure TypA.ok (W:World) (R:Nat) (a:TypA):Prop where
 name:a.name.size≤R
 rels:Rd W W.heap.size 6 a.A a.rels.length a.c (a.rels.flatMap RelA.cells)
 reln:a.rels.length * 112≤R
 relz:∀r ∈ a.rels,r.ok W R
section
variable {H:Type} {enc:TypeId × Value→H} {W:World} {base:Nat} {spare:Nat→Bool} {held:Bool}
end
end
section
open Go.RowKit
variable {oi:Oper} {n:Nat} {l:Array Bool} {a a':Act} {w:World} {v:Value}
section
variable {P:Program} {ops:Array Oper} {Q:Exit→Act→World→Prop} {md:Region.Mode}
theorem zag {S:World→Prop} {z:Nat} (i:Nat) (d:Option Tmp) (hS:S w) (h:zcl P md ops Q S z n (l.setIfInBounds i true) a' w) (hi:ops[i]? = some oi:=by rfl) (hd:oi.dst=d:=by rfl)
 (hz:zjg md ops z i=true:=by kernel_rfl) (hiz:(i == z)=false:=by decide) (hs:Region.noSelect ops=true:=by kernel_rfl) (hf:Region.free md ops l i=true:=by kernel_rfl) (hr:(Region.ready md ops l).contains i=true:=by kernel_rfl)
 (hQ:∀c a w,Q (.panic c) (a.put oi.dst v) w→Q (.panic c) a w:=by exact fun _ _ _ h=>h) (hw:Region.wanted oi (yielded ops a.tmps)=true:=by rfl) (hy:∀w,S w→(execOp a.eval oi).run P w = .ok (.value v) w:=by intro w hS;(try dsimp only at hS);go_simp;try with_reducible rfl)
 (ha:a.put d v=a':=by (simp only [Act.put,yaG,yaV,yaW];rfl)):zcl P md ops Q S z (n + 1) l a w :=
 roL_take i d hi hd hz hiz hs hf hr hQ hw hy hS (by rw [ha];exact h)
theorem zaa {S:World→Prop} (i:Nat) (d:Option Tmp) (hS:S w) (h:wpAnyH P md ops Q S n (l.setIfInBounds i true) a' w) (hi:ops[i]? = some oi:=by rfl) (hd:oi.dst=d:=by rfl)
 (hs:Region.noSelect ops=true:=by kernel_rfl) (hf:Region.free md ops l i=true:=by kernel_rfl) (hr:(Region.ready md ops l).contains i=true:=by kernel_rfl)
 (hQ:∀c a w,Q (.panic c) (a.put oi.dst v) w→Q (.panic c) a w:=by exact fun _ _ _ h=>h) (hw:Region.wanted oi (yielded ops a.tmps)=true:=by rfl) (hy:∀w,S w→(execOp a.eval oi).run P w = .ok (.value v) w:=by intro w hS;(try dsimp only at hS);go_simp;try with_reducible rfl)
 (ha:a.put d v=a':=by (simp only [Act.put,yaG,yaV,yaW];rfl)):wpAnyH P md ops Q S (n + 1) l a w :=
 roH_take i d hi hd hs hf hr hQ hw hy hS (by rw [ha];exact h)
theorem zeM (i:Nat) (d:Option Tmp) (h:wpAny P md ops Q n (l.setIfInBounds i true) a' w) (hi:ops[i]? = some oi:=by rfl) (hd:oi.dst=d:=by rfl)
 (hs:Region.noSelect ops=true:=by kernel_rfl) (hf:Region.free md ops l i=true:=by kernel_rfl) (hr:(Region.ready md ops l).contains i=true:=by kernel_rfl)
 (hQ:∀c a w,Q (.panic c) (a.put oi.dst v) w→Q (.panic c) a w:=by exact fun _ _ _ h=>h) (hw:Region.wanted oi (yielded ops a.tmps)=true:=by rfl) (hy:∀w,(execOp a.eval oi).run P w = .ok (.value v) w:=by intro w;go_simp;try with_reducible rfl)
 (ha:a.put d v=a':=by (simp only [Act.put,yaG,yaV,yaW];rfl)):wpAny P md ops Q (n + 1) l a w :=
 ro_take i d hi hd hs hf hr hQ hw hy (by rw [ha];exact h)
theorem zci {S:World→Prop} (i:Nat) (d:Option Tmp) (hS:S w) (h:wpAnyH P md ops Q S n (l.setIfInBounds i true) a' w) (hi:ops[i]? = some oi:=by rfl) (hd:oi.dst=d:=by rfl)
 (hs:Region.noSelect ops=true:=by kernel_rfl) (hf:Region.free md ops l i=true:=by kernel_rfl) (hr:(Region.ready md ops l).contains i=true:=by kernel_rfl)
 (hQ:∀c a w,Q (.panic c) (a.put oi.dst undef) w→Q (.panic c) a w:=by exact fun _ _ _ h=>h) (hw:Region.wanted oi (yielded ops a.tmps)=false:=by rfl)
 (ha:a.put d undef=a':=by (simp only [Act.put,yaG,yaV,yaW];rfl)):wpAnyH P md ops Q S (n + 1) l a w :=
 zgU i d hi hd hs hf hr hQ hw hS (by rw [ha];exact h)
end
theorem zy1 {p:Prop} (h:p:=by intro w hS;(try dsimp only at hS);obtain s0:=hS;go_simp;try with_reducible rfl):p:=h
theorem zy2 {p:Prop} (h:p:=by intro w hS;(try dsimp only at hS);obtain ⟨q0,q1⟩:=hS;go_simp;try with_reducible rfl):p:=h
theorem zy4 {p:Prop} (h:p:=by intro w hS;(try dsimp only at hS);obtain ⟨q0,q1,q2,q3⟩:=hS;go_simp;try with_reducible rfl):p:=h
theorem zy5 {p:Prop} (h:p:=by intro w hS;(try dsimp only at hS);obtain ⟨q0,q1,q2,q3,q4⟩:=hS;go_simp;try with_reducible rfl):p:=h
theorem zy8 {p:Prop} (h:p:=by intro w hS;(try dsimp only at hS);obtain ⟨q0,q1,q2,q3,q4,q5,q6,q7⟩:=hS;go_simp;try with_reducible rfl):p:=h
theorem zu4 {p:Prop} (h:p:=by intro w hS;obtain ⟨q0,q1,q2,q3⟩:=hSc w hS;go_simp;try with_reducible rfl):p:=h
theorem zu8 {p:Prop} (h:p:=by intro w hS;obtain ⟨q0,q1,q2,q3,q4,q5,q6,q7⟩:=hSc w hS;go_simp;try with_reducible rfl):p:=h
end
end Go.Proofs.YtmblgnddgmfkhaaGreat
