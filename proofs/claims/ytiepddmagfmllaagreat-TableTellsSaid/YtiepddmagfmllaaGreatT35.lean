import Derived.Test.YtiepddmagfmllaaGreatT34
set_option maxRecDepth 100000
set_option maxHeartbeats 4000000
namespace Go.Proofs.YtiepddmagfmllaaGreat
open Go.RowKit
theorem zjD {v:List Int} {i:Nat} (h:i<v.length):v[i]? = some (zaL v i):=by
 unfold zaL;rw [List.getD_eq_getElem?_getD,List.getElem?_eq_getElem h];rfl
theorem lvAt_out {v:List Int} {i:Nat} (h:v.length≤i):zaL v i=0:=by
 unfold zaL;rw [List.getD_eq_getElem?_getD,List.getElem?_eq_none h];rfl
theorem lvAt_set {v:List Int} {i j:Nat} {z:Int} (h:i<v.length):zaL (v.set i z) j=if j=i then z else zaL v j:=by
 unfold zaL;rw [List.getD_eq_getElem?_getD,List.getElem?_set];by_cases e:i=j
 · subst e;simp [h]
 · have e':¬j=i:=fun q=>e q.symm;simp [e,e',List.getD_eq_getElem?_getD]
theorem zjE (v:List Int) (i:Nat) (z:Int):(lvs v).toArray.setIfInBounds i (.int .i64 z)=(lvs (v.set i z)).toArray:=by
 simp [lvs,List.map_set]
theorem zfn {w:World} {g i:Nat} {v:List Int} (h:Bk w g (lvs v).toArray 3) (hi:i<v.length):w.cell? ⟨g,i,none⟩=some (.int .i64 (zaL v i)):=by
 rw [h.cell i];simp [lvs,zjD hi]
def cpy (v:List Int) (i:Nat):List Int:=v.take i ++ List.replicate (v.length-i) 0
theorem cpy_len {v:List Int} {i:Nat} (h:i≤v.length):(cpy v i).length=v.length:=by simp [cpy];omega
theorem cpy_zero (v:List Int):cpy v 0=List.replicate v.length 0:=by simp [cpy]
theorem cpy_all (v:List Int):cpy v v.length=v:=by simp [cpy]
theorem cpy_succ {v:List Int} {i:Nat} (h:i<v.length):(cpy v i).set i (zaL v i)=cpy v (i + 1):=by
 unfold cpy;rw [List.set_append_right _ _ (by simp;omega)];rw [List.take_add_one,zjD h,Option.toList_some,List.append_assoc];congr 1
 rw [List.length_take,Nat.min_eq_left (by omega),Nat.sub_self,show v.length-i=(v.length-(i + 1)) + 1 by omega,List.replicate_succ,List.set_cons_zero];rfl
structure JPart (l:List Ed) (v u:Nat→Int):Prop where
 up:∀i,v i≤u i
 asks:∀e ∈ l,v (tt e) + zcQ e≤u (fr e)
 only:∀i,u i=v i∨∃e ∈ l,fr e=i∧u i=v (tt e) + zcQ e
theorem JPart.start (v:Nat→Int):JPart [] v v:=⟨fun _=>Int.le_refl _,fun e he=>(by cases he),fun _=>.inl rfl⟩
theorem JPart.keep {l:List Ed} {v u:Nat→Int} {e:Ed} (h:JPart l v u) (hx:¬v (tt e) + zcQ e > u (fr e)):JPart (l ++ [e]) v u:=by
 refine ⟨h.up,fun d hd=>?_,fun i=>?_⟩
 · rcases List.mem_append.1 hd with hd | hd
   · exact h.asks d hd
   · rw [List.mem_singleton.1 hd];omega
 · rcases h.only i with q | ⟨d,hd,q⟩
   · exact .inl q
   · exact .inr ⟨d,List.mem_append_left _ hd,q⟩
theorem JPart.put {l:List Ed} {v u s:Nat→Int} {e:Ed} (h:JPart l v u) (hx:v (tt e) + zcQ e > u (fr e)) (hs:∀j,s j=if j=fr e then v (tt e) + zcQ e else u j):JPart (l ++ [e]) v s:=by
 refine ⟨fun i=>?_,fun d hd=>?_,fun i=>?_⟩
 · rw [hs];have:=h.up i;split
   · rename_i q;rw [q] at this ⊢;omega
   · exact this
 · rw [hs];rcases List.mem_append.1 hd with hd | hd
   · have:=h.asks d hd;split
     · rename_i q;rw [q] at this;omega
     · exact this
   · rw [List.mem_singleton.1 hd,if_pos rfl];omega
 · rw [hs];by_cases q:i=fr e
   · rw [if_pos q];exact .inr ⟨e,by simp,q.symm,rfl⟩
   · rw [if_neg q];rcases h.only i with q | ⟨d,hd,q⟩
     · exact .inl q
     · exact .inr ⟨d,List.mem_append_left _ hd,q⟩
theorem JPart.bound {l:List Ed} {v u:Nat→Int} {k:Int} (h:JPart l v u) (hv:∀i,0≤v i∧v i≤k):∀i,0≤u i∧u i≤k + 1:=fun i=>by
 have h1:=h.up i;have h2:=hv i;rcases h.only i with q | ⟨d,_,_,q⟩
 · omega
 · have:=hv (tt d);have:=zeV d;omega
theorem jac_any {w:World} {n c:Nat} {A:Option Addr} {l:List Ed} (h:Rd w w.heap.size 3 A l.length c (zan l)) (hi:InR n l) (hn:n≤255) (hl:l.length≤100000) :
 Calls Tryz.prog 35 #[.int .i64 (n:Int),.slice A l.length c] w fun e w'=>(∃g,e = .returned (.slice (some ⟨g,0,none⟩) n n)∧∃v:List Int,v.length=n∧Bk w' g (lvs v).toArray 3∧JRun l (fun _=>0) (n + 1) (zaL v))∧Below w.heap.size w w':=by
 obtain ⟨i1,hi1,hy0,hy1,hy2⟩:=info_parts zdH;have hmk:∀W:World,(Instr.makeSlice 32 (.int .i64 (n:Int)) (.int .i64 (n:Int))).run Tryz.prog W = .ok (.slice (some ⟨W.heap.size,0,none⟩) n n) (W.alloc (.cells (lvs (List.replicate n 0)).toArray 3)):=fun W=>by
  have:=run_make (P:=Tryz.prog) W 32 3 i1 _ Tryz.underlying32 hi1 hy0 .i64 .i64 n n (by omega) (Int.le_refl _) (by rw [hy2];omega) (by omega);rw [Int.toNat_natCast,hy1,Nat.mul_one] at this;rw [this];congr 3
  apply Array.ext';show (madeCells #[.int .i64 0] n).toList=_;rw [toList_madeCells_one];simp [lvs]
 go_enter Tryz.func35,Tryz.ntmps35
 go_wp2_with fail
 have hb0:Below w.heap.size w (w.alloc (.cells (lvs (List.replicate n 0)).toArray 3)):=(Below.refl _ w).alloc (Nat.le_refl _) _;have hk0:=Bk.new w (lvs (List.replicate n 0)).toArray 3;generalize w.alloc (.cells (lvs (List.replicate n 0)).toArray 3)=w0 at *
 have hz:∀i,zaL (List.replicate n 0) i=0:=fun i=>by
  by_cases q:i<n
  · unfold zaL;simp [q]
  · exact lvAt_out (by simp;omega)
 go_loopw [5,6] (fun vo vk wx=>∃(k:Nat) (v:List Int) (g:Nat),vo = .slice (some ⟨g,0,none⟩) n n∧vk = .int .i64 k∧k≤n + 1∧v.length=n∧Bk wx g (lvs v).toArray 3∧w.heap.size≤g∧JRun l (fun _=>0) k (zaL v)∧(∀i,0≤zaL v i∧zaL v i≤k)∧Below w.heap.size w wx) (fun _ vk _=>n + 1-(intOf vk).toNat)
 case atStart=>exact ⟨0,_,_,rfl,rfl,Nat.zero_le _,by simp,hk0,Nat.le_refl _,by rw [show zaL (List.replicate n 0)=fun _=>0 from funext hz];exact .nil,fun i=>by rw [hz];omega,hb0⟩
 case round =>
  clear hk0 hb0;obtain ⟨k,v,g,rfl,rfl,hk,hvn,hkv,hg,hJ,hbd,hbx⟩:=hrel;by_cases hkn:k≤n
  · have hdk:(k:Int)≤(n:Int):=by omega
    have hgw:=hkv.lt;go_upto_region 6 with (fail)
    have hb1:=hbx.alloc hbx.size (.cells (lvs (List.replicate n 0)).toArray 3);have hk1:=hkv.alloc (.cells (lvs (List.replicate n 0)).toArray 3);have hn1:=Bk.new wr (lvs (List.replicate n 0)).toArray 3;have hle:=hbx.size;generalize hwn:wr.alloc (.cells (lvs (List.replicate n 0)).toArray 3)=w1 at *
    clear hwn hkv hbx;rw [show List.replicate n 0=cpy v 0 by rw [cpy_zero,hvn]] at hn1;generalize wr.heap.size=g2 at *
    have hgg:g≠g2:=by omega
    go_wp2_with fail
    go_loopw [8] (fun vi wx=>∃i:Nat,vi = .int .i64 i∧i≤n∧Bk wx g2 (lvs (cpy v i)).toArray 3∧Bk wx g (lvs v).toArray 3∧Below w.heap.size w wx) (fun vi _=>n-(intOf vi).toNat)
    case atStart=>exact ⟨0,rfl,Nat.zero_le _,hn1,hk1,hb1⟩
    case round =>
     clear hn1 hk1 hb1;obtain ⟨i,rfl,hin,hn1,hk1,hb1⟩:=hrel;by_cases hlt:i<n
     · have hdi:(i:Int)<(n:Int):=by omega
       have c1:=zfn hk1 (i:=i) (by omega);have c2:=zfn hn1 (i:=i) (by rw [cpy_len (by omega)];omega);have f2:=hn1.fz i;have hn9:=hn1.set i (.int .i64 (zaL v i));rw [zjE,cpy_succ (by omega)] at hn9;have hk9:=hk1.other (a:=⟨g2,i,none⟩) hgg (.int .i64 (zaL v i));have hb9:Below w.heap.size w (wr.setCell ⟨g2,i,none⟩ (.int .i64 (zaL v i))):=hb1.setCell hle _;replace hn9:=Lib.hid hn9;replace hk9:=Lib.hid hk9;replace hb9:=Lib.hid hb9;clear hn1 hk1 hb1;go_wp2_with fail
       exact ⟨⟨i + 1,by go_num,by omega,hn9.out,hk9.out,hb9.out⟩,by simp [intOf];omega⟩
     · obtain rfl:i=n:=by omega
       have hdi:¬((i:Int)<(i:Int)):=by omega
       have hcp:cpy v i=v:=by rw [←hvn];exact cpy_all v
       rw [hcp] at hn1;clear hcp;go_wp2_with fail
       go_loopw [9] (fun vj wx=>∃(j:Nat) (u:List Int),vj = .int .i64 j∧j≤l.length∧u.length=i∧Bk wx g2 (lvs u).toArray 3∧Bk wx g (lvs v).toArray 3∧JPart (l.take j) (zaL v) (zaL u)∧Below w.heap.size w wx) (fun vj _=>l.length-(intOf vj).toNat)
       case atStart=>exact ⟨0,v,rfl,Nat.zero_le _,hvn,hn1,hk1,JPart.start _,hb1⟩
       case round =>
        clear hn1 hk1 hb1;obtain ⟨j,u,rfl,hjl,hun,hn1,hk1,hP,hb1⟩:=hrel;by_cases hlt:j<l.length
        · have hdj:(j:Int)<(l.length:Int):=by omega
          obtain ⟨e,he⟩:∃e,l[j]? = some e:=⟨_,List.getElem?_eq_getElem hlt⟩;have hem:=List.mem_of_getElem? he;have hfe:e.1=((fr e:Nat):Int):=by have:=hi e hem;unfold fr;omega
          have hte:e.2.1=((tt e:Nat):Int):=by have:=hi e hem;unfold tt;omega
          have hfn:=hi.fr hem;have htn:=hi.tt hem;have hfi:((fr e:Nat):Int)<(i:Int):=by omega
          have hti:((tt e:Nat):Int)<(i:Int):=by omega
          obtain ⟨b,o,rfl,hb,c0,c1,c2⟩:=zdA (h.below hb1) he;rw [hfe] at c0;rw [hte] at c1;have m0:=zfn hk1 (i:=tt e) (by omega);have m1:=zfn hn1 (i:=fr e) (by omega);have m2:=hn1.fz (fr e);have hbt:=hbd (tt e);have hru:=zeV e;have htk:l.take (j + 1)=l.take j ++ [e]:=by rw [List.take_add_one,he];rfl
          have hkeep:Hid (¬zaL v (tt e) + zcQ e > zaL u (fr e)→JPart (l.take (j + 1)) (zaL v) (zaL u)):=Lib.hid fun q=>by rw [htk];exact hP.keep q
          have hput:Hid (zaL v (tt e) + zcQ e > zaL u (fr e)→JPart (l.take (j + 1)) (zaL v) (zaL (u.set (fr e) (zaL v (tt e) + zcQ e)))):=Lib.hid fun q=>by
           rw [htk];exact hP.put q fun i2=>lvAt_set (by omega)
          have hn9:=hn1.set (fr e) (.int .i64 (zaL v (tt e) + zcQ e));rw [zjE] at hn9;have hk9:=hk1.other (a:=⟨g2,fr e,none⟩) hgg (.int .i64 (zaL v (tt e) + zcQ e));have hb9:Below w.heap.size w (wr.setCell ⟨g2,fr e,none⟩ (.int .i64 (zaL v (tt e) + zcQ e))):=hb1.setCell hle _;have hsl:(u.set (fr e) (zaL v (tt e) + zcQ e)).length=i:=by rw [List.length_set];exact hun
          replace hn9:=Lib.hid hn9;replace hk9:=Lib.hid hk9;replace hb9:=Lib.hid hb9;replace hsl:=Lib.hid hsl;have hr2:zcQ e=if e.2.2 then 1 else 0:=rfl;clear htk he hfe hte hP hem;generalize fr e=f at *
          generalize tt e=t at *
          generalize zcQ e=q at *
          generalize e.2.2=y at *
          have hbu:=Lib.hid hbd;clear hbd;generalize zaL v t=x at *
          cases y with
          | false =>
           obtain rfl:q=0:=hr2;rw [Int.add_zero] at hkeep hput hn9 hk9 hb9 hsl;by_cases hgt:x > zaL u f
           · replace hput:=Lib.hid (hput.out hgt);generalize zaL u f=z at *
             go_wp2_with fail
             exact ⟨⟨j + 1,_,by go_num,by omega,hsl.out,hn9.out,hk9.out,hput.out,hb9.out⟩,by simp [intOf];omega⟩
           · replace hkeep:=Lib.hid (hkeep.out hgt);generalize zaL u f=z at *
             go_wp2_with fail
             exact ⟨⟨j + 1,u,by go_num,by omega,hun,hn1,hk1,hkeep.out,hb1⟩,by simp [intOf];omega⟩
          | true =>
           obtain rfl:q=1:=hr2;by_cases hgt:x + 1 > zaL u f
           · replace hput:=Lib.hid (hput.out hgt);generalize zaL u f=z at *
             go_wp2_with fail
             exact ⟨⟨j + 1,_,by go_num,by omega,hsl.out,hn9.out,hk9.out,hput.out,hb9.out⟩,by simp [intOf];omega⟩
           · replace hkeep:=Lib.hid (hkeep.out hgt);generalize zaL u f=z at *
             go_wp2_with fail
             exact ⟨⟨j + 1,u,by go_num,by omega,hun,hn1,hk1,hkeep.out,hb1⟩,by simp [intOf];omega⟩
        · obtain rfl:j=l.length:=by omega
          have hdj:¬(((l.length:Nat):Int)<(l.length:Int)):=by omega
          rw [List.take_length] at hP;have hbu:=hP.bound hbd;have hJ2:=JRun.on hJ ⟨hP.up,hP.asks,hP.only⟩;go_wp2_with fail
          exact ⟨⟨k + 1,u,g2,rfl,by go_num,by omega,hun,hn1,hle,hJ2,fun i2=>by have:=hbu i2;omega,hb1⟩,by simp [intOf];omega⟩
  · obtain rfl:k=n + 1:=by omega
    have hdk:¬(((n + 1:Nat):Int)≤(n:Int)):=by omega
    go_wp2_with fail
    go_ret
    exact ⟨⟨g,rfl,v,hvn,hkv,hJ⟩,hbx⟩
end Go.Proofs.YtiepddmagfmllaaGreat
namespace Go.Proofs.YtiepddmagfmllaaGreat
open Go.RowKit
def zgi (n:Nat) (f:Nat→Bool):List Bool:=(List.range n).map f
theorem rowB_get {n j:Nat} {f:Nat→Bool} (hj:j<n):(zgi n f)[j]? = some (f j):=by simp [zgi,hj]
theorem zkO (n:Nat):List.replicate n false=zgi n fun _=>false:=by
 refine List.ext_getElem (by simp [zgi]) fun i h1 h2=>by simp [zgi]
def zkP (n:Nat) (gl:List Nat):List Value:=gl.map fun g=>Value.slice (some ⟨g,0,none⟩) n n
def upM (M:Nat→Nat→Bool) (i j:Nat) (x:Bool):Nat→Nat→Bool:=fun a b=>if a=i∧b=j then x else M a b
theorem rowB_set {n i j:Nat} {M:Nat→Nat→Bool} (x:Bool) (hj:j<n):(bools (zgi n (M i))).setIfInBounds j (.bool x)=bools (zgi n (upM M i j x i)):=by
 apply Array.ext';simp only [bools,List.setIfInBounds_toArray];refine List.ext_getElem? fun k=>?_;rw [List.getElem?_set];simp only [List.length_map,List.getElem?_map,zgi];by_cases hk:k<n
 · by_cases e:j=k
   · subst e;simp [hj,upM]
   · have e':¬k=j:=fun q=>e q.symm;simp [e,e',hk,upM]
 · have e:¬j=k:=by omega
   simp [e,hk]
structure MxW (w:World) (B n c:Nat) (A:Option Addr) (gl:List Nat) (M:Nat→Nat→Bool):Prop where
 len:gl.length=n
 outer:Rd w w.heap.size 1 A n c (zkP n gl)
 row:∀(i g:Nat),gl[i]? = some g→B≤g∧Bk w g (bools (zgi n (M i))) 4
 nd:gl.Nodup
 ap:∀g ∈ gl,∀b o,A=some ⟨b,o,none⟩→b≠g
section
variable {w w':World} {B n c:Nat} {A:Option Addr} {gl:List Nat} {M:Nat→Nat→Bool}
theorem MxW.below (h:MxW w B n c A gl M) (hb:Below w.heap.size w w'):MxW w' B n c A gl M :=
 ⟨h.len,(h.outer.below hb).more hb.size,fun i g hi=>⟨(h.row i g hi).1,(h.row i g hi).2.below hb⟩,h.nd,h.ap⟩
theorem MxW.drew (h:MxW w B n c A gl M):MxW w.drew B n c A gl M:=h.below (Below.refl _ w).drew
theorem MxW.at_ (h:MxW w B n c A gl M) {i:Nat} (hi:i<n):∃b o g,A=some ⟨b,o,none⟩∧gl[i]? = some g∧w.cell? ⟨b,o + i,none⟩=some (.slice (some ⟨g,0,none⟩) n n)∧(∀j,w.frozen? ⟨g,j,none⟩=false)∧B≤g∧g<w.heap.size∧b<w.heap.size∧∀j,j<n→w.cell? ⟨g,j,none⟩=some (.bool (M i j)):=by
 obtain ⟨b,o,e,hb,hc⟩:=h.outer.at_ (by omega);obtain ⟨g,hg⟩:∃g,gl[i]? = some g:=⟨_,List.getElem?_eq_getElem (by rw [h.len];exact hi)⟩;obtain ⟨r1,r2⟩:=h.row i g hg;refine ⟨b,o,g,e,hg,hc i _ (by simp [zkP,hg]),r2.fz,r1,r2.lt,hb,fun j hj=>?_⟩;rw [r2.cell,zed,rowB_get hj];rfl
theorem MxW.set (h:MxW w B n c A gl M) {i j g:Nat} (hi:gl[i]? = some g) (hj:j<n) (x:Bool):MxW (w.setCell ⟨g,j,none⟩ (.bool x)) B n c A gl (upM M i j x):=by
 refine ⟨h.len,⟨h.outer.len,h.outer.cap,h.outer.capm,h.outer.nil,fun hn=>?_⟩,fun a g' ha=>?_,h.nd,h.ap⟩
 · obtain ⟨b,o,e,hb,hc⟩:=h.outer.at_ hn;have hne:=h.ap g (List.mem_of_getElem? hi) b o e;refine ⟨b,o,e,by simp [World.setCell];exact hb,fun k u hk=>?_⟩;rw [World.cell?_of_block (Below.heap_setCell _ _ _ _ hne)];exact hc k u hk
 · obtain ⟨r1,r2⟩:=h.row a g' ha;refine ⟨r1,?_⟩;by_cases e:a=i
   · subst e;rw [hi] at ha;cases ha;have:=r2.set j (.bool x);rw [rowB_set x hj] at this;exact this
   · have hgg:g'≠g:=fun e2=>by
      subst e2;obtain ⟨a1,a2⟩:=List.getElem?_eq_some_iff.1 ha;obtain ⟨b1,b2⟩:=List.getElem?_eq_some_iff.1 hi;have H:=List.pairwise_iff_getElem.1 h.nd;rcases Nat.lt_trichotomy a i with q | q | q
      · exact H a i a1 b1 q (a2.trans b2.symm)
      · exact e q
      · exact H i a b1 a1 q (b2.trans a2.symm)
     have hrow:zgi n (upM M i j x a)=zgi n (M a):=by
      unfold zgi;refine List.map_congr_left fun k _=>?_;simp [upM,e]
     rw [hrow];exact r2.other hgg _
end
theorem zkr:(Tryz.prog.info? 169).map (fun i=>(i.zero,i.size,i.bytes))=some (some (.slice none 0 0),1,24):=by kernel_rfl
def InvM (l:List Ed) (n k i j:Nat) (M:Nat→Nat→Bool):Prop :=
 ∀a b,a<n→b<n→(M a b=true→PathLt l (k + 1) a b)∧(PathLt l k a b→M a b=true)∧((a<i∨(a=i∧b<j))→PathLt l (k + 1) a b→M a b=true)
theorem InvM.start {l:List Ed} {n k:Nat} {M:Nat→Nat→Bool} (h:∀a b,a<n→b<n→(M a b=true↔PathLt l k a b)):InvM l n k 0 0 M:=fun a b ha hb =>
 ⟨fun q=>((h a b ha hb).1 q).more (by omega),(h a b ha hb).2,fun _=>by omega⟩
theorem InvM.step {l:List Ed} {n k i j:Nat} {M:Nat→Nat→Bool} (h:InvM l n k i j M) (hk:k<n) (hi:i<n) (hj:j<n):InvM l n k i (j + 1) (upM M i j (M i j || M i k && M k j)):=fun a b ha hb=>by
 obtain ⟨h1,h2,h3⟩:=h a b ha hb;unfold upM;by_cases e:a=i∧b=j
 · obtain ⟨rfl,rfl⟩:=e;simp only [and_self,if_true,Bool.or_eq_true,Bool.and_eq_true];refine ⟨?_,fun q=>.inl (h2 q),fun _ q=>?_⟩
   · rintro (q | ⟨q1,q2⟩)
     · exact h1 q
     · exact .join (by omega) ((h a k ha hk).1 q1) ((h k b hk hb).1 q2)
   · rcases q.part with q | ⟨q1,q2⟩
     · exact .inl (h2 q)
     · exact .inr ⟨(h a k ha hk).2.1 q1,(h k b hk hb).2.1 q2⟩
 · rw [if_neg e];exact ⟨h1,h2,fun q=>h3 (by omega)⟩
theorem InvM.row {l:List Ed} {n k i:Nat} {M:Nat→Nat→Bool} (h:InvM l n k i n M):InvM l n k (i + 1) 0 M:=fun a b ha hb=>by
 obtain ⟨h1,h2,h3⟩:=h a b ha hb;exact ⟨h1,h2,fun q=>h3 (by omega)⟩
theorem InvM.done {l:List Ed} {n k:Nat} {M:Nat→Nat→Bool} (h:InvM l n k n 0 M):∀a b,a<n→b<n→(M a b=true↔PathLt l (k + 1) a b):=fun a b ha hb =>
 ⟨(h a b ha hb).1,(h a b ha hb).2.2 (.inl ha)⟩
theorem zi4 {l:List Ed} {a b:Nat}:PathLt l 0 a b↔∃e ∈ l,fr e=a∧tt e=b:=⟨PathLt.zero,fun ⟨_,he,h1,h2⟩=>h1 ▸ h2 ▸ .one he⟩
theorem ways_any {w:World} {n c:Nat} {A:Option Addr} {l:List Ed} (h:Rd w w.heap.size 3 A l.length c (zan l)) (hi:InR n l) (hn:n≤255) (hl:l.length≤100000) :
 Calls Tryz.prog 71 #[.int .i64 (n:Int),.slice A l.length c] w fun e w'=>(∃A' c',e = .returned (.slice A' n c')∧∃gl M,MxW w' w.heap.size n c' A' gl M∧∀a b,a<n→b<n→(M a b=true↔PathLt l n a b))∧Below w.heap.size w w':=by
 obtain ⟨i1,hi1,hy0,hy1,hy2⟩:=info_parts zhO;obtain ⟨i0,hi0,hz0,hz1,hz2⟩:=info_parts zkr;have hmk:∀W:World,(Instr.makeSlice 169 (.int .i64 (n:Int)) (.int .i64 (n:Int))).run Tryz.prog W = .ok (.slice (some ⟨W.heap.size,0,none⟩) n n) (W.alloc (.cells (bools (zgi n fun _=>false)) 4)):=fun W=>by
  have:=run_make (P:=Tryz.prog) W 169 4 i1 _ Tryz.underlying169 hi1 hy0 .i64 .i64 n n (by omega) (Int.le_refl _) (by rw [hy2];omega) (by omega);rw [Int.toNat_natCast,hy1,Nat.mul_one] at this;rw [←zkO,←zgx];exact this
 go_enter Tryz.func71,Tryz.ntmps71
 go_wp2_with fail
 go_loopw [5,6] (fun v vi wx=>∃(j:Nat) (gl:List Nat),vi = .int .i64 j∧j≤n∧gl.length=j∧wx.ownsRow w.heap.size 169 1 v j (zkP n gl)∧(∀g ∈ gl,w.heap.size≤g∧Bk wx g (bools (zgi n fun _=>false)) 4)∧gl.Nodup∧Below w.heap.size w wx) (fun _ vi _=>n-(intOf vi).toNat)
 case atStart=>exact ⟨0,[],rfl,Nat.zero_le _,rfl,World.ownsRow_nil _ _ _ _,fun g hg=>(by cases hg),List.nodup_nil,Below.refl _ _⟩
 case round =>
  obtain ⟨j,gl,rfl,hj,hgl,hO,hgs,hnd,hbx⟩:=hrel;by_cases hjl:j<n
  · have hdj:(j:Int)<(n:Int):=by omega
    obtain ⟨A3,c3,rfl,_⟩:=Rd.own hO;have hws:=hbx.size;go_upto_region 5 with (fail)
    have hB1:Below w.heap.size w (wr.alloc (.cells (bools (zgi n fun _=>false)) 4)):=hbx.alloc hws _;have hk1:=Bk.new wr (bools (zgi n fun _=>false)) 4;have hO1:=hO.alloc (.cells (bools (zgi n fun _=>false)) 4);have hgs1:∀g ∈ gl,w.heap.size≤g∧g<wr.heap.size∧Bk (wr.alloc (.cells (bools (zgi n fun _=>false)) 4)) g (bools (zgi n fun _=>false)) 4:=fun g hg=>⟨(hgs g hg).1,(hgs g hg).2.lt,(hgs g hg).2.alloc _⟩;have hcn:=zbn (wr.alloc (.cells (bools (zgi n fun _=>false)) 4)) (.slice (some ⟨wr.heap.size,0,none⟩) n n) 169;rw [World.size_alloc] at hcn;go_wp2_with (at_builtin;go_loud (refine zab _ rfl (.tmp 16) (.tmp 19) 167 167 rfl w.heap.size 169 i0 (.slice none 0 0) 1 24 Tryz.underlying167 hi0 hz0 hz1 hz2 rfl (by decide) (.slice A3 j c3) j (zkP n gl) rfl (hO1.alloc _) _ 1 [.slice (some ⟨wr.heap.size,0,none⟩) n n] rfl (Src.ofSlice _ Tryz.underlying167 _ 1 1 _ rfl hcn (by intro u hu;rw [List.mem_singleton.1 hu];rfl)) (by simp only [maxLen];omega) (by omega) (by simp;omega) ?_;intro v9 w8 hown8 hg8 hat8))
    have hO9:w8.ownsRow w.heap.size 169 1 v9 (j + 1) (zkP n (gl ++ [wr.heap.size])):=by
     unfold zkP at *
     rw [List.map_append];exact hown8
    have hgs9:∀g ∈ gl ++ [wr.heap.size],w.heap.size≤g∧Bk w8 g (bools (zgi n fun _=>false)) 4:=fun g hg=>by
     rcases List.mem_append.1 hg with hg | hg
     · obtain ⟨q1,q2,q3⟩:=hgs1 g hg;exact ⟨q1,zbh (q3.alloc _) (hO1.alloc _) (by decide) hg8⟩
     · rw [List.mem_singleton.1 hg];exact ⟨hws,zbh (hk1.alloc _) (hO1.alloc _) (by decide) hg8⟩
    have hnd9:(gl ++ [wr.heap.size]).Nodup:=by
     rw [List.nodup_append];refine ⟨hnd,by simp,fun a ha b hb=>?_⟩;rw [List.mem_singleton.1 hb];have:=(hgs1 a ha).2.1;omega
    have hb9:=zak (hB1.alloc hB1.size _) hg8 (hO1.alloc _) (by simp;omega) (Nat.le_refl _);exact ⟨⟨j + 1,gl ++ [wr.heap.size],by go_num,by omega,by simp [hgl],hO9,hgs9,hnd9,hb9⟩,by simp [intOf];omega⟩
  · obtain rfl:j=n:=by omega
    have hdj:¬((j:Int)<(j:Int)):=by omega
    obtain ⟨A3,c3,rfl,hR⟩:=Rd.own hO;have hM0:MxW wr w.heap.size j c3 A3 gl (fun _ _=>false):=⟨hgl,hR,fun i g hg=>hgs g (List.mem_of_getElem? hg),hnd,fun g hg b o e e2=>by
     have:=zdc (hgs g hg).2 hO (by decide);rw [e,e2] at this;exact this rfl⟩
    clear hO hgs hR hmk hgl hnd;go_wp2_with fail
    go_loopw [7] (fun vi wx=>∃(i:Nat) (M:Nat→Nat→Bool),vi = .int .i64 i∧i≤l.length∧MxW wx w.heap.size j c3 A3 gl M∧(∀a b,M a b=true↔∃e ∈ l.take i,fr e=a∧tt e=b)∧Below w.heap.size w wx) (fun vi _=>l.length-(intOf vi).toNat)
    case atStart=>exact ⟨0,_,rfl,Nat.zero_le _,hM0,fun a b=>by simp,hbx⟩
    case round =>
     clear hM0 hbx;obtain ⟨i,M,rfl,hil,hM,hMi,hbx⟩:=hrel;by_cases hlt:i<l.length
     · have hdi:(i:Int)<(l.length:Int):=by omega
       obtain ⟨e,he⟩:∃e,l[i]? = some e:=⟨_,List.getElem?_eq_getElem hlt⟩;have hem:=List.mem_of_getElem? he;have hfe:e.1=((fr e:Nat):Int):=by have:=hi e hem;unfold fr;omega
       have hte:e.2.1=((tt e:Nat):Int):=by have:=hi e hem;unfold tt;omega
       have hfn:=hi.fr hem;have htn:=hi.tt hem;have hfi:((fr e:Nat):Int)<(j:Int):=by omega
       have hti:((tt e:Nat):Int)<(j:Int):=by omega
       obtain ⟨b,o,rfl,hb,c0,c1,c2⟩:=zdA (h.below hbx) he;rw [hfe] at c0;rw [hte] at c1;obtain ⟨b5,o5,g,rfl,hg,m0,m1,m2,m3,m4,m5⟩:=hM.at_ hfn;have m6:=m5 _ htn;have m7:=m1 (tt e);have hM9:=(hM.set hg htn true).drew;have hb9:Below w.heap.size w (wr.setCell ⟨g,tt e,none⟩ (.bool true)).drew:=(hbx.setCell m2 _).drew;have hMi9:Hid (∀a b,upM M (fr e) (tt e) true a b=true↔∃d ∈ l.take (i + 1),fr d=a∧tt d=b):=Lib.hid fun a b=>by
        rw [List.take_add_one,he];unfold upM;by_cases q:a=fr e∧b=tt e
        · rw [if_pos q];simp only [true_iff];exact ⟨e,by simp,q.1.symm,q.2.symm⟩
        · rw [if_neg q,hMi];constructor
          · rintro ⟨d,hd,q1,q2⟩;exact ⟨d,List.mem_append_left _ hd,q1,q2⟩
          · rintro ⟨d,hd,q1,q2⟩;rcases List.mem_append.1 hd with hd | hd
            · exact ⟨d,hd,q1,q2⟩
            · simp at hd;subst hd;exact absurd ⟨q1.symm,q2.symm⟩ q
       replace hM9:=Lib.hid hM9;replace hb9:=Lib.hid hb9;clear hM hMi hbx he m5 m1 hfe hte;go_wp2_with fail
       go_region
       go_wp2_with fail
       exact ⟨⟨i + 1,_,by go_num,by omega,hM9.out,hMi9.out,hb9.out⟩,by simp [intOf];omega⟩
     · obtain rfl:i=l.length:=by omega
       have hdi:¬(((l.length:Nat):Int)<(l.length:Int)):=by omega
       rw [List.take_length] at hMi;go_wp2_with fail
       go_loopw [8] (fun vk wx=>∃(k:Nat) (M:Nat→Nat→Bool),vk = .int .i64 k∧k≤j∧MxW wx w.heap.size j c3 A3 gl M∧(∀a b,a<j→b<j→(M a b=true↔PathLt l k a b))∧Below w.heap.size w wx) (fun vk _=>j-(intOf vk).toNat)
       case atStart=>exact ⟨0,M,rfl,Nat.zero_le _,hM,fun a b _ _=>(hMi a b).trans zi4.symm,hbx⟩
       case round =>
        clear hM hbx hMi;obtain ⟨k,M,rfl,hkj,hM,hMk,hbx⟩:=hrel;by_cases hk:k<j
        · have hdk:(k:Int)<(j:Int):=by omega
          have hI:=InvM.start hMk;clear hMk;go_wp2_with fail
          go_loopw [9] (fun vi wx=>∃(i:Nat) (M:Nat→Nat→Bool),vi = .int .i64 i∧i≤j∧MxW wx w.heap.size j c3 A3 gl M∧InvM l j k i 0 M∧Below w.heap.size w wx) (fun vi _=>j-(intOf vi).toNat)
          case atStart=>exact ⟨0,M,rfl,Nat.zero_le _,hM,hI,hbx⟩
          case round =>
           clear hM hI hbx;obtain ⟨i,M,rfl,hij,hM,hI,hbx⟩:=hrel;by_cases hi2:i<j
           · have hdi2:(i:Int)<(j:Int):=by omega
             go_wp2_with fail
             go_loopw [10] (fun vb wx=>∃(b:Nat) (M:Nat→Nat→Bool),vb = .int .i64 b∧b≤j∧MxW wx w.heap.size j c3 A3 gl M∧InvM l j k i b M∧Below w.heap.size w wx) (fun vb _=>j-(intOf vb).toNat)
             case atStart=>exact ⟨0,M,rfl,Nat.zero_le _,hM,hI,hbx⟩
             case round =>
              clear hM hI hbx;obtain ⟨b,M,rfl,hbj,hM,hI,hbx⟩:=hrel;by_cases hb2:b<j
              · have hdb:(b:Int)<(j:Int):=by omega
                obtain ⟨b5,o5,g,rfl,hg,m0,m1,m2,m3,m4,m5⟩:=hM.at_ hi2;obtain ⟨b6,o6,g2,e6,hg2,n0,n1,n2,n3,n4,n5⟩:=hM.at_ hk;injection e6 with e6
                injection e6 with e61 e62 _
                subst e61;subst e62;have p1:=m5 b hb2;have p2:=m5 k hk;have p3:=n5 b hb2;have p4:=m1 b;have hM9:=(hM.set hg hb2 (M i b || M i k && M k b)).drew;have hb9:Below w.heap.size w (wr.setCell ⟨g,b,none⟩ (.bool (M i b || M i k && M k b))).drew:=(hbx.setCell m2 _).drew;have hI9:=hI.step hk hi2 hb2;replace hM9:=Lib.hid hM9;replace hb9:=Lib.hid hb9;replace hI9:=Lib.hid hI9;clear hM hI hbx m5 n5 m1 n1;generalize M i b=x1 at *
                generalize M i k=x2 at *
                generalize M k b=x3 at *
                cases x1 with
                | true =>
                 go_wp2_with fail
                 go_region
                 go_wp2_with fail
                 exact ⟨⟨b + 1,_,by go_num,by omega,hM9.out,hI9.out,hb9.out⟩,by simp [intOf];omega⟩
                | false =>
                 cases x2 with
                 | true =>
                  go_wp2_with fail
                  go_region
                  go_wp2_with fail
                  exact ⟨⟨b + 1,_,by go_num,by omega,hM9.out,hI9.out,hb9.out⟩,by simp [intOf];omega⟩
                 | false =>
                  go_wp2_with fail
                  go_region
                  go_wp2_with fail
                  exact ⟨⟨b + 1,_,by go_num,by omega,hM9.out,hI9.out,hb9.out⟩,by simp [intOf];omega⟩
              · obtain rfl:b=j:=by omega
                have hdb:¬((b:Int)<(b:Int)):=by omega
                go_wp2_with fail
                exact ⟨⟨i + 1,M,by go_num,by omega,hM,hI.row,hbx⟩,by simp [intOf];omega⟩
           · obtain rfl:i=j:=by omega
             have hdi2:¬((i:Int)<(i:Int)):=by omega
             go_wp2_with fail
             exact ⟨⟨k + 1,M,by go_num,by omega,hM,hI.done,hbx⟩,by simp [intOf];omega⟩
        · obtain rfl:k=j:=by omega
          have hdk:¬((k:Int)<(k:Int)):=by omega
          go_wp2_with fail
          go_ret
          exact ⟨⟨A3,c3,rfl,gl,M,hM,hMk⟩,hbx⟩
end Go.Proofs.YtiepddmagfmllaaGreat
namespace Go.Proofs.YtiepddmagfmllaaGreat
open Go.RowKit
theorem zjl {B nq:Nat} {w w':World} (h:Below B w w'):Below B w (w'.drewN nq):=h.trans ⟨rfl,rfl,rfl,Nat.le_refl _,fun _ _=>rfl⟩
theorem cycle_any {w:World} {n c:Nat} {A:Option Addr} {l:List Ed} (h:Rd w w.heap.size 3 A l.length c (zan l)) (hi:InR n l) (hn:n≤255) (hl:l.length≤100000) {r:Bool} (hr:r=true↔Cyc l) :
 Calls Tryz.prog 33 #[.int .i64 (n:Int),.slice A l.length c] w fun e w'=>e = .returned (.bool r)∧Below w.heap.size w w':=by
 have kw:=ways_any h hi hn hl;replace hr:=Lib.hid hr;go_enter Tryz.func33,Tryz.ntmps33
 go_wp2_with (go_at_call 71;refine kw.mono ?_;rintro e w1 ⟨⟨A1,c1,rfl,gl,M,hM,hMp⟩,hb1⟩)
 have h1:=h.below hb1;clear kw;go_loopw [6] (fun vi wx=>∃i:Nat,vi = .int .i64 i∧i≤l.length∧Below w1.heap.size w1 wx∧¬∃e ∈ l.take i,e.2.2=true∧(fr e=tt e∨PathLt l n (tt e) (fr e))) (fun vi _=>l.length-(intOf vi).toNat)
 case atStart=>exact ⟨0,rfl,Nat.zero_le _,Below.refl _ _,by simp⟩
 case round =>
  obtain ⟨i,rfl,hil,hbx,hno⟩:=hrel;have h2:=h1.below (hbx.mono hb1.size);have hMx:=hM.below hbx;have hb9:Below w.heap.size w wr:=hb1.trans (hbx.mono hb1.size);have hb8:=hb1.trans (hbx.mono hb1.size);by_cases hlt:i<l.length
  · have hdi:(i:Int)<(l.length:Int):=by omega
    obtain ⟨e,he⟩:∃e,l[i]? = some e:=⟨_,List.getElem?_eq_getElem hlt⟩;have hem:=List.mem_of_getElem? he;have hfe:e.1=((fr e:Nat):Int):=by have:=hi e hem;unfold fr;omega
    have hte:e.2.1=((tt e:Nat):Int):=by have:=hi e hem;unfold tt;omega
    have hfn:=hi.fr hem;have htn:=hi.tt hem;have hfi:((fr e:Nat):Int)<(n:Int):=by omega
    have hti:((tt e:Nat):Int)<(n:Int):=by omega
    obtain ⟨b,o,rfl,hb,c0,c1,c2⟩:=zdA h2 he;rw [hfe] at c0;rw [hte] at c1;obtain ⟨b5,o5,g,rfl,hg,m0,m1,m2,m3,m4,m5⟩:=hMx.at_ htn;have m6:=m5 _ hfn;have m7:=hMp _ _ htn hfn;have hyes:Hid (e.2.2=true→(fr e=tt e∨M (tt e) (fr e)=true)→Cyc l):=Lib.hid fun q1 q2=>(zjo hi).2 ⟨e,hem,q1,q2.imp id m7.1⟩;have hnext:Hid (¬(e.2.2=true∧(fr e=tt e∨M (tt e) (fr e)=true))→¬∃e ∈ l.take (i + 1),e.2.2=true∧(fr e=tt e∨PathLt l n (tt e) (fr e))):=Lib.hid fun q=>by
     rw [List.take_add_one,he];rintro ⟨d,hd,q1,q2⟩;rcases List.mem_append.1 hd with hd | hd
     · exact hno ⟨d,hd,q1,q2⟩
     · simp at hd;subst hd;exact q ⟨q1,q2.imp id m7.2⟩
    clear hno he m5 m1 m7 hfe hte hMp hem hMx;generalize fr e=f at *
    generalize tt e=t at *
    generalize M t f=x at *
    generalize e.2.2=y at *
    cases y with
    | false =>
     replace hnext:=Lib.hid (hnext.out (by simp));clear hyes;go_wp2_with fail
     go_quiet (fail)
     go_wp2_with fail
     exact ⟨⟨i + 1,by go_num,by omega,zjl hbx,hnext.out⟩,by simp [intOf];omega⟩
    | true =>
     by_cases hft:f=t
     · subst hft;have hC:=Lib.hid (hyes.out rfl (.inl rfl));obtain rfl:r=true:=hr.out.2 hC.out;clear hyes hnext;go_wp2_with fail
       go_quiet (fail)
       go_wp2_with fail
       go_ret
       exact ⟨rfl,zjl hb9⟩
     · have hft2:¬((f:Int)=(t:Int)):=by omega
       cases x with
       | true =>
        have hC:=Lib.hid (hyes.out rfl (.inr rfl));obtain rfl:r=true:=hr.out.2 hC.out;clear hyes hnext;go_wp2_with fail
        go_quiet (fail)
        go_wp2_with fail
        go_ret
        exact ⟨rfl,zjl hb9⟩
       | false =>
        replace hnext:=Lib.hid (hnext.out (by simp [hft]));clear hyes;go_wp2_with fail
        go_quiet (fail)
        go_wp2_with fail
        exact ⟨⟨i + 1,by go_num,by omega,zjl hbx,hnext.out⟩,by simp [intOf];omega⟩
  · obtain rfl:i=l.length:=by omega
    have hdi:¬(((l.length:Nat):Int)<(l.length:Int)):=by omega
    rw [List.take_length] at hno;obtain rfl:r=false:=by
     cases r with
     | false=>rfl
     | true=>exact absurd ((zjo hi).1 (hr.out.1 rfl)) hno
    go_wp2_with fail
    go_ret
    exact ⟨rfl,hb8⟩
end Go.Proofs.YtiepddmagfmllaaGreat
