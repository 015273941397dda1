import Derived.IntWalk
import Derived.Test.YtiepddmagfmllaaGreatT18
import Derived.Test.YtiepddmagfmllaaGreatT19
set_option maxRecDepth 100000
set_option maxHeartbeats 4000000
namespace Go.Proofs.YtiepddmagfmllaaGreat
open Go.RowKit
theorem info_E:(Tryz.prog.info? 166).map (fun i=>(i.zero,i.size,i.bytes))=some (some (.agg #[.int .i64 0,.int .i64 0,.bool false]),3,24):=by kernel_rfl
theorem from_any:∀(t:Ex),t.good→∀(pre post:List OpP) (w:World) (A:Option Addr) (c:Nat) (L:List OpI),L=(pre ++ t.ops ++ post).map opZ→L.length≤100000→Rd w w.heap.size 3 A L.length c (L.flatMap aOp) →
 Calls Tryz.prog 110 #[.slice A L.length c,.int .i64 ((pre.length + t.len-1:Nat):Int)] w fun e w'=>e = .returned (.int .i64 (pre.length:Nat))∧Below w.heap.size w w':=by
 have leaf:∀(q:OpP),q.1<4→∀(pre post:List OpP) (w:World) (A:Option Addr) (c:Nat) (L:List OpI),L=(pre ++ [q] ++ post).map opZ→Rd w w.heap.size 3 A L.length c (L.flatMap aOp) →
  Calls Tryz.prog 110 #[.slice A L.length c,.int .i64 ((pre.length:Nat):Int)] w fun e w'=>e = .returned (.int .i64 (pre.length:Nat))∧Below w.heap.size w w':=by
  intro q hq pre post w A c L hL h;have hi:L[pre.length]? = some (opZ q):=by
   rw [hL,List.getElem?_map,List.append_assoc,List.getElem?_append_right (Nat.le_refl _),Nat.sub_self];rfl
  have hll:L.length=pre.length + 1 + post.length:=by rw [hL];simp;omega
  obtain ⟨b,o,rfl,_,g0,_,_⟩:=zjI h hi rfl;obtain ⟨p,hp⟩:∃p,pre.length=p:=⟨_,rfl⟩;rw [hp] at g0 hll ⊢;have hdi:(p:Int)<(L.length:Int):=by omega
  have hk:((opZ q).1)<4:=by show ((q.1:Nat):Int)<4;omega
  obtain ⟨z,hz⟩:∃z,(opZ q).1=z:=⟨_,rfl⟩;rw [hz] at g0 hk;clear hi hL hp hz hll;go_enter Tryz.func110,Tryz.ntmps110
  go_wp2_with fail
  go_ret
  exact ⟨rfl,Below.refl _ _⟩
 intro t;induction t with
 | this=>intro _ pre post w A c L hL _ h;exact leaf (1,⟨#[]⟩,⟨#[]⟩) (by decide) pre post w A c L hL h
 | same n=>intro _ pre post w A c L hL _ h;exact leaf (2,n,⟨#[]⟩) (by show 2<4;decide) pre post w A c L hL h
 | via n m=>intro _ pre post w A c L hL _ h;exact leaf (3,n,m) (by show 3<4;decide) pre post w A c L hL h
 | bin k a b iha ihb =>
  intro hg pre post w A c L hL hll h;obtain ⟨hk,ga,gb⟩:=hg;have hla:=a.len_pos;have hlb:=b.len_pos;have hi:L[pre.length + a.len + b.len]? = some (opZ (opK k)):=by
   have e:pre ++ (Ex.bin k a b).ops ++ post=(pre ++ a.ops ++ b.ops) ++ opK k::post:=by rw [Ex.ops];simp
   rw [hL,List.getElem?_map,e,List.getElem?_append_right (by simp [Ex.len];omega)];simp [Ex.len,Nat.add_assoc]
  have k1:Calls Tryz.prog 110 #[.slice A L.length c,.int .i64 (((pre.length + a.len + b.len:Nat):Int)-1)] w fun e w'=>e = .returned (.int .i64 ((pre.length + a.len:Nat):Int))∧Below w.heap.size w w':=by
   have:=ihb gb (pre ++ a.ops) (opK k::post) w A c L (by rw [hL,Ex.ops];simp) hll h;rw [List.length_append,show a.ops.length=a.len from rfl,show ((pre.length + a.len + b.len-1:Nat):Int)=((pre.length + a.len + b.len:Nat):Int)-1 by omega] at this;exact this
  have k2:∀W,Below w.heap.size w W→Calls Tryz.prog 110 #[.slice A L.length c,.int .i64 (((pre.length + a.len:Nat):Int)-1)] W fun e w'=>e = .returned (.int .i64 (pre.length:Nat))∧Below W.heap.size W w':=fun W hW=>by
   have:=iha ga pre (b.ops ++ opK k::post) W A c L (by rw [hL,Ex.ops];simp) hll (h.up hW);rw [show ((pre.length + a.len-1:Nat):Int)=((pre.length + a.len:Nat):Int)-1 by omega] at this;exact this
  have hL2:L.length=pre.length + (a.len + b.len + 1) + post.length:=by
   rw [hL,List.length_map,List.length_append,List.length_append,show (Ex.bin k a b).ops.length=(Ex.bin k a b).len from rfl,Ex.len_bin]
  obtain ⟨b0,o,rfl,_,g0,_,_⟩:=zjI h hi rfl;rw [Ex.len_bin,show pre.length + (a.len + b.len + 1)-1=pre.length + a.len + b.len by omega];have hz:¬((opZ (opK k)).1)<4:=by show ¬((k:Nat):Int)<4;omega
  obtain ⟨z,hz2⟩:∃z,(opZ (opK k)).1=z:=⟨_,rfl⟩;rw [hz2] at g0 hz;obtain ⟨q,hq⟩:∃q,pre.length + a.len=q:=⟨_,rfl⟩;rw [hq] at k1 k2 g0 ⊢;obtain ⟨p,hp⟩:∃p,q + b.len=p:=⟨_,rfl⟩;rw [hp] at k1 g0 ⊢;have hdi:(p:Int)<(L.length:Int):=by omega
  have hp0:0<p:=by omega
  have hq0:0<q:=by omega
  clear iha ihb hi hL hz2 leaf hL2;go_enter Tryz.func110,Tryz.ntmps110
  go_upto_region 4 with (go_at_call 110;refine k1.mono ?_;rintro e w1 ⟨rfl,hb1⟩)
  replace k2:=k2 _ hb1;go_wp2_with (go_at_call 110;refine k2.mono ?_;rintro e w2 ⟨rfl,hb2⟩)
  go_ret
  exact ⟨rfl,zah hb1 hb1.size hb2⟩
theorem not_any {w:World} {A:Option Addr} {c p:Nat} {L:List OpI} {t:Ex} (ht:L=t.ops.map opZ) (hg:t.good) (hl:L.length≤100000) (hp:p<L.length) (h:Rd w w.heap.size 3 A L.length c (L.flatMap aOp)) :
 Calls Tryz.prog 69 #[.slice A L.length c,.int .i64 (p:Int)] w fun e w'=>e = .returned (.bool (zaS L p))∧Below w.heap.size w w':=by
 have hlen:L.length=t.len:=by rw [ht];exact zfp t
 have hlen2:=Lib.hid hlen;have hr:Hid (zaS L p=decide (0<t.cnt p)):=Lib.hid (by rw [ht];exact zfx hg (by omega));generalize zaS L p=r at *
 clear hlen;have ht2:=Lib.hid ht;clear ht;go_enter Tryz.func69,Tryz.ntmps69
 go_wp2_with fail
 go_loopw [5] (fun vi wx=>∃i:Nat,vi = .int .i64 i∧p<i∧i≤L.length∧(∀j,p<j→j<i→¬(t.kd j=6∧t.bgn j≤p))∧Below w.heap.size w wx) (fun vi _=>L.length-(intOf vi).toNat)
 case atStart=>exact ⟨p + 1,by go_num,by omega,by omega,fun j h1 h2=>by omega,Below.refl _ _⟩
 case round =>
  obtain ⟨i,rfl,hpi,hi,hno,hbx⟩:=hrel;by_cases hil:i<L.length
  · have hdi:(i:Int)<(L.length:Int):=by omega
    have hx:L[i]? = some (opZ (t.ops.getD i (0,⟨#[]⟩,⟨#[]⟩))):=by
     rw [ht2.out,List.getElem?_map,List.getD_eq_getElem?_getD,List.getElem?_eq_getElem (by have hlen:=hlen2.out;unfold Ex.len at hlen;omega)];rfl
    have hxb:=h.up hbx;obtain ⟨b,o,rfl,_,g0,_,_⟩:=zjI hxb hx rfl;have hkd:(opZ (t.ops.getD i (0,⟨#[]⟩,⟨#[]⟩))).1=((t.kd i:Nat):Int):=rfl;rw [hkd] at g0;by_cases h6:t.kd i=6
    · obtain ⟨pre,bt,post,e1,e2,e3,e4⟩:=t.sub_at hg i (by have:=hlen2.out;omega) (by omega);have kf:=from_any bt e2 pre post wr _ c L (by rw [ht2.out,e1]) hl hxb;rw [e4,show ((i-1:Nat):Int)=(i:Int)-1 by omega,e3] at kf;have hnext:Hid (¬t.bgn i≤p→∀j,p<j→j<i + 1→¬(t.kd j=6∧t.bgn j≤p)):=Lib.hid fun q j h1 h2=>by
       by_cases e:j=i
       · subst e;exact fun x=>q x.2
       · exact hno j h1 (by omega)
      have hyes:Hid (t.bgn i≤p→r=true):=Lib.hid fun q=>by
       rw [hr.out];exact decide_eq_true ((t.cnt_has p).2 ⟨i,hpi,by have:=hlen2.out;omega,h6,q⟩)
      rw [h6] at g0;generalize t.bgn i=bg at *
      clear hno hx hkd e1 e2 e3 e4 hxb h6;by_cases hbp:bg≤p
      · have hbp2:(bg:Int)≤(p:Int):=by omega
        obtain rfl:=hyes.out hbp;clear hyes hnext;go_wp2_with (go_at_call 110;refine kf.mono ?_;rintro e w1 ⟨rfl,hb1⟩)
        go_ret
        exact ⟨rfl,zah hbx hbx.size hb1⟩
      · have hbp2:¬(bg:Int)≤(p:Int):=by omega
        replace hnext:=Lib.hid (hnext.out hbp);clear hyes;go_wp2_with (go_at_call 110;refine kf.mono ?_;rintro e w1 ⟨rfl,hb1⟩)
        exact ⟨⟨i + 1,by go_num,by omega,by omega,hnext.out,zah hbx hbx.size hb1⟩,by simp [intOf];omega⟩
    · have h62:¬((t.kd i:Nat):Int)=6:=by omega
      have hnext:Hid (∀j,p<j→j<i + 1→¬(t.kd j=6∧t.bgn j≤p)):=Lib.hid fun j h1 h2=>by
       by_cases e:j=i
       · subst e;exact fun x=>h6 x.1
       · exact hno j h1 (by omega)
      have h63:(((t.kd i:Nat):Int) == 6)=false:=by simpa using h62
      clear hno hx hkd hxb h6;generalize ((t.kd i:Nat):Int)=z at *
      go_wp2_with fail
      exact ⟨⟨i + 1,by go_num,by omega,by omega,hnext.out,hbx⟩,by simp [intOf];omega⟩
  · obtain rfl:i=L.length:=by omega
    have hdi:¬(((L.length:Nat):Int)<(L.length:Int)):=by omega
    obtain rfl:r=false:=by
     rw [hr.out];refine decide_eq_false fun q=>?_;obtain ⟨i,h1,h2,h3,h4⟩:=(t.cnt_has p).1 q;exact hno i h1 (by have:=hlen2.out;omega) ⟨h3,h4⟩
    go_wp2_with fail
    go_ret
    exact ⟨rfl,hbx⟩
theorem below_any (a b:Ed) (w:World):Calls Tryz.prog 111 #[.agg (zaT a).toArray,.agg (zaT b).toArray] w fun e w'=>e = .returned (.bool (decide (cfE a b<0)))∧Below w.heap.size w w':=by
 obtain ⟨r,hr⟩:∃r,decide (cfE a b<0)=r:=⟨_,rfl⟩;rw [hr];have hc:=zdn a b;obtain ⟨a1,a2,a3⟩:=a;obtain ⟨b1,b2,b3⟩:=b;simp only [zaT] at *
 have hr2:r=decide (a1<b1∨(a1=b1∧(a2<b2∨(a2=b2∧riI (a1,a2,a3)<riI (b1,b2,b3))))):=by
  rw [←hr];exact decide_eq_decide.2 hc
 clear hr hc;have x1:=Bk.new w #[.int .i64 a1,.int .i64 a2,.bool a3] 166;replace x1:=x1.alloc (.cells #[.int .i64 b1,.int .i64 b2,.bool b3] 166);have x2:=Bk.new (w.alloc (.cells #[.int .i64 a1,.int .i64 a2,.bool a3] 166)) #[.int .i64 b1,.int .i64 b2,.bool b3] 166;have hF:Below w.heap.size w ((w.alloc (.cells #[.int .i64 a1,.int .i64 a2,.bool a3] 166)).alloc (.cells #[.int .i64 b1,.int .i64 b2,.bool b3] 166)):=((Below.refl _ w).alloc (Nat.le_refl _) _).alloc (by simp) _;simp only [World.size_alloc] at x2;go_enter Tryz.func111,Tryz.ntmps111
 go_upto_region 1 with (fail)
 obtain ⟨w1,hw1⟩:∃w1,(w.alloc (.cells #[.int .i64 a1,.int .i64 a2,.bool a3] 166)).alloc (.cells #[.int .i64 b1,.int .i64 b2,.bool b3] 166)=w1:=⟨_,rfl⟩;rw [hw1] at x1 x2 hF ⊢;clear hw1;have p0:=x1.cell 0;have p1:=x1.cell 1;have p2:=x1.cell 2;have q0:=x2.cell 0;have q1:=x2.cell 1;have q2:=x2.cell 2;have pl:=x1.lt;have ql:=x2.lt;simp only [List.getElem?_toArray,List.getElem?_cons_zero,List.getElem?_cons_succ] at p0 p1 p2 q0 q1 q2;clear x1 x2;replace hr2:=Lib.hid hr2;by_cases h1:a1=b1
 · subst h1;have n1:(a1 != a1)=false:=by simp
   by_cases h2:a2=b2
   · subst h2;have n2:(a2 != a2)=false:=by simp
     obtain rfl:r=(!a3 && b3):=by rw [hr2.out];cases a3 <;> cases b3 <;> simp [riI]
     clear hr2;cases a3 with
     | true =>
      go_wp2_with fail
      go_ret
      exact ⟨rfl,hF⟩
     | false =>
      go_wp2_with fail
      go_ret
      exact ⟨by simp,hF⟩
   · have n2:(a2 != b2)=true:=by simpa using h2
     obtain rfl:r=decide (a2<b2):=by rw [hr2.out];exact decide_eq_decide.2 (by omega)
     clear hr2;go_wp2_with fail
     go_ret
     exact ⟨rfl,hF⟩
 · have n1:(a1 != b1)=true:=by simpa using h1
   obtain rfl:r=decide (a1<b1):=by rw [hr2.out];exact decide_eq_decide.2 (by omega)
   clear hr2;go_wp2_with fail
   go_ret
   exact ⟨rfl,hF⟩
theorem zc3 (l:List TypA):(zaz (l.map TypA.says)).length=(relsA l).length:=by rw [←zaO,List.length_map]
theorem zkB {l:List TypA} (hR:Right (l.map TypA.says)) {i:Nat} {t:TypA} (ht:l[i]? = some t) {re:ByteArray} {z:Int} (hz:AtZ (fun t:RelA=>decide (t.name=re)) t.rels z) :
 (z<0→zcA (zap (l.map TypA.says)) (t.name,re) = -1)∧(0≤z→zcA (zap (l.map TypA.says)) (t.name,re)=((relsA (l.take i)).length:Nat) + z∧z<t.rels.length):=by
 have hT:(l.map TypA.says)[i]? = some t.says:=by rw [List.getElem?_map,ht];rfl
 rcases hz with ⟨rfl,hf⟩ | ⟨k,r,rfl,hr,hf,_⟩
 · refine ⟨fun _=>?_,fun h=>absurd h (by decide)⟩;refine num_rel hR (t:=t.says) (List.mem_of_getElem? hT) fun r hr=>?_;obtain ⟨q,hq,rfl⟩:=List.mem_map.1 hr;have:=List.find?_eq_none.1 hf q hq;have h2:¬q.name=re:=by simpa using this
   exact h2
 · refine ⟨fun h=>by omega,fun _=>?_⟩;have hn:r.name=re:=by have:=List.find?_some hf;simpa using this
   subst hn;have h1:=zmb hR (k:=k) hT (r:=r.says) (by show (t.rels.map RelA.says)[k]? = _;rw [List.getElem?_map,hr];rfl);have h2:=zeq h1;rw [←List.map_take,zc3] at h2;refine ⟨?_,by have:=(List.getElem?_eq_some_iff.1 hr).1;omega⟩;exact h2.trans (by omega)
theorem zh0 {l:List TypA} {ty re:ByteArray} (hn:∀t ∈ l,t.name≠ty):zcA (zap (l.map TypA.says)) (ty,re) = -1:=num_typ fun t ht=>by
 obtain ⟨q,hq,rfl⟩:=List.mem_map.1 ht;exact hn q hq
theorem number_any {w:World} {R c:Nat} {A:Option Addr} {l:List TypA} (h:SchA w R A c l) (hR:Right (l.map TypA.says)) (ty re:ByteArray) :
 Calls Tryz.prog 40 #[.slice A l.length c,.string ty,.string re] w fun e w'=>e = .returned (.int .i64 (zcA (zap (l.map TypA.says)) (ty,re)))∧Below w.heap.size w w':=by
 have hn96:(relsA l).length≤96:=by rw [←zc3];exact hR.rels_le
 have hll:(l.length:Int)≤9223372036854775807:=by have:=h.rows.cap;have:=h.rows.capm;simp only [maxLen] at this;omega
 obtain ⟨r,hr⟩:∃r,zcA (zap (l.map TypA.says)) (ty,re)=r:=⟨_,rfl⟩;rw [hr];replace hr:=Lib.hid hr;go_enter Tryz.func40,Tryz.ntmps40
 go_wp2_with fail
 go_loopw [7,8] (fun vn vi wx=>∃i:Nat,vi = .int .i64 i∧vn = .int .i64 ((relsA (l.take i)).length:Nat)∧i≤l.length∧(∀t ∈ l.take i,t.name≠ty)∧Below w.heap.size w wx) (fun _ vi _=>l.length-(intOf vi).toNat)
 case atStart=>exact ⟨0,rfl,rfl,Nat.zero_le _,fun t ht=>(by simp at ht),Below.refl _ _⟩
 case round =>
  obtain ⟨i,rfl,rfl,hi,hno,hbx⟩:=hrel;by_cases hil:i<l.length
  · have hdi:(i:Int)<(l.length:Int):=by omega
    obtain ⟨t,ht⟩:∃t,l[i]? = some t:=⟨_,List.getElem?_eq_getElem hil⟩;obtain ⟨g,o,rfl,g0,g1,hk⟩:=(h.up hbx).get ht;have lg:=World.block_lt_of_cell? _ _ g0;dsimp only at lg;have kr:=rel9_any hk re;have hsn:=congrArg List.length (zbA ht);rw [List.length_append,List.length_map] at hsn;have hle:=zc2 (l:=l) (i + 1);rw [hsn] at hle;have hle2:(relsA (l.take i)).length + t.rels.length≤96:=Nat.le_trans hle hn96;have hnum:=fun (z:Int) (hz:AtZ (fun t:RelA=>decide (t.name=re)) t.rels z)=>zkB hR ht hz;have hnext:Hid (t.name≠ty→∀q ∈ l.take (i + 1),q.name≠ty):=Lib.hid fun hne q hq=>by
     rw [List.take_add_one,ht] at hq;rcases List.mem_append.1 hq with hq | hq
     · exact hno q hq
     · simp at hq;subst hq;exact hne
    obtain ⟨n,hn⟩:∃n,(relsA (l.take i)).length=n:=⟨_,rfl⟩;obtain ⟨tA,htA⟩:∃tA,t.A=tA:=⟨_,rfl⟩;rw [hn] at hsn hle2 hnum ⊢;rw [htA] at g1 kr;replace hsn:=Lib.hid hsn;replace hnum:=Lib.hid hnum;have hq:=zaE t.name ty;clear hle hno hn ht;go_upto_region 6 with (go_at_call 67;refine kr.mono ?_;rintro e w1 ⟨⟨z,rfl,hz⟩,hb1⟩)
    obtain ⟨hz1,hz2⟩:=hnum.out z hz;have g0':=zaq g0 hb1;have g1':=zaq g1 hb1;have lg':=World.block_lt_of_cell? _ _ g0';dsimp only at lg';have hbw:=zah hbx hbx.size hb1;clear kr hz g0 g1 hnum hb1;by_cases hty:t.name=ty
    · have hd:decide (t.name=ty)=true:=decide_eq_true hty;rw [hd] at hq;rw [←hty] at hr;by_cases hz0:z<0
      · obtain rfl:r = -1:=hr.out.symm.trans (hz1 hz0);clear hz1 hz2 hr hty;go_wp2_with fail
        go_ret
        exact ⟨rfl,hbw⟩
      · obtain ⟨hz3,hz4⟩:=hz2 (by omega);obtain rfl:r=(n:Int) + z:=hr.out.symm.trans hz3;clear hz1 hz2 hr hty hz3;go_wp2_with fail
        go_ret
        exact ⟨rfl,hbw⟩
    · have hd:decide (t.name=ty)=false:=decide_eq_false hty;rw [hd] at hq;replace hnext:=Lib.hid (hnext.out hty);clear hz1 hz2 hty;go_wp2_with fail
      exact ⟨⟨i + 1,by go_num,by rw [hsn.out];go_num,by omega,hnext.out,hbw⟩,by simp [intOf];omega⟩
  · obtain rfl:i=l.length:=by omega
    have hdi:¬(((l.length:Nat):Int)<(l.length:Int)):=by omega
    rw [List.take_length] at hno;obtain rfl:r = -1:=hr.out.symm.trans (zh0 hno);go_wp2_with fail
    go_ret
    exact ⟨rfl,hbx⟩
end Go.Proofs.YtiepddmagfmllaaGreat
namespace Go.Proofs.YtiepddmagfmllaaGreat
open Go.RowKit
def atA (l:List TypA) (id:Int):Option (TypA × RelA):=if 0≤id then (relsA l)[id.toNat]? else none
def relZ:RelA:=⟨⟨#[]⟩,⟨#[]⟩,⟨#[]⟩,⟨#[]⟩,none,0,[],none,0,[]⟩
theorem set6Z {w w0:World} {B b:Nat} {t:TypeId} {x0 x1 x2 x3 x4 x5:Value} (h:Bk w0 b #[x0,x1,x2,x3,x4,x5] t) (hb:Below B w w0) (hB:B≤b) (v0 v1 v2 v3 v4 v5:Value) :
 Bk ((((((w0.setCell ⟨b,0,none⟩ v0).setCell ⟨b,1,none⟩ v1).setCell ⟨b,2,none⟩ v2).setCell ⟨b,3,none⟩ v3).setCell ⟨b,4,none⟩ v4).setCell ⟨b,5,none⟩ v5) b #[v0,v1,v2,v3,v4,v5] t ∧
 Below B w ((((((w0.setCell ⟨b,0,none⟩ v0).setCell ⟨b,1,none⟩ v1).setCell ⟨b,2,none⟩ v2).setCell ⟨b,3,none⟩ v3).setCell ⟨b,4,none⟩ v4).setCell ⟨b,5,none⟩ v5) :=
 ⟨by
  have hw:=(((((h.set 0 v0).set 1 v1).set 2 v2).set 3 v3).set 4 v4).set 5 v5;simp only [List.setIfInBounds_toArray,List.set_cons_zero,List.set_cons_succ] at hw;exact hw,(((((hb.setCell hB _).setCell hB _).setCell hB _).setCell hB _).setCell hB _).setCell hB _⟩
theorem zbD {B:Nat} {w w':World} (hb:Below B w w') {b i:Nat} (hl:b<B) {v:Value} (h:w.cell? ⟨b,i,none⟩=some v):w'.cell? ⟨b,i,none⟩=some v:=by
 exact (hb.cell (p:=⟨b,i,none⟩) hl).trans h
section
variable {w:World} {R c:Nat} {A:Option Addr} {l:List TypA} {AL:Option Addr} {nL cL:Nat}
theorem len11_any (h:SchA w R A c l) (hn96:(relsA l).length≤96):Calls Tryz.prog 8 #[.agg #[.slice A l.length c,.slice AL nL cL]] w fun e w'=>e = .returned (.int .i64 ((relsA l).length:Nat))∧Below w.heap.size w w':=by
 have hll:(l.length:Int)≤9223372036854775807:=by have:=h.rows.cap;have:=h.rows.capm;simp only [maxLen] at this;omega
 have hb0:=zck w (.cells #[.slice A l.length c,.slice AL nL cL] 34);have d0:=Bk.new w #[.slice A l.length c,.slice AL nL cL] 34;have h0:=h.up hb0;go_enter Tryz.func8,Tryz.ntmps8
 go_upto_region 1 with (fail)
 generalize w.alloc (.cells #[.slice A l.length c,.slice AL nL cL] 34)=w0 at *
 go_wp2_with fail
 go_loopw [3,4] (fun vn vi wx=>∃i:Nat,vi = .int .i64 i∧vn = .int .i64 ((relsA (l.take i)).length:Nat)∧i≤l.length∧Hid (wx=w0)) (fun _ vi _=>l.length-(intOf vi).toNat)
 case atStart=>exact ⟨0,rfl,rfl,Nat.zero_le _,Lib.hid rfl⟩
 case round =>
  obtain ⟨i,rfl,rfl,hi,hwx⟩:=hrel;have hwx2:=hwx.out;subst hwx2;obtain ⟨x0,x1⟩:=d0.c2;have xl:=d0.lt;by_cases hil:i<l.length
  · have hdi:(i:Int)<(l.length:Int):=by omega
    obtain ⟨t,ht⟩:∃t,l[i]? = some t:=⟨_,List.getElem?_eq_getElem hil⟩;obtain ⟨g,o,rfl,g0,g1,hk⟩:=h0.get ht;have lg:=World.block_lt_of_cell? _ _ g0;dsimp only at lg;have hsn:=congrArg List.length (zbA ht);rw [List.length_append,List.length_map] at hsn;have hle:=zc2 (l:=l) (i + 1);rw [hsn] at hle;have hle2:(relsA (l.take i)).length + t.rels.length≤96:=Nat.le_trans hle hn96;generalize (relsA (l.take i)).length=n at *
    replace hsn:=Lib.hid hsn;clear hle ht;go_wp2_with fail
    exact ⟨⟨i + 1,by go_num,by rw [hsn.out];go_num,by omega,Lib.hid trivial⟩,by simp [intOf];omega⟩
  · obtain rfl:i=l.length:=by omega
    have hdi:¬(((l.length:Nat):Int)<(l.length:Int)):=by omega
    rw [List.take_length];go_wp2_with fail
    go_ret
    exact ⟨rfl,hb0⟩
theorem id11_any (h:SchA w R A c l) (hR:Right (l.map TypA.says)) (ty re:ByteArray):Calls Tryz.prog 20 #[.agg #[.slice A l.length c,.slice AL nL cL],.string ty,.string re] w fun e w'=>e = .returned (.int .i64 (zcA (zap (l.map TypA.says)) (ty,re)))∧Below w.heap.size w w':=by
 have hb0:=zck w (.cells #[.slice A l.length c,.slice AL nL cL] 34);have ka:=number_any (h.up hb0) hR ty re;generalize zcA (zap (l.map TypA.says)) (ty,re)=r at *
 go_enter Tryz.func20,Tryz.ntmps20
 go_wp2_with (go_at_call 40;refine ka.mono ?_;rintro e w1 ⟨rfl,hb1⟩)
 go_ret
 exact ⟨rfl,zaj hb0 hb0.size hb1⟩
def zjc (x:RelA):Value:=.agg #[.string x.name,.string x.view,.string x.edit,.string x.check,.slice x.As x.subs.length x.cs,.slice x.Ao x.ops.length x.co]
def zfh:Option (TypA × RelA)→Value
 | some (t,x)=>.tuple #[.string t.name,zjc x,.bool true]
 | none=>.tuple #[.string ⟨#[]⟩,zjc relZ,.bool false]
theorem atA_in {l:List TypA} {i k:Nat} {t:TypA} {x:RelA} (ht:l[i]? = some t) (hx:t.rels[k]? = some x):atA l (((relsA (l.take i)).length:Nat) + (k:Int))=some (t,x):=by
 have hk:k<t.rels.length:=(List.getElem?_eq_some_iff.1 hx).1;have e:(((relsA (l.take i)).length:Nat) + (k:Int)).toNat=(relsA (l.take i)).length + k:=by omega
 unfold atA;rw [if_pos (by omega),e];have h1:relsA l=relsA (l.take i) ++ ((t.rels.map fun r=>(t,r)) ++ relsA (l.drop (i + 1))):=by
  unfold relsA;conv=>lhs;rw [←List.take_append_drop i l,List.flatMap_append,List.drop_eq_getElem_cons (List.getElem?_eq_some_iff.1 ht).1,List.flatMap_cons,(List.getElem?_eq_some_iff.1 ht).2]
 rw [h1,List.getElem?_append_right (by omega),Nat.add_sub_cancel_left,List.getElem?_append_left (by rw [List.length_map];exact hk),List.getElem?_map,hx];rfl
theorem rel11_any (h:SchA w R A c l) (hn96:(relsA l).length≤96) (id:Int) (hid:(Lit.int .i64 id).wf=true):Calls Tryz.prog 14 #[.agg #[.slice A l.length c,.slice AL nL cL],.int .i64 id] w fun e w'=>e = .returned (zfh (atA l id))∧Below w.heap.size w w':=by
 have hll:(l.length:Int)≤9223372036854775807:=by have:=h.rows.cap;have:=h.rows.capm;simp only [maxLen] at this;omega
 have hb0:=(zck w (.cells #[.slice A l.length c,.slice AL nL cL] 34)).alloc (size_alloc (Nat.le_refl _)) (.cells #[.string ⟨#[]⟩,.string ⟨#[]⟩,.string ⟨#[]⟩,.string ⟨#[]⟩,.slice none 0 0,.slice none 0 0] 48);have d0:=(Bk.new w #[.slice A l.length c,.slice AL nL cL] 34).alloc (.cells #[.string ⟨#[]⟩,.string ⟨#[]⟩,.string ⟨#[]⟩,.string ⟨#[]⟩,.slice none 0 0,.slice none 0 0] 48);have z0:=Bk.new2 w (.cells #[.slice A l.length c,.slice AL nL cL] 34) #[.string ⟨#[]⟩,.string ⟨#[]⟩,.string ⟨#[]⟩,.string ⟨#[]⟩,.slice none 0 0,.slice none 0 0] 48;have h0:=h.up hb0;obtain ⟨v,hv⟩:∃v,zfh (atA l id)=v:=⟨_,rfl⟩;rw [hv];replace hv:=Lib.hid hv;go_enter Tryz.func14,Tryz.ntmps14
 go_upto_region 1 with (fail)
 generalize (w.alloc (.cells #[.slice A l.length c,.slice AL nL cL] 34)).alloc (.cells #[.string ⟨#[]⟩,.string ⟨#[]⟩,.string ⟨#[]⟩,.string ⟨#[]⟩,.slice none 0 0,.slice none 0 0] 48)=w0 at *
 obtain ⟨y0,y1,y2,y3,y4,y5⟩:=z0.c6;have zl:=z0.lt;have zf:=z0.fz;have set6:=fun v0 v1 v2 v3 v4 v5=>set6Z z0 hb0 (Nat.le_succ _) v0 v1 v2 v3 v4 v5;by_cases h1:id<0
 · have g1:decide (id<0)=true:=decide_eq_true h1;obtain rfl:v=zfh none:=by rw [←hv.out,atA,if_neg (by omega)]
   clear hv;go_wp2_with fail
   obtain ⟨hw,hb⟩:=set6 (.string ⟨#[]⟩) (.string ⟨#[]⟩) (.string ⟨#[]⟩) (.string ⟨#[]⟩) (.slice none 0 0) (.slice none 0 0);obtain ⟨x0,x1,x2,x3,x4,x5⟩:=hw.c6;refine bodyPost_ret (v:=zfh none) (by simp [results,Tryz.results14,go_sem,x0,x1,x2,x3,x4,x5,zfh,zjc,relZ];try rfl) rfl ?_;exact ⟨rfl,hb⟩
 · have g1:decide (id<0)=false:=decide_eq_false h1;go_wp2_with fail
   obtain ⟨m0,rfl⟩:∃m:Nat,id=m:=⟨id.toNat,by omega⟩;have hm0:(m0:Int)≤9223372036854775807:=by simp [Lit.wf] at hid;omega
   go_loopw [1,7] (fun vn vi wx=>∃i m:Nat,vi = .int .i64 i∧vn = .int .i64 m∧i≤l.length∧(relsA (l.take i)).length + m=m0∧Hid (wx=w0)) (fun _ vi _=>l.length-(intOf vi).toNat)
   case atStart=>exact ⟨0,m0,rfl,rfl,Nat.zero_le _,by simp [relsA],Lib.hid rfl⟩
   case round =>
    obtain ⟨i,m,rfl,rfl,hi,hm,hwx⟩:=hrel;have hwx2:=hwx.out;subst hwx2;obtain ⟨x0,x1⟩:=d0.c2;have xl:=d0.lt;by_cases hil:i<l.length
    · have hdi:(i:Int)<(l.length:Int):=by omega
      obtain ⟨t,ht⟩:∃t,l[i]? = some t:=⟨_,List.getElem?_eq_getElem hil⟩;obtain ⟨g,o,rfl,g0,g1',hk⟩:=h0.get ht;obtain ⟨g2,o2,e2,g02,_,hk2⟩:=h.get ht;cases e2;have lg2:g<w.heap.size + 1:=Nat.lt_succ_of_lt (World.block_lt_of_cell? _ _ g02);have lg:=World.block_lt_of_cell? _ _ g0;dsimp only at lg;have hsn:=congrArg List.length (zbA ht);rw [List.length_append,List.length_map] at hsn;by_cases hmt:m<t.rels.length
      · obtain ⟨x,hx⟩:∃x,t.rels[m]? = some x:=⟨_,List.getElem?_eq_getElem hmt⟩;have hval:=atA_in ht hx;rw [show (((relsA (l.take i)).length:Nat):Int) + (m:Int)=(m0:Int) by omega] at hval;obtain rfl:v=zfh (some (t,x)):=by rw [←hv.out,hval]
        obtain ⟨gr,og,eA,r0,r1,r2,r3,r4,r5,hxo⟩:=hk.get hx;obtain ⟨gr2,og2,eA2,r02,_⟩:=hk2.get hx;rw [eA] at eA2 g1';cases eA2;have lr2:gr<w.heap.size + 1:=Nat.lt_succ_of_lt (World.block_lt_of_cell? _ _ r02);have lr:=World.block_lt_of_cell? _ _ r0;dsimp only at lr;have hdm:(m:Int)<(t.rels.length:Int):=by omega
        clear hsn hval hv ht hx;go_upto_region 7 with (fail)
        refine wp_region_any (by kernel_rfl) ?_;change wpAny _ _ _ _ _ _ _ (World.drew _);generalize hdw:World.drew wr=wz;have hbd:Below wr.heap.size wr wz:=by subst hdw;exact ⟨rfl,rfl,rfl,Nat.le_refl _,fun _ _=>rfl⟩
        have HS:(fun W:World=>W.cell? ⟨w.heap.size,0,none⟩=some (.slice (some ⟨g,o,none⟩) l.length c)∧W.cell? ⟨g,o + i * 2,none⟩=some (.string t.name)∧W.cell? ⟨g,o + i * 2 + 1,none⟩=some (.slice (some ⟨gr,og,none⟩) t.rels.length t.c)∧W.cell? ⟨gr,og + m * 6,none⟩=some (.string x.name)∧W.cell? ⟨gr,og + m * 6 + 1,none⟩=some (.string x.view)∧W.cell? ⟨gr,og + m * 6 + 2,none⟩=some (.string x.edit)∧W.cell? ⟨gr,og + m * 6 + 3,none⟩=some (.string x.check)∧W.cell? ⟨gr,og + m * 6 + 4,none⟩=some (.slice x.As x.subs.length x.cs)∧W.cell? ⟨gr,og + m * 6 + 5,none⟩=some (.slice x.Ao x.ops.length x.co)) wz:=⟨zaq x0 hbd,zaq g0 hbd,zaq g1' hbd,zaq r0 hbd,zaq r1 hbd,zaq r2 hbd,zaq r3 hbd,zaq r4 hbd,zaq r5 hbd⟩;have hz:=z0.below hbd;have hbz:=zaj hb0 hb0.size hbd;have lgz:g<wz.heap.size:=Nat.lt_of_lt_of_le lg hbd.size;have lrz:gr<wz.heap.size:=Nat.lt_of_lt_of_le lr hbd.size;have zlz:=hz.lt;have zfz:=hz.fz;obtain ⟨q0,q1,q2,q3,q4,q5⟩:=hz.c6;refine wpAny_of_held (S:=fun W=>W.cell? ⟨w.heap.size,0,none⟩=some (.slice (some ⟨g,o,none⟩) l.length c)∧W.cell? ⟨g,o + i * 2,none⟩=some (.string t.name)∧W.cell? ⟨g,o + i * 2 + 1,none⟩=some (.slice (some ⟨gr,og,none⟩) t.rels.length t.c)∧W.cell? ⟨gr,og + m * 6,none⟩=some (.string x.name)∧W.cell? ⟨gr,og + m * 6 + 1,none⟩=some (.string x.view)∧W.cell? ⟨gr,og + m * 6 + 2,none⟩=some (.string x.edit)∧W.cell? ⟨gr,og + m * 6 + 3,none⟩=some (.string x.check)∧W.cell? ⟨gr,og + m * 6 + 4,none⟩=some (.slice x.As x.subs.length x.cs)∧W.cell? ⟨gr,og + m * 6 + 5,none⟩=some (.slice x.Ao x.ops.length x.co)) _ _ _ _ ?_
        refine zaa 0 (some 27) (v:=?v0) rfl rfl (by kernel_rfl) (by kernel_rfl) (by kernel_rfl) (fun _ _ _ h=>h) (by rfl) ?y0 HS ?r0;case y0=>(intro W hS;go_simp;try with_reducible rfl)
        simp only [Act.put,List.setIfInBounds_toArray,List.set_cons_zero,List.set_cons_succ];refine zaa 1 (some 28) (v:=?v1) rfl rfl (by kernel_rfl) (by kernel_rfl) (by kernel_rfl) (fun _ _ _ h=>h) (by rfl) ?y1 HS ?r1;case y1=>(intro W hS;obtain ⟨s0,s1,s2,s3,s4,s5,s6,s7,s8⟩:=hS;go_simp;try with_reducible rfl)
        simp only [Act.put,List.setIfInBounds_toArray,List.set_cons_zero,List.set_cons_succ];refine zaa 2 (some 29) (v:=?v2) rfl rfl (by kernel_rfl) (by kernel_rfl) (by kernel_rfl) (fun _ _ _ h=>h) (by rfl) ?y2 HS ?r2;case y2=>(intro W hS;go_simp;try with_reducible rfl)
        simp only [Act.put,List.setIfInBounds_toArray,List.set_cons_zero,List.set_cons_succ];refine zaa 3 (some 30) (v:=?v3) rfl rfl (by kernel_rfl) (by kernel_rfl) (by kernel_rfl) (fun _ _ _ h=>h) (by rfl) ?y3 HS ?r3;case y3=>(intro W hS;go_simp;try with_reducible rfl)
        simp only [Act.put,List.setIfInBounds_toArray,List.set_cons_zero,List.set_cons_succ];refine zaa 4 (some 31) (v:=?v4) rfl rfl (by kernel_rfl) (by kernel_rfl) (by kernel_rfl) (fun _ _ _ h=>h) (by rfl) ?y4 HS ?r4;case y4=>(intro W hS;go_simp;try with_reducible rfl)
        simp only [Act.put,List.setIfInBounds_toArray,List.set_cons_zero,List.set_cons_succ];refine zaa 5 (some 32) (v:=?v5) rfl rfl (by kernel_rfl) (by kernel_rfl) (by kernel_rfl) (fun _ _ _ h=>h) (by rfl) ?y5 HS ?r5;case y5=>(intro W hS;obtain ⟨s0,s1,s2,s3,s4,s5,s6,s7,s8⟩:=hS;go_simp;try with_reducible rfl)
        simp only [Act.put,List.setIfInBounds_toArray,List.set_cons_zero,List.set_cons_succ];refine zaa 6 (some 33) (v:=?v6) rfl rfl (by kernel_rfl) (by kernel_rfl) (by kernel_rfl) (fun _ _ _ h=>h) (by rfl) ?y6 HS ?r6;case y6=>(intro W hS;go_simp;try with_reducible rfl)
        simp only [Act.put,List.setIfInBounds_toArray,List.set_cons_zero,List.set_cons_succ];refine zaa 7 (some 34) (v:=?v7) rfl rfl (by kernel_rfl) (by kernel_rfl) (by kernel_rfl) (fun _ _ _ h=>h) (by rfl) ?y7 HS ?r7;case y7=>(intro W hS;obtain ⟨s0,s1,s2,s3,s4,s5,s6,s7,s8⟩:=hS;go_simp;try with_reducible rfl)
        simp only [Act.put,List.setIfInBounds_toArray,List.set_cons_zero,List.set_cons_succ];refine zaa 8 (some 35) (v:=?v8) rfl rfl (by kernel_rfl) (by kernel_rfl) (by kernel_rfl) (fun _ _ _ h=>h) (by rfl) ?y8 HS ?r8;case y8=>(intro W hS;go_simp;try with_reducible rfl)
        simp only [Act.put,List.setIfInBounds_toArray,List.set_cons_zero,List.set_cons_succ];refine zaa 9 (some 36) (v:=?v9) rfl rfl (by kernel_rfl) (by kernel_rfl) (by kernel_rfl) (fun _ _ _ h=>h) (by rfl) ?y9 HS ?r9;case y9=>(intro W hS;go_simp;try with_reducible rfl)
        simp only [Act.put,List.setIfInBounds_toArray,List.set_cons_zero,List.set_cons_succ];refine zaa 10 (some 37) (v:=?v10) rfl rfl (by kernel_rfl) (by kernel_rfl) (by kernel_rfl) (fun _ _ _ h=>h) (by rfl) ?y10 HS ?r10;case y10=>(intro W hS;go_simp;try with_reducible rfl)
        simp only [Act.put,List.setIfInBounds_toArray,List.set_cons_zero,List.set_cons_succ];refine zaa 11 (some 38) (v:=?v11) rfl rfl (by kernel_rfl) (by kernel_rfl) (by kernel_rfl) (fun _ _ _ h=>h) (by rfl) ?y11 HS ?r11;case y11=>(intro W hS;obtain ⟨s0,s1,s2,s3,s4,s5,s6,s7,s8⟩:=hS;go_simp;try with_reducible rfl)
        simp only [Act.put,List.setIfInBounds_toArray,List.set_cons_zero,List.set_cons_succ];refine zaa 12 (some 39) (v:=?v12) rfl rfl (by kernel_rfl) (by kernel_rfl) (by kernel_rfl) (fun _ _ _ h=>h) (by rfl) ?y12 HS ?r12;case y12=>(intro W hS;go_simp;try with_reducible rfl)
        simp only [Act.put,List.setIfInBounds_toArray,List.set_cons_zero,List.set_cons_succ];refine zaa 13 (some 40) (v:=?v13) rfl rfl (by kernel_rfl) (by kernel_rfl) (by kernel_rfl) (fun _ _ _ h=>h) (by rfl) ?y13 HS ?r13;case y13=>(intro W hS;go_simp;try with_reducible rfl)
        simp only [Act.put,List.setIfInBounds_toArray,List.set_cons_zero,List.set_cons_succ];refine zaa 14 (some 41) (v:=?v14) rfl rfl (by kernel_rfl) (by kernel_rfl) (by kernel_rfl) (fun _ _ _ h=>h) (by rfl) ?y14 HS ?r14;case y14=>(intro W hS;obtain ⟨s0,s1,s2,s3,s4,s5,s6,s7,s8⟩:=hS;go_simp;try with_reducible rfl)
        simp only [Act.put,List.setIfInBounds_toArray,List.set_cons_zero,List.set_cons_succ];refine zaa 15 (some 4) (v:=?v15) rfl rfl (by kernel_rfl) (by kernel_rfl) (by kernel_rfl) (fun _ _ _ h=>h) (by rfl) ?y15 HS ?r15;case y15=>(intro W hS;go_simp;try with_reducible rfl)
        simp only [Act.put,List.setIfInBounds_toArray,List.set_cons_zero,List.set_cons_succ];refine zaB 16 rfl (by kernel_rfl) ?_;intro Kf hKf;go_simp;have hz6:=set6Z hz hbz (Nat.le_succ _) (.string x.name) (.string x.view) (.string x.edit) (.string x.check) (.slice x.As x.subs.length x.cs) (.slice x.Ao x.ops.length x.co);have hz7:=(set6Z hz (Below.refl (w.heap.size + 1) wz) (Nat.le_refl _) (.string x.name) (.string x.view) (.string x.edit) (.string x.check) (.slice x.As x.subs.length x.cs) (.slice x.Ao x.ops.length x.co)).2;obtain ⟨s0,s1,s2,s3,s4,s5,s6,s7,s8⟩:=HS;have HS:=(And.intro (zbD hz7 (Nat.lt_succ_self _) s0) (And.intro (zbD hz7 lg2 s1) (And.intro (zbD hz7 lg2 s2) (And.intro (zbD hz7 lr2 s3) (And.intro (zbD hz7 lr2 s4) (And.intro (zbD hz7 lr2 s5) (And.intro (zbD hz7 lr2 s6) (And.intro (zbD hz7 lr2 s7) (zbD hz7 lr2 s8)))))))));refine hKf _ _ HS ?_;clear hKf Kf hz7;obtain ⟨hw,hb⟩:=hz6;refine zaa 17 (some 6) (v:=?v17) rfl rfl (by kernel_rfl) (by kernel_rfl) (by kernel_rfl) (fun _ _ _ h=>h) (by rfl) ?y17 HS ?r17;case y17=>(intro W hS;go_simp;try with_reducible rfl)
        simp only [Act.put,List.setIfInBounds_toArray,List.set_cons_zero,List.set_cons_succ];refine wpAnyH_done (by kernel_rfl) ?_ _;go_wp2
        obtain ⟨p0,p1,p2,p3,p4,p5⟩:=hw.c6;refine bodyPost_ret (v:=zfh (some (t,x))) (by simp [results,Tryz.results14,go_sem,p0,p1,p2,p3,p4,p5,zfh,zjc];try rfl) rfl ?_;exact ⟨rfl,hb⟩
      · have hdm:¬(m:Int)<(t.rels.length:Int):=by omega
        clear hv ht;go_wp2_with fail
        exact ⟨⟨i + 1,m-t.rels.length,by go_num,by rw [Int.ofNat_sub (by omega)],by omega,by omega,Lib.hid trivial⟩,by simp [intOf];omega⟩
    · obtain rfl:i=l.length:=by omega
      have hdi:¬(((l.length:Nat):Int)<(l.length:Int)):=by omega
      rw [List.take_length] at hm;obtain rfl:v=zfh none:=by rw [←hv.out,atA,if_pos (by omega),List.getElem?_eq_none (by omega)]
      clear hv;go_wp2_with fail
      obtain ⟨hw,hb⟩:=set6 (.string ⟨#[]⟩) (.string ⟨#[]⟩) (.string ⟨#[]⟩) (.string ⟨#[]⟩) (.slice none 0 0) (.slice none 0 0);obtain ⟨x0,x1,x2,x3,x4,x5⟩:=hw.c6;refine bodyPost_ret (v:=zfh none) (by simp [results,Tryz.results14,go_sem,x0,x1,x2,x3,x4,x5,zfh,zjc,relZ];try rfl) rfl ?_;exact ⟨rfl,hb⟩
def relY:Option (TypA × RelA)→RelA
 | some (_,x)=>x
 | none=>relZ
theorem tellA_eq (o:Option (TypA × RelA)):∃nm b,zfh o = .tuple #[.string nm,zjc (relY o),.bool b]:=by
 rcases o with _ | ⟨t,x⟩
 · exact ⟨_,_,rfl⟩
 · exact ⟨_,_,rfl⟩
theorem zdx {l:List TypA} {t:TypA} {x:RelA} (h:(t,x) ∈ relsA l):t ∈ l∧x ∈ t.rels:=by
 obtain ⟨t',ht,hx⟩:=List.mem_flatMap.1 h;obtain ⟨x',hx',e⟩:=List.mem_map.1 hx;cases e;exact ⟨ht,hx'⟩
theorem zmo (h:SchA w R A c l) (id:Int):Rd w w.heap.size 2 (relY (atA l id)).As (relY (atA l id)).subs.length (relY (atA l id)).cs ((relY (atA l id)).subs.flatMap ziu):=by
 unfold atA;split
 · cases e:(relsA l)[id.toNat]? with
   | none=>exact Rd.none_ _ _ _
   | some q =>
    obtain ⟨t,x⟩:=q;have hm:=zdx (List.mem_of_getElem? e);exact ((h.each t hm.1).relz x hm.2).subs
 · exact Rd.none_ _ _ _
theorem may11_any (h:SchA w R A c l) (hn96:(relsA l).length≤96) (id:Int) (hid:(Lit.int .i64 id).wf=true) (ty re:ByteArray):Calls Tryz.prog 18 #[.agg #[.slice A l.length c,.slice AL nL cL],.int .i64 id,.string ty,.string re] w fun e w'=>e = .returned (.bool ((relY (atA l id)).subs.any fun y=>decide (y=(ty,re))))∧Below w.heap.size w w':=by
 have hb0:=zck w (.cells #[.slice A l.length c,.slice AL nL cL] 34);have d0:=Bk.new w #[.slice A l.length c,.slice AL nL cL] 34;have ka:=rel11_any (AL:=AL) (nL:=nL) (cL:=cL) (h.up hb0) hn96 id hid;have hy:=zmo (h.up hb0) id;obtain ⟨nm,b,e⟩:=tellA_eq (atA l id);rw [e] at ka;generalize relY (atA l id)=y at *
 clear e;obtain ⟨q,hq⟩:∃q,(y.subs.any fun y=>decide (y=(ty,re)))=q:=⟨_,rfl⟩;rw [hq];replace hq:=Lib.hid hq;go_enter Tryz.func18,Tryz.ntmps18
 go_upto_region 1 with (fail)
 generalize w.alloc (.cells #[.slice A l.length c,.slice AL nL cL] 34)=w0 at *
 obtain ⟨x0,x1⟩:=d0.c2;have xl:=d0.lt;unfold zjc at ka;go_upto_region 2 with (go_at_call 14;refine ka.mono ?_;rintro e w1 ⟨rfl,hb1⟩;have hb:=zaj hb0 hb0.size hb1)
 have z2:=Bk.new w1 #[.string y.name,.string y.view,.string y.edit,.string y.check,.slice y.As y.subs.length y.cs,.slice y.Ao y.ops.length y.co] 48;have hb2:=hb.alloc hb.size (.cells #[.string y.name,.string y.view,.string y.edit,.string y.check,.slice y.As y.subs.length y.cs,.slice y.Ao y.ops.length y.co] 48);have hs:SubsA (w1.alloc (.cells #[.string y.name,.string y.view,.string y.edit,.string y.check,.slice y.As y.subs.length y.cs,.slice y.Ao y.ops.length y.co] 48)) y.As y.cs y.subs:=⟨(hy.up hb1).up (zck w1 _)⟩;generalize w1.alloc (.cells #[.string y.name,.string y.view,.string y.edit,.string y.check,.slice y.As y.subs.length y.cs,.slice y.Ao y.ops.length y.co] 48)=w2 at *
 have hl:(y.subs.length:Int)≤9223372036854775807:=by have:=hs.rows.cap;have:=hs.rows.capm;simp only [maxLen] at this;omega
 obtain ⟨z0,z1,z2',z3,z4,z5⟩:=z2.c6;have zl:=z2.lt;generalize y.subs=l2 at *
 obtain ⟨yA,hyA⟩:∃yA,y.As=yA:=⟨_,rfl⟩;rw [hyA] at z4 hs;clear ka hy z2;go_wp2_with fail
 go_loopw [12] (fun vi wx=>∃i:Nat,vi = .int .i64 i∧i≤l2.length∧(∀y ∈ l2.take i,decide (y=(ty,re))=false)∧Hid (wx=w2)) (fun vi _=>l2.length-(intOf vi).toNat)
 case atStart=>exact ⟨0,rfl,Nat.zero_le _,fun t ht=>(by simp at ht),Lib.hid rfl⟩
 case round =>
  obtain ⟨i,rfl,hi,hn,hwx⟩:=hrel;have hwx2:=hwx.out;subst hwx2;by_cases hil:i<l2.length
  · have hdi:(i:Int)<(l2.length:Int):=by omega
    obtain ⟨t,ht⟩:∃t,l2[i]? = some t:=⟨_,List.getElem?_eq_getElem hil⟩;obtain ⟨g,o,rfl,g0,g1⟩:=hs.get ht;have lg:=World.block_lt_of_cell? _ _ g0;dsimp only at lg;have hq1:=zaE t.1 ty;have hq2:=zaE t.2 re;have hd:decide (t=(ty,re))=(decide (t.1=ty) && decide (t.2=re)):=by rw [←Bool.decide_and];exact decide_eq_decide.2 Prod.ext_iff
    cases h1:decide (t.1=ty) with
    | false =>
     rw [h1] at hq1 hd;have hnx:=Lib.hid (zbZ ht hn hd);clear hd h1 hn ht;go_wp2_with fail
     exact ⟨⟨i + 1,by go_num,by omega,hnx.out,Lib.hid trivial⟩,by simp [intOf];omega⟩
    | true =>
     cases h2:decide (t.2=re) with
     | false =>
      rw [h1,h2] at hd;rw [h1] at hq1;rw [h2] at hq2;have hnx:=Lib.hid (zbZ ht hn hd);clear hd h1 h2 hn ht;go_wp2_with fail
      exact ⟨⟨i + 1,by go_num,by omega,hnx.out,Lib.hid trivial⟩,by simp [intOf];omega⟩
     | true =>
      rw [h1,h2,Bool.true_and] at hd;rw [h1] at hq1;rw [h2] at hq2;have hany:=Lib.hid (any_at (p:=fun y=>decide (y=(ty,re))) ht hd);clear hd h1 h2 hn ht;go_wp2_with fail
      go_ret
      exact ⟨by rw [←hq.out,hany.out];rfl,hb2⟩
  · have hdi:¬(i:Int)<(l2.length:Int):=by omega
    obtain rfl:i=l2.length:=by omega
    rw [List.take_length] at hn;go_wp2_with fail
    go_ret
    exact ⟨by rw [←hq.out,zeF hn];rfl,hb2⟩
end
end Go.Proofs.YtiepddmagfmllaaGreat
