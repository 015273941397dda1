import Derived.Test.YtiepddmagfmllaaGreatT21
import Derived.Test.YtiepddmagfmllaaGreatT25
set_option maxRecDepth 100000
set_option maxHeartbeats 4000000
namespace Go.Proofs.YtiepddmagfmllaaGreat
open Go.RowKit
theorem zhr {P:Program} {md:Region.Mode} {ops:Array Oper} {Q:Exit→Act→World→Prop} {S:World→Prop} {z:Nat} (i j:Nat) {oi oj:Oper} {n:Nat} {l:Array Bool} {a:Act} {w:World} (hi:ops[i]? = some oi) (hj:ops[j]? = some oj) (hr:Region.ready md ops l=[i,j])
 (h1:∀K':Act→World→Prop,(∀a w,(i≠z→S w)→zbs P md ops Q S z n (l.setIfInBounds i true) a w→K' a w)→if Region.wanted oi (yielded ops a.tmps)=true then Oper.wp P oi a w K' Q else K' (a.put oi.dst undef) w)
 (h2:∀K':Act→World→Prop,(∀a w,(j≠z→S w)→zbs P md ops Q S z n (l.setIfInBounds j true) a w→K' a w)→if Region.wanted oj (yielded ops a.tmps)=true then Oper.wp P oj a w K' Q else K' (a.put oj.dst undef) w) :
 zbs P md ops Q S z (n + 1) l a w :=
 ⟨fun e=>(by rw [hr] at e;cases e),fun k hk=>by
  rw [hr] at hk;simp only [List.mem_cons,List.not_mem_nil,or_false] at hk;rcases hk with rfl | rfl
  · exact wpOp_step hi fun K' hK'=>h1 K' fun a w s x=>hK' a w ⟨s,x⟩
  · exact wpOp_step hj fun K' hK'=>h2 K' fun a w s x=>hK' a w ⟨s,x⟩⟩
theorem Ex.ops_pos:∀t:Ex,1≤t.ops.length
 | .this=>Nat.le_refl _
 | .same _=>Nat.le_refl _
 | .via _ _=>Nat.le_refl _
 | .bin _ a b=>by
  show 1≤(a.ops ++ b.ops ++ [_]).length;rw [List.length_append,List.length_singleton];omega
theorem Ex.ops_bin (k:Nat) (a b:Ex):(Ex.bin k a b).ops.length=a.ops.length + b.ops.length + 1:=by
 show (a.ops ++ b.ops ++ [_]).length=_;rw [List.length_append,List.length_append,List.length_singleton]
theorem Ex.sg_ops (t:Ex):t.sg=decide (1<t.ops.length):=by
 cases t with
 | bin k a b =>
  have:=a.ops_pos;rw [Ex.ops_bin,eq_comm];show decide _=true;rw [decide_eq_true_eq];omega
 | _=>rfl
def Ex.last:Ex→OpP
 | .this=>(1,⟨#[]⟩,⟨#[]⟩)
 | .same n=>(2,n,⟨#[]⟩)
 | .via n m=>(3,n,m)
 | .bin k _ _=>opK k
theorem zeP (t:Ex) (pre post:List OpP) {z:Nat} (h:pre.length + t.ops.length=z + 1):(pre ++ t.ops ++ post)[z]? = some t.last:=by
 have key:∃l,t.ops=l ++ [t.last]:=by
  cases t with
  | bin k a b=>exact ⟨a.ops ++ b.ops,rfl⟩
  | _=>exact ⟨[],rfl⟩
 obtain ⟨l,hl⟩:=key;rw [hl] at h ⊢;rw [List.length_append,List.length_singleton] at h;rw [List.getElem?_append_left (by simp;omega),List.getElem?_append_right (by omega),List.getElem?_append_right (by omega),show z-pre.length-l.length=0 by omega];rfl
section
variable {w:World} {A:Option Addr} {c:Nat} {L:List OpP}
theorem from8_any:∀(t:Ex) (pre post:List OpP) (z:Nat) (w:World),t.good→L=pre ++ t.ops ++ post→pre.length + t.ops.length=z + 1→Rd w w.heap.size 3 A L.length c (ocells L)→L.length≤1000000 →
 Calls Tryz.prog 141 #[.slice A L.length c,.int .i64 (z:Nat)] w fun e w'=>e = .returned (.int .i64 (pre.length:Nat))∧Below w.heap.size w w':=by
 intro t;induction t with
 | bin k a b iha ihb =>
  intro pre post z w hg hL hz hr hn;obtain ⟨hk,hga,hgb⟩:=hg;have hlast:=zeP _ pre post hz;rw [←hL] at hlast;have hbl:=Ex.ops_bin k a b;rw [hbl] at hz;have ha:=a.ops_pos;have hb:=b.ops_pos;have hzl:z<L.length:=(List.getElem?_eq_some_iff.1 hlast).1;obtain ⟨bk,f,rfl,hbb,hc⟩:=hr.at_ (by omega);have q0:=hc _ _ (ocells_at L z _ hlast).1;have k1:L=(pre ++ a.ops) ++ b.ops ++ ([opK k] ++ post):=by rw [hL];simp [Ex.ops]
  have k2:L=pre ++ a.ops ++ (b.ops ++ [opK k] ++ post):=by rw [hL];simp [Ex.ops]
  obtain ⟨m,rfl⟩:∃m,z=m + 1:=⟨z-1,by omega⟩;obtain ⟨y,hy⟩:∃y,pre.length + a.ops.length=y + 1:=⟨pre.length + a.ops.length-1,by omega⟩;have kb:=ihb (pre ++ a.ops) ([opK k] ++ post) m w hgb k1 (by rw [List.length_append];omega) hr hn;rw [List.length_append,hy] at kb;have ka:=fun w2 hr2=>iha pre (b.ops ++ [opK k] ++ post) y w2 hga k2 hy hr2 hn;have d1:¬((k:Nat):Int)<4:=by omega
  have hzd:((m:Nat):Int) + 1<(L.length:Nat):=by omega
  replace q0:w.cell? ⟨bk,f + (m + 1) * 3,none⟩=some (.int .i64 (k:Nat)):=q0;clear hlast hL k1 k2 iha ihb hbl hc;go_enter Tryz.func141,Tryz.ntmps141
  go_wp2_with fail
  refine kb.mono ?_;rintro e W ⟨rfl,hW⟩;go_wp2_with fail
  refine (ka W ((hr.below hW).more hW.size)).mono ?_;rintro e W2 ⟨rfl,hW2⟩;go_wp2_with fail
  go_returns
  exact ⟨rfl,hW.trans (hW2.mono hW.size)⟩
 | _ =>
  intro pre post z w hg hL hz hr hn;have hlast:=zeP _ pre post hz;rw [←hL] at hlast;have hzl:z<L.length:=(List.getElem?_eq_some_iff.1 hlast).1;obtain ⟨bk,f,rfl,hbb,hc⟩:=hr.at_ (by omega);obtain ⟨o,ho,hk4⟩:∃o,L[z]? = some o∧o.1<4:=⟨_,hlast,by simp [Ex.last]⟩;have q0:=hc _ _ (ocells_at L z _ ho).1;have d4:((o.1:Nat):Int)<4:=by omega
  replace hz:pre.length=z:=by
   have:pre.length + 1=z + 1:=hz;omega
  rw [hz];have hzd:((z:Nat):Int)<(L.length:Nat):=by omega
  clear hlast hL hc hr hz ho hk4;go_enter Tryz.func141,Tryz.ntmps141
  go_wp2_with fail
  go_returns
  exact ⟨rfl,Below.refl _ _⟩
def zh2 (k:Nat):ByteArray:=if k=4 then ⟨#[124]⟩ else if k=5 then ⟨#[38]⟩ else ⟨#[45]⟩
theorem zdT (x r:ByteArray) {k:Nat} (hk:k=4∨k=5∨k=6):x ++ ⟨#[32]⟩ ++ zh2 k ++ ⟨#[32]⟩ ++ r=x ++ zgj k ++ r:=by
 have:(⟨#[32]⟩:ByteArray) ++ zh2 k ++ ⟨#[32]⟩=zgj k:=by rcases hk with rfl | rfl | rfl <;> decide +kernel
 rw [←this];simp only [zaK]
theorem zer (W:World) {k:Nat} (hk:k=4∨k=5∨k=6):(W.alloc (.cells #[.string ⟨#[124]⟩,.string ⟨#[38]⟩,.string ⟨#[45]⟩] 9)).cell? ⟨W.heap.size,k-4,none⟩=some (.string (zh2 k)):=by
 have hb:=Bk.new W #[.string ⟨#[124]⟩,.string ⟨#[38]⟩,.string ⟨#[45]⟩] 9;rcases hk with rfl | rfl | rfl
 · exact hb.cell 0
 · exact hb.cell 1
 · exact hb.cell 2
def Ex.sml:Ex→Prop
 | .this=>True
 | .same n=>n.size≤1000
 | .via n m=>n.size≤1000∧m.size≤1000
 | .bin _ a b=>a.sml∧b.sml
theorem zez:∀t:Ex,t.sml→t.text.size≤2010 * t.ops.length
 | .this,_=>(by show 4≤2010 * 1;omega)
 | .same n,h=>(by have h2:n.size≤1000:=h;show n.size≤2010 * 1;omega)
 | .via n m,h=>(by
  obtain ⟨h1,h2⟩:=h;show (n ++ ⟨#[46]⟩ ++ m).size≤2010 * 1;rw [size_app,size_app];show n.size + 1 + m.size≤_;omega)
 | .bin k a b,h=>(by
  have h1:=zez a h.1;have h2:=zez b h.2;have h3:=zex k;rw [Ex.ops_bin];show (a.text ++ zgj k ++ parS b.sg b.text).size≤_;rw [size_app,size_app];have h4:(parS b.sg b.text).size≤b.text.size + 2:=by
   unfold parS;split
   · rw [size_app,size_app];show 1 + _ + 1≤_;omega
   · omega
  omega)
theorem part_any:∀(t:Ex) (pre post:List OpP) (z:Nat) (w:World),t.good→t.sml→L=pre ++ t.ops ++ post→pre.length + t.ops.length=z + 1→Rd w w.heap.size 3 A L.length c (ocells L)→L.length≤100000 →
 Calls Tryz.prog 112 #[.slice A L.length c,.int .i64 (z:Nat)] w fun e w'=>e = .returned (.string t.text)∧Below w.heap.size w w':=by
 intro t;induction t with
 | bin k a b iha ihb =>
  intro pre post z w hg hs hL hz hr hn;obtain ⟨hk,hga,hgb⟩:=hg;have hlast:=zeP _ pre post hz;rw [←hL] at hlast;have hbl:=Ex.ops_bin k a b;rw [hbl] at hz;have ha:=a.ops_pos;have hb:=b.ops_pos;have hzl:z<L.length:=(List.getElem?_eq_some_iff.1 hlast).1;have hta:=zez a hs.1;have htb:=zez b hs.2;obtain ⟨bk,f,rfl,hbb,hc⟩:=hr.at_ (by omega);obtain ⟨e0,e1,e2⟩:=ocells_at L z _ hlast;have q0:=hc _ _ e0;have q1:w.cell? ⟨bk,f + z * 3 + 1,none⟩=some (.string ⟨#[]⟩):=hc _ _ e1;have q2:w.cell? ⟨bk,f + z * 3 + 2,none⟩=some (.string ⟨#[]⟩):=hc _ _ e2;have k1:L=(pre ++ a.ops) ++ b.ops ++ ([opK k] ++ post):=by rw [hL];simp [Ex.ops]
  have k2:L=pre ++ a.ops ++ (b.ops ++ [opK k] ++ post):=by rw [hL];simp [Ex.ops]
  obtain ⟨m,rfl⟩:∃m,z=m + 1:=⟨z-1,by omega⟩;obtain ⟨y,hy⟩:∃y,pre.length + a.ops.length=y + 1:=⟨pre.length + a.ops.length-1,by omega⟩;have hm:(pre ++ a.ops).length + b.ops.length=m + 1:=by rw [List.length_append];omega
  have kf:=fun w2 hr2=>from8_any (A:=some ⟨bk,f,none⟩) (c:=c) (L:=L) b (pre ++ a.ops) ([opK k] ++ post) m w2 hgb k1 hm hr2 (by omega);have kb:=fun w2 hr2=>ihb (pre ++ a.ops) ([opK k] ++ post) m w2 hgb hs.2 k1 hm hr2 hn;have ka:=fun w2 hr2=>iha pre (b.ops ++ [opK k] ++ post) y w2 hga hs.1 k2 hy hr2 hn;rw [List.length_append,hy] at kf;have hy6:y≤100000:=by omega
  have hsb:b.sg=decide (y + 1<m):=by
   rw [Ex.sg_ops];congr 1
   rw [List.length_append] at hm;exact propext ⟨fun _=>by omega,fun _=>by omega⟩
  have hzd:((m:Nat):Int) + 1<(L.length:Nat):=by omega
  have hla:a.ops.length≤100000:=by omega
  have hlb:b.ops.length≤100000:=by omega
  have ho:=Bk.new w #[.int .i64 (k:Nat),.string ⟨#[]⟩,.string ⟨#[]⟩] 60;have o0:=ho.cell 0;have lo:=ho.lt;have hal:Below w.heap.size w (w.alloc (.cells #[.int .i64 (k:Nat),.string ⟨#[]⟩,.string ⟨#[]⟩] 60)):=(Below.refl _ w).alloc (Nat.le_refl _) _;have hr1:=(hr.below hal).more hal.size;have dk1:(((k:Nat):Int) == 1)=false:=by rw [beq_eq_false_iff_ne];omega
  have dk2:(((k:Nat):Int) == 2)=false:=by rw [beq_eq_false_iff_ne];omega
  have dk3:(((k:Nat):Int) == 3)=false:=by rw [beq_eq_false_iff_ne];omega
  replace q0:w.cell? ⟨bk,f + (m + 1) * 3,none⟩=some (.int .i64 (k:Nat)):=q0;clear hlast hL k1 k2 iha ihb hbl hc hm hy hr e0 e1 e2;have HX:Hid ((Ex.bin k a b).text=a.text ++ zgj k ++ parS b.sg b.text):=Lib.hid rfl;rw [HX.out];have hcut:parS b.sg b.text=(if y + 1<m then (⟨#[40]⟩:ByteArray) ++ b.text ++ ⟨#[41]⟩ else b.text):=by
   unfold parS;rw [hsb];by_cases h:y + 1<m
   · rw [if_pos (decide_eq_true h),if_pos h]
   · rw [if_neg (by simpa using h),if_neg h]
  obtain ⟨RT,hRT⟩:∃r,parS b.sg b.text=r:=⟨_,rfl⟩;rw [hRT] at hcut ⊢;have HC:=Lib.hid hcut;clear hcut hRT;go_enter Tryz.func112,Tryz.ntmps112
  go_wp2_with fail
  generalize w.alloc (.cells #[.int .i64 (k:Nat),.string ⟨#[]⟩,.string ⟨#[]⟩] 60)=W0 at *
  refine (kf W0 hr1).mono ?_;rintro e W1 ⟨rfl,hb1⟩;have hr2:=(hr1.below hb1).more hb1.size;replace o0:=(hb1.cell (p:=⟨w.heap.size,0,none⟩) lo).trans o0;have hB1:=hal.trans (hb1.mono hal.size);replace lo:=Nat.lt_of_lt_of_le lo hb1.size;clear hr1 hb1 hal;go_wp2_with fail
  refine (kb W1 hr2).mono ?_;rintro e W2 ⟨rfl,hb2⟩;have hr3:=(hr2.below hb2).more hb2.size;replace o0:=(hb2.cell (p:=⟨w.heap.size,0,none⟩) lo).trans o0;have hB2:=hB1.trans (hb2.mono hB1.size);replace lo:=Nat.lt_of_lt_of_le lo hb2.size;clear hr2 hb2 hB1 kf kb;have hwy:IntKind.i64.wrap ((y:Nat):Int)=(y:Nat):=IntWalk.i64_in _ (by omega);have hwk:IntKind.i64.wrap (((k:Nat):Int)-4)=((k-4:Nat):Int):=by rw [show ((k:Nat):Int)-4=((k-4:Nat):Int) by omega];exact IntWalk.i64_in _ (by omega)
  have d47:((k-4:Nat):Int)<3:=by omega
  have hos:(zh2 k).size≤1:=by unfold zh2;split;exact Nat.le_refl _;split <;> exact Nat.le_refl _
  have hRz:RT.size≤2010 * b.ops.length + 2:=by
   rw [HC.out];split
   · rw [size_app,size_app];show 1 + _ + 1≤_;omega
   · omega
  have n1:¬9223372036854775807<a.text.size + 1:=by omega
  have n2:¬9223372036854775807<a.text.size + 1 + (zh2 k).size:=by omega
  have n3:¬9223372036854775807<a.text.size + 1 + (zh2 k).size + 1:=by omega
  have n4:¬9223372036854775807<a.text.size + 1 + (zh2 k).size + 1 + RT.size:=by omega
  have htb2:b.text.size≤300000000:=by omega
  clear hta htb hos hRz hz hzl hsb;by_cases h:y + 1<m
  · have d:((y:Nat):Int) + 1<(m:Nat):=by omega
    have HR:=HC.out.trans (if_pos h);have HR2:=Lib.hid HR;clear HR;go_wp2_with fail
    rw [←HR2.out];refine zbL (fun W=>W.cell? ⟨w.heap.size,0,none⟩=some (.int .i64 (k:Nat))) 15 (by kernel_rfl) ?_;change zbs _ _ _ _ _ _ _ _ _ (World.drew _);have hbWd:Below W2.heap.size W2 (World.drew W2):=⟨rfl,rfl,rfl,Nat.le_refl _,fun _ _=>rfl⟩;generalize World.drew W2=Wd at *
    have HS:Wd.cell? ⟨w.heap.size,0,none⟩=some (.int .i64 (k:Nat)):=(hbWd.cell (p:=⟨w.heap.size,0,none⟩) lo).trans o0;refine zad 0 (some 43) (v:=?v0q101) rfl rfl (by kernel_rfl) (by decide) (by kernel_rfl) (by kernel_rfl) (by kernel_rfl) (fun _ _ _ h=>h) (by rfl) ?y0q101 HS ?r0q101;case y0q101=>(intro w hS;(try dsimp only at hS);have q0:=hS;go_simp;try with_reducible rfl)
    simp only [Act.put,List.setIfInBounds_toArray,List.set_cons_zero,List.set_cons_succ];refine zad 1 (some 44) (v:=?v1q102) rfl rfl (by kernel_rfl) (by decide) (by kernel_rfl) (by kernel_rfl) (by kernel_rfl) (fun _ _ _ h=>h) (by rfl) ?y1q102 HS ?r1q102;case y1q102=>(intro w hS;(try dsimp only at hS);have q0:=hS;go_simp;try with_reducible rfl)
    simp only [Act.put,List.setIfInBounds_toArray,List.set_cons_zero,List.set_cons_succ];refine zad 2 (some 45) (v:=?v2q103) rfl rfl (by kernel_rfl) (by decide) (by kernel_rfl) (by kernel_rfl) (by kernel_rfl) (fun _ _ _ h=>h) (by rfl) ?y2q103 HS ?r2q103;case y2q103=>(intro w hS;(try dsimp only at hS);have q0:=hS;go_simp;try with_reducible rfl)
    simp only [Act.put,List.setIfInBounds_toArray,List.set_cons_zero,List.set_cons_succ];refine zad 6 (some 49) (v:=?v6q104) rfl rfl (by kernel_rfl) (by decide) (by kernel_rfl) (by kernel_rfl) (by kernel_rfl) (fun _ _ _ h=>h) (by rfl) ?y6q104 HS ?r6q104;case y6q104=>(intro w hS;(try dsimp only at hS);have q0:=hS;go_simp;try with_reducible rfl)
    simp only [Act.put,List.setIfInBounds_toArray,List.set_cons_zero,List.set_cons_succ];refine zad 7 (some 50) (v:=?v7q105) rfl rfl (by kernel_rfl) (by decide) (by kernel_rfl) (by kernel_rfl) (by kernel_rfl) (fun _ _ _ h=>h) (by rfl) ?y7q105 HS ?r7q105;case y7q105=>(intro w hS;(try dsimp only at hS);have q0:=hS;go_simp;try with_reducible rfl)
    simp only [Act.put,List.setIfInBounds_toArray,List.set_cons_zero,List.set_cons_succ];refine zad 8 (some 51) (v:=?v8q106) rfl rfl (by kernel_rfl) (by decide) (by kernel_rfl) (by kernel_rfl) (by kernel_rfl) (fun _ _ _ h=>h) (by rfl) ?y8q106 HS ?r8q106;case y8q106=>(intro w hS;(try dsimp only at hS);have q0:=hS;go_simp;try with_reducible rfl)
    simp only [Act.put,List.setIfInBounds_toArray,List.set_cons_zero,List.set_cons_succ];refine zad 13 (some 56) (v:=?v13q107) rfl rfl (by kernel_rfl) (by decide) (by kernel_rfl) (by kernel_rfl) (by kernel_rfl) (fun _ _ _ h=>h) (by rfl) ?y13q107 HS ?r13q107;case y13q107=>(intro w hS;(try dsimp only at hS);have q0:=hS;go_simp;try with_reducible rfl)
    simp only [Act.put,List.setIfInBounds_toArray,List.set_cons_zero,List.set_cons_succ];refine zhr 3 5 rfl rfl (by kernel_rfl) (fun K hK'=>?_) (fun K hK'=>?_)
    · go_simp;refine (ka Wd ((hr3.below hbWd).more hbWd.size)).mono ?_;rintro e Wa ⟨rfl,hbc⟩;have hbWa:=hbWd.trans (hbc.mono hbWd.size);have HSWa:Wa.cell? ⟨w.heap.size,0,none⟩=some (.int .i64 (k:Nat)):=(hbWa.cell (p:=⟨w.heap.size,0,none⟩) lo).trans o0;refine hK' _ _ (fun _=>HSWa) ?_;clear hK' K
      (try simp only [Act.put,List.setIfInBounds_toArray,List.set_cons_zero,List.set_cons_succ])
      refine zad 4 (some 47) (v:=?v4q108) rfl rfl (by kernel_rfl) (by decide) (by kernel_rfl) (by kernel_rfl) (by kernel_rfl) (fun _ _ _ h=>h) (by rfl) ?y4q108 HSWa ?r4q108;case y4q108=>(intro w hS;(try dsimp only at hS);have q0:=hS;go_simp;try with_reducible rfl)
      simp only [Act.put,List.setIfInBounds_toArray,List.set_cons_zero,List.set_cons_succ];refine zaD 5 rfl (by kernel_rfl) fun K hK'=>?_;go_simp;have hbl:Below Wa.heap.size Wa (Wa.alloc (.cells #[.string ⟨#[124]⟩,.string ⟨#[38]⟩,.string ⟨#[45]⟩] 9)):=(Below.refl _ Wa).alloc (Nat.le_refl _) _;have hbWb:=hbWa.trans (hbl.mono hbWa.size);have HSWb:(Wa.alloc (.cells #[.string ⟨#[124]⟩,.string ⟨#[38]⟩,.string ⟨#[45]⟩] 9)).cell? ⟨w.heap.size,0,none⟩=some (.int .i64 (k:Nat)):=zar HSWa _;have hL:=zer Wa hk;refine hK' _ _ (fun _=>HSWb) ?_;clear hK' K;refine zad 9 (some 52) (v:=?v9q109) rfl rfl (by kernel_rfl) (by decide) (by kernel_rfl) (by kernel_rfl) (by kernel_rfl) (fun _ _ _ h=>h) (by rfl) ?y9q109 HSWb ?r9q109;case y9q109=>(intro w hS;(try dsimp only at hS);have q0:=hS;go_simp;try with_reducible rfl)
      simp only [Act.put,List.setIfInBounds_toArray,List.set_cons_zero,List.set_cons_succ];refine zaD 10 rfl (by kernel_rfl) fun K hK'=>?_;go_simp;refine hK' _ _ (fun _=>HSWb) ?_;clear hK' K;refine zad 11 (some 54) (v:=?v11q110) rfl rfl (by kernel_rfl) (by decide) (by kernel_rfl) (by kernel_rfl) (by kernel_rfl) (fun _ _ _ h=>h) (by rfl) ?y11q110 HSWb ?r11q110;case y11q110=>(intro w hS;(try dsimp only at hS);have q0:=hS;go_simp;try with_reducible rfl)
      simp only [Act.put,List.setIfInBounds_toArray,List.set_cons_zero,List.set_cons_succ];refine zad 12 (some 55) (v:=?v12q111) rfl rfl (by kernel_rfl) (by decide) (by kernel_rfl) (by kernel_rfl) (by kernel_rfl) (fun _ _ _ h=>h) (by rfl) ?y12q111 HSWb ?r12q111;case y12q111=>(intro w hS;(try dsimp only at hS);have q0:=hS;go_simp;try with_reducible rfl)
      simp only [Act.put,List.setIfInBounds_toArray,List.set_cons_zero,List.set_cons_succ];refine zad 14 (some 57) (v:=?v14q112) rfl rfl (by kernel_rfl) (by decide) (by kernel_rfl) (by kernel_rfl) (by kernel_rfl) (fun _ _ _ h=>h) (by rfl) ?y14q112 HSWb ?r14q112;case y14q112=>(intro w hS;(try dsimp only at hS);have q0:=hS;go_simp;try with_reducible rfl)
      simp only [Act.put,List.setIfInBounds_toArray,List.set_cons_zero,List.set_cons_succ];refine zaD 15 rfl (by kernel_rfl) fun K hK'=>?_;go_simp;refine hK' _ _ (fun h=>absurd rfl h) ?_;clear hK' K;refine zbq (by kernel_rfl) ?_ _;go_wp2_with fail
      go_returns
      exact ⟨by rw [zdT _ _ hk];rfl,hB2.trans (hbWb.mono hB2.size)⟩
    · go_simp;have hbl:Below Wd.heap.size Wd (Wd.alloc (.cells #[.string ⟨#[124]⟩,.string ⟨#[38]⟩,.string ⟨#[45]⟩] 9)):=(Below.refl _ Wd).alloc (Nat.le_refl _) _;have hbWa:=hbWd.trans (hbl.mono hbWd.size);have HSWa:(Wd.alloc (.cells #[.string ⟨#[124]⟩,.string ⟨#[38]⟩,.string ⟨#[45]⟩] 9)).cell? ⟨w.heap.size,0,none⟩=some (.int .i64 (k:Nat)):=zar HS _;have hL:=zer Wd hk;have hlb:Wd.heap.size<(Wd.alloc (.cells #[.string ⟨#[124]⟩,.string ⟨#[38]⟩,.string ⟨#[45]⟩] 9)).heap.size:=by simp
      refine hK' _ _ (fun _=>HSWa) ?_;clear hK' K;generalize hWa:Wd.alloc (.cells #[.string ⟨#[124]⟩,.string ⟨#[38]⟩,.string ⟨#[45]⟩] 9)=Wa at *
      refine zad 9 (some 52) (v:=?v9q113) rfl rfl (by kernel_rfl) (by decide) (by kernel_rfl) (by kernel_rfl) (by kernel_rfl) (fun _ _ _ h=>h) (by rfl) ?y9q113 HSWa ?r9q113;case y9q113=>(intro w hS;(try dsimp only at hS);have q0:=hS;go_simp;try with_reducible rfl)
      simp only [Act.put,List.setIfInBounds_toArray,List.set_cons_zero,List.set_cons_succ];refine zhr 3 10 rfl rfl (by kernel_rfl) (fun K hK'=>?_) (fun K hK'=>?_)
      · go_simp;refine (ka Wa ((hr3.below hbWa).more hbWa.size)).mono ?_;rintro e Wb ⟨rfl,hbc⟩;have hbWb:=hbWa.trans (hbc.mono hbWa.size);have HSWb:Wb.cell? ⟨w.heap.size,0,none⟩=some (.int .i64 (k:Nat)):=(hbWb.cell (p:=⟨w.heap.size,0,none⟩) lo).trans o0;have hL2:=(hbc.cell (p:=⟨Wd.heap.size,k-4,none⟩) hlb).trans hL;refine hK' _ _ (fun _=>HSWb) ?_;clear hK' K
        (try simp only [Act.put,List.setIfInBounds_toArray,List.set_cons_zero,List.set_cons_succ])
        refine zad 4 (some 47) (v:=?v4q114) rfl rfl (by kernel_rfl) (by decide) (by kernel_rfl) (by kernel_rfl) (by kernel_rfl) (fun _ _ _ h=>h) (by rfl) ?y4q114 HSWb ?r4q114;case y4q114=>(intro w hS;(try dsimp only at hS);have q0:=hS;go_simp;try with_reducible rfl)
        simp only [Act.put,List.setIfInBounds_toArray,List.set_cons_zero,List.set_cons_succ];refine zaD 10 rfl (by kernel_rfl) fun K hK'=>?_;go_simp;refine hK' _ _ (fun _=>HSWb) ?_;clear hK' K;refine zad 11 (some 54) (v:=?v11q115) rfl rfl (by kernel_rfl) (by decide) (by kernel_rfl) (by kernel_rfl) (by kernel_rfl) (fun _ _ _ h=>h) (by rfl) ?y11q115 HSWb ?r11q115;case y11q115=>(intro w hS;(try dsimp only at hS);have q0:=hS;go_simp;try with_reducible rfl)
        simp only [Act.put,List.setIfInBounds_toArray,List.set_cons_zero,List.set_cons_succ];refine zad 12 (some 55) (v:=?v12q116) rfl rfl (by kernel_rfl) (by decide) (by kernel_rfl) (by kernel_rfl) (by kernel_rfl) (fun _ _ _ h=>h) (by rfl) ?y12q116 HSWb ?r12q116;case y12q116=>(intro w hS;(try dsimp only at hS);have q0:=hS;go_simp;try with_reducible rfl)
        simp only [Act.put,List.setIfInBounds_toArray,List.set_cons_zero,List.set_cons_succ];refine zad 14 (some 57) (v:=?v14q117) rfl rfl (by kernel_rfl) (by decide) (by kernel_rfl) (by kernel_rfl) (by kernel_rfl) (fun _ _ _ h=>h) (by rfl) ?y14q117 HSWb ?r14q117;case y14q117=>(intro w hS;(try dsimp only at hS);have q0:=hS;go_simp;try with_reducible rfl)
        simp only [Act.put,List.setIfInBounds_toArray,List.set_cons_zero,List.set_cons_succ];refine zaD 15 rfl (by kernel_rfl) fun K hK'=>?_;go_simp;refine hK' _ _ (fun h=>absurd rfl h) ?_;clear hK' K;refine zbq (by kernel_rfl) ?_ _;go_wp2_with fail
        go_returns
        exact ⟨by rw [zdT _ _ hk];rfl,hB2.trans (hbWb.mono hB2.size)⟩
      · go_simp;refine hK' _ _ (fun _=>HSWa) ?_;clear hK' K
        (try simp only [Act.put,List.setIfInBounds_toArray,List.set_cons_zero,List.set_cons_succ])
        refine zaD 3 rfl (by kernel_rfl) fun K hK'=>?_;go_simp;refine (ka Wa ((hr3.below hbWa).more hbWa.size)).mono ?_;rintro e Wb ⟨rfl,hbc⟩;have hbWb:=hbWa.trans (hbc.mono hbWa.size);have HSWb:Wb.cell? ⟨w.heap.size,0,none⟩=some (.int .i64 (k:Nat)):=(hbWb.cell (p:=⟨w.heap.size,0,none⟩) lo).trans o0;refine hK' _ _ (fun _=>HSWb) ?_;clear hK' K
        (try simp only [Act.put,List.setIfInBounds_toArray,List.set_cons_zero,List.set_cons_succ])
        refine zad 4 (some 47) (v:=?v4q118) rfl rfl (by kernel_rfl) (by decide) (by kernel_rfl) (by kernel_rfl) (by kernel_rfl) (fun _ _ _ h=>h) (by rfl) ?y4q118 HSWb ?r4q118;case y4q118=>(intro w hS;(try dsimp only at hS);have q0:=hS;go_simp;try with_reducible rfl)
        simp only [Act.put,List.setIfInBounds_toArray,List.set_cons_zero,List.set_cons_succ];refine zad 11 (some 54) (v:=?v11q119) rfl rfl (by kernel_rfl) (by decide) (by kernel_rfl) (by kernel_rfl) (by kernel_rfl) (fun _ _ _ h=>h) (by rfl) ?y11q119 HSWb ?r11q119;case y11q119=>(intro w hS;(try dsimp only at hS);have q0:=hS;go_simp;try with_reducible rfl)
        simp only [Act.put,List.setIfInBounds_toArray,List.set_cons_zero,List.set_cons_succ];refine zad 12 (some 55) (v:=?v12q120) rfl rfl (by kernel_rfl) (by decide) (by kernel_rfl) (by kernel_rfl) (by kernel_rfl) (fun _ _ _ h=>h) (by rfl) ?y12q120 HSWb ?r12q120;case y12q120=>(intro w hS;(try dsimp only at hS);have q0:=hS;go_simp;try with_reducible rfl)
        simp only [Act.put,List.setIfInBounds_toArray,List.set_cons_zero,List.set_cons_succ];refine zad 14 (some 57) (v:=?v14q121) rfl rfl (by kernel_rfl) (by decide) (by kernel_rfl) (by kernel_rfl) (by kernel_rfl) (fun _ _ _ h=>h) (by rfl) ?y14q121 HSWb ?r14q121;case y14q121=>(intro w hS;(try dsimp only at hS);have q0:=hS;go_simp;try with_reducible rfl)
        simp only [Act.put,List.setIfInBounds_toArray,List.set_cons_zero,List.set_cons_succ];refine zaD 15 rfl (by kernel_rfl) fun K hK'=>?_;go_simp;refine hK' _ _ (fun h=>absurd rfl h) ?_;clear hK' K;refine zbq (by kernel_rfl) ?_ _;go_wp2_with fail
        go_returns
        exact ⟨by rw [zdT _ _ hk];rfl,hB2.trans (hbWb.mono hB2.size)⟩
  · have d:¬((y:Nat):Int) + 1<(m:Nat):=by omega
    have HR:=HC.out.trans (if_neg h);have HR2:=Lib.hid HR;clear HR;go_wp2_with fail
    rw [←HR2.out];refine zbL (fun W=>W.cell? ⟨w.heap.size,0,none⟩=some (.int .i64 (k:Nat))) 15 (by kernel_rfl) ?_;change zbs _ _ _ _ _ _ _ _ _ (World.drew _);have hbWd:Below W2.heap.size W2 (World.drew W2):=⟨rfl,rfl,rfl,Nat.le_refl _,fun _ _=>rfl⟩;generalize World.drew W2=Wd at *
    have HS:Wd.cell? ⟨w.heap.size,0,none⟩=some (.int .i64 (k:Nat)):=(hbWd.cell (p:=⟨w.heap.size,0,none⟩) lo).trans o0;refine zad 0 (some 43) (v:=?v0q222) rfl rfl (by kernel_rfl) (by decide) (by kernel_rfl) (by kernel_rfl) (by kernel_rfl) (fun _ _ _ h=>h) (by rfl) ?y0q222 HS ?r0q222;case y0q222=>(intro w hS;(try dsimp only at hS);have q0:=hS;go_simp;try with_reducible rfl)
    simp only [Act.put,List.setIfInBounds_toArray,List.set_cons_zero,List.set_cons_succ];refine zad 1 (some 44) (v:=?v1q223) rfl rfl (by kernel_rfl) (by decide) (by kernel_rfl) (by kernel_rfl) (by kernel_rfl) (fun _ _ _ h=>h) (by rfl) ?y1q223 HS ?r1q223;case y1q223=>(intro w hS;(try dsimp only at hS);have q0:=hS;go_simp;try with_reducible rfl)
    simp only [Act.put,List.setIfInBounds_toArray,List.set_cons_zero,List.set_cons_succ];refine zad 2 (some 45) (v:=?v2q224) rfl rfl (by kernel_rfl) (by decide) (by kernel_rfl) (by kernel_rfl) (by kernel_rfl) (fun _ _ _ h=>h) (by rfl) ?y2q224 HS ?r2q224;case y2q224=>(intro w hS;(try dsimp only at hS);have q0:=hS;go_simp;try with_reducible rfl)
    simp only [Act.put,List.setIfInBounds_toArray,List.set_cons_zero,List.set_cons_succ];refine zad 6 (some 49) (v:=?v6q225) rfl rfl (by kernel_rfl) (by decide) (by kernel_rfl) (by kernel_rfl) (by kernel_rfl) (fun _ _ _ h=>h) (by rfl) ?y6q225 HS ?r6q225;case y6q225=>(intro w hS;(try dsimp only at hS);have q0:=hS;go_simp;try with_reducible rfl)
    simp only [Act.put,List.setIfInBounds_toArray,List.set_cons_zero,List.set_cons_succ];refine zad 7 (some 50) (v:=?v7q226) rfl rfl (by kernel_rfl) (by decide) (by kernel_rfl) (by kernel_rfl) (by kernel_rfl) (fun _ _ _ h=>h) (by rfl) ?y7q226 HS ?r7q226;case y7q226=>(intro w hS;(try dsimp only at hS);have q0:=hS;go_simp;try with_reducible rfl)
    simp only [Act.put,List.setIfInBounds_toArray,List.set_cons_zero,List.set_cons_succ];refine zad 8 (some 51) (v:=?v8q227) rfl rfl (by kernel_rfl) (by decide) (by kernel_rfl) (by kernel_rfl) (by kernel_rfl) (fun _ _ _ h=>h) (by rfl) ?y8q227 HS ?r8q227;case y8q227=>(intro w hS;(try dsimp only at hS);have q0:=hS;go_simp;try with_reducible rfl)
    simp only [Act.put,List.setIfInBounds_toArray,List.set_cons_zero,List.set_cons_succ];refine zad 13 (some 56) (v:=?v13q228) rfl rfl (by kernel_rfl) (by decide) (by kernel_rfl) (by kernel_rfl) (by kernel_rfl) (fun _ _ _ h=>h) (by rfl) ?y13q228 HS ?r13q228;case y13q228=>(intro w hS;(try dsimp only at hS);have q0:=hS;go_simp;try with_reducible rfl)
    simp only [Act.put,List.setIfInBounds_toArray,List.set_cons_zero,List.set_cons_succ];refine zhr 3 5 rfl rfl (by kernel_rfl) (fun K hK'=>?_) (fun K hK'=>?_)
    · go_simp;refine (ka Wd ((hr3.below hbWd).more hbWd.size)).mono ?_;rintro e Wa ⟨rfl,hbc⟩;have hbWa:=hbWd.trans (hbc.mono hbWd.size);have HSWa:Wa.cell? ⟨w.heap.size,0,none⟩=some (.int .i64 (k:Nat)):=(hbWa.cell (p:=⟨w.heap.size,0,none⟩) lo).trans o0;refine hK' _ _ (fun _=>HSWa) ?_;clear hK' K
      (try simp only [Act.put,List.setIfInBounds_toArray,List.set_cons_zero,List.set_cons_succ])
      refine zad 4 (some 47) (v:=?v4q229) rfl rfl (by kernel_rfl) (by decide) (by kernel_rfl) (by kernel_rfl) (by kernel_rfl) (fun _ _ _ h=>h) (by rfl) ?y4q229 HSWa ?r4q229;case y4q229=>(intro w hS;(try dsimp only at hS);have q0:=hS;go_simp;try with_reducible rfl)
      simp only [Act.put,List.setIfInBounds_toArray,List.set_cons_zero,List.set_cons_succ];refine zaD 5 rfl (by kernel_rfl) fun K hK'=>?_;go_simp;have hbl:Below Wa.heap.size Wa (Wa.alloc (.cells #[.string ⟨#[124]⟩,.string ⟨#[38]⟩,.string ⟨#[45]⟩] 9)):=(Below.refl _ Wa).alloc (Nat.le_refl _) _;have hbWb:=hbWa.trans (hbl.mono hbWa.size);have HSWb:(Wa.alloc (.cells #[.string ⟨#[124]⟩,.string ⟨#[38]⟩,.string ⟨#[45]⟩] 9)).cell? ⟨w.heap.size,0,none⟩=some (.int .i64 (k:Nat)):=zar HSWa _;have hL:=zer Wa hk;refine hK' _ _ (fun _=>HSWb) ?_;clear hK' K;refine zad 9 (some 52) (v:=?v9q230) rfl rfl (by kernel_rfl) (by decide) (by kernel_rfl) (by kernel_rfl) (by kernel_rfl) (fun _ _ _ h=>h) (by rfl) ?y9q230 HSWb ?r9q230;case y9q230=>(intro w hS;(try dsimp only at hS);have q0:=hS;go_simp;try with_reducible rfl)
      simp only [Act.put,List.setIfInBounds_toArray,List.set_cons_zero,List.set_cons_succ];refine zaD 10 rfl (by kernel_rfl) fun K hK'=>?_;go_simp;refine hK' _ _ (fun _=>HSWb) ?_;clear hK' K;refine zad 11 (some 54) (v:=?v11q231) rfl rfl (by kernel_rfl) (by decide) (by kernel_rfl) (by kernel_rfl) (by kernel_rfl) (fun _ _ _ h=>h) (by rfl) ?y11q231 HSWb ?r11q231;case y11q231=>(intro w hS;(try dsimp only at hS);have q0:=hS;go_simp;try with_reducible rfl)
      simp only [Act.put,List.setIfInBounds_toArray,List.set_cons_zero,List.set_cons_succ];refine zad 12 (some 55) (v:=?v12q232) rfl rfl (by kernel_rfl) (by decide) (by kernel_rfl) (by kernel_rfl) (by kernel_rfl) (fun _ _ _ h=>h) (by rfl) ?y12q232 HSWb ?r12q232;case y12q232=>(intro w hS;(try dsimp only at hS);have q0:=hS;go_simp;try with_reducible rfl)
      simp only [Act.put,List.setIfInBounds_toArray,List.set_cons_zero,List.set_cons_succ];refine zad 14 (some 57) (v:=?v14q233) rfl rfl (by kernel_rfl) (by decide) (by kernel_rfl) (by kernel_rfl) (by kernel_rfl) (fun _ _ _ h=>h) (by rfl) ?y14q233 HSWb ?r14q233;case y14q233=>(intro w hS;(try dsimp only at hS);have q0:=hS;go_simp;try with_reducible rfl)
      simp only [Act.put,List.setIfInBounds_toArray,List.set_cons_zero,List.set_cons_succ];refine zaD 15 rfl (by kernel_rfl) fun K hK'=>?_;go_simp;refine hK' _ _ (fun h=>absurd rfl h) ?_;clear hK' K;refine zbq (by kernel_rfl) ?_ _;go_wp2_with fail
      go_returns
      exact ⟨by rw [zdT _ _ hk];rfl,hB2.trans (hbWb.mono hB2.size)⟩
    · go_simp;have hbl:Below Wd.heap.size Wd (Wd.alloc (.cells #[.string ⟨#[124]⟩,.string ⟨#[38]⟩,.string ⟨#[45]⟩] 9)):=(Below.refl _ Wd).alloc (Nat.le_refl _) _;have hbWa:=hbWd.trans (hbl.mono hbWd.size);have HSWa:(Wd.alloc (.cells #[.string ⟨#[124]⟩,.string ⟨#[38]⟩,.string ⟨#[45]⟩] 9)).cell? ⟨w.heap.size,0,none⟩=some (.int .i64 (k:Nat)):=zar HS _;have hL:=zer Wd hk;have hlb:Wd.heap.size<(Wd.alloc (.cells #[.string ⟨#[124]⟩,.string ⟨#[38]⟩,.string ⟨#[45]⟩] 9)).heap.size:=by simp
      refine hK' _ _ (fun _=>HSWa) ?_;clear hK' K;generalize hWa:Wd.alloc (.cells #[.string ⟨#[124]⟩,.string ⟨#[38]⟩,.string ⟨#[45]⟩] 9)=Wa at *
      refine zad 9 (some 52) (v:=?v9q234) rfl rfl (by kernel_rfl) (by decide) (by kernel_rfl) (by kernel_rfl) (by kernel_rfl) (fun _ _ _ h=>h) (by rfl) ?y9q234 HSWa ?r9q234;case y9q234=>(intro w hS;(try dsimp only at hS);have q0:=hS;go_simp;try with_reducible rfl)
      simp only [Act.put,List.setIfInBounds_toArray,List.set_cons_zero,List.set_cons_succ];refine zhr 3 10 rfl rfl (by kernel_rfl) (fun K hK'=>?_) (fun K hK'=>?_)
      · go_simp;refine (ka Wa ((hr3.below hbWa).more hbWa.size)).mono ?_;rintro e Wb ⟨rfl,hbc⟩;have hbWb:=hbWa.trans (hbc.mono hbWa.size);have HSWb:Wb.cell? ⟨w.heap.size,0,none⟩=some (.int .i64 (k:Nat)):=(hbWb.cell (p:=⟨w.heap.size,0,none⟩) lo).trans o0;have hL2:=(hbc.cell (p:=⟨Wd.heap.size,k-4,none⟩) hlb).trans hL;refine hK' _ _ (fun _=>HSWb) ?_;clear hK' K
        (try simp only [Act.put,List.setIfInBounds_toArray,List.set_cons_zero,List.set_cons_succ])
        refine zad 4 (some 47) (v:=?v4q235) rfl rfl (by kernel_rfl) (by decide) (by kernel_rfl) (by kernel_rfl) (by kernel_rfl) (fun _ _ _ h=>h) (by rfl) ?y4q235 HSWb ?r4q235;case y4q235=>(intro w hS;(try dsimp only at hS);have q0:=hS;go_simp;try with_reducible rfl)
        simp only [Act.put,List.setIfInBounds_toArray,List.set_cons_zero,List.set_cons_succ];refine zaD 10 rfl (by kernel_rfl) fun K hK'=>?_;go_simp;refine hK' _ _ (fun _=>HSWb) ?_;clear hK' K;refine zad 11 (some 54) (v:=?v11q236) rfl rfl (by kernel_rfl) (by decide) (by kernel_rfl) (by kernel_rfl) (by kernel_rfl) (fun _ _ _ h=>h) (by rfl) ?y11q236 HSWb ?r11q236;case y11q236=>(intro w hS;(try dsimp only at hS);have q0:=hS;go_simp;try with_reducible rfl)
        simp only [Act.put,List.setIfInBounds_toArray,List.set_cons_zero,List.set_cons_succ];refine zad 12 (some 55) (v:=?v12q237) rfl rfl (by kernel_rfl) (by decide) (by kernel_rfl) (by kernel_rfl) (by kernel_rfl) (fun _ _ _ h=>h) (by rfl) ?y12q237 HSWb ?r12q237;case y12q237=>(intro w hS;(try dsimp only at hS);have q0:=hS;go_simp;try with_reducible rfl)
        simp only [Act.put,List.setIfInBounds_toArray,List.set_cons_zero,List.set_cons_succ];refine zad 14 (some 57) (v:=?v14q238) rfl rfl (by kernel_rfl) (by decide) (by kernel_rfl) (by kernel_rfl) (by kernel_rfl) (fun _ _ _ h=>h) (by rfl) ?y14q238 HSWb ?r14q238;case y14q238=>(intro w hS;(try dsimp only at hS);have q0:=hS;go_simp;try with_reducible rfl)
        simp only [Act.put,List.setIfInBounds_toArray,List.set_cons_zero,List.set_cons_succ];refine zaD 15 rfl (by kernel_rfl) fun K hK'=>?_;go_simp;refine hK' _ _ (fun h=>absurd rfl h) ?_;clear hK' K;refine zbq (by kernel_rfl) ?_ _;go_wp2_with fail
        go_returns
        exact ⟨by rw [zdT _ _ hk];rfl,hB2.trans (hbWb.mono hB2.size)⟩
      · go_simp;refine hK' _ _ (fun _=>HSWa) ?_;clear hK' K
        (try simp only [Act.put,List.setIfInBounds_toArray,List.set_cons_zero,List.set_cons_succ])
        refine zaD 3 rfl (by kernel_rfl) fun K hK'=>?_;go_simp;refine (ka Wa ((hr3.below hbWa).more hbWa.size)).mono ?_;rintro e Wb ⟨rfl,hbc⟩;have hbWb:=hbWa.trans (hbc.mono hbWa.size);have HSWb:Wb.cell? ⟨w.heap.size,0,none⟩=some (.int .i64 (k:Nat)):=(hbWb.cell (p:=⟨w.heap.size,0,none⟩) lo).trans o0;refine hK' _ _ (fun _=>HSWb) ?_;clear hK' K
        (try simp only [Act.put,List.setIfInBounds_toArray,List.set_cons_zero,List.set_cons_succ])
        refine zad 4 (some 47) (v:=?v4q239) rfl rfl (by kernel_rfl) (by decide) (by kernel_rfl) (by kernel_rfl) (by kernel_rfl) (fun _ _ _ h=>h) (by rfl) ?y4q239 HSWb ?r4q239;case y4q239=>(intro w hS;(try dsimp only at hS);have q0:=hS;go_simp;try with_reducible rfl)
        simp only [Act.put,List.setIfInBounds_toArray,List.set_cons_zero,List.set_cons_succ];refine zad 11 (some 54) (v:=?v11q240) rfl rfl (by kernel_rfl) (by decide) (by kernel_rfl) (by kernel_rfl) (by kernel_rfl) (fun _ _ _ h=>h) (by rfl) ?y11q240 HSWb ?r11q240;case y11q240=>(intro w hS;(try dsimp only at hS);have q0:=hS;go_simp;try with_reducible rfl)
        simp only [Act.put,List.setIfInBounds_toArray,List.set_cons_zero,List.set_cons_succ];refine zad 12 (some 55) (v:=?v12q241) rfl rfl (by kernel_rfl) (by decide) (by kernel_rfl) (by kernel_rfl) (by kernel_rfl) (fun _ _ _ h=>h) (by rfl) ?y12q241 HSWb ?r12q241;case y12q241=>(intro w hS;(try dsimp only at hS);have q0:=hS;go_simp;try with_reducible rfl)
        simp only [Act.put,List.setIfInBounds_toArray,List.set_cons_zero,List.set_cons_succ];refine zad 14 (some 57) (v:=?v14q242) rfl rfl (by kernel_rfl) (by decide) (by kernel_rfl) (by kernel_rfl) (by kernel_rfl) (fun _ _ _ h=>h) (by rfl) ?y14q242 HSWb ?r14q242;case y14q242=>(intro w hS;(try dsimp only at hS);have q0:=hS;go_simp;try with_reducible rfl)
        simp only [Act.put,List.setIfInBounds_toArray,List.set_cons_zero,List.set_cons_succ];refine zaD 15 rfl (by kernel_rfl) fun K hK'=>?_;go_simp;refine hK' _ _ (fun h=>absurd rfl h) ?_;clear hK' K;refine zbq (by kernel_rfl) ?_ _;go_wp2_with fail
        go_returns
        exact ⟨by rw [zdT _ _ hk];rfl,hB2.trans (hbWb.mono hB2.size)⟩
 | this =>
  intro pre post z w hg hs hL hz hr hn;have hlast:=zeP _ pre post hz;rw [←hL] at hlast;have hzl:z<L.length:=(List.getElem?_eq_some_iff.1 hlast).1;obtain ⟨bk,f,rfl,hbb,hc⟩:=hr.at_ (by omega);obtain ⟨e0,e1,e2⟩:=ocells_at L z _ hlast;have q0:w.cell? ⟨bk,f + z * 3,none⟩=some (.int .i64 1):=hc _ _ e0;have q1:w.cell? ⟨bk,f + z * 3 + 1,none⟩=some (.string ⟨#[]⟩):=hc _ _ e1;have q2:w.cell? ⟨bk,f + z * 3 + 2,none⟩=some (.string ⟨#[]⟩):=hc _ _ e2;have hzd:((z:Nat):Int)<(L.length:Nat):=by omega
  have ho:=Bk.new w #[.int .i64 1,.string ⟨#[]⟩,.string ⟨#[]⟩] 60;have o0:=ho.cell 0;have o1:=ho.cell 1;have o2:=ho.cell 2;have lo:=ho.lt;have hal:Below w.heap.size w (w.alloc (.cells #[.int .i64 1,.string ⟨#[]⟩,.string ⟨#[]⟩] 60)):=(Below.refl _ w).alloc (Nat.le_refl _) _;clear hlast hL hc hr hz e0 e1 e2 ho;show Calls _ _ _ _ fun e w'=>e = .returned (.string zcE)∧Below w.heap.size w w';go_enter Tryz.func112,Tryz.ntmps112
  go_wp2_with fail
  go_returns
  exact ⟨rfl,hal⟩
 | same n =>
  intro pre post z w hg hs hL hz hr hn;have hlast:=zeP _ pre post hz;rw [←hL] at hlast;have hzl:z<L.length:=(List.getElem?_eq_some_iff.1 hlast).1;obtain ⟨bk,f,rfl,hbb,hc⟩:=hr.at_ (by omega);obtain ⟨e0,e1,e2⟩:=ocells_at L z _ hlast;have q0:w.cell? ⟨bk,f + z * 3,none⟩=some (.int .i64 2):=hc _ _ e0;have q1:w.cell? ⟨bk,f + z * 3 + 1,none⟩=some (.string n):=hc _ _ e1;have q2:w.cell? ⟨bk,f + z * 3 + 2,none⟩=some (.string ⟨#[]⟩):=hc _ _ e2;have hzd:((z:Nat):Int)<(L.length:Nat):=by omega
  have ho:=Bk.new w #[.int .i64 2,.string n,.string ⟨#[]⟩] 60;have o0:=ho.cell 0;have o1:=ho.cell 1;have o2:=ho.cell 2;have lo:=ho.lt;have hal:Below w.heap.size w (w.alloc (.cells #[.int .i64 2,.string n,.string ⟨#[]⟩] 60)):=(Below.refl _ w).alloc (Nat.le_refl _) _;clear hlast hL hc hr hz e0 e1 e2 ho;show Calls _ _ _ _ fun e w'=>e = .returned (.string n)∧Below w.heap.size w w';go_enter Tryz.func112,Tryz.ntmps112
  go_wp2_with fail
  go_returns
  exact ⟨rfl,hal⟩
 | via n m =>
  intro pre post z w hg hs hL hz hr hn;have hlast:=zeP _ pre post hz;rw [←hL] at hlast;have hzl:z<L.length:=(List.getElem?_eq_some_iff.1 hlast).1;obtain ⟨bk,f,rfl,hbb,hc⟩:=hr.at_ (by omega);obtain ⟨e0,e1,e2⟩:=ocells_at L z _ hlast;have q0:w.cell? ⟨bk,f + z * 3,none⟩=some (.int .i64 3):=hc _ _ e0;have q1:w.cell? ⟨bk,f + z * 3 + 1,none⟩=some (.string n):=hc _ _ e1;have q2:w.cell? ⟨bk,f + z * 3 + 2,none⟩=some (.string m):=hc _ _ e2;have hzd:((z:Nat):Int)<(L.length:Nat):=by omega
  have ho:=Bk.new w #[.int .i64 3,.string n,.string m] 60;have o0:=ho.cell 0;have o1:=ho.cell 1;have o2:=ho.cell 2;have lo:=ho.lt;have hal:Below w.heap.size w (w.alloc (.cells #[.int .i64 3,.string n,.string m] 60)):=(Below.refl _ w).alloc (Nat.le_refl _) _;have hn1:n.size≤1000:=hs.1;have hm1:m.size≤1000:=hs.2;clear hlast hL hc hr hz e0 e1 e2 ho;show Calls _ _ _ _ fun e w'=>e = .returned (.string (n ++ ⟨#[46]⟩ ++ m))∧Below w.heap.size w w';go_enter Tryz.func112,Tryz.ntmps112
  go_wp2_with fail
  go_returns
  exact ⟨rfl,hal⟩
theorem zid {w:World} (t:Ex) (hg:t.good) (hs:t.sml) (hr:Rd w w.heap.size 3 A t.ops.length c (ocells t.ops)) (hn:t.ops.length≤100000) :
 Calls Tryz.prog 72 #[.slice A t.ops.length c] w fun e w'=>e = .returned (.string t.text)∧Below w.heap.size w w':=by
 have hp:=t.ops_pos;obtain ⟨z,hz⟩:∃z,t.ops.length=z + 1:=⟨t.ops.length-1,by omega⟩;have k:=part_any (A:=A) (c:=c) (L:=t.ops) t [] [] z w hg hs (by simp) (by simpa using hz) hr hn;rw [hz] at k ⊢;clear hr;go_enter Tryz.func72,Tryz.ntmps72
 go_wp2_with fail
 refine k.mono ?_;rintro e W ⟨rfl,hW⟩;go_wp2_with fail
 go_returns
 exact ⟨rfl,hW⟩
end
end Go.Proofs.YtiepddmagfmllaaGreat
