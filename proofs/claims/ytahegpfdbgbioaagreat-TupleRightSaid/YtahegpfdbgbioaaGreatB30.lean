import Derived.Test.YtahegpfdbgbioaaGreatB23
set_option maxRecDepth 100000
set_option maxHeartbeats 4000000
namespace Go.Proofs.YtahegpfdbgbioaaGreat
open Go.RowKit
theorem zhZ {P:Program} {md:Region.Mode} {ops:Array Oper} {Q:Exit→Act→World→Prop} {S:World→Prop} {z:Nat} (i j:Nat) {oi oj:Oper} {n:Nat} {l:Array Bool} {a:Act} {w:World} (hi:ops[i]? = some oi) (hj:ops[j]? = some oj) (hr:Region.ready md ops l=[i,j])
 (h1:∀K':Act→World→Prop,(∀a w,(i≠z→S w)→zaY P md ops Q S z n (l.setIfInBounds i true) a w→K' a w)→if Region.wanted oi (yielded ops a.tmps)=true then Oper.wp P oi a w K' Q else K' (a.put oi.dst undef) w)
 (h2:∀K':Act→World→Prop,(∀a w,(j≠z→S w)→zaY P md ops Q S z n (l.setIfInBounds j true) a w→K' a w)→if Region.wanted oj (yielded ops a.tmps)=true then Oper.wp P oj a w K' Q else K' (a.put oj.dst undef) w) :
 zaY P md ops Q S z (n + 1) l a w :=
 ⟨fun e=>(by rw [hr] at e;cases e),fun k hk=>by
  rw [hr] at hk;simp only [List.mem_cons,List.not_mem_nil,or_false] at hk;rcases hk with rfl | rfl
  · exact wpOp_step hi fun K' hK'=>h1 K' fun a w s x=>hK' a w ⟨s,x⟩
  · exact wpOp_step hj fun K' hK'=>h2 K' fun a w s x=>hK' a w ⟨s,x⟩⟩
theorem Ex.ops_pos:∀t:Ex,1≤t.ops.length
 | .this=>Nat.le_refl _
 | .same _=>Nat.le_refl _
 | .via _ _=>Nat.le_refl _
 | .bin _ a b=>by
  show 1≤(a.ops ++ b.ops ++ [_]).length;rw [List.length_append,List.length_singleton];omega
theorem Ex.ops_bin (k:Nat) (a b:Ex):(Ex.bin k a b).ops.length=a.ops.length + b.ops.length + 1:=by
 show (a.ops ++ b.ops ++ [_]).length=_;rw [List.length_append,List.length_append,List.length_singleton]
theorem Ex.sg_ops (t:Ex):t.sg=decide (1<t.ops.length):=by
 cases t with
 | bin k a b =>
  have:=a.ops_pos;rw [Ex.ops_bin,eq_comm];show decide _=true;rw [decide_eq_true_eq];omega
 | _=>rfl
def Ex.last:Ex→OpP
 | .this=>(1,⟨#[]⟩,⟨#[]⟩)
 | .same n=>(2,n,⟨#[]⟩)
 | .via n m=>(3,n,m)
 | .bin k _ _=>opK k
theorem ze7 (t:Ex) (pre post:List OpP) {z:Nat} (h:pre.length + t.ops.length=z + 1):(pre ++ t.ops ++ post)[z]? = some t.last:=by
 have key:∃l,t.ops=l ++ [t.last]:=by
  cases t with
  | bin k a b=>exact ⟨a.ops ++ b.ops,rfl⟩
  | _=>exact ⟨[],rfl⟩
 obtain ⟨l,hl⟩:=key;rw [hl] at h ⊢;rw [List.length_append,List.length_singleton] at h;rw [List.getElem?_append_left (by simp;omega),List.getElem?_append_right (by omega),List.getElem?_append_right (by omega),show z-pre.length-l.length=0 by omega];rfl
section
variable {w:World} {A:Option Addr} {c:Nat} {L:List OpP}
theorem from8_any:∀(t:Ex) (pre post:List OpP) (z:Nat) (w:World),t.good→L=pre ++ t.ops ++ post→pre.length + t.ops.length=z + 1→Rd w w.heap.size 3 A L.length c (ocells L)→L.length≤1000000 →
 Calls Tryz.prog 187 #[.slice A L.length c,.int .i64 (z:Nat)] w fun e w'=>e = .returned (.int .i64 (pre.length:Nat))∧Below w.heap.size w w':=by
 intro t;induction t with
 | bin k a b iha ihb =>
  intro pre post z w hg hL hz hr hn;obtain ⟨hk,hga,hgb⟩:=hg;have hlast:=ze7 _ pre post hz;rw [←hL] at hlast;have hbl:=Ex.ops_bin k a b;rw [hbl] at hz;have ha:=a.ops_pos;have hb:=b.ops_pos;have hzl:z<L.length:=(List.getElem?_eq_some_iff.1 hlast).1;obtain ⟨bk,f,rfl,hbb,hc⟩:=hr.at_ (by omega);have q0:=hc _ _ (ocells_at L z _ hlast).1;have k1:L=(pre ++ a.ops) ++ b.ops ++ ([opK k] ++ post):=by rw [hL];simp [Ex.ops]
  have k2:L=pre ++ a.ops ++ (b.ops ++ [opK k] ++ post):=by rw [hL];simp [Ex.ops]
  obtain ⟨m,rfl⟩:∃m,z=m + 1:=⟨z-1,by omega⟩;obtain ⟨y,hy⟩:∃y,pre.length + a.ops.length=y + 1:=⟨pre.length + a.ops.length-1,by omega⟩;have kb:=ihb (pre ++ a.ops) ([opK k] ++ post) m w hgb k1 (by rw [List.length_append];omega) hr hn;rw [List.length_append,hy] at kb;have ka:=fun w2 hr2=>iha pre (b.ops ++ [opK k] ++ post) y w2 hga k2 hy hr2 hn;have d1:¬((k:Nat):Int)<4:=by omega
  have hzd:((m:Nat):Int) + 1<(L.length:Nat):=by omega
  replace q0:w.cell? ⟨bk,f + (m + 1) * 3,none⟩=some (.int .i64 (k:Nat)):=q0;clear hlast hL k1 k2 iha ihb hbl hc;go_enter Tryz.func187,Tryz.ntmps187
  go_wp2_with fail
  refine kb.mono ?_;rintro e W ⟨rfl,hW⟩;go_wp2_with fail
  refine (ka W ((hr.below hW).more hW.size)).mono ?_;rintro e W2 ⟨rfl,hW2⟩;go_wp2_with fail
  go_returns
  exact ⟨rfl,hW.trans (hW2.mono hW.size)⟩
 | _ =>
  intro pre post z w hg hL hz hr hn;have hlast:=ze7 _ pre post hz;rw [←hL] at hlast;have hzl:z<L.length:=(List.getElem?_eq_some_iff.1 hlast).1;obtain ⟨bk,f,rfl,hbb,hc⟩:=hr.at_ (by omega);obtain ⟨o,ho,hk4⟩:∃o,L[z]? = some o∧o.1<4:=⟨_,hlast,by simp [Ex.last]⟩;have q0:=hc _ _ (ocells_at L z _ ho).1;have d4:((o.1:Nat):Int)<4:=by omega
  replace hz:pre.length=z:=by
   have:pre.length + 1=z + 1:=hz;omega
  rw [hz];have hzd:((z:Nat):Int)<(L.length:Nat):=by omega
  clear hlast hL hc hr hz ho hk4;go_enter Tryz.func187,Tryz.ntmps187
  go_wp2_with fail
  go_returns
  exact ⟨rfl,Below.refl _ _⟩
def ziG (k:Nat):ByteArray:=if k=4 then ⟨#[124]⟩ else if k=5 then ⟨#[38]⟩ else ⟨#[45]⟩
theorem zd4 (x r:ByteArray) {k:Nat} (hk:k=4∨k=5∨k=6):x ++ ⟨#[32]⟩ ++ ziG k ++ ⟨#[32]⟩ ++ r=x ++ zgL k ++ r:=by
 have:(⟨#[32]⟩:ByteArray) ++ ziG k ++ ⟨#[32]⟩=zgL k:=by rcases hk with rfl | rfl | rfl <;> decide +kernel
 rw [←this];simp only [zaJ]
theorem zeH (W:World) {k:Nat} (hk:k=4∨k=5∨k=6):(W.alloc (.cells #[.string ⟨#[124]⟩,.string ⟨#[38]⟩,.string ⟨#[45]⟩] 9)).cell? ⟨W.heap.size,k-4,none⟩=some (.string (ziG k)):=by
 have hb:=Bk.new W #[.string ⟨#[124]⟩,.string ⟨#[38]⟩,.string ⟨#[45]⟩] 9;rcases hk with rfl | rfl | rfl
 · exact hb.cell 0
 · exact hb.cell 1
 · exact hb.cell 2
def Ex.sml:Ex→Prop
 | .this=>True
 | .same n=>n.size≤1000
 | .via n m=>n.size≤1000∧m.size≤1000
 | .bin _ a b=>a.sml∧b.sml
theorem zeP:∀t:Ex,t.sml→t.text.size≤2010 * t.ops.length
 | .this,_=>(by show 4≤2010 * 1;omega)
 | .same n,h=>(by have h2:n.size≤1000:=h;show n.size≤2010 * 1;omega)
 | .via n m,h=>(by
  obtain ⟨h1,h2⟩:=h;show (n ++ ⟨#[46]⟩ ++ m).size≤2010 * 1;rw [size_app,size_app];show n.size + 1 + m.size≤_;omega)
 | .bin k a b,h=>(by
  have h1:=zeP a h.1;have h2:=zeP b h.2;have h3:=zeO k;rw [Ex.ops_bin];show (a.text ++ zgL k ++ parS b.sg b.text).size≤_;rw [size_app,size_app];have h4:(parS b.sg b.text).size≤b.text.size + 2:=by
   unfold parS;split
   · rw [size_app,size_app];show 1 + _ + 1≤_;omega
   · omega
  omega)
theorem part_any:∀(t:Ex) (pre post:List OpP) (z:Nat) (w:World),t.good→t.sml→L=pre ++ t.ops ++ post→pre.length + t.ops.length=z + 1→Rd w w.heap.size 3 A L.length c (ocells L)→L.length≤100000 →
 Calls Tryz.prog 154 #[.slice A L.length c,.int .i64 (z:Nat)] w fun e w'=>e = .returned (.string t.text)∧Below w.heap.size w w':=by
 intro t;induction t with
 | bin k a b iha ihb =>
  intro pre post z w hg hs hL hz hr hn;obtain ⟨hk,hga,hgb⟩:=hg;have hlast:=ze7 _ pre post hz;rw [←hL] at hlast;have hbl:=Ex.ops_bin k a b;rw [hbl] at hz;have ha:=a.ops_pos;have hb:=b.ops_pos;have hzl:z<L.length:=(List.getElem?_eq_some_iff.1 hlast).1;have hta:=zeP a hs.1;have htb:=zeP b hs.2;obtain ⟨bk,f,rfl,hbb,hc⟩:=hr.at_ (by omega);obtain ⟨e0,e1,e2⟩:=ocells_at L z _ hlast;have q0:=hc _ _ e0;have q1:w.cell? ⟨bk,f + z * 3 + 1,none⟩=some (.string ⟨#[]⟩):=hc _ _ e1;have q2:w.cell? ⟨bk,f + z * 3 + 2,none⟩=some (.string ⟨#[]⟩):=hc _ _ e2;have k1:L=(pre ++ a.ops) ++ b.ops ++ ([opK k] ++ post):=by rw [hL];simp [Ex.ops]
  have k2:L=pre ++ a.ops ++ (b.ops ++ [opK k] ++ post):=by rw [hL];simp [Ex.ops]
  obtain ⟨m,rfl⟩:∃m,z=m + 1:=⟨z-1,by omega⟩;obtain ⟨y,hy⟩:∃y,pre.length + a.ops.length=y + 1:=⟨pre.length + a.ops.length-1,by omega⟩;have hm:(pre ++ a.ops).length + b.ops.length=m + 1:=by rw [List.length_append];omega
  have kf:=fun w2 hr2=>from8_any (A:=some ⟨bk,f,none⟩) (c:=c) (L:=L) b (pre ++ a.ops) ([opK k] ++ post) m w2 hgb k1 hm hr2 (by omega);have kb:=fun w2 hr2=>ihb (pre ++ a.ops) ([opK k] ++ post) m w2 hgb hs.2 k1 hm hr2 hn;have ka:=fun w2 hr2=>iha pre (b.ops ++ [opK k] ++ post) y w2 hga hs.1 k2 hy hr2 hn;rw [List.length_append,hy] at kf;have hy6:y≤100000:=by omega
  have hsb:b.sg=decide (y + 1<m):=by
   rw [Ex.sg_ops];congr 1
   rw [List.length_append] at hm;exact propext ⟨fun _=>by omega,fun _=>by omega⟩
  have hzd:((m:Nat):Int) + 1<(L.length:Nat):=by omega
  have hla:a.ops.length≤100000:=by omega
  have hlb:b.ops.length≤100000:=by omega
  have ho:=Bk.new w #[.int .i64 (k:Nat),.string ⟨#[]⟩,.string ⟨#[]⟩] 60;have o0:=ho.cell 0;have lo:=ho.lt;have hal:Below w.heap.size w (w.alloc (.cells #[.int .i64 (k:Nat),.string ⟨#[]⟩,.string ⟨#[]⟩] 60)):=(Below.refl _ w).alloc (Nat.le_refl _) _;have hr1:=(hr.below hal).more hal.size;have dk1:(((k:Nat):Int) == 1)=false:=by rw [beq_eq_false_iff_ne];omega
  have dk2:(((k:Nat):Int) == 2)=false:=by rw [beq_eq_false_iff_ne];omega
  have dk3:(((k:Nat):Int) == 3)=false:=by rw [beq_eq_false_iff_ne];omega
  replace q0:w.cell? ⟨bk,f + (m + 1) * 3,none⟩=some (.int .i64 (k:Nat)):=q0;clear hlast hL k1 k2 iha ihb hbl hc hm hy hr e0 e1 e2;have HX:Hid ((Ex.bin k a b).text=a.text ++ zgL k ++ parS b.sg b.text):=Lib.hid rfl;rw [HX.out];have hcut:parS b.sg b.text=(if y + 1<m then (⟨#[40]⟩:ByteArray) ++ b.text ++ ⟨#[41]⟩ else b.text):=by
   unfold parS;rw [hsb];by_cases h:y + 1<m
   · rw [if_pos (decide_eq_true h),if_pos h]
   · rw [if_neg (by simpa using h),if_neg h]
  obtain ⟨RT,hRT⟩:∃r,parS b.sg b.text=r:=⟨_,rfl⟩;rw [hRT] at hcut ⊢;have HC:=Lib.hid hcut;clear hcut hRT;go_enter Tryz.func154,Tryz.ntmps154
  go_wp2_with fail
  generalize w.alloc (.cells #[.int .i64 (k:Nat),.string ⟨#[]⟩,.string ⟨#[]⟩] 60)=W0 at *
  refine (kf W0 hr1).mono ?_;rintro e W1 ⟨rfl,hb1⟩;have hr2:=(hr1.below hb1).more hb1.size;replace o0:=(hb1.cell (p:=⟨w.heap.size,0,none⟩) lo).trans o0;have hB1:=hal.trans (hb1.mono hal.size);replace lo:=Nat.lt_of_lt_of_le lo hb1.size;clear hr1 hb1 hal;go_wp2_with fail
  refine (kb W1 hr2).mono ?_;rintro e W2 ⟨rfl,hb2⟩;have hr3:=(hr2.below hb2).more hb2.size;replace o0:=(hb2.cell (p:=⟨w.heap.size,0,none⟩) lo).trans o0;have hB2:=hB1.trans (hb2.mono hB1.size);replace lo:=Nat.lt_of_lt_of_le lo hb2.size;clear hr2 hb2 hB1 kf kb;have hwy:IntKind.i64.wrap ((y:Nat):Int)=(y:Nat):=IntWalk.i64_in _ (by omega);have hwk:IntKind.i64.wrap (((k:Nat):Int)-4)=((k-4:Nat):Int):=by rw [show ((k:Nat):Int)-4=((k-4:Nat):Int) by omega];exact IntWalk.i64_in _ (by omega)
  have d47:((k-4:Nat):Int)<3:=by omega
  have hos:(ziG k).size≤1:=by unfold ziG;split;exact Nat.le_refl _;split <;> exact Nat.le_refl _
  have hRz:RT.size≤2010 * b.ops.length + 2:=by
   rw [HC.out];split
   · rw [size_app,size_app];show 1 + _ + 1≤_;omega
   · omega
  have n1:¬9223372036854775807<a.text.size + 1:=by omega
  have n2:¬9223372036854775807<a.text.size + 1 + (ziG k).size:=by omega
  have n3:¬9223372036854775807<a.text.size + 1 + (ziG k).size + 1:=by omega
  have n4:¬9223372036854775807<a.text.size + 1 + (ziG k).size + 1 + RT.size:=by omega
  have htb2:b.text.size≤300000000:=by omega
  clear hta htb hos hRz hz hzl hsb;by_cases h:y + 1<m
  · have d:((y:Nat):Int) + 1<(m:Nat):=by omega
    have HR:=HC.out.trans (if_pos h);have HR2:=Lib.hid HR;clear HR;go_wp2_with fail
    rw [←HR2.out];refine zbx (fun W=>W.cell? ⟨w.heap.size,0,none⟩=some (.int .i64 (k:Nat))) 15 (by kernel_rfl) ?_;change zaY _ _ _ _ _ _ _ _ _ (World.drew _);have hbWd:Below W2.heap.size W2 (World.drew W2):=⟨rfl,rfl,rfl,Nat.le_refl _,fun _ _=>rfl⟩;generalize World.drew W2=Wd at *
    have HS:Wd.cell? ⟨w.heap.size,0,none⟩=some (.int .i64 (k:Nat)):=(hbWd.cell (p:=⟨w.heap.size,0,none⟩) lo).trans o0;refine zab 0 (some 43) (v:=?v0q101) rfl rfl (by kernel_rfl) (by decide) (by kernel_rfl) (by kernel_rfl) (by kernel_rfl) (fun _ _ _ h=>h) (by rfl) ?y0q101 HS ?r0q101;case y0q101=>(intro w hS;(try dsimp only at hS);have q0:=hS;go_simp;try with_reducible rfl)
    simp only [Act.put,List.setIfInBounds_toArray,List.set_cons_zero,List.set_cons_succ];refine zab 1 (some 44) (v:=?v1q102) rfl rfl (by kernel_rfl) (by decide) (by kernel_rfl) (by kernel_rfl) (by kernel_rfl) (fun _ _ _ h=>h) (by rfl) ?y1q102 HS ?r1q102;case y1q102=>(intro w hS;(try dsimp only at hS);have q0:=hS;go_simp;try with_reducible rfl)
    simp only [Act.put,List.setIfInBounds_toArray,List.set_cons_zero,List.set_cons_succ];refine zab 2 (some 45) (v:=?v2q103) rfl rfl (by kernel_rfl) (by decide) (by kernel_rfl) (by kernel_rfl) (by kernel_rfl) (fun _ _ _ h=>h) (by rfl) ?y2q103 HS ?r2q103;case y2q103=>(intro w hS;(try dsimp only at hS);have q0:=hS;go_simp;try with_reducible rfl)
    simp only [Act.put,List.setIfInBounds_toArray,List.set_cons_zero,List.set_cons_succ];refine zab 6 (some 49) (v:=?v6q104) rfl rfl (by kernel_rfl) (by decide) (by kernel_rfl) (by kernel_rfl) (by kernel_rfl) (fun _ _ _ h=>h) (by rfl) ?y6q104 HS ?r6q104;case y6q104=>(intro w hS;(try dsimp only at hS);have q0:=hS;go_simp;try with_reducible rfl)
    simp only [Act.put,List.setIfInBounds_toArray,List.set_cons_zero,List.set_cons_succ];refine zab 7 (some 50) (v:=?v7q105) rfl rfl (by kernel_rfl) (by decide) (by kernel_rfl) (by kernel_rfl) (by kernel_rfl) (fun _ _ _ h=>h) (by rfl) ?y7q105 HS ?r7q105;case y7q105=>(intro w hS;(try dsimp only at hS);have q0:=hS;go_simp;try with_reducible rfl)
    simp only [Act.put,List.setIfInBounds_toArray,List.set_cons_zero,List.set_cons_succ];refine zab 8 (some 51) (v:=?v8q106) rfl rfl (by kernel_rfl) (by decide) (by kernel_rfl) (by kernel_rfl) (by kernel_rfl) (fun _ _ _ h=>h) (by rfl) ?y8q106 HS ?r8q106;case y8q106=>(intro w hS;(try dsimp only at hS);have q0:=hS;go_simp;try with_reducible rfl)
    simp only [Act.put,List.setIfInBounds_toArray,List.set_cons_zero,List.set_cons_succ];refine zab 13 (some 56) (v:=?v13q107) rfl rfl (by kernel_rfl) (by decide) (by kernel_rfl) (by kernel_rfl) (by kernel_rfl) (fun _ _ _ h=>h) (by rfl) ?y13q107 HS ?r13q107;case y13q107=>(intro w hS;(try dsimp only at hS);have q0:=hS;go_simp;try with_reducible rfl)
    simp only [Act.put,List.setIfInBounds_toArray,List.set_cons_zero,List.set_cons_succ];refine zhZ 3 5 rfl rfl (by kernel_rfl) (fun K hK'=>?_) (fun K hK'=>?_)
    · go_simp;refine (ka Wd ((hr3.below hbWd).more hbWd.size)).mono ?_;rintro e Wa ⟨rfl,hbc⟩;have hbWa:=hbWd.trans (hbc.mono hbWd.size);have HSWa:Wa.cell? ⟨w.heap.size,0,none⟩=some (.int .i64 (k:Nat)):=(hbWa.cell (p:=⟨w.heap.size,0,none⟩) lo).trans o0;refine hK' _ _ (fun _=>HSWa) ?_;clear hK' K
      (try simp only [Act.put,List.setIfInBounds_toArray,List.set_cons_zero,List.set_cons_succ])
      refine zab 4 (some 47) (v:=?v4q108) rfl rfl (by kernel_rfl) (by decide) (by kernel_rfl) (by kernel_rfl) (by kernel_rfl) (fun _ _ _ h=>h) (by rfl) ?y4q108 HSWa ?r4q108;case y4q108=>(intro w hS;(try dsimp only at hS);have q0:=hS;go_simp;try with_reducible rfl)
      simp only [Act.put,List.setIfInBounds_toArray,List.set_cons_zero,List.set_cons_succ];refine zat 5 rfl (by kernel_rfl) fun K hK'=>?_;go_simp;have hbl:Below Wa.heap.size Wa (Wa.alloc (.cells #[.string ⟨#[124]⟩,.string ⟨#[38]⟩,.string ⟨#[45]⟩] 9)):=(Below.refl _ Wa).alloc (Nat.le_refl _) _;have hbWb:=hbWa.trans (hbl.mono hbWa.size);have HSWb:(Wa.alloc (.cells #[.string ⟨#[124]⟩,.string ⟨#[38]⟩,.string ⟨#[45]⟩] 9)).cell? ⟨w.heap.size,0,none⟩=some (.int .i64 (k:Nat)):=zar HSWa _;have hL:=zeH Wa hk;refine hK' _ _ (fun _=>HSWb) ?_;clear hK' K;refine zab 9 (some 52) (v:=?v9q109) rfl rfl (by kernel_rfl) (by decide) (by kernel_rfl) (by kernel_rfl) (by kernel_rfl) (fun _ _ _ h=>h) (by rfl) ?y9q109 HSWb ?r9q109;case y9q109=>(intro w hS;(try dsimp only at hS);have q0:=hS;go_simp;try with_reducible rfl)
      simp only [Act.put,List.setIfInBounds_toArray,List.set_cons_zero,List.set_cons_succ];refine zat 10 rfl (by kernel_rfl) fun K hK'=>?_;go_simp;refine hK' _ _ (fun _=>HSWb) ?_;clear hK' K;refine zab 11 (some 54) (v:=?v11q110) rfl rfl (by kernel_rfl) (by decide) (by kernel_rfl) (by kernel_rfl) (by kernel_rfl) (fun _ _ _ h=>h) (by rfl) ?y11q110 HSWb ?r11q110;case y11q110=>(intro w hS;(try dsimp only at hS);have q0:=hS;go_simp;try with_reducible rfl)
      simp only [Act.put,List.setIfInBounds_toArray,List.set_cons_zero,List.set_cons_succ];refine zab 12 (some 55) (v:=?v12q111) rfl rfl (by kernel_rfl) (by decide) (by kernel_rfl) (by kernel_rfl) (by kernel_rfl) (fun _ _ _ h=>h) (by rfl) ?y12q111 HSWb ?r12q111;case y12q111=>(intro w hS;(try dsimp only at hS);have q0:=hS;go_simp;try with_reducible rfl)
      simp only [Act.put,List.setIfInBounds_toArray,List.set_cons_zero,List.set_cons_succ];refine zab 14 (some 57) (v:=?v14q112) rfl rfl (by kernel_rfl) (by decide) (by kernel_rfl) (by kernel_rfl) (by kernel_rfl) (fun _ _ _ h=>h) (by rfl) ?y14q112 HSWb ?r14q112;case y14q112=>(intro w hS;(try dsimp only at hS);have q0:=hS;go_simp;try with_reducible rfl)
      simp only [Act.put,List.setIfInBounds_toArray,List.set_cons_zero,List.set_cons_succ];refine zat 15 rfl (by kernel_rfl) fun K hK'=>?_;go_simp;refine hK' _ _ (fun h=>absurd rfl h) ?_;clear hK' K;refine zbl (by kernel_rfl) ?_ _;go_wp2_with fail
      go_returns
      exact ⟨by rw [zd4 _ _ hk];rfl,hB2.trans (hbWb.mono hB2.size)⟩
    · go_simp;have hbl:Below Wd.heap.size Wd (Wd.alloc (.cells #[.string ⟨#[124]⟩,.string ⟨#[38]⟩,.string ⟨#[45]⟩] 9)):=(Below.refl _ Wd).alloc (Nat.le_refl _) _;have hbWa:=hbWd.trans (hbl.mono hbWd.size);have HSWa:(Wd.alloc (.cells #[.string ⟨#[124]⟩,.string ⟨#[38]⟩,.string ⟨#[45]⟩] 9)).cell? ⟨w.heap.size,0,none⟩=some (.int .i64 (k:Nat)):=zar HS _;have hL:=zeH Wd hk;have hlb:Wd.heap.size<(Wd.alloc (.cells #[.string ⟨#[124]⟩,.string ⟨#[38]⟩,.string ⟨#[45]⟩] 9)).heap.size:=by simp
      refine hK' _ _ (fun _=>HSWa) ?_;clear hK' K;generalize hWa:Wd.alloc (.cells #[.string ⟨#[124]⟩,.string ⟨#[38]⟩,.string ⟨#[45]⟩] 9)=Wa at *
      refine zab 9 (some 52) (v:=?v9q113) rfl rfl (by kernel_rfl) (by decide) (by kernel_rfl) (by kernel_rfl) (by kernel_rfl) (fun _ _ _ h=>h) (by rfl) ?y9q113 HSWa ?r9q113;case y9q113=>(intro w hS;(try dsimp only at hS);have q0:=hS;go_simp;try with_reducible rfl)
      simp only [Act.put,List.setIfInBounds_toArray,List.set_cons_zero,List.set_cons_succ];refine zhZ 3 10 rfl rfl (by kernel_rfl) (fun K hK'=>?_) (fun K hK'=>?_)
      · go_simp;refine (ka Wa ((hr3.below hbWa).more hbWa.size)).mono ?_;rintro e Wb ⟨rfl,hbc⟩;have hbWb:=hbWa.trans (hbc.mono hbWa.size);have HSWb:Wb.cell? ⟨w.heap.size,0,none⟩=some (.int .i64 (k:Nat)):=(hbWb.cell (p:=⟨w.heap.size,0,none⟩) lo).trans o0;have hL2:=(hbc.cell (p:=⟨Wd.heap.size,k-4,none⟩) hlb).trans hL;refine hK' _ _ (fun _=>HSWb) ?_;clear hK' K
        (try simp only [Act.put,List.setIfInBounds_toArray,List.set_cons_zero,List.set_cons_succ])
        refine zab 4 (some 47) (v:=?v4q114) rfl rfl (by kernel_rfl) (by decide) (by kernel_rfl) (by kernel_rfl) (by kernel_rfl) (fun _ _ _ h=>h) (by rfl) ?y4q114 HSWb ?r4q114;case y4q114=>(intro w hS;(try dsimp only at hS);have q0:=hS;go_simp;try with_reducible rfl)
        simp only [Act.put,List.setIfInBounds_toArray,List.set_cons_zero,List.set_cons_succ];refine zat 10 rfl (by kernel_rfl) fun K hK'=>?_;go_simp;refine hK' _ _ (fun _=>HSWb) ?_;clear hK' K;refine zab 11 (some 54) (v:=?v11q115) rfl rfl (by kernel_rfl) (by decide) (by kernel_rfl) (by kernel_rfl) (by kernel_rfl) (fun _ _ _ h=>h) (by rfl) ?y11q115 HSWb ?r11q115;case y11q115=>(intro w hS;(try dsimp only at hS);have q0:=hS;go_simp;try with_reducible rfl)
        simp only [Act.put,List.setIfInBounds_toArray,List.set_cons_zero,List.set_cons_succ];refine zab 12 (some 55) (v:=?v12q116) rfl rfl (by kernel_rfl) (by decide) (by kernel_rfl) (by kernel_rfl) (by kernel_rfl) (fun _ _ _ h=>h) (by rfl) ?y12q116 HSWb ?r12q116;case y12q116=>(intro w hS;(try dsimp only at hS);have q0:=hS;go_simp;try with_reducible rfl)
        simp only [Act.put,List.setIfInBounds_toArray,List.set_cons_zero,List.set_cons_succ];refine zab 14 (some 57) (v:=?v14q117) rfl rfl (by kernel_rfl) (by decide) (by kernel_rfl) (by kernel_rfl) (by kernel_rfl) (fun _ _ _ h=>h) (by rfl) ?y14q117 HSWb ?r14q117;case y14q117=>(intro w hS;(try dsimp only at hS);have q0:=hS;go_simp;try with_reducible rfl)
        simp only [Act.put,List.setIfInBounds_toArray,List.set_cons_zero,List.set_cons_succ];refine zat 15 rfl (by kernel_rfl) fun K hK'=>?_;go_simp;refine hK' _ _ (fun h=>absurd rfl h) ?_;clear hK' K;refine zbl (by kernel_rfl) ?_ _;go_wp2_with fail
        go_returns
        exact ⟨by rw [zd4 _ _ hk];rfl,hB2.trans (hbWb.mono hB2.size)⟩
      · go_simp;refine hK' _ _ (fun _=>HSWa) ?_;clear hK' K
        (try simp only [Act.put,List.setIfInBounds_toArray,List.set_cons_zero,List.set_cons_succ])
        refine zat 3 rfl (by kernel_rfl) fun K hK'=>?_;go_simp;refine (ka Wa ((hr3.below hbWa).more hbWa.size)).mono ?_;rintro e Wb ⟨rfl,hbc⟩;have hbWb:=hbWa.trans (hbc.mono hbWa.size);have HSWb:Wb.cell? ⟨w.heap.size,0,none⟩=some (.int .i64 (k:Nat)):=(hbWb.cell (p:=⟨w.heap.size,0,none⟩) lo).trans o0;refine hK' _ _ (fun _=>HSWb) ?_;clear hK' K
        (try simp only [Act.put,List.setIfInBounds_toArray,List.set_cons_zero,List.set_cons_succ])
        refine zab 4 (some 47) (v:=?v4q118) rfl rfl (by kernel_rfl) (by decide) (by kernel_rfl) (by kernel_rfl) (by kernel_rfl) (fun _ _ _ h=>h) (by rfl) ?y4q118 HSWb ?r4q118;case y4q118=>(intro w hS;(try dsimp only at hS);have q0:=hS;go_simp;try with_reducible rfl)
        simp only [Act.put,List.setIfInBounds_toArray,List.set_cons_zero,List.set_cons_succ];refine zab 11 (some 54) (v:=?v11q119) rfl rfl (by kernel_rfl) (by decide) (by kernel_rfl) (by kernel_rfl) (by kernel_rfl) (fun _ _ _ h=>h) (by rfl) ?y11q119 HSWb ?r11q119;case y11q119=>(intro w hS;(try dsimp only at hS);have q0:=hS;go_simp;try with_reducible rfl)
        simp only [Act.put,List.setIfInBounds_toArray,List.set_cons_zero,List.set_cons_succ];refine zab 12 (some 55) (v:=?v12q120) rfl rfl (by kernel_rfl) (by decide) (by kernel_rfl) (by kernel_rfl) (by kernel_rfl) (fun _ _ _ h=>h) (by rfl) ?y12q120 HSWb ?r12q120;case y12q120=>(intro w hS;(try dsimp only at hS);have q0:=hS;go_simp;try with_reducible rfl)
        simp only [Act.put,List.setIfInBounds_toArray,List.set_cons_zero,List.set_cons_succ];refine zab 14 (some 57) (v:=?v14q121) rfl rfl (by kernel_rfl) (by decide) (by kernel_rfl) (by kernel_rfl) (by kernel_rfl) (fun _ _ _ h=>h) (by rfl) ?y14q121 HSWb ?r14q121;case y14q121=>(intro w hS;(try dsimp only at hS);have q0:=hS;go_simp;try with_reducible rfl)
        simp only [Act.put,List.setIfInBounds_toArray,List.set_cons_zero,List.set_cons_succ];refine zat 15 rfl (by kernel_rfl) fun K hK'=>?_;go_simp;refine hK' _ _ (fun h=>absurd rfl h) ?_;clear hK' K;refine zbl (by kernel_rfl) ?_ _;go_wp2_with fail
        go_returns
        exact ⟨by rw [zd4 _ _ hk];rfl,hB2.trans (hbWb.mono hB2.size)⟩
  · have d:¬((y:Nat):Int) + 1<(m:Nat):=by omega
    have HR:=HC.out.trans (if_neg h);have HR2:=Lib.hid HR;clear HR;go_wp2_with fail
    rw [←HR2.out];refine zbx (fun W=>W.cell? ⟨w.heap.size,0,none⟩=some (.int .i64 (k:Nat))) 15 (by kernel_rfl) ?_;change zaY _ _ _ _ _ _ _ _ _ (World.drew _);have hbWd:Below W2.heap.size W2 (World.drew W2):=⟨rfl,rfl,rfl,Nat.le_refl _,fun _ _=>rfl⟩;generalize World.drew W2=Wd at *
    have HS:Wd.cell? ⟨w.heap.size,0,none⟩=some (.int .i64 (k:Nat)):=(hbWd.cell (p:=⟨w.heap.size,0,none⟩) lo).trans o0;refine zab 0 (some 43) (v:=?v0q222) rfl rfl (by kernel_rfl) (by decide) (by kernel_rfl) (by kernel_rfl) (by kernel_rfl) (fun _ _ _ h=>h) (by rfl) ?y0q222 HS ?r0q222;case y0q222=>(intro w hS;(try dsimp only at hS);have q0:=hS;go_simp;try with_reducible rfl)
    simp only [Act.put,List.setIfInBounds_toArray,List.set_cons_zero,List.set_cons_succ];refine zab 1 (some 44) (v:=?v1q223) rfl rfl (by kernel_rfl) (by decide) (by kernel_rfl) (by kernel_rfl) (by kernel_rfl) (fun _ _ _ h=>h) (by rfl) ?y1q223 HS ?r1q223;case y1q223=>(intro w hS;(try dsimp only at hS);have q0:=hS;go_simp;try with_reducible rfl)
    simp only [Act.put,List.setIfInBounds_toArray,List.set_cons_zero,List.set_cons_succ];refine zab 2 (some 45) (v:=?v2q224) rfl rfl (by kernel_rfl) (by decide) (by kernel_rfl) (by kernel_rfl) (by kernel_rfl) (fun _ _ _ h=>h) (by rfl) ?y2q224 HS ?r2q224;case y2q224=>(intro w hS;(try dsimp only at hS);have q0:=hS;go_simp;try with_reducible rfl)
    simp only [Act.put,List.setIfInBounds_toArray,List.set_cons_zero,List.set_cons_succ];refine zab 6 (some 49) (v:=?v6q225) rfl rfl (by kernel_rfl) (by decide) (by kernel_rfl) (by kernel_rfl) (by kernel_rfl) (fun _ _ _ h=>h) (by rfl) ?y6q225 HS ?r6q225;case y6q225=>(intro w hS;(try dsimp only at hS);have q0:=hS;go_simp;try with_reducible rfl)
    simp only [Act.put,List.setIfInBounds_toArray,List.set_cons_zero,List.set_cons_succ];refine zab 7 (some 50) (v:=?v7q226) rfl rfl (by kernel_rfl) (by decide) (by kernel_rfl) (by kernel_rfl) (by kernel_rfl) (fun _ _ _ h=>h) (by rfl) ?y7q226 HS ?r7q226;case y7q226=>(intro w hS;(try dsimp only at hS);have q0:=hS;go_simp;try with_reducible rfl)
    simp only [Act.put,List.setIfInBounds_toArray,List.set_cons_zero,List.set_cons_succ];refine zab 8 (some 51) (v:=?v8q227) rfl rfl (by kernel_rfl) (by decide) (by kernel_rfl) (by kernel_rfl) (by kernel_rfl) (fun _ _ _ h=>h) (by rfl) ?y8q227 HS ?r8q227;case y8q227=>(intro w hS;(try dsimp only at hS);have q0:=hS;go_simp;try with_reducible rfl)
    simp only [Act.put,List.setIfInBounds_toArray,List.set_cons_zero,List.set_cons_succ];refine zab 13 (some 56) (v:=?v13q228) rfl rfl (by kernel_rfl) (by decide) (by kernel_rfl) (by kernel_rfl) (by kernel_rfl) (fun _ _ _ h=>h) (by rfl) ?y13q228 HS ?r13q228;case y13q228=>(intro w hS;(try dsimp only at hS);have q0:=hS;go_simp;try with_reducible rfl)
    simp only [Act.put,List.setIfInBounds_toArray,List.set_cons_zero,List.set_cons_succ];refine zhZ 3 5 rfl rfl (by kernel_rfl) (fun K hK'=>?_) (fun K hK'=>?_)
    · go_simp;refine (ka Wd ((hr3.below hbWd).more hbWd.size)).mono ?_;rintro e Wa ⟨rfl,hbc⟩;have hbWa:=hbWd.trans (hbc.mono hbWd.size);have HSWa:Wa.cell? ⟨w.heap.size,0,none⟩=some (.int .i64 (k:Nat)):=(hbWa.cell (p:=⟨w.heap.size,0,none⟩) lo).trans o0;refine hK' _ _ (fun _=>HSWa) ?_;clear hK' K
      (try simp only [Act.put,List.setIfInBounds_toArray,List.set_cons_zero,List.set_cons_succ])
      refine zab 4 (some 47) (v:=?v4q229) rfl rfl (by kernel_rfl) (by decide) (by kernel_rfl) (by kernel_rfl) (by kernel_rfl) (fun _ _ _ h=>h) (by rfl) ?y4q229 HSWa ?r4q229;case y4q229=>(intro w hS;(try dsimp only at hS);have q0:=hS;go_simp;try with_reducible rfl)
      simp only [Act.put,List.setIfInBounds_toArray,List.set_cons_zero,List.set_cons_succ];refine zat 5 rfl (by kernel_rfl) fun K hK'=>?_;go_simp;have hbl:Below Wa.heap.size Wa (Wa.alloc (.cells #[.string ⟨#[124]⟩,.string ⟨#[38]⟩,.string ⟨#[45]⟩] 9)):=(Below.refl _ Wa).alloc (Nat.le_refl _) _;have hbWb:=hbWa.trans (hbl.mono hbWa.size);have HSWb:(Wa.alloc (.cells #[.string ⟨#[124]⟩,.string ⟨#[38]⟩,.string ⟨#[45]⟩] 9)).cell? ⟨w.heap.size,0,none⟩=some (.int .i64 (k:Nat)):=zar HSWa _;have hL:=zeH Wa hk;refine hK' _ _ (fun _=>HSWb) ?_;clear hK' K;refine zab 9 (some 52) (v:=?v9q230) rfl rfl (by kernel_rfl) (by decide) (by kernel_rfl) (by kernel_rfl) (by kernel_rfl) (fun _ _ _ h=>h) (by rfl) ?y9q230 HSWb ?r9q230;case y9q230=>(intro w hS;(try dsimp only at hS);have q0:=hS;go_simp;try with_reducible rfl)
      simp only [Act.put,List.setIfInBounds_toArray,List.set_cons_zero,List.set_cons_succ];refine zat 10 rfl (by kernel_rfl) fun K hK'=>?_;go_simp;refine hK' _ _ (fun _=>HSWb) ?_;clear hK' K;refine zab 11 (some 54) (v:=?v11q231) rfl rfl (by kernel_rfl) (by decide) (by kernel_rfl) (by kernel_rfl) (by kernel_rfl) (fun _ _ _ h=>h) (by rfl) ?y11q231 HSWb ?r11q231;case y11q231=>(intro w hS;(try dsimp only at hS);have q0:=hS;go_simp;try with_reducible rfl)
      simp only [Act.put,List.setIfInBounds_toArray,List.set_cons_zero,List.set_cons_succ];refine zab 12 (some 55) (v:=?v12q232) rfl rfl (by kernel_rfl) (by decide) (by kernel_rfl) (by kernel_rfl) (by kernel_rfl) (fun _ _ _ h=>h) (by rfl) ?y12q232 HSWb ?r12q232;case y12q232=>(intro w hS;(try dsimp only at hS);have q0:=hS;go_simp;try with_reducible rfl)
      simp only [Act.put,List.setIfInBounds_toArray,List.set_cons_zero,List.set_cons_succ];refine zab 14 (some 57) (v:=?v14q233) rfl rfl (by kernel_rfl) (by decide) (by kernel_rfl) (by kernel_rfl) (by kernel_rfl) (fun _ _ _ h=>h) (by rfl) ?y14q233 HSWb ?r14q233;case y14q233=>(intro w hS;(try dsimp only at hS);have q0:=hS;go_simp;try with_reducible rfl)
      simp only [Act.put,List.setIfInBounds_toArray,List.set_cons_zero,List.set_cons_succ];refine zat 15 rfl (by kernel_rfl) fun K hK'=>?_;go_simp;refine hK' _ _ (fun h=>absurd rfl h) ?_;clear hK' K;refine zbl (by kernel_rfl) ?_ _;go_wp2_with fail
      go_returns
      exact ⟨by rw [zd4 _ _ hk];rfl,hB2.trans (hbWb.mono hB2.size)⟩
    · go_simp;have hbl:Below Wd.heap.size Wd (Wd.alloc (.cells #[.string ⟨#[124]⟩,.string ⟨#[38]⟩,.string ⟨#[45]⟩] 9)):=(Below.refl _ Wd).alloc (Nat.le_refl _) _;have hbWa:=hbWd.trans (hbl.mono hbWd.size);have HSWa:(Wd.alloc (.cells #[.string ⟨#[124]⟩,.string ⟨#[38]⟩,.string ⟨#[45]⟩] 9)).cell? ⟨w.heap.size,0,none⟩=some (.int .i64 (k:Nat)):=zar HS _;have hL:=zeH Wd hk;have hlb:Wd.heap.size<(Wd.alloc (.cells #[.string ⟨#[124]⟩,.string ⟨#[38]⟩,.string ⟨#[45]⟩] 9)).heap.size:=by simp
      refine hK' _ _ (fun _=>HSWa) ?_;clear hK' K;generalize hWa:Wd.alloc (.cells #[.string ⟨#[124]⟩,.string ⟨#[38]⟩,.string ⟨#[45]⟩] 9)=Wa at *
      refine zab 9 (some 52) (v:=?v9q234) rfl rfl (by kernel_rfl) (by decide) (by kernel_rfl) (by kernel_rfl) (by kernel_rfl) (fun _ _ _ h=>h) (by rfl) ?y9q234 HSWa ?r9q234;case y9q234=>(intro w hS;(try dsimp only at hS);have q0:=hS;go_simp;try with_reducible rfl)
      simp only [Act.put,List.setIfInBounds_toArray,List.set_cons_zero,List.set_cons_succ];refine zhZ 3 10 rfl rfl (by kernel_rfl) (fun K hK'=>?_) (fun K hK'=>?_)
      · go_simp;refine (ka Wa ((hr3.below hbWa).more hbWa.size)).mono ?_;rintro e Wb ⟨rfl,hbc⟩;have hbWb:=hbWa.trans (hbc.mono hbWa.size);have HSWb:Wb.cell? ⟨w.heap.size,0,none⟩=some (.int .i64 (k:Nat)):=(hbWb.cell (p:=⟨w.heap.size,0,none⟩) lo).trans o0;have hL2:=(hbc.cell (p:=⟨Wd.heap.size,k-4,none⟩) hlb).trans hL;refine hK' _ _ (fun _=>HSWb) ?_;clear hK' K
        (try simp only [Act.put,List.setIfInBounds_toArray,List.set_cons_zero,List.set_cons_succ])
        refine zab 4 (some 47) (v:=?v4q235) rfl rfl (by kernel_rfl) (by decide) (by kernel_rfl) (by kernel_rfl) (by kernel_rfl) (fun _ _ _ h=>h) (by rfl) ?y4q235 HSWb ?r4q235;case y4q235=>(intro w hS;(try dsimp only at hS);have q0:=hS;go_simp;try with_reducible rfl)
        simp only [Act.put,List.setIfInBounds_toArray,List.set_cons_zero,List.set_cons_succ];refine zat 10 rfl (by kernel_rfl) fun K hK'=>?_;go_simp;refine hK' _ _ (fun _=>HSWb) ?_;clear hK' K;refine zab 11 (some 54) (v:=?v11q236) rfl rfl (by kernel_rfl) (by decide) (by kernel_rfl) (by kernel_rfl) (by kernel_rfl) (fun _ _ _ h=>h) (by rfl) ?y11q236 HSWb ?r11q236;case y11q236=>(intro w hS;(try dsimp only at hS);have q0:=hS;go_simp;try with_reducible rfl)
        simp only [Act.put,List.setIfInBounds_toArray,List.set_cons_zero,List.set_cons_succ];refine zab 12 (some 55) (v:=?v12q237) rfl rfl (by kernel_rfl) (by decide) (by kernel_rfl) (by kernel_rfl) (by kernel_rfl) (fun _ _ _ h=>h) (by rfl) ?y12q237 HSWb ?r12q237;case y12q237=>(intro w hS;(try dsimp only at hS);have q0:=hS;go_simp;try with_reducible rfl)
        simp only [Act.put,List.setIfInBounds_toArray,List.set_cons_zero,List.set_cons_succ];refine zab 14 (some 57) (v:=?v14q238) rfl rfl (by kernel_rfl) (by decide) (by kernel_rfl) (by kernel_rfl) (by kernel_rfl) (fun _ _ _ h=>h) (by rfl) ?y14q238 HSWb ?r14q238;case y14q238=>(intro w hS;(try dsimp only at hS);have q0:=hS;go_simp;try with_reducible rfl)
        simp only [Act.put,List.setIfInBounds_toArray,List.set_cons_zero,List.set_cons_succ];refine zat 15 rfl (by kernel_rfl) fun K hK'=>?_;go_simp;refine hK' _ _ (fun h=>absurd rfl h) ?_;clear hK' K;refine zbl (by kernel_rfl) ?_ _;go_wp2_with fail
        go_returns
        exact ⟨by rw [zd4 _ _ hk];rfl,hB2.trans (hbWb.mono hB2.size)⟩
      · go_simp;refine hK' _ _ (fun _=>HSWa) ?_;clear hK' K
        (try simp only [Act.put,List.setIfInBounds_toArray,List.set_cons_zero,List.set_cons_succ])
        refine zat 3 rfl (by kernel_rfl) fun K hK'=>?_;go_simp;refine (ka Wa ((hr3.below hbWa).more hbWa.size)).mono ?_;rintro e Wb ⟨rfl,hbc⟩;have hbWb:=hbWa.trans (hbc.mono hbWa.size);have HSWb:Wb.cell? ⟨w.heap.size,0,none⟩=some (.int .i64 (k:Nat)):=(hbWb.cell (p:=⟨w.heap.size,0,none⟩) lo).trans o0;refine hK' _ _ (fun _=>HSWb) ?_;clear hK' K
        (try simp only [Act.put,List.setIfInBounds_toArray,List.set_cons_zero,List.set_cons_succ])
        refine zab 4 (some 47) (v:=?v4q239) rfl rfl (by kernel_rfl) (by decide) (by kernel_rfl) (by kernel_rfl) (by kernel_rfl) (fun _ _ _ h=>h) (by rfl) ?y4q239 HSWb ?r4q239;case y4q239=>(intro w hS;(try dsimp only at hS);have q0:=hS;go_simp;try with_reducible rfl)
        simp only [Act.put,List.setIfInBounds_toArray,List.set_cons_zero,List.set_cons_succ];refine zab 11 (some 54) (v:=?v11q240) rfl rfl (by kernel_rfl) (by decide) (by kernel_rfl) (by kernel_rfl) (by kernel_rfl) (fun _ _ _ h=>h) (by rfl) ?y11q240 HSWb ?r11q240;case y11q240=>(intro w hS;(try dsimp only at hS);have q0:=hS;go_simp;try with_reducible rfl)
        simp only [Act.put,List.setIfInBounds_toArray,List.set_cons_zero,List.set_cons_succ];refine zab 12 (some 55) (v:=?v12q241) rfl rfl (by kernel_rfl) (by decide) (by kernel_rfl) (by kernel_rfl) (by kernel_rfl) (fun _ _ _ h=>h) (by rfl) ?y12q241 HSWb ?r12q241;case y12q241=>(intro w hS;(try dsimp only at hS);have q0:=hS;go_simp;try with_reducible rfl)
        simp only [Act.put,List.setIfInBounds_toArray,List.set_cons_zero,List.set_cons_succ];refine zab 14 (some 57) (v:=?v14q242) rfl rfl (by kernel_rfl) (by decide) (by kernel_rfl) (by kernel_rfl) (by kernel_rfl) (fun _ _ _ h=>h) (by rfl) ?y14q242 HSWb ?r14q242;case y14q242=>(intro w hS;(try dsimp only at hS);have q0:=hS;go_simp;try with_reducible rfl)
        simp only [Act.put,List.setIfInBounds_toArray,List.set_cons_zero,List.set_cons_succ];refine zat 15 rfl (by kernel_rfl) fun K hK'=>?_;go_simp;refine hK' _ _ (fun h=>absurd rfl h) ?_;clear hK' K;refine zbl (by kernel_rfl) ?_ _;go_wp2_with fail
        go_returns
        exact ⟨by rw [zd4 _ _ hk];rfl,hB2.trans (hbWb.mono hB2.size)⟩
 | this =>
  intro pre post z w hg hs hL hz hr hn;have hlast:=ze7 _ pre post hz;rw [←hL] at hlast;have hzl:z<L.length:=(List.getElem?_eq_some_iff.1 hlast).1;obtain ⟨bk,f,rfl,hbb,hc⟩:=hr.at_ (by omega);obtain ⟨e0,e1,e2⟩:=ocells_at L z _ hlast;have q0:w.cell? ⟨bk,f + z * 3,none⟩=some (.int .i64 1):=hc _ _ e0;have q1:w.cell? ⟨bk,f + z * 3 + 1,none⟩=some (.string ⟨#[]⟩):=hc _ _ e1;have q2:w.cell? ⟨bk,f + z * 3 + 2,none⟩=some (.string ⟨#[]⟩):=hc _ _ e2;have hzd:((z:Nat):Int)<(L.length:Nat):=by omega
  have ho:=Bk.new w #[.int .i64 1,.string ⟨#[]⟩,.string ⟨#[]⟩] 60;have o0:=ho.cell 0;have o1:=ho.cell 1;have o2:=ho.cell 2;have lo:=ho.lt;have hal:Below w.heap.size w (w.alloc (.cells #[.int .i64 1,.string ⟨#[]⟩,.string ⟨#[]⟩] 60)):=(Below.refl _ w).alloc (Nat.le_refl _) _;clear hlast hL hc hr hz e0 e1 e2 ho;show Calls _ _ _ _ fun e w'=>e = .returned (.string zcJ)∧Below w.heap.size w w';go_enter Tryz.func154,Tryz.ntmps154
  go_wp2_with fail
  go_returns
  exact ⟨rfl,hal⟩
 | same n =>
  intro pre post z w hg hs hL hz hr hn;have hlast:=ze7 _ pre post hz;rw [←hL] at hlast;have hzl:z<L.length:=(List.getElem?_eq_some_iff.1 hlast).1;obtain ⟨bk,f,rfl,hbb,hc⟩:=hr.at_ (by omega);obtain ⟨e0,e1,e2⟩:=ocells_at L z _ hlast;have q0:w.cell? ⟨bk,f + z * 3,none⟩=some (.int .i64 2):=hc _ _ e0;have q1:w.cell? ⟨bk,f + z * 3 + 1,none⟩=some (.string n):=hc _ _ e1;have q2:w.cell? ⟨bk,f + z * 3 + 2,none⟩=some (.string ⟨#[]⟩):=hc _ _ e2;have hzd:((z:Nat):Int)<(L.length:Nat):=by omega
  have ho:=Bk.new w #[.int .i64 2,.string n,.string ⟨#[]⟩] 60;have o0:=ho.cell 0;have o1:=ho.cell 1;have o2:=ho.cell 2;have lo:=ho.lt;have hal:Below w.heap.size w (w.alloc (.cells #[.int .i64 2,.string n,.string ⟨#[]⟩] 60)):=(Below.refl _ w).alloc (Nat.le_refl _) _;clear hlast hL hc hr hz e0 e1 e2 ho;show Calls _ _ _ _ fun e w'=>e = .returned (.string n)∧Below w.heap.size w w';go_enter Tryz.func154,Tryz.ntmps154
  go_wp2_with fail
  go_returns
  exact ⟨rfl,hal⟩
 | via n m =>
  intro pre post z w hg hs hL hz hr hn;have hlast:=ze7 _ pre post hz;rw [←hL] at hlast;have hzl:z<L.length:=(List.getElem?_eq_some_iff.1 hlast).1;obtain ⟨bk,f,rfl,hbb,hc⟩:=hr.at_ (by omega);obtain ⟨e0,e1,e2⟩:=ocells_at L z _ hlast;have q0:w.cell? ⟨bk,f + z * 3,none⟩=some (.int .i64 3):=hc _ _ e0;have q1:w.cell? ⟨bk,f + z * 3 + 1,none⟩=some (.string n):=hc _ _ e1;have q2:w.cell? ⟨bk,f + z * 3 + 2,none⟩=some (.string m):=hc _ _ e2;have hzd:((z:Nat):Int)<(L.length:Nat):=by omega
  have ho:=Bk.new w #[.int .i64 3,.string n,.string m] 60;have o0:=ho.cell 0;have o1:=ho.cell 1;have o2:=ho.cell 2;have lo:=ho.lt;have hal:Below w.heap.size w (w.alloc (.cells #[.int .i64 3,.string n,.string m] 60)):=(Below.refl _ w).alloc (Nat.le_refl _) _;have hn1:n.size≤1000:=hs.1;have hm1:m.size≤1000:=hs.2;clear hlast hL hc hr hz e0 e1 e2 ho;show Calls _ _ _ _ fun e w'=>e = .returned (.string (n ++ ⟨#[46]⟩ ++ m))∧Below w.heap.size w w';go_enter Tryz.func154,Tryz.ntmps154
  go_wp2_with fail
  go_returns
  exact ⟨rfl,hal⟩
theorem ziT {w:World} (t:Ex) (hg:t.good) (hs:t.sml) (hr:Rd w w.heap.size 3 A t.ops.length c (ocells t.ops)) (hn:t.ops.length≤100000) :
 Calls Tryz.prog 109 #[.slice A t.ops.length c] w fun e w'=>e = .returned (.string t.text)∧Below w.heap.size w w':=by
 have hp:=t.ops_pos;obtain ⟨z,hz⟩:∃z,t.ops.length=z + 1:=⟨t.ops.length-1,by omega⟩;have k:=part_any (A:=A) (c:=c) (L:=t.ops) t [] [] z w hg hs (by simp) (by simpa using hz) hr hn;rw [hz] at k ⊢;clear hr;go_enter Tryz.func109,Tryz.ntmps109
 go_wp2_with fail
 refine k.mono ?_;rintro e W ⟨rfl,hW⟩;go_wp2_with fail
 go_returns
 exact ⟨rfl,hW⟩
end
end Go.Proofs.YtahegpfdbgbioaaGreat
namespace Go.Proofs.YtahegpfdbgbioaaGreat
open Go.RowKit
def zce (l:List zcb):ByteArray:=if l.length=0 then ⟨#[]⟩ else ⟨#[32]⟩ ++ ziX l
theorem ziZ (sep:ByteArray) (x:ByteArray):∀l:List ByteArray,zd8 sep (l ++ [x])=zd8 sep l ++ (sep ++ x)
 | []=>by
  show sep ++ x ++ ⟨#[]⟩=⟨#[]⟩ ++ (sep ++ x);rw [zbF,zfJ]
 | y::r=>by
  show sep ++ y ++ zd8 sep (r ++ [x])=sep ++ y ++ zd8 sep r ++ (sep ++ x);rw [ziZ sep x r,zaJ (sep ++ y)]
theorem zlD (l:List zcb) (s:zcb):zce (l ++ [s])=zce l ++ (if l.length=0 then ⟨#[32]⟩ ++ zep s else ⟨#[44]⟩ ++ (⟨#[32]⟩ ++ zep s)):=by
 have h:zce (l ++ [s])=⟨#[32]⟩ ++ ziX (l ++ [s]):=if_neg (by simp);rw [h];cases l with
 | nil =>
  show ⟨#[32]⟩ ++ (zep s ++ ⟨#[]⟩)=⟨#[]⟩ ++ (⟨#[32]⟩ ++ zep s);rw [zbF,zfJ]
 | cons y r =>
  rw [if_neg (by simp)];have h2:zce (y::r)=⟨#[32]⟩ ++ ziX (y::r):=if_neg (by simp);rw [h2];show ⟨#[32]⟩ ++ (zep y ++ zd8 ⟨#[44,32]⟩ ((r ++ [s]).map zep))=⟨#[32]⟩ ++ (zep y ++ zd8 ⟨#[44,32]⟩ (r.map zep)) ++ _;rw [List.map_append,show [s].map zep=[zep s] from rfl,ziZ];have e:(⟨#[44,32]⟩:ByteArray)=⟨#[44]⟩ ++ ⟨#[32]⟩:=by decide +kernel
  rw [e];simp only [zaJ]
def hdR (x:RelP):ByteArray:=(⟨#[9,114,101,108,32]⟩:ByteArray) ++ x.name ++ ⟨#[32,40]⟩ ++ x.view ++ ⟨#[44,32]⟩ ++ x.edit ++ ⟨#[44,32]⟩ ++ x.check ++ ⟨#[41,58]⟩
theorem hdR_eq (x:RelP):hdR x=⟨#[9]⟩ ++ zht x:=by
 have e:(⟨#[9,114,101,108,32]⟩:ByteArray)=⟨#[9]⟩ ++ ⟨#[114,101,108,32]⟩:=by decide +kernel
 unfold hdR zht;rw [e];simp only [zaJ]
theorem lineR (x:RelP):zbn x=(if zcC x.ops=true then hdR x ++ zce x.subs else hdR x ++ zce x.subs ++ (⟨#[32,105,115,32]⟩ ++ zi6 x.ops)) ++ ⟨#[59,10]⟩:=by
 have hw:⟨#[9]⟩ ++ zlO x=hdR x ++ zce x.subs:=by
  rw [hdR_eq];unfold zlO zce;split
  · rw [zbF]
  · rw [zaJ]
 have e:(⟨#[59,10]⟩:ByteArray)=⟨#[59]⟩ ++ ⟨#[10]⟩:=by decide +kernel
 unfold zbn relS;rw [e];split
 · rw [←hw];simp only [zaJ]
 · rw [←hw];simp only [zaJ]
structure TreeR (x:RelP):Prop where
 tree:∃t:Ex,x.ops=t.ops∧t.good∧t.sml
theorem zkV {t:Ex}:zcC t.ops=(!(decide (1<t.ops.length) || decide (1<((t.ops.headD (0,⟨#[]⟩,⟨#[]⟩)).1)))):=by
 cases t with
 | bin k a b =>
  have h:1<(Ex.bin k a b).ops.length:=by
   rw [Ex.ops_bin];have:=a.ops_pos;omega
  have h2:zcC (Ex.bin k a b).ops=false:=by
   generalize (Ex.bin k a b).ops=l at *
   rcases l with _ | ⟨x,_ | ⟨y,r⟩⟩
   · rfl
   · exact absurd h (by simp)
   · rfl
  rw [h2,decide_eq_true h];rfl
 | _=>rfl
theorem rshow_any {w:World} {B:Nat} {A:Option Addr} {c:Nat} {T:List TypP} (hv:NDVTyps B w (.slice A T.length c) T) (hT:T.length≤1000000) (hs:∀t ∈ T,SmlT t) (htr:∀t ∈ T,∀x ∈ t.rels,TreeR x) (hz:(zb8 T).size≤90000000000000) :
 Calls Tryz.prog 59 #[.slice A T.length c] w fun e w'=>e = .returned (.string (zb8 T))∧Below w.heap.size w w':=by
 have HS:=Lib.hid hs;have HTR:=Lib.hid htr;have hvz:∀t i,T[i]? = some t→∃g vr,A=some ⟨g,0,none⟩∧g<w.heap.size∧NDVRels B w vr t.rels∧w.cell? ⟨g,i * 2,none⟩=some (.string t.name)∧w.cell? ⟨g,i * 2 + 1,none⟩=some vr:=by
  intro t i hi;obtain ⟨g,c2,vr,e1,hr,g0,g1⟩:=hv.get hi;cases e1;exact ⟨g,vr,rfl,World.block_lt_of_cell? _ _ g0,hr,g0,g1⟩
 have HV:=Lib.hid hvz;clear hv hvz hs htr;go_enter Tryz.func59,Tryz.ntmps59
 go_wp2_with fail
 go_loopw [3,4] (fun vs vi wr=>∃i:Nat,vi = .int .i64 i∧i≤T.length∧vs = .string (za9 ((T.take i).map zeQ))∧Below w.heap.size w wr) (fun _ vi _=>T.length-(intOf vi).toNat)
 case atStart=>exact ⟨0,rfl,Nat.zero_le _,rfl,Below.refl _ _⟩
 case round =>
  obtain ⟨i,rfl,hi,rfl,hb⟩:=hrel;have hz1:=hb.size;by_cases hil:i<T.length
  · obtain ⟨t,ht⟩:∃t,T[i]? = some t:=⟨T[i],List.getElem?_eq_getElem hil⟩;obtain ⟨hn,hr1,hr2⟩:=HS.out t (List.mem_of_getElem? ht);have htt:=HTR.out t (List.mem_of_getElem? ht);obtain ⟨hc1,hc2⟩:=zj0 zeQ ht;obtain ⟨g,vr,rfl,hg,hr,g0,g1⟩:=HV.out t i ht;obtain ⟨Ar,cr,rfl,_⟩:=Rd.own hr.choose_spec.1;have q0:=(hb.cell (p:=⟨g,i * 2,none⟩) hg).trans g0;have q1:=(hb.cell (p:=⟨g,i * 2 + 1,none⟩) hg).trans g1;have hdi:(i:Int)<(T.length:Nat):=by omega
    have hzt:(zb8 T).size=(za9 (T.map zeQ)).size:=rfl;have HT:Hid (zlH t=(⟨#[116,121,112,101,32]⟩:ByteArray) ++ t.name ++ ⟨#[32,123,10]⟩):=Lib.hid rfl;have htz:(zeQ t).size=(zlH t).size + (za9 (t.rels.map zbn)).size + 2:=by unfold zeQ;rw [size_app,size_app];rfl
    obtain ⟨Q,hQ⟩:∃q,za9 ((T.take i).map zeQ)=q:=⟨_,rfl⟩;rw [hQ] at hc2 ⊢;have hqz:Q.size≤90000000000000:=by omega
    obtain ⟨P,hP⟩:∃p,Q ++ zlH t=p:=⟨_,rfl⟩;have hPz:P.size + (za9 (t.rels.map zbn)).size + 2≤(zb8 T).size:=by
     rw [←hP,size_app];omega
    have HTY:Hid (P ++ za9 (t.rels.map zbn) ++ ⟨#[125,10]⟩=za9 ((T.take (i + 1)).map zeQ)):=Lib.hid (by
     rw [hc1,hQ,←hP];unfold zeQ;simp only [zaJ])
    have HP:=Lib.hid hP;have hP2:=hP;rw [HT.out] at hP2;have HP2:=Lib.hid hP2;clear hP hP2 hQ hc1 hc2 htz;have hgo:(zb8 T).size≤90000000000000:=hz;go_upto_region 6 with (fail)
    rw [HP2.out];clear hqz;go_wp2_with fail
    go_loopw [3,5] (fun vs vk wy=>∃k:Nat,vk = .int .i64 k∧k≤t.rels.length∧vs = .string (P ++ za9 ((t.rels.take k).map zbn))∧Below w.heap.size w wy) (fun _ vk _=>t.rels.length-(intOf vk).toNat)
    case atStart=>exact ⟨0,rfl,Nat.zero_le _,(by rw [show za9 ((t.rels.take 0).map zbn)=⟨#[]⟩ from rfl,zbF]),hb⟩
    case round =>
     clear q0 q1 hb;obtain ⟨k,rfl,hk,rfl,hb⟩:=hrel;have hz2:=hb.size;have q0:=(hb.cell (p:=⟨g,i * 2,none⟩) hg).trans g0;have q1:=(hb.cell (p:=⟨g,i * 2 + 1,none⟩) hg).trans g1;by_cases hkl:k<t.rels.length
     · obtain ⟨x,hx⟩:∃x,t.rels[k]? = some x:=⟨t.rels[k],List.getElem?_eq_getElem hkl⟩;have hsx:=hr2 x (List.mem_of_getElem? hx);obtain ⟨tx,hto,htg,hts⟩:=(htt x (List.mem_of_getElem? hx)).tree;have HTO:=Lib.hid hto;clear hto;obtain ⟨hd1,hd2⟩:=zj0 zbn hx;obtain ⟨gr,c3,vs,vo,e1,hs,ho,r0,r1,r2,r3,r4,r5⟩:=hr.get hx;cases e1;obtain ⟨As,cS,rfl,rs⟩:=Rd.own hs;obtain ⟨Ao,cO,rfl,ro⟩:=Rd.own ho;have hgr:=World.block_lt_of_cell? _ _ r0;dsimp only at hgr;have s0:=(hb.cell (p:=⟨gr,k * 6,none⟩) hgr).trans r0;have s1:=(hb.cell (p:=⟨gr,k * 6 + 1,none⟩) hgr).trans r1;have s2:=(hb.cell (p:=⟨gr,k * 6 + 2,none⟩) hgr).trans r2;have s3:=(hb.cell (p:=⟨gr,k * 6 + 3,none⟩) hgr).trans r3;have s4:=(hb.cell (p:=⟨gr,k * 6 + 4,none⟩) hgr).trans r4;have s5:=(hb.cell (p:=⟨gr,k * 6 + 5,none⟩) hgr).trans r5;have hdk:(k:Int)<(t.rels.length:Nat):=by omega
       have h1:=hsx.name;have h2:=hsx.view;have h3:=hsx.edit;have h4:=hsx.check;have h7:=hsx.subs.1;have hN:=hsx.subs.2;have h8:=hsx.ops.1;have HLN:=Lib.hid (lineR x);obtain ⟨P1,hP1⟩:∃p,P ++ za9 ((t.rels.take k).map zbn)=p:=⟨_,rfl⟩;rw [hP1];have hP1z:P1.size + (zbn x).size≤90000000000000:=by
        rw [←hP1,size_app];omega
       have HNX:Hid (P1 ++ zbn x=P ++ za9 ((t.rels.take (k + 1)).map zbn)):=Lib.hid (by rw [hd1,←hP1,zaJ]);have hal:Below wr.heap.size wr (wr.alloc (.cells #[.string x.name,.string x.view,.string x.edit,.string x.check,.slice As x.subs.length cS,.slice Ao x.ops.length cO] 48)):=(Below.refl _ wr).alloc (Nat.le_refl _) _;have hb2:=hb.trans (hal.mono hz2);have hbx:=Bk.new wr #[.string x.name,.string x.view,.string x.edit,.string x.check,.slice As x.subs.length cS,.slice Ao x.ops.length cO] 48;have z0:=hbx.cell 0;have z1:=hbx.cell 1;have z2:=hbx.cell 2;have z3:=hbx.cell 3;have z4:=hbx.cell 4;have z5:=hbx.cell 5;have lz:=hbx.lt;have hrs:=(rs.below hb2).more hb2.size;have hro:=(ro.below hb2).more hb2.size;have HH:Hid (hdR x=(⟨#[9,114,101,108,32]⟩:ByteArray) ++ x.name ++ ⟨#[32,40]⟩ ++ x.view ++ ⟨#[44,32]⟩ ++ x.edit ++ ⟨#[44,32]⟩ ++ x.check ++ ⟨#[41,58]⟩):=Lib.hid rfl;clear hs ho rs ro r0 r1 r2 r3 r4 r5 hal hbx hP1;have hP1s:P1.size≤90000000000000:=by omega
       go_upto_region 11 with (fail)
       rw [←HH.out];obtain ⟨P2,hP2'⟩:∃p,P1 ++ hdR x=p:=⟨_,rfl⟩;rw [hP2'];generalize wr.alloc (.cells #[.string x.name,.string x.view,.string x.edit,.string x.check,.slice As x.subs.length cS,.slice Ao x.ops.length cO] 48)=W at *
       have hP2z:P2.size≤91000000000000:=by
        rw [←hP2',size_app,hdR_eq,size_app];have:=(zeT hsx).1;show P1.size + (1 + _)≤_;omega
       have HL2:Hid (∀b,zcC x.ops=b→(if b=true then P2 ++ zce x.subs else P2 ++ zce x.subs ++ (⟨#[32,105,115,32]⟩ ++ zi6 x.ops)) ++ ⟨#[59,10]⟩=P1 ++ zbn x):=Lib.hid (by
        intro b hbq;rw [HLN.out,hbq,←hP2'];cases b <;> simp only [Bool.false_eq_true,↓reduceIte,zaJ])
       have hsz9:=zdO hN;have hsz10:=zfN hsx.ops.2;clear s0 s1 s2 s3 s4 s5 z0 z1 z2 z3 hP2' hP1z hP1s q0 q1 hsx;go_wp2_with fail
       go_loopw [3,7] (fun vs vj wz=>∃j:Nat,vj = .int .i64 j∧j≤x.subs.length∧vs = .string (P2 ++ zce (x.subs.take j))∧wz=W) (fun _ vj _=>x.subs.length-(intOf vj).toNat)
       case atStart=>exact ⟨0,rfl,Nat.zero_le _,(by rw [show zce (x.subs.take 0)=⟨#[]⟩ from rfl,zbF]),rfl⟩
       case round =>
        obtain ⟨j,rfl,hj,rfl,rfl⟩:=hrel;by_cases hjl:j<x.subs.length
        · obtain ⟨s,hsj⟩:∃s,x.subs[j]? = some s:=⟨x.subs[j],List.getElem?_eq_getElem hjl⟩;obtain ⟨sz1,sz2⟩:=hN s (List.mem_of_getElem? hsj);obtain ⟨bs,fs,rfl,hbs,hcs⟩:=hrs.at_ (by omega);obtain ⟨e0,e1⟩:=zc0 x.subs j s hsj;have y0:=hcs _ _ e0;have y1:World.cell? _ ⟨bs,fs + j * 2 + 1,none⟩=some (.string s.2):=hcs _ _ e1;have hdj:(j:Int)<(x.subs.length:Nat):=by omega
          have htk:(x.subs.take j).length=j:=by rw [List.length_take];omega
          have hsn:=zlD (x.subs.take j) s;rw [←zd5 hsj,htk] at hsn;have hsub:(zce (x.subs.take j)).size≤1000000000:=by
           unfold zce;split
           · exact Nat.zero_le _
           · rw [size_app];have:=zdO (l:=x.subs.take j) fun y hy=>hN y (List.mem_of_mem_take hy);rw [htk] at this;show 1 + _≤_;omega
          have HZ:Hid (∀b:Bool,decide (j=0)=b→∀c:Bool,s.2.toList.isEmpty=c→P2 ++ zce (x.subs.take (j + 1))=(if b=true then P2 ++ zce (x.subs.take j) else P2 ++ zce (x.subs.take j) ++ ⟨#[44]⟩) ++ (⟨#[32]⟩ ++ s.1) ++ (if c=true then ⟨#[]⟩ else ⟨#[35]⟩ ++ s.2)):=Lib.hid (by
           intro b hb' c hc';have hss:zep s=s.1 ++ (if c=true then ⟨#[]⟩ else ⟨#[35]⟩ ++ s.2):=by
            unfold zep;rw [←hc'];rcases Nat.eq_zero_or_pos s.2.size with h | h
            · rw [if_pos (zeF h),if_pos (by rw [zeF h];decide +kernel),zbF]
            · rw [if_neg (fun e=>by rw [e] at h;exact absurd h (by decide)),if_neg (by rw [zfH h];decide),zaJ]
           rw [hsn,hss];cases b with
           | true=>rw [if_pos (of_decide_eq_true hb'),if_pos rfl];simp only [zaJ]
           | false=>rw [if_neg (of_decide_eq_false hb')];simp only [Bool.false_eq_true,↓reduceIte,zaJ])
          have hZz:(P2 ++ zce (x.subs.take j)).size≤92000000000000:=by rw [size_app];omega
          clear hsn hsub htk hcs;generalize P2 ++ zce (x.subs.take j)=Z at *
          by_cases h0:j=0
          · have d0:¬(0:Int)<(j:Nat):=by omega
            have HJ:=Lib.hid h0;clear h0;cases he:s.2.toList.isEmpty with
            | true =>
             go_wp2_with fail
             refine ⟨⟨j + 1,by go_num,by omega,?_,trivial⟩,?_⟩
             · rw [HZ.out _ (decide_eq_true HJ.out) _ he,if_pos rfl,if_pos rfl,zbF]
             · simp only [intOf];omega
            | false =>
             go_wp2_with fail
             refine ⟨⟨j + 1,by go_num,by omega,?_,trivial⟩,?_⟩
             · rw [HZ.out _ (decide_eq_true HJ.out) _ he,if_pos rfl,if_neg (by decide)]
             · simp only [intOf];omega
          · have d0:(0:Int)<(j:Nat):=by omega
            have HJ:=Lib.hid h0;clear h0;cases he:s.2.toList.isEmpty with
            | true =>
             go_wp2_with fail
             refine ⟨⟨j + 1,by go_num,by omega,?_,trivial⟩,?_⟩
             · rw [HZ.out _ (decide_eq_false HJ.out) _ he,if_neg (by decide),if_pos rfl,zbF]
             · simp only [intOf];omega
            | false =>
             go_wp2_with fail
             refine ⟨⟨j + 1,by go_num,by omega,?_,trivial⟩,?_⟩
             · rw [HZ.out _ (decide_eq_false HJ.out) _ he,if_neg (by decide),if_neg (by decide)]
             · simp only [intOf];omega
        · obtain rfl:j=x.subs.length:=by omega
          have hdj:¬(x.subs.length:Int)<(x.subs.length:Nat):=by omega
          rw [List.take_length];have hsub:(zce x.subs).size≤1000000000:=by
           unfold zce;split
           · exact Nat.zero_le _
           · rw [size_app];show 1 + _≤_;omega
          have hZz:(P2 ++ zce x.subs).size≤92000000000000:=by rw [size_app];omega
          have hat:=zkV (t:=tx);rw [←HTO.out] at hat;have hpos:1≤x.ops.length:=by rw [HTO.out];exact tx.ops_pos
          obtain ⟨o0,ho0⟩:∃o,x.ops[0]? = some o:=⟨x.ops[0],List.getElem?_eq_getElem hpos⟩;have hhd:x.ops.headD (0,⟨#[]⟩,⟨#[]⟩)=o0:=by
           cases hq:x.ops with
           | nil=>rw [hq] at ho0;cases ho0
           | cons a r=>rw [hq] at ho0;injection ho0
          rw [hhd] at hat;obtain ⟨bo,fo,eA,hbo,hco⟩:=hro.at_ (by omega);have w0:World.cell? _ ⟨bo,fo,none⟩=some (.int .i64 (o0.1:Nat)):=hco 0 _ (by have:=(ocells_at x.ops 0 o0 ho0).1;rwa [Nat.zero_mul] at this);have hrt:zi6 x.ops=tx.text:=by rw [HTO.out];exact zng tx htg
          have kr:∀W,Rd W W.heap.size 3 Ao x.ops.length cO (ocells x.ops)→Calls Tryz.prog 109 #[.slice Ao x.ops.length cO] W fun e w'=>e = .returned (.string (zi6 x.ops))∧Below W.heap.size W w':=fun W hW=>by
           rw [hrt,HTO.out];rw [HTO.out] at hW;exact ziT tx htg hts hW (by rw [←HTO.out];exact h8)
          have HQ:Hid (∀b,zcC x.ops=b→(if b=true then P2 ++ zce x.subs else P2 ++ zce x.subs ++ (⟨#[32,105,115,32]⟩ ++ zi6 x.ops)) ++ ⟨#[59,10]⟩=P ++ za9 ((t.rels.take (k + 1)).map zbn)):=Lib.hid fun b hbq=>by rw [HL2.out b hbq,HNX.out]
          subst eA;clear hco hhd ho0 hrt hrs HL2 HNX;generalize P2 ++ zce x.subs=Z at *
          generalize zi6 x.ops=RW at *
          by_cases hn1:1<x.ops.length
          · have d1:(1:Int)<(x.ops.length:Nat):=by omega
            have hal:zcC x.ops=false:=by rw [hat,decide_eq_true hn1];rfl
            have HQ2:=Lib.hid (HQ.out _ hal);simp only [Bool.false_eq_true,↓reduceIte] at HQ2;clear hat hal hn1;go_wp2_with fail
            refine (kr _ hro).mono ?_;rintro e V ⟨rfl,hV⟩;go_wp2_with fail
            refine ⟨⟨k + 1,by go_num,by omega,by rw [HQ2.out],hb2.trans (hV.mono hb2.size)⟩,?_⟩;simp only [intOf];omega
          · have d1:¬(1:Int)<(x.ops.length:Nat):=by omega
            by_cases hk1:1<o0.1
            · have d2:(1:Int)<(o0.1:Nat):=by omega
              have hal:zcC x.ops=false:=by rw [hat,decide_eq_true hk1,Bool.or_true];rfl
              have HQ2:=Lib.hid (HQ.out _ hal);simp only [Bool.false_eq_true,↓reduceIte] at HQ2;clear hat hal hn1 hk1;go_wp2_with fail
              refine (kr _ hro).mono ?_;rintro e V ⟨rfl,hV⟩;go_wp2_with fail
              refine ⟨⟨k + 1,by go_num,by omega,by rw [HQ2.out],hb2.trans (hV.mono hb2.size)⟩,?_⟩;simp only [intOf];omega
            · have d2:¬(1:Int)<(o0.1:Nat):=by omega
              have hal:zcC x.ops=true:=by rw [hat,decide_eq_false hn1,decide_eq_false hk1];rfl
              have HQ2:=Lib.hid (HQ.out _ hal);simp only [↓reduceIte] at HQ2;clear hat hal hn1 hk1;go_wp2_with fail
              refine ⟨⟨k + 1,by go_num,by omega,by rw [HQ2.out],hb2⟩,?_⟩;simp only [intOf];omega
     · obtain rfl:k=t.rels.length:=by omega
       have hdk:¬(t.rels.length:Int)<(t.rels.length:Nat):=by omega
       rw [List.take_length];have hPs:(P ++ za9 (t.rels.map zbn)).size≤90000000000000:=by rw [size_app];omega
       have HTY2:=HTY;generalize P ++ za9 (t.rels.map zbn)=PP at *
       go_wp2_with fail
       refine ⟨⟨i + 1,by go_num,by omega,by rw [HTY2.out],hb⟩,?_⟩;simp only [intOf];omega
  · obtain rfl:i=T.length:=by omega
    have hdi:¬(T.length:Int)<(T.length:Nat):=by omega
    rw [List.take_length,show za9 (T.map zeQ)=zb8 T from rfl];go_wp2_with fail
    go_returns
    exact ⟨rfl,hb⟩
end Go.Proofs.YtahegpfdbgbioaaGreat
namespace Go.Proofs.YtahegpfdbgbioaaGreat
theorem few8 (s:ByteArray):Few 2049 (zah s).1:=by
 by_cases h0:(zbQ s).2.1=0
 · have hz:=zfB h0;obtain ⟨v,e0,eA⟩:=zfC hz h0;refine ziK ?_;rw [eA];have:=zh4 _ s 0 (Nat.le_refl _);omega
 · unfold zah;rw [if_neg h0];exact ⟨Nat.zero_le _,fun t ht=>by cases ht⟩
theorem NmW.size {n:ByteArray} (h:NmW n):n.size≤1000:=Nat.le_trans (zgg h.1) (by decide)
theorem zjB:∀t:Ex,t.nm→t.sml∧∀o ∈ t.ops,o.2.1.size≤1000∧o.2.2.size≤1000
 | .this,_=>⟨trivial,fun o ho=>by rw [List.mem_singleton.1 ho];exact ⟨Nat.zero_le _,Nat.zero_le _⟩⟩
 | .same n,h=>by
  have h2:NmW n:=h;exact ⟨h2.size,fun o ho=>by rw [List.mem_singleton.1 ho];exact ⟨h2.size,Nat.zero_le _⟩⟩
 | .via n m,h=>⟨⟨h.1.size,h.2.size⟩,fun o ho=>by rw [List.mem_singleton.1 ho];exact ⟨h.1.size,h.2.size⟩⟩
 | .bin k a b,h=>by
  obtain ⟨a1,a2⟩:=zjB a h.1;obtain ⟨b1,b2⟩:=zjB b h.2;refine ⟨⟨a1,b1⟩,fun o ho=>?_⟩;rcases List.mem_append.1 ho with ho | ho
  · rcases List.mem_append.1 ho with ho | ho
    · exact a2 o ho
    · exact b2 o ho
  · rw [List.mem_singleton.1 ho];exact ⟨Nat.zero_le _,Nat.zero_le _⟩
theorem sml_rel {x:RelP} (g:RelG x) (f:FewR 2049 x):Sml x∧TreeR x∧(zbn x).size≤10300000:=by
 obtain ⟨t,h1,h2,h3,h4⟩:=g.ops;obtain ⟨s1,s2⟩:=zjB t h3;have hs:Sml x:=⟨g.name.size,g.view.size,g.edit.size,g.check.size,⟨Nat.le_trans f.1 (by decide),fun s hs=>⟨(g.subs s hs).1.size,by
  rcases (g.subs s hs).2 with e | e
  · rw [e];exact Nat.zero_le _
  · exact e.size⟩⟩,⟨Nat.le_trans f.2 (by decide),fun o ho=>by rw [h1] at ho;exact s2 o ho⟩⟩
 refine ⟨hs,⟨t,h1,h2,s1⟩,?_⟩;have w:=(zeT hs).2;have r:=zfN hs.ops.2;have f1:=f.1;have f2:=f.2;have:(relS x).size≤(zlO x).size + 4 + (zi6 x.ops).size + 1:=by
  unfold relS;rw [size_app];split
  · show _ + 1≤_;omega
  · rw [size_app,size_app];show _ + (4 + _) + 1≤_;omega
 unfold zbn;rw [size_app,size_app];show 1 + _ + 1≤_;omega
theorem zhl {α:Type} (f:α→ByteArray) (N:Nat):∀l:List α,(∀x ∈ l,(f x).size≤N)→(za9 (l.map f)).size≤l.length * N
 | [],_=>Nat.zero_le _
 | x::r,h=>by
  have h1:=h x List.mem_cons_self;have h2:=zhl f N r fun y hy=>h y (List.mem_cons_of_mem _ hy);show (f x ++ za9 (r.map f)).size≤_;rw [size_app,List.length_cons,Nat.succ_mul];omega
structure Shw (T:List TypP):Prop where
 len:T.length≤1000000
 few:Few 1000000 T
 sml:∀t ∈ T,SmlT t
 tree:∀t ∈ T,∀x ∈ t.rels,TreeR x
 size:(zb8 T).size≤90000000000000
theorem says_shw (s:ByteArray):Shw (zah s).1:=by
 have hf:=few8 s;have hg:=zda s;generalize (zah s).1=T at *
 have hr:∀t ∈ T,∀x ∈ t.rels,Sml x∧TreeR x∧(zbn x).size≤10300000:=fun t ht x hx=>sml_rel ((hg t ht).rels x hx) ((hf.2 t ht).2 x hx);refine ⟨Nat.le_trans hf.1 (by decide),⟨Nat.le_trans hf.1 (by decide),fun t ht=>⟨Nat.le_trans (hf.2 t ht).1 (by decide),fun x hx=>((hf.2 t ht).2 x hx).up (by decide)⟩⟩,fun t ht=>⟨(hg t ht).name.size,Nat.le_trans (hf.2 t ht).1 (by decide),fun x hx=>(hr t ht x hx).1⟩,fun t ht x hx=>(hr t ht x hx).2.1,?_⟩;have h1:∀t ∈ T,(zeQ t).size≤21200000000:=fun t ht=>by
  have h2:=zhl zbn 10300000 t.rels fun x hx=>(hr t ht x hx).2.2;have h3:=(hf.2 t ht).1;have h4:=(hg t ht).name.size;have h5:t.rels.length * 10300000≤2049 * 10300000:=Nat.mul_le_mul_right _ h3;unfold zeQ zlH;rw [size_app,size_app,size_app,size_app];show 5 + _ + 3 + _ + 2≤_;omega
 have h2:=zhl zeQ 21200000000 T h1;have h3:T.length * 21200000000≤2049 * 21200000000:=Nat.mul_le_mul_right _ hf.1;show (za9 (T.map zeQ)).size≤_;omega
end Go.Proofs.YtahegpfdbgbioaaGreat
