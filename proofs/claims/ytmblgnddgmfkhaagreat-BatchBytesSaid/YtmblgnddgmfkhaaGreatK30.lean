import Derived.Deep.AppendLies
import Derived.Test.YtmblgnddgmfkhaaGreatK29
set_option maxRecDepth 100000
set_option maxHeartbeats 4000000
namespace Go.Proofs.YtmblgnddgmfkhaaGreat
section
open Go.RowKit
section
variable {S:SpW} {f:CoF} {X Y F F':Nat→Prop} {w w':World} {g:Nat} {s:Sto Tb Nd15} {L:List Sp} {last:Int} {m:Mm}
def Rm.val (x:Rm):Value:=.agg #[.int .i64 x.rev,.string x.v.by_.1,.string x.v.by_.2.1,.string x.v.by_.2.2,.bool x.v.schema,.slice x.Ak x.v.wrote.length x.ck,.string x.t.tx,.slice x.t.Ay x.t.ty.length x.t.cy,.map x.t.mb,.slice x.t.Ar x.t.K.length x.t.cr]
theorem set10 {w w0:World} {B b:Nat} {t:TypeId} {z0 z1 z2 z3 z4 z5 z6 z7 z8 z9:Value} (h:Rk w0 b #[z0,z1,z2,z3,z4,z5,z6,z7,z8,z9] t) (hb:Below B w w0) (hB:B≤b) (u0 u1 u2 u3 u4 u5 u6 u7 u8 u9:Value) :
 Rk ((((((((((w0.setCell ⟨b,0,none⟩ u0).setCell ⟨b,1,none⟩ u1).setCell ⟨b,2,none⟩ u2).setCell ⟨b,3,none⟩ u3).setCell ⟨b,4,none⟩ u4).setCell ⟨b,5,none⟩ u5).setCell ⟨b,6,none⟩ u6).setCell ⟨b,7,none⟩ u7).setCell ⟨b,8,none⟩ u8).setCell ⟨b,9,none⟩ u9) b #[u0,u1,u2,u3,u4,u5,u6,u7,u8,u9] t ∧
 Below B w ((((((((((w0.setCell ⟨b,0,none⟩ u0).setCell ⟨b,1,none⟩ u1).setCell ⟨b,2,none⟩ u2).setCell ⟨b,3,none⟩ u3).setCell ⟨b,4,none⟩ u4).setCell ⟨b,5,none⟩ u5).setCell ⟨b,6,none⟩ u6).setCell ⟨b,7,none⟩ u7).setCell ⟨b,8,none⟩ u8).setCell ⟨b,9,none⟩ u9) :=
 ⟨by
  have f:=(((((((((h.set 0 u0).set 1 u1).set 2 u2).set 3 u3).set 4 u4).set 5 u5).set 6 u6).set 7 u7).set 8 u8).set 9 u9;simp only [yaG,yaV,yaW] at f;exact f,(((((((((hb.setCell hB _).setCell hB _).setCell hB _).setCell hB _).setCell hB _).setCell hB _).setCell hB _).setCell hB _).setCell hB _).setCell hB _⟩
theorem behind15_any (K:SpK S) (h:StM S f X w F g s L last m) {r:Int} {i:Nat} {x:Rm} (hr:r=s.floor + 1 + i) (hx:m.l[i]? = some x) :
 Calls Tryz.prog 61 #[.pointer (some ⟨g,0,none⟩),.int .i64 r] w fun e w'=>e = .returned x.val∧Below w.heap.size w w':=by
 have j:=Rk.new w #[.int .i64 0,.string ⟨#[]⟩,.string ⟨#[]⟩,.string ⟨#[]⟩,.bool false,.slice none 0 0,.string ⟨#[]⟩,.slice none 0 0,.map none,.slice none 0 0] 100;have hb:=zaI w (.cells #[.int .i64 0,.string ⟨#[]⟩,.string ⟨#[]⟩,.string ⟨#[]⟩,.bool false,.slice none 0 0,.string ⟨#[]⟩,.slice none 0 0,.map none,.slice none 0 0] 100);have y:=h.up K hb;have hl:=zgB hx;have D:=h.most;have z:=h.rev_eq;have A:=h.floor0;have E:=h.box.lt;go_enter Tryz.func61,Tryz.ntmps61
 go_upto_region 1 with (fail)
 generalize w.alloc (.cells #[.int .i64 0,.string ⟨#[]⟩,.string ⟨#[]⟩,.string ⟨#[]⟩,.bool false,.slice none 0 0,.string ⟨#[]⟩,.slice none 0 0,.map none,.slice none 0 0] 100)=w1 at *
 obtain ⟨G,H,I,J,M,N,O,B⟩:=y.cs;have lt:=y.box.lt;obtain ⟨b,o,P,Q,k⟩:=y.get hx;rw [P] at B;have C:=k 0 _ rfl;have R:=k 1 _ rfl;have T:=k 2 _ rfl;have U:=k 3 _ rfl;have V:=k 4 _ rfl;have Y:=k 5 _ rfl;have Z:=k 6 _ rfl;have q7:=k 7 _ rfl;have q8:=k 8 _ rfl;have q9:=k 9 _ rfl;rw [ybH] at C;have e1:IntKind.i64.wrap (r-s.floor)=(i:Int) + 1:=by rw [show r-s.floor=(i:Int) + 1 by omega];exact IntWalk.i64_in _ ⟨by omega,by omega⟩
 have e2:IntKind.i64.wrap ((i:Int) + 1-1)=(i:Int):=by rw [show (i:Int) + 1-1=(i:Int) by omega];exact IntWalk.i64_in _ ⟨by omega,by omega⟩
 have e3:r-s.floor=(i:Int) + 1:=by omega
 have e4:(i:Int) + 1-1=(i:Int):=by omega
 have e5:(0:Int)≤(i:Int):=by omega
 have e6:(i:Int)<(m.l.length:Int):=by omega
 have e7:IntKind.i64.wrap ((i:Int) + 1)=(i:Int) + 1:=IntWalk.i64_in _ ⟨by omega,by omega⟩;have e8:IntKind.i64.wrap (i:Int)=(i:Int):=IntWalk.i64_in _ ⟨by omega,by omega⟩;have zl:=j.lt;have zf:=j.fz;have z0:=j.cell 0;have z1:=j.cell 1;have z2:=j.cell 2;have z3:=j.cell 3;have z4:=j.cell 4;have z5:=j.cell 5;have z6:=j.cell 6;have z7:=j.cell 7;have z8:=j.cell 8;have z9:=j.cell 9;clear h y k D z A hr;generalize m.l.length=n at *
 go_region
 clear z0 z1 z2 z3 z4 z5 z6 z7 z8 z9 C R T U V Y Z q7 q8 q9 G H I J M N O B zf zl e1 e2 e3 e4 e7 e8;obtain ⟨u,q⟩:=set10 j hb (yaj _) (.int .i64 x.rev) (.string x.v.by_.1) (.string x.v.by_.2.1) (.string x.v.by_.2.2) (.bool x.v.schema) (.slice x.Ak x.v.wrote.length x.ck) (.string x.t.tx) (.slice x.t.Ay x.t.ty.length x.t.cy) (.map x.t.mb) (.slice x.t.Ar x.t.K.length x.t.cr);generalize World.setCell _ ⟨w.heap.size,9,none⟩ _=W at *
 go_wp2_with fail
 refine bodyPost_ret (v:=x.val) ?_ rfl ⟨rfl,q.os,q.tape,q.output,q.size,q.block⟩;have p0:=u.cell 0;have p1:=u.cell 1;have p2:=u.cell 2;have p3:=u.cell 3;have p4:=u.cell 4;have p5:=u.cell 5;have p6:=u.cell 6;have p7:=u.cell 7;have p8:=u.cell 8;have p9:=u.cell 9;simp [results,Tryz.results61,go_sem,Rm.val,p0,p1,p2,p3,p4,p5,p6,p7,p8,p9]
theorem rev_f1 (x:Rm) (W:World):(Instr.field 100 x.val 1).run Tryz.prog W = .ok (.agg #[.string x.t.tx,.slice x.t.Ay x.t.ty.length x.t.cy,.map x.t.mb,.slice x.t.Ar x.t.K.length x.t.cr]) W:=by unfold Rm.val;kernel_rfl
theorem rev_f0 (x:Rm) (W:World):(Instr.field 100 x.val 0).run Tryz.prog W = .ok (.agg #[.int .i64 x.rev,.string x.v.by_.1,.string x.v.by_.2.1,.string x.v.by_.2.2,.bool x.v.schema,.slice x.Ak x.v.wrote.length x.ck]) W:=by unfold Rm.val;kernel_rfl
theorem schema15_any (K:SpK S) (h:StM S f X w F g s L last m) (r:Int) :
 Calls Tryz.prog 26 #[.pointer (some ⟨g,0,none⟩),.int .i64 r] w fun e w'=>(∃t:Tm,e = .returned t.val∧t.ok X w'∧t.tx=(atB s r).text∧t.tb=(atB s r).T)∧Below w.heap.size w w':=by
 have k:=Bk.new w #[.string ⟨#[]⟩,.slice none 0 0,.map none,.slice none 0 0] 61;have hb:=zaI w (.cells #[.string ⟨#[]⟩,.slice none 0 0,.map none,.slice none 0 0] 61);have n:=h.up K hb;have y:=zft n r;go_enter Tryz.func26,Tryz.ntmps26
 go_upto_region 2 with (fail)
 generalize w.alloc (.cells #[.string ⟨#[]⟩,.slice none 0 0,.map none,.slice none 0 0] 61)=w1 at *
 have M:=k.lt;have lt:=n.box.lt;cases hk:zaw s r with
 | false =>
  rw [hk] at y;have o:=Lib.hid (zbK hk);go_upto_region 3 with (go_at_call 30;refine y.mono ?_;rintro e Q ⟨rfl,b⟩)
  replace k:=k.below b;replace hb:=zac hb hb.size b;obtain ⟨z0,R,U,z3⟩:=k.c4;have V:=k.fz;have M:=k.lt;clear b n y;go_wp2_with fail
  obtain ⟨D,j⟩:=set4 k hb (yaj _) (.string ⟨#[]⟩) (.slice none 0 0) (.map none) (.slice none 0 0);obtain ⟨z,A,B,C⟩:=D.c4;refine bodyPost_ret (v:=noTm.val) (by simp [results,Tryz.results26,go_sem,z,A,B,C,Tm.val,noTm];try rfl) rfl ?_;exact ⟨⟨noTm,rfl,zq7 _ _,by rw [o.out];rfl,by rw [o.out];rfl⟩,j⟩
 | true =>
  rw [hk] at y;obtain ⟨Y,N⟩:=zay.1 hk;go_upto_region 4 with (go_at_call 30;refine y.mono ?_;rintro e Q ⟨rfl,b⟩)
  replace k:=k.below b;replace hb:=zac hb hb.size b;replace n:=n.up K b;obtain ⟨z0,R,U,z3⟩:=k.c4;have V:=k.fz;have M:=k.lt;obtain ⟨c0,c1,c2,c3,c4,c5,c6,c7⟩:=n.cs;have lt:=n.box.lt;have Z:g≠w.heap.size:=fun q=>by have:=h.box.lt;omega
  clear b y;by_cases E:r=s.floor
  · have o:=n.atFloor;rw [←E] at o;replace o:=Lib.hid o;have he:(r == s.floor)=true:=by simpa using E
    clear hk E;go_wp2_with fail
    obtain ⟨D,j⟩:=set4 k hb (yaj _) (.string m.t.tx) (.slice m.t.Ay m.t.ty.length m.t.cy) (.map m.t.mb) (.slice m.t.Ar m.t.K.length m.t.cr);obtain ⟨z,A,B,C⟩:=D.c4;refine bodyPost_ret (v:=m.t.val) (by simp [results,Tryz.results26,go_sem,z,A,B,C,Tm.val];try rfl) rfl ?_;exact ⟨⟨m.t,rfl,h.first.step (Stay.below j) fun _ q=>.inl q,o.out.1.symm,o.out.2.symm⟩,j⟩
  · obtain ⟨i,x,O,H,P,_⟩:=n.place (r:=r) yab N;have kb:=behind15_any K n O H;have I:=n.each x (yaq H);have o:Hid ((atB s r).text=x.t.tx∧(atB s r).T=x.t.tb):=Lib.hid (by rw [←P];exact ⟨I.text,I.T⟩);have a1:(r == s.floor)=false:=by simpa using E
    have a2:=rev_f1 x;clear hk O P Y N I E;go_upto_region 1 with (fail)
    go_wp2_with (go_at_call 61;refine kb.mono ?_;rintro e w3 ⟨rfl,G⟩;have u:=k.below G;have J:=zac hb hb.size G;obtain ⟨z,A,B,C⟩:=u.c4;have yf:=u.fz;have yl:=u.lt)
    obtain ⟨D,j⟩:=set4 u J (yaj _) (.string x.t.tx) (.slice x.t.Ay x.t.ty.length x.t.cy) (.map x.t.mb) (.slice x.t.Ar x.t.K.length x.t.cr);obtain ⟨z,A,B,C⟩:=D.c4;refine bodyPost_ret (v:=x.t.val) (by simp [results,Tryz.results26,go_sem,z,A,B,C,Tm.val];try rfl) rfl ?_;exact ⟨⟨x.t,rfl,(h.each x (yaq H)).tab.step (Stay.below j) fun _ q=>.inl q,o.out.1.symm,o.out.2.symm⟩,j⟩
theorem za1 (w:World):Below w.heap.size w w.drew:=⟨rfl,rfl,rfl,yaj _,fun _ _=>rfl⟩
theorem live15_any (K:SpK S) (h:StM S f X w F g s L last m):Calls Tryz.prog 19 #[.pointer (some ⟨g,0,none⟩)] w fun e w'=>e = .returned (.int .i64 (zah s).keys.length)∧Below w.heap.size w w':=by
 have q:=h.up K (za1 w);have B:=zc6 q.toStR;have k:s.floor≤revB s:=by have:=h.rev_eq;omega
 have u:=(h.spb.keys h.ok k (ybf _)).2;rw [zbA h.ok.has] at u;have A:=fun W (hb:Below w.drew.heap.size w.drew W)=>K.count (revB s) (q.up K hb).sp h.spb.fine (by have:=h.len;omega);rw [u] at A;have j:=fun W (hb:Below w.drew.heap.size w.drew W)=>(q.up K hb).cs.1;have E:=h.cs.1;have lt:=h.box.lt;clear u k;generalize revB s=z at *
 generalize (zah s).keys.length=n at *
 go_enter Tryz.func19,Tryz.ntmps19
 go_upto_region 3 with (fail)
 go_region_held3 (fun W=>W.cell? ⟨g,0,none⟩=some (.pointer (some ⟨m.gs,0,none⟩)))
  (first | exact x | exact y | go_keep | fail)
  ((first
   | (with_reducible refine B.mono ?_;rintro G C ⟨rfl,b⟩;have x:=j C b)
   | (with_reducible refine (A _ b).mono ?_;rintro H D ⟨rfl,o⟩;have y:=j D (zac b b.size o))
   | fail))
 go_wp2_with fail
 go_ret
 exact ⟨rfl,zac (za1 w) (yaj _) (zac b b.size o)⟩
theorem zf4 (u:TuP):∀x ∈ zav u,x.size≤(za4 u).size:=by
 intro x b;have:za4 u=u.1.1 ++ zcB 0 ++ (u.1.2.1 ++ zcB 0 ++ (u.1.2.2 ++ zcB 0 ++ (u.2.1 ++ zcB 0 ++ (u.2.2.1 ++ zcB 0 ++ u.2.2.2)))):=rfl;rw [this];simp only [size_app];simp only [zav,yaw,ya1,ybA] at b;rcases b with rfl | rfl | rfl | rfl | rfl | rfl <;> omega
theorem zht (u:TuP) (h:(za4 u).size≤100000) (w:World):Calls Tryz.prog 63 #[zgF u] w fun e w'=>e = .returned (.string (za4 u))∧Below w.heap.size w w':=by
 have k:=fun x b=>yay (zf4 u x b) h;exact key_any12 u.1.1 u.1.2.1 u.1.2.2 u.2.1 u.2.2.1 u.2.2.2 (k _ (by simp [zav])) (k _ (by simp [zav])) (k _ (by simp [zav])) (k _ (by simp [zav])) (k _ (by simp [zav])) (k _ (by simp [zav]))
theorem shas15_any (K:SpK S) (h:StM S f X w F g s L last m) (r:Int) (u:TuP) (hu:(za4 u).size≤100000) :
 Calls Tryz.prog 28 #[.pointer (some ⟨g,0,none⟩),.int .i64 r,zgF u] w fun e w'=>e = .returned (.bool (hasK (atB s r).keys (za4 u)))∧Below w.heap.size w w':=by
 unfold zgF;have M:=Bk.new w #[.string u.1.1,.string u.1.2.1,.string u.1.2.2,.string u.2.1,.string u.2.2.1,.string u.2.2.2] 51;have hb:=zaI w (.cells #[.string u.1.1,.string u.1.2.1,.string u.1.2.2,.string u.2.1,.string u.2.2.1,.string u.2.2.2] 51);have N:=h.spb.has (r:=r) (za4 u);have z:=h.up K hb;rw [←N];clear N;obtain ⟨k,y⟩:∃k,Hid ((zaw s r && zdw L (za4 u) r)=k):=⟨_,Lib.hid rfl⟩;rw [y.out];go_enter Tryz.func28,Tryz.ntmps28
 go_upto_region 1 with (fail)
 generalize w.alloc (.cells #[.string u.1.1,.string u.1.2.1,.string u.1.2.2,.string u.2.1,.string u.2.2.1,.string u.2.2.2] 51)=n at *
 have A:=z.up K (za1 n);have B:=zft A r;have C:=M.below (za1 n);have O:=zac hb hb.size (za1 n);have D:=fun W=>zht u hu W;have P:=fun W (hb:Below n.drew.heap.size n.drew W)=>K.has (za4 u) r (A.up K hb).sp h.spb.fine (by have:=h.len;omega) yad;unfold zgF at D;have b:=fun W (hb:Below n.drew.heap.size n.drew W)=>(⟨(A.up K hb).cs.1,(C.below hb).c6⟩:_∧_);obtain ⟨V,Y,Z,x2,x3,x4,x5⟩:=b n.drew (Below.refl _ _);have lt:=z.box.lt;have xl:=M.lt;cases hk:zaw s r with
 | false =>
  obtain rfl:k=false:=by rw [←y.out,hk,yb6]
  have Q:=fun q=>zf3 (z.drewN K q) r;rw [hk] at Q;clear B D P;go_quiet ((go_at_call 30;exact Calls.quiet_of (Q _)))
  go_wp2_with fail
  go_ret
  exact ⟨rfl,zac hb hb.size (zam n _ _)⟩
 | true =>
  rw [hk] at B;obtain rfl:k=zdw L (za4 u) r:=by rw [←y.out,hk,ycl]
  clear y;go_region_held3 (fun W=>W.cell? ⟨g,0,none⟩=some (.pointer (some ⟨m.gs,0,none⟩))∧W.cell? ⟨w.heap.size,0,none⟩=some (.string u.1.1)∧W.cell? ⟨w.heap.size,1,none⟩=some (.string u.1.2.1)∧W.cell? ⟨w.heap.size,2,none⟩=some (.string u.1.2.2)∧W.cell? ⟨w.heap.size,3,none⟩=some (.string u.2.1)∧W.cell? ⟨w.heap.size,4,none⟩=some (.string u.2.2.1)∧W.cell? ⟨w.heap.size,5,none⟩=some (.string u.2.2.2))
   (first | exact E | exact H | exact J | go_keep | fail)
   ((first
    | (with_reducible refine B.mono ?_;rintro e1 R ⟨rfl,x⟩;have E:=b R x)
    | (with_reducible refine (D _).mono ?_;rintro e2 T ⟨rfl,G⟩;have j:=zac x x.size G;have H:=b T j)
    | (with_reducible refine (P _ j).mono ?_;rintro e3 U ⟨rfl,I⟩;have o:=zac j j.size I;have J:=b U o)
    | fail))
  go_wp2_with fail
  go_ret
  exact ⟨rfl,zac O O.size o⟩
end
end
section
variable {L:List Sp} {last:Int} {k:ByteArray} {x:Sp}
abbrev Iv:=Int × Int
def ofK (L:List Sp) (k:ByteArray):List Iv:=(L.filter fun x=>decide (x.1=k)).map (·.2)
theorem zea (L M:List Sp) (k:ByteArray):ofK (L ++ M) k=ofK L k ++ ofK M k:=by unfold ofK;rw [ybv,yaM]
theorem zmr (x:Sp) (k:ByteArray):ofK [x] k=if x.1=k then [x.2] else []:=by
 unfold ofK;by_cases h:x.1=k
 · rw [yan h,ybE,yan (by simpa using h)];rfl
 · rw [yak h,ybE,yak (by simpa using h)];rfl
theorem zc1 (x:Sp) (L:List Sp) (k:ByteArray):ofK (x::L) k=(if x.1=k then [x.2] else []) ++ ofK L k:=by rw [←zmr,←zea];rfl
theorem zhD {y:Iv}:y ∈ ofK L k↔(k,y) ∈ L:=by
 unfold ofK;rw [yaH];constructor
 · rintro ⟨x,f,rfl⟩;obtain ⟨g,b⟩:=ya4.1 f;rw [yaP] at b;rw [←b];exact g
 · intro h;exact ⟨(k,y),ya4.2 ⟨h,by simp⟩,rfl⟩
theorem zhH (L:List Sp) (k:ByteArray):(ofK L k).length≤L.length:=by
 unfold ofK;rw [yax];exact yba _ _
theorem zgP:ofK L k=[]↔∀x ∈ L,x.1≠k:=by
 rw [ycD];constructor
 · rintro h ⟨g,y⟩ b rfl;exact h y (zhD.2 b)
 · intro h y f;exact h _ (zhD.1 f) rfl
theorem zi9 (L:List Sp) (p:Sp→Bool) (k:ByteArray):ofK (L.filter p) k=(ofK L k).filter fun y=>p (k,y):=by
 induction L with
 | nil=>rfl
 | cons x L ih =>
  rw [ybE,zc1,ybv,←ih];by_cases h:x.1=k
  · subst h;rw [yan rfl];cases q:p x with
    | true=>rw [yan rfl,zc1,yan rfl,ybE,yan q];rfl
    | false=>rw [yak yac,ybE,yak (by rw [q];decide)];rfl
  · rw [yak h];cases q:p x with
    | true=>rw [yan rfl,zc1,yak h];rfl
    | false=>rw [yak (by decide)];rfl
def withK (L:List Sp) (k:ByteArray):List Sp:=(ofK L k).map fun y=>(k,y)
theorem zfP (L:List Sp) (k:ByteArray):withK L k=L.filter fun x=>decide (x.1=k):=by
 unfold withK ofK;rw [ybp];conv=>rhs;rw [←ycF (L.filter _)]
 refine ybC fun x b=>?_;have:=(ya4.1 b).2;rw [yaP] at this;show (k,x.2)=x;rw [←this]
theorem zgv {c:ByteArray} (h:k≠c):withK (L.filter fun x=>!decide (x.1=c)) k=withK L k:=by
 rw [zfP,zfP,List.filter_filter];refine List.filter_congr fun x _=>?_;by_cases e:x.1=k
 · rw [yaB e,ycl,e,yaF h];rfl
 · rw [yaF e];rfl
theorem zlz:∀{ks:List ByteArray} {L:List Sp},ks.Nodup→(∀x ∈ L,x.1 ∈ ks)→(ks.flatMap (withK L)).Perm L
 | [],L,_,h=>by
  have:L=[]:=ycD.2 fun x f=>by cases h x f
  subst this;exact ycs _
 | k::ks,L,g,h=>by
  obtain ⟨j,m⟩:=ybS.1 g;rw [yaS];have e:ks.flatMap (withK L)=ks.flatMap (withK (L.filter fun x=>!decide (x.1=k))):=by
   rw [ybU,ybU];congr 1
   refine ybC fun c n=>(zgv fun e=>j (by rw [←e];exact n)).symm
  rw [e];have o:=zlz (L:=L.filter fun x=>!decide (x.1=k)) m fun x f=>by
   obtain ⟨a,b⟩:=ya4.1 f;rcases yaw.1 (h x a) with q | q
   · rw [yaB q] at b;cases b
   · exact q
  refine (o.append_left _).trans ?_;rw [zfP];exact List.filter_append_perm _ L
theorem zrf (L:List Sp) (k c:ByteArray):ofK (withK L k) c=if k=c then ofK L c else []:=by
 by_cases h:k=c
 · subst h;rw [yan rfl,zfP];unfold ofK;rw [List.filter_filter];congr 1
   exact List.filter_congr fun x _=>by rw [Bool.and_self]
 · rw [yak h,zgP];intro x b e;unfold withK at b;obtain ⟨y,_,rfl⟩:=yaH.1 b;exact h e
theorem ofK_told:∀{ks:List ByteArray} {L:List Sp},ks.Nodup→(∀x ∈ L,x.1 ∈ ks)→∀c,ofK (ks.flatMap (withK L)) c=ofK L c:=by
 intro ks L f h c;have key:∀ks:List ByteArray,ks.Nodup→(c ∈ ks→ofK (ks.flatMap (withK L)) c=ofK L c)∧(c ∉ ks→ofK (ks.flatMap (withK L)) c=[]):=by
  intro ks;induction ks with
  | nil=>intro _;exact ⟨fun h=>(by cases h),fun _=>rfl⟩
  | cons k ks ih =>
   intro f;obtain ⟨j,m⟩:=ybS.1 f;obtain ⟨g,b⟩:=ih m;rw [yaS,zea,zrf];by_cases e:k=c
   · subst e;rw [yan rfl,b j,yaK];exact ⟨fun _=>rfl,fun z=>absurd yar z⟩
   · rw [yak e,ya6];refine ⟨fun z=>?_,fun z=>b fun q=>z (yau _ q)⟩;rcases yaw.1 z with z | z
     · exact absurd z.symm e
     · exact g z
 obtain ⟨g,b⟩:=key ks f;rcases Classical.em (c ∈ ks) with q | q
 · exact g q
 · rw [b q];exact ((zgP (k:=c)).2 fun x n e=>q (by rw [←e];exact h x n)).symm
theorem zlU {M:List Sp} (h:L.Perm M) (r:Int):zcZ L r=zcZ M r:=(h.filter _).length_eq
def zkD (x:Sp) (a b:Int):List Ev:=(if a<x.2.1∧x.2.1≤b then [(x.2.1,x.1,true)] else []) ++ (if x.2.2≠0∧a<x.2.2∧x.2.2≤b then [(x.2.2,x.1,false)] else [])
theorem evsP_eq (h:FineS L last) (hx:x ∈ L) (a b:Int):zkD x a b=evsOf x a b:=by
 have:=h.at_ x hx;unfold zkD evsOf;congr 1
 refine ite_congr (propext ?_) (fun _=>rfl) (fun _=>rfl);omega
theorem zkC {ys:List Sp} {a b:Int} (h:FineS L last) (hp:ys.Perm L) {zs:List Ev} (hz:zs.Perm (ys.flatMap fun x=>zkD x a b)) (hr:zfT zs):zs=eventsP L a b:=by
 refine ze9 hr (zdZ L a b) (hz.trans (List.Perm.trans ?_ (zdY L a b).symm));refine (hp.flatMap_right _).trans ?_;rw [ybU,ybU,ybC fun x f=>evsP_eq h f a b]
theorem zr7 {ys:List Sp} (r:Int) (hp:ys.Perm L):(ys.filter (keptB r)).length=(zfc L r).length:=(hp.filter _).length_eq
def zjS (l:List Iv):Bool:=match l.getLast? with
 | some x=>decide (x.2=0)
 | none=>false
theorem zex (l:List Iv) (x:Iv):zjS (l ++ [x])=decide (x.2=0):=by
 unfold zjS;rw [List.getLast?_concat]
theorem zk9 (hf:FineS L last) {i:Nat} (hi:L[i]? = some x) (h0:x.2.2=0):ofK L x.1=ofK (L.take i) x.1 ++ [x.2]∧∀y,ofK (L.set i (x.1,y)) x.1=ofK (L.take i) x.1 ++ [y]:=by
 obtain ⟨j,g⟩:=yap.1 hi;have k:L=L.take i ++ x::L.drop (i + 1):=by rw [←g,←ya8 j,ybk]
 have f:∀z,L.set i z=L.take i ++ z::L.drop (i + 1):=fun z=>by rw [ycr,yan j]
 have b:=hf.two;rw [k] at b;have m:ofK (L.drop (i + 1)) x.1=[]:=zgP.2 fun y n e=>by
  have:=(yaQ.1 (yca.1 b).2.1).1 y n e.symm;exact this.1 h0
 constructor
 · conv=>lhs;rw [k]
   rw [zea,zc1,yan rfl,m,yaK]
 · intro y;rw [f,zea,zc1,yan rfl,m,yaK]
theorem zrO {i:Nat} (hi:L[i]? = some x) (h:x.1≠k) (y:Iv):ofK (L.set i (x.1,y)) k=ofK L k:=by
 obtain ⟨f,b⟩:=yap.1 hi;have g:L=L.take i ++ x::L.drop (i + 1):=by rw [←b,←ya8 f,ybk]
 rw [ycr,yan f];conv=>rhs;rw [g]
 rw [zea,zea,zc1,zc1,yak h,yak h]
theorem zk8 (hf:FineS L last) (k:ByteArray):zjS (ofK L k)=decide (0≤zdB L k):=by
 by_cases h:zdB L k<0
 · rw [yaF (by omega)];have f:=zgQ h;unfold zjS;cases e:(ofK L k).getLast? with
   | none=>rfl
   | some y =>
    have g:=zhD.1 (List.mem_of_getLast? e);exact yaF (f _ g rfl)
 · rw [yaB (by omega)];obtain ⟨i,x,_,hi,rfl,b⟩:=zfD h;rw [(zk9 hf hi b).1,zex,yaB b]
theorem putP_row (hf:FineS L last) (k:ByteArray) (r:Int):zgS L last k r=if r<1∨r<last∨zjS (ofK L k)=true then none else some (L ++ [(k,r,0)]):=by
 unfold zgS;refine ite_congr (propext ?_) (fun _=>rfl) (fun _=>rfl);rw [zk8 hf,yaP]
theorem ofK_put (L:List Sp) (k c:ByteArray) (r:Int):ofK (L ++ [(k,r,0)]) c=if k=c then ofK L c ++ [(r,0)] else ofK L c:=by
 rw [zea,zmr];by_cases h:k=c
 · rw [yan h,yan h]
 · rw [yak h,yak h,yaK]
inductive DropIs (L:List Sp) (last:Int) (k:ByteArray) (r:Int):Prop
 | no (h:zcc L last k r=none) (hr:r<last∨zjS (ofK L k)=false)
 | late (l:List Iv) (f:Int) (h:zcc L last k r=none) (hl:¬r<last) (hk:ofK L k=l ++ [(f,0)]) (hr:r≤f)
 | yes (l:List Iv) (f:Int) (L':List Sp) (h:zcc L last k r=some L') (hl:¬r<last) (hk:ofK L k=l ++ [(f,0)]) (hr:¬r≤f) (hk':ofK L' k=l ++ [(f,r)]) (ho:∀c,k≠c→ofK L' c=ofK L c) (hn:L'.length=L.length) (hm:∀x ∈ L',x.1=k∨x ∈ L)
theorem drop_is (hf:FineS L last) (k:ByteArray) (r:Int):DropIs L last k r:=by
 by_cases g:r<last
 · exact .no (by unfold zcc;rw [yan (Or.inl g)]) (Or.inl g)
 · by_cases n:zdB L k<0
   · exact .no (by unfold zcc;rw [yan (Or.inr (Or.inl n))]) (Or.inr (by rw [zk8 hf,yaF (by omega)]))
   · obtain ⟨i,x,f,b,rfl,o⟩:=zfD n;obtain ⟨m,q⟩:=zk9 hf b o;have s:x.2=(x.2.1,0):=ycb rfl o;rw [s] at m;by_cases j:r≤x.2.1
     · refine .late _ x.2.1 ?_ g m j;unfold zcc;rw [yan (Or.inr (Or.inr ?_))];rw [f,show ((i:Int)).toNat=i from rfl,b];exact j
     · refine .yes _ x.2.1 (L.set i (x.1,x.2.1,r)) ?_ g m j (q _) (fun c u=>zrO b u _) yaf fun y A=>?_
       · unfold zcc;rw [yak]
         · rw [f,show ((i:Int)).toNat=i from rfl];unfold endAt;rw [b]
         · rw [f,show ((i:Int)).toNat=i from rfl,b];rintro (z | z | z)
           · exact g z
           · omega
           · exact j z
       · rcases yco A with h | h
         · exact Or.inr h
         · exact Or.inl (by rw [h])
theorem hasP_row (L:List Sp) (k:ByteArray) (r:Int):zdw L k r=(ofK L k).any fun y=>zbs (k,y) r:=by
 unfold zdw;induction L with
 | nil=>rfl
 | cons x L ih =>
  rw [ycM,zc1,List.any_append,ih];congr 1
  by_cases h:x.1=k
  · subst h;rw [yan rfl,yaB rfl,Bool.and_true,ycM,List.any_nil,Bool.or_false]
  · rw [yak h,yaF h,ycS];rfl
end
section
open Go.RowKit
variable {k:ByteArray} {w1:World}
section
variable {w w':World} {b:Nat} {cs:Array Value} {t:TypeId}
theorem Rk.apart {e:TypeId} {base size n:Nat} {v:Value} {xs:List Value} (h:Rk w b cs t) (hu:w.ownsRow base e size v n xs) (hne:t≠e):v.ownBlock≠some b:=fun hk=>by
 rcases hu.2 with ⟨rfl,_⟩ | ⟨k,g,j,rfl,_,f,_⟩
 · simp [Value.ownBlock] at hk
 simp only [Value.ownBlock,yaT] at hk;subst hk;rw [show w.heap[k]? = _ from h] at f;injection f with f
 injection f with _ m _
 exact hne m
theorem zdK {e:TypeId} {base size n:Nat} {v:Value} {xs:List Value} (h:w.ownsRow base e size v n xs) {j:Nat} (hj:v.ownBlock=some j):base≤j∧j<w.heap.size:=h.lt j hj
end
def zij (y:Iv):List Value:=[.int .i64 y.1,.int .i64 y.2]
def ics (l:List Iv):List Value:=l.flatMap zij
theorem zjy (l:List Iv):(ics l).length=l.length * 2:=by
 induction l with
 | nil=>rfl
 | cons a t ih=>rw [ics,yaS,yam,←ics,ih];simp [zij];omega
theorem zmb (a b:List Iv):ics (a ++ b)=ics a ++ ics b:=ya0
theorem zjz (y:Iv):ics [y]=zij y:=by simp [ics]
theorem zqg (y:Iv):∀u ∈ zij y,u.oneCell'=true:=by
 intro u b;simp only [zij,yaw,ya1,ybA] at b;rcases b with rfl | rfl <;> rfl
theorem zqh {l:List Iv} {i:Nat} {y:Iv} (h:l[i]? = some y):(ics l)[i * 2]? = some (.int .i64 y.1)∧(ics l)[i * 2 + 1]? = some (.int .i64 y.2):=by
 induction l generalizing i with
 | nil=>simp at h
 | cons a t ih =>
  rw [ics,yaS,←ics];cases i with
  | zero =>
   simp at h;subst h;exact ⟨rfl,rfl⟩
  | succ i =>
   obtain ⟨b,f⟩:=ih (by simpa using h);rw [yaJ (by simp [zij];omega),yaJ (by simp [zij];omega)];simp only [zij,yat,yaE];rw [show (i + 1) * 2-(0 + 1 + 1)=i * 2 by omega,show (i + 1) * 2 + 1-(0 + 1 + 1)=i * 2 + 1 by omega];exact ⟨b,f⟩
theorem rd_iv {w:World} {B n c:Nat} {A:Option Addr} {l:List Iv} (h:Rd w B 2 A n c (ics l)) {i:Nat} {y:Iv} (hi:l[i]? = some y) :
 ∃b o,A=some ⟨b,o,none⟩∧b<B∧w.cell? ⟨b,o + i * 2,none⟩=some (.int .i64 y.1)∧w.cell? ⟨b,o + i * 2 + 1,none⟩=some (.int .i64 y.2):=by
 have k:0<n:=by
  have f:=h.len;have g:=zjy l;have m:=zgB hi;omega
 obtain ⟨b,o,e,hb,j⟩:=h.at_ k;obtain ⟨f,g⟩:=zqh hi;exact ⟨b,o,e,hb,j _ _ f,by rw [ya7];exact j _ _ g⟩
def kL (k:ByteArray):Lit:=.string k.data.toList
theorem kL_inj {a b:ByteArray} (h:kL a=kL b):a=b:=ByteArray.ext (ycK.1 (Lit.string.inj h))
theorem kL_same (a b:ByteArray):(kL a).sameKey (kL b)=decide (a=b):=by
 by_cases h:a=b
 · subst h;rw [yaB rfl];simp [kL,Lit.sameKey]
 · rw [yaF h];simp only [kL,Lit.sameKey,ybh];exact fun e=>h (ByteArray.ext (ycK.1 e))
theorem zjI:Maps.Keyed Tryz.prog 9:=Maps.string_keyed Tryz.underlying9
theorem key14 (h:k.size≤maxLen):keyOf Tryz.prog 9 (.string k)=some (kL k):=by
 simp [keyOf,Tryz.underlying9,mapKey,h,kL]
def zru:Value→Option (DataW Value × List MemPlace):=fun v=>some (.held v,[])
abbrev nilS:Value:=.slice none 0 0
theorem zeroS (w:World):(zeroValue 164).run Tryz.prog w = .ok nilS w:=Tryz.zeroValue164 w
structure MapR (w:World) (B b n:Nat) (G:ByteArray→List Iv) (V:ByteArray→Value):Prop where
 own:∃D:DataW Value,w.ownsMap Tryz.prog 9 zru b n D∧(∀k:ByteArray,k.size≤maxLen→D.atKey (kL k) (.held nilS) = .held (V k))∧∀k:ByteArray,k.size≤maxLen→Maps.has D (kL k) = !(G k).isEmpty
 row:∀k,w.ownsRow B 163 2 (V k) (G k).length (ics (G k))
 two:∀k c j,(V k).ownBlock=some j→(V c).ownBlock=some j→k=c
theorem own_map {w w':World} {b n:Nat} {D:DataW Value} (h:w.ownsMap Tryz.prog 9 zru b n D) (hs:w'.heap[b]? = w.heap[b]?):w'.ownsMap Tryz.prog 9 zru b n D:=by
 obtain ⟨g,f,hb,r⟩:=h;exact ⟨g,f,hs.trans hb,r⟩
section
variable {w w':World} {B b n:Nat} {G:ByteArray→List Iv} {V:ByteArray→Value}
theorem MapR.lt (h:MapR w B b n G V):b<w.heap.size:=by
 obtain ⟨D,f,_⟩:=h.own;exact f.lt
theorem MapR.same (h:MapR w B b n G V) (hb:w'.heap[b]? = w.heap[b]?) (hr:∀k j,(V k).ownBlock=some j→w'.heap[j]? = w.heap[j]?):MapR w' B b n G V:=by
 obtain ⟨D,f,g,m⟩:=h.own;exact ⟨⟨D,own_map f hb,g,m⟩,fun k=>zau (h.row k) (hr k),h.two⟩
theorem MapR.congr {G':ByteArray→List Iv} (h:MapR w B b n G V) (e:∀k,G k=G' k):MapR w B b n G' V:=by
 rw [←funext e];exact h
theorem MapR.base {B':Nat} (h:MapR w B b n G V) (hB:B'≤B):MapR w B' b n G V:=⟨h.own,fun k=>zaA (h.row k) hB,h.two⟩
theorem MapR.ne (h:MapR w B b n G V) {j:Nat} (hj:(V k).ownBlock=some j):j≠b:=fun e=>by
 obtain ⟨D,⟨s,f,hb,_⟩,_⟩:=h.own;rcases (h.row k).2 with ⟨g,_⟩ | ⟨u,o,q,g,_,m,_⟩
 · rw [g] at hj;simp [Value.ownBlock] at hj
 · rw [g] at hj;simp only [Value.ownBlock,yaT] at hj;subst hj;subst e;rw [m] at hb;cases hb
theorem MapR.look (h:MapR w B b n G V) (hk:k.size≤maxLen) (W:World) (hW:W.heap[b]? = w.heap[b]?):(Instr.lookup 122 (.map (some b)) (.string k) false).run Tryz.prog W = .ok (V k) W:=by
 obtain ⟨D,g,j,_⟩:=h.own;obtain ⟨v,ps,m,f⟩:=(own_map g hW).lookup zjI Tryz.underlying122 (zeroS W) (zd:=.held nilS) (zp:=[]) rfl (key14 hk);rw [j k hk] at f;simp only [zru,yaT,Prod.mk.injEq,DataW.held.injEq] at f;rw [m,f.1]
theorem MapR.made (w:World):MapR (w.alloc (.map #[] 0)) w.heap.size w.heap.size 0 (fun _=>[]) (fun _=>nilS) :=
 ⟨⟨_,World.ownsMap_made w Tryz.prog 9 zru,fun _ _=>rfl,fun _ _=>rfl⟩,fun _=>World.ownsRow_nil _ _ _ _,fun k c j h=>by simp [Value.ownBlock] at h⟩
def zrr (G:ByteArray→List Iv) (k:ByteArray) (y:Iv):ByteArray→List Iv:=fun c=>if c=k then G k ++ [y] else G c
theorem zqm:(Tryz.prog.info? 163).map (fun i=>(i.zero,i.size,i.bytes))=some (some (.agg #[.int .i64 0,.int .i64 0]),2,16):=by kernel_rfl
theorem MapR.push (h:MapR w B b n G V) (hk:k.size≤maxLen) (y:Iv) (hn:n≤1000000) (hG:(G k).length≤1000000) (hB:B≤w.heap.size) (ad:Addr) (had:∀j u,(zij y)[j]? = some u→w.cell? (ad.add j)=some u) (ty:TypeId) :
 ∃g cap w1 w2 V',(Builtin.append_ #[164,164] ty #[V k,.slice (some ad) 1 1]).run Tryz.prog w = .ok (.slice (some ⟨g,0,none⟩) ((G k).length + 1) cap) w1 ∧
  (Instr.mapUpdate 122 (.map (some b)) (.string k) (.slice (some ⟨g,0,none⟩) ((G k).length + 1) cap)).run Tryz.prog w1 = .ok () w2 ∧
  MapR w2 B b (n + 1) (zrr G k y) V'∧w.grownBy w1 (V k).ownBlock∧w1.grownBy w2 (some b)∧(∀c j,(V' c).ownBlock=some j→(V c).ownBlock=some j∨(c=k∧j=w.heap.size)):=by
 obtain ⟨X,I,J,K,L⟩:=info_parts zqm;obtain ⟨g,cap,w1,M,A,o,s,Y⟩:=run_append_lies (P:=Tryz.prog) w 164 ty B 163 X _ 2 16 Tryz.underlying164 I J K L rfl yac (V k) (G k).length (ics (G k)) (h.row k) ad 1 1 (zij y) rfl had (zqg y) yac yad yab hB w.heap.size rfl;have N:w1.heap[b]? = w.heap[b]?:=o.block b h.lt fun e=>h.ne e.symm rfl;obtain ⟨D,O,Z,h3⟩:=h.own;obtain ⟨w2,Q,R,T⟩:=(own_map O N).store zjI Tryz.underlying122 yad (key:=.string k) (val:=.slice (some ⟨g,0,none⟩) ((G k).length + 1) cap) (d:=.held (.slice (some ⟨g,0,none⟩) ((G k).length + 1) cap)) (ps:=[]) (key14 hk) rfl;have C:=T.grown;have E:∀j:Nat,j<w1.heap.size→j≠b→w2.heap[j]? = w1.heap[j]?:=fun j f U=>C.block j f fun e=>U (by cases e;rfl);have a1:g≠b:=fun e=>by
  rcases s with q | q
  · exact h.ne q e
  · have:=h.lt;omega
 have F:∀c:ByteArray,c≠k→∀j,(V c).ownBlock=some j→w2.heap[j]? = w.heap[j]?:=fun c m j f=>by
  have H:=(zdK (h.row c) f).2;have e1:w1.heap[j]? = w.heap[j]?:=o.block j H fun e=>m (h.two c k j f e.symm);exact (E j (yas H o.size) (h.ne f)).trans e1
 refine ⟨g,cap,w1,w2,fun c=>if c=k then .slice (some ⟨g,0,none⟩) ((G k).length + 1) cap else V c,M,Q,⟨⟨_,R,fun c m=>?_,fun c m=>?_⟩,fun c=>?_,fun c d j m x=>?_⟩,o,C,fun c j f=>?_⟩
 · by_cases e:c=k
   · subst e;rw [yan rfl,Maps.atKey_put_same (O.isMap) (by trivial)]
   · rw [yak e,Maps.atKey_put_other fun q=>e (kL_inj q),Z c m]
 · unfold zrr;by_cases e:c=k
   · subst e;rw [yan rfl,Maps.has_put_same O.isMap (by trivial)];cases G c <;> rfl
   · rw [yak e,Maps.has_put_other fun q=>e (kL_inj q),h3 c m]
 · unfold zrr;by_cases e:c=k
   · subst e;rw [yan rfl,yan rfl,yam,zmb,zjz];exact zau A fun j f=>E j (A.lt j f).2 (by simp [Value.ownBlock] at f;omega)
   · rw [yak e,yak e];exact zau (h.row c) (F c e)
 · by_cases e:c=k
   · by_cases q:d=k
     · rw [e,q]
     · rw [yan e] at m;rw [yak q] at x;simp only [Value.ownBlock,yaT] at m;subst m;rcases s with z | z
       · exact absurd (h.two d k g x z) q
       · have:=(zdK (h.row d) x).2;omega
   · rw [yak e] at m;by_cases q:d=k
     · rw [yan q] at x;simp only [Value.ownBlock,yaT] at x;subst x;rcases s with z | z
       · exact absurd (h.two c k g m z) e
       · have:=(zdK (h.row c) m).2;omega
     · rw [yak q] at x;exact h.two c d j m x
 · dsimp only at f;by_cases e:c=k
   · rw [yan e] at f;simp only [Value.ownBlock,yaT] at f;subst f;rcases s with z | z
     · exact Or.inl (by rw [e];exact z)
     · exact Or.inr ⟨e,z⟩
   · rw [yak e] at f;exact Or.inl f
end
def Sk (w:World) (F:Nat→Prop) (g:Nat) (L:List Sp) (last:Int):Prop :=
 ∃b V,(∀j,F j↔j=g∨j=b∨∃k,(V k).ownBlock=some j)∧Rk w g #[.map (some b),.int .i64 last] 124∧MapR w 0 b L.length (ofK L) V∧∀x ∈ L,x.1.size≤1000000
theorem Sk.lt {w:World} {F:Nat→Prop} {g:Nat} {L:List Sp} {last:Int} (h:Sk w F g L last):∀b,F b→b<w.heap.size:=by
 obtain ⟨b,V,m,n,f,_⟩:=h;intro j o;rcases (m j).1 o with rfl | rfl | ⟨k,hk⟩
 · exact n.lt
 · exact f.lt
 · exact (zdK (f.row k) hk).2
theorem Sk.keep {w w':World} {F:Nat→Prop} {g:Nat} {L:List Sp} {last:Int} (h:Sk w F g L last) (hk:∀b,F b→w'.heap[b]? = w.heap[b]?):Sk w' F g L last:=by
 obtain ⟨b,V,f,m,n,o⟩:=h;exact ⟨b,V,f,m.same (hk g ((f g).2 (.inl rfl))),n.same (hk b ((f b).2 (.inr (.inl rfl)))) fun k j q=>hk j ((f j).2 (.inr (.inr ⟨k,q⟩))),o⟩
structure OnlyF (F:Nat→Prop) (w w':World):Prop where
 os:w'.os=w.os
 tape:w'.tape=w.tape
 output:w'.output=w.output
 le:w.heap.size≤w'.heap.size
 old:∀b,b<w.heap.size→¬F b→w'.heap[b]? = w.heap[b]?
theorem OnlyF.refl (F:Nat→Prop) (w:World):OnlyF F w w:=⟨rfl,rfl,rfl,yaj _,fun _ _ _=>rfl⟩
theorem OnlyF.grown {F:Nat→Prop} {w w2:World} {row:Option Nat} (h:OnlyF F w w1) (hg:w1.grownBy w2 row) (hr:∀r,row=some r→F r∨w.heap.size≤r):OnlyF F w w2 :=
 ⟨hg.os.trans h.os,hg.tape.trans h.tape,hg.output.trans h.output,yay h.le hg.size,fun b hb f=>(hg.block b (yas hb h.le) fun e=>by
  rcases hr b e.symm with q | q
  · exact f q
  · omega).trans (h.old b hb f)⟩
theorem OnlyF.below {F:Nat→Prop} {w w2:World} (h:OnlyF F w w1) (hb:Below w1.heap.size w1 w2):OnlyF F w w2 :=
 h.grown (row:=none) ⟨hb.os,hb.tape,hb.output,hb.size,fun k hk _=>hb.block k hk⟩ fun r e=>by cases e
theorem OnlyF.drew {F:Nat→Prop} {w:World} (h:OnlyF F w w1):OnlyF F w w1.drew:=⟨h.os,h.tape,h.output,h.le,h.old⟩
theorem OnlyF.set {F:Nat→Prop} {w:World} (h:OnlyF F w w1) {a:Addr} (ha:F a.block∨w.heap.size≤a.block) (v:Value):OnlyF F w (w1.setCell a v) :=
 ⟨h.os,h.tape,h.output,by simpa [World.setCell] using h.le,fun b hb f=>(Below.heap_setCell _ _ _ _ fun e=>by
  rcases ha with q | q
  · exact f (e ▸ q)
  · omega).trans (h.old b hb f)⟩
theorem OnlyF.own {F F':Nat→Prop} {w w':World} (h:OnlyF F w w') (hF:∀b,F' b→F b∨w.heap.size≤b):Own14 F F' w w' :=
 ⟨h.le,h.old,hF,fun B g f=>⟨h.os,h.tape,h.output,h.le,fun k hk=>h.old k (yas hk g) fun q=>by have:=f k q;omega⟩⟩
end
section
open Go.RowKit
theorem znj:(Tryz.prog.info? 100).map (fun i=>(i.zero,i.size,i.bytes))=some (some (.agg #[.int .i64 0,.string ⟨#[]⟩,.string ⟨#[]⟩,.string ⟨#[]⟩,.bool false,.slice none 0 0,.string ⟨#[]⟩,.slice none 0 0,.map none,.slice none 0 0]),10,160):=by kernel_rfl
theorem Rk.c4x {w:World} {b:Nat} {t:TypeId} {x0 x1 x2 x3:Value} (h:Rk w b #[x0,x1,x2,x3] t):w.cell? ⟨b,0,none⟩=some x0∧w.cell? ⟨b,1,none⟩=some x1∧w.cell? ⟨b,2,none⟩=some x2∧w.cell? ⟨b,3,none⟩=some x3:=⟨h.cell 0,h.cell 1,h.cell 2,h.cell 3⟩
theorem Rk.c8x {w:World} {b:Nat} {t:TypeId} {x0 x1 x2 x3 x4 x5:Value} (h:Rk w b #[x0,x1,x2,x3,x4,x5] t):w.cell? ⟨b,0,none⟩=some x0∧w.cell? ⟨b,1,none⟩=some x1∧w.cell? ⟨b,2,none⟩=some x2∧w.cell? ⟨b,3,none⟩=some x3∧w.cell? ⟨b,4,none⟩=some x4∧w.cell? ⟨b,5,none⟩=some x5:=⟨h.cell 0,h.cell 1,h.cell 2,h.cell 3,h.cell 4,h.cell 5⟩
section
variable {S:SpW} {f:CoF} {X Y F F':Nat→Prop} {w w':World} {g:Nat} {s:Sto Tb Nd15} {L:List Sp} {last:Int} {m:Mm}
theorem badd_any (K:SpK S) (h:StR S X w F g s L last m) (tx:ByteArray) (Ay:Option Addr) (ny cy:Nat) (mb:Option Nat) (Ar:Option Addr) (nr cr:Nat) (r0:Int) (b1 b2 b3:ByteArray) (sc:Bool) (Ak:Option Addr) (nk ck:Nat) (hmax:revB s + 1≤9223372036854775807) (hfew:m.l.length≤63) :
 Calls Tryz.prog 39 #[.pointer (some ⟨g,0,none⟩),.agg #[.string tx,.slice Ay ny cy,.map mb,.slice Ar nr cr],.agg #[.int .i64 r0,.string b1,.string b2,.string b3,.bool sc,.slice Ak nk ck]] w fun e w' =>
  e = .returned (.tuple #[])∧∃ga ca,w'.ownsRow 0 100 10 (.slice (some ⟨ga,0,none⟩) (m.l.length + 1) ca) (m.l.length + 1) (m.l.flatMap Rm.cells ++ [.int .i64 (revB s + 1),.string b1,.string b2,.string b3,.bool sc,.slice Ak nk ck,.string tx,.slice Ay ny cy,.map mb,.slice Ar nr cr]) ∧
   Rk w' g #[.pointer (some ⟨m.gs,0,none⟩),.int .i64 s.quota,.int .i64 s.floor,.string m.t.tx,.slice m.t.Ay m.t.ty.length m.t.cy,.map m.t.mb,.slice m.t.Ar m.t.K.length m.t.cr,.slice (some ⟨ga,0,none⟩) (m.l.length + 1) ca] 80∧(m.row.ownBlock=some ga∨w.heap.size≤ga)∧OnlyF (fun j=>j=g∨m.row.ownBlock=some j) w w':=by
 obtain ⟨i0,V,Y,Z,a1⟩:=info_parts znj;have a8 : -9223372036854775808≤revB s + 1:=by have:=h.rev_eq;have:=h.floor0;omega
 have e1:IntKind.i64.wrap (revB s + 1)=revB s + 1:=IntWalk.i64_in _ ⟨by omega,by omega⟩;have y:Below w.heap.size w ((w.alloc (.cells #[.string tx,.slice Ay ny cy,.map mb,.slice Ar nr cr] 61)).alloc (.cells #[.int .i64 r0,.string b1,.string b2,.string b3,.bool sc,.slice Ak nk ck] 71)):=(zaI w _).alloc yaf _;have O:=(Rk.new w #[.string tx,.slice Ay ny cy,.map mb,.slice Ar nr cr] 61).alloc (.cells #[.int .i64 r0,.string b1,.string b2,.string b3,.bool sc,.slice Ak nk ck] 71);have E:=Rk.new (w.alloc (.cells #[.string tx,.slice Ay ny cy,.map mb,.slice Ar nr cr] 61)) #[.int .i64 r0,.string b1,.string b2,.string b3,.bool sc,.slice Ak nk ck] 71;rw [World.size_alloc] at E;have h1:=h.up K y;have k1:=zc6 h1;go_enter Tryz.func39,Tryz.ntmps39
 go_upto_region 1 with (fail)
 generalize (w.alloc (.cells #[.string tx,.slice Ay ny cy,.map mb,.slice Ar nr cr] 61)).alloc (.cells #[.int .i64 r0,.string b1,.string b2,.string b3,.bool sc,.slice Ak nk ck] 71)=w1 at *
 have yl:=E.lt;go_upto_region 2 with (go_at_call 17;refine k1.mono ?_;rintro e N ⟨rfl,f⟩;have k:Rk N (w.heap.size + 1) _ _:=E.same (f.block _ E.lt);have y2:=k.cell 0;have a2:=k.fz;have a6:=k.lt)
 have P:Rk N w.heap.size _ _:=O.same (f.block _ O.lt);have h2:=h1.up K f;have Q:=zac y y.size f;clear k1 f h1;have aa:g<w.heap.size:=h.box.lt;have o:∀j,m.row.ownBlock=some j→j<w.heap.size:=fun j q=>(h.row.lt j q).2;have G:Rk (N.setCell ⟨w.heap.size + 1,0,none⟩ (.int .i64 (revB s + 1))) (w.heap.size + 1) #[.int .i64 (revB s + 1),.string b1,.string b2,.string b3,.bool sc,.slice Ak nk ck] 71:=by
  have q:=k.set 0 (.int .i64 (revB s + 1));simp only [yaG,yaV] at q;exact q
 have H:=P.other (a:=⟨w.heap.size + 1,0,none⟩) (show w.heap.size≠w.heap.size + 1 by omega) (.int .i64 (revB s + 1));have b:=h2.box.other (a:=⟨w.heap.size + 1,0,none⟩) (show g≠w.heap.size + 1 by omega) (.int .i64 (revB s + 1));have z:=zau (w':=N.setCell ⟨w.heap.size + 1,0,none⟩ (.int .i64 (revB s + 1))) h2.row fun j q=>Below.heap_setCell _ _ _ _ (show j≠w.heap.size + 1 by have:=o j q;omega);have B:Below w.heap.size w (N.setCell ⟨w.heap.size + 1,0,none⟩ (.int .i64 (revB s + 1))):=Q.setCell (ybd _) _;generalize N.setCell ⟨w.heap.size + 1,0,none⟩ (.int .i64 (revB s + 1))=x at *
 clear E k y2 a2 a6 yl O P h2 Q y;unfold boxC at b;have ab:Rk x.drew g _ _:=b;have ac:Rk x.drew w.heap.size _ _:=H;have ad:Rk x.drew (w.heap.size + 1) _ _:=G;have ae:=zac B B.size (za1 x);have c7:x.cell? ⟨g,7,none⟩=some (.slice m.A m.l.length m.c):=b.cell 7;have I:=fun W (O:Rk W w.heap.size #[.string tx,.slice Ay ny cy,.map mb,.slice Ar nr cr] 61) (E:Rk W (w.heap.size + 1) #[.int .i64 (revB s + 1),.string b1,.string b2,.string b3,.bool sc,.slice Ak nk ck] 71)=>(⟨O.c4x,E.c8x⟩:_∧_);obtain ⟨⟨x0,x1,x2,x3⟩,y0,y1,y2,y3,y4,y5⟩:=I _ H G;have gl:=b.lt;have xl:=H.lt;have yl:=G.lt;have ax:m.row.ownBlock≠some w.heap.size:=fun q=>by have:=o _ q;omega
 have ay:m.row.ownBlock≠some (w.heap.size + 1):=fun q=>by have:=o _ q;omega
 have U:m.row.ownBlock≠some g:=Rk.apart h.box h.row yac;have nx:g≠w.heap.size:=by omega
 have af:g≠w.heap.size + 1:=by omega
 obtain ⟨n,J⟩:∃n,m.l.length=n:=⟨_,rfl⟩;unfold Mm.row at z ax ay U o;rw [J] at z c7 hfew ax ay U o;obtain ⟨xs,C⟩:∃xs,m.l.flatMap Rm.cells=xs:=⟨_,rfl⟩;rw [C] at z;replace J:=Lib.hid J;replace C:=Lib.hid C;go_region_law
  ((refine step_append_lies _ yae _ _ _ yae 0 100 i0 _ 10 160 Tryz.underlying78 V Y Z a1 rfl yab (.slice m.A n m.c) n xs yae ((zao z (zaI x _)).drew) ⟨x.heap.size,0,none⟩ 1 1 [.int .i64 (revB s + 1),.string b1,.string b2,.string b3,.bool sc,.slice Ak nk ck,.string tx,.slice Ay ny cy,.map mb,.slice Ar nr cr] yae yae (World.news_of_block (cs:=#[.int .i64 (revB s + 1),.string b1,.string b2,.string b3,.bool sc,.slice Ak nk ck,.string tx,.slice Ay ny cy,.map mb,.slice Ar nr cr]) (t:=100) (fr:=(0,0)) (heap_alloc_new x _)) (by simp [Value.oneCell']) yab yad yab (yao _) (x.heap.size + 1) yaf ?_;intro gg cap w8 M u R ah;have D:Rk w8 g _ _:=Rk.same (b.alloc _) (u.block g yag (Ne.symm U));have ai:=D.cell 7;have aj:=D.fz;have ak:=D.lt))
 all_goals go_wp2_with fail
 all_goals go_end0
 all_goals (
  have a7:gg≠g:=fun e=>by
   rcases R with q | q
   · exact U (by rw [q,e])
   · have:=b.lt;omega
  have T:=D.set 7 (.slice (some ⟨gg,0,none⟩) (n + 1) cap);simp only [yaG,yaV,yaW] at T;refine ⟨rfl,gg,cap,?_,?_,?_,?_⟩
  · rw [J.out,C.out];exact zau M fun j hj=>Below.heap_setCell _ _ _ _ (by simp [Value.ownBlock] at hj;simpa [←hj] using a7)
  · rw [J.out];exact T
  · unfold Mm.row;rw [J.out];rcases R with q | q
    · exact .inl q
    · have:=B.size;exact .inr yab
  · unfold Mm.row;rw [J.out];exact (((((OnlyF.refl _ w).below (B.mono (yaj _))).below (zaI x _)).drew).grown u fun r q=>.inl (.inr q)).set (a:=⟨g,7,none⟩) (.inl (.inl rfl)) _)
end
end
end Go.Proofs.YtmblgnddgmfkhaaGreat
