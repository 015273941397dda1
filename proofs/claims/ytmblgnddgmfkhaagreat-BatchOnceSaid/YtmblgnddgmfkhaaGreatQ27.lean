import Derived.Deep.AppendLies
import Derived.Test.YtmblgnddgmfkhaaGreatQ26
set_option maxRecDepth 100000
set_option maxHeartbeats 4000000
namespace Go.Proofs.YtmblgnddgmfkhaaGreat
section
open Go.RowKit
section
variable {S:SpW} {f:CoF} {X Y F F':Nat→Prop} {w w':World} {g:Nat} {s:Sto Tb Nd15} {L:List Sp} {last:Int} {m:Mm}
def Rm.val (x:Rm):Value:=.agg #[.int .i64 x.rev,.string x.v.by_.1,.string x.v.by_.2.1,.string x.v.by_.2.2,.bool x.v.schema,.slice x.Ak x.v.wrote.length x.ck,.string x.t.tx,.slice x.t.Ay x.t.ty.length x.t.cy,.map x.t.mb,.slice x.t.Ar x.t.K.length x.t.cr]
theorem set10 {w w0:World} {B b:Nat} {t:TypeId} {z0 z1 z2 z3 z4 z5 z6 z7 z8 z9:Value} (h:Rk w0 b #[z0,z1,z2,z3,z4,z5,z6,z7,z8,z9] t) (hb:Below B w w0) (hB:B≤b) (u0 u1 u2 u3 u4 u5 u6 u7 u8 u9:Value) :
 Rk ((((((((((w0.setCell ⟨b,0,none⟩ u0).setCell ⟨b,1,none⟩ u1).setCell ⟨b,2,none⟩ u2).setCell ⟨b,3,none⟩ u3).setCell ⟨b,4,none⟩ u4).setCell ⟨b,5,none⟩ u5).setCell ⟨b,6,none⟩ u6).setCell ⟨b,7,none⟩ u7).setCell ⟨b,8,none⟩ u8).setCell ⟨b,9,none⟩ u9) b #[u0,u1,u2,u3,u4,u5,u6,u7,u8,u9] t ∧
 Below B w ((((((((((w0.setCell ⟨b,0,none⟩ u0).setCell ⟨b,1,none⟩ u1).setCell ⟨b,2,none⟩ u2).setCell ⟨b,3,none⟩ u3).setCell ⟨b,4,none⟩ u4).setCell ⟨b,5,none⟩ u5).setCell ⟨b,6,none⟩ u6).setCell ⟨b,7,none⟩ u7).setCell ⟨b,8,none⟩ u8).setCell ⟨b,9,none⟩ u9) :=
 ⟨by
  have d:=(((((((((h.set 0 u0).set 1 u1).set 2 u2).set 3 u3).set 4 u4).set 5 u5).set 6 u6).set 7 u7).set 8 u8).set 9 u9;simp only [yaE,yaU,yaV] at d;exact d,(((((((((hb.setCell hB _).setCell hB _).setCell hB _).setCell hB _).setCell hB _).setCell hB _).setCell hB _).setCell hB _).setCell hB _).setCell hB _⟩
theorem behind15_any (K:SpK S) (h:StM S f X w F g s L last m) {r:Int} {i:Nat} {x:Rm} (hr:r=s.floor + 1 + i) (hx:m.l[i]? = some x) :
 Calls Tryz.prog 61 #[.pointer (some ⟨g,0,none⟩),.int .i64 r] w fun e w'=>e = .returned x.val∧Below w.heap.size w w':=by
 have d:=Rk.new w #[.int .i64 0,.string ⟨#[]⟩,.string ⟨#[]⟩,.string ⟨#[]⟩,.bool false,.slice none 0 0,.string ⟨#[]⟩,.slice none 0 0,.map none,.slice none 0 0] 100;have hb:=zaM w (.cells #[.int .i64 0,.string ⟨#[]⟩,.string ⟨#[]⟩,.string ⟨#[]⟩,.bool false,.slice none 0 0,.string ⟨#[]⟩,.slice none 0 0,.map none,.slice none 0 0] 100);have q:=h.up K hb;have hl:=zg4 hx;have B:=h.most;have u:=h.rev_eq;have y:=h.floor0;have C:=h.box.lt;go_enter Tryz.func61,Tryz.ntmps61
 go_upto_region 1 with (fail)
 generalize w.alloc (.cells #[.int .i64 0,.string ⟨#[]⟩,.string ⟨#[]⟩,.string ⟨#[]⟩,.bool false,.slice none 0 0,.string ⟨#[]⟩,.slice none 0 0,.map none,.slice none 0 0] 100)=w1 at *
 obtain ⟨D,E,G,H,I,J,M,z⟩:=q.cs;have lt:=q.box.lt;obtain ⟨b,o,N,O,j⟩:=q.get hx;rw [N] at z;have A:=j 0 _ rfl;have P:=j 1 _ rfl;have Q:=j 2 _ rfl;have R:=j 3 _ rfl;have T:=j 4 _ rfl;have U:=j 5 _ rfl;have V:=j 6 _ rfl;have Y:=j 7 _ rfl;have Z:=j 8 _ rfl;have q9:=j 9 _ rfl;rw [ybP] at A;have e1:IntKind.i64.wrap (r-s.floor)=(i:Int) + 1:=by rw [show r-s.floor=(i:Int) + 1 by omega];exact IntWalk.i64_in _ ⟨by omega,by omega⟩
 have e2:IntKind.i64.wrap ((i:Int) + 1-1)=(i:Int):=by rw [show (i:Int) + 1-1=(i:Int) by omega];exact IntWalk.i64_in _ ⟨by omega,by omega⟩
 have e3:r-s.floor=(i:Int) + 1:=by omega
 have e4:(i:Int) + 1-1=(i:Int):=by omega
 have e5:(0:Int)≤(i:Int):=by omega
 have e6:(i:Int)<(m.l.length:Int):=by omega
 have e7:IntKind.i64.wrap ((i:Int) + 1)=(i:Int) + 1:=IntWalk.i64_in _ ⟨by omega,by omega⟩;have e8:IntKind.i64.wrap (i:Int)=(i:Int):=IntWalk.i64_in _ ⟨by omega,by omega⟩;have zl:=d.lt;have zf:=d.fz;have z0:=d.cell 0;have z1:=d.cell 1;have z2:=d.cell 2;have z3:=d.cell 3;have z4:=d.cell 4;have z5:=d.cell 5;have z6:=d.cell 6;have z7:=d.cell 7;have z8:=d.cell 8;have z9:=d.cell 9;clear h q j B u y hr;generalize m.l.length=n at *
 go_region
 clear z0 z1 z2 z3 z4 z5 z6 z7 z8 z9 A P Q R T U V Y Z q9 D E G H I J M z zf zl e1 e2 e3 e4 e7 e8;obtain ⟨p,k⟩:=set10 d hb (yaj _) (.int .i64 x.rev) (.string x.v.by_.1) (.string x.v.by_.2.1) (.string x.v.by_.2.2) (.bool x.v.schema) (.slice x.Ak x.v.wrote.length x.ck) (.string x.t.tx) (.slice x.t.Ay x.t.ty.length x.t.cy) (.map x.t.mb) (.slice x.t.Ar x.t.K.length x.t.cr);generalize World.setCell _ ⟨w.heap.size,9,none⟩ _=W at *
 go_wp2_with fail
 refine bodyPost_ret (v:=x.val) ?_ rfl ⟨rfl,k.os,k.tape,k.output,k.size,k.block⟩;have p0:=p.cell 0;have p1:=p.cell 1;have p2:=p.cell 2;have p3:=p.cell 3;have p4:=p.cell 4;have p5:=p.cell 5;have p6:=p.cell 6;have p7:=p.cell 7;have p8:=p.cell 8;have p9:=p.cell 9;simp [results,Tryz.results61,go_sem,Rm.val,p0,p1,p2,p3,p4,p5,p6,p7,p8,p9]
theorem rev_f1 (x:Rm) (W:World):(Instr.field 100 x.val 1).run Tryz.prog W = .ok (.agg #[.string x.t.tx,.slice x.t.Ay x.t.ty.length x.t.cy,.map x.t.mb,.slice x.t.Ar x.t.K.length x.t.cr]) W:=by unfold Rm.val;kernel_rfl
theorem schema15_any (K:SpK S) (h:StM S f X w F g s L last m) (r:Int) :
 Calls Tryz.prog 26 #[.pointer (some ⟨g,0,none⟩),.int .i64 r] w fun e w'=>(∃t:Tm,e = .returned t.val∧t.ok X w'∧t.tx=(atB s r).text∧t.tb=(atB s r).T)∧Below w.heap.size w w':=by
 have j:=Bk.new w #[.string ⟨#[]⟩,.slice none 0 0,.map none,.slice none 0 0] 61;have hb:=zaM w (.cells #[.string ⟨#[]⟩,.slice none 0 0,.map none,.slice none 0 0] 61);have k:=h.up K hb;have p:=zi0 k r;go_enter Tryz.func26,Tryz.ntmps26
 go_upto_region 2 with (fail)
 generalize w.alloc (.cells #[.string ⟨#[]⟩,.slice none 0 0,.map none,.slice none 0 0] 61)=w1 at *
 have I:=j.lt;have lt:=k.box.lt;cases hk:zaO s r with
 | false =>
  rw [hk] at p;have n:=Lib.hid (zfn hk);go_upto_region 3 with (go_at_call 30;refine p.mono ?_;rintro e O ⟨rfl,b⟩)
  replace j:=j.below b;replace hb:=zad hb hb.size b;obtain ⟨z0,P,Q,z3⟩:=j.c4;have R:=j.fz;have I:=j.lt;clear b k p;go_wp2_with fail
  obtain ⟨B,d⟩:=set4 j hb (yaj _) (.string ⟨#[]⟩) (.slice none 0 0) (.map none) (.slice none 0 0);obtain ⟨u,y,z,A⟩:=B.c4;refine bodyPost_ret (v:=noTm.val) (by simp [results,Tryz.results26,go_sem,u,y,z,A,Tm.val,noTm];try rfl) rfl ?_;exact ⟨⟨noTm,rfl,zqj _ _,by rw [n.out];rfl,by rw [n.out];rfl⟩,d⟩
 | true =>
  rw [hk] at p;obtain ⟨U,J⟩:=zbG.1 hk;go_upto_region 4 with (go_at_call 30;refine p.mono ?_;rintro e O ⟨rfl,b⟩)
  replace j:=j.below b;replace hb:=zad hb hb.size b;replace k:=k.up K b;obtain ⟨z0,P,Q,z3⟩:=j.c4;have R:=j.fz;have I:=j.lt;obtain ⟨c0,c1,c2,c3,c4,c5,c6,c7⟩:=k.cs;have lt:=k.box.lt;have V:g≠w.heap.size:=fun q=>by have:=h.box.lt;omega
  clear b p;by_cases C:r=s.floor
  · have n:=k.atFloor;rw [←C] at n;replace n:=Lib.hid n;have he:(r == s.floor)=true:=by simpa using C
    clear hk C;go_wp2_with fail
    obtain ⟨B,d⟩:=set4 j hb (yaj _) (.string m.t.tx) (.slice m.t.Ay m.t.ty.length m.t.cy) (.map m.t.mb) (.slice m.t.Ar m.t.K.length m.t.cr);obtain ⟨u,y,z,A⟩:=B.c4;refine bodyPost_ret (v:=m.t.val) (by simp [results,Tryz.results26,go_sem,u,y,z,A,Tm.val];try rfl) rfl ?_;exact ⟨⟨m.t,rfl,h.first.step (Stay.below d) fun _ q=>.inl q,n.out.1.symm,n.out.2.symm⟩,d⟩
  · obtain ⟨i,x,M,E,N,_⟩:=k.place (r:=r) yab J;have Y:=behind15_any K k M E;have G:=k.each x (yar E);have n:Hid ((atB s r).text=x.t.tx∧(atB s r).T=x.t.tb):=Lib.hid (by rw [←N];exact ⟨G.text,G.T⟩);have Z:(r == s.floor)=false:=by simpa using C
    have a1:=rev_f1 x;clear hk M N U J G C;go_upto_region 1 with (fail)
    go_wp2_with (go_at_call 61;refine Y.mono ?_;rintro e w3 ⟨rfl,D⟩;have o:=j.below D;have H:=zad hb hb.size D;obtain ⟨u,y,z,A⟩:=o.c4;have yf:=o.fz;have yl:=o.lt)
    obtain ⟨B,d⟩:=set4 o H (yaj _) (.string x.t.tx) (.slice x.t.Ay x.t.ty.length x.t.cy) (.map x.t.mb) (.slice x.t.Ar x.t.K.length x.t.cr);obtain ⟨u,y,z,A⟩:=B.c4;refine bodyPost_ret (v:=x.t.val) (by simp [results,Tryz.results26,go_sem,u,y,z,A,Tm.val];try rfl) rfl ?_;exact ⟨⟨x.t,rfl,(h.each x (yar E)).tab.step (Stay.below d) fun _ q=>.inl q,n.out.1.symm,n.out.2.symm⟩,d⟩
theorem zbj (w:World):Below w.heap.size w w.drew:=⟨rfl,rfl,rfl,yaj _,fun _ _=>rfl⟩
theorem live15_any (K:SpK S) (h:StM S f X w F g s L last m):Calls Tryz.prog 19 #[.pointer (some ⟨g,0,none⟩)] w fun e w'=>e = .returned (.int .i64 (zai s).keys.length)∧Below w.heap.size w w':=by
 have o:=h.up K (zbj w);have y:=zcP o.toStR;have j:s.floor≤revB s:=by have:=h.rev_eq;omega
 have p:=(h.spb.keys h.ok j (ybp _)).2;rw [za5 h.ok.has] at p;have x:=fun W (hb:Below w.drew.heap.size w.drew W)=>K.count (revB s) (o.up K hb).sp h.spb.fine (by have:=h.len;omega);rw [p] at x;have d:=fun W (hb:Below w.drew.heap.size w.drew W)=>(o.up K hb).cs.1;have C:=h.cs.1;have lt:=h.box.lt;clear p j;generalize revB s=z at *
 generalize (zai s).keys.length=n at *
 go_enter Tryz.func19,Tryz.ntmps19
 go_upto_region 3 with (fail)
 go_region_held3 (fun W=>W.cell? ⟨g,0,none⟩=some (.pointer (some ⟨m.gs,0,none⟩)))
  (first | exact q | exact u | go_keep | fail)
  ((first
   | (with_reducible refine y.mono ?_;rintro D A ⟨rfl,b⟩;have q:=d A b)
   | (with_reducible refine (x _ b).mono ?_;rintro E B ⟨rfl,k⟩;have u:=d B (zad b b.size k))
   | fail))
 go_wp2_with fail
 go_ret
 exact ⟨rfl,zad (zbj w) (yaj _) (zad b b.size k)⟩
theorem zfx (u:TuP):∀x ∈ zaE u,x.size≤(zbu u).size:=by
 intro x b;have:zbu u=u.1.1 ++ zck 0 ++ (u.1.2.1 ++ zck 0 ++ (u.1.2.2 ++ zck 0 ++ (u.2.1 ++ zck 0 ++ (u.2.2.1 ++ zck 0 ++ u.2.2.2)))):=rfl;rw [this];simp only [size_app];simp only [zaE,yav,ya1,ybw] at b;rcases b with rfl | rfl | rfl | rfl | rfl | rfl <;> omega
theorem zgX (u:TuP) (h:(zbu u).size≤100000) (w:World):Calls Tryz.prog 63 #[zf0 u] w fun e w'=>e = .returned (.string (zbu u))∧Below w.heap.size w w':=by
 have k:=fun x b=>yax (zfx u x b) h;exact key_any12 u.1.1 u.1.2.1 u.1.2.2 u.2.1 u.2.2.1 u.2.2.2 (k _ (by simp [zaE])) (k _ (by simp [zaE])) (k _ (by simp [zaE])) (k _ (by simp [zaE])) (k _ (by simp [zaE])) (k _ (by simp [zaE]))
theorem shas15_any (K:SpK S) (h:StM S f X w F g s L last m) (r:Int) (u:TuP) (hu:(zbu u).size≤100000) :
 Calls Tryz.prog 28 #[.pointer (some ⟨g,0,none⟩),.int .i64 r,zf0 u] w fun e w'=>e = .returned (.bool (hasK (atB s r).keys (zbu u)))∧Below w.heap.size w w':=by
 unfold zf0;have I:=Bk.new w #[.string u.1.1,.string u.1.2.1,.string u.1.2.2,.string u.2.1,.string u.2.2.1,.string u.2.2.2] 51;have hb:=zaM w (.cells #[.string u.1.1,.string u.1.2.1,.string u.1.2.2,.string u.2.1,.string u.2.2.1,.string u.2.2.2] 51);have J:=h.spb.has (r:=r) (zbu u);have x:=h.up K hb;rw [←J];clear J;obtain ⟨j,p⟩:∃j,Hid ((zaO s r && zdC L (zbu u) r)=j):=⟨_,Lib.hid rfl⟩;rw [p.out];go_enter Tryz.func28,Tryz.ntmps28
 go_upto_region 1 with (fail)
 generalize w.alloc (.cells #[.string u.1.1,.string u.1.2.1,.string u.1.2.2,.string u.2.1,.string u.2.2.1,.string u.2.2.2] 51)=k at *
 have y:=x.up K (zbj k);have z:=zi0 y r;have A:=I.below (zbj k);have M:=zad hb hb.size (zbj k);have B:=fun W=>zgX u hu W;have N:=fun W (hb:Below k.drew.heap.size k.drew W)=>K.has (zbu u) r (y.up K hb).sp h.spb.fine (by have:=h.len;omega) yad;unfold zf0 at B;have b:=fun W (hb:Below k.drew.heap.size k.drew W)=>(⟨(y.up K hb).cs.1,(A.below hb).c6⟩:_∧_);obtain ⟨T,U,V,Y,Z,x4,x5⟩:=b k.drew (Below.refl _ _);have lt:=x.box.lt;have xl:=I.lt;cases hk:zaO s r with
 | false =>
  obtain rfl:j=false:=by rw [←p.out,hk,yb1]
  have O:=fun q=>zif (x.drewN K q) r;rw [hk] at O;clear z B N;go_quiet ((go_at_call 30;exact Calls.quiet_of (O _)))
  go_wp2_with fail
  go_ret
  exact ⟨rfl,zad hb hb.size (zav k _ _)⟩
 | true =>
  rw [hk] at z;obtain rfl:j=zdC L (zbu u) r:=by rw [←p.out,hk,ycG]
  clear p;go_region_held3 (fun W=>W.cell? ⟨g,0,none⟩=some (.pointer (some ⟨m.gs,0,none⟩))∧W.cell? ⟨w.heap.size,0,none⟩=some (.string u.1.1)∧W.cell? ⟨w.heap.size,1,none⟩=some (.string u.1.2.1)∧W.cell? ⟨w.heap.size,2,none⟩=some (.string u.1.2.2)∧W.cell? ⟨w.heap.size,3,none⟩=some (.string u.2.1)∧W.cell? ⟨w.heap.size,4,none⟩=some (.string u.2.2.1)∧W.cell? ⟨w.heap.size,5,none⟩=some (.string u.2.2.2))
   (first | exact C | exact E | exact H | go_keep | fail)
   ((first
    | (with_reducible refine z.mono ?_;rintro e1 P ⟨rfl,o⟩;have C:=b P o)
    | (with_reducible refine (B _).mono ?_;rintro e2 Q ⟨rfl,D⟩;have d:=zad o o.size D;have E:=b Q d)
    | (with_reducible refine (N _ d).mono ?_;rintro e3 R ⟨rfl,G⟩;have n:=zad d d.size G;have H:=b R n)
    | fail))
  go_wp2_with fail
  go_ret
  exact ⟨rfl,zad M M.size n⟩
end
end
section
variable {L:List Sp} {last:Int} {k:ByteArray} {x:Sp}
abbrev Iv:=Int × Int
def ofK (L:List Sp) (k:ByteArray):List Iv:=(L.filter fun x=>decide (x.1=k)).map (·.2)
theorem zex (L M:List Sp) (k:ByteArray):ofK (L ++ M) k=ofK L k ++ ofK M k:=by unfold ofK;rw [yb2,yaL]
theorem zqr (x:Sp) (k:ByteArray):ofK [x] k=if x.1=k then [x.2] else []:=by
 unfold ofK;by_cases h:x.1=k
 · rw [yan h,ycp,yan (by simpa using h)];rfl
 · rw [yak h,ycp,yak (by simpa using h)];rfl
theorem ze3 (x:Sp) (L:List Sp) (k:ByteArray):ofK (x::L) k=(if x.1=k then [x.2] else []) ++ ofK L k:=by rw [←zqr,←zex];rfl
theorem zg5 {y:Iv}:y ∈ ofK L k↔(k,y) ∈ L:=by
 unfold ofK;rw [yaN];constructor
 · rintro ⟨x,d,rfl⟩;obtain ⟨f,b⟩:=ybd.1 d;rw [yaP] at b;rw [←b];exact f
 · intro h;exact ⟨(k,y),ybd.2 ⟨h,by simp⟩,rfl⟩
theorem zjb (L:List Sp) (k:ByteArray):(ofK L k).length≤L.length:=by
 unfold ofK;rw [yay];exact ybf _ _
theorem zgj:ofK L k=[]↔∀x ∈ L,x.1≠k:=by
 rw [ycv];constructor
 · rintro h ⟨f,y⟩ b rfl;exact h y (zg5.2 b)
 · intro h y d;exact h _ (zg5.1 d) rfl
def withK (L:List Sp) (k:ByteArray):List Sp:=(ofK L k).map fun y=>(k,y)
theorem zfi (L:List Sp) (k:ByteArray):withK L k=L.filter fun x=>decide (x.1=k):=by
 unfold withK ofK;rw [ybn];conv=>rhs;rw [←ycy (L.filter _)]
 refine yby fun x b=>?_;have:=(ybd.1 b).2;rw [yaP] at this;show (k,x.2)=x;rw [←this]
theorem zf2 {c:ByteArray} (h:k≠c):withK (L.filter fun x=>!decide (x.1=c)) k=withK L k:=by
 rw [zfi,zfi,List.filter_filter];refine List.filter_congr fun x _=>?_;by_cases e:x.1=k
 · rw [yaD e,ycG,e,yaH h];rfl
 · rw [yaH e];rfl
theorem zkY:∀{ks:List ByteArray} {L:List Sp},ks.Nodup→(∀x ∈ L,x.1 ∈ ks)→(ks.flatMap (withK L)).Perm L
 | [],L,_,h=>by
  have:L=[]:=ycv.2 fun x d=>by cases h x d
  subst this;exact yco _
 | k::ks,L,f,h=>by
  obtain ⟨g,j⟩:=ybT.1 f;rw [yaS];have e:ks.flatMap (withK L)=ks.flatMap (withK (L.filter fun x=>!decide (x.1=k))):=by
   rw [yca,yca];congr 1
   refine yby fun c m=>(zf2 fun e=>g (by rw [←e];exact m)).symm
  rw [e];have n:=zkY (L:=L.filter fun x=>!decide (x.1=k)) j fun x d=>by
   obtain ⟨a,b⟩:=ybd.1 d;rcases yav.1 (h x a) with q | q
   · rw [yaD q] at b;cases b
   · exact q
  refine (n.append_left _).trans ?_;rw [zfi];exact List.filter_append_perm _ L
theorem zqs (L:List Sp) (k c:ByteArray):ofK (withK L k) c=if k=c then ofK L c else []:=by
 by_cases h:k=c
 · subst h;rw [yan rfl,zfi];unfold ofK;rw [List.filter_filter];congr 1
   exact List.filter_congr fun x _=>by rw [Bool.and_self]
 · rw [yak h,zgj];intro x b e;unfold withK at b;obtain ⟨y,_,rfl⟩:=yaN.1 b;exact h e
theorem ofK_told:∀{ks:List ByteArray} {L:List Sp},ks.Nodup→(∀x ∈ L,x.1 ∈ ks)→∀c,ofK (ks.flatMap (withK L)) c=ofK L c:=by
 intro ks L d h c;have key:∀ks:List ByteArray,ks.Nodup→(c ∈ ks→ofK (ks.flatMap (withK L)) c=ofK L c)∧(c ∉ ks→ofK (ks.flatMap (withK L)) c=[]):=by
  intro ks;induction ks with
  | nil=>intro _;exact ⟨fun h=>(by cases h),fun _=>rfl⟩
  | cons k ks ih =>
   intro d;obtain ⟨g,j⟩:=ybT.1 d;obtain ⟨f,b⟩:=ih j;rw [yaS,zex,zqs];by_cases e:k=c
   · subst e;rw [yan rfl,b g,yaJ];exact ⟨fun _=>rfl,fun z=>absurd yat z⟩
   · rw [yak e,yba];refine ⟨fun z=>?_,fun z=>b fun q=>z (yau _ q)⟩;rcases yav.1 z with z | z
     · exact absurd z.symm e
     · exact f z
 obtain ⟨f,b⟩:=key ks d;rcases Classical.em (c ∈ ks) with q | q
 · exact f q
 · rw [b q];exact ((zgj (k:=c)).2 fun x m e=>q (by rw [←e];exact h x m)).symm
theorem zlh {M:List Sp} (h:L.Perm M) (r:Int):zcI L r=zcI M r:=(h.filter _).length_eq
def zj4 (x:Sp) (a b:Int):List Ev:=(if a<x.2.1∧x.2.1≤b then [(x.2.1,x.1,true)] else []) ++ (if x.2.2≠0∧a<x.2.2∧x.2.2≤b then [(x.2.2,x.1,false)] else [])
theorem evsP_eq (h:FineS L last) (hx:x ∈ L) (a b:Int):zj4 x a b=evsOf x a b:=by
 have:=h.at_ x hx;unfold zj4 evsOf;congr 1
 refine ite_congr (propext ?_) (fun _=>rfl) (fun _=>rfl);omega
theorem zj3 {ys:List Sp} {a b:Int} (h:FineS L last) (hp:ys.Perm L) {zs:List Ev} (hz:zs.Perm (ys.flatMap fun x=>zj4 x a b)) (hr:zfl zs):zs=eventsP L a b:=by
 refine zeA hr (zfS L a b) (hz.trans (List.Perm.trans ?_ (zdA L a b).symm));refine (hp.flatMap_right _).trans ?_;rw [yca,yca,yby fun x d=>evsP_eq h d a b]
def zje (l:List Iv):Bool:=match l.getLast? with
 | some x=>decide (x.2=0)
 | none=>false
theorem zd1 (l:List Iv) (x:Iv):zje (l ++ [x])=decide (x.2=0):=by
 unfold zje;rw [List.getLast?_concat]
theorem zkA (hf:FineS L last) {i:Nat} (hi:L[i]? = some x) (h0:x.2.2=0):ofK L x.1=ofK (L.take i) x.1 ++ [x.2]∧∀y,ofK (L.set i (x.1,y)) x.1=ofK (L.take i) x.1 ++ [y]:=by
 obtain ⟨g,f⟩:=yao.1 hi;have j:L=L.take i ++ x::L.drop (i + 1):=by rw [←f,←ya3 g,ybg]
 have d:∀z,L.set i z=L.take i ++ z::L.drop (i + 1):=fun z=>by rw [ycn,yan g]
 have b:=hf.two;rw [j] at b;have k:ofK (L.drop (i + 1)) x.1=[]:=zgj.2 fun y m e=>by
  have:=(yaM.1 (yb6.1 b).2.1).1 y m e.symm;exact this.1 h0
 constructor
 · conv=>lhs;rw [j]
   rw [zex,ze3,yan rfl,k,yaJ]
 · intro y;rw [d,zex,ze3,yan rfl,k,yaJ]
theorem zqY {i:Nat} (hi:L[i]? = some x) (h:x.1≠k) (y:Iv):ofK (L.set i (x.1,y)) k=ofK L k:=by
 obtain ⟨d,b⟩:=yao.1 hi;have f:L=L.take i ++ x::L.drop (i + 1):=by rw [←b,←ya3 d,ybg]
 rw [ycn,yan d];conv=>rhs;rw [f]
 rw [zex,zex,ze3,ze3,yak h,yak h]
theorem zkz (hf:FineS L last) (k:ByteArray):zje (ofK L k)=decide (0≤zdh L k):=by
 by_cases h:zdh L k<0
 · rw [yaH (by omega)];have d:=zgk h;unfold zje;cases e:(ofK L k).getLast? with
   | none=>rfl
   | some y =>
    have f:=zg5.1 (List.mem_of_getLast? e);exact yaH (d _ f rfl)
 · rw [yaD (by omega)];obtain ⟨i,x,_,hi,rfl,b⟩:=ze4 h;rw [(zkA hf hi b).1,zd1,yaD b]
theorem putP_row (hf:FineS L last) (k:ByteArray) (r:Int):zgm L last k r=if r<1∨r<last∨zje (ofK L k)=true then none else some (L ++ [(k,r,0)]):=by
 unfold zgm;refine ite_congr (propext ?_) (fun _=>rfl) (fun _=>rfl);rw [zkz hf,yaP]
theorem ofK_put (L:List Sp) (k c:ByteArray) (r:Int):ofK (L ++ [(k,r,0)]) c=if k=c then ofK L c ++ [(r,0)] else ofK L c:=by
 rw [zex,zqr];by_cases h:k=c
 · rw [yan h,yan h]
 · rw [yak h,yak h,yaJ]
inductive DropIs (L:List Sp) (last:Int) (k:ByteArray) (r:Int):Prop
 | no (h:zbX L last k r=none) (hr:r<last∨zje (ofK L k)=false)
 | late (l:List Iv) (f:Int) (h:zbX L last k r=none) (hl:¬r<last) (hk:ofK L k=l ++ [(f,0)]) (hr:r≤f)
 | yes (l:List Iv) (f:Int) (L':List Sp) (h:zbX L last k r=some L') (hl:¬r<last) (hk:ofK L k=l ++ [(f,0)]) (hr:¬r≤f) (hk':ofK L' k=l ++ [(f,r)]) (ho:∀c,k≠c→ofK L' c=ofK L c) (hn:L'.length=L.length) (hm:∀x ∈ L',x.1=k∨x ∈ L)
theorem drop_is (hf:FineS L last) (k:ByteArray) (r:Int):DropIs L last k r:=by
 by_cases f:r<last
 · exact .no (by unfold zbX;rw [yan (Or.inl f)]) (Or.inl f)
 · by_cases m:zdh L k<0
   · exact .no (by unfold zbX;rw [yan (Or.inr (Or.inl m))]) (Or.inr (by rw [zkz hf,yaH (by omega)]))
   · obtain ⟨i,x,d,b,rfl,n⟩:=ze4 m;obtain ⟨j,o⟩:=zkA hf b n;have p:x.2=(x.2.1,0):=yb5 rfl n;rw [p] at j;by_cases g:r≤x.2.1
     · refine .late _ x.2.1 ?_ f j g;unfold zbX;rw [yan (Or.inr (Or.inr ?_))];rw [d,show ((i:Int)).toNat=i from rfl,b];exact g
     · refine .yes _ x.2.1 (L.set i (x.1,x.2.1,r)) ?_ f j g (o _) (fun c q=>zqY b q _) yaf fun y s=>?_
       · unfold zbX;rw [yak]
         · rw [d,show ((i:Int)).toNat=i from rfl];unfold endAt;rw [b]
         · rw [d,show ((i:Int)).toNat=i from rfl,b];rintro (z | z | z)
           · exact f z
           · omega
           · exact g z
       · rcases ycl s with h | h
         · exact Or.inr h
         · exact Or.inl (by rw [h])
theorem hasP_row (L:List Sp) (k:ByteArray) (r:Int):zdC L k r=(ofK L k).any fun y=>zbC (k,y) r:=by
 unfold zdC;induction L with
 | nil=>rfl
 | cons x L ih =>
  rw [List.any_cons,ze3,List.any_append,ih];congr 1
  by_cases h:x.1=k
  · subst h;rw [yan rfl,yaD rfl,Bool.and_true,List.any_cons,List.any_nil,Bool.or_false]
  · rw [yak h,yaH h,Bool.and_false];rfl
end
section
open Go.RowKit
variable {k:ByteArray} {w1:World}
section
variable {w w':World} {b:Nat} {cs:Array Value} {t:TypeId}
theorem Rk.apart {e:TypeId} {base size n:Nat} {v:Value} {xs:List Value} (h:Rk w b cs t) (hu:w.ownsRow base e size v n xs) (hne:t≠e):v.ownBlock≠some b:=fun hk=>by
 rcases hu.2 with ⟨rfl,_⟩ | ⟨j,f,g,rfl,_,d,_⟩
 · simp [Value.ownBlock] at hk
 simp only [Value.ownBlock,yaT] at hk;subst hk;rw [show w.heap[j]? = _ from h] at d;injection d with d
 injection d with _ k _
 exact hne k
theorem zfY {e:TypeId} {base size n:Nat} {v:Value} {xs:List Value} (h:w.ownsRow base e size v n xs) {j:Nat} (hj:v.ownBlock=some j):base≤j∧j<w.heap.size:=h.lt j hj
end
def zhJ (y:Iv):List Value:=[.int .i64 y.1,.int .i64 y.2]
def ics (l:List Iv):List Value:=l.flatMap zhJ
theorem ziT (l:List Iv):(ics l).length=l.length * 2:=by
 induction l with
 | nil=>rfl
 | cons a t ih=>rw [ics,yaS,yam,←ics,ih];simp [zhJ];omega
theorem zlx (a b:List Iv):ics (a ++ b)=ics a ++ ics b:=yaZ
theorem ziU (y:Iv):ics [y]=zhJ y:=by simp [ics]
theorem zpq (y:Iv):∀u ∈ zhJ y,u.oneCell'=true:=by
 intro u b;simp only [zhJ,yav,ya1,ybw] at b;rcases b with rfl | rfl <;> rfl
theorem zpr {l:List Iv} {i:Nat} {y:Iv} (h:l[i]? = some y):(ics l)[i * 2]? = some (.int .i64 y.1)∧(ics l)[i * 2 + 1]? = some (.int .i64 y.2):=by
 induction l generalizing i with
 | nil=>simp at h
 | cons a t ih =>
  rw [ics,yaS,←ics];cases i with
  | zero =>
   simp at h;subst h;exact ⟨rfl,rfl⟩
  | succ i =>
   obtain ⟨b,d⟩:=ih (by simpa using h);rw [yaF (by simp [zhJ];omega),yaF (by simp [zhJ];omega)];simp only [zhJ,yaq,yaI];rw [show (i + 1) * 2-(0 + 1 + 1)=i * 2 by omega,show (i + 1) * 2 + 1-(0 + 1 + 1)=i * 2 + 1 by omega];exact ⟨b,d⟩
theorem rd_iv {w:World} {B n c:Nat} {A:Option Addr} {l:List Iv} (h:Rd w B 2 A n c (ics l)) {i:Nat} {y:Iv} (hi:l[i]? = some y) :
 ∃b o,A=some ⟨b,o,none⟩∧b<B∧w.cell? ⟨b,o + i * 2,none⟩=some (.int .i64 y.1)∧w.cell? ⟨b,o + i * 2 + 1,none⟩=some (.int .i64 y.2):=by
 have j:0<n:=by
  have d:=h.len;have f:=ziT l;have k:=zg4 hi;omega
 obtain ⟨b,o,e,hb,g⟩:=h.at_ j;obtain ⟨d,f⟩:=zpr hi;exact ⟨b,o,e,hb,g _ _ d,by rw [ya4];exact g _ _ f⟩
def kL (k:ByteArray):Lit:=.string k.data.toList
theorem kL_inj {a b:ByteArray} (h:kL a=kL b):a=b:=ByteArray.ext (ycF.1 (Lit.string.inj h))
theorem kL_same (a b:ByteArray):(kL a).sameKey (kL b)=decide (a=b):=by
 by_cases h:a=b
 · subst h;rw [yaD rfl];simp [kL,Lit.sameKey]
 · rw [yaH h];simp only [kL,Lit.sameKey,ybc];exact fun e=>h (ByteArray.ext (ycF.1 e))
theorem zi4:Maps.Keyed Tryz.prog 9:=Maps.string_keyed Tryz.underlying9
theorem key14 (h:k.size≤maxLen):keyOf Tryz.prog 9 (.string k)=some (kL k):=by
 simp [keyOf,Tryz.underlying9,mapKey,h,kL]
def zqG:Value→Option (DataW Value × List MemPlace):=fun v=>some (.held v,[])
abbrev nilS:Value:=.slice none 0 0
theorem zeroS (w:World):(zeroValue 164).run Tryz.prog w = .ok nilS w:=Tryz.zeroValue164 w
structure MapR (w:World) (B b n:Nat) (G:ByteArray→List Iv) (V:ByteArray→Value):Prop where
 own:∃D:DataW Value,w.ownsMap Tryz.prog 9 zqG b n D∧(∀k:ByteArray,k.size≤maxLen→D.atKey (kL k) (.held nilS) = .held (V k))∧∀k:ByteArray,k.size≤maxLen→Maps.has D (kL k) = !(G k).isEmpty
 row:∀k,w.ownsRow B 163 2 (V k) (G k).length (ics (G k))
 two:∀k c j,(V k).ownBlock=some j→(V c).ownBlock=some j→k=c
theorem own_map {w w':World} {b n:Nat} {D:DataW Value} (h:w.ownsMap Tryz.prog 9 zqG b n D) (hs:w'.heap[b]? = w.heap[b]?):w'.ownsMap Tryz.prog 9 zqG b n D:=by
 obtain ⟨f,d,hb,r⟩:=h;exact ⟨f,d,hs.trans hb,r⟩
section
variable {w w':World} {B b n:Nat} {G:ByteArray→List Iv} {V:ByteArray→Value}
theorem MapR.lt (h:MapR w B b n G V):b<w.heap.size:=by
 obtain ⟨D,d,_⟩:=h.own;exact d.lt
theorem MapR.same (h:MapR w B b n G V) (hb:w'.heap[b]? = w.heap[b]?) (hr:∀k j,(V k).ownBlock=some j→w'.heap[j]? = w.heap[j]?):MapR w' B b n G V:=by
 obtain ⟨D,d,f,g⟩:=h.own;exact ⟨⟨D,own_map d hb,f,g⟩,fun k=>zau (h.row k) (hr k),h.two⟩
theorem MapR.congr {G':ByteArray→List Iv} (h:MapR w B b n G V) (e:∀k,G k=G' k):MapR w B b n G' V:=by
 rw [←funext e];exact h
theorem MapR.base {B':Nat} (h:MapR w B b n G V) (hB:B'≤B):MapR w B' b n G V:=⟨h.own,fun k=>zax (h.row k) hB,h.two⟩
theorem MapR.ne (h:MapR w B b n G V) {j:Nat} (hj:(V k).ownBlock=some j):j≠b:=fun e=>by
 obtain ⟨D,⟨p,d,hb,_⟩,_⟩:=h.own;rcases (h.row k).2 with ⟨f,_⟩ | ⟨q,m,o,f,_,g,_⟩
 · rw [f] at hj;simp [Value.ownBlock] at hj
 · rw [f] at hj;simp only [Value.ownBlock,yaT] at hj;subst hj;subst e;rw [g] at hb;cases hb
theorem MapR.look (h:MapR w B b n G V) (hk:k.size≤maxLen) (W:World) (hW:W.heap[b]? = w.heap[b]?):(Instr.lookup 122 (.map (some b)) (.string k) false).run Tryz.prog W = .ok (V k) W:=by
 obtain ⟨D,f,g,_⟩:=h.own;obtain ⟨v,ps,j,d⟩:=(own_map f hW).lookup zi4 Tryz.underlying122 (zeroS W) (zd:=.held nilS) (zp:=[]) rfl (key14 hk);rw [g k hk] at d;simp only [zqG,yaT,Prod.mk.injEq,DataW.held.injEq] at d;rw [j,d.1]
theorem MapR.made (w:World):MapR (w.alloc (.map #[] 0)) w.heap.size w.heap.size 0 (fun _=>[]) (fun _=>nilS) :=
 ⟨⟨_,World.ownsMap_made w Tryz.prog 9 zqG,fun _ _=>rfl,fun _ _=>rfl⟩,fun _=>World.ownsRow_nil _ _ _ _,fun k c j h=>by simp [Value.ownBlock] at h⟩
def pushG (G:ByteArray→List Iv) (k:ByteArray) (y:Iv):ByteArray→List Iv:=fun c=>if c=k then G k ++ [y] else G c
theorem zpx:(Tryz.prog.info? 163).map (fun i=>(i.zero,i.size,i.bytes))=some (some (.agg #[.int .i64 0,.int .i64 0]),2,16):=by kernel_rfl
theorem MapR.push (h:MapR w B b n G V) (hk:k.size≤maxLen) (y:Iv) (hn:n≤1000000) (hG:(G k).length≤1000000) (hB:B≤w.heap.size) (ad:Addr) (had:∀j u,(zhJ y)[j]? = some u→w.cell? (ad.add j)=some u) (ty:TypeId) :
 ∃g cap w1 w2 V',(Builtin.append_ #[164,164] ty #[V k,.slice (some ad) 1 1]).run Tryz.prog w = .ok (.slice (some ⟨g,0,none⟩) ((G k).length + 1) cap) w1 ∧
  (Instr.mapUpdate 122 (.map (some b)) (.string k) (.slice (some ⟨g,0,none⟩) ((G k).length + 1) cap)).run Tryz.prog w1 = .ok () w2 ∧
  MapR w2 B b (n + 1) (pushG G k y) V'∧w.grownBy w1 (V k).ownBlock∧w1.grownBy w2 (some b)∧(∀c j,(V' c).ownBlock=some j→(V c).ownBlock=some j∨(c=k∧j=w.heap.size)):=by
 obtain ⟨U,H,I,J,K⟩:=info_parts zpx;obtain ⟨g,cap,w1,L,x,o,p,X⟩:=run_append_lies (P:=Tryz.prog) w 164 ty B 163 U _ 2 16 Tryz.underlying164 H I J K rfl yac (V k) (G k).length (ics (G k)) (h.row k) ad 1 1 (zhJ y) rfl had (zpq y) yac yad yab hB w.heap.size rfl;have M:w1.heap[b]? = w.heap[b]?:=o.block b h.lt fun e=>h.ne e.symm rfl;obtain ⟨D,N,Y,Z⟩:=h.own;obtain ⟨w2,O,Q,R⟩:=(own_map N M).store zi4 Tryz.underlying122 yad (key:=.string k) (val:=.slice (some ⟨g,0,none⟩) ((G k).length + 1) cap) (d:=.held (.slice (some ⟨g,0,none⟩) ((G k).length + 1) cap)) (ps:=[]) (key14 hk) rfl;have A:=R.grown;have C:∀j:Nat,j<w1.heap.size→j≠b→w2.heap[j]? = w1.heap[j]?:=fun j f T=>A.block j f fun e=>T (by cases e;rfl);have a1:g≠b:=fun e=>by
  rcases p with q | q
  · exact h.ne q e
  · have:=h.lt;omega
 have E:∀c:ByteArray,c≠k→∀j,(V c).ownBlock=some j→w2.heap[j]? = w.heap[j]?:=fun c m j f=>by
  have F:=(zfY (h.row c) f).2;have e1:w1.heap[j]? = w.heap[j]?:=o.block j F fun e=>m (h.two c k j f e.symm);exact (C j (yaw F o.size) (h.ne f)).trans e1
 refine ⟨g,cap,w1,w2,fun c=>if c=k then .slice (some ⟨g,0,none⟩) ((G k).length + 1) cap else V c,L,O,⟨⟨_,Q,fun c m=>?_,fun c m=>?_⟩,fun c=>?_,fun c d j m s=>?_⟩,o,A,fun c j f=>?_⟩
 · by_cases e:c=k
   · subst e;rw [yan rfl,Maps.atKey_put_same (N.isMap) (by trivial)]
   · rw [yak e,Maps.atKey_put_other fun q=>e (kL_inj q),Y c m]
 · unfold pushG;by_cases e:c=k
   · subst e;rw [yan rfl,Maps.has_put_same N.isMap (by trivial)];cases G c <;> rfl
   · rw [yak e,Maps.has_put_other fun q=>e (kL_inj q),Z c m]
 · unfold pushG;by_cases e:c=k
   · subst e;rw [yan rfl,yan rfl,yam,zlx,ziU];exact zau x fun j f=>C j (x.lt j f).2 (by simp [Value.ownBlock] at f;omega)
   · rw [yak e,yak e];exact zau (h.row c) (E c e)
 · by_cases e:c=k
   · by_cases q:d=k
     · rw [e,q]
     · rw [yan e] at m;rw [yak q] at s;simp only [Value.ownBlock,yaT] at m;subst m;rcases p with z | z
       · exact absurd (h.two d k g s z) q
       · have:=(zfY (h.row d) s).2;omega
   · rw [yak e] at m;by_cases q:d=k
     · rw [yan q] at s;simp only [Value.ownBlock,yaT] at s;subst s;rcases p with z | z
       · exact absurd (h.two c k g m z) e
       · have:=(zfY (h.row c) m).2;omega
     · rw [yak q] at s;exact h.two c d j m s
 · dsimp only at f;by_cases e:c=k
   · rw [yan e] at f;simp only [Value.ownBlock,yaT] at f;subst f;rcases p with z | z
     · exact Or.inl (by rw [e];exact z)
     · exact Or.inr ⟨e,z⟩
   · rw [yak e] at f;exact Or.inl f
end
def Sk (w:World) (F:Nat→Prop) (g:Nat) (L:List Sp) (last:Int):Prop :=
 ∃b V,(∀j,F j↔j=g∨j=b∨∃k,(V k).ownBlock=some j)∧Rk w g #[.map (some b),.int .i64 last] 124∧MapR w 0 b L.length (ofK L) V∧∀x ∈ L,x.1.size≤1000000
theorem Sk.lt {w:World} {F:Nat→Prop} {g:Nat} {L:List Sp} {last:Int} (h:Sk w F g L last):∀b,F b→b<w.heap.size:=by
 obtain ⟨b,V,f,m,d,_⟩:=h;intro j n;rcases (f j).1 n with rfl | rfl | ⟨k,hk⟩
 · exact m.lt
 · exact d.lt
 · exact (zfY (d.row k) hk).2
theorem Sk.keep {w w':World} {F:Nat→Prop} {g:Nat} {L:List Sp} {last:Int} (h:Sk w F g L last) (hk:∀b,F b→w'.heap[b]? = w.heap[b]?):Sk w' F g L last:=by
 obtain ⟨b,V,d,f,m,n⟩:=h;exact ⟨b,V,d,f.same (hk g ((d g).2 (.inl rfl))),m.same (hk b ((d b).2 (.inr (.inl rfl)))) fun k j o=>hk j ((d j).2 (.inr (.inr ⟨k,o⟩))),n⟩
structure OnlyF (F:Nat→Prop) (w w':World):Prop where
 os:w'.os=w.os
 tape:w'.tape=w.tape
 output:w'.output=w.output
 le:w.heap.size≤w'.heap.size
 old:∀b,b<w.heap.size→¬F b→w'.heap[b]? = w.heap[b]?
theorem OnlyF.refl (F:Nat→Prop) (w:World):OnlyF F w w:=⟨rfl,rfl,rfl,yaj _,fun _ _ _=>rfl⟩
theorem OnlyF.grown {F:Nat→Prop} {w w2:World} {row:Option Nat} (h:OnlyF F w w1) (hg:w1.grownBy w2 row) (hr:∀r,row=some r→F r∨w.heap.size≤r):OnlyF F w w2 :=
 ⟨hg.os.trans h.os,hg.tape.trans h.tape,hg.output.trans h.output,yax h.le hg.size,fun b hb d=>(hg.block b (yaw hb h.le) fun e=>by
  rcases hr b e.symm with q | q
  · exact d q
  · omega).trans (h.old b hb d)⟩
theorem OnlyF.below {F:Nat→Prop} {w w2:World} (h:OnlyF F w w1) (hb:Below w1.heap.size w1 w2):OnlyF F w w2 :=
 h.grown (row:=none) ⟨hb.os,hb.tape,hb.output,hb.size,fun k hk _=>hb.block k hk⟩ fun r e=>by cases e
theorem OnlyF.drew {F:Nat→Prop} {w:World} (h:OnlyF F w w1):OnlyF F w w1.drew:=⟨h.os,h.tape,h.output,h.le,h.old⟩
theorem OnlyF.set {F:Nat→Prop} {w:World} (h:OnlyF F w w1) {a:Addr} (ha:F a.block∨w.heap.size≤a.block) (v:Value):OnlyF F w (w1.setCell a v) :=
 ⟨h.os,h.tape,h.output,by simpa [World.setCell] using h.le,fun b hb d=>(Below.heap_setCell _ _ _ _ fun e=>by
  rcases ha with q | q
  · exact d (e ▸ q)
  · omega).trans (h.old b hb d)⟩
theorem OnlyF.own {F F':Nat→Prop} {w w':World} (h:OnlyF F w w') (hF:∀b,F' b→F b∨w.heap.size≤b):Own14 F F' w w' :=
 ⟨h.le,h.old,hF,fun B f d=>⟨h.os,h.tape,h.output,h.le,fun k hk=>h.old k (yaw hk f) fun q=>by have:=d k q;omega⟩⟩
end
section
open Go.RowKit
theorem info_rev:(Tryz.prog.info? 100).map (fun i=>(i.zero,i.size,i.bytes))=some (some (.agg #[.int .i64 0,.string ⟨#[]⟩,.string ⟨#[]⟩,.string ⟨#[]⟩,.bool false,.slice none 0 0,.string ⟨#[]⟩,.slice none 0 0,.map none,.slice none 0 0]),10,160):=by kernel_rfl
theorem Rk.c4x {w:World} {b:Nat} {t:TypeId} {x0 x1 x2 x3:Value} (h:Rk w b #[x0,x1,x2,x3] t):w.cell? ⟨b,0,none⟩=some x0∧w.cell? ⟨b,1,none⟩=some x1∧w.cell? ⟨b,2,none⟩=some x2∧w.cell? ⟨b,3,none⟩=some x3:=⟨h.cell 0,h.cell 1,h.cell 2,h.cell 3⟩
theorem Rk.c8x {w:World} {b:Nat} {t:TypeId} {x0 x1 x2 x3 x4 x5:Value} (h:Rk w b #[x0,x1,x2,x3,x4,x5] t):w.cell? ⟨b,0,none⟩=some x0∧w.cell? ⟨b,1,none⟩=some x1∧w.cell? ⟨b,2,none⟩=some x2∧w.cell? ⟨b,3,none⟩=some x3∧w.cell? ⟨b,4,none⟩=some x4∧w.cell? ⟨b,5,none⟩=some x5:=⟨h.cell 0,h.cell 1,h.cell 2,h.cell 3,h.cell 4,h.cell 5⟩
section
variable {S:SpW} {f:CoF} {X Y F F':Nat→Prop} {w w':World} {g:Nat} {s:Sto Tb Nd15} {L:List Sp} {last:Int} {m:Mm}
theorem badd_any (K:SpK S) (h:StR S X w F g s L last m) (tx:ByteArray) (Ay:Option Addr) (ny cy:Nat) (mb:Option Nat) (Ar:Option Addr) (nr cr:Nat) (r0:Int) (b1 b2 b3:ByteArray) (sc:Bool) (Ak:Option Addr) (nk ck:Nat) (hmax:revB s + 1≤9223372036854775807) (hfew:m.l.length≤63) :
 Calls Tryz.prog 39 #[.pointer (some ⟨g,0,none⟩),.agg #[.string tx,.slice Ay ny cy,.map mb,.slice Ar nr cr],.agg #[.int .i64 r0,.string b1,.string b2,.string b3,.bool sc,.slice Ak nk ck]] w fun e w' =>
  e = .returned (.tuple #[])∧∃ga ca,w'.ownsRow 0 100 10 (.slice (some ⟨ga,0,none⟩) (m.l.length + 1) ca) (m.l.length + 1) (m.l.flatMap Rm.cells ++ [.int .i64 (revB s + 1),.string b1,.string b2,.string b3,.bool sc,.slice Ak nk ck,.string tx,.slice Ay ny cy,.map mb,.slice Ar nr cr]) ∧
   Rk w' g #[.pointer (some ⟨m.gs,0,none⟩),.int .i64 s.quota,.int .i64 s.floor,.string m.t.tx,.slice m.t.Ay m.t.ty.length m.t.cy,.map m.t.mb,.slice m.t.Ar m.t.K.length m.t.cr,.slice (some ⟨ga,0,none⟩) (m.l.length + 1) ca] 80∧(m.row.ownBlock=some ga∨w.heap.size≤ga)∧OnlyF (fun j=>j=g∨m.row.ownBlock=some j) w w':=by
 obtain ⟨i0,T,U,V,Y⟩:=info_parts info_rev;have a7 : -9223372036854775808≤revB s + 1:=by have:=h.rev_eq;have:=h.floor0;omega
 have e1:IntKind.i64.wrap (revB s + 1)=revB s + 1:=IntWalk.i64_in _ ⟨by omega,by omega⟩;have u:Below w.heap.size w ((w.alloc (.cells #[.string tx,.slice Ay ny cy,.map mb,.slice Ar nr cr] 61)).alloc (.cells #[.int .i64 r0,.string b1,.string b2,.string b3,.bool sc,.slice Ak nk ck] 71)):=(zaM w _).alloc yaf _;have M:=(Rk.new w #[.string tx,.slice Ay ny cy,.map mb,.slice Ar nr cr] 61).alloc (.cells #[.int .i64 r0,.string b1,.string b2,.string b3,.bool sc,.slice Ak nk ck] 71);have C:=Rk.new (w.alloc (.cells #[.string tx,.slice Ay ny cy,.map mb,.slice Ar nr cr] 61)) #[.int .i64 r0,.string b1,.string b2,.string b3,.bool sc,.slice Ak nk ck] 71;rw [World.size_alloc] at C;have Z:=h.up K u;have k1:=zcP Z;go_enter Tryz.func39,Tryz.ntmps39
 go_upto_region 1 with (fail)
 generalize (w.alloc (.cells #[.string tx,.slice Ay ny cy,.map mb,.slice Ar nr cr] 61)).alloc (.cells #[.int .i64 r0,.string b1,.string b2,.string b3,.bool sc,.slice Ak nk ck] 71)=w1 at *
 have yl:=C.lt;go_upto_region 2 with (go_at_call 17;refine k1.mono ?_;rintro e J ⟨rfl,d⟩;have f:Rk J (w.heap.size + 1) _ _:=C.same (d.block _ C.lt);have y2:=f.cell 0;have a1:=f.fz;have a2:=f.lt)
 have N:Rk J w.heap.size _ _:=M.same (d.block _ M.lt);have h2:=Z.up K d;have O:=zad u u.size d;clear k1 d Z;have a8:g<w.heap.size:=h.box.lt;have k:∀j,m.row.ownBlock=some j→j<w.heap.size:=fun j q=>(h.row.lt j q).2;have D:Rk (J.setCell ⟨w.heap.size + 1,0,none⟩ (.int .i64 (revB s + 1))) (w.heap.size + 1) #[.int .i64 (revB s + 1),.string b1,.string b2,.string b3,.bool sc,.slice Ak nk ck] 71:=by
  have q:=f.set 0 (.int .i64 (revB s + 1));simp only [yaE,yaU] at q;exact q
 have E:=N.other (a:=⟨w.heap.size + 1,0,none⟩) (show w.heap.size≠w.heap.size + 1 by omega) (.int .i64 (revB s + 1));have b:=h2.box.other (a:=⟨w.heap.size + 1,0,none⟩) (show g≠w.heap.size + 1 by omega) (.int .i64 (revB s + 1));have x:=zau (w':=J.setCell ⟨w.heap.size + 1,0,none⟩ (.int .i64 (revB s + 1))) h2.row fun j q=>Below.heap_setCell _ _ _ _ (show j≠w.heap.size + 1 by have:=k j q;omega);have y:Below w.heap.size w (J.setCell ⟨w.heap.size + 1,0,none⟩ (.int .i64 (revB s + 1))):=O.setCell (ya8 _) _;generalize J.setCell ⟨w.heap.size + 1,0,none⟩ (.int .i64 (revB s + 1))=p at *
 clear C f y2 a1 a2 yl M N h2 O u;unfold boxC at b;have aa:Rk p.drew g _ _:=b;have ab:Rk p.drew w.heap.size _ _:=E;have ac:Rk p.drew (w.heap.size + 1) _ _:=D;have ad:=zad y y.size (zbj p);have c7:p.cell? ⟨g,7,none⟩=some (.slice m.A m.l.length m.c):=b.cell 7;have G:=fun W (M:Rk W w.heap.size #[.string tx,.slice Ay ny cy,.map mb,.slice Ar nr cr] 61) (C:Rk W (w.heap.size + 1) #[.int .i64 (revB s + 1),.string b1,.string b2,.string b3,.bool sc,.slice Ak nk ck] 71)=>(⟨M.c4x,C.c8x⟩:_∧_);obtain ⟨⟨x0,x1,x2,x3⟩,y0,y1,y2,y3,y4,y5⟩:=G _ E D;have gl:=b.lt;have xl:=E.lt;have yl:=D.lt;have ax:m.row.ownBlock≠some w.heap.size:=fun q=>by have:=k _ q;omega
 have ay:m.row.ownBlock≠some (w.heap.size + 1):=fun q=>by have:=k _ q;omega
 have R:m.row.ownBlock≠some g:=Rk.apart h.box h.row yac;have nx:g≠w.heap.size:=by omega
 have ae:g≠w.heap.size + 1:=by omega
 obtain ⟨n,H⟩:∃n,m.l.length=n:=⟨_,rfl⟩;unfold Mm.row at x ax ay R k;rw [H] at x c7 hfew ax ay R k;obtain ⟨xs,z⟩:∃xs,m.l.flatMap Rm.cells=xs:=⟨_,rfl⟩;rw [z] at x;replace H:=Lib.hid H;replace z:=Lib.hid z;go_region_law
  ((refine step_append_lies _ yae _ _ _ yae 0 100 i0 _ 10 160 Tryz.underlying78 T U V Y rfl yab (.slice m.A n m.c) n xs yae ((zan x (zaM p _)).drew) ⟨p.heap.size,0,none⟩ 1 1 [.int .i64 (revB s + 1),.string b1,.string b2,.string b3,.bool sc,.slice Ak nk ck,.string tx,.slice Ay ny cy,.map mb,.slice Ar nr cr] yae yae (World.news_of_block (cs:=#[.int .i64 (revB s + 1),.string b1,.string b2,.string b3,.bool sc,.slice Ak nk ck,.string tx,.slice Ay ny cy,.map mb,.slice Ar nr cr]) (t:=100) (fr:=(0,0)) (heap_alloc_new p _)) (by simp [Value.oneCell']) yab yad yab (yap _) (p.heap.size + 1) yaf ?_;intro gg cap w8 I o P af;have B:Rk w8 g _ _:=Rk.same (b.alloc _) (o.block g yag (Ne.symm R));have ah:=B.cell 7;have ai:=B.fz;have aj:=B.lt))
 all_goals go_wp2_with fail
 all_goals go_end0
 all_goals (
  have a6:gg≠g:=fun e=>by
   rcases P with q | q
   · exact R (by rw [q,e])
   · have:=b.lt;omega
  have Q:=B.set 7 (.slice (some ⟨gg,0,none⟩) (n + 1) cap);simp only [yaE,yaU,yaV] at Q;refine ⟨rfl,gg,cap,?_,?_,?_,?_⟩
  · rw [H.out,z.out];exact zau I fun j hj=>Below.heap_setCell _ _ _ _ (by simp [Value.ownBlock] at hj;simpa [←hj] using a6)
  · rw [H.out];exact Q
  · unfold Mm.row;rw [H.out];rcases P with q | q
    · exact .inl q
    · have:=y.size;exact .inr yab
  · unfold Mm.row;rw [H.out];exact (((((OnlyF.refl _ w).below (y.mono (yaj _))).below (zaM p _)).drew).grown o fun r q=>.inl (.inr q)).set (a:=⟨g,7,none⟩) (.inl (.inl rfl)) _)
end
end
end Go.Proofs.YtmblgnddgmfkhaaGreat
