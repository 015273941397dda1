import Derived.Test.YtmblgnddgmfkhaaGreatK43
set_option maxRecDepth 100000
set_option maxHeartbeats 4000000
namespace Go.Proofs.YtmblgnddgmfkhaaGreat
section
open Go.RowKit
variable {i:Nat} {a:Ac15} {l:List Ac15}
def ze4 (l:List (TuP × Bool)):Bool:=l.all fun u=>decide ((za4 u.1).size≤400)
def fewA (a:Ac15):Bool:=decide (a.p.length≤20) && (decide (a.d.length≤20) && (decide (a.text.size≤2100) && (decide (a.by_.1.size + a.by_.2.1.size + a.by_.2.2.size≤100) && (ze4 a.p && ze4 a.d))))
def fewL (l:List Ac15):Bool:=l.all fewA && decide (l.length≤24)
theorem zix (a:Ac15):a.cells.length=8:=rfl
theorem zhu {u:TuP} {m:Nat} (h:∀z ∈ zav u,z.size≤m):(za4 u).size≤6 * (m + 1):=by
 have k:=ze3 (zrb u.1.1 u.1.2.1 u.1.2.2 u.2.1 u.2.2.1 u.2.2.2) (m:=m) (n:=6) (fun i hi=>by
  obtain rfl | rfl | rfl | rfl | rfl | rfl:i=0∨i=1∨i=2∨i=3∨i=4∨i=5:=by omega
  all_goals exact h _ (by simp [zav,zrb])) 5 yab
 rw [ziW] at k;exact k
theorem ziZ {l:List (TuP × Bool)} {u:TuP × Bool} (h:l[i]? = some u) (hk:400<(za4 u.1).size):ze4 l=false:=by
 refine ya3.2 fun q=>?_;have:=yaL (ybr.1 q u (yaq h));omega
theorem zdt:fewA a=true↔(a.p.length≤20∧a.d.length≤20∧a.text.size≤2100∧a.by_.1.size + a.by_.2.1.size + a.by_.2.2.size≤100∧ze4 a.p=true∧ze4 a.d=true):=by
 simp only [fewA,ybc,yaP]
theorem fewA_no (h:¬(a.p.length≤20∧a.d.length≤20∧a.text.size≤2100∧a.by_.1.size + a.by_.2.1.size + a.by_.2.2.size≤100)):fewA a=false :=
 ya3.2 fun q=>h (by have:=zdt.1 q;exact ⟨this.1,this.2.1,this.2.2.1,this.2.2.2.1⟩)
theorem zhx {l:List (TuP × Bool)} (h:∀u ∈ l.take l.length,(za4 u.1).size≤400):ze4 l=true:=by
 rw [yaz] at h;exact ybr.2 fun u b=>yaB (h u b)
theorem fewL_yes (h:∀a ∈ l.take l.length,fewA a=true):fewL l=decide (l.length≤24):=by
 rw [yaz] at h;unfold fewL;rw [ybr.2 h,ycl]
theorem zh6 {α:Type _} {P:α→Prop} {l:List α} {x:α} (hx:l[i]? = some x) (h:∀y ∈ l.take i,P y) (hp:P x):∀y ∈ l.take (i + 1),P y:=by
 intro y b;rw [yaC,hx] at b;rcases yaA.1 b with q | q
 · exact h y q
 · obtain rfl:y=x:=by simpa using q
   exact hp
theorem zl0 (h:l[i]? = some a) (hk:fewA a=false):fewL l=false:=by
 refine ya3.2 fun q=>?_;have:=ybr.1 (Bool.and_eq_true_iff.1 q).1 a (yaq h);rw [hk] at this;cases this
section
variable {w:World}
theorem few15_any {A:Option Addr} {c:Nat} (h:Rd w w.heap.size 8 A l.length c (l.flatMap Ac15.cells)) (ho:∀a ∈ l,a.ok 140737488351232 w) :
 Calls Tryz.prog 10 #[.slice A l.length c] w fun e w'=>e = .returned (.bool (fewL l))∧Below w.heap.size w w':=by
 have a2:(l.length:Int)≤9223372036854775807:=by have:=h.cap;have:=h.capm;unfold maxLen at this;omega
 obtain ⟨R,x⟩:∃R,Hid (fewL l=R):=⟨_,Lib.hid rfl⟩;rw [x.out];go_enter Tryz.func10,Tryz.ntmps10
 go_wp2_with fail
 go_loopw [3] (fun Q G=>∃i:Nat,Q = .int .i64 i∧i≤l.length∧Below w.heap.size w G∧Hid (∀a ∈ l.take i,fewA a=true)) (fun Q _=>l.length-(intOf Q).toNat)
 case atStart=>exact ⟨0,rfl,yao _,Below.refl _ _,Lib.hid fun _ q=>by simp at q⟩
 case round =>
  obtain ⟨i,rfl,hi,hb,m⟩:=hrel;by_cases T:i<l.length
  · have di:(i:Int)<(l.length:Int):=by omega
    have d0:(0:Int)≤(i:Int):=by omega
    obtain ⟨a,F⟩:∃a,l[i]? = some a:=⟨_,yal T⟩;obtain ⟨b3,o3,rfl,a6,C⟩:=zc5 Ac15.cells zix (h.below hb) rfl F;have g1:=C 1 _ rfl;have g2:=C 2 _ rfl;have g3:=C 3 _ rfl;have g4:=C 4 _ rfl;have g5:=C 5 _ rfl;have g6:=C 6 _ rfl;obtain ⟨_,_,⟨z1,z2,z3⟩,z4,rp,rd,np,nd⟩:=ho a (yaq F);by_cases H:a.p.length≤20∧a.d.length≤20∧a.text.size≤2100∧a.by_.1.size + a.by_.2.1.size + a.by_.2.2.size≤100;case neg =>
     obtain rfl:R=false:=x.out.symm.trans (zl0 F (fewA_no H));clear x m;by_cases p1:20<a.p.length
     · have q1:(20:Int)<(a.p.length:Int):=by omega
       go_upto_region 4 with (fail)
       go_quiet (fail)
       go_wp2_with fail
       go_returns
       exact ⟨rfl,hb.trans (zam _ _ _)⟩
     have q1:¬(20:Int)<(a.p.length:Int):=by omega
     by_cases p2:20<a.d.length
     · have q2:(20:Int)<(a.d.length:Int):=by omega
       go_upto_region 4 with (fail)
       go_quiet (fail)
       go_wp2_with fail
       go_returns
       exact ⟨rfl,hb.trans (zam _ _ _)⟩
     have q2:¬(20:Int)<(a.d.length:Int):=by omega
     by_cases p3:2100<a.text.size
     · have q3:(2100:Int)<(a.text.size:Int):=by omega
       go_upto_region 4 with (fail)
       go_quiet (fail)
       go_wp2_with fail
       go_returns
       exact ⟨rfl,hb.trans (zam _ _ _)⟩
     have q3:¬(2100:Int)<(a.text.size:Int):=by omega
     have q4:(100:Int)<(a.by_.1.size:Int) + (a.by_.2.1.size:Int) + (a.by_.2.2.size:Int):=by omega
     go_upto_region 4 with (fail)
     go_quiet (fail)
     go_wp2_with fail
     go_returns
     exact ⟨rfl,hb.trans (zam _ _ _)⟩
    have q1:¬(20:Int)<(a.p.length:Int):=by omega
    have q2:¬(20:Int)<(a.d.length:Int):=by omega
    have q3:¬(2100:Int)<(a.text.size:Int):=by omega
    have q4:¬(100:Int)<(a.by_.1.size:Int) + (a.by_.2.1.size:Int) + (a.by_.2.2.size:Int):=by omega
    go_upto_region 4 with (fail)
    go_quiet (fail)
    have I:=hb.trans (zam wr w.heap.size nq);have J:(wr.drewN nq).cell? _=_:=g4;have K:(wr.drewN nq).cell? _=_:=g5;clear g1 g2 g3 g4 g5 g6 C hb;generalize wr.drewN nq=W1 at *
    go_wp2_with fail
    go_loopw [4] (fun D G=>∃j:Nat,D = .int .i64 j∧j≤a.p.length∧Below W1.heap.size W1 G∧Hid (∀u ∈ a.p.take j,(za4 u.1).size≤400)) (fun D _=>a.p.length-(intOf D).toNat)
    case atStart=>exact ⟨0,rfl,yao _,Below.refl _ _,Lib.hid fun _ q=>by simp at q⟩
    case round =>
     obtain ⟨j,rfl,hj,f,s⟩:=hrel;have g:=zac I I.size f;have f4:=zbd J f;by_cases y:j<a.p.length
     · have P:(j:Int)<(a.p.length:Int):=by omega
       have U:(0:Int)≤(j:Int):=by omega
       obtain ⟨u,z⟩:∃u,a.p[j]? = some u:=⟨_,yal y⟩;obtain ⟨b4,o4,L,M,b⟩:=zc5 za5 zdp (rp.below g) rfl z;have n:=np u (yaq z);have ku:=zhu n;have o:∀W:World,Calls Tryz.prog 21 #[.agg #[.string u.1.1.1,.string u.1.1.2.1,.string u.1.1.2.2,.string u.1.2.1,.string u.1.2.2.1,.string u.1.2.2.2]] W fun e w'=>e = .returned (.string (za4 u.1))∧Below W.heap.size W w':=fun W=>rkey_any12 (w:=W) u.1.1.1 u.1.1.2.1 u.1.1.2.2 u.1.2.1 u.1.2.2.1 u.1.2.2.2 (n _ (by simp [zav])) (n _ (by simp [zav])) (n _ (by simp [zav])) (n _ (by simp [zav])) (n _ (by simp [zav])) (n _ (by simp [zav]));rw [L] at f4;clear L;have V:=b 0 _ rfl;have y1:=b 1 _ rfl;have y2:=b 2 _ rfl;have y3:=b 3 _ rfl;have y4:=b 4 _ rfl;have y5:=b 5 _ rfl;rw [ybH] at V;clear b n;by_cases E:400<(za4 u.1).size
       · obtain rfl:R=false:=x.out.symm.trans (zl0 F (ya3.2 fun q=>by have:=(zdt.1 q).2.2.2.2.1;rw [ziZ z E] at this;cases this));have X:(400:Int)<((za4 u.1).size:Int):=by omega
         clear x m;go_upto_region 9 with (go_at_call 21;refine (o _).mono ?_;rintro e N ⟨rfl,k⟩)
         go_wp2_with (go_at_call 21;refine (o _).mono ?_;rintro e N ⟨rfl,k⟩)
         go_returns
         exact ⟨rfl,zac g g.size k⟩
       have X:¬(400:Int)<((za4 u.1).size:Int):=by omega
       go_wp2_with (go_at_call 21;refine (o _).mono ?_;rintro e N ⟨rfl,k⟩)
       exact ⟨⟨j + 1,by go_num,by omega,zac f f.size k,Lib.hid (zh6 z s.out yab)⟩,by simp [intOf];omega⟩
     · have P:¬(j:Int)<(a.p.length:Int):=by omega
       obtain rfl:j=a.p.length:=by omega
       have Y:=zhx s.out;have O:=g;have Z:=zbd K f;go_upto_region 11 with (fail)
       clear f g f4 s y P hj J K;generalize wr=W2 at *
       go_wp2_with fail
       go_loopw [5] (fun D G=>∃j:Nat,D = .int .i64 j∧j≤a.d.length∧Below W2.heap.size W2 G∧Hid (∀u ∈ a.d.take j,(za4 u.1).size≤400)) (fun D _=>a.d.length-(intOf D).toNat)
       case atStart=>exact ⟨0,rfl,yao _,Below.refl _ _,Lib.hid fun _ q=>by simp at q⟩
       case round =>
        obtain ⟨j,rfl,hj,f,s⟩:=hrel;have g:=zac O O.size f;have f5:=zbd Z f;by_cases y:j<a.d.length
        · have P:(j:Int)<(a.d.length:Int):=by omega
          have U:(0:Int)≤(j:Int):=by omega
          obtain ⟨u,z⟩:∃u,a.d[j]? = some u:=⟨_,yal y⟩;obtain ⟨b4,o4,L,M,b⟩:=zc5 za5 zdp (rd.below g) rfl z;have n:=nd u (yaq z);have ku:=zhu n;have o:∀W:World,Calls Tryz.prog 21 #[.agg #[.string u.1.1.1,.string u.1.1.2.1,.string u.1.1.2.2,.string u.1.2.1,.string u.1.2.2.1,.string u.1.2.2.2]] W fun e w'=>e = .returned (.string (za4 u.1))∧Below W.heap.size W w':=fun W=>rkey_any12 (w:=W) u.1.1.1 u.1.1.2.1 u.1.1.2.2 u.1.2.1 u.1.2.2.1 u.1.2.2.2 (n _ (by simp [zav])) (n _ (by simp [zav])) (n _ (by simp [zav])) (n _ (by simp [zav])) (n _ (by simp [zav])) (n _ (by simp [zav]));rw [L] at f5;clear L;have V:=b 0 _ rfl;have y1:=b 1 _ rfl;have y2:=b 2 _ rfl;have y3:=b 3 _ rfl;have y4:=b 4 _ rfl;have y5:=b 5 _ rfl;rw [ybH] at V;clear b n;by_cases E:400<(za4 u.1).size
          · obtain rfl:R=false:=x.out.symm.trans (zl0 F (ya3.2 fun q=>by have:=(zdt.1 q).2.2.2.2.2;rw [ziZ z E] at this;cases this));have X:(400:Int)<((za4 u.1).size:Int):=by omega
            clear x m;go_upto_region 14 with (go_at_call 21;refine (o _).mono ?_;rintro e N ⟨rfl,k⟩)
            go_wp2_with (go_at_call 21;refine (o _).mono ?_;rintro e N ⟨rfl,k⟩)
            go_returns
            exact ⟨rfl,zac g g.size k⟩
          have X:¬(400:Int)<((za4 u.1).size:Int):=by omega
          go_wp2_with (go_at_call 21;refine (o _).mono ?_;rintro e N ⟨rfl,k⟩)
          exact ⟨⟨j + 1,by go_num,by omega,zac f f.size k,Lib.hid (zh6 z s.out yab)⟩,by simp [intOf];omega⟩
        · have P:¬(j:Int)<(a.d.length:Int):=by omega
          obtain rfl:j=a.d.length:=by omega
          have a1:=zhx s.out;go_wp2_with fail
          exact ⟨⟨i + 1,by go_num,by omega,g,Lib.hid (zh6 F m.out (zdt.2 ⟨H.1,H.2.1,H.2.2.1,H.2.2.2,Y,a1⟩))⟩,by simp [intOf];omega⟩
  · have a7:¬(i:Int)<(l.length:Int):=by omega
    obtain rfl:i=l.length:=by omega
    have B:=x.out.symm.trans (fewL_yes m.out);clear x;have a8:decide ((l.length:Int)≤24)=R:=by
     rw [B];exact decide_eq_decide.2 yab
    clear B;go_wp2
    go_ret
    exact ⟨rfl,hb⟩
end
end
section
open Go.RowKit
section
variable {S:SpW} {f:CoF} {Z:Nat→Prop} {w:World} {g:Nat} {s:Sto Tb Nd15} {n:Nat}
theorem Ib.floor (h:Ib S f Z w g s n):Calls Tryz.prog 18 #[.pointer (some ⟨g,0,none⟩)] w fun e w'=>e = .returned (.int .i64 s.floor)∧Below w.heap.size w w':=by
 obtain ⟨X,F,L,b,m,h,j,k,o⟩:=h;refine (zdv h.toStR).mono ?_;rintro e w' ⟨rfl,rfl⟩;exact ⟨rfl,Below.refl _ _⟩
theorem Ib.kept (h:Ib S f Z w g s n) (r:Int):Calls Tryz.prog 30 #[.pointer (some ⟨g,0,none⟩),.int .i64 r] w fun e w'=>e = .returned (.bool (zaw s r))∧Below w.heap.size w w':=by
 obtain ⟨X,F,L,b,m,h,j,k,o⟩:=h;exact zft h r
theorem Ib.schema (K:SpK S) (h:Ib S f Z w g s n) (r:Int):Calls Tryz.prog 26 #[.pointer (some ⟨g,0,none⟩),.int .i64 r] w fun e w'=>(∃t:Tm,e = .returned t.val∧TabK w' t.Ar t.cr t.K∧t.tx=(atB s r).text∧t.tb=(atB s r).T)∧Below w.heap.size w w':=by
 obtain ⟨X,F,L,b,m,h,q,u,x⟩:=h;refine (schema15_any K h r).mono ?_;rintro e w' ⟨⟨t,rfl,j,k,o⟩,hb⟩;exact ⟨⟨t,rfl,j.at_.rels,k,o⟩,hb⟩
theorem Ib.recNo (K:SpK S) (h:Ib S f Z w g s n) {r:Int} (hr:¬(s.floor<r∧r≤revB s)):Calls Tryz.prog 29 #[.pointer (some ⟨g,0,none⟩),.int .i64 r] w fun e w'=>e = .returned (.tuple #[zk1,.bool false])∧Below w.heap.size w w':=by
 obtain ⟨X,F,L,b,m,h,j,k,o⟩:=h;exact rec_no K h hr
theorem Ib.recYes (K:SpK S) (h:Ib S f Z w g s n) (hz:SzB s) {r:Int} (hr:s.floor<r∧r≤revB s) :
 Calls Tryz.prog 29 #[.pointer (some ⟨g,0,none⟩),.int .i64 r] w fun e w'=>(∃A c,e = .returned (.tuple #[aRec r (atB s r) A c,.bool true])∧Rd w' w'.heap.size 1 A (atB s r).wrote.length c (ks (atB s r).wrote))∧Below w.heap.size w w':=by
 obtain ⟨X,F,L,b,m,h,j,k,o⟩:=h;exact rec_yes K h hz hr
theorem Ib.changes (K:SpK S) (h:Ib S f Z w g s n) (r:Int) (hr : -9223372036854775808≤r∧r≤9223372036854775807) :
 Calls Tryz.prog 22 #[.pointer (some ⟨g,0,none⟩),.int .i64 r] w fun e w'=>(∃A c,e = .returned (.slice A (zaU s r).length c)∧Rd w' w'.heap.size 7 A (zaU s r).length c (((zaU s r).map ofU).flatMap za5))∧Below w.heap.size w w':=by
 obtain ⟨X,F,L,b,m,h,j,k,o⟩:=h;exact changes_any K h r hr
end
end
section
open Go.RowKit
section
variable {τ ν α:Type} [Inhabited τ] [Inhabited ν] {p:Bp τ α} {s:Sto τ ν}
theorem zrz (hs:OkB p s) (n:ν) (q c:List (α × Bool)):(zaE p s n q c).1.quota=s.quota∧revB (zaE p s n q c).1=revB s + (if (zaE p s n q c).2.1=0 then 1 else 0):=by
 by_cases e:(zaE p s n q c).2.1=0
 · obtain ⟨_,_,_,_,_,_,k,_,_,_,h⟩:=zen hs e;rw [h];exact ⟨rfl,by rw [za0];rfl⟩
 · rw [zfQ e,yak e];exact ⟨rfl,by omega⟩
theorem zo3 (s:Sto τ ν) (n:ν) (x:ByteArray):(zaC p s n x).1.quota=s.quota∧revB (zaC p s n x).1=revB s + (if (zaC p s n x).2=0 then 1 else 0):=by
 by_cases e:(zaC p s n x).2=0
 · rw [yan e];unfold zaC at e ⊢;split
   · rename_i b
     rw [yan b] at e;split
     · rename_i f
       rw [yan f] at e;split
       · rename_i g
         rw [yan g] at e;cases e
       · exact ⟨rfl,za0 _ _⟩
     · rename_i f
       rw [yak f] at e;exact absurd e f
   · rename_i b
     rw [yak b] at e;exact absurd e b
 · rw [zon e,yak e];exact ⟨rfl,by omega⟩
end
theorem rev_trim {τ ν:Type} [Inhabited τ] [Inhabited ν] (s:Sto τ ν) (r:Int):(zbq s r).1.quota=s.quota∧revB (zbq s r).1=revB s:=by
 refine ⟨zjd s r,?_⟩;cases h:zaw s r with
 | true=>exact (zgI h (ybf _)).1
 | false=>unfold zbq;rw [h];rfl
theorem Ac15.ok.up {R:Nat} {w w':World} {a:Ac15} (h:a.ok R w) (hb:Below w.heap.size w w'):a.ok R w':=⟨h.kind,h.rev,h.by_,h.text,h.rp.up hb,h.rd.up hb,h.np,h.nd⟩
theorem fewL_iff {l:List Ac15} (h:fewL l=true):(∀a ∈ l,fewA a=true)∧l.length≤24:=by
 obtain ⟨b,f⟩:=Bool.and_eq_true_iff.1 h;exact ⟨ybr.1 b,yaL f⟩
theorem zhy {l:List (TuP × Bool)} (h:ze4 l=true):∀x ∈ l,(za4 x.1).size≤100000:=fun x b=>by
 have:=yaL (ybr.1 h x b);omega
structure In15 (f:CoF) (Z:Nat→Prop) (w:World) (g:Nat) (s:Sto Tb Nd15) (i:Nat) (q:Int):Prop where
 sto:Ib Sk f Z w g s (16 * i)
 rev:revB s≤i
 sz:SzB s
 quo:s.quota=q
section
variable {f:CoF} {Z:Nat→Prop} {w w':World} {g i:Nat} {s:Sto Tb Nd15} {q:Int}
theorem Ib.weak {S:SpW} {n m:Nat} (h:Ib S f Z w g s n) (hm:n≤m):Ib S f Z w g s m:=by
 obtain ⟨X,F,L,j,x,a,b,c,d⟩:=h;exact ⟨X,F,L,j,x,a,b,c,yay d hm⟩
theorem In15.up (h:In15 f Z w g s i q) (hb:Below w.heap.size w w'):In15 f Z w' g s i q:=⟨h.sto.up zcC hb,h.rev,h.sz,h.quo⟩
theorem In15.more (h:In15 f Z w g s i q) (hb:Below w.heap.size w w') {Z':Nat→Prop} (hz:∀b,Z' b→(Z b∨w.heap.size≤b)∧b<w'.heap.size):In15 f Z' w' g s i q:=⟨h.sto.more zcC hb hz,h.rev,h.sz,h.quo⟩
theorem in_new {q:Int} (hq:0≤q) (w:World) :
 Calls Tryz.prog 11 #[.int .i64 q] w fun e w'=>∃g,e = .returned (.pointer (some ⟨g,0,none⟩))∧In15 f (·<w.heap.size) w' g (zbQ q) 0 q∧Below w.heap.size w w':=by
 refine (iv_new (f:=f) zcC q w).mono ?_;rintro e w' ⟨g,rfl,h,hb⟩;exact ⟨g,rfl,⟨h,by show (0:Int) + 1-1≤_;decide,SzB.new q,by unfold zbQ;exact yak yab⟩,hb⟩
theorem In15.write (h:In15 f Z w g s i q) {R:Nat} {a:Ac15} (ha:a.ok R w) (hf:fewA a=true) (hi:i≤3000) {E:Sto Tb Nd15 × Int × Nat} (hE:zaE (p15 f) s a.by_ a.p a.d=E) :
 Calls Tryz.prog 12 #[.pointer (some ⟨g,0,none⟩),.agg #[.string a.by_.1,.string a.by_.2.1,.string a.by_.2.2],.slice a.Ap a.p.length a.cp,.slice a.Ad a.d.length a.cd] w fun e w'=>e = .returned (.tuple #[.int .i64 E.2.1,.int .i64 (E.2.2:Nat)])∧In15 f Z w' g E.1 (i + 1) q∧KpZ Z w w':=by
 obtain ⟨_,_,_,hb,m,n⟩:=zdt.1 hf;have hk:=zhy n;have x:=h.rev;have k:=h.sto.write zcC a.by_.1 a.by_.2.1 a.by_.2.2 ha.rp ha.rd (zhy m) hk yab yab;obtain ⟨b,j⟩:=zrz h.sto.ok.1 a.by_ a.p a.d;have z:=h.sz.write h.sto.ok.1 a.by_ a.p a.d yab yab yab hk;rw [hE] at k b j z;refine k.mono ?_;rintro e w' ⟨rfl,o,u⟩;exact ⟨rfl,⟨o.weak yab,by rw [j];split <;> omega,z,b.trans h.quo⟩,u⟩
theorem In15.define (hG:CompG f) (h:In15 f Z w g s i q) (b:Nd15) (x:ByteArray) (hb:b.1.size + b.2.1.size + b.2.2.size≤1000) (hx:x.size≤1000000) (hi:i≤3000) {E:Sto Tb Nd15 × Int} (hE:zaC (p15 f) s b x=E) :
 Calls Tryz.prog 13 #[.pointer (some ⟨g,0,none⟩),.agg #[.string b.1,.string b.2.1,.string b.2.2],.string x] w fun e w'=>e = .returned (.int .i64 E.2)∧In15 f Z w' g E.1 (i + 1) q∧KpZ Z w w':=by
 have u:=h.rev;have k:=h.sto.define zcC hG.is b.1 b.2.1 b.2.2 x hx yab;obtain ⟨j,m⟩:=zo3 (p:=p15 f) s b x;have z:=h.sz.define hG b x yab yab yab;rw [hE] at k j m z;refine k.mono ?_;rintro e w' ⟨rfl,n,o⟩;exact ⟨rfl,⟨n.weak yab,by rw [m];split <;> omega,z,j.trans h.quo⟩,o⟩
theorem Ib.trim {S:SpW} {n:Nat} (KT:SpKT S) (h:Ib S f Z w g s n) (r:Int) :
 Calls Tryz.prog 14 #[.pointer (some ⟨g,0,none⟩),.int .i64 r] w fun e w'=>e = .returned (.int .i64 (zbq s r).2)∧Ib S f Z w' g (zbq s r).1 n∧KpZ Z w w':=by
 obtain ⟨X,F,L,j,m,h,k,o,D⟩:=h;refine (trim15_any KT h r).mono ?_;rintro e w' ⟨q,u,x,y,b,z,A,B,C⟩;exact ⟨q,Ib.of ⟨u,x,y,b,z,A,B,by omega⟩ k o⟩
theorem In15.trim (h:In15 f Z w g s i q) (r:Int) {E:Sto Tb Nd15 × Int} (hE:zbq s r=E) :
 Calls Tryz.prog 14 #[.pointer (some ⟨g,0,none⟩),.int .i64 r] w fun e w'=>e = .returned (.int .i64 E.2)∧In15 f Z w' g E.1 (i + 1) q∧KpZ Z w w':=by
 have o:=h.rev;have k:=h.sto.trim spk14t r;obtain ⟨b,j⟩:=rev_trim s r;have z:=h.sz.trim r;rw [hE] at k b j z;refine k.mono ?_;rintro e w' ⟨rfl,m,n⟩;exact ⟨rfl,⟨m.weak yab,by omega,z,b.trans h.quo⟩,n⟩
theorem In15.idle (h:In15 f Z w g s i q):In15 f Z w g s (i + 1) q:=⟨h.sto.weak yab,by have:=h.rev;omega,h.sz,h.quo⟩
end
end
end Go.Proofs.YtmblgnddgmfkhaaGreat
