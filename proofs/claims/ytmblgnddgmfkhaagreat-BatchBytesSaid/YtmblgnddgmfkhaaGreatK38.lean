import Derived.Test.YtmblgnddgmfkhaaGreatK37
set_option maxRecDepth 100000
set_option maxHeartbeats 4000000
namespace Go.Proofs.YtmblgnddgmfkhaaGreat
section
open Go.ChangeShapes Go.WideShapes Go.ChangeAt Go.RowKit
variable {R fuel:Nat} {cs:List Value} {v:Value}
section
variable {H:Type} {enc:TypeId × Value→H} {W:World} {base:Nat} {spare:Nat→Bool} {held:Bool} {y:DataW H × List MemPlace}
theorem rd_preW (h:DataW.trod enc Tryz.prog W base spare held fuel 66 cs=some y) (hS:Sz Tryz.prog R 66 y.1) :
 ∃u:TuP × Bool,cs=za5 u∧∀x ∈ zav u.1,x.size≤R:=by
 obtain ⟨F,j,_,rfl,k,g,m⟩:=DataW.trod_struct Tryz.underlying66 h;rw [show Tryz.prog.cellsOf 66=7 by kernel_rfl] at k;have G:Tryz.prog.cellsOf 51=6:=by kernel_rfl
 have H:Tryz.prog.cellsOf 4=1:=by kernel_rfl
 have I:=fun (i:Nat) f y hi J=>zfL (i:=i) (f:=f) (y:=y) Tryz.underlying66 hS hi J;match cs,k,F,g with
 | [n,o,q,s,z,A,B],_,[y0,y1],_ =>
  have g0:DataW.trod enc Tryz.prog W base spare held j 51 (([n,o,q,s,z,A,B].drop 0).take (Tryz.prog.cellsOf 51))=some y0:=m 0 _ rfl;have C:DataW.trod enc Tryz.prog W base spare held j 4 (([n,o,q,s,z,A,B].drop 6).take (Tryz.prog.cellsOf 4))=some y1:=m 1 _ rfl;rw [G] at g0;rw [H] at C;obtain ⟨a,D,K⟩:=rd_tupleW (y:=y0) (by simpa using g0) (I 0 _ _ rfl rfl);obtain ⟨b,E,_⟩:=DataW.trod_bool Tryz.underlying4 (x:=y1) (by simpa using C);simp [zeT] at D E;obtain ⟨rfl,rfl,rfl,rfl,rfl,rfl⟩:=D;subst E;exact ⟨(a,b),rfl,K⟩
theorem rd_pres {x:DataW H × List MemPlace} (h:DataW.trod enc Tryz.prog W base spare held fuel 32 [v]=some x) (hS:Sz Tryz.prog R 32 x.1) :
 ∃(A:Option Addr) (c:Nat) (l:List (TuP × Bool)),v = .slice A l.length c∧Rd W W.heap.size 7 A l.length c (l.flatMap za5)∧∀u ∈ l,∀x ∈ zav u.1,x.size≤R:=by
 obtain ⟨A,c,E,rfl,o,f,j⟩:=zhT Tryz.underlying32 (show Tryz.prog.cellsOf 66=7 by kernel_rfl) yab h hS;obtain ⟨k,rfl,hk⟩:=zdy (g:=za5) (Q:=fun u=>∀x ∈ zav u.1,x.size≤R) fun l m=>by
  obtain ⟨_,q,y,n,b⟩:=j l m;exact rd_preW n b
 simp only [yax] at f ⊢;exact ⟨A,c,k,rfl,by rw [ybU];exact f,hk⟩
theorem rd_chgW (h:DataW.trod enc Tryz.prog W base spare held fuel 54 cs=some y) (hS:Sz Tryz.prog R 54 y.1) :
 ∃u:TuP × Bool,cs=za5 u∧∀x ∈ zav u.1,x.size≤R:=by
 obtain ⟨F,j,_,rfl,k,g,m⟩:=DataW.trod_struct Tryz.underlying54 h;rw [show Tryz.prog.cellsOf 54=7 by kernel_rfl] at k;have G:Tryz.prog.cellsOf 51=6:=by kernel_rfl
 have H:Tryz.prog.cellsOf 4=1:=by kernel_rfl
 have I:=fun (i:Nat) f y hi J=>zfL (i:=i) (f:=f) (y:=y) Tryz.underlying54 hS hi J;match cs,k,F,g with
 | [n,o,q,s,z,A,B],_,[y0,y1],_ =>
  have g0:DataW.trod enc Tryz.prog W base spare held j 51 (([n,o,q,s,z,A,B].drop 0).take (Tryz.prog.cellsOf 51))=some y0:=m 0 _ rfl;have C:DataW.trod enc Tryz.prog W base spare held j 4 (([n,o,q,s,z,A,B].drop 6).take (Tryz.prog.cellsOf 4))=some y1:=m 1 _ rfl;rw [G] at g0;rw [H] at C;obtain ⟨a,D,K⟩:=rd_tupleW (y:=y0) (by simpa using g0) (I 0 _ _ rfl rfl);obtain ⟨b,E,_⟩:=DataW.trod_bool Tryz.underlying4 (x:=y1) (by simpa using C);simp [zeT] at D E;obtain ⟨rfl,rfl,rfl,rfl,rfl,rfl⟩:=D;subst E;exact ⟨(a,b),rfl,K⟩
theorem rd_chgs {x:DataW H × List MemPlace} (h:DataW.trod enc Tryz.prog W base spare held fuel 33 [v]=some x) (hS:Sz Tryz.prog R 33 x.1) :
 ∃(A:Option Addr) (c:Nat) (l:List (TuP × Bool)),v = .slice A l.length c∧Rd W W.heap.size 7 A l.length c (l.flatMap za5)∧∀u ∈ l,∀x ∈ zav u.1,x.size≤R:=by
 obtain ⟨A,c,E,rfl,o,f,j⟩:=zhT Tryz.underlying33 (show Tryz.prog.cellsOf 54=7 by kernel_rfl) yab h hS;obtain ⟨k,rfl,hk⟩:=zdy (g:=za5) (Q:=fun u=>∀x ∈ zav u.1,x.size≤R) fun l m=>by
  obtain ⟨_,q,y,n,b⟩:=j l m;exact rd_chgW n b
 simp only [yax] at f ⊢;exact ⟨A,c,k,rfl,by rw [ybU];exact f,hk⟩
structure Ac15 where
 kind:Int
 by_:Nd15
 Ap:Option Addr
 cp:Nat
 p:List (TuP × Bool)
 Ad:Option Addr
 cd:Nat
 d:List (TuP × Bool)
 text:ByteArray
 rev:Int
def Ac15.cells (a:Ac15):List Value:=[.int .u8 a.kind,.string a.by_.1,.string a.by_.2.1,.string a.by_.2.2,.slice a.Ap a.p.length a.cp,.slice a.Ad a.d.length a.cd,.string a.text,.int .i64 a.rev]
structure Ac15.ok (R:Nat) (w:World) (a:Ac15):Prop where
 kind:(Lit.int .u8 a.kind).wf=true
 rev:(Lit.int .i64 a.rev).wf=true
 by_:a.by_.1.size≤R∧a.by_.2.1.size≤R∧a.by_.2.2.size≤R
 text:a.text.size≤R
 rp:Rd w w.heap.size 7 a.Ap a.p.length a.cp (a.p.flatMap za5)
 rd:Rd w w.heap.size 7 a.Ad a.d.length a.cd (a.d.flatMap za5)
 np:∀u ∈ a.p,∀x ∈ zav u.1,x.size≤R
 nd:∀u ∈ a.d,∀x ∈ zav u.1,x.size≤R
theorem rd_actW (h:DataW.trod enc Tryz.prog W base spare held fuel 35 cs=some y) (hS:Sz Tryz.prog R 35 y.1) :
 ∃a:Ac15,cs=a.cells∧a.ok R W:=by
 obtain ⟨N,g,_,rfl,D,C,j⟩:=DataW.trod_struct Tryz.underlying35 h;rw [show Tryz.prog.cellsOf 35=8 by kernel_rfl] at D;have B:=fun (i:Nat) f y hi O=>zfL (i:=i) (f:=f) (y:=y) Tryz.underlying35 hS hi O;have P:Tryz.prog.cellsOf 31=3:=by kernel_rfl
 have Q:Tryz.prog.cellsOf 5=1:=by kernel_rfl
 have T:Tryz.prog.cellsOf 32=1:=by kernel_rfl
 have U:Tryz.prog.cellsOf 33=1:=by kernel_rfl
 have V:Tryz.prog.cellsOf 9=1:=by kernel_rfl
 have X:Tryz.prog.cellsOf 3=1:=by kernel_rfl
 match cs,D,N,C with
 | [m,n,o,q,s,u,z,A],_,[y0,y1,y2,y3,y4,y5],_ =>
  have g0:DataW.trod enc Tryz.prog W base spare held g 5 (([m,n,o,q,s,u,z,A].drop 0).take (Tryz.prog.cellsOf 5))=some y0:=j 0 _ rfl;have E:DataW.trod enc Tryz.prog W base spare held g 31 (([m,n,o,q,s,u,z,A].drop 1).take (Tryz.prog.cellsOf 31))=some y1:=j 1 _ rfl;have F:DataW.trod enc Tryz.prog W base spare held g 32 (([m,n,o,q,s,u,z,A].drop 4).take (Tryz.prog.cellsOf 32))=some y2:=j 2 _ rfl;have G:DataW.trod enc Tryz.prog W base spare held g 33 (([m,n,o,q,s,u,z,A].drop 5).take (Tryz.prog.cellsOf 33))=some y3:=j 3 _ rfl;have H:DataW.trod enc Tryz.prog W base spare held g 9 (([m,n,o,q,s,u,z,A].drop 6).take (Tryz.prog.cellsOf 9))=some y4:=j 4 _ rfl;have I:DataW.trod enc Tryz.prog W base spare held g 3 (([m,n,o,q,s,u,z,A].drop 7).take (Tryz.prog.cellsOf 3))=some y5:=j 5 _ rfl;rw [Q] at g0;rw [P] at E;rw [T] at F;rw [U] at G;rw [V] at H;rw [X] at I;obtain ⟨k,J,a0,b0⟩:=DataW.trod_int Tryz.underlying5 (x:=y0) (by simpa using g0);obtain ⟨b,K,Y⟩:=rd_nodeW (y:=y1) (by simpa using E) (B 1 _ _ rfl rfl);obtain ⟨Z,cp,p,e2,b2,n2⟩:=rd_pres (x:=y2) (by simpa using F) (B 2 _ _ rfl rfl);obtain ⟨Ad,cd,d,e3,b3,n3⟩:=rd_chgs (x:=y3) (by simpa using G) (B 3 _ _ rfl rfl);obtain ⟨x,L,b4⟩:=zeD Tryz.underlying9 (y:=y4) (by simpa using H) (B 4 _ _ rfl rfl);obtain ⟨r,M,a5,b5⟩:=DataW.trod_int Tryz.underlying3 (x:=y5) (by simpa using I);simp at J K L M;obtain ⟨rfl,rfl,rfl⟩:=K;subst J e2 e3 L M;exact ⟨⟨k,b,Z,cp,p,Ad,cd,d,x,r⟩,rfl,by assumption,by assumption,Y,b4,b2,b3,n2,n3⟩
theorem rd_acts15 {d:DataW H} {p:List MemPlace} {r:Go.Reach} {b0:Nat} (hv:Value.okWide Tryz.prog W r b0 22 v) (h:DataW.Trod enc Tryz.prog W base spare held 22 v d p) (hS:Sz Tryz.prog R 22 d) :
 ∃(A:Option Addr) (c:Nat) (l:List Ac15),v = .slice A l.length c∧Rd W W.heap.size 8 A l.length c (l.flatMap Ac15.cells)∧∀a ∈ l,a.ok R W:=by
 obtain ⟨a,n,c,rfl⟩:=okWide_slice Tryz.underlying22 hv;obtain ⟨fuel,j⟩:=h;obtain ⟨A,c,E,e,s,f,m⟩:=zhT (x:=(d,p)) Tryz.underlying22 (show Tryz.prog.cellsOf 35=8 by kernel_rfl) yab (by simpa [Value.cells] using j) hS;obtain ⟨k,rfl,hk⟩:=zdy (g:=Ac15.cells) (Q:=fun a=>a.ok R W) fun l o=>by
  obtain ⟨_,u,y,q,b⟩:=m l o;exact rd_actW q b
 simp only [yax] at f e ⊢;exact ⟨A,c,k,e,by rw [ybU];exact f,hk⟩
end
end
section
open Go.RowKit
variable {l:List ByteArray} {fl q last:Int} {x k:ByteArray} {L:List Sp} {i:Nat}
abbrev zfq (l:List ByteArray):List (ByteArray × Bool):=l.map fun k=>(k,true)
theorem zqo (l:List ByteArray):(zfq l).map Prod.fst=l:=by
 rw [ybp];conv=>rhs;rw [←ycF l]
 rfl
theorem ziA (h:1≤fl) (hn:l.Nodup):TurnB [] (zcE fl ([],0) (zfq l)).1 (zcE fl ([],0) (zfq l)).2 fl (zfq l) :=
 zmN h FineS.nil yab (by rw [zqo];exact hn) fun c b=>by
  obtain ⟨k,_,rfl⟩:=yaH.1 b;exact ⟨(fun _ h=>by cases h),rfl⟩
theorem zkm (h:TurnB [] L last fl (zfq l)) (k:ByteArray):zdw L k fl=hasK l k:=by
 by_cases q:k ∈ l
 · rw [h.is (k,true) (ybi q)];exact (zar.2 q).symm
 · rw [(h.rest k (by rw [zqo];exact q)).1];cases e:hasK l k with
   | true=>exact absurd (zar.1 e) q
   | false=>rfl
theorem zpJ (h:TurnB [] L last fl (zfq l)) (hfl:1≤fl) (k:ByteArray):(zgS L last k fl).isSome = !hasK l k:=by
 have m:=zkm h k;have o:=h.late;rw [←m];by_cases q:zdB L k<0
 · have f:zgS L last k fl=some (L ++ [(k,fl,0)]):=yak yab;rw [f];cases e:zdw L k fl with
   | false=>rfl
   | true =>
    obtain ⟨x,b,g,s,u⟩:=zaP.1 e;have y:=zgQ q x b g;have:=h.fine.at_ x b;omega
 · have f:zgS L last k fl=none:=yan yab;obtain ⟨i,x,_,b,g,n⟩:=zfD q;have j:=yaq b;have:=h.fine.at_ x j;have e:zdw L k fl=true:=zaP.2 ⟨x,j,g,by omega,.inl n⟩;rw [f,e];rfl
theorem ins_snoc (h:l[i]? = some k):zcE fl ([],0) (zfq (l.take (i + 1)))=turn1 fl (zcE fl ([],0) (zfq (l.take i))) (k,true):=by
 unfold zcE;have e:zfq (l.take (i + 1))=zfq (l.take i) ++ [(k,true)]:=by
  unfold zfq;rw [yaC,h,yaO,yaM];rfl
 rw [e,ycn];rfl
theorem zoy (h:l[i]? = some k) (hn:(l.take i).Nodup) (hk:hasK (l.take i) k=false):(l.take (i + 1)).Nodup:=by
 rw [yaC,h,yaO];refine ybb.2 ⟨hn,by simp,fun a f b hb e=>?_⟩;rw [yav] at hb;subst hb e;rw [zar.2 f] at hk;cases hk
theorem zq8 (h:l[i]? = some k) (hk:hasK (l.take i) k=true):¬l.Nodup:=fun b=>by
 have hi:=yap.1 h;rw [←ybk i l,ybb] at b;refine b.2.2 k (zar.1 hk) k ?_ rfl;rw [ya8 hi.1,hi.2];exact yar
section
variable {τ α:Type}
def ziz (p:Bp τ α) (q fl:Int) (x:ByteArray) (l:List ByteArray):Sto τ Nd15:=⟨fl,[⟨(p.comp x).2.1,(p.comp x).2.2,zpc l,default,false,[]⟩],q⟩
theorem zg6 {p:Bp τ α} {s:Sto τ Nd15} (h:zda p q fl x l=some s) :
 (p.comp x).1=0∧¬(fl=0∧x≠⟨#[]⟩)∧(l.length:Int)≤q∧¬(0<l.length∧fl≤(((l.length + 15) / 16:Nat):Int))∧zbW p (p.comp x).2.2 l=0∧l.Nodup∧s=ziz p q fl x l:=by
 unfold zda at h;split at h
 · cases h
 · rename_i b
   split at h
   · cases h
   · rename_i g
     split at h
     · rename_i f
       rw [not_or,not_or] at b;exact ⟨ycH.1 b.1,b.2.1,Int.not_lt.1 b.2.2,g,f.1,f.2,(yaZ h).symm⟩
     · cases h
theorem zc9 (p:Bp τ α) (q fl:Int) (x:ByteArray) (l:List ByteArray):revB (ziz p q fl x l)=fl:=by
 unfold revB ziz;simp
theorem zpH [Inhabited τ] (p:Bp τ α) (q fl:Int) (x:ByteArray) (l:List ByteArray):atB (ziz p q fl x l) fl=⟨(p.comp x).2.1,(p.comp x).2.2,zpc l,default,false,[]⟩:=by
 have h:=zeU (s:=ziz p q fl x l) (i:=0) rfl;have e:(ziz p q fl x l).floor + ((0:Nat):Int)=fl:=by unfold ziz;simp
 rw [e] at h;exact h
theorem hasK_set (l:List ByteArray) (k:ByteArray):hasK (zpc l) k=hasK l k:=by
 rw [ya9,zar,zar,zfI]
theorem zpI [Inhabited τ] {p:Bp τ α} (h:TurnB [] L last fl (zfq l)):SpB L last (ziz p q fl x l) where
 fine:=h.fine
 late:=by rw [zc9];exact h.late
 tell:=fun r f b k=>by
  rw [zc9] at b;obtain rfl:r=fl:=by
   have:(ziz p q fl x l).floor=fl:=rfl;omega
  rw [zpH,zkm h,hasK_set]
 apart:=h.apart (fun _ h=>by cases h)
theorem zof [Inhabited τ] {p:Bp τ α} (h:0≤fl):SpB [] 0 (ziz p q fl x []) where
 fine:=FineS.nil
 late:=by rw [zc9];exact h
 tell:=fun r f b k=>by
  rw [zc9] at b;obtain rfl:r=fl:=by
   have:(ziz p q fl x []).floor=fl:=rfl;omega
  rw [zpH];rfl
 apart:=fun _ h=>by cases h
theorem begS_ok {p:Bp τ α} (h0:0≤fl) (hq:0≤q) (hl:(l.length:Int)≤q) (hf:zbW p (p.comp x).2.2 l=0):OkB p (ziz p q fl x l):=by
 have one:∀v ∈ (ziz p q fl x l).L,v=⟨(p.comp x).2.1,(p.comp x).2.2,zpc l,default,false,[]⟩:=fun v b=>yav.1 b;refine ⟨h0,(fun e=>by cases e),(by show 1≤64;decide),hq,fun v b=>?_,fun v b=>?_,fun v b=>?_,fun i u v _ b=>?_⟩
 · rw [one v b];exact zeO _
 · rw [one v b];have:=(zeO l).len fun k hk=>zfI.1 hk;show ((zpc l).length:Int)≤q;omega
 · rw [one v b];exact zce.2 fun k hk=>zce.1 hf k (zfI.1 hk)
 · have b:([⟨(p.comp x).2.1,(p.comp x).2.2,zpc l,default,false,[]⟩]:List (Rv τ Nd15))[i + 1]? = some v:=b;rw [ybj] at b;cases b
end
end
section
open Go.RowKit
theorem zoj {w:World} {A:Option Addr} {c:Nat} {l:List ByteArray} (h:Rd w w.heap.size 1 A l.length c (ks l)) (hl:l.length≤100000) :
 Calls Tryz.prog 64 #[.slice A l.length c] w fun e w'=>∃A' c',e = .returned (.slice A' l.length c')∧w'.ownsRow w.heap.size 9 1 (.slice A' l.length c') l.length (ks l)∧Below w.heap.size w w':=by
 cases A with
 | none =>
  obtain ⟨g,rfl⟩:=h.nil rfl;obtain rfl:=yaU g;exact (zkr 0 0 w).mono fun e w' ⟨q,k⟩=>⟨none,0,q,World.ownsRow_nil _ _ _ _,by rw [k];exact Below.refl _ _⟩
 | some a =>
  by_cases g:l=[]
  · subst g;exact (ziK a c w).mono fun e w' ⟨v,q,f,_,hb⟩=>by
     obtain ⟨m,n,rfl,_⟩:=Rd.own f;exact ⟨m,n,q,f,hb⟩
  · have s:0<l.length:=ybD.2 g;obtain ⟨b,o,e,hb,x⟩:=h.at_ s;cases e;exact (ziJ rfl yab fun j u y=>x j u y).mono fun e w' ⟨v,q,f,_,hb⟩=>by
     obtain ⟨m,n,rfl,_⟩:=Rd.own f;exact ⟨m,n,q,f,hb⟩
theorem setR6 {w w0:World} {B b:Nat} {t:TypeId} {z0 z1 z2 z3 z4 z5:Value} (h:Rk w0 b #[z0,z1,z2,z3,z4,z5] t) (hb:Below B w w0) (hB:B≤b) (u0 u1 u2 u3 u4 u5:Value) :
 Rk ((((((w0.setCell ⟨b,0,none⟩ u0).setCell ⟨b,1,none⟩ u1).setCell ⟨b,2,none⟩ u2).setCell ⟨b,3,none⟩ u3).setCell ⟨b,4,none⟩ u4).setCell ⟨b,5,none⟩ u5) b #[u0,u1,u2,u3,u4,u5] t∧Below B w ((((((w0.setCell ⟨b,0,none⟩ u0).setCell ⟨b,1,none⟩ u1).setCell ⟨b,2,none⟩ u2).setCell ⟨b,3,none⟩ u3).setCell ⟨b,4,none⟩ u4).setCell ⟨b,5,none⟩ u5)∧∀j,j≠b→((((((w0.setCell ⟨b,0,none⟩ u0).setCell ⟨b,1,none⟩ u1).setCell ⟨b,2,none⟩ u2).setCell ⟨b,3,none⟩ u3).setCell ⟨b,4,none⟩ u4).setCell ⟨b,5,none⟩ u5).heap[j]? = w0.heap[j]? :=
 ⟨by
  have q:=(((((h.set 0 u0).set 1 u1).set 2 u2).set 3 u3).set 4 u4).set 5 u5;simp only [yaG,yaV,yaW] at q;exact q,((((((hb.setCell (p:=⟨b,0,none⟩) hB u0).setCell (p:=⟨b,1,none⟩) hB u1).setCell (p:=⟨b,2,none⟩) hB u2).setCell (p:=⟨b,3,none⟩) hB u3).setCell (p:=⟨b,4,none⟩) hB u4).setCell (p:=⟨b,5,none⟩) hB u5),fun j f=>by
  rw [Below.heap_setCell _ _ _ _ f,Below.heap_setCell _ _ _ _ f,Below.heap_setCell _ _ _ _ f,Below.heap_setCell _ _ _ _ f,Below.heap_setCell _ _ _ _ f,Below.heap_setCell _ _ _ _ f]⟩
section
variable {S:SpW} {f:CoF} {X Y F F':Nat→Prop} {w w':World} {g:Nat} {s:Sto Tb Nd15} {L:List Sp} {last:Int} {m:Mm}
def zk1:Value:=.agg #[.int .i64 0,.string ⟨#[]⟩,.string ⟨#[]⟩,.string ⟨#[]⟩,.bool false,.slice none 0 0]
theorem rec_no (K:SpK S) (h:StM S f X w F g s L last m) {r:Int} (hr:¬(s.floor<r∧r≤revB s)) :
 Calls Tryz.prog 29 #[.pointer (some ⟨g,0,none⟩),.int .i64 r] w fun e w'=>e = .returned (.tuple #[zk1,.bool false])∧Below w.heap.size w w':=by
 have q:=Rk.new w #[.int .i64 0,.string ⟨#[]⟩,.string ⟨#[]⟩,.string ⟨#[]⟩,.bool false,.slice none 0 0] 71;have hb:=zaI w (.cells #[.int .i64 0,.string ⟨#[]⟩,.string ⟨#[]⟩,.string ⟨#[]⟩,.bool false,.slice none 0 0] 71);have u:=zd2 K (h.up K hb) r;rw [yaF hr] at u;go_enter Tryz.func29,Tryz.ntmps29
 go_upto_region 1 with (fail)
 generalize w.alloc (.cells #[.int .i64 0,.string ⟨#[]⟩,.string ⟨#[]⟩,.string ⟨#[]⟩,.bool false,.slice none 0 0] 71)=D at *
 go_upto_region 2 with (go_at_call 59;refine u.mono ?_;rintro e E ⟨rfl,k⟩)
 have b:=q.same (k.block _ q.lt);have n:=zac hb hb.size k;have G:=b.lt;have H:=b.fz;have z0:=b.cell 0;have I:=b.cell 1;have J:=b.cell 2;have z3:=b.cell 3;have z4:=b.cell 4;have z5:=b.cell 5;go_wp2_with fail
 obtain ⟨j,o,_⟩:=setR6 b n (yaj _) (.int .i64 0) (.string ⟨#[]⟩) (.string ⟨#[]⟩) (.string ⟨#[]⟩) (.bool false) (.slice none 0 0);generalize World.setCell _ ⟨w.heap.size,5,none⟩ _=W at *
 have x:=j.cell 0;have y:=j.cell 1;have z:=j.cell 2;have A:=j.cell 3;have B:=j.cell 4;have C:=j.cell 5;refine bodyPost_ret (v:=.tuple #[zk1,.bool false]) ?_ rfl ⟨rfl,o⟩;simp [results,Tryz.results29,go_sem,zk1,x,y,z,A,B,C]
def aRec (r:Int) (v:Rv Tb Nd15) (A:Option Addr) (c:Nat):Value:=.agg #[.int .i64 r,.string v.by_.1,.string v.by_.2.1,.string v.by_.2.2,.bool v.schema,.slice A v.wrote.length c]
theorem rec_yes (K:SpK S) (h:StM S f X w F g s L last m) (hz:SzB s) {r:Int} (hr:s.floor<r∧r≤revB s) :
 Calls Tryz.prog 29 #[.pointer (some ⟨g,0,none⟩),.int .i64 r] w fun e w'=>(∃A c,e = .returned (.tuple #[aRec r (atB s r) A c,.bool true])∧Rd w' w'.heap.size 1 A (atB s r).wrote.length c (ks (atB s r).wrote))∧Below w.heap.size w w':=by
 obtain ⟨i,x,hi,Z,hv,a1⟩:=h.place hr.1 hr.2;have J:=yaq Z;have a2:SzV x.v:=by
  obtain ⟨u,eL,_⟩:=h.head;exact hz x.v (by rw [eL];exact yau _ (ybi J))
 rw [←hv];have B:=Rk.new w #[.int .i64 0,.string ⟨#[]⟩,.string ⟨#[]⟩,.string ⟨#[]⟩,.bool false,.slice none 0 0] 71;have hb:=zaI w (.cells #[.int .i64 0,.string ⟨#[]⟩,.string ⟨#[]⟩,.string ⟨#[]⟩,.bool false,.slice none 0 0] 71);have k1:=zd2 K (h.up K hb) r;rw [yaB hr] at k1;have k2:=fun W (hW:Below w.heap.size w W)=>behind15_any K (h.up K hW) hi Z;have M:=fun W (hW:Below w.heap.size w W)=>((h.up K hW).each x J).wrote W (Stay.refl _ _);have a6:=rev_f0 x;subst a1;unfold aRec;clear hv hi Z hr;go_enter Tryz.func29,Tryz.ntmps29
 go_upto_region 1 with (fail)
 generalize w.alloc (.cells #[.int .i64 0,.string ⟨#[]⟩,.string ⟨#[]⟩,.string ⟨#[]⟩,.bool false,.slice none 0 0] 71)=w1 at *
 go_upto_region 3 with (go_at_call 59;refine k1.mono ?_;rintro e w2 ⟨rfl,C⟩)
 have D:=zac hb hb.size C;go_upto_region 4 with (go_at_call 61;refine (k2 w2 D).mono ?_;rintro e V ⟨rfl,N⟩)
 have E:=zac D D.size N;have n:=zac C C.size N;have Y:=Rk.new V #[.int .i64 x.rev,.string x.v.by_.1,.string x.v.by_.2.1,.string x.v.by_.2.2,.bool x.v.schema,.slice x.Ak x.v.wrote.length x.ck] 71;have O:=zaI V (.cells #[.int .i64 x.rev,.string x.v.by_.1,.string x.v.by_.2.1,.string x.v.by_.2.2,.bool x.v.schema,.slice x.Ak x.v.wrote.length x.ck] 71);have G:=zac E E.size O;have o:=zac n n.size O;have a7:=n.size;have a8:=E.size;have kc:=zoj (M _ G) (yay a2.few yac);generalize V.alloc (.cells #[.int .i64 x.rev,.string x.v.by_.1,.string x.v.by_.2.1,.string x.v.by_.2.2,.bool x.v.schema,.slice x.Ak x.v.wrote.length x.ck] 71)=w4 at *
 generalize V.heap.size=P at *
 have q5:=Y.cell 5;have ql:=Y.lt;go_upto_region 5 with (go_at_call 64;refine kc.mono ?_;rintro e w5 ⟨y,z,rfl,Q,H⟩;have q:=Y.same (H.block _ Y.lt);have s5:=q.cell 5;have sf:=q.fz;have sl:=q.lt)
 have k:=q.set 5 (.slice y x.v.wrote.length z);simp only [yaG,yaV,yaW] at k;have R:=zau (w':=w5.setCell ⟨P,5,none⟩ (.slice y x.v.wrote.length z)) Q fun j hj=>Below.heap_setCell _ _ _ _ (show j≠P from by have:=(Q.lt j hj).1;omega);have aa:=(zac G G.size H).setCell (p:=⟨P,5,none⟩) a8 (.slice y x.v.wrote.length z);have T:=(zac o o.size H).setCell (p:=⟨P,5,none⟩) a7 (.slice y x.v.wrote.length z);generalize w5.setCell ⟨P,5,none⟩ (.slice y x.v.wrote.length z)=w6 at *
 have b:=B.same (T.block _ B.lt);have p0:=k.cell 0;have p1:=k.cell 1;have p2:=k.cell 2;have p3:=k.cell 3;have p4:=k.cell 4;have p5:=k.cell 5;have pl:=k.lt;have zl:=b.lt;have zf:=b.fz;have z0:=b.cell 0;have z1:=b.cell 1;have z2:=b.cell 2;have z3:=b.cell 3;have z4:=b.cell 4;have z5:=b.cell 5;have ad:w.heap.size<w4.heap.size:=by have:=B.lt;have:=o.size;omega
 clear q5 ql s5 sf sl a6 k2 M kc;go_wp2_with fail
 clear p0 p1 p2 p3 p4 p5 z0 z1 z2 z3 z4 z5;obtain ⟨I,ab,U⟩:=setR6 b aa (yaj _) (.int .i64 x.rev) (.string x.v.by_.1) (.string x.v.by_.2.1) (.string x.v.by_.2.2) (.bool x.v.schema) (.slice y x.v.wrote.length z);have ac:=zau R fun j hj=>U j (show j≠w.heap.size from by have:=(R.lt j hj).1;omega);clear U;generalize World.setCell _ ⟨w.heap.size,5,none⟩ _=W at *
 have p0:=I.cell 0;have p1:=I.cell 1;have p2:=I.cell 2;have p3:=I.cell 3;have p4:=I.cell 4;have p5:=I.cell 5;refine bodyPost_ret (v:=.tuple #[.agg #[.int .i64 x.rev,.string x.v.by_.1,.string x.v.by_.2.1,.string x.v.by_.2.2,.bool x.v.schema,.slice y x.v.wrote.length z],.bool true]) ?_ rfl ⟨⟨y,z,rfl,zla ac⟩,ab⟩;simp [results,Tryz.results29,go_sem,p0,p1,p2,p3,p4,p5]
end
end
section
open Go.RowKit
theorem info_u8':(Tryz.prog.info? 5).map (fun i=>(i.zero,i.size,i.bytes))=some (some (.int .u8 0),1,1):=by kernel_rfl
theorem clone_any (A:Option Addr) (n c:Nat) (l:List UInt8) (w:World) (hr:Rd w w.heap.size 1 A n c (bv l)) (hn:n≤100000000000) :
 Calls Tryz.prog 91 #[.slice A n c] w fun e w'=>∃v,e = .returned v∧w'.ownsRow w.heap.size 5 1 v l.length (bv l)∧Below w.heap.size w w':=by
 obtain ⟨u,hi,g,j,k⟩:=info_parts info_u8';have x:n=l.length:=hr.lenB;subst x;have q:=Lib.hid hr;clear hr;have f:=fun (w:World)=>Lib.run_eql_slice_nil (P:=Tryz.prog) w 24 5 A l.length c 0 0 Tryz.underlying24;rcases A with _ | a
 · obtain ⟨y,rfl⟩:=q.out.nil rfl;have z:l=[]:=yaU y;subst z;simp only [Option.isNone_none,yaE] at f ⊢;go_enter Tryz.func91,Tryz.ntmps91
   go_wp2
   go_ret
   exact ⟨_,rfl,World.ownsRow_nil _ _ _ _,Below.refl _ _⟩
 · simp only [Option.isNone_some] at f;go_enter Tryz.func91,Tryz.ntmps91
   go_wp2_with (at_builtin;go_must (refine zab _ rfl (.tmp 5) (.tmp 6) 24 24 rfl w.heap.size 5 u (.int .u8 0) 1 1 Tryz.underlying24 hi g j k rfl yac _ 0 [] rfl (zhK w #[] 5 0 1 w.heap.size rfl yaf (yaj _)) _ l.length (bv l) rfl (Rd.src Tryz.underlying24 (q.out.alloc (yaj _) _) (zgm l)) yad yab yaf ?_);intro B w1 b m s)
   have o:Below w.heap.size w w1:=zae ((Below.refl _ _).alloc (yaj _) _) m (zhK w #[] 5 0 1 w.heap.size rfl yaf (yaj _)) yaf (yaj _);rw [yaI,ya6] at b;go_ret
   exact ⟨_,rfl,b,o⟩
theorem open_any (A:Option Addr) (n c:Nat) (l:List UInt8) (w:World) (hr:Rd w w.heap.size 1 A n c (bv l)) (hn:n≤100000000000) :
 Calls Tryz.prog 52 #[.slice A n c] w fun e w'=>∃g,e = .returned (.pointer (some ⟨g,0,none⟩))∧w.heap.size≤g∧IsR w' g (l,0)∧Below w.heap.size w w':=by
 go_enter Tryz.func52,Tryz.ntmps52
 go_wp2_with fail
 refine (clone_any A n c l w hr hn).mono ?_;rintro e k ⟨q,rfl,b,hb⟩;obtain ⟨m,o,rfl,j⟩:=Rd.own b;have f:=hb.size;go_wp2
 go_ret
 refine ⟨k.heap.size,rfl,f,⟨m,_,o,heap_alloc_new k _,j.alloc (yaj _) _⟩,hb.alloc f _⟩
end
section
open Go.RowKit
variable {st:RSt} {n:Nat}
theorem equal_any {w:World} {A1 A2:Option Addr} {n1 c1 n2 c2 B1 B2:Nat} {l k:List UInt8} (h1:Rd w B1 1 A1 n1 c1 (bv l)) (h2:Rd w B2 1 A2 n2 c2 (bv k)) :
 Calls Tryz.prog 55 #[.slice A1 n1 c1,.slice A2 n2 c2] w fun e w'=>e = .returned (.bool (decide (l=k)))∧w'=w:=by
 have f:(convert 24 9 (.slice A1 n1 c1)).run Tryz.prog w = .ok (.string (strOf l)) w:=h1.conv (P:=Tryz.prog) 24 9 5 Tryz.underlying24 Tryz.underlying5 Tryz.underlying9;have g:(convert 24 9 (.slice A2 n2 c2)).run Tryz.prog w = .ok (.string (strOf k)) w:=h2.conv (P:=Tryz.prog) 24 9 5 Tryz.underlying24 Tryz.underlying5 Tryz.underlying9;have b:decide (l=k)=((strOf l).toList == (strOf k).toList):=by
  rw [zgt,zgt];by_cases q:l=k
  · subst q;simp
  · rw [yaF q];exact (ybh.2 q).symm
 rw [b];generalize strOf l=x at *
 generalize strOf k=y at *
 clear h1 h2 b;go_enter Tryz.func55,Tryz.ntmps55
 go_wp2_with fail
 go_ret
 exact ⟨rfl,rfl⟩
section
variable {S:SpW} {f:CoF} {X Y F F':Nat→Prop} {w w':World} {g gr:Nat} {s:Sto Tb Nd15} {L:List Sp} {last:Int} {m:Mm}
theorem StM.off (K:SpK S) (h:StM S f X w F g s L last m) (hle:w.heap.size≤w'.heap.size) (hk:∀b,b<w.heap.size→b≠gr→w'.heap[b]? = w.heap[b]?) (hX:X gr) (hF:¬F gr):StM S f X w' F g s L last m:=by
 have k:∀b,F b→b≠gr:=fun b hb e=>hF (e ▸ hb);have n:Stay X w w':=⟨hle,fun b hb o=>hk b hb fun e=>o (e ▸ hX)⟩;exact
  {box:=h.box.same (hk g h.box.lt (k g ((h.own g).2 (.inl rfl))))
   sp:=K.keep h.sp fun b q=>hk b (K.lt h.sp b q) (k b ((h.own b).2 (.inr (.inl q))))
   row:=zau h.row fun j u=>hk j (h.row.lt j u).2 (k j ((h.own j).2 (.inr (.inr u))))
   own:=h.own
   g0:=h.g0
   r0:=h.r0
   sub:=h.sub
   lt:=fun j q=>yas (h.lt j q) hle
   head:=h.head
   first:=h.first.step n fun _ q=>.inl q
   each:=fun x o=>(h.each x o).step n fun _ q=>.inl q
   revs:=h.revs
   fl0:=h.fl0
   most:=h.most
   few:=h.few
   keys:=h.keys
   len:=h.len
   fine:=h.fine
   spb:=h.spb
   ok:=h.ok }
theorem StM.beside (K:SpK S) (h:StM S f X w F g s L last m) (hg:w.grownBy w' (some gr)) (hX:X gr) (hF:¬F gr):StM S f X w' F g s L last m:=h.off K hg.size (fun b hb j=>hg.block b hb fun e=>j (yaZ e)) hX hF
structure StX (S:SpW) (f:CoF) (gr:Nat) (w:World) (g:Nat) (s:Sto Tb Nd15) (st:RSt) (n:Nat) (X F:Nat→Prop) (L:List Sp) (last:Int) (m:Mm):Prop where
 sto:StM S f X w F g s L last m
 rd:IsR w gr st
 inX:X gr
 ahead:∀b,F b→gr<b
 len:L.length≤n
theorem StX.notF (h:StX S f gr w g s st n X F L last m):¬F gr:=fun q=>Nat.lt_irrefl _ (h.ahead gr q)
theorem StX.read (K:SpK S) {st':RSt} (h:StX S f gr w g s st n X F L last m) (hg:w.grownBy w' (some gr)) (hr:IsR w' gr st'):StX S f gr w' g s st' n X F L last m:=⟨h.sto.beside K hg h.inX h.notF,hr,h.inX,h.ahead,h.len⟩
theorem StX.up (K:SpK S) (h:StX S f gr w g s st n X F L last m) (hb:Below w.heap.size w w'):StX S f gr w' g s st n X F L last m:=⟨h.sto.up K hb,h.rd.below hb h.rd.lt,h.inX,h.ahead,h.len⟩
theorem StX.moved {n':Nat} (h:StX S f gr w g s st n X F L last m) {X' F':Nat→Prop} {s':Sto Tb Nd15} {L':List Sp} {last':Int} {m':Mm} (hs:StM S f X' w' F' g s' L' last' m') (hm:Mv X F w X' F' w') (hl:L'.length≤n'):StX S f gr w' g s' st n' X' F' L' last' m'∧Below (gr + 1) w w':=by
 have j:=h.rd.lt;have hb:Below (gr + 1) w w':=hm.own.rest (gr + 1) j fun b q=>h.ahead b q;exact ⟨⟨hs,h.rd.below hb (ycv _),hm.up _ h.inX,fun b q=>by
  rcases hm.own.grow b q with q | q
  · exact h.ahead b q
  · omega,hl⟩,hb⟩
end
end
end Go.Proofs.YtmblgnddgmfkhaaGreat
