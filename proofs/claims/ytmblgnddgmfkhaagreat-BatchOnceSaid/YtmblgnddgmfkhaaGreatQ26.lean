import Derived.Test.YtmblgnddgmfkhaaGreatQ25
set_option maxRecDepth 100000
set_option maxHeartbeats 4000000
namespace Go.Proofs.YtmblgnddgmfkhaaGreat
section
variable {L:List Sp} {last:Int}
def zlA (L:List Sp) (r:Int):List ByteArray:=(L.filter fun x=>zbC x r).foldl (fun s x=>zkL s x.1) []
theorem znG (hf:FineS L last) (r:Int):((L.filter fun x=>zbC x r).map (·.1)).Nodup:=by
 refine yck.2 ?_;refine (List.Pairwise.and_mem.1 (hf.two.filter _)).imp ?_;rintro x y ⟨b,d,h⟩ e;have b:=(ybd.1 b).2;have d:=(ybd.1 d).2;have:=h e;unfold zbC at b d;simp only [ya9,ycw,yaP] at b d;omega
theorem foldK:∀(M:List Sp) (s:List ByteArray),Rises s→(M.map (·.1)).Nodup→(∀x ∈ M,x.1 ∉ s)→Rises (M.foldl (fun s x=>zkL s x.1) s)∧(M.foldl (fun s x=>zkL s x.1) s).length=s.length + M.length∧∀k,k ∈ M.foldl (fun s x=>zkL s x.1) s↔k ∈ s∨∃x ∈ M,x.1=k
 | [],s,d,_,_=>⟨d,rfl,fun k=>by simp⟩
 | x::M,s,d,f,j=>by
  rw [yaW,ybT] at f;have m:=zd5 d (j x yat);obtain ⟨n,o,a3⟩:=foldK M (zkL s x.1) m f.2 (fun y b g=>by
   rcases zcL.1 g with e | g
   · exact f.1 (e ▸ ybj b)
   · exact j y (yau _ b) g)
  refine ⟨n,by rw [yb7,o,zjn,yaq];omega,fun k=>?_⟩;rw [yb7,a3,zcL];constructor
  · rintro ((e | h) | ⟨y,b,e⟩)
    · exact Or.inr ⟨x,yat,e.symm⟩
    · exact Or.inl h
    · exact Or.inr ⟨y,yau _ b,e⟩
  · rintro (h | ⟨y,b,e⟩)
    · exact Or.inl (Or.inr h)
    · rcases yav.1 b with rfl | b
      · exact Or.inl (Or.inl e.symm)
      · exact Or.inr ⟨y,b,e⟩
theorem zpL (hf:FineS L last) (r:Int):Rises (zlA L r)∧(zlA L r).length=zcI L r∧∀k,k ∈ zlA L r↔zdC L k r=true:=by
 obtain ⟨d,f,g⟩:=foldK (L.filter fun x=>zbC x r) [] List.Pairwise.nil (znG hf r) (fun _ _ h=>by cases h);refine ⟨d,by unfold zlA;rw [f,yaI,yaG];rfl,fun k=>?_⟩;unfold zlA;rw [g];unfold zdC;rw [ybM];constructor
 · rintro (h | ⟨x,b,e⟩)
   · cases h
   · exact ⟨x,(ybd.1 b).1,by rw [(ybd.1 b).2,yaD e];rfl⟩
 · rintro ⟨x,b,h⟩;rw [ya9,yaP] at h;exact Or.inr ⟨x,ybd.2 ⟨b,h.1⟩,h.2⟩
def zgc (q:ByteArray):Bool→List Ev→Option Bool
 | i,[]=>some i
 | i,e::l=>if e.2.1=q then (if i=e.2.2 then none else zgc q e.2.2 l) else zgc q i l
theorem zep (q:ByteArray):∀(l m:List Ev) (i:Bool),zgc q i (l ++ m)=(zgc q i l).bind fun j=>zgc q j m
 | [],_,_=>rfl
 | e::l,m,i=>by
  rw [ybs,zgc,zgc];split
  · split
    · rfl
    · exact zep q l m _
  · exact zep q l m i
theorem zeq (q:ByteArray):∀(l:List Ev) (i:Bool),zgc q i (l.filter fun e=>decide (e.2.1=q))=zgc q i l
 | [],_=>rfl
 | e::l,i=>by
  by_cases h:e.2.1=q
  · rw [ycp,yan (by simpa using h),zgc,zgc,yan h,yan h,zeq q l]
  · rw [ycp,yak (by simpa using h),zgc,yak h,zeq q l]
theorem zmc (q:ByteArray) {a b:Int} (hab:a≤b):∀(S:List Sp),(∀x ∈ S,x.1=q∧(x.2.2=0∨x.2.1<x.2.2))→(∀x ∈ S,1≤x.2.1)→S.Pairwise (fun x y=>x.2.2≠0∧x.2.2≤y.2.1) →
 zgc q (S.any fun x=>zbC x a) (S.flatMap fun x=>evsOf x a b)=some (S.any fun x=>zbC x b)
 | [],_,_,_=>rfl
 | x::S,h,B,F=>by
  obtain ⟨m,o⟩:=yaM.1 F;have ih:=zmc q hab S (fun y g=>h y (yau _ g)) (fun y g=>B y (yau _ g)) o;obtain ⟨p,G⟩:=h x yat;have H:=B x yat;have late:∀(c:Int),x.2.2=0∨c<x.2.2→(S.any fun y=>zbC y c)=false:=fun c I=>by
   rw [List.any_eq_false];intro y g;have:=m y g;unfold zbC;rw [yaH (show ¬y.2.1≤c by omega),yb1];decide
  have d:x.2.2=0∨b<x.2.2→(S.flatMap fun y=>evsOf y a b)=[]:=fun I=>by
   refine ycv.2 fun e u=>?_;obtain ⟨y,g,u⟩:=ybz.1 u;have J:=m y g;have K:=(h y (yau _ g)).2;obtain ⟨⟨C,D⟩,rfl | ⟨N,rfl⟩⟩:=zc2.1 u
   · dsimp only at D;omega
   · dsimp only at D;omega
  rw [List.any_cons,List.any_cons,yaS];have j:∀c:Int,zbC x c=decide (x.2.1≤c∧(x.2.2=0∨c<x.2.2)):=fun c=>by
   unfold zbC;rw [Bool.decide_and,Bool.decide_or]
  rw [j,j];obtain ⟨M,L⟩:∃M,S.flatMap (fun x=>evsOf x a b)=M:=⟨_,rfl⟩;rw [L] at d ih ⊢;obtain ⟨s,f,t⟩:=x;dsimp only at *
  subst p;unfold evsOf;dsimp only;by_cases E:f≤a
  · rw [yak (show ¬(a<f∧f≤b) by omega),yba];by_cases k:t=0
    · rw [yaD (show f≤a∧(t=0∨a<t) from ⟨E,Or.inl k⟩),yaD (show f≤b∧(t=0∨b<t) from ⟨by omega,Or.inl k⟩),yak (show ¬(0<t∧a<t∧t≤b) by omega),d (Or.inl k)];rfl
    · by_cases O:t≤a
      · rw [yaH (show ¬(f≤a∧(t=0∨a<t)) by omega),yaH (show ¬(f≤b∧(t=0∨b<t)) by omega),yak (show ¬(0<t∧a<t∧t≤b) by omega)];exact ih
      · have n:=late a (Or.inr yab);rw [yaD (show f≤a∧(t=0∨a<t) from ⟨E,Or.inr yab⟩)];by_cases z:t≤b
        · rw [yaH (show ¬(f≤b∧(t=0∨b<t)) by omega),yan (show 0<t∧a<t∧t≤b from ⟨by omega,by omega,z⟩)];rw [n] at ih;rw [Bool.true_or,Bool.false_or,yb3,zgc,yan rfl,yak (by simp)];exact ih
        · rw [yaD (show f≤b∧(t=0∨b<t) from ⟨by omega,Or.inr yab⟩),yak (show ¬(0<t∧a<t∧t≤b) by omega),d (Or.inr yab)];rfl
  · have n:(S.any fun y=>zbC y a)=false:=by
     by_cases k:t=0
     · exact late a (Or.inl k)
     · exact late a (Or.inr yab)
    rw [n] at ih;rw [yaH (show ¬(f≤a∧(t=0∨a<t)) by omega),n,Bool.false_or];by_cases A:f≤b
    · rw [yan (show a<f∧f≤b from ⟨by omega,A⟩)];by_cases k:t=0
      · rw [yaD (show f≤b∧(t=0∨b<t) from ⟨A,Or.inl k⟩),yak (show ¬(0<t∧a<t∧t≤b) by omega),d (Or.inl k)];simp [zgc]
      · by_cases z:t≤b
        · rw [yaH (show ¬(f≤b∧(t=0∨b<t)) by omega),yan (show 0<t∧a<t∧t≤b from ⟨by omega,by omega,z⟩)];rw [Bool.false_or,yaB,yb3,yb3,zgc,yan rfl,yak yaf,zgc,yan rfl,yak (by simp)];exact ih
        · rw [yaD (show f≤b∧(t=0∨b<t) from ⟨A,Or.inr yab⟩),yak (show ¬(0<t∧a<t∧t≤b) by omega),d (Or.inr yab)];simp [zgc]
    · have C:decide (f≤b∧(t=0∨b<t))=false:=yaH yab;rw [C,yak (show ¬(a<f∧f≤b) by omega),yak (show ¬(0<t∧a<t∧t≤b) by omega),Bool.false_or];exact ih
theorem znF (hf:FineS L last) (q:ByteArray) (a b:Int):((eventsP L a b).filter fun e=>decide (e.2.1=q))=(L.filter fun x=>decide (x.1=q)).flatMap fun x=>evsOf x a b:=by
 refine zeA ((zfS L a b).filter _) ?_ ?_
 · have g:=fun x (p:x ∈ L.filter fun x=>decide (x.1=q))=>hf.at_ x (ybd.1 p).1;have j:=fun x (p:x ∈ L.filter fun x=>decide (x.1=q))=>yaQ (ybd.1 p).2;have k:=hf.two.filter (fun x=>decide (x.1=q));generalize (L.filter fun x=>decide (x.1=q))=S at *
   clear hf;induction S with
   | nil=>exact List.Pairwise.nil
   | cons x S ih =>
    obtain ⟨B,C⟩:=yaM.1 k;rw [yaS];have p:=g x yat;refine yb6.2 ⟨?_,ih (fun y f=>g y (yau _ f)) (fun y f=>j y (yau _ f)) C,fun e m d s=>?_⟩
    · unfold evsOf;split
      · split
        · refine yaM.2 ⟨fun y f=>?_,ybW _ _⟩;replace f:y=(x.2.2,x.1,false):=yas.1 f;subst f;exact LeE.of_lt (zbN.2 (Or.inl (by show x.2.1<x.2.2;omega)))
        · exact ybW _ _
      · split
        · exact ybW _ _
        · exact List.Pairwise.nil
    · obtain ⟨y,f,s⟩:=ybz.1 s;have D:=B y f ((j x yat).trans (j y (yau _ f)).symm);have E:=g y (yau _ f);have u:=j x yat;have A:=j y (yau _ f);have n:e.1≤x.2.2∧e.2.1=q∧(e.1=x.2.2→e.2.2=false):=by
       obtain ⟨_,rfl | ⟨_,rfl⟩⟩:=zc2.1 m
       · exact ⟨by show x.2.1≤x.2.2;omega,u,fun z=>by dsimp only at z;omega⟩
       · exact ⟨ybp _,u,fun _=>rfl⟩
      have o:y.2.1≤d.1∧d.2.1=q∧(d.1=y.2.1→d.2.2=true):=by
       obtain ⟨_,rfl | ⟨_,rfl⟩⟩:=zc2.1 s
       · exact ⟨ybp _,A,fun _=>rfl⟩
       · exact ⟨by show y.2.1≤y.2.2;omega,A,fun z=>by dsimp only at z;omega⟩
      by_cases z:e.1<d.1
      · exact LeE.of_lt (zbN.2 (Or.inl z))
      · have F:e.1=d.1:=by omega
        exact LeE.of_lt (zbN.2 (Or.inr ⟨F,Or.inr ⟨n.2.1.trans o.2.1.symm,n.2.2 yab,o.2.2 yab⟩⟩))
 · refine ((zdA L a b).filter _).trans ?_;rw [List.filter_flatMap];clear hf;induction L with
   | nil=>exact yco _
   | cons x L ih =>
    rw [yaS,ycp];by_cases h:x.1=q
    · rw [yan (by simpa using h),yaS];refine List.Perm.append ?_ ih;rw [List.filter_eq_self.2 fun e m=>?_];rcases (zc2.1 m).2 with rfl | ⟨_,rfl⟩ <;> simpa using h
    · rw [yak (by simpa using h),List.filter_eq_nil_iff.2 fun e m=>?_,yba]
      · exact ih
      · rcases (zc2.1 m).2 with rfl | ⟨_,rfl⟩ <;> simpa using h
theorem zgx (hf:FineS L last) (q:ByteArray) {a b:Int} (hab:a≤b):zgc q (zdC L q a) (eventsP L a b)=some (zdC L q b):=by
 have f:∀c:Int,zdC L q c=(L.filter fun x=>decide (x.1=q)).any fun x=>zbC x c:=fun c=>by
  unfold zdC;rw [List.any_filter];congr 1
  funext x
  rw [Bool.and_comm]
 rw [←zeq,znF hf,f,f];refine zmc q hab _ (fun x d=>?_) (fun x d=>(hf.at_ x (ybd.1 d).1).1) ?_
 · have:=hf.at_ x (ybd.1 d).1;exact ⟨yaQ (ybd.1 d).2,by omega⟩
 · refine (List.Pairwise.and_mem.1 (hf.two.filter _)).imp ?_;rintro x y ⟨d,g,h⟩;exact h ((yaQ (ybd.1 d).2).trans (yaQ (ybd.1 g).2).symm)
end
section
variable {L:List Sp} {r last:Int}
theorem zaJ {k:ByteArray}:zdC L k r=true↔∃x ∈ L,x.1=k∧x.2.1≤r∧(x.2.2=0∨r<x.2.2):=by
 unfold zdC zbC;simp only [ybM,ya9,ycw,yaP];exact ⟨fun ⟨x,b,⟨d,f⟩,g⟩=>⟨x,b,g,d,f⟩,fun ⟨x,b,g,d,f⟩=>⟨x,b,⟨d,f⟩,g⟩⟩
theorem zdS {a b:Bool} (h:a=true↔b=true):a=b:=by cases a <;> cases b <;> simp_all
theorem zkc {q:Int} (hf:FineS L last) (h1:last≤r) (h2:r≤q) (k:ByteArray):zdC L k q=zdC L k r:=zdS (by
 rw [zaJ,zaJ];constructor
 · rintro ⟨x,d,e,a,b⟩;have:=hf.at_ x d;exact ⟨x,d,e,by omega,by omega⟩
 · rintro ⟨x,d,e,a,b⟩;have:=hf.at_ x d;exact ⟨x,d,e,by omega,by omega⟩)
theorem zkd (hf:FineS L last) (k:ByteArray) (hr:r≤0):zdC L k r=false:=by
 rw [←ybZ,zaJ];rintro ⟨x,b,_,a,_⟩;have:=hf.at_ x b;omega
def Upto (L:List Sp) (k:ByteArray) (r:Int):Prop:=∀x ∈ L,x.1=k→x.2.1≤r∧x.2.2≤r
def Apart (L:List Sp):Prop:=∀x ∈ L,∀y ∈ L,x.1=y.1→x.2.2≠y.2.1
def turn1 (r:Int) (a:List Sp × Int) (c:ByteArray × Bool):List Sp × Int :=
 if c.2 then ((zgm a.1 a.2 c.1 r).getD a.1,if (zgm a.1 a.2 c.1 r).isSome then r else a.2) else ((zbX a.1 a.2 c.1 r).getD a.1,if (zbX a.1 a.2 c.1 r).isSome then r else a.2)
def zcn (r:Int) (a:List Sp × Int) (d:List (ByteArray × Bool)):List Sp × Int:=d.foldl (turn1 r) a
structure TurnB (L L':List Sp) (last' r:Int) (d:List (ByteArray × Bool)):Prop where
 fine:FineS L' last'
 late:last'≤r
 old:∀k q,q<r→zdC L' k q=zdC L k q
 is:∀c ∈ d,zdC L' c.1 r=c.2
 rest:∀k,k ∉ d.map Prod.fst→zdC L' k r=zdC L k r∧∀q,Upto L k q→Upto L' k q
 apart:Apart L→Apart L'
 len:L'.length≤L.length + d.length
 keys:∀x ∈ L',(∃y ∈ L,y.1=x.1)∨x.1 ∈ d.map Prod.fst
theorem turn1_ok {c:ByteArray × Bool} (hf:FineS L last) (hl:last≤r) (hr:1≤r) (hu:Upto L c.1 (r-1)) (hc:zdC L c.1 (r-1) = !c.2) :
 TurnB L (turn1 r (L,last) c).1 (turn1 r (L,last) c).2 r [c]:=by
 obtain ⟨k,b⟩:=c;dsimp only at hu hc;cases b with
 | true =>
  have I:zdh L k<0:=by
   rw [zn3 fun x d=>?_]
   · decide
   · cases q:zjd k x with
     | false=>rfl
     | true =>
      unfold zjd at q;simp only [ya9,yaP] at q;have J:=hu x d q.1;have s:zdC L k (r-1)=true:=zaJ.2 ⟨x,d,q.1,by omega,.inl q.2⟩;rw [hc] at s;cases s
  have B:zgm L last k r=some (L ++ [(k,r,0)]):=yak yab;have e:turn1 r (L,last) (k,true)=(L ++ [(k,r,0)],r):=by unfold turn1;simp [B]
  rw [e];refine ⟨hf.put B,ybp _,fun q z n=>zdS ?_,fun c hc=>?_,fun q o=>⟨zdS ?_,fun z n x d m=>?_⟩,fun F x d y f m=>?_,by simp,fun x d=>?_⟩
  · rw [zaJ,zaJ];constructor
    · rintro ⟨x,d,e,a,b⟩;rcases yaz.1 d with d | d
      · exact ⟨x,d,e,a,b⟩
      · rw [yas.1 d] at a;dsimp only at a;omega
    · rintro ⟨x,d,h⟩;exact ⟨x,yaz.2 (.inl d),h⟩
  · rw [yas.1 hc];exact zaJ.2 ⟨(k,r,0),by simp,rfl,ybp _,.inl rfl⟩
  · have o:q≠k:=by simpa using o
    rw [zaJ,zaJ];constructor
    · rintro ⟨x,d,e,a,b⟩;rcases yaz.1 d with d | d
      · exact ⟨x,d,e,a,b⟩
      · rw [yas.1 d] at e;exact absurd e.symm o
    · rintro ⟨x,d,h⟩;exact ⟨x,yaz.2 (.inl d),h⟩
  · have o:q≠k:=by simpa using o
    rcases yaz.1 d with d | d
    · exact n x d m
    · rw [yas.1 d] at m;exact absurd m.symm o
  · rcases yaz.1 d with d | d <;> rcases yaz.1 f with f | f
    · exact F x d y f m
    · rw [yas.1 f] at m ⊢;have:=hu x d m;dsimp only;omega
    · rw [yas.1 d] at m ⊢;have:=hf.at_ y f;dsimp only;omega
    · rw [yas.1 d,yas.1 f];dsimp only;omega
  · rcases yaz.1 d with d | d
    · exact .inl ⟨x,d,rfl⟩
    · rw [yas.1 d];exact .inr yaf
 | false =>
  obtain ⟨y,f,K,X,Y⟩:=zaJ.1 hc;have G:y.2.2=0:=by have:=hu y f K;omega
  have I:¬zdh L k<0:=fun h=>zgk h y f K G;obtain ⟨i,x,J,s,u,M⟩:=ze4 I;have d:=yar s;have P:=hu x d u;have Q:=hf.at_ x d;have B:zbX L last k r=some (L.set i (k,x.2.1,r)):=by
   unfold zbX endAt;rw [J,ybk,s];rw [yak (by simp only [ybE,Option.getD_some];omega),←u]
  have e:turn1 r (L,last) (k,false)=(L.set i (k,x.2.1,r),r):=by unfold turn1;simp [B]
  rw [e];have hi:=(yao.1 s).1;have A:∀z,z ∈ L.set i (k,x.2.1,r)→z ∈ L∧(z.1=k→z.2.2≠0)∨z=(k,x.2.1,r):=fun z n=>by
   obtain ⟨j,p⟩:=List.mem_iff_getElem?.1 n;rw [ycj] at p;split at p
   · exact .inr (yaX (by simpa [hi] using p)).symm
   · rename_i H
     have C:=(yao.1 p).1;refine .inl ⟨yar p,fun N R=>?_⟩;have T:=hf.at_ z (yar p);rcases Nat.lt_or_gt_of_ne H with q | q
     · have:=ybF.1 hf.two i j hi C q;rw [(yao.1 s).2,(yao.1 p).2] at this;exact (this (u.trans N.symm)).1 M
     · have:=ybF.1 hf.two j i C hi q;rw [(yao.1 s).2,(yao.1 p).2] at this;exact (this (N.trans u.symm)).1 R
  have D:∀z ∈ L,z ∈ L.set i (k,x.2.1,r)∨z=x:=fun z n=>by
   obtain ⟨j,p⟩:=List.mem_iff_getElem?.1 n;by_cases q:i=j
   · subst q;rw [s] at p;exact .inr (yaX p).symm
   · exact .inl (yar (i:=j) (by rw [ycj,yak q];exact p))
  have U:(k,x.2.1,r) ∈ L.set i (k,x.2.1,r):=yar (i:=i) (by rw [ycj,yan rfl,yan hi]);refine ⟨hf.drop B,ybp _,fun q z n=>zdS ?_,fun c hc=>?_,fun q o=>⟨zdS ?_,fun z n y f m=>?_⟩,fun F y f z n m=>?_,by simp,fun z n=>?_⟩
  · rw [zaJ,zaJ];constructor
    · rintro ⟨y,f,e,a,b⟩;rcases A y f with ⟨g,_⟩ | rfl
      · exact ⟨y,g,e,a,b⟩
      · exact ⟨x,d,u.trans e,a,.inl M⟩
    · rintro ⟨y,f,E,a,b⟩;rcases D y f with g | g
      · exact ⟨y,g,E,a,b⟩
      · subst g;exact ⟨_,U,u.symm.trans E,a,.inr n⟩
  · rw [yas.1 hc];dsimp only;rw [←ybZ,zaJ];rintro ⟨y,f,e,a,b⟩;rcases A y f with ⟨g,V⟩ | rfl
    · have:=hu y g e;have:=V e;omega
    · dsimp only at b;omega
  · have o:q≠k:=by simpa using o
    rw [zaJ,zaJ];constructor
    · rintro ⟨y,f,e,a,b⟩;rcases A y f with ⟨g,_⟩ | rfl
      · exact ⟨y,g,e,a,b⟩
      · exact absurd e.symm o
    · rintro ⟨y,f,E,a,b⟩;rcases D y f with g | g
      · exact ⟨y,g,E,a,b⟩
      · subst g;exact absurd (u.symm.trans E).symm o
  · have o:q≠k:=by simpa using o
    rcases A y f with ⟨g,_⟩ | rfl
    · exact n y g m
    · exact absurd m.symm o
  · rcases A y f with ⟨g,_⟩ | rfl <;> rcases A z n with ⟨O,_⟩ | rfl
    · exact F y g z O m
    · have:=F y g x d (m.trans u.symm);exact this
    · have:=hu z O m.symm;dsimp only;omega
    · dsimp only;omega
  · rcases A z n with ⟨g,_⟩ | rfl
    · exact .inl ⟨z,g,rfl⟩
    · exact .inr yaf
theorem zl5 (hr:1≤r):∀{d:List (ByteArray × Bool)} {L:List Sp} {last:Int},FineS L last→last≤r→(d.map Prod.fst).Nodup→(∀c ∈ d,Upto L c.1 (r-1)∧zdC L c.1 (r-1) = !c.2)→TurnB L (zcn r (L,last) d).1 (zcn r (L,last) d).2 r d
 | [],L,last,o,p,_,_=>⟨o,p,fun _ _ _=>rfl,fun _ h=>(by cases h),fun _ _=>⟨rfl,fun _ h=>h⟩,id,yaj _,fun x g=>.inl ⟨x,g,rfl⟩⟩
 | c::d,L,last,o,p,n,s=>by
  rw [yaW,ybT] at n;have f:=turn1_ok o p hr (s c yat).1 (s c yat).2;have D:zcn r (L,last) (c::d)=zcn r (turn1 r (L,last) c) d:=rfl;obtain ⟨u,A,B⟩:∃u A,turn1 r (L,last) c=(u,A):=⟨_,_,rfl⟩;rw [D,B];rw [B] at f;dsimp only at f;have j:=zl5 hr (d:=d) f.fine f.late n.2 fun x g=>by
   have m:x.1 ∉ [c].map Prod.fst:=fun q=>n.1 (by rw [List.map_singleton,yas] at q;rw [←q];exact ybj g);obtain ⟨a,b⟩:=s x (yau _ g);exact ⟨(f.rest _ m).2 _ a,by rw [f.old _ _ (by omega)];exact b⟩
  refine ⟨j.fine,j.late,fun k q C=>(j.old k q C).trans (f.old k q C),fun x g=>?_,fun k hk=>?_,fun E=>j.apart (f.apart E),?_,fun x g=>?_⟩
  · rcases yav.1 g with rfl | g
    · rw [(j.rest _ n.1).1];exact f.is _ (yas.2 rfl)
    · exact j.is x g
  · rw [yaW,yav,not_or] at hk;have m:k ∉ [c].map Prod.fst:=by simpa using hk.1
    exact ⟨(j.rest k hk.2).1.trans (f.rest k m).1,fun q h=>(j.rest k hk.2).2 q ((f.rest k m).2 q h)⟩
  · have:=f.len;have:=j.len;simp only [yaq,yaI] at *
    omega
  · rcases j.keys x g with ⟨y,F,e⟩ | h
    · rcases f.keys y F with ⟨z,G,H⟩ | h
      · exact .inl ⟨z,G,H.trans e⟩
      · refine .inr ?_;rw [List.map_singleton,yas] at h;rw [yaW,←e,h];exact yat
    · exact .inr (by rw [yaW];exact yau _ h)
theorem pairs_eq {l m:List (ByteArray × Bool)} (hl:l.Pairwise fun a b=>kl a.1 b.1=true) (hm:m.Pairwise fun a b=>kl a.1 b.1=true) (h:∀c,c ∈ l↔c ∈ m):l=m:=by
 have nd:∀{z:List (ByteArray × Bool)},z.Pairwise (fun a b=>kl a.1 b.1=true)→z.Nodup:=fun h=>h.imp fun {a b} q e=>by rw [e,zik] at q;cases q
 exact List.Perm.eq_of_pairwise (le:=fun a b:ByteArray × Bool=>kl a.1 b.1=true) (fun a b _ _ x y=>by rw [zpN x] at y;cases y) hl hm ((ych (nd hl) (nd hm)).2 h)
section
variable {τ ν:Type} [Inhabited τ] [Inhabited ν]
structure SpB (L:List Sp) (last:Int) (s:Sto τ ν):Prop where
 fine:FineS L last
 late:last≤revB s
 tell:∀r,s.floor≤r→r≤revB s→∀k,zdC L k r=hasK (atB s r).keys k
 apart:Apart L
theorem SpB.new (q:Int):SpB [] 0 (zbT q:Sto τ ν):=⟨FineS.nil,by simp [revB,zbT],fun r b d k=>by
 unfold zbT revB at d;have b:(0:Int)≤r:=b;simp at d;have:atB (zbT q:Sto τ ν) r=zjE:=by
  obtain rfl:r=0:=by omega
  exact zeJ (s:=zbT q) (i:=0) rfl
 rw [this];rfl,fun _ h=>by cases h⟩
theorem SpB.keys {α:Type} {p:Bp τ α} {s:Sto τ ν} (h:SpB L last s) (hs:OkB p s) (h1:s.floor≤r) (h2:r≤revB s):zlA L r=(atB s r).keys∧zcI L r=(atB s r).keys.length:=by
 obtain ⟨b,d,f⟩:=zpL h.fine r;obtain ⟨i,hi,g⟩:=ziI (s:=s) (r:=r) (zbG.2 ⟨h1,h2⟩);have e:zlA L r=(atB s r).keys:=ze8 b (hs.rise _ (yar g)) fun k=>by
  rw [f,h.tell r h1 h2,zas]
 exact ⟨e,by rw [←e,d]⟩
theorem SpB.next {s:Sto τ ν} {v:Rv τ ν} (h:SpB L last s) (hL:s.L≠[]) (hf:0≤s.floor) (hr:Rises (zai s).keys) (hv:Rises v.keys) :
 SpB (zcn (revB s + 1) (L,last) (zaN (zai s).keys v.keys)).1 (zcn (revB s + 1) (L,last) (zaN (zai s).keys v.keys)).2 (zaQ s v) ∧
  TurnB L (zcn (revB s + 1) (L,last) (zaN (zai s).keys v.keys)).1 (zcn (revB s + 1) (L,last) (zaN (zai s).keys v.keys)).2 (revB s + 1) (zaN (zai s).keys v.keys):=by
 have y:=ybG.2 hL;have m:0≤revB s:=by unfold revB;omega
 have f:s.floor≤revB s:=by unfold revB;omega
 have b:=za5 hL;have n:=zlk hr hv;have T:=zl5 (r:=revB s + 1) yab (d:=zaN (zai s).keys v.keys) h.fine (by have:=h.late;omega) n.1.nodup fun c j=>by
  refine ⟨fun x o _=>?_,?_⟩
  · have:=h.fine.at_ x o;have:=h.late;omega
  · rw [show revB s + 1-1=revB s by omega,h.tell _ f (ybp _),b];exact ((zdU hr hv c.1 c.2).1 j).2
 refine ⟨⟨T.fine,by rw [zbd];exact T.late,fun r p q k=>?_,T.apart h.apart⟩,T⟩;rw [zbd] at q;by_cases e:r≤revB s
 · rw [T.old k r yab,zmf e,h.tell r p e]
 · obtain rfl:r=revB s + 1:=by omega
   have u:atB (zaQ s v) (revB s + 1)=v:=by
    rw [←zbd s v,za5 (s:=zaQ s v) (by simp [zaQ]),zil]
   rw [u];by_cases g:k ∈ (zaN (zai s).keys v.keys).map Prod.fst
   · obtain ⟨c,j,rfl⟩:=yaN.1 g;rw [T.is c j];exact ((zdU hr hv c.1 c.2).1 j).1.symm
   · rw [(T.rest k g).1,zkc h.fine h.late yab,h.tell _ f (ybp _),b];have:=n.2 k;rw [za7.2 g] at this;revert this
     cases hasK (zai s).keys k <;> cases hasK v.keys k <;> decide
theorem SpB.same {s:Sto τ ν} {v:Rv τ ν} (h:SpB L last s) (hL:s.L≠[]) (hk:v.keys=(zai s).keys):SpB L last (zaQ s v):=by
 have g:=ybG.2 hL;have b:s.floor≤revB s:=by unfold revB;omega
 refine ⟨h.fine,by rw [zbd];have:=h.late;omega,fun r d f k=>?_,h.apart⟩;rw [zbd] at f;by_cases e:r≤revB s
 · rw [zmf e,h.tell r d e]
 · obtain rfl:r=revB s + 1:=by omega
   rw [←zbd s v,za5 (s:=zaQ s v) (by simp [zaQ]),zil,hk,zbd,zkc h.fine h.late yab,h.tell _ b (ybp _),za5 hL]
theorem SpB.has {s:Sto τ ν} (h:SpB L last s) (k:ByteArray):(zaO s r && zdC L k r)=hasK (atB s r).keys k:=by
 cases q:zaO s r with
 | true =>
  obtain ⟨b,d⟩:=zbG.1 q;rw [ycG,h.tell r b d]
 | false =>
  rw [yb1,zfn q];rfl
end
def evT (T:ByteArray→Bool) (e:Ev):ByteArray→Bool:=fun x=>if x=e.2.1 then e.2.2 else T x
theorem zeI (q:ByteArray):∀{l:List Ev} {T:ByteArray→Bool} {j:Bool},zgc q (T q) l=some j→(l.foldl evT T) q=j
 | [],_,_,h=>by rw [zgc] at h;injection h
 | e::l,T,j,h=>by
  rw [zgc] at h;rw [yb7];split at h
  · rename_i b
    split at h
    · cases h
    · refine zeI q ?_;unfold evT;rw [yan b.symm];exact h
  · rename_i b
    refine zeI q ?_;unfold evT;rw [yak fun z=>b z.symm];exact h
theorem zoO (hf:FineS L last) (hr:0≤r) {i:Nat} {e:Ev} (h:(eventsP L 0 r)[i]? = some e):(((eventsP L 0 r).take i).foldl evT fun _=>false) e.2.1 = !e.2.2:=by
 have d:=zgx hf e.2.1 (a:=0) (b:=r) hr;rw [zkd hf _ (ybp _),←ybg i (eventsP L 0 r),zep] at d;cases q:zgc e.2.1 false ((eventsP L 0 r).take i) with
 | none=>rw [q] at d;cases d
 | some b =>
  rw [q] at d;rw [zeI e.2.1 (T:=fun _=>false) q];have f:(eventsP L 0 r).drop i=e::(eventsP L 0 r).drop (i + 1):=by
   obtain ⟨g,j⟩:=yao.1 h;rw [ya3 g,j]
  rw [f,Option.bind_some,zgc,yan rfl] at d;split at d
  · cases d
  · rename_i k
    cases b <;> cases m:e.2.2 <;> simp_all
theorem evT_all (hf:FineS L last) (hr:0≤r) (k:ByteArray):((eventsP L 0 r).foldl evT fun _=>false) k=zdC L k r :=
 zeI k (by rw [←zkd hf k (ybp 0)];exact zgx hf k hr)
theorem zkI {s t:List ByteArray}:∀{p:List (ByteArray × Bool)},(∀x ∈ p,hasK s x.1=hasK t x.1)→zhM s p=zhM t p
 | [],_=>rfl
 | x::p,h=>by
  unfold zhM;rw [h x yat,zkI fun y b=>h y (yau _ b)]
theorem zgJ:∀{c:List (ByteArray × Bool)} {s t:List ByteArray} {i:Nat},Rises s→Rises t→(∀x ∈ c,hasK s x.1=hasK t x.1)→(zcy s c i).2=(zcy t c i).2 ∧
 ((zcy s c i).2.1=0→(∀k,hasK s k=hasK t k→hasK (zcy s c i).1 k=hasK (zcy t c i).1 k)∧∀k,k ∉ c.map Prod.fst→hasK (zcy s c i).1 k=hasK s k∧hasK (zcy t c i).1 k=hasK t k)
 | [],s,t,i,_,_,_=>⟨rfl,fun _=>⟨fun _ h=>h,fun _ _=>⟨rfl,rfl⟩⟩⟩
 | x::c,s,t,i,n,o,h=>by
  have g:=h x yat;by_cases e:hasK s x.1=x.2
  · rw [zbR e,zbR (g ▸ e)];refine ⟨rfl,fun q=>?_⟩;dsimp only at q;split at q <;> cases q
  · have d:hasK s x.1 = !x.2:=by cases z:hasK s x.1 <;> cases A:x.2 <;> simp_all
    have f:hasK t x.1 = !x.2:=g ▸ d;rw [zb8 d,zb8 f];have j:∀k,hasK s k=hasK t k→hasK (zjF s x) k=hasK (zjF t x) k:=fun k hk=>by rw [zcK d,zcK f,hk]
    obtain ⟨p,m⟩:=zgJ (c:=c) (i:=i + 1) (zc4 n d) (zc4 o f) fun y u=>j _ (h y (yau _ u));refine ⟨p,fun q=>⟨fun k hk=>(m q).1 k (j k hk),fun k hk=>?_⟩⟩;rw [yaW,yav,not_or] at hk;obtain ⟨a,b⟩:=(m q).2 k hk.2;rw [a,b,zcK d,zcK f,yak hk.1,yak hk.1];exact ⟨rfl,rfl⟩
theorem zll (s t:List ByteArray):t.length + ((zaN s t).filter fun c=>!c.2).length=s.length + ((zaN s t).filter fun c=>c.2).length:=by
 induction s,t using zaN.induct with
 | case1=>rw [zmn];rfl
 | case2 a s ih=>rw [zeO (by simp)];simp at ih ⊢;omega
 | case3 b t ih=>rw [zdV (by simp)];simp at ih ⊢;omega
 | case4 a s b t h ih=>rw [zeO (by simpa using h)];simp at ih ⊢;omega
 | case5 a s b t d f ih=>rw [zdV (by simpa using ⟨ybl.2 d,f⟩)];simp at ih ⊢;omega
 | case6 a s b t d f ih=>rw [zjX (ybl.2 d) (ybl.2 f)];simp at ih ⊢;omega
theorem touch {s u:List ByteArray} {p c:List (ByteArray × Bool)} (hs:Rises s) (hu:Rises u) (h:∀k,k ∈ u↔k ∈ s∧(k ∈ c.map Prod.fst∨k ∈ p.map Prod.fst)) :
 (zcb u p c).2=(zcb s p c).2∧((zcb s p c).2.1=0→zaN u (zcb u p c).1=zaN s (zcb s p c).1∧((s.length:Int)-u.length + (zcb u p c).1.length=(zcb s p c).1.length)∧Rises (zcb u p c).1∧Rises (zcb s p c).1):=by
 have hk:∀k,k ∈ c.map Prod.fst∨k ∈ p.map Prod.fst→hasK u k=hasK s k:=fun k hk=>zdS (by rw [zas,zas,h];exact ⟨fun q=>q.1,fun q=>⟨q,hk⟩⟩);have z:zhM u p=zhM s p:=zkI fun x d=>hk _ (.inr (ybj d));unfold zcb;rw [z];cases zhM s p with
 | some i=>exact ⟨rfl,fun q=>by cases q⟩
 | none =>
  dsimp only;obtain ⟨n,A⟩:=zgJ (c:=c) (i:=p.length) hu hs fun x d=>hk _ (.inl (ybj d));refine ⟨n,fun q=>?_⟩;rw [←n] at q;obtain ⟨B,o⟩:=A q;have f:Rises (zcy u c p.length).1:=zfp hu;have g:Rises (zcy s c p.length).1:=zfp hs;have y:zaN u (zcy u c p.length).1=zaN s (zcy s c p.length).1:=pairs_eq (zfs hu f) (zfs hs g) fun x=>by
   rw [show (x ∈ zaN u (zcy u c p.length).1)=((x.1,x.2) ∈ zaN u (zcy u c p.length).1) from rfl,show (x ∈ zaN s (zcy s c p.length).1)=((x.1,x.2) ∈ zaN s (zcy s c p.length).1) from rfl,zdU hu f,zdU hs g];by_cases m:x.1 ∈ c.map Prod.fst
   · rw [hk _ (.inl m),B _ (hk _ (.inl m))]
   · rw [(o _ m).1,(o _ m).2];constructor
     · rintro ⟨a,b⟩;rw [a] at b;cases j:x.2 <;> rw [j] at b <;> cases b
     · rintro ⟨a,b⟩;rw [a] at b;cases j:x.2 <;> rw [j] at b <;> cases b
  refine ⟨y,?_,f,g⟩;have C:=zll u (zcy u c p.length).1;have D:=zll s (zcy s c p.length).1;rw [y] at C;omega
end
section
open Go.RowKit
abbrev Tb:=List ByteArray × List Path × List RelT
def mkK (R:List RelT):List TabR:=R.map fun r=>⟨r,none,0,none,0⟩
def zaR (t:Tb) (u:TuP):Int:=zcM t.1 t.2.1 (mkK t.2.2) u
theorem atK_mk (K:List TabR) (id:Int):(atK (mkK (K.map (·.r))) id).r=(atK K id).r:=by
 unfold atK mkK;split
 · rw [ya5,ya5,ybn,ya0];cases K[id.toNat]? <;> rfl
 · rfl
theorem right_mk (ty:List ByteArray) (ps:List Path) (K:List TabR) (u:TuP):zaR (ty,ps,K.map (·.r)) u=zcM ty ps K u:=by
 unfold zaR zcM mayT;rw [atK_mk]
abbrev noTup:TuP:=((⟨#[]⟩,⟨#[]⟩,⟨#[]⟩),(⟨#[]⟩,⟨#[]⟩,⟨#[]⟩))
def ofT (k:ByteArray):TuP:=(zds k).getD noTup
abbrev CoF:=ByteArray→Int × ByteArray × Tb
def zoJ (f:CoF):Prop:=∀{x:ByteArray} {e:Nat} {tx:ByteArray} {ty:List ByteArray} {ps:List Path} {R:List RelT},CompIs x e tx ty ps R→f x=((e:Int),tx,(ty,ps,R))
def p15 (f:CoF):Bp Tb TuP:=⟨f,zaR,zbu,ofT⟩
theorem zhd (f:CoF):(p15 f).of=ofT:=by simp only [p15]
theorem zfA (f:CoF):(p15 f).key=zbu:=by simp only [p15]
theorem zbs (f:CoF):(p15 f).right=zaR:=by simp only [p15]
theorem zbh (f:CoF):(p15 f).comp=f:=by simp only [p15]
theorem zqN {t:Tb} {u:TuP} (h:zaR t u=0):zmx u=true:=by
 unfold zaR zcM at h;split at h
 · rename_i q;exact q.1
 · cases h
theorem zqz (f:CoF):BpOk (p15 f) where
 back:=fun t x h=>by
  rw [zbs] at h;rw [zhd,zfA];unfold ofT;rw [from_key (zqN h),Option.getD_some]
theorem CompIs.few {s:ByteArray} {e:Nat} {tx:ByteArray} {ty:List ByteArray} {ps:List Path} {R:List RelT} (h:CompIs s e tx ty ps R):ps.length≤96:=by
 rcases h.yes with ⟨_,_,_,rfl,_⟩ | ⟨_,v,k⟩
 · decide
 · rw [k.paths,zog];exact k.right.rels_le
structure Tm where
 tx:ByteArray
 Ay:Option Addr
 cy:Nat
 ty:List ByteArray
 mb:Option Nat
 ps:List Path
 Ar:Option Addr
 cr:Nat
 K:List TabR
def Tm.val (t:Tm):Value:=.agg #[.string t.tx,.slice t.Ay t.ty.length t.cy,.map t.mb,.slice t.Ar t.K.length t.cr]
def Tm.tb (t:Tm):Tb:=(t.ty,t.ps,t.K.map (·.r))
def noTm:Tm:=⟨⟨#[]⟩,none,0,[],none,[],none,0,[]⟩
structure Tm.ok (X:Nat→Prop) (w:World) (t:Tm):Prop where
 tab:TabX X w t.Ay t.cy t.ty t.mb t.ps t.Ar t.cr t.K
 few:t.ps.length≤96
theorem zqj (X:Nat→Prop) (w:World):noTm.ok X w:=⟨TabX.none_ _ _,by decide⟩
theorem Stay.refl (X:Nat→Prop) (w:World):Stay X w w:=⟨yaj _,fun _ _ _=>rfl⟩
theorem Stay.trans {X Y:Nat→Prop} {w w1 w2:World} (h:Stay X w w1) (k:Stay Y w1 w2) (hY:∀b,Y b→X b∨w.heap.size≤b):Stay X w w2:=⟨yax h.1 k.1,fun b hb d=>(k.2 b (yaw hb h.1) fun q=>by
 rcases hY b q with q | q
 · exact d q
 · omega).trans (h.2 b hb d)⟩
theorem Stay.below {X:Nat→Prop} {w w1:World} (h:Below w.heap.size w w1):Stay X w w1:=⟨h.size,fun b hb _=>h.block b hb⟩
theorem Tm.ok.step {X Y:Nat→Prop} {w w1:World} {t:Tm} (h:t.ok X w) (hs:Stay X w w1) (hY:∀b,Y b→X b∨w.heap.size≤b):t.ok Y w1:=⟨fun w' d=>h.tab w' (hs.trans d hY),h.few⟩
theorem Tm.ok.at_ {X:Nat→Prop} {w:World} {t:Tm} (h:t.ok X w):TabA w t.Ay t.cy t.ty t.mb t.ps t.Ar t.cr t.K:=h.tab w (Stay.refl X w)
def zf0 (u:TuP):Value:=.agg #[.string u.1.1,.string u.1.2.1,.string u.1.2.2,.string u.2.1,.string u.2.2.1,.string u.2.2.2]
theorem Tm.right {X:Nat→Prop} {w:World} {t:Tm} (h:t.ok X w) (u:TuP) (hu:∀x ∈ zaE u,x.size≤100000) :
 Calls Tryz.prog 44 #[t.val,zf0 u] w fun e w'=>e = .returned (.int .i64 (zaR t.tb u))∧Below w.heap.size w w':=by
 have k:=right_any12 (tx:=t.tx) h.at_ h.few u.1.1 u.1.2.1 u.1.2.2 u.2.1 u.2.2.1 u.2.2.2 (hu _ (by simp [zaE])) (hu _ (by simp [zaE])) (hu _ (by simp [zaE])) (hu _ (by simp [zaE])) (hu _ (by simp [zaE])) (hu _ (by simp [zaE]));unfold Tm.tb;rw [right_mk];exact k
def KeyX (X:Nat→Prop) (w:World) (A:Option Addr) (c:Nat) (l:List ByteArray):Prop:=∀w',Stay X w w'→Rd w' w'.heap.size 1 A l.length c (ks l)
theorem KeyX.step {X Y:Nat→Prop} {w w1:World} {A:Option Addr} {c:Nat} {l:List ByteArray} (h:KeyX X w A c l) (hs:Stay X w w1) (hY:∀b,Y b→X b∨w.heap.size≤b):KeyX Y w1 A c l:=fun w' d=>h w' (hs.trans d hY)
structure Rm where
 v:Rv Tb Nd15
 t:Tm
 rev:Int
 Ak:Option Addr
 ck:Nat
def Rm.cells (x:Rm):List Value:=[.int .i64 x.rev,.string x.v.by_.1,.string x.v.by_.2.1,.string x.v.by_.2.2,.bool x.v.schema,.slice x.Ak x.v.wrote.length x.ck,.string x.t.tx,.slice x.t.Ay x.t.ty.length x.t.cy,.map x.t.mb,.slice x.t.Ar x.t.K.length x.t.cr]
structure Rm.ok (X:Nat→Prop) (w:World) (x:Rm):Prop where
 tab:x.t.ok X w
 text:x.v.text=x.t.tx
 T:x.v.T=x.t.tb
 wrote:KeyX X w x.Ak x.ck x.v.wrote
theorem Rm.ok.step {X Y:Nat→Prop} {w w1:World} {x:Rm} (h:x.ok X w) (hs:Stay X w w1) (hY:∀b,Y b→X b∨w.heap.size≤b):x.ok Y w1:=⟨h.tab.step hs hY,h.text,h.T,h.wrote.step hs hY⟩
structure Mm where
 gs:Nat
 F0:Nat→Prop
 t:Tm
 A:Option Addr
 c:Nat
 l:List Rm
abbrev Mm.row (m:Mm):Value:=.slice m.A m.l.length m.c
def boxC (s:Sto Tb Nd15) (m:Mm):Array Value:=#[.pointer (some ⟨m.gs,0,none⟩),.int .i64 s.quota,.int .i64 s.floor,.string m.t.tx,.slice m.t.Ay m.t.ty.length m.t.cy,.map m.t.mb,.slice m.t.Ar m.t.K.length m.t.cr,.slice m.A m.l.length m.c]
abbrev SpW:=World→(Nat→Prop)→Nat→List Sp→Int→Prop
structure StR (S:SpW) (X:Nat→Prop) (w:World) (F:Nat→Prop) (g:Nat) (s:Sto Tb Nd15) (L:List Sp) (last:Int) (m:Mm):Prop where
 box:Rk w g (boxC s m) 80
 sp:S w m.F0 m.gs L last
 row:w.ownsRow 0 100 10 m.row m.l.length (m.l.flatMap Rm.cells)
 own:∀j,F j↔j=g∨m.F0 j∨m.row.ownBlock=some j
 g0:¬m.F0 g
 r0:∀j,m.row.ownBlock=some j→¬m.F0 j
 sub:∀j,F j→X j
 lt:∀j,X j→j<w.heap.size
 head:∃u,s.L=u::m.l.map (·.v)∧u.text=m.t.tx∧u.T=m.t.tb
 first:m.t.ok X w
 each:∀x ∈ m.l,x.ok X w
 revs:∀(i:Nat) x,m.l[i]? = some x→x.rev=s.floor + 1 + i
 fl0:0≤s.floor
 most:revB s≤9223372036854775807
 few:m.l.length≤63
 keys:∀x ∈ L,x.1.size≤100000
 len:L.length≤50000
 fine:FineS L last
structure StM (S:SpW) (f:CoF) (X:Nat→Prop) (w:World) (F:Nat→Prop) (g:Nat) (s:Sto Tb Nd15) (L:List Sp) (last:Int) (m:Mm):Prop extends StR S X w F g s L last m where
 spb:SpB L last s
 ok:OkB (p15 f) s
section
variable {S:SpW} {f:CoF} {X Y F F':Nat→Prop} {w w':World} {g:Nat} {s:Sto Tb Nd15} {L:List Sp} {last:Int} {m:Mm}
theorem StR.len_eq (h:StR S X w F g s L last m):s.L.length=m.l.length + 1:=by
 obtain ⟨u,e,_⟩:=h.head;rw [e,yaq,yay]
theorem StR.rev_eq (h:StR S X w F g s L last m):revB s=s.floor + m.l.length:=by
 have:=h.len_eq;unfold revB;omega
theorem StR.floor0 (h:StR S X w F g s L last m):0≤s.floor∧s.floor≤9223372036854775807:=by
 have:=h.fl0;have:=h.rev_eq;have:=h.most;omega
theorem StR.up (K:SpK S) (h:StR S X w F g s L last m) (hb:Below w.heap.size w w'):StR S X w' F g s L last m where
 box:=h.box.same (hb.block g h.box.lt)
 sp:=K.keep h.sp fun b q=>hb.block b (K.lt h.sp b q)
 row:=zau h.row fun j d=>hb.block j (h.row.lt j d).2
 own:=h.own
 g0:=h.g0
 r0:=h.r0
 sub:=h.sub
 lt:=fun j q=>yaw (h.lt j q) hb.size
 head:=h.head
 first:=h.first.step (Stay.below hb) fun _ q=>.inl q
 each:=fun x f=>(h.each x f).step (Stay.below hb) fun _ q=>.inl q
 revs:=h.revs
 fl0:=h.fl0
 most:=h.most
 few:=h.few
 keys:=h.keys
 len:=h.len
 fine:=h.fine
theorem StM.up (K:SpK S) (h:StM S f X w F g s L last m) (hb:Below w.heap.size w w'):StM S f X w' F g s L last m:=⟨h.toStR.up K hb,h.spb,h.ok⟩
theorem ziw (x:Rm):x.cells.length=10:=rfl
theorem StR.get (h:StR S X w F g s L last m) {i:Nat} {x:Rm} (hi:m.l[i]? = some x) :
 ∃b o,m.A=some ⟨b,o,none⟩∧b<w.heap.size∧∀k u,x.cells[k]? = some u→w.cell? ⟨b,o + i * 10 + k,none⟩=some u:=by
 obtain ⟨A,c,e,f⟩:=Rd.own h.row;injection e with j q n
 subst j n;obtain ⟨b,o,e,hb,p⟩:=f.at_ (zdI hi);refine ⟨b,o,e,hb,fun k u d=>?_⟩;have hk:k<10:=by have:=(yao.1 d).1;rwa [ziw] at this
 rw [ya4];exact p _ _ ((za6 Rm.cells (sz:=10) ziw hi (k:=k) hk).trans d)
theorem StR.place (h:StR S X w F g s L last m) {r:Int} (h1:s.floor<r) (h2:r≤revB s):∃(i:Nat) (x:Rm),r=s.floor + 1 + i∧m.l[i]? = some x∧x.v=atB s r∧x.rev=r:=by
 have e:=h.rev_eq;obtain ⟨i,hi⟩:∃i:Nat,r=s.floor + 1 + i:=⟨(r-s.floor-1).toNat,by omega⟩;obtain ⟨x,b⟩:∃x,m.l[i]? = some x:=⟨_,yal yab⟩;refine ⟨i,x,hi,b,?_,by rw [h.revs i x b,hi]⟩;obtain ⟨u,d,_⟩:=h.head;have f:s.L[i + 1]? = some x.v:=by rw [d,ybe,ya0,b];rfl
 have j:=zeJ f;rw [←j];congr 1
 omega
theorem StR.atFloor (h:StR S X w F g s L last m):(atB s s.floor).text=m.t.tx∧(atB s s.floor).T=m.t.tb:=by
 obtain ⟨u,d,f,j⟩:=h.head;have k:s.L[0]? = some u:=by rw [d];rfl
 have b:=zeJ k;rw [Int.natCast_zero,Int.add_zero] at b;rw [b];exact ⟨f,j⟩
end
end
section
open Go.RowKit
section
variable {S:SpW} {f:CoF} {X Y F F':Nat→Prop} {w w':World} {g:Nat} {s:Sto Tb Nd15} {L:List Sp} {last:Int} {m:Mm}
theorem StR.cs (h:StR S X w F g s L last m):w.cell? ⟨g,0,none⟩=some (.pointer (some ⟨m.gs,0,none⟩))∧w.cell? ⟨g,1,none⟩=some (.int .i64 s.quota)∧w.cell? ⟨g,2,none⟩=some (.int .i64 s.floor)∧w.cell? ⟨g,3,none⟩=some (.string m.t.tx) ∧
 w.cell? ⟨g,4,none⟩=some (.slice m.t.Ay m.t.ty.length m.t.cy)∧w.cell? ⟨g,5,none⟩=some (.map m.t.mb)∧w.cell? ⟨g,6,none⟩=some (.slice m.t.Ar m.t.K.length m.t.cr)∧w.cell? ⟨g,7,none⟩=some (.slice m.A m.l.length m.c) :=
 ⟨h.box.cell 0,h.box.cell 1,h.box.cell 2,h.box.cell 3,h.box.cell 4,h.box.cell 5,h.box.cell 6,h.box.cell 7⟩
theorem zhm (h:StR S X w F g s L last m):Calls Tryz.prog 17 #[.pointer (some ⟨g,0,none⟩)] w fun e w'=>e = .returned (.int .i64 (revB s))∧∃q,w'=w.drewN q:=by
 have e:=h.rev_eq;have b:=h.most;have d:=h.floor0;rw [e] at b ⊢;have f:IntKind.i64.wrap (s.floor + (m.l.length:Int))=s.floor + (m.l.length:Int):=IntWalk.i64_in _ ⟨by omega,by omega⟩;have lt:=h.box.lt;obtain ⟨j,k,n,o,p,u,x,y⟩:=h.cs;go_enter Tryz.func17,Tryz.ntmps17
 go_upto_region 3 with (fail)
 go_quiet (fail)
 go_wp2_with fail
 go_ret
 exact ⟨rfl,_,rfl⟩
theorem zes (h:StR S X w F g s L last m):Calls Tryz.prog 18 #[.pointer (some ⟨g,0,none⟩)] w fun e w'=>e = .returned (.int .i64 s.floor)∧w'=w:=by
 have lt:=h.box.lt;obtain ⟨b,d,f,j,k,n,o,p⟩:=h.cs;go_enter Tryz.func18,Tryz.ntmps18
 go_wp2_with fail
 go_ret
 exact ⟨rfl,rfl⟩
theorem zif (h:StM S f X w F g s L last m) (r:Int):Calls Tryz.prog 30 #[.pointer (some ⟨g,0,none⟩),.int .i64 r] w fun e w'=>e = .returned (.bool (zaO s r))∧∃q,w'=w.drewN q:=by
 have d:=zes h.toStR;have k:=zhm h.toStR;obtain ⟨b,hb⟩:∃b,zaO s r=b:=⟨_,rfl⟩;rw [hb];unfold zaO at hb;generalize revB s=z at *
 generalize s.floor=y at *
 by_cases j:y≤r
 · rw [yaD j,ycG] at hb;subst hb;go_enter Tryz.func30,Tryz.ntmps30
   go_wp2_with (first | (go_at_call 18;refine d.mono ?_;rintro e n ⟨rfl,rfl⟩) | (go_at_call 17;refine k.mono ?_;rintro e o ⟨rfl,q,rfl⟩))
   go_ret
   exact ⟨rfl,_,rfl⟩
 · rw [yaH j,yb1] at hb;subst hb;go_enter Tryz.func30,Tryz.ntmps30
   go_wp2_with (go_at_call 18;refine d.mono ?_;rintro e n ⟨rfl,rfl⟩)
   go_ret
   exact ⟨rfl,0,rfl⟩
theorem StM.drewN (K:SpK S) (h:StM S f X w F g s L last m) (q:Nat):StM S f X (w.drewN q) F g s L last m:=h.up K (zav w _ q)
theorem zoj (K:SpK S) (h:StM S f X w F g s L last m):Calls Tryz.prog 38 #[.pointer (some ⟨g,0,none⟩)] w fun e w'=>e = .returned (.bool (decide (s.L.length≤63)))∧∃q,w'=w.drewN q:=by
 have b:=zhm h.toStR;have j:=fun q=>zes (h.drewN K q).toStR;have e:=h.rev_eq;have k:=h.len_eq;have p:=h.few;rw [e] at b;have u:IntKind.i64.wrap (s.floor + (m.l.length:Int)-s.floor)=(m.l.length:Int):=by rw [show s.floor + (m.l.length:Int)-s.floor=(m.l.length:Int) by omega];exact IntWalk.i64_in _ ⟨by omega,by omega⟩
 have n:s.floor + (m.l.length:Int)-s.floor=(m.l.length:Int):=by omega
 have o:IntKind.i64.wrap (m.l.length:Int)=(m.l.length:Int):=IntWalk.i64_in _ ⟨by omega,by omega⟩;rw [k];have d:decide (m.l.length + 1≤63)=decide ((m.l.length:Int)<63):=decide_eq_decide.2 yab;rw [d];clear d;go_enter Tryz.func38,Tryz.ntmps38
 go_wp2_with (first | (go_at_call 18;refine (j _).mono ?_;rintro e x ⟨rfl,rfl⟩) | (go_at_call 17;refine b.mono ?_;rintro e y ⟨rfl,q,rfl⟩))
 go_ret
 exact ⟨rfl,_,rfl⟩
theorem zi0 (h:StM S f X w F g s L last m) (r:Int):Calls Tryz.prog 30 #[.pointer (some ⟨g,0,none⟩),.int .i64 r] w fun e w'=>e = .returned (.bool (zaO s r))∧Below w.heap.size w w':=(zif h r).mono fun _ _ ⟨e,q,k⟩=>⟨e,by rw [k];exact zav w _ q⟩
theorem zcP (h:StR S X w F g s L last m):Calls Tryz.prog 17 #[.pointer (some ⟨g,0,none⟩)] w fun e w'=>e = .returned (.int .i64 (revB s))∧Below w.heap.size w w':=(zhm h).mono fun _ _ ⟨e,q,k⟩=>⟨e,by rw [k];exact zav w _ q⟩
theorem zjr (K:SpK S) (h:StM S f X w F g s L last m):Calls Tryz.prog 38 #[.pointer (some ⟨g,0,none⟩)] w fun e w'=>e = .returned (.bool (decide (s.L.length≤63)))∧Below w.heap.size w w':=(zoj K h).mono fun _ _ ⟨e,q,k⟩=>⟨e,by rw [k];exact zav w _ q⟩
end
end
end Go.Proofs.YtmblgnddgmfkhaaGreat
