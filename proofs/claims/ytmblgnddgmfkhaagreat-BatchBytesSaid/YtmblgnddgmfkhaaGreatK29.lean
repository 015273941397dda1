import Derived.Test.YtmblgnddgmfkhaaGreatK28
set_option maxRecDepth 100000
set_option maxHeartbeats 4000000
namespace Go.Proofs.YtmblgnddgmfkhaaGreat
section
variable {L:List Sp} {r last:Int}
theorem zaP {k:ByteArray}:zdw L k r=true↔∃x ∈ L,x.1=k∧x.2.1≤r∧(x.2.2=0∨r<x.2.2):=by
 unfold zdw zbs;simp only [ybV,ybc,ycE,yaP];exact ⟨fun ⟨x,b,⟨f,g⟩,j⟩=>⟨x,b,j,f,g⟩,fun ⟨x,b,j,f,g⟩=>⟨x,b,⟨f,g⟩,j⟩⟩
theorem zep {a b:Bool} (h:a=true↔b=true):a=b:=by cases a <;> cases b <;> simp_all
theorem zkK {q:Int} (hf:FineS L last) (h1:last≤r) (h2:r≤q) (k:ByteArray):zdw L k q=zdw L k r:=zep (by
 rw [zaP,zaP];constructor
 · rintro ⟨x,f,e,a,b⟩;have:=hf.at_ x f;exact ⟨x,f,e,by omega,by omega⟩
 · rintro ⟨x,f,e,a,b⟩;have:=hf.at_ x f;exact ⟨x,f,e,by omega,by omega⟩)
theorem zkL (hf:FineS L last) (k:ByteArray) (hr:r≤0):zdw L k r=false:=by
 rw [←yb5,zaP];rintro ⟨x,b,_,a,_⟩;have:=hf.at_ x b;omega
def Upto (L:List Sp) (k:ByteArray) (r:Int):Prop:=∀x ∈ L,x.1=k→x.2.1≤r∧x.2.2≤r
def Apart (L:List Sp):Prop:=∀x ∈ L,∀y ∈ L,x.1=y.1→x.2.2≠y.2.1
def turn1 (r:Int) (a:List Sp × Int) (c:ByteArray × Bool):List Sp × Int :=
 if c.2 then ((zgS a.1 a.2 c.1 r).getD a.1,if (zgS a.1 a.2 c.1 r).isSome then r else a.2) else ((zcc a.1 a.2 c.1 r).getD a.1,if (zcc a.1 a.2 c.1 r).isSome then r else a.2)
def zcE (r:Int) (a:List Sp × Int) (d:List (ByteArray × Bool)):List Sp × Int:=d.foldl (turn1 r) a
structure TurnB (L L':List Sp) (last' r:Int) (d:List (ByteArray × Bool)):Prop where
 fine:FineS L' last'
 late:last'≤r
 old:∀k q,q<r→zdw L' k q=zdw L k q
 is:∀c ∈ d,zdw L' c.1 r=c.2
 rest:∀k,k ∉ d.map Prod.fst→zdw L' k r=zdw L k r∧∀q,Upto L k q→Upto L' k q
 apart:Apart L→Apart L'
 len:L'.length≤L.length + d.length
 keys:∀x ∈ L',(∃y ∈ L,y.1=x.1)∨x.1 ∈ d.map Prod.fst
theorem turn1_ok {c:ByteArray × Bool} (hf:FineS L last) (hl:last≤r) (hr:1≤r) (hu:Upto L c.1 (r-1)) (hc:zdw L c.1 (r-1) = !c.2) :
 TurnB L (turn1 r (L,last) c).1 (turn1 r (L,last) c).2 r [c]:=by
 obtain ⟨k,b⟩:=c;dsimp only at hu hc;cases b with
 | true =>
  have K:zdB L k<0:=by
   rw [zoN fun x f=>?_]
   · decide
   · cases q:zjR k x with
     | false=>rfl
     | true =>
      unfold zjR at q;simp only [ybc,yaP] at q;have M:=hu x f q.1;have A:zdw L k (r-1)=true:=zaP.2 ⟨x,f,q.1,by omega,.inl q.2⟩;rw [hc] at A;cases A
  have D:zgS L last k r=some (L ++ [(k,r,0)]):=yak yab;have e:turn1 r (L,last) (k,true)=(L ++ [(k,r,0)],r):=by unfold turn1;simp [D]
  rw [e];refine ⟨hf.put D,ybf _,fun q z o=>zep ?_,fun c hc=>?_,fun q s=>⟨zep ?_,fun z o x f n=>?_⟩,fun H x f y m n=>?_,by simp,fun x f=>?_⟩
  · rw [zaP,zaP];constructor
    · rintro ⟨x,f,e,a,b⟩;rcases yaA.1 f with f | f
      · exact ⟨x,f,e,a,b⟩
      · rw [yav.1 f] at a;dsimp only at a;omega
    · rintro ⟨x,f,h⟩;exact ⟨x,yaA.2 (.inl f),h⟩
  · rw [yav.1 hc];exact zaP.2 ⟨(k,r,0),by simp,rfl,ybf _,.inl rfl⟩
  · have s:q≠k:=by simpa using s
    rw [zaP,zaP];constructor
    · rintro ⟨x,f,e,a,b⟩;rcases yaA.1 f with f | f
      · exact ⟨x,f,e,a,b⟩
      · rw [yav.1 f] at e;exact absurd e.symm s
    · rintro ⟨x,f,h⟩;exact ⟨x,yaA.2 (.inl f),h⟩
  · have s:q≠k:=by simpa using s
    rcases yaA.1 f with f | f
    · exact o x f n
    · rw [yav.1 f] at n;exact absurd n.symm s
  · rcases yaA.1 f with f | f <;> rcases yaA.1 m with m | m
    · exact H x f y m n
    · rw [yav.1 m] at n ⊢;have:=hu x f n;dsimp only;omega
    · rw [yav.1 f] at n ⊢;have:=hf.at_ y m;dsimp only;omega
    · rw [yav.1 f,yav.1 m];dsimp only;omega
  · rcases yaA.1 f with f | f
    · exact .inl ⟨x,f,rfl⟩
    · rw [yav.1 f];exact .inr yaf
 | false =>
  obtain ⟨y,m,N,Z,yb⟩:=zaP.1 hc;have I:y.2.2=0:=by have:=hu y m N;omega
  have K:¬zdB L k<0:=fun h=>zgQ h y m N I;obtain ⟨i,x,M,A,B,O⟩:=zfD K;have f:=yaq A;have R:=hu x f B;have T:=hf.at_ x f;have D:zcc L last k r=some (L.set i (k,x.2.1,r)):=by
   unfold zcc endAt;rw [M,ybn,A];rw [yak (by simp only [ybG,Option.getD_some];omega),←B]
  have e:turn1 r (L,last) (k,false)=(L.set i (k,x.2.1,r),r):=by unfold turn1;simp [D]
  rw [e];have hi:=(yap.1 A).1;have C:∀z,z ∈ L.set i (k,x.2.1,r)→z ∈ L∧(z.1=k→z.2.2≠0)∨z=(k,x.2.1,r):=fun z o=>by
   obtain ⟨j,u⟩:=List.mem_iff_getElem?.1 o;rw [ycm] at u;split at u
   · exact .inr (yaZ (by simpa [hi] using u)).symm
   · rename_i J
     have E:=(yap.1 u).1;refine .inl ⟨yaq u,fun P U=>?_⟩;have V:=hf.at_ z (yaq u);rcases Nat.lt_or_gt_of_ne J with q | q
     · have:=ybN.1 hf.two i j hi E q;rw [(yap.1 A).2,(yap.1 u).2] at this;exact (this (B.trans P.symm)).1 O
     · have:=ybN.1 hf.two j i E hi q;rw [(yap.1 A).2,(yap.1 u).2] at this;exact (this (P.trans B.symm)).1 U
  have F:∀z ∈ L,z ∈ L.set i (k,x.2.1,r)∨z=x:=fun z o=>by
   obtain ⟨j,u⟩:=List.mem_iff_getElem?.1 o;by_cases q:i=j
   · subst q;rw [A] at u;exact .inr (yaZ u).symm
   · exact .inl (yaq (i:=j) (by rw [ycm,yak q];exact u))
  have X:(k,x.2.1,r) ∈ L.set i (k,x.2.1,r):=yaq (i:=i) (by rw [ycm,yan rfl,yan hi]);refine ⟨hf.drop D,ybf _,fun q z o=>zep ?_,fun c hc=>?_,fun q s=>⟨zep ?_,fun z o y m n=>?_⟩,fun H y m z o n=>?_,by simp,fun z o=>?_⟩
  · rw [zaP,zaP];constructor
    · rintro ⟨y,m,e,a,b⟩;rcases C y m with ⟨g,_⟩ | rfl
      · exact ⟨y,g,e,a,b⟩
      · exact ⟨x,f,B.trans e,a,.inl O⟩
    · rintro ⟨y,m,G,a,b⟩;rcases F y m with g | g
      · exact ⟨y,g,G,a,b⟩
      · subst g;exact ⟨_,X,B.symm.trans G,a,.inr o⟩
  · rw [yav.1 hc];dsimp only;rw [←yb5,zaP];rintro ⟨y,m,e,a,b⟩;rcases C y m with ⟨g,Y⟩ | rfl
    · have:=hu y g e;have:=Y e;omega
    · dsimp only at b;omega
  · have s:q≠k:=by simpa using s
    rw [zaP,zaP];constructor
    · rintro ⟨y,m,e,a,b⟩;rcases C y m with ⟨g,_⟩ | rfl
      · exact ⟨y,g,e,a,b⟩
      · exact absurd e.symm s
    · rintro ⟨y,m,G,a,b⟩;rcases F y m with g | g
      · exact ⟨y,g,G,a,b⟩
      · subst g;exact absurd (B.symm.trans G).symm s
  · have s:q≠k:=by simpa using s
    rcases C y m with ⟨g,_⟩ | rfl
    · exact o y g n
    · exact absurd n.symm s
  · rcases C y m with ⟨g,_⟩ | rfl <;> rcases C z o with ⟨Q,_⟩ | rfl
    · exact H y g z Q n
    · have:=H y g x f (n.trans B.symm);exact this
    · have:=hu z Q n.symm;dsimp only;omega
    · dsimp only;omega
  · rcases C z o with ⟨g,_⟩ | rfl
    · exact .inl ⟨z,g,rfl⟩
    · exact .inr yaf
theorem zmN (hr:1≤r):∀{d:List (ByteArray × Bool)} {L:List Sp} {last:Int},FineS L last→last≤r→(d.map Prod.fst).Nodup→(∀c ∈ d,Upto L c.1 (r-1)∧zdw L c.1 (r-1) = !c.2)→TurnB L (zcE r (L,last) d).1 (zcE r (L,last) d).2 r d
 | [],L,last,o,s,_,_=>⟨o,s,fun _ _ _=>rfl,fun _ h=>(by cases h),fun _ _=>⟨rfl,fun _ h=>h⟩,id,yaj _,fun x g=>.inl ⟨x,g,rfl⟩⟩
 | c::d,L,last,o,s,n,u=>by
  rw [yaX,ybS] at n;have f:=turn1_ok o s hr (u c yar).1 (u c yar).2;have E:zcE r (L,last) (c::d)=zcE r (turn1 r (L,last) c) d:=rfl;obtain ⟨A,B,C⟩:∃A B,turn1 r (L,last) c=(A,B):=⟨_,_,rfl⟩;rw [E,C];rw [C] at f;dsimp only at f;have j:=zmN hr (d:=d) f.fine f.late n.2 fun x g=>by
   have m:x.1 ∉ [c].map Prod.fst:=fun q=>n.1 (by rw [List.map_singleton,yav] at q;rw [←q];exact ybi g);obtain ⟨a,b⟩:=u x (yau _ g);exact ⟨(f.rest _ m).2 _ a,by rw [f.old _ _ (by omega)];exact b⟩
  refine ⟨j.fine,j.late,fun k q D=>(j.old k q D).trans (f.old k q D),fun x g=>?_,fun k hk=>?_,fun F=>j.apart (f.apart F),?_,fun x g=>?_⟩
  · rcases yaw.1 g with rfl | g
    · rw [(j.rest _ n.1).1];exact f.is _ (yav.2 rfl)
    · exact j.is x g
  · rw [yaX,yaw,not_or] at hk;have m:k ∉ [c].map Prod.fst:=by simpa using hk.1
    exact ⟨(j.rest k hk.2).1.trans (f.rest k m).1,fun q h=>(j.rest k hk.2).2 q ((f.rest k m).2 q h)⟩
  · have:=f.len;have:=j.len;simp only [yat,yaE] at *
    omega
  · rcases j.keys x g with ⟨y,G,e⟩ | h
    · rcases f.keys y G with ⟨z,H,I⟩ | h
      · exact .inl ⟨z,H,I.trans e⟩
      · refine .inr ?_;rw [List.map_singleton,yav] at h;rw [yaX,←e,h];exact yar
    · exact .inr (by rw [yaX];exact yau _ h)
theorem znH {l m:List (ByteArray × Bool)} (hl:l.Pairwise fun a b=>kl a.1 b.1=true) (hm:m.Pairwise fun a b=>kl a.1 b.1=true) (h:∀c,c ∈ l↔c ∈ m):l=m:=by
 have nd:∀{z:List (ByteArray × Bool)},z.Pairwise (fun a b=>kl a.1 b.1=true)→z.Nodup:=fun h=>h.imp fun {a b} q e=>by rw [e,zi1] at q;cases q
 exact List.Perm.eq_of_pairwise (le:=fun a b:ByteArray × Bool=>kl a.1 b.1=true) (fun a b _ _ x y=>by rw [zqC x] at y;cases y) hl hm ((yck (nd hl) (nd hm)).2 h)
section
variable {τ ν:Type} [Inhabited τ] [Inhabited ν]
structure SpB (L:List Sp) (last:Int) (s:Sto τ ν):Prop where
 fine:FineS L last
 late:last≤revB s
 tell:∀r,s.floor≤r→r≤revB s→∀k,zdw L k r=hasK (atB s r).keys k
 apart:Apart L
theorem SpB.new (q:Int):SpB [] 0 (zbQ q:Sto τ ν):=⟨FineS.nil,by simp [revB,zbQ],fun r b f k=>by
 unfold zbQ revB at f;have b:(0:Int)≤r:=b;simp at f;have:atB (zbQ q:Sto τ ν) r=zjP:=by
  obtain rfl:r=0:=by omega
  exact zeU (s:=zbQ q) (i:=0) rfl
 rw [this];rfl,fun _ h=>by cases h⟩
theorem SpB.keys {α:Type} {p:Bp τ α} {s:Sto τ ν} (h:SpB L last s) (hs:OkB p s) (h1:s.floor≤r) (h2:r≤revB s):zme L r=(atB s r).keys∧zcZ L r=(atB s r).keys.length:=by
 obtain ⟨b,f,g⟩:=zqA h.fine r;obtain ⟨i,hi,j⟩:=zdr (s:=s) (r:=r) (zay.2 ⟨h1,h2⟩);have e:zme L r=(atB s r).keys:=zeJ b (hs.rise _ (yaq j)) fun k=>by
  rw [g,h.tell r h1 h2,zar]
 exact ⟨e,by rw [←e,f]⟩
theorem SpB.next {s:Sto τ ν} {v:Rv τ ν} (h:SpB L last s) (hL:s.L≠[]) (hf:0≤s.floor) (hr:Rises (zah s).keys) (hv:Rises v.keys) :
 SpB (zcE (revB s + 1) (L,last) (zaO (zah s).keys v.keys)).1 (zcE (revB s + 1) (L,last) (zaO (zah s).keys v.keys)).2 (zaV s v) ∧
  TurnB L (zcE (revB s + 1) (L,last) (zaO (zah s).keys v.keys)).1 (zcE (revB s + 1) (L,last) (zaO (zah s).keys v.keys)).2 (revB s + 1) (zaO (zah s).keys v.keys):=by
 have z:=ybD.2 hL;have m:0≤revB s:=by unfold revB;omega
 have f:s.floor≤revB s:=by unfold revB;omega
 have b:=zbA hL;have n:=zjs hr hv;have T:=zmN (r:=revB s + 1) yab (d:=zaO (zah s).keys v.keys) h.fine (by have:=h.late;omega) n.1.nodup fun c j=>by
  refine ⟨fun x o _=>?_,?_⟩
  · have:=h.fine.at_ x o;have:=h.late;omega
  · rw [show revB s + 1-1=revB s by omega,h.tell _ f (ybf _),b];exact ((zbL hr hv c.1 c.2).1 j).2
 refine ⟨⟨T.fine,by rw [za0];exact T.late,fun r q u k=>?_,T.apart h.apart⟩,T⟩;rw [za0] at u;by_cases e:r≤revB s
 · rw [T.old k r yab,zmY e,h.tell r q e]
 · obtain rfl:r=revB s + 1:=by omega
   have y:atB (zaV s v) (revB s + 1)=v:=by
    rw [←za0 s v,zbA (s:=zaV s v) (by simp [zaV]),zb2]
   rw [y];by_cases g:k ∈ (zaO (zah s).keys v.keys).map Prod.fst
   · obtain ⟨c,j,rfl⟩:=yaH.1 g;rw [T.is c j];exact ((zbL hr hv c.1 c.2).1 j).1.symm
   · rw [(T.rest k g).1,zkK h.fine h.late yab,h.tell _ f (ybf _),b];have:=n.2 k;rw [zbg.2 g] at this;revert this
     cases hasK (zah s).keys k <;> cases hasK v.keys k <;> decide
theorem SpB.same {s:Sto τ ν} {v:Rv τ ν} (h:SpB L last s) (hL:s.L≠[]) (hk:v.keys=(zah s).keys):SpB L last (zaV s v):=by
 have j:=ybD.2 hL;have b:s.floor≤revB s:=by unfold revB;omega
 refine ⟨h.fine,by rw [za0];have:=h.late;omega,fun r f g k=>?_,h.apart⟩;rw [za0] at g;by_cases e:r≤revB s
 · rw [zmY e,h.tell r f e]
 · obtain rfl:r=revB s + 1:=by omega
   rw [←za0 s v,zbA (s:=zaV s v) (by simp [zaV]),zb2,hk,za0,zkK h.fine h.late yab,h.tell _ b (ybf _),zbA hL]
theorem SpB.trim {s:Sto τ ν} (h:SpB L last s) (hk:zaw s r=true):SpB (zfc L r) last (zbq s r).1:=by
 obtain ⟨f,j,_⟩:=zgI (k:=r) hk (ybf _);obtain ⟨o,u⟩:=zay.1 hk;refine ⟨h.fine.trim r,by rw [f];exact h.late,fun q b g k=>?_,fun x m y n=>h.apart x (ya4.1 m).1 y (ya4.1 n).1⟩;rw [j] at b;rw [f] at g;rw [zqb b,(zgI hk b).2.2,h.tell q yab g]
theorem SpB.has {s:Sto τ ν} (h:SpB L last s) (k:ByteArray):(zaw s r && zdw L k r)=hasK (atB s r).keys k:=by
 cases q:zaw s r with
 | true =>
  obtain ⟨b,f⟩:=zay.1 q;rw [ycl,h.tell r b f]
 | false =>
  rw [yb6,zbK q];rfl
theorem SpB.changes {α:Type} {p:Bp τ α} {s:Sto τ ν} (h:SpB L last s) (hs:OkB p s) (h1:s.floor<r) (h2:r≤revB s):(eventsP L (r-1) r).map (fun e=>(e.2.1,e.2.2))=zaU s r:=by
 have P:∀e ∈ eventsP L (r-1) r,e.1=r:=fun e G=>by have:=zii G;omega
 have B:∀a b,[a,b].Sublist (eventsP L (r-1) r)→a.2.1≠b.2.1:=fun a b A e=>by
  have k:=A.filter (fun e:Ev=>decide (e.2.1=a.2.1));have C:[a,b].filter (fun e:Ev=>decide (e.2.1=a.2.1))=[a,b]:=by simp [e]
  rw [C] at k;have f:=zdq h.fine a.2.1 (a:=r-1) (b:=r) yab;rw [←zcM] at f;have o:∀x ∈ (eventsP L (r-1) r).filter (fun e:Ev=>decide (e.2.1=a.2.1)),x.1=r∧x.2.1=a.2.1∧x ∈ eventsP L (r-1) r:=fun x Q=>⟨P x (ya4.1 Q).1,yaL (ya4.1 Q).2,(ya4.1 Q).1⟩;have m:=k.length_le;generalize (eventsP L (r-1) r).filter (fun e:Ev=>decide (e.2.1=a.2.1))=F at *
  match F,f,o,m with
  | [],_,_,m=>simp at m
  | [_],_,_,m=>simp at m
  | x::y::F,f,o,_ =>
   obtain ⟨x1,D,M⟩:=o x yar;obtain ⟨y1,R,y3⟩:=o y (yau _ yar);rw [zff,yan D] at f;split at f
   · cases f
   rw [zff,yan R] at f;split at f
   · cases f
   rename_i n
   have H:∀u v:Ev,u ∈ eventsP L (r-1) r→v ∈ eventsP L (r-1) r→u.2.1=v.2.1→u.1=r→v.1=r→u.2.2=true→v.2.2=false→False:=fun u v T U N V X I J=>by
    obtain ⟨z,hz,Y⟩:=zdz.1 T;obtain ⟨t,ht,Z⟩:=zdz.1 U;rcases (zbO.1 Y).2 with g | ⟨_,g⟩
    · rcases (zbO.1 Z).2 with g2 | ⟨_,g2⟩
      · rw [g2] at J;cases J
      · rw [g] at V N;rw [g2] at X N;dsimp only at V X N;exact h.apart t ht z hz N.symm (X.trans V.symm)
    · rw [g] at I;cases I
   cases O:x.2.2 with
   | true =>
    cases K:y.2.2 with
    | true=>exact n (O.trans K.symm)
    | false=>exact H x y M y3 (D.trans R.symm) x1 y1 O K
   | false =>
    cases K:y.2.2 with
    | true=>exact H y x y3 M (R.trans D.symm) y1 x1 K O
    | false=>exact n (O.trans K.symm)
 obtain ⟨i,hi,U⟩:=zdr (s:=s) (r:=r) (zay.2 ⟨by omega,h2⟩);obtain ⟨j,hj,T⟩:=zdr (s:=s) (r:=r-1) (zay.2 ⟨by omega,by omega⟩);have ru:=hs.rise _ (yaq T);have rv:=hs.rise _ (yaq U);unfold zaU;rw [yan ⟨h1,h2⟩];have hR:=zdZ L (r-1) r;have hP:((eventsP L (r-1) r).map fun e=>(e.2.1,e.2.2)).Pairwise fun a b=>kl a.1 b.1=true:=by
  rw [yce,List.pairwise_iff_forall_sublist];intro a b A;have E:=List.pairwise_iff_forall_sublist.1 hR A;have n:=B a b A;have a1:=P a (A.subset yaf);have a2:=P b (A.subset yaf);unfold LeE zbe at E;rw [yak (by rw [a1,a2];simp),yan (fun q=>n q.symm)] at E;dsimp only;exact kl_up (fun q=>n q.symm) E
 have hM:∀c:ByteArray × Bool,c ∈ (eventsP L (r-1) r).map (fun e=>(e.2.1,e.2.2))↔c ∈ zaO (atB s (r-1)).keys (atB s r).keys:=fun c=>by
  rw [show (c ∈ zaO (atB s (r-1)).keys (atB s r).keys)=((c.1,c.2) ∈ zaO (atB s (r-1)).keys (atB s r).keys) from rfl,zbL ru rv,←h.tell r yab h2,←h.tell (r-1) yab (by omega)];have f:=zdq h.fine c.1 (a:=r-1) (b:=r) yab;rw [←zcM] at f;have o:∀x,x ∈ (eventsP L (r-1) r).filter (fun e:Ev=>decide (e.2.1=c.1))↔x ∈ eventsP L (r-1) r∧x.2.1=c.1:=fun x=>by rw [ya4,yaP]
  have k:((eventsP L (r-1) r).filter (fun e:Ev=>decide (e.2.1=c.1))).Sublist (eventsP L (r-1) r):=List.filter_sublist;generalize (eventsP L (r-1) r).filter (fun e:Ev=>decide (e.2.1=c.1))=F at *
  match F,f,o,k with
  | [],f,o,_ =>
   rw [zff] at f;injection f with f
   constructor
   · intro hc;obtain ⟨e,G,C⟩:=yaH.1 hc;have:=(o e).2 ⟨G,by rw [←C]⟩;cases this
   · rintro ⟨a,b⟩;rw [←f,b] at a;cases q:c.2 <;> rw [q] at a <;> cases a
  | [x],f,o,_ =>
   obtain ⟨M,D⟩:=(o x).1 yar;rw [zff,yan D] at f;split at f
   · cases f
   rename_i n
   rw [zff] at f;injection f with f
   rw [←f];constructor
   · intro hc;obtain ⟨e,G,C⟩:=yaH.1 hc;have e3:=(o e).2 ⟨G,by rw [←C]⟩;rw [yav.1 e3] at C;rw [←C];refine ⟨rfl,?_⟩;dsimp only;rw [D];revert n
     cases zdw L c.1 (r-1) <;> cases x.2.2 <;> decide
   · rintro ⟨a,b⟩;refine yaH.2 ⟨x,M,?_⟩;rw [D,a]
  | x::y::F,_,o,k =>
   have:=B x y ((List.Sublist.cons_cons x (List.Sublist.cons_cons y (List.nil_sublist F))).trans k);exact absurd (((o x).1 yar).2.trans ((o y).1 (yau _ yar)).2.symm) this
 have hQ:=zer ru rv;exact znH hP hQ hM
end
def evT (T:ByteArray→Bool) (e:Ev):ByteArray→Bool:=fun x=>if x=e.2.1 then e.2.2 else T x
theorem zfg (q:ByteArray):∀{l:List Ev} {T:ByteArray→Bool} {j:Bool},zff q (T q) l=some j→(l.foldl evT T) q=j
 | [],_,_,h=>by rw [zff] at h;injection h
 | e::l,T,j,h=>by
  rw [zff] at h;rw [ycd];split at h
  · rename_i b
    split at h
    · cases h
    · refine zfg q ?_;unfold evT;rw [yan b.symm];exact h
  · rename_i b
    refine zfg q ?_;unfold evT;rw [yak fun z=>b z.symm];exact h
theorem zpC (hf:FineS L last) (hr:0≤r) {i:Nat} {e:Ev} (h:(eventsP L 0 r)[i]? = some e):(((eventsP L 0 r).take i).foldl evT fun _=>false) e.2.1 = !e.2.2:=by
 have f:=zdq hf e.2.1 (a:=0) (b:=r) hr;rw [zkL hf _ (ybf _),←ybk i (eventsP L 0 r),ze0] at f;cases q:zff e.2.1 false ((eventsP L 0 r).take i) with
 | none=>rw [q] at f;cases f
 | some b =>
  rw [q] at f;rw [zfg e.2.1 (T:=fun _=>false) q];have g:(eventsP L 0 r).drop i=e::(eventsP L 0 r).drop (i + 1):=by
   obtain ⟨j,k⟩:=yap.1 h;rw [ya8 j,k]
  rw [g,Option.bind_some,zff,yan rfl] at f;split at f
  · cases f
  · rename_i m
    cases b <;> cases n:e.2.2 <;> simp_all
theorem evT_all (hf:FineS L last) (hr:0≤r) (k:ByteArray):((eventsP L 0 r).foldl evT fun _=>false) k=zdw L k r :=
 zfg k (by rw [←zkL hf k (ybf 0)];exact zdq hf k hr)
theorem zli {s t:List ByteArray}:∀{p:List (ByteArray × Bool)},(∀x ∈ p,hasK s x.1=hasK t x.1)→ziq s p=ziq t p
 | [],_=>rfl
 | x::p,h=>by
  unfold ziq;rw [h x yar,zli fun y b=>h y (yau _ b)]
theorem zhe:∀{c:List (ByteArray × Bool)} {s t:List ByteArray} {i:Nat},Rises s→Rises t→(∀x ∈ c,hasK s x.1=hasK t x.1)→(zct s c i).2=(zct t c i).2 ∧
 ((zct s c i).2.1=0→(∀k,hasK s k=hasK t k→hasK (zct s c i).1 k=hasK (zct t c i).1 k)∧∀k,k ∉ c.map Prod.fst→hasK (zct s c i).1 k=hasK s k∧hasK (zct t c i).1 k=hasK t k)
 | [],s,t,i,_,_,_=>⟨rfl,fun _=>⟨fun _ h=>h,fun _ _=>⟨rfl,rfl⟩⟩⟩
 | x::c,s,t,i,o,u,h=>by
  have j:=h x yar;by_cases e:hasK s x.1=x.2
  · rw [zb7 e,zb7 (j ▸ e)];refine ⟨rfl,fun q=>?_⟩;dsimp only at q;split at q <;> cases q
  · have f:hasK s x.1 = !x.2:=by cases B:hasK s x.1 <;> cases C:x.2 <;> simp_all
    have g:hasK t x.1 = !x.2:=j ▸ f;rw [zb1 f,zb1 g];have m:∀k,hasK s k=hasK t k→hasK (zkg s x) k=hasK (zkg t x) k:=fun k hk=>by rw [zbT f,zbT g,hk]
    obtain ⟨z,n⟩:=zhe (c:=c) (i:=i + 1) (zcJ o f) (zcJ u g) fun y A=>m _ (h y (yau _ A));refine ⟨z,fun q=>⟨fun k hk=>(n q).1 k (m k hk),fun k hk=>?_⟩⟩;rw [yaX,yaw,not_or] at hk;obtain ⟨a,b⟩:=(n q).2 k hk.2;rw [a,b,zbT f,zbT g,yak hk.1,yak hk.1];exact ⟨rfl,rfl⟩
theorem zlX (s t:List ByteArray):t.length + ((zaO s t).filter fun c=>!c.2).length=s.length + ((zaO s t).filter fun c=>c.2).length:=by
 induction s,t using zaO.induct with
 | case1=>rw [zm6];rfl
 | case2 a s ih=>rw [zfl (by simp)];simp at ih ⊢;omega
 | case3 b t ih=>rw [zeq (by simp)];simp at ih ⊢;omega
 | case4 a s b t h ih=>rw [zfl (by simpa using h)];simp at ih ⊢;omega
 | case5 a s b t f g ih=>rw [zeq (by simpa using ⟨ya3.2 f,g⟩)];simp at ih ⊢;omega
 | case6 a s b t f g ih=>rw [zkw (ya3.2 f) (ya3.2 g)];simp at ih ⊢;omega
theorem touch {s u:List ByteArray} {p c:List (ByteArray × Bool)} (hs:Rises s) (hu:Rises u) (h:∀k,k ∈ u↔k ∈ s∧(k ∈ c.map Prod.fst∨k ∈ p.map Prod.fst)) :
 (zcm u p c).2=(zcm s p c).2∧((zcm s p c).2.1=0→zaO u (zcm u p c).1=zaO s (zcm s p c).1∧((s.length:Int)-u.length + (zcm u p c).1.length=(zcm s p c).1.length)∧Rises (zcm u p c).1∧Rises (zcm s p c).1):=by
 have hk:∀k,k ∈ c.map Prod.fst∨k ∈ p.map Prod.fst→hasK u k=hasK s k:=fun k hk=>zep (by rw [zar,zar,h];exact ⟨fun q=>q.1,fun q=>⟨q,hk⟩⟩);have A:ziq u p=ziq s p:=zli fun x f=>hk _ (.inr (ybi f));unfold zcm;rw [A];cases ziq s p with
 | some i=>exact ⟨rfl,fun q=>by cases q⟩
 | none =>
  dsimp only;obtain ⟨o,B⟩:=zhe (c:=c) (i:=p.length) hu hs fun x f=>hk _ (.inl (ybi f));refine ⟨o,fun q=>?_⟩;rw [←o] at q;obtain ⟨C,y⟩:=B q;have g:Rises (zct u c p.length).1:=zfW hu;have j:Rises (zct s c p.length).1:=zfW hs;have z:zaO u (zct u c p.length).1=zaO s (zct s c p.length).1:=znH (zer hu g) (zer hs j) fun x=>by
   rw [show (x ∈ zaO u (zct u c p.length).1)=((x.1,x.2) ∈ zaO u (zct u c p.length).1) from rfl,show (x ∈ zaO s (zct s c p.length).1)=((x.1,x.2) ∈ zaO s (zct s c p.length).1) from rfl,zbL hu g,zbL hs j];by_cases m:x.1 ∈ c.map Prod.fst
   · rw [hk _ (.inl m),C _ (hk _ (.inl m))]
   · rw [(y _ m).1,(y _ m).2];constructor
     · rintro ⟨a,b⟩;rw [a] at b;cases n:x.2 <;> rw [n] at b <;> cases b
     · rintro ⟨a,b⟩;rw [a] at b;cases n:x.2 <;> rw [n] at b <;> cases b
  refine ⟨z,?_,g,j⟩;have D:=zlX u (zct u c p.length).1;have E:=zlX s (zct s c p.length).1;rw [z] at D;omega
end
section
open Go.RowKit
abbrev Tb:=List ByteArray × List Path × List RelT
def mkK (R:List RelT):List TabR:=R.map fun r=>⟨r,none,0,none,0⟩
def zaR (t:Tb) (u:TuP):Int:=zeg t.1 t.2.1 (mkK t.2.2) u
theorem atK_mk (K:List TabR) (id:Int):(atK (mkK (K.map (·.r))) id).r=(atK K id).r:=by
 unfold atK mkK;split
 · rw [ya2,ya2,ybp,yaY];cases K[id.toNat]? <;> rfl
 · rfl
theorem right_mk (ty:List ByteArray) (ps:List Path) (K:List TabR) (u:TuP):zaR (ty,ps,K.map (·.r)) u=zeg ty ps K u:=by
 unfold zaR zeg mayT;rw [atK_mk]
abbrev noTup:TuP:=((⟨#[]⟩,⟨#[]⟩,⟨#[]⟩),(⟨#[]⟩,⟨#[]⟩,⟨#[]⟩))
def ofT (k:ByteArray):TuP:=(zdP k).getD noTup
abbrev CoF:=ByteArray→Int × ByteArray × Tb
def zpv (f:CoF):Prop:=∀{x:ByteArray} {e:Nat} {tx:ByteArray} {ty:List ByteArray} {ps:List Path} {R:List RelT},CompIs x e tx ty ps R→f x=((e:Int),tx,(ty,ps,R))
def p15 (f:CoF):Bp Tb TuP:=⟨f,zaR,za4,ofT⟩
theorem zhM (f:CoF):(p15 f).of=ofT:=by simp only [p15]
theorem zf8 (f:CoF):(p15 f).key=za4:=by simp only [p15]
theorem zbz (f:CoF):(p15 f).right=zaR:=by simp only [p15]
theorem zbh (f:CoF):(p15 f).comp=f:=by simp only [p15]
theorem zrC {t:Tb} {u:TuP} (h:zaR t u=0):zl5 u=true:=by
 unfold zaR zeg at h;split at h
 · rename_i q;exact q.1
 · cases h
theorem zrl (f:CoF):BpOk (p15 f) where
 back:=fun t x h=>by
  rw [zbz] at h;rw [zhM,zf8];unfold ofT;rw [from_key (zrC h),Option.getD_some]
theorem CompIs.few {s:ByteArray} {e:Nat} {tx:ByteArray} {ty:List ByteArray} {ps:List Path} {R:List RelT} (h:CompIs s e tx ty ps R):ps.length≤96:=by
 rcases h.yes with ⟨_,_,_,rfl,_⟩ | ⟨_,v,k⟩
 · decide
 · rw [k.paths,zo1];exact k.right.rels_le
structure Tm where
 tx:ByteArray
 Ay:Option Addr
 cy:Nat
 ty:List ByteArray
 mb:Option Nat
 ps:List Path
 Ar:Option Addr
 cr:Nat
 K:List TabR
def Tm.val (t:Tm):Value:=.agg #[.string t.tx,.slice t.Ay t.ty.length t.cy,.map t.mb,.slice t.Ar t.K.length t.cr]
def Tm.tb (t:Tm):Tb:=(t.ty,t.ps,t.K.map (·.r))
def noTm:Tm:=⟨⟨#[]⟩,none,0,[],none,[],none,0,[]⟩
structure Tm.ok (X:Nat→Prop) (w:World) (t:Tm):Prop where
 tab:TabX X w t.Ay t.cy t.ty t.mb t.ps t.Ar t.cr t.K
 few:t.ps.length≤96
theorem zq7 (X:Nat→Prop) (w:World):noTm.ok X w:=⟨TabX.none_ _ _,by decide⟩
theorem Stay.refl (X:Nat→Prop) (w:World):Stay X w w:=⟨yaj _,fun _ _ _=>rfl⟩
theorem Stay.trans {X Y:Nat→Prop} {w w1 w2:World} (h:Stay X w w1) (k:Stay Y w1 w2) (hY:∀b,Y b→X b∨w.heap.size≤b):Stay X w w2:=⟨yay h.1 k.1,fun b hb f=>(k.2 b (yas hb h.1) fun q=>by
 rcases hY b q with q | q
 · exact f q
 · omega).trans (h.2 b hb f)⟩
theorem Stay.below {X:Nat→Prop} {w w1:World} (h:Below w.heap.size w w1):Stay X w w1:=⟨h.size,fun b hb _=>h.block b hb⟩
theorem Tm.ok.step {X Y:Nat→Prop} {w w1:World} {t:Tm} (h:t.ok X w) (hs:Stay X w w1) (hY:∀b,Y b→X b∨w.heap.size≤b):t.ok Y w1:=⟨fun w' f=>h.tab w' (hs.trans f hY),h.few⟩
theorem Tm.ok.at_ {X:Nat→Prop} {w:World} {t:Tm} (h:t.ok X w):TabA w t.Ay t.cy t.ty t.mb t.ps t.Ar t.cr t.K:=h.tab w (Stay.refl X w)
def zgF (u:TuP):Value:=.agg #[.string u.1.1,.string u.1.2.1,.string u.1.2.2,.string u.2.1,.string u.2.2.1,.string u.2.2.2]
theorem Tm.right {X:Nat→Prop} {w:World} {t:Tm} (h:t.ok X w) (u:TuP) (hu:∀x ∈ zav u,x.size≤100000) :
 Calls Tryz.prog 44 #[t.val,zgF u] w fun e w'=>e = .returned (.int .i64 (zaR t.tb u))∧Below w.heap.size w w':=by
 have k:=right_any12 (tx:=t.tx) h.at_ h.few u.1.1 u.1.2.1 u.1.2.2 u.2.1 u.2.2.1 u.2.2.2 (hu _ (by simp [zav])) (hu _ (by simp [zav])) (hu _ (by simp [zav])) (hu _ (by simp [zav])) (hu _ (by simp [zav])) (hu _ (by simp [zav]));unfold Tm.tb;rw [right_mk];exact k
def KeyX (X:Nat→Prop) (w:World) (A:Option Addr) (c:Nat) (l:List ByteArray):Prop:=∀w',Stay X w w'→Rd w' w'.heap.size 1 A l.length c (ks l)
theorem KeyX.step {X Y:Nat→Prop} {w w1:World} {A:Option Addr} {c:Nat} {l:List ByteArray} (h:KeyX X w A c l) (hs:Stay X w w1) (hY:∀b,Y b→X b∨w.heap.size≤b):KeyX Y w1 A c l:=fun w' f=>h w' (hs.trans f hY)
structure Rm where
 v:Rv Tb Nd15
 t:Tm
 rev:Int
 Ak:Option Addr
 ck:Nat
def Rm.cells (x:Rm):List Value:=[.int .i64 x.rev,.string x.v.by_.1,.string x.v.by_.2.1,.string x.v.by_.2.2,.bool x.v.schema,.slice x.Ak x.v.wrote.length x.ck,.string x.t.tx,.slice x.t.Ay x.t.ty.length x.t.cy,.map x.t.mb,.slice x.t.Ar x.t.K.length x.t.cr]
structure Rm.ok (X:Nat→Prop) (w:World) (x:Rm):Prop where
 tab:x.t.ok X w
 text:x.v.text=x.t.tx
 T:x.v.T=x.t.tb
 wrote:KeyX X w x.Ak x.ck x.v.wrote
theorem Rm.ok.step {X Y:Nat→Prop} {w w1:World} {x:Rm} (h:x.ok X w) (hs:Stay X w w1) (hY:∀b,Y b→X b∨w.heap.size≤b):x.ok Y w1:=⟨h.tab.step hs hY,h.text,h.T,h.wrote.step hs hY⟩
structure Mm where
 gs:Nat
 F0:Nat→Prop
 t:Tm
 A:Option Addr
 c:Nat
 l:List Rm
abbrev Mm.row (m:Mm):Value:=.slice m.A m.l.length m.c
def boxC (s:Sto Tb Nd15) (m:Mm):Array Value:=#[.pointer (some ⟨m.gs,0,none⟩),.int .i64 s.quota,.int .i64 s.floor,.string m.t.tx,.slice m.t.Ay m.t.ty.length m.t.cy,.map m.t.mb,.slice m.t.Ar m.t.K.length m.t.cr,.slice m.A m.l.length m.c]
abbrev SpW:=World→(Nat→Prop)→Nat→List Sp→Int→Prop
structure StR (S:SpW) (X:Nat→Prop) (w:World) (F:Nat→Prop) (g:Nat) (s:Sto Tb Nd15) (L:List Sp) (last:Int) (m:Mm):Prop where
 box:Rk w g (boxC s m) 80
 sp:S w m.F0 m.gs L last
 row:w.ownsRow 0 100 10 m.row m.l.length (m.l.flatMap Rm.cells)
 own:∀j,F j↔j=g∨m.F0 j∨m.row.ownBlock=some j
 g0:¬m.F0 g
 r0:∀j,m.row.ownBlock=some j→¬m.F0 j
 sub:∀j,F j→X j
 lt:∀j,X j→j<w.heap.size
 head:∃u,s.L=u::m.l.map (·.v)∧u.text=m.t.tx∧u.T=m.t.tb
 first:m.t.ok X w
 each:∀x ∈ m.l,x.ok X w
 revs:∀(i:Nat) x,m.l[i]? = some x→x.rev=s.floor + 1 + i
 fl0:0≤s.floor
 most:revB s≤9223372036854775807
 few:m.l.length≤63
 keys:∀x ∈ L,x.1.size≤100000
 len:L.length≤50000
 fine:FineS L last
structure StM (S:SpW) (f:CoF) (X:Nat→Prop) (w:World) (F:Nat→Prop) (g:Nat) (s:Sto Tb Nd15) (L:List Sp) (last:Int) (m:Mm):Prop extends StR S X w F g s L last m where
 spb:SpB L last s
 ok:OkB (p15 f) s
section
variable {S:SpW} {f:CoF} {X Y F F':Nat→Prop} {w w':World} {g:Nat} {s:Sto Tb Nd15} {L:List Sp} {last:Int} {m:Mm}
theorem StR.len_eq (h:StR S X w F g s L last m):s.L.length=m.l.length + 1:=by
 obtain ⟨u,e,_⟩:=h.head;rw [e,yat,yax]
theorem StR.rev_eq (h:StR S X w F g s L last m):revB s=s.floor + m.l.length:=by
 have:=h.len_eq;unfold revB;omega
theorem StR.floor0 (h:StR S X w F g s L last m):0≤s.floor∧s.floor≤9223372036854775807:=by
 have:=h.fl0;have:=h.rev_eq;have:=h.most;omega
theorem StR.up (K:SpK S) (h:StR S X w F g s L last m) (hb:Below w.heap.size w w'):StR S X w' F g s L last m where
 box:=h.box.same (hb.block g h.box.lt)
 sp:=K.keep h.sp fun b q=>hb.block b (K.lt h.sp b q)
 row:=zau h.row fun j f=>hb.block j (h.row.lt j f).2
 own:=h.own
 g0:=h.g0
 r0:=h.r0
 sub:=h.sub
 lt:=fun j q=>yas (h.lt j q) hb.size
 head:=h.head
 first:=h.first.step (Stay.below hb) fun _ q=>.inl q
 each:=fun x k=>(h.each x k).step (Stay.below hb) fun _ q=>.inl q
 revs:=h.revs
 fl0:=h.fl0
 most:=h.most
 few:=h.few
 keys:=h.keys
 len:=h.len
 fine:=h.fine
theorem StM.up (K:SpK S) (h:StM S f X w F g s L last m) (hb:Below w.heap.size w w'):StM S f X w' F g s L last m:=⟨h.toStR.up K hb,h.spb,h.ok⟩
theorem zeC (x:Rm):x.cells.length=10:=rfl
theorem StR.get (h:StR S X w F g s L last m) {i:Nat} {x:Rm} (hi:m.l[i]? = some x) :
 ∃b o,m.A=some ⟨b,o,none⟩∧b<w.heap.size∧∀k u,x.cells[k]? = some u→w.cell? ⟨b,o + i * 10 + k,none⟩=some u:=by
 obtain ⟨A,c,e,j⟩:=Rd.own h.row;injection e with n z q
 subst n q;obtain ⟨b,o,e,hb,y⟩:=j.at_ (zd8 hi);refine ⟨b,o,e,hb,fun k u f=>?_⟩;have hk:k<10:=by have:=(yap.1 f).1;rwa [zeC] at this
 rw [ya7];exact y _ _ ((zbf Rm.cells (sz:=10) zeC hi (k:=k) hk).trans f)
theorem StR.place (h:StR S X w F g s L last m) {r:Int} (h1:s.floor<r) (h2:r≤revB s):∃(i:Nat) (x:Rm),r=s.floor + 1 + i∧m.l[i]? = some x∧x.v=atB s r∧x.rev=r:=by
 have e:=h.rev_eq;obtain ⟨i,hi⟩:∃i:Nat,r=s.floor + 1 + i:=⟨(r-s.floor-1).toNat,by omega⟩;obtain ⟨x,b⟩:∃x,m.l[i]? = some x:=⟨_,yal yab⟩;refine ⟨i,x,hi,b,?_,by rw [h.revs i x b,hi]⟩;obtain ⟨u,f,_⟩:=h.head;have j:s.L[i + 1]? = some x.v:=by rw [f,ybj,yaY,b];rfl
 have k:=zeU j;rw [←k];congr 1
 omega
theorem StR.atFloor (h:StR S X w F g s L last m):(atB s s.floor).text=m.t.tx∧(atB s s.floor).T=m.t.tb:=by
 obtain ⟨u,f,j,k⟩:=h.head;have n:s.L[0]? = some u:=by rw [f];rfl
 have b:=zeU n;rw [Int.natCast_zero,Int.add_zero] at b;rw [b];exact ⟨j,k⟩
end
end
section
open Go.RowKit
section
variable {S:SpW} {f:CoF} {X Y F F':Nat→Prop} {w w':World} {g:Nat} {s:Sto Tb Nd15} {L:List Sp} {last:Int} {m:Mm}
theorem StR.cs (h:StR S X w F g s L last m):w.cell? ⟨g,0,none⟩=some (.pointer (some ⟨m.gs,0,none⟩))∧w.cell? ⟨g,1,none⟩=some (.int .i64 s.quota)∧w.cell? ⟨g,2,none⟩=some (.int .i64 s.floor)∧w.cell? ⟨g,3,none⟩=some (.string m.t.tx) ∧
 w.cell? ⟨g,4,none⟩=some (.slice m.t.Ay m.t.ty.length m.t.cy)∧w.cell? ⟨g,5,none⟩=some (.map m.t.mb)∧w.cell? ⟨g,6,none⟩=some (.slice m.t.Ar m.t.K.length m.t.cr)∧w.cell? ⟨g,7,none⟩=some (.slice m.A m.l.length m.c) :=
 ⟨h.box.cell 0,h.box.cell 1,h.box.cell 2,h.box.cell 3,h.box.cell 4,h.box.cell 5,h.box.cell 6,h.box.cell 7⟩
theorem zhW (h:StR S X w F g s L last m):Calls Tryz.prog 17 #[.pointer (some ⟨g,0,none⟩)] w fun e w'=>e = .returned (.int .i64 (revB s))∧∃q,w'=w.drewN q:=by
 have e:=h.rev_eq;have b:=h.most;have f:=h.floor0;rw [e] at b ⊢;have j:IntKind.i64.wrap (s.floor + (m.l.length:Int))=s.floor + (m.l.length:Int):=IntWalk.i64_in _ ⟨by omega,by omega⟩;have lt:=h.box.lt;obtain ⟨k,n,o,u,x,y,z,A⟩:=h.cs;go_enter Tryz.func17,Tryz.ntmps17
 go_upto_region 3 with (fail)
 go_quiet (fail)
 go_wp2_with fail
 go_ret
 exact ⟨rfl,_,rfl⟩
theorem zdv (h:StR S X w F g s L last m):Calls Tryz.prog 18 #[.pointer (some ⟨g,0,none⟩)] w fun e w'=>e = .returned (.int .i64 s.floor)∧w'=w:=by
 have lt:=h.box.lt;obtain ⟨b,f,j,k,n,o,q,u⟩:=h.cs;go_enter Tryz.func18,Tryz.ntmps18
 go_wp2_with fail
 go_ret
 exact ⟨rfl,rfl⟩
theorem zf3 (h:StM S f X w F g s L last m) (r:Int):Calls Tryz.prog 30 #[.pointer (some ⟨g,0,none⟩),.int .i64 r] w fun e w'=>e = .returned (.bool (zaw s r))∧∃q,w'=w.drewN q:=by
 have j:=zdv h.toStR;have n:=zhW h.toStR;obtain ⟨b,hb⟩:∃b,zaw s r=b:=⟨_,rfl⟩;rw [hb];unfold zaw at hb;generalize revB s=z at *
 generalize s.floor=y at *
 by_cases k:y≤r
 · rw [yaB k,ycl] at hb;subst hb;go_enter Tryz.func30,Tryz.ntmps30
   go_wp2_with (first | (go_at_call 18;refine j.mono ?_;rintro e o ⟨rfl,rfl⟩) | (go_at_call 17;refine n.mono ?_;rintro e u ⟨rfl,q,rfl⟩))
   go_ret
   exact ⟨rfl,_,rfl⟩
 · rw [yaF k,yb6] at hb;subst hb;go_enter Tryz.func30,Tryz.ntmps30
   go_wp2_with (go_at_call 18;refine j.mono ?_;rintro e o ⟨rfl,rfl⟩)
   go_ret
   exact ⟨rfl,0,rfl⟩
theorem StM.drewN (K:SpK S) (h:StM S f X w F g s L last m) (q:Nat):StM S f X (w.drewN q) F g s L last m:=h.up K (zam w _ q)
theorem zo5 (K:SpK S) (h:StM S f X w F g s L last m):Calls Tryz.prog 38 #[.pointer (some ⟨g,0,none⟩)] w fun e w'=>e = .returned (.bool (decide (s.L.length≤63)))∧∃q,w'=w.drewN q:=by
 have b:=zhW h.toStR;have k:=fun q=>zdv (h.drewN K q).toStR;have e:=h.rev_eq;have n:=h.len_eq;have x:=h.few;rw [e] at b;have y:IntKind.i64.wrap (s.floor + (m.l.length:Int)-s.floor)=(m.l.length:Int):=by rw [show s.floor + (m.l.length:Int)-s.floor=(m.l.length:Int) by omega];exact IntWalk.i64_in _ ⟨by omega,by omega⟩
 have o:s.floor + (m.l.length:Int)-s.floor=(m.l.length:Int):=by omega
 have u:IntKind.i64.wrap (m.l.length:Int)=(m.l.length:Int):=IntWalk.i64_in _ ⟨by omega,by omega⟩;rw [n];have j:decide (m.l.length + 1≤63)=decide ((m.l.length:Int)<63):=decide_eq_decide.2 yab;rw [j];clear j;go_enter Tryz.func38,Tryz.ntmps38
 go_wp2_with (first | (go_at_call 18;refine (k _).mono ?_;rintro e z ⟨rfl,rfl⟩) | (go_at_call 17;refine b.mono ?_;rintro e A ⟨rfl,q,rfl⟩))
 go_ret
 exact ⟨rfl,_,rfl⟩
theorem zil (K:SpK S) (h:StM S f X w F g s L last m) (r:Int):Calls Tryz.prog 59 #[.pointer (some ⟨g,0,none⟩),.int .i64 r] w fun e w'=>e = .returned (.bool (decide (s.floor<r∧r≤revB s)))∧∃q,w'=w.drewN q:=by
 have b:=zf3 h r;have j:=fun q=>(h.drewN K q).cs.2.2.1;have lt:=fun q=>(h.drewN K q).box.lt;cases hk:zaw s r with
 | true =>
  rw [hk] at b;obtain ⟨u,k⟩:=zay.1 hk;rw [show decide (s.floor<r∧r≤revB s)=decide (s.floor<r) from decide_eq_decide.2 ⟨fun q=>q.1,fun q=>⟨q,k⟩⟩];generalize s.floor=y at *
  go_enter Tryz.func59,Tryz.ntmps59
  go_wp2_with (go_at_call 30;refine b.mono ?_;rintro e n ⟨rfl,q,rfl⟩;have x:=j q;have o:=lt q)
  go_ret
  exact ⟨rfl,_,rfl⟩
 | false =>
  rw [hk] at b;rw [yaF fun q=>by rw [zay.2 ⟨by omega,q.2⟩] at hk;cases hk];go_enter Tryz.func59,Tryz.ntmps59
  go_wp2_with (go_at_call 30;refine b.mono ?_;rintro e n ⟨rfl,q,rfl⟩)
  go_ret
  exact ⟨rfl,_,rfl⟩
theorem zft (h:StM S f X w F g s L last m) (r:Int):Calls Tryz.prog 30 #[.pointer (some ⟨g,0,none⟩),.int .i64 r] w fun e w'=>e = .returned (.bool (zaw s r))∧Below w.heap.size w w':=(zf3 h r).mono fun _ _ ⟨e,q,k⟩=>⟨e,by rw [k];exact zam w _ q⟩
theorem zc6 (h:StR S X w F g s L last m):Calls Tryz.prog 17 #[.pointer (some ⟨g,0,none⟩)] w fun e w'=>e = .returned (.int .i64 (revB s))∧Below w.heap.size w w':=(zhW h).mono fun _ _ ⟨e,q,k⟩=>⟨e,by rw [k];exact zam w _ q⟩
theorem zj3 (K:SpK S) (h:StM S f X w F g s L last m):Calls Tryz.prog 38 #[.pointer (some ⟨g,0,none⟩)] w fun e w'=>e = .returned (.bool (decide (s.L.length≤63)))∧Below w.heap.size w w':=(zo5 K h).mono fun _ _ ⟨e,q,k⟩=>⟨e,by rw [k];exact zam w _ q⟩
theorem zd2 (K:SpK S) (h:StM S f X w F g s L last m) (r:Int):Calls Tryz.prog 59 #[.pointer (some ⟨g,0,none⟩),.int .i64 r] w fun e w'=>e = .returned (.bool (decide (s.floor<r∧r≤revB s)))∧Below w.heap.size w w':=(zil K h r).mono fun _ _ ⟨e,q,k⟩=>⟨e,by rw [k];exact zam w _ q⟩
end
end
end Go.Proofs.YtmblgnddgmfkhaaGreat
