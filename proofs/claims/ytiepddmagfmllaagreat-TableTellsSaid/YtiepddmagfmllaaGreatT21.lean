import Derived.Test.YtiepddmagfmllaaGreatT19
set_option maxRecDepth 100000
set_option maxHeartbeats 4000000
namespace Go.Proofs.YtiepddmagfmllaaGreat
open Go.RowKit
def NDVOps (B:Nat) (w:World) (v:Value) (o:List OpP):Prop:=w.ownsRow B 60 3 v o.length (ocells o)
def NDVSubs (B:Nat) (w:World) (v:Value) (s:List zb7):Prop:=w.ownsRow B 64 2 v s.length (zbR s)
def NDRelC (w:World) (B:Nat) (ys:List Value) (x:RelP):Prop:=∃vs vo,ys=[.string x.name,.string x.view,.string x.edit,.string x.check,vs,vo]∧NDVSubs B w vs x.subs∧NDVOps B w vo x.ops
def NDRelsC (w:World) (B:Nat):List RelP→List Value→Prop
 | [],xs=>xs=[]
 | x::r,xs=>∃ys zs,xs=ys ++ zs∧NDRelC w B ys x∧NDRelsC w B r zs
def NDKeeps (w w':World) (B:Nat):Prop:=(∀v n xs,w.ownsRow B 64 2 v n xs→w'.ownsRow B 64 2 v n xs)∧(∀v n xs,w.ownsRow B 60 3 v n xs→w'.ownsRow B 60 3 v n xs)
theorem NDRelC.keep {w w':World} {B:Nat} {ys:List Value} {x:RelP} (h:NDRelC w B ys x) (hk:NDKeeps w w' B):NDRelC w' B ys x:=by
 obtain ⟨vs,vo,e,h1,h2⟩:=h;exact ⟨vs,vo,e,hk.1 _ _ _ h1,hk.2 _ _ _ h2⟩
theorem NDRelsC.keep {w w':World} {B:Nat} (hk:NDKeeps w w' B):∀{l:List RelP} {xs:List Value},NDRelsC w B l xs→NDRelsC w' B l xs
 | [],_,h=>h
 | _::_,_,h=>by
  obtain ⟨ys,zs,e,h1,h2⟩:=h;exact ⟨ys,zs,e,h1.keep hk,NDRelsC.keep hk h2⟩
theorem NDRelsC.snoc {w:World} {B:Nat} {y:RelP} {ws:List Value} (hy:NDRelC w B ws y):∀{l:List RelP} {xs:List Value},NDRelsC w B l xs→NDRelsC w B (l ++ [y]) (xs ++ ws)
 | [],xs,h=>by
  have:xs=[]:=h;subst this;exact ⟨ws,[],by simp,hy,rfl⟩
 | x::r,xs,h=>by
  obtain ⟨ys,zs,e,h1,h2⟩:=h;exact ⟨ys,zs ++ ws,by rw [e,List.append_assoc],h1,NDRelsC.snoc hy h2⟩
def NDVRels (B:Nat) (w:World) (v:Value) (l:List RelP):Prop:=∃xs,w.ownsRow B 48 6 v l.length xs∧NDRelsC w B l xs
theorem zeE {g B:Nat} {w w':World} (hk:Kp g w.heap.size w w') (hg:g<B):NDKeeps w w' B:=⟨fun _ _ _ h=>zaM h hk hg,fun _ _ _ h=>zaM h hk hg⟩
theorem zdY {B:Nat} {w:World} {a:Addr} (ha:a.block<B) (u:Value):NDKeeps w (w.setCell a u) B:=⟨fun _ _ _ h=>zai h ha u,fun _ _ _ h=>zai h ha u⟩
theorem zea {w w':World} {B B2:Nat} {e2:TypeId} {s2 n2:Nat} {u:Value} {ys:List Value} {o:Obj} (hu:w.ownsRow B2 e2 s2 u n2 ys) (h1:64≠e2) (h2:60≠e2) (hg:(w.alloc o).grownBy w' u.ownBlock):NDKeeps w w' B :=
 ⟨fun _ _ _ h=>zbf (World.ownsRow.alloc h o) (World.ownsRow.alloc hu o) h1 hg,fun _ _ _ h=>zbf (World.ownsRow.alloc h o) (World.ownsRow.alloc hu o) h2 hg⟩
theorem NDKeeps.base {w:World} {B B':Nat} (h:B'≤B) {l:List RelP} {xs:List Value}:NDRelsC w B l xs→NDRelsC w B' l xs:=by
 intro hr;induction l generalizing xs with
 | nil=>exact hr
 | cons x r ih =>
  obtain ⟨ys,zs,e,⟨vs,vo,e2,h1,h2⟩,h3⟩:=hr;exact ⟨ys,zs,e,⟨vs,vo,e2,zav h1 h,zav h2 h⟩,ih h3⟩
theorem zhD (w:World) (B:Nat):NDKeeps w w.drew B:=⟨fun _ _ _ h=>zbJ h,fun _ _ _ h=>zbJ h⟩
def NDTypC (w:World) (B:Nat) (ys:List Value) (t:TypP):Prop:=∃vr,ys=[.string t.name,vr]∧NDVRels B w vr t.rels
def NDTypsC (w:World) (B:Nat):List TypP→List Value→Prop
 | [],xs=>xs=[]
 | x::r,xs=>∃ys zs,xs=ys ++ zs∧NDTypC w B ys x∧NDTypsC w B r zs
def zdF (w w':World) (B:Nat):Prop:=NDKeeps w w' B∧∀v n xs,w.ownsRow B 48 6 v n xs→w'.ownsRow B 48 6 v n xs
theorem NDVRels.keep {w w':World} {B:Nat} (hk:zdF w w' B) {v:Value} {l:List RelP} (h:NDVRels B w v l):NDVRels B w' v l:=by
 obtain ⟨xs,h1,h2⟩:=h;exact ⟨xs,hk.2 _ _ _ h1,h2.keep hk.1⟩
theorem NDTypsC.keep {w w':World} {B:Nat} (hk:zdF w w' B):∀{l:List TypP} {xs:List Value},NDTypsC w B l xs→NDTypsC w' B l xs
 | [],_,h=>h
 | _::_,_,h=>by
  obtain ⟨ys,zs,e,⟨vr,e2,h1⟩,h2⟩:=h;exact ⟨ys,zs,e,⟨vr,e2,h1.keep hk⟩,NDTypsC.keep hk h2⟩
theorem NDTypsC.snoc {w:World} {B:Nat} {y:TypP} {ws:List Value} (hy:NDTypC w B ws y):∀{l:List TypP} {xs:List Value},NDTypsC w B l xs→NDTypsC w B (l ++ [y]) (xs ++ ws)
 | [],xs,h=>by
  have:xs=[]:=h;subst this;exact ⟨ws,[],by simp,hy,rfl⟩
 | x::r,xs,h=>by
  obtain ⟨ys,zs,e,h1,h2⟩:=h;exact ⟨ys,zs ++ ws,by rw [e,List.append_assoc],h1,NDTypsC.snoc hy h2⟩
theorem NDVRels.base {w:World} {B B':Nat} (h:B'≤B) {v:Value} {l:List RelP} (hr:NDVRels B w v l):NDVRels B' w v l:=by
 obtain ⟨xs,h1,h2⟩:=hr;exact ⟨xs,zav h1 h,NDKeeps.base h h2⟩
theorem NDTypsC.base {w:World} {B B':Nat} (h:B'≤B):∀{l:List TypP} {xs:List Value},NDTypsC w B l xs→NDTypsC w B' l xs
 | [],_,h=>h
 | _::_,_,hr=>by
  obtain ⟨ys,zs,e,⟨vr,e2,h1⟩,h2⟩:=hr;exact ⟨ys,zs,e,⟨vr,e2,h1.base h⟩,NDTypsC.base h h2⟩
def NDVTyps (B:Nat) (w:World) (v:Value) (l:List TypP):Prop:=∃xs,w.ownsRow B 93 2 v l.length xs∧NDTypsC w B l xs
theorem zfw {g B:Nat} {w w':World} (hk:Kp g w.heap.size w w') (hg:g<B):zdF w w' B:=⟨zeE hk hg,fun _ _ _ h=>zaM h hk hg⟩
theorem zbY {B:Nat} {w w':World} (hk:Below w.heap.size w w'):zdF w w' B:=⟨⟨fun _ _ _ h=>zag h hk,fun _ _ _ h=>zag h hk⟩,fun _ _ _ h=>zag h hk⟩
theorem zdk {B:Nat} {w:World} {a:Addr} (ha:a.block<B) (u:Value):zdF w (w.setCell a u) B:=⟨zdY ha u,fun _ _ _ h=>zai h ha u⟩
theorem zge {w w':World} {B B2:Nat} {e2:TypeId} {s2 n2:Nat} {u:Value} {ys:List Value} {o:Obj} (hu:w.ownsRow B2 e2 s2 u n2 ys) (h1:64≠e2) (h2:60≠e2) (h3:48≠e2) (hg:(w.alloc o).grownBy w' u.ownBlock):zdF w w' B :=
 ⟨zea hu h1 h2 hg,fun _ _ _ h=>zbf (World.ownsRow.alloc h o) (World.ownsRow.alloc hu o) h3 hg⟩
theorem NDTypsC.get {w:World} {B:Nat}:∀{l:List TypP} {xs:List Value} {i:Nat} {t:TypP},NDTypsC w B l xs→l[i]? = some t→∃vr,NDVRels B w vr t.rels∧xs[i * 2]? = some (.string t.name)∧xs[i * 2 + 1]? = some vr
 | [],_,_,_,_,h=>by simp at h
 | x::r,xs,0,t,h,hi=>by
  simp only [List.getElem?_cons_zero,Option.some.injEq] at hi;subst hi;obtain ⟨ys,zs,rfl,⟨vr,rfl,h1⟩,_⟩:=h;exact ⟨vr,h1,rfl,rfl⟩
 | x::r,xs,i + 1,t,h,hi=>by
  simp only [List.getElem?_cons_succ] at hi;obtain ⟨ys,zs,rfl,⟨vr,rfl,_⟩,h2⟩:=h;obtain ⟨v2,a,b,c⟩:=NDTypsC.get h2 hi;refine ⟨v2,a,?_,?_⟩
  · rw [List.getElem?_append_right (by simp;omega),←b];congr 1
    simp;omega
  · rw [List.getElem?_append_right (by simp;omega),←c];congr 1
    simp;omega
theorem NDRelsC.get {w:World} {B:Nat}:∀{l:List RelP} {xs:List Value} {i:Nat} {x:RelP},NDRelsC w B l xs→l[i]? = some x→∃vs vo,NDVSubs B w vs x.subs∧NDVOps B w vo x.ops∧xs[i * 6]? = some (.string x.name)∧xs[i * 6 + 1]? = some (.string x.view)∧xs[i * 6 + 2]? = some (.string x.edit)∧xs[i * 6 + 3]? = some (.string x.check)∧xs[i * 6 + 4]? = some vs∧xs[i * 6 + 5]? = some vo
 | [],_,_,_,_,h=>by simp at h
 | y::r,xs,0,x,h,hi=>by
  simp only [List.getElem?_cons_zero,Option.some.injEq] at hi;subst hi;obtain ⟨ys,zs,rfl,⟨vs,vo,rfl,h1,h2⟩,_⟩:=h;exact ⟨vs,vo,h1,h2,rfl,rfl,rfl,rfl,rfl,rfl⟩
 | y::r,xs,i + 1,x,h,hi=>by
  simp only [List.getElem?_cons_succ] at hi;obtain ⟨ys,zs,rfl,⟨vs,vo,rfl,_,_⟩,h2⟩:=h;obtain ⟨v2,v3,a1,a2,b0,b1,b2,b3,b4,b5⟩:=NDRelsC.get h2 hi;have key:∀(k:Nat) (u:Value),zs[i * 6 + k]? = some u→([.string y.name,.string y.view,.string y.edit,.string y.check,vs,vo] ++ zs)[(i + 1) * 6 + k]? = some u:=fun k u hk=>by
   rw [List.getElem?_append_right (by simp;omega),←hk];congr 1
   simp;omega
  exact ⟨v2,v3,a1,a2,key 0 _ b0,key 1 _ b1,key 2 _ b2,key 3 _ b3,key 4 _ b4,key 5 _ b5⟩
theorem NDVTyps.get {w:World} {B:Nat} {v:Value} {l:List TypP} (h:NDVTyps B w v l) {i:Nat} {t:TypP} (hi:l[i]? = some t) :
 ∃g c vr,v = .slice (some ⟨g,0,none⟩) l.length c∧NDVRels B w vr t.rels∧w.cell? ⟨g,i * 2,none⟩=some (.string t.name)∧w.cell? ⟨g,i * 2 + 1,none⟩=some vr:=by
 obtain ⟨xs,h1,h2⟩:=h;have hl:i<l.length:=(List.getElem?_eq_some_iff.1 hi).1;obtain ⟨vr,hr,a,b⟩:=h2.get hi;obtain ⟨g,c,e,_,_,hc⟩:=zdb h1 (by omega);exact ⟨g,c,vr,e,hr,hc _ _ a,hc _ _ b⟩
theorem NDVRels.get {w:World} {B:Nat} {v:Value} {l:List RelP} (h:NDVRels B w v l) {i:Nat} {x:RelP} (hi:l[i]? = some x) :
 ∃g c vs vo,v = .slice (some ⟨g,0,none⟩) l.length c∧NDVSubs B w vs x.subs∧NDVOps B w vo x.ops∧w.cell? ⟨g,i * 6,none⟩=some (.string x.name)∧w.cell? ⟨g,i * 6 + 1,none⟩=some (.string x.view)∧w.cell? ⟨g,i * 6 + 2,none⟩=some (.string x.edit)∧w.cell? ⟨g,i * 6 + 3,none⟩=some (.string x.check)∧w.cell? ⟨g,i * 6 + 4,none⟩=some vs∧w.cell? ⟨g,i * 6 + 5,none⟩=some vo:=by
 obtain ⟨xs,h1,h2⟩:=h;have hl:i<l.length:=(List.getElem?_eq_some_iff.1 hi).1;obtain ⟨vs,vo,hs,ho,b0,b1,b2,b3,b4,b5⟩:=h2.get hi;obtain ⟨g,c,e,_,_,hc⟩:=zdb h1 (by omega);exact ⟨g,c,vs,vo,e,hs,ho,hc _ _ b0,hc _ _ b1,hc _ _ b2,hc _ _ b3,hc _ _ b4,hc _ _ b5⟩
theorem NDVOps.get {w:World} {B:Nat} {v:Value} {l:List OpP} (h:NDVOps B w v l) {i:Nat} {o:OpP} (hi:l[i]? = some o) :
 ∃g c,v = .slice (some ⟨g,0,none⟩) l.length c∧w.cell? ⟨g,i * 3,none⟩=some (.int .i64 o.1)∧w.cell? ⟨g,i * 3 + 1,none⟩=some (.string o.2.1)∧w.cell? ⟨g,i * 3 + 2,none⟩=some (.string o.2.2):=by
 have hl:i<l.length:=(List.getElem?_eq_some_iff.1 hi).1;obtain ⟨b0,b1,b2⟩:=ocells_at l i o hi;obtain ⟨g,c,e,_,_,hc⟩:=zdb h (by omega);exact ⟨g,c,e,hc _ _ b0,hc _ _ b1,hc _ _ b2⟩
theorem NDVSubs.get {w:World} {B:Nat} {v:Value} {l:List zb7} (h:NDVSubs B w v l) {i:Nat} {o:zb7} (hi:l[i]? = some o) :
 ∃g c,v = .slice (some ⟨g,0,none⟩) l.length c∧w.cell? ⟨g,i * 2,none⟩=some (.string o.1)∧w.cell? ⟨g,i * 2 + 1,none⟩=some (.string o.2):=by
 have hl:i<l.length:=(List.getElem?_eq_some_iff.1 hi).1;obtain ⟨b0,b1⟩:=zcT l i o hi;obtain ⟨g,c,e,_,_,hc⟩:=zdb h (by omega);exact ⟨g,c,e,hc _ _ b0,hc _ _ b1⟩
theorem NDVTyps.below {w w':World} {B:Nat} {v:Value} {l:List TypP} (h:NDVTyps B w v l) (hb:Below w.heap.size w w'):NDVTyps B w' v l:=by
 obtain ⟨xs,h1,h2⟩:=h;exact ⟨xs,zag h1 hb,h2.keep (zbY hb)⟩
theorem zdj:(Tryz.prog.info? 60).map (fun i=>(i.zero,i.size,i.bytes))=some (some (.agg #[.int .i64 0,.string .empty,.string .empty]),3,40):=by kernel_rfl
theorem zgm:(Tryz.prog.info? 64).map (fun i=>(i.zero,i.size,i.bytes))=some (some (.agg #[.string .empty,.string .empty]),2,32):=by kernel_rfl
theorem zkd:(Tryz.prog.info? 48).map (fun i=>(i.zero,i.size,i.bytes))=some (some (.agg #[.string .empty,.string .empty,.string .empty,.string .empty,.slice none 0 0,.slice none 0 0]),6,112):=by kernel_rfl
theorem zke:(Tryz.prog.info? 93).map (fun i=>(i.zero,i.size,i.bytes))=some (some (.agg #[.string .empty,.slice none 0 0]),2,40):=by kernel_rfl
theorem zgB {w:World} {B R:Nat}:∀(l:List RelP) (xs:List Value),NDRelsC w B l xs→(∀x ∈ l,SmI R x)→∃k:List RelA,xs=k.flatMap RelA.cells∧k.map RelA.says=l.map relI∧∀a ∈ k,a.ok w R
 | [],xs,h,_=>by
  have e:xs=[]:=h;exact ⟨[],e,rfl,fun a ha=>by cases ha⟩
 | x::l,xs,h,hz=>by
  obtain ⟨ys,zs,rfl,⟨vs,vo,rfl,hs,ho⟩,hr⟩:=h;obtain ⟨k,rfl,hk,hok⟩:=zgB l zs hr fun y hy=>hz y (List.mem_cons_of_mem _ hy);obtain ⟨As,cs,rfl,rs⟩:=Rd.own hs;obtain ⟨Ao,co,rfl,ro⟩:=Rd.own ho;have z:=hz x List.mem_cons_self;have e1:zbR x.subs=x.subs.flatMap ziu:=rfl;have e2:ocells x.ops=(x.ops.map opI).flatMap aOp:=by
   rw [List.flatMap_map];rfl
  refine ⟨⟨x.name,x.view,x.edit,x.check,As,cs,x.subs,Ao,co,x.ops.map opI⟩::k,?_,?_,fun a ha=>?_⟩
  · rw [List.flatMap_cons];show _=[Value.string x.name,.string x.view,.string x.edit,.string x.check,.slice As x.subs.length cs,.slice Ao (x.ops.map opI).length co] ++ _;rw [List.length_map]
  · rw [List.map_cons,List.map_cons,hk];rfl
  · rcases List.mem_cons.1 ha with rfl | ha
    · refine ⟨z.name,z.view,z.edit,z.check,rs,z.subn,z.subs,?_,by show (x.ops.map opI).length * 40≤R;rw [List.length_map];exact z.opn,fun o ho=>?_⟩
      · show Rd w w.heap.size 3 Ao (x.ops.map opI).length co ((x.ops.map opI).flatMap aOp);rw [List.length_map,←e2];exact ro
      · obtain ⟨p,hp,rfl⟩:=List.mem_map.1 ho;exact z.ops p hp
    · exact hok a ha
theorem zfU {w:World} {B R:Nat}:∀(l:List TypP) (xs:List Value),NDTypsC w B l xs→(∀t ∈ l,t.name.size≤R∧t.rels.length * 112≤R∧∀x ∈ t.rels,SmI R x)→∃k:List TypA,xs=k.flatMap TypA.cells∧k.map TypA.says=l.map za5∧∀a ∈ k,a.ok w R
 | [],xs,h,_=>by
  have e:xs=[]:=h;exact ⟨[],e,rfl,fun a ha=>by cases ha⟩
 | t::l,xs,h,hz=>by
  obtain ⟨ys,zs,rfl,⟨vr,rfl,ws,hrow,hrc⟩,hr⟩:=h;obtain ⟨k,rfl,hk,hok⟩:=zfU l zs hr fun y hy=>hz y (List.mem_cons_of_mem _ hy);have z:=hz t List.mem_cons_self;obtain ⟨m,rfl,hm,hmo⟩:=zgB t.rels ws hrc z.2.2;obtain ⟨A,c,rfl,rr⟩:=Rd.own hrow;have hl:m.length=t.rels.length:=by have:=congrArg List.length hm;rwa [List.length_map,List.length_map] at this
  refine ⟨⟨t.name,A,c,m⟩::k,?_,?_,fun a ha=>?_⟩
  · rw [List.flatMap_cons];show _=[Value.string t.name,.slice A m.length c] ++ _;rw [hl]
  · rw [List.map_cons,List.map_cons,hk];show TypI.mk t.name (m.map RelA.says)::_=_;rw [hm];rfl
  · rcases List.mem_cons.1 ha with rfl | ha
    · exact ⟨z.1,by show Rd w w.heap.size 6 A m.length c _;rw [hl];exact rr,by show m.length * 112≤R;rw [hl];exact z.2.1,hmo⟩
    · exact hok a ha
theorem NDVTyps.sch {w:World} {B R:Nat} {A:Option Addr} {c:Nat} {T:List TypP} (h:NDVTyps B w (.slice A T.length c) T) (hn:T.length * 40≤R) (hz:∀t ∈ T,t.name.size≤R∧t.rels.length * 112≤R∧∀x ∈ t.rels,SmI R x):∃l:List TypA,l.map TypA.says=T.map za5∧SchA w R A c l:=by
 obtain ⟨xs,h1,h2⟩:=h;obtain ⟨l,rfl,hs,ho⟩:=zfU T xs h2 hz;obtain ⟨A2,c2,e,rd⟩:=Rd.own h1;injection e with ea _ ec
 subst ea;subst ec;have hl:l.length=T.length:=by have:=congrArg List.length hs;rwa [List.length_map,List.length_map] at this
 exact ⟨l,hs,by rw [hl];exact rd,by rw [hl];exact hn,ho⟩
end Go.Proofs.YtiepddmagfmllaaGreat
namespace Go.Proofs.YtiepddmagfmllaaGreat
open Go.RowKit
open Go.RowKit
def ixP (ps:List Path) (q:Path):Nat:=(zas ps q).getD 0
abbrev OpT:=Int × Int × ByteArray
def zbB (ps:List Path) (tn:ByteArray) (o:OpI):OpT:=(o.1,if o.1=2∨o.1=3 then (ixP ps (tn,o.2.1):Nat) else 0,o.2.2)
structure RelT where
 tn:ByteArray
 rn:ByteArray
 view:Int
 edit:Int
 check:Int
 level:Int
 subs:List Path
 ops:List OpT
def zcB (ps:List Path) (lv:Int) (x:TypI × RelI):RelT:=⟨x.1.name,x.2.name,(ixP ps (x.1.name,x.2.view):Nat),(ixP ps (x.1.name,x.2.edit):Nat),(ixP ps (x.1.name,x.2.check):Nat),lv,x.2.subs,x.2.ops.map (zbB ps x.1.name)⟩
def zcn (o:OpT):List Value:=[.int .i64 o.1,.int .i64 o.2.1,.string o.2.2]
def zaW (l:List OpT):List Value:=l.flatMap zcn
structure TabR where
 r:RelT
 As:Option Addr
 cs:Nat
 Ao:Option Addr
 co:Nat
def TabR.cells (x:TabR):List Value:=[.string x.r.tn,.string x.r.rn,.int .i64 x.r.view,.int .i64 x.r.edit,.int .i64 x.r.check,.int .i64 x.r.level,.slice x.As x.r.subs.length x.cs,.slice x.Ao x.r.ops.length x.co]
structure TabR.ok (w:World) (x:TabR):Prop where
 subs:Rd w w.heap.size 2 x.As x.r.subs.length x.cs (x.r.subs.flatMap ziu)
 ops:Rd w w.heap.size 3 x.Ao x.r.ops.length x.co (zaW x.r.ops)
 few:x.r.ops.length≤100000
theorem TabR.ok.up {w w':World} {x:TabR} (h:x.ok w) (hb:Below w.heap.size w w'):x.ok w':=⟨h.subs.up hb,h.ops.up hb,h.few⟩
def noRT:RelT:=⟨⟨#[]⟩,⟨#[]⟩,0,0,0,0,[],[]⟩
def noTR:TabR:=⟨noRT,none,0,none,0⟩
theorem zl8 (w:World):noTR.ok w:=⟨Rd.none_ _ _ _,Rd.none_ _ _ _,Nat.zero_le _⟩
def atK (K:List TabR) (id:Int):TabR:=if 0≤id then K.getD id.toNat noTR else noTR
theorem atK_in {K:List TabR} {i:Nat} {x:TabR} (h:K[i]? = some x):atK K i=x:=by
 unfold atK;rw [if_pos (by omega),Int.toNat_natCast,List.getD_eq_getElem?_getD,h];rfl
theorem zlb {K:List TabR} {id:Int} (h:id<0):atK K id=noTR:=if_neg (by omega)
theorem ziA {K:List TabR} {id:Int} (h:(K.length:Int)≤id):atK K id=noTR:=by
 unfold atK;rw [if_pos (by omega),List.getD_eq_getElem?_getD,List.getElem?_eq_none (by omega)];rfl
structure TabK (w:World) (Ar:Option Addr) (cr:Nat) (K:List TabR):Prop where
 rows:Rd w w.heap.size 8 Ar K.length cr (K.flatMap TabR.cells)
 each:∀x ∈ K,x.ok w
theorem TabK.up {w w':World} {Ar:Option Addr} {cr:Nat} {K:List TabR} (h:TabK w Ar cr K) (hb:Below w.heap.size w w'):TabK w' Ar cr K:=⟨h.rows.up hb,fun x hx=>(h.each x hx).up hb⟩
theorem TabK.at_ok {w:World} {Ar:Option Addr} {cr:Nat} {K:List TabR} (h:TabK w Ar cr K) (id:Int):(atK K id).ok w:=by
 unfold atK;split
 · rw [List.getD_eq_getElem?_getD];cases e:K[id.toNat]? with
   | none=>exact zl8 w
   | some x=>exact h.each x (List.mem_of_getElem? e)
 · exact zl8 w
theorem TabK.get {w:World} {Ar:Option Addr} {cr:Nat} {K:List TabR} (h:TabK w Ar cr K) {i:Nat} {x:TabR} (hi:K[i]? = some x) :
 ∃b o,Ar=some ⟨b,o,none⟩∧b<w.heap.size∧w.cell? ⟨b,o + i * 8,none⟩=some (.string x.r.tn)∧w.cell? ⟨b,o + i * 8 + 1,none⟩=some (.string x.r.rn)∧w.cell? ⟨b,o + i * 8 + 2,none⟩=some (.int .i64 x.r.view)∧w.cell? ⟨b,o + i * 8 + 3,none⟩=some (.int .i64 x.r.edit) ∧
  w.cell? ⟨b,o + i * 8 + 4,none⟩=some (.int .i64 x.r.check)∧w.cell? ⟨b,o + i * 8 + 5,none⟩=some (.int .i64 x.r.level)∧w.cell? ⟨b,o + i * 8 + 6,none⟩=some (.slice x.As x.r.subs.length x.cs)∧w.cell? ⟨b,o + i * 8 + 7,none⟩=some (.slice x.Ao x.r.ops.length x.co):=by
 obtain ⟨b,o,e,hb,hc⟩:=h.rows.at_ (zda hi);have g:=fun k (hk:k<8)=>za6 TabR.cells (sz:=8) (fun _=>rfl) hi (k:=k) hk;have g':=fun k (hk:k<8)=>show w.cell? ⟨b,o + i * 8 + k,none⟩=x.cells[k]? by
  have:=g k hk;cases hq:x.cells[k]? with
  | none=>exact absurd (List.getElem?_eq_none_iff.1 hq) (by show ¬8≤k;omega)
  | some u=>rw [hq] at this;rw [Nat.add_assoc];exact hc _ _ this
 exact ⟨b,o,e,hb,g' 0 (by omega),g' 1 (by omega),g' 2 (by omega),g' 3 (by omega),g' 4 (by omega),g' 5 (by omega),g' 6 (by omega),g' 7 (by omega)⟩
theorem Bk.c8 {w:World} {b:Nat} {t:TypeId} {x0 x1 x2 x3 x4 x5 x6 x7:Value} (h:Bk w b #[x0,x1,x2,x3,x4,x5,x6,x7] t):w.cell? ⟨b,0,none⟩=some x0∧w.cell? ⟨b,1,none⟩=some x1∧w.cell? ⟨b,2,none⟩=some x2∧w.cell? ⟨b,3,none⟩=some x3∧w.cell? ⟨b,4,none⟩=some x4∧w.cell? ⟨b,5,none⟩=some x5∧w.cell? ⟨b,6,none⟩=some x6∧w.cell? ⟨b,7,none⟩=some x7:=⟨h.cell 0,h.cell 1,h.cell 2,h.cell 3,h.cell 4,h.cell 5,h.cell 6,h.cell 7⟩
theorem set8 {w w0:World} {B b:Nat} {t:TypeId} {x0 x1 x2 x3 x4 x5 x6 x7:Value} (h:Bk w0 b #[x0,x1,x2,x3,x4,x5,x6,x7] t) (hb:Below B w w0) (hB:B≤b) (v0 v1 v2 v3 v4 v5 v6 v7:Value) :
 Bk ((((((((w0.setCell ⟨b,0,none⟩ v0).setCell ⟨b,1,none⟩ v1).setCell ⟨b,2,none⟩ v2).setCell ⟨b,3,none⟩ v3).setCell ⟨b,4,none⟩ v4).setCell ⟨b,5,none⟩ v5).setCell ⟨b,6,none⟩ v6).setCell ⟨b,7,none⟩ v7) b #[v0,v1,v2,v3,v4,v5,v6,v7] t ∧
 Below B w ((((((((w0.setCell ⟨b,0,none⟩ v0).setCell ⟨b,1,none⟩ v1).setCell ⟨b,2,none⟩ v2).setCell ⟨b,3,none⟩ v3).setCell ⟨b,4,none⟩ v4).setCell ⟨b,5,none⟩ v5).setCell ⟨b,6,none⟩ v6).setCell ⟨b,7,none⟩ v7) :=
 ⟨by
  have hw:=(((((((h.set 0 v0).set 1 v1).set 2 v2).set 3 v3).set 4 v4).set 5 v5).set 6 v6).set 7 v7;simp only [List.setIfInBounds_toArray,List.set_cons_zero,List.set_cons_succ] at hw;exact hw,(((((((hb.setCell hB _).setCell hB _).setCell hB _).setCell hB _).setCell hB _).setCell hB _).setCell hB _).setCell hB _⟩
section
variable {w:World} {tx:ByteArray} {Ay:Option Addr} {ny cy:Nat} {mb:Option Nat} {Ar:Option Addr} {cr:Nat} {K:List TabR}
theorem tlen_any (h:TabK w Ar cr K):Calls Tryz.prog 7 #[.agg #[.string tx,.slice Ay ny cy,.map mb,.slice Ar K.length cr]] w fun e w'=>e = .returned (.int .i64 K.length)∧Below w.heap.size w w':=by
 have hl:(K.length:Int)≤9223372036854775807:=by have:=h.rows.cap;have:=h.rows.capm;simp only [maxLen] at this;omega
 go_enter Tryz.func7,Tryz.ntmps7
 go_wp2_with fail
 go_ret
 exact ⟨rfl,zck w _⟩
theorem ttext_any {nr:Nat}:Calls Tryz.prog 9 #[.agg #[.string tx,.slice Ay ny cy,.map mb,.slice Ar nr cr]] w fun e w'=>e = .returned (.string tx)∧Below w.heap.size w w':=by
 go_enter Tryz.func9,Tryz.ntmps9
 go_wp2_with fail
 go_ret
 exact ⟨rfl,zck w _⟩
def TabR.val (x:TabR):Value:=.agg #[.string x.r.tn,.string x.r.rn,.int .i64 x.r.view,.int .i64 x.r.edit,.int .i64 x.r.check,.int .i64 x.r.level,.slice x.As x.r.subs.length x.cs,.slice x.Ao x.r.ops.length x.co]
theorem at_any (h:TabK w Ar cr K) (id:Int) (hid:(Lit.int .i64 id).wf=true):Calls Tryz.prog 37 #[.agg #[.string tx,.slice Ay ny cy,.map mb,.slice Ar K.length cr],.int .i64 id] w fun e w'=>e = .returned (atK K id).val∧Below w.heap.size w w':=by
 have hl:(K.length:Int)≤9223372036854775807:=by have:=h.rows.cap;have:=h.rows.capm;simp only [maxLen] at this;omega
 have hb0:=Bk.new w #[.string tx,.slice Ay ny cy,.map mb,.slice Ar K.length cr] 27;have hz0:=Bk.new2 w (.cells #[.string tx,.slice Ay ny cy,.map mb,.slice Ar K.length cr] 27) #[.string ⟨#[]⟩,.string ⟨#[]⟩,.int .i64 0,.int .i64 0,.int .i64 0,.int .i64 0,.slice none 0 0,.slice none 0 0] 100;have hB0:Below w.heap.size w ((w.alloc (.cells #[.string tx,.slice Ay ny cy,.map mb,.slice Ar K.length cr] 27)).alloc (.cells #[.string ⟨#[]⟩,.string ⟨#[]⟩,.int .i64 0,.int .i64 0,.int .i64 0,.int .i64 0,.slice none 0 0,.slice none 0 0] 100)):=((Below.refl _ w).alloc (Nat.le_refl _) _).alloc (size_alloc (Nat.le_refl _)) _;have hT:=hb0.alloc (.cells #[.string ⟨#[]⟩,.string ⟨#[]⟩,.int .i64 0,.int .i64 0,.int .i64 0,.int .i64 0,.slice none 0 0,.slice none 0 0] 100);have h0:=h.up hB0;go_enter Tryz.func37,Tryz.ntmps37
 go_upto_region 1 with (fail)
 generalize (w.alloc (.cells #[.string tx,.slice Ay ny cy,.map mb,.slice Ar K.length cr] 27)).alloc (.cells #[.string ⟨#[]⟩,.string ⟨#[]⟩,.int .i64 0,.int .i64 0,.int .i64 0,.int .i64 0,.slice none 0 0,.slice none 0 0] 100)=w0 at *
 have t3:w0.cell? ⟨w.heap.size,3,none⟩=some (.slice Ar K.length cr):=hT.cell 3;have tl:=hT.lt;have zl:=hz0.lt;have zf:=hz0.fz;obtain ⟨z0,z1,z2,z3,z4,z5,z6,z7⟩:=hz0.c8;by_cases h1:id<0
 · have e1:=zlb (K:=K) h1;have g1:decide (id<0)=true:=decide_eq_true h1;go_wp2_with fail
   obtain ⟨hw,hb⟩:=set8 hz0 hB0 (Nat.le_succ _) (.string ⟨#[]⟩) (.string ⟨#[]⟩) (.int .i64 0) (.int .i64 0) (.int .i64 0) (.int .i64 0) (.slice none 0 0) (.slice none 0 0);obtain ⟨y0,y1,y2,y3,y4,y5,y6,y7⟩:=hw.c8;refine bodyPost_ret (v:=noTR.val) (by simp [results,Tryz.results37,go_sem,y0,y1,y2,y3,y4,y5,y6,y7,TabR.val,noTR,noRT];try rfl) rfl ?_;rw [e1];exact ⟨rfl,hb⟩
 · obtain ⟨i,rfl⟩:∃i:Nat,id=i:=⟨id.toNat,by omega⟩;by_cases h2:i<K.length
   · obtain ⟨x,hx⟩:∃x,K[i]? = some x:=⟨_,List.getElem?_eq_getElem h2⟩;have e1:=atK_in hx;obtain ⟨b,o,rfl,hbl,k0,k1,k2,k3,k4,k5,k6,k7⟩:=h0.get hx;have g1:¬(i:Int)<0:=h1;have g2:¬(i:Int) ≥ (K.length:Int):=by omega
     have g3:(i:Int)<(K.length:Int):=by omega
     replace e1:=Lib.hid e1;clear h1;obtain ⟨b',o',e',hlt,_⟩:=h.rows.at_ (by omega);injection e' with e'
     injection e' with e1' e2' _
     subst e1';subst e2';have hne:¬w.heap.size + 1=b:=by omega
     have hne2:¬b=w.heap.size + 1:=by omega
     have hne3:¬b=w.heap.size:=by omega
     go_wp2_with fail
     obtain ⟨hw,hb⟩:=set8 hz0 hB0 (Nat.le_succ _) (.string x.r.tn) (.string x.r.rn) (.int .i64 x.r.view) (.int .i64 x.r.edit) (.int .i64 x.r.check) (.int .i64 x.r.level) (.slice x.As x.r.subs.length x.cs) (.slice x.Ao x.r.ops.length x.co);obtain ⟨y0,y1,y2,y3,y4,y5,y6,y7⟩:=hw.c8;refine bodyPost_ret (v:=x.val) (by simp [results,Tryz.results37,go_sem,y0,y1,y2,y3,y4,y5,y6,y7,TabR.val];try rfl) rfl ?_;rw [e1.out];exact ⟨rfl,hb⟩
   · have e1:=ziA (K:=K) (id:=(i:Int)) (by omega);have g1:¬(i:Int)<0:=h1;have g2:(i:Int) ≥ (K.length:Int):=by omega
     replace e1:=Lib.hid e1;clear h1 h2;go_wp2_with fail
     obtain ⟨hw,hb⟩:=set8 hz0 hB0 (Nat.le_succ _) (.string ⟨#[]⟩) (.string ⟨#[]⟩) (.int .i64 0) (.int .i64 0) (.int .i64 0) (.int .i64 0) (.slice none 0 0) (.slice none 0 0);obtain ⟨y0,y1,y2,y3,y4,y5,y6,y7⟩:=hw.c8;refine bodyPost_ret (v:=noTR.val) (by simp [results,Tryz.results37,go_sem,y0,y1,y2,y3,y4,y5,y6,y7,TabR.val,noTR,noRT];try rfl) rfl ?_;rw [e1.out];exact ⟨rfl,hb⟩
end
section
variable {w:World} {tx:ByteArray} {Ay:Option Addr} {ny cy:Nat} {mb:Option Nat} {Ar:Option Addr} {cr:Nat} {K:List TabR}
theorem rel_f0 (x0 x1 x2 x3 x4 x5 x6 x7:Value) (W:World):(Instr.field 100 (.agg #[x0,x1,x2,x3,x4,x5,x6,x7]) 0).run Tryz.prog W = .ok (.agg #[x0,x1]) W:=by kernel_rfl
theorem rel_f1 (x0 x1 x2 x3 x4 x5 x6 x7:Value) (W:World):(Instr.field 100 (.agg #[x0,x1,x2,x3,x4,x5,x6,x7]) 1).run Tryz.prog W = .ok (.agg #[x2,x3,x4]) W:=by kernel_rfl
theorem rel_f2 (x0 x1 x2 x3 x4 x5 x6 x7:Value) (W:World):(Instr.field 100 (.agg #[x0,x1,x2,x3,x4,x5,x6,x7]) 2).run Tryz.prog W = .ok (x5) W:=by kernel_rfl
theorem rel_f3 (x0 x1 x2 x3 x4 x5 x6 x7:Value) (W:World):(Instr.field 100 (.agg #[x0,x1,x2,x3,x4,x5,x6,x7]) 3).run Tryz.prog W = .ok (x6) W:=by kernel_rfl
theorem rel_f4 (x0 x1 x2 x3 x4 x5 x6 x7:Value) (W:World):(Instr.field 100 (.agg #[x0,x1,x2,x3,x4,x5,x6,x7]) 4).run Tryz.prog W = .ok (x7) W:=by kernel_rfl
theorem TabR.val_eq (x:TabR):x.val = .agg #[.string x.r.tn,.string x.r.rn,.int .i64 x.r.view,.int .i64 x.r.edit,.int .i64 x.r.check,.int .i64 x.r.level,.slice x.As x.r.subs.length x.cs,.slice x.Ao x.r.ops.length x.co]:=rfl
theorem tlevel_any (h:TabK w Ar cr K) (id:Int) (hid:(Lit.int .i64 id).wf=true):Calls Tryz.prog 19 #[.agg #[.string tx,.slice Ay ny cy,.map mb,.slice Ar K.length cr],.int .i64 id] w fun e w'=>e = .returned (.int .i64 (atK K id).r.level)∧Below w.heap.size w w':=by
 have hb0:=zck w (.cells #[.string tx,.slice Ay ny cy,.map mb,.slice Ar K.length cr] 27);have ka:=at_any (tx:=tx) (Ay:=Ay) (ny:=ny) (cy:=cy) (mb:=mb) (h.up hb0) id hid;rw [TabR.val_eq] at ka;generalize atK K id=x at *
 have hfld:=@rel_f2;go_enter Tryz.func19,Tryz.ntmps19
 go_wp2_with (go_at_call 37;refine ka.mono ?_;rintro e w1 ⟨rfl,hb1⟩)
 go_ret
 exact ⟨rfl,zaj hb0 hb0.size hb1⟩
theorem tmay_any (h:TabK w Ar cr K) (id:Int) (hid:(Lit.int .i64 id).wf=true) (ty re:ByteArray):Calls Tryz.prog 17 #[.agg #[.string tx,.slice Ay ny cy,.map mb,.slice Ar K.length cr],.int .i64 id,.string ty,.string re] w fun e w'=>e = .returned (.bool ((atK K id).r.subs.any fun y=>decide (y=(ty,re))))∧Below w.heap.size w w':=by
 have hb0:=zck w (.cells #[.string tx,.slice Ay ny cy,.map mb,.slice Ar K.length cr] 27);have ka:=at_any (tx:=tx) (Ay:=Ay) (ny:=ny) (cy:=cy) (mb:=mb) (h.up hb0) id hid;have hok:=(h.up hb0).at_ok id;rw [TabR.val_eq] at ka;generalize atK K id=x at *
 have hfld:=@rel_f3;generalize hq:(x.r.subs.any fun y=>decide (y=(ty,re)))=q;go_enter Tryz.func17,Tryz.ntmps17
 go_wp2_with (first
  | (go_at_call 37;refine ka.mono ?_;rintro e w1 ⟨rfl,hb1⟩;have hs1:SubsA w1 x.As x.cs x.r.subs:=⟨hok.subs.up hb1⟩;have kc:=contains_any hs1 (ty,re);rw [hq] at kc)
  | (go_at_call 39;refine kc.mono ?_;rintro e w2 ⟨rfl,hb2⟩))
 go_ret
 exact ⟨rfl,zaj (zaj hb0 hb0.size hb1) (zaj hb0 hb0.size hb1).size hb2⟩
theorem tpath_any (h:TabK w Ar cr K) (id:Int) (hid:(Lit.int .i64 id).wf=true):Calls Tryz.prog 13 #[.agg #[.string tx,.slice Ay ny cy,.map mb,.slice Ar K.length cr],.int .i64 id] w fun e w'=>e = .returned (.tuple #[.string (atK K id).r.tn,.string (atK K id).r.rn])∧Below w.heap.size w w':=by
 have hb0:=zck w (.cells #[.string tx,.slice Ay ny cy,.map mb,.slice Ar K.length cr] 27);have ka:=at_any (tx:=tx) (Ay:=Ay) (ny:=ny) (cy:=cy) (mb:=mb) (h.up hb0) id hid;rw [TabR.val_eq] at ka;generalize atK K id=x at *
 have hfld:=@rel_f0;go_enter Tryz.func13,Tryz.ntmps13
 go_upto_region 2 with (go_at_call 37;refine ka.mono ?_;rintro e w1 ⟨rfl,hb1⟩)
 have hb:=zaj hb0 hb0.size hb1;have hx:=Bk.new w1 #[.string x.r.tn,.string x.r.rn] 96;have hb2:=hb.alloc hb.size (.cells #[.string x.r.tn,.string x.r.rn] 96);generalize w1.alloc (.cells #[.string x.r.tn,.string x.r.rn] 96)=w2 at *
 obtain ⟨x0,x1⟩:=hx.c2;go_quiet (fail)
 go_wp2
 refine bodyPost_ret (v:=.tuple #[.string x.r.tn,.string x.r.rn]) (by simp [results,Tryz.results13,go_sem];try rfl) rfl ?_;exact ⟨rfl,zaj hb2 hb2.size (zcJ w2 nq)⟩
theorem tmetas_any (h:TabK w Ar cr K) (id:Int) (hid:(Lit.int .i64 id).wf=true):Calls Tryz.prog 15 #[.agg #[.string tx,.slice Ay ny cy,.map mb,.slice Ar K.length cr],.int .i64 id] w fun e w'=>e = .returned (.tuple #[.int .i64 (atK K id).r.view,.int .i64 (atK K id).r.edit,.int .i64 (atK K id).r.check])∧Below w.heap.size w w':=by
 have hb0:=zck w (.cells #[.string tx,.slice Ay ny cy,.map mb,.slice Ar K.length cr] 27);have ka:=at_any (tx:=tx) (Ay:=Ay) (ny:=ny) (cy:=cy) (mb:=mb) (h.up hb0) id hid;rw [TabR.val_eq] at ka;generalize atK K id=x at *
 have hfld:=@rel_f1;go_enter Tryz.func15,Tryz.ntmps15
 go_upto_region 2 with (go_at_call 37;refine ka.mono ?_;rintro e w1 ⟨rfl,hb1⟩)
 have hb:=zaj hb0 hb0.size hb1;have hx:=Bk.new w1 #[.int .i64 x.r.view,.int .i64 x.r.edit,.int .i64 x.r.check] 97;have hb2:=hb.alloc hb.size (.cells #[.int .i64 x.r.view,.int .i64 x.r.edit,.int .i64 x.r.check] 97);generalize w1.alloc (.cells #[.int .i64 x.r.view,.int .i64 x.r.edit,.int .i64 x.r.check] 97)=w2 at *
 obtain ⟨x0,x1,x2⟩:w2.cell? ⟨w1.heap.size,0,none⟩=some (.int .i64 x.r.view)∧w2.cell? ⟨w1.heap.size,1,none⟩=some (.int .i64 x.r.edit)∧w2.cell? ⟨w1.heap.size,2,none⟩=some (.int .i64 x.r.check):=⟨hx.cell 0,hx.cell 1,hx.cell 2⟩;go_quiet (fail)
 go_wp2
 refine bodyPost_ret (v:=.tuple #[.int .i64 x.r.view,.int .i64 x.r.edit,.int .i64 x.r.check]) (by simp [results,Tryz.results15,go_sem];try rfl) rfl ?_;exact ⟨rfl,zaj hb2 hb2.size (zcJ w2 nq)⟩
theorem zi1 (l:List OpT):∀u ∈ zaW l,u.oneCell'=true:=by
 intro u hu;obtain ⟨s,_,hs⟩:=List.mem_flatMap.1 hu;simp only [zcn,List.mem_cons,List.not_mem_nil,or_false] at hs;rcases hs with rfl | rfl | rfl <;> rfl
theorem zie (w:World) (t e:TypeId) (a:Option Addr) (l c:Nat) (h:Tryz.prog.underlying t=some (.slice e)):(binOp .eql t (.slice a l c) (.slice none 0 0)).run Tryz.prog w = .ok (.bool a.isNone) w:=by
 simp [binOp,run_equal_slice_nil w t e a l c h]
theorem rdsrc11 {B size n c:Nat} {a:Addr} {xs:List Value} (h:Rd w B size (some a) n c xs):∀j u,xs[j]? = some u→w.cell? (a.add j)=some u:=by
 intro j u hj;have hn:0<n:=by
  have:=(List.getElem?_eq_some_iff.1 hj).1;rw [h.len] at this;exact Nat.pos_of_ne_zero fun e=>by subst e;simp at this
 obtain ⟨b,o,e,_,hc⟩:=h.at_ hn;cases e;rw [Addr.add_lit];exact hc j u hj
theorem zjw:(Tryz.prog.info? 62).map (fun i=>(i.zero,i.size,i.bytes))=some (some (.agg #[.int .i64 0,.int .i64 0,.string .empty]),3,32):=by kernel_rfl
theorem cloneT_any {A:Option Addr} {c:Nat} {l:List OpT} (h:Rd w w.heap.size 3 A l.length c (zaW l)) (hn:l.length≤100000) :
 Calls Tryz.prog 38 #[.slice A l.length c] w fun e w'=>(∃A' c',e = .returned (.slice A' l.length c')∧w'.ownsRow w.heap.size 62 3 (.slice A' l.length c') l.length (zaW l))∧Below w.heap.size w w':=by
 have hb0:=zck w (.cells #[] 62);have ho0:=zhc w #[] 62 0 3 w.heap.size rfl (by simp [maxLen]) (Nat.le_refl _);go_enter Tryz.func38,Tryz.ntmps38
 cases A with
 | none =>
  obtain ⟨h0,rfl⟩:=h.nil rfl;obtain rfl:l=[]:=List.eq_nil_of_length_eq_zero h0;have hq:(binOp .eql 53 (.slice none 0 0) (.slice none 0 0)).run Tryz.prog w = .ok (.bool true) w:=zie w 53 62 none 0 0 Tryz.underlying53;go_wp2
  go_ret
  exact ⟨⟨none,0,rfl,World.ownsRow_nil _ _ _ _⟩,Below.refl _ _⟩
 | some a =>
  have hq:(binOp .eql 53 (.slice (some a) l.length c) (.slice none 0 0)).run Tryz.prog w = .ok (.bool false) w:=zie w 53 62 (some a) l.length c Tryz.underlying53;have hsrc:=rdsrc11 (h.up hb0);obtain ⟨i0,hi0,hz0,hz1,hz2⟩:=info_parts zjw;go_wp2_with (at_builtin;refine zab _ rfl (.tmp 5) (.tmp 6) 53 53 rfl w.heap.size 62 i0 (.agg #[.int .i64 0,.int .i64 0,.string .empty]) 3 32 Tryz.underlying53 hi0 hz0 hz1 hz2 rfl (by decide) (.slice (some ⟨w.heap.size,0,none⟩) 0 0) 0 [] rfl ho0 _ l.length (zaW l) rfl (Src.ofSlice _ Tryz.underlying53 _ _ _ _ h.len hsrc (zi1 l)) (by simp only [maxLen];omega) (by omega) (by simp) ?_;intro v1 w5 hown1 hg1 hat1;rw [Nat.zero_add,List.nil_append] at hown1;obtain ⟨A1,c1,rfl,_⟩:=Rd.own hown1)
  go_ret
  exact ⟨⟨_,_,rfl,hown1⟩,zak (v:=.slice (some ⟨w.heap.size,0,none⟩) 0 0) hb0 hg1 ho0 hb0.size (Nat.le_refl _)⟩
theorem tops_any (h:TabK w Ar cr K) (id:Int) (hid:(Lit.int .i64 id).wf=true):Calls Tryz.prog 16 #[.agg #[.string tx,.slice Ay ny cy,.map mb,.slice Ar K.length cr],.int .i64 id] w fun e w'=>(∃A c,e = .returned (.slice A (atK K id).r.ops.length c)∧w'.ownsRow w.heap.size 62 3 (.slice A (atK K id).r.ops.length c) (atK K id).r.ops.length (zaW (atK K id).r.ops))∧Below w.heap.size w w':=by
 have hb0:=zck w (.cells #[.string tx,.slice Ay ny cy,.map mb,.slice Ar K.length cr] 27);have ka:=at_any (tx:=tx) (Ay:=Ay) (ny:=ny) (cy:=cy) (mb:=mb) (h.up hb0) id hid;have hok:=(h.up hb0).at_ok id;rw [TabR.val_eq] at ka;generalize atK K id=x at *
 have hfld:=@rel_f4;go_enter Tryz.func16,Tryz.ntmps16
 go_wp2_with (first
  | (go_at_call 37;refine ka.mono ?_;rintro e w1 ⟨rfl,hb1⟩;have kc:=cloneT_any (hok.ops.up hb1) hok.few;have hb:=zaj hb0 hb0.size hb1)
  | (go_at_call 38;refine kc.mono ?_;rintro e w2 ⟨⟨A,c,rfl,hown⟩,hb2⟩))
 go_ret
 exact ⟨⟨A,c,rfl,zav hown hb.size⟩,zaj hb hb.size hb2⟩
theorem zky (a b:ByteArray):(a.toList == b.toList)=decide (a=b):=toList_inj
theorem indexS_any {A:Option Addr} {c:Nat} {l:List ByteArray} (h:Rd w w.heap.size 1 A l.length c (l.map Value.string)) (s:ByteArray) :
 Calls Tryz.prog 73 #[.slice A l.length c,.string s] w fun e w'=>(∃z:Int,e = .returned (.int .i64 z)∧decide (0≤z)=l.any fun y=>decide (y=s))∧Below w.heap.size w w':=by
 have hl:(l.length:Int)≤9223372036854775807:=by have:=h.cap;have:=h.capm;simp only [maxLen] at this;omega
 go_enter Tryz.func73,Tryz.ntmps73
 go_wp2_with fail
 go_loopw [8] (fun vi wx=>∃i:Nat,vi = .int .i64 i∧i≤l.length∧(∀y ∈ l.take i,decide (y=s)=false)∧Hid (wx=w)) (fun vi _=>l.length-(intOf vi).toNat)
 case atStart=>exact ⟨0,rfl,Nat.zero_le _,fun t ht=>(by simp at ht),Lib.hid rfl⟩
 case round =>
  obtain ⟨i,rfl,hi,hn,hwx⟩:=hrel;have hwx2:=hwx.out;subst hwx2;by_cases hil:i<l.length
  · have hdi:(i:Int)<(l.length:Nat):=by omega
    obtain ⟨t,ht⟩:∃t,l[i]? = some t:=⟨l[i],List.getElem?_eq_getElem hil⟩;obtain ⟨b,o,u,rfl,hbl,hu,hc⟩:=h.get hil;rw [List.getElem?_map,ht] at hu;obtain rfl:=Option.some.inj hu;have hq:=zky s t;have hst:decide (s=t)=decide (t=s):=by rw [Bool.eq_iff_iff];simp [eq_comm]
    rw [hst] at hq;cases hd:decide (t=s) with
    | true =>
     rw [hd] at hq;clear hst;go_wp2_with fail
     go_ret
     exact ⟨⟨_,rfl,by rw [any_at ht hd];exact decide_eq_true (by omega)⟩,Below.refl _ _⟩
    | false =>
     rw [hd] at hq;clear hst;go_wp2_with fail
     exact ⟨⟨i + 1,by go_num,by omega,zbZ ht hn hd,Lib.hid trivial⟩,by simp [intOf];omega⟩
  · have hdi:¬(i:Int)<(l.length:Nat):=by omega
    obtain rfl:i=l.length:=by omega
    rw [List.take_length] at hn;go_wp2_with fail
    go_ret
    exact ⟨⟨_,rfl,by rw [zeF hn];decide⟩,Below.refl _ _⟩
theorem thas_any {nr:Nat} {l:List ByteArray} (h:Rd w w.heap.size 1 Ay l.length cy (l.map Value.string)) (s:ByteArray) :
 Calls Tryz.prog 11 #[.agg #[.string tx,.slice Ay l.length cy,.map mb,.slice Ar nr cr],.string s] w fun e w'=>e = .returned (.bool (l.any fun y=>decide (y=s)))∧Below w.heap.size w w':=by
 have hb0:=zck w (.cells #[.string tx,.slice Ay l.length cy,.map mb,.slice Ar nr cr] 27);have kC:∀W:World,Rd W W.heap.size 1 Ay l.length cy (l.map Value.string)→Calls Tryz.prog 36 #[.slice Ay l.length cy,.string s] W fun e w'=>e = .returned (.bool (l.any fun y=>decide (y=s)))∧Below W.heap.size W w':=by
  intro W hW;have ki:=indexS_any hW s;go_enter Tryz.func36,Tryz.ntmps36
  go_wp2_with (go_at_call 73;refine ki.mono ?_;rintro e w1 ⟨⟨z,rfl,hz⟩,hb1⟩)
  by_cases h0:0≤z
  · go_wp2
    go_ret
    exact ⟨by rw [←hz,decide_eq_true h0];rfl,hb1⟩
  · go_wp2
    go_ret
    exact ⟨by rw [←hz];rfl,hb1⟩
 have kc:=kC _ (h.up hb0);go_enter Tryz.func11,Tryz.ntmps11
 go_wp2_with (go_at_call 36;refine kc.mono ?_;rintro e w1 ⟨rfl,hb1⟩)
 go_ret
 exact ⟨rfl,zaj hb0 hb0.size hb1⟩
end
end Go.Proofs.YtiepddmagfmllaaGreat
