import Derived.Shelf.SlSortCmp.WholeK
import Derived.Shelf.SlicesG.Cmp
import Derived.Shelf.Small.Bits
import Derived.Shelf.Bits.Mul64
import Derived.Deep.Cut
import Derived.Test.YtmblgnddgmfkhaaGreatK08
import Derived.Test.YtmblgnddgmfkhaaGreatK16
set_option maxRecDepth 100000
set_option maxHeartbeats 4000000
namespace Go.Proofs.YtmblgnddgmfkhaaGreat
section
open Go.Shelf Go.RowKit Go.Lib Go.Sort
def zmf:Go.Shelf.Ren:=⟨fun | 212=>166 | 263=>222 | 264=>223 | n=>n,fun | 46=>258 | 51=>315 | 146=>337 | 53=>103 | 148=>339 | n=>n,fun | n=>n⟩
theorem lays212:Go.Proofs.Lays.n212 Tryz.prog zmf:={
 mixed:=by kernel_rfl
 f212:=Tryz.func166.trans (congrArg some yaa)
 f263:=Tryz.func222.trans (congrArg some yaa)
 f264:=Tryz.func223.trans (congrArg some yaa)
 t46:=Tryz.underlying258
 a46:=Tryz.isAgg258
 z46:=Tryz.sizeOf258
 v46:=Tryz.zeroValue258
 t51:=Tryz.underlying315
 a51:=Tryz.isAgg315
 z51:=Tryz.sizeOf315
 v51:=Tryz.zeroValue315
 t53:=Tryz.underlying103
 a53:=Tryz.isAgg103
 z53:=Tryz.sizeOf103
 v53:=Tryz.zeroValue103
 t146:=Tryz.underlying337
 a146:=Tryz.isAgg337
 z146:=Tryz.sizeOf337
 v146:=Tryz.zeroValue337
 t148:=Tryz.underlying339
 a148:=Tryz.isAgg339
 z148:=Tryz.sizeOf339
 v148:=Tryz.zeroValue339 }
def zmh:Go.Shelf.Ren:=⟨fun | 5=>146 | 7=>196 | n=>n,fun | 22=>3 | 3=>3 | 4=>4 | n=>n,fun | n=>n⟩
theorem laysCmp:Go.Proofs.SlLaysC2.n5 Tryz.prog zmh:={
 mixed:=by kernel_rfl
 f5:=⟨Tryz.f146.name,by decide,Tryz.func146.trans (congrArg some yaa)⟩
 f7:=⟨Tryz.f196.name,by decide,Tryz.func196.trans (congrArg some yaa)⟩
 t3:=Tryz.underlying3
 a3:=Tryz.isAgg3
 z3:=Tryz.sizeOf3
 v3:=Tryz.zeroValue3
 t4:=Tryz.underlying4
 a4:=Tryz.isAgg4
 z4:=Tryz.sizeOf4
 v4:=Tryz.zeroValue4
 t22:=Tryz.underlying3
 a22:=Tryz.isAgg3
 z22:=Tryz.sizeOf3
 v22:=Tryz.zeroValue3 }
def zgr:Go.Shelf.Ren:=⟨fun | 6=>176 | 15=>144 | 14=>226 | 28=>195 | 29=>137 | 20=>249 | 21=>250 | 22=>251 | 23=>252 | 24=>253 | 25=>254 | 26=>255 | 27=>256 | 46=>278 | 47=>235 | 48=>236 | 49=>279 | 50=>280 | 57=>287 | n=>n,fun | 22=>149 | 24=>207 | 25=>228 | 3=>3 | 39=>258 | 0=>0 | 53=>315 | 55=>103 | 4=>4 | 46=>309 | 45=>308 | 50=>154 | 5=>5 | 9=>9 | 66=>358 | 70=>361 | 76=>375 | 77=>376 | n=>n,fun | n=>n⟩
theorem znu:Go.Proofs.SlLaysF0.n6 Tryz.prog zgr:={
 mixed:=by kernel_rfl
 f6:=⟨Tryz.f176.name,by decide,Tryz.func176.trans (congrArg some yaa)⟩
 f14:=⟨Tryz.f226.name,by decide,Tryz.func226.trans (congrArg some yaa)⟩
 f15:=Tryz.func144.trans (congrArg some yaa)
 f20:=⟨Tryz.f249.name,by decide,Tryz.func249.trans (congrArg some yaa)⟩
 f21:=⟨Tryz.f250.name,by decide,Tryz.func250.trans (congrArg some yaa)⟩
 f22:=⟨Tryz.f251.name,by decide,Tryz.func251.trans (congrArg some yaa)⟩
 f23:=⟨Tryz.f252.name,by decide,Tryz.func252.trans (congrArg some yaa)⟩
 f24:=⟨Tryz.f253.name,by decide,Tryz.func253.trans (congrArg some yaa)⟩
 f25:=⟨Tryz.f254.name,by decide,Tryz.func254.trans (congrArg some yaa)⟩
 f26:=⟨Tryz.f255.name,by decide,Tryz.func255.trans (congrArg some yaa)⟩
 f27:=⟨Tryz.f256.name,by decide,Tryz.func256.trans (congrArg some yaa)⟩
 f28:=Tryz.func195.trans (congrArg some yaa)
 f29:=Tryz.func137.trans (congrArg some yaa)
 f46:=⟨Tryz.f278.name,by decide,Tryz.func278.trans (congrArg some yaa)⟩
 f47:=Tryz.func235.trans (congrArg some yaa)
 f48:=Tryz.func236.trans (congrArg some yaa)
 f49:=⟨Tryz.f279.name,by decide,Tryz.func279.trans (congrArg some yaa)⟩
 f50:=⟨Tryz.f280.name,by decide,Tryz.func280.trans (congrArg some yaa)⟩
 f57:=⟨Tryz.f287.name,by decide,Tryz.func287.trans (congrArg some yaa)⟩
 t0:=Tryz.underlying0
 a0:=Tryz.isAgg0
 z0:=Tryz.sizeOf0
 v0:=Tryz.zeroValue0
 t3:=Tryz.underlying3
 a3:=Tryz.isAgg3
 z3:=Tryz.sizeOf3
 v3:=Tryz.zeroValue3
 t4:=Tryz.underlying4
 a4:=Tryz.isAgg4
 z4:=Tryz.sizeOf4
 v4:=Tryz.zeroValue4
 t5:=Tryz.underlying5
 a5:=Tryz.isAgg5
 z5:=Tryz.sizeOf5
 v5:=Tryz.zeroValue5
 t9:=Tryz.underlying9
 a9:=Tryz.isAgg9
 z9:=Tryz.sizeOf9
 v9:=Tryz.zeroValue9
 t22:=Tryz.underlying149
 a22:=Tryz.isAgg149
 z22:=Tryz.sizeOf149
 v22:=Tryz.zeroValue149
 t25:=Tryz.underlying228
 a25:=Tryz.isAgg228
 z25:=Tryz.sizeOf228
 v25:=Tryz.zeroValue228
 t39:=Tryz.underlying258
 a39:=Tryz.isAgg258
 z39:=Tryz.sizeOf258
 v39:=Tryz.zeroValue258
 t45:=Tryz.underlying308
 a45:=Tryz.isAgg308
 z45:=Tryz.sizeOf308
 v45:=Tryz.zeroValue308
 t46:=Tryz.underlying309
 a46:=Tryz.isAgg309
 z46:=Tryz.sizeOf309
 v46:=Tryz.zeroValue309
 t50:=Tryz.underlying154
 a50:=Tryz.isAgg154
 z50:=Tryz.sizeOf154
 v50:=Tryz.zeroValue154
 t53:=Tryz.underlying315
 a53:=Tryz.isAgg315
 z53:=Tryz.sizeOf315
 v53:=Tryz.zeroValue315
 t55:=Tryz.underlying103
 a55:=Tryz.isAgg103
 z55:=Tryz.sizeOf103
 v55:=Tryz.zeroValue103
 t66:=Tryz.underlying358
 a66:=Tryz.isAgg358
 z66:=Tryz.sizeOf358
 v66:=Tryz.zeroValue358
 t70:=Tryz.underlying361
 a70:=Tryz.isAgg361
 z70:=Tryz.sizeOf361
 v70:=Tryz.zeroValue361
 t76:=Tryz.underlying375
 a76:=Tryz.isAgg375
 z76:=Tryz.sizeOf375
 v76:=Tryz.zeroValue375
 t77:=Tryz.underlying376
 a77:=Tryz.isAgg376
 z77:=Tryz.sizeOf376
 v77:=Tryz.zeroValue376 }
end
section
open Go.RowKit
open Go.RowKit
variable {l:List Ed} {w':World} {n c B i:Nat} {A:Option Addr}
def za8 (e:Ed):List Value:=[.int .i64 e.1,.int .i64 e.2.1,.bool e.2.2]
def zaB (l:List Ed):List Value:=l.flatMap za8
def ints (L:List Nat):List Value:=L.map fun (k:Nat)=>Value.int .i64 (k:Int)
def bools (s:List Bool):Array Value:=(s.map Value.bool).toArray
theorem zfr (a b:List Nat):ints (a ++ b)=ints a ++ ints b:=yaM
theorem zet (L:List Nat):∀u ∈ ints L,u.oneCell'=true:=by
 intro u b;obtain ⟨k,_,rfl⟩:=yaH.1 b;rfl
theorem zhf (e:Ed):∀u ∈ za8 e,u.oneCell'=true:=by
 intro u b;simp only [za8,yaw,ya1,ybA] at b;rcases b with rfl | rfl | rfl <;> rfl
theorem zf1 (l:List Ed):(zaB l).length=l.length * 3:=by
 induction l with
 | nil=>rfl
 | cons a t ih=>rw [zaB,yaS,yam,←zaB,ih];simp [za8];omega
theorem zf0 (a b:List Ed):zaB (a ++ b)=zaB a ++ zaB b:=ya0
theorem zop {e:Ed} (h:l[i]? = some e):(zaB l)[i * 3]? = some (.int .i64 e.1)∧(zaB l)[i * 3 + 1]? = some (.int .i64 e.2.1)∧(zaB l)[i * 3 + 2]? = some (.bool e.2.2):=by
 induction l generalizing i with
 | nil=>simp at h
 | cons a t ih =>
  rw [zaB,yaS,←zaB];cases i with
  | zero =>
   simp only [ybs,yaT] at h;subst h;exact ⟨rfl,rfl,rfl⟩
  | succ i =>
   obtain ⟨f,g,j⟩:=ih (by simpa using h);have k:(i + 1) * 3=i * 3 + 3:=by omega
   have b:(za8 a).length=3:=rfl;rw [k];refine ⟨?_,?_,?_⟩
   · rw [yaJ yab,b,←f];rfl
   · rw [yaJ yab,b,←g];congr 1
   · rw [yaJ yab,b,←j];congr 1
structure Gr (w:World) (B:Nat) (A:Option Addr) (c n:Nat) (l:List Ed):Prop where
 one:∃vs,Rd w B 1 A n c vs∧∀i,i<n→∃Ai ci,vs[i]? = some (.slice Ai (outE l i).length ci)∧Rd w B 3 Ai (outE l i).length ci (zaB (outE l i))
 inr:InR n l
 few:n≤4096
theorem Gr.below {w:World} (h:Gr w B A c n l) (hb:Below B w w'):Gr w' B A c n l:=by
 obtain ⟨⟨b,f,g⟩,j,k⟩:=h;exact ⟨⟨b,f.below hb,fun i hi=>by obtain ⟨m,o,e,r⟩:=g i hi;exact ⟨m,o,e,r.below hb⟩⟩,j,k⟩
theorem Gr.more {w:World} {B':Nat} (h:Gr w B A c n l) (hb:B≤B'):Gr w B' A c n l:=by
 obtain ⟨⟨b,f,g⟩,j,k⟩:=h;exact ⟨⟨b,f.more hb,fun i hi=>by obtain ⟨m,o,e,r⟩:=g i hi;exact ⟨m,o,e,r.more hb⟩⟩,j,k⟩
structure Od (w:World) (M go:Nat) (L:List Nat):Prop where
 one:∃v,Bk w go #[v] 146∧w.ownsRow M 3 1 v L.length (ints L)
 ge:M≤go
theorem zfp:(Tryz.prog.info? 3).map (fun i=>(i.zero,i.size,i.bytes))=some (some (.int .i64 0),1,8):=by kernel_rfl
theorem zbH (w:World) (a:Value) (t:TypeId):∀j u,[a][j]? = some u→(w.alloc (.cells #[a] t)).cell? ((⟨w.heap.size,0,none⟩:Addr).add j)=some u:=by
 intro j u b;rw [Addr.add_lit,cell_of_row _ _ _ _ _ _ (heap_alloc_new w _),yaI];simpa using b
def Bt (w w':World):Prop:=∀t b cs,t≠3→t≠146→Bk w b cs t→Bk w' b cs t
def Bw (w w':World):Prop:=∀t b cs,t≠3→t≠146→t≠4→Bk w b cs t→Bk w' b cs t
theorem Bt.bw {w:World} (h:Bt w w'):Bw w w':=fun t b cs f g _ hb=>h t b cs f g hb
theorem Bw.refl (w:World):Bw w w:=fun _ _ _ _ _ _ h=>h
theorem Bw.trans {w w'':World} (h:Bw w w') (k:Bw w' w''):Bw w w'':=fun t b cs f g j hb=>k t b cs f g j (h t b cs f g j hb)
theorem Bw.alloc {w:World} (h:Bw w w') (o:Obj):Bw w (w'.alloc o):=fun t b cs f g j hb=>(h t b cs f g j hb).alloc o
theorem zeb {w:World} {B2 b:Nat} {cs:Array Value} {t e2:TypeId} {s2 n2:Nat} {u:Value} {ys:List Value} (h:Bk w b cs t) (hu:w.ownsRow B2 e2 s2 u n2 ys) (hne:t≠e2):u.ownBlock≠some b:=fun g=>by
 rcases hu.2 with ⟨rfl,_⟩ | ⟨m,j,k,rfl,_,f,_⟩
 · simp [Value.ownBlock] at g
 simp only [Value.ownBlock,yaT] at g;subst g;rw [show w.heap[m]? = _ from h] at f;injection f with f
 injection f with _ n _
 exact hne n
theorem zbB {w:World} {B2 b:Nat} {cs:Array Value} {t e2:TypeId} {s2 n2:Nat} {u:Value} {ys:List Value} (h:Bk w b cs t) (hu:w.ownsRow B2 e2 s2 u n2 ys) (hne:t≠e2) (hg:w.grownBy w' u.ownBlock):Bk w' b cs t :=
 (hg.block b h.lt fun f=>zeb h hu hne f.symm).trans h
section
variable {w:World} {M go:Nat} {L:List Nat}
theorem zev {w1:World} {v v1:Value} {k:Nat} {o:Obj} (hv:Bk w go #[v] 146) (hr:w.ownsRow M 3 1 v L.length (ints L)) (hM:M≤go) (hg1:(w.alloc o).grownBy w1 v.ownBlock) (hown1:w1.ownsRow M 3 1 v1 (L.length + 1) (ints L ++ [.int .i64 (k:Int)])) :
 Bk w1 go #[v] 146∧Od (w1.setCell ⟨go,0,none⟩ v1) M go (L ++ [k])∧Below M w (w1.setCell ⟨go,0,none⟩ v1)∧Bt w (w1.setCell ⟨go,0,none⟩ v1):=by
 have f:=World.ownsRow.alloc hr o;have j:Bk w1 go #[v] 146:=zbB (hv.alloc o) f yac hg1;have x:=hv.lt;have m:Below M w w1:=zae (((Below.refl _ w)).alloc yab o) hg1 f yag (yaj _);refine ⟨j,⟨⟨v1,?_,?_⟩,hM⟩,m.setCell hM _,fun t b cs q s hb=>?_⟩
 · have:=j.set 0 v1;simpa using this
 · rw [yam,zfr];refine zaH (n:=L.length + 1) (xs:=ints L ++ [.int .i64 (k:Int)]) hown1 fun g y=>?_;have u:g≠go:=fun e=>zeb j hown1 yac (e ▸ y);exact Below.heap_setCell _ _ _ _ u
 · have z:=zbB (hb.alloc o) f q hg1;refine z.other (a:=⟨go,0,none⟩) (fun e=>?_) _;have A:b=go:=e;subst A;have:=hb.symm.trans hv;injection this with this
   injection this with _ B _
   exact s B
theorem leave1_any (h:Od w M go L) (k:Nat) (hl:L.length<1000000) :
 Calls Tryz.prog 168 #[.int .i64 (k:Int),.pointer (some ⟨go,0,none⟩)] w fun e w'=>e = .returned (.tuple #[])∧Od w' M go (L ++ [k])∧Below M w w'∧Bt w w':=by
 obtain ⟨⟨v,f,m⟩,s⟩:=h;have y:=f.cell 0;have z:=f.fz 0;have B:=f.lt;obtain ⟨x,hi,n,o,q⟩:=info_parts zfp;obtain ⟨A,c,rfl,_⟩:=Rd.own m;have H:=Lib.hid m;have V:=Lib.hid f;clear m f;go_enter Tryz.func168,Tryz.ntmps168
 go_wp2_with (first
  | (at_builtin;go_loud (refine zab _ rfl (.tmp 3) (.tmp 5) 146 146 rfl M 3 x (.int .i64 0) 1 8 Tryz.underlying146 hi n o q rfl yac _ L.length (ints L) rfl (H.out.alloc _) _ 1 [.int .i64 (k:Int)] rfl (Src.ofSlice _ Tryz.underlying146 _ 1 1 _ rfl (zbH _ _ _) (zet [k])) yad yab (size_alloc yab) ?_;intro C D b g u;obtain ⟨E,F,rfl,_⟩:=Rd.own b;have j:=(zev V.out H.out s g b).1;have G:=j.cell 0;have I:=j.fz 0)))
 go_end0
 exact ⟨rfl,(zev V.out H.out s g b).2⟩
theorem leave2_any (h:Od w M go L) (k:Nat) (hl:L.length<1000000) :
 Calls Tryz.prog 170 #[.int .i64 (k:Int),.pointer (some ⟨go,0,none⟩)] w fun e w'=>e = .returned (.tuple #[])∧Od w' M go (L ++ [k])∧Below M w w'∧Bt w w':=by
 obtain ⟨⟨v,f,m⟩,s⟩:=h;have y:=f.cell 0;have z:=f.fz 0;have B:=f.lt;obtain ⟨x,hi,n,o,q⟩:=info_parts zfp;obtain ⟨A,c,rfl,_⟩:=Rd.own m;have H:=Lib.hid m;have V:=Lib.hid f;clear m f;go_enter Tryz.func170,Tryz.ntmps170
 go_wp2_with (first
  | (at_builtin;go_loud (refine zab _ rfl (.tmp 3) (.tmp 5) 146 146 rfl M 3 x (.int .i64 0) 1 8 Tryz.underlying146 hi n o q rfl yac _ L.length (ints L) rfl (H.out.alloc _) _ 1 [.int .i64 (k:Int)] rfl (Src.ofSlice _ Tryz.underlying146 _ 1 1 _ rfl (zbH _ _ _) (zet [k])) yad yab (size_alloc yab) ?_;intro C D b g u;obtain ⟨E,F,rfl,_⟩:=Rd.own b;have j:=(zev V.out H.out s g b).1;have G:=j.cell 0;have I:=j.fz 0)))
 go_end0
 exact ⟨rfl,(zev V.out H.out s g b).2⟩
end
structure Sw (w:World) (M gs go n:Nat) (s:List Bool) (L:List Nat):Prop where
 seen:Bk w gs (bools s) 4
 od:Od w M go L
 len:s.length=n
theorem Gr.row {w:World} (h:Gr w B A c n l) (hi:i<n) :
 ∃b o Ai ci,A=some ⟨b,o,none⟩∧b<B∧w.cell? ⟨b,o + i,none⟩=some (.slice Ai (outE l i).length ci)∧Rd w B 3 Ai (outE l i).length ci (zaB (outE l i)):=by
 obtain ⟨⟨m,g,j⟩,_,_⟩:=h;obtain ⟨Ai,ci,e,r⟩:=j i hi;obtain ⟨b,o,u,rfl,hb,f,k⟩:=g.get hi;rw [e] at f;cases f;exact ⟨b,o,Ai,ci,rfl,hb,k,r⟩
theorem zhS {w:World} (h:Rd w B 3 A n c (zaB l)) {e:Ed} (hi:l[i]? = some e) :
 ∃b o,A=some ⟨b,o,none⟩∧b<B∧w.cell? ⟨b,o + i * 3,none⟩=some (.int .i64 e.1)∧w.cell? ⟨b,o + i * 3 + 1,none⟩=some (.int .i64 e.2.1)∧w.cell? ⟨b,o + i * 3 + 2,none⟩=some (.bool e.2.2):=by
 have g:0<n:=by
  have q:=h.len;have s:=zf1 l;have u:=(yap.1 hi).1;omega
 obtain ⟨b,o,j,hb,f⟩:=h.at_ g;obtain ⟨g0,k,m⟩:=zop hi;exact ⟨b,o,j,hb,f _ _ g0,by rw [ya7];exact f _ _ k,by rw [ya7];exact f _ _ m⟩
theorem zpM (s:List Bool) (a:Nat):(bools s).setIfInBounds a (.bool true)=bools (s.set a true):=by
 unfold bools;apply ycU;simp [List.map_set]
theorem zg7 (s:List Bool) (a:Nat):(bools s)[a]? = s[a]?.map Value.bool:=by simp [bools]
theorem ziD (s:List Bool):(bools s).size=s.length:=by simp [bools]
theorem walk_any {M0 M gs go cs:Nat} (fl:Nat) (hM:M0≤M) (hgs:M0≤gs) (hgg:gs≠go)
 (eg:∀args w,(callFunc fl args).run Tryz.prog w = .ok (.enter fl args) w)
 (hL:∀(w:World) (L:List Nat) (k:Nat),Od w M go L→L.length<1000000→Calls Tryz.prog fl #[.int .i64 (k:Int),.pointer (some ⟨go,0,none⟩)] w fun e w'=>e = .returned (.tuple #[])∧Od w' M go (L ++ [k])∧Below M w w'∧Bt w w') (k:Nat) :
 ∀{w:World} {s:List Bool} {L:List Nat} {a:Nat},s.count false≤k→a<n→Gr w M0 A c n l→Sw w M gs go n s L→L.length + s.count false≤4096 →
  Calls Tryz.prog 167 #[.slice A n c,.slice (some ⟨gs,0,none⟩) n cs,.int .i64 (a:Int),.func (.func fl) #[] #[.pointer (some ⟨go,0,none⟩)]] w fun e w' =>
   e = .returned (.tuple #[])∧∃s' L',Walks (goE l) s [a] s' L'∧Sw w' M gs go n s' (L ++ L')∧Kp gs M w w'∧Bw w w':=by
 induction k with
 | zero =>
  intro w s L a hk G J hS _;have f:s[a]? = some true:=by
   have u:a<s.length:=by rw [hS.len];exact G
   rw [yal u];cases hb:s[a] with
   | true=>rfl
   | false =>
    have:=List.count_pos_iff.2 (hb ▸ List.getElem_mem u);omega
  have q:=hS.seen.cell a;rw [zg7,f] at q;have K:(a:Int)<(n:Int):=by omega
  go_enter Tryz.func167,Tryz.ntmps167
  go_wp2_with fail
  refine bodyPost_ret (results_none rfl _ _ _) rfl ?_;exact ⟨rfl,s,[],.old f (.nil s),by rw [yaK];exact hS,Kp.refl _ _ _,Bw.refl _⟩
 | succ k ih =>
  intro w s L a hk G J hS hf;have u:a<s.length:=by rw [hS.len];exact G
  have K:(a:Int)<(n:Int):=by omega
  have q:=hS.seen.cell a;have fz:=hS.seen.fz a;have N:=hS.seen.lt;rw [zg7] at q;cases f:s[a]? with
  | none=>rw [ycR] at f;omega
  | some b =>
  cases b with
  | true =>
   rw [f] at q;go_enter Tryz.func167,Tryz.ntmps167
   go_wp2_with fail
   refine bodyPost_ret (results_none rfl _ _ _) rfl ?_;exact ⟨rfl,s,[],.old f (.nil s),by rw [yaK];exact hS,Kp.refl _ _ _,Bw.refl _⟩
  | false =>
   rw [f] at q;go_enter Tryz.func167,Tryz.ntmps167
   go_upto_region 2 with (fail)
   have ai:=zkt f;have O:Below M0 w (w.setCell ⟨gs,a,none⟩ (.bool true)):=(Below.refl M0 w).setCell hgs _;have P:Sw (w.setCell ⟨gs,a,none⟩ (.bool true)) M gs go n (s.set a true) L:=by
    refine ⟨?_,⟨?_,hS.od.ge⟩,by rw [ycc];exact hS.len⟩
    · have:=hS.seen.set a (.bool true);rwa [zpM] at this
    · obtain ⟨v,x,H⟩:=hS.od.one;refine ⟨v,x.other (a:=⟨gs,a,none⟩) (fun e=>hgg e.symm) _,zaH H fun g Q=>Below.heap_setCell _ _ _ _ ?_⟩;exact fun e=>zeb hS.seen H yac ((show g=gs from e) ▸ Q)
   have R:Kp gs M w (w.setCell ⟨gs,a,none⟩ (.bool true)):=⟨rfl,rfl,rfl,by simp [World.setCell],fun g _ Q=>Below.heap_setCell _ _ _ _ Q⟩;have T:Bw w (w.setCell ⟨gs,a,none⟩ (.bool true)):=fun t b cs _ _ ht hb=>hb.other (a:=⟨gs,a,none⟩) (fun e=>by
    have U:b=gs:=e;subst U;have:=hb.symm.trans hS.seen;injection this with this
    injection this with _ h3 _
    exact ht h3) _
   have m:=J.below O;clear J hS q fz N;generalize w.setCell ⟨gs,a,none⟩ (.bool true)=w1 at *
   obtain ⟨b,o,Ai,ci,rfl,hb,hc,V⟩:=m.row G;have aj:((outE l a).length:Int)≤9223372036854775807:=by have:=V.cap;have:=V.capm;simp only [maxLen] at this;omega
   go_wp2_with fail
   go_loopw [22] (fun X Y=>∃(j:Nat) (s':List Bool) (L':List Nat),X = .int .i64 j∧j≤(outE l a).length∧Walks (goE l) (s.set a true) ((goE l a).take j) s' L'∧Sw Y M gs go n s' (L ++ L')∧Kp gs M w1 Y∧Bw w1 Y) (fun X _=>(outE l a).length-(intOf X).toNat)
   case atStart=>exact ⟨0,_,[],rfl,yao _,.nil _,by rw [yaK];exact P,Kp.refl _ _ _,Bw.refl _⟩
   case round =>
    obtain ⟨j,s',L',rfl,hj,I,hS,y,Z⟩:=hrel;have ak:=I.cf;have a1:=m.below (y.below hM hgs);by_cases z:j<(outE l a).length
    · have a2:(j:Int)<((outE l a).length:Int):=by omega
      obtain ⟨e,he⟩:∃e,(outE l a)[j]? = some e:=⟨_,yal z⟩;have B:=(zfz.1 (yaq he)).1;have a6:e.2.1=((tt e:Nat):Int):=by have:=m.inr e B;unfold tt;omega
      have a7:=m.inr.tt B;have a8:(goE l a)[j]? = some (tt e):=by unfold goE;rw [yaY,he];rfl
      obtain ⟨b2,o2,rfl,al,q,c1,c2⟩:=zhS (V.below (y.below hM hgs)) he;rw [a6] at c1;have am:M0≤wr.heap.size:=by have:=y.size;have:=hS.od.ge;obtain ⟨v,x,_⟩:=hS.od.one;have:=x.lt;omega
      go_upto_region 5 with (fail)
      have aa:Sw (wr.alloc (.cells #[.int .i64 e.1,.int .i64 ((tt e:Nat):Int),.bool e.2.2] 207)) M gs go n s' (L ++ L'):=by
       obtain ⟨v,x,H⟩:=hS.od.one;exact ⟨hS.seen.alloc _,⟨⟨v,x.alloc _,H.alloc _⟩,hS.od.ge⟩,hS.len⟩
      have ab:M≤wr.heap.size:=by obtain ⟨v,x,_⟩:=hS.od.one;have:=x.lt;have:=hS.od.ge;omega
      have C:=y.alloc ab (.cells #[.int .i64 e.1,.int .i64 ((tt e:Nat):Int),.bool e.2.2] 207);have ac:=Z.alloc (.cells #[.int .i64 e.1,.int .i64 ((tt e:Nat):Int),.bool e.2.2] 207);have D:=m.below (C.below hM hgs);have d1:=(Bk.new wr #[.int .i64 e.1,.int .i64 ((tt e:Nat):Int),.bool e.2.2] 207).cell 1;clear hS y Z a1 q c1 c2;generalize wr.alloc (.cells #[.int .i64 e.1,.int .i64 ((tt e:Nat):Int),.bool e.2.2] 207)=w2 at *
      have kI:=ih (w:=w2) (s:=s') (L:=L ++ L') (a:=tt e) yab a7 D aa (by rw [yam];omega);go_wp2_with fail
      refine kI.mono ?_;rintro U w3 ⟨rfl,s3,L3,ad,ae,af,ag⟩;go_wp2
      go_roundw
      case rel =>
       refine ⟨j + 1,s3,L' ++ L3,by simp,by omega,?_,by rw [←yaD];exact ae,C.trans af,ac.trans ag⟩;rw [yaC,a8];exact I.app ad
      case measure=>simp [intOf];omega
    · obtain rfl:j=(outE l a).length:=by omega
      have a2:¬((((outE l a).length:Nat):Int)<((outE l a).length:Int)):=by omega
      have E:(goE l a).take (outE l a).length=goE l a:=ybl (by unfold goE;simp);rw [E] at I;have kL:=hL wr (L ++ L') a hS.od (by rw [yam];omega);have kE:=eg #[.int .i64 (a:Int),.pointer (some ⟨go,0,none⟩)] wr;go_wp2_with fail
      refine kL.mono ?_;rintro U w3 ⟨rfl,hO,ah,F⟩;go_wp2
      go_end0
      refine ⟨rfl,s',L' ++ [a],?_,⟨F _ _ _ yac yac hS.seen,by rw [←yaD];exact hO,hS.len⟩,R.trans (y.trans (Kp.of_below ah _)),T.trans (Z.trans F.bw)⟩;exact .new f I (.nil _)
end
end Go.Proofs.YtmblgnddgmfkhaaGreat
