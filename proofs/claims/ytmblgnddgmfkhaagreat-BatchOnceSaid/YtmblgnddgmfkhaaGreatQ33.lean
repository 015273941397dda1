import Derived.Test.YtmblgnddgmfkhaaGreatQ32
set_option maxRecDepth 100000
set_option maxHeartbeats 4000000
namespace Go.Proofs.YtmblgnddgmfkhaaGreat
section
open Go.RowKit
def c15:Cd:=⟨num,text,fun n=>n<2 ^ 64,fun t=>t.size<2 ^ 63⟩
def pakL (b1 b2 b3:ByteArray) (sc:Bool) (tx:ByteArray) (l:List ByteArray):List UInt8:=text b1 ++ (text b2 ++ (text b3 ++ (if sc=true then num 1 ++ text tx else num 0 ++ (num l.length ++ texts l))))
theorem zm2 {τ:Type} (v:Rv τ Nd15):zfk c15 v=text v.by_.1 ++ (text v.by_.2.1 ++ (text v.by_.2.2 ++ (if v.schema=true then num 1 ++ text v.text else num 0 ++ (num v.wrote.length ++ texts v.wrote)))):=rfl
theorem zqH (v:Rv Tb Nd15):zfk c15 v=pakL v.by_.1 v.by_.2.1 v.by_.2.2 v.schema v.text v.wrote:=rfl
theorem zb9 {n:Nat} (h:n<2 ^ 64):(num n).length≤9:=by
 have:=zir (n:=n) yab;rw [zcs];omega
theorem zdQ {s:ByteArray} (h:s.size<2 ^ 64):(text s).length≤s.size + 9:=by
 have:=zir (n:=s.size) yab;rw [zeD];omega
theorem zff:∀{l:List ByteArray} {n:Nat},n<2 ^ 63→(∀x ∈ l,x.size≤n)→(texts l).length≤l.length * (n + 9)
 | [],_,_,_=>by simp [texts]
 | x::l,n,b,h=>by
  have f:=h x yat;have g:=zdQ (s:=x) yab;have j:=zff (l:=l) b fun y d=>h y (yau _ d);have:texts (x::l)=text x ++ texts l:=rfl;rw [this,yam,yaq,ycE];omega
structure SzV (v:Rv Tb Nd15):Prop where
 text:v.text.size≤2048
 by1:v.by_.1.size≤1000000
 by2:v.by_.2.1.size≤1000000
 by3:v.by_.2.2.size≤1000000
 few:v.wrote.length≤16
 each:∀k ∈ v.wrote,k.size≤100000
def SzB (s:Sto Tb Nd15):Prop:=∀v ∈ s.L,SzV v
theorem SzV.wrote {v:Rv Tb Nd15} (h:SzV v):(texts v.wrote).length≤1600144:=yax (zff (n:=100000) yac h.each) (yax (ybo _ h.few) yac)
theorem SzV.recLe {v:Rv Tb Nd15} (h:SzV v):(zfk c15 v).length≤5000000:=by
 rw [zqH];unfold pakL;have b:=zdQ (s:=v.by_.1) (by have:=h.by1;omega);have d:=zdQ (s:=v.by_.2.1) (by have:=h.by2;omega);have f:=zdQ (s:=v.by_.2.2) (by have:=h.by3;omega);have g:=zdQ (s:=v.text) (by have:=h.text;omega);have j:=h.wrote;have k:=zb9 (n:=v.wrote.length) (by have:=h.few;omega);have m:=zb9 (n:=0) yac;have o:=zb9 (n:=1) yac;have:=h.by1;have:=h.by2;have:=h.by3;have:=h.text;rw [yam,yam,yam];split
 · rw [yam];omega
 · rw [yam,yam];omega
theorem zlT:∀{l:List Rm},(∀x ∈ l,SzV x.v)→(l.flatMap fun x=>zfk c15 x.v).length≤l.length * 5000000
 | [],_=>by simp
 | x::l,h=>by
  have d:=(h x yat).recLe;have f:=zlT (l:=l) fun y b=>h y (yau _ b);rw [yaS,yam,yaq,ycE];omega
section
variable {S:SpW} {f:CoF} {X Y F F':Nat→Prop} {w w':World} {g:Nat} {s:Sto Tb Nd15} {L:List Sp} {last:Int} {m:Mm}
theorem packed_raw (r0:Int) (b1 b2 b3:ByteArray) (sc:Bool) {Ak:Option Addr} {ck:Nat} {l:List ByteArray} (tx:ByteArray) (Ay:Option Addr) (ny cy:Nat) (mb:Option Nat) (Ar:Option Addr) (nr cr:Nat) (h:Rd w w.heap.size 1 Ak l.length ck (ks l)) (h1:b1.size≤1000000) (h2:b2.size≤1000000) (h3:b3.size≤1000000) (h4:tx.size≤10000000) (h5:(texts l).length≤100000000) (h6:l.length≤100000000) :
 Calls Tryz.prog 51 #[.agg #[.int .i64 r0,.string b1,.string b2,.string b3,.bool sc,.slice Ak l.length ck,.string tx,.slice Ay ny cy,.map mb,.slice Ar nr cr]] w fun e w'=>(∃v',e = .returned v'∧w'.ownsRow w.heap.size 5 1 v' (pakL b1 b2 b3 sc tx l).length (bv (pakL b1 b2 b3 sc tx l)))∧Below w.heap.size w w':=by
 obtain ⟨i0,O,P,Q,R⟩:=info_parts ziY;have M:=Rk.new w #[.int .i64 r0,.string b1,.string b2,.string b3,.bool sc,.slice Ak l.length ck,.string tx,.slice Ay ny cy,.map mb,.slice Ar nr cr] 100;have a1:=zaM w (.cells #[.int .i64 r0,.string b1,.string b2,.string b3,.bool sc,.slice Ak l.length ck,.string tx,.slice Ay ny cy,.map mb,.slice Ar nr cr] 100);have aa:∀z,pakL b1 b2 b3 sc tx l=z→z=texts [b1,b2,b3] ++ (if sc=true then num 1 ++ texts [tx] else num 0 ++ (num l.length ++ texts l)):=fun z e=>by
  rw [←e];unfold pakL texts;simp
 obtain ⟨Z,hZ⟩:∃Z,pakL b1 b2 b3 sc tx l=Z:=⟨_,rfl⟩;have g:=aa Z hZ;rw [hZ];clear aa hZ;go_enter Tryz.func51,Tryz.ntmps51
 go_upto_region 1 with (fail)
 obtain ⟨x0,x1,x2,x3⟩:_∧_∧_∧_:=⟨M.cell 0,M.cell 1,M.cell 2,M.cell 3⟩;have xl:=M.lt;generalize w.alloc (.cells #[.int .i64 r0,.string b1,.string b2,.string b3,.bool sc,.slice Ak l.length ck,.string tx,.slice Ay ny cy,.map mb,.slice Ar nr cr] 100)=w1 at *
 go_upto_region 2 with (fail)
 have hy:=Rk.new w1 #[.string b1,.string b2,.string b3] 31;have E:=zad a1 a1.size (zaM w1 (.cells #[.string b1,.string b2,.string b3] 31));have F:=M.alloc (.cells #[.string b1,.string b2,.string b3] 31);clear M a1 x0 x1 x2 x3 xl;have ag:=h.up E;generalize w1.alloc (.cells #[.string b1,.string b2,.string b3] 31)=N at *
 generalize w1.heap.size=gy at *
 obtain ⟨y0,y1,y2⟩:=hy.c3y;have yl:=hy.lt;have xl:=F.lt;have ab:(texts [b1,b2,b3]).length≤3 * (1000000 + 9):=zff yac (fun x M=>by simp at M;rcases M with rfl | rfl | rfl <;> assumption);have kt:=texts_any (some ⟨N.heap.size,0,none⟩) 3 3 [b1,b2,b3] (N.alloc (.cells #[.string b1,.string b2,.string b3] 9)) (Rd.litX N _ 9 3 1 _ rfl rfl (by simp [maxLen])) yab;obtain ⟨T,hT⟩:∃T,texts [b1,b2,b3]=T:=⟨_,rfl⟩;rw [hT] at kt ab g;clear hT h;replace g:=Lib.hid g;obtain ⟨n,hn⟩:∃n,T.length=n:=⟨_,rfl⟩;rw [hn] at kt ab;replace hn:=Lib.hid hn;go_upto_region 3 with (go_at_call 48;refine kt.mono ?_;rintro e w3 ⟨v3,rfl,q,ac⟩;obtain ⟨A3,c3,rfl,_⟩:=Rd.own q)
 have A:=zad (zaM N (.cells #[.string b1,.string b2,.string b3] 9)) yaf ac;replace q:=zax q (show N.heap.size≤(N.alloc (.cells #[.string b1,.string b2,.string b3] 9)).heap.size by simp);have V:=F.same (A.block _ F.lt);have x4:=V.cell 4;have ad:=V.lt;clear kt ac y0 y1 y2 yl hy;cases sc with
 | true =>
  have kp:=put_any1 (some ⟨w3.heap.size,0,none⟩) 1 1 [1] (w3.alloc (.cells #[.int .u64 1] 103)) (Rd.litX w3 _ 103 1 1 _ rfl rfl (by simp [maxLen])) yaf yac;have e1:zcO [1]=num 1:=by simp [zcO]
  rw [e1] at kp;have ah:=zb9 (n:=1) yac;have k:=g.out;rw [yan rfl] at k;have k:=Lib.hid k;clear g;go_upto_region 4 with (fail)
  go_upto_region 5 with (first
   | (go_at_call 47;refine kp.mono ?_;rintro e w4 ⟨v4,rfl,G,H⟩;obtain ⟨A4,c4,rfl,I⟩:=Rd.own G;have m:=zad (zaM w3 (.cells #[.int .u64 1] 103)) yaf H;have o:=zau q fun j hj=>m.block j (q.lt j hj).2;have b:=zad A A.size m)
   | (at_builtin;go_must (refine zab _ rfl (.tmp 19) (.tmp 21) 24 24 rfl N.heap.size 5 i0 (.int .u8 0) 1 1 Tryz.underlying24 O P Q R rfl yac (.slice A3 n c3) n (bv T) rfl o _ _ _ rfl (Rd.src Tryz.underlying24 I (zfQ _)) yad yab b.size ?_);intro v5 w5 u J K)
   | fail)
  have f:=zaf b J o b.size (yaj _);obtain ⟨A5,c5,rfl,_⟩:=Rd.own u;have B:=F.same (f.block _ F.lt);have ai:=B.lt;obtain ⟨n2,y⟩:∃n2,n + (num 1).length=n2:=⟨_,rfl⟩;rw [y] at u ⊢;have ae:n2≤4000000:=by omega
  replace y:=Lib.hid y;clear kp q G o I H m b J K e1 x4 ad V;obtain ⟨x6,x7,x8,x9⟩:_∧_∧_∧_:=⟨B.cell 6,B.cell 7,B.cell 8,B.cell 9⟩;have X:=zdQ (s:=tx) yab;have e7:texts [tx]=text tx:=by simp [texts]
  have L:=fun W=>texts_any (some ⟨W.heap.size,0,none⟩) 1 1 [tx] (W.alloc (.cells #[.string tx] 9)) (Rd.litX W _ 9 1 1 _ rfl rfl (by simp [maxLen])) (by rw [e7];omega);rw [←e7] at X;obtain ⟨U,hU⟩:∃U,texts [tx]=U:=⟨_,rfl⟩;have d:=k.out;rw [hU] at X d;simp only [hU] at L;replace d:=Lib.hid d;clear hU e7 k;go_wp2_with (first
   | (go_at_call 27;refine (ttext_any (nr:=nr)).mono ?_;rintro e w6 ⟨rfl,Y⟩)
   | (go_at_call 48;refine (L w6).mono ?_;rintro e w7 ⟨v7,rfl,a2,aj⟩;obtain ⟨A7,c7,rfl,a6⟩:=Rd.own a2;have C:=zad (zad Y Y.size (zaM w6 (.cells #[.string tx] 9))) (zad Y Y.size (zaM w6 (.cells #[.string tx] 9))).size aj;have D:=zau u fun j hj=>C.block j (u.lt j hj).2;have p:=zad f f.size C)
   | (at_builtin;go_must (refine zab _ rfl (.tmp 23) (.tmp 28) 24 24 rfl N.heap.size 5 i0 (.int .u8 0) 1 1 Tryz.underlying24 O P Q R rfl yac (.slice A5 n2 c5) n2 _ rfl D _ _ _ rfl (Rd.src Tryz.underlying24 a6 (zfQ _)) yad yab p.size ?_);intro v8 w8 a7 a8 af)
   | fail)
  go_ret
  refine ⟨⟨v8,rfl,?_⟩,zad E E.size (zaf p a8 D p.size (yaj _))⟩;rw [d.out,←yaB,zaY,zaY,yam,yam,hn.out,y.out];exact zax a7 E.size
 | false =>
  have kp:=put_any1 (some ⟨w3.heap.size,0,none⟩) 1 1 [0] (w3.alloc (.cells #[.int .u64 0] 103)) (Rd.litX w3 _ 103 1 1 _ rfl rfl (by simp [maxLen])) yaf yac;have e1:zcO [0]=num 0:=by simp [zcO]
  rw [e1] at kp;have ah:=zb9 (n:=0) yac;have k:=g.out;rw [yak (by decide)] at k;have k:=Lib.hid k;clear g;go_upto_region 6 with (fail)
  go_upto_region 7 with (first
   | (go_at_call 47;refine kp.mono ?_;rintro e w4 ⟨v4,rfl,G,H⟩;obtain ⟨A4,c4,rfl,I⟩:=Rd.own G;have m:=zad (zaM w3 (.cells #[.int .u64 0] 103)) yaf H;have o:=zau q fun j hj=>m.block j (q.lt j hj).2;have b:=zad A A.size m)
   | (at_builtin;go_must (refine zab _ rfl (.tmp 30) (.tmp 32) 24 24 rfl N.heap.size 5 i0 (.int .u8 0) 1 1 Tryz.underlying24 O P Q R rfl yac (.slice A3 n c3) n (bv T) rfl o _ _ _ rfl (Rd.src Tryz.underlying24 I (zfQ _)) yad yab b.size ?_);intro v5 w5 u J K)
   | fail)
  have f:=zaf b J o b.size (yaj _);obtain ⟨A5,c5,rfl,_⟩:=Rd.own u;have B:=F.same (f.block _ F.lt);have ai:=B.lt;obtain ⟨n2,y⟩:∃n2,n + (num 0).length=n2:=⟨_,rfl⟩;rw [y] at u ⊢;have ae:n2≤4000000:=by omega
  replace y:=Lib.hid y;clear kp q G o I H m b J K e1 x4 ad V;have x5:=B.cell 5;have X:(num l.length ++ texts l).length≤100000009:=by have:=zb9 (n:=l.length) yab;rw [yam];omega
  have L:=lists_any Ak l.length ck l w5 (ag.up (f.mono (yaj _))) yab yab;obtain ⟨U,hU⟩:∃U,num l.length ++ texts l=U:=⟨_,rfl⟩;have d:=k.out;rw [hU] at X d L;replace d:=Lib.hid d;clear hU k;go_wp2_with (first
   | (go_at_call 49;refine L.mono ?_;rintro e w7 ⟨v7,rfl,a2,C⟩;obtain ⟨A7,c7,rfl,a6⟩:=Rd.own a2;have D:=zau u fun j hj=>C.block j (u.lt j hj).2;have p:=zad f f.size C)
   | (at_builtin;go_must (refine zab _ rfl (.tmp 34) (.tmp 38) 24 24 rfl N.heap.size 5 i0 (.int .u8 0) 1 1 Tryz.underlying24 O P Q R rfl yac (.slice A5 n2 c5) n2 _ rfl D _ _ _ rfl (Rd.src Tryz.underlying24 a6 (zfQ _)) yad yab p.size ?_);intro v8 w8 a7 a8 af)
   | fail)
  go_ret
  refine ⟨⟨v8,rfl,?_⟩,zad E E.size (zaf p a8 D p.size (yaj _))⟩;rw [d.out,←yaB,zaY,zaY,yam,yam,hn.out,y.out];exact zax a7 E.size
theorem zmU (h:StR S X w F g s L last m):zbi c15 s=num s.floor.toNat ++ (num (revB s).toNat ++ (text m.t.tx ++ ((num (atB s s.floor).keys.length ++ texts (atB s s.floor).keys) ++ m.l.flatMap fun x=>zfk c15 x.v))):=by
 obtain ⟨u,b,f,k⟩:=h.head;have j:s.L[0]? = some u:=by rw [b];rfl
 have d:=zeJ j;rw [Int.natCast_zero,Int.add_zero] at d;rw [d,←f];unfold zbi;rw [b];dsimp only;rw [List.flatMap_map];rfl
theorem pack_any (K:SpK S) (h:StM S f X w F g s L last m) (hz:SzB s) :
 Calls Tryz.prog 15 #[.pointer (some ⟨g,0,none⟩)] w fun e w'=>(∃v',e = .returned v'∧w'.ownsRow w.heap.size 5 1 v' (zbi c15 s).length (bv (zbi c15 s)))∧Below w.heap.size w w':=by
 obtain ⟨i0,ah,ai,aj,ak⟩:=info_parts ziY;have D:=zmU h.toStR;obtain ⟨ar,bi⟩:=h.small s.floor;have bj:=zff (n:=100000) yac ar;have cl:=h.floor0;have cm:=h.most;have au:=h.rev_eq;have bl:=h.few;have cn:m.t.tx.size≤2048:=by
  obtain ⟨u,eL,e1,_⟩:=h.head;rw [←e1];exact (hz u (by rw [eL];exact yat)).text
 have av:∀x ∈ m.l,SzV x.v:=fun x hx=>by
  obtain ⟨u,eL,_⟩:=h.head;exact hz x.v (by rw [eL];exact yau _ (ybj hx))
 obtain ⟨Z,hZ⟩:∃Z,zbi c15 s=Z:=⟨_,rfl⟩;rw [hZ] at D ⊢;replace D:=Lib.hid D;clear hZ;have k1:Calls Tryz.prog 18 #[.pointer (some ⟨g,0,none⟩)] w fun e w'=>e = .returned (.int .i64 s.floor)∧Below w.heap.size w w':=(zes h.toStR).mono fun _ _ ⟨e,k⟩=>⟨e,by rw [k];exact Below.refl _ _⟩;have k2:=fun W (hb:Below w.heap.size w W)=>zcP (h.up K hb).toStR;have cp:0≤revB s:=by omega
 have e1:zcO [s.floor,revB s]=num s.floor.toNat ++ num (revB s).toNat:=by simp [zcO]
 have bm:=zb9 (n:=s.floor.toNat) yab;have bn:=zb9 (n:=(revB s).toNat) yab;obtain ⟨N,hN⟩:∃N,zcO [s.floor,revB s]=N:=⟨_,rfl⟩;have bo:N.length≤18:=by rw [←hN,e1,yam];omega
 have kp:=fun W=>put_any1 (some ⟨W.heap.size,0,none⟩) 2 2 [s.floor,revB s] (W.alloc (.cells #[.int .u64 s.floor,.int .u64 (revB s)] 103)) (Rd.litX W _ 103 2 1 _ rfl rfl (by simp [maxLen])) (by
  intro u hu;simp at hu;rcases hu with rfl | rfl <;> omega) yac
 simp only [hN] at kp;have p:=fun W (hb:Below w.heap.size w W)=>(h.up K hb).cs;have lt:=fun W (hb:Below w.heap.size w W)=>(h.up K hb).box.lt;rw [hN] at e1;have ac:Hid (Z=N ++ (texts [m.t.tx] ++ ((num (atB s s.floor).keys.length ++ texts (atB s s.floor).keys) ++ m.l.flatMap fun x=>zfk c15 x.v))):=Lib.hid (by rw [D.out,e1];simp [texts]);have bp:(texts [m.t.tx]).length≤2057:=by
  have:texts [m.t.tx]=text m.t.tx:=by simp [texts]
  rw [this];exact yax (zdQ yab) yab
 have bq:(num (atB s s.floor).keys.length ++ texts (atB s s.floor).keys).length≤9 + 50000 * 100009:=by
  have:=zb9 (n:=(atB s s.floor).keys.length) yab;rw [yam];omega
 have kq:=fun W (hb:Below w.heap.size w W)=>keysAt_any K (h.up K hb) s.floor;have kl:=fun W A c (hR:Rd W W.heap.size 1 A (atB s s.floor).keys.length c (ks (atB s s.floor).keys))=>lists_any A (atB s s.floor).keys.length c (atB s s.floor).keys W hR yab yab;have al:=fun W=>texts_any (some ⟨W.heap.size,0,none⟩) 1 1 [m.t.tx] (W.alloc (.cells #[.string m.t.tx] 9)) (Rd.litX W _ 9 1 1 _ rfl rfl (by simp [maxLen])) yab;obtain ⟨U,hU⟩:∃U,texts [m.t.tx]=U:=⟨_,rfl⟩;obtain ⟨V,hV⟩:∃V,num (atB s s.floor).keys.length ++ texts (atB s s.floor).keys=V:=⟨_,rfl⟩;have q:=ac.out;rw [hU,hV] at q;rw [hU] at bp;rw [hV] at bq;simp only [hU] at al;simp only [hV] at kl;replace q:=Lib.hid q;replace au:=Lib.hid au;clear D ac hU hV hN e1 bm bn bj;generalize (atB s s.floor).keys=ke at *
 obtain ⟨nk,am⟩:∃nk,ke.length=nk:=⟨_,rfl⟩;rw [am] at bi;simp only [am] at kq kl;clear am ar;obtain ⟨c0,c1,c2,c3,c4,c5,c6,c7⟩:=p w (Below.refl _ _);have br:=lt w (Below.refl _ _);obtain ⟨n,hn⟩:∃n,N.length=n:=⟨_,rfl⟩;rw [hn] at bo;simp only [hn] at kp;replace hn:=Lib.hid hn;go_enter Tryz.func15,Tryz.ntmps15
 go_upto_region 3 with (fail)
 go_upto_region 4 with (first
  | (go_at_call 18;refine k1.mono ?_;rintro e w1 ⟨rfl,a1⟩)
  | (go_at_call 17;refine (k2 _ a1).mono ?_;rintro e w2 ⟨rfl,aw⟩;have E:=zad a1 a1.size aw)
  | (go_at_call 47;refine (kp _).mono ?_;rintro e w3 ⟨v3,rfl,z,ax⟩;obtain ⟨A3,bs,rfl,_⟩:=Rd.own z)
  | fail)
 have G:=zad (E.alloc E.size (.cells #[.int .u64 s.floor,.int .u64 (revB s)] 103)) (zae E.size) ax;replace z:=zax z (zae E.size);obtain ⟨d0,d1,d2,d3,d4,d5,d6,d7⟩:=p w3 G;have bu:=lt w3 G;clear k1 k2 kp a1 aw ax E c0 c1 c2 c3 c4 c5 c6 c7 br;go_upto_region 5 with (first
  | (go_at_call 27;refine (ttext_any (nr:=m.t.K.length)).mono ?_;rintro e w4 ⟨rfl,H⟩)
  | (go_at_call 48;refine (al w4).mono ?_;rintro e w5 ⟨v5,rfl,ay,az⟩;obtain ⟨A5,cq,rfl,b0⟩:=Rd.own ay;have I:=zad (zad H H.size (zaM w4 (.cells #[.string m.t.tx] 9))) (zad H H.size (zaM w4 (.cells #[.string m.t.tx] 9))).size az;have J:=zau z fun j hj=>I.block j (z.lt j hj).2;have a2:=zad G G.size I)
  | (at_builtin;go_must (refine zab _ rfl (.tmp 16) (.tmp 23) 24 24 rfl w.heap.size 5 i0 (.int .u8 0) 1 1 Tryz.underlying24 ah ai aj ak rfl yac (.slice A3 n bs) n _ rfl J _ _ _ rfl (Rd.src Tryz.underlying24 b0 (zfQ _)) yad yab a2.size ?_);intro v6 w6 M b1 b2)
  | fail)
 have B:=zaf a2 b1 J a2.size (yaj _);obtain ⟨A6,bw,rfl,_⟩:=Rd.own M;obtain ⟨n2,a6⟩:∃n2,n + U.length=n2:=⟨_,rfl⟩;rw [a6] at M ⊢;have ch:n2≤2075:=by omega
 replace a6:=Lib.hid a6;clear z ay b0 H az I J a2 b1 b2 al d0 d1 d2 d3 d4 d5 d6 d7 bu G;obtain ⟨d0,d1,d2,d3,d4,d5,d6,d7⟩:=p w6 B;have bx:=lt w6 B;go_upto_region 6 with (first
  | (go_at_call 50;refine (kq w6 B).mono ?_;rintro e w7 ⟨⟨A7,bz,rfl,b3⟩,an⟩)
  | (go_at_call 49;refine (kl w7 A7 bz b3).mono ?_;rintro e w8 ⟨v8,rfl,b4,b5⟩;obtain ⟨A8,ct,rfl,b6⟩:=Rd.own b4;have O:=zad an an.size b5;have P:=zau M fun j hj=>O.block j (M.lt j hj).2;have a7:=zad B B.size O)
  | (at_builtin;go_must (refine zab _ rfl (.tmp 25) (.tmp 32) 24 24 rfl w.heap.size 5 i0 (.int .u8 0) 1 1 Tryz.underlying24 ah ai aj ak rfl yac (.slice A6 n2 bw) n2 _ rfl P _ _ _ rfl (Rd.src Tryz.underlying24 b6 (zfQ _)) yad yab a7.size ?_);intro v9 w9 Q b7 b8)
  | fail)
 have a8:=zaf a7 b7 P a7.size (yaj _);obtain ⟨A9,cu,rfl,_⟩:=Rd.own Q;obtain ⟨n3,aa⟩:∃n3,n2 + V.length=n3:=⟨_,rfl⟩;rw [aa] at Q ⊢;have ci:n3≤6000000000:=by omega
 replace aa:=Lib.hid aa;clear M b4 b3 b6 an b5 O P a7 b7 b8 kq kl d0 d1 d2 d3 d4 d5 d6 d7 bx B;obtain ⟨d0,d1,d2,d3,d4,d5,d6,d7⟩:=p w9 a8;have c8:=lt w9 a8;obtain ⟨C,hT⟩:∃C:Nat→List UInt8,C=fun i=>(m.l.take i).flatMap fun x=>zfk c15 x.v:=⟨_,rfl⟩;have c9:C 0=[]:=by rw [hT];rfl
 have ca:∀(i:Nat) (x:Rm),m.l[i]? = some x→C (i + 1)=C i ++ zfk c15 x.v:=fun i x hx=>by
  rw [hT];dsimp only;rw [yaC,hx,yaR,yaZ];simp
 have cb:∀i,i≤m.l.length→(C i).length≤315000000:=fun i hi=>by
  rw [hT];have h1:=zlT (l:=m.l.take i) fun x hx=>av x (yb4 hx);rw [yaK,ybK hi] at h1;exact yax h1 (yax (ybo _ (yax hi bl)) yac)
 have cc:Hid (Z=N ++ (U ++ (V ++ C m.l.length))):=Lib.hid (by rw [q.out,hT];dsimp only;rw [yaA]);clear hT q;obtain ⟨HH,hH⟩:∃HH,bv N ++ bv U ++ bv V=HH:=⟨_,rfl⟩;rw [hH] at Q;replace hH:=Lib.hid hH;have bh:(m.l.length:Int)≤9223372036854775807:=by omega
 go_upto_region 7 with (fail)
 go_loopw [3,39] (fun vo vi wx=>∃i:Nat,vi = .int .i64 i∧i≤m.l.length∧wx.ownsRow w.heap.size 5 1 vo (n3 + (C i).length) (HH ++ bv (C i))∧Below w.heap.size w wx) (fun _ vi _=>m.l.length-(intOf vi).toNat)
 case atStart=>exact ⟨0,rfl,yap _,by rw [c9];simpa [bv] using Q,a8⟩
 case round =>
  clear Q a8 d0 d1 d2 d3 d4 d5 d6 d7 c8;obtain ⟨i,rfl,hi,hO,hb⟩:=hrel;have cv:=cb i hi;obtain ⟨A5,c5,rfl,_⟩:=Rd.own hO;obtain ⟨n4,R⟩:∃n4,n3 + (C i).length=n4:=⟨_,rfl⟩;rw [R] at hO ⊢;have cj:n4≤6400000000:=by omega
  replace R:=Lib.hid R;by_cases cd:i<m.l.length
  · have di:(i:Int)<(m.l.length:Int):=by omega
    have cw:(0:Int)≤(i:Int):=by omega
    obtain ⟨x,hx⟩:∃x,m.l[i]? = some x:=⟨_,yal cd⟩;have ao:=yar hx;have hs:=h.up K hb;obtain ⟨b,o,eA,cx,T⟩:=hs.get hx;have q0:=T 0 _ rfl;have q1:=T 1 _ rfl;have q2:=T 2 _ rfl;have q3:=T 3 _ rfl;have q4:=T 4 _ rfl;have q5:=T 5 _ rfl;have q6:=T 6 _ rfl;have q7:=T 7 _ rfl;have q8:=T 8 _ rfl;have q9:=T 9 _ rfl;rw [ybP] at q0;have ce:=Lib.hid (ca i x hx);have y:=av x ao;have ab:=hs.each x ao;have b9:zfk c15 x.v=pakL x.v.by_.1 x.v.by_.2.1 x.v.by_.2.2 x.v.schema x.t.tx x.v.wrote:=by rw [zqH,ab.text]
    have cz:=y.recLe;have aq:=zaM wr (.cells #[.int .i64 x.rev,.string x.v.by_.1,.string x.v.by_.2.1,.string x.v.by_.2.2,.bool x.v.schema,.slice x.Ak x.v.wrote.length x.ck,.string x.t.tx,.slice x.t.Ay x.t.ty.length x.t.cy,.map x.t.mb,.slice x.t.Ar x.t.K.length x.t.cr] 100);have d:=Rk.new wr #[.int .i64 x.rev,.string x.v.by_.1,.string x.v.by_.2.1,.string x.v.by_.2.2,.bool x.v.schema,.slice x.Ak x.v.wrote.length x.ck,.string x.t.tx,.slice x.t.Ay x.t.ty.length x.t.cy,.map x.t.mb,.slice x.t.Ar x.t.K.length x.t.cr] 100;have ba:=ab.wrote _ (Stay.below aq);have bb:=packed_raw x.rev x.v.by_.1 x.v.by_.2.1 x.v.by_.2.2 x.v.schema x.t.tx x.t.Ay x.t.ty.length x.t.cy x.t.mb x.t.Ar x.t.K.length x.t.cr ba y.by1 y.by2 y.by3 (by rw [←ab.text];exact yax y.text yac) (yax y.wrote yac) (yax y.few yac);rw [←b9] at bb;generalize zfk c15 x.v=rc at *
    clear T hs ab ba b9 hx ao;go_upto_region 9 with (fail)
    generalize wr.alloc (.cells #[.int .i64 x.rev,.string x.v.by_.1,.string x.v.by_.2.1,.string x.v.by_.2.2,.bool x.v.schema,.slice x.Ak x.v.wrote.length x.ck,.string x.t.tx,.slice x.t.Ay x.t.ty.length x.t.cy,.map x.t.mb,.slice x.t.Ar x.t.K.length x.t.cr] 100)=d8 at *
    have p0:=d.cell 0;have p1:=d.cell 1;have p2:=d.cell 2;have p3:=d.cell 3;have p4:=d.cell 4;have p5:=d.cell 5;have p6:=d.cell 6;have p7:=d.cell 7;have p8:=d.cell 8;have p9:=d.cell 9;have pl:=d.lt;have ad:=zad hb hb.size aq;have ae:=zau hO fun j hj=>aq.block j (hO.lt j hj).2;clear q0 q1 q2 q3 q4 q5 q6 q7 q8 q9 eA;go_wp2_with (first
     | (go_at_call 51;refine bb.mono ?_;rintro e d9 ⟨⟨da,rfl,bc⟩,af⟩;obtain ⟨db,dc,rfl,bd⟩:=Rd.own bc;have ag:=zau ae fun j hj=>af.block j (ae.lt j hj).2;have Y:=zad ad ad.size af)
     | (at_builtin;go_must (refine zab _ rfl (.tmp 43) (.tmp 45) 24 24 rfl w.heap.size 5 i0 (.int .u8 0) 1 1 Tryz.underlying24 ah ai aj ak rfl yac (.slice A5 n4 c5) n4 _ rfl ag _ _ _ rfl (Rd.src Tryz.underlying24 bd (zfQ _)) yad yab Y.size ?_);intro dd de bf bg cf)
     | fail)
    exact ⟨⟨i + 1,by go_num,by omega,by rw [ce.out,yam,zaY,←ya4,R.out,←yaB];exact bf,zaf Y bg ag Y.size (yaj _)⟩,by simp [intOf];omega⟩
  · obtain rfl:i=m.l.length:=by omega
    have di:¬(((m.l.length:Nat):Int)<(m.l.length:Int)):=by omega
    go_wp2_with fail
    go_ret
    refine ⟨⟨_,rfl,?_⟩,hb⟩;have cg:=cc.out;rw [cg];have e1:(N ++ (U ++ (V ++ C m.l.length))).length=n4:=by
     have:=R.out;have:=hn.out;have:=a6.out;have:=aa.out;simp only [yam];omega
    have e2:bv (N ++ (U ++ (V ++ C m.l.length)))=HH ++ bv (C m.l.length):=by rw [←hH.out,zaY,zaY,zaY];simp only [yaB]
    rw [e1,e2];exact hO
end
end
section
open Go.RowKit
variable {w:World} {g:Nat}
def val (l:List UInt8):Nat:=l.foldl (fun a c=>a * 256 + c.toNat) 0
theorem zjz (l:List UInt8) (c:UInt8):val (l ++ [c])=val l * 256 + c.toNat:=by simp [val]
theorem val_nil:val []=0:=rfl
theorem val_lt (l:List UInt8):val l<256 ^ l.length:=by
 have key:∀(l:List UInt8) (a k:Nat),a<256 ^ k→l.foldl (fun a c=>a * 256 + c.toNat) a<256 ^ (k + l.length):=by
  intro l;induction l with
  | nil=>intro a k h;simpa using h
  | cons c r ih =>
   intro a k h;have:=ih (a * 256 + c.toNat) (k + 1) (by rw [Nat.pow_succ];have:=c.toNat_lt;omega);rw [yb7,yaq,show k + (r.length + 1)=k + 1 + r.length from by omega];exact this
 have:=key l 0 0 yaf;rwa [yaG] at this
def zcm:List UInt8→Nat × Nat × Nat
 | []=>(0,0,10)
 | b::r=>if 8<b.toNat then (0,0,11) else if r.length<b.toNat then (0,0,10) else if 0<b.toNat∧r.head? = some 0 then (0,0,11) else (val (r.take b.toNat),b.toNat + 1,0)
def zfM (l:List UInt8):Value:=.tuple #[.int .u64 (zcm l).1,.int .i64 (zcm l).2.1,.int .i64 (zcm l).2.2]
theorem Rd.getByte {B n c:Nat} {A:Option Addr} {l:List UInt8} (h:Rd w B 1 A n c (bv l)) {k:Nat} (hk:k<n) :
 ∃b o u,A=some ⟨b,o,none⟩∧b<B∧l[k]? = some u∧w.cell? ⟨b,o + k,none⟩=some (.int .u8 u.toNat):=by
 obtain ⟨b,o,v,e,hb,d,g⟩:=h.get hk;rw [bv_get] at d;cases f:l[k]? with
 | none=>rw [f] at d;cases d
 | some u=>rw [f] at d;simp at d;subst d;exact ⟨b,o,u,e,hb,rfl,g⟩
theorem or_byte (q:Nat) (y:UInt8) (hq:q<256 ^ 7):bits .or .u64 ((q:Int) * 256) (y.toNat:Int)=((q * 256 + y.toNat:Nat):Int):=by
 have b:=y.toNat_lt;have h:=u64_or_nat (q * 256) y.toNat yab yab;rw [Nat.mul_comm q 256,show 256=2 ^ 8 from rfl,←Nat.two_pow_add_eq_or_of_lt b] at h;rw [show ((q:Int) * 256)=((2 ^ 8 * q:Nat):Int) from by rw [Nat.mul_comm];simp,h,Nat.mul_comm q 256]
theorem val_take (r:List UInt8) (j:Nat) (y:UInt8) (h:r[j]? = some y):val (r.take (j + 1))=val (r.take j) * 256 + y.toNat:=by
 obtain ⟨b,d⟩:=yao.1 h;rw [ybB b,zjz,d]
theorem take_any (B:Nat) (A:Option Addr) (n c:Nat) (l:List UInt8) (w:World) (hr:Rd w B 1 A n c (bv l)) :
 Calls Tryz.prog 140 #[.slice A n c] w fun e w'=>e = .returned (zfM l)∧w=w':=by
 have m:=Lib.hid hr;have H:n≤9223372036854775807:=by have:=hr.capm;have:=hr.cap;unfold maxLen at *;omega
 have d:l.length=n:=by have:=hr.len;rw [zgC] at this;omega
 clear hr;match l,d,m with
 | [],d,m =>
  simp at d;subst d;go_enter Tryz.func140,Tryz.ntmps140
  go_wp2
  go_ret3
  exact ⟨rfl,rfl⟩
 | b::r,d,m =>
  have C:0<n:=by simp at d;omega
  obtain ⟨O,P,u,rfl,_,I,J⟩:=m.out.getByte C;simp at I;subst I;have Q:w.cell? ⟨O,P,none⟩=some (Value.int .u8 b.toNat):=by simpa using J
  have R:(b.toNat:Int)<256:=by have:=b.toNat_lt;omega
  have D:n=r.length + 1:=by simpa using d.symm
  subst D;clear d J;by_cases x:8<b.toNat
  · have e:zfM (b::r) = .tuple #[.int .u64 0,.int .i64 0,.int .i64 11]:=by simp [zfM,zcm,x]
    have E:=Lib.hid e;clear e;go_enter Tryz.func140,Tryz.ntmps140
    go_wp2
    go_ret3
    exact ⟨by rw [E.out];rfl,rfl⟩
  · by_cases F:r.length<b.toNat
    · have e:zfM (b::r) = .tuple #[.int .u64 0,.int .i64 0,.int .i64 10]:=by simp [zfM,zcm,x,F]
      have E:=Lib.hid e;clear e;go_enter Tryz.func140,Tryz.ntmps140
      go_wp2
      go_ret3
      exact ⟨by rw [E.out];rfl,rfl⟩
    · by_cases K:0<b.toNat
      · obtain ⟨T,U,u,L,_,f,V⟩:=m.out.getByte (k:=1) yab;simp at L;obtain ⟨rfl,rfl⟩:=L;have z:r.head? = some u:=by rw [List.head?_eq_getElem?];simpa using f
        have X:=Lib.hid f;by_cases o:u=0
        · have e:zfM (b::r) = .tuple #[.int .u64 0,.int .i64 0,.int .i64 11]:=by simp [zfM,zcm,x,F,K,z,o]
          have E:=Lib.hid e;clear e z f;subst o;go_enter Tryz.func140,Tryz.ntmps140
          go_wp2
          go_ret3
          exact ⟨by rw [E.out];rfl,rfl⟩
        · have p:u.toNat≠0:=fun h=>o (UInt8.toNat_inj.1 h);have Y:0<u.toNat:=by omega
          have Z:((u.toNat:Int) == 0)=false:=by simp [p]
          have e:zfM (b::r) = .tuple #[.int .u64 (val (r.take b.toNat)),.int .i64 (1 + (b.toNat:Int)),.int .i64 0]:=by simp [zfM,zcm,x,F,K,z,o,Int.add_comm]
          have E:=Lib.hid e;clear e z f o p;go_enter Tryz.func140,Tryz.ntmps140
          go_wp2
          go_loop [6,31] (fun v i=>∃j:Nat,j≤b.toNat∧i = .int .i64 j∧v = .int .u64 (val (r.take j))) (fun _ i=>b.toNat-(intOf i).toNat)
          case atStart=>exact ⟨0,yap _,rfl,rfl⟩
          case round =>
           obtain ⟨j,hj,rfl,rfl⟩:=hrel;by_cases a1:j<b.toNat
           · obtain ⟨a2,a6,y,M,_,g,a7⟩:=m.out.getByte (k:=1 + j) yab;simp at M;obtain ⟨rfl,rfl⟩:=M;have s:r[j]? = some y:=by rw [Nat.add_comm] at g;simpa using g
             have Hy:=Lib.hid s;have N:val (r.take j)<256 ^ 7:=yaw (val_lt _) (Nat.pow_le_pow_right yab (by have:=ycJ j r;omega));obtain ⟨q,G⟩:∃q,q=val (r.take j):=⟨_,rfl⟩;rw [←G] at N ⊢;have Hq:=Lib.hid G;clear g s G;have a8:=y.toNat_lt;go_wp2
             refine ⟨⟨j + 1,by omega,by go_num,?_⟩,by simp [intOf];omega⟩;rw [or_byte q y N,Hq.out,val_take r j y Hy.out]
           · have e3:j=b.toNat:=by omega
             subst e3;go_wp2
             go_ret3
             exact ⟨by rw [E.out];rfl,rfl⟩
      · have e:zfM (b::r) = .tuple #[.int .u64 0,.int .i64 1,.int .i64 0]:=by simp [zfM,zcm,show b.toNat=0 from by omega,val]
        have E:=Lib.hid e;have aa:b.toNat=0:=by omega
        clear e;go_enter Tryz.func140,Tryz.ntmps140
        go_wp2
        refine wp_loop_rounds 1 ?_;rw [rounds_succ];go_wp2
        go_ret3
        exact ⟨by rw [E.out];rfl,rfl⟩
abbrev RSt:=List UInt8 × Nat
def IsR (w:World) (g:Nat) (st:RSt):Prop :=
 ∃A n c,w.heap[g]? = some (.cells #[.slice A n c,.int .i64 st.2] 175 (0,0))∧Rd w g 1 A n c (bv st.1)
theorem IsR.lt {st:RSt} (h:IsR w g st):g<w.heap.size:=by
 obtain ⟨A,n,c,h,_⟩:=h;exact (yaO.1 h).1
theorem IsR.below {w':World} {B:Nat} {st:RSt} (h:IsR w g st) (hb:Below B w w') (hg:g<B):IsR w' g st:=by
 obtain ⟨A,n,c,b,d⟩:=h;exact ⟨A,n,c,by rw [hb.block g hg];exact b,d.belowLe hb yab⟩
theorem zcz {w0:World} (h:w0.grownBy w (some g)) (o:Nat) (u:Value):w0.grownBy (w.setCell ⟨g,o,none⟩ u) (some g) :=
 ⟨h.os,h.tape,h.output,by simpa [World.setCell] using h.size,fun i hi b=>(Below.heap_setCell w ⟨g,o,none⟩ u i (fun e=>b (by rw [e]))).trans (h.block i hi b)⟩
theorem zlt {w0:World} {r:Option Nat} (h:w0.grownBy w r) (o:Obj):w0.grownBy (w.alloc o) r :=
 ⟨h.os,h.tape,h.output,yax h.size yaf,fun i hi b=>(Below.heap_alloc w o i (yaw hi h.size)).trans (h.block i hi b)⟩
theorem IsR.set0 {st:RSt} (h:IsR w g st) (A:Option Addr) (n c:Nat) (l:List UInt8) (hr:Rd w g 1 A n c (bv l)):IsR (w.setCell ⟨g,0,none⟩ (.slice A n c)) g (l,st.2):=by
 obtain ⟨f,j,k,b,m⟩:=h;refine ⟨A,n,c,?_,hr.keep fun p d=>World.cell?_setCell_other w _ p _ (fun e=>by subst e;simp at d)⟩;simp [World.setCell,ybx,b]
theorem IsR.set1 {st:RSt} (h:IsR w g st) (e:Nat):IsR (w.setCell ⟨g,1,none⟩ (.int .i64 e)) g (st.1,e):=by
 obtain ⟨b,d,f,j,k⟩:=h;refine ⟨b,d,f,?_,k.keep fun p m=>World.cell?_setCell_other w _ p _ (fun e=>by subst e;simp at m)⟩;simp [World.setCell,ybx,j]
theorem IsR.cells {st:RSt} (h:IsR w g st):∃A n c,w.cell? ⟨g,0,none⟩=some (.slice A n c)∧w.cell? ⟨g,1,none⟩=some (.int .i64 st.2)∧(∀j,w.frozen? ⟨g,j,none⟩=false)∧Rd w g 1 A n c (bv st.1):=by
 obtain ⟨A,n,c,b,d⟩:=h;exact ⟨A,n,c,by rw [cell_of_row _ _ _ _ _ _ b];rfl,by rw [cell_of_row _ _ _ _ _ _ b];rfl,fun j=>by simp [World.frozen?,b],d⟩
def zbx (st:RSt):Nat × RSt :=
 if st.2≠0 then (0,st) else if (zcm st.1).2.2≠0 then (0,(st.1,(zcm st.1).2.2)) else ((zcm st.1).1,(st.1.drop (zcm st.1).2.1,0))
def zaV (st:RSt):List UInt8 × RSt :=
 if (zbx st).2.2≠0 then ([],(zbx st).2) else if (zbx st).2.1.length<(zbx st).1 then ([],((zbx st).2.1,10)) else ((zbx st).2.1.take (zbx st).1,((zbx st).2.1.drop (zbx st).1,0))
theorem err_any (g:Nat) (st:RSt) (w:World) (h:IsR w g st) :
 Calls Tryz.prog 54 #[.pointer (some ⟨g,0,none⟩)] w fun e w'=>e = .returned (.int .i64 st.2)∧w=w':=by
 obtain ⟨A,n,c,b,d,f,j⟩:=h.cells;go_enter Tryz.func54,Tryz.ntmps54
 go_wp2
 go_ret
 exact ⟨rfl,rfl⟩
theorem zrc {l:List UInt8} {x k f:Nat} (h:zcm l=(x,k,f)):(f=0→1≤k∧k≤l.length∧k≤9)∧x<2 ^ 64∧(f≠0→x=0∧k=0):=by
 cases l with
 | nil=>simp [zcm] at h;omega
 | cons b r =>
  simp only [zcm] at h;split at h
  · simp at h;omega
  · split at h
    · simp at h;omega
    · split at h
      · simp at h;omega
      · simp only [Prod.mk.injEq] at h;obtain ⟨rfl,rfl,rfl⟩:=h;refine ⟨fun _=>⟨by omega,by simp;omega,by omega⟩,?_,fun h=>absurd rfl h⟩;exact yaw (val_lt _) (yax (Nat.pow_le_pow_right (n:=256) yab (show (r.take b.toNat).length≤8 by have:=ycJ b.toNat r;omega)) yab)
theorem num_any (g:Nat) (st:RSt) (w:World) (h:IsR w g st) :
 Calls Tryz.prog 92 #[.pointer (some ⟨g,0,none⟩)] w fun e w'=>e = .returned (.int .u64 (zbx st).1)∧IsR w' g (zbx st).2∧w.grownBy w' (some g):=by
 have C:=h.lt;obtain ⟨l,x⟩:=st;by_cases y:x=0
 · subst y;obtain ⟨q,k,f,m⟩:∃q k f,zcm l=(q,k,f):=⟨_,_,_,rfl⟩;have s:zfM l = .tuple #[.int .u64 q,.int .i64 k,.int .i64 f]:=by rw [zfM,m]
   obtain ⟨A,n,c,L,M,N,o⟩:=h.cells;have D:n=l.length:=o.lenB;subst D;have u:=Lib.hid o;have H:=Lib.hid h;have z:=o.cap;have B:c≤9223372036854775807:=by have:=o.capm;unfold maxLen at this;omega
   by_cases d:f=0
   · subst d;obtain ⟨⟨F,p,G⟩,I,_⟩:=And.imp_left (fun h=>h rfl) (zrc m);have b:zbx (l,0)=(q,(l.drop k,0)):=by simp [zbx,m]
     have E:=Lib.hid b;have T:=Lib.hid s;clear b s m o h I;go_enter Tryz.func92,Tryz.ntmps92
     go_wp2_with fail
     refine (err_any g _ _ H.out).mono ?_;rintro e w' ⟨rfl,rfl⟩;go_wp2_with fail
     refine (take_any g A _ c l w u.out).mono ?_;rintro e w' ⟨rfl,rfl⟩;rw [T.out];go_wp2
     · have j:c=k:=by assumption
       go_ret
       rw [E.out];exact ⟨rfl,H.out.set0 A _ _ (l.drop k) (by rw [←ziK];exact u.out.cutE p j),zcz (World.grownBy.refl _ _) _ _⟩
     · have j:¬c=k:=by assumption
       go_ret
       rw [E.out];exact ⟨rfl,H.out.set0 _ _ _ (l.drop k) (by rw [←ziK];exact u.out.cutN p j),zcz (World.grownBy.refl _ _) _ _⟩
   · have J:((f:Int) != 0)=true:=by simp [d]
     have b:zbx (l,0)=(0,(l,f)):=by simp [zbx,m,d]
     have E:=Lib.hid b;have T:=Lib.hid s;clear b s m o h;go_enter Tryz.func92,Tryz.ntmps92
     go_wp2_with fail
     refine (err_any g _ _ H.out).mono ?_;rintro e w' ⟨rfl,rfl⟩;go_wp2_with fail
     refine (take_any g A _ c l w u.out).mono ?_;rintro e w' ⟨rfl,rfl⟩;rw [T.out];go_wp2
     go_ret
     rw [E.out];exact ⟨rfl,H.out.set1 f,zcz (World.grownBy.refl _ _) _ _⟩
 · have K:((x:Int) != 0)=true:=by simp [y]
   have b:zbx (l,x)=(0,(l,x)):=by simp [zbx,y]
   have E:=Lib.hid b;clear b;go_enter Tryz.func92,Tryz.ntmps92
   go_wp2_with fail
   refine (err_any g _ _ h).mono ?_;rintro e w' ⟨rfl,rfl⟩;go_wp2
   go_ret
   rw [E.out];exact ⟨rfl,h,World.grownBy.refl _ _⟩
theorem text_any (g:Nat) (st:RSt) (w:World) (h:IsR w g st) :
 Calls Tryz.prog 94 #[.pointer (some ⟨g,0,none⟩)] w fun e w'=>e = .returned (.string (strOf (zaV st).1))∧IsR w' g (zaV st).2∧w.grownBy w' (some g):=by
 obtain ⟨q,⟨l,x⟩,j⟩:∃q p,zbx st=(q,p):=⟨_,_,rfl⟩;have s:=Lib.hid j;by_cases u:x=0
 · subst u;by_cases C:l.length<q
   · have E:Hid (zaV st=([],(l,10))):=Lib.hid (by simp [zaV,j,C]);clear j;go_enter Tryz.func94,Tryz.ntmps94
     go_wp2_with fail
     refine (num_any g _ _ h).mono ?_;rintro e w1 ⟨rfl,b,d⟩;rw [s.out] at b ⊢;have H:=Lib.hid b;have G:=Lib.hid d;obtain ⟨A,n,c,I,J,K,f⟩:=b.cells;have y:n=l.length:=f.lenB;subst y;clear b d;have o:l.length≤9223372036854775807:=by have:=f.capm;have:=f.cap;unfold maxLen at *;omega
     have z:=Lib.hid f;clear f;go_wp2_with fail
     refine (err_any g _ _ H.out).mono ?_;rintro e w' ⟨rfl,rfl⟩;go_wp2
     go_ret
     rw [E.out];exact ⟨rfl,H.out.set1 10,zcz G.out _ _⟩
   · have E:Hid (zaV st=(l.take q,(l.drop q,0))):=Lib.hid (by simp [zaV,j,C]);clear j;go_enter Tryz.func94,Tryz.ntmps94
     go_wp2_with fail
     refine (num_any g _ _ h).mono ?_;rintro e w1 ⟨rfl,b,d⟩;rw [s.out] at b ⊢;have H:=Lib.hid b;have G:=Lib.hid d;obtain ⟨A,n,c,I,J,K,f⟩:=b.cells;have y:n=l.length:=f.lenB;subst y;clear b d;have o:l.length≤9223372036854775807:=by have:=f.capm;have:=f.cap;unfold maxLen at *;omega
     have D:=f.cap;have F:c≤9223372036854775807:=by have:=f.capm;unfold maxLen at this;omega
     have k:q≤l.length:=by omega
     have z:=Lib.hid f;have L:(convert 24 9 (.slice A q c)).run Tryz.prog w1 = .ok (.string (strOf (l.take q))) w1 :=
      Rd.conv (B:=g) (by have:=f.pre k;rwa [ycA,bv_take] at this) 24 9 5 Tryz.underlying24 Tryz.underlying5 Tryz.underlying9
     clear f;go_wp2_with fail
     refine (err_any g _ _ H.out).mono ?_;rintro e w' ⟨rfl,rfl⟩;go_wp2
     · have m:c=q:=by assumption
       go_ret
       rw [E.out];exact ⟨rfl,H.out.set0 A _ _ (l.drop q) (by rw [←ziK];exact z.out.cutE k m),zcz G.out _ _⟩
     · have m:¬c=q:=by assumption
       go_ret
       rw [E.out];exact ⟨rfl,H.out.set0 _ _ _ (l.drop q) (by rw [←ziK];exact z.out.cutN k m),zcz G.out _ _⟩
 · have M:((x:Int) != 0)=true:=by simp [u]
   have E:Hid (zaV st=([],(l,x))):=Lib.hid (by simp [zaV,j,u]);clear j;go_enter Tryz.func94,Tryz.ntmps94
   go_wp2_with fail
   refine (num_any g _ _ h).mono ?_;rintro e w1 ⟨rfl,b,d⟩;rw [s.out] at b ⊢;have G:=Lib.hid d;clear d;go_wp2_with fail
   refine (err_any g _ _ b).mono ?_;rintro e w' ⟨rfl,rfl⟩;go_wp2
   go_ret
   rw [E.out];exact ⟨rfl,b,G.out⟩
end
end Go.Proofs.YtmblgnddgmfkhaaGreat
