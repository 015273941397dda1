import Derived.Test.YtmblgnddgmfkhaaGreatK35
set_option maxRecDepth 100000
set_option maxHeartbeats 4000000
namespace Go.Proofs.YtmblgnddgmfkhaaGreat
section
open Go.RowKit
def zc4 (us:List Int):List UInt8:=us.flatMap fun u=>num u.toNat
theorem zrc (us:List Int) (k:Nat) (u:Int) (h:us[k]? = some u):zc4 (us.take (k + 1))=zc4 (us.take k) ++ num u.toNat:=by
 obtain ⟨b,f⟩:=yap.1 h;rw [zc4,ybI b,ya0,f];simp [zc4]
theorem nums_le (us:List Int) (h:∀u ∈ us,0≤u∧u<2 ^ 64):(zc4 us).length≤9 * us.length:=by
 induction us with
 | nil=>simp [zc4]
 | cons u r ih =>
  have b:=ih fun x f=>h x (yau _ f);have g:=h u (yar ..);have j:=zi6 (n:=u.toNat) yab;simp only [zc4,yaS,yam,zb4,yat] at b ⊢;omega
theorem zk4 (us:List Int) (h:∀u ∈ us,0≤u∧u<2 ^ 64) (k:Nat):(zc4 (us.take k)).length≤9 * k:=by
 have:=nums_le (us.take k) fun u b=>h u (ybW b);have f:(us.take k).length≤k:=ycP _ _;omega
theorem Rd.getInt {w:World} {B n c:Nat} {A:Option Addr} {kd:IntKind} {us:List Int} (h:Rd w B 1 A n c (us.map (Value.int kd))) {k:Nat} (hk:k<n) :
 ∃b o u,A=some ⟨b,o,none⟩∧b<B∧us[k]? = some u∧w.cell? ⟨b,o + k,none⟩=some (.int kd u):=by
 obtain ⟨b,o,v,e,hb,f,j⟩:=h.get hk;rw [yaY] at f;cases g:us[k]? with
 | none=>rw [g] at f;cases f
 | some u=>rw [g] at f;simp at f;subst f;exact ⟨b,o,u,e,hb,rfl,j⟩
theorem put_any1 (A:Option Addr) (n c:Nat) (us:List Int) (w:World) (hr:Rd w w.heap.size 1 A n c (us.map (Value.int .u64))) (hu:∀u ∈ us,0≤u∧u<2 ^ 64) (hn:n≤1000000000) :
 Calls Tryz.prog 47 #[.slice A n c] w fun e w'=>∃v',e = .returned v'∧w'.ownsRow w.heap.size 5 1 v' (zc4 us).length (bv (zc4 us))∧Below w.heap.size w w':=by
 have z:=Lib.hid hr;have B:=Lib.hid hu;clear hr hu;go_enter Tryz.func47,Tryz.ntmps47
 go_wp2
 go_loopw [3,8] (fun v i wr=>∃k:Nat,k≤n∧i = .int .i64 k∧wr.ownsRow w.heap.size 5 1 v (zc4 (us.take k)).length (bv (zc4 (us.take k)))∧Below w.heap.size w wr) (fun _ i _=>n-(intOf i).toNat)
 case atStart=>exact ⟨0,yao _,rfl,World.ownsRow_nil _ _ _ _,Below.refl _ _⟩
 case round =>
  obtain ⟨k,hk,rfl,f,hb⟩:=hrel;have C:=Lib.hid f;have q:=Lib.hid hb;have s:=hb.size;clear f hb;by_cases x:k<n
  · obtain ⟨b,o,u,rfl,_,D,F⟩:=(z.out.below q.out).getInt x;have E:=Lib.hid D;clear D;have j:=B.out u (yaq E.out);have m:=Lib.hid j;clear j;go_wp2_with fail
    refine (addNumber_any w.heap.size _ _ _ u m.out.1 m.out.2 wr C.out s (by have:=zk4 us B.out k;omega)).mono ?_;rintro e w' ⟨v',rfl,g,y⟩;go_wp2
    refine ⟨⟨k + 1,by omega,by go_num,?_,q.out.trans y⟩,by simp [intOf];omega⟩;rw [zrc us k u E.out,za6,yam,zb4];exact g
  · have e:k=n:=by omega
    subst e;go_wp2
    go_ret
    have h:=C.out;rw [ybl (by have:=z.out.len;simp at this;omega)] at h;exact ⟨_,rfl,h,q.out⟩
def text (s:ByteArray):List UInt8:=num s.size ++ s.data.toList
def texts (ss:List ByteArray):List UInt8:=ss.flatMap text
theorem size_eq (s:ByteArray):s.data.toList.length=s.size:=by rw [ybo];rfl
theorem zdF (s:ByteArray):(text s).length=nb s.size + 1 + s.size:=by simp [text,zb4]
theorem zpk (ss:List ByteArray) (k:Nat) (s:ByteArray) (h:ss[k]? = some s):texts (ss.take (k + 1))=texts (ss.take k) ++ text s:=by
 obtain ⟨b,f⟩:=yap.1 h;rw [texts,ybI b,ya0,f];simp [texts]
theorem zj7 (ss:List ByteArray) (k:Nat):(texts (ss.take k)).length≤(texts ss).length:=by
 have:texts ss=texts (ss.take k) ++ texts (ss.drop k):=by rw [texts,texts,texts,←ya0,ybk]
 rw [this,yam];omega
theorem Rd.getStr {w:World} {B n c:Nat} {A:Option Addr} {ss:List ByteArray} (h:Rd w B 1 A n c (ss.map Value.string)) {k:Nat} (hk:k<n) :
 ∃b o s,A=some ⟨b,o,none⟩∧b<B∧ss[k]? = some s∧w.cell? ⟨b,o + k,none⟩=some (.string s):=by
 obtain ⟨b,o,v,e,hb,f,j⟩:=h.get hk;rw [yaY] at f;cases g:ss[k]? with
 | none=>rw [g] at f;cases f
 | some u=>rw [g] at f;simp at f;subst f;exact ⟨b,o,u,e,hb,rfl,j⟩
theorem zko (s:ByteArray):byteCells s=bv s.data.toList:=rfl
theorem addTexts_any (B:Nat) (v:Value) (m:Nat) (xs:List Value) (A:Option Addr) (n c:Nat) (ss:List ByteArray) (w:World) (hown:w.ownsRow B 5 1 v m xs) (hB:B≤w.heap.size)
 (hr:Rd w B 1 A n c (ss.map Value.string)) (hm:m + (texts ss).length≤100000000000) :
 Calls Tryz.prog 88 #[v,.slice A n c] w fun e w'=>∃v',e = .returned v'∧w'.ownsRow B 5 1 v' (m + (texts ss).length) (xs ++ bv (texts ss))∧Below B w w':=by
 obtain ⟨U,hi,E,F,G⟩:=info_parts zjD;have O:=Lib.hid hr;have y:=Lib.hid hown;have P:n≤9223372036854775807:=by have:=hr.capm;have:=hr.cap;unfold maxLen at *;omega
 clear hr hown;go_enter Tryz.func88,Tryz.ntmps88
 go_wp2
 go_loopw [0,9] (fun u i wr=>∃k:Nat,k≤n∧i = .int .i64 k∧wr.ownsRow B 5 1 u (m + (texts (ss.take k)).length) (xs ++ bv (texts (ss.take k)))∧Below B w wr) (fun _ i _=>n-(intOf i).toNat)
 case atStart=>exact ⟨0,yao _,rfl,by simpa [texts,bv] using y.out,Below.refl _ _⟩
 case round =>
  obtain ⟨k,hk,rfl,f,hb⟩:=hrel;have Q:=Lib.hid f;have H:=Lib.hid hb;have V:=hb.size;clear f hb;by_cases I:k<n
  · obtain ⟨b,o,s,rfl,_,J,hc⟩:=(O.out.below H.out).getStr I;have Hx:=Lib.hid J;have z:m + (texts (ss.take (k + 1))).length≤100000000000:=by have:=zj7 ss (k + 1);omega
    have j:=zpk ss k s J;rw [j,yam,zdF] at z;have C:=Lib.hid j;clear J j;obtain ⟨q,K⟩:∃q,q=(texts (ss.take k)).length:=⟨_,rfl⟩;rw [←K] at z;have L:=Lib.hid K;clear K;have X:s.size≤100000000000:=by omega
    go_wp2_with fail
    refine (addNumber_any B _ _ _ s.size yab yab wr Q.out yab (by have:=L.out;omega)).mono ?_;rintro e w1 ⟨Y,rfl,g,D⟩;have R:=D.size;go_wp2_with (at_builtin;go_must (refine zab _ rfl (.tmp 18) (.tmp 19) 24 9 rfl B 5 U (.int .u8 0) 1 1 Tryz.underlying24 hi E F G rfl yac Y _ _ rfl g _ s.size (byteCells s) rfl (Src.ofString _ Tryz.underlying9 s) (by have:=L.out;simp only [maxLen,ybn];omega) (by have:=L.out;simp only [ybn];omega) yab ?_);intro v2 w2 x M T)
    have N:Below B w w2:=zae (H.out.trans D) M g yab (yaj _);refine ⟨⟨k + 1,by omega,by go_num,?_,N⟩,by simp [intOf];omega⟩;have Z:xs ++ bv (texts (ss.take (k + 1)))=xs ++ bv (texts (ss.take k)) ++ bv (num s.size) ++ byteCells s:=by
     rw [C.out,zko];simp [za6,text]
    have e2:m + (texts (ss.take (k + 1))).length=m + (texts (ss.take k)).length + (nb s.size + 1) + s.size:=by
     rw [C.out,yam,zdF];omega
    rw [Z,e2];exact x
  · have e:k=n:=by omega
    subst e;go_wp2
    go_ret
    have h:=Q.out;rw [ybl (by have:=O.out.len;simp at this;omega)] at h;exact ⟨_,rfl,h,H.out⟩
theorem texts_any (A:Option Addr) (n c:Nat) (ss:List ByteArray) (w:World) (hr:Rd w w.heap.size 1 A n c (ss.map Value.string)) (hm:(texts ss).length≤100000000000) :
 Calls Tryz.prog 48 #[.slice A n c] w fun e w'=>∃v',e = .returned v'∧w'.ownsRow w.heap.size 5 1 v' (texts ss).length (bv (texts ss))∧Below w.heap.size w w':=by
 have g:=Lib.hid hr;clear hr;go_enter Tryz.func48,Tryz.ntmps48
 go_wp2_with fail
 refine (addTexts_any w.heap.size _ 0 [] A n c ss w (World.ownsRow_nil _ _ _ _) (yaj _) g.out yab).mono ?_;rintro e j ⟨k,rfl,b,f⟩;rw [yaI,ya6] at b;go_wp2
 go_ret
 exact ⟨_,rfl,b,f⟩
theorem lists_any (A:Option Addr) (n c:Nat) (ss:List ByteArray) (w:World) (hr:Rd w w.heap.size 1 A n c (ss.map Value.string)) (hm:(texts ss).length≤10000000000) (hn:n≤10000000000) :
 Calls Tryz.prog 49 #[.slice A n c] w fun e w'=>∃v',e = .returned v'∧w'.ownsRow w.heap.size 5 1 v' (num n ++ texts ss).length (bv (num n ++ texts ss))∧Below w.heap.size w w':=by
 have x:=Lib.hid hr;clear hr;go_enter Tryz.func49,Tryz.ntmps49
 have o:n≤9223372036854775807:=by omega
 go_wp2_with fail
 refine (put_any1 _ 1 1 [(n:Int)] _ (by simpa using Rd.lit w #[.int .u64 n] _ 1 1 rfl (by simp [maxLen])) (fun u q=>by simp at q;subst q;omega) yab).mono ?_;rintro e y ⟨B,rfl,b,f⟩;have s:zc4 [(n:Int)]=num n:=by simp [zc4]
 rw [s] at b;simp only [World.size_alloc] at b f;have z:=Lib.hid b;have g:=f.size;simp only [World.size_alloc] at g;have k:=Lib.hid f;clear b s f;go_wp2_with fail
 refine (addTexts_any (w.heap.size + 1) _ _ _ A n c ss y z.out g (((x.out.alloc (yaj _) _).more (ybd _)).below k.out) (by have:=zi6 (n:=n) yab;rw [zb4];omega)).mono ?_;rintro e C ⟨D,rfl,j,m⟩;go_wp2
 go_ret
 refine ⟨_,rfl,?_,((Below.refl _ _).alloc (yaj _) _).trans ((k.out.trans m).mono yab)⟩;rw [za6,yam];exact zaA j yab
end
section
open Go.RowKit
def c15:Cd:=⟨num,text,fun n=>n<2 ^ 64,fun t=>t.size<2 ^ 63⟩
def pakL (b1 b2 b3:ByteArray) (sc:Bool) (tx:ByteArray) (l:List ByteArray):List UInt8:=text b1 ++ (text b2 ++ (text b3 ++ (if sc=true then num 1 ++ text tx else num 0 ++ (num l.length ++ texts l))))
theorem znO {τ:Type} (v:Rv τ Nd15):zfS c15 v=text v.by_.1 ++ (text v.by_.2.1 ++ (text v.by_.2.2 ++ (if v.schema=true then num 1 ++ text v.text else num 0 ++ (num v.wrote.length ++ texts v.wrote)))):=rfl
theorem zrv (v:Rv Tb Nd15):zfS c15 v=pakL v.by_.1 v.by_.2.1 v.by_.2.2 v.schema v.text v.wrote:=rfl
theorem zcp {n:Nat} (h:n<2 ^ 64):(num n).length≤9:=by
 have:=zi6 (n:=n) yab;rw [zb4];omega
theorem zem {s:ByteArray} (h:s.size<2 ^ 64):(text s).length≤s.size + 9:=by
 have:=zi6 (n:=s.size) yab;rw [zdF];omega
theorem zfN:∀{l:List ByteArray} {n:Nat},n<2 ^ 63→(∀x ∈ l,x.size≤n)→(texts l).length≤l.length * (n + 9)
 | [],_,_,_=>by simp [texts]
 | x::l,n,b,h=>by
  have g:=h x yar;have j:=zem (s:=x) yab;have k:=zfN (l:=l) b fun y f=>h y (yau _ f);have:texts (x::l)=text x ++ texts l:=rfl;rw [this,yam,yat,ycz];omega
structure SzV (v:Rv Tb Nd15):Prop where
 text:v.text.size≤2048
 by1:v.by_.1.size≤1000000
 by2:v.by_.2.1.size≤1000000
 by3:v.by_.2.2.size≤1000000
 few:v.wrote.length≤16
 each:∀k ∈ v.wrote,k.size≤100000
def SzB (s:Sto Tb Nd15):Prop:=∀v ∈ s.L,SzV v
theorem SzV.wrote {v:Rv Tb Nd15} (h:SzV v):(texts v.wrote).length≤1600144:=yay (zfN (n:=100000) yac h.each) (yay (ybm _ h.few) yac)
theorem SzV.recLe {v:Rv Tb Nd15} (h:SzV v):(zfS c15 v).length≤5000000:=by
 rw [zrv];unfold pakL;have b:=zem (s:=v.by_.1) (by have:=h.by1;omega);have f:=zem (s:=v.by_.2.1) (by have:=h.by2;omega);have g:=zem (s:=v.by_.2.2) (by have:=h.by3;omega);have j:=zem (s:=v.text) (by have:=h.text;omega);have k:=h.wrote;have m:=zcp (n:=v.wrote.length) (by have:=h.few;omega);have o:=zcp (n:=0) yac;have q:=zcp (n:=1) yac;have:=h.by1;have:=h.by2;have:=h.by3;have:=h.text;rw [yam,yam,yam];split
 · rw [yam];omega
 · rw [yam,yam];omega
theorem zmA:∀{l:List Rm},(∀x ∈ l,SzV x.v)→(l.flatMap fun x=>zfS c15 x.v).length≤l.length * 5000000
 | [],_=>by simp
 | x::l,h=>by
  have f:=(h x yar).recLe;have g:=zmA (l:=l) fun y b=>h y (yau _ b);rw [yaS,yam,yat,ycz];omega
section
variable {S:SpW} {f:CoF} {X Y F F':Nat→Prop} {w w':World} {g:Nat} {s:Sto Tb Nd15} {L:List Sp} {last:Int} {m:Mm}
theorem packed_raw (r0:Int) (b1 b2 b3:ByteArray) (sc:Bool) {Ak:Option Addr} {ck:Nat} {l:List ByteArray} (tx:ByteArray) (Ay:Option Addr) (ny cy:Nat) (mb:Option Nat) (Ar:Option Addr) (nr cr:Nat) (h:Rd w w.heap.size 1 Ak l.length ck (ks l)) (h1:b1.size≤1000000) (h2:b2.size≤1000000) (h3:b3.size≤1000000) (h4:tx.size≤10000000) (h5:(texts l).length≤100000000) (h6:l.length≤100000000) :
 Calls Tryz.prog 51 #[.agg #[.int .i64 r0,.string b1,.string b2,.string b3,.bool sc,.slice Ak l.length ck,.string tx,.slice Ay ny cy,.map mb,.slice Ar nr cr]] w fun e w'=>(∃v',e = .returned v'∧w'.ownsRow w.heap.size 5 1 v' (pakL b1 b2 b3 sc tx l).length (bv (pakL b1 b2 b3 sc tx l)))∧Below w.heap.size w w':=by
 obtain ⟨i0,Q,R,V,X⟩:=info_parts zjD;have O:=Rk.new w #[.int .i64 r0,.string b1,.string b2,.string b3,.bool sc,.slice Ak l.length ck,.string tx,.slice Ay ny cy,.map mb,.slice Ar nr cr] 100;have a6:=zaI w (.cells #[.int .i64 r0,.string b1,.string b2,.string b3,.bool sc,.slice Ak l.length ck,.string tx,.slice Ay ny cy,.map mb,.slice Ar nr cr] 100);have ac:∀z,pakL b1 b2 b3 sc tx l=z→z=texts [b1,b2,b3] ++ (if sc=true then num 1 ++ texts [tx] else num 0 ++ (num l.length ++ texts l)):=fun z e=>by
  rw [←e];unfold pakL texts;simp
 obtain ⟨Z,hZ⟩:∃Z,pakL b1 b2 b3 sc tx l=Z:=⟨_,rfl⟩;have k:=ac Z hZ;rw [hZ];clear ac hZ;go_enter Tryz.func51,Tryz.ntmps51
 go_upto_region 1 with (fail)
 obtain ⟨x0,x1,x2,x3⟩:_∧_∧_∧_:=⟨O.cell 0,O.cell 1,O.cell 2,O.cell 3⟩;have xl:=O.lt;generalize w.alloc (.cells #[.int .i64 r0,.string b1,.string b2,.string b3,.bool sc,.slice Ak l.length ck,.string tx,.slice Ay ny cy,.map mb,.slice Ar nr cr] 100)=w1 at *
 go_upto_region 2 with (fail)
 have hy:=Rk.new w1 #[.string b1,.string b2,.string b3] 31;have G:=zac a6 a6.size (zaI w1 (.cells #[.string b1,.string b2,.string b3] 31));have H:=O.alloc (.cells #[.string b1,.string b2,.string b3] 31);clear O a6 x0 x1 x2 x3 xl;have ai:=h.up G;generalize w1.alloc (.cells #[.string b1,.string b2,.string b3] 31)=P at *
 generalize w1.heap.size=gy at *
 obtain ⟨y0,y1,y2⟩:=hy.c3y;have yl:=hy.lt;have xl:=H.lt;have ad:(texts [b1,b2,b3]).length≤3 * (1000000 + 9):=zfN yac (fun x O=>by simp at O;rcases O with rfl | rfl | rfl <;> assumption);have kt:=texts_any (some ⟨P.heap.size,0,none⟩) 3 3 [b1,b2,b3] (P.alloc (.cells #[.string b1,.string b2,.string b3] 9)) (Rd.litX P _ 9 3 1 _ rfl rfl (by simp [maxLen])) yab;obtain ⟨T,hT⟩:∃T,texts [b1,b2,b3]=T:=⟨_,rfl⟩;rw [hT] at kt ad k;clear hT h;replace k:=Lib.hid k;obtain ⟨n,hn⟩:∃n,T.length=n:=⟨_,rfl⟩;rw [hn] at kt ad;replace hn:=Lib.hid hn;go_upto_region 3 with (go_at_call 48;refine kt.mono ?_;rintro e w3 ⟨v3,rfl,y,ae⟩;obtain ⟨A3,c3,rfl,_⟩:=Rd.own y)
 have C:=zac (zaI P (.cells #[.string b1,.string b2,.string b3] 9)) yaf ae;replace y:=zaA y (show P.heap.size≤(P.alloc (.cells #[.string b1,.string b2,.string b3] 9)).heap.size by simp);have Y:=H.same (C.block _ H.lt);have x4:=Y.cell 4;have af:=Y.lt;clear kt ae y0 y1 y2 yl hy;cases sc with
 | true =>
  have kp:=put_any1 (some ⟨w3.heap.size,0,none⟩) 1 1 [1] (w3.alloc (.cells #[.int .u64 1] 103)) (Rd.litX w3 _ 103 1 1 _ rfl rfl (by simp [maxLen])) yaf yac;have e1:zc4 [1]=num 1:=by simp [zc4]
  rw [e1] at kp;have aj:=zcp (n:=1) yac;have m:=k.out;rw [yan rfl] at m;have m:=Lib.hid m;clear k;go_upto_region 4 with (fail)
  go_upto_region 5 with (first
   | (go_at_call 47;refine kp.mono ?_;rintro e w4 ⟨v4,rfl,I,J⟩;obtain ⟨A4,c4,rfl,K⟩:=Rd.own I;have o:=zac (zaI w3 (.cells #[.int .u64 1] 103)) yaf J;have q:=zau y fun j hj=>o.block j (y.lt j hj).2;have b:=zac C C.size o)
   | (at_builtin;go_must (refine zab _ rfl (.tmp 19) (.tmp 21) 24 24 rfl P.heap.size 5 i0 (.int .u8 0) 1 1 Tryz.underlying24 Q R V X rfl yac (.slice A3 n c3) n (bv T) rfl q _ _ _ rfl (Rd.src Tryz.underlying24 K (zgm _)) yad yab b.size ?_);intro v5 w5 A L M)
   | fail)
  have g:=zae b L q b.size (yaj _);obtain ⟨A5,c5,rfl,_⟩:=Rd.own A;have D:=H.same (g.block _ H.lt);have ak:=D.lt;obtain ⟨n2,B⟩:∃n2,n + (num 1).length=n2:=⟨_,rfl⟩;rw [B] at A ⊢;have ag:n2≤4000000:=by omega
  replace B:=Lib.hid B;clear kp y I q K J o b L M e1 x4 af Y;obtain ⟨x6,x7,x8,x9⟩:_∧_∧_∧_:=⟨D.cell 6,D.cell 7,D.cell 8,D.cell 9⟩;have a1:=zem (s:=tx) yab;have e7:texts [tx]=text tx:=by simp [texts]
  have N:=fun W=>texts_any (some ⟨W.heap.size,0,none⟩) 1 1 [tx] (W.alloc (.cells #[.string tx] 9)) (Rd.litX W _ 9 1 1 _ rfl rfl (by simp [maxLen])) (by rw [e7];omega);rw [←e7] at a1;obtain ⟨U,hU⟩:∃U,texts [tx]=U:=⟨_,rfl⟩;have f:=m.out;rw [hU] at a1 f;simp only [hU] at N;replace f:=Lib.hid f;clear hU e7 m;go_wp2_with (first
   | (go_at_call 27;refine (ttext_any (nr:=nr)).mono ?_;rintro e w6 ⟨rfl,a2⟩)
   | (go_at_call 48;refine (N w6).mono ?_;rintro e w7 ⟨v7,rfl,a7,al⟩;obtain ⟨A7,c7,rfl,a8⟩:=Rd.own a7;have E:=zac (zac a2 a2.size (zaI w6 (.cells #[.string tx] 9))) (zac a2 a2.size (zaI w6 (.cells #[.string tx] 9))).size al;have F:=zau A fun j hj=>E.block j (A.lt j hj).2;have u:=zac g g.size E)
   | (at_builtin;go_must (refine zab _ rfl (.tmp 23) (.tmp 28) 24 24 rfl P.heap.size 5 i0 (.int .u8 0) 1 1 Tryz.underlying24 Q R V X rfl yac (.slice A5 n2 c5) n2 _ rfl F _ _ _ rfl (Rd.src Tryz.underlying24 a8 (zgm _)) yad yab u.size ?_);intro v8 w8 aa ab ah)
   | fail)
  go_ret
  refine ⟨⟨v8,rfl,?_⟩,zac G G.size (zae u ab F u.size (yaj _))⟩;rw [f.out,←yaD,za6,za6,yam,yam,hn.out,B.out];exact zaA aa G.size
 | false =>
  have kp:=put_any1 (some ⟨w3.heap.size,0,none⟩) 1 1 [0] (w3.alloc (.cells #[.int .u64 0] 103)) (Rd.litX w3 _ 103 1 1 _ rfl rfl (by simp [maxLen])) yaf yac;have e1:zc4 [0]=num 0:=by simp [zc4]
  rw [e1] at kp;have aj:=zcp (n:=0) yac;have m:=k.out;rw [yak (by decide)] at m;have m:=Lib.hid m;clear k;go_upto_region 6 with (fail)
  go_upto_region 7 with (first
   | (go_at_call 47;refine kp.mono ?_;rintro e w4 ⟨v4,rfl,I,J⟩;obtain ⟨A4,c4,rfl,K⟩:=Rd.own I;have o:=zac (zaI w3 (.cells #[.int .u64 0] 103)) yaf J;have q:=zau y fun j hj=>o.block j (y.lt j hj).2;have b:=zac C C.size o)
   | (at_builtin;go_must (refine zab _ rfl (.tmp 30) (.tmp 32) 24 24 rfl P.heap.size 5 i0 (.int .u8 0) 1 1 Tryz.underlying24 Q R V X rfl yac (.slice A3 n c3) n (bv T) rfl q _ _ _ rfl (Rd.src Tryz.underlying24 K (zgm _)) yad yab b.size ?_);intro v5 w5 A L M)
   | fail)
  have g:=zae b L q b.size (yaj _);obtain ⟨A5,c5,rfl,_⟩:=Rd.own A;have D:=H.same (g.block _ H.lt);have ak:=D.lt;obtain ⟨n2,B⟩:∃n2,n + (num 0).length=n2:=⟨_,rfl⟩;rw [B] at A ⊢;have ag:n2≤4000000:=by omega
  replace B:=Lib.hid B;clear kp y I q K J o b L M e1 x4 af Y;have x5:=D.cell 5;have a1:(num l.length ++ texts l).length≤100000009:=by have:=zcp (n:=l.length) yab;rw [yam];omega
  have N:=lists_any Ak l.length ck l w5 (ai.up (g.mono (yaj _))) yab yab;obtain ⟨U,hU⟩:∃U,num l.length ++ texts l=U:=⟨_,rfl⟩;have f:=m.out;rw [hU] at a1 f N;replace f:=Lib.hid f;clear hU m;go_wp2_with (first
   | (go_at_call 49;refine N.mono ?_;rintro e w7 ⟨v7,rfl,a7,E⟩;obtain ⟨A7,c7,rfl,a8⟩:=Rd.own a7;have F:=zau A fun j hj=>E.block j (A.lt j hj).2;have u:=zac g g.size E)
   | (at_builtin;go_must (refine zab _ rfl (.tmp 34) (.tmp 38) 24 24 rfl P.heap.size 5 i0 (.int .u8 0) 1 1 Tryz.underlying24 Q R V X rfl yac (.slice A5 n2 c5) n2 _ rfl F _ _ _ rfl (Rd.src Tryz.underlying24 a8 (zgm _)) yad yab u.size ?_);intro v8 w8 aa ab ah)
   | fail)
  go_ret
  refine ⟨⟨v8,rfl,?_⟩,zac G G.size (zae u ab F u.size (yaj _))⟩;rw [f.out,←yaD,za6,za6,yam,yam,hn.out,B.out];exact zaA aa G.size
theorem znF (h:StR S X w F g s L last m):zbj c15 s=num s.floor.toNat ++ (num (revB s).toNat ++ (text m.t.tx ++ ((num (atB s s.floor).keys.length ++ texts (atB s s.floor).keys) ++ m.l.flatMap fun x=>zfS c15 x.v))):=by
 obtain ⟨u,b,j,n⟩:=h.head;have k:s.L[0]? = some u:=by rw [b];rfl
 have f:=zeU k;rw [Int.natCast_zero,Int.add_zero] at f;rw [f,←j];unfold zbj;rw [b];dsimp only;rw [List.flatMap_map];rfl
theorem pack_any (K:SpK S) (h:StM S f X w F g s L last m) (hz:SzB s) :
 Calls Tryz.prog 15 #[.pointer (some ⟨g,0,none⟩)] w fun e w'=>(∃v',e = .returned v'∧w'.ownsRow w.heap.size 5 1 v' (zbj c15 s).length (bv (zbj c15 s)))∧Below w.heap.size w w':=by
 obtain ⟨i0,ai,aj,ak,al⟩:=info_parts zjD;have G:=znF h.toStR;obtain ⟨au,bj⟩:=h.small s.floor;have bl:=zfN (n:=100000) yac au;have cn:=h.floor0;have cq:=h.most;have av:=h.rev_eq;have bm:=h.few;have ct:m.t.tx.size≤2048:=by
  obtain ⟨u,eL,e1,_⟩:=h.head;rw [←e1];exact (hz u (by rw [eL];exact yar)).text
 have aw:∀x ∈ m.l,SzV x.v:=fun x hx=>by
  obtain ⟨u,eL,_⟩:=h.head;exact hz x.v (by rw [eL];exact yau _ (ybi hx))
 obtain ⟨Z,hZ⟩:∃Z,zbj c15 s=Z:=⟨_,rfl⟩;rw [hZ] at G ⊢;replace G:=Lib.hid G;clear hZ;have k1:Calls Tryz.prog 18 #[.pointer (some ⟨g,0,none⟩)] w fun e w'=>e = .returned (.int .i64 s.floor)∧Below w.heap.size w w':=(zdv h.toStR).mono fun _ _ ⟨e,k⟩=>⟨e,by rw [k];exact Below.refl _ _⟩;have k2:=fun W (hb:Below w.heap.size w W)=>zc6 (h.up K hb).toStR;have cu:0≤revB s:=by omega
 have e1:zc4 [s.floor,revB s]=num s.floor.toNat ++ num (revB s).toNat:=by simp [zc4]
 have bn:=zcp (n:=s.floor.toNat) yab;have bo:=zcp (n:=(revB s).toNat) yab;obtain ⟨N,hN⟩:∃N,zc4 [s.floor,revB s]=N:=⟨_,rfl⟩;have bp:N.length≤18:=by rw [←hN,e1,yam];omega
 have kp:=fun W=>put_any1 (some ⟨W.heap.size,0,none⟩) 2 2 [s.floor,revB s] (W.alloc (.cells #[.int .u64 s.floor,.int .u64 (revB s)] 103)) (Rd.litX W _ 103 2 1 _ rfl rfl (by simp [maxLen])) (by
  intro u hu;simp at hu;rcases hu with rfl | rfl <;> omega) yac
 simp only [hN] at kp;have y:=fun W (hb:Below w.heap.size w W)=>(h.up K hb).cs;have lt:=fun W (hb:Below w.heap.size w W)=>(h.up K hb).box.lt;rw [hN] at e1;have ad:Hid (Z=N ++ (texts [m.t.tx] ++ ((num (atB s s.floor).keys.length ++ texts (atB s s.floor).keys) ++ m.l.flatMap fun x=>zfS c15 x.v))):=Lib.hid (by rw [G.out,e1];simp [texts]);have bq:(texts [m.t.tx]).length≤2057:=by
  have:texts [m.t.tx]=text m.t.tx:=by simp [texts]
  rw [this];exact yay (zem yab) yab
 have br:(num (atB s s.floor).keys.length ++ texts (atB s s.floor).keys).length≤9 + 50000 * 100009:=by
  have:=zcp (n:=(atB s s.floor).keys.length) yab;rw [yam];omega
 have kq:=fun W (hb:Below w.heap.size w W)=>keysAt_any K (h.up K hb) s.floor;have kl:=fun W A c (hR:Rd W W.heap.size 1 A (atB s s.floor).keys.length c (ks (atB s s.floor).keys))=>lists_any A (atB s s.floor).keys.length c (atB s s.floor).keys W hR yab yab;have am:=fun W=>texts_any (some ⟨W.heap.size,0,none⟩) 1 1 [m.t.tx] (W.alloc (.cells #[.string m.t.tx] 9)) (Rd.litX W _ 9 1 1 _ rfl rfl (by simp [maxLen])) yab;obtain ⟨U,hU⟩:∃U,texts [m.t.tx]=U:=⟨_,rfl⟩;obtain ⟨V,hV⟩:∃V,num (atB s s.floor).keys.length ++ texts (atB s s.floor).keys=V:=⟨_,rfl⟩;have z:=ad.out;rw [hU,hV] at z;rw [hU] at bq;rw [hV] at br;simp only [hU] at am;simp only [hV] at kl;replace z:=Lib.hid z;replace av:=Lib.hid av;clear G ad hU hV hN e1 bn bo bl;generalize (atB s s.floor).keys=ke at *
 obtain ⟨nk,an⟩:∃nk,ke.length=nk:=⟨_,rfl⟩;rw [an] at bj;simp only [an] at kq kl;clear an au;obtain ⟨c0,c1,c2,c3,c4,c5,c6,c7⟩:=y w (Below.refl _ _);have bs:=lt w (Below.refl _ _);obtain ⟨n,hn⟩:∃n,N.length=n:=⟨_,rfl⟩;rw [hn] at bp;simp only [hn] at kp;replace hn:=Lib.hid hn;go_enter Tryz.func15,Tryz.ntmps15
 go_upto_region 3 with (fail)
 go_upto_region 4 with (first
  | (go_at_call 18;refine k1.mono ?_;rintro e w1 ⟨rfl,a2⟩)
  | (go_at_call 17;refine (k2 _ a2).mono ?_;rintro e w2 ⟨rfl,ax⟩;have H:=zac a2 a2.size ax)
  | (go_at_call 47;refine (kp _).mono ?_;rintro e w3 ⟨v3,rfl,C,ay⟩;obtain ⟨A3,bu,rfl,_⟩:=Rd.own C)
  | fail)
 have I:=zac (H.alloc H.size (.cells #[.int .u64 s.floor,.int .u64 (revB s)] 103)) (zad H.size) ay;replace C:=zaA C (zad H.size);obtain ⟨d0,d1,d2,d3,d4,d5,d6,d7⟩:=y w3 I;have bw:=lt w3 I;clear k1 k2 kp a2 ax ay H c0 c1 c2 c3 c4 c5 c6 c7 bs;go_upto_region 5 with (first
  | (go_at_call 27;refine (ttext_any (nr:=m.t.K.length)).mono ?_;rintro e w4 ⟨rfl,J⟩)
  | (go_at_call 48;refine (am w4).mono ?_;rintro e w5 ⟨v5,rfl,az,b0⟩;obtain ⟨A5,cv,rfl,b1⟩:=Rd.own az;have M:=zac (zac J J.size (zaI w4 (.cells #[.string m.t.tx] 9))) (zac J J.size (zaI w4 (.cells #[.string m.t.tx] 9))).size b0;have O:=zau C fun j hj=>M.block j (C.lt j hj).2;have a6:=zac I I.size M)
  | (at_builtin;go_must (refine zab _ rfl (.tmp 16) (.tmp 23) 24 24 rfl w.heap.size 5 i0 (.int .u8 0) 1 1 Tryz.underlying24 ai aj ak al rfl yac (.slice A3 n bu) n _ rfl O _ _ _ rfl (Rd.src Tryz.underlying24 b1 (zgm _)) yad yab a6.size ?_);intro v6 w6 P b2 b3)
  | fail)
 have D:=zae a6 b2 O a6.size (yaj _);obtain ⟨A6,bx,rfl,_⟩:=Rd.own P;obtain ⟨n2,a7⟩:∃n2,n + U.length=n2:=⟨_,rfl⟩;rw [a7] at P ⊢;have cj:n2≤2075:=by omega
 replace a7:=Lib.hid a7;clear C az b1 J b0 M O a6 b2 b3 am d0 d1 d2 d3 d4 d5 d6 d7 bw I;obtain ⟨d0,d1,d2,d3,d4,d5,d6,d7⟩:=y w6 D;have bz:=lt w6 D;go_upto_region 6 with (first
  | (go_at_call 50;refine (kq w6 D).mono ?_;rintro e w7 ⟨⟨A7,c8,rfl,b4⟩,ao⟩)
  | (go_at_call 49;refine (kl w7 A7 c8 b4).mono ?_;rintro e w8 ⟨v8,rfl,b5,b6⟩;obtain ⟨A8,cw,rfl,b7⟩:=Rd.own b5;have Q:=zac ao ao.size b6;have R:=zau P fun j hj=>Q.block j (P.lt j hj).2;have a8:=zac D D.size Q)
  | (at_builtin;go_must (refine zab _ rfl (.tmp 25) (.tmp 32) 24 24 rfl w.heap.size 5 i0 (.int .u8 0) 1 1 Tryz.underlying24 ai aj ak al rfl yac (.slice A6 n2 bx) n2 _ rfl R _ _ _ rfl (Rd.src Tryz.underlying24 b7 (zgm _)) yad yab a8.size ?_);intro v9 w9 T b8 b9)
  | fail)
 have aa:=zae a8 b8 R a8.size (yaj _);obtain ⟨A9,cx,rfl,_⟩:=Rd.own T;obtain ⟨n3,ab⟩:∃n3,n2 + V.length=n3:=⟨_,rfl⟩;rw [ab] at T ⊢;have cl:n3≤6000000000:=by omega
 replace ab:=Lib.hid ab;clear P b5 b4 b7 ao b6 Q R a8 b8 b9 kq kl d0 d1 d2 d3 d4 d5 d6 d7 bz D;obtain ⟨d0,d1,d2,d3,d4,d5,d6,d7⟩:=y w9 aa;have c9:=lt w9 aa;obtain ⟨E,hT⟩:∃E:Nat→List UInt8,E=fun i=>(m.l.take i).flatMap fun x=>zfS c15 x.v:=⟨_,rfl⟩;have ca:E 0=[]:=by rw [hT];rfl
 have cb:∀(i:Nat) (x:Rm),m.l[i]? = some x→E (i + 1)=E i ++ zfS c15 x.v:=fun i x hx=>by
  rw [hT];dsimp only;rw [yaC,hx,yaO,ya0];simp
 have cc:∀i,i≤m.l.length→(E i).length≤315000000:=fun i hi=>by
  rw [hT];have h1:=zmA (l:=m.l.take i) fun x hx=>aw x (ybW hx);rw [yaN,ybT hi] at h1;exact yay h1 (yay (ybm _ (yay hi bm)) yac)
 have ce:Hid (Z=N ++ (U ++ (V ++ E m.l.length))):=Lib.hid (by rw [z.out,hT];dsimp only;rw [yaz]);clear hT z;obtain ⟨HH,hH⟩:∃HH,bv N ++ bv U ++ bv V=HH:=⟨_,rfl⟩;rw [hH] at T;replace hH:=Lib.hid hH;have bi:(m.l.length:Int)≤9223372036854775807:=by omega
 go_upto_region 7 with (fail)
 go_loopw [3,39] (fun vo vi wx=>∃i:Nat,vi = .int .i64 i∧i≤m.l.length∧wx.ownsRow w.heap.size 5 1 vo (n3 + (E i).length) (HH ++ bv (E i))∧Below w.heap.size w wx) (fun _ vi _=>m.l.length-(intOf vi).toNat)
 case atStart=>exact ⟨0,rfl,yao _,by rw [ca];simpa [bv] using T,aa⟩
 case round =>
  clear T aa d0 d1 d2 d3 d4 d5 d6 d7 c9;obtain ⟨i,rfl,hi,hO,hb⟩:=hrel;have cz:=cc i hi;obtain ⟨A5,c5,rfl,_⟩:=Rd.own hO;obtain ⟨n4,Y⟩:∃n4,n3 + (E i).length=n4:=⟨_,rfl⟩;rw [Y] at hO ⊢;have cm:n4≤6400000000:=by omega
  replace Y:=Lib.hid Y;by_cases cf:i<m.l.length
  · have di:(i:Int)<(m.l.length:Int):=by omega
    have d8:(0:Int)≤(i:Int):=by omega
    obtain ⟨x,hx⟩:∃x,m.l[i]? = some x:=⟨_,yal cf⟩;have aq:=yaq hx;have hs:=h.up K hb;obtain ⟨b,o,eA,d9,hc⟩:=hs.get hx;have q0:=hc 0 _ rfl;have q1:=hc 1 _ rfl;have q2:=hc 2 _ rfl;have q3:=hc 3 _ rfl;have q4:=hc 4 _ rfl;have q5:=hc 5 _ rfl;have q6:=hc 6 _ rfl;have q7:=hc 7 _ rfl;have q8:=hc 8 _ rfl;have q9:=hc 9 _ rfl;rw [ybH] at q0;have cg:=Lib.hid (cb i x hx);have B:=aw x aq;have ac:=hs.each x aq;have ba:zfS c15 x.v=pakL x.v.by_.1 x.v.by_.2.1 x.v.by_.2.2 x.v.schema x.t.tx x.v.wrote:=by rw [zrv,ac.text]
    have da:=B.recLe;have ar:=zaI wr (.cells #[.int .i64 x.rev,.string x.v.by_.1,.string x.v.by_.2.1,.string x.v.by_.2.2,.bool x.v.schema,.slice x.Ak x.v.wrote.length x.ck,.string x.t.tx,.slice x.t.Ay x.t.ty.length x.t.cy,.map x.t.mb,.slice x.t.Ar x.t.K.length x.t.cr] 100);have q:=Rk.new wr #[.int .i64 x.rev,.string x.v.by_.1,.string x.v.by_.2.1,.string x.v.by_.2.2,.bool x.v.schema,.slice x.Ak x.v.wrote.length x.ck,.string x.t.tx,.slice x.t.Ay x.t.ty.length x.t.cy,.map x.t.mb,.slice x.t.Ar x.t.K.length x.t.cr] 100;have bb:=ac.wrote _ (Stay.below ar);have bc:=packed_raw x.rev x.v.by_.1 x.v.by_.2.1 x.v.by_.2.2 x.v.schema x.t.tx x.t.Ay x.t.ty.length x.t.cy x.t.mb x.t.Ar x.t.K.length x.t.cr bb B.by1 B.by2 B.by3 (by rw [←ac.text];exact yay B.text yac) (yay B.wrote yac) (yay B.few yac);rw [←ba] at bc;generalize zfS c15 x.v=rc at *
    clear hc hs ac bb ba hx aq;go_upto_region 9 with (fail)
    generalize wr.alloc (.cells #[.int .i64 x.rev,.string x.v.by_.1,.string x.v.by_.2.1,.string x.v.by_.2.2,.bool x.v.schema,.slice x.Ak x.v.wrote.length x.ck,.string x.t.tx,.slice x.t.Ay x.t.ty.length x.t.cy,.map x.t.mb,.slice x.t.Ar x.t.K.length x.t.cr] 100)=db at *
    have p0:=q.cell 0;have p1:=q.cell 1;have p2:=q.cell 2;have p3:=q.cell 3;have p4:=q.cell 4;have p5:=q.cell 5;have p6:=q.cell 6;have p7:=q.cell 7;have p8:=q.cell 8;have p9:=q.cell 9;have pl:=q.lt;have ae:=zac hb hb.size ar;have af:=zau hO fun j hj=>ar.block j (hO.lt j hj).2;clear q0 q1 q2 q3 q4 q5 q6 q7 q8 q9 eA;go_wp2_with (first
     | (go_at_call 51;refine bc.mono ?_;rintro e dc ⟨⟨dd,rfl,bd⟩,ag⟩;obtain ⟨de,df,rfl,bf⟩:=Rd.own bd;have ah:=zau af fun j hj=>ag.block j (af.lt j hj).2;have a1:=zac ae ae.size ag)
     | (at_builtin;go_must (refine zab _ rfl (.tmp 43) (.tmp 45) 24 24 rfl w.heap.size 5 i0 (.int .u8 0) 1 1 Tryz.underlying24 ai aj ak al rfl yac (.slice A5 n4 c5) n4 _ rfl ah _ _ _ rfl (Rd.src Tryz.underlying24 bf (zgm _)) yad yab a1.size ?_);intro dg dh bg bh ch)
     | fail)
    exact ⟨⟨i + 1,by go_num,by omega,by rw [cg.out,yam,za6,←ya7,Y.out,←yaD];exact bg,zae a1 bh ah a1.size (yaj _)⟩,by simp [intOf];omega⟩
  · obtain rfl:i=m.l.length:=by omega
    have di:¬(((m.l.length:Nat):Int)<(m.l.length:Int)):=by omega
    go_wp2_with fail
    go_ret
    refine ⟨⟨_,rfl,?_⟩,hb⟩;have ci:=ce.out;rw [ci];have e1:(N ++ (U ++ (V ++ E m.l.length))).length=n4:=by
     have:=Y.out;have:=hn.out;have:=a7.out;have:=ab.out;simp only [yam];omega
    have e2:bv (N ++ (U ++ (V ++ E m.l.length)))=HH ++ bv (E m.l.length):=by rw [←hH.out,za6,za6,za6];simp only [yaD]
    rw [e1,e2];exact hO
end
end
section
open Go.RowKit
variable {w:World} {g:Nat}
def val (l:List UInt8):Nat:=l.foldl (fun a c=>a * 256 + c.toNat) 0
theorem zkb (l:List UInt8) (c:UInt8):val (l ++ [c])=val l * 256 + c.toNat:=by simp [val]
theorem val_nil:val []=0:=rfl
theorem val_lt (l:List UInt8):val l<256 ^ l.length:=by
 have key:∀(l:List UInt8) (a k:Nat),a<256 ^ k→l.foldl (fun a c=>a * 256 + c.toNat) a<256 ^ (k + l.length):=by
  intro l;induction l with
  | nil=>intro a k h;simpa using h
  | cons c r ih =>
   intro a k h;have:=ih (a * 256 + c.toNat) (k + 1) (by rw [Nat.pow_succ];have:=c.toNat_lt;omega);rw [ycd,yat,show k + (r.length + 1)=k + 1 + r.length from by omega];exact this
 have:=key l 0 0 yaf;rwa [yaI] at this
def zb6:List UInt8→Nat × Nat × Nat
 | []=>(0,0,10)
 | b::r=>if 8<b.toNat then (0,0,11) else if r.length<b.toNat then (0,0,10) else if 0<b.toNat∧r.head? = some 0 then (0,0,11) else (val (r.take b.toNat),b.toNat + 1,0)
def zgg (l:List UInt8):Value:=.tuple #[.int .u64 (zb6 l).1,.int .i64 (zb6 l).2.1,.int .i64 (zb6 l).2.2]
theorem Rd.getByte {B n c:Nat} {A:Option Addr} {l:List UInt8} (h:Rd w B 1 A n c (bv l)) {k:Nat} (hk:k<n) :
 ∃b o u,A=some ⟨b,o,none⟩∧b<B∧l[k]? = some u∧w.cell? ⟨b,o + k,none⟩=some (.int .u8 u.toNat):=by
 obtain ⟨b,o,v,e,hb,f,j⟩:=h.get hk;rw [bv_get] at f;cases g:l[k]? with
 | none=>rw [g] at f;cases f
 | some u=>rw [g] at f;simp at f;subst f;exact ⟨b,o,u,e,hb,rfl,j⟩
theorem or_byte (q:Nat) (y:UInt8) (hq:q<256 ^ 7):bits .or .u64 ((q:Int) * 256) (y.toNat:Int)=((q * 256 + y.toNat:Nat):Int):=by
 have b:=y.toNat_lt;have h:=u64_or_nat (q * 256) y.toNat yab yab;rw [Nat.mul_comm q 256,show 256=2 ^ 8 from rfl,←Nat.two_pow_add_eq_or_of_lt b] at h;rw [show ((q:Int) * 256)=((2 ^ 8 * q:Nat):Int) from by rw [Nat.mul_comm];simp,h,Nat.mul_comm q 256]
theorem val_take (r:List UInt8) (j:Nat) (y:UInt8) (h:r[j]? = some y):val (r.take (j + 1))=val (r.take j) * 256 + y.toNat:=by
 obtain ⟨b,f⟩:=yap.1 h;rw [ybI b,zkb,f]
theorem take_any (B:Nat) (A:Option Addr) (n c:Nat) (l:List UInt8) (w:World) (hr:Rd w B 1 A n c (bv l)) :
 Calls Tryz.prog 140 #[.slice A n c] w fun e w'=>e = .returned (zgg l)∧w=w':=by
 have o:=Lib.hid hr;have J:n≤9223372036854775807:=by have:=hr.capm;have:=hr.cap;unfold maxLen at *;omega
 have f:l.length=n:=by have:=hr.len;rw [zg8] at this;omega
 clear hr;match l,f,o with
 | [],f,o =>
  simp at f;subst f;go_enter Tryz.func140,Tryz.ntmps140
  go_wp2
  go_ret3
  exact ⟨rfl,rfl⟩
 | b::r,f,o =>
  have F:0<n:=by simp at f;omega
  obtain ⟨Q,R,u,rfl,_,K,L⟩:=o.out.getByte F;simp at K;subst K;have T:w.cell? ⟨Q,R,none⟩=some (Value.int .u8 b.toNat):=by simpa using L
  have U:(b.toNat:Int)<256:=by have:=b.toNat_lt;omega
  have G:n=r.length + 1:=by simpa using f.symm
  subst G;clear f L;by_cases C:8<b.toNat
  · have e:zgg (b::r) = .tuple #[.int .u64 0,.int .i64 0,.int .i64 11]:=by simp [zgg,zb6,C]
    have E:=Lib.hid e;clear e;go_enter Tryz.func140,Tryz.ntmps140
    go_wp2
    go_ret3
    exact ⟨by rw [E.out];rfl,rfl⟩
  · by_cases H:r.length<b.toNat
    · have e:zgg (b::r) = .tuple #[.int .u64 0,.int .i64 0,.int .i64 10]:=by simp [zgg,zb6,C,H]
      have E:=Lib.hid e;clear e;go_enter Tryz.func140,Tryz.ntmps140
      go_wp2
      go_ret3
      exact ⟨by rw [E.out];rfl,rfl⟩
    · by_cases M:0<b.toNat
      · obtain ⟨V,X,u,N,_,g,Y⟩:=o.out.getByte (k:=1) yab;simp at N;obtain ⟨rfl,rfl⟩:=N;have D:r.head? = some u:=by rw [List.head?_eq_getElem?];simpa using g
        have Z:=Lib.hid g;by_cases s:u=0
        · have e:zgg (b::r) = .tuple #[.int .u64 0,.int .i64 0,.int .i64 11]:=by simp [zgg,zb6,C,H,M,D,s]
          have E:=Lib.hid e;clear e D g;subst s;go_enter Tryz.func140,Tryz.ntmps140
          go_wp2
          go_ret3
          exact ⟨by rw [E.out];rfl,rfl⟩
        · have x:u.toNat≠0:=fun h=>s (UInt8.toNat_inj.1 h);have a1:0<u.toNat:=by omega
          have a2:((u.toNat:Int) == 0)=false:=by simp [x]
          have e:zgg (b::r) = .tuple #[.int .u64 (val (r.take b.toNat)),.int .i64 (1 + (b.toNat:Int)),.int .i64 0]:=by simp [zgg,zb6,C,H,M,D,s,Int.add_comm]
          have E:=Lib.hid e;clear e D g s x;go_enter Tryz.func140,Tryz.ntmps140
          go_wp2
          go_loop [6,31] (fun v i=>∃j:Nat,j≤b.toNat∧i = .int .i64 j∧v = .int .u64 (val (r.take j))) (fun _ i=>b.toNat-(intOf i).toNat)
          case atStart=>exact ⟨0,yao _,rfl,rfl⟩
          case round =>
           obtain ⟨j,hj,rfl,rfl⟩:=hrel;by_cases a6:j<b.toNat
           · obtain ⟨a7,a8,y,O,_,m,aa⟩:=o.out.getByte (k:=1 + j) yab;simp at O;obtain ⟨rfl,rfl⟩:=O;have z:r[j]? = some y:=by rw [Nat.add_comm] at m;simpa using m
             have Hy:=Lib.hid z;have P:val (r.take j)<256 ^ 7:=yas (val_lt _) (Nat.pow_le_pow_right yab (by have:=ycP j r;omega));obtain ⟨q,I⟩:∃q,q=val (r.take j):=⟨_,rfl⟩;rw [←I] at P ⊢;have Hq:=Lib.hid I;clear m z I;have ac:=y.toNat_lt;go_wp2
             refine ⟨⟨j + 1,by omega,by go_num,?_⟩,by simp [intOf];omega⟩;rw [or_byte q y P,Hq.out,val_take r j y Hy.out]
           · have e3:j=b.toNat:=by omega
             subst e3;go_wp2
             go_ret3
             exact ⟨by rw [E.out];rfl,rfl⟩
      · have e:zgg (b::r) = .tuple #[.int .u64 0,.int .i64 1,.int .i64 0]:=by simp [zgg,zb6,show b.toNat=0 from by omega,val]
        have E:=Lib.hid e;have ad:b.toNat=0:=by omega
        clear e;go_enter Tryz.func140,Tryz.ntmps140
        go_wp2
        refine wp_loop_rounds 1 ?_;rw [rounds_succ];go_wp2
        go_ret3
        exact ⟨by rw [E.out];rfl,rfl⟩
abbrev RSt:=List UInt8 × Nat
def IsR (w:World) (g:Nat) (st:RSt):Prop :=
 ∃A n c,w.heap[g]? = some (.cells #[.slice A n c,.int .i64 st.2] 175 (0,0))∧Rd w g 1 A n c (bv st.1)
theorem IsR.lt {st:RSt} (h:IsR w g st):g<w.heap.size:=by
 obtain ⟨A,n,c,h,_⟩:=h;exact (yaR.1 h).1
theorem IsR.below {w':World} {B:Nat} {st:RSt} (h:IsR w g st) (hb:Below B w w') (hg:g<B):IsR w' g st:=by
 obtain ⟨A,n,c,b,f⟩:=h;exact ⟨A,n,c,by rw [hb.block g hg];exact b,f.belowLe hb yab⟩
theorem zcO {w0:World} (h:w0.grownBy w (some g)) (o:Nat) (u:Value):w0.grownBy (w.setCell ⟨g,o,none⟩ u) (some g) :=
 ⟨h.os,h.tape,h.output,by simpa [World.setCell] using h.size,fun i hi b=>(Below.heap_setCell w ⟨g,o,none⟩ u i (fun e=>b (by rw [e]))).trans (h.block i hi b)⟩
theorem zl6 {w0:World} {r:Option Nat} (h:w0.grownBy w r) (o:Obj):w0.grownBy (w.alloc o) r :=
 ⟨h.os,h.tape,h.output,yay h.size yaf,fun i hi b=>(Below.heap_alloc w o i (yas hi h.size)).trans (h.block i hi b)⟩
theorem IsR.set0 {st:RSt} (h:IsR w g st) (A:Option Addr) (n c:Nat) (l:List UInt8) (hr:Rd w g 1 A n c (bv l)):IsR (w.setCell ⟨g,0,none⟩ (.slice A n c)) g (l,st.2):=by
 obtain ⟨j,k,m,b,o⟩:=h;refine ⟨A,n,c,?_,hr.keep fun p f=>World.cell?_setCell_other w _ p _ (fun e=>by subst e;simp at f)⟩;simp [World.setCell,ybB,b]
theorem IsR.set1 {st:RSt} (h:IsR w g st) (e:Nat):IsR (w.setCell ⟨g,1,none⟩ (.int .i64 e)) g (st.1,e):=by
 obtain ⟨b,f,j,k,m⟩:=h;refine ⟨b,f,j,?_,m.keep fun p n=>World.cell?_setCell_other w _ p _ (fun e=>by subst e;simp at n)⟩;simp [World.setCell,ybB,k]
theorem IsR.cells {st:RSt} (h:IsR w g st):∃A n c,w.cell? ⟨g,0,none⟩=some (.slice A n c)∧w.cell? ⟨g,1,none⟩=some (.int .i64 st.2)∧(∀j,w.frozen? ⟨g,j,none⟩=false)∧Rd w g 1 A n c (bv st.1):=by
 obtain ⟨A,n,c,b,f⟩:=h;exact ⟨A,n,c,by rw [cell_of_row _ _ _ _ _ _ b];rfl,by rw [cell_of_row _ _ _ _ _ _ b];rfl,fun j=>by simp [World.frozen?,b],f⟩
def zbn (st:RSt):Nat × RSt :=
 if st.2≠0 then (0,st) else if (zb6 st.1).2.2≠0 then (0,(st.1,(zb6 st.1).2.2)) else ((zb6 st.1).1,(st.1.drop (zb6 st.1).2.1,0))
def zaX (st:RSt):List UInt8 × RSt :=
 if (zbn st).2.2≠0 then ([],(zbn st).2) else if (zbn st).2.1.length<(zbn st).1 then ([],((zbn st).2.1,10)) else ((zbn st).2.1.take (zbn st).1,((zbn st).2.1.drop (zbn st).1,0))
theorem err_any (g:Nat) (st:RSt) (w:World) (h:IsR w g st) :
 Calls Tryz.prog 54 #[.pointer (some ⟨g,0,none⟩)] w fun e w'=>e = .returned (.int .i64 st.2)∧w=w':=by
 obtain ⟨A,n,c,b,f,j,k⟩:=h.cells;go_enter Tryz.func54,Tryz.ntmps54
 go_wp2
 go_ret
 exact ⟨rfl,rfl⟩
end
end Go.Proofs.YtmblgnddgmfkhaaGreat
