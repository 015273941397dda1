import Derived.Test.YtmblgnddgmfkhaaGreatK44
import Derived.Test.YtmblgnddgmfkhaaGreatKxErrP15
import Derived.Test.YtmblgnddgmfkhaaGreatKxShS15
set_option maxRecDepth 100000
set_option maxHeartbeats 4000000
namespace Go.Proofs.YtmblgnddgmfkhaaGreat
open Go.RowKit
theorem wf_u16y {z:Int} (h:(Lit.int .u16 z).wf=true):0≤z∧z≤65535:=by
 simpa [Lit.wf,IntKind.min,IntKind.max,IntKind.signed,IntKind.bits] using h
theorem conv15b {P:Program} {w:World} {n c:Nat} {A:Option Addr} {l:List UInt8} (h:Rd w w.heap.size 1 A n c (bv l)) (src dst e:TypeId) (hs:P.underlying src=some (.slice e)) (he:P.underlying e=some (.int .u8)) (hd:P.underlying dst=some .string) :
 ∀W,Below w.heap.size w W→(convert src dst (.slice A n c)).run P W = .ok (.string (strOf l)) W:=fun _ a=>(h.below a).conv src dst e hs he hd
theorem own_set1 {w:World} {B g n c:Nat} {e:TypeId} {l:List UInt8} (h:w.ownsRow B e 1 (.slice (some ⟨g,0,none⟩) n c) n (bv l)) (j:Nat) (y:UInt8):(w.setCell ⟨g,j,none⟩ (.int .u8 (y.toNat:Int))).ownsRow B e 1 (.slice (some ⟨g,0,none⟩) n c) n (bv (l.set j y)):=by
 obtain ⟨d,f⟩:=h;rcases f with ⟨q,_⟩ | ⟨v,i,b,k,m,o,p,r,s,t⟩
 · cases q
 · injection k with a _ u
   injection a with a
   injection a with a
   subst a u;refine ⟨by simpa [bv] using d,.inr ⟨g,c,b.setIfInBounds j (.int .u8 (y.toNat:Int)),rfl,m,Rk.set o j _,p,r,by rw [Array.size_setIfInBounds];exact s,?_⟩⟩;rw [Array.toList_setIfInBounds,List.take_set,t];unfold bv;rw [List.map_set]
theorem own_pre1 {w:World} {B g n c k:Nat} {e:TypeId} {l:List UInt8} (h:w.ownsRow B e 1 (.slice (some ⟨g,0,none⟩) n c) n (bv l)) (hk:k≤n):w.ownsRow B e 1 (.slice (some ⟨g,0,none⟩) k c) k (bv (l.take k)):=by
 obtain ⟨f,i⟩:=h;rcases i with ⟨q,_⟩ | ⟨v,j,b,m,o,p,x,r,s,d⟩
 · cases q
 · injection m with a _ t
   injection a with a
   injection a with a
   subst a t;have u:l.length=n:=by simpa [bv] using f
   refine ⟨by unfold bv;rw [List.length_map,List.length_take];omega,.inr ⟨g,c,b,rfl,o,p,by omega,r,s,?_⟩⟩;unfold bv at d ⊢;rw [List.map_take,←d,List.take_take];congr 1
   omega
theorem own_at1 {w:World} {B g n c:Nat} {e:TypeId} {xs:List Value} (h:w.ownsRow B e 1 (.slice (some ⟨g,0,none⟩) n c) n xs):B≤g∧g<w.heap.size∧n≤c∧c≤maxLen∧∀j,w.frozen? ⟨g,j,none⟩=false:=by
 obtain ⟨r,d⟩:=h;rcases d with ⟨q,_⟩ | ⟨s,f,i,k,l,b,m,o,t,u⟩
 · cases q
 · injection k with a _ p
   injection a with a
   injection a with a
   subst a p;exact ⟨l,Rk.lt b,m,o,fun j=>Rk.fz b j⟩
theorem own_some1 {w:World} {B n:Nat} {e:TypeId} {v:Value} {xs:List Value} (h:w.ownsRow B e 1 v n xs) (hn:0<n):∃g c,v = .slice (some ⟨g,0,none⟩) n c:=by
 obtain ⟨i,a⟩:=h;rcases a with ⟨_,q⟩ | ⟨j,b,d,f,_⟩
 · omega
 · exact ⟨_,_,f⟩
theorem batchBytes_walk (A0:Option Addr) (c0:Nat) (l:List Ac15) (A1:Option Addr) (n1 c1:Nat) (z1:List Int) (A2:Option Addr) (n2 c2:Nat) (l2:List UInt8) (x3:Int) (w:World) (hl:Rd w w.heap.size 8 A0 l.length c0 (l.flatMap Ac15.cells)) (ho:∀a ∈ l,a.ok 140737488351232 w) (r1:Rd w w.heap.size 1 A1 n1 c1 (z1.map (Value.int .u16))) (f1:∀z ∈ z1,(Lit.int .u16 z).wf=true) (r2:Rd w w.heap.size 1 A2 n2 c2 (bv l2)) (f3:(Lit.int .u16 x3).wf=true) :
 Calls Tryz.prog 3 #[.slice A0 l.length c0,.slice A1 n1 c1,.slice A2 n2 c2,.int .u16 x3] w fun e w'=>e = .returned (.bool true)∧Below w.heap.size w w':=by
 obtain ⟨f,hG⟩:=zjp;have ch:(l.length:Int)≤9223372036854775807:=by have:=hl.cap;have:=hl.capm;unfold maxLen at this;omega
 have ci:(n1:Int)≤9223372036854775807:=by have:=r1.cap;have:=r1.capm;unfold maxLen at this;omega
 have cj:(n2:Int)≤9223372036854775807:=by have:=r2.cap;have:=r2.capm;unfold maxLen at this;omega
 have cc:z1.length=n1:=by simpa using r1.len
 have ce:l2.length=n2:=by simpa [bv] using r2.len
 obtain ⟨x0,x1⟩:=wf_u16y f3;go_enter Tryz.func3,Tryz.ntmps3
 have ka:=awake15_any zcC w;go_upto_region 4 with (go_at_call 9;refine ka.mono ?_;rintro e w2 ⟨rfl,o⟩)
 clear ka;have kf:=few15_any (hl.up o) fun a ha=>(ho a ha).up o;obtain ⟨R,hR⟩:∃R,fewL l=R:=⟨_,rfl⟩;rw [hR] at kf;go_upto_region 5 with (go_at_call 10;refine kf.mono ?_;rintro e w4 ⟨rfl,ao⟩)
 replace o:=zac o o.size ao;clear kf ao;cases R with
 | false =>
  go_wp2_with fail
  go_ret
  exact ⟨rfl,o⟩
 | true =>
 obtain ⟨b9,ck⟩:=fewL_iff hR;clear hR;by_cases h6:6<n1
 · have d6:(6:Int)<(n1:Int):=by omega
   go_wp2_with fail
   go_ret
   exact ⟨rfl,o⟩
 have d6:¬(6:Int)<(n1:Int):=by omega
 by_cases cl:n2<n1
 · have ap:(n2:Int)<(n1:Int):=by omega
   go_wp2_with fail
   go_ret
   exact ⟨rfl,o⟩
 have ap:¬(n2:Int)<(n1:Int):=by omega
 have kn:=in_new (f:=f) (q:=50) (by decide) w4;go_upto_region 8 with (go_at_call 11;refine kn.mono ?_;rintro e w5 ⟨g,rfl,hI,aq⟩)
 have a2:w.heap.size≤w4.heap.size:=o.size;replace o:=zac o o.size aq;clear kn aq d6 ap;generalize (zbQ 50:Sto Tb Nd15)=s0 at *
 go_wp2_with fail
 go_loopw [12] (fun vi wx=>∃(i:Nat) (s:Sto Tb Nd15),vi = .int .i64 i∧i≤l.length∧In15 f (·<w4.heap.size) wx g s i 50∧Below w.heap.size w wx) (fun vi _=>l.length-(intOf vi).toNat)
 case atStart=>exact ⟨0,s0,rfl,Nat.zero_le _,hI,o⟩
 case round =>
  clear hI o;obtain ⟨i,s,rfl,hi,hI,o⟩:=hrel;by_cases ba:i<l.length
  · have di:(i:Int)<(l.length:Int):=by omega
    have d0:(0:Int)≤(i:Int):=by omega
    obtain ⟨a,ha⟩:∃a,l[i]? = some a:=⟨_,List.getElem?_eq_getElem ba⟩;have hd:=zac o o.size (za1 wr);obtain ⟨t,x,eA,F,hg⟩:=zc5 Ac15.cells zix (hl.below hd) rfl ha;subst eA;have g0:wr.cell? _=_:=hg 0 _ rfl;have g1:=hg 1 _ rfl;have g2:=hg 2 _ rfl;have g3:=hg 3 _ rfl;have g4:=hg 4 _ rfl;have g5:=hg 5 _ rfl;have g6:=hg 6 _ rfl;have g7:wr.cell? _=_:=hg 7 _ rfl;rw [Nat.add_zero] at g0;clear hg;have ar:=(ho a (List.mem_of_getElem? ha)).up hd;have ai:=b9 a (List.mem_of_getElem? ha);have au:=hI.up (za1 wr);by_cases k0:a.kind=0
    · have e0:(a.kind == 0)=true:=by simpa using k0
      obtain ⟨E,hE⟩:∃E,zaE (p15 f) s a.by_ a.p a.d=E:=⟨_,rfl⟩;have kw:=au.write ar ai (by omega) hE;go_upto_region 13 with (fail)
      have m:wr.drew.cell? ⟨t,x + i * 8 + 1,none⟩=some (.string a.by_.1)∧wr.drew.cell? ⟨t,x + i * 8 + 2,none⟩=some (.string a.by_.2.1)∧wr.drew.cell? ⟨t,x + i * 8 + 3,none⟩=some (.string a.by_.2.2)∧wr.drew.cell? ⟨t,x + i * 8 + 4,none⟩=some (.slice a.Ap a.p.length a.cp)∧wr.drew.cell? ⟨t,x + i * 8 + 5,none⟩=some (.slice a.Ad a.d.length a.cd):=⟨g1,g2,g3,g4,g5⟩;refine wp_region_held_drew (S:=fun W=>W.cell? ⟨t,x + i * 8 + 1,none⟩=some (.string a.by_.1)∧W.cell? ⟨t,x + i * 8 + 2,none⟩=some (.string a.by_.2.1)∧W.cell? ⟨t,x + i * 8 + 3,none⟩=some (.string a.by_.2.2)∧W.cell? ⟨t,x + i * 8 + 4,none⟩=some (.slice a.Ap a.p.length a.cp)∧W.cell? ⟨t,x + i * 8 + 5,none⟩=some (.slice a.Ad a.d.length a.cd)) (by kernel_rfl) m ?_;intro _;refine zaa 0 (some 51) m ?_ (hy:=zy5);refine zaa 1 (some 52) m ?_ (hy:=zy5);refine zaa 2 (some 53) m ?_ (hy:=zy5);refine zaa 3 (some 54) m ?_ (hy:=zy5);refine zaa 4 (some 55) m ?_ (hy:=zy5);refine zaa 5 (some 56) m ?_ (hy:=zy5);refine zaa 6 (some 57) m ?_ (hy:=zy5);refine zaa 7 (some 58) m ?_ (hy:=zy5);refine zaa 8 (some 59) m ?_ (hy:=zy5);refine zaa 9 (some 60) m ?_ (hy:=zy5);refine zaa 10 (some 61) m ?_ (hy:=zy5);refine zaa 11 (some 62) m ?_ (hy:=zy5);refine zaa 12 (some 63) m ?_ (hy:=zy5);refine zaa 13 (some 64) m ?_ (hy:=zy5);refine zaa 14 (some 65) m ?_ (hy:=zy5);refine zaa 15 (some 66) m ?_ (hy:=zy5);refine zaS 16 rfl (by kernel_rfl) fun K9 H=>?_
      go_simp;refine (kw).mono ?_;rintro e w5 ⟨rfl,a3,Q⟩;have I:Below w.heap.size wr.drew w5:=Q.below (fun b q=>Nat.lt_of_lt_of_le q a2);have bb:w5.cell? ⟨t,x + i * 8 + 1,none⟩=some (.string a.by_.1)∧w5.cell? ⟨t,x + i * 8 + 2,none⟩=some (.string a.by_.2.1)∧w5.cell? ⟨t,x + i * 8 + 3,none⟩=some (.string a.by_.2.2)∧w5.cell? ⟨t,x + i * 8 + 4,none⟩=some (.slice a.Ap a.p.length a.cp)∧w5.cell? ⟨t,x + i * 8 + 5,none⟩=some (.slice a.Ad a.d.length a.cd):=⟨(I.cell F).trans g1,(I.cell F).trans g2,(I.cell F).trans g3,(I.cell F).trans g4,(I.cell F).trans g5⟩;refine H _ _ bb ?_;clear H K9;refine wpAnyH_done (by kernel_rfl) ?_ _;go_wp2_with fail
      exact ⟨⟨i + 1,_,by go_num,by omega,a3,hd.trans (Q.below fun b q=>Nat.lt_of_lt_of_le q a2)⟩,by simp [intOf];omega⟩
    have e0:(a.kind == 0)=false:=by simpa using k0
    by_cases k1:a.kind=1
    · have e1:(a.kind == 1)=true:=by simpa using k1
      obtain ⟨E,hE⟩:∃E,zaC (p15 f) s a.by_ a.text=E:=⟨_,rfl⟩;obtain ⟨_,_,y1,y2,_,_⟩:=zdt.1 ai;have kw:=au.define hG a.by_ a.text (by omega) (by omega) (by omega) hE;go_upto_region 15 with (fail)
      have B:wr.drew.cell? ⟨t,x + i * 8 + 1,none⟩=some (.string a.by_.1)∧wr.drew.cell? ⟨t,x + i * 8 + 2,none⟩=some (.string a.by_.2.1)∧wr.drew.cell? ⟨t,x + i * 8 + 3,none⟩=some (.string a.by_.2.2)∧wr.drew.cell? ⟨t,x + i * 8 + 6,none⟩=some (.string a.text):=⟨g1,g2,g3,g6⟩;refine wp_region_held_drew (S:=fun W=>W.cell? ⟨t,x + i * 8 + 1,none⟩=some (.string a.by_.1)∧W.cell? ⟨t,x + i * 8 + 2,none⟩=some (.string a.by_.2.1)∧W.cell? ⟨t,x + i * 8 + 3,none⟩=some (.string a.by_.2.2)∧W.cell? ⟨t,x + i * 8 + 6,none⟩=some (.string a.text)) (by kernel_rfl) B ?_;intro _;refine zaa 0 (some 70) B ?_ (hy:=zy4);refine zaa 1 (some 71) B ?_ (hy:=zy4);refine zaa 2 (some 72) B ?_ (hy:=zy4);refine zaa 3 (some 73) B ?_ (hy:=zy4);refine zaa 4 (some 74) B ?_ (hy:=zy4);refine zaa 5 (some 75) B ?_ (hy:=zy4);refine zaa 6 (some 76) B ?_ (hy:=zy4);refine zaa 7 (some 77) B ?_ (hy:=zy4);refine zaa 8 (some 78) B ?_ (hy:=zy4);refine zaa 9 (some 79) B ?_ (hy:=zy4);refine zaa 10 (some 80) B ?_ (hy:=zy4);refine zaS 11 rfl (by kernel_rfl) fun K9 H=>?_;go_simp;refine (kw).mono ?_;rintro e w5 ⟨rfl,a3,Q⟩;have a1:Below w.heap.size wr.drew w5:=Q.below (fun b q=>Nat.lt_of_lt_of_le q a2);have bc:w5.cell? ⟨t,x + i * 8 + 1,none⟩=some (.string a.by_.1)∧w5.cell? ⟨t,x + i * 8 + 2,none⟩=some (.string a.by_.2.1)∧w5.cell? ⟨t,x + i * 8 + 3,none⟩=some (.string a.by_.2.2)∧w5.cell? ⟨t,x + i * 8 + 6,none⟩=some (.string a.text):=⟨(a1.cell F).trans g1,(a1.cell F).trans g2,(a1.cell F).trans g3,(a1.cell F).trans g6⟩
      refine H _ _ bc ?_;clear H K9;refine wpAnyH_done (by kernel_rfl) ?_ _;go_wp2_with fail
      exact ⟨⟨i + 1,_,by go_num,by omega,a3,hd.trans (Q.below fun b q=>Nat.lt_of_lt_of_le q a2)⟩,by simp [intOf];omega⟩
    have e1:(a.kind == 1)=false:=by simpa using k1
    by_cases k2:a.kind=2
    · have e2:(a.kind == 2)=true:=by simpa using k2
      obtain ⟨E,hE⟩:∃E,zbq s a.rev=E:=⟨_,rfl⟩;have kw:=hI.trim a.rev hE;go_wp2_with fail
      refine kw.mono ?_;rintro e w5 ⟨rfl,a3,Q⟩;go_wp2_with fail
      exact ⟨⟨i + 1,_,by go_num,by omega,a3,o.trans (Q.below fun b q=>Nat.lt_of_lt_of_le q a2)⟩,by simp [intOf];omega⟩
    have e2:(a.kind == 2)=false:=by simpa using k2
    go_wp2_with fail
    exact ⟨⟨i + 1,s,by go_num,by omega,hI.idle,o⟩,by simp [intOf];omega⟩
  · obtain rfl:i=l.length:=by omega
    have di:¬(((l.length:Nat):Int)<(l.length:Int)):=by omega
    have h4:=pack_four hI.sto.ok.1.has;have kp:=hI.sto.pack zcC hI.sz;generalize zbj c15 s=pb at *
    go_wp2_with fail
    refine kp.mono ?_;rintro e w6 ⟨A7,c,rfl,hO,bd⟩;obtain ⟨g7,c7,a4⟩:=own_some1 hO (by omega);injection a4 with v1 _ v3
    subst v1 v3;have bf:w.heap.size≤wr.heap.size:=o.size;replace o:=zac o o.size bd;have bg:w.heap.size≤g7:=Nat.le_trans bf (own_at1 hO).1;obtain ⟨n,hn⟩:∃n,pb.length=n:=⟨_,rfl⟩;rw [hn] at hO h4 ⊢;have cq:¬(n:Int)<4:=by omega
    have cf:(4:Int)≤(n:Int):=by omega
    clear kp hI;by_cases cr:6000<n
    · have bh:(6000:Int)<(n:Int):=by omega
      clear hn;go_wp2_with fail
      go_ret
      exact ⟨rfl,o⟩
    have bh:¬(6000:Int)<(n:Int):=by omega
    have av:¬(n:Int)=0:=by omega
    have cs:¬n=0:=by omega
    replace hn:=Lib.hid hn;go_wp2_with fail
    go_loopw [14] (fun vi wx=>∃(i:Nat) (bs:List UInt8),vi = .int .i64 i∧i≤n1∧bs.length=n∧wx.ownsRow wr.heap.size 5 1 (.slice (some ⟨g7,0,none⟩) n c) n (bv bs)∧Below w.heap.size w wx) (fun vi _=>n1-(intOf vi).toNat)
    case atStart=>exact ⟨0,pb,rfl,Nat.zero_le _,hn.out,hO,o⟩
    case round =>
     clear hO o;obtain ⟨i,bs,rfl,hi,T,hO,o⟩:=hrel;replace T:=Lib.hid T;by_cases ct:i<n1
     · have bi:(i:Int)<(n1:Int):=by omega
       have cu:(i:Int)<(n2:Int):=by omega
       have d0:(0:Int)≤(i:Int):=by omega
       have hd:=zac o o.size (za1 wr);obtain ⟨z,hz⟩:∃z,z1[i]? = some z:=⟨_,List.getElem?_eq_getElem (by omega)⟩;obtain ⟨q0,q1⟩:=wf_u16y (f1 z (List.mem_of_getElem? hz));obtain ⟨b5,o5,eA,aw,ax⟩:=(r1.below hd).at_ (by omega);have p5:wr.drew.cell? ⟨b5,o5 + i,none⟩=some (.int .u16 z):=ax i _ (by rw [List.getElem?_map,hz];rfl);obtain ⟨b6,o6,y,eB,ay,_,p6⟩:=(r2.below hd).getByte (k:=i) (by omega);subst eA eB;clear ax hz;have ez:IntKind.i64.wrap z=z:=IntWalk.i64_in _ ⟨by omega,by omega⟩;obtain ⟨jn,ej,bj⟩:∃jn:Nat,z % (n:Int)=(jn:Int)∧jn<n:=⟨(z % (n:Int)).toNat,by have:=Int.emod_nonneg z av;omega,by have:=Int.emod_nonneg z av;have:=Int.emod_lt_of_pos z (show (0:Int)<(n:Int) by omega);omega⟩;have cv:z.tmod (n:Int)=(jn:Int):=by rw [Int.tmod_eq_emod_of_nonneg q0];exact ej
       have cw:(jn:Int)<(n:Int):=by omega
       have cx:(0:Int)≤(jn:Int):=by omega
       have az:=zao hO (za1 wr);obtain ⟨_,cg,_,_,bl⟩:=own_at1 az;have cy:=bl jn;obtain ⟨b7,o7,y7,eC,_,_,bm⟩:=(zla hO).getByte (k:=jn) bj;injection eC with eC
       injection eC with bn bo
       subst bn bo;rw [Nat.zero_add] at bm;have U:Below w.heap.size wr.drew (wr.drew.setCell ⟨g7,jn,none⟩ (.int .u8 (y.toNat:Int))):=(Below.refl _ _).setCell (p:=⟨g7,jn,none⟩) bg _;go_upto_region 24 with (fail)
       have V:wr.drew.cell? ⟨b5,o5 + i,none⟩=some (.int .u16 z)∧wr.drew.cell? ⟨b6,o6 + i,none⟩=some (.int .u8 (y.toNat:Int)):=⟨p5,p6⟩;refine wp_region_held_drew (S:=fun W=>W.cell? ⟨b5,o5 + i,none⟩=some (.int .u16 z)∧W.cell? ⟨b6,o6 + i,none⟩=some (.int .u8 (y.toNat:Int))) (by kernel_rfl) V ?_;intro _;refine zaa 0 (some 110) V ?_ (hy:=zy2);refine zaa 1 (some 111) V ?_ (hy:=zy2);refine zaa 2 (some 112) V ?_ (hy:=zy2);refine zaa 3 (some 113) V ?_ (hy:=zy2);refine zaa 4 (some 114) V ?_ (hy:=zy2);refine zaa 5 (some 115) V ?_ (hy:=zy2);refine zaa 6 (some 116) V ?_ (hy:=zy2);refine zaa 7 (some 117) V ?_ (hy:=zy2);refine zaa 8 (some 118) V ?_ (hy:=zy2);refine zaa 9 (some 119) V ?_ (hy:=zy2);refine zaa 10 (some 120) V ?_ (hy:=zy2);refine zaa 11 (some 121) V ?_ (hy:=zy2);refine zaa 12 (some 122) V ?_ (hy:=zy2);refine zaa 13 (some 123) V ?_ (hy:=zy2);refine zaS 14 rfl (by kernel_rfl) fun K9 H=>?_;go_simp;refine H _ _ ⟨(U.cell aw).trans p5,(U.cell ay).trans p6⟩ ?_;clear H K9;refine wpAnyH_done (by kernel_rfl) ?_ _;go_wp2_with fail
       exact ⟨⟨i + 1,bs.set jn y,by go_num,by omega,by rw [List.length_set];exact T.out,own_set1 az jn y,hd.trans U⟩,by simp [intOf];omega⟩
     · have bi:¬(i:Int)<(n1:Int):=by omega
       obtain ⟨_,_,cz,bp,_⟩:=own_at1 hO;have d1:(c:Int)≤9223372036854775807:=by unfold maxLen at bp;omega
       have ex:IntKind.i64.wrap x3=x3:=IntWalk.i64_in _ ⟨by omega,by omega⟩;have b0:IntKind.i64.wrap ((n:Int) + 1)=((n + 1:Nat):Int):=by rw [show (n:Int) + 1=((n + 1:Nat):Int) by omega];exact IntWalk.i64_in _ ⟨by omega,by omega⟩
       have T:=T.out;by_cases ah:x3 % 4=0
       · obtain ⟨kk,ek,aj⟩:∃kk:Nat,x3 % ((n + 1:Nat):Int)=(kk:Int)∧kk≤n:=⟨(x3 % ((n + 1:Nat):Int)).toNat,by have:=Int.emod_nonneg x3 (show ((n + 1:Nat):Int)≠0 by omega);omega,by have:=Int.emod_nonneg x3 (show ((n + 1:Nat):Int)≠0 by omega);have:=Int.emod_lt_of_pos x3 (show (0:Int)<((n + 1:Nat):Int) by omega);omega⟩;have bq:x3.tmod ((n + 1:Nat):Int)=(kk:Int):=by rw [Int.tmod_eq_emod_of_nonneg x0];exact ek
         have b1:x3 % ((n:Int) + 1)=(kk:Int):=by rw [show (n:Int) + 1=((n + 1:Nat):Int) by omega];exact ek
         have br:¬((n + 1:Nat):Int)=0:=by omega
         have a5:x3.tmod 4=0:=by rw [Int.tmod_eq_emod_of_nonneg x0];exact ah
         go_upto_region 28 with (fail)
         rw [b1];clear ek bq b1 b0 ex br a5 ah;have bu:(0:Int)≤(kk:Int):=by omega
         have bw:(kk:Int)≤(c:Int):=by omega
         have hP:=own_pre1 hO aj;obtain ⟨_,_,a4,a6⟩:=Rd.own hP;injection a4 with v1 _ v3
         subst v1 v3;have X:(bs.take kk).length=kk:=by rw [List.length_take];omega
         generalize bs.take kk=bk at *
         clear T hO hP;have ku:=zqq zcC hG (A:=some ⟨g7,0,none⟩) (c:=c) (b:=bk) (q:=50) (by rw [X];exact a6) (by omega) (by decide) (ShortU.small (by omega));rw [X] at ku;clear X;have J:=unk_errs (f:=f) 50 bk;go_wp2_with fail
         refine ku.mono ?_;rintro e j ⟨p,rfl,M,Y,Z⟩;have a7:=a6.up M;have r:=zac o o.size M;by_cases hU:zka (zaJ (p15 f) 50 bk) bk=0
         · obtain ⟨a8,a9,gu,rfl,C⟩:=Z hU;have N:=C.ok.1;rw [hU];generalize (zaJ (p15 f) 50 bk).2.1=u at *
           have bx:u.floor≤revB u:=by
            have h2:=List.length_pos_iff.2 N.has;have h3:revB u=u.floor + u.L.length-1:=rfl;omega
           have aa:=fun (W:World) (hB:Below j.heap.size j W)=>(C.up zcC hB).pack zcC a9;have ak:=fun (W:World) (hB:Below j.heap.size j W)=>(C.up zcC hB).rev;have al:=fun (W:World) (hB:Below j.heap.size j W)=>(C.up zcC hB).floor;simp only [a8] at aa;have b2:=conv15b (l:=bk) a7 (P:=Tryz.prog) 24 9 5 Tryz.underlying24 Tryz.underlying5 Tryz.underlying9;generalize u.floor=bz at *
           generalize revB u=c3 at *
           clear ku J Y Z a8 hU C a9 N;go_upto_region 31 with (fail)
           refine wp_region_any (by kernel_rfl) ?_;change wpAny _ _ _ _ _ _ _ (World.drew _);generalize hdw:World.drew j=wy at *
           have G:Below j.heap.size j wy:=by subst hdw;exact ⟨rfl,rfl,rfl,Nat.le_refl _,fun _ _=>rfl⟩
           clear hdw;refine zeM 0 (some 162) ?_;refine zeM 3 (some 165) ?_;refine zeM 4 (some 166) ?_;refine zeM 5 (some 167) ?_;refine znU 6 1 2 (some 168) (fun W=>Below j.heap.size j W) (v:=?v6A) rfl rfl rfl rfl (by kernel_rfl) (by kernel_rfl) (by kernel_rfl) (by decide) (by decide) (by decide) (by kernel_rfl) (by kernel_rfl) (by kernel_rfl) (by kernel_rfl) (by kernel_rfl) (by kernel_rfl) (by kernel_rfl) (by kernel_rfl) (by kernel_rfl) (by kernel_rfl) (fun _ _ _ h=>h) (by rfl) ?y6A G ?r6A;case y6A=>(intro w hS;(try dsimp only at hS);go_simp;try with_reducible rfl)
           simp only [Act.put,List.setIfInBounds_toArray,List.set_cons_zero,List.set_cons_succ];intro K O;go_simp;refine (aa _ G).mono ?_;rintro e c4 ⟨A8,c8,rfl,ab,ac⟩;obtain ⟨c5,c6,am,ad⟩:=Rd.own ab;injection am with v1 _ v3
           subst v1 v3;have b4:=conv15b ad (P:=Tryz.prog) 24 9 5 Tryz.underlying24 Tryz.underlying5 Tryz.underlying9 _ (Below.refl _ _);have D:=zac G G.size ac;clear ab ad;refine O _ _ D ?_;clear O K;refine wpOp_step rfl fun K2 ae=>?_;go_simp;refine ae _ _ ⟨D,?_⟩;clear ae K2;refine zeM 7 (some 169) ?_;refine zeM 8 (some 170) ?_;refine zeM 9 (some 171) ?_;refine zeM 11 (some 173) ?_;refine wpAny_ready (rs:=[10]) (by kernel_rfl) (by simp) ?_;refine AllReady.cons rfl (fun K O=>?_) AllReady.nil;go_simp;refine (ak _ D).mono ?_;rintro e c9 ⟨rfl,af⟩;have a0:=zac D D.size af;go_wp2_with fail
           first | (refine O _ _ ?_;clear O K) | skip
           refine wpAny_ready (rs:=[12]) (by kernel_rfl) (by simp) ?_;refine AllReady.cons rfl (fun K O=>?_) AllReady.nil;go_simp;refine (al _ a0).mono ?_;rintro e ca ⟨rfl,ag⟩;have an:=zac a0 a0.size ag;go_wp2_with fail
           first | (refine O _ _ ?_;clear O K) | skip
           refine zeM 13 (some 175) ?_;refine zeM 14 (some 176) ?_;refine zeM 15 (some 8) ?_;refine wpAny_done (by kernel_rfl) ?_ _;go_wp2_with fail
           go_ret
           exact ⟨rfl,zac r r.size an⟩
         · obtain rfl:=Y hU;generalize zka (zaJ (p15 f) 50 bk) bk=E at *
           clear ku Y Z;rcases J with q | rfl | rfl | rfl
           · exact absurd q hU
           all_goals
            go_wp2_with fail
            go_ret
            exact ⟨rfl,r⟩
       · have a5:(x3 % 4 == 0)=false:=by simpa using ah
         go_upto_region 28 with (fail)
         clear b0 ex a5 ah;obtain ⟨kk,cb⟩:∃kk,n=kk:=⟨_,rfl⟩;have aj:kk≤n:=by omega
         have b8:(n:Int)=(kk:Int):=by omega
         rw [b8];clear cb b8;have bu:(0:Int)≤(kk:Int):=by omega
         have bw:(kk:Int)≤(c:Int):=by omega
         have hP:=own_pre1 hO aj;obtain ⟨_,_,a4,a6⟩:=Rd.own hP;injection a4 with v1 _ v3
         subst v1 v3;have X:(bs.take kk).length=kk:=by rw [List.length_take];omega
         generalize bs.take kk=bk at *
         clear T hO hP;have ku:=zqq zcC hG (A:=some ⟨g7,0,none⟩) (c:=c) (b:=bk) (q:=50) (by rw [X];exact a6) (by omega) (by decide) (ShortU.small (by omega));rw [X] at ku;clear X;have J:=unk_errs (f:=f) 50 bk;go_wp2_with fail
         refine ku.mono ?_;rintro e j ⟨p,rfl,M,Y,Z⟩;have a7:=a6.up M;have r:=zac o o.size M;by_cases hU:zka (zaJ (p15 f) 50 bk) bk=0
         · obtain ⟨a8,a9,gu,rfl,C⟩:=Z hU;have N:=C.ok.1;rw [hU];generalize (zaJ (p15 f) 50 bk).2.1=u at *
           have bx:u.floor≤revB u:=by
            have h2:=List.length_pos_iff.2 N.has;have h3:revB u=u.floor + u.L.length-1:=rfl;omega
           have aa:=fun (W:World) (hB:Below j.heap.size j W)=>(C.up zcC hB).pack zcC a9;have ak:=fun (W:World) (hB:Below j.heap.size j W)=>(C.up zcC hB).rev;have al:=fun (W:World) (hB:Below j.heap.size j W)=>(C.up zcC hB).floor;simp only [a8] at aa;have b2:=conv15b (l:=bk) a7 (P:=Tryz.prog) 24 9 5 Tryz.underlying24 Tryz.underlying5 Tryz.underlying9;generalize u.floor=bz at *
           generalize revB u=c3 at *
           clear ku J Y Z a8 hU C a9 N;go_upto_region 31 with (fail)
           refine wp_region_any (by kernel_rfl) ?_;change wpAny _ _ _ _ _ _ _ (World.drew _);generalize hdw:World.drew j=wy at *
           have G:Below j.heap.size j wy:=by subst hdw;exact ⟨rfl,rfl,rfl,Nat.le_refl _,fun _ _=>rfl⟩
           clear hdw;refine zeM 0 (some 162) ?_;refine zeM 3 (some 165) ?_;refine zeM 4 (some 166) ?_;refine zeM 5 (some 167) ?_;refine znU 6 1 2 (some 168) (fun W=>Below j.heap.size j W) (v:=?v6B) rfl rfl rfl rfl (by kernel_rfl) (by kernel_rfl) (by kernel_rfl) (by decide) (by decide) (by decide) (by kernel_rfl) (by kernel_rfl) (by kernel_rfl) (by kernel_rfl) (by kernel_rfl) (by kernel_rfl) (by kernel_rfl) (by kernel_rfl) (by kernel_rfl) (by kernel_rfl) (fun _ _ _ h=>h) (by rfl) ?y6B G ?r6B;case y6B=>(intro w hS;(try dsimp only at hS);go_simp;try with_reducible rfl)
           simp only [Act.put,List.setIfInBounds_toArray,List.set_cons_zero,List.set_cons_succ];intro K O;go_simp;refine (aa _ G).mono ?_;rintro e c4 ⟨A8,c8,rfl,ab,ac⟩;obtain ⟨c5,c6,am,ad⟩:=Rd.own ab;injection am with v1 _ v3
           subst v1 v3;have b4:=conv15b ad (P:=Tryz.prog) 24 9 5 Tryz.underlying24 Tryz.underlying5 Tryz.underlying9 _ (Below.refl _ _);have D:=zac G G.size ac;clear ab ad;refine O _ _ D ?_;clear O K;refine wpOp_step rfl fun K2 ae=>?_;go_simp;refine ae _ _ ⟨D,?_⟩;clear ae K2;refine zeM 7 (some 169) ?_;refine zeM 8 (some 170) ?_;refine zeM 9 (some 171) ?_;refine zeM 11 (some 173) ?_;refine wpAny_ready (rs:=[10]) (by kernel_rfl) (by simp) ?_;refine AllReady.cons rfl (fun K O=>?_) AllReady.nil;go_simp;refine (ak _ D).mono ?_;rintro e c9 ⟨rfl,af⟩;have a0:=zac D D.size af;go_wp2_with fail
           first | (refine O _ _ ?_;clear O K) | skip
           refine wpAny_ready (rs:=[12]) (by kernel_rfl) (by simp) ?_;refine AllReady.cons rfl (fun K O=>?_) AllReady.nil;go_simp;refine (al _ a0).mono ?_;rintro e ca ⟨rfl,ag⟩;have an:=zac a0 a0.size ag;go_wp2_with fail
           first | (refine O _ _ ?_;clear O K) | skip
           refine zeM 13 (some 175) ?_;refine zeM 14 (some 176) ?_;refine zeM 15 (some 8) ?_;refine wpAny_done (by kernel_rfl) ?_ _;go_wp2_with fail
           go_ret
           exact ⟨rfl,zac r r.size an⟩
         · obtain rfl:=Y hU;generalize zka (zaJ (p15 f) 50 bk) bk=E at *
           clear ku Y Z;rcases J with q | rfl | rfl | rfl
           · exact absurd q hU
           all_goals
            go_wp2_with fail
            go_ret
            exact ⟨rfl,r⟩
end Go.Proofs.YtmblgnddgmfkhaaGreat
