/- BatchKept, walked. Conditions: none but the form's own reach. -/
import Derived.Test.YtmblgnddgmfkhaaGreatK44
set_option maxRecDepth 100000
set_option maxHeartbeats 4000000
namespace Go.Proofs.YtmblgnddgmfkhaaGreat
open Go.RowKit
theorem wf_i64k {z:Int} (h:(Lit.int .i64 z).wf=true) : -9223372036854775808≤z∧z≤9223372036854775807:=by
 simpa [Lit.wf,IntKind.min,IntKind.max,IntKind.signed,IntKind.bits] using h
theorem batchKept_walk (A:Option Addr) (c:Nat) (l:List Ac15) (r:Int) (u:TuP) (w:World) (hl:Rd w w.heap.size 8 A l.length c (l.flatMap Ac15.cells)) (ho:∀a ∈ l,a.ok 140737488351232 w) (hr:(Lit.int .i64 r).wf=true) (fu:∀z ∈ zav u,z.size≤140737488351232) :
 Calls Tryz.prog 8 #[.slice A l.length c,.int .i64 r,zgF u] w fun e w'=>e = .returned (.bool true)∧Below w.heap.size w w':=by
 obtain ⟨f,hG⟩:=zjp;have O:=fun W=>rkey_any12 (w:=W) u.1.1 u.1.2.1 u.1.2.2 u.2.1 u.2.2.1 u.2.2.2 (fu _ (by simp [zav])) (fu _ (by simp [zav])) (fu _ (by simp [zav])) (fu _ (by simp [zav])) (fu _ (by simp [zav])) (fu _ (by simp [zav]));have aw:=zhu fu;have ba:(l.length:Int)≤9223372036854775807:=by have:=hl.cap;have:=hl.capm;unfold maxLen at this;omega
 unfold zgF;rw [show za4 ((u.1.1,u.1.2.1,u.1.2.2),(u.2.1,u.2.2.1,u.2.2.2))=za4 u from rfl] at O;go_enter Tryz.func8,Tryz.ntmps8
 go_upto_region 1 with (fail)
 have k:=Rk.new w #[.string u.1.1,.string u.1.2.1,.string u.1.2.2,.string u.2.1,.string u.2.2.1,.string u.2.2.2] 51;have o:=zaI w (.cells #[.string u.1.1,.string u.1.2.1,.string u.1.2.2,.string u.2.1,.string u.2.2.1,.string u.2.2.2] 51);generalize w.alloc (.cells #[.string u.1.1,.string u.1.2.1,.string u.1.2.2,.string u.2.1,.string u.2.2.1,.string u.2.2.2] 51)=w1 at *
 obtain ⟨gt,X⟩:∃gt,w.heap.size=gt:=⟨_,rfl⟩;have k:Rk w1 gt _ _:=X ▸ k;rw [show (Value.pointer (some ⟨w.heap.size,0,none⟩)) = .pointer (some ⟨gt,0,none⟩) by rw [X]];replace X:=Lib.hid X;have ka:=awake15_any zcC w1;go_upto_region 4 with (go_at_call 9;refine ka.mono ?_;rintro e w2 ⟨rfl,a2⟩)
 replace k:=k.same (a2.block gt k.lt);replace o:=zac o o.size a2;clear ka a2;have kf:=few15_any (hl.up o) fun a ha=>(ho a ha).up o;obtain ⟨R,hR⟩:∃R,fewL l=R:=⟨_,rfl⟩;rw [hR] at kf;go_upto_region 5 with (go_at_call 10;refine kf.mono ?_;rintro e w3 ⟨rfl,a6⟩)
 replace k:=k.same (a6.block gt k.lt);replace o:=zac o o.size a6;clear kf a6;obtain ⟨c0,c1,c2,c3,c4,c5⟩:=k.c6t;have cl:=k.lt;have a7:=O w3;cases R with
 | false =>
  go_wp2_with fail
  go_ret
  exact ⟨rfl,o⟩
 | true =>
  obtain ⟨ax,bb⟩:=fewL_iff hR;clear hR;by_cases h2:400<(za4 u).size
  · have d2:(400:Int)<((za4 u).size:Int):=by omega
    go_wp2_with (go_at_call 21;refine a7.mono ?_;rintro e w4 ⟨rfl,P⟩)
    go_ret
    exact ⟨rfl,zac o o.size P⟩
  have d2:¬(400:Int)<((za4 u).size:Int):=by omega
  go_upto_region 7 with (go_at_call 21;refine a7.mono ?_;rintro e w4 ⟨rfl,P⟩)
  replace k:=k.same (P.block gt k.lt);replace o:=zac o o.size P;clear a7 O P c0 c1 c2 c3 c4 c5 cl d2;have al:(za4 u).size≤100000:=by omega
  clear h2 aw fu;have kn:=in_new (f:=f) (q:=50) yac w4;go_upto_region 8 with (go_at_call 11;refine kn.mono ?_;rintro e w5 ⟨g,rfl,n,a8⟩)
  have Q:gt<w4.heap.size:=k.lt;replace k:=k.same (a8.block gt k.lt);have T:=o.size;replace o:=zac o o.size a8;clear kn a8;have m:=n.sto.recNo zcC (r:=0) (by show ¬((0:Int)<0∧_);omega);unfold zk1 at m;go_wp2_with fail
  refine m.mono ?_;rintro e w6 ⟨rfl,Y⟩;have am:=n.up Y;replace k:=k.same (Y.block gt k.lt);replace o:=zac o o.size Y;go_upto_region 9 with (fail)
  have Z:=zaI w6 (.cells #[.int .i64 0,.string ⟨#[]⟩,.string ⟨#[]⟩,.string ⟨#[]⟩,.bool false,.slice none 0 0] 71);have x:=am.up Z;replace k:=k.same (Z.block gt k.lt);replace o:=zac o o.size Z;generalize w6.alloc (.cells #[.int .i64 0,.string ⟨#[]⟩,.string ⟨#[]⟩,.string ⟨#[]⟩,.bool false,.slice none 0 0] 71)=w7 at *
  generalize w6.heap.size=gr at *
  clear m n am Y Z;have m:=x.sto.kept 0;rw [show zaw (zbQ 50:Sto Tb Nd15) 0=true from rfl] at m;go_wp2_with fail
  refine m.mono ?_;rintro e w8 ⟨rfl,hb⟩;replace x:=x.up hb;replace k:=k.same (hb.block gt k.lt);replace o:=zac o o.size hb;clear m hb;have m:=x.sto.kept 1;rw [show zaw (zbQ 50:Sto Tb Nd15) 1=false from rfl] at m;go_wp2_with fail
  refine m.mono ?_;rintro e w9 ⟨rfl,hb⟩;replace x:=x.up hb;replace k:=k.same (hb.block gt k.lt);replace o:=zac o o.size hb;clear m hb;have m:=x.sto.kept (-1);rw [show zaw (zbQ 50:Sto Tb Nd15) (-1)=false from rfl] at m;go_wp2_with fail
  refine m.mono ?_;rintro e bc ⟨rfl,hb⟩;replace x:=x.up hb;replace k:=k.same (hb.block gt k.lt);replace o:=zac o o.size hb;clear m hb;have m:=x.sto.tuples zcC 0;rw [show (atB (zbQ 50:Sto Tb Nd15) 0).keys=[] from rfl] at m;simp only [yaE] at m;go_wp2_with fail
  refine m.mono ?_;rintro e bd ⟨⟨A5,c5,rfl,_⟩,hb⟩;replace x:=x.up hb;replace k:=k.same (hb.block gt k.lt);replace o:=zac o o.size hb;clear m hb;have m:=x.sto.schema zcC 0;go_wp2_with fail
  refine m.mono ?_;rintro e ay ⟨⟨⟨tx,Ay,cy,ty,mb,ps,Ar,cr,K⟩,rfl,hK,L,I⟩,hb⟩;dsimp only at L I hK;rw [show (atB (zbQ 50:Sto Tb Nd15) 0).text=⟨#[]⟩ from rfl] at L;subst L;replace x:=x.up hb;replace k:=k.same (hb.block gt k.lt);replace o:=zac o o.size hb;clear m hb I;unfold Tm.val;have m:=ttext_any (w:=ay) (tx:=⟨#[]⟩) (Ay:=Ay) (ny:=ty.length) (cy:=cy) (mb:=mb) (Ar:=Ar) (cr:=cr) (nr:=K.length);go_upto_region 11 with (go_at_call 27;refine m.mono ?_;rintro e bf ⟨rfl,hb⟩)
  replace x:=x.up hb;replace k:=k.same (hb.block gt k.lt);replace o:=zac o o.size hb;clear m hb hK;generalize (zbQ 50:Sto Tb Nd15)=s0 at *
  go_wp2_with fail
  go_loopw [12] (fun vi wx=>∃(i:Nat) (s:Sto Tb Nd15),vi = .int .i64 i∧i≤l.length∧In15 f (·<w4.heap.size) wx g s i 50∧Below w.heap.size w wx∧Rk wx gt #[.string u.1.1,.string u.1.2.1,.string u.1.2.2,.string u.2.1,.string u.2.2.1,.string u.2.2.2] 51) (fun vi _=>l.length-(intOf vi).toNat)
  case atStart=>exact ⟨0,s0,rfl,yao _,x,o,k⟩
  case round =>
   clear x k o;obtain ⟨i,s,rfl,hi,n,hb,k⟩:=hrel;by_cases az:i<l.length
   · have di:(i:Int)<(l.length:Int):=by omega
     have d0:(0:Int)≤(i:Int):=by omega
     obtain ⟨a,ha⟩:∃a,l[i]? = some a:=⟨_,yal az⟩;have hd:=zac hb hb.size (za1 wr);obtain ⟨C,D,eA,H,hg⟩:=zc5 Ac15.cells zix (hl.below hd) rfl ha;subst eA;have g0:wr.cell? _=_:=hg 0 _ rfl;have g1:=hg 1 _ rfl;have g2:=hg 2 _ rfl;have g3:=hg 3 _ rfl;have g4:=hg 4 _ rfl;have g5:=hg 5 _ rfl;have g6:=hg 6 _ rfl;have g7:wr.cell? _=_:=hg 7 _ rfl;rw [ybH] at g0;clear hg;have an:=(ho a (yaq ha)).up hd;have a1:=ax a (yaq ha);have ao:=n.up (za1 wr);have aq:=k.same ((za1 wr).block gt k.lt);by_cases k0:a.kind=0
     · have e0:(a.kind == 0)=true:=by simpa using k0
       obtain ⟨E,hE⟩:∃E,zaE (p15 f) s a.by_ a.p a.d=E:=⟨_,rfl⟩;have m:=ao.write an a1 yab hE;go_upto_region 16 with (fail)
       have y:wr.drew.cell? ⟨C,D + i * 8 + 1,none⟩=some (.string a.by_.1)∧wr.drew.cell? ⟨C,D + i * 8 + 2,none⟩=some (.string a.by_.2.1)∧wr.drew.cell? ⟨C,D + i * 8 + 3,none⟩=some (.string a.by_.2.2)∧wr.drew.cell? ⟨C,D + i * 8 + 4,none⟩=some (.slice a.Ap a.p.length a.cp)∧wr.drew.cell? ⟨C,D + i * 8 + 5,none⟩=some (.slice a.Ad a.d.length a.cd):=⟨g1,g2,g3,g4,g5⟩;refine wp_region_held_drew (S:=fun W=>W.cell? ⟨C,D + i * 8 + 1,none⟩=some (.string a.by_.1)∧W.cell? ⟨C,D + i * 8 + 2,none⟩=some (.string a.by_.2.1)∧W.cell? ⟨C,D + i * 8 + 3,none⟩=some (.string a.by_.2.2)∧W.cell? ⟨C,D + i * 8 + 4,none⟩=some (.slice a.Ap a.p.length a.cp)∧W.cell? ⟨C,D + i * 8 + 5,none⟩=some (.slice a.Ad a.d.length a.cd)) yaa y ?_;intro _;refine zaa 0 (some 74) y ?_ (hy:=zy5);refine zaa 1 (some 75) y ?_ (hy:=zy5);refine zaa 2 (some 76) y ?_ (hy:=zy5);refine zaa 3 (some 77) y ?_ (hy:=zy5);refine zaa 4 (some 78) y ?_ (hy:=zy5);refine zaa 5 (some 79) y ?_ (hy:=zy5);refine zaa 6 (some 80) y ?_ (hy:=zy5);refine zaa 7 (some 81) y ?_ (hy:=zy5);refine zaa 8 (some 82) y ?_ (hy:=zy5);refine zaa 9 (some 83) y ?_ (hy:=zy5);refine zaa 10 (some 84) y ?_ (hy:=zy5);refine zaa 11 (some 85) y ?_ (hy:=zy5);refine zaa 12 (some 86) y ?_ (hy:=zy5);refine zaa 13 (some 87) y ?_ (hy:=zy5);refine zaa 14 (some 88) y ?_ (hy:=zy5);refine zaa 15 (some 89) y ?_ (hy:=zy5);refine zaS 16 rfl yaa fun K9 U=>?_
       go_simp;refine (m).mono ?_;rintro e w5 ⟨rfl,V,G⟩;have J:Below w.heap.size wr.drew w5:=G.below (fun b q=>yas q T);have b0:w5.cell? ⟨C,D + i * 8 + 1,none⟩=some (.string a.by_.1)∧w5.cell? ⟨C,D + i * 8 + 2,none⟩=some (.string a.by_.2.1)∧w5.cell? ⟨C,D + i * 8 + 3,none⟩=some (.string a.by_.2.2)∧w5.cell? ⟨C,D + i * 8 + 4,none⟩=some (.slice a.Ap a.p.length a.cp)∧w5.cell? ⟨C,D + i * 8 + 5,none⟩=some (.slice a.Ad a.d.length a.cd):=⟨(J.cell H).trans g1,(J.cell H).trans g2,(J.cell H).trans g3,(J.cell H).trans g4,(J.cell H).trans g5⟩;refine U _ _ b0 ?_;clear U K9;refine wpAnyH_done yaa ?_ _;go_wp2_with fail
       exact ⟨⟨i + 1,_,by go_num,by omega,V,hd.trans (G.below fun b q=>yas q T),aq.same (G.old gt Q)⟩,by simp [intOf];omega⟩
     have e0:(a.kind == 0)=false:=by simpa using k0
     by_cases k1:a.kind=1
     · have e1:(a.kind == 1)=true:=by simpa using k1
       obtain ⟨E,hE⟩:∃E,zaC (p15 f) s a.by_ a.text=E:=⟨_,rfl⟩;obtain ⟨_,_,x1,x2,_,_⟩:=zdt.1 a1;have m:=ao.define hG a.by_ a.text yab yab yab hE;go_upto_region 18 with (fail)
       have F:wr.drew.cell? ⟨C,D + i * 8 + 1,none⟩=some (.string a.by_.1)∧wr.drew.cell? ⟨C,D + i * 8 + 2,none⟩=some (.string a.by_.2.1)∧wr.drew.cell? ⟨C,D + i * 8 + 3,none⟩=some (.string a.by_.2.2)∧wr.drew.cell? ⟨C,D + i * 8 + 6,none⟩=some (.string a.text):=⟨g1,g2,g3,g6⟩;refine wp_region_held_drew (S:=fun W=>W.cell? ⟨C,D + i * 8 + 1,none⟩=some (.string a.by_.1)∧W.cell? ⟨C,D + i * 8 + 2,none⟩=some (.string a.by_.2.1)∧W.cell? ⟨C,D + i * 8 + 3,none⟩=some (.string a.by_.2.2)∧W.cell? ⟨C,D + i * 8 + 6,none⟩=some (.string a.text)) yaa F ?_;intro _;refine zaa 0 (some 93) F ?_ (hy:=zy4);refine zaa 1 (some 94) F ?_ (hy:=zy4);refine zaa 2 (some 95) F ?_ (hy:=zy4);refine zaa 3 (some 96) F ?_ (hy:=zy4);refine zaa 4 (some 97) F ?_ (hy:=zy4);refine zaa 5 (some 98) F ?_ (hy:=zy4);refine zaa 6 (some 99) F ?_ (hy:=zy4);refine zaa 7 (some 100) F ?_ (hy:=zy4);refine zaa 8 (some 101) F ?_ (hy:=zy4);refine zaa 9 (some 102) F ?_ (hy:=zy4);refine zaa 10 (some 103) F ?_ (hy:=zy4);refine zaS 11 rfl yaa fun K9 U=>?_;go_simp;refine (m).mono ?_;rintro e w5 ⟨rfl,V,G⟩;have M:Below w.heap.size wr.drew w5:=G.below (fun b q=>yas q T);have b1:w5.cell? ⟨C,D + i * 8 + 1,none⟩=some (.string a.by_.1)∧w5.cell? ⟨C,D + i * 8 + 2,none⟩=some (.string a.by_.2.1)∧w5.cell? ⟨C,D + i * 8 + 3,none⟩=some (.string a.by_.2.2)∧w5.cell? ⟨C,D + i * 8 + 6,none⟩=some (.string a.text):=⟨(M.cell H).trans g1,(M.cell H).trans g2,(M.cell H).trans g3,(M.cell H).trans g6⟩
       refine U _ _ b1 ?_;clear U K9;refine wpAnyH_done yaa ?_ _;go_wp2_with fail
       exact ⟨⟨i + 1,_,by go_num,by omega,V,hd.trans (G.below fun b q=>yas q T),aq.same (G.old gt Q)⟩,by simp [intOf];omega⟩
     have e1:(a.kind == 1)=false:=by simpa using k1
     by_cases k2:a.kind=2
     · have e2:(a.kind == 2)=true:=by simpa using k2
       obtain ⟨E,hE⟩:∃E,zbq s a.rev=E:=⟨_,rfl⟩;have m:=n.trim a.rev hE;go_wp2_with fail
       refine m.mono ?_;rintro e w5 ⟨rfl,V,G⟩;go_wp2_with fail
       exact ⟨⟨i + 1,_,by go_num,by omega,V,hb.trans (G.below fun b q=>yas q T),k.same (G.old gt Q)⟩,by simp [intOf];omega⟩
     have e2:(a.kind == 2)=false:=by simpa using k2
     go_wp2_with fail
     exact ⟨⟨i + 1,s,by go_num,by omega,n.idle,hb,k⟩,by simp [intOf];omega⟩
   · skip
     obtain rfl:i=l.length:=by omega
     have di:¬(((l.length:Nat):Int)<(l.length:Int)):=by omega
     have hr:=wf_i64k hr;by_cases h1:s.floor≤r;case neg =>
      have hk:zaw s r=false:=ya3.2 fun z=>h1 (zay.1 z).1;have aa:zaU s r=[]:=by unfold zaU;rw [yak (by omega)]
      have m:=n.sto.floor;go_wp2_with fail
      refine m.mono ?_;rintro e ab ⟨rfl,j⟩;replace n:=n.up j;replace k:=k.same (j.block gt k.lt);replace hb:=zac hb hb.size j;clear m j;have m:=n.sto.recNo zcC (r:=r) yab;unfold zk1 at m;go_wp2_with fail
      refine m.mono ?_;rintro e B ⟨rfl,j⟩;replace n:=n.up j;replace k:=k.same (j.block gt k.lt);replace hb:=zac hb hb.size j;clear m j;go_upto_region 23 with (fail)
      have j:=zaI B (.cells #[.int .i64 0,.string ⟨#[]⟩,.string ⟨#[]⟩,.string ⟨#[]⟩,.bool false,.slice none 0 0] 71);replace n:=n.up j;replace k:=k.same (j.block gt k.lt);replace hb:=zac hb hb.size j;generalize B.alloc (.cells #[.int .i64 0,.string ⟨#[]⟩,.string ⟨#[]⟩,.string ⟨#[]⟩,.bool false,.slice none 0 0] 71)=ac at *
      generalize B.heap.size=gq at *
      clear j;have m:=n.sto.kept r;rw [hk] at m;go_wp2_with fail
      refine m.mono ?_;rintro e ad ⟨rfl,j⟩;replace n:=n.up j;replace k:=k.same (j.block gt k.lt);replace hb:=zac hb hb.size j;clear m j;have m:=n.sto.tuples zcC r;rw [zbK hk] at m;simp only [zjP,yaE] at m;go_wp2_with fail
      refine m.mono ?_;rintro e ae ⟨⟨A6,c6,rfl,_⟩,j⟩;replace n:=n.up j;replace k:=k.same (j.block gt k.lt);replace hb:=zac hb hb.size j;clear m j;have m:=n.sto.changes zcC r hr;rw [aa] at m;simp only [yaE] at m;go_wp2_with fail
      refine m.mono ?_;rintro e b2 ⟨⟨A7,c7,rfl,_⟩,j⟩;replace n:=n.up j;replace k:=k.same (j.block gt k.lt);replace hb:=zac hb hb.size j;clear m j;have m:=n.sto.schema zcC r;rw [zbK hk] at m;go_wp2_with fail
      refine m.mono ?_;rintro e b4 ⟨⟨⟨af,ag,ah,ai,aj,b5,b6,b7,K2⟩,rfl,hK,L,I⟩,j⟩;replace n:=n.up j;replace k:=k.same (j.block gt k.lt);replace hb:=zac hb hb.size j;clear m j;clear L;have ak:K2=[]:=List.map_eq_nil_iff.1 (congrArg (fun z:Tb=>z.2.2) I);subst ak;clear I;unfold Tm.val;have m:=tlen_any (tx:=af) (Ay:=ag) (ny:=ai.length) (cy:=ah) (mb:=aj) hK;simp only [yaE] at m;go_wp2_with fail
      refine m.mono ?_;rintro e b8 ⟨rfl,j⟩;replace n:=n.up j;replace k:=k.same (j.block gt k.lt);replace hb:=zac hb hb.size j;clear m j hK;obtain ⟨c0,c1,c2,c3,c4,c5⟩:=k.c6t;have cl:=k.lt;have m:=n.sto.has zcC r u al;rw [zbK hk] at m;rw [show hasK (zjP:Rv Tb Nd15).keys (za4 u)=false from rfl] at m;unfold zgF at m;go_wp2_with fail
      refine m.mono ?_;rintro e b9 ⟨rfl,j⟩;replace n:=n.up j;replace k:=k.same (j.block gt k.lt);replace hb:=zac hb hb.size j;clear m j;go_wp2_with fail
      go_ret
      exact ⟨rfl,hb⟩
     by_cases h2:r≤revB s;case neg =>
      have hk:zaw s r=false:=ya3.2 fun z=>h2 (zay.1 z).2;have aa:zaU s r=[]:=by unfold zaU;rw [yak (by omega)]
      have m:=n.sto.floor;go_wp2_with fail
      refine m.mono ?_;rintro e ab ⟨rfl,j⟩;replace n:=n.up j;replace k:=k.same (j.block gt k.lt);replace hb:=zac hb hb.size j;clear m j;have m:=n.sto.rev;go_wp2_with fail
      refine m.mono ?_;rintro e ar ⟨rfl,j⟩;replace n:=n.up j;replace k:=k.same (j.block gt k.lt);replace hb:=zac hb hb.size j;clear m j;have m:=n.sto.recNo zcC (r:=r) yab;unfold zk1 at m;go_wp2_with fail
      refine m.mono ?_;rintro e B ⟨rfl,j⟩;replace n:=n.up j;replace k:=k.same (j.block gt k.lt);replace hb:=zac hb hb.size j;clear m j;go_upto_region 23 with (fail)
      have j:=zaI B (.cells #[.int .i64 0,.string ⟨#[]⟩,.string ⟨#[]⟩,.string ⟨#[]⟩,.bool false,.slice none 0 0] 71);replace n:=n.up j;replace k:=k.same (j.block gt k.lt);replace hb:=zac hb hb.size j;generalize B.alloc (.cells #[.int .i64 0,.string ⟨#[]⟩,.string ⟨#[]⟩,.string ⟨#[]⟩,.bool false,.slice none 0 0] 71)=ac at *
      generalize B.heap.size=gq at *
      clear j;have m:=n.sto.kept r;rw [hk] at m;go_wp2_with fail
      refine m.mono ?_;rintro e ad ⟨rfl,j⟩;replace n:=n.up j;replace k:=k.same (j.block gt k.lt);replace hb:=zac hb hb.size j;clear m j;have m:=n.sto.tuples zcC r;rw [zbK hk] at m;simp only [zjP,yaE] at m;go_wp2_with fail
      refine m.mono ?_;rintro e ae ⟨⟨A6,c6,rfl,_⟩,j⟩;replace n:=n.up j;replace k:=k.same (j.block gt k.lt);replace hb:=zac hb hb.size j;clear m j;have m:=n.sto.changes zcC r hr;rw [aa] at m;simp only [yaE] at m;go_wp2_with fail
      refine m.mono ?_;rintro e b2 ⟨⟨A7,c7,rfl,_⟩,j⟩;replace n:=n.up j;replace k:=k.same (j.block gt k.lt);replace hb:=zac hb hb.size j;clear m j;have m:=n.sto.schema zcC r;rw [zbK hk] at m;go_wp2_with fail
      refine m.mono ?_;rintro e b4 ⟨⟨⟨af,ag,ah,ai,aj,b5,b6,b7,K2⟩,rfl,hK,L,I⟩,j⟩;replace n:=n.up j;replace k:=k.same (j.block gt k.lt);replace hb:=zac hb hb.size j;clear m j;clear L;have ak:K2=[]:=List.map_eq_nil_iff.1 (congrArg (fun z:Tb=>z.2.2) I);subst ak;clear I;unfold Tm.val;have m:=tlen_any (tx:=af) (Ay:=ag) (ny:=ai.length) (cy:=ah) (mb:=aj) hK;simp only [yaE] at m;go_wp2_with fail
      refine m.mono ?_;rintro e b8 ⟨rfl,j⟩;replace n:=n.up j;replace k:=k.same (j.block gt k.lt);replace hb:=zac hb hb.size j;clear m j hK;obtain ⟨c0,c1,c2,c3,c4,c5⟩:=k.c6t;have cl:=k.lt;have m:=n.sto.has zcC r u al;rw [zbK hk] at m;rw [show hasK (zjP:Rv Tb Nd15).keys (za4 u)=false from rfl] at m;unfold zgF at m;go_wp2_with fail
      refine m.mono ?_;rintro e b9 ⟨rfl,j⟩;replace n:=n.up j;replace k:=k.same (j.block gt k.lt);replace hb:=zac hb hb.size j;clear m j;go_wp2_with fail
      go_ret
      exact ⟨rfl,hb⟩
     have hk:zaw s r=true:=zay.2 ⟨h1,h2⟩;by_cases h3:s.floor<r;case neg =>
      have m:=n.sto.floor;go_wp2_with fail
      refine m.mono ?_;rintro e ab ⟨rfl,j⟩;replace n:=n.up j;replace k:=k.same (j.block gt k.lt);replace hb:=zac hb hb.size j;clear m j;have m:=n.sto.rev;go_wp2_with fail
      refine m.mono ?_;rintro e ar ⟨rfl,j⟩;replace n:=n.up j;replace k:=k.same (j.block gt k.lt);replace hb:=zac hb hb.size j;clear m j;have m:=n.sto.recNo zcC (r:=r) yab;unfold zk1 at m;go_wp2_with fail
      refine m.mono ?_;rintro e B ⟨rfl,j⟩;replace n:=n.up j;replace k:=k.same (j.block gt k.lt);replace hb:=zac hb hb.size j;clear m j;go_upto_region 23 with (fail)
      have j:=zaI B (.cells #[.int .i64 0,.string ⟨#[]⟩,.string ⟨#[]⟩,.string ⟨#[]⟩,.bool false,.slice none 0 0] 71);replace n:=n.up j;replace k:=k.same (j.block gt k.lt);replace hb:=zac hb hb.size j;generalize B.alloc (.cells #[.int .i64 0,.string ⟨#[]⟩,.string ⟨#[]⟩,.string ⟨#[]⟩,.bool false,.slice none 0 0] 71)=ac at *
      generalize B.heap.size=gq at *
      clear j;have m:=n.sto.kept r;rw [hk] at m;go_wp2_with fail
      refine m.mono ?_;rintro e ad ⟨rfl,j⟩;replace n:=n.up j;replace k:=k.same (j.block gt k.lt);replace hb:=zac hb hb.size j;clear m j;have m:=n.sto.floor;go_wp2_with fail
      refine m.mono ?_;rintro e ae ⟨rfl,j⟩;replace n:=n.up j;replace k:=k.same (j.block gt k.lt);replace hb:=zac hb hb.size j;clear m j;go_wp2_with fail
      go_ret
      exact ⟨rfl,hb⟩
     have m:=n.sto.floor;go_wp2_with fail
     refine m.mono ?_;rintro e ab ⟨rfl,j⟩;replace n:=n.up j;replace k:=k.same (j.block gt k.lt);replace hb:=zac hb hb.size j;clear m j;have m:=n.sto.rev;go_wp2_with fail
     refine m.mono ?_;rintro e ar ⟨rfl,j⟩;replace n:=n.up j;replace k:=k.same (j.block gt k.lt);replace hb:=zac hb hb.size j;clear m j;have m:=n.sto.recYes zcC n.sz (r:=r) ⟨h3,h2⟩;unfold aRec at m;generalize (atB s r).by_=N at m;generalize (atB s r).schema=au at m;generalize (atB s r).wrote=av at m;go_wp2_with fail
     refine m.mono ?_;rintro e B ⟨⟨A6,c6,rfl,_⟩,j⟩;replace n:=n.up j;replace k:=k.same (j.block gt k.lt);replace hb:=zac hb hb.size j;clear m j;go_upto_region 23 with (fail)
     have j:=zaI B (.cells #[.int .i64 r,.string N.1,.string N.2.1,.string N.2.2,.bool au,.slice A6 av.length c6] 71);replace n:=n.up j;replace k:=k.same (j.block gt k.lt);replace hb:=zac hb hb.size j;generalize B.alloc (.cells #[.int .i64 r,.string N.1,.string N.2.1,.string N.2.2,.bool au,.slice A6 av.length c6] 71)=ac at *
     generalize B.heap.size=gq at *
     clear j;have m:=n.sto.kept r;rw [hk] at m;go_wp2_with fail
     refine m.mono ?_;rintro e ad ⟨rfl,j⟩;replace n:=n.up j;replace k:=k.same (j.block gt k.lt);replace hb:=zac hb hb.size j;clear m j;have m:=n.sto.floor;go_wp2_with fail
     refine m.mono ?_;rintro e ae ⟨rfl,j⟩;replace n:=n.up j;replace k:=k.same (j.block gt k.lt);replace hb:=zac hb hb.size j;clear m j;go_wp2_with fail
     go_ret
     exact ⟨rfl,hb⟩
end Go.Proofs.YtmblgnddgmfkhaaGreat
