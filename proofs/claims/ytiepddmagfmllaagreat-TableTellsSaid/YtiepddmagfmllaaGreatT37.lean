import Derived.Test.YtiepddmagfmllaaGreatT35
import Derived.Test.YtiepddmagfmllaaGreatT36
set_option maxRecDepth 100000
set_option maxHeartbeats 4000000
namespace Go.Proofs.YtiepddmagfmllaaGreat
open Go.RowKit
def zca (l:List zb7):ByteArray:=if l.length=0 then ⟨#[]⟩ else ⟨#[32]⟩ ++ zij l
theorem zil (sep:ByteArray) (x:ByteArray):∀l:List ByteArray,zey sep (l ++ [x])=zey sep l ++ (sep ++ x)
 | []=>by
  show sep ++ x ++ ⟨#[]⟩=⟨#[]⟩ ++ (sep ++ x);rw [zbC,zfo]
 | y::r=>by
  show sep ++ y ++ zey sep (r ++ [x])=sep ++ y ++ zey sep r ++ (sep ++ x);rw [zil sep x r,zaK (sep ++ y)]
theorem zkW (l:List zb7) (s:zb7):zca (l ++ [s])=zca l ++ (if l.length=0 then ⟨#[32]⟩ ++ zd9 s else ⟨#[44]⟩ ++ (⟨#[32]⟩ ++ zd9 s)):=by
 have h:zca (l ++ [s])=⟨#[32]⟩ ++ zij (l ++ [s]):=if_neg (by simp);rw [h];cases l with
 | nil =>
  show ⟨#[32]⟩ ++ (zd9 s ++ ⟨#[]⟩)=⟨#[]⟩ ++ (⟨#[32]⟩ ++ zd9 s);rw [zbC,zfo]
 | cons y r =>
  rw [if_neg (by simp)];have h2:zca (y::r)=⟨#[32]⟩ ++ zij (y::r):=if_neg (by simp);rw [h2];show ⟨#[32]⟩ ++ (zd9 y ++ zey ⟨#[44,32]⟩ ((r ++ [s]).map zd9))=⟨#[32]⟩ ++ (zd9 y ++ zey ⟨#[44,32]⟩ (r.map zd9)) ++ _;rw [List.map_append,show [s].map zd9=[zd9 s] from rfl,zil];have e:(⟨#[44,32]⟩:ByteArray)=⟨#[44]⟩ ++ ⟨#[32]⟩:=by decide +kernel
  rw [e];simp only [zaK]
def hdR (x:RelP):ByteArray:=(⟨#[9,114,101,108,32]⟩:ByteArray) ++ x.name ++ ⟨#[32,40]⟩ ++ x.view ++ ⟨#[44,32]⟩ ++ x.edit ++ ⟨#[44,32]⟩ ++ x.check ++ ⟨#[41,58]⟩
theorem hdR_eq (x:RelP):hdR x=⟨#[9]⟩ ++ zgV x:=by
 have e:(⟨#[9,114,101,108,32]⟩:ByteArray)=⟨#[9]⟩ ++ ⟨#[114,101,108,32]⟩:=by decide +kernel
 unfold hdR zgV;rw [e];simp only [zaK]
theorem lineR (x:RelP):zbm x=(if zcx x.ops=true then hdR x ++ zca x.subs else hdR x ++ zca x.subs ++ (⟨#[32,105,115,32]⟩ ++ ziv x.ops)) ++ ⟨#[59,10]⟩:=by
 have hw:⟨#[9]⟩ ++ zk5 x=hdR x ++ zca x.subs:=by
  rw [hdR_eq];unfold zk5 zca;split
  · rw [zbC]
  · rw [zaK]
 have e:(⟨#[59,10]⟩:ByteArray)=⟨#[59]⟩ ++ ⟨#[10]⟩:=by decide +kernel
 unfold zbm relS;rw [e];split
 · rw [←hw];simp only [zaK]
 · rw [←hw];simp only [zaK]
structure TreeR (x:RelP):Prop where
 tree:∃t:Ex,x.ops=t.ops∧t.good∧t.sml
theorem zkg {t:Ex}:zcx t.ops=(!(decide (1<t.ops.length) || decide (1<((t.ops.headD (0,⟨#[]⟩,⟨#[]⟩)).1)))):=by
 cases t with
 | bin k a b =>
  have h:1<(Ex.bin k a b).ops.length:=by
   rw [Ex.ops_bin];have:=a.ops_pos;omega
  have h2:zcx (Ex.bin k a b).ops=false:=by
   generalize (Ex.bin k a b).ops=l at *
   rcases l with _ | ⟨x,_ | ⟨y,r⟩⟩
   · rfl
   · exact absurd h (by simp)
   · rfl
  rw [h2,decide_eq_true h];rfl
 | _=>rfl
theorem rshow_any {w:World} {B:Nat} {A:Option Addr} {c:Nat} {T:List TypP} (hv:NDVTyps B w (.slice A T.length c) T) (hT:T.length≤1000000) (hs:∀t ∈ T,SmlT t) (htr:∀t ∈ T,∀x ∈ t.rels,TreeR x) (hz:(zbN T).size≤90000000000000) :
 Calls Tryz.prog 34 #[.slice A T.length c] w fun e w'=>e = .returned (.string (zbN T))∧Below w.heap.size w w':=by
 have HS:=Lib.hid hs;have HTR:=Lib.hid htr;have hvz:∀t i,T[i]? = some t→∃g vr,A=some ⟨g,0,none⟩∧g<w.heap.size∧NDVRels B w vr t.rels∧w.cell? ⟨g,i * 2,none⟩=some (.string t.name)∧w.cell? ⟨g,i * 2 + 1,none⟩=some vr:=by
  intro t i hi;obtain ⟨g,c2,vr,e1,hr,g0,g1⟩:=hv.get hi;cases e1;exact ⟨g,vr,rfl,World.block_lt_of_cell? _ _ g0,hr,g0,g1⟩
 have HV:=Lib.hid hvz;clear hv hvz hs htr;go_enter Tryz.func34,Tryz.ntmps34
 go_wp2_with fail
 go_loopw [3,4] (fun vs vi wr=>∃i:Nat,vi = .int .i64 i∧i≤T.length∧vs = .string (zba ((T.take i).map zeA))∧Below w.heap.size w wr) (fun _ vi _=>T.length-(intOf vi).toNat)
 case atStart=>exact ⟨0,rfl,Nat.zero_le _,rfl,Below.refl _ _⟩
 case round =>
  obtain ⟨i,rfl,hi,rfl,hb⟩:=hrel;have hz1:=hb.size;by_cases hil:i<T.length
  · obtain ⟨t,ht⟩:∃t,T[i]? = some t:=⟨T[i],List.getElem?_eq_getElem hil⟩;obtain ⟨hn,hr1,hr2⟩:=HS.out t (List.mem_of_getElem? ht);have htt:=HTR.out t (List.mem_of_getElem? ht);obtain ⟨hc1,hc2⟩:=zjm zeA ht;obtain ⟨g,vr,rfl,hg,hr,g0,g1⟩:=HV.out t i ht;obtain ⟨Ar,cr,rfl,_⟩:=Rd.own hr.choose_spec.1;have q0:=(hb.cell (p:=⟨g,i * 2,none⟩) hg).trans g0;have q1:=(hb.cell (p:=⟨g,i * 2 + 1,none⟩) hg).trans g1;have hdi:(i:Int)<(T.length:Nat):=by omega
    have hzt:(zbN T).size=(zba (T.map zeA)).size:=rfl;have HT:Hid (zk0 t=(⟨#[116,121,112,101,32]⟩:ByteArray) ++ t.name ++ ⟨#[32,123,10]⟩):=Lib.hid rfl;have htz:(zeA t).size=(zk0 t).size + (zba (t.rels.map zbm)).size + 2:=by unfold zeA;rw [size_app,size_app];rfl
    obtain ⟨Q,hQ⟩:∃q,zba ((T.take i).map zeA)=q:=⟨_,rfl⟩;rw [hQ] at hc2 ⊢;have hqz:Q.size≤90000000000000:=by omega
    obtain ⟨P,hP⟩:∃p,Q ++ zk0 t=p:=⟨_,rfl⟩;have hPz:P.size + (zba (t.rels.map zbm)).size + 2≤(zbN T).size:=by
     rw [←hP,size_app];omega
    have HTY:Hid (P ++ zba (t.rels.map zbm) ++ ⟨#[125,10]⟩=zba ((T.take (i + 1)).map zeA)):=Lib.hid (by
     rw [hc1,hQ,←hP];unfold zeA;simp only [zaK])
    have HP:=Lib.hid hP;have hP2:=hP;rw [HT.out] at hP2;have HP2:=Lib.hid hP2;clear hP hP2 hQ hc1 hc2 htz;have hgo:(zbN T).size≤90000000000000:=hz;go_upto_region 6 with (fail)
    rw [HP2.out];clear hqz;go_wp2_with fail
    go_loopw [3,5] (fun vs vk wy=>∃k:Nat,vk = .int .i64 k∧k≤t.rels.length∧vs = .string (P ++ zba ((t.rels.take k).map zbm))∧Below w.heap.size w wy) (fun _ vk _=>t.rels.length-(intOf vk).toNat)
    case atStart=>exact ⟨0,rfl,Nat.zero_le _,(by rw [show zba ((t.rels.take 0).map zbm)=⟨#[]⟩ from rfl,zbC]),hb⟩
    case round =>
     clear q0 q1 hb;obtain ⟨k,rfl,hk,rfl,hb⟩:=hrel;have hz2:=hb.size;have q0:=(hb.cell (p:=⟨g,i * 2,none⟩) hg).trans g0;have q1:=(hb.cell (p:=⟨g,i * 2 + 1,none⟩) hg).trans g1;by_cases hkl:k<t.rels.length
     · obtain ⟨x,hx⟩:∃x,t.rels[k]? = some x:=⟨t.rels[k],List.getElem?_eq_getElem hkl⟩;have hsx:=hr2 x (List.mem_of_getElem? hx);obtain ⟨tx,hto,htg,hts⟩:=(htt x (List.mem_of_getElem? hx)).tree;have HTO:=Lib.hid hto;clear hto;obtain ⟨hd1,hd2⟩:=zjm zbm hx;obtain ⟨gr,c3,vs,vo,e1,hs,ho,r0,r1,r2,r3,r4,r5⟩:=hr.get hx;cases e1;obtain ⟨As,cS,rfl,rs⟩:=Rd.own hs;obtain ⟨Ao,cO,rfl,ro⟩:=Rd.own ho;have hgr:=World.block_lt_of_cell? _ _ r0;dsimp only at hgr;have s0:=(hb.cell (p:=⟨gr,k * 6,none⟩) hgr).trans r0;have s1:=(hb.cell (p:=⟨gr,k * 6 + 1,none⟩) hgr).trans r1;have s2:=(hb.cell (p:=⟨gr,k * 6 + 2,none⟩) hgr).trans r2;have s3:=(hb.cell (p:=⟨gr,k * 6 + 3,none⟩) hgr).trans r3;have s4:=(hb.cell (p:=⟨gr,k * 6 + 4,none⟩) hgr).trans r4;have s5:=(hb.cell (p:=⟨gr,k * 6 + 5,none⟩) hgr).trans r5;have hdk:(k:Int)<(t.rels.length:Nat):=by omega
       have h1:=hsx.name;have h2:=hsx.view;have h3:=hsx.edit;have h4:=hsx.check;have h7:=hsx.subs.1;have hN:=hsx.subs.2;have h8:=hsx.ops.1;have HLN:=Lib.hid (lineR x);obtain ⟨P1,hP1⟩:∃p,P ++ zba ((t.rels.take k).map zbm)=p:=⟨_,rfl⟩;rw [hP1];have hP1z:P1.size + (zbm x).size≤90000000000000:=by
        rw [←hP1,size_app];omega
       have HNX:Hid (P1 ++ zbm x=P ++ zba ((t.rels.take (k + 1)).map zbm)):=Lib.hid (by rw [hd1,←hP1,zaK]);have hal:Below wr.heap.size wr (wr.alloc (.cells #[.string x.name,.string x.view,.string x.edit,.string x.check,.slice As x.subs.length cS,.slice Ao x.ops.length cO] 48)):=(Below.refl _ wr).alloc (Nat.le_refl _) _;have hb2:=hb.trans (hal.mono hz2);have hbx:=Bk.new wr #[.string x.name,.string x.view,.string x.edit,.string x.check,.slice As x.subs.length cS,.slice Ao x.ops.length cO] 48;have z0:=hbx.cell 0;have z1:=hbx.cell 1;have z2:=hbx.cell 2;have z3:=hbx.cell 3;have z4:=hbx.cell 4;have z5:=hbx.cell 5;have lz:=hbx.lt;have hrs:=(rs.below hb2).more hb2.size;have hro:=(ro.below hb2).more hb2.size;have HH:Hid (hdR x=(⟨#[9,114,101,108,32]⟩:ByteArray) ++ x.name ++ ⟨#[32,40]⟩ ++ x.view ++ ⟨#[44,32]⟩ ++ x.edit ++ ⟨#[44,32]⟩ ++ x.check ++ ⟨#[41,58]⟩):=Lib.hid rfl;clear hs ho rs ro r0 r1 r2 r3 r4 r5 hal hbx hP1;have hP1s:P1.size≤90000000000000:=by omega
       go_upto_region 11 with (fail)
       rw [←HH.out];obtain ⟨P2,hP2'⟩:∃p,P1 ++ hdR x=p:=⟨_,rfl⟩;rw [hP2'];generalize wr.alloc (.cells #[.string x.name,.string x.view,.string x.edit,.string x.check,.slice As x.subs.length cS,.slice Ao x.ops.length cO] 48)=W at *
       have hP2z:P2.size≤91000000000000:=by
        rw [←hP2',size_app,hdR_eq,size_app];have:=(zeD hsx).1;show P1.size + (1 + _)≤_;omega
       have HL2:Hid (∀b,zcx x.ops=b→(if b=true then P2 ++ zca x.subs else P2 ++ zca x.subs ++ (⟨#[32,105,115,32]⟩ ++ ziv x.ops)) ++ ⟨#[59,10]⟩=P1 ++ zbm x):=Lib.hid (by
        intro b hbq;rw [HLN.out,hbq,←hP2'];cases b <;> simp only [Bool.false_eq_true,↓reduceIte,zaK])
       have hsz9:=zdE hN;have hsz10:=zfs hsx.ops.2;clear s0 s1 s2 s3 s4 s5 z0 z1 z2 z3 hP2' hP1z hP1s q0 q1 hsx;go_wp2_with fail
       go_loopw [3,7] (fun vs vj wz=>∃j:Nat,vj = .int .i64 j∧j≤x.subs.length∧vs = .string (P2 ++ zca (x.subs.take j))∧wz=W) (fun _ vj _=>x.subs.length-(intOf vj).toNat)
       case atStart=>exact ⟨0,rfl,Nat.zero_le _,(by rw [show zca (x.subs.take 0)=⟨#[]⟩ from rfl,zbC]),rfl⟩
       case round =>
        obtain ⟨j,rfl,hj,rfl,rfl⟩:=hrel;by_cases hjl:j<x.subs.length
        · obtain ⟨s,hsj⟩:∃s,x.subs[j]? = some s:=⟨x.subs[j],List.getElem?_eq_getElem hjl⟩;obtain ⟨sz1,sz2⟩:=hN s (List.mem_of_getElem? hsj);obtain ⟨bs,fs,rfl,hbs,hcs⟩:=hrs.at_ (by omega);obtain ⟨e0,e1⟩:=zcT x.subs j s hsj;have y0:=hcs _ _ e0;have y1:World.cell? _ ⟨bs,fs + j * 2 + 1,none⟩=some (.string s.2):=hcs _ _ e1;have hdj:(j:Int)<(x.subs.length:Nat):=by omega
          have htk:(x.subs.take j).length=j:=by rw [List.length_take];omega
          have hsn:=zkW (x.subs.take j) s;rw [←zdU hsj,htk] at hsn;have hsub:(zca (x.subs.take j)).size≤1000000000:=by
           unfold zca;split
           · exact Nat.zero_le _
           · rw [size_app];have:=zdE (l:=x.subs.take j) fun y hy=>hN y (List.mem_of_mem_take hy);rw [htk] at this;show 1 + _≤_;omega
          have HZ:Hid (∀b:Bool,decide (j=0)=b→∀c:Bool,s.2.toList.isEmpty=c→P2 ++ zca (x.subs.take (j + 1))=(if b=true then P2 ++ zca (x.subs.take j) else P2 ++ zca (x.subs.take j) ++ ⟨#[44]⟩) ++ (⟨#[32]⟩ ++ s.1) ++ (if c=true then ⟨#[]⟩ else ⟨#[35]⟩ ++ s.2)):=Lib.hid (by
           intro b hb' c hc';have hss:zd9 s=s.1 ++ (if c=true then ⟨#[]⟩ else ⟨#[35]⟩ ++ s.2):=by
            unfold zd9;rw [←hc'];rcases Nat.eq_zero_or_pos s.2.size with h | h
            · rw [if_pos (zg9 h),if_pos (by rw [zg9 h];decide +kernel),zbC]
            · rw [if_neg (fun e=>by rw [e] at h;exact absurd h (by decide)),if_neg (by rw [zg5 h];decide),zaK]
           rw [hsn,hss];cases b with
           | true=>rw [if_pos (of_decide_eq_true hb'),if_pos rfl];simp only [zaK]
           | false=>rw [if_neg (of_decide_eq_false hb')];simp only [Bool.false_eq_true,↓reduceIte,zaK])
          have hZz:(P2 ++ zca (x.subs.take j)).size≤92000000000000:=by rw [size_app];omega
          clear hsn hsub htk hcs;generalize P2 ++ zca (x.subs.take j)=Z at *
          by_cases h0:j=0
          · have d0:¬(0:Int)<(j:Nat):=by omega
            have HJ:=Lib.hid h0;clear h0;cases he:s.2.toList.isEmpty with
            | true =>
             go_wp2_with fail
             refine ⟨⟨j + 1,by go_num,by omega,?_,trivial⟩,?_⟩
             · rw [HZ.out _ (decide_eq_true HJ.out) _ he,if_pos rfl,if_pos rfl,zbC]
             · simp only [intOf];omega
            | false =>
             go_wp2_with fail
             refine ⟨⟨j + 1,by go_num,by omega,?_,trivial⟩,?_⟩
             · rw [HZ.out _ (decide_eq_true HJ.out) _ he,if_pos rfl,if_neg (by decide)]
             · simp only [intOf];omega
          · have d0:(0:Int)<(j:Nat):=by omega
            have HJ:=Lib.hid h0;clear h0;cases he:s.2.toList.isEmpty with
            | true =>
             go_wp2_with fail
             refine ⟨⟨j + 1,by go_num,by omega,?_,trivial⟩,?_⟩
             · rw [HZ.out _ (decide_eq_false HJ.out) _ he,if_neg (by decide),if_pos rfl,zbC]
             · simp only [intOf];omega
            | false =>
             go_wp2_with fail
             refine ⟨⟨j + 1,by go_num,by omega,?_,trivial⟩,?_⟩
             · rw [HZ.out _ (decide_eq_false HJ.out) _ he,if_neg (by decide),if_neg (by decide)]
             · simp only [intOf];omega
        · obtain rfl:j=x.subs.length:=by omega
          have hdj:¬(x.subs.length:Int)<(x.subs.length:Nat):=by omega
          rw [List.take_length];have hsub:(zca x.subs).size≤1000000000:=by
           unfold zca;split
           · exact Nat.zero_le _
           · rw [size_app];show 1 + _≤_;omega
          have hZz:(P2 ++ zca x.subs).size≤92000000000000:=by rw [size_app];omega
          have hat:=zkg (t:=tx);rw [←HTO.out] at hat;have hpos:1≤x.ops.length:=by rw [HTO.out];exact tx.ops_pos
          obtain ⟨o0,ho0⟩:∃o,x.ops[0]? = some o:=⟨x.ops[0],List.getElem?_eq_getElem hpos⟩;have hhd:x.ops.headD (0,⟨#[]⟩,⟨#[]⟩)=o0:=by
           cases hq:x.ops with
           | nil=>rw [hq] at ho0;cases ho0
           | cons a r=>rw [hq] at ho0;injection ho0
          rw [hhd] at hat;obtain ⟨bo,fo,eA,hbo,hco⟩:=hro.at_ (by omega);have w0:World.cell? _ ⟨bo,fo,none⟩=some (.int .i64 (o0.1:Nat)):=hco 0 _ (by have:=(ocells_at x.ops 0 o0 ho0).1;rwa [Nat.zero_mul] at this);have hrt:ziv x.ops=tx.text:=by rw [HTO.out];exact zmt tx htg
          have kr:∀W,Rd W W.heap.size 3 Ao x.ops.length cO (ocells x.ops)→Calls Tryz.prog 72 #[.slice Ao x.ops.length cO] W fun e w'=>e = .returned (.string (ziv x.ops))∧Below W.heap.size W w':=fun W hW=>by
           rw [hrt,HTO.out];rw [HTO.out] at hW;exact zid tx htg hts hW (by rw [←HTO.out];exact h8)
          have HQ:Hid (∀b,zcx x.ops=b→(if b=true then P2 ++ zca x.subs else P2 ++ zca x.subs ++ (⟨#[32,105,115,32]⟩ ++ ziv x.ops)) ++ ⟨#[59,10]⟩=P ++ zba ((t.rels.take (k + 1)).map zbm)):=Lib.hid fun b hbq=>by rw [HL2.out b hbq,HNX.out]
          subst eA;clear hco hhd ho0 hrt hrs HL2 HNX;generalize P2 ++ zca x.subs=Z at *
          generalize ziv x.ops=RW at *
          by_cases hn1:1<x.ops.length
          · have d1:(1:Int)<(x.ops.length:Nat):=by omega
            have hal:zcx x.ops=false:=by rw [hat,decide_eq_true hn1];rfl
            have HQ2:=Lib.hid (HQ.out _ hal);simp only [Bool.false_eq_true,↓reduceIte] at HQ2;clear hat hal hn1;go_wp2_with fail
            refine (kr _ hro).mono ?_;rintro e V ⟨rfl,hV⟩;go_wp2_with fail
            refine ⟨⟨k + 1,by go_num,by omega,by rw [HQ2.out],hb2.trans (hV.mono hb2.size)⟩,?_⟩;simp only [intOf];omega
          · have d1:¬(1:Int)<(x.ops.length:Nat):=by omega
            by_cases hk1:1<o0.1
            · have d2:(1:Int)<(o0.1:Nat):=by omega
              have hal:zcx x.ops=false:=by rw [hat,decide_eq_true hk1,Bool.or_true];rfl
              have HQ2:=Lib.hid (HQ.out _ hal);simp only [Bool.false_eq_true,↓reduceIte] at HQ2;clear hat hal hn1 hk1;go_wp2_with fail
              refine (kr _ hro).mono ?_;rintro e V ⟨rfl,hV⟩;go_wp2_with fail
              refine ⟨⟨k + 1,by go_num,by omega,by rw [HQ2.out],hb2.trans (hV.mono hb2.size)⟩,?_⟩;simp only [intOf];omega
            · have d2:¬(1:Int)<(o0.1:Nat):=by omega
              have hal:zcx x.ops=true:=by rw [hat,decide_eq_false hn1,decide_eq_false hk1];rfl
              have HQ2:=Lib.hid (HQ.out _ hal);simp only [↓reduceIte] at HQ2;clear hat hal hn1 hk1;go_wp2_with fail
              refine ⟨⟨k + 1,by go_num,by omega,by rw [HQ2.out],hb2⟩,?_⟩;simp only [intOf];omega
     · obtain rfl:k=t.rels.length:=by omega
       have hdk:¬(t.rels.length:Int)<(t.rels.length:Nat):=by omega
       rw [List.take_length];have hPs:(P ++ zba (t.rels.map zbm)).size≤90000000000000:=by rw [size_app];omega
       have HTY2:=HTY;generalize P ++ zba (t.rels.map zbm)=PP at *
       go_wp2_with fail
       refine ⟨⟨i + 1,by go_num,by omega,by rw [HTY2.out],hb⟩,?_⟩;simp only [intOf];omega
  · obtain rfl:i=T.length:=by omega
    have hdi:¬(T.length:Int)<(T.length:Nat):=by omega
    rw [List.take_length,show zba (T.map zeA)=zbN T from rfl];go_wp2_with fail
    go_returns
    exact ⟨rfl,hb⟩
end Go.Proofs.YtiepddmagfmllaaGreat
namespace Go.Proofs.YtiepddmagfmllaaGreat
theorem few8 (s:ByteArray):Few 2049 (zaf s).1:=by
 by_cases h0:(zbP s).2.1=0
 · have hz:=zfi h0;obtain ⟨v,e0,eA⟩:=zfj hz h0;refine zh6 ?_;rw [eA];have:=zhx _ s 0 (Nat.le_refl _);omega
 · unfold zaf;rw [if_neg h0];exact ⟨Nat.zero_le _,fun t ht=>by cases ht⟩
theorem NmW.size {n:ByteArray} (h:NmW n):n.size≤1000:=Nat.le_trans (zfS h.1) (by decide)
theorem ziZ:∀t:Ex,t.nm→t.sml∧∀o ∈ t.ops,o.2.1.size≤1000∧o.2.2.size≤1000
 | .this,_=>⟨trivial,fun o ho=>by rw [List.mem_singleton.1 ho];exact ⟨Nat.zero_le _,Nat.zero_le _⟩⟩
 | .same n,h=>by
  have h2:NmW n:=h;exact ⟨h2.size,fun o ho=>by rw [List.mem_singleton.1 ho];exact ⟨h2.size,Nat.zero_le _⟩⟩
 | .via n m,h=>⟨⟨h.1.size,h.2.size⟩,fun o ho=>by rw [List.mem_singleton.1 ho];exact ⟨h.1.size,h.2.size⟩⟩
 | .bin k a b,h=>by
  obtain ⟨a1,a2⟩:=ziZ a h.1;obtain ⟨b1,b2⟩:=ziZ b h.2;refine ⟨⟨a1,b1⟩,fun o ho=>?_⟩;rcases List.mem_append.1 ho with ho | ho
  · rcases List.mem_append.1 ho with ho | ho
    · exact a2 o ho
    · exact b2 o ho
  · rw [List.mem_singleton.1 ho];exact ⟨Nat.zero_le _,Nat.zero_le _⟩
theorem sml_rel {x:RelP} (g:RelG x) (f:FewR 2049 x):Sml x∧TreeR x∧(zbm x).size≤10300000:=by
 obtain ⟨t,h1,h2,h3,h4⟩:=g.ops;obtain ⟨s1,s2⟩:=ziZ t h3;have hs:Sml x:=⟨g.name.size,g.view.size,g.edit.size,g.check.size,⟨Nat.le_trans f.1 (by decide),fun s hs=>⟨(g.subs s hs).1.size,by
  rcases (g.subs s hs).2 with e | e
  · rw [e];exact Nat.zero_le _
  · exact e.size⟩⟩,⟨Nat.le_trans f.2 (by decide),fun o ho=>by rw [h1] at ho;exact s2 o ho⟩⟩
 refine ⟨hs,⟨t,h1,h2,s1⟩,?_⟩;have w:=(zeD hs).2;have r:=zfs hs.ops.2;have f1:=f.1;have f2:=f.2;have:(relS x).size≤(zk5 x).size + 4 + (ziv x.ops).size + 1:=by
  unfold relS;rw [size_app];split
  · show _ + 1≤_;omega
  · rw [size_app,size_app];show _ + (4 + _) + 1≤_;omega
 unfold zbm;rw [size_app,size_app];show 1 + _ + 1≤_;omega
theorem zgO {α:Type} (f:α→ByteArray) (N:Nat):∀l:List α,(∀x ∈ l,(f x).size≤N)→(zba (l.map f)).size≤l.length * N
 | [],_=>Nat.zero_le _
 | x::r,h=>by
  have h1:=h x List.mem_cons_self;have h2:=zgO f N r fun y hy=>h y (List.mem_cons_of_mem _ hy);show (f x ++ zba (r.map f)).size≤_;rw [size_app,List.length_cons,Nat.succ_mul];omega
structure Shw (T:List TypP):Prop where
 len:T.length≤1000000
 few:Few 1000000 T
 sml:∀t ∈ T,SmlT t
 tree:∀t ∈ T,∀x ∈ t.rels,TreeR x
 size:(zbN T).size≤90000000000000
theorem zjX (s:ByteArray):Shw (zaf s).1:=by
 have hf:=few8 s;have hg:=zc1 s;generalize (zaf s).1=T at *
 have hr:∀t ∈ T,∀x ∈ t.rels,Sml x∧TreeR x∧(zbm x).size≤10300000:=fun t ht x hx=>sml_rel ((hg t ht).rels x hx) ((hf.2 t ht).2 x hx);refine ⟨Nat.le_trans hf.1 (by decide),⟨Nat.le_trans hf.1 (by decide),fun t ht=>⟨Nat.le_trans (hf.2 t ht).1 (by decide),fun x hx=>((hf.2 t ht).2 x hx).up (by decide)⟩⟩,fun t ht=>⟨(hg t ht).name.size,Nat.le_trans (hf.2 t ht).1 (by decide),fun x hx=>(hr t ht x hx).1⟩,fun t ht x hx=>(hr t ht x hx).2.1,?_⟩;have h1:∀t ∈ T,(zeA t).size≤21200000000:=fun t ht=>by
  have h2:=zgO zbm 10300000 t.rels fun x hx=>(hr t ht x hx).2.2;have h3:=(hf.2 t ht).1;have h4:=(hg t ht).name.size;have h5:t.rels.length * 10300000≤2049 * 10300000:=Nat.mul_le_mul_right _ h3;unfold zeA zk0;rw [size_app,size_app,size_app,size_app];show 5 + _ + 3 + _ + 2≤_;omega
 have h2:=zgO zeA 21200000000 T h1;have h3:T.length * 21200000000≤2049 * 21200000000:=Nat.mul_le_mul_right _ hf.1;show (zba (T.map zeA)).size≤_;omega
end Go.Proofs.YtiepddmagfmllaaGreat
namespace Go.Proofs.YtiepddmagfmllaaGreat
open Go.RowKit
inductive RIs (s:ByteArray):Nat→List TypI→List Int→Prop
 | parse (e:Nat) (h:(zaf s).2.1=e) (h0:e≠0):RIs s e [] []
 | check (e:Nat) (h1:(zaf s).2.1=0) (h:(zbb ((zaf s).1.map za5)).1=e) (h0:e≠0):RIs s e [] []
 | cyc (h1:(zaf s).2.1=0) (hR:Right ((zaf s).1.map za5)) (hc:Cyc (zaN ((zaf s).1.map za5))):RIs s 33 [] []
 | long (h1:(zaf s).2.1=0) (hR:Right ((zaf s).1.map za5)) (hc:¬Cyc (zaN ((zaf s).1.map za5))) (hz:2048<(zbN (zaf s).1).size):RIs s 13 [] []
 | ok (h1:(zaf s).2.1=0) (hR:Right ((zaf s).1.map za5)) (hc:¬Cyc (zaN ((zaf s).1.map za5))) (v:List Int) (hv:v.length=(zaz ((zaf s).1.map za5)).length) (hL:∀o,Least v.length (zaN ((zaf s).1.map za5)) o→∀i,i<v.length→zaL v i=o i) (hz:(zbN (zaf s).1).size≤2048) :
  RIs s 0 ((zaf s).1.map za5) v
def zk6 (s:ByteArray) (w:World) (e:Ending) (w':World):Prop :=
 (∃(err:Nat) (A:Option Addr) (c:Nat) (l:List TypA) (AL:Option Addr) (cL:Nat) (v:List Int),e = .returned (.tuple #[.agg #[.slice A l.length c,.slice AL v.length cL],.int .i64 err])∧SchA w' 140737488351232 A c l∧Rd w' w'.heap.size 1 AL v.length cL (lvs v)∧RIs s err (l.map TypA.says) v ∧
  (∃B,NDVTyps B w' (.slice A l.length c) (if err=0 then (zaf s).1 else [])))∧Below w.heap.size w w'
theorem SchA.none_ (w:World) (R:Nat):SchA w R none 0 []:=⟨Rd.none_ _ _ _,Nat.zero_le _,fun a ha=>by cases ha⟩
theorem zmD {w w0:World} {B b:Nat} {t:TypeId} {x0 x1:Value} (h:Bk w0 b #[x0,x1] t) (hb:Below B w w0) (hB:B≤b) (v0 v1:Value) :
 Bk ((w0.setCell ⟨b,0,none⟩ v0).setCell ⟨b,1,none⟩ v1) b #[v0,v1] t∧Below B w ((w0.setCell ⟨b,0,none⟩ v0).setCell ⟨b,1,none⟩ v1) :=
 ⟨by
  have hw:=(h.set 0 v0).set 1 v1;simp only [List.setIfInBounds_toArray,List.set_cons_zero,List.set_cons_succ] at hw;exact hw,(hb.setCell hB _).setCell hB _⟩
theorem zfr (w:World):Rd w w.heap.size 1 none 0 0 (lvs []):=Rd.none_ _ _ _
theorem rcomp_any (s:ByteArray) (hs:s.size≤1000000) (w:World):Calls Tryz.prog 6 #[.string s] w (zk6 s w):=by
 obtain ⟨T,ea,pa,ha⟩:∃T e p,zaf s=(T,e,p):=⟨_,_,_,rfl⟩;have kp:=fun W=>rparse_any s W (by simp only [maxLen];omega);have hT:(zaf s).1=T:=by rw [ha]
 have hE1:(zaf s).2.1=ea:=by rw [ha]
 have hsm:=zeW s;have hsf:=zhv s;have hss:=zjY s;rw [ha] at kp;rw [hT] at hsm hsf hss;replace hT:=Lib.hid hT;replace hE1:=Lib.hid hE1;clear ha;have hbr:=zfb w (.cells #[.slice none 0 0,.slice none 0 0] 34);have hres:=Bk.new w #[.slice none 0 0,.slice none 0 0] 34;go_enter Tryz.func6,Tryz.ntmps6
 go_upto_region 1 with (fail)
 generalize w.alloc (.cells #[.slice none 0 0,.slice none 0 0] 34)=w0 at *
 have hlt0:w.heap.size<w0.heap.size:=hres.lt;unfold zkf at kp;go_upto_region 2 with (go_at_call 30;refine (kp _).mono ?_;rintro e w2 ⟨vt,rfl,hv,hb1⟩)
 obtain ⟨A,c,rfl⟩:∃A c,vt = .slice A T.length c:=by
  obtain ⟨xs,h1,_⟩:=hv;obtain ⟨A,c,e,_⟩:=Rd.own h1;exact ⟨A,c,e⟩
 obtain ⟨l,hl,hsc⟩:=hv.sch (R:=140737488351232) hsf hsm;have hn:l.length=T.length:=by have:=congrArg List.length hl;rwa [List.length_map,List.length_map] at this
 have hb:=zah hbr hbr.size hb1;replace hres:=hres.below hb1;clear hbr hb1 kp;rw [←hn];replace hn:=Lib.hid hn;replace hl:=Lib.hid hl;have hE1':=hE1.out;by_cases he:ea=0
 · subst he;have kc:=check9_any hsc (Nat.le_refl _);obtain ⟨E,hE⟩:∃E,zbb (l.map TypA.says)=E:=⟨_,rfl⟩;rw [hE] at kc;replace hE:=Lib.hid hE;go_upto_region 5 with (go_at_call 31;refine kc.mono ?_;rintro e w4 ⟨rfl,hb1⟩)
   replace hsc:=hsc.up hb1;replace hv:=hv.below hb1;replace hres:=hres.below hb1;replace hb:=zah hb hb.size hb1;clear hb1 kc;obtain ⟨E1,E2⟩:=E;simp only;by_cases hf:E1=0
   · subst hf;have hR:Right (l.map TypA.says):=(zdo _).1.1 (by rw [hE.out]);have hlT:l.map TypA.says=(zaf s).1.map za5:=by rw [hT.out];exact hl.out
     have hn96:=zew hR;have htr:∀t ∈ l,∀r ∈ t.rels,∃e:Ex,r.ops=e.ops.map opZ∧e.good∧r.ops.length≤2049∧r.subs.length≤2049:=fun t ht r hr =>
      zf7 (s:=s) (t:=t.says) (hlT ▸ List.mem_map.2 ⟨t,ht,rfl⟩) (r:=r.says) (List.mem_map.2 ⟨r,hr,rfl⟩)
     have kl:=len11_any (AL:=none) (nL:=0) (cL:=0) hsc hn96;go_upto_region 8 with (go_at_call 8;refine kl.mono ?_;rintro e w5 ⟨rfl,hb1⟩)
     replace hsc:=hsc.up hb1;replace hv:=hv.below hb1;replace hres:=hres.below hb1;replace hb:=zah hb hb.size hb1;clear hb1 kl;have ke:=edgesR_any hsc hR htr;go_upto_region 9 with (go_at_call 32;refine ke.mono ?_;rintro e w6 ⟨⟨v6,rfl,A2,c2,Z,rfl,hrd,hz,hp⟩,hb1⟩)
     replace hsc:=hsc.up hb1;replace hv:=hv.below hb1;replace hres:=hres.below hb1;replace hb:=zah hb hb.size hb1;clear hb1 ke;have hmem:Hid (∀e,e ∈ Z↔e ∈ zaN (l.map TypA.says)):=Lib.hid fun e=>⟨fun h=>((hz.mem e).1 h).1,fun h=>(hz.mem e).2 ⟨h,(zfl h).2.2.1⟩⟩;have hi:InR (relsA l).length Z:=fun e he=>by have:=zfl ((hmem.out e).1 he);exact ⟨this.1,this.2.1,this.2.2.1,this.2.2.2.1⟩
     have hZl:Z.length≤18432:=hz.len hp;obtain ⟨r,hr⟩:∃r:Bool,r=true↔Cyc Z:=by
      by_cases h:Cyc Z
      · exact ⟨true,by simp [h]⟩
      · exact ⟨false,by simp [h]⟩
     have ky:=cycle_any hrd hi (by omega) (by omega) hr;have hT':(zaf s).1.map za5=l.map TypA.says:=hlT.symm;have hTe:(zaf s).2.1=0:=hE1.out;have hR2:Hid (Right ((zaf s).1.map za5)):=Lib.hid (by rw [hT'];exact hR);have hrc:Hid (r=true↔Cyc (zaN ((zaf s).1.map za5))):=Lib.hid (by rw [hT',hr];exact ⟨fun h=>h.sub fun e he=>(hmem.out e).1 he,fun h=>h.sub fun e he=>(hmem.out e).2 he⟩);have hnr:Hid ((relsA l).length=(zaz ((zaf s).1.map za5)).length):=Lib.hid (by rw [hT',←zaO,List.length_map]);replace hi:=Lib.hid hi;replace hmem:Hid (∀e,e ∈ Z↔e ∈ zaN ((zaf s).1.map za5)):=Lib.hid (by rw [hT'];exact hmem.out);replace hlT:=Lib.hid hlT;generalize hnN:(relsA l).length=n at *
     clear hT' hR hz hp htr hr;go_upto_region 10 with (go_at_call 33;refine ky.mono ?_;rintro e w7 ⟨rfl,hb1⟩)
     replace hsc:=hsc.up hb1;replace hv:=hv.below hb1;replace hres:=hres.below hb1;replace hb:=zah hb hb.size hb1;replace hrd:=hrd.up hb1;clear hb1 ky;cases r with
     | true =>
      have hc2:Hid (Cyc (zaN ((zaf s).1.map za5))):=Lib.hid (hrc.out.1 rfl);obtain ⟨r0,r1⟩:=hres.c2;have rf:=hres.fz;have rl:=hres.lt;go_wp2_with fail
      obtain ⟨hw,hbz⟩:=zmD hres hb (Nat.le_refl _) (.slice none 0 0) (.slice none 0 0);obtain ⟨y0,y1⟩:=hw.c2;refine bodyPost_ret (v:=.tuple #[.agg #[.slice none 0 0,.slice none 0 0],.int .i64 33]) (by simp [results,Tryz.results6,go_sem,y0,y1];try rfl) rfl ?_;exact ⟨⟨33,none,0,[],none,0,[],rfl,SchA.none_ _ _,zfr _,.cyc hTe hR2.out hc2.out,⟨0,zbp _ _⟩⟩,hbz⟩
     | false =>
      have hnc:Hid (¬Cyc (zaN ((zaf s).1.map za5))):=Lib.hid fun h=>Bool.false_ne_true (hrc.out.2 h);have htrR:∀t ∈ T,∀x ∈ t.rels,TreeR x:=by have:=(zjX s).tree;rw [hT.out] at this;exact this
      obtain ⟨tx,htx⟩:∃tx,zbN T=tx:=⟨_,rfl⟩;have hz9:=hss.2.2;have ks:=rshow_any hv hss.1 hss.2.1 htrR hss.2.2;rw [htx] at ks hz9;rw [←hn.out] at ks;replace htx:=Lib.hid htx;clear htrR hss hsm hsf;by_cases hz:2048<tx.size
      · have hz':(tx.size:Int) > 2048:=by omega
        have hzs:Hid (2048<(zbN (zaf s).1).size):=Lib.hid (by rw [hT.out,htx.out];exact hz);go_upto_region 13 with (go_at_call 34;refine ks.mono ?_;rintro e w8 ⟨rfl,hb1⟩)
        replace hsc:=hsc.up hb1;replace hv:=hv.below hb1;replace hres:=hres.below hb1;replace hb:=zah hb hb.size hb1;obtain ⟨r0,r1⟩:=hres.c2;have rf:=hres.fz;have rl:=hres.lt;go_wp2_with fail
        obtain ⟨hw,hbz⟩:=zmD hres hb (Nat.le_refl _) (.slice none 0 0) (.slice none 0 0);obtain ⟨y0,y1⟩:=hw.c2;refine bodyPost_ret (v:=.tuple #[.agg #[.slice none 0 0,.slice none 0 0],.int .i64 13]) (by simp [results,Tryz.results6,go_sem,y0,y1];try rfl) rfl ?_;exact ⟨⟨13,none,0,[],none,0,[],rfl,SchA.none_ _ _,zfr _,.long hTe hR2.out hnc.out hzs.out,⟨0,zbp _ _⟩⟩,hbz⟩
      · have hz':¬(tx.size:Int) > 2048:=by omega
        have hzs:Hid ((zbN (zaf s).1).size≤2048):=Lib.hid (by rw [hT.out,htx.out];omega);go_upto_region 14 with (go_at_call 34;refine ks.mono ?_;rintro e w8 ⟨rfl,hb1⟩)
        replace hsc:=hsc.up hb1;replace hv:=hv.below hb1;replace hres:=hres.below hb1;replace hb:=zah hb hb.size hb1;replace hrd:=hrd.up hb1;clear hb1 ks;have kj:=jac_any hrd hi.out (by omega) (by omega);go_wp2_with (go_at_call 35;refine kj.mono ?_;rintro e w9 ⟨⟨g,rfl,v,hvl,hg,hJ⟩,hb1⟩;have hres9:=hres.below hb1;have hb9:=zah hb hb.size hb1;obtain ⟨r0,r1⟩:=hres9.c2;have rf:=hres9.fz;have rl:=hres9.lt)
        obtain ⟨hw,hbz⟩:=zmD hres9 hb9 (Nat.le_refl _) (.slice A l.length c) (.slice (some ⟨g,0,none⟩) n n);obtain ⟨y0,y1⟩:=hw.c2;have hgne:g≠w.heap.size:=by
         intro e;rw [e] at hg;have h:=Option.some.inj (Eq.trans (Eq.symm hg) hres9);injection h with _ h2 _
         exact absurd h2 (by decide)
        have hgz:=(hg.other (a:=⟨w.heap.size,0,none⟩) hgne (.slice A l.length c)).other (a:=⟨w.heap.size,1,none⟩) hgne (.slice (some ⟨g,0,none⟩) n n);have hrz:=zhk hgz hvl (by omega);have hvz:NDVTyps w0.heap.size ((w9.setCell ⟨w.heap.size,0,none⟩ (.slice A l.length c)).setCell ⟨w.heap.size,1,none⟩ (.slice (some ⟨g,0,none⟩) n n)) (.slice A T.length c) T:=by
         obtain ⟨xs,h1,h2⟩:=hv.below hb1;exact ⟨xs,zai (zai h1 (a:=⟨w.heap.size,0,none⟩) hlt0 _) (a:=⟨w.heap.size,1,none⟩) hlt0 _,(h2.keep (zdk (a:=⟨w.heap.size,0,none⟩) hlt0 _)).keep (zdk (a:=⟨w.heap.size,1,none⟩) hlt0 _)⟩
        have hsf2:=zhv s;have hsm2:=zeW s;rw [hT.out] at hsf2 hsm2;obtain ⟨l2,hl2,hsc2⟩:=hvz.sch (R:=140737488351232) hsf2 hsm2;have hn2:l2.length=T.length:=by have:=congrArg List.length hl2;rwa [List.length_map,List.length_map] at this
        refine bodyPost_ret (v:=.tuple #[.agg #[.slice A l.length c,.slice (some ⟨g,0,none⟩) n n],.int .i64 0]) (by simp [results,Tryz.results6,go_sem,y0,y1];try rfl) rfl ?_;subst hvl;refine ⟨⟨0,A,c,l2,some ⟨g,0,none⟩,v.length,v,?_,hsc2,hrz,?_,⟨w0.heap.size,?_⟩⟩,hbz⟩
        · rw [hn2,←hn.out];rfl
        · rw [hl2,←hT.out];exact .ok hTe hR2.out hnc.out v hnr.out (fun o ho i hi'=>hJ.least hi.out (ho.congr fun e=>(hmem.out e).symm) (fun _ _=>rfl) (Nat.le_succ _) i hi') hzs.out
        · rw [if_pos rfl,hn2,hT.out];exact hvz
   · have hEc:=hE.out;have hck:Hid ((zbb ((zaf s).1.map za5)).1=E1):=Lib.hid (by rw [hT.out,←hl.out,hEc]);clear hEc;obtain ⟨r0,r1⟩:=hres.c2;have rf:=hres.fz;have rl:=hres.lt;go_wp2_with fail
     obtain ⟨hw,hbz⟩:=zmD hres hb (Nat.le_refl _) (.slice none 0 0) (.slice none 0 0);obtain ⟨y0,y1⟩:=hw.c2;refine bodyPost_ret (v:=.tuple #[.agg #[.slice none 0 0,.slice none 0 0],.int .i64 E1]) (by simp [results,Tryz.results6,go_sem,y0,y1];try rfl) rfl ?_;exact ⟨⟨E1,none,0,[],none,0,[],rfl,SchA.none_ _ _,zfr _,.check E1 hE1.out hck.out hf,⟨0,by rw [if_neg hf];exact zbp _ _⟩⟩,hbz⟩
 · clear hE1';obtain ⟨r0,r1⟩:=hres.c2;have rf:=hres.fz;have rl:=hres.lt;go_wp2_with fail
   obtain ⟨hw,hbz⟩:=zmD hres hb (Nat.le_refl _) (.slice none 0 0) (.slice none 0 0);obtain ⟨y0,y1⟩:=hw.c2;refine bodyPost_ret (v:=.tuple #[.agg #[.slice none 0 0,.slice none 0 0],.int .i64 ea]) (by simp [results,Tryz.results6,go_sem,y0,y1];try rfl) rfl ?_;exact ⟨⟨ea,none,0,[],none,0,[],rfl,SchA.none_ _ _,zfr _,.parse ea hE1.out he,⟨0,by rw [if_neg he];exact zbp _ _⟩⟩,hbz⟩
theorem text11_any {w:World} {B n c:Nat} {A AL:Option Addr} {nL cL:Nat} {s:ByteArray} {T:List TypP} (hv:NDVTyps B w (.slice A n c) T) (hT:T=(zaf s).1∨T=[]) (hn:n=T.length) :
 Calls Tryz.prog 10 #[.agg #[.slice A n c,.slice AL nL cL]] w fun e w'=>e = .returned (.string (zbN T))∧Below w.heap.size w w':=by
 subst hn;have hb0:=zck w (.cells #[.slice A T.length c,.slice AL nL cL] 34);have ks:Calls Tryz.prog 34 #[.slice A T.length c] (w.alloc (.cells #[.slice A T.length c,.slice AL nL cL] 34)) fun e w'=>e = .returned (.string (zbN T))∧Below (w.alloc (.cells #[.slice A T.length c,.slice AL nL cL] 34)).heap.size (w.alloc (.cells #[.slice A T.length c,.slice AL nL cL] 34)) w':=by
  rcases hT with rfl | rfl
  · have hw:=zjX s;exact rshow_any (hv.below hb0) hw.len hw.sml hw.tree hw.size
  · exact rshow_any (hv.below hb0) (Nat.zero_le _) (fun t ht=>by cases ht) (fun t ht=>by cases ht) (by decide)
 go_enter Tryz.func10,Tryz.ntmps10
 go_wp2_with (go_at_call 34;refine ks.mono ?_;rintro e w1 ⟨rfl,hb1⟩)
 go_ret
 exact ⟨rfl,zaj hb0 hb0.size hb1⟩
end Go.Proofs.YtiepddmagfmllaaGreat
namespace Go.Proofs.YtiepddmagfmllaaGreat
theorem zgY {ps:List Path} {q:Path} (h:q ∈ ps):zas ps q=some (ixP ps q):=by
 obtain ⟨i,hi⟩:=zgv h;unfold ixP;rw [hi];rfl
theorem zlM {ps:List Path} {q:Path} (h:q ∉ ps):zas ps q=none:=by
 cases e:zas ps q with
 | none=>rfl
 | some i=>exact absurd (List.mem_of_getElem? (za3 e)) h
theorem zlL {ps:List Path} {q:Path}:(zas ps q).isSome=true↔q ∈ ps:=by
 constructor
 · intro h;cases e:zas ps q with
   | none=>rw [e] at h;cases h
   | some i=>exact List.mem_of_getElem? (za3 e)
 · intro h;rw [zgY h];rfl
theorem ix_get {ps:List Path} {q:Path} (h:q ∈ ps):ps[ixP ps q]? = some q:=za3 (zgY h)
theorem ix_lt {ps:List Path} {q:Path} (h:q ∈ ps):ixP ps q<ps.length:=(List.getElem?_eq_some_iff.1 (ix_get h)).1
theorem zfV {ps:List Path} {q:Path} (h:q ∈ ps):zcA ps q=(ixP ps q:Nat):=zeq (zgY h)
theorem numP_max {ps:List Path} {q:Path}:(0≤zcA ps q↔q ∈ ps)∧max (zcA ps q) 0=(ixP ps q:Nat):=by
 by_cases h:q ∈ ps
 · rw [zfV h];exact ⟨⟨fun _=>h,fun _=>by omega⟩,by omega⟩
 · rw [zfW h];unfold ixP;rw [zlM h];exact ⟨⟨fun h=>by omega,fun k=>absurd k h⟩,by decide⟩
theorem zkM (l:List TypI):(zap l).length=(zaz l).length:=List.length_map _
theorem zi8 {l:List TypI} {x:TypI × RelI} (h:x ∈ zaz l):x.1 ∈ l∧x.2 ∈ x.1.rels:=by
 unfold zaz at h;obtain ⟨t,ht,h⟩:=List.mem_flatMap.1 h;obtain ⟨r,hr,rfl⟩:=List.mem_map.1 h;exact ⟨ht,hr⟩
theorem path_at {l:List TypI} {i:Nat} {x:TypI × RelI} (h:(zaz l)[i]? = some x):(zap l)[i]? = some (x.1.name,x.2.name):=by
 unfold zap;rw [List.getElem?_map,h];rfl
theorem hasR_mem {t:TypI} {n:ByteArray} (h:zcb t n=true):∃r ∈ t.rels,r.name=n:=by
 unfold zcb at h;cases e:zcm t n with
 | none=>rw [e] at h;cases h
 | some r =>
  obtain ⟨a,b⟩:=zkn e;exact ⟨r,a,of_decide_eq_true b⟩
theorem zdq {l:List TypI} {t:TypI} (ht:t ∈ l) {n:ByteArray} (h:zcb t n=true):(t.name,n) ∈ zap l:=by
 obtain ⟨r,hr,rfl⟩:=hasR_mem h;exact zen.2 ⟨t,ht,r,hr,rfl,rfl⟩
theorem Right.metas {l:List TypI} (h:Right l) {x:TypI × RelI} (hx:x ∈ zaz l):(x.1.name,x.2.view) ∈ zap l∧(x.1.name,x.2.edit) ∈ zap l∧(x.1.name,x.2.check) ∈ zap l:=by
 obtain ⟨h1,h2⟩:=zi8 hx;have k:=h.all h1 h2;exact ⟨zdq h1 k.view,zdq h1 k.edit,zdq h1 k.check⟩
theorem Right.opPath {l:List TypI} (h:Right l) {x:TypI × RelI} (hx:x ∈ zaz l) {o:OpI} (ho:o ∈ x.2.ops) (hk:o.1=2∨o.1=3):(x.1.name,o.2.1) ∈ zap l:=by
 obtain ⟨h1,h2⟩:=zi8 hx;have k:=(h.all h1 h2).ops o ho;unfold zdg at k;rcases hk with e | e
 · rw [if_pos e] at k;exact zdq h1 k
 · rw [if_neg (by omega),if_pos e] at k;refine zdq h1 ?_;unfold zcb;cases e2:zcm x.1 o.2.1 with
   | none=>rw [e2] at k;cases k
   | some r=>rfl
theorem zmC {l:List TypI} (h:Right l) {i j:Nat} {x:TypI × RelI} (hx:(zaz l)[i]? = some x) {o:OpI} (ho:x.2.ops[j]? = some o) (hk:o.1=2) :
 ((i:Int),((ixP (zap l) (x.1.name,o.2.1):Nat):Int),zaS x.2.ops j) ∈ zaN l:=by
 have hm:=h.opPath (List.mem_of_getElem? hx) (List.mem_of_getElem? ho) (.inl hk);unfold zaN relE opsE;simp only [List.mem_flatMap,List.mem_map];refine ⟨(x,i),List.mk_mem_zipIdx_iff_getElem?.2 hx,(o,j),List.mk_mem_zipIdx_iff_getElem?.2 ho,ixP (zap l) (x.1.name,o.2.1),?_,rfl⟩;unfold zcz zbk;rw [if_neg (by simp only;omega),if_pos (by simp only;exact hk)];simp only [List.filterMap_cons,zgY hm,List.filterMap_nil,List.mem_singleton]
theorem zkS {n:Nat} {l:List TypI} {v:Nat→Int} (h:Right l) (hL:Sol n (zaN l) v) {i j:Nat} {x:TypI × RelI} (hx:(zaz l)[i]? = some x) {o:OpI} (ho:x.2.ops[j]? = some o) (hk:o.1=2) :
 v (ixP (zap l) (x.1.name,o.2.1))≤v i∧(zaS x.2.ops j=true→v (ixP (zap l) (x.1.name,o.2.1))<v i):=by
 have:=hL.2 _ (zmC h hx ho hk);simp only [fr,tt,zcQ,Int.toNat_natCast] at this;refine ⟨by split at this <;> omega,fun hb=>?_⟩;rw [if_pos hb] at this;omega
theorem zkA {t:Ex} (hg:t.good) (h3:t.len=3) (h6:t.kd 2=6):zaS (t.ops.map opZ) 1=true:=by
 rw [zfx hg (by omega)];cases t with
 | this=>simp [Ex.len,Ex.ops] at h3
 | same n=>simp [Ex.len,Ex.ops] at h3
 | via n m=>simp [Ex.len,Ex.ops] at h3
 | bin k a b =>
  have hl:=Ex.len_bin k a b;have pa:=a.len_pos;have pb:=b.len_pos;have ea:a.len=1:=by omega
  have eb:b.len=1:=by omega
  have hk:k=6:=by have:=Ex.kd_o (k:=k) (a:=a) (b:=b);rw [ea,eb] at this;exact this.symm.trans h6
  have:(Ex.bin k a b).cnt 1=b.cnt 0 + 1:=by
   show (if 1<a.len then a.cnt 1 else if 1<a.len + b.len then b.cnt (1-a.len) + (if k=6 then 1 else 0) else 0)=_;rw [if_neg (by omega),if_pos (by omega),if_pos hk,ea]
  rw [this];exact decide_eq_true (by omega)
theorem Least.below {n:Nat} {l:List Ed} {v:Nat→Int} (hi:InR n l) (h:Least n l v) {i:Nat} (hin:i<n):v i<n:=by
 have h0:=h.1.1 i hin;have key:∀c:Nat,(c:Int)≤v i→∃k,k<n∧v k=c:=by
  intro c hc;rcases Nat.eq_zero_or_pos c with rfl | hp
  · by_cases hz:v i=0
    · exact ⟨i,hin,hz⟩
    · obtain ⟨e,he,h1,h2⟩:=h.nots hin (c:=1) (by omega) (by omega);have h3:=h.1.2 e he;have h4:=h.1.1 (tt e) (hi.tt he);have h5:zcQ e=1:=by unfold zcQ;rw [if_pos h1]
      exact ⟨tt e,hi.tt he,by simp only [Int.natCast_zero];omega⟩
  · obtain ⟨e,he,h1,h2⟩:=h.nots hin (c:=c) (by omega) hc;exact ⟨fr e,hi.fr he,h2⟩
 obtain ⟨m,hm⟩:∃m:Nat,v i=m:=⟨(v i).toNat,by omega⟩;rw [hm] at key ⊢;suffices H:∀c:Nat,c≤m→∃L:List Nat,L.Nodup∧(∀k ∈ L,k<n∧v k≤c)∧L.length=c + 1 by
  obtain ⟨L,h1,h2,h3⟩:=H m (Nat.le_refl _);have:=zjG h1 fun k hk=>(h2 k hk).1;omega
 intro c;induction c with
 | zero =>
  intro _;obtain ⟨k,hk,e⟩:=key 0 (by omega);exact ⟨[k],by simp,fun q hq=>by rw [List.mem_singleton.1 hq];exact ⟨hk,by omega⟩,rfl⟩
 | succ c ih =>
  intro hc;obtain ⟨L,h1,h2,h3⟩:=ih (by omega);obtain ⟨k,hk,e⟩:=key (c + 1) (by omega);refine ⟨k::L,List.nodup_cons.2 ⟨fun hm=>?_,h1⟩,fun q hq=>?_,by rw [List.length_cons,h3]⟩
  · have:=(h2 k hm).2;omega
  · rcases List.mem_cons.1 hq with rfl | hq
    · exact ⟨hk,by omega⟩
    · have:=h2 q hq;exact ⟨this.1,by omega⟩
structure TabOk (s:ByteArray) (tx:ByteArray) (ty:List ByteArray) (ps:List Path) (R:List RelT) (v:List Int):Prop where
 says:(zaf s).2.1=0
 right:Right ((zaf s).1.map za5)
 len:v.length=(zaz ((zaf s).1.map za5)).length
 inr:InR v.length (zaN ((zaf s).1.map za5))
 least:Least v.length (zaN ((zaf s).1.map za5)) (zaL v)
 size:(zbN (zaf s).1).size≤2048
 text:tx=zbN (zaf s).1
 types:ty=(zaf s).1.map (·.name)
 paths:ps=zap ((zaf s).1.map za5)
 rels:R=ze9 ((zaf s).1.map za5) v
theorem zkw {n:Nat} {l:List Ed} {v u:List Int} (h1:v.length=n) (h2:u.length=n) (a:Least n l (zaL v)) (b:Least n l (zaL u)):v=u :=
 List.ext_getElem (by omega) fun i h3 h4=>by
  have:=a.same b (i:=i) (by omega);simpa [zaL,h3,h4] using this
theorem CompIs.one {s:ByteArray} {e f:Nat} {tx ux:ByteArray} {ty uy:List ByteArray} {ps qs:List Path} {R Q:List RelT} (h:CompIs s e tx ty ps R) (k:CompIs s f ux uy qs Q):e=f∧tx=ux∧ty=uy∧ps=qs∧R=Q:=by
 have hck:Right ((zaf s).1.map za5)→(zbb ((zaf s).1.map za5)).1=0:=fun h=>(zdo _).1.2 h;cases h with
 | parse e h h0 =>
  cases k with
  | parse f k k0=>exact ⟨h.symm.trans k,rfl,rfl,rfl,rfl⟩
  | check f a=>exact absurd (h.symm.trans a) h0
  | cyc a=>exact absurd (h.symm.trans a) h0
  | long a=>exact absurd (h.symm.trans a) h0
  | ok a=>exact absurd (h.symm.trans a) h0
 | check e a h h0 =>
  cases k with
  | parse f k k0=>exact absurd (k.symm.trans a) k0
  | check f b k k0=>exact ⟨h.symm.trans k,rfl,rfl,rfl,rfl⟩
  | cyc b hR=>exact absurd (h.symm.trans (hck hR)) h0
  | long b hR=>exact absurd (h.symm.trans (hck hR)) h0
  | ok b hR=>exact absurd (h.symm.trans (hck hR)) h0
 | cyc a hR hc =>
  cases k with
  | parse f k k0=>exact absurd (k.symm.trans a) k0
  | check f b k k0=>exact absurd (k.symm.trans (hck hR)) k0
  | cyc=>exact ⟨rfl,rfl,rfl,rfl,rfl⟩
  | long _ _ hn=>exact absurd hc hn
  | ok _ _ v _ _ hL=>exact (Cyc.none hc hL.1).elim
 | long a hR hn hz =>
  cases k with
  | parse f k k0=>exact absurd (k.symm.trans a) k0
  | check f b k k0=>exact absurd (k.symm.trans (hck hR)) k0
  | cyc _ _ hc=>exact absurd hc hn
  | long=>exact ⟨rfl,rfl,rfl,rfl,rfl⟩
  | ok _ _ v _ _ _ hz2=>omega
 | ok a hR v hv hi hL hz =>
  cases k with
  | parse f k k0=>exact absurd (k.symm.trans a) k0
  | check f b k k0=>exact absurd (k.symm.trans (hck hR)) k0
  | cyc _ _ hc=>exact (Cyc.none hc hL.1).elim
  | long _ _ _ hz2=>omega
  | ok _ _ u hu _ hM =>
   rw [hv] at hL;rw [hu] at hM;have:=zkw hv hu hL hM;subst this;exact ⟨rfl,rfl,rfl,rfl,rfl⟩
end Go.Proofs.YtiepddmagfmllaaGreat
