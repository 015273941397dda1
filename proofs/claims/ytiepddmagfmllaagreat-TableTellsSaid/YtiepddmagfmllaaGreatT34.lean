import Derived.Test.YtiepddmagfmllaaGreatT33
set_option maxRecDepth 100000
set_option maxHeartbeats 4000000
namespace Go.Proofs.YtiepddmagfmllaaGreat
open Go.RowKit
theorem zib (l:List TypA):zap (l.map TypA.says)=zao (relsA l):=by
 unfold zap zao;rw [←zaO,List.map_map];rfl
theorem at_find {α:Type} {p:α→Bool} {l:List α} {x:α} (h:l.find? p=some x):∃i:Nat,l[i]? = some x∧AtZ p l i:=by
 obtain ⟨hp,i,hi,he,hn⟩:=List.find?_eq_some_iff_getElem.1 h;have hx:l[i]? = some x:=by rw [List.getElem?_eq_getElem hi,he]
 refine ⟨i,hx,.inr ⟨i,x,rfl,hx,h,fun y hy=>?_⟩⟩;obtain ⟨k,hk,rfl⟩:=List.getElem_of_mem hy;rw [List.length_take] at hk;rw [List.getElem_take];simpa using hn k (by omega)
theorem at_uniq {α:Type} {p:α→Bool} {l:List α} {z z':Int} (h:AtZ p l z) (k:AtZ p l z'):z=z':=by
 rcases h with ⟨rfl,h⟩ | ⟨i,t,rfl,hi,hf,hn⟩
 · rcases k with ⟨rfl,_⟩ | ⟨j,u,rfl,_,kf,_⟩
   · rfl
   · rw [h] at kf;cases kf
 · rcases k with ⟨rfl,k⟩ | ⟨j,u,rfl,hj,kf,kn⟩
   · rw [k] at hf;cases hf
   · have hpt:p t=true:=List.find?_some hf;have hpu:p u=true:=List.find?_some kf;have a1:∀{a b:Nat} {y:α},l[a]? = some y→p y=true→(∀y ∈ l.take b,p y=false)→b≤a:=fun {a b y} ha hp hb=>by
      rcases Nat.lt_or_ge a b with q | q
      · have:=hb y (List.mem_of_getElem? (i:=a) (by rw [List.getElem?_take_of_lt q];exact ha));rw [hp] at this;cases this
      · exact q
     have:=a1 hi hpt kn;have:=a1 hj hpu hn;omega
theorem zmp (l:List TypA):(zaz (l.map TypA.says)).map (·.2)=(relsA l).map fun x=>x.2.says:=by
 rw [←zaO,List.map_map];rfl
def InP (S:List Ed):Prop:=∀e ∈ S,0≤e.2.1→e ∈ ze8 96
theorem zi2:(ze8 96).length=18432:=zeT 96
theorem IsE.len {Z S:List Ed} (h:IsE Z S) (hp:InP S):Z.length≤18432:=by
 rw [←zi2];exact zc0 (zfa h.up) fun e he=>hp e ((h.mem e).1 he).1 ((h.mem e).1 he).2
def OutE (w:World) (v:Value) (S:List Ed):Prop:=∃(A:Option Addr) (c:Nat) (Z:List Ed),v = .slice A Z.length c∧Rd w w.heap.size 3 A Z.length c (zan Z)∧IsE Z S∧InP S
theorem OutE.up {w w':World} {v:Value} {S:List Ed} (h:OutE w v S) (hb:Below w.heap.size w w'):OutE w' v S:=by
 obtain ⟨A,c,Z,e,hr,hz,hp⟩:=h;exact ⟨A,c,Z,e,hr.up hb,hz,hp⟩
theorem OutE.nil (w:World):OutE w (.slice none 0 0) []:=⟨none,0,[],rfl,Rd.none_ _ _ _,IsE.nil,fun e he=>by cases he⟩
theorem zmc {ps:List Path} {q:Path} {f:Nat} {b:Bool} (hf:f<96) (hp:ps.length≤96) (h:0≤zcA ps q):((f:Int),zcA ps q,b) ∈ ze8 96:=by
 unfold zcA at h ⊢;cases e:zas ps q with
 | none=>rw [e] at h;simp at h
 | some i =>
  have:=(List.getElem?_eq_some_iff.1 (za3 e)).1;exact zfQ hf (by omega) rfl rfl
theorem putG_any {w:World} {v:Value} {S:List Ed} (h:OutE w v S) {ps:List Path} (q:Path) {f:Nat} (b:Bool) (hf:f<96) (hp:ps.length≤96) :
 Calls Tryz.prog 70 #[v,.agg #[.int .i64 (f:Int),.int .i64 (zcA ps q),.bool b]] w fun e w'=>(∃v',e = .returned v'∧OutE w' v' (S ++ [((f:Int),zcA ps q,b)]))∧Below w.heap.size w w':=by
 obtain ⟨A,c,Z,rfl,hr,hz,hS⟩:=h;have hl:=hz.len hS;refine (addE_any ((f:Int),zcA ps q,b) hr (by omega)).mono ?_;rintro e w' ⟨⟨A',c',Z',rfl,hr',_,hZ⟩,hb⟩;refine ⟨⟨_,rfl,A',c',Z',rfl,hr',hZ S hz,fun e he h0=>?_⟩,hb⟩;rcases List.mem_append.1 he with he | he
 · exact hS e he h0
 · rw [List.mem_singleton.1 he] at h0 ⊢;exact zmc hf hp h0
theorem OutE.op {w:World} {v:Value} {Q:List Ed} {ps:List Path} {rs:List RelI} {tn:ByteArray} {r:RelI} {f j:Nat} {o:OpI} (h:OutE w v (Q ++ zi7 ps (zbk ps rs tn r.subs o) f (zaS r.ops j))):OutE w v (Q ++ opsE ps rs tn r f j o):=by
 obtain ⟨A,c,Z,e,hr,hz,hp⟩:=h;have hm:=fun e=>raw_mem (ps:=ps) (qs:=zbk ps rs tn r.subs o) (f:=f) (b:=zaS r.ops j) e;refine ⟨A,c,Z,e,hr,⟨hz.up,fun e=>?_⟩,fun e he h0=>?_⟩
 · rw [hz.mem,List.mem_append,List.mem_append];constructor
   · rintro ⟨a | a,b⟩
     · exact ⟨.inl a,b⟩
     · exact ⟨.inr ((hm e).2 ⟨a,b⟩),b⟩
   · rintro ⟨a | a,b⟩
     · exact ⟨.inl a,b⟩
     · exact ⟨.inr ((hm e).1 a).1,b⟩
 · rcases List.mem_append.1 he with he | he
   · exact hp e (List.mem_append_left _ he) h0
   · exact hp e (List.mem_append_right _ ((hm e).1 he).1) h0
theorem zjR {ps a b:List Path} {f:Nat} {x:Bool}:zi7 ps (a ++ b) f x=zi7 ps a f x ++ zi7 ps b f x:=List.map_append
theorem zkF {ps:List Path} {rs:List RelI} {tn:ByteArray} {subs:List Path} {o:OpI} (h:o.1=1):zbk ps rs tn subs o=zcU subs:=by unfold zbk;rw [if_pos h]
theorem zkG {ps:List Path} {rs:List RelI} {tn:ByteArray} {subs:List Path} {o:OpI} (h:o.1=2):zbk ps rs tn subs o=[(tn,o.2.1)]:=by unfold zbk;rw [if_neg (by omega),if_pos h]
theorem zmh {ps:List Path} {rs:List RelI} {tn:ByteArray} {subs:List Path} {o:OpI} (h1:¬o.1=1) (h2:¬o.1=2) (h3:¬o.1=3):zbk ps rs tn subs o=[]:=by unfold zbk;rw [if_neg h1,if_neg h2,if_neg h3]
theorem edgesR_any {w:World} {R c:Nat} {A:Option Addr} {l:List TypA} (h:SchA w R A c l) (hR:Right (l.map TypA.says)) (hT:∀t ∈ l,∀r ∈ t.rels,∃e:Ex,r.ops=e.ops.map opZ∧e.good∧r.ops.length≤2049∧r.subs.length≤2049) :
 Calls Tryz.prog 32 #[.slice A l.length c] w fun e w'=>(∃v,e = .returned v∧OutE w' v (zaN (l.map TypA.says)))∧Below w.heap.size w w':=by
 have hn96:(relsA l).length≤96:=by rw [←zc3];exact hR.rels_le
 have hll:(l.length:Int)≤9223372036854775807:=by have:=h.rows.cap;have:=h.rows.capm;simp only [maxLen] at this;omega
 have kN:=fun (W:World) (hW:Below w.heap.size w W) (q:Path)=>number_any (h.up hW) hR q.1 q.2;have kV:=fun (i k:Nat) (t:TypA) (x:RelA) (ht:l[i]? = some t) (hx:t.rels[k]? = some x) (subs:List Path) (m:ByteArray)=>zmi hR (i:=i) (k:=k) (t:=t.says) (x:=x.says) (by rw [List.getElem?_map,ht];rfl) (by show (t.rels.map RelA.says)[k]? = _;rw [List.getElem?_map,hx];rfl) subs m;have hOp:=fun (t:TypA) (ht:t ∈ l) (r:RelA) (hr:r ∈ t.rels)=>(hR.all (t:=t.says) (List.mem_map.2 ⟨t,ht,rfl⟩) (r:=r.says) (List.mem_map.2 ⟨r,hr,rfl⟩)).ops;rw [zfD];have hpl:(zap (l.map TypA.says)).length≤96:=by rw [zib];simpa [zao] using hn96
 rw [←zmp,←zib];generalize (zaz (l.map TypA.says)).map (·.2)=rs at *
 generalize zap (l.map TypA.says)=ps at *
 replace hOp:=Lib.hid hOp;replace kV:=Lib.hid kV;replace kN:=Lib.hid kN;go_enter Tryz.func32,Tryz.ntmps32
 go_wp2_with fail
 go_loopw [3,4,5] (fun vo vn vi wx=>∃i:Nat,vi = .int .i64 i∧vn = .int .i64 ((relsA (l.take i)).length:Nat)∧i≤l.length∧OutE wx vo (relsD ps rs (relsA (l.take i)))∧Below w.heap.size w wx) (fun _ _ vi _=>l.length-(intOf vi).toNat)
 case atStart=>exact ⟨0,rfl,rfl,Nat.zero_le _,OutE.nil _,Below.refl _ _⟩
 case round =>
  obtain ⟨i,rfl,rfl,hi,hO,hbx⟩:=hrel;by_cases hil:i<l.length
  · have hdi:(i:Int)<(l.length:Int):=by omega
    obtain ⟨t,ht⟩:∃t,l[i]? = some t:=⟨_,List.getElem?_eq_getElem hil⟩;have htm:=List.mem_of_getElem? ht;have hsn:=zbA ht;have hle:=zc2 (l:=l) (i + 1);rw [hsn,List.length_append,List.length_map] at hle;have hle2:(relsA (l.take i)).length + t.rels.length≤96:=Nat.le_trans hle hn96;obtain ⟨N,hN⟩:∃N,(relsA (l.take i)).length=N:=⟨_,rfl⟩;obtain ⟨xs,hxs⟩:∃xs,relsA (l.take i)=xs:=⟨_,rfl⟩;rw [hN] at hle2 ⊢;rw [hxs] at hsn hN hO;replace hsn:=Lib.hid hsn;have hxN:=Lib.hid hN;replace ht:=Lib.hid ht;replace htm:=Lib.hid htm;clear hle hxs hN;go_wp2_with fail
    go_loopw [3,4,6] (fun vo vn vk wx=>∃k:Nat,vk = .int .i64 k∧vn = .int .i64 ((N + k:Nat):Int)∧k≤t.rels.length∧OutE wx vo (relsD ps rs (xs ++ (t.rels.take k).map fun r=>(t,r)))∧Below w.heap.size w wx) (fun _ _ vk _=>t.rels.length-(intOf vk).toNat)
    case atStart=>exact ⟨0,rfl,rfl,Nat.zero_le _,by simpa using hO,hbx⟩
    case round =>
     clear hO hbx;obtain ⟨k,rfl,rfl,hk,hO,hbx⟩:=hrel;have hsx:=h.up hbx;obtain ⟨gt,ot,eA,t0,t1,hkt⟩:=hsx.get ht.out;by_cases hkl:k<t.rels.length
     · have hdk:(k:Int)<(t.rels.length:Int):=by omega
       obtain ⟨r,hr⟩:∃r,t.rels[k]? = some r:=⟨_,List.getElem?_eq_getElem hkl⟩;have hrm:=List.mem_of_getElem? hr;obtain ⟨ex,hex,hgd,hol,hsl⟩:=hT t htm.out r hrm;have hop:=hOp.out t htm.out r hrm;have htk:(t.rels.take (k + 1)).map (fun r=>(t,r))=(t.rels.take k).map (fun r=>(t,r)) ++ [(t,r)]:=by
        rw [List.take_add_one,hr,Option.toList_some,List.map_append];rfl
       have hxl:(xs ++ (t.rels.take k).map fun r=>(t,r)).length=N + k:=by
        rw [List.length_append,hxN.out,List.length_map,List.length_take,Nat.min_eq_left (by omega)]
       have hdone:∀W v,OutE W v (relsD ps rs (xs ++ (t.rels.take k).map fun r=>(t,r)) ++ zdh ps rs t.name r.says (N + k) r.ops.length)→OutE W v (relsD ps rs (xs ++ (t.rels.take (k + 1)).map fun r=>(t,r))):=fun W v q=>by
        rw [htk,←List.append_assoc,zgD,hxl,←zh4];exact q
       replace hdone:=Lib.hid hdone;obtain ⟨gr0,or0,eR,r0,r1,r2,r3,r4,r5,hrk⟩:=hkt.get hr;obtain ⟨As,hAs⟩:∃As,r.As=As:=⟨_,rfl⟩;obtain ⟨Ao,hAo⟩:∃Ao,r.Ao=Ao:=⟨_,rfl⟩;rw [hAs] at r4;rw [hAo] at r5;replace hAs:=Lib.hid hAs;replace hAo:=Lib.hid hAo;obtain ⟨P,hP⟩:∃P,relsD ps rs (xs ++ (t.rels.take k).map fun r=>(t,r))=P:=⟨_,rfl⟩;rw [hP] at hO hdone;obtain ⟨q,hq⟩:∃q,N + k=q:=⟨_,rfl⟩;have hq96:q<96:=by omega
       rw [hq] at hdone;have hqq:((N + k:Nat):Int)=(q:Int):=by omega
       rw [hqq];have hqN:((N + (k + 1):Nat):Int)=((q:Nat):Int) + 1:=by omega
       replace hqN:=Lib.hid hqN;replace hex:=Lib.hid hex;replace hr:=Lib.hid hr;clear htk hxl hP hq hqq hrm;rw [eR] at t1;subst eA;go_upto_region 10 with (fail)
       have hbn:=zfb wr (.cells #[.string r.name,.string r.view,.string r.edit,.string r.check,.slice As r.subs.length r.cs,.slice Ao r.ops.length r.co] 48);have dR:=Bk.new wr #[.string r.name,.string r.view,.string r.edit,.string r.check,.slice As r.subs.length r.cs,.slice Ao r.ops.length r.co] 48;have hb3:=zah hbx hbx.size hbn;have hO3:=hO.up hbn;generalize wr.alloc (.cells #[.string r.name,.string r.view,.string r.edit,.string r.check,.slice As r.subs.length r.cs,.slice Ao r.ops.length r.co] 48)=w3 at *
       generalize wr.heap.size=gr at *
       clear t0 t1 r0 r1 r2 r3 r4 r5 hrk hO hbn hsx hkt hbx;go_wp2_with fail
       go_loopw [3,8] (fun vo vj wx=>∃j:Nat,vj = .int .i64 j∧j≤r.ops.length∧OutE wx vo (P ++ zdh ps rs t.name r.says q j)∧Below w3.heap.size w3 wx) (fun _ vj _=>r.ops.length-(intOf vj).toNat)
       case atStart=>exact ⟨0,rfl,Nat.zero_le _,by simpa [zdh] using hO3,Below.refl _ _⟩
       case round =>
        clear hO3;obtain ⟨j,rfl,hj,hO,hby⟩:=hrel;have dY:=dR.below hby;have y4:wr.cell? ⟨gr,4,none⟩=some (.slice As r.subs.length r.cs):=dY.cell 4;have y5:wr.cell? ⟨gr,5,none⟩=some (.slice Ao r.ops.length r.co):=dY.cell 5;have yl:=dY.lt;by_cases hjl:j<r.ops.length
        · have hdj:(j:Int)<(r.ops.length:Int):=by omega
          obtain ⟨o,ho⟩:∃o,r.ops[j]? = some o:=⟨_,List.getElem?_eq_getElem hjl⟩;have hoo:=hop o (List.mem_of_getElem? ho);have hbw:=zah hb3 hb3.size hby;have hkt:t.ok wr R:=by obtain ⟨_,_,_,_,_,x⟩:=(h.up hbw).get ht.out;exact x
          have hrk:r.ok wr R:=by obtain ⟨_,_,_,_,_,_,_,_,_,x⟩:=hkt.get hr.out;exact x
          have knot:=not_any (p:=j) hex.out hgd (by omega) hjl hrk.ops;rw [hAo.out] at knot;obtain ⟨bb,hbb⟩:∃bb,zaS r.ops j=bb:=⟨_,rfl⟩;rw [hbb] at knot;have hstep:∀W v,OutE W v (P ++ zdh ps rs t.name r.says q j ++ zi7 ps (zbk ps rs t.name r.subs o) q bb)→OutE W v (P ++ zdh ps rs t.name r.says q (j + 1)):=fun W v x=>by
           rw [zgC (show r.says.ops[j]? = some o from ho),←List.append_assoc];refine OutE.op (r:=r.says) ?_;rw [show zaS r.says.ops j=bb from hbb];exact x
          replace hstep:=Lib.hid hstep;obtain ⟨Q,hQ⟩:∃Q,P ++ zdh ps rs t.name r.says q j=Q:=⟨_,rfl⟩;rw [hQ] at hO hstep;replace ho:=Lib.hid ho;clear hbb hQ;go_upto_region 14 with (go_at_call 69;refine knot.mono ?_;rintro e w5 ⟨rfl,hb5⟩)
          have hb35:=zah hby hby.size hb5;have hbw5:=zah hbw hbw.size hb5;have hO5:=hO.up hb5;have hkt5:t.ok w5 R:=by obtain ⟨_,_,_,_,_,x⟩:=(h.up hbw5).get ht.out;exact x
          have hrk5:r.ok w5 R:=by obtain ⟨_,_,_,_,_,_,_,_,_,x⟩:=hkt5.get hr.out;exact x
          obtain ⟨go,og,eO,c0,c1,c2,_,_,_⟩:=hrk5.op ho.out;have dY5:=dY.below hb5;have y5:w5.cell? ⟨gr,5,none⟩=some (.slice Ao r.ops.length r.co):=dY5.cell 5;have yl:=dY5.lt;rw [hAo.out] at eO;subst eO;clear knot hbw hby hO y4 dY hkt hrk hb5;go_upto_region 15 with (fail)
          have hbq:=zfb w5 (.cells #[.int .i64 o.1,.string o.2.1,.string o.2.2] 60);have dO:=Bk.new w5 #[.int .i64 o.1,.string o.2.1,.string o.2.2] 60;have hb6:=zah hbw5 hbw5.size hbq;have hb36:=zah hb35 hb35.size hbq;have hO6:=hO5.up hbq;have dY6:=dY5.below hbq;generalize w5.alloc (.cells #[.int .i64 o.1,.string o.2.1,.string o.2.2] 60)=w6 at *
          generalize w5.heap.size=gq at *
          clear hbq hb35 hbw5 hO5 dY5 y5 yl c0 c1 c2 hrk5 hkt5;obtain ⟨o0,o1,o2⟩:=o;simp only at dO hoo;have x4:w6.cell? ⟨gr,4,none⟩=some (.slice As r.subs.length r.cs):=dY6.cell 4;have xl:=dY6.lt;have z0:w6.cell? ⟨gq,0,none⟩=some (.int .i64 o0):=dO.cell 0;have z1:w6.cell? ⟨gq,1,none⟩=some (.string o1):=dO.cell 1;have z2:w6.cell? ⟨gq,2,none⟩=some (.string o2):=dO.cell 2;have zl:=dO.lt;have gtA:∀W,Below w6.heap.size w6 W→W.cell? ⟨gt,ot + i * 2,none⟩=some (.string t.name)∧W.cell? ⟨gt,ot + i * 2 + 1,none⟩=some (.slice t.A t.rels.length t.c)∧t.ok W R:=fun W hW=>by
           obtain ⟨b9,o9,e9,p0,p1,p2⟩:=(h.up (zah hb6 hb6.size hW)).get ht.out;injection e9 with e9
           injection e9 with e91 e92 _
           subst e91;subst e92;exact ⟨p0,p1,p2⟩
          replace gtA:=Lib.hid gtA;have kput:∀(v:Value) (S:List Ed) (W0:World) (q2:Path),OutE W0 v S→∀W,Below W0.heap.size W0 W→Calls Tryz.prog 70 #[v,.agg #[.int .i64 (q:Int),.int .i64 (zcA ps q2),.bool bb]] W fun e w'=>(∃v',e = .returned v'∧OutE w' v' (S ++ [((q:Int),zcA ps q2,bb)]))∧Below W0.heap.size W0 w':=fun v S W0 q2 hv W hW =>
           (putG_any (hv.up hW) q2 bb hq96 hpl).mono fun e w' ⟨a1,a2⟩=>⟨a1,zah hW hW.size a2⟩
          have knum:∀(W0:World) (q2:Path),Below w6.heap.size w6 W0→∀W,Below W0.heap.size W0 W→Calls Tryz.prog 40 #[.slice (some ⟨gt,ot,none⟩) l.length c,.string q2.1,.string q2.2] W fun e w'=>e = .returned (.int .i64 (zcA ps q2))∧Below W0.heap.size W0 w':=fun W0 q2 h0 W hW =>
           (kN.out W (zah (zah hb6 hb6.size h0) (zah hb6 hb6.size h0).size hW) q2).mono fun e w' ⟨a1,a2⟩=>⟨a1,zah hW hW.size a2⟩
          replace kput:=Lib.hid kput;replace knum:=Lib.hid knum;by_cases hk2:o0=2
          · subst hk2;as_aux_lemma =>
             have t0:=(gtA.out w6 (Below.refl _ _)).1;have kn:=knum.out w6 (t.name,o1) (Below.refl _ _);have kp:=kput.out _ _ w6 (t.name,o1) hO6;simp only at kn;have lt0:=World.block_lt_of_cell? _ _ t0;dsimp only at lt0;go_upto_region 17 with (fail)
             go_region_held3 (fun W=>W.cell? ⟨gt,ot + i * 2,none⟩=some (.string t.name)∧W.cell? ⟨gq,1,none⟩=some (.string o1))
              (first | go_keep | exact ⟨zac t0 hbA,zac z1 hbA⟩ | exact ⟨zac t0 hbB,zac z1 hbB⟩ | fail)
              (first | (go_at_call 40;refine (kn _ (Below.refl _ _).drew).mono ?_;rintro e wA ⟨rfl,hbA⟩) | (go_at_call 70;refine (kp _ hbA).mono ?_;rintro e wB ⟨⟨vB,rfl,hOB⟩,hbB⟩) | fail)
             have hO9:=hstep.out wB vB (by rw [zkG rfl];exact hOB);have hb9:=zah hb36 hb36.size hbB;have z0':=zac z0 hbB;have zl':=World.block_lt_of_cell? _ _ z0';dsimp only at zl';clear kn kp hOB t0 lt0 z0 z1 z2 zl x4 xl;generalize wB=wr at *
             go_wp2_with fail
             go_loopw [3,12] (fun vo vm wx=>vo=vB∧vm = .int .i64 0∧Hid (wx=wr)) (fun _ _ _=>0)
             case atStart=>exact ⟨rfl,rfl,Lib.hid rfl⟩
             case round =>
              obtain ⟨rfl,rfl,hwx⟩:=hrel;have hwx2:=hwx.out;subst hwx2;by_cases h0:0<r.subs.length
              · have h02:(0:Int)<(r.subs.length:Int):=by omega
                go_wp2_with fail
                exact ⟨⟨j + 1,by go_num,by omega,hO9,hb9⟩,by simp [intOf];omega⟩
              · have h02:¬(0:Int)<(r.subs.length:Int):=by omega
                go_wp2_with fail
                exact ⟨⟨j + 1,by go_num,by omega,hO9,hb9⟩,by simp [intOf];omega⟩
          · by_cases hk1:o0=1
            · subst hk1;as_aux_lemma =>
               go_wp2_with fail
               go_loopw [3,12] (fun vo vm wx=>∃m:Nat,vm = .int .i64 m∧m≤r.subs.length∧OutE wx vo (Q ++ zi7 ps (zcU (r.subs.take m)) q bb)∧Below w6.heap.size w6 wx) (fun _ vm _=>r.subs.length-(intOf vm).toNat)
               case atStart=>exact ⟨0,rfl,Nat.zero_le _,by simpa [zcU,zi7] using hO6,Below.refl _ _⟩
               case round =>
                clear hO6 z0 z1 z2 zl x4 xl;obtain ⟨m,rfl,hm,hO,hbz⟩:=hrel;have dz:=dO.below hbz;have z0:wr.cell? ⟨gq,0,none⟩=some (.int .i64 1):=dz.cell 0;have z2:wr.cell? ⟨gq,2,none⟩=some (.string o2):=dz.cell 2;have zl:=dz.lt;by_cases hml:m<r.subs.length
                · have hdm:(m:Int)<(r.subs.length:Int):=by omega
                  obtain ⟨s,hs⟩:∃s,r.subs[m]? = some s:=⟨_,List.getElem?_eq_getElem hml⟩;have hkt7:t.ok wr R:=(gtA.out wr hbz).2.2;have hrk7:r.ok wr R:=by obtain ⟨_,_,_,_,_,_,_,_,_,x⟩:=hkt7.get hr.out;exact x
                  obtain ⟨gs,os,eS,s0,s1,_⟩:=hrk7.sub hs;rw [hAs.out] at eS;subst eS;have lt0:=World.block_lt_of_cell? _ _ s0;dsimp only at lt0;have hsn2:=zgG hs;have kn:=knum.out wr s hbz;have kp:=kput.out _ _ wr s hO;obtain ⟨s1n,s2⟩:=s;simp only at s0 s1 hsn2 kn;have he:=zcM s2;cases hd:decide (s2=⟨#[]⟩) with
                  | true =>
                   rw [hd] at he;rw [if_pos (of_decide_eq_true hd),List.append_nil] at hsn2;rw [←hsn2] at hO;replace hO:=Lib.hid hO;clear hsn2 kn kp hd hs;go_wp2_with fail
                   exact ⟨⟨m + 1,by go_num,by omega,hO.out,hbz⟩,by simp [intOf];omega⟩
                  | false =>
                   rw [hd] at he;rw [if_neg (of_decide_eq_false hd)] at hsn2;have hnx:∀W v,OutE W v (Q ++ zi7 ps (zcU (r.subs.take m)) q bb ++ [((q:Int),zcA ps (s1n,s2),bb)])→OutE W v (Q ++ zi7 ps (zcU (r.subs.take (m + 1))) q bb):=fun W v x=>by
                    rw [hsn2,zjR,←List.append_assoc];exact x
                   replace hnx:=Lib.hid hnx;clear hsn2 hd hs;go_upto_region 24 with (fail)
                   go_region_held3 (fun W=>W.cell? ⟨gs,os + m * 2,none⟩=some (.string s1n)∧W.cell? ⟨gs,os + m * 2 + 1,none⟩=some (.string s2))
                    (first | go_keep | exact ⟨zac s0 hbA,zac s1 hbA⟩ | exact ⟨zac s0 hbB,zac s1 hbB⟩ | fail)
                    (first | (go_at_call 40;refine (kn _ (Below.refl _ _).drew).mono ?_;rintro e wA ⟨rfl,hbA⟩) | (go_at_call 70;refine (kp _ hbA).mono ?_;rintro e wB ⟨⟨vB,rfl,hOB⟩,hbB⟩) | fail)
                   have hO9:=hnx.out _ _ hOB;have hb9:=zah hbz hbz.size hbB;have z0':=zac z0 hbB;have zl':=World.block_lt_of_cell? _ _ z0';dsimp only at zl';clear kn kp hOB s0 s1 lt0 z0 z2 zl;go_wp2_with fail
                   exact ⟨⟨m + 1,by go_num,by omega,hO9,hb9⟩,by simp [intOf];omega⟩
                · obtain rfl:m=r.subs.length:=by omega
                  have hdm:¬(((r.subs.length:Nat):Int)<(r.subs.length:Int)):=by omega
                  rw [List.take_length] at hO;have hO9:=hstep.out _ _ (by rw [zkF rfl];exact hO);have hb9:=zah hb36 hb36.size hbz;clear hO;go_wp2_with fail
                  exact ⟨⟨j + 1,by go_num,by omega,hO9,hb9⟩,by simp [intOf];omega⟩
            · by_cases hk3:o0=3
              · subst hk3;as_aux_lemma =>
                 obtain ⟨x,hxf⟩:∃x,t.rels.find? (fun y:RelA=>decide (y.name=o1))=some x:=by
                  cases hc:t.rels.find? (fun y:RelA=>decide (y.name=o1)) with
                  | some x=>exact ⟨x,rfl⟩
                  | none =>
                   have hn:zcm t.says o1=none:=by
                    unfold zcm;refine List.find?_eq_none.2 fun y hy=>?_;obtain ⟨z,hz,rfl⟩:=List.mem_map.1 hy;exact List.find?_eq_none.1 hc z hz
                   unfold zdg at hoo;rw [if_neg (by show ¬(3:Int)=2;decide),if_pos rfl] at hoo;simp only at hoo;rw [hn] at hoo;cases hoo
                 obtain ⟨i2,hx2,hxa⟩:=at_find hxf;have hxn:x.name=o1:=by have:=List.find?_some hxf;simpa using this
                 have hxm:=List.mem_of_getElem? hx2;have hsl3:=(hT t htm.out x hxm);have hpq:∀subs,zbk ps rs t.name subs ((3:Int),o1,o2)=zbe x.subs o2:=fun subs=>by
                  have:=kV.out i i2 t x ht.out hx2 subs o2;rw [show x.says.name=o1 from hxn] at this;exact this
                 replace hpq:=Lib.hid hpq;obtain ⟨xA,hxA⟩:∃xA,x.As=xA:=⟨_,rfl⟩;have hil2:i2<t.rels.length:=(List.getElem?_eq_some_iff.1 hx2).1;have hdi2:(i2:Int)<(t.rels.length:Int):=by omega
                 obtain ⟨t0,t1,hkt6⟩:=gtA.out w6 (Below.refl _ _);obtain ⟨gr9,or9,eR9,_,_,_,_,x4c,_,_⟩:=hkt6.get hx2;rw [eR] at t1 eR9;injection eR9 with eR9
                 injection eR9 with eR91 eR92 _
                 subst eR91;subst eR92;rw [hxA] at x4c;replace hxA:=Lib.hid hxA;have krel:∀W,Below w6.heap.size w6 W→Calls Tryz.prog 67 #[.agg #[.string t.name,.slice (some ⟨gr0,or0,none⟩) t.rels.length t.c],.string o1] W fun e w'=>e = .returned (.int .i64 (i2:Int))∧Below w6.heap.size w6 w':=fun W hW=>by
                  have k:=rel9_any (gtA.out W hW).2.2 o1;rw [eR] at k;exact k.mono fun e w' ⟨⟨z,a1,a2⟩,a3⟩=>⟨by rw [a1,at_uniq a2 hxa],zah hW hW.size a3⟩
                 have lt0:=World.block_lt_of_cell? _ _ t0;have lx4:=World.block_lt_of_cell? _ _ x4c;dsimp only at lt0 lx4;clear hxf hxa hkt6 hxn;go_upto_region 19 with (fail)
                 go_region_held3 (fun W=>W.cell? ⟨gt,ot + i * 2,none⟩=some (.string t.name)∧W.cell? ⟨gt,ot + i * 2 + 1,none⟩=some (.slice (some ⟨gr0,or0,none⟩) t.rels.length t.c)∧W.cell? ⟨gq,1,none⟩=some (.string o1)∧W.cell? ⟨gr0,or0 + i2 * 6 + 4,none⟩=some (.slice xA x.subs.length x.cs))
                  (first | go_keep | exact ⟨zac t0 hbA,zac t1 hbA,zac z1 hbA,zac x4c hbA⟩ | fail)
                  (first | (go_at_call 67;refine (krel _ (Below.refl _ _).drew).mono ?_;rintro e wA ⟨rfl,hbA⟩) | fail)
                 have hb6A:=zah hb36 hb36.size hbA;have hOA:=hO6.up hbA;have dzA:=dO.below hbA;clear t0 t1 x4c krel lt0 lx4 z0 z1 z2 zl x4 xl;have z0:wA.cell? ⟨gq,0,none⟩=some (.int .i64 3):=dzA.cell 0;have zl:=dzA.lt;go_wp2_with fail
                 go_loopw [3,12] (fun vo vm wx=>∃m:Nat,vm = .int .i64 m∧m≤x.subs.length∧OutE wx vo (Q ++ zi7 ps (zbe (x.subs.take m) o2) q bb)∧Below wA.heap.size wA wx) (fun _ vm _=>x.subs.length-(intOf vm).toNat)
                 case atStart=>exact ⟨0,rfl,Nat.zero_le _,by simpa [zbe,zi7] using hOA,Below.refl _ _⟩
                 case round =>
                  clear hOA z0 zl;obtain ⟨m,rfl,hm,hO,hbz⟩:=hrel;have hb6z:Below w6.heap.size w6 wr:=hbA.trans (hbz.mono hbA.size);have dz:=dzA.below hbz;have z0:wr.cell? ⟨gq,0,none⟩=some (.int .i64 3):=dz.cell 0;have z2:wr.cell? ⟨gq,2,none⟩=some (.string o2):=dz.cell 2;have zl:=dz.lt;have hsl4:(x.subs.length:Int)≤2049:=by obtain ⟨_,_,_,_,a4⟩:=hsl3;omega
                  by_cases hml:m<x.subs.length
                  · have hdm:(m:Int)<(x.subs.length:Int):=by omega
                    obtain ⟨s,hs⟩:∃s,x.subs[m]? = some s:=⟨_,List.getElem?_eq_getElem hml⟩;have hrk7:x.ok wr R:=by obtain ⟨_,_,_,_,_,_,_,_,_,y⟩:=(gtA.out wr hb6z).2.2.get hx2;exact y
                    obtain ⟨gs,os,eS,s0,s1,_⟩:=hrk7.sub hs;rw [hxA.out] at eS;subst eS;have lt0:=World.block_lt_of_cell? _ _ s0;dsimp only at lt0;have hsn2:=zfT (n:=o2) hs;obtain ⟨s1n,s2⟩:=s;have kn:=knum.out wr (s1n,o2) hb6z;have kp:=kput.out _ _ wr (s1n,o2) hO;simp only at s0 s1 hsn2 kn;have he:=zcM s2;cases hd:decide (s2=⟨#[]⟩) with
                    | false =>
                     rw [hd] at he;rw [if_neg (of_decide_eq_false hd),List.append_nil] at hsn2;rw [←hsn2] at hO;replace hO:=Lib.hid hO;clear hsn2 kn kp hd hs;go_wp2_with fail
                     exact ⟨⟨m + 1,by go_num,by omega,hO.out,hbz⟩,by simp [intOf];omega⟩
                    | true =>
                     rw [hd] at he;rw [if_pos (of_decide_eq_true hd)] at hsn2;have hnx:∀W v,OutE W v (Q ++ zi7 ps (zbe (x.subs.take m) o2) q bb ++ [((q:Int),zcA ps (s1n,o2),bb)])→OutE W v (Q ++ zi7 ps (zbe (x.subs.take (m + 1)) o2) q bb):=fun W v y=>by
                      rw [hsn2,zjR,←List.append_assoc];exact y
                     replace hnx:=Lib.hid hnx;clear hsn2 hd hs;go_upto_region 26 with (fail)
                     go_region_held3 (fun W=>W.cell? ⟨gs,os + m * 2,none⟩=some (.string s1n)∧W.cell? ⟨gq,2,none⟩=some (.string o2))
                      (first | go_keep | exact ⟨zac s0 hbA,zac z2 hbA⟩ | exact ⟨zac s0 hbB,zac z2 hbB⟩ | fail)
                      (first | (go_at_call 40;refine (kn _ (Below.refl _ _).drew).mono ?_;rintro e wA ⟨rfl,hbA⟩) | (go_at_call 70;refine (kp _ hbA).mono ?_;rintro e wB ⟨⟨vB,rfl,hOB⟩,hbB⟩) | fail)
                     have hO9:=hnx.out _ _ hOB;have hb9:=zah hbz hbz.size hbB;have z0':=zac z0 hbB;have zl':=World.block_lt_of_cell? _ _ z0';dsimp only at zl';clear kn kp hOB s0 s1 lt0 z0 z2 zl;go_wp2_with fail
                     exact ⟨⟨m + 1,by go_num,by omega,hO9,hb9⟩,by simp [intOf];omega⟩
                  · obtain rfl:m=x.subs.length:=by omega
                    have hdm:¬(((x.subs.length:Nat):Int)<(x.subs.length:Int)):=by omega
                    rw [List.take_length] at hO;have hO9:=hstep.out _ _ (by rw [hpq.out];exact hO);have hb9:=zah hb6A hb6A.size hbz;clear hO;go_wp2_with fail
                    exact ⟨⟨j + 1,by go_num,by omega,hO9,hb9⟩,by simp [intOf];omega⟩
              · have n1:(o0 == 1)=false:=by simpa using hk1
                have n2:(o0 == 2)=false:=by simpa using hk2
                have n3:(o0 == 3)=false:=by simpa using hk3
                have hO9:=hstep.out _ _ (by rw [zmh hk1 hk2 hk3];show OutE _ _ (Q ++ []);rw [List.append_nil];exact hO6);have hb9:=hb36;have zl':=zl;generalize w6=wr at *
                go_wp2_with fail
                go_loopw [3,12] (fun vo vm wx=>vo=u3∧vm = .int .i64 0∧Hid (wx=wr)) (fun _ _ _=>0)
                case atStart=>exact ⟨rfl,rfl,Lib.hid rfl⟩
                case round =>
                 obtain ⟨rfl,rfl,hwx⟩:=hrel;have hwx2:=hwx.out;subst hwx2;by_cases h0:0<r.subs.length
                 · have h02:(0:Int)<(r.subs.length:Int):=by omega
                   go_wp2_with fail
                   exact ⟨⟨j + 1,by go_num,by omega,hO9,hb9⟩,by simp [intOf];omega⟩
                 · have h02:¬(0:Int)<(r.subs.length:Int):=by omega
                   go_wp2_with fail
                   exact ⟨⟨j + 1,by go_num,by omega,hO9,hb9⟩,by simp [intOf];omega⟩
        · obtain rfl:j=r.ops.length:=by omega
          have hdj:¬(((r.ops.length:Nat):Int)<(r.ops.length:Int)):=by omega
          replace hO:=hdone.out _ _ hO;go_wp2_with fail
          exact ⟨⟨k + 1,by go_num,by rw [hqN.out],by omega,hO,zah hb3 hb3.size hby⟩,by simp [intOf];omega⟩
     · obtain rfl:k=t.rels.length:=by omega
       have hdk:¬(((t.rels.length:Nat):Int)<(t.rels.length:Int)):=by omega
       rw [List.take_length,←hsn.out] at hO;have hln:=congrArg List.length hsn.out;rw [List.length_append,List.length_map,hxN.out] at hln;replace hln:=Lib.hid hln;replace hO:=Lib.hid hO;clear hsn hxN;subst eA;go_wp2_with fail
       exact ⟨⟨i + 1,by go_num,by rw [hln.out],by omega,hO.out,hbx⟩,by simp [intOf];omega⟩
  · obtain rfl:i=l.length:=by omega
    have hdi:¬(((l.length:Nat):Int)<(l.length:Int)):=by omega
    rw [List.take_length] at hO;go_wp2_with fail
    go_ret
    exact ⟨⟨_,rfl,hO⟩,hbx⟩
end Go.Proofs.YtiepddmagfmllaaGreat
namespace Go.Proofs.YtiepddmagfmllaaGreat
structure JStep (l:List Ed) (o s:Nat→Int):Prop where
 up:∀i,o i≤s i
 asks:∀e ∈ l,o (tt e) + zcQ e≤s (fr e)
 only:∀i,s i=o i∨∃e ∈ l,fr e=i∧s i=o (tt e) + zcQ e
theorem JStep.le {n:Nat} {l:List Ed} {o s v:Nat→Int} (hl:InR n l) (h:JStep l o s) (hv:Sol n l v) (ho:∀i,i<n→o i≤v i):∀i,i<n→s i≤v i:=fun i hi=>by
 rcases h.only i with e | ⟨e,he,hf,e2⟩
 · rw [e];exact ho i hi
 · have h1:=ho _ (hl.tt he);have h2:=hv.2 e he;rw [hf] at h2;omega
theorem JStep.more {n:Nat} {l:List Ed} {o s v:Nat→Int} (hl:InR n l) (h:JStep l o s) (hv:Least n l v) (h0:∀i,i<n→0≤o i) (ho:∀i,i<n→o i≤v i) (hx:∃i,i<n∧o i<v i):∃i,i<n∧o i<v i∧s i=v i:=Classical.byContradiction fun hn=>by
 have hlt:∀i,i<n→o i<v i→s i<v i:=fun i hi hlt=>by
  have h1:=h.le hl hv.1 ho i hi;have h2:s i≠v i:=fun e=>hn ⟨i,hi,hlt,e⟩;omega
 have hs:Sol n l (fun i=>if o i<v i then v i-1 else v i):=by
  refine ⟨fun i hi=>?_,fun e he=>?_⟩
  · have h1:=hv.1.1 i hi;have h2:=h0 i hi;dsimp only;split <;> omega
  · have h1:=hv.1.2 e he;have h2:=h.asks e he;have h3:=hlt _ (hl.fr he);have h4:=ho _ (hl.tt he);dsimp only;split
    · omega
    · split
      · rename_i ht hf
        have:=h3 hf;omega
      · exact h1
 obtain ⟨i,hi,hlt2⟩:=hx;have:=hv.2 _ hs i hi;rw [if_pos hlt2] at this;omega
def zhK (n:Nat) (o v:Nat→Int):Nat:=((List.range n).filter fun i=>decide (o i=v i)).length
theorem doneN_le (n:Nat) (o v:Nat→Int):zhK n o v≤n:=by
 have:=List.length_filter_le (fun i=>decide (o i=v i)) (List.range n);rwa [List.length_range] at this
theorem zlo {n:Nat} {o v:Nat→Int} (h:zhK n o v=n):∀i,i<n→o i=v i:=fun i hi=>by
 have h1:((List.range n).filter fun i=>decide (o i=v i)).length=(List.range n).length:=by rw [List.length_range];exact h
 have:=List.length_filter_eq_length_iff.1 h1 i (List.mem_range.2 hi);simpa using this
theorem doneN_lt {n:Nat} {o s v:Nat→Int} (hk:∀i,i<n→o i=v i→s i=v i) {j:Nat} (hj:j<n) (h1:o j≠v j) (h2:s j=v j):zhK n o v<zhK n s v:=by
 induction n with
 | zero=>omega
 | succ n ih =>
  unfold zhK at *
  rw [List.range_succ,List.filter_append,List.filter_append,List.length_append,List.length_append];have hle:((List.range n).filter fun i=>decide (o i=v i)).length≤((List.range n).filter fun i=>decide (s i=v i)).length:=by
   rw [←List.countP_eq_length_filter,←List.countP_eq_length_filter];exact List.countP_mono_left fun i hi h=>by
    have:=List.mem_range.1 hi;simp only [decide_eq_true_eq] at h ⊢;exact hk i (by omega) h
  by_cases e:j=n
  · subst e;simp [h1,h2];omega
  · have:=ih (fun i hi=>hk i (by omega)) (by omega);have h3:([n].filter fun i=>decide (o i=v i)).length≤([n].filter fun i=>decide (s i=v i)).length:=by
     by_cases h4:o n=v n
     · have:=hk n (by omega) h4;simp [h4,this]
     · simp [h4]
    omega
inductive JRun (l:List Ed) (o:Nat→Int):Nat→(Nat→Int)→Prop
 | nil:JRun l o 0 o
 | on {k:Nat} {s t:Nat→Int} (h:JRun l o k s) (j:JStep l s t):JRun l o (k + 1) t
theorem JRun.done {n k:Nat} {l:List Ed} {o s v:Nat→Int} (hl:InR n l) (hv:Least n l v) (h0:∀i,i<n→o i=0) (h:JRun l o k s):(∀i,i<n→0≤s i∧s i≤v i)∧min k n≤zhK n s v:=by
 induction h with
 | nil=>exact ⟨fun i hi=>by rw [h0 i hi];exact ⟨Int.le_refl _,hv.1.1 i hi⟩,by omega⟩
 | @on k s t h j ih =>
  obtain ⟨h1,h2⟩:=ih;have h3:=j.le hl hv.1 fun i hi=>(h1 i hi).2;refine ⟨fun i hi=>⟨Int.le_trans (h1 i hi).1 (j.up i),h3 i hi⟩,?_⟩;have hk:∀i,i<n→s i=v i→t i=v i:=fun i hi e=>by
   have:=j.up i;have:=h3 i hi;omega
  by_cases hx:∃i,i<n∧s i<v i
  · obtain ⟨i,hi,h4,h5⟩:=j.more hl hv (fun i hi=>(h1 i hi).1) (fun i hi=>(h1 i hi).2) hx;have:=doneN_lt hk hi (by omega) h5;omega
  · have hall:∀i,i<n→t i=v i:=fun i hi=>hk i hi (by
     have:=(h1 i hi).2;have:¬s i<v i:=fun e=>hx ⟨i,hi,e⟩;omega)
    have:zhK n t v=n:=by
     unfold zhK;rw [List.filter_eq_self.2 fun i hi=>by simpa using hall i (List.mem_range.1 hi),List.length_range]
    omega
theorem JRun.least {n k:Nat} {l:List Ed} {o s v:Nat→Int} (hl:InR n l) (hv:Least n l v) (h0:∀i,i<n→o i=0) (h:JRun l o k s) (hk:n≤k):∀i,i<n→s i=v i:=by
 have h1:=(h.done hl hv h0).2;have h2:=doneN_le n s v;exact zlo (by omega)
inductive PathLt (l:List Ed) (k:Nat):Nat→Nat→Prop
 | one {e:Ed} (h:e ∈ l):PathLt l k (fr e) (tt e)
 | join {i m j:Nat} (hm:m<k) (a:PathLt l k i m) (b:PathLt l k m j):PathLt l k i j
theorem PathLt.more {l:List Ed} {k k' i j:Nat} (hk:k≤k') (h:PathLt l k i j):PathLt l k' i j:=by
 induction h with
 | one h=>exact .one h
 | join hm _ _ ha hb=>exact .join (by omega) ha hb
theorem PathLt.part {l:List Ed} {k i j:Nat} (h:PathLt l (k + 1) i j):PathLt l k i j∨(PathLt l k i k∧PathLt l k k j):=by
 induction h with
 | one h=>exact .inl (.one h)
 | @join i m j hm _ _ ha hb =>
  by_cases e:m<k
  · rcases ha with ha | ⟨ha,ha2⟩
    · rcases hb with hb | ⟨hb,hb2⟩
      · exact .inl (.join e ha hb)
      · exact .inr ⟨.join e ha hb,hb2⟩
    · rcases hb with hb | ⟨hb,hb2⟩
      · exact .inr ⟨ha,.join e ha2 hb⟩
      · exact .inr ⟨ha,hb2⟩
  · obtain rfl:m=k:=by omega
    refine .inr ⟨?_,?_⟩
    · rcases ha with ha | ⟨ha,_⟩ <;> exact ha
    · rcases hb with hb | ⟨_,hb⟩ <;> exact hb
theorem PathLt.zero {l:List Ed} {i j:Nat} (h:PathLt l 0 i j):∃e ∈ l,fr e=i∧tt e=j:=by
 cases h with
 | one h=>exact ⟨_,h,rfl,rfl⟩
 | join hm=>omega
theorem PathLt.reach {l:List Ed} {k i j:Nat} (h:PathLt l k i j):Reach l i j:=by
 induction h with
 | one h=>exact .one h
 | join _ _ _ ha hb=>exact ha.trans hb
theorem Reach.path {n:Nat} {l:List Ed} (hl:InR n l) {i j:Nat} (h:Reach l i j):i=j∨PathLt l n i j:=by
 induction h with
 | refl=>exact .inl rfl
 | on m _ ih =>
  obtain ⟨e,he,rfl,rfl⟩:=zcC.1 m;rcases ih with rfl | ih
  · exact .inr (.one he)
  · exact .inr (.join (hl.tt he) (.one he) ih)
theorem zjo {n:Nat} {l:List Ed} (hl:InR n l):Cyc l↔∃e ∈ l,e.2.2=true∧(fr e=tt e∨PathLt l n (tt e) (fr e)):=by
 constructor
 · rintro ⟨e,he,hb,hr⟩;exact ⟨e,he,hb,(hr.path hl).imp Eq.symm id⟩
 · rintro ⟨e,he,hb,h | h⟩
   · exact ⟨e,he,hb,by rw [h];exact .refl _⟩
   · exact ⟨e,he,hb,h.reach⟩
end Go.Proofs.YtiepddmagfmllaaGreat
