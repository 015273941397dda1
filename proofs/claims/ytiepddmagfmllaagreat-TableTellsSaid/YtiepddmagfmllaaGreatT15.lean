import Derived.Test.YtiepddmagfmllaaGreatT10
import Derived.Test.YtiepddmagfmllaaGreatT14
set_option maxRecDepth 100000
set_option maxHeartbeats 4000000
namespace Go.Proofs.YtiepddmagfmllaaGreat
open Go.RowKit
open Go.RowKit Go.Maps
def zb0 (l:List Path):List Value:=l.flatMap ziu
theorem zgn (a b:List Path):zb0 (a ++ b)=zb0 a ++ zb0 b:=List.flatMap_append
theorem zdl {w:World} {B c n:Nat} {A:Option Addr} {l:List Path} (h:Rd w B 2 A n c (zb0 l)) {i:Nat} {s:Path} (hi:l[i]? = some s) (hn:n=l.length) :
 ∃b o,A=some ⟨b,o,none⟩∧b<B∧w.cell? ⟨b,o + i * 2,none⟩=some (.string s.1)∧w.cell? ⟨b,o + i * 2 + 1,none⟩=some (.string s.2):=by
 subst hn;obtain ⟨b,o,e,hb,hc⟩:=h.at_ (zda hi);have g:=fun k (hk:k<2)=>za6 ziu (sz:=2) (fun _=>rfl) hi (k:=k) hk;exact ⟨b,o,e,hb,hc _ _ (g 0 (by omega)),by rw [Nat.add_assoc];exact hc _ _ (g 1 (by omega))⟩
theorem zjp (x:ByteArray):x.toList.isEmpty=decide (x=⟨#[]⟩):=by
 have:x.toList.isEmpty=(x.toList == (⟨#[]⟩:ByteArray).toList):=by
  have e:(⟨#[]⟩:ByteArray).toList=[]:=by decide +kernel
  rw [e];cases x.toList <;> rfl
 rw [this];exact toList_inj
theorem zgG {l:List Path} {i:Nat} {s:Path} (h:l[i]? = some s):zcU (l.take (i + 1))=zcU (l.take i) ++ if s.2=⟨#[]⟩ then [] else [s]:=by
 unfold zcU;rw [List.take_add_one,h,Option.toList_some,List.filter_append];by_cases e:s.2=⟨#[]⟩ <;> simp [e]
theorem zfT {l:List Path} {n:ByteArray} {i:Nat} {s:Path} (h:l[i]? = some s):zbe (l.take (i + 1)) n=zbe (l.take i) n ++ if s.2=⟨#[]⟩ then [(s.1,n)] else []:=by
 unfold zbe;rw [List.take_add_one,h,Option.toList_some,List.filter_append,List.map_append];by_cases e:s.2=⟨#[]⟩ <;> simp [e]
theorem setsP_le (l:List Path) (i:Nat):(zcU (l.take i)).length≤i:=Nat.le_trans (List.length_filter_le _ _) (by rw [List.length_take];omega)
theorem zl7 (l:List Path) (n:ByteArray) (i:Nat):(zbe (l.take i) n).length≤i:=by
 unfold zbe;rw [List.length_map];exact Nat.le_trans (List.length_filter_le _ _) (by rw [List.length_take];omega)
theorem sets_any {w:World} {As:Option Addr} {cs:Nat} {l:List Path} {nm vi ed ch:ByteArray} {vo:Value} (hvo:∃Ao no co,vo = .slice Ao no co) (h:Rd w w.heap.size 2 As l.length cs (zb0 l)) (hl:l.length≤100000) :
 Calls Tryz.prog 92 #[.agg #[.string nm,.string vi,.string ed,.string ch,.slice As l.length cs,vo]] w fun e w'=>(∃A' c',e = .returned (.slice A' (zcU l).length c')∧w'.ownsRow w.heap.size 104 2 (.slice A' (zcU l).length c') (zcU l).length (zb0 (zcU l)))∧Below w.heap.size w w':=by
 obtain ⟨Ao,no,co,rfl⟩:=hvo;obtain ⟨i0,hi0,hz0,hz1,hz2⟩:=info_parts info_sub;go_enter Tryz.func92,Tryz.ntmps92
 go_wp2_with fail
 have hb0:Below w.heap.size w (w.alloc (.cells #[.string nm,.string vi,.string ed,.string ch,.slice As l.length cs,.slice Ao no co] 115)):=(Below.refl _ w).alloc (Nat.le_refl _) _;generalize w.alloc (.cells #[.string nm,.string vi,.string ed,.string ch,.slice As l.length cs,.slice Ao no co] 115)=w0 at *
 go_loopw [3,9] (fun v vi wx=>∃j:Nat,vi = .int .i64 j∧j≤l.length∧wx.ownsRow w.heap.size 104 2 v (zcU (l.take j)).length (zb0 (zcU (l.take j)))∧Below w.heap.size w wx) (fun _ vi _=>l.length-(intOf vi).toNat)
 case atStart=>exact ⟨0,rfl,Nat.zero_le _,World.ownsRow_nil _ _ _ _,hb0⟩
 case round =>
  obtain ⟨j,rfl,hj,hO,hbx⟩:=hrel;by_cases hjl:j<l.length
  · have hdj:(j:Int)<(l.length:Int):=by omega
    obtain ⟨s,hs⟩:∃s,l[j]? = some s:=⟨_,List.getElem?_eq_getElem hjl⟩;obtain ⟨b,o,rfl,hb,c0,c1⟩:=zdl (h.below hbx) hs rfl;have hle:=setsP_le l j;have hsn:=Lib.hid (zgG hs);obtain ⟨A3,c3,rfl,_⟩:=Rd.own hO;have hws:=hbx.size;have hO1:=hO.alloc (.cells #[.string s.1,.string s.2] 104);have hb1:=hbx.alloc hws (.cells #[.string s.1,.string s.2] 104);have x1:=Bk.new wr #[.string s.1,.string s.2] 104;go_upto_region 5 with (fail)
    have y0:=x1.cell 0;have y1:=x1.cell 1;clear c0 c1 x1 hO hbx;generalize wr.alloc (.cells #[.string s.1,.string s.2] 104)=w1 at *
    have hq:=zjp s.2;cases he:decide (s.2=(⟨#[]⟩:ByteArray)) with
    | true =>
     rw [he] at hq;go_wp2_with fail
     have he':=of_decide_eq_true he;refine ⟨⟨j + 1,by go_num,by omega,?_,hb1⟩,by simp [intOf];omega⟩;rw [hsn.out,if_pos he',List.append_nil];exact hO1
    | false =>
     rw [he] at hq;go_wp2_with (at_builtin;go_loud (refine zab _ rfl (.tmp 16) (.tmp 18) 98 98 rfl w.heap.size 104 i0 (.agg #[.string .empty,.string .empty]) 2 32 Tryz.underlying98 hi0 hz0 hz1 hz2 rfl (by decide) (.slice A3 (zcU (l.take j)).length c3) (zcU (l.take j)).length (zb0 (zcU (l.take j))) rfl (hO1.alloc _) _ 1 [.string s.1,.string s.2] rfl (Src.ofSlice _ Tryz.underlying98 _ 1 1 _ rfl (zbo _ _ _ _) (zdB s)) (by simp only [maxLen];omega) (by omega) (size_alloc hb1.size) ?_;intro v9 w8 hown8 hg8 hat8))
     have he':=of_decide_eq_false he;refine ⟨⟨j + 1,by go_num,by omega,?_,zak (hb1.alloc hb1.size _) hg8 (hO1.alloc _) (size_alloc hb1.size) (Nat.le_refl _)⟩,by simp [intOf];omega⟩;rw [hsn.out,if_neg he',List.length_append,zgn];exact hown8
  · obtain rfl:j=l.length:=by omega
    have hdj:¬(((l.length:Nat):Int)<(l.length:Int)):=by omega
    rw [List.take_length] at hO;obtain ⟨A3,c3,rfl,hR⟩:=Rd.own hO;go_wp2_with fail
    go_ret
    exact ⟨⟨A3,c3,rfl,hO⟩,hbx⟩
theorem nexts_any {w:World} {As:Option Addr} {cs:Nat} {l:List Path} {nm vi ed ch:ByteArray} {vo:Value} (n:ByteArray) (hvo:∃Ao no co,vo = .slice Ao no co) (h:Rd w w.heap.size 2 As l.length cs (zb0 l)) (hl:l.length≤100000) :
 Calls Tryz.prog 93 #[.agg #[.string nm,.string vi,.string ed,.string ch,.slice As l.length cs,vo],.string n] w fun e w'=>(∃A' c',e = .returned (.slice A' (zbe l n).length c')∧w'.ownsRow w.heap.size 104 2 (.slice A' (zbe l n).length c') (zbe l n).length (zb0 (zbe l n)))∧Below w.heap.size w w':=by
 obtain ⟨Ao,no,co,rfl⟩:=hvo;obtain ⟨i0,hi0,hz0,hz1,hz2⟩:=info_parts info_sub;go_enter Tryz.func93,Tryz.ntmps93
 go_wp2_with fail
 have hb0:Below w.heap.size w (w.alloc (.cells #[.string nm,.string vi,.string ed,.string ch,.slice As l.length cs,.slice Ao no co] 115)):=(Below.refl _ w).alloc (Nat.le_refl _) _;generalize w.alloc (.cells #[.string nm,.string vi,.string ed,.string ch,.slice As l.length cs,.slice Ao no co] 115)=w0 at *
 go_loopw [5,11] (fun v vi wx=>∃j:Nat,vi = .int .i64 j∧j≤l.length∧wx.ownsRow w.heap.size 104 2 v (zbe (l.take j) n).length (zb0 (zbe (l.take j) n))∧Below w.heap.size w wx) (fun _ vi _=>l.length-(intOf vi).toNat)
 case atStart=>exact ⟨0,rfl,Nat.zero_le _,World.ownsRow_nil _ _ _ _,hb0⟩
 case round =>
  obtain ⟨j,rfl,hj,hO,hbx⟩:=hrel;by_cases hjl:j<l.length
  · have hdj:(j:Int)<(l.length:Int):=by omega
    obtain ⟨s,hs⟩:∃s,l[j]? = some s:=⟨_,List.getElem?_eq_getElem hjl⟩;obtain ⟨b,o,rfl,hb,c0,c1⟩:=zdl (h.below hbx) hs rfl;have hle:=zl7 l n j;have hsn:=Lib.hid (zfT (n:=n) hs);obtain ⟨A3,c3,rfl,_⟩:=Rd.own hO;have hws:=hbx.size;have hO1:=hO.alloc (.cells #[.string s.1,.string s.2] 104);have hb1:=hbx.alloc hws (.cells #[.string s.1,.string s.2] 104);have x1:=Bk.new wr #[.string s.1,.string s.2] 104;go_upto_region 5 with (fail)
    have y0:=x1.cell 0;have y1:=x1.cell 1;clear c0 c1 x1 hO hbx;generalize wr.alloc (.cells #[.string s.1,.string s.2] 104)=w1 at *
    have hq:=zjp s.2;cases he:decide (s.2=(⟨#[]⟩:ByteArray)) with
    | false =>
     rw [he] at hq;go_wp2_with fail
     have he':=of_decide_eq_false he;refine ⟨⟨j + 1,by go_num,by omega,?_,hb1⟩,by simp [intOf];omega⟩;rw [hsn.out,if_neg he',List.append_nil];exact hO1
    | true =>
     rw [he] at hq;go_wp2_with (at_builtin;go_loud (refine zab _ rfl (.tmp 18) (.tmp 23) 98 98 rfl w.heap.size 104 i0 (.agg #[.string .empty,.string .empty]) 2 32 Tryz.underlying98 hi0 hz0 hz1 hz2 rfl (by decide) (.slice A3 (zbe (l.take j) n).length c3) (zbe (l.take j) n).length (zb0 (zbe (l.take j) n)) rfl (hO1.alloc _) _ 1 [.string s.1,.string n] rfl (Src.ofSlice _ Tryz.underlying98 _ 1 1 _ rfl (zbo _ _ _ _) (zdB (s.1,n))) (by simp only [maxLen];omega) (by omega) (size_alloc hb1.size) ?_;intro v9 w8 hown8 hg8 hat8))
     have he':=of_decide_eq_true he;refine ⟨⟨j + 1,by go_num,by omega,?_,zak (hb1.alloc hb1.size _) hg8 (hO1.alloc _) (size_alloc hb1.size) (Nat.le_refl _)⟩,by simp [intOf];omega⟩;rw [hsn.out,if_pos he',List.length_append,zgn];exact hown8
  · obtain rfl:j=l.length:=by omega
    have hdj:¬(((l.length:Nat):Int)<(l.length:Int)):=by omega
    rw [List.take_length] at hO;obtain ⟨A3,c3,rfl,hR⟩:=Rd.own hO;go_wp2_with fail
    go_ret
    exact ⟨⟨A3,c3,rfl,hO⟩,hbx⟩
def zdf (ps:List Path):DataW Unit:=ps.zipIdx.foldl (fun D p=>D.put (kS p.1) (.lit (.int .i64 (p.2:Int)))) (.map [])
theorem zdL (ps:List Path) (p:Path):zdf (ps ++ [p])=(zdf ps).put (kS p) (.lit (.int .i64 (ps.length:Int))):=by
 unfold zdf;rw [List.zipIdx_append,List.foldl_append];simp
def SmP (p:Path):Prop:=p.1.size≤maxLen∧p.2.size≤maxLen
theorem zlI {p:Path} (h:SmP p):WideAt.IsKeyLit (kS p):=zdt.key (zds h.1 h.2)
theorem zfX (ps:List Path):IsMap (zdf ps):=by
 suffices H:∀(l:List (Path × Nat)) (D:DataW Unit),IsMap D→IsMap (l.foldl (fun D p=>D.put (kS p.1) (.lit (.int .i64 (p.2:Int)))) D) from H _ _ isMap_empty
 intro l;induction l with
 | nil=>intro D h;exact h
 | cons a t ih=>intro D h;exact ih _ (h.put _ _)
theorem zcj {ps:List Path} (hs:∀p ∈ ps,SmP p) {q:Path} (hq:SmP q):Maps.has (zdf ps) (kS q)=(zas ps q).isSome∧∀z,(zdf ps).atKey (kS q) z=match zas ps q with | some i=>.lit (.int .i64 (i:Int)) | none=>z:=by
 suffices H:∀n (ps:List Path),ps.length=n→(∀p ∈ ps,SmP p)→Maps.has (zdf ps) (kS q)=(zas ps q).isSome∧∀z,(zdf ps).atKey (kS q) z=match zas ps q with | some i=>.lit (.int .i64 (i:Int)) | none=>z from H _ ps rfl hs
 intro n;induction n with
 | zero =>
  intro ps hn _;rw [List.eq_nil_of_length_eq_zero hn];exact ⟨rfl,fun z=>rfl⟩
 | succ n ih =>
  intro ps hn hs;rcases List.eq_nil_or_concat ps with rfl | ⟨ps',p,rfl⟩
  · simp at hn
  · rw [List.concat_eq_append] at *
    have hp:=hs p (by simp);obtain ⟨h1,h2⟩:=ih ps' (by simpa using hn) fun x hx=>hs x (by simp [hx]);rw [zdL,zd3];by_cases e:p=q
    · subst e;rw [if_pos rfl,has_put_same (zfX _) (zlI hp)];exact ⟨rfl,fun z=>atKey_put_same (zfX _) (zlI hp) _ z⟩
    · have hne:kS q≠kS p:=fun e'=>e (kS_inj hp.1 hp.2 hq.1 hq.2 e'.symm);rw [if_neg e,has_put_other hne];exact ⟨h1,fun z=>(atKey_put_other hne _ z).trans (h2 z)⟩
def MapS (w:World) (b:Nat) (ps:List Path):Prop:=w.ownsMap Tryz.prog 104 (plainElem Tryz.prog 3) b ps.length (zdf ps)∧∀p ∈ ps,SmP p
theorem MapS.same {w w':World} {b:Nat} {ps:List Path} (h:MapS w b ps) (hb:w'.heap[b]? = w.heap[b]?):MapS w' b ps:=by
 obtain ⟨⟨es,clock,h1,h2⟩,h3⟩:=h;exact ⟨⟨es,clock,hb.trans h1,h2⟩,h3⟩
theorem MapS.lt {w:World} {b:Nat} {ps:List Path} (h:MapS w b ps):b<w.heap.size:=h.1.lt
theorem MapS.below {w w':World} {b:Nat} {ps:List Path} (h:MapS w b ps) (hb:Below w.heap.size w w'):MapS w' b ps:=h.same (hb.block b h.lt)
def relsA (l:List TypA):List (TypA × RelA):=l.flatMap fun t=>t.rels.map fun r=>(t,r)
def zao (k:List (TypA × RelA)):List Path:=k.map fun x=>(x.1.name,x.2.name)
def zdz (k:List (TypA × RelA)):List Value:=k.flatMap fun x=>x.2.cells
theorem zkJ (a b:List (TypA × RelA)):zdz (a ++ b)=zdz a ++ zdz b:=List.flatMap_append
theorem zbA {l:List TypA} {i:Nat} {t:TypA} (h:l[i]? = some t):relsA (l.take (i + 1))=relsA (l.take i) ++ t.rels.map fun r=>(t,r):=by
 unfold relsA;rw [List.take_add_one,h,Option.toList_some,List.flatMap_append,List.flatMap_singleton]
theorem zc2 {l:List TypA} (i:Nat):(relsA (l.take i)).length≤(relsA l).length:=by
 conv=>rhs;rw [←List.take_append_drop i l]
 unfold relsA;rw [List.flatMap_append,List.length_append];omega
structure KI (w wx:World) (done:List (TypA × RelA)):Prop where
 one:∃v,Bk wx (w.heap.size + 1 + 1 + 1) #[v,.map (some (w.heap.size + 1 + 1))] 127∧wx.ownsRow (w.heap.size + 4) 115 6 v done.length (zdz done)
 map:MapS wx (w.heap.size + 1 + 1) (zao done)
 res:Bk wx (w.heap.size + 1) #[.slice none 0 0,.map none] 127
 below:Below w.heap.size w wx
theorem KI.alloc {w wx:World} {done:List (TypA × RelA)} (h:KI w wx done) (o:Obj):KI w (wx.alloc o) done:=by
 obtain ⟨⟨v,h1,h2⟩,h3,h4,h5⟩:=h;exact ⟨⟨v,h1.alloc o,h2.alloc o⟩,h3.below ((Below.refl _ wx).alloc (Nat.le_refl _) o),h4.alloc o,h5.alloc h5.size o⟩
theorem zhl (x:RelA):∀u ∈ x.cells,u.oneCell'=true:=zf3 _ _ _ _ _ _ _ _ _ _
theorem zkb {n:Nat} (h:n≤100000):(Lit.int .i64 (n:Int)).wf=true:=WalkArith.wf_i64 (by omega)
theorem knownOf_any {w:World} {R c:Nat} {A:Option Addr} {l:List TypA} (h:SchA w R A c l) (hR:R≤140737488351232) (hl:(relsA l).length≤100000) :
 Calls Tryz.prog 50 #[.agg #[.slice A l.length c]] w fun e w'=>(∃A' c' b,e = .returned (.agg #[.slice A' (relsA l).length c',.map (some b)])∧w.heap.size≤b ∧
  w'.ownsRow w.heap.size 115 6 (.slice A' (relsA l).length c') (relsA l).length (zdz (relsA l))∧MapS w' b (zao (relsA l)))∧Below w.heap.size w w':=by
 have hmm:=@run_makeMap Tryz.prog;have hll:(l.length:Int)≤9223372036854775807:=by have:=h.rows.cap;have:=h.rows.capm;simp only [maxLen] at this;omega
 obtain ⟨i0,hi0,hz0,hz1,hz2⟩:=info_parts info_rel;go_enter Tryz.func50,Tryz.ntmps50
 go_wp2_with fail
 have d0:=((Bk.new w #[.slice A l.length c] 70).alloc (.cells #[.slice none 0 0,.map none] 127)).alloc (.map #[] 0) |>.alloc (.cells #[.slice none 0 0,.map (some (w.heap.size + 1 + 1))] 127);have d1:=((Bk.new (w.alloc (.cells #[.slice A l.length c] 70)) #[.slice none 0 0,.map none] 127).alloc (.map #[] 0)).alloc (.cells #[.slice none 0 0,.map (some (w.heap.size + 1 + 1))] 127);have d2:MapS (((w.alloc (.cells #[.slice A l.length c] 70)).alloc (.cells #[.slice none 0 0,.map none] 127)).alloc (.map #[] 0)) ((w.alloc (.cells #[.slice A l.length c] 70)).alloc (.cells #[.slice none 0 0,.map none] 127)).heap.size (zao []):=⟨World.ownsMap_made _ _ _ _,fun p hp=>by cases hp⟩;have d3:=Bk.new (((w.alloc (.cells #[.slice A l.length c] 70)).alloc (.cells #[.slice none 0 0,.map none] 127)).alloc (.map #[] 0)) #[.slice none 0 0,.map (some (w.heap.size + 1 + 1))] 127;replace d2:=d2.below ((Below.refl _ _).alloc (Nat.le_refl _) (.cells #[.slice none 0 0,.map (some (w.heap.size + 1 + 1))] 127));simp only [World.size_alloc] at d1 d2 d3;have hB0:Below w.heap.size w ((((w.alloc (.cells #[.slice A l.length c] 70)).alloc (.cells #[.slice none 0 0,.map none] 127)).alloc (.map #[] 0)).alloc (.cells #[.slice none 0 0,.map (some (w.heap.size + 1 + 1))] 127)):=((((Below.refl _ w).alloc (Nat.le_refl _) _).alloc (by simp) _).alloc (by simp;omega) _).alloc (by simp;omega) _;generalize (((w.alloc (.cells #[.slice A l.length c] 70)).alloc (.cells #[.slice none 0 0,.map none] 127)).alloc (.map #[] 0)).alloc (.cells #[.slice none 0 0,.map (some (w.heap.size + 1 + 1))] 127)=w0 at *
 have hK0:KI w w0 (relsA (l.take 0)):=⟨⟨_,d3,World.ownsRow_nil _ _ _ _⟩,d2,d1,hB0⟩;clear hmm d0 d1 d2 d3 hB0;go_loopw [13] (fun vi wx=>∃i:Nat,vi = .int .i64 i∧i≤l.length∧KI w wx (relsA (l.take i))) (fun vi _=>l.length-(intOf vi).toNat)
 case atStart=>exact ⟨0,rfl,Nat.zero_le _,hK0⟩
 case round =>
  obtain ⟨i,rfl,hi,hK⟩:=hrel;by_cases hil:i<l.length
  · have hdi:(i:Int)<(l.length:Int):=by omega
    obtain ⟨t,ht⟩:∃t,l[i]? = some t:=⟨_,List.getElem?_eq_getElem hil⟩;obtain ⟨b,o,rfl,t0,t1,htok⟩:=h.get ht;replace t0:=zac t0 hK.below;replace t1:=zac t1 hK.below;have hrs:=htok.rels;have htl:(t.rels.length:Int)≤9223372036854775807:=by have:=hrs.cap;have:=hrs.capm;simp only [maxLen] at this;omega
    have hsn:=zbA ht;have hle:=zc2 (l:=l) (i + 1);rw [hsn,List.length_append,List.length_map] at hle;have hK1:=hK.alloc (.cells #[.string t.name,.slice t.A t.rels.length t.c] 112);have x1:=Bk.new wr #[.string t.name,.slice t.A t.rels.length t.c] 112;have hwl:=hK.below.size;have hwl4:w.heap.size + 4≤wr.heap.size:=by obtain ⟨v,q,_⟩:=hK.one;have:=q.lt;omega
    go_upto_region 5 with (fail)
    clear t0 t1;generalize hq5:wr.heap.size=q5 at *
    generalize wr.alloc (.cells #[.string t.name,.slice t.A t.rels.length t.c] 112)=w1 at *
    have y0:=x1.cell 0;have y1:=x1.cell 1;go_wp2_with fail
    go_loopw [20] (fun vi wx=>∃j:Nat,vi = .int .i64 j∧j≤t.rels.length∧KI w wx (relsA (l.take i) ++ (t.rels.take j).map fun r=>(t,r))∧Bk wx q5 #[.string t.name,.slice t.A t.rels.length t.c] 112) (fun vi _=>t.rels.length-(intOf vi).toNat)
    case atStart=>exact ⟨0,rfl,Nat.zero_le _,by simpa using hK1,x1⟩
    case round =>
     obtain ⟨j,rfl,hj,hKj,hX5⟩:=hrel;by_cases hjl:j<t.rels.length
     · have hdj:(j:Int)<(t.rels.length:Int):=by omega
       obtain ⟨x,hx⟩:∃x,t.rels[j]? = some x:=⟨_,List.getElem?_eq_getElem hjl⟩;obtain ⟨g,k,e5,g0,g1,g2,g3,g4,g5,hxok⟩:=(htok.up hKj.below).get hx;have htn:=htok.name;have hxn:=hxok.name;obtain ⟨dn,hdn⟩:∃dn,relsA (l.take i) ++ (t.rels.take j).map (fun r=>(t,r))=dn:=⟨_,rfl⟩;have hdl:dn.length≤99999:=by rw [←hdn,List.length_append,List.length_map,List.length_take];omega
       have hnx:Hid (relsA (l.take i) ++ (t.rels.take (j + 1)).map (fun r=>(t,r))=dn ++ [(t,x)]):=Lib.hid (by rw [List.take_add_one,hx,Option.toList_some,List.map_append,←List.append_assoc,hdn];rfl);rw [hdn] at hKj;have hdn:=Lib.hid hdn;have hwl2:w.heap.size + 4≤wr.heap.size:=by obtain ⟨v,q,_⟩:=hKj.one;have:=q.lt;omega
       have hK2:=hKj.alloc (.cells x.cells.toArray 115);have hX52:=hX5.alloc (.cells x.cells.toArray 115);have x7:=Bk.new wr x.cells.toArray 115;have hq7:wr.heap.size<(wr.alloc (.cells x.cells.toArray 115)).heap.size:=by simp
       have hq5l:=hX5.lt;have hxc:x.cells.toArray=#[.string x.name,.string x.view,.string x.edit,.string x.check,.slice x.As x.subs.length x.cs,.slice x.Ao x.ops.length x.co]:=rfl;rw [hxc] at hK2 hX52 x7 hq7;rw [e5] at *
       go_upto_region 8 with (fail)
       clear g0 g1 g2 g3 g4 g5 hKj hX5;generalize hq7e:wr.heap.size=q7 at *
       generalize wr.alloc (.cells #[.string x.name,.string x.view,.string x.edit,.string x.check,.slice x.As x.subs.length x.cs,.slice x.Ao x.ops.length x.co] 115)=w2 at *
       obtain ⟨v,hk1,hk2⟩:=hK2.one;obtain ⟨A3,c3,rfl,hR3⟩:=Rd.own hk2;have z0:=hk1.cell 0;have z1:=hk1.cell 1;have z5:=hX52.cell 0;have z7:=x7.cell 0;have hmap:=hK2.map;have hkey:keyOf Tryz.prog 104 (.agg #[.string t.name,.string x.name])=some (kS (t.name,x.name)):=zds (s:=(t.name,x.name)) (by simp only [maxLen];omega) (by simp only [maxLen];omega);have hpl:(zao dn).length=dn.length:=by simp [zao]
       have hm1:=hmap.1;rw [hpl] at hm1;have hmb:=hmap.lt;go_upto_region 9 with (at_mapUpdate;refine wpList_mapUpdate_own _ rfl _ _ _ 125 rfl 104 3 zdt Tryz.underlying125 _ (w.heap.size + 1 + 1) dn.length _ rfl hm1 (by unfold maxLen;omega) _ _ _ rfl rfl hkey _ [] (plainElem_int Tryz.underlying3 (zkb (by omega))) ?_;intro w3 hm3 hg3)
       have o3:∀g',g'<w2.heap.size→g'≠w.heap.size + 1 + 1→w3.heap[g']? = w2.heap[g']?:=fun g' h1 h2=>hg3.block g' h1 fun e'=>h2 (Option.some.inj e');have k3:Bk w3 (w.heap.size + 1 + 1 + 1) _ _:=(o3 _ hk1.lt (by omega)).trans hk1;have own3:w3.ownsRow (w.heap.size + 4) 115 6 (.slice A3 dn.length c3) dn.length (zdz dn):=zaI hk2 fun g' h1=>o3 g' (hk2.lt g' h1).2 (by have:=(hk2.lt g' h1).1;omega);have res3:Bk w3 (w.heap.size + 1) _ _:=(o3 _ hK2.res.lt (by omega)).trans hK2.res;have x53:Bk w3 q5 _ _:=(o3 _ hX52.lt (by omega)).trans hX52;have x73:Bk w3 q7 _ _:=(o3 _ hq7 (by omega)).trans x7;have bl3:Below w.heap.size w w3:=hK2.below.grown hg3 hK2.below.size fun r e'=>by cases e';omega
       have hpn:zao (dn ++ [(t,x)])=zao dn ++ [(t.name,x.name)]:=by simp [zao]
       have hm4:MapS w3 (w.heap.size + 1 + 1) (zao (dn ++ [(t,x)])):=by
        refine ⟨?_,fun q hq=>?_⟩
        · rw [hpn,zdL,hpl,List.length_append,hpl];exact hm3
        · rw [hpn,List.mem_append,List.mem_singleton] at hq;rcases hq with hq | rfl
          · exact hmap.2 q hq
          · exact ⟨by simp only [maxLen];omega,by simp only [maxLen];omega⟩
       clear hm3 hmap hm1 hK2 hk1 hk2 hX52 x7 z0 z1 z5 z7 hg3 o3;have z0:=k3.cell 0;have zf:=k3.fz 0;obtain ⟨s0,s1,s2,s3,s4,s5⟩:w3.cell? ⟨q7,0,none⟩=some (.string x.name)∧w3.cell? ⟨q7,1,none⟩=some (.string x.view)∧w3.cell? ⟨q7,2,none⟩=some (.string x.edit)∧w3.cell? ⟨q7,3,none⟩=some (.string x.check)∧w3.cell? ⟨q7,4,none⟩=some (.slice x.As x.subs.length x.cs)∧w3.cell? ⟨q7,5,none⟩=some (.slice x.Ao x.ops.length x.co):=⟨x73.cell 0,x73.cell 1,x73.cell 2,x73.cell 3,x73.cell 4,x73.cell 5⟩;have hk3l:=k3.lt;go_wp2_with (at_builtin;go_loud (refine zab _ rfl (.tmp 35) (.tmp 37) 110 110 rfl (w.heap.size + 4) 115 i0 _ 6 112 Tryz.underlying110 hi0 hz0 hz1 hz2 rfl (by decide) (.slice A3 dn.length c3) dn.length (zdz dn) rfl (own3.alloc _) _ 1 x.cells rfl (Src.ofSlice _ Tryz.underlying110 _ 1 1 _ rfl (zeH _ _ _ _ _ _ _ _) (zhl x)) (by simp only [maxLen];omega) (by omega) (size_alloc (by omega)) ?_;intro v9 w8 hown8 hg8 hat8;obtain ⟨A9,c9,rfl,_⟩:=Rd.own hown8;have k8:=zbh (k3.alloc _) (own3.alloc _) (by decide) hg8;have y8:=k8.cell 0;have yf8:=k8.fz 0))
       have hsz8:=hg8.size;simp only [World.size_alloc] at hsz8;have o8:∀g',g'<w3.heap.size→g'<w.heap.size + 4→g'≠w.heap.size + 1 + 1 + 1→(w8.setCell ⟨w.heap.size + 1 + 1 + 1,0,none⟩ (.slice A9 (dn.length + 1) c9)).heap[g']? = w3.heap[g']?:=fun g' h1 h2 h3 =>
        ((Below.heap_setCell _ _ _ _ h3).trans (hg8.block g' (by simp;omega) fun e'=>by have:=(own3.lt g' e'.symm).1;omega)).trans (Below.heap_alloc _ _ _ h1)
       have hX9:Bk (w8.setCell ⟨w.heap.size + 1 + 1 + 1,0,none⟩ (.slice A9 (dn.length + 1) c9)) q5 _ _:=(zbh (x53.alloc _) (own3.alloc _) (by decide) hg8).other (a:=⟨w.heap.size + 1 + 1 + 1,0,none⟩) (by show q5≠w.heap.size + 1 + 1 + 1;omega) _;have hb9:Below w.heap.size w (w8.setCell ⟨w.heap.size + 1 + 1 + 1,0,none⟩ (.slice A9 (dn.length + 1) c9)):=(zak (bl3.alloc bl3.size _) hg8 (own3.alloc _) (size_alloc bl3.size) (by omega)).setCell (by show w.heap.size≤w.heap.size + 1 + 1 + 1;omega) _;refine ⟨⟨j + 1,by go_num,by omega,?_,hX9⟩,by simp [intOf];omega⟩;rw [hnx.out];refine ⟨⟨_,by simpa using k8.set 0 (.slice A9 (dn.length + 1) c9),?_⟩,hm4.same (o8 _ hm4.lt (by omega) (by omega)),(o8 _ res3.lt (by omega) (by omega)).trans res3,hb9⟩;rw [List.length_append,zkJ];have e9:zdz [(t,x)]=x.cells:=by simp [zdz]
       rw [e9];exact zai hown8 (by show w.heap.size + 1 + 1 + 1<_;omega) _
     · obtain rfl:j=t.rels.length:=by omega
       have hdj:¬(((t.rels.length:Nat):Int)<(t.rels.length:Int)):=by omega
       rw [List.take_length,←hsn] at hKj;go_wp2_with fail
       exact ⟨⟨i + 1,by go_num,by omega,hKj⟩,by simp [intOf];omega⟩
  · obtain rfl:i=l.length:=by omega
    have hdi:¬(((l.length:Nat):Int)<(l.length:Int)):=by omega
    rw [List.take_length] at hK;obtain ⟨v,hk1,hk2⟩:=hK.one;obtain ⟨A3,c3,rfl,hR3⟩:=Rd.own hk2;have z0:=hk1.cell 0;have z1:=hk1.cell 1;have r0:=hK.res.cell 0;have r1:=hK.res.cell 1;have rf0:=hK.res.fz 0;have rf1:=hK.res.fz 1;go_wp2_with fail
    have hw:=(hK.res.set 0 (.slice A3 (relsA l).length c3)).set 1 (.map (some (w.heap.size + 1 + 1)));obtain ⟨y0,y1⟩:=Bk.c2 hw;refine bodyPost_ret (v:=.agg #[.slice A3 (relsA l).length c3,.map (some (w.heap.size + 1 + 1))]) (by simp [results,Tryz.results50,go_sem,y0,y1];try rfl) rfl ?_;refine ⟨⟨A3,c3,w.heap.size + 1 + 1,rfl,by omega,zav (zai (zai hk2 (by show w.heap.size + 1<_;omega) _) (by show w.heap.size + 1<_;omega) _) (by omega),(hK.map.same ?_)⟩,(hK.below.setCell (by show w.heap.size≤w.heap.size + 1;omega) _).setCell (by show w.heap.size≤w.heap.size + 1;omega) _⟩;exact (Below.heap_setCell _ _ _ _ (by show w.heap.size + 1 + 1≠w.heap.size + 1;omega)).trans (Below.heap_setCell _ _ _ _ (by show w.heap.size + 1 + 1≠w.heap.size + 1;omega))
end Go.Proofs.YtiepddmagfmllaaGreat
namespace Go.Proofs.YtiepddmagfmllaaGreat
open Go.RowKit
theorem own_pre {w:World} {B:Nat} {e:TypeId} {n c m:Nat} {A:Option Addr} {xs:List Value} (h:w.ownsRow B e 1 (.slice A n c) n xs) (hm:m≤n) (hn:0<n):w.ownsRow B e 1 (.slice A m c) m (xs.take m):=by
 rcases h.2 with ⟨h',h0⟩ | ⟨g,cap,cur,h',hb,hg,hnc,hcm,hcs,ht⟩
 · omega
 · injection h' with h1 _ h3
   subst h1 h3;refine ⟨by rw [List.length_take,h.1];omega,.inr ⟨g,c,cur,rfl,hb,hg,by omega,hcm,hcs,?_⟩⟩;rw [←ht,List.take_take];congr 1
   omega
theorem zjI {w:World} {B n c:Nat} {A:Option Addr} {l:List OpI} (h:Rd w B 3 A n c (l.flatMap aOp)) {i:Nat} {o:OpI} (hi:l[i]? = some o) (hn:n=l.length) :
 ∃b k,A=some ⟨b,k,none⟩∧b<B∧w.cell? ⟨b,k + i * 3,none⟩=some (.int .i64 o.1)∧w.cell? ⟨b,k + i * 3 + 1,none⟩=some (.string o.2.1)∧w.cell? ⟨b,k + i * 3 + 2,none⟩=some (.string o.2.2):=by
 subst hn;obtain ⟨b,k,e,hb,hc⟩:=h.at_ (zda hi);have g:=fun j (hj:j<3)=>za6 aOp (sz:=3) (fun _=>rfl) hi (k:=j) hj;exact ⟨b,k,e,hb,hc _ _ (g 0 (by omega)),by rw [Nat.add_assoc];exact hc _ _ (g 1 (by omega)),by rw [Nat.add_assoc];exact hc _ _ (g 2 (by omega))⟩
theorem zhU {w:World} {g:Nat} {m:List Int} (h:Bk w g (lvs m).toArray 3) {i:Nat} (hi:i<m.length):w.cell? ⟨g,i,none⟩=some (.int .i64 (m.getD i 0)):=by
 rw [h.cell i,List.getD_eq_getElem?_getD,List.getElem?_eq_getElem hi];simp [lvs,hi]
theorem zfu {m:List Int} {k:Int} (h:Small m k) (hk:0≤k) (i:Nat) : -k≤m.getD i 0∧m.getD i 0≤k:=by
 rw [List.getD_eq_getElem?_getD];cases hi:m[i]? with
 | none=>simp;omega
 | some y=>have:=h y (List.mem_of_getElem? hi);simpa using this
structure BI (w wx:World) (n:Nat) (s:List Int × List Nat) (v:Value):Prop where
 more:Bk wx w.heap.size (lvs s.1).toArray 3
 var:Bk wx (w.heap.size + 1) #[.slice (some ⟨w.heap.size,0,none⟩) (n + 1) (n + 1)] 32
 beg:wx.ownsRow (w.heap.size + 2) 3 1 v s.2.length (ints s.2)
 below:Below w.heap.size w wx
 len:s.1.length=n + 1
theorem BI.alloc {w wx:World} {n:Nat} {s:List Int × List Nat} {v:Value} (h:BI w wx n s v) (o:Obj):BI w (wx.alloc o) n s v:=⟨h.more.alloc o,h.var.alloc o,h.beg.alloc o,h.below.alloc h.below.size o,h.len⟩
theorem BI.drew {w wx:World} {n:Nat} {s:List Int × List Nat} {v:Value} (h:BI w wx n s v):BI w wx.drew n s v:=⟨h.more,h.var,zbJ h.beg,h.below.drew,h.len⟩
theorem BI.add {w wx:World} {n i:Nat} {d:Int} {s:List Int × List Nat} {v:Value} (h:BI w wx n s v):BI w (wx.setCell ⟨w.heap.size,i,none⟩ (.int .i64 (s.1.getD i 0 + d))) n (zd0 s.1 i d,s.2) v:=by
 refine ⟨?_,h.var.other (a:=⟨w.heap.size,i,none⟩) (by show w.heap.size + 1≠w.heap.size;omega) _,zai h.beg (by show w.heap.size<_;omega) _,h.below.setCell (Nat.le_refl _) _,by rw [zcG];exact h.len⟩;have:=h.more.set i (.int .i64 (s.1.getD i 0 + d));rw [ziT] at this;exact this
theorem BI.app {w w1 w8:World} {n j:Nat} {m:List Int} {bg:List Nat} {v v9:Value} {o:Obj} (h:BI w w1 n (m,bg) v) (hg:(w1.alloc o).grownBy w8 v.ownBlock) (hown:w8.ownsRow (w.heap.size + 2) 3 1 v9 (bg.length + 1) (ints bg ++ [.int .i64 (j:Int)])):BI w w8 n (m,bg ++ [j]) v9:=by
 have hb:=h.beg.alloc o;have hs:=hg.size;simp only [World.size_alloc] at hs;have k:∀g,g<w.heap.size + 2→g<w1.heap.size→w8.heap[g]? = w1.heap[g]?:=fun g h1 h2=>(hg.block g (by simp;omega) fun e=>by have:=(hb.lt g e.symm).1;omega).trans (Below.heap_alloc _ _ _ h2);refine ⟨(k _ (by omega) h.more.lt).trans h.more,(k _ (by omega) h.var.lt).trans h.var,?_,zak (h.below.alloc h.below.size o) hg hb (size_alloc h.below.size) (by omega),h.len⟩;show w8.ownsRow _ _ _ v9 (bg ++ [j]).length (ints (bg ++ [j]));rw [List.length_append,zek];exact hown
theorem BI.cut {w wx:World} {n k c:Nat} {A:Option Addr} {s:List Int} {bg:List Nat} (h:BI w wx n (s,bg) (.slice A bg.length c)) (hk:k≤bg.length) (h0:0<bg.length):BI w wx n (s,bg.take k) (.slice A k c):=by
 refine ⟨h.more,h.var,?_,h.below,h.len⟩;have:=own_pre h.beg hk h0;show wx.ownsRow _ _ _ _ (bg.take k).length (ints (bg.take k));rw [List.length_take,Nat.min_eq_left hk];unfold ints at *
 rw [List.map_take];exact this
theorem behindNotOf_any {w:World} {A:Option Addr} {c:Nat} {l:List OpI} (h:Rd w w.heap.size 3 A l.length c (l.flatMap aOp)) (hl:l.length≤100000) :
 Calls Tryz.prog 51 #[.slice A l.length c] w fun e w'=>e = .returned (.func (.func 91) #[] #[.pointer (some ⟨w.heap.size + 1,0,none⟩)]) ∧
  Bk w' w.heap.size (lvs (zeu (zg7 l) l.length)).toArray 3∧Bk w' (w.heap.size + 1) #[.slice (some ⟨w.heap.size,0,none⟩) (l.length + 1) (l.length + 1)] 32∧Below w.heap.size w w':=by
 obtain ⟨i0,hi0,hz0,hz1,hz2⟩:=info_parts zdH;have hmk:∀W:World,(Instr.makeSlice 32 (.int .i64 ((l.length:Int) + 1)) (.int .i64 ((l.length:Int) + 1))).run Tryz.prog W = .ok (.slice (some ⟨W.heap.size,0,none⟩) (l.length + 1) (l.length + 1)) (W.alloc (.cells (lvs (List.replicate (l.length + 1) 0)).toArray 3)):=fun W=>by
  have:=run_make (P:=Tryz.prog) W 32 3 i0 _ Tryz.underlying32 hi0 hz0 .i64 .i64 (l.length + 1) ((l.length:Int) + 1) (by omega) (by omega) (by rw [hz2];omega) (by omega);have e1:((l.length:Int) + 1).toNat=l.length + 1:=by omega
  rw [e1,hz1,Nat.mul_one] at this;rw [this];congr 3
  apply Array.ext';show (madeCells #[.int .i64 0] (l.length + 1)).toList=_;rw [toList_madeCells_one];simp [lvs]
 go_enter Tryz.func51,Tryz.ntmps51
 go_wp2_with fail
 have hb0:Below w.heap.size w ((w.alloc (.cells (lvs (List.replicate (l.length + 1) 0)).toArray 3)).alloc (.cells #[.slice (some ⟨w.heap.size,0,none⟩) (l.length + 1) (l.length + 1)] 32)):=((Below.refl _ w).alloc (Nat.le_refl _) _).alloc (by simp) _;have d0:=(Bk.new w (lvs (List.replicate (l.length + 1) 0)).toArray 3).alloc (.cells #[.slice (some ⟨w.heap.size,0,none⟩) (l.length + 1) (l.length + 1)] 32);have d1:=Bk.new (w.alloc (.cells (lvs (List.replicate (l.length + 1) 0)).toArray 3)) #[.slice (some ⟨w.heap.size,0,none⟩) (l.length + 1) (l.length + 1)] 32;simp only [World.size_alloc] at d1;generalize (w.alloc (.cells (lvs (List.replicate (l.length + 1) 0)).toArray 3)).alloc (.cells #[.slice (some ⟨w.heap.size,0,none⟩) (l.length + 1) (l.length + 1)] 32)=w0 at *
 have hB0:BI w w0 l.length (List.replicate (l.length + 1) 0,[]) (.slice none 0 0):=⟨d0,d1,World.ownsRow_nil _ _ _ _,hb0,by simp⟩;have hll:(l.length:Int)≤9223372036854775807:=by omega
 clear hmk d0 d1 hb0;go_loopw [4,15] (fun v vi wx=>∃j:Nat,vi = .int .i64 j∧j≤l.length∧BI w wx l.length (zeR (List.replicate (l.length + 1) 0,[]) 0 (l.take j)) v) (fun _ vi _=>l.length-(intOf vi).toNat)
 case atStart=>exact ⟨0,rfl,Nat.zero_le _,hB0⟩
 case round =>
  obtain ⟨j,rfl,hj,hB⟩:=hrel;by_cases hjl:j<l.length
  · have hdj:(j:Int)<(l.length:Int):=by omega
    obtain ⟨⟨k,on,ox⟩,ho⟩:∃o,l[j]? = some o:=⟨_,List.getElem?_eq_getElem hjl⟩;obtain ⟨b,o,rfl,hbw,c0,c1,c2⟩:=zjI (h.below hB.below) ho rfl;have hsn:Hid (zeR (List.replicate (l.length + 1) 0,[]) 0 (l.take (j + 1))=zb9 (zeR (List.replicate (l.length + 1) 0,[]) 0 (l.take j)) j k):=Lib.hid (by
     rw [List.take_add_one,ho,Option.toList_some,zl1,List.length_take,Nat.zero_add,Nat.min_eq_left (by omega)])
    have hsm:Small (zeR (List.replicate (l.length + 1) 0,[]) 0 (l.take j)).1 200000:=fun x hx=>by
     have:=zgy (l.take j) (List.replicate (l.length + 1) 0,[]) 0 0 (by omega) (fun y hy=>by rw [List.mem_replicate] at hy;omega) x hx;rw [List.length_take] at this;omega
    have hlt:=mrun_lt (l.take j) (List.replicate (l.length + 1) 0,[]) 0 (fun b hb=>by cases hb);rw [List.length_take,Nat.min_eq_left (by omega),Nat.zero_add] at hlt;have hbl:=mrun_beg (l.take j) (List.replicate (l.length + 1) 0,[]) 0;rw [List.length_take,Nat.min_eq_left (by omega),List.length_nil,Nat.zero_add] at hbl;obtain ⟨⟨m,bg⟩,hst⟩:∃st,zeR (List.replicate (l.length + 1) 0,[]) 0 (l.take j)=st:=⟨_,rfl⟩;rw [hst] at hB hsn hsm hlt hbl;clear hst;simp only at hsm hlt hbl;have hB1:=hB.alloc (.cells #[.int .i64 k,.string on,.string ox] 132);have x1:=Bk.new wr #[.int .i64 k,.string on,.string ox] 132;obtain ⟨A3,c3,rfl,hRb⟩:=Rd.own hB.beg;have hcap:=hRb.cap;have hcapm:=hRb.capm;simp only at hcap;clear hRb;go_upto_region 6 with (fail)
    clear c0 c1 c2;generalize hq1:wr.heap.size=q1 at *
    generalize wr.alloc (.cells #[.int .i64 k,.string on,.string ox] 132)=w1 at *
    have y0:=x1.cell 0;have hws:=hB1.below.size;have hw2:w.heap.size + 2≤w1.heap.size:=by have:=hB1.var.lt;omega
    by_cases hk:k=1∨k=2∨k=3
    · have hms:Hid (zb9 (m,bg) j k=(m,bg ++ [j])):=Lib.hid (by unfold zb9;rw [if_pos hk]);rcases hk with rfl | rfl | rfl;all_goals
       go_wp2_with (at_builtin;go_loud (refine zab _ rfl (.tmp 29) (.tmp 31) 32 32 rfl (w.heap.size + 2) 3 i0 (.int .i64 0) 1 8 Tryz.underlying32 hi0 hz0 hz1 hz2 rfl (by decide) (.slice A3 bg.length c3) bg.length (ints bg) rfl (hB1.beg.alloc _) _ 1 [.int .i64 (j:Int)] rfl (Src.ofSlice _ Tryz.underlying32 _ 1 1 _ rfl (zbn _ _ _) (zdI [j])) (by simp only [maxLen];omega) (by omega) (size_alloc hw2) ?_;intro v9 w8 hown8 hg8 hat8))
       exact ⟨⟨j + 1,by go_num,by omega,by rw [hsn.out,hms.out];exact hB1.app hg8 hown8⟩,by simp [intOf];omega⟩
    · have hk1:(k == 1)=false:=by simp;omega
      have hk2:(k == 2)=false:=by simp;omega
      have hk3:(k == 3)=false:=by simp;omega
      by_cases hk4:k=4∨k=5∨k=6
      · by_cases h2:bg.length<2
        · have hms:Hid (zb9 (m,bg) j k=(m,bg)):=Lib.hid (by unfold zb9;rw [if_neg hk,if_pos hk4,if_pos h2]);have hla:(bg.length:Int)-1<1:=by omega
          rcases hk4 with rfl | rfl | rfl;all_goals
           go_wp2_with fail
           exact ⟨⟨j + 1,by go_num,by omega,by rw [hsn.out,hms.out];exact hB1⟩,by simp [intOf];omega⟩
        · obtain ⟨nn,hnn⟩:∃nn:Nat,(bg.length:Int)-1=(nn:Int):=⟨bg.length-1,by omega⟩;have hne:bg.length-1=nn:=by omega
          have hla:¬((nn:Int)<1):=by omega
          have hnc:(nn:Int)≤(c3:Int):=by omega
          have hnl:nn≤bg.length:=by omega
          have hn0:0<bg.length:=by omega
          have hxb:=Lib.hid (hB1.cut hnl hn0);by_cases hk6:k=6
          · subst hk6;obtain ⟨p,hp⟩:∃p,bg[nn]? = some p:=⟨_,List.getElem?_eq_getElem (by omega)⟩;have hpj:=hlt p (List.mem_of_getElem? hp);have hlm:=hB1.len;simp only at hlm;have hms:Hid (zb9 (m,bg) j 6=(zd0 (zd0 m p 1) j (-1),bg.take nn)):=Lib.hid (by
             unfold zb9;rw [if_neg hk,if_pos hk4,if_neg h2,if_pos rfl];simp only [hne];rw [List.getD_eq_getElem?_getD,hp];rfl)
            replace hne:=Lib.hid hne;obtain ⟨A4,c4,e4,hR4⟩:=Rd.own hB1.beg;injection e4 with e4 _ e4'
            subst e4 e4';obtain ⟨ob,oo,u,rfl,_,hu,hcb⟩:=hR4.get (k:=nn) (by simp only;omega);have hup:u = .int .i64 (p:Int):=by
             simp only [ints,List.getElem?_map,hp,Option.map_some,Option.some.injEq] at hu;exact hu.symm
            subst hup;have hmp:=zhU hB1.more (i:=p) (by simp only;omega);simp only at hmp;have hfz:=hB1.more.fz p;have hv0:=hB1.var.cell';have hpi:(p:Int)<(l.length:Int) + 1:=by omega
            have hni:(nn:Int)<(bg.length:Int):=by omega
            have hsb:=zfu hsm (by omega) p;obtain ⟨z,hz⟩:∃z,m.getD p 0=z:=⟨_,rfl⟩;rw [hz] at hmp hsb;obtain ⟨hz0,hz1⟩:=hsb;have hA1:=hB1.add (i:=p) (d:=1);simp only [hz] at hA1;replace hA1:=Lib.hid hA1;clear hz;go_upto_region 17 with (fail)
            go_region
            have hA2:=Lib.hid hA1.out.drew;clear hmp hfz hv0 hA1;generalize (World.setCell w1 ⟨w.heap.size,p,none⟩ (.int .i64 (z + 1))).drew=w2 at *
            have hlm2:(zd0 m p 1).length=l.length + 1:=hA2.out.len;have hmj:=zhU hA2.out.more (i:=j) (by show j<(zd0 m p 1).length;omega);simp only at hmj;have hsb2:Small (zd0 m p 1) 200001:=zd1 hsm p 1 (by omega) (by omega);obtain ⟨hz2,hz3⟩:=zfu hsb2 (by omega) j;obtain ⟨z2,hz4⟩:∃z,(zd0 m p 1).getD j 0=z:=⟨_,rfl⟩;have hA3:=hA2.out.add (i:=j) (d:=-1);have hfz:=hA2.out.more.fz j;have hv0:=hA2.out.var.cell';simp only [hz4] at hA3;rw [hz4] at hmj hz2 hz3;replace hA3:=Lib.hid hA3;clear hz4 hsb2;have hjp:(j:Int)<(l.length:Int) + 1:=by omega
            go_wp2_with fail
            refine ⟨⟨j + 1,by go_num,by omega,?_⟩,by simp [intOf];omega⟩;rw [hsn.out,hms.out];have hA4:=hA3.out;rw [←Int.sub_eq_add_neg] at hA4;clear hxb;have hc:nn=(bg.take nn).length:=by rw [List.length_take];omega
            exact hA4.cut hnl hn0
          · have hms:Hid (zb9 (m,bg) j k=(m,bg.take nn)):=Lib.hid (by unfold zb9;rw [if_neg hk,if_pos hk4,if_neg h2,if_neg hk6];simp only [hne]);replace hne:=Lib.hid hne;have hk6':(k == 6)=false:=by simpa using hk6
            rcases hk4 with rfl | rfl | rfl
            · go_wp2_with fail
              exact ⟨⟨j + 1,by go_num,by omega,by rw [hsn.out,hms.out];exact hxb.out⟩,by simp [intOf];omega⟩
            · go_wp2_with fail
              exact ⟨⟨j + 1,by go_num,by omega,by rw [hsn.out,hms.out];exact hxb.out⟩,by simp [intOf];omega⟩
            · exact absurd rfl hk6
      · have hms:Hid (zb9 (m,bg) j k=(m,bg)):=Lib.hid (by unfold zb9;rw [if_neg hk,if_neg hk4]);have hk4':(k == 4)=false:=by simp;omega
        have hk5':(k == 5)=false:=by simp;omega
        have hk6':(k == 6)=false:=by simp;omega
        go_wp2_with fail
        exact ⟨⟨j + 1,by go_num,by omega,by rw [hsn.out,hms.out];exact hB1⟩,by simp [intOf];omega⟩
  · obtain rfl:j=l.length:=by omega
    have hdj:¬(((l.length:Nat):Int)<(l.length:Int)):=by omega
    rw [List.take_length] at hB;clear hll;obtain ⟨m0,hm0⟩:∃m0,zeR (List.replicate (l.length + 1) 0,[]) 0 l=m0:=⟨_,rfl⟩;have hsm:Small (zeR (List.replicate (l.length + 1) 0,[]) 0 l).1 200000:=fun x hx=>by
     have:=zgy l (List.replicate (l.length + 1) 0,[]) 0 0 (by omega) (fun y hy=>by rw [List.mem_replicate] at hy;omega) x hx;omega
    have hmo:Hid (zg7 l=m0.1):=Lib.hid (by rw [zg7,hm0]);rw [hm0] at hB hsm;clear hm0;go_wp2_with fail
    go_loopw [63] (fun vi wx=>∃j:Nat,vi = .int .i64 j∧j≤l.length∧Bk wx w.heap.size (lvs (zeu m0.1 j)).toArray 3∧Bk wx (w.heap.size + 1) #[.slice (some ⟨w.heap.size,0,none⟩) (l.length + 1) (l.length + 1)] 32∧Below w.heap.size w wx) (fun vi _=>l.length-(intOf vi).toNat)
    case atStart=>exact ⟨0,rfl,Nat.zero_le _,hB.more,hB.var,hB.below⟩
    case round =>
     obtain ⟨j,rfl,hj,hM,hV,hbx⟩:=hrel;by_cases hjl:j<l.length
     · have hdj:(j:Int)<(l.length:Int):=by omega
       have hlp:(zeu m0.1 j).length=l.length + 1:=by rw [zhj];exact hB.len
       have p0:=zhU hM (i:=j) (by omega);have p1:=zhU hM (i:=j + 1) (by omega);have pf:=hM.fz (j + 1);have v0:=hV.cell';obtain ⟨hs1,hs2⟩:=zkH hsm (by omega) j;obtain ⟨hb1,hb1'⟩:=zfu hs1 (by omega) j;obtain ⟨hb2,hb2'⟩:=zfu hs1 (by omega) (j + 1);have hps:Hid (zeu m0.1 (j + 1)=(zeu m0.1 j).set (j + 1) ((zeu m0.1 j).getD (j + 1) 0 + (zeu m0.1 j).getD j 0)):=Lib.hid rfl;have hls:=Lib.hid (hM.set (j + 1) (.int .i64 ((zeu m0.1 j).getD (j + 1) 0 + (zeu m0.1 j).getD j 0)));obtain ⟨z1,hz1⟩:∃z,(zeu m0.1 j).getD j 0=z:=⟨_,rfl⟩;obtain ⟨z2,hz2⟩:∃z,(zeu m0.1 j).getD (j + 1) 0=z:=⟨_,rfl⟩;rw [hz1] at p0 hb1 hb1' hps hls;rw [hz2] at p1 hb2 hb2' hps hls;clear hz1 hz2 hs1 hs2;have hji:(j:Int)<(l.length:Int) + 1:=by omega
       have hji2:(j:Int) + 1<(l.length:Int) + 1:=by omega
       go_upto_region 24 with (fail)
       go_region
       go_wp2_with fail
       refine ⟨⟨j + 1,by go_num,by omega,?_,hV.other (a:=⟨w.heap.size,j + 1,none⟩) (by show w.heap.size + 1≠w.heap.size;omega) _,(hbx.setCell (Nat.le_refl _) _).drew⟩,by simp [intOf];omega⟩;rw [hps.out,←ziT];exact hls.out
     · obtain rfl:j=l.length:=by omega
       have hdj:¬(((l.length:Nat):Int)<(l.length:Int)):=by omega
       go_wp2_with fail
       go_ret
       exact ⟨rfl,by rw [hmo.out];exact hM,hV,hbx⟩
theorem ziC {w:World} {g b:Nat} {l:List OpI} (hm:Bk w g (lvs (zeu (zg7 l) l.length)).toArray 3) (hv:Bk w b #[.slice (some ⟨g,0,none⟩) (l.length + 1) (l.length + 1)] 32) {i:Nat} (hi:i<l.length) :
 Calls Tryz.prog 91 #[.int .i64 (i:Int),.pointer (some ⟨b,0,none⟩)] w fun e w'=>e = .returned (.bool (zaS l i))∧w'=w:=by
 have c0:=hv.cell';have hlen:(zeu (zg7 l) l.length).length=l.length + 1:=by rw [zhj,zg7,mrun_len,List.length_replicate]
 have c1:=zhU hm (i:=i) (by omega);have hii:(i:Int)<((l.length + 1:Nat):Int):=by omega
 have hii2:(i:Int)<(l.length:Int) + 1:=by omega
 obtain ⟨z,hz⟩:∃z,(zeu (zg7 l) l.length).getD i 0=z:=⟨_,rfl⟩;have hbe:Hid (zaS l i=decide (0<z)):=Lib.hid (by rw [zaS,hz]);rw [hz] at c1;clear hz hlen;go_enter Tryz.func91,Tryz.ntmps91
 go_wp2_with fail
 go_ret
 rw [hbe.out];exact ⟨rfl,rfl⟩
end Go.Proofs.YtiepddmagfmllaaGreat
