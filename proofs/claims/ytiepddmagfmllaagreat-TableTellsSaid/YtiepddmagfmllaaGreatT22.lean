import Derived.Test.YtiepddmagfmllaaGreatT18
import Derived.Test.YtiepddmagfmllaaGreatT21
set_option maxRecDepth 100000
set_option maxHeartbeats 4000000
namespace Go.Proofs.YtiepddmagfmllaaGreat
open Go.RowKit Go.Maps
open Go.RowKit Go.Maps
open Go.RowKit Go.Maps
theorem rowT:(96:TypeId)<Tryz.prog.types.size:=of_decide_eq_true (by kernel_rfl)
theorem keyAT:Tryz.prog.keyTypeAt 2 96=true:=by kernel_rfl
theorem lawT:WideMaps.KeyLaw Tryz.prog 96:=deep_law_laid laidP (m:=2) (by omega) rowT keyAT (by rw [Tryz.underlying96])
theorem zlJ:Keyed Tryz.prog 96:=Keyed.of_law lawT
theorem keyTT:Tryz.prog.keyType 96=true:=by kernel_rfl
theorem cellsT:Tryz.prog.cellsOf 96=2:=by kernel_rfl
theorem zlO (n:Nat) {s:Path} (h1:s.1.size≤maxLen) (h2:s.2.size≤maxLen):Tryz.prog.keyLits (n + 2) 96 [.string s.1,.string s.2]=some [.string s.1.data.toList,.string s.2.data.toList]:=by
 simp [Program.keyLits,Tryz.underlying96,cellsT,zlg,Tryz.underlying9,h1,h2,List.range,List.range.loop]
theorem formT (a b:Value):(Value.agg #[a,b]).formed Tryz.prog 96=true:=by simp [Value.formed,Tryz.underlying96,cellsT]
theorem zg3 {s:Path} (h1:s.1.size≤maxLen) (h2:s.2.size≤maxLen):keyOf Tryz.prog 96 (.agg #[.string s.1,.string s.2])=some (kS s):=by
 have h3:=zg6 (fun n=>zlO n h1 h2) (Nat.lt_of_le_of_lt (Nat.zero_le _) rowT);unfold keyOf;simp only [Tryz.underlying96,keyTT,formT,Bool.and_self,if_true,Value.cells,List.toList_toArray];rw [h3];rfl
def MapT (w:World) (b:Nat) (ps:List Path):Prop:=w.ownsMap Tryz.prog 96 (plainElem Tryz.prog 3) b ps.length (zdf ps)∧∀p ∈ ps,SmP p
theorem MapT.same {w w':World} {b:Nat} {ps:List Path} (h:MapT w b ps) (hb:w'.heap[b]? = w.heap[b]?):MapT w' b ps:=by
 obtain ⟨⟨es,clock,h1,h2⟩,h3⟩:=h;exact ⟨⟨es,clock,hb.trans h1,h2⟩,h3⟩
theorem MapT.lt {w:World} {b:Nat} {ps:List Path} (h:MapT w b ps):b<w.heap.size:=h.1.lt
theorem MapT.below {w w':World} {b:Nat} {ps:List Path} (h:MapT w b ps) (hb:Below w.heap.size w w'):MapT w' b ps:=h.same (hb.block b h.lt)
theorem zh1 {ps:List Path} (hs:∀p ∈ ps,SmP p) (hn:ps.Nodup):Tidy (zdf ps)∧Maps.size (zdf ps)=ps.length:=by
 suffices H:∀n (ps:List Path),ps.length=n→(∀p ∈ ps,SmP p)→ps.Nodup→Tidy (zdf ps)∧Maps.size (zdf ps)=ps.length from H _ ps rfl hs hn
 intro n;induction n with
 | zero =>
  intro ps hl _ _;rw [List.eq_nil_of_length_eq_zero hl];exact ⟨tidy_empty,rfl⟩
 | succ n ih =>
  intro ps hl hs hn;rcases List.eq_nil_or_concat ps with rfl | ⟨ps',p,rfl⟩
  · simp at hl
  · rw [List.concat_eq_append] at *
    have hp:=hs p (by simp);rw [List.nodup_append] at hn;have hs':∀x ∈ ps',SmP x:=fun x hx=>hs x (by simp [hx]);obtain ⟨h1,h2⟩:=ih ps' (by simpa using hl) hs' hn.1;have hno:p ∉ ps':=fun hm=>hn.2.2 p hm p (by simp) rfl;have hh:=(zcj hs' hp).1;have hl0:zas ps' p=none:=by
     cases e:zas ps' p with
     | none=>rfl
     | some i=>exact absurd (List.mem_of_getElem? (za3 e)) hno
    rw [hl0] at hh;rw [zdL];refine ⟨h1.put (zlI hp) _,?_⟩;rw [size_put h1,hh,h2,List.length_append];rfl
structure KTab (w wx:World) (done:List (TypA × RelA)):Prop where
 map:MapT wx (w.heap.size + 1) (zao done)
 below:Below w.heap.size w wx
theorem KTab.alloc {w wx:World} {done:List (TypA × RelA)} (h:KTab w wx done) (o:Obj):KTab w (wx.alloc o) done:=⟨h.map.below ((Below.refl _ wx).alloc (Nat.le_refl _) o),h.below.alloc h.below.size o⟩
theorem idsOf_any {w:World} {R c:Nat} {A:Option Addr} {l:List TypA} (h:SchA w R A c l) (hR:R≤140737488351232) (hl:(relsA l).length≤100000) (hn:(zao (relsA l)).Nodup) :
 Calls Tryz.prog 24 #[.agg #[.slice A l.length c]] w fun e w'=>(∃b,e = .returned (.map (some b))∧MapT w' b (zao (relsA l)))∧Below w.heap.size w w':=by
 have hmm:=@run_makeMap Tryz.prog;have hll:(l.length:Int)≤9223372036854775807:=by have:=h.rows.cap;have:=h.rows.capm;simp only [maxLen] at this;omega
 go_enter Tryz.func24,Tryz.ntmps24
 go_wp2_with fail
 have d2:MapT ((w.alloc (.cells #[.slice A l.length c] 70)).alloc (.map #[] 0)) (w.alloc (.cells #[.slice A l.length c] 70)).heap.size (zao []):=⟨World.ownsMap_made _ _ _ _,fun p hp=>by cases hp⟩;simp only [World.size_alloc] at d2;have hB0:Below w.heap.size w ((w.alloc (.cells #[.slice A l.length c] 70)).alloc (.map #[] 0)):=((Below.refl _ w).alloc (Nat.le_refl _) _).alloc (by simp) _;generalize (w.alloc (.cells #[.slice A l.length c] 70)).alloc (.map #[] 0)=w0 at *
 have hK0:KTab w w0 (relsA (l.take 0)):=⟨d2,hB0⟩;clear hmm d2 hB0;go_loopw [13] (fun vi wx=>∃i:Nat,vi = .int .i64 i∧i≤l.length∧KTab w wx (relsA (l.take i))) (fun vi _=>l.length-(intOf vi).toNat)
 case atStart=>exact ⟨0,rfl,Nat.zero_le _,hK0⟩
 case round =>
  obtain ⟨i,rfl,hi,hK⟩:=hrel;by_cases hil:i<l.length
  · have hdi:(i:Int)<(l.length:Int):=by omega
    obtain ⟨t,ht⟩:∃t,l[i]? = some t:=⟨_,List.getElem?_eq_getElem hil⟩;obtain ⟨b,o,rfl,t0,t1,htok⟩:=h.get ht;replace t0:=zac t0 hK.below;replace t1:=zac t1 hK.below;have hrs:=htok.rels;have htl:(t.rels.length:Int)≤9223372036854775807:=by have:=hrs.cap;have:=hrs.capm;simp only [maxLen] at this;omega
    have hsn:=zbA ht;have hle:=zc2 (l:=l) (i + 1);have hpre:relsA l=relsA (l.take (i + 1)) ++ relsA (l.drop (i + 1)):=by
     conv=>lhs;rw [←List.take_append_drop (i + 1) l]
     unfold relsA;rw [List.flatMap_append]
    replace hpre:=Lib.hid hpre;rw [hsn,List.length_append,List.length_map] at hle;have hK1:=hK.alloc (.cells #[.string t.name,.slice t.A t.rels.length t.c] 112);have x1:=Bk.new wr #[.string t.name,.slice t.A t.rels.length t.c] 112;have hwl:=hK.below.size;have hml:=hK.map.lt;go_upto_region 5 with (fail)
    clear t0 t1;generalize hq5:wr.heap.size=q5 at *
    generalize wr.alloc (.cells #[.string t.name,.slice t.A t.rels.length t.c] 112)=w1 at *
    have y0:=x1.cell 0;have y1:=x1.cell 1;go_wp2_with fail
    go_loopw [20] (fun vi wx=>∃j:Nat,vi = .int .i64 j∧j≤t.rels.length∧KTab w wx (relsA (l.take i) ++ (t.rels.take j).map fun r=>(t,r))∧Bk wx q5 #[.string t.name,.slice t.A t.rels.length t.c] 112) (fun vi _=>t.rels.length-(intOf vi).toNat)
    case atStart=>exact ⟨0,rfl,Nat.zero_le _,by simpa using hK1,x1⟩
    case round =>
     obtain ⟨j,rfl,hj,hKj,hX5⟩:=hrel;by_cases hjl:j<t.rels.length
     · have hdj:(j:Int)<(t.rels.length:Int):=by omega
       obtain ⟨x,hx⟩:∃x,t.rels[j]? = some x:=⟨_,List.getElem?_eq_getElem hjl⟩;obtain ⟨g,k,e5,g0,g1,g2,g3,g4,g5,hxok⟩:=(htok.up hKj.below).get hx;have htn:=htok.name;have hxn:=hxok.name;obtain ⟨dn,hdn⟩:∃dn,relsA (l.take i) ++ (t.rels.take j).map (fun r=>(t,r))=dn:=⟨_,rfl⟩;have hdl:dn.length≤99999:=by rw [←hdn,List.length_append,List.length_map,List.length_take];omega
       have hnx:Hid (relsA (l.take i) ++ (t.rels.take (j + 1)).map (fun r=>(t,r))=dn ++ [(t,x)]):=Lib.hid (by rw [List.take_add_one,hx,Option.toList_some,List.map_append,←List.append_assoc,hdn];rfl);have hpn:zao (dn ++ [(t,x)])=zao dn ++ [(t.name,x.name)]:=by simp [zao]
       have hnd:(zao dn ++ [(t.name,x.name)]).Nodup:=by
        rw [←hpn,←hnx.out];have h1:=hn;rw [hpre.out,hsn,←List.take_append_drop (j + 1) t.rels,List.map_append] at h1;unfold zao at h1 ⊢;rw [List.map_append,List.map_append,List.map_append,←List.append_assoc] at h1;rw [List.map_append];exact (List.nodup_append.1 (List.nodup_append.1 h1).1).1
       rw [hdn] at hKj;have hdn:=Lib.hid hdn;have hK2:=hKj.alloc (.cells x.cells.toArray 115);have hX52:=hX5.alloc (.cells x.cells.toArray 115);have x7:=Bk.new wr x.cells.toArray 115;have hq7:wr.heap.size<(wr.alloc (.cells x.cells.toArray 115)).heap.size:=by simp
       have hq5l:=hX5.lt;have hxc:x.cells.toArray=#[.string x.name,.string x.view,.string x.edit,.string x.check,.slice x.As x.subs.length x.cs,.slice x.Ao x.ops.length x.co]:=rfl;rw [hxc] at hK2 hX52 x7 hq7;rw [e5] at *
       have hnd:=Lib.hid hnd;have hpn:=Lib.hid hpn;go_upto_region 8 with (fail)
       clear g0 g1 g2 g3 g4 g5 hKj hX5;generalize hq7e:wr.heap.size=q7 at *
       generalize wr.alloc (.cells #[.string x.name,.string x.view,.string x.edit,.string x.check,.slice x.As x.subs.length x.cs,.slice x.Ao x.ops.length x.co] 115)=w2 at *
       have hmap:=hK2.map;have hpl:(zao dn).length=dn.length:=by simp [zao]
       have hsz:Maps.size (zdf (zao dn))=dn.length:=by rw [(zh1 hmap.2 (List.nodup_append.1 hnd.out).1).2,hpl]
       have hm1:=hmap.1;rw [hpl] at hm1;have hlen:∀ty,(Builtin.len_ #[24] ty #[.map (some (w.heap.size + 1))]).run Tryz.prog w2 = .ok (.int .i64 (dn.length:Nat)) w2:=fun ty=>by have:=hm1.len Tryz.underlying24 ty;rw [hsz] at this;exact this
       have hmb:=hmap.lt;replace hsz:=Lib.hid hsz;go_upto_region 9 with (fail)
       have z5:=hX52.cell 0;have z7:=x7.cell 0;have hkey:keyOf Tryz.prog 96 (.agg #[.string t.name,.string x.name])=some (kS (t.name,x.name)):=zg3 (s:=(t.name,x.name)) (by simp only [maxLen];omega) (by simp only [maxLen];omega);clear hlen;go_upto_region 10 with (at_mapUpdate;refine wpList_mapUpdate_own _ rfl _ _ _ 24 rfl 96 3 zlJ Tryz.underlying24 _ (w.heap.size + 1) dn.length _ rfl hm1 (by unfold maxLen;omega) _ _ _ rfl rfl hkey _ [] (plainElem_int Tryz.underlying3 (zkb (by omega))) ?_;intro w3 hm3 hg3)
       have o3:∀g',g'<w2.heap.size→g'≠w.heap.size + 1→w3.heap[g']? = w2.heap[g']?:=fun g' h1 h2=>hg3.block g' h1 fun e'=>h2 (Option.some.inj e');have x53:Bk w3 q5 _ _:=(o3 _ hX52.lt (by omega)).trans hX52;have bl3:Below w.heap.size w w3:=hK2.below.grown hg3 hK2.below.size fun r e'=>by cases e';omega
       have hm4:MapT w3 (w.heap.size + 1) (zao (dn ++ [(t,x)])):=by
        refine ⟨?_,fun q hq=>?_⟩
        · rw [hpn.out,zdL,hpl,List.length_append,hpl];exact hm3
        · rw [hpn.out,List.mem_append,List.mem_singleton] at hq;rcases hq with hq | rfl
          · exact hmap.2 q hq
          · exact ⟨by simp only [maxLen];omega,by simp only [maxLen];omega⟩
       clear hm3 hmap hm1 hK2 hX52 x7 z5 z7 hg3 o3 hkey hpl;go_wp2_with fail
       refine ⟨⟨j + 1,by go_num,by omega,?_,x53⟩,by simp [intOf];omega⟩;rw [hnx.out];exact ⟨hm4,bl3⟩
     · obtain rfl:j=t.rels.length:=by omega
       have hdj:¬(((t.rels.length:Nat):Int)<(t.rels.length:Int)):=by omega
       rw [List.take_length,←hsn] at hKj;go_wp2_with fail
       exact ⟨⟨i + 1,by go_num,by omega,hKj⟩,by simp [intOf];omega⟩
  · obtain rfl:i=l.length:=by omega
    have hdi:¬(((l.length:Nat):Int)<(l.length:Int)):=by omega
    rw [List.take_length] at hK;go_wp2_with fail
    go_ret
    exact ⟨⟨_,rfl,hK.map⟩,hK.below⟩
def MapO (w:World) (mb:Option Nat) (ps:List Path):Prop:=(mb=none∧ps=[])∨∃b,mb=some b∧MapT w b ps
theorem MapO.up {w w':World} {mb:Option Nat} {ps:List Path} (h:MapO w mb ps) (hb:Below w.heap.size w w'):MapO w' mb ps:=by
 rcases h with h | ⟨b,e,h⟩
 · exact .inl h
 · exact .inr ⟨b,e,h.below hb⟩
theorem zlS {ps:List Path} {q:Path} (hs:∀p ∈ ps,SmP p) (hq:SmP q):Maps.has (zdf ps) (kS q)=(zas ps q).isSome∧∀c:Int,(zdf ps).atKey (kS q) (.lit (.int .i64 0)) = .lit (.int .i64 c)→c=(ixP ps q:Nat):=by
 obtain ⟨h1,h2⟩:=zcj hs hq;refine ⟨h1,fun c hc=>?_⟩;rw [h2] at hc;unfold ixP;cases e:zas ps q with
 | none=>rw [e] at hc;cases hc;rfl
 | some i=>rw [e] at hc;cases hc;rfl
section
variable {w:World} {tx:ByteArray} {Ay:Option Addr} {ny cy:Nat} {mb:Option Nat} {Ar:Option Addr} {nr cr:Nat}
theorem tid_any {ps:List Path} (h:MapO w mb ps) (ty re:ByteArray) (h1:ty.size≤maxLen) (h2:re.size≤maxLen) :
 Calls Tryz.prog 21 #[.agg #[.string tx,.slice Ay ny cy,.map mb,.slice Ar nr cr],.string ty,.string re] w fun e w'=>e = .returned (.tuple #[.int .i64 (ixP ps (ty,re):Nat),.bool (zas ps (ty,re)).isSome])∧Below w.heap.size w w':=by
 have hb0:=zck w (.cells #[.string tx,.slice Ay ny cy,.map mb,.slice Ar nr cr] 27);have hkey:keyOf Tryz.prog 96 (.agg #[.string ty,.string re])=some (kS (ty,re)):=zg3 (s:=(ty,re)) h1 h2;rcases h with ⟨rfl,rfl⟩ | ⟨b,rfl,h⟩
 · have e1:ixP [] (ty,re)=0:=rfl;have e2:zas [] (ty,re)=none:=rfl;rw [e1,e2];have hlk:∀W:World,(Instr.lookup 24 (.map none) (.agg #[.string ty,.string re]) true).run Tryz.prog W = .ok (.tuple #[.int .i64 0,.bool false]) W:=fun W=>by
    simp [Instr.lookup];kernel_rfl
   go_enter Tryz.func21,Tryz.ntmps21
   go_wp2_with fail
   refine bodyPost_ret (v:=.tuple #[.int .i64 0,.bool false]) (by simp [results,Tryz.results21,go_sem];try rfl) rfl ?_;exact ⟨rfl,hb0⟩
 · have hl:=zlS h.2 (q:=(ty,re)) ⟨h1,h2⟩;have hm1:=(h.below hb0).1;have hat:=Lib.hid hl.2;have hh:=hl.1;generalize ixP ps (ty,re)=i at *
   generalize (zas ps (ty,re)).isSome=q at *
   clear hl;go_enter Tryz.func21,Tryz.ntmps21
   go_wp2_with (at_lookup;refine wpList_lookup_own_ok_int _ rfl _ _ 24 rfl 96 3 .i64 zlJ Tryz.underlying24 Tryz.underlying3 (zgl _) b ps.length _ rfl hm1 _ _ rfl hkey ?_;intro cc hat2 hwc;obtain rfl:=hat.out cc hat2)
   refine bodyPost_ret (v:=.tuple #[.int .i64 (i:Nat),.bool q]) (by simp [results,Tryz.results21,go_sem];try rfl) rfl ?_;exact ⟨rfl,hb0⟩
theorem own1_any {b k1 k2:Nat} {ps:List Path} {tn:ByteArray} {vr:Value} (h:MapT w b ps) (b1:Bk w k1 #[.map (some b)] 24) (b2:Bk w k2 #[.string tn,vr] 112) (re:ByteArray) (h1:tn.size≤maxLen) (h2:re.size≤maxLen) :
 Calls Tryz.prog 59 #[.string re,.pointer (some ⟨k1,0,none⟩),.pointer (some ⟨k2,0,none⟩)] w fun e w'=>e = .returned (.int .i64 (ixP ps (tn,re):Nat))∧Below w.heap.size w w':=by
 have hkey:keyOf Tryz.prog 96 (.agg #[.string tn,.string re])=some (kS (tn,re)):=zg3 (s:=(tn,re)) h1 h2;have hl:=zlS h.2 (q:=(tn,re)) ⟨h1,h2⟩;have hm1:=h.1;have hat:=Lib.hid hl.2;clear hl;generalize ixP ps (tn,re)=i at *
 have c1:=b1.c1;have c2:=b2.cell 0;go_enter Tryz.func59,Tryz.ntmps59
 go_wp2_with (at_lookup;refine wpList_lookup_own_int _ rfl _ _ 24 rfl 96 3 .i64 zlJ Tryz.underlying24 Tryz.underlying3 (zgl _) b ps.length _ rfl hm1 _ _ rfl hkey ?_;intro cc hat2 hwc;obtain rfl:=hat.out cc hat2)
 go_ret
 exact ⟨rfl,Below.refl _ _⟩
theorem zje {f:FuncId} {fn:Func} (hf:Tryz.prog.funcs[f]? = some fn) (hname:(fn.name == "runtime.NumGoroutine")=false) (hb:fn.body.isNone=false) (args:Array Value) (W:World):(callFunc f args).run Tryz.prog W = .ok (.enter f args) W:=by
 have h1:¬(fn.name="runtime.NumGoroutine"):=by simpa using hname
 have h2:fn.body≠none:=by intro e;rw [e] at hb;cases hb
 simp [callFunc,hf,h1,h2,Result.andThen]
theorem zhL:∀args W,(callFunc 59 args).run Tryz.prog W = .ok (.enter 59 args) W:=zje Tryz.func59 (by kernel_rfl) (by kernel_rfl)
theorem zi0 (a b:List OpT):zaW (a ++ b)=zaW a ++ zaW b:=List.flatMap_append
end
theorem opT_take {ps:List Path} {tn:ByteArray} {l:List OpI} {i:Nat} {o:OpI} (h:l[i]? = some o):zaW ((l.take (i + 1)).map (zbB ps tn))=zaW ((l.take i).map (zbB ps tn)) ++ zcn (zbB ps tn o):=by
 rw [List.take_add_one,h,Option.toList_some,List.map_append,zi0];simp [zaW]
theorem zeS (o:OpT):∀u ∈ zcn o,u.oneCell'=true:=by
 intro u hu;simp only [zcn,List.mem_cons,List.not_mem_nil,or_false] at hu;rcases hu with rfl | rfl | rfl <;> rfl
theorem aop_at {w:World} {c:Nat} {A:Option Addr} {l:List OpI} (h:Rd w w.heap.size 3 A l.length c (l.flatMap aOp)) {i:Nat} {o:OpI} (hi:l[i]? = some o) :
 ∃b k,A=some ⟨b,k,none⟩∧b<w.heap.size∧w.cell? ⟨b,k + i * 3,none⟩=some (.int .i64 o.1)∧w.cell? ⟨b,k + i * 3 + 1,none⟩=some (.string o.2.1)∧w.cell? ⟨b,k + i * 3 + 2,none⟩=some (.string o.2.2):=by
 obtain ⟨b,k,e,hb,hc⟩:=h.at_ (zda hi);have g:=fun j (hj:j<3)=>za6 aOp (sz:=3) (fun _=>rfl) hi (k:=j) hj;exact ⟨b,k,e,hb,hc _ _ (g 0 (by omega)),hc _ _ (g 1 (by omega)),hc _ _ (g 2 (by omega))⟩
theorem opsOf_any {w:World} {b k1 k2 co:Nat} {ps:List Path} {tn:ByteArray} {vr:Value} {Ao:Option Addr} {l:List OpI} (hm:MapT w b ps) (b1:Bk w k1 #[.map (some b)] 24) (b2:Bk w k2 #[.string tn,vr] 112)
 (hr:Rd w w.heap.size 3 Ao l.length co (l.flatMap aOp)) (hs:tn.size≤maxLen) (hz:∀o ∈ l,o.2.1.size≤maxLen) (hn:l.length≤100000) :
 Calls Tryz.prog 60 #[.slice Ao l.length co,.func (.func 59) #[] #[.pointer (some ⟨k1,0,none⟩),.pointer (some ⟨k2,0,none⟩)]] w fun e w' =>
  (∃A c,e = .returned (.slice A l.length c)∧w'.ownsRow w.heap.size 62 3 (.slice A l.length c) l.length (zaW (l.map (zbB ps tn))))∧Below w.heap.size w w':=by
 have hll:(l.length:Int)≤9223372036854775807:=by omega
 have hen:=zhL;obtain ⟨i0,hi0,hz0,hz1,hz2⟩:=info_parts zjw;go_enter Tryz.func60,Tryz.ntmps60
 go_wp2_with fail
 go_loopw [5,11] (fun v vi wx=>∃i:Nat,vi = .int .i64 i∧i≤l.length∧wx.ownsRow w.heap.size 62 3 v i (zaW ((l.take i).map (zbB ps tn)))∧Below w.heap.size w wx) (fun _ vi _=>l.length-(intOf vi).toNat)
 case atStart=>exact ⟨0,rfl,Nat.zero_le _,World.ownsRow_nil _ _ _ _,Below.refl _ _⟩
 case round =>
  obtain ⟨i,rfl,hi,hO,hbx⟩:=hrel;obtain ⟨A3,c3,rfl,_⟩:=Rd.own hO;by_cases hil:i<l.length
  · have hdi:(i:Int)<(l.length:Int):=by omega
    obtain ⟨⟨kd,nm,nx⟩,ho⟩:∃o,l[i]? = some o:=⟨_,List.getElem?_eq_getElem hil⟩;obtain ⟨gb,go,rfl,hgb,g0,g1,g2⟩:=aop_at (hr.up hbx) ho;simp only at g0 g1 g2;have hnz:=hz _ (List.mem_of_getElem? ho);simp only at hnz;have hsn:=Lib.hid (opT_take (ps:=ps) (tn:=tn) ho);have hws:=hbx.size;have hO1:=hO.alloc (.cells #[.int .i64 kd,.string nm,.string nx] 132);have hb1:=hbx.alloc hws (.cells #[.int .i64 kd,.string nm,.string nx] 132);have x1:=Bk.new wr #[.int .i64 kd,.string nm,.string nx] 132;go_upto_region 5 with (fail)
    clear g0 g1 g2 hO hbx;generalize hq1:wr.heap.size=q1 at *
    generalize wr.alloc (.cells #[.int .i64 kd,.string nm,.string nx] 132)=w1 at *
    have y0:=x1.cell 0;have y1:=x1.cell 1;have y2:=x1.cell 2;have hws1:=hb1.size;have hx1l:=x1.lt;have hO2:=hO1.alloc (.cells #[.int .i64 kd,.int .i64 0,.string nx] 62);have hb2:=hb1.alloc hws1 (.cells #[.int .i64 kd,.int .i64 0,.string nx] 62);have x2:=Bk.new w1 #[.int .i64 kd,.int .i64 0,.string nx] 62;have x12:=x1.alloc (.cells #[.int .i64 kd,.int .i64 0,.string nx] 62);go_upto_region 6 with (fail)
    have hltq:∀g',(Value.slice A3 i c3).ownBlock=some g'→g'<w1.heap.size:=fun g' h1=>(hO1.lt g' h1).2;clear y0 y1 y2 hO1 hb1 x1;generalize hq2:w1.heap.size=q2 at *
    generalize w1.alloc (.cells #[.int .i64 kd,.int .i64 0,.string nx] 62)=w2 at *
    have y0:=x12.cell 0;have y1:=x12.cell 1;have y2:=x12.cell 2;have z0:=x2.cell 0;have z1:=x2.cell 1;have z2:=x2.cell 2;have zf:=x2.fz;have zl:=x2.lt;have yl:=x12.lt;by_cases e2:kd=2
    · subst e2;have hopt:Hid (zcn (zbB ps tn (2,nm,nx))=[.int .i64 2,.int .i64 ((ixP ps (tn,nm):Nat):Int),.string nx]):=Lib.hid (by unfold zcn zbB;simp);have ko:=own1_any (hm.below hb2) (b1.below hb2) (b2.below hb2) nm hs hnz;generalize ixP ps (tn,nm)=ix at *
      go_upto_region 7 with (fail)
      go_upto_region 8 with (go_at_call 59;refine ko.mono ?_;rintro e w4 ⟨rfl,hb4⟩;have x24:=x2.below hb4;have u1:=x24.cell 1;have uf:=x24.fz 1;have ul:=x24.lt)
      have hws2:=hb2.size;have hO4:=zag hO2 hb4;have hb4':=zaj hb2 hws2 hb4;have hO5:(w4.setCell ⟨q2,1,none⟩ (.int .i64 ((ix:Nat):Int))).ownsRow w.heap.size 62 3 (.slice A3 i c3) i (zaW ((l.take i).map (zbB ps tn))):=zaI hO4 fun g' h1=>Below.heap_setCell _ _ _ _ (by show g'≠q2;have:=hltq g' h1;omega);have hb5:Below w.heap.size w (w4.setCell ⟨q2,1,none⟩ (.int .i64 ((ix:Nat):Int))):=hb4'.setCell (by show w.heap.size≤q2;omega) _;have x5:=x24.set 1 (.int .i64 ((ix:Nat):Int));simp only [List.setIfInBounds_toArray,List.set_cons_zero,List.set_cons_succ] at x5;clear u1 uf ul z0 z1 z2 zf zl y0 y1 y2 yl;generalize w4.setCell ⟨q2,1,none⟩ (.int .i64 ((ix:Nat):Int))=w5 at *
      have z0:=x5.cell 0;have z1:=x5.cell 1;have z2:=x5.cell 2;go_wp2_with (at_builtin;go_loud (refine zab _ rfl (.tmp 33) (.tmp 35) 53 53 rfl w.heap.size 62 i0 (.agg #[.int .i64 0,.int .i64 0,.string .empty]) 3 32 Tryz.underlying53 hi0 hz0 hz1 hz2 rfl (by decide) (.slice A3 i c3) i (zaW ((l.take i).map (zbB ps tn))) rfl (hO5.alloc _) _ 1 (zcn (zbB ps tn (2,nm,nx))) rfl (Src.ofSlice _ Tryz.underlying53 _ 1 1 _ (by rw [hopt.out];rfl) (by rw [hopt.out];exact zeG _ _ _ _ _) (zeS _)) (by simp only [maxLen];omega) (by omega) (size_alloc hb5.size) ?_;intro v9 w8 hown8 hg8 hat8))
      refine ⟨⟨i + 1,by go_num,by omega,?_,zak (hb5.alloc hb5.size _) hg8 (hO5.alloc _) (size_alloc hb5.size) (Nat.le_refl _)⟩,by simp [intOf];omega⟩;rw [hsn.out];exact hown8
    · by_cases e3:kd=3
      · subst e3;have hopt:Hid (zcn (zbB ps tn (3,nm,nx))=[.int .i64 3,.int .i64 ((ixP ps (tn,nm):Nat):Int),.string nx]):=Lib.hid (by unfold zcn zbB;simp);have ko:=own1_any (hm.below hb2) (b1.below hb2) (b2.below hb2) nm hs hnz;generalize ixP ps (tn,nm)=ix at *
        go_upto_region 7 with (fail)
        go_upto_region 8 with (go_at_call 59;refine ko.mono ?_;rintro e w4 ⟨rfl,hb4⟩;have x24:=x2.below hb4;have u1:=x24.cell 1;have uf:=x24.fz 1;have ul:=x24.lt)
        have hws2:=hb2.size;have hO4:=zag hO2 hb4;have hb4':=zaj hb2 hws2 hb4;have hO5:(w4.setCell ⟨q2,1,none⟩ (.int .i64 ((ix:Nat):Int))).ownsRow w.heap.size 62 3 (.slice A3 i c3) i (zaW ((l.take i).map (zbB ps tn))):=zaI hO4 fun g' h1=>Below.heap_setCell _ _ _ _ (by show g'≠q2;have:=hltq g' h1;omega);have hb5:Below w.heap.size w (w4.setCell ⟨q2,1,none⟩ (.int .i64 ((ix:Nat):Int))):=hb4'.setCell (by show w.heap.size≤q2;omega) _;have x5:=x24.set 1 (.int .i64 ((ix:Nat):Int));simp only [List.setIfInBounds_toArray,List.set_cons_zero,List.set_cons_succ] at x5;clear u1 uf ul z0 z1 z2 zf zl y0 y1 y2 yl;generalize w4.setCell ⟨q2,1,none⟩ (.int .i64 ((ix:Nat):Int))=w5 at *
        have z0:=x5.cell 0;have z1:=x5.cell 1;have z2:=x5.cell 2;go_wp2_with (at_builtin;go_loud (refine zab _ rfl (.tmp 33) (.tmp 35) 53 53 rfl w.heap.size 62 i0 (.agg #[.int .i64 0,.int .i64 0,.string .empty]) 3 32 Tryz.underlying53 hi0 hz0 hz1 hz2 rfl (by decide) (.slice A3 i c3) i (zaW ((l.take i).map (zbB ps tn))) rfl (hO5.alloc _) _ 1 (zcn (zbB ps tn (3,nm,nx))) rfl (Src.ofSlice _ Tryz.underlying53 _ 1 1 _ (by rw [hopt.out];rfl) (by rw [hopt.out];exact zeG _ _ _ _ _) (zeS _)) (by simp only [maxLen];omega) (by omega) (size_alloc hb5.size) ?_;intro v9 w8 hown8 hg8 hat8))
        refine ⟨⟨i + 1,by go_num,by omega,?_,zak (hb5.alloc hb5.size _) hg8 (hO5.alloc _) (size_alloc hb5.size) (Nat.le_refl _)⟩,by simp [intOf];omega⟩;rw [hsn.out];exact hown8
      · have d2:(kd == 2)=false:=by simpa using e2
        have d3:(kd == 3)=false:=by simpa using e3
        have hopt:Hid (zcn (zbB ps tn (kd,nm,nx))=[.int .i64 kd,.int .i64 0,.string nx]):=Lib.hid (by unfold zcn zbB;simp [e2,e3]);have hb5:=hb2;have hO5:=hO2;clear e2 e3;go_wp2_with (at_builtin;go_loud (refine zab _ rfl (.tmp 33) (.tmp 35) 53 53 rfl w.heap.size 62 i0 (.agg #[.int .i64 0,.int .i64 0,.string .empty]) 3 32 Tryz.underlying53 hi0 hz0 hz1 hz2 rfl (by decide) (.slice A3 i c3) i (zaW ((l.take i).map (zbB ps tn))) rfl (hO5.alloc _) _ 1 (zcn (zbB ps tn (kd,nm,nx))) rfl (Src.ofSlice _ Tryz.underlying53 _ 1 1 _ (by rw [hopt.out];rfl) (by rw [hopt.out];exact zeG _ _ _ _ _) (zeS _)) (by simp only [maxLen];omega) (by omega) (size_alloc hb5.size) ?_;intro v9 w8 hown8 hg8 hat8))
        refine ⟨⟨i + 1,by go_num,by omega,?_,zak (hb5.alloc hb5.size _) hg8 (hO5.alloc _) (size_alloc hb5.size) (Nat.le_refl _)⟩,by simp [intOf];omega⟩;rw [hsn.out];exact hown8
  · obtain rfl:i=l.length:=by omega
    have hdi:¬(((l.length:Nat):Int)<(l.length:Int)):=by omega
    rw [List.take_length] at hO;go_wp2_with fail
    go_ret
    exact ⟨⟨A3,c3,rfl,hO⟩,hbx⟩
theorem zku:(Tryz.prog.info? 9).map (fun i=>(i.zero,i.size,i.bytes))=some (some (.string .empty),1,16):=by kernel_rfl
theorem zmJ {l:List TypA} {i:Nat} {t:TypA} (h:l[i]? = some t):((l.take (i + 1)).map fun t=>Value.string t.name)=((l.take i).map fun t=>Value.string t.name) ++ [.string t.name]:=by
 rw [List.take_add_one,h,Option.toList_some,List.map_append];rfl
theorem typesOf_any {w:World} {R c:Nat} {A:Option Addr} {l:List TypA} (h:SchA w R A c l) (hl:l.length≤100000) :
 Calls Tryz.prog 28 #[.agg #[.slice A l.length c]] w fun e w'=>(∃A' c',e = .returned (.slice A' l.length c')∧w'.ownsRow w.heap.size 9 1 (.slice A' l.length c') l.length (l.map fun t=>Value.string t.name))∧Below w.heap.size w w':=by
 have hll:(l.length:Int)≤9223372036854775807:=by omega
 obtain ⟨i0,hi0,hz0,hz1,hz2⟩:=info_parts zku;go_enter Tryz.func28,Tryz.ntmps28
 go_wp2_with fail
 have hb0:=zck w (.cells #[.slice A l.length c] 70);have h0:=h.up hb0;generalize w.alloc (.cells #[.slice A l.length c] 70)=w0 at *
 go_loopw [3,9] (fun v vi wx=>∃i:Nat,vi = .int .i64 i∧i≤l.length∧wx.ownsRow w.heap.size 9 1 v i ((l.take i).map fun t=>Value.string t.name)∧Below w.heap.size w wx) (fun _ vi _=>l.length-(intOf vi).toNat)
 case atStart=>exact ⟨0,rfl,Nat.zero_le _,World.ownsRow_nil _ _ _ _,hb0⟩
 case round =>
  obtain ⟨i,rfl,hi,hO,hbx⟩:=hrel;obtain ⟨A3,c3,rfl,_⟩:=Rd.own hO;by_cases hil:i<l.length
  · have hdi:(i:Int)<(l.length:Int):=by omega
    obtain ⟨t,ht⟩:∃t,l[i]? = some t:=⟨_,List.getElem?_eq_getElem hil⟩;obtain ⟨b,o,rfl,t0,t1,htok⟩:=h.get ht;replace t0:=zac t0 hbx;replace t1:=zac t1 hbx;have hsn:=Lib.hid (zmJ ht);have hws:=hbx.size;have hO1:=hO.alloc (.cells #[.string t.name,.slice t.A t.rels.length t.c] 112);have hb1:=hbx.alloc hws (.cells #[.string t.name,.slice t.A t.rels.length t.c] 112);have x1:=Bk.new wr #[.string t.name,.slice t.A t.rels.length t.c] 112;go_upto_region 5 with (fail)
    clear t0 t1 hO hbx;generalize wr.heap.size=q1 at *
    generalize wr.alloc (.cells #[.string t.name,.slice t.A t.rels.length t.c] 112)=w1 at *
    have y0:=x1.cell 0;go_wp2_with (at_builtin;go_loud (refine zab _ rfl (.tmp 13) (.tmp 16) 23 23 rfl w.heap.size 9 i0 (.string .empty) 1 16 Tryz.underlying23 hi0 hz0 hz1 hz2 rfl (by decide) (.slice A3 i c3) i ((l.take i).map fun t=>Value.string t.name) rfl (hO1.alloc _) _ 1 [.string t.name] rfl (Src.ofSlice _ Tryz.underlying23 _ 1 1 _ rfl (zbn _ _ _) (by simp [Value.oneCell'])) (by simp only [maxLen];omega) (by omega) (size_alloc hb1.size) ?_;intro v9 w8 hown8 hg8 hat8))
    refine ⟨⟨i + 1,by go_num,by omega,?_,zak (hb1.alloc hb1.size _) hg8 (hO1.alloc _) (size_alloc hb1.size) (Nat.le_refl _)⟩,by simp [intOf];omega⟩;rw [hsn.out];exact hown8
  · obtain rfl:i=l.length:=by omega
    have hdi:¬(((l.length:Nat):Int)<(l.length:Int)):=by omega
    rw [List.take_length] at hO;go_wp2_with fail
    go_ret
    exact ⟨⟨A3,c3,rfl,hO⟩,hbx⟩
def zhn (ps:List Path) (lv:List Int) (done:List (TypA × RelA)):List RelT:=done.zipIdx.map fun x=>zcB ps (zaL lv x.2) (x.1.1.says,x.1.2.says)
theorem zkL (ps:List Path) (lv:List Int) (done:List (TypA × RelA)) (x:TypA × RelA):zhn ps lv (done ++ [x])=zhn ps lv done ++ [zcB ps (zaL lv done.length) (x.1.says,x.2.says)]:=by
 unfold zhn;rw [List.zipIdx_append,List.map_append];simp
structure TabO (Y:List (TypA × RelA)) (w wx:World) (x:TabR):Prop where
 subs:∃y ∈ Y,x.As=y.2.As∧x.cs=y.2.cs∧x.r.subs=y.2.subs
 ops:wx.ownsRow w.heap.size 62 3 (.slice x.Ao x.r.ops.length x.co) x.r.ops.length (zaW x.r.ops)
 few:x.r.ops.length≤100000
structure KR (Y:List (TypA × RelA)) (w wx:World) (b:Nat) (ps:List Path) (lv:List Int) (done:List (TypA × RelA)) (vr:Value):Prop where
 row:∃K:List TabR,K.map (·.r)=zhn ps lv done∧wx.ownsRow w.heap.size 100 8 vr done.length (K.flatMap TabR.cells)∧∀x ∈ K,TabO Y w wx x
 box:Bk wx (w.heap.size + 1) #[.map (some b)] 24
 below:Below w.heap.size w wx
theorem KR.call {Y:List (TypA × RelA)} {w wx wy:World} {b:Nat} {ps:List Path} {lv:List Int} {done:List (TypA × RelA)} {vr:Value} (h:KR Y w wx b ps lv done vr) (hb:Below wx.heap.size wx wy):KR Y w wy b ps lv done vr:=by
 obtain ⟨⟨K,h1,h2,h3⟩,h4,h5⟩:=h;exact ⟨⟨K,h1,zag h2 hb,fun x hx=>⟨(h3 x hx).subs,zag (h3 x hx).ops hb,(h3 x hx).few⟩⟩,h4.below hb,zaj h5 h5.size hb⟩
theorem KR.alloc {Y:List (TypA × RelA)} {w wx:World} {b:Nat} {ps:List Path} {lv:List Int} {done:List (TypA × RelA)} {vr:Value} (h:KR Y w wx b ps lv done vr) (o:Obj):KR Y w (wx.alloc o) b ps lv done vr:=h.call (zck wx o)
theorem zkt:(Tryz.prog.info? 100).map (fun i=>(i.zero,i.size,i.bytes))=some (some (.agg #[.string .empty,.string .empty,.int .i64 0,.int .i64 0,.int .i64 0,.int .i64 0,.slice none 0 0,.slice none 0 0]),8,112):=by kernel_rfl
theorem zkZ (x:TabR):∀u ∈ x.cells,u.oneCell'=true:=by
 intro u hu;simp only [TabR.cells,List.mem_cons,List.not_mem_nil,or_false] at hu;rcases hu with rfl | rfl | rfl | rfl | rfl | rfl | rfl | rfl <;> rfl
theorem zkj (w:World) (a b c d e f g h:Value) (t:TypeId):∀j u,[a,b,c,d,e,f,g,h][j]? = some u→(w.alloc (.cells #[a,b,c,d,e,f,g,h] t)).cell? ((⟨w.heap.size,0,none⟩:Addr).add j)=some u:=by
 intro j u hj;rw [Addr.add_lit,cell_of_row _ _ _ _ _ _ (heap_alloc_new w _),Nat.zero_add];simpa using hj
theorem KR.put {Y:List (TypA × RelA)} {w wx wy:World} {b:Nat} {ps:List Path} {lv:List Int} {done:List (TypA × RelA)} {vr v9:Value} {y:TypA × RelA} {x:TabR} {K:List TabR} (h1:K.map (·.r)=zhn ps lv done) (h2:wx.ownsRow w.heap.size 100 8 vr done.length (K.flatMap TabR.cells)) (h3:∀x ∈ K,TabO Y w wx x)
 (h4:Bk wx (w.heap.size + 1) #[.map (some b)] 24) (h5:Below w.heap.size w wx) (hx:TabO Y w wx x) (hr:x.r=zcB ps (zaL lv done.length) (y.1.says,y.2.says))
 (hrow:wy.ownsRow w.heap.size 100 8 v9 (done.length + 1) (K.flatMap TabR.cells ++ x.cells)) (hg:wx.grownBy wy vr.ownBlock):KR Y w wy b ps lv (done ++ [y]) v9:=by
 refine ⟨⟨K ++ [x],?_,?_,fun z hz=>?_⟩,zbh h4 h2 (by decide) hg,zak h5 hg h2 h5.size (Nat.le_refl _)⟩
 · rw [List.map_append,h1,zkL,←hr];rfl
 · rw [List.flatMap_append,List.flatMap_singleton,List.length_append];exact hrow
 · have hz2:TabO Y w wx z:=by
    rcases List.mem_append.1 hz with hz | hz
    · exact h3 z hz
    · rw [List.mem_singleton.1 hz];exact hx
   exact ⟨hz2.subs,zbf hz2.ops h2 (by decide) hg,hz2.few⟩
theorem relsOf_any {w:World} {R c b cv:Nat} {A Av:Option Addr} {l:List TypA} {lv:List Int} {ps:List Path} (h:SchA w R A c l) (hR:R≤140737488351232) (hm:MapT w b ps) (hl:(relsA l).length≤100000)
 (hv:Rd w w.heap.size 1 Av lv.length cv (lvs lv)) (hlv:lv.length=(relsA l).length) (hops:∀x ∈ relsA l,x.2.ops.length≤100000) :
 Calls Tryz.prog 29 #[.agg #[.slice A l.length c],.map (some b),.slice Av lv.length cv] w fun e w' =>
  (∃A' c',e = .returned (.slice A' (relsA l).length c')∧∃K:List TabR,K.length=(relsA l).length∧K.map (·.r)=zhn ps lv (relsA l)∧w'.ownsRow w.heap.size 100 8 (.slice A' (relsA l).length c') (relsA l).length (K.flatMap TabR.cells)∧∀x ∈ K,TabO (relsA l) w w' x)∧Below w.heap.size w w':=by
 have hll:(l.length:Int)≤9223372036854775807:=by have:=h.rows.cap;have:=h.rows.capm;simp only [maxLen] at this;omega
 have hen:=zhL;obtain ⟨i0,hi0,hz0,hz1,hz2⟩:=info_parts zkt;go_enter Tryz.func29,Tryz.ntmps29
 go_wp2_with fail
 have hB0:Below w.heap.size w ((w.alloc (.cells #[.slice A l.length c] 70)).alloc (.cells #[.map (some b)] 24)):=((Below.refl _ w).alloc (Nat.le_refl _) _).alloc (by simp) _;have hX0:=Bk.new2 w (.cells #[.slice A l.length c] 70) #[.map (some b)] 24;generalize (w.alloc (.cells #[.slice A l.length c] 70)).alloc (.cells #[.map (some b)] 24)=w0 at *
 have hK0:KR (relsA l) w w0 b ps lv (relsA (l.take 0)) (.slice none 0 0):=⟨⟨[],rfl,World.ownsRow_nil _ _ _ _,fun x hx=>by cases hx⟩,hX0,hB0⟩;clear hB0 hX0;go_loopw [7,16] (fun v vi wx=>∃i:Nat,vi = .int .i64 i∧i≤l.length∧KR (relsA l) w wx b ps lv (relsA (l.take i)) v) (fun _ vi _=>l.length-(intOf vi).toNat)
 case atStart=>exact ⟨0,rfl,Nat.zero_le _,hK0⟩
 case round =>
  obtain ⟨i,rfl,hi,hK⟩:=hrel;by_cases hil:i<l.length
  · have hdi:(i:Int)<(l.length:Int):=by omega
    obtain ⟨t,ht⟩:∃t,l[i]? = some t:=⟨_,List.getElem?_eq_getElem hil⟩;obtain ⟨bb,o,rfl,t0,t1,htok⟩:=h.get ht;replace t0:=zac t0 hK.below;replace t1:=zac t1 hK.below;have hrs:=htok.rels;have htl:(t.rels.length:Int)≤9223372036854775807:=by have:=hrs.cap;have:=hrs.capm;simp only [maxLen] at this;omega
    have hsn:=zbA ht;have hle:=zc2 (l:=l) (i + 1);have hpre:relsA l=relsA (l.take (i + 1)) ++ relsA (l.drop (i + 1)):=by
     conv=>lhs;rw [←List.take_append_drop (i + 1) l]
     unfold relsA;rw [List.flatMap_append]
    replace hpre:=Lib.hid hpre;rw [hsn,List.length_append,List.length_map] at hle;have hK1:=hK.alloc (.cells #[.string t.name,.slice t.A t.rels.length t.c] 112);have x1:=Bk.new wr #[.string t.name,.slice t.A t.rels.length t.c] 112;have hwl:=hK.below.size;have hxl:=hK.box.lt;go_upto_region 5 with (fail)
    clear t0 t1;generalize hq5:wr.heap.size=q5 at *
    generalize wr.alloc (.cells #[.string t.name,.slice t.A t.rels.length t.c] 112)=w1 at *
    have y0:=x1.cell 0;have y1:=x1.cell 1;obtain ⟨K00,_,hO00,_⟩:=hK1.row;obtain ⟨A00,c00,rfl,_⟩:=Rd.own hO00;clear hO00;go_wp2_with fail
    go_loopw [7,24] (fun v vi wx=>∃j:Nat,vi = .int .i64 j∧j≤t.rels.length∧KR (relsA l) w wx b ps lv (relsA (l.take i) ++ (t.rels.take j).map fun r=>(t,r)) v∧Bk wx q5 #[.string t.name,.slice t.A t.rels.length t.c] 112) (fun _ vi _=>t.rels.length-(intOf vi).toNat)
    case atStart=>exact ⟨0,rfl,Nat.zero_le _,by simpa using hK1,x1⟩
    case round =>
     obtain ⟨j,rfl,hj,hKj,hX5⟩:=hrel;by_cases hjl:j<t.rels.length
     · have hdj:(j:Int)<(t.rels.length:Int):=by omega
       obtain ⟨x,hx⟩:∃x,t.rels[j]? = some x:=⟨_,List.getElem?_eq_getElem hjl⟩;obtain ⟨g,k,e5,g0,g1,g2,g3,g4,g5,hxok⟩:=htok.get hx;replace g0:=zac g0 hKj.below;replace g1:=zac g1 hKj.below;replace g2:=zac g2 hKj.below;replace g3:=zac g3 hKj.below;replace g4:=zac g4 hKj.below;replace g5:=zac g5 hKj.below;have htn:=htok.name;obtain ⟨dn,hdn⟩:∃dn,relsA (l.take i) ++ (t.rels.take j).map (fun r=>(t,r))=dn:=⟨_,rfl⟩;have hdl:dn.length≤99999:=by rw [←hdn,List.length_append,List.length_map,List.length_take];omega
       have hdv:dn.length<lv.length:=by rw [←hdn,List.length_append,List.length_map,List.length_take];omega
       have hnx:Hid (relsA (l.take i) ++ (t.rels.take (j + 1)).map (fun r=>(t,r))=dn ++ [(t,x)]):=Lib.hid (by rw [List.take_add_one,hx,Option.toList_some,List.map_append,←List.append_assoc,hdn];rfl);have hmem:(t,x) ∈ relsA l:=by
        rw [hpre.out,hsn];exact List.mem_append_left _ (List.mem_append_right _ (List.mem_map.2 ⟨x,List.mem_of_getElem? hx,rfl⟩))
       have hof:x.ops.length≤100000:=hops (t,x) hmem;replace hmem:=Lib.hid hmem;rw [hdn] at hKj;have hdn:=Lib.hid hdn;have hK2:=hKj.alloc (.cells #[.string x.name,.string x.view,.string x.edit,.string x.check,.slice x.As x.subs.length x.cs,.slice x.Ao x.ops.length x.co] 115);have hX52:=hX5.alloc (.cells #[.string x.name,.string x.view,.string x.edit,.string x.check,.slice x.As x.subs.length x.cs,.slice x.Ao x.ops.length x.co] 115);have x7:=Bk.new wr #[.string x.name,.string x.view,.string x.edit,.string x.check,.slice x.As x.subs.length x.cs,.slice x.Ao x.ops.length x.co] 115;rw [e5] at *
       obtain ⟨K01,_,hO01,_⟩:=hKj.row;obtain ⟨A3,c3,rfl,_⟩:=Rd.own hO01;clear hO01;go_upto_region 9 with (fail)
       clear g0 g1 g2 g3 g4 g5 hKj hX5;generalize hq7e:wr.heap.size=q7 at *
       generalize wr.alloc (.cells #[.string x.name,.string x.view,.string x.edit,.string x.check,.slice x.As x.subs.length x.cs,.slice x.Ao x.ops.length x.co] 115)=w2 at *
       obtain ⟨bv,ov,rfl,hbv,hcv⟩:=hv.at_ (by omega);have hlc:=hcv _ _ (zlW hdv);replace hlc:=zac hlc hK2.below;have hviewz:x.view.size≤maxLen:=by have:=hxok.view;simp only [maxLen];omega
       have heditz:x.edit.size≤maxLen:=by have:=hxok.edit;simp only [maxLen];omega
       have hcheckz:x.check.size≤maxLen:=by have:=hxok.check;simp only [maxLen];omega
       have htnz:t.name.size≤maxLen:=by simp only [maxLen];omega
       have hzz:Hid (∀o ∈ x.ops,o.2.1.size≤maxLen):=Lib.hid fun o ho=>by have:=(hxok.opz o ho).2.1;simp only [maxLen];omega
       have hwl2:=hK2.below.size;have hlv16:(dn.length:Int)<((relsA l).length:Int):=by omega
       have hlv17:dn.length<(relsA l).length:=by omega
       refine wp_region_any (by kernel_rfl) ?_;change wpAny _ _ _ _ _ _ _ (World.drew _);generalize hdw:World.drew w2=wz at *
       have hbd:Below w2.heap.size w2 wz:=by subst hdw;exact ⟨rfl,rfl,rfl,Nat.le_refl _,fun _ _=>rfl⟩
       replace hK2:=hK2.call hbd;replace hX52:=hX52.below hbd;replace x7:=x7.below hbd;replace hlc:=zac hlc hbd;clear hdw hbd;have hup:∀W,Below wz.heap.size wz W→Below w.heap.size w W:=fun W hb=>zaj hK2.below hK2.below.size hb;have ko:∀(W:World) (s:ByteArray),Below wz.heap.size wz W→s.size≤maxLen→Calls Tryz.prog 59 #[.string s,.pointer (some ⟨w.heap.size + 1,0,none⟩),.pointer (some ⟨q5,0,none⟩)] W fun e w'=>e = .returned (.int .i64 (ixP ps (t.name,s):Nat))∧Below W.heap.size W w':=fun W s hb hs=>own1_any (hm.below (hup W hb)) (hK2.box.below hb) (hX52.below hb) s htnz hs;have kops:=fun (W:World) (hb:Below wz.heap.size wz W)=>opsOf_any (hm.below (hup W hb)) (hK2.box.below hb) (hX52.below hb) (hxok.ops.up (hup W hb)) htnz hzz.out hof;have hSk:∀W,Below wz.heap.size wz W→(W.cell? ⟨q5,0,none⟩=some (.string t.name)∧W.cell? ⟨q7,0,none⟩=some (.string x.name)∧W.cell? ⟨q7,1,none⟩=some (.string x.view)∧W.cell? ⟨q7,2,none⟩=some (.string x.edit)∧W.cell? ⟨q7,3,none⟩=some (.string x.check)∧W.cell? ⟨q7,4,none⟩=some (.slice x.As x.subs.length x.cs)∧W.cell? ⟨q7,5,none⟩=some (.slice x.Ao x.ops.length x.co)∧W.cell? ⟨bv,ov + dn.length,none⟩=some (.int .i64 (zaL lv dn.length))):=fun W hb=>⟨(hX52.below hb).cell 0,(x7.below hb).cell 0,(x7.below hb).cell 1,(x7.below hb).cell 2,(x7.below hb).cell 3,(x7.below hb).cell 4,(x7.below hb).cell 5,zac hlc hb⟩;have hb0:=Below.refl wz.heap.size wz;have HS:=hSk _ hb0;have hx0:=hviewz;refine wpAny_of_held (S:=fun W=>W.cell? ⟨q5,0,none⟩=some (.string t.name)∧W.cell? ⟨q7,0,none⟩=some (.string x.name)∧W.cell? ⟨q7,1,none⟩=some (.string x.view)∧W.cell? ⟨q7,2,none⟩=some (.string x.edit)∧W.cell? ⟨q7,3,none⟩=some (.string x.check)∧W.cell? ⟨q7,4,none⟩=some (.slice x.As x.subs.length x.cs)∧W.cell? ⟨q7,5,none⟩=some (.slice x.Ao x.ops.length x.co)∧W.cell? ⟨bv,ov + dn.length,none⟩=some (.int .i64 (zaL lv dn.length))) _ _ _ _ ?_
       refine zaa 0 (some 28) (v:=?v0k) rfl rfl (by kernel_rfl) (by kernel_rfl) (by kernel_rfl) (fun _ _ _ h=>h) (by rfl) ?y0k HS ?r0k;case y0k=>(intro W hS;obtain ⟨s0,s1,s2,s3,s4,s5,s6,s7⟩:=hS;go_simp;try with_reducible rfl)
       simp only [Act.put,List.setIfInBounds_toArray,List.set_cons_zero,List.set_cons_succ];refine zaa 1 (some 29) (v:=?v1k) rfl rfl (by kernel_rfl) (by kernel_rfl) (by kernel_rfl) (fun _ _ _ h=>h) (by rfl) ?y1k HS ?r1k;case y1k=>(intro W hS;obtain ⟨s0,s1,s2,s3,s4,s5,s6,s7⟩:=hS;go_simp;try with_reducible rfl)
       simp only [Act.put,List.setIfInBounds_toArray,List.set_cons_zero,List.set_cons_succ];refine zaa 2 (some 30) (v:=?v2k) rfl rfl (by kernel_rfl) (by kernel_rfl) (by kernel_rfl) (fun _ _ _ h=>h) (by rfl) ?y2k HS ?r2k;case y2k=>(intro W hS;obtain ⟨s0,s1,s2,s3,s4,s5,s6,s7⟩:=hS;go_simp;try with_reducible rfl)
       simp only [Act.put,List.setIfInBounds_toArray,List.set_cons_zero,List.set_cons_succ];refine zaa 3 (some 31) (v:=?v3k) rfl rfl (by kernel_rfl) (by kernel_rfl) (by kernel_rfl) (fun _ _ _ h=>h) (by rfl) ?y3k HS ?r3k;case y3k=>(intro W hS;obtain ⟨s0,s1,s2,s3,s4,s5,s6,s7⟩:=hS;go_simp;try with_reducible rfl)
       simp only [Act.put,List.setIfInBounds_toArray,List.set_cons_zero,List.set_cons_succ];refine zaa 4 (some 32) (v:=?v4k) rfl rfl (by kernel_rfl) (by kernel_rfl) (by kernel_rfl) (fun _ _ _ h=>h) (by rfl) ?y4k HS ?r4k;case y4k=>(intro W hS;obtain ⟨s0,s1,s2,s3,s4,s5,s6,s7⟩:=hS;go_simp;try with_reducible rfl)
       simp only [Act.put,List.setIfInBounds_toArray,List.set_cons_zero,List.set_cons_succ];refine zaa 5 (some 33) (v:=?v5k) rfl rfl (by kernel_rfl) (by kernel_rfl) (by kernel_rfl) (fun _ _ _ h=>h) (by rfl) ?y5k HS ?r5k;case y5k=>(intro W hS;obtain ⟨s0,s1,s2,s3,s4,s5,s6,s7⟩:=hS;go_simp;try with_reducible rfl)
       simp only [Act.put,List.setIfInBounds_toArray,List.set_cons_zero,List.set_cons_succ];refine zaa 6 (some 34) (v:=?v6k) rfl rfl (by kernel_rfl) (by kernel_rfl) (by kernel_rfl) (fun _ _ _ h=>h) (by rfl) ?y6k HS ?r6k;case y6k=>(intro W hS;obtain ⟨s0,s1,s2,s3,s4,s5,s6,s7⟩:=hS;go_simp;try with_reducible rfl)
       simp only [Act.put,List.setIfInBounds_toArray,List.set_cons_zero,List.set_cons_succ];refine zaa 7 (some 35) (v:=?v7k) rfl rfl (by kernel_rfl) (by kernel_rfl) (by kernel_rfl) (fun _ _ _ h=>h) (by rfl) ?y7k HS ?r7k;case y7k=>(intro W hS;obtain ⟨s0,s1,s2,s3,s4,s5,s6,s7⟩:=hS;go_simp;try with_reducible rfl)
       simp only [Act.put,List.setIfInBounds_toArray,List.set_cons_zero,List.set_cons_succ];refine zaa 8 (some 36) (v:=?v8k) rfl rfl (by kernel_rfl) (by kernel_rfl) (by kernel_rfl) (fun _ _ _ h=>h) (by rfl) ?y8k HS ?r8k;case y8k=>(intro W hS;obtain ⟨s0,s1,s2,s3,s4,s5,s6,s7⟩:=hS;go_simp;try with_reducible rfl)
       simp only [Act.put,List.setIfInBounds_toArray,List.set_cons_zero,List.set_cons_succ];refine zaa 10 (some 38) (v:=?v10k) rfl rfl (by kernel_rfl) (by kernel_rfl) (by kernel_rfl) (fun _ _ _ h=>h) (by rfl) ?y10k HS ?r10k;case y10k=>(intro W hS;obtain ⟨s0,s1,s2,s3,s4,s5,s6,s7⟩:=hS;go_simp;try with_reducible rfl)
       simp only [Act.put,List.setIfInBounds_toArray,List.set_cons_zero,List.set_cons_succ];refine zaa 11 (some 39) (v:=?v11k) rfl rfl (by kernel_rfl) (by kernel_rfl) (by kernel_rfl) (fun _ _ _ h=>h) (by rfl) ?y11k HS ?r11k;case y11k=>(intro W hS;obtain ⟨s0,s1,s2,s3,s4,s5,s6,s7⟩:=hS;go_simp;try with_reducible rfl)
       simp only [Act.put,List.setIfInBounds_toArray,List.set_cons_zero,List.set_cons_succ];refine zaa 12 (some 40) (v:=?v12k) rfl rfl (by kernel_rfl) (by kernel_rfl) (by kernel_rfl) (fun _ _ _ h=>h) (by rfl) ?y12k HS ?r12k;case y12k=>(intro W hS;obtain ⟨s0,s1,s2,s3,s4,s5,s6,s7⟩:=hS;go_simp;try with_reducible rfl)
       simp only [Act.put,List.setIfInBounds_toArray,List.set_cons_zero,List.set_cons_succ];refine zaa 14 (some 42) (v:=?v14k) rfl rfl (by kernel_rfl) (by kernel_rfl) (by kernel_rfl) (fun _ _ _ h=>h) (by rfl) ?y14k HS ?r14k;case y14k=>(intro W hS;obtain ⟨s0,s1,s2,s3,s4,s5,s6,s7⟩:=hS;go_simp;try with_reducible rfl)
       simp only [Act.put,List.setIfInBounds_toArray,List.set_cons_zero,List.set_cons_succ];refine zaa 15 (some 43) (v:=?v15k) rfl rfl (by kernel_rfl) (by kernel_rfl) (by kernel_rfl) (fun _ _ _ h=>h) (by rfl) ?y15k HS ?r15k;case y15k=>(intro W hS;obtain ⟨s0,s1,s2,s3,s4,s5,s6,s7⟩:=hS;go_simp;try with_reducible rfl)
       simp only [Act.put,List.setIfInBounds_toArray,List.set_cons_zero,List.set_cons_succ];refine zaa 16 (some 44) (v:=?v16k) rfl rfl (by kernel_rfl) (by kernel_rfl) (by kernel_rfl) (fun _ _ _ h=>h) (by rfl) ?y16k HS ?r16k;case y16k=>(intro W hS;obtain ⟨s0,s1,s2,s3,s4,s5,s6,s7⟩:=hS;go_simp;try with_reducible rfl)
       simp only [Act.put,List.setIfInBounds_toArray,List.set_cons_zero,List.set_cons_succ];refine zaa 19 (some 47) (v:=?v19k) rfl rfl (by kernel_rfl) (by kernel_rfl) (by kernel_rfl) (fun _ _ _ h=>h) (by rfl) ?y19k HS ?r19k;case y19k=>(intro W hS;obtain ⟨s0,s1,s2,s3,s4,s5,s6,s7⟩:=hS;go_simp;try with_reducible rfl)
       simp only [Act.put,List.setIfInBounds_toArray,List.set_cons_zero,List.set_cons_succ];refine zaa 20 (some 48) (v:=?v20k) rfl rfl (by kernel_rfl) (by kernel_rfl) (by kernel_rfl) (fun _ _ _ h=>h) (by rfl) ?y20k HS ?r20k;case y20k=>(intro W hS;obtain ⟨s0,s1,s2,s3,s4,s5,s6,s7⟩:=hS;go_simp;try with_reducible rfl)
       simp only [Act.put,List.setIfInBounds_toArray,List.set_cons_zero,List.set_cons_succ];refine zaa 21 (some 49) (v:=?v21k) rfl rfl (by kernel_rfl) (by kernel_rfl) (by kernel_rfl) (fun _ _ _ h=>h) (by rfl) ?y21k HS ?r21k;case y21k=>(intro W hS;obtain ⟨s0,s1,s2,s3,s4,s5,s6,s7⟩:=hS;go_simp;try with_reducible rfl)
       simp only [Act.put,List.setIfInBounds_toArray,List.set_cons_zero,List.set_cons_succ];refine zaa 22 (some 50) (v:=?v22k) rfl rfl (by kernel_rfl) (by kernel_rfl) (by kernel_rfl) (fun _ _ _ h=>h) (by rfl) ?y22k HS ?r22k;case y22k=>(intro W hS;obtain ⟨s0,s1,s2,s3,s4,s5,s6,s7⟩:=hS;go_simp;try with_reducible rfl)
       simp only [Act.put,List.setIfInBounds_toArray,List.set_cons_zero,List.set_cons_succ];refine zaa 23 (some 51) (v:=?v23k) rfl rfl (by kernel_rfl) (by kernel_rfl) (by kernel_rfl) (fun _ _ _ h=>h) (by rfl) ?y23k HS ?r23k;case y23k=>(intro W hS;obtain ⟨s0,s1,s2,s3,s4,s5,s6,s7⟩:=hS;go_simp;try with_reducible rfl)
       simp only [Act.put,List.setIfInBounds_toArray,List.set_cons_zero,List.set_cons_succ];refine zaa 24 (some 52) (v:=?v24k) rfl rfl (by kernel_rfl) (by kernel_rfl) (by kernel_rfl) (fun _ _ _ h=>h) (by rfl) ?y24k HS ?r24k;case y24k=>(intro W hS;obtain ⟨s0,s1,s2,s3,s4,s5,s6,s7⟩:=hS;go_simp;try with_reducible rfl)
       simp only [Act.put,List.setIfInBounds_toArray,List.set_cons_zero,List.set_cons_succ];refine zaa 25 (some 53) (v:=?v25k) rfl rfl (by kernel_rfl) (by kernel_rfl) (by kernel_rfl) (fun _ _ _ h=>h) (by rfl) ?y25k HS ?r25k;case y25k=>(intro W hS;obtain ⟨s0,s1,s2,s3,s4,s5,s6,s7⟩:=hS;go_simp;try with_reducible rfl)
       simp only [Act.put,List.setIfInBounds_toArray,List.set_cons_zero,List.set_cons_succ];refine zaa 26 (some 54) (v:=?v26k) rfl rfl (by kernel_rfl) (by kernel_rfl) (by kernel_rfl) (fun _ _ _ h=>h) (by rfl) ?y26k HS ?r26k;case y26k=>(intro W hS;obtain ⟨s0,s1,s2,s3,s4,s5,s6,s7⟩:=hS;go_simp;try with_reducible rfl)
       simp only [Act.put,List.setIfInBounds_toArray,List.set_cons_zero,List.set_cons_succ];refine zaa 27 (some 55) (v:=?v27k) rfl rfl (by kernel_rfl) (by kernel_rfl) (by kernel_rfl) (fun _ _ _ h=>h) (by rfl) ?y27k HS ?r27k;case y27k=>(intro W hS;obtain ⟨s0,s1,s2,s3,s4,s5,s6,s7⟩:=hS;go_simp;try with_reducible rfl)
       simp only [Act.put,List.setIfInBounds_toArray,List.set_cons_zero,List.set_cons_succ];refine zaa 28 (some 56) (v:=?v28k) rfl rfl (by kernel_rfl) (by kernel_rfl) (by kernel_rfl) (fun _ _ _ h=>h) (by rfl) ?y28k HS ?r28k;case y28k=>(intro W hS;obtain ⟨s0,s1,s2,s3,s4,s5,s6,s7⟩:=hS;go_simp;try with_reducible rfl)
       simp only [Act.put,List.setIfInBounds_toArray,List.set_cons_zero,List.set_cons_succ];refine zaB 9 rfl (by kernel_rfl) ?_;intro Kf hKf;go_simp;refine (ko _ x.view hb0 hx0).mono ?_;rintro e W1 ⟨rfl,hc1⟩;have hb1:=zaj hb0 (show wz.heap.size≤_ from hb0.size) hc1;replace HS:=hSk _ hb1;have hx1:x.edit.size≤maxLen:=heditz;refine hKf _ _ HS ?_;clear hKf Kf;refine zaB 13 rfl (by kernel_rfl) ?_;intro Kf hKf;go_simp;refine (ko _ x.edit hb1 hx1).mono ?_;rintro e W2 ⟨rfl,hc2⟩;have hb2:=zaj hb1 (show wz.heap.size≤_ from hb1.size) hc2;replace HS:=hSk _ hb2;have hx2:x.check.size≤maxLen:=hcheckz;refine hKf _ _ HS ?_;clear hKf Kf;refine zaB 17 rfl (by kernel_rfl) ?_;intro Kf hKf;go_simp;refine (ko _ x.check hb2 hx2).mono ?_;rintro e W3 ⟨rfl,hc3⟩;have hb3:=zaj hb2 (show wz.heap.size≤_ from hb2.size) hc3;replace HS:=hSk _ hb3;skip
       refine hKf _ _ HS ?_;clear hKf Kf;refine zaa 18 (some 46) (v:=?v18k) rfl rfl (by kernel_rfl) (by kernel_rfl) (by kernel_rfl) (fun _ _ _ h=>h) (by rfl) ?y18k HS ?r18k;case y18k=>(intro W hS;go_simp;try with_reducible rfl)
       simp only [Act.put,List.setIfInBounds_toArray,List.set_cons_zero,List.set_cons_succ];refine zaB 29 rfl (by kernel_rfl) ?_;intro Kf hKf;go_simp;refine (kops _ hb3).mono ?_;rintro e W4 ⟨⟨Aq,cq,rfl,hown4⟩,hc4⟩;have hb4:=zaj hb3 (show wz.heap.size≤_ from hb3.size) hc4;replace HS:=hSk _ hb4;refine hKf _ _ HS ?_;clear hKf Kf;refine zaa 30 (some 58) (v:=?v30k) rfl rfl (by kernel_rfl) (by kernel_rfl) (by kernel_rfl) (fun _ _ _ h=>h) (by rfl) ?y30k HS ?r30k;case y30k=>(intro W hS;go_simp;try with_reducible rfl)
       simp only [Act.put,List.setIfInBounds_toArray,List.set_cons_zero,List.set_cons_succ];refine zaB 31 rfl (by kernel_rfl) ?_;intro Kf hKf;go_simp;have hXR:(⟨zcB ps (zaL lv dn.length) (t.says,x.says),x.As,x.cs,Aq,cq⟩:TabR).cells=[.string t.name,.string x.name,.int .i64 (ixP ps (t.name,x.view):Nat),.int .i64 (ixP ps (t.name,x.edit):Nat),.int .i64 (ixP ps (t.name,x.check):Nat),.int .i64 (zaL lv dn.length),.slice x.As x.subs.length x.cs,.slice Aq x.ops.length cq]:=by simp [TabR.cells,zcB,TypA.says,RelA.says]
       have HSa:=hSk _ (hb4.alloc hb4.size (.cells #[.string t.name,.string x.name,.int .i64 (ixP ps (t.name,x.view):Nat),.int .i64 (ixP ps (t.name,x.edit):Nat),.int .i64 (ixP ps (t.name,x.check):Nat),.int .i64 (zaL lv dn.length),.slice x.As x.subs.length x.cs,.slice Aq x.ops.length cq] 100));refine hKf _ _ HSa ?_;clear hKf Kf;have hTO:TabO (relsA l) w W4 (⟨zcB ps (zaL lv dn.length) (t.says,x.says),x.As,x.cs,Aq,cq⟩:TabR):=⟨⟨(t,x),hmem.out,rfl,rfl,rfl⟩,by
        show W4.ownsRow w.heap.size 62 3 (.slice Aq (x.ops.map (zbB ps t.name)).length cq) (x.ops.map (zbB ps t.name)).length (zaW (x.ops.map (zbB ps t.name)));rw [List.length_map];exact zav hown4 (hup _ hb3).size,by show (x.ops.map (zbB ps t.name)).length≤100000;rw [List.length_map];exact hof⟩
       have hKc:=hK2.call hb4;obtain ⟨K9,h91,h92,h93⟩:=hKc.row;have hq59:=hX52.below hb4;have hq79:=x7.below hb4;have hwl4:=hKc.below.size;have hlc4:=zac hlc hb4;replace hXR:=Lib.hid hXR;refine zaB 32 rfl (by kernel_rfl) ?_;intro Kf hKf;rw [if_pos (by rfl)];refine zbI _ (some 60) rfl (.tmp 28) (.tmp 59) 25 25 rfl w.heap.size 100 i0 _ 8 112 Tryz.underlying25 hi0 hz0 hz1 hz2 rfl (by decide) (.slice A3 dn.length c3) dn.length (K9.flatMap TabR.cells) rfl (World.ownsRow.alloc h92 _) _ 1 (⟨zcB ps (zaL lv dn.length) (t.says,x.says),x.As,x.cs,Aq,cq⟩:TabR).cells rfl (Src.ofSlice _ Tryz.underlying25 _ 1 1 _ (by rw [hXR.out];rfl) (by rw [hXR.out];exact zkj _ _ _ _ _ _ _ _ _ _) (zkZ _)) (by simp only [maxLen];omega) (by omega) (size_alloc hwl4) ?_;intro v9 W8 hown8 hg8;have o1:=zbh (hq59.alloc _) (World.ownsRow.alloc h92 _) (by decide) hg8;have o2:=zbh (hq79.alloc _) (World.ownsRow.alloc h92 _) (by decide) hg8;have hbw8:=zak (hKc.below.alloc hwl4 _) hg8 (World.ownsRow.alloc h92 _) (size_alloc hwl4) (Nat.le_refl _);have HS8:W8.cell? ⟨q5,0,none⟩=some (.string t.name)∧W8.cell? ⟨q7,0,none⟩=some (.string x.name)∧W8.cell? ⟨q7,1,none⟩=some (.string x.view)∧W8.cell? ⟨q7,2,none⟩=some (.string x.edit)∧W8.cell? ⟨q7,3,none⟩=some (.string x.check)∧W8.cell? ⟨q7,4,none⟩=some (.slice x.As x.subs.length x.cs)∧W8.cell? ⟨q7,5,none⟩=some (.slice x.Ao x.ops.length x.co)∧W8.cell? ⟨bv,ov + dn.length,none⟩=some (.int .i64 (zaL lv dn.length)):=⟨o1.cell 0,o2.cell 0,o2.cell 1,o2.cell 2,o2.cell 3,o2.cell 4,o2.cell 5,(hbw8.cell hbv).trans (hcv _ _ (zlW hdv))⟩
       have hKn:=KR.put (y:=(t,x)) h91 (World.ownsRow.alloc h92 _) (fun z hz=>⟨(h93 z hz).subs,(h93 z hz).ops.alloc _,(h93 z hz).few⟩) (hKc.box.alloc _) (hKc.below.alloc hwl4 _) ⟨hTO.subs,hTO.ops.alloc _,hTO.few⟩ rfl hown8 hg8;refine hKf _ _ HS8 ?_;clear hKf Kf;simp only [Act.put,List.setIfInBounds_toArray,List.set_cons_zero,List.set_cons_succ];refine zaa 33 (some 7) (v:=?v33k) rfl rfl (by kernel_rfl) (by kernel_rfl) (by kernel_rfl) (fun _ _ _ h=>h) (by rfl) ?y33k HS8 ?r33k;case y33k=>(intro W hS;go_simp;try with_reducible rfl)
       simp only [Act.put,List.setIfInBounds_toArray,List.set_cons_zero,List.set_cons_succ];refine wpAnyH_done (by kernel_rfl) ?_ _;clear h91 h92 h93 hKc hTO hq59 hq79 HS HSa HS8 hb0 hb1 hb2 hb3 hb4 hc1 hc2 hc3 hc4 hown4 hown8 hSk ko kops hg8;go_wp2_with fail
       refine ⟨⟨v9,.pointer (some ⟨q7,0,none⟩),.int .i64 ((j:Int) + 1),⟨j + 1,by go_num,by omega,?_⟩,rfl,rfl,rfl⟩,by simp [intOf];omega⟩;rw [←List.map_take,hnx.out];exact hKn
     · obtain rfl:j=t.rels.length:=by omega
       have hdj:¬(((t.rels.length:Nat):Int)<(t.rels.length:Int)):=by omega
       rw [List.take_length,←hsn] at hKj;go_wp2_with fail
       exact ⟨⟨i + 1,by go_num,by omega,hKj⟩,by simp [intOf];omega⟩
  · obtain rfl:i=l.length:=by omega
    have hdi:¬(((l.length:Nat):Int)<(l.length:Int)):=by omega
    rw [List.take_length] at hK;obtain ⟨K,h1,h2,h3⟩:=hK.row;have hKl:K.length=(relsA l).length:=by have:=congrArg List.length h1;rw [List.length_map] at this;unfold zhn at this;rw [List.length_map,List.length_zipIdx] at this;exact this
    obtain ⟨A3,c3,rfl,hR3⟩:=Rd.own h2;go_wp2_with fail
    go_ret
    exact ⟨⟨A3,c3,rfl,K,hKl,h1,h2,h3⟩,hK.below⟩
end Go.Proofs.YtiepddmagfmllaaGreat
