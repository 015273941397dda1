import Derived.Test.YtmblgnddgmfkhaaGreatQ19
set_option maxRecDepth 100000
set_option maxHeartbeats 4000000
namespace Go.Proofs.YtmblgnddgmfkhaaGreat
open Go.RowKit Go.Maps
open Go.RowKit Go.Maps
open Go.RowKit Go.Maps
variable {ps:List Path} {b c R i:Nat} {vr:Value} {wx w':World} {done Y:List (TypA × RelA)} {A:Option Addr} {l:List TypA} {lv:List Int} {tn:ByteArray}
theorem rowT:(205:TypeId)<Tryz.prog.types.size:=yaQ yaa
theorem keyAT:Tryz.prog.keyTypeAt 2 205=true:=by kernel_rfl
theorem lawT:WideMaps.KeyLaw Tryz.prog 205:=deep_law_laid laidP (m:=2) yab rowT keyAT (by rw [Tryz.underlying205])
theorem zpK:Keyed Tryz.prog 205:=Keyed.of_law lawT
theorem keyTT:Tryz.prog.keyType 205=true:=by kernel_rfl
theorem cellsT:Tryz.prog.cellsOf 205=2:=by kernel_rfl
theorem zpU (n:Nat) {s:Path} (h1:s.1.size≤maxLen) (h2:s.2.size≤maxLen):Tryz.prog.keyLits (n + 2) 205 [.string s.1,.string s.2]=some [.string s.1.data.toList,.string s.2.data.toList]:=by
 simp [Program.keyLits,Tryz.underlying205,cellsT,zoY,Tryz.underlying9,h1,h2,List.range,List.range.loop]
theorem formT (a b:Value):(Value.agg #[a,b]).formed Tryz.prog 205=true:=by simp [Value.formed,Tryz.underlying205,cellsT]
theorem zi3 {s:Path} (h1:s.1.size≤maxLen) (h2:s.2.size≤maxLen):keyOf Tryz.prog 205 (.agg #[.string s.1,.string s.2])=some (kS s):=by
 have b:=zi9 (fun n=>zpU n h1 h2) (ybt (yap _) rowT);unfold keyOf;simp only [Tryz.underlying205,keyTT,formT,Bool.and_self,if_true,Value.cells,List.toList_toArray];rw [b];rfl
def MapT (w:World) (b:Nat) (ps:List Path):Prop:=w.ownsMap Tryz.prog 205 (plainElem Tryz.prog 3) b ps.length (zdt ps)∧∀p ∈ ps,SmP p
theorem MapT.same {w:World} (h:MapT w b ps) (hb:w'.heap[b]? = w.heap[b]?):MapT w' b ps:=by
 obtain ⟨⟨f,d,g,j⟩,k⟩:=h;exact ⟨⟨f,d,hb.trans g,j⟩,k⟩
theorem MapT.lt {w:World} (h:MapT w b ps):b<w.heap.size:=h.1.lt
theorem MapT.below {w:World} (h:MapT w b ps) (hb:Below w.heap.size w w'):MapT w' b ps:=h.same (hb.block b h.lt)
theorem zku (hs:∀p ∈ ps,SmP p) (hn:ps.Nodup):Tidy (zdt ps)∧Maps.size (zdt ps)=ps.length:=by
 suffices H:∀n (ps:List Path),ps.length=n→(∀p ∈ ps,SmP p)→ps.Nodup→Tidy (zdt ps)∧Maps.size (zdt ps)=ps.length from H _ ps rfl hs hn
 intro n;induction n with
 | zero =>
  intro ps d _ _;rw [yaY d];exact ⟨tidy_empty,rfl⟩
 | succ n ih =>
  intro ps d hs hn;rcases ybI ps with rfl | ⟨ps',p,rfl⟩
  · simp at d
  · rw [yb0] at *
    have j:=hs p yaf;rw [ya7] at hn;have b:∀x ∈ ps',SmP x:=fun x o=>hs x (by simp [o]);obtain ⟨k,q⟩:=ih ps' (by simpa using d) b hn.1;have f:p ∉ ps':=fun s=>hn.2.2 p s p yaf rfl;have m:=(zct b j).1;have g:zar ps' p=none:=by
     cases e:zar ps' p with
     | none=>rfl
     | some i=>exact absurd (yar (zb0 e)) f
    rw [g] at m;rw [zd0];refine ⟨k.put (zpF j) _,?_⟩;rw [size_put k,m,q,yam];rfl
structure KTab (w wx:World) (done:List (TypA × RelA)):Prop where
 map:MapT wx (w.heap.size + 1) (zaj done)
 below:Below w.heap.size w wx
theorem KTab.alloc {w:World} (h:KTab w wx done) (o:Obj):KTab w (wx.alloc o) done:=⟨h.map.below ((Below.refl _ wx).alloc (yaj _) o),h.below.alloc h.below.size o⟩
theorem idsOf_any {w:World} (h:SchA w R A c l) (hR:R≤140737488351232) (hl:(relsA l).length≤100000) (hn:(zaj (relsA l)).Nodup) :
 Calls Tryz.prog 75 #[.agg #[.slice A l.length c]] w fun e w'=>(∃b,e = .returned (.map (some b))∧MapT w' b (zaj (relsA l))∧w.heap.size≤b)∧Below w.heap.size w w':=by
 have Z:=@run_makeMap Tryz.prog;have ai:(l.length:Int)≤9223372036854775807:=by have:=h.rows.cap;have:=h.rows.capm;simp only [maxLen] at this;omega
 go_enter Tryz.func75,Tryz.ntmps75
 go_wp2_with fail
 have d2:MapT ((w.alloc (.cells #[.slice A l.length c] 140)).alloc (.map #[] 0)) (w.alloc (.cells #[.slice A l.length c] 140)).heap.size (zaj []):=⟨World.ownsMap_made _ _ _ _,fun p hp=>by cases hp⟩;simp only [World.size_alloc] at d2;have O:Below w.heap.size w ((w.alloc (.cells #[.slice A l.length c] 140)).alloc (.map #[] 0)):=((Below.refl _ w).alloc (yaj _) _).alloc yaf _;generalize (w.alloc (.cells #[.slice A l.length c] 140)).alloc (.map #[] 0)=w0 at *
 have a1:KTab w w0 (relsA (l.take 0)):=⟨d2,O⟩;clear Z d2 O;go_loopw [13] (fun G X=>∃i:Nat,G = .int .i64 i∧i≤l.length∧KTab w X (relsA (l.take i))) (fun G _=>l.length-(intOf G).toNat)
 case atStart=>exact ⟨0,rfl,yap _,a1⟩
 case round =>
  obtain ⟨i,rfl,hi,E⟩:=hrel;by_cases a2:i<l.length
  · have a6:(i:Int)<(l.length:Int):=by omega
    obtain ⟨t,ht⟩:∃t,l[i]? = some t:=⟨_,yal a2⟩;obtain ⟨b,o,rfl,t0,t1,n⟩:=h.get ht;replace t0:=zah t0 E.below;replace t1:=zah t1 E.below;have P:=n.rels;have aj:(t.rels.length:Int)≤9223372036854775807:=by have:=P.cap;have:=P.capm;simp only [maxLen] at this;omega
    have H:=zd7 ht;have a7:=zgn (l:=l) (i + 1);have u:relsA l=relsA (l.take (i + 1)) ++ relsA (l.drop (i + 1)):=by
     conv=>lhs;rw [←ybg (i + 1) l]
     unfold relsA;rw [yaZ]
    replace u:=Lib.hid u;rw [H,yam,yay] at a7;have a8:=E.alloc (.cells #[.string t.name,.slice t.A t.rels.length t.c] 199);have x1:=Bk.new wr #[.string t.name,.slice t.A t.rels.length t.c] 199;have ak:=E.below.size;have al:=E.map.lt;go_upto_region 5 with (fail)
    clear t0 t1;generalize hq5:wr.heap.size=q5 at *
    generalize wr.alloc (.cells #[.string t.name,.slice t.A t.rels.length t.c] 199)=w1 at *
    have y0:=x1.cell 0;have y1:=x1.cell 1;go_wp2_with fail
    go_loopw [20] (fun G X=>∃j:Nat,G = .int .i64 j∧j≤t.rels.length∧KTab w X (relsA (l.take i) ++ (t.rels.take j).map fun r=>(t,r))∧Bk X q5 #[.string t.name,.slice t.A t.rels.length t.c] 199) (fun G _=>t.rels.length-(intOf G).toNat)
    case atStart=>exact ⟨0,rfl,yap _,by simpa using a8,x1⟩
    case round =>
     obtain ⟨j,rfl,hj,m,I⟩:=hrel;by_cases aa:j<t.rels.length
     · have ab:(j:Int)<(t.rels.length:Int):=by omega
       obtain ⟨x,hx⟩:∃x,t.rels[j]? = some x:=⟨_,yal aa⟩;obtain ⟨g,k,e5,g0,g1,g2,g3,g4,g5,Q⟩:=(n.up m.below).get hx;have am:=n.name;have an:=Q.name;obtain ⟨dn,y⟩:∃dn,relsA (l.take i) ++ (t.rels.take j).map (fun r=>(t,r))=dn:=⟨_,rfl⟩;have ao:dn.length≤99999:=by rw [←y,yam,yay,yaK];omega
       have T:Hid (relsA (l.take i) ++ (t.rels.take (j + 1)).map (fun r=>(t,r))=dn ++ [(t,x)]):=Lib.hid (by rw [yaC,hx,yaR,yaL,←yaB,y];rfl);have z:zaj (dn ++ [(t,x)])=zaj dn ++ [(t.name,x.name)]:=by simp [zaj]
       have J:(zaj dn ++ [(t.name,x.name)]).Nodup:=by
        rw [←z,←T.out];have M:=hn;rw [u.out,H,←ybg (j + 1) t.rels,yaL] at M;unfold zaj at M ⊢;rw [yaL,yaL,yaL,←yaB] at M;rw [yaL];exact (ya7.1 (ya7.1 M).1).1
       rw [y] at m;have y:=Lib.hid y;have B:=m.alloc (.cells x.cells.toArray 203);have d:=I.alloc (.cells x.cells.toArray 203);have x7:=Bk.new wr x.cells.toArray 203;have ac:wr.heap.size<(wr.alloc (.cells x.cells.toArray 203)).heap.size:=by simp
       have ah:=I.lt;have ad:x.cells.toArray=#[.string x.name,.string x.view,.string x.edit,.string x.check,.slice x.As x.subs.length x.cs,.slice x.Ao x.ops.length x.co]:=rfl;rw [ad] at B d x7 ac;rw [e5] at *
       have J:=Lib.hid J;have z:=Lib.hid z;go_upto_region 8 with (fail)
       clear g0 g1 g2 g3 g4 g5 m I;generalize hq7e:wr.heap.size=q7 at *
       generalize wr.alloc (.cells #[.string x.name,.string x.view,.string x.edit,.string x.check,.slice x.As x.subs.length x.cs,.slice x.Ao x.ops.length x.co] 203)=w2 at *
       have f:=B.map;have C:(zaj dn).length=dn.length:=by simp [zaj]
       have K:Maps.size (zdt (zaj dn))=dn.length:=by rw [(zku f.2 (ya7.1 J.out).1).2,C]
       have D:=f.1;rw [C] at D;have U:∀ty,(Builtin.len_ #[58] ty #[.map (some (w.heap.size + 1))]).run Tryz.prog w2 = .ok (.int .i64 (dn.length:Nat)) w2:=fun ty=>by have:=D.len Tryz.underlying58 ty;rw [K] at this;exact this
       have aq:=f.lt;replace K:=Lib.hid K;go_upto_region 9 with (fail)
       have z5:=d.cell 0;have z7:=x7.cell 0;have F:keyOf Tryz.prog 205 (.agg #[.string t.name,.string x.name])=some (kS (t.name,x.name)):=zi3 (s:=(t.name,x.name)) yad yad;clear U;go_upto_region 10 with (at_mapUpdate;refine wpList_mapUpdate_own _ rfl _ _ _ 58 rfl 205 3 zpK Tryz.underlying58 _ (w.heap.size + 1) dn.length _ rfl D (by unfold maxLen;omega) _ _ _ rfl rfl F _ [] (plainElem_int Tryz.underlying3 (znq yab)) ?_;intro w3 V L)
       have o3:∀N,N<w2.heap.size→N≠w.heap.size + 1→w3.heap[N]? = w2.heap[N]?:=fun N M h2=>L.block N M fun e'=>h2 (yaX e');have ae:Bk w3 q5 _ _:=(o3 _ d.lt yab).trans d;have af:Below w.heap.size w w3:=B.below.grown L B.below.size fun r e'=>by cases e';omega
       have ag:MapT w3 (w.heap.size + 1) (zaj (dn ++ [(t,x)])):=by
        refine ⟨?_,fun q Y=>?_⟩
        · rw [z.out,zd0,C,yam,C];exact V
        · rw [z.out,yaz,yas] at Y;rcases Y with Y | rfl
          · exact f.2 q Y
          · exact ⟨by simp only [maxLen];omega,by simp only [maxLen];omega⟩
       clear V f D B d x7 z5 z7 L o3 F C;go_wp2_with fail
       refine ⟨⟨j + 1,by go_num,by omega,?_,ae⟩,by simp [intOf];omega⟩;rw [T.out];exact ⟨ag,af⟩
     · obtain rfl:j=t.rels.length:=by omega
       have ab:¬(((t.rels.length:Nat):Int)<(t.rels.length:Int)):=by omega
       rw [yaA,←H] at m;go_wp2_with fail
       exact ⟨⟨i + 1,by go_num,by omega,m⟩,by simp [intOf];omega⟩
  · obtain rfl:i=l.length:=by omega
    have a6:¬(((l.length:Nat):Int)<(l.length:Int)):=by omega
    rw [yaA] at E;go_wp2_with fail
    go_ret
    exact ⟨⟨_,rfl,E.map,ya8 _⟩,E.below⟩
def MapO (w:World) (mb:Option Nat) (ps:List Path):Prop:=(mb=none∧ps=[])∨∃b,mb=some b∧MapT w b ps
theorem MapO.up {w:World} {mb:Option Nat} (h:MapO w mb ps) (hb:Below w.heap.size w w'):MapO w' mb ps:=by
 rcases h with h | ⟨b,e,h⟩
 · exact .inl h
 · exact .inr ⟨b,e,h.below hb⟩
theorem zpX {q:Path} (hs:∀p ∈ ps,SmP p) (hq:SmP q):Maps.has (zdt ps) (kS q)=(zar ps q).isSome∧∀c:Int,(zdt ps).atKey (kS q) (.lit (.int .i64 0)) = .lit (.int .i64 c)→c=(ixP ps q:Nat):=by
 obtain ⟨d,f⟩:=zct hs hq;refine ⟨d,fun c b=>?_⟩;rw [f] at b;unfold ixP;cases e:zar ps q with
 | none=>rw [e] at b;cases b;rfl
 | some i=>rw [e] at b;cases b;rfl
section
variable {w:World} {tx:ByteArray} {Ay:Option Addr} {ny cy:Nat} {mb:Option Nat} {Ar:Option Addr} {nr cr:Nat}
theorem tid_any (h:MapO w mb ps) (ty re:ByteArray) (h1:ty.size≤maxLen) (h2:re.size≤maxLen) :
 Calls Tryz.prog 81 #[.agg #[.string tx,.slice Ay ny cy,.map mb,.slice Ar nr cr],.string ty,.string re] w fun e w'=>e = .returned (.tuple #[.int .i64 (ixP ps (ty,re):Nat),.bool (zar ps (ty,re)).isSome])∧Below w.heap.size w w':=by
 have d:=zdy w (.cells #[.string tx,.slice Ay ny cy,.map mb,.slice Ar nr cr] 61);have f:keyOf Tryz.prog 205 (.agg #[.string ty,.string re])=some (kS (ty,re)):=zi3 (s:=(ty,re)) h1 h2;rcases h with ⟨rfl,rfl⟩ | ⟨b,rfl,h⟩
 · have n:ixP [] (ty,re)=0:=rfl;have o:zar [] (ty,re)=none:=rfl;rw [n,o];have p:∀W:World,(Instr.lookup 58 (.map none) (.agg #[.string ty,.string re]) true).run Tryz.prog W = .ok (.tuple #[.int .i64 0,.bool false]) W:=fun W=>by
    simp [Instr.lookup];kernel_rfl
   go_enter Tryz.func81,Tryz.ntmps81
   go_wp2_with fail
   refine bodyPost_ret (v:=.tuple #[.int .i64 0,.bool false]) (by simp [results,Tryz.results81,go_sem];try rfl) rfl ?_;exact ⟨rfl,d⟩
 · have j:=zpX h.2 (q:=(ty,re)) ⟨h1,h2⟩;have k:=(h.below d).1;have m:=Lib.hid j.2;have y:=j.1;generalize ixP ps (ty,re)=i at *
   generalize (zar ps (ty,re)).isSome=q at *
   clear j;go_enter Tryz.func81,Tryz.ntmps81
   go_wp2_with (at_lookup;refine wpList_lookup_own_ok_int _ rfl _ _ 58 rfl 205 3 .i64 zpK Tryz.underlying58 Tryz.underlying3 (zhQ _) b ps.length _ rfl k _ _ rfl f ?_;intro u g x;obtain rfl:=m.out u g)
   refine bodyPost_ret (v:=.tuple #[.int .i64 (i:Nat),.bool q]) (by simp [results,Tryz.results81,go_sem];try rfl) rfl ?_;exact ⟨rfl,d⟩
theorem own1_any {k1 k2:Nat} (h:MapT w b ps) (b1:Bk w k1 #[.map (some b)] 58) (b2:Bk w k2 #[.string tn,vr] 199) (re:ByteArray) (h1:tn.size≤maxLen) (h2:re.size≤maxLen) :
 Calls Tryz.prog 130 #[.string re,.pointer (some ⟨k1,0,none⟩),.pointer (some ⟨k2,0,none⟩)] w fun e w'=>e = .returned (.int .i64 (ixP ps (tn,re):Nat))∧Below w.heap.size w w':=by
 have d:keyOf Tryz.prog 205 (.agg #[.string tn,.string re])=some (kS (tn,re)):=zi3 (s:=(tn,re)) h1 h2;have k:=zpX h.2 (q:=(tn,re)) ⟨h1,h2⟩;have g:=h.1;have j:=Lib.hid k.2;clear k;generalize ixP ps (tn,re)=i at *
 have o:=b1.c1;have p:=b2.cell 0;go_enter Tryz.func130,Tryz.ntmps130
 go_wp2_with (at_lookup;refine wpList_lookup_own_int _ rfl _ _ 58 rfl 205 3 .i64 zpK Tryz.underlying58 Tryz.underlying3 (zhQ _) b ps.length _ rfl g _ _ rfl d ?_;intro m f n;obtain rfl:=j.out m f)
 go_ret
 exact ⟨rfl,Below.refl _ _⟩
theorem zlY {f:FuncId} {fn:Func} (hf:Tryz.prog.funcs[f]? = some fn) (hname:(fn.name == "runtime.NumGoroutine")=false) (hb:fn.body.isNone=false) (args:Array Value) (W:World):(callFunc f args).run Tryz.prog W = .ok (.enter f args) W:=by
 have b:¬(fn.name="runtime.NumGoroutine"):=by simpa using hname
 have d:fn.body≠none:=by intro e;rw [e] at hb;cases hb
 simp [callFunc,hf,b,d,Result.andThen]
theorem zj1:∀args W,(callFunc 130 args).run Tryz.prog W = .ok (.enter 130 args) W:=zlY Tryz.func130 yaa yaa
theorem zlO (a b:List OpT):zbm (a ++ b)=zbm a ++ zbm b:=yaZ
end
theorem opT_take {l:List OpI} {o:OpI} (h:l[i]? = some o):zbm ((l.take (i + 1)).map (zch ps tn))=zbm ((l.take i).map (zch ps tn)) ++ zc5 (zch ps tn o):=by
 rw [yaC,h,yaR,yaL,zlO];simp [zbm]
theorem zfz (o:OpT):∀u ∈ zc5 o,u.oneCell'=true:=by
 intro u b;simp only [zc5,yav,ya1,ybw] at b;rcases b with rfl | rfl | rfl <;> rfl
theorem aop_at {w:World} {l:List OpI} (h:Rd w w.heap.size 3 A l.length c (l.flatMap aOp)) {o:OpI} (hi:l[i]? = some o) :
 ∃b k,A=some ⟨b,k,none⟩∧b<w.heap.size∧w.cell? ⟨b,k + i * 3,none⟩=some (.int .i64 o.1)∧w.cell? ⟨b,k + i * 3 + 1,none⟩=some (.string o.2.1)∧w.cell? ⟨b,k + i * 3 + 2,none⟩=some (.string o.2.2):=by
 obtain ⟨b,k,e,hb,d⟩:=h.at_ (zdI hi);have g:=fun j (f:j<3)=>za6 aOp (sz:=3) (fun _=>rfl) hi (k:=j) f;exact ⟨b,k,e,hb,d _ _ (g 0 yab),d _ _ (g 1 yab),d _ _ (g 2 yab)⟩
theorem opsOf_any {w:World} {k1 k2 co:Nat} {Ao:Option Addr} {l:List OpI} (hm:MapT w b ps) (b1:Bk w k1 #[.map (some b)] 58) (b2:Bk w k2 #[.string tn,vr] 199)
 (hr:Rd w w.heap.size 3 Ao l.length co (l.flatMap aOp)) (hs:tn.size≤maxLen) (hz:∀o ∈ l,o.2.1.size≤maxLen) (hn:l.length≤100000) :
 Calls Tryz.prog 131 #[.slice Ao l.length co,.func (.func 130) #[] #[.pointer (some ⟨k1,0,none⟩),.pointer (some ⟨k2,0,none⟩)]] w fun e w' =>
  (∃A c,e = .returned (.slice A l.length c)∧w'.ownsRow w.heap.size 304 3 (.slice A l.length c) l.length (zbm (l.map (zch ps tn))))∧Below w.heap.size w w':=by
 have a8:(l.length:Int)≤9223372036854775807:=by omega
 have aa:=zj1;obtain ⟨i0,H,I,J,K⟩:=info_parts info_top;go_enter Tryz.func131,Tryz.ntmps131
 go_wp2_with fail
 go_loopw [5,11] (fun v vi wx=>∃i:Nat,vi = .int .i64 i∧i≤l.length∧wx.ownsRow w.heap.size 304 3 v i (zbm ((l.take i).map (zch ps tn)))∧Below w.heap.size w wx) (fun _ vi _=>l.length-(intOf vi).toNat)
 case atStart=>exact ⟨0,rfl,yap _,World.ownsRow_nil _ _ _ _,Below.refl _ _⟩
 case round =>
  obtain ⟨i,rfl,hi,Y,s⟩:=hrel;obtain ⟨L,M,rfl,_⟩:=Rd.own Y;by_cases a1:i<l.length
  · have a2:(i:Int)<(l.length:Int):=by omega
    obtain ⟨⟨kd,p,m⟩,ho⟩:∃o,l[i]? = some o:=⟨_,yal a1⟩;obtain ⟨gb,go,rfl,ab,g0,g1,g2⟩:=aop_at (hr.up s) ho;simp only at g0 g1 g2;have N:=hz _ (yar ho);simp only at N;have O:=Lib.hid (opT_take (ps:=ps) (tn:=tn) ho);have a6:=s.size;have P:=Y.alloc (.cells #[.int .i64 kd,.string p,.string m] 222);have Q:=s.alloc a6 (.cells #[.int .i64 kd,.string p,.string m] 222);have X:=Bk.new wr #[.int .i64 kd,.string p,.string m] 222;go_upto_region 5 with (fail)
    clear g0 g1 g2 Y s;generalize hq1:wr.heap.size=q1 at *
    generalize wr.alloc (.cells #[.int .i64 kd,.string p,.string m] 222)=w1 at *
    have y0:=X.cell 0;have y1:=X.cell 1;have y2:=X.cell 2;have Z:=Q.size;have a7:=X.lt;have R:=P.alloc (.cells #[.int .i64 kd,.int .i64 0,.string m] 304);have g:=Q.alloc Z (.cells #[.int .i64 kd,.int .i64 0,.string m] 304);have T:=Bk.new w1 #[.int .i64 kd,.int .i64 0,.string m] 304;have C:=X.alloc (.cells #[.int .i64 kd,.int .i64 0,.string m] 304);go_upto_region 6 with (fail)
    have F:∀z,(Value.slice L i M).ownBlock=some z→z<w1.heap.size:=fun z h1=>(P.lt z h1).2;clear y0 y1 y2 P Q X;generalize hq2:w1.heap.size=B at *
    generalize w1.alloc (.cells #[.int .i64 kd,.int .i64 0,.string m] 304)=w2 at *
    have y0:=C.cell 0;have y1:=C.cell 1;have y2:=C.cell 2;have z0:=T.cell 0;have z1:=T.cell 1;have z2:=T.cell 2;have zf:=T.fz;have zl:=T.lt;have yl:=C.lt;by_cases e2:kd=2
    · subst e2;have f:Hid (zc5 (zch ps tn (2,p,m))=[.int .i64 2,.int .i64 ((ixP ps (tn,p):Nat):Int),.string m]):=Lib.hid (by unfold zc5 zch;simp);have ko:=own1_any (hm.below g) (b1.below g) (b2.below g) p hs N;generalize ixP ps (tn,p)=D at *
      go_upto_region 7 with (fail)
      go_upto_region 8 with (go_at_call 130;refine ko.mono ?_;rintro e U ⟨rfl,q⟩;have k:=T.below q;have u1:=k.cell 1;have uf:=k.fz 1;have ul:=k.lt)
      have u:=g.size;have V:=zan R q;have x:=zam g u q;have n:(U.setCell ⟨B,1,none⟩ (.int .i64 ((D:Nat):Int))).ownsRow w.heap.size 304 3 (.slice L i M) i (zbm ((l.take i).map (zch ps tn))):=zaD V fun z h1=>Below.heap_setCell _ _ _ _ (by show z≠B;have:=F z h1;omega);have d:Below w.heap.size w (U.setCell ⟨B,1,none⟩ (.int .i64 ((D:Nat):Int))):=x.setCell (by show w.heap.size≤B;omega) _;have E:=k.set 1 (.int .i64 ((D:Nat):Int));simp only [yaE,yaU,yaV] at E;clear u1 uf ul z0 z1 z2 zf zl y0 y1 y2 yl;generalize U.setCell ⟨B,1,none⟩ (.int .i64 ((D:Nat):Int))=w5 at *
      have z0:=E.cell 0;have z1:=E.cell 1;have z2:=E.cell 2;go_wp2_with (at_builtin;go_loud (refine zab _ rfl (.tmp 33) (.tmp 35) 239 239 rfl w.heap.size 304 i0 (.agg #[.int .i64 0,.int .i64 0,.string .empty]) 3 32 Tryz.underlying239 H I J K rfl yac (.slice L i M) i (zbm ((l.take i).map (zch ps tn))) rfl (n.alloc _) _ 1 (zc5 (zch ps tn (2,p,m))) rfl (Src.ofSlice _ Tryz.underlying239 _ 1 1 _ (by rw [f.out];rfl) (by rw [f.out];exact zfo _ _ _ _ _) (zfz _)) yad yab (size_alloc d.size) ?_;intro v9 w8 j y G))
      refine ⟨⟨i + 1,by go_num,by omega,?_,zaf (d.alloc d.size _) y (n.alloc _) (size_alloc d.size) (yaj _)⟩,by simp [intOf];omega⟩;rw [O.out];exact j
    · by_cases e3:kd=3
      · subst e3;have f:Hid (zc5 (zch ps tn (3,p,m))=[.int .i64 3,.int .i64 ((ixP ps (tn,p):Nat):Int),.string m]):=Lib.hid (by unfold zc5 zch;simp);have ko:=own1_any (hm.below g) (b1.below g) (b2.below g) p hs N;generalize ixP ps (tn,p)=D at *
        go_upto_region 7 with (fail)
        go_upto_region 8 with (go_at_call 130;refine ko.mono ?_;rintro e U ⟨rfl,q⟩;have k:=T.below q;have u1:=k.cell 1;have uf:=k.fz 1;have ul:=k.lt)
        have u:=g.size;have V:=zan R q;have x:=zam g u q;have n:(U.setCell ⟨B,1,none⟩ (.int .i64 ((D:Nat):Int))).ownsRow w.heap.size 304 3 (.slice L i M) i (zbm ((l.take i).map (zch ps tn))):=zaD V fun z h1=>Below.heap_setCell _ _ _ _ (by show z≠B;have:=F z h1;omega);have d:Below w.heap.size w (U.setCell ⟨B,1,none⟩ (.int .i64 ((D:Nat):Int))):=x.setCell (by show w.heap.size≤B;omega) _;have E:=k.set 1 (.int .i64 ((D:Nat):Int));simp only [yaE,yaU,yaV] at E;clear u1 uf ul z0 z1 z2 zf zl y0 y1 y2 yl;generalize U.setCell ⟨B,1,none⟩ (.int .i64 ((D:Nat):Int))=w5 at *
        have z0:=E.cell 0;have z1:=E.cell 1;have z2:=E.cell 2;go_wp2_with (at_builtin;go_loud (refine zab _ rfl (.tmp 33) (.tmp 35) 239 239 rfl w.heap.size 304 i0 (.agg #[.int .i64 0,.int .i64 0,.string .empty]) 3 32 Tryz.underlying239 H I J K rfl yac (.slice L i M) i (zbm ((l.take i).map (zch ps tn))) rfl (n.alloc _) _ 1 (zc5 (zch ps tn (3,p,m))) rfl (Src.ofSlice _ Tryz.underlying239 _ 1 1 _ (by rw [f.out];rfl) (by rw [f.out];exact zfo _ _ _ _ _) (zfz _)) yad yab (size_alloc d.size) ?_;intro v9 w8 j y G))
        refine ⟨⟨i + 1,by go_num,by omega,?_,zaf (d.alloc d.size _) y (n.alloc _) (size_alloc d.size) (yaj _)⟩,by simp [intOf];omega⟩;rw [O.out];exact j
      · have d2:(kd == 2)=false:=by simpa using e2
        have d3:(kd == 3)=false:=by simpa using e3
        have f:Hid (zc5 (zch ps tn (kd,p,m))=[.int .i64 kd,.int .i64 0,.string m]):=Lib.hid (by unfold zc5 zch;simp [e2,e3]);have d:=g;have n:=R;clear e2 e3;go_wp2_with (at_builtin;go_loud (refine zab _ rfl (.tmp 33) (.tmp 35) 239 239 rfl w.heap.size 304 i0 (.agg #[.int .i64 0,.int .i64 0,.string .empty]) 3 32 Tryz.underlying239 H I J K rfl yac (.slice L i M) i (zbm ((l.take i).map (zch ps tn))) rfl (n.alloc _) _ 1 (zc5 (zch ps tn (kd,p,m))) rfl (Src.ofSlice _ Tryz.underlying239 _ 1 1 _ (by rw [f.out];rfl) (by rw [f.out];exact zfo _ _ _ _ _) (zfz _)) yad yab (size_alloc d.size) ?_;intro v9 w8 j y G))
        refine ⟨⟨i + 1,by go_num,by omega,?_,zaf (d.alloc d.size _) y (n.alloc _) (size_alloc d.size) (yaj _)⟩,by simp [intOf];omega⟩;rw [O.out];exact j
  · obtain rfl:i=l.length:=by omega
    have a2:¬(((l.length:Nat):Int)<(l.length:Int)):=by omega
    rw [yaA] at Y;go_wp2_with fail
    go_ret
    exact ⟨⟨L,M,rfl,Y⟩,s⟩
theorem znQ:(Tryz.prog.info? 9).map (fun i=>(i.zero,i.size,i.bytes))=some (some (.string .empty),1,16):=by kernel_rfl
theorem zq7 {t:TypA} (h:l[i]? = some t):((l.take (i + 1)).map fun t=>Value.string t.name)=((l.take i).map fun t=>Value.string t.name) ++ [.string t.name]:=by
 rw [yaC,h,yaR,yaL];rfl
theorem typesOf_any {w:World} (h:SchA w R A c l) (hl:l.length≤100000) :
 Calls Tryz.prog 79 #[.agg #[.slice A l.length c]] w fun e w'=>(∃A' c',e = .returned (.slice A' l.length c')∧w'.ownsRow w.heap.size 9 1 (.slice A' l.length c') l.length (l.map fun t=>Value.string t.name))∧Below w.heap.size w w':=by
 have K:(l.length:Int)≤9223372036854775807:=by omega
 obtain ⟨L,n,p,q,s⟩:=info_parts znQ;go_enter Tryz.func79,Tryz.ntmps79
 go_wp2_with fail
 have j:=zdy w (.cells #[.slice A l.length c] 140);have N:=h.up j;generalize w.alloc (.cells #[.slice A l.length c] 140)=O at *
 go_loopw [3,9] (fun v u E=>∃i:Nat,u = .int .i64 i∧i≤l.length∧E.ownsRow w.heap.size 9 1 v i ((l.take i).map fun t=>Value.string t.name)∧Below w.heap.size w E) (fun _ u _=>l.length-(intOf u).toNat)
 case atStart=>exact ⟨0,rfl,yap _,World.ownsRow_nil _ _ _ _,j⟩
 case round =>
  obtain ⟨i,rfl,hi,k,d⟩:=hrel;obtain ⟨F,G,rfl,_⟩:=Rd.own k;by_cases x:i<l.length
  · have y:(i:Int)<(l.length:Int):=by omega
    obtain ⟨t,H⟩:∃t,l[i]? = some t:=⟨_,yal x⟩;obtain ⟨b,o,rfl,t0,z,I⟩:=h.get H;replace t0:=zah t0 d;replace z:=zah z d;have B:=Lib.hid (zq7 H);have C:=d.size;have m:=k.alloc (.cells #[.string t.name,.slice t.A t.rels.length t.c] 199);have f:=d.alloc C (.cells #[.string t.name,.slice t.A t.rels.length t.c] 199);have M:=Bk.new wr #[.string t.name,.slice t.A t.rels.length t.c] 199;go_upto_region 5 with (fail)
    clear t0 z k d;generalize wr.heap.size=P at *
    generalize wr.alloc (.cells #[.string t.name,.slice t.A t.rels.length t.c] 199)=Q at *
    have T:=M.cell 0;go_wp2_with (at_builtin;go_loud (refine zab _ rfl (.tmp 13) (.tmp 16) 46 46 rfl w.heap.size 9 L (.string .empty) 1 16 Tryz.underlying46 n p q s rfl yac (.slice F i G) i ((l.take i).map fun t=>Value.string t.name) rfl (m.alloc _) _ 1 [.string t.name] rfl (Src.ofSlice _ Tryz.underlying46 _ 1 1 _ rfl (zbA _ _ _) (by simp [Value.oneCell'])) yad yab (size_alloc f.size) ?_;intro v9 U g D J))
    refine ⟨⟨i + 1,by go_num,by omega,?_,zaf (f.alloc f.size _) D (m.alloc _) (size_alloc f.size) (yaj _)⟩,by simp [intOf];omega⟩;rw [B.out];exact g
  · obtain rfl:i=l.length:=by omega
    have y:¬(((l.length:Nat):Int)<(l.length:Int)):=by omega
    rw [yaA] at k;go_wp2_with fail
    go_ret
    exact ⟨⟨F,G,rfl,k⟩,d⟩
def zjp (ps:List Path) (lv:List Int) (done:List (TypA × RelA)):List RelT:=done.zipIdx.map fun x=>zem ps (zb5 lv x.2) (x.1.1.says,x.1.2.says)
theorem zof (ps:List Path) (lv:List Int) (done:List (TypA × RelA)) (x:TypA × RelA):zjp ps lv (done ++ [x])=zjp ps lv done ++ [zem ps (zb5 lv done.length) (x.1.says,x.2.says)]:=by
 unfold zjp;rw [ycx,yaL];simp
structure TabO (Y:List (TypA × RelA)) (w wx:World) (x:TabR):Prop where
 subs:∃y ∈ Y,x.As=y.2.As∧x.cs=y.2.cs∧x.r.subs=y.2.subs
 ops:wx.ownsRow w.heap.size 304 3 (.slice x.Ao x.r.ops.length x.co) x.r.ops.length (zbm x.r.ops)
 few:x.r.ops.length≤100000
structure KR (Y:List (TypA × RelA)) (w wx:World) (b:Nat) (ps:List Path) (lv:List Int) (done:List (TypA × RelA)) (vr:Value):Prop where
 row:∃K:List TabR,K.map (·.r)=zjp ps lv done∧wx.ownsRow w.heap.size 242 8 vr done.length (K.flatMap TabR.cells)∧∀x ∈ K,TabO Y w wx x
 box:Bk wx (w.heap.size + 1) #[.map (some b)] 58
 below:Below w.heap.size w wx
theorem KR.call {w wy:World} (h:KR Y w wx b ps lv done vr) (hb:Below wx.heap.size wx wy):KR Y w wy b ps lv done vr:=by
 obtain ⟨⟨K,j,k,d⟩,m,g⟩:=h;exact ⟨⟨K,j,zan k hb,fun x f=>⟨(d x f).subs,zan (d x f).ops hb,(d x f).few⟩⟩,m.below hb,zam g g.size hb⟩
theorem KR.alloc {w:World} (h:KR Y w wx b ps lv done vr) (o:Obj):KR Y w (wx.alloc o) b ps lv done vr:=h.call (zdy wx o)
theorem znP:(Tryz.prog.info? 242).map (fun i=>(i.zero,i.size,i.bytes))=some (some (.agg #[.string .empty,.string .empty,.int .i64 0,.int .i64 0,.int .i64 0,.int .i64 0,.slice none 0 0,.slice none 0 0]),8,112):=by kernel_rfl
theorem zox (x:TabR):∀u ∈ x.cells,u.oneCell'=true:=by
 intro u b;simp only [TabR.cells,yav,ya1,ybw] at b;rcases b with rfl | rfl | rfl | rfl | rfl | rfl | rfl | rfl <;> rfl
theorem znw (w:World) (a b c d e f g h:Value) (t:TypeId):∀j u,[a,b,c,d,e,f,g,h][j]? = some u→(w.alloc (.cells #[a,b,c,d,e,f,g,h] t)).cell? ((⟨w.heap.size,0,none⟩:Addr).add j)=some u:=by
 intro j u k;rw [Addr.add_lit,cell_of_row _ _ _ _ _ _ (heap_alloc_new w _),yaG];simpa using k
theorem KR.put {w wy:World} {v9:Value} {y:TypA × RelA} {x:TabR} {K:List TabR} (h1:K.map (·.r)=zjp ps lv done) (h2:wx.ownsRow w.heap.size 242 8 vr done.length (K.flatMap TabR.cells)) (h3:∀x ∈ K,TabO Y w wx x)
 (h4:Bk wx (w.heap.size + 1) #[.map (some b)] 58) (h5:Below w.heap.size w wx) (hx:TabO Y w wx x) (hr:x.r=zem ps (zb5 lv done.length) (y.1.says,y.2.says))
 (hrow:wy.ownsRow w.heap.size 242 8 v9 (done.length + 1) (K.flatMap TabR.cells ++ x.cells)) (hg:wx.grownBy wy vr.ownBlock):KR Y w wy b ps lv (done ++ [y]) v9:=by
 refine ⟨⟨K ++ [x],?_,?_,fun z f=>?_⟩,zbt h4 h2 yac hg,zaf h5 hg h2 h5.size (yaj _)⟩
 · rw [yaL,h1,zof,←hr];rfl
 · rw [yaZ,List.flatMap_singleton,yam];exact hrow
 · have d:TabO Y w wx z:=by
    rcases yaz.1 f with f | f
    · exact h3 z f
    · rw [yas.1 f];exact hx
   exact ⟨d.subs,zb1 d.ops h2 yac hg,d.few⟩
theorem relsOf_any {w:World} {cv:Nat} {Av:Option Addr} (h:SchA w R A c l) (hR:R≤140737488351232) (hm:MapT w b ps) (hl:(relsA l).length≤100000)
 (hv:Rd w w.heap.size 1 Av lv.length cv (lvs lv)) (hlv:lv.length=(relsA l).length) (hops:∀x ∈ relsA l,x.2.ops.length≤100000) :
 Calls Tryz.prog 80 #[.agg #[.slice A l.length c],.map (some b),.slice Av lv.length cv] w fun e w' =>
  (∃A' c',e = .returned (.slice A' (relsA l).length c')∧∃K:List TabR,K.length=(relsA l).length∧K.map (·.r)=zjp ps lv (relsA l)∧w'.ownsRow w.heap.size 242 8 (.slice A' (relsA l).length c') (relsA l).length (K.flatMap TabR.cells)∧∀x ∈ K,TabO (relsA l) w w' x)∧Below w.heap.size w w':=by
 have bq:(l.length:Int)≤9223372036854775807:=by have:=h.rows.cap;have:=h.rows.capm;simp only [maxLen] at this;omega
 have br:=zj1;obtain ⟨i0,b1,b2,b3,b4⟩:=info_parts znP;go_enter Tryz.func80,Tryz.ntmps80
 go_wp2_with fail
 have aj:Below w.heap.size w ((w.alloc (.cells #[.slice A l.length c] 140)).alloc (.cells #[.map (some b)] 58)):=((Below.refl _ w).alloc (yaj _) _).alloc yaf _;have ak:=Bk.new2 w (.cells #[.slice A l.length c] 140) #[.map (some b)] 58;generalize (w.alloc (.cells #[.slice A l.length c] 140)).alloc (.cells #[.map (some b)] 58)=w0 at *
 have b5:KR (relsA l) w w0 b ps lv (relsA (l.take 0)) (.slice none 0 0):=⟨⟨[],rfl,World.ownsRow_nil _ _ _ _,fun x hx=>by cases hx⟩,ak,aj⟩;clear aj ak;go_loopw [7,16] (fun v vi wx=>∃i:Nat,vi = .int .i64 i∧i≤l.length∧KR (relsA l) w wx b ps lv (relsA (l.take i)) v) (fun _ vi _=>l.length-(intOf vi).toNat)
 case atStart=>exact ⟨0,rfl,yap _,b5⟩
 case round =>
  obtain ⟨i,rfl,hi,hK⟩:=hrel;by_cases b6:i<l.length
  · have b7:(i:Int)<(l.length:Int):=by omega
    obtain ⟨t,ht⟩:∃t,l[i]? = some t:=⟨_,yal b6⟩;obtain ⟨bb,o,rfl,t0,t1,L⟩:=h.get ht;replace t0:=zah t0 hK.below;replace t1:=zah t1 hK.below;have al:=L.rels;have bs:(t.rels.length:Int)≤9223372036854775807:=by have:=al.cap;have:=al.capm;simp only [maxLen] at this;omega
    have ah:=zd7 ht;have b8:=zgn (l:=l) (i + 1);have M:relsA l=relsA (l.take (i + 1)) ++ relsA (l.drop (i + 1)):=by
     conv=>lhs;rw [←ybg (i + 1) l]
     unfold relsA;rw [yaZ]
    replace M:=Lib.hid M;rw [ah,yam,yay] at b8;have am:=hK.alloc (.cells #[.string t.name,.slice t.A t.rels.length t.c] 199);have x1:=Bk.new wr #[.string t.name,.slice t.A t.rels.length t.c] 199;have bu:=hK.below.size;have bw:=hK.box.lt;go_upto_region 5 with (fail)
    clear t0 t1;generalize hq5:wr.heap.size=q5 at *
    generalize wr.alloc (.cells #[.string t.name,.slice t.A t.rels.length t.c] 199)=w1 at *
    have y0:=x1.cell 0;have y1:=x1.cell 1;obtain ⟨bx,_,ab,_⟩:=am.row;obtain ⟨bz,c0,rfl,_⟩:=Rd.own ab;clear ab;go_wp2_with fail
    go_loopw [7,24] (fun v vi wx=>∃j:Nat,vi = .int .i64 j∧j≤t.rels.length∧KR (relsA l) w wx b ps lv (relsA (l.take i) ++ (t.rels.take j).map fun r=>(t,r)) v∧Bk wx q5 #[.string t.name,.slice t.A t.rels.length t.c] 199) (fun _ vi _=>t.rels.length-(intOf vi).toNat)
    case atStart=>exact ⟨0,rfl,yap _,by simpa using am,x1⟩
    case round =>
     obtain ⟨j,rfl,hj,m,an⟩:=hrel;by_cases b9:j<t.rels.length
     · have ba:(j:Int)<(t.rels.length:Int):=by omega
       obtain ⟨x,hx⟩:∃x,t.rels[j]? = some x:=⟨_,yal b9⟩;obtain ⟨g,k,e5,g0,g1,g2,g3,g4,g5,u⟩:=L.get hx;replace g0:=zah g0 m.below;replace g1:=zah g1 m.below;replace g2:=zah g2 m.below;replace g3:=zah g3 m.below;replace g4:=zah g4 m.below;replace g5:=zah g5 m.below;have c1:=L.name;obtain ⟨dn,F⟩:∃dn,relsA (l.take i) ++ (t.rels.take j).map (fun r=>(t,r))=dn:=⟨_,rfl⟩;have c2:dn.length≤99999:=by rw [←F,yam,yay,yaK];omega
       have ao:dn.length<lv.length:=by rw [←F,yam,yay,yaK];omega
       have bc:Hid (relsA (l.take i) ++ (t.rels.take (j + 1)).map (fun r=>(t,r))=dn ++ [(t,x)]):=Lib.hid (by rw [yaC,hx,yaR,yaL,←yaB,F];rfl);have D:(t,x) ∈ relsA l:=by
        rw [M.out,ah];exact List.mem_append_left _ (ycg _ (yaN.2 ⟨x,yar hx,rfl⟩))
       have aq:x.ops.length≤100000:=hops (t,x) D;replace D:=Lib.hid D;rw [F] at m;have F:=Lib.hid F;have p:=m.alloc (.cells #[.string x.name,.string x.view,.string x.edit,.string x.check,.slice x.As x.subs.length x.cs,.slice x.Ao x.ops.length x.co] 203);have n:=an.alloc (.cells #[.string x.name,.string x.view,.string x.edit,.string x.check,.slice x.As x.subs.length x.cs,.slice x.Ao x.ops.length x.co] 203);have Z:=Bk.new wr #[.string x.name,.string x.view,.string x.edit,.string x.check,.slice x.As x.subs.length x.cs,.slice x.Ao x.ops.length x.co] 203;rw [e5] at *
       obtain ⟨c4,_,ac,_⟩:=m.row;obtain ⟨A3,c3,rfl,_⟩:=Rd.own ac;clear ac;go_upto_region 9 with (fail)
       clear g0 g1 g2 g3 g4 g5 m an;generalize hq7e:wr.heap.size=q at *
       generalize wr.alloc (.cells #[.string x.name,.string x.view,.string x.edit,.string x.check,.slice x.As x.subs.length x.cs,.slice x.Ao x.ops.length x.co] 203)=w2 at *
       obtain ⟨bv,ov,rfl,bd,ar⟩:=hv.at_ yab;have G:=ar _ _ (zp1 ao);replace G:=zah G p.below;have a1:x.view.size≤maxLen:=by have:=u.view;simp only [maxLen];omega
       have a2:x.edit.size≤maxLen:=by have:=u.edit;simp only [maxLen];omega
       have N:x.check.size≤maxLen:=by have:=u.check;simp only [maxLen];omega
       have ad:t.name.size≤maxLen:=by simp only [maxLen];omega
       have bf:Hid (∀o ∈ x.ops,o.2.1.size≤maxLen):=Lib.hid fun o ho=>by have:=(u.opz o ho).2.1;simp only [maxLen];omega
       have bo:=p.below.size;have bg:(dn.length:Int)<((relsA l).length:Int):=by omega
       have bh:dn.length<(relsA l).length:=by omega
       refine wp_region_any yaa ?_;change wpAny _ _ _ _ _ _ _ (World.drew _);generalize hdw:World.drew w2=wz at *
       have O:Below w2.heap.size w2 wz:=by subst hdw;exact ⟨rfl,rfl,rfl,yaj _,fun _ _=>rfl⟩
       replace p:=p.call O;replace n:=n.below O;replace Z:=Z.below O;replace G:=zah G O;clear hdw O;have a6:∀W,Below wz.heap.size wz W→Below w.heap.size w W:=fun W hb=>zam p.below p.below.size hb;have ko:∀(W:World) (s:ByteArray),Below wz.heap.size wz W→s.size≤maxLen→Calls Tryz.prog 130 #[.string s,.pointer (some ⟨w.heap.size + 1,0,none⟩),.pointer (some ⟨q5,0,none⟩)] W fun e w'=>e = .returned (.int .i64 (ixP ps (t.name,s):Nat))∧Below W.heap.size W w':=fun W s hb hs=>own1_any (hm.below (a6 W hb)) (p.box.below hb) (n.below hb) s ad hs;have ae:=fun (W:World) (hb:Below wz.heap.size wz W)=>opsOf_any (hm.below (a6 W hb)) (p.box.below hb) (n.below hb) (u.ops.up (a6 W hb)) ad bf.out aq;have C:∀W,Below wz.heap.size wz W→(W.cell? ⟨q5,0,none⟩=some (.string t.name)∧W.cell? ⟨q,0,none⟩=some (.string x.name)∧W.cell? ⟨q,1,none⟩=some (.string x.view)∧W.cell? ⟨q,2,none⟩=some (.string x.edit)∧W.cell? ⟨q,3,none⟩=some (.string x.check)∧W.cell? ⟨q,4,none⟩=some (.slice x.As x.subs.length x.cs)∧W.cell? ⟨q,5,none⟩=some (.slice x.Ao x.ops.length x.co)∧W.cell? ⟨bv,ov + dn.length,none⟩=some (.int .i64 (zb5 lv dn.length))):=fun W hb=>⟨(n.below hb).cell 0,(Z.below hb).cell 0,(Z.below hb).cell 1,(Z.below hb).cell 2,(Z.below hb).cell 3,(Z.below hb).cell 4,(Z.below hb).cell 5,zah G hb⟩;have P:=Below.refl wz.heap.size wz;have d:=C _ P;have bi:=a1;refine wpAny_of_held (S:=fun W=>W.cell? ⟨q5,0,none⟩=some (.string t.name)∧W.cell? ⟨q,0,none⟩=some (.string x.name)∧W.cell? ⟨q,1,none⟩=some (.string x.view)∧W.cell? ⟨q,2,none⟩=some (.string x.edit)∧W.cell? ⟨q,3,none⟩=some (.string x.check)∧W.cell? ⟨q,4,none⟩=some (.slice x.As x.subs.length x.cs)∧W.cell? ⟨q,5,none⟩=some (.slice x.Ao x.ops.length x.co)∧W.cell? ⟨bv,ov + dn.length,none⟩=some (.int .i64 (zb5 lv dn.length))) _ _ _ _ ?_
       refine zaa 0 (some 28) d ?_ (hy:=zy8);refine zaa 1 (some 29) d ?_ (hy:=zy8);refine zaa 2 (some 30) d ?_ (hy:=zy8);refine zaa 3 (some 31) d ?_ (hy:=zy8);refine zaa 4 (some 32) d ?_ (hy:=zy8);refine zaa 5 (some 33) d ?_ (hy:=zy8);refine zaa 6 (some 34) d ?_ (hy:=zy8);refine zaa 7 (some 35) d ?_ (hy:=zy8);refine zaa 8 (some 36) d ?_ (hy:=zy8);refine zaa 10 (some 38) d ?_ (hy:=zy8);refine zaa 11 (some 39) d ?_ (hy:=zy8);refine zaa 12 (some 40) d ?_ (hy:=zy8);refine zaa 14 (some 42) d ?_ (hy:=zy8);refine zaa 15 (some 43) d ?_ (hy:=zy8);refine zaa 16 (some 44) d ?_ (hy:=zy8);refine zaa 19 (some 47) d ?_ (hy:=zy8);refine zaa 20 (some 48) d ?_ (hy:=zy8);refine zaa 21 (some 49) d ?_ (hy:=zy8);refine zaa 22 (some 50) d ?_ (hy:=zy8);refine zaa 23 (some 51) d ?_ (hy:=zy8);refine zaa 24 (some 52) d ?_ (hy:=zy8);refine zaa 25 (some 53) d ?_ (hy:=zy8);refine zaa 26 (some 54) d ?_ (hy:=zy8);refine zaa 27 (some 55) d ?_ (hy:=zy8);refine zaa 28 (some 56) d ?_ (hy:=zy8);refine zaP 9 rfl yaa ?_;intro Q f;go_simp;refine (ko _ x.view P bi).mono ?_;rintro e W1 ⟨rfl,au⟩;have T:=zam P (show wz.heap.size≤_ from P.size) au;replace d:=C _ T;have bj:x.edit.size≤maxLen:=a2;refine f _ _ d ?_;clear f Q;refine zaP 13 rfl yaa ?_;intro Q f;go_simp;refine (ko _ x.edit T bj).mono ?_
       rintro e W2 ⟨rfl,av⟩;have U:=zam T (show wz.heap.size≤_ from T.size) av;replace d:=C _ U;have bl:x.check.size≤maxLen:=N;refine f _ _ d ?_;clear f Q;refine zaP 17 rfl yaa ?_;intro Q f;go_simp;refine (ko _ x.check U bl).mono ?_;rintro e W3 ⟨rfl,aw⟩;have H:=zam U (show wz.heap.size≤_ from U.size) aw;replace d:=C _ H;skip
       refine f _ _ d ?_;clear f Q;refine zaa 18 (some 46) d ?_;refine zaP 29 rfl yaa ?_;intro Q f;go_simp;refine (ae _ H).mono ?_;rintro e W4 ⟨⟨Aq,cq,rfl,V⟩,ax⟩;have B:=zam H (show wz.heap.size≤_ from H.size) ax;replace d:=C _ B;refine f _ _ d ?_;clear f Q;refine zaa 30 (some 58) d ?_;refine zaP 31 rfl yaa ?_;intro Q f;go_simp;have a7:(⟨zem ps (zb5 lv dn.length) (t.says,x.says),x.As,x.cs,Aq,cq⟩:TabR).cells=[.string t.name,.string x.name,.int .i64 (ixP ps (t.name,x.view):Nat),.int .i64 (ixP ps (t.name,x.edit):Nat),.int .i64 (ixP ps (t.name,x.check):Nat),.int .i64 (zb5 lv dn.length),.slice x.As x.subs.length x.cs,.slice Aq x.ops.length cq]:=by simp [TabR.cells,zem,TypA.says,RelA.says]
       have ay:=C _ (B.alloc B.size (.cells #[.string t.name,.string x.name,.int .i64 (ixP ps (t.name,x.view):Nat),.int .i64 (ixP ps (t.name,x.edit):Nat),.int .i64 (ixP ps (t.name,x.check):Nat),.int .i64 (zb5 lv dn.length),.slice x.As x.subs.length x.cs,.slice Aq x.ops.length cq] 242));refine f _ _ ay ?_;clear f Q;have a8:TabO (relsA l) w W4 (⟨zem ps (zb5 lv dn.length) (t.says,x.says),x.As,x.cs,Aq,cq⟩:TabR):=⟨⟨(t,x),D.out,rfl,rfl,rfl⟩,by
        show W4.ownsRow w.heap.size 304 3 (.slice Aq (x.ops.map (zch ps t.name)).length cq) (x.ops.map (zch ps t.name)).length (zbm (x.ops.map (zch ps t.name)));rw [yay];exact zax V (a6 _ H).size,by show (x.ops.map (zch ps t.name)).length≤100000;rw [yay];exact aq⟩
       have I:=p.call B;obtain ⟨K9,az,J,aa⟩:=I.row;have af:=n.below B;have ag:=Z.below B;have E:=I.below.size;have bp:=zah G B;replace a7:=Lib.hid a7;refine zaP 32 rfl yaa ?_;intro Q f;rw [yan (by rfl)];refine zci _ (some 60) rfl (.tmp 28) (.tmp 59) 59 59 rfl w.heap.size 242 i0 _ 8 112 Tryz.underlying59 b1 b2 b3 b4 rfl yac (.slice A3 dn.length c3) dn.length (K9.flatMap TabR.cells) rfl (World.ownsRow.alloc J _) _ 1 (⟨zem ps (zb5 lv dn.length) (t.says,x.says),x.As,x.cs,Aq,cq⟩:TabR).cells rfl (Src.ofSlice _ Tryz.underlying59 _ 1 1 _ (by rw [a7.out];rfl) (by rw [a7.out];exact znw _ _ _ _ _ _ _ _ _ _) (zox _)) yad yab (size_alloc E) ?_;intro v9 W8 X Y;have o1:=zbt (af.alloc _) (World.ownsRow.alloc J _) yac Y;have o2:=zbt (ag.alloc _) (World.ownsRow.alloc J _) yac Y;have b0:=zaf (I.below.alloc E _) Y (World.ownsRow.alloc J _) (size_alloc E) (yaj _);have ai:W8.cell? ⟨q5,0,none⟩=some (.string t.name)∧W8.cell? ⟨q,0,none⟩=some (.string x.name)∧W8.cell? ⟨q,1,none⟩=some (.string x.view)∧W8.cell? ⟨q,2,none⟩=some (.string x.edit)∧W8.cell? ⟨q,3,none⟩=some (.string x.check)∧W8.cell? ⟨q,4,none⟩=some (.slice x.As x.subs.length x.cs)∧W8.cell? ⟨q,5,none⟩=some (.slice x.Ao x.ops.length x.co)∧W8.cell? ⟨bv,ov + dn.length,none⟩=some (.int .i64 (zb5 lv dn.length)):=⟨o1.cell 0,o2.cell 0,o2.cell 1,o2.cell 2,o2.cell 3,o2.cell 4,o2.cell 5,(b0.cell bd).trans (ar _ _ (zp1 ao))⟩
       have bm:=KR.put (y:=(t,x)) az (World.ownsRow.alloc J _) (fun z hz=>⟨(aa z hz).subs,(aa z hz).ops.alloc _,(aa z hz).few⟩) (I.box.alloc _) (I.below.alloc E _) ⟨a8.subs,a8.ops.alloc _,a8.few⟩ rfl X Y;refine f _ _ ai ?_;clear f Q;simp only [Act.put,yaE,yaU,yaV];refine zaa 33 (some 7) ai ?_;refine wpAnyH_done yaa ?_ _;clear az J aa I a8 af ag d ay ai P T U H B au av aw ax V X C ko ae Y;go_wp2_with fail
       refine ⟨⟨v9,.pointer (some ⟨q,0,none⟩),.int .i64 ((j:Int) + 1),⟨j + 1,by go_num,by omega,?_⟩,rfl,rfl,rfl⟩,by simp [intOf];omega⟩;rw [←List.map_take,bc.out];exact bm
     · obtain rfl:j=t.rels.length:=by omega
       have ba:¬(((t.rels.length:Nat):Int)<(t.rels.length:Int)):=by omega
       rw [yaA,←ah] at m;go_wp2_with fail
       exact ⟨⟨i + 1,by go_num,by omega,m⟩,by simp [intOf];omega⟩
  · obtain rfl:i=l.length:=by omega
    have b7:¬(((l.length:Nat):Int)<(l.length:Int)):=by omega
    rw [yaA] at hK;obtain ⟨K,h1,h2,h3⟩:=hK.row;have bn:K.length=(relsA l).length:=by have:=congrArg List.length h1;rw [yay] at this;unfold zjp at this;rw [yay,List.length_zipIdx] at this;exact this
    obtain ⟨A3,c3,rfl,c5⟩:=Rd.own h2;go_wp2_with fail
    go_ret
    exact ⟨⟨A3,c3,rfl,K,bn,h1,h2,h3⟩,hK.below⟩
end Go.Proofs.YtmblgnddgmfkhaaGreat
