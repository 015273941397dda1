import Derived.Test.YtmblgnddgmfkhaaGreatK23
set_option maxRecDepth 100000
set_option maxHeartbeats 4000000
namespace Go.Proofs.YtmblgnddgmfkhaaGreat
open Go.RowKit Go.Maps
open Go.RowKit Go.Maps
open Go.RowKit Go.Maps
variable {ps:List Path} {b c R i:Nat} {vr:Value} {wx w':World} {done Y:List (TypA × RelA)} {A:Option Addr} {l:List TypA} {lv:List Int} {tn:ByteArray}
theorem rowT:(205:TypeId)<Tryz.prog.types.size:=yaL yaa
theorem keyAT:Tryz.prog.keyTypeAt 2 205=true:=by kernel_rfl
theorem lawT:WideMaps.KeyLaw Tryz.prog 205:=deep_law_laid laidP (m:=2) yab rowT keyAT (by rw [Tryz.underlying205])
theorem zqz:Keyed Tryz.prog 205:=Keyed.of_law lawT
theorem keyTT:Tryz.prog.keyType 205=true:=by kernel_rfl
theorem cellsT:Tryz.prog.cellsOf 205=2:=by kernel_rfl
theorem zqI (n:Nat) {s:Path} (h1:s.1.size≤maxLen) (h2:s.2.size≤maxLen):Tryz.prog.keyLits (n + 2) 205 [.string s.1,.string s.2]=some [.string s.1.data.toList,.string s.2.data.toList]:=by
 simp [Program.keyLits,Tryz.underlying205,cellsT,zpN,Tryz.underlying9,h1,h2,List.range,List.range.loop]
theorem formT (a b:Value):(Value.agg #[a,b]).formed Tryz.prog 205=true:=by simp [Value.formed,Tryz.underlying205,cellsT]
theorem zjH {s:Path} (h1:s.1.size≤maxLen) (h2:s.2.size≤maxLen):keyOf Tryz.prog 205 (.agg #[.string s.1,.string s.2])=some (kS s):=by
 have b:=zjN (fun n=>zqI n h1 h2) (ybw (yao _) rowT);unfold keyOf;simp only [Tryz.underlying205,keyTT,formT,Bool.and_self,if_true,Value.cells,List.toList_toArray];rw [b];rfl
def MapT (w:World) (b:Nat) (ps:List Path):Prop:=w.ownsMap Tryz.prog 205 (plainElem Tryz.prog 3) b ps.length (zdQ ps)∧∀p ∈ ps,SmP p
theorem MapT.same {w:World} (h:MapT w b ps) (hb:w'.heap[b]? = w.heap[b]?):MapT w' b ps:=by
 obtain ⟨⟨g,f,j,k⟩,m⟩:=h;exact ⟨⟨g,f,hb.trans j,k⟩,m⟩
theorem MapT.lt {w:World} (h:MapT w b ps):b<w.heap.size:=h.1.lt
theorem MapT.below {w:World} (h:MapT w b ps) (hb:Below w.heap.size w w'):MapT w' b ps:=h.same (hb.block b h.lt)
theorem zk3 (hs:∀p ∈ ps,SmP p) (hn:ps.Nodup):Tidy (zdQ ps)∧Maps.size (zdQ ps)=ps.length:=by
 suffices H:∀n (ps:List Path),ps.length=n→(∀p ∈ ps,SmP p)→ps.Nodup→Tidy (zdQ ps)∧Maps.size (zdQ ps)=ps.length from H _ ps rfl hs hn
 intro n;induction n with
 | zero =>
  intro ps f _ _;rw [yaU f];exact ⟨tidy_empty,rfl⟩
 | succ n ih =>
  intro ps f hs hn;rcases ybR ps with rfl | ⟨ps',p,rfl⟩
  · simp at f
  · rw [yb8] at *
    have k:=hs p yaf;rw [ybb] at hn;have b:∀x ∈ ps',SmP x:=fun x q=>hs x (by simp [q]);obtain ⟨m,s⟩:=ih ps' (by simpa using f) b hn.1;have g:p ∉ ps':=fun u=>hn.2.2 p u p yaf rfl;have o:=(zcI b k).1;have j:zat ps' p=none:=by
     cases e:zat ps' p with
     | none=>rfl
     | some i=>exact absurd (yaq (zcf e)) g
    rw [j] at o;rw [zew];refine ⟨m.put (zqu k) _,?_⟩;rw [size_put m,o,s,yam];rfl
structure KTab (w wx:World) (done:List (TypA × RelA)):Prop where
 map:MapT wx (w.heap.size + 1) (zal done)
 below:Below w.heap.size w wx
theorem KTab.alloc {w:World} (h:KTab w wx done) (o:Obj):KTab w (wx.alloc o) done:=⟨h.map.below ((Below.refl _ wx).alloc (yaj _) o),h.below.alloc h.below.size o⟩
theorem idsOf_any {w:World} (h:SchA w R A c l) (hR:R≤140737488351232) (hl:(relsA l).length≤100000) (hn:(zal (relsA l)).Nodup) :
 Calls Tryz.prog 75 #[.agg #[.slice A l.length c]] w fun e w'=>(∃b,e = .returned (.map (some b))∧MapT w' b (zal (relsA l))∧w.heap.size≤b)∧Below w.heap.size w w':=by
 have a1:=@run_makeMap Tryz.prog;have aj:(l.length:Int)≤9223372036854775807:=by have:=h.rows.cap;have:=h.rows.capm;simp only [maxLen] at this;omega
 go_enter Tryz.func75,Tryz.ntmps75
 go_wp2_with fail
 have d2:MapT ((w.alloc (.cells #[.slice A l.length c] 140)).alloc (.map #[] 0)) (w.alloc (.cells #[.slice A l.length c] 140)).heap.size (zal []):=⟨World.ownsMap_made _ _ _ _,fun p hp=>by cases hp⟩;simp only [World.size_alloc] at d2;have P:Below w.heap.size w ((w.alloc (.cells #[.slice A l.length c] 140)).alloc (.map #[] 0)):=((Below.refl _ w).alloc (yaj _) _).alloc yaf _;generalize (w.alloc (.cells #[.slice A l.length c] 140)).alloc (.map #[] 0)=w0 at *
 have a2:KTab w w0 (relsA (l.take 0)):=⟨d2,P⟩;clear a1 d2 P;go_loopw [13] (fun H Y=>∃i:Nat,H = .int .i64 i∧i≤l.length∧KTab w Y (relsA (l.take i))) (fun H _=>l.length-(intOf H).toNat)
 case atStart=>exact ⟨0,rfl,yao _,a2⟩
 case round =>
  obtain ⟨i,rfl,hi,F⟩:=hrel;by_cases a6:i<l.length
  · have a7:(i:Int)<(l.length:Int):=by omega
    obtain ⟨t,ht⟩:∃t,l[i]? = some t:=⟨_,yal a6⟩;obtain ⟨b,o,rfl,t0,t1,u⟩:=h.get ht;replace t0:=zaj t0 F.below;replace t1:=zaj t1 F.below;have Q:=u.rels;have ak:(t.rels.length:Int)≤9223372036854775807:=by have:=Q.cap;have:=Q.capm;simp only [maxLen] at this;omega
    have I:=zeF ht;have a8:=zgT (l:=l) (i + 1);have y:relsA l=relsA (l.take (i + 1)) ++ relsA (l.drop (i + 1)):=by
     conv=>lhs;rw [←ybk (i + 1) l]
     unfold relsA;rw [ya0]
    replace y:=Lib.hid y;rw [I,yam,yax] at a8;have aa:=F.alloc (.cells #[.string t.name,.slice t.A t.rels.length t.c] 199);have x1:=Bk.new wr #[.string t.name,.slice t.A t.rels.length t.c] 199;have al:=F.below.size;have am:=F.map.lt;go_upto_region 5 with (fail)
    clear t0 t1;generalize hq5:wr.heap.size=q5 at *
    generalize wr.alloc (.cells #[.string t.name,.slice t.A t.rels.length t.c] 199)=w1 at *
    have y0:=x1.cell 0;have y1:=x1.cell 1;go_wp2_with fail
    go_loopw [20] (fun H Y=>∃j:Nat,H = .int .i64 j∧j≤t.rels.length∧KTab w Y (relsA (l.take i) ++ (t.rels.take j).map fun r=>(t,r))∧Bk Y q5 #[.string t.name,.slice t.A t.rels.length t.c] 199) (fun H _=>t.rels.length-(intOf H).toNat)
    case atStart=>exact ⟨0,rfl,yao _,by simpa using aa,x1⟩
    case round =>
     obtain ⟨j,rfl,hj,n,J⟩:=hrel;by_cases ab:j<t.rels.length
     · have ac:(j:Int)<(t.rels.length:Int):=by omega
       obtain ⟨x,hx⟩:∃x,t.rels[j]? = some x:=⟨_,yal ab⟩;obtain ⟨g,k,e5,g0,g1,g2,g3,g4,g5,T⟩:=(u.up n.below).get hx;have an:=u.name;have ao:=T.name;obtain ⟨dn,z⟩:∃dn,relsA (l.take i) ++ (t.rels.take j).map (fun r=>(t,r))=dn:=⟨_,rfl⟩;have aq:dn.length≤99999:=by rw [←z,yam,yax,yaN];omega
       have U:Hid (relsA (l.take i) ++ (t.rels.take (j + 1)).map (fun r=>(t,r))=dn ++ [(t,x)]):=Lib.hid (by rw [yaC,hx,yaO,yaM,←yaD,z];rfl);have B:zal (dn ++ [(t,x)])=zal dn ++ [(t.name,x.name)]:=by simp [zal]
       have K:(zal dn ++ [(t.name,x.name)]).Nodup:=by
        rw [←B,←U.out];have N:=hn;rw [y.out,I,←ybk (j + 1) t.rels,yaM] at N;unfold zal at N ⊢;rw [yaM,yaM,yaM,←yaD] at N;rw [yaM];exact (ybb.1 (ybb.1 N).1).1
       rw [z] at n;have z:=Lib.hid z;have C:=n.alloc (.cells x.cells.toArray 203);have f:=J.alloc (.cells x.cells.toArray 203);have x7:=Bk.new wr x.cells.toArray 203;have ad:wr.heap.size<(wr.alloc (.cells x.cells.toArray 203)).heap.size:=by simp
       have ai:=J.lt;have ae:x.cells.toArray=#[.string x.name,.string x.view,.string x.edit,.string x.check,.slice x.As x.subs.length x.cs,.slice x.Ao x.ops.length x.co]:=rfl;rw [ae] at C f x7 ad;rw [e5] at *
       have K:=Lib.hid K;have B:=Lib.hid B;go_upto_region 8 with (fail)
       clear g0 g1 g2 g3 g4 g5 n J;generalize hq7e:wr.heap.size=q7 at *
       generalize wr.alloc (.cells #[.string x.name,.string x.view,.string x.edit,.string x.check,.slice x.As x.subs.length x.cs,.slice x.Ao x.ops.length x.co] 203)=w2 at *
       have m:=C.map;have D:(zal dn).length=dn.length:=by simp [zal]
       have L:Maps.size (zdQ (zal dn))=dn.length:=by rw [(zk3 m.2 (ybb.1 K.out).1).2,D]
       have E:=m.1;rw [D] at E;have V:∀ty,(Builtin.len_ #[58] ty #[.map (some (w.heap.size + 1))]).run Tryz.prog w2 = .ok (.int .i64 (dn.length:Nat)) w2:=fun ty=>by have:=E.len Tryz.underlying58 ty;rw [L] at this;exact this
       have ar:=m.lt;replace L:=Lib.hid L;go_upto_region 9 with (fail)
       have z5:=f.cell 0;have z7:=x7.cell 0;have G:keyOf Tryz.prog 205 (.agg #[.string t.name,.string x.name])=some (kS (t.name,x.name)):=zjH (s:=(t.name,x.name)) yad yad;clear V;go_upto_region 10 with (at_mapUpdate;refine wpList_mapUpdate_own _ rfl _ _ _ 58 rfl 205 3 zqz Tryz.underlying58 _ (w.heap.size + 1) dn.length _ rfl E (by unfold maxLen;omega) _ _ _ rfl rfl G _ [] (plainElem_int Tryz.underlying3 (zoc yab)) ?_;intro w3 X M)
       have o3:∀O,O<w2.heap.size→O≠w.heap.size + 1→w3.heap[O]? = w2.heap[O]?:=fun O N h2=>M.block O N fun e'=>h2 (yaZ e');have af:Bk w3 q5 _ _:=(o3 _ f.lt yab).trans f;have ag:Below w.heap.size w w3:=C.below.grown M C.below.size fun r e'=>by cases e';omega
       have ah:MapT w3 (w.heap.size + 1) (zal (dn ++ [(t,x)])):=by
        refine ⟨?_,fun q Z=>?_⟩
        · rw [B.out,zew,D,yam,D];exact X
        · rw [B.out,yaA,yav] at Z;rcases Z with Z | rfl
          · exact m.2 q Z
          · exact ⟨by simp only [maxLen];omega,by simp only [maxLen];omega⟩
       clear X m E C f x7 z5 z7 M o3 G D;go_wp2_with fail
       refine ⟨⟨j + 1,by go_num,by omega,?_,af⟩,by simp [intOf];omega⟩;rw [U.out];exact ⟨ah,ag⟩
     · obtain rfl:j=t.rels.length:=by omega
       have ac:¬(((t.rels.length:Nat):Int)<(t.rels.length:Int)):=by omega
       rw [yaz,←I] at n;go_wp2_with fail
       exact ⟨⟨i + 1,by go_num,by omega,n⟩,by simp [intOf];omega⟩
  · obtain rfl:i=l.length:=by omega
    have a7:¬(((l.length:Nat):Int)<(l.length:Int)):=by omega
    rw [yaz] at F;go_wp2_with fail
    go_ret
    exact ⟨⟨_,rfl,F.map,ybd _⟩,F.below⟩
def MapO (w:World) (mb:Option Nat) (ps:List Path):Prop:=(mb=none∧ps=[])∨∃b,mb=some b∧MapT w b ps
theorem MapO.up {w:World} {mb:Option Nat} (h:MapO w mb ps) (hb:Below w.heap.size w w'):MapO w' mb ps:=by
 rcases h with h | ⟨b,e,h⟩
 · exact .inl h
 · exact .inr ⟨b,e,h.below hb⟩
theorem zqL {q:Path} (hs:∀p ∈ ps,SmP p) (hq:SmP q):Maps.has (zdQ ps) (kS q)=(zat ps q).isSome∧∀c:Int,(zdQ ps).atKey (kS q) (.lit (.int .i64 0)) = .lit (.int .i64 c)→c=(ixP ps q:Nat):=by
 obtain ⟨f,g⟩:=zcI hs hq;refine ⟨f,fun c b=>?_⟩;rw [g] at b;unfold ixP;cases e:zat ps q with
 | none=>rw [e] at b;cases b;rfl
 | some i=>rw [e] at b;cases b;rfl
section
variable {w:World} {tx:ByteArray} {Ay:Option Addr} {ny cy:Nat} {mb:Option Nat} {Ar:Option Addr} {nr cr:Nat}
theorem tid_any (h:MapO w mb ps) (ty re:ByteArray) (h1:ty.size≤maxLen) (h2:re.size≤maxLen) :
 Calls Tryz.prog 81 #[.agg #[.string tx,.slice Ay ny cy,.map mb,.slice Ar nr cr],.string ty,.string re] w fun e w'=>e = .returned (.tuple #[.int .i64 (ixP ps (ty,re):Nat),.bool (zat ps (ty,re)).isSome])∧Below w.heap.size w w':=by
 have f:=zdS w (.cells #[.string tx,.slice Ay ny cy,.map mb,.slice Ar nr cr] 61);have g:keyOf Tryz.prog 205 (.agg #[.string ty,.string re])=some (kS (ty,re)):=zjH (s:=(ty,re)) h1 h2;rcases h with ⟨rfl,rfl⟩ | ⟨b,rfl,h⟩
 · have o:ixP [] (ty,re)=0:=rfl;have u:zat [] (ty,re)=none:=rfl;rw [o,u];have x:∀W:World,(Instr.lookup 58 (.map none) (.agg #[.string ty,.string re]) true).run Tryz.prog W = .ok (.tuple #[.int .i64 0,.bool false]) W:=fun W=>by
    simp [Instr.lookup];kernel_rfl
   go_enter Tryz.func81,Tryz.ntmps81
   go_wp2_with fail
   refine bodyPost_ret (v:=.tuple #[.int .i64 0,.bool false]) (by simp [results,Tryz.results81,go_sem];try rfl) rfl ?_;exact ⟨rfl,f⟩
 · have k:=zqL h.2 (q:=(ty,re)) ⟨h1,h2⟩;have m:=(h.below f).1;have n:=Lib.hid k.2;have A:=k.1;generalize ixP ps (ty,re)=i at *
   generalize (zat ps (ty,re)).isSome=q at *
   clear k;go_enter Tryz.func81,Tryz.ntmps81
   go_wp2_with (at_lookup;refine wpList_lookup_own_ok_int _ rfl _ _ 58 rfl 205 3 .i64 zqz Tryz.underlying58 Tryz.underlying3 (ziu _) b ps.length _ rfl m _ _ rfl g ?_;intro y j z;obtain rfl:=n.out y j)
   refine bodyPost_ret (v:=.tuple #[.int .i64 (i:Nat),.bool q]) (by simp [results,Tryz.results81,go_sem];try rfl) rfl ?_;exact ⟨rfl,f⟩
theorem own1_any {k1 k2:Nat} (h:MapT w b ps) (b1:Bk w k1 #[.map (some b)] 58) (b2:Bk w k2 #[.string tn,vr] 199) (re:ByteArray) (h1:tn.size≤maxLen) (h2:re.size≤maxLen) :
 Calls Tryz.prog 130 #[.string re,.pointer (some ⟨k1,0,none⟩),.pointer (some ⟨k2,0,none⟩)] w fun e w'=>e = .returned (.int .i64 (ixP ps (tn,re):Nat))∧Below w.heap.size w w':=by
 have f:keyOf Tryz.prog 205 (.agg #[.string tn,.string re])=some (kS (tn,re)):=zjH (s:=(tn,re)) h1 h2;have m:=zqL h.2 (q:=(tn,re)) ⟨h1,h2⟩;have j:=h.1;have k:=Lib.hid m.2;clear m;generalize ixP ps (tn,re)=i at *
 have u:=b1.c1;have x:=b2.cell 0;go_enter Tryz.func130,Tryz.ntmps130
 go_wp2_with (at_lookup;refine wpList_lookup_own_int _ rfl _ _ 58 rfl 205 3 .i64 zqz Tryz.underlying58 Tryz.underlying3 (ziu _) b ps.length _ rfl j _ _ rfl f ?_;intro n g o;obtain rfl:=k.out n g)
 go_ret
 exact ⟨rfl,Below.refl _ _⟩
theorem zmF {f:FuncId} {fn:Func} (hf:Tryz.prog.funcs[f]? = some fn) (hname:(fn.name == "runtime.NumGoroutine")=false) (hb:fn.body.isNone=false) (args:Array Value) (W:World):(callFunc f args).run Tryz.prog W = .ok (.enter f args) W:=by
 have b:¬(fn.name="runtime.NumGoroutine"):=by simpa using hname
 have g:fn.body≠none:=by intro e;rw [e] at hb;cases hb
 simp [callFunc,hf,b,g,Result.andThen]
theorem zkA:∀args W,(callFunc 130 args).run Tryz.prog W = .ok (.enter 130 args) W:=zmF Tryz.func130 yaa yaa
theorem zmt (a b:List OpT):zbv (a ++ b)=zbv a ++ zbv b:=ya0
end
theorem opT_take {l:List OpI} {o:OpI} (h:l[i]? = some o):zbv ((l.take (i + 1)).map (zcw ps tn))=zbv ((l.take i).map (zcw ps tn)) ++ zdi (zcw ps tn o):=by
 rw [yaC,h,yaO,yaM,zmt];simp [zbv]
theorem zf7 (o:OpT):∀u ∈ zdi o,u.oneCell'=true:=by
 intro u b;simp only [zdi,yaw,ya1,ybA] at b;rcases b with rfl | rfl | rfl <;> rfl
theorem aop_at {w:World} {l:List OpI} (h:Rd w w.heap.size 3 A l.length c (l.flatMap aOp)) {o:OpI} (hi:l[i]? = some o) :
 ∃b k,A=some ⟨b,k,none⟩∧b<w.heap.size∧w.cell? ⟨b,k + i * 3,none⟩=some (.int .i64 o.1)∧w.cell? ⟨b,k + i * 3 + 1,none⟩=some (.string o.2.1)∧w.cell? ⟨b,k + i * 3 + 2,none⟩=some (.string o.2.2):=by
 obtain ⟨b,k,e,hb,f⟩:=h.at_ (zd8 hi);have g:=fun j (m:j<3)=>zbf aOp (sz:=3) (fun _=>rfl) hi (k:=j) m;exact ⟨b,k,e,hb,f _ _ (g 0 yab),f _ _ (g 1 yab),f _ _ (g 2 yab)⟩
theorem opsOf_any {w:World} {k1 k2 co:Nat} {Ao:Option Addr} {l:List OpI} (hm:MapT w b ps) (b1:Bk w k1 #[.map (some b)] 58) (b2:Bk w k2 #[.string tn,vr] 199)
 (hr:Rd w w.heap.size 3 Ao l.length co (l.flatMap aOp)) (hs:tn.size≤maxLen) (hz:∀o ∈ l,o.2.1.size≤maxLen) (hn:l.length≤100000) :
 Calls Tryz.prog 131 #[.slice Ao l.length co,.func (.func 130) #[] #[.pointer (some ⟨k1,0,none⟩),.pointer (some ⟨k2,0,none⟩)]] w fun e w' =>
  (∃A c,e = .returned (.slice A l.length c)∧w'.ownsRow w.heap.size 304 3 (.slice A l.length c) l.length (zbv (l.map (zcw ps tn))))∧Below w.heap.size w w':=by
 have aa:(l.length:Int)≤9223372036854775807:=by omega
 have ab:=zkA;obtain ⟨i0,J,K,L,M⟩:=info_parts info_top;go_enter Tryz.func131,Tryz.ntmps131
 go_wp2_with fail
 go_loopw [5,11] (fun v vi wx=>∃i:Nat,vi = .int .i64 i∧i≤l.length∧wx.ownsRow w.heap.size 304 3 v i (zbv ((l.take i).map (zcw ps tn)))∧Below w.heap.size w wx) (fun _ vi _=>l.length-(intOf vi).toNat)
 case atStart=>exact ⟨0,rfl,yao _,World.ownsRow_nil _ _ _ _,Below.refl _ _⟩
 case round =>
  obtain ⟨i,rfl,hi,hO,x⟩:=hrel;obtain ⟨N,O,rfl,_⟩:=Rd.own hO;by_cases a2:i<l.length
  · have a6:(i:Int)<(l.length:Int):=by omega
    obtain ⟨⟨kd,s,n⟩,ho⟩:∃o,l[i]? = some o:=⟨_,yal a2⟩;obtain ⟨gb,go,rfl,ac,g0,g1,g2⟩:=aop_at (hr.up x) ho;simp only at g0 g1 g2;have P:=hz _ (yaq ho);simp only at P;have Q:=Lib.hid (opT_take (ps:=ps) (tn:=tn) ho);have a7:=x.size;have R:=hO.alloc (.cells #[.int .i64 kd,.string s,.string n] 222);have T:=x.alloc a7 (.cells #[.int .i64 kd,.string s,.string n] 222);have Z:=Bk.new wr #[.int .i64 kd,.string s,.string n] 222;go_upto_region 5 with (fail)
    clear g0 g1 g2 hO x;generalize hq1:wr.heap.size=q1 at *
    generalize wr.alloc (.cells #[.int .i64 kd,.string s,.string n] 222)=w1 at *
    have y0:=Z.cell 0;have y1:=Z.cell 1;have y2:=Z.cell 2;have a1:=T.size;have a8:=Z.lt;have U:=R.alloc (.cells #[.int .i64 kd,.int .i64 0,.string n] 304);have j:=T.alloc a1 (.cells #[.int .i64 kd,.int .i64 0,.string n] 304);have V:=Bk.new w1 #[.int .i64 kd,.int .i64 0,.string n] 304;have E:=Z.alloc (.cells #[.int .i64 kd,.int .i64 0,.string n] 304);go_upto_region 6 with (fail)
    have H:∀C,(Value.slice N i O).ownBlock=some C→C<w1.heap.size:=fun C h1=>(R.lt C h1).2;clear y0 y1 y2 R T Z;generalize hq2:w1.heap.size=D at *
    generalize w1.alloc (.cells #[.int .i64 kd,.int .i64 0,.string n] 304)=w2 at *
    have y0:=E.cell 0;have y1:=E.cell 1;have y2:=E.cell 2;have z0:=V.cell 0;have z1:=V.cell 1;have z2:=V.cell 2;have zf:=V.fz;have zl:=V.lt;have yl:=E.lt;by_cases e2:kd=2
    · subst e2;have g:Hid (zdi (zcw ps tn (2,s,n))=[.int .i64 2,.int .i64 ((ixP ps (tn,s):Nat):Int),.string n]):=Lib.hid (by unfold zdi zcw;simp);have ko:=own1_any (hm.below j) (b1.below j) (b2.below j) s hs P;generalize ixP ps (tn,s)=F at *
      go_upto_region 7 with (fail)
      go_upto_region 8 with (go_at_call 130;refine ko.mono ?_;rintro e X ⟨rfl,u⟩;have m:=V.below u;have u1:=m.cell 1;have uf:=m.fz 1;have ul:=m.lt)
      have y:=j.size;have Y:=zao U u;have z:=zan j y u;have q:(X.setCell ⟨D,1,none⟩ (.int .i64 ((F:Nat):Int))).ownsRow w.heap.size 304 3 (.slice N i O) i (zbv ((l.take i).map (zcw ps tn))):=zaH Y fun C h1=>Below.heap_setCell _ _ _ _ (by show C≠D;have:=H C h1;omega);have f:Below w.heap.size w (X.setCell ⟨D,1,none⟩ (.int .i64 ((F:Nat):Int))):=z.setCell (by show w.heap.size≤D;omega) _;have G:=m.set 1 (.int .i64 ((F:Nat):Int));simp only [yaG,yaV,yaW] at G;clear u1 uf ul z0 z1 z2 zf zl y0 y1 y2 yl;generalize X.setCell ⟨D,1,none⟩ (.int .i64 ((F:Nat):Int))=w5 at *
      have z0:=G.cell 0;have z1:=G.cell 1;have z2:=G.cell 2;go_wp2_with (at_builtin;go_loud (refine zab _ rfl (.tmp 33) (.tmp 35) 239 239 rfl w.heap.size 304 i0 (.agg #[.int .i64 0,.int .i64 0,.string .empty]) 3 32 Tryz.underlying239 J K L M rfl yac (.slice N i O) i (zbv ((l.take i).map (zcw ps tn))) rfl (q.alloc _) _ 1 (zdi (zcw ps tn (2,s,n))) rfl (Src.ofSlice _ Tryz.underlying239 _ 1 1 _ (by rw [g.out];rfl) (by rw [g.out];exact zfV _ _ _ _ _) (zf7 _)) yad yab (size_alloc f.size) ?_;intro v9 w8 k B I))
      refine ⟨⟨i + 1,by go_num,by omega,?_,zae (f.alloc f.size _) B (q.alloc _) (size_alloc f.size) (yaj _)⟩,by simp [intOf];omega⟩;rw [Q.out];exact k
    · by_cases e3:kd=3
      · subst e3;have g:Hid (zdi (zcw ps tn (3,s,n))=[.int .i64 3,.int .i64 ((ixP ps (tn,s):Nat):Int),.string n]):=Lib.hid (by unfold zdi zcw;simp);have ko:=own1_any (hm.below j) (b1.below j) (b2.below j) s hs P;generalize ixP ps (tn,s)=F at *
        go_upto_region 7 with (fail)
        go_upto_region 8 with (go_at_call 130;refine ko.mono ?_;rintro e X ⟨rfl,u⟩;have m:=V.below u;have u1:=m.cell 1;have uf:=m.fz 1;have ul:=m.lt)
        have y:=j.size;have Y:=zao U u;have z:=zan j y u;have q:(X.setCell ⟨D,1,none⟩ (.int .i64 ((F:Nat):Int))).ownsRow w.heap.size 304 3 (.slice N i O) i (zbv ((l.take i).map (zcw ps tn))):=zaH Y fun C h1=>Below.heap_setCell _ _ _ _ (by show C≠D;have:=H C h1;omega);have f:Below w.heap.size w (X.setCell ⟨D,1,none⟩ (.int .i64 ((F:Nat):Int))):=z.setCell (by show w.heap.size≤D;omega) _;have G:=m.set 1 (.int .i64 ((F:Nat):Int));simp only [yaG,yaV,yaW] at G;clear u1 uf ul z0 z1 z2 zf zl y0 y1 y2 yl;generalize X.setCell ⟨D,1,none⟩ (.int .i64 ((F:Nat):Int))=w5 at *
        have z0:=G.cell 0;have z1:=G.cell 1;have z2:=G.cell 2;go_wp2_with (at_builtin;go_loud (refine zab _ rfl (.tmp 33) (.tmp 35) 239 239 rfl w.heap.size 304 i0 (.agg #[.int .i64 0,.int .i64 0,.string .empty]) 3 32 Tryz.underlying239 J K L M rfl yac (.slice N i O) i (zbv ((l.take i).map (zcw ps tn))) rfl (q.alloc _) _ 1 (zdi (zcw ps tn (3,s,n))) rfl (Src.ofSlice _ Tryz.underlying239 _ 1 1 _ (by rw [g.out];rfl) (by rw [g.out];exact zfV _ _ _ _ _) (zf7 _)) yad yab (size_alloc f.size) ?_;intro v9 w8 k B I))
        refine ⟨⟨i + 1,by go_num,by omega,?_,zae (f.alloc f.size _) B (q.alloc _) (size_alloc f.size) (yaj _)⟩,by simp [intOf];omega⟩;rw [Q.out];exact k
      · have d2:(kd == 2)=false:=by simpa using e2
        have d3:(kd == 3)=false:=by simpa using e3
        have g:Hid (zdi (zcw ps tn (kd,s,n))=[.int .i64 kd,.int .i64 0,.string n]):=Lib.hid (by unfold zdi zcw;simp [e2,e3]);have f:=j;have q:=U;clear e2 e3;go_wp2_with (at_builtin;go_loud (refine zab _ rfl (.tmp 33) (.tmp 35) 239 239 rfl w.heap.size 304 i0 (.agg #[.int .i64 0,.int .i64 0,.string .empty]) 3 32 Tryz.underlying239 J K L M rfl yac (.slice N i O) i (zbv ((l.take i).map (zcw ps tn))) rfl (q.alloc _) _ 1 (zdi (zcw ps tn (kd,s,n))) rfl (Src.ofSlice _ Tryz.underlying239 _ 1 1 _ (by rw [g.out];rfl) (by rw [g.out];exact zfV _ _ _ _ _) (zf7 _)) yad yab (size_alloc f.size) ?_;intro v9 w8 k B I))
        refine ⟨⟨i + 1,by go_num,by omega,?_,zae (f.alloc f.size _) B (q.alloc _) (size_alloc f.size) (yaj _)⟩,by simp [intOf];omega⟩;rw [Q.out];exact k
  · obtain rfl:i=l.length:=by omega
    have a6:¬(((l.length:Nat):Int)<(l.length:Int)):=by omega
    rw [yaz] at hO;go_wp2_with fail
    go_ret
    exact ⟨⟨N,O,rfl,hO⟩,x⟩
theorem zoC:(Tryz.prog.info? 9).map (fun i=>(i.zero,i.size,i.bytes))=some (some (.string .empty),1,16):=by kernel_rfl
theorem zrW {t:TypA} (h:l[i]? = some t):((l.take (i + 1)).map fun t=>Value.string t.name)=((l.take i).map fun t=>Value.string t.name) ++ [.string t.name]:=by
 rw [yaC,h,yaO,yaM];rfl
theorem typesOf_any {w:World} (h:SchA w R A c l) (hl:l.length≤100000) :
 Calls Tryz.prog 79 #[.agg #[.slice A l.length c]] w fun e w'=>(∃A' c',e = .returned (.slice A' l.length c')∧w'.ownsRow w.heap.size 9 1 (.slice A' l.length c') l.length (l.map fun t=>Value.string t.name))∧Below w.heap.size w w':=by
 have M:(l.length:Int)≤9223372036854775807:=by omega
 obtain ⟨N,q,s,u,x⟩:=info_parts zoC;go_enter Tryz.func79,Tryz.ntmps79
 go_wp2_with fail
 have k:=zdS w (.cells #[.slice A l.length c] 140);have P:=h.up k;generalize w.alloc (.cells #[.slice A l.length c] 140)=Q at *
 go_loopw [3,9] (fun v y G=>∃i:Nat,y = .int .i64 i∧i≤l.length∧G.ownsRow w.heap.size 9 1 v i ((l.take i).map fun t=>Value.string t.name)∧Below w.heap.size w G) (fun _ y _=>l.length-(intOf y).toNat)
 case atStart=>exact ⟨0,rfl,yao _,World.ownsRow_nil _ _ _ _,k⟩
 case round =>
  obtain ⟨i,rfl,hi,m,f⟩:=hrel;obtain ⟨H,I,rfl,_⟩:=Rd.own m;by_cases z:i<l.length
  · have B:(i:Int)<(l.length:Int):=by omega
    obtain ⟨t,J⟩:∃t,l[i]? = some t:=⟨_,yal z⟩;obtain ⟨b,o,rfl,t0,C,K⟩:=h.get J;replace t0:=zaj t0 f;replace C:=zaj C f;have D:=Lib.hid (zrW J);have E:=f.size;have n:=m.alloc (.cells #[.string t.name,.slice t.A t.rels.length t.c] 199);have g:=f.alloc E (.cells #[.string t.name,.slice t.A t.rels.length t.c] 199);have O:=Bk.new wr #[.string t.name,.slice t.A t.rels.length t.c] 199;go_upto_region 5 with (fail)
    clear t0 C m f;generalize wr.heap.size=T at *
    generalize wr.alloc (.cells #[.string t.name,.slice t.A t.rels.length t.c] 199)=U at *
    have V:=O.cell 0;go_wp2_with (at_builtin;go_loud (refine zab _ rfl (.tmp 13) (.tmp 16) 46 46 rfl w.heap.size 9 N (.string .empty) 1 16 Tryz.underlying46 q s u x rfl yac (.slice H i I) i ((l.take i).map fun t=>Value.string t.name) rfl (n.alloc _) _ 1 [.string t.name] rfl (Src.ofSlice _ Tryz.underlying46 _ 1 1 _ rfl (zbH _ _ _) (by simp [Value.oneCell'])) yad yab (size_alloc g.size) ?_;intro v9 X j F L))
    refine ⟨⟨i + 1,by go_num,by omega,?_,zae (g.alloc g.size _) F (n.alloc _) (size_alloc g.size) (yaj _)⟩,by simp [intOf];omega⟩;rw [D.out];exact j
  · obtain rfl:i=l.length:=by omega
    have B:¬(((l.length:Nat):Int)<(l.length:Int)):=by omega
    rw [yaz] at m;go_wp2_with fail
    go_ret
    exact ⟨⟨H,I,rfl,m⟩,f⟩
def zj1 (ps:List Path) (lv:List Int) (done:List (TypA × RelA)):List RelT:=done.zipIdx.map fun x=>zdL ps (zcg lv x.2) (x.1.1.says,x.1.2.says)
theorem zo0 (ps:List Path) (lv:List Int) (done:List (TypA × RelA)) (x:TypA × RelA):zj1 ps lv (done ++ [x])=zj1 ps lv done ++ [zdL ps (zcg lv done.length) (x.1.says,x.2.says)]:=by
 unfold zj1;rw [ycB,yaM];simp
structure TabO (Y:List (TypA × RelA)) (w wx:World) (x:TabR):Prop where
 subs:∃y ∈ Y,x.As=y.2.As∧x.cs=y.2.cs∧x.r.subs=y.2.subs
 ops:wx.ownsRow w.heap.size 304 3 (.slice x.Ao x.r.ops.length x.co) x.r.ops.length (zbv x.r.ops)
 few:x.r.ops.length≤100000
structure KR (Y:List (TypA × RelA)) (w wx:World) (b:Nat) (ps:List Path) (lv:List Int) (done:List (TypA × RelA)) (vr:Value):Prop where
 row:∃K:List TabR,K.map (·.r)=zj1 ps lv done∧wx.ownsRow w.heap.size 242 8 vr done.length (K.flatMap TabR.cells)∧∀x ∈ K,TabO Y w wx x
 box:Bk wx (w.heap.size + 1) #[.map (some b)] 58
 below:Below w.heap.size w wx
theorem KR.call {w wy:World} (h:KR Y w wx b ps lv done vr) (hb:Below wx.heap.size wx wy):KR Y w wy b ps lv done vr:=by
 obtain ⟨⟨K,k,m,f⟩,n,j⟩:=h;exact ⟨⟨K,k,zao m hb,fun x g=>⟨(f x g).subs,zao (f x g).ops hb,(f x g).few⟩⟩,n.below hb,zan j j.size hb⟩
theorem KR.alloc {w:World} (h:KR Y w wx b ps lv done vr) (o:Obj):KR Y w (wx.alloc o) b ps lv done vr:=h.call (zdS wx o)
theorem zoB:(Tryz.prog.info? 242).map (fun i=>(i.zero,i.size,i.bytes))=some (some (.agg #[.string .empty,.string .empty,.int .i64 0,.int .i64 0,.int .i64 0,.int .i64 0,.slice none 0 0,.slice none 0 0]),8,112):=by kernel_rfl
theorem zpi (x:TabR):∀u ∈ x.cells,u.oneCell'=true:=by
 intro u b;simp only [TabR.cells,yaw,ya1,ybA] at b;rcases b with rfl | rfl | rfl | rfl | rfl | rfl | rfl | rfl <;> rfl
theorem zoi (w:World) (a b c d e f g h:Value) (t:TypeId):∀j u,[a,b,c,d,e,f,g,h][j]? = some u→(w.alloc (.cells #[a,b,c,d,e,f,g,h] t)).cell? ((⟨w.heap.size,0,none⟩:Addr).add j)=some u:=by
 intro j u k;rw [Addr.add_lit,cell_of_row _ _ _ _ _ _ (heap_alloc_new w _),yaI];simpa using k
theorem KR.put {w wy:World} {v9:Value} {y:TypA × RelA} {x:TabR} {K:List TabR} (h1:K.map (·.r)=zj1 ps lv done) (h2:wx.ownsRow w.heap.size 242 8 vr done.length (K.flatMap TabR.cells)) (h3:∀x ∈ K,TabO Y w wx x)
 (h4:Bk wx (w.heap.size + 1) #[.map (some b)] 58) (h5:Below w.heap.size w wx) (hx:TabO Y w wx x) (hr:x.r=zdL ps (zcg lv done.length) (y.1.says,y.2.says))
 (hrow:wy.ownsRow w.heap.size 242 8 v9 (done.length + 1) (K.flatMap TabR.cells ++ x.cells)) (hg:wx.grownBy wy vr.ownBlock):KR Y w wy b ps lv (done ++ [y]) v9:=by
 refine ⟨⟨K ++ [x],?_,?_,fun z g=>?_⟩,zbB h4 h2 yac hg,zae h5 hg h2 h5.size (yaj _)⟩
 · rw [yaM,h1,zo0,←hr];rfl
 · rw [ya0,List.flatMap_singleton,yam];exact hrow
 · have f:TabO Y w wx z:=by
    rcases yaA.1 g with g | g
    · exact h3 z g
    · rw [yav.1 g];exact hx
   exact ⟨f.subs,zch f.ops h2 yac hg,f.few⟩
theorem relsOf_any {w:World} {cv:Nat} {Av:Option Addr} (h:SchA w R A c l) (hR:R≤140737488351232) (hm:MapT w b ps) (hl:(relsA l).length≤100000)
 (hv:Rd w w.heap.size 1 Av lv.length cv (lvs lv)) (hlv:lv.length=(relsA l).length) (hops:∀x ∈ relsA l,x.2.ops.length≤100000) :
 Calls Tryz.prog 80 #[.agg #[.slice A l.length c],.map (some b),.slice Av lv.length cv] w fun e w' =>
  (∃A' c',e = .returned (.slice A' (relsA l).length c')∧∃K:List TabR,K.length=(relsA l).length∧K.map (·.r)=zj1 ps lv (relsA l)∧w'.ownsRow w.heap.size 242 8 (.slice A' (relsA l).length c') (relsA l).length (K.flatMap TabR.cells)∧∀x ∈ K,TabO (relsA l) w w' x)∧Below w.heap.size w w':=by
 have br:(l.length:Int)≤9223372036854775807:=by have:=h.rows.cap;have:=h.rows.capm;simp only [maxLen] at this;omega
 have bs:=zkA;obtain ⟨i0,b2,b3,b4,b5⟩:=info_parts zoB;go_enter Tryz.func80,Tryz.ntmps80
 go_wp2_with fail
 have ak:Below w.heap.size w ((w.alloc (.cells #[.slice A l.length c] 140)).alloc (.cells #[.map (some b)] 58)):=((Below.refl _ w).alloc (yaj _) _).alloc yaf _;have al:=Bk.new2 w (.cells #[.slice A l.length c] 140) #[.map (some b)] 58;generalize (w.alloc (.cells #[.slice A l.length c] 140)).alloc (.cells #[.map (some b)] 58)=w0 at *
 have b6:KR (relsA l) w w0 b ps lv (relsA (l.take 0)) (.slice none 0 0):=⟨⟨[],rfl,World.ownsRow_nil _ _ _ _,fun x hx=>by cases hx⟩,al,ak⟩;clear ak al;go_loopw [7,16] (fun v vi wx=>∃i:Nat,vi = .int .i64 i∧i≤l.length∧KR (relsA l) w wx b ps lv (relsA (l.take i)) v) (fun _ vi _=>l.length-(intOf vi).toNat)
 case atStart=>exact ⟨0,rfl,yao _,b6⟩
 case round =>
  obtain ⟨i,rfl,hi,hK⟩:=hrel;by_cases b7:i<l.length
  · have b8:(i:Int)<(l.length:Int):=by omega
    obtain ⟨t,ht⟩:∃t,l[i]? = some t:=⟨_,yal b7⟩;obtain ⟨bb,o,rfl,t0,t1,N⟩:=h.get ht;replace t0:=zaj t0 hK.below;replace t1:=zaj t1 hK.below;have am:=N.rels;have bu:(t.rels.length:Int)≤9223372036854775807:=by have:=am.cap;have:=am.capm;simp only [maxLen] at this;omega
    have ai:=zeF ht;have b9:=zgT (l:=l) (i + 1);have O:relsA l=relsA (l.take (i + 1)) ++ relsA (l.drop (i + 1)):=by
     conv=>lhs;rw [←ybk (i + 1) l]
     unfold relsA;rw [ya0]
    replace O:=Lib.hid O;rw [ai,yam,yax] at b9;have an:=hK.alloc (.cells #[.string t.name,.slice t.A t.rels.length t.c] 199);have x1:=Bk.new wr #[.string t.name,.slice t.A t.rels.length t.c] 199;have bw:=hK.below.size;have bx:=hK.box.lt;go_upto_region 5 with (fail)
    clear t0 t1;generalize hq5:wr.heap.size=q5 at *
    generalize wr.alloc (.cells #[.string t.name,.slice t.A t.rels.length t.c] 199)=w1 at *
    have y0:=x1.cell 0;have y1:=x1.cell 1;obtain ⟨bz,_,ac,_⟩:=an.row;obtain ⟨c0,c1,rfl,_⟩:=Rd.own ac;clear ac;go_wp2_with fail
    go_loopw [7,24] (fun v vi wx=>∃j:Nat,vi = .int .i64 j∧j≤t.rels.length∧KR (relsA l) w wx b ps lv (relsA (l.take i) ++ (t.rels.take j).map fun r=>(t,r)) v∧Bk wx q5 #[.string t.name,.slice t.A t.rels.length t.c] 199) (fun _ vi _=>t.rels.length-(intOf vi).toNat)
    case atStart=>exact ⟨0,rfl,yao _,by simpa using an,x1⟩
    case round =>
     obtain ⟨j,rfl,hj,n,ao⟩:=hrel;by_cases ba:j<t.rels.length
     · have bc:(j:Int)<(t.rels.length:Int):=by omega
       obtain ⟨x,hx⟩:∃x,t.rels[j]? = some x:=⟨_,yal ba⟩;obtain ⟨g,k,e5,g0,g1,g2,g3,g4,g5,C⟩:=N.get hx;replace g0:=zaj g0 n.below;replace g1:=zaj g1 n.below;replace g2:=zaj g2 n.below;replace g3:=zaj g3 n.below;replace g4:=zaj g4 n.below;replace g5:=zaj g5 n.below;have c2:=N.name;obtain ⟨dn,H⟩:∃dn,relsA (l.take i) ++ (t.rels.take j).map (fun r=>(t,r))=dn:=⟨_,rfl⟩;have c4:dn.length≤99999:=by rw [←H,yam,yax,yaN];omega
       have aq:dn.length<lv.length:=by rw [←H,yam,yax,yaN];omega
       have bd:Hid (relsA (l.take i) ++ (t.rels.take (j + 1)).map (fun r=>(t,r))=dn ++ [(t,x)]):=Lib.hid (by rw [yaC,hx,yaO,yaM,←yaD,H];rfl);have F:(t,x) ∈ relsA l:=by
        rw [O.out,ai];exact ycp _ (yb7 _ (yaH.2 ⟨x,yaq hx,rfl⟩))
       have ar:x.ops.length≤100000:=hops (t,x) F;replace F:=Lib.hid F;rw [H] at n;have H:=Lib.hid H;have u:=n.alloc (.cells #[.string x.name,.string x.view,.string x.edit,.string x.check,.slice x.As x.subs.length x.cs,.slice x.Ao x.ops.length x.co] 203);have q:=ao.alloc (.cells #[.string x.name,.string x.view,.string x.edit,.string x.check,.slice x.As x.subs.length x.cs,.slice x.Ao x.ops.length x.co] 203);have x7:=Bk.new wr #[.string x.name,.string x.view,.string x.edit,.string x.check,.slice x.As x.subs.length x.cs,.slice x.Ao x.ops.length x.co] 203;rw [e5] at *
       obtain ⟨c5,_,ad,_⟩:=n.row;obtain ⟨A3,c3,rfl,_⟩:=Rd.own ad;clear ad;go_upto_region 9 with (fail)
       clear g0 g1 g2 g3 g4 g5 n ao;generalize hq7e:wr.heap.size=B at *
       generalize wr.alloc (.cells #[.string x.name,.string x.view,.string x.edit,.string x.check,.slice x.As x.subs.length x.cs,.slice x.Ao x.ops.length x.co] 203)=w2 at *
       obtain ⟨bv,ov,rfl,bf,au⟩:=hv.at_ yab;have I:=au _ _ (zqP aq);replace I:=zaj I u.below;have a2:x.view.size≤maxLen:=by have:=C.view;simp only [maxLen];omega
       have a6:x.edit.size≤maxLen:=by have:=C.edit;simp only [maxLen];omega
       have P:x.check.size≤maxLen:=by have:=C.check;simp only [maxLen];omega
       have ae:t.name.size≤maxLen:=by simp only [maxLen];omega
       have bg:Hid (∀o ∈ x.ops,o.2.1.size≤maxLen):=Lib.hid fun o ho=>by have:=(C.opz o ho).2.1;simp only [maxLen];omega
       have bp:=u.below.size;have bh:(dn.length:Int)<((relsA l).length:Int):=by omega
       have bi:dn.length<(relsA l).length:=by omega
       refine wp_region_any yaa ?_;change wpAny _ _ _ _ _ _ _ (World.drew _);generalize hdw:World.drew w2=wz at *
       have Q:Below w2.heap.size w2 wz:=by subst hdw;exact ⟨rfl,rfl,rfl,yaj _,fun _ _=>rfl⟩
       replace u:=u.call Q;replace q:=q.below Q;replace x7:=x7.below Q;replace I:=zaj I Q;clear hdw Q;have a7:∀W,Below wz.heap.size wz W→Below w.heap.size w W:=fun W hb=>zan u.below u.below.size hb;have ko:∀(W:World) (s:ByteArray),Below wz.heap.size wz W→s.size≤maxLen→Calls Tryz.prog 130 #[.string s,.pointer (some ⟨w.heap.size + 1,0,none⟩),.pointer (some ⟨q5,0,none⟩)] W fun e w'=>e = .returned (.int .i64 (ixP ps (t.name,s):Nat))∧Below W.heap.size W w':=fun W s hb hs=>own1_any (hm.below (a7 W hb)) (u.box.below hb) (q.below hb) s ae hs;have af:=fun (W:World) (hb:Below wz.heap.size wz W)=>opsOf_any (hm.below (a7 W hb)) (u.box.below hb) (q.below hb) (C.ops.up (a7 W hb)) ae bg.out ar;have E:∀W,Below wz.heap.size wz W→(W.cell? ⟨q5,0,none⟩=some (.string t.name)∧W.cell? ⟨B,0,none⟩=some (.string x.name)∧W.cell? ⟨B,1,none⟩=some (.string x.view)∧W.cell? ⟨B,2,none⟩=some (.string x.edit)∧W.cell? ⟨B,3,none⟩=some (.string x.check)∧W.cell? ⟨B,4,none⟩=some (.slice x.As x.subs.length x.cs)∧W.cell? ⟨B,5,none⟩=some (.slice x.Ao x.ops.length x.co)∧W.cell? ⟨bv,ov + dn.length,none⟩=some (.int .i64 (zcg lv dn.length))):=fun W hb=>⟨(q.below hb).cell 0,(x7.below hb).cell 0,(x7.below hb).cell 1,(x7.below hb).cell 2,(x7.below hb).cell 3,(x7.below hb).cell 4,(x7.below hb).cell 5,zaj I hb⟩;have T:=Below.refl wz.heap.size wz;have f:=E _ T;have bj:=a2;refine wpAny_of_held (S:=fun W=>W.cell? ⟨q5,0,none⟩=some (.string t.name)∧W.cell? ⟨B,0,none⟩=some (.string x.name)∧W.cell? ⟨B,1,none⟩=some (.string x.view)∧W.cell? ⟨B,2,none⟩=some (.string x.edit)∧W.cell? ⟨B,3,none⟩=some (.string x.check)∧W.cell? ⟨B,4,none⟩=some (.slice x.As x.subs.length x.cs)∧W.cell? ⟨B,5,none⟩=some (.slice x.Ao x.ops.length x.co)∧W.cell? ⟨bv,ov + dn.length,none⟩=some (.int .i64 (zcg lv dn.length))) _ _ _ _ ?_
       refine zaa 0 (some 28) f ?_ (hy:=zy8);refine zaa 1 (some 29) f ?_ (hy:=zy8);refine zaa 2 (some 30) f ?_ (hy:=zy8);refine zaa 3 (some 31) f ?_ (hy:=zy8);refine zaa 4 (some 32) f ?_ (hy:=zy8);refine zaa 5 (some 33) f ?_ (hy:=zy8);refine zaa 6 (some 34) f ?_ (hy:=zy8);refine zaa 7 (some 35) f ?_ (hy:=zy8);refine zaa 8 (some 36) f ?_ (hy:=zy8);refine zaa 10 (some 38) f ?_ (hy:=zy8);refine zaa 11 (some 39) f ?_ (hy:=zy8);refine zaa 12 (some 40) f ?_ (hy:=zy8);refine zaa 14 (some 42) f ?_ (hy:=zy8);refine zaa 15 (some 43) f ?_ (hy:=zy8);refine zaa 16 (some 44) f ?_ (hy:=zy8);refine zaa 19 (some 47) f ?_ (hy:=zy8);refine zaa 20 (some 48) f ?_ (hy:=zy8);refine zaa 21 (some 49) f ?_ (hy:=zy8);refine zaa 22 (some 50) f ?_ (hy:=zy8);refine zaa 23 (some 51) f ?_ (hy:=zy8);refine zaa 24 (some 52) f ?_ (hy:=zy8);refine zaa 25 (some 53) f ?_ (hy:=zy8);refine zaa 26 (some 54) f ?_ (hy:=zy8);refine zaa 27 (some 55) f ?_ (hy:=zy8);refine zaa 28 (some 56) f ?_ (hy:=zy8);refine zaS 9 rfl yaa ?_;intro U m;go_simp;refine (ko _ x.view T bj).mono ?_;rintro e W1 ⟨rfl,av⟩;have V:=zan T (show wz.heap.size≤_ from T.size) av;replace f:=E _ V;have bl:x.edit.size≤maxLen:=a6;refine m _ _ f ?_;clear m U;refine zaS 13 rfl yaa ?_;intro U m;go_simp;refine (ko _ x.edit V bl).mono ?_
       rintro e W2 ⟨rfl,aw⟩;have X:=zan V (show wz.heap.size≤_ from V.size) aw;replace f:=E _ X;have bm:x.check.size≤maxLen:=P;refine m _ _ f ?_;clear m U;refine zaS 17 rfl yaa ?_;intro U m;go_simp;refine (ko _ x.check X bm).mono ?_;rintro e W3 ⟨rfl,ax⟩;have J:=zan X (show wz.heap.size≤_ from X.size) ax;replace f:=E _ J;skip
       refine m _ _ f ?_;clear m U;refine zaa 18 (some 46) f ?_;refine zaS 29 rfl yaa ?_;intro U m;go_simp;refine (af _ J).mono ?_;rintro e W4 ⟨⟨Aq,cq,rfl,Y⟩,ay⟩;have D:=zan J (show wz.heap.size≤_ from J.size) ay;replace f:=E _ D;refine m _ _ f ?_;clear m U;refine zaa 30 (some 58) f ?_;refine zaS 31 rfl yaa ?_;intro U m;go_simp;have a8:(⟨zdL ps (zcg lv dn.length) (t.says,x.says),x.As,x.cs,Aq,cq⟩:TabR).cells=[.string t.name,.string x.name,.int .i64 (ixP ps (t.name,x.view):Nat),.int .i64 (ixP ps (t.name,x.edit):Nat),.int .i64 (ixP ps (t.name,x.check):Nat),.int .i64 (zcg lv dn.length),.slice x.As x.subs.length x.cs,.slice Aq x.ops.length cq]:=by simp [TabR.cells,zdL,TypA.says,RelA.says]
       have az:=E _ (D.alloc D.size (.cells #[.string t.name,.string x.name,.int .i64 (ixP ps (t.name,x.view):Nat),.int .i64 (ixP ps (t.name,x.edit):Nat),.int .i64 (ixP ps (t.name,x.check):Nat),.int .i64 (zcg lv dn.length),.slice x.As x.subs.length x.cs,.slice Aq x.ops.length cq] 242));refine m _ _ az ?_;clear m U;have aa:TabO (relsA l) w W4 (⟨zdL ps (zcg lv dn.length) (t.says,x.says),x.As,x.cs,Aq,cq⟩:TabR):=⟨⟨(t,x),F.out,rfl,rfl,rfl⟩,by
        show W4.ownsRow w.heap.size 304 3 (.slice Aq (x.ops.map (zcw ps t.name)).length cq) (x.ops.map (zcw ps t.name)).length (zbv (x.ops.map (zcw ps t.name)));rw [yax];exact zaA Y (a7 _ J).size,by show (x.ops.map (zcw ps t.name)).length≤100000;rw [yax];exact ar⟩
       have L:=u.call D;obtain ⟨K9,b0,M,ab⟩:=L.row;have ag:=q.below D;have ah:=x7.below D;have G:=L.below.size;have bq:=zaj I D;replace a8:=Lib.hid a8;refine zaS 32 rfl yaa ?_;intro U m;rw [yan (by rfl)];refine zcx _ (some 60) rfl (.tmp 28) (.tmp 59) 59 59 rfl w.heap.size 242 i0 _ 8 112 Tryz.underlying59 b2 b3 b4 b5 rfl yac (.slice A3 dn.length c3) dn.length (K9.flatMap TabR.cells) rfl (World.ownsRow.alloc M _) _ 1 (⟨zdL ps (zcg lv dn.length) (t.says,x.says),x.As,x.cs,Aq,cq⟩:TabR).cells rfl (Src.ofSlice _ Tryz.underlying59 _ 1 1 _ (by rw [a8.out];rfl) (by rw [a8.out];exact zoi _ _ _ _ _ _ _ _ _ _) (zpi _)) yad yab (size_alloc G) ?_;intro v9 W8 Z a1;have o1:=zbB (ag.alloc _) (World.ownsRow.alloc M _) yac a1;have o2:=zbB (ah.alloc _) (World.ownsRow.alloc M _) yac a1;have b1:=zae (L.below.alloc G _) a1 (World.ownsRow.alloc M _) (size_alloc G) (yaj _);have aj:W8.cell? ⟨q5,0,none⟩=some (.string t.name)∧W8.cell? ⟨B,0,none⟩=some (.string x.name)∧W8.cell? ⟨B,1,none⟩=some (.string x.view)∧W8.cell? ⟨B,2,none⟩=some (.string x.edit)∧W8.cell? ⟨B,3,none⟩=some (.string x.check)∧W8.cell? ⟨B,4,none⟩=some (.slice x.As x.subs.length x.cs)∧W8.cell? ⟨B,5,none⟩=some (.slice x.Ao x.ops.length x.co)∧W8.cell? ⟨bv,ov + dn.length,none⟩=some (.int .i64 (zcg lv dn.length)):=⟨o1.cell 0,o2.cell 0,o2.cell 1,o2.cell 2,o2.cell 3,o2.cell 4,o2.cell 5,(b1.cell bf).trans (au _ _ (zqP aq))⟩
       have bn:=KR.put (y:=(t,x)) b0 (World.ownsRow.alloc M _) (fun z hz=>⟨(ab z hz).subs,(ab z hz).ops.alloc _,(ab z hz).few⟩) (L.box.alloc _) (L.below.alloc G _) ⟨aa.subs,aa.ops.alloc _,aa.few⟩ rfl Z a1;refine m _ _ aj ?_;clear m U;simp only [Act.put,yaG,yaV,yaW];refine zaa 33 (some 7) aj ?_;refine wpAnyH_done yaa ?_ _;clear b0 M ab L aa ag ah f az aj T V X J D av aw ax ay Y Z E ko af a1;go_wp2_with fail
       refine ⟨⟨v9,.pointer (some ⟨B,0,none⟩),.int .i64 ((j:Int) + 1),⟨j + 1,by go_num,by omega,?_⟩,rfl,rfl,rfl⟩,by simp [intOf];omega⟩;rw [←List.map_take,bd.out];exact bn
     · obtain rfl:j=t.rels.length:=by omega
       have bc:¬(((t.rels.length:Nat):Int)<(t.rels.length:Int)):=by omega
       rw [yaz,←ai] at n;go_wp2_with fail
       exact ⟨⟨i + 1,by go_num,by omega,n⟩,by simp [intOf];omega⟩
  · obtain rfl:i=l.length:=by omega
    have b8:¬(((l.length:Nat):Int)<(l.length:Int)):=by omega
    rw [yaz] at hK;obtain ⟨K,h1,h2,h3⟩:=hK.row;have bo:K.length=(relsA l).length:=by have:=congrArg List.length h1;rw [yax] at this;unfold zj1 at this;rw [yax,List.length_zipIdx] at this;exact this
    obtain ⟨A3,c3,rfl,c6⟩:=Rd.own h2;go_wp2_with fail
    go_ret
    exact ⟨⟨A3,c3,rfl,K,bo,h1,h2,h3⟩,hK.below⟩
end Go.Proofs.YtmblgnddgmfkhaaGreat
