import Derived.Test.YtahegpfdbgbioaaGreatB27
import Derived.Test.YtahegpfdbgbioaaGreatB29
import Derived.Test.YtahegpfdbgbioaaGreatB30
set_option maxRecDepth 100000
set_option maxHeartbeats 4000000
namespace Go.Proofs.YtahegpfdbgbioaaGreat
open Go.RowKit
inductive RIs (s:ByteArray):Nat→List TypI→List Int→Prop
 | parse (e:Nat) (h:(zah s).2.1=e) (h0:e≠0):RIs s e [] []
 | check (e:Nat) (h1:(zah s).2.1=0) (h:(zbh ((zah s).1.map zbf)).1=e) (h0:e≠0):RIs s e [] []
 | cyc (h1:(zah s).2.1=0) (hR:Right ((zah s).1.map zbf)) (hc:Cyc (zaV ((zah s).1.map zbf))):RIs s 33 [] []
 | long (h1:(zah s).2.1=0) (hR:Right ((zah s).1.map zbf)) (hc:¬Cyc (zaV ((zah s).1.map zbf))) (hz:2048<(zb8 (zah s).1).size):RIs s 13 [] []
 | ok (h1:(zah s).2.1=0) (hR:Right ((zah s).1.map zbf)) (hc:¬Cyc (zaV ((zah s).1.map zbf))) (v:List Int) (hv:v.length=(zaA ((zah s).1.map zbf)).length) (hL:∀o,Least v.length (zaV ((zah s).1.map zbf)) o→∀i,i<v.length→zaK v i=o i) (hz:(zb8 (zah s).1).size≤2048) :
  RIs s 0 ((zah s).1.map zbf) v
def zlP (s:ByteArray) (w:World) (e:Ending) (w':World):Prop :=
 (∃(err:Nat) (A:Option Addr) (c:Nat) (l:List TypA) (AL:Option Addr) (cL:Nat) (v:List Int),e = .returned (.tuple #[.agg #[.slice A l.length c,.slice AL v.length cL],.int .i64 err])∧SchA w' 140737488351232 A c l∧Rd w' w'.heap.size 1 AL v.length cL (lvs v)∧RIs s err (l.map TypA.says) v ∧
  (∃B,NDVTyps B w' (.slice A l.length c) (if err=0 then (zah s).1 else [])))∧Below w.heap.size w w'
theorem SchA.none_ (w:World) (R:Nat):SchA w R none 0 []:=⟨Rd.none_ _ _ _,Nat.zero_le _,fun a ha=>by cases ha⟩
theorem znq {w w0:World} {B b:Nat} {t:TypeId} {x0 x1:Value} (h:Bk w0 b #[x0,x1] t) (hb:Below B w w0) (hB:B≤b) (v0 v1:Value) :
 Bk ((w0.setCell ⟨b,0,none⟩ v0).setCell ⟨b,1,none⟩ v1) b #[v0,v1] t∧Below B w ((w0.setCell ⟨b,0,none⟩ v0).setCell ⟨b,1,none⟩ v1) :=
 ⟨by
  have hw:=(h.set 0 v0).set 1 v1;simp only [List.setIfInBounds_toArray,List.set_cons_zero,List.set_cons_succ] at hw;exact hw,(hb.setCell hB _).setCell hB _⟩
theorem zfM (w:World):Rd w w.heap.size 1 none 0 0 (lvs []):=Rd.none_ _ _ _
theorem rcomp_any (s:ByteArray) (hs:s.size≤1000000) (w:World):Calls Tryz.prog 12 #[.string s] w (zlP s w):=by
 obtain ⟨T,ea,pa,ha⟩:∃T e p,zah s=(T,e,p):=⟨_,_,_,rfl⟩;have kp:=fun W=>rparse_any s W (by simp only [maxLen];omega);have hT:(zah s).1=T:=by rw [ha]
 have hE1:(zah s).2.1=ea:=by rw [ha]
 have hsm:=zfg s;have hsf:=zh2 s;have hss:=zkC s;rw [ha] at kp;rw [hT] at hsm hsf hss;replace hT:=Lib.hid hT;replace hE1:=Lib.hid hE1;clear ha;have hbr:=zkX w (.cells #[.slice none 0 0,.slice none 0 0] 34);have hres:=Bk.new w #[.slice none 0 0,.slice none 0 0] 34;go_enter Tryz.func12,Tryz.ntmps12
 go_upto_region 1 with (fail)
 generalize w.alloc (.cells #[.slice none 0 0,.slice none 0 0] 34)=w0 at *
 have hlt0:w.heap.size<w0.heap.size:=hres.lt;unfold zkU at kp;go_upto_region 2 with (go_at_call 55;refine (kp _).mono ?_;rintro e w2 ⟨vt,rfl,hv,hb1⟩)
 obtain ⟨A,c,rfl⟩:∃A c,vt = .slice A T.length c:=by
  obtain ⟨xs,h1,_⟩:=hv;obtain ⟨A,c,e,_⟩:=Rd.own h1;exact ⟨A,c,e⟩
 obtain ⟨l,hl,hsc⟩:=hv.sch (R:=140737488351232) hsf hsm;have hn:l.length=T.length:=by have:=congrArg List.length hl;rwa [List.length_map,List.length_map] at this
 have hb:=zaz hbr hbr.size hb1;replace hres:=hres.below hb1;clear hbr hb1 kp;rw [←hn];replace hn:=Lib.hid hn;replace hl:=Lib.hid hl;have hE1':=hE1.out;by_cases he:ea=0
 · subst he;have kc:=check9_any hsc (Nat.le_refl _);obtain ⟨E,hE⟩:∃E,zbh (l.map TypA.says)=E:=⟨_,rfl⟩;rw [hE] at kc;replace hE:=Lib.hid hE;go_upto_region 5 with (go_at_call 56;refine kc.mono ?_;rintro e w4 ⟨rfl,hb1⟩)
   replace hsc:=hsc.up hb1;replace hv:=hv.below hb1;replace hres:=hres.below hb1;replace hb:=zaz hb hb.size hb1;clear hb1 kc;obtain ⟨E1,E2⟩:=E;simp only;by_cases hf:E1=0
   · subst hf;have hR:Right (l.map TypA.says):=(zdy _).1.1 (by rw [hE.out]);have hlT:l.map TypA.says=(zah s).1.map zbf:=by rw [hT.out];exact hl.out
     have hn96:=zeM hR;have htr:∀t ∈ l,∀r ∈ t.rels,∃e:Ex,r.ops=e.ops.map opZ∧e.good∧r.ops.length≤2049∧r.subs.length≤2049:=fun t ht r hr =>
      zgx (s:=s) (t:=t.says) (hlT ▸ List.mem_map.2 ⟨t,ht,rfl⟩) (r:=r.says) (List.mem_map.2 ⟨r,hr,rfl⟩)
     have kl:=len11_any (AL:=none) (nL:=0) (cL:=0) hsc hn96;go_upto_region 8 with (go_at_call 14;refine kl.mono ?_;rintro e w5 ⟨rfl,hb1⟩)
     replace hsc:=hsc.up hb1;replace hv:=hv.below hb1;replace hres:=hres.below hb1;replace hb:=zaz hb hb.size hb1;clear hb1 kl;have ke:=edgesR_any hsc hR htr;go_upto_region 9 with (go_at_call 57;refine ke.mono ?_;rintro e w6 ⟨⟨v6,rfl,A2,c2,Z,rfl,hrd,hz,hp⟩,hb1⟩)
     replace hsc:=hsc.up hb1;replace hv:=hv.below hb1;replace hres:=hres.below hb1;replace hb:=zaz hb hb.size hb1;clear hb1 ke;have hmem:Hid (∀e,e ∈ Z↔e ∈ zaV (l.map TypA.says)):=Lib.hid fun e=>⟨fun h=>((hz.mem e).1 h).1,fun h=>(hz.mem e).2 ⟨h,(zfE h).2.2.1⟩⟩;have hi:InR (relsA l).length Z:=fun e he=>by have:=zfE ((hmem.out e).1 he);exact ⟨this.1,this.2.1,this.2.2.1,this.2.2.2.1⟩
     have hZl:Z.length≤18432:=hz.len hp;obtain ⟨r,hr⟩:∃r:Bool,r=true↔Cyc Z:=by
      by_cases h:Cyc Z
      · exact ⟨true,by simp [h]⟩
      · exact ⟨false,by simp [h]⟩
     have ky:=cycle_any hrd hi (by omega) (by omega) hr;have hT':(zah s).1.map zbf=l.map TypA.says:=hlT.symm;have hTe:(zah s).2.1=0:=hE1.out;have hR2:Hid (Right ((zah s).1.map zbf)):=Lib.hid (by rw [hT'];exact hR);have hrc:Hid (r=true↔Cyc (zaV ((zah s).1.map zbf))):=Lib.hid (by rw [hT',hr];exact ⟨fun h=>h.sub fun e he=>(hmem.out e).1 he,fun h=>h.sub fun e he=>(hmem.out e).2 he⟩);have hnr:Hid ((relsA l).length=(zaA ((zah s).1.map zbf)).length):=Lib.hid (by rw [hT',←zaN,List.length_map]);replace hi:=Lib.hid hi;replace hmem:Hid (∀e,e ∈ Z↔e ∈ zaV ((zah s).1.map zbf)):=Lib.hid (by rw [hT'];exact hmem.out);replace hlT:=Lib.hid hlT;generalize hnN:(relsA l).length=n at *
     clear hT' hR hz hp htr hr;go_upto_region 10 with (go_at_call 58;refine ky.mono ?_;rintro e w7 ⟨rfl,hb1⟩)
     replace hsc:=hsc.up hb1;replace hv:=hv.below hb1;replace hres:=hres.below hb1;replace hb:=zaz hb hb.size hb1;replace hrd:=hrd.up hb1;clear hb1 ky;cases r with
     | true =>
      have hc2:Hid (Cyc (zaV ((zah s).1.map zbf))):=Lib.hid (hrc.out.1 rfl);obtain ⟨r0,r1⟩:=hres.c2;have rf:=hres.fz;have rl:=hres.lt;go_wp2_with fail
      obtain ⟨hw,hbz⟩:=znq hres hb (Nat.le_refl _) (.slice none 0 0) (.slice none 0 0);obtain ⟨y0,y1⟩:=hw.c2;refine bodyPost_ret (v:=.tuple #[.agg #[.slice none 0 0,.slice none 0 0],.int .i64 33]) (by simp [results,Tryz.results12,go_sem,y0,y1];try rfl) rfl ?_;exact ⟨⟨33,none,0,[],none,0,[],rfl,SchA.none_ _ _,zfM _,.cyc hTe hR2.out hc2.out,⟨0,zbr _ _⟩⟩,hbz⟩
     | false =>
      have hnc:Hid (¬Cyc (zaV ((zah s).1.map zbf))):=Lib.hid fun h=>Bool.false_ne_true (hrc.out.2 h);have htrR:∀t ∈ T,∀x ∈ t.rels,TreeR x:=by have:=(says_shw s).tree;rw [hT.out] at this;exact this
      obtain ⟨tx,htx⟩:∃tx,zb8 T=tx:=⟨_,rfl⟩;have hz9:=hss.2.2;have ks:=rshow_any hv hss.1 hss.2.1 htrR hss.2.2;rw [htx] at ks hz9;rw [←hn.out] at ks;replace htx:=Lib.hid htx;clear htrR hss hsm hsf;by_cases hz:2048<tx.size
      · have hz':(tx.size:Int) > 2048:=by omega
        have hzs:Hid (2048<(zb8 (zah s).1).size):=Lib.hid (by rw [hT.out,htx.out];exact hz);go_upto_region 13 with (go_at_call 59;refine ks.mono ?_;rintro e w8 ⟨rfl,hb1⟩)
        replace hsc:=hsc.up hb1;replace hv:=hv.below hb1;replace hres:=hres.below hb1;replace hb:=zaz hb hb.size hb1;obtain ⟨r0,r1⟩:=hres.c2;have rf:=hres.fz;have rl:=hres.lt;go_wp2_with fail
        obtain ⟨hw,hbz⟩:=znq hres hb (Nat.le_refl _) (.slice none 0 0) (.slice none 0 0);obtain ⟨y0,y1⟩:=hw.c2;refine bodyPost_ret (v:=.tuple #[.agg #[.slice none 0 0,.slice none 0 0],.int .i64 13]) (by simp [results,Tryz.results12,go_sem,y0,y1];try rfl) rfl ?_;exact ⟨⟨13,none,0,[],none,0,[],rfl,SchA.none_ _ _,zfM _,.long hTe hR2.out hnc.out hzs.out,⟨0,zbr _ _⟩⟩,hbz⟩
      · have hz':¬(tx.size:Int) > 2048:=by omega
        have hzs:Hid ((zb8 (zah s).1).size≤2048):=Lib.hid (by rw [hT.out,htx.out];omega);go_upto_region 14 with (go_at_call 59;refine ks.mono ?_;rintro e w8 ⟨rfl,hb1⟩)
        replace hsc:=hsc.up hb1;replace hv:=hv.below hb1;replace hres:=hres.below hb1;replace hb:=zaz hb hb.size hb1;replace hrd:=hrd.up hb1;clear hb1 ks;have kj:=jac_any hrd hi.out (by omega) (by omega);go_wp2_with (go_at_call 60;refine kj.mono ?_;rintro e w9 ⟨⟨g,rfl,v,hvl,hg,hJ⟩,hb1⟩;have hres9:=hres.below hb1;have hb9:=zaz hb hb.size hb1;obtain ⟨r0,r1⟩:=hres9.c2;have rf:=hres9.fz;have rl:=hres9.lt)
        obtain ⟨hw,hbz⟩:=znq hres9 hb9 (Nat.le_refl _) (.slice A l.length c) (.slice (some ⟨g,0,none⟩) n n);obtain ⟨y0,y1⟩:=hw.c2;have hgne:g≠w.heap.size:=by
         intro e;rw [e] at hg;have h:=Option.some.inj (Eq.trans (Eq.symm hg) hres9);injection h with _ h2 _
         exact absurd h2 (by decide)
        have hgz:=(hg.other (a:=⟨w.heap.size,0,none⟩) hgne (.slice A l.length c)).other (a:=⟨w.heap.size,1,none⟩) hgne (.slice (some ⟨g,0,none⟩) n n);have hrz:=zhQ hgz hvl (by omega);have hvz:NDVTyps w0.heap.size ((w9.setCell ⟨w.heap.size,0,none⟩ (.slice A l.length c)).setCell ⟨w.heap.size,1,none⟩ (.slice (some ⟨g,0,none⟩) n n)) (.slice A T.length c) T:=by
         obtain ⟨xs,h1,h2⟩:=hv.below hb1;exact ⟨xs,zai (zai h1 (a:=⟨w.heap.size,0,none⟩) hlt0 _) (a:=⟨w.heap.size,1,none⟩) hlt0 _,(h2.keep (zdv (a:=⟨w.heap.size,0,none⟩) hlt0 _)).keep (zdv (a:=⟨w.heap.size,1,none⟩) hlt0 _)⟩
        have hsf2:=zh2 s;have hsm2:=zfg s;rw [hT.out] at hsf2 hsm2;obtain ⟨l2,hl2,hsc2⟩:=hvz.sch (R:=140737488351232) hsf2 hsm2;have hn2:l2.length=T.length:=by have:=congrArg List.length hl2;rwa [List.length_map,List.length_map] at this
        refine bodyPost_ret (v:=.tuple #[.agg #[.slice A l.length c,.slice (some ⟨g,0,none⟩) n n],.int .i64 0]) (by simp [results,Tryz.results12,go_sem,y0,y1];try rfl) rfl ?_;subst hvl;refine ⟨⟨0,A,c,l2,some ⟨g,0,none⟩,v.length,v,?_,hsc2,hrz,?_,⟨w0.heap.size,?_⟩⟩,hbz⟩
        · rw [hn2,←hn.out];rfl
        · rw [hl2,←hT.out];exact .ok hTe hR2.out hnc.out v hnr.out (fun o ho i hi'=>hJ.least hi.out (ho.congr fun e=>(hmem.out e).symm) (fun _ _=>rfl) (Nat.le_succ _) i hi') hzs.out
        · rw [if_pos rfl,hn2,hT.out];exact hvz
   · have hEc:=hE.out;have hck:Hid ((zbh ((zah s).1.map zbf)).1=E1):=Lib.hid (by rw [hT.out,←hl.out,hEc]);clear hEc;obtain ⟨r0,r1⟩:=hres.c2;have rf:=hres.fz;have rl:=hres.lt;go_wp2_with fail
     obtain ⟨hw,hbz⟩:=znq hres hb (Nat.le_refl _) (.slice none 0 0) (.slice none 0 0);obtain ⟨y0,y1⟩:=hw.c2;refine bodyPost_ret (v:=.tuple #[.agg #[.slice none 0 0,.slice none 0 0],.int .i64 E1]) (by simp [results,Tryz.results12,go_sem,y0,y1];try rfl) rfl ?_;exact ⟨⟨E1,none,0,[],none,0,[],rfl,SchA.none_ _ _,zfM _,.check E1 hE1.out hck.out hf,⟨0,by rw [if_neg hf];exact zbr _ _⟩⟩,hbz⟩
 · clear hE1';obtain ⟨r0,r1⟩:=hres.c2;have rf:=hres.fz;have rl:=hres.lt;go_wp2_with fail
   obtain ⟨hw,hbz⟩:=znq hres hb (Nat.le_refl _) (.slice none 0 0) (.slice none 0 0);obtain ⟨y0,y1⟩:=hw.c2;refine bodyPost_ret (v:=.tuple #[.agg #[.slice none 0 0,.slice none 0 0],.int .i64 ea]) (by simp [results,Tryz.results12,go_sem,y0,y1];try rfl) rfl ?_;exact ⟨⟨ea,none,0,[],none,0,[],rfl,SchA.none_ _ _,zfM _,.parse ea hE1.out he,⟨0,by rw [if_neg he];exact zbr _ _⟩⟩,hbz⟩
theorem zl6 {s:ByteArray} {e f:Nat} {tx:ByteArray} {ty:List ByteArray} {ps:List Path} {R:List RelT} {T:List TypI} {u:List Int} (h:CompIs s e tx ty ps R) (k:RIs s f T u) :
 e=f∧((e≠0∧tx=⟨#[]⟩∧ty=[]∧ps=[]∧R=[]∧T=[]∧u=[])∨(e=0∧T=(zah s).1.map zbf∧TabOk s tx ty ps R u)):=by
 have hck:Right ((zah s).1.map zbf)→(zbh ((zah s).1.map zbf)).1=0:=fun h=>(zdy _).1.2 h;cases h with
 | parse e h h0 =>
  cases k with
  | parse f k k0=>exact ⟨h.symm.trans k,.inl ⟨h0,rfl,rfl,rfl,rfl,rfl,rfl⟩⟩
  | check f a=>exact absurd (h.symm.trans a) h0
  | cyc a=>exact absurd (h.symm.trans a) h0
  | long a=>exact absurd (h.symm.trans a) h0
  | ok a=>exact absurd (h.symm.trans a) h0
 | check e a h h0 =>
  cases k with
  | parse f k k0=>exact absurd (k.symm.trans a) k0
  | check f b k k0=>exact ⟨h.symm.trans k,.inl ⟨h0,rfl,rfl,rfl,rfl,rfl,rfl⟩⟩
  | cyc b hR=>exact absurd (h.symm.trans (hck hR)) h0
  | long b hR=>exact absurd (h.symm.trans (hck hR)) h0
  | ok b hR=>exact absurd (h.symm.trans (hck hR)) h0
 | cyc a hR hc =>
  cases k with
  | parse f k k0=>exact absurd (k.symm.trans a) k0
  | check f b k k0=>exact absurd (k.symm.trans (hck hR)) k0
  | cyc=>exact ⟨rfl,.inl ⟨by decide,rfl,rfl,rfl,rfl,rfl,rfl⟩⟩
  | long _ _ hn=>exact absurd hc hn
  | ok _ _ hn=>exact absurd hc hn
 | long a hR hn hz =>
  cases k with
  | parse f k k0=>exact absurd (k.symm.trans a) k0
  | check f b k k0=>exact absurd (k.symm.trans (hck hR)) k0
  | cyc _ _ hc=>exact absurd hc hn
  | long=>exact ⟨rfl,.inl ⟨by decide,rfl,rfl,rfl,rfl,rfl,rfl⟩⟩
  | ok _ _ _ v _ _ hz2=>omega
 | ok a hR v hv hi hL hz =>
  cases k with
  | parse f k k0=>exact absurd (k.symm.trans a) k0
  | check f b k k0=>exact absurd (k.symm.trans (hck hR)) k0
  | cyc _ _ hc=>exact (Cyc.none hc hL.1).elim
  | long _ _ _ hz2=>omega
  | ok _ _ _ u hu hM =>
   obtain rfl:u=v:=List.ext_getElem (by omega) fun i h3 h4=>by
    have:=hM (zaK v) (by rw [hu,←hv];exact hL) i h3;simpa [zaK,h3,h4] using this
   exact ⟨rfl,.inr ⟨rfl,rfl,⟨a,hR,hv,hi,hL,hz,rfl,rfl,rfl,rfl⟩⟩⟩
theorem at_both {s tx:ByteArray} {ty:List ByteArray} {ps:List Path} {K:List TabR} {l:List TypA} {u:List Int}
 (h:(K.map (·.r)=[]∧l.map TypA.says=[])∨(l.map TypA.says=(zah s).1.map zbf∧TabOk s tx ty ps (K.map (·.r)) u)) (id:Int) :
 (atA l id=none∧(atK K id).r=noRT)∨∃(i:Nat) (t:TypA) (x:RelA),id=i∧i<K.length∧atA l id=some (t,x)∧(t,x) ∈ relsA l∧(atK K id).r=zcY ps (zaK u i) (t.says,x.says):=by
 by_cases h0:id<0
 · exact .inl ⟨if_neg (by omega),by rw [zlV h0];rfl⟩
 obtain ⟨i,rfl⟩:∃i:Nat,id=i:=⟨id.toNat,by omega⟩;have ha:atA l (i:Int)=(relsA l)[i]?:=by unfold atA;rw [if_pos (by omega),Int.toNat_natCast]
 rw [ha];rcases h with ⟨h1,h2⟩ | ⟨h1,h2⟩
 · obtain rfl:K=[]:=List.map_eq_nil_iff.1 h1;obtain rfl:l=[]:=List.map_eq_nil_iff.1 h2;exact .inl ⟨rfl,by rw [zjb (by simp)];rfl⟩
 · have hl:K.length=(relsA l).length:=by rw [h2.lenK,←h1,←zaN,List.length_map]
   by_cases hi:i<K.length
   · obtain ⟨x,hx,e⟩:=h2.at_ hi;rw [←h1,←zaN,List.getElem?_map] at hx;obtain ⟨⟨t,r⟩,hr,rfl⟩:=Option.map_eq_some_iff.1 hx;exact .inr ⟨i,t,r,rfl,hi,hr,List.mem_of_getElem? hr,e⟩
   · exact .inl ⟨List.getElem?_eq_none (by omega),by rw [zjb (by omega)];rfl⟩
end Go.Proofs.YtahegpfdbgbioaaGreat
namespace Go.Proofs.YtahegpfdbgbioaaGreat
open Go.RowKit
def zc2 (T:List TypI) (a c:ByteArray):Bool:=zio T a && (decide (c=⟨#[]⟩) || decide (0≤zdk (zap T) (a,c)))
def zff (l:List TypA) (t:TuP):Int :=
 if zf3 t.1=true∧zf3 t.2=true∧zc2 (l.map TypA.says) t.1.1 t.1.2.2=true∧zc2 (l.map TypA.says) t.2.1 t.2.2.2=true∧¬t.1.2.2=⟨#[]⟩ then
  if ((relY (atA l (zdk (zap (l.map TypA.says)) (t.1.1,t.1.2.2)))).subs.any fun y=>decide (y=(t.2.1,t.2.2.2)))=true then 0 else 40
 else 31
theorem zmb (c:ByteArray):c.toList.isEmpty=decide (c=⟨#[]⟩):=by
 by_cases h:c=⟨#[]⟩
 · rw [ze2 h,decide_eq_true h]
 · rw [zgU h,decide_eq_false h]
theorem AtZ.typ_yes {l:List TypA} {n:ByteArray} {z:Int} (h:AtZ (fun x:TypA=>decide (x.name=n)) l z) (ht:zio (l.map TypA.says) n=true):0≤z:=by
 have q:=h.typ;rw [ht] at q;have q2:=of_decide_eq_false (p:=z<0) q;omega
theorem AtZ.typ_no {l:List TypA} {n:ByteArray} {z:Int} (h:AtZ (fun x:TypA=>decide (x.name=n)) l z) (ht:zio (l.map TypA.says) n=false):¬0≤z:=by
 have q:=h.typ;rw [ht] at q;have q2:=of_decide_eq_true (p:=z<0) q;omega
section
variable {w:World} {R:Nat} {A AL:Option Addr} {c0 nL cL:Nat} {l:List TypA}
theorem rthere_any (h:SchA w R A c0 l) (hR:Right (l.map TypA.says)) (a b c:ByteArray) :
 Calls Tryz.prog 77 #[.agg #[.slice A l.length c0,.slice AL nL cL],.agg #[.string a,.string b,.string c]] w fun e w'=>e = .returned (.bool (zc2 (l.map TypA.says) a c))∧Below w.heap.size w w':=by
 obtain ⟨Q,hQ⟩:∃Q,Hid (zc2 (l.map TypA.says) a c=Q):=⟨_,Lib.hid rfl⟩;rw [hQ.out];unfold zc2 at hQ;have hk:=(Bk.new w #[.slice A l.length c0,.slice AL nL cL] 34).alloc (.cells #[.string a,.string b,.string c] 69);have hl:=Bk.new2 w (.cells #[.slice A l.length c0,.slice AL nL cL] 34) #[.string a,.string b,.string c] 69;have hB:Below w.heap.size w ((w.alloc (.cells #[.slice A l.length c0,.slice AL nL cL] 34)).alloc (.cells #[.string a,.string b,.string c] 69)):=((Below.refl _ w).alloc (Nat.le_refl _) _).alloc (size_alloc (Nat.le_refl _)) _;replace h:=h.up hB;have kt:=type9_any h a;have hd:=zmb c;go_enter Tryz.func77,Tryz.ntmps77
 go_upto_region 1 with (fail)
 generalize (w.alloc (.cells #[.slice A l.length c0,.slice AL nL cL] 34)).alloc (.cells #[.string a,.string b,.string c] 69)=w1 at *
 obtain ⟨k0,k1⟩:=hk.c2;have kl:=hk.lt;obtain ⟨l0,l1,l2⟩:=hl.c3;have ll:=hl.lt;cases ht:zio (l.map TypA.says) a with
 | false =>
  obtain rfl:Q=false:=by rw [←hQ.out,ht];rfl
  clear hQ hd;go_wp2_with (go_at_call 18;refine kt.mono ?_;rintro e w2 ⟨⟨z,rfl,hz⟩,hb2⟩;have hzn:=AtZ.typ_no hz ht)
  go_ret
  exact ⟨rfl,zad hB hB.size hb2⟩
 | true =>
  rw [ht,Bool.true_and] at hQ;by_cases hc:c=⟨#[]⟩
  · obtain rfl:Q=true:=by rw [←hQ.out,decide_eq_true hc];rfl
    rw [decide_eq_true hc] at hd;clear hQ hc;go_wp2_with (go_at_call 18;refine kt.mono ?_;rintro e w2 ⟨⟨z,rfl,hz⟩,hb2⟩;have hzn:=AtZ.typ_yes hz ht;have hl2:=hl.below hb2;obtain ⟨m0,m1,m2⟩:=hl2.c3;have ml:=hl2.lt)
    go_ret
    exact ⟨rfl,zad hB hB.size hb2⟩
  · rw [decide_eq_false hc] at hd hQ;rw [Bool.false_or] at hQ;clear hc;by_cases hn:0≤zdk (zap (l.map TypA.says)) (a,c)
    · obtain rfl:Q=true:=by rw [←hQ.out,decide_eq_true hn]
      obtain ⟨n,hnn⟩:∃n,Hid (zdk (zap (l.map TypA.says)) (a,c)=n):=⟨_,Lib.hid rfl⟩;rw [hnn.out] at hn;clear hQ;go_wp2_with (first
       | (go_at_call 18;refine kt.mono ?_;rintro e w2 ⟨⟨z,rfl,hz⟩,hb2⟩;have hzn:=AtZ.typ_yes hz ht;have hl2:=hl.below hb2;obtain ⟨m0,m1,m2⟩:=hl2.c3;have ml:=hl2.lt;have hk2:=hk.below hb2;obtain ⟨n0,n1⟩:=hk2.c2;have nl:=hk2.lt;have ki:=id11_any (AL:=AL) (nL:=nL) (cL:=cL) (h.up hb2) hR a c;rw [hnn.out] at ki)
       | (go_at_call 26;refine ki.mono ?_;rintro e w3 ⟨rfl,hb3⟩))
      go_ret
      exact ⟨rfl,zad (zad hB hB.size hb2) (zad hB hB.size hb2).size hb3⟩
    · obtain rfl:Q=false:=by rw [←hQ.out,decide_eq_false hn]
      obtain ⟨n,hnn⟩:∃n,Hid (zdk (zap (l.map TypA.says)) (a,c)=n):=⟨_,Lib.hid rfl⟩;rw [hnn.out] at hn;clear hQ;go_wp2_with (first
       | (go_at_call 18;refine kt.mono ?_;rintro e w2 ⟨⟨z,rfl,hz⟩,hb2⟩;have hzn:=AtZ.typ_yes hz ht;have hl2:=hl.below hb2;obtain ⟨m0,m1,m2⟩:=hl2.c3;have ml:=hl2.lt;have hk2:=hk.below hb2;obtain ⟨n0,n1⟩:=hk2.c2;have nl:=hk2.lt;have ki:=id11_any (AL:=AL) (nL:=nL) (cL:=cL) (h.up hb2) hR a c;rw [hnn.out] at ki)
       | (go_at_call 26;refine ki.mono ?_;rintro e w3 ⟨rfl,hb3⟩))
      go_ret
      exact ⟨congrArg (fun b=>Ending.returned (.bool b)) (decide_eq_false (by omega)),zad (zad hB hB.size hb2) (zad hB hB.size hb2).size hb3⟩
theorem rright_any12 (h:SchA w R A c0 l) (hR:Right (l.map TypA.says)) (hn96:(relsA l).length≤96) (a b c x y z:ByteArray) (ha:a.size≤100000) (hb:b.size≤100000) (hc:c.size≤100000) (hx:x.size≤100000) (hy:y.size≤100000) (hz:z.size≤100000) :
 Calls Tryz.prog 46 #[.agg #[.slice A l.length c0,.slice AL nL cL],.agg #[.string a,.string b,.string c,.string x,.string y,.string z]] w fun e w'=>e = .returned (.int .i64 (zff l ((a,b,c),(x,y,z))))∧Below w.heap.size w w':=by
 obtain ⟨Q,hQ⟩:∃Q,Hid (zff l ((a,b,c),(x,y,z))=Q):=⟨_,Lib.hid rfl⟩;rw [hQ.out];unfold zff at hQ;dsimp only at hQ;have hk:=(Bk.new w #[.slice A l.length c0,.slice AL nL cL] 34).alloc (.cells #[.string a,.string b,.string c,.string x,.string y,.string z] 71);have hl:=Bk.new2 w (.cells #[.slice A l.length c0,.slice AL nL cL] 34) #[.string a,.string b,.string c,.string x,.string y,.string z] 71;have hB:Below w.heap.size w ((w.alloc (.cells #[.slice A l.length c0,.slice AL nL cL] 34)).alloc (.cells #[.string a,.string b,.string c,.string x,.string y,.string z] 71)):=((Below.refl _ w).alloc (Nat.le_refl _) _).alloc (size_alloc (Nat.le_refl _)) _;replace h:=h.up hB;have hd:=zmb c;obtain ⟨f1,hf1⟩:∃f,Hid (zf3 (a,b,c)=f):=⟨_,Lib.hid rfl⟩;obtain ⟨f2,hf2⟩:∃f,Hid (zf3 (x,y,z)=f):=⟨_,Lib.hid rfl⟩;obtain ⟨f3,hf3⟩:∃f,Hid (zc2 (l.map TypA.says) a c=f):=⟨_,Lib.hid rfl⟩;obtain ⟨f4,hf4⟩:∃f,Hid (zc2 (l.map TypA.says) x z=f):=⟨_,Lib.hid rfl⟩;have g1:=fun W=>zni hf1.out ha hb hc W;have g2:=fun W=>zni hf2.out hx hy hz W;dsimp only at g1 g2;rw [hf1.out,hf2.out,hf3.out,hf4.out] at hQ;go_enter Tryz.func46,Tryz.ntmps46
 go_upto_region 1 with (fail)
 generalize (w.alloc (.cells #[.slice A l.length c0,.slice AL nL cL] 34)).alloc (.cells #[.string a,.string b,.string c,.string x,.string y,.string z] 71)=w1 at *
 obtain ⟨k0,k1⟩:=hk.c2;have kl:=hk.lt;obtain ⟨l0,l1,l2,l3,l4,l5⟩:=hl.c6;have ll:=hl.lt;go_upto_region 2 with (go_at_call 42;refine (g1 _).mono ?_;rintro e w2 ⟨rfl,hb2⟩)
 replace h:=h.up hb2;replace hk:=hk.below hb2;replace hl:=hl.below hb2;replace hB:=zad hB hB.size hb2;clear hb2 k0 k1 kl l0 l1 l2 l3 l4 l5 ll;obtain ⟨k0,k1⟩:=hk.c2;have kl:=hk.lt;obtain ⟨l0,l1,l2,l3,l4,l5⟩:=hl.c6;have ll:=hl.lt;go_upto_region 3 with (go_at_call 42;refine (g2 _).mono ?_;rintro e w3 ⟨rfl,hb2⟩)
 replace h:=h.up hb2;replace hk:=hk.below hb2;replace hl:=hl.below hb2;replace hB:=zad hB hB.size hb2;clear hb2 k0 k1 kl l0 l1 l2 l3 l4 l5 ll;obtain ⟨k0,k1⟩:=hk.c2;have kl:=hk.lt;obtain ⟨l0,l1,l2,l3,l4,l5⟩:=hl.c6;have ll:=hl.lt;have g3:=rthere_any (AL:=AL) (nL:=nL) (cL:=cL) h hR a b c;rw [hf3.out] at g3;go_upto_region 4 with (go_at_call 77;refine g3.mono ?_;rintro e w4 ⟨rfl,hb2⟩)
 replace h:=h.up hb2;replace hk:=hk.below hb2;replace hl:=hl.below hb2;replace hB:=zad hB hB.size hb2;clear hb2 k0 k1 kl l0 l1 l2 l3 l4 l5 ll;obtain ⟨k0,k1⟩:=hk.c2;have kl:=hk.lt;obtain ⟨l0,l1,l2,l3,l4,l5⟩:=hl.c6;have ll:=hl.lt;have g4:=rthere_any (AL:=AL) (nL:=nL) (cL:=cL) h hR x y z;rw [hf4.out] at g4;go_upto_region 5 with (go_at_call 77;refine g4.mono ?_;rintro e w5 ⟨rfl,hb2⟩)
 replace h:=h.up hb2;replace hk:=hk.below hb2;replace hl:=hl.below hb2;replace hB:=zad hB hB.size hb2;clear hb2 k0 k1 kl l0 l1 l2 l3 l4 l5 ll;obtain ⟨k0,k1⟩:=hk.c2;have kl:=hk.lt;obtain ⟨l0,l1,l2,l3,l4,l5⟩:=hl.c6;have ll:=hl.lt;clear g1 g2 g3 g4;obtain ⟨dc,hdc⟩:∃d,Hid (decide (c=⟨#[]⟩)=d):=⟨_,Lib.hid rfl⟩;rw [hdc.out] at hd;go_cut [43] from 24 to 43 (fun v wc=>v = .bool (!(f1 && f2 && f3 && f4 && !dc))∧wc=w5)
 case first =>
  clear hQ hf1 hf2 hf3 hf4 hdc;cases f1 <;> cases f2 <;> cases f3 <;> cases f4 <;> cases dc;all_goals go_wp2_with fail
  all_goals go_meet
  all_goals exact ⟨rfl,rfl⟩
 case rest =>
 obtain ⟨rfl,hwc⟩:=hcut;rw [hwc];clear hwc;by_cases hall:f1=true∧f2=true∧f3=true∧f4=true∧¬c=⟨#[]⟩
 · obtain ⟨rfl,rfl,rfl,rfl,h5⟩:=hall;obtain rfl:dc=false:=by rw [←hdc.out,decide_eq_false h5]
   obtain ⟨id,hid⟩:∃id,Hid (zdk (zap (l.map TypA.says)) (a,c)=id):=⟨_,Lib.hid rfl⟩;have hidw:(Lit.int .i64 id).wf=true:=by
    rw [←hid.out];unfold zdk;cases e:zao (zap (l.map TypA.says)) (a,c) with
    | none=>decide
    | some i =>
     have h1:=(List.getElem?_eq_some_iff.1 (zaX e)).1;rw [zfc,←zaN,List.length_map] at h1;exact wf11 (by omega)
   obtain ⟨m,hm⟩:∃m,Hid (((relY (atA l id)).subs.any fun y=>decide (y=(x,z)))=m):=⟨_,Lib.hid rfl⟩;obtain rfl:Q=if m=true then 0 else 40:=by
    rw [←hQ.out,if_pos ⟨rfl,rfl,rfl,rfl,h5⟩,hid.out,hm.out]
   clear hQ h5 hdc;have ki:∀W:World,Below w5.heap.size w5 W→Calls _ _ _ W _:=fun W hW=>id11_any (AL:=AL) (nL:=nL) (cL:=cL) (h.up hW) hR a c;have km:∀W:World,Below w5.heap.size w5 W→Calls _ _ _ W _:=fun W hW=>may11_any (AL:=AL) (nL:=nL) (cL:=cL) (h.up hW) hn96 id hidw x z;rw [hid.out] at ki;rw [hm.out] at km;clear hf1 hf2 hf3 hf4;go_wp2_with fail
   refine wp_region_any (by kernel_rfl) ?_;change wpAny _ _ _ _ _ _ _ (World.drew _);have hbd:Below w5.heap.size w5 (World.drew w5):=(Below.refl _ _).drew;replace hk:=hk.below hbd;replace hl:=hl.below hbd;replace hB:=zad hB hB.size hbd;replace ki:=fun W hW=>ki W (zad hbd hbd.size hW);replace km:=fun W hW=>km W (zad hbd hbd.size hW);clear hbd;generalize World.drew w5=wz at *
   refine wpAny_of_held (S:=fun W=>Below wz.heap.size wz W) _ _ _ _ ?_;have HS:=Below.refl wz.heap.size wz;refine zac 0 (some 44) (v:=?v0t) rfl rfl (by kernel_rfl) (by kernel_rfl) (by kernel_rfl) (fun _ _ _ h=>h) (by rfl) ?y0t HS ?r0t;case y0t=>(intro W hS;have q:=hk.below hS;obtain ⟨q0,q1⟩:=q.c2;have ql:=q.lt;go_simp;try with_reducible rfl)
   simp only [Act.put,List.setIfInBounds_toArray,List.set_cons_zero,List.set_cons_succ];refine zac 1 (some 45) (v:=?v1t) rfl rfl (by kernel_rfl) (by kernel_rfl) (by kernel_rfl) (fun _ _ _ h=>h) (by rfl) ?y1t HS ?r1t;case y1t=>(intro W hS;have q:=hk.below hS;obtain ⟨q0,q1⟩:=q.c2;have ql:=q.lt;go_simp;try with_reducible rfl)
   simp only [Act.put,List.setIfInBounds_toArray,List.set_cons_zero,List.set_cons_succ];refine zac 2 (some 46) (v:=?v2t) rfl rfl (by kernel_rfl) (by kernel_rfl) (by kernel_rfl) (fun _ _ _ h=>h) (by rfl) ?y2t HS ?r2t;case y2t=>(intro W hS;go_simp;try with_reducible rfl)
   simp only [Act.put,List.setIfInBounds_toArray,List.set_cons_zero,List.set_cons_succ];refine zac 3 (some 47) (v:=?v3t) rfl rfl (by kernel_rfl) (by kernel_rfl) (by kernel_rfl) (fun _ _ _ h=>h) (by rfl) ?y3t HS ?r3t;case y3t=>(intro W hS;go_simp;try with_reducible rfl)
   simp only [Act.put,List.setIfInBounds_toArray,List.set_cons_zero,List.set_cons_succ];refine zac 4 (some 48) (v:=?v4t) rfl rfl (by kernel_rfl) (by kernel_rfl) (by kernel_rfl) (fun _ _ _ h=>h) (by rfl) ?y4t HS ?r4t;case y4t=>(intro W hS;have q:=hl.below hS;obtain ⟨q0,q1,q2,q3,q4,q5⟩:=q.c6;have ql:=q.lt;go_simp;try with_reducible rfl)
   simp only [Act.put,List.setIfInBounds_toArray,List.set_cons_zero,List.set_cons_succ];refine zac 5 (some 49) (v:=?v5t) rfl rfl (by kernel_rfl) (by kernel_rfl) (by kernel_rfl) (fun _ _ _ h=>h) (by rfl) ?y5t HS ?r5t;case y5t=>(intro W hS;go_simp;try with_reducible rfl)
   simp only [Act.put,List.setIfInBounds_toArray,List.set_cons_zero,List.set_cons_succ];refine zac 6 (some 50) (v:=?v6t) rfl rfl (by kernel_rfl) (by kernel_rfl) (by kernel_rfl) (fun _ _ _ h=>h) (by rfl) ?y6t HS ?r6t;case y6t=>(intro W hS;go_simp;try with_reducible rfl)
   simp only [Act.put,List.setIfInBounds_toArray,List.set_cons_zero,List.set_cons_succ];refine zac 7 (some 51) (v:=?v7t) rfl rfl (by kernel_rfl) (by kernel_rfl) (by kernel_rfl) (fun _ _ _ h=>h) (by rfl) ?y7t HS ?r7t;case y7t=>(intro W hS;have q:=hl.below hS;obtain ⟨q0,q1,q2,q3,q4,q5⟩:=q.c6;have ql:=q.lt;go_simp;try with_reducible rfl)
   simp only [Act.put,List.setIfInBounds_toArray,List.set_cons_zero,List.set_cons_succ];refine zac 9 (some 53) (v:=?v9t) rfl rfl (by kernel_rfl) (by kernel_rfl) (by kernel_rfl) (fun _ _ _ h=>h) (by rfl) ?y9t HS ?r9t;case y9t=>(intro W hS;go_simp;try with_reducible rfl)
   simp only [Act.put,List.setIfInBounds_toArray,List.set_cons_zero,List.set_cons_succ];refine zac 10 (some 54) (v:=?v10t) rfl rfl (by kernel_rfl) (by kernel_rfl) (by kernel_rfl) (fun _ _ _ h=>h) (by rfl) ?y10t HS ?r10t;case y10t=>(intro W hS;go_simp;try with_reducible rfl)
   simp only [Act.put,List.setIfInBounds_toArray,List.set_cons_zero,List.set_cons_succ];refine zac 11 (some 55) (v:=?v11t) rfl rfl (by kernel_rfl) (by kernel_rfl) (by kernel_rfl) (fun _ _ _ h=>h) (by rfl) ?y11t HS ?r11t;case y11t=>(intro W hS;have q:=hl.below hS;obtain ⟨q0,q1,q2,q3,q4,q5⟩:=q.c6;have ql:=q.lt;go_simp;try with_reducible rfl)
   simp only [Act.put,List.setIfInBounds_toArray,List.set_cons_zero,List.set_cons_succ];refine zac 12 (some 56) (v:=?v12t) rfl rfl (by kernel_rfl) (by kernel_rfl) (by kernel_rfl) (fun _ _ _ h=>h) (by rfl) ?y12t HS ?r12t;case y12t=>(intro W hS;go_simp;try with_reducible rfl)
   simp only [Act.put,List.setIfInBounds_toArray,List.set_cons_zero,List.set_cons_succ];refine zac 13 (some 57) (v:=?v13t) rfl rfl (by kernel_rfl) (by kernel_rfl) (by kernel_rfl) (fun _ _ _ h=>h) (by rfl) ?y13t HS ?r13t;case y13t=>(intro W hS;go_simp;try with_reducible rfl)
   simp only [Act.put,List.setIfInBounds_toArray,List.set_cons_zero,List.set_cons_succ];refine zac 14 (some 58) (v:=?v14t) rfl rfl (by kernel_rfl) (by kernel_rfl) (by kernel_rfl) (fun _ _ _ h=>h) (by rfl) ?y14t HS ?r14t;case y14t=>(intro W hS;have q:=hl.below hS;obtain ⟨q0,q1,q2,q3,q4,q5⟩:=q.c6;have ql:=q.lt;go_simp;try with_reducible rfl)
   simp only [Act.put,List.setIfInBounds_toArray,List.set_cons_zero,List.set_cons_succ];refine za2 8 rfl (by kernel_rfl) ?_;intro Kf hKf;go_simp;refine (ki _ HS).mono ?_;rintro e W1t ⟨rfl,hc⟩;replace HS:=zad HS HS.size hc;refine hKf _ _ HS ?_;clear hKf Kf hc;refine za2 15 rfl (by kernel_rfl) ?_;intro Kf hKf;go_simp;refine (km _ HS).mono ?_;rintro e W2t ⟨rfl,hc⟩;replace HS:=zad HS HS.size hc;refine hKf _ _ HS ?_;clear hKf Kf hc;refine zac 16 (some 9) (v:=?v16t) rfl rfl (by kernel_rfl) (by kernel_rfl) (by kernel_rfl) (fun _ _ _ h=>h) (by rfl) ?y16t HS ?r16t;case y16t=>(intro W hS;go_simp;try with_reducible rfl)
   simp only [Act.put,List.setIfInBounds_toArray,List.set_cons_zero,List.set_cons_succ];refine wpAnyH_done (by kernel_rfl) ?_ _;replace hB:=zad hB hB.size HS;go_wp2_with fail
   all_goals (cases m <;> first | contradiction | skip)
   all_goals go_ret
   all_goals exact ⟨rfl,hB⟩
 · obtain rfl:Q=31:=by rw [←hQ.out,if_neg hall]
   have hx:(!(f1 && f2 && f3 && f4 && !dc))=true:=by
    cases f1 <;> cases f2 <;> cases f3 <;> cases f4 <;> cases dc <;> try rfl
    exact absurd ⟨rfl,rfl,rfl,rfl,of_decide_eq_false hdc.out⟩ hall
   rw [hx];clear hQ hall hx hdc hf1 hf2 hf3 hf4;go_wp2_with fail
   go_ret
   exact ⟨rfl,hB⟩
end
end Go.Proofs.YtahegpfdbgbioaaGreat
namespace Go.Proofs.YtahegpfdbgbioaaGreat
open Go.RowKit
theorem few_all {a b c x y z:ByteArray} (h:fewT ((a,b,c),(x,y,z))=true):a.size≤120∧b.size≤120∧c.size≤120∧x.size≤120∧y.size≤120∧z.size≤120:=by
 have q:=of_decide_eq_true h;simp only [zea] at q;exact ⟨q _ (by simp),q _ (by simp),q _ (by simp),q _ (by simp),q _ (by simp),q _ (by simp)⟩
def zlL:List TypP:=[⟨⟨#[117,115,101,114]⟩,[]⟩,⟨⟨#[100,111,99]⟩,[⟨⟨#[114,101,97,100]⟩,⟨#[114,101,97,100]⟩,⟨#[114,101,97,100]⟩,⟨#[114,101,97,100]⟩,[(⟨#[117,115,101,114]⟩,⟨#[]⟩)],[(1,⟨#[]⟩,⟨#[]⟩)]⟩]⟩]
theorem zj4:zah ⟨#[116,121,112,101,32,117,115,101,114,32,123,125,32,116,121,112,101,32,100,111,99,32,123,32,114,101,108,32,114,101,97,100,32,40,114,101,97,100,44,32,114,101,97,100,44,32,114,101,97,100,41,58,32,117,115,101,114,59,32,125]⟩=(zlL,0,0):=by decide +kernel
theorem zmd:zaV (zlL.map zbf)=[]:=by decide +kernel
theorem zme:(zbh (zlL.map zbf)).1=0:=by decide +kernel
theorem exR_sol:Sol 1 (zaV (zlL.map zbf)) (fun _=>0):=by
 rw [zmd];exact ⟨fun i _=>by dsimp only;omega,fun e he=>by cases he⟩
theorem exR_size:¬2048<(zb8 zlL).size:=by decide +kernel
theorem exR_rels (v:List Int):zft (zlL.map zbf) v=[zcY (zap (zlL.map zbf)) (zaK v 0) ((zaA (zlL.map zbf)).getD 0 (⟨⟨#[]⟩,[]⟩,⟨⟨#[]⟩,⟨#[]⟩,⟨#[]⟩,⟨#[]⟩,[],[]⟩))]:=rfl
theorem exR_subs (lv:Int):(zcY (zap (zlL.map zbf)) lv ((zaA (zlL.map zbf)).getD 0 (⟨⟨#[]⟩,[]⟩,⟨⟨#[]⟩,⟨#[]⟩,⟨#[]⟩,⟨#[]⟩,[],[]⟩))).subs=[(⟨#[117,115,101,114]⟩,⟨#[]⟩)]:=by kernel_rfl
theorem compR {err:Nat} {tx:ByteArray} {ty:List ByteArray} {ps:List Path} {Q:List RelT} (h:CompIs ⟨#[116,121,112,101,32,117,115,101,114,32,123,125,32,116,121,112,101,32,100,111,99,32,123,32,114,101,108,32,114,101,97,100,32,40,114,101,97,100,44,32,114,101,97,100,44,32,114,101,97,100,41,58,32,117,115,101,114,59,32,125]⟩ err tx ty ps Q):err=0∧ty=[⟨#[117,115,101,114]⟩,⟨#[100,111,99]⟩]∧ps=[(⟨#[100,111,99]⟩,⟨#[114,101,97,100]⟩)]∧∃r,Q=[r]∧r.subs=[(⟨#[117,115,101,114]⟩,⟨#[]⟩)]:=by
 have e1:(zah ⟨#[116,121,112,101,32,117,115,101,114,32,123,125,32,116,121,112,101,32,100,111,99,32,123,32,114,101,108,32,114,101,97,100,32,40,114,101,97,100,44,32,114,101,97,100,44,32,114,101,97,100,41,58,32,117,115,101,114,59,32,125]⟩).1=zlL:=by rw [zj4]
 have e2:(zah ⟨#[116,121,112,101,32,117,115,101,114,32,123,125,32,116,121,112,101,32,100,111,99,32,123,32,114,101,108,32,114,101,97,100,32,40,114,101,97,100,44,32,114,101,97,100,44,32,114,101,97,100,41,58,32,117,115,101,114,59,32,125]⟩).2.1=0:=by rw [zj4]
 have nc:¬Cyc (zaV (zlL.map zbf)):=fun hc=>Cyc.none hc exR_sol;cases h with
 | parse e h h0=>exact absurd (h.symm.trans e2) h0
 | check e h1 h h0=>rw [e1] at h;exact absurd (h.symm.trans zme) h0
 | cyc h1 hR hc=>rw [e1] at hc;exact absurd hc nc
 | long h1 hR hc hz=>rw [e1] at hz;exact absurd hz exR_size
 | ok h1 hR v hv hi hL hz =>
  rw [e1];refine ⟨rfl,rfl,by decide +kernel,_,exR_rels v,exR_subs _⟩
theorem exT_is:zdI ⟨#[100,111,99,58,49,35,114,101,97,100,64,103,114,111,117,112,58,97,35,109,101,109,98,101,114]⟩=some ((⟨#[100,111,99]⟩,⟨#[49]⟩,⟨#[114,101,97,100]⟩),(⟨#[103,114,111,117,112]⟩,⟨#[97]⟩,⟨#[109,101,109,98,101,114]⟩)):=by decide +kernel
theorem exB_is:zdI ⟨#[100,111,99,58,49,64,103,114,111,117,112,58,97]⟩=none:=by decide +kernel
theorem exN_is:zcH ⟨#[117,115,101,114,58,97]⟩=some (⟨#[117,115,101,114]⟩,⟨#[97]⟩,⟨#[]⟩):=by decide +kernel
theorem exK_is:keyT ((⟨#[100,111,99]⟩,⟨#[49]⟩,⟨#[114,101,97,100]⟩),(⟨#[103,114,111,117,112]⟩,⟨#[97]⟩,⟨#[109,101,109,98,101,114]⟩))=⟨#[100,111,99,0,49,0,114,101,97,100,0,103,114,111,117,112,0,97,0,109,101,109,98,101,114]⟩:=by decide +kernel
theorem exF_is:zgG ⟨#[100,111,99,0,49,0,114,101,97,100,0,103,114,111,117,112,0,97,0,109,101,109,98,101,114]⟩=some ((⟨#[100,111,99]⟩,⟨#[49]⟩,⟨#[114,101,97,100]⟩),(⟨#[103,114,111,117,112]⟩,⟨#[97]⟩,⟨#[109,101,109,98,101,114]⟩)):=by decide +kernel
theorem exX_is:textT ((⟨#[100,111,99]⟩,⟨#[49]⟩,⟨#[114,101,97,100]⟩),(⟨#[103,114,111,117,112]⟩,⟨#[97]⟩,⟨#[109,101,109,98,101,114]⟩))=⟨#[100,111,99,58,49,35,114,101,97,100,64,103,114,111,117,112,58,97,35,109,101,109,98,101,114]⟩:=by decide +kernel
theorem exR_yes {K:List TabR} {r:RelT} (h:K.map (·.r)=[r]) (hs:r.subs=[(⟨#[117,115,101,114]⟩,⟨#[]⟩)]):rightT [⟨#[117,115,101,114]⟩,⟨#[100,111,99]⟩] [(⟨#[100,111,99]⟩,⟨#[114,101,97,100]⟩)] K ((⟨#[100,111,99]⟩,⟨#[49]⟩,⟨#[114,101,97,100]⟩),(⟨#[117,115,101,114]⟩,⟨#[97]⟩,⟨#[]⟩))=0:=by
 unfold rightT;rw [if_pos ⟨by decide +kernel,by decide +kernel,by decide +kernel⟩];have hm:mayT K [(⟨#[100,111,99]⟩,⟨#[114,101,97,100]⟩)] ((⟨#[100,111,99]⟩,⟨#[49]⟩,⟨#[114,101,97,100]⟩),(⟨#[117,115,101,114]⟩,⟨#[97]⟩,⟨#[]⟩))=true:=by
  unfold mayT;match K,h with
  | [k],h =>
   have hk:k.r=r:=by simpa using h
   rw [show ixP [((⟨#[100,111,99]⟩:ByteArray),(⟨#[114,101,97,100]⟩:ByteArray))] (⟨#[100,111,99]⟩,⟨#[114,101,97,100]⟩)=0 from by decide +kernel,zlU (i:=0) rfl,hk,hs];decide +kernel
 rw [if_pos hm]
theorem exR_no {K:List TabR}:rightT [⟨#[117,115,101,114]⟩,⟨#[100,111,99]⟩] [(⟨#[100,111,99]⟩,⟨#[114,101,97,100]⟩)] K ((⟨#[100,111,99]⟩,⟨#[49]⟩,⟨#[114,101,97,100]⟩),(⟨#[103,114,111,117,112]⟩,⟨#[97]⟩,⟨#[109,101,109,98,101,114]⟩))=31:=by
 unfold rightT;rw [if_neg fun h=>absurd h.2.2 (by decide +kernel)]
theorem awake12_any (w:World):Calls Tryz.prog 28 #[] w fun e w'=>e = .returned (.bool true)∧Below w.heap.size w w':=by
 have kT:∀W:World,Calls Tryz.prog 32 #[.string ⟨#[100,111,99,58,49,35,114,101,97,100,64,103,114,111,117,112,58,97,35,109,101,109,98,101,114]⟩] W fun e w'=>e = .returned (.tuple #[.agg #[.string ⟨#[100,111,99]⟩,.string ⟨#[49]⟩,.string ⟨#[114,101,97,100]⟩,.string ⟨#[103,114,111,117,112]⟩,.string ⟨#[97]⟩,.string ⟨#[109,101,109,98,101,114]⟩],.int .i64 0])∧Below W.heap.size W w':=fun W=>by
  have k:=parse_any12 (w:=W) ⟨#[100,111,99,58,49,35,114,101,97,100,64,103,114,111,117,112,58,97,35,109,101,109,98,101,114]⟩ (by decide);rw [exT_is] at k;exact k
 have kB:∀W:World,Calls Tryz.prog 32 #[.string ⟨#[100,111,99,58,49,64,103,114,111,117,112,58,97]⟩] W fun e w'=>e = .returned (.tuple #[.agg #[.string ⟨#[]⟩,.string ⟨#[]⟩,.string ⟨#[]⟩,.string ⟨#[]⟩,.string ⟨#[]⟩,.string ⟨#[]⟩],.int .i64 11])∧Below W.heap.size W w':=fun W=>by
  have k:=parse_any12 (w:=W) ⟨#[100,111,99,58,49,64,103,114,111,117,112,58,97]⟩ (by decide);rw [exB_is] at k;exact k
 have kN:∀W:World,Calls Tryz.prog 30 #[.string ⟨#[117,115,101,114,58,97]⟩] W fun e w'=>e = .returned (.tuple #[.agg #[.string ⟨#[117,115,101,114]⟩,.string ⟨#[97]⟩,.string ⟨#[]⟩],.int .i64 0])∧Below W.heap.size W w':=fun W=>zei exN_is (by decide) W;have kK:∀W:World,Calls Tryz.prog 40 #[.agg #[.string ⟨#[100,111,99]⟩,.string ⟨#[49]⟩,.string ⟨#[114,101,97,100]⟩,.string ⟨#[103,114,111,117,112]⟩,.string ⟨#[97]⟩,.string ⟨#[109,101,109,98,101,114]⟩]] W fun e w'=>e = .returned (.string ⟨#[100,111,99,0,49,0,114,101,97,100,0,103,114,111,117,112,0,97,0,109,101,109,98,101,114]⟩)∧Below W.heap.size W w':=fun W=>by
  have k:=key_any12 (w:=W) ⟨#[100,111,99]⟩ ⟨#[49]⟩ ⟨#[114,101,97,100]⟩ ⟨#[103,114,111,117,112]⟩ ⟨#[97]⟩ ⟨#[109,101,109,98,101,114]⟩ (by decide) (by decide) (by decide) (by decide) (by decide) (by decide);rw [exK_is] at k;exact k
 have kF:∀W:World,Calls Tryz.prog 34 #[.string ⟨#[100,111,99,0,49,0,114,101,97,100,0,103,114,111,117,112,0,97,0,109,101,109,98,101,114]⟩] W fun e w'=>e = .returned (.tuple #[.agg #[.string ⟨#[100,111,99]⟩,.string ⟨#[49]⟩,.string ⟨#[114,101,97,100]⟩,.string ⟨#[103,114,111,117,112]⟩,.string ⟨#[97]⟩,.string ⟨#[109,101,109,98,101,114]⟩],.bool true])∧Below W.heap.size W w':=fun W=>by
  have k:=from_any12 (w:=W) ⟨#[100,111,99,0,49,0,114,101,97,100,0,103,114,111,117,112,0,97,0,109,101,109,98,101,114]⟩ (by decide);rw [exF_is] at k;exact k
 have kX:∀W:World,Calls Tryz.prog 38 #[.agg #[.string ⟨#[100,111,99]⟩,.string ⟨#[49]⟩,.string ⟨#[114,101,97,100]⟩,.string ⟨#[103,114,111,117,112]⟩,.string ⟨#[97]⟩,.string ⟨#[109,101,109,98,101,114]⟩]] W fun e w'=>e = .returned (.string ⟨#[100,111,99,58,49,35,114,101,97,100,64,103,114,111,117,112,58,97,35,109,101,109,98,101,114]⟩)∧Below W.heap.size W w':=fun W=>by
  have k:=text_any12 (w:=W) ⟨#[100,111,99]⟩ ⟨#[49]⟩ ⟨#[114,101,97,100]⟩ ⟨#[103,114,111,117,112]⟩ ⟨#[97]⟩ ⟨#[109,101,109,98,101,114]⟩ (by decide) (by decide) (by decide) (by decide) (by decide) (by decide);rw [exX_is] at k;exact k
 have kO:∀W:World,Calls Tryz.prog 43 #[.agg #[.string ⟨#[100,111,99]⟩,.string ⟨#[49]⟩,.string ⟨#[114,101,97,100]⟩,.string ⟨#[103,114,111,117,112]⟩,.string ⟨#[97]⟩,.string ⟨#[109,101,109,98,101,114]⟩],.agg #[.string ⟨#[100,111,99]⟩,.string ⟨#[49]⟩,.string ⟨#[114,101,97,100]⟩,.string ⟨#[103,114,111,117,112]⟩,.string ⟨#[97]⟩,.string ⟨#[109,101,109,98,101,114]⟩]] W fun e w'=>e = .returned (.int .i64 0)∧Below W.heap.size W w':=fun W=>by
  have k:=cmp_any12 (w:=W) ⟨#[100,111,99]⟩ ⟨#[49]⟩ ⟨#[114,101,97,100]⟩ ⟨#[103,114,111,117,112]⟩ ⟨#[97]⟩ ⟨#[109,101,109,98,101,114]⟩ ⟨#[100,111,99]⟩ ⟨#[49]⟩ ⟨#[114,101,97,100]⟩ ⟨#[103,114,111,117,112]⟩ ⟨#[97]⟩ ⟨#[109,101,109,98,101,114]⟩;rw [zig.2 rfl] at k;exact k
 have kC:∀W:World,Calls Tryz.prog 11 #[.string ⟨#[116,121,112,101,32,117,115,101,114,32,123,125,32,116,121,112,101,32,100,111,99,32,123,32,114,101,108,32,114,101,97,100,32,40,114,101,97,100,44,32,114,101,97,100,44,32,114,101,97,100,41,58,32,117,115,101,114,59,32,125]⟩] W fun e w'=>(∃tx Ay cy mb Ar cr K,e = .returned (.tuple #[.agg #[.string tx,.slice Ay 2 cy,.map mb,.slice Ar 1 cr],.int .i64 0])∧TabA w' Ay cy [⟨#[117,115,101,114]⟩,⟨#[100,111,99]⟩] mb [(⟨#[100,111,99]⟩,⟨#[114,101,97,100]⟩)] Ar cr K∧K.length=1∧∃r,K.map (·.r)=[r]∧r.subs=[(⟨#[117,115,101,114]⟩,⟨#[]⟩)])∧Below W.heap.size W w':=fun W=>by
  refine (compile_any ⟨#[116,121,112,101,32,117,115,101,114,32,123,125,32,116,121,112,101,32,100,111,99,32,123,32,114,101,108,32,114,101,97,100,32,40,114,101,97,100,44,32,114,101,97,100,44,32,114,101,97,100,41,58,32,117,115,101,114,59,32,125]⟩ (by decide) W).mono fun e w' ⟨⟨tx,Ay,cy,ty,mb,ps,Ar,cr,K,err,he,hT,hC⟩,hb⟩=>?_;obtain ⟨rfl,rfl,rfl,r,h4,h5⟩:=compR hC;have hl:K.length=1:=by have:=congrArg List.length h4;rwa [List.length_map] at this
  rw [hl] at he;exact ⟨⟨tx,Ay,cy,mb,Ar,cr,K,he,hT,hl,r,h4,h5⟩,hb⟩
 go_enter Tryz.func28,Tryz.ntmps28
 go_upto_region 2 with (go_at_call 32;refine (kT _).mono ?_;rintro e w1 ⟨rfl,hb⟩)
 have d1:=Bk.new w1 #[.string ⟨#[100,111,99]⟩,.string ⟨#[49]⟩,.string ⟨#[114,101,97,100]⟩,.string ⟨#[103,114,111,117,112]⟩,.string ⟨#[97]⟩,.string ⟨#[109,101,109,98,101,114]⟩] 71;replace hb:=hb.alloc hb.size (.cells #[.string ⟨#[100,111,99]⟩,.string ⟨#[49]⟩,.string ⟨#[114,101,97,100]⟩,.string ⟨#[103,114,111,117,112]⟩,.string ⟨#[97]⟩,.string ⟨#[109,101,109,98,101,114]⟩] 71);generalize w1.alloc (.cells #[.string ⟨#[100,111,99]⟩,.string ⟨#[49]⟩,.string ⟨#[114,101,97,100]⟩,.string ⟨#[103,114,111,117,112]⟩,.string ⟨#[97]⟩,.string ⟨#[109,101,109,98,101,114]⟩] 71)=w2 at *
 generalize w1.heap.size=g1 at *
 obtain ⟨a0,a1,a2,a3,a4,a5⟩:=d1.c6;have al:=d1.lt;go_upto_region 3 with (first | (go_at_call 40;refine (kK _).mono ?_;rintro e w3 ⟨rfl,hb3⟩) | (go_at_call 34;refine (kF _).mono ?_;rintro e w4 ⟨rfl,hb4⟩))
 replace d1:=(d1.below hb3).below hb4;replace hb:=zad (zad hb hb.size hb3) (zad hb hb.size hb3).size hb4;have d2:=Bk.new w4 #[.string ⟨#[100,111,99]⟩,.string ⟨#[49]⟩,.string ⟨#[114,101,97,100]⟩,.string ⟨#[103,114,111,117,112]⟩,.string ⟨#[97]⟩,.string ⟨#[109,101,109,98,101,114]⟩] 71;replace d1:=d1.alloc (.cells #[.string ⟨#[100,111,99]⟩,.string ⟨#[49]⟩,.string ⟨#[114,101,97,100]⟩,.string ⟨#[103,114,111,117,112]⟩,.string ⟨#[97]⟩,.string ⟨#[109,101,109,98,101,114]⟩] 71);replace hb:=hb.alloc hb.size (.cells #[.string ⟨#[100,111,99]⟩,.string ⟨#[49]⟩,.string ⟨#[114,101,97,100]⟩,.string ⟨#[103,114,111,117,112]⟩,.string ⟨#[97]⟩,.string ⟨#[109,101,109,98,101,114]⟩] 71);clear hb3 hb4 a0 a1 a2 a3 a4 a5 al;generalize w4.alloc (.cells #[.string ⟨#[100,111,99]⟩,.string ⟨#[49]⟩,.string ⟨#[114,101,97,100]⟩,.string ⟨#[103,114,111,117,112]⟩,.string ⟨#[97]⟩,.string ⟨#[109,101,109,98,101,114]⟩] 71)=w5 at *
 generalize w4.heap.size=g2 at *
 go_upto_region 4 with (go_at_call 32;refine (kB _).mono ?_;rintro e w6 ⟨rfl,hb3⟩)
 replace hb3:=hb3.alloc hb3.size (.cells #[.string ⟨#[]⟩,.string ⟨#[]⟩,.string ⟨#[]⟩,.string ⟨#[]⟩,.string ⟨#[]⟩,.string ⟨#[]⟩] 71);replace d1:=d1.below hb3;replace d2:=d2.below hb3;replace hb:=zad hb hb.size hb3;clear hb3;generalize w6.alloc (.cells #[.string ⟨#[]⟩,.string ⟨#[]⟩,.string ⟨#[]⟩,.string ⟨#[]⟩,.string ⟨#[]⟩,.string ⟨#[]⟩] 71)=w7 at *
 generalize w6.heap.size=g3 at *
 go_upto_region 5 with (go_at_call 30;refine (kN _).mono ?_;rintro e w8 ⟨rfl,hb3⟩)
 have d3:=Bk.new w8 #[.string ⟨#[117,115,101,114]⟩,.string ⟨#[97]⟩,.string ⟨#[]⟩] 69;replace hb3:=hb3.alloc hb3.size (.cells #[.string ⟨#[117,115,101,114]⟩,.string ⟨#[97]⟩,.string ⟨#[]⟩] 69);replace d1:=d1.below hb3;replace d2:=d2.below hb3;replace hb:=zad hb hb.size hb3;clear hb3;generalize w8.alloc (.cells #[.string ⟨#[117,115,101,114]⟩,.string ⟨#[97]⟩,.string ⟨#[]⟩] 69)=w9 at *
 generalize w8.heap.size=g4 at *
 go_upto_region 6 with (go_at_call 11;refine (kC _).mono ?_;rintro e w10 ⟨⟨tx,Ay,cy,mb,Ar,cr,K,rfl,hT,hKl,r,hK,hr⟩,hb3⟩)
 have d4:=Bk.new w10 #[.string tx,.slice Ay 2 cy,.map mb,.slice Ar 1 cr] 27;have hn:=zb0 w10 (.cells #[.string tx,.slice Ay 2 cy,.map mb,.slice Ar 1 cr] 27);replace hT:=hT.up hn;replace hb3:=hb3.alloc hb3.size (.cells #[.string tx,.slice Ay 2 cy,.map mb,.slice Ar 1 cr] 27);replace d1:=d1.below hb3;replace d2:=d2.below hb3;replace d3:=d3.below hb3;replace hb:=zad hb hb.size hb3;clear hb3 hn;generalize w10.alloc (.cells #[.string tx,.slice Ay 2 cy,.map mb,.slice Ar 1 cr] 27)=w11 at *
 generalize w10.heap.size=g5 at *
 have kR:=right_any12 (tx:=tx) hT (by decide) ⟨#[100,111,99]⟩ ⟨#[49]⟩ ⟨#[114,101,97,100]⟩ ⟨#[117,115,101,114]⟩ ⟨#[97]⟩ ⟨#[]⟩ (by decide) (by decide) (by decide) (by decide) (by decide) (by decide);rw [exR_yes hK hr,hKl] at kR;obtain ⟨c0,c1,c2,c3⟩:=d4.c4;have cl:=d4.lt;obtain ⟨n0,n1,n2⟩:=d3.c3;have nl:=d3.lt;go_upto_region 7 with (go_at_call 45;refine kR.mono ?_;rintro e w12 ⟨rfl,hb3⟩)
 replace d1:=d1.below hb3;replace d2:=d2.below hb3;replace d3:=d3.below hb3;replace d4:=d4.below hb3;replace hT:=hT.up hb3;replace hb:=zad hb hb.size hb3;clear hb3 kR c0 c1 c2 c3 cl n0 n1 n2 nl;obtain ⟨c0,c1,c2,c3⟩:=d4.c4;have cl:=d4.lt;obtain ⟨n0,n1,n2⟩:=d3.c3;have nl:=d3.lt;obtain ⟨a0,a1,a2,a3,a4,a5⟩:=d1.c6;have al:=d1.lt;obtain ⟨b0,b1,b2,b3,b4,b5⟩:=d2.c6;have bl:=d2.lt;have kR:=right_any12 (tx:=tx) hT (by decide) ⟨#[100,111,99]⟩ ⟨#[49]⟩ ⟨#[114,101,97,100]⟩ ⟨#[103,114,111,117,112]⟩ ⟨#[97]⟩ ⟨#[109,101,109,98,101,114]⟩ (by decide) (by decide) (by decide) (by decide) (by decide) (by decide);rw [exR_no,hKl] at kR;go_wp2_with (first
  | (go_at_call 45;refine kR.mono ?_;rintro e w13 ⟨rfl,hb3⟩;have d1':=d1.below hb3;obtain ⟨e0,e1,e2,e3,e4,e5⟩:=d1'.c6;have el:=d1'.lt;have hb':=zad hb hb.size hb3)
  | (go_at_call 43;refine (kO _).mono ?_;rintro e w14 ⟨rfl,hb4⟩;have d1'':=d1'.below hb4;obtain ⟨f0,f1,f2,f3,f4,f5⟩:=d1''.c6;have fl:=d1''.lt;have hb'':=zad hb' hb'.size hb4)
  | (go_at_call 38;refine (kX _).mono ?_;rintro e w15 ⟨rfl,hb5⟩))
 go_ret
 exact ⟨rfl,zad hb'' hb''.size hb5⟩
end Go.Proofs.YtahegpfdbgbioaaGreat
namespace Go.Proofs.YtahegpfdbgbioaaGreat
open Go.ChangeShapes Go.WideShapes Go.ChangeAt Go.RowKit
section
variable {H:Type} {enc:TypeId × Value→H} {W:World} {base:Nat} {spare:Nat→Bool} {held:Bool}
theorem trod_node {fuel:Nat} {cs:List Value} {y:DataW H × List MemPlace} (h:DataW.trod enc Tryz.prog W base spare held fuel 69 cs=some y) :
 ∃a b c:ByteArray,cs=[.string a,.string b,.string c]∧a.size≤maxLen∧b.size≤maxLen∧c.size≤maxLen:=by
 obtain ⟨ys,n',_,rfl,hl,hyl,hg⟩:=DataW.trod_struct Tryz.underlying69 h;rw [show Tryz.prog.cellsOf 69=3 by kernel_rfl] at hl;have h1:Tryz.prog.cellsOf 9=1:=by kernel_rfl
 match cs,hl,ys,hyl with
 | [u0,u1,u2],_,[y0,y1,y2],_ =>
  have g0:DataW.trod enc Tryz.prog W base spare held n' 9 (([u0,u1,u2].drop 0).take (Tryz.prog.cellsOf 9))=some y0:=hg 0 _ rfl;have g1:DataW.trod enc Tryz.prog W base spare held n' 9 (([u0,u1,u2].drop 1).take (Tryz.prog.cellsOf 9))=some y1:=hg 1 _ rfl;have g2:DataW.trod enc Tryz.prog W base spare held n' 9 (([u0,u1,u2].drop 2).take (Tryz.prog.cellsOf 9))=some y2:=hg 2 _ rfl;rw [h1] at g0 g1 g2;obtain ⟨a,q0,_,b0⟩:=DataW.trod_string Tryz.underlying9 (x:=y0) (by simpa using g0);obtain ⟨b,q1,_,b1⟩:=DataW.trod_string Tryz.underlying9 (x:=y1) (by simpa using g1);obtain ⟨c,q2,_,b2⟩:=DataW.trod_string Tryz.underlying9 (x:=y2) (by simpa using g2);simp at q0 q1 q2;subst q0 q1 q2;exact ⟨a,b,c,rfl,b0,b1,b2⟩
theorem rd_tupleIn {v:Value} {d:DataW H} {p:List MemPlace} {r:Go.Reach} {b0:Nat} (hv:Value.okWide Tryz.prog W r b0 71 v) (h:DataW.Trod enc Tryz.prog W base spare held 71 v d p) :
 ∃a b c x y z:ByteArray,v = .agg #[.string a,.string b,.string c,.string x,.string y,.string z]∧a.size≤maxLen∧b.size≤maxLen∧c.size≤maxLen∧x.size≤maxLen∧y.size≤maxLen∧z.size≤maxLen:=by
 obtain ⟨cs,rfl,_⟩:=okWide_struct Tryz.underlying71 hv;obtain ⟨fuel,hf⟩:=h;have hf':DataW.trod enc Tryz.prog W base spare held fuel 71 cs.toList=some (d,p):=by simpa [Value.cells] using hf
 obtain ⟨ys,n',_,_,hl,hyl,hg⟩:=DataW.trod_struct Tryz.underlying71 hf';rw [show Tryz.prog.cellsOf 71=6 by kernel_rfl] at hl;have h3:Tryz.prog.cellsOf 69=3:=by kernel_rfl
 obtain ⟨cl⟩:=cs;simp only at hl hg;match cl,hl,ys,hyl with
 | [u0,u1,u2,u3,u4,u5],_,[y0,y1],_ =>
  have g0:DataW.trod enc Tryz.prog W base spare held n' 69 (([u0,u1,u2,u3,u4,u5].drop 0).take (Tryz.prog.cellsOf 69))=some y0:=hg 0 _ rfl;have g1:DataW.trod enc Tryz.prog W base spare held n' 69 (([u0,u1,u2,u3,u4,u5].drop 3).take (Tryz.prog.cellsOf 69))=some y1:=hg 1 _ rfl;rw [h3] at g0 g1;obtain ⟨a,b,c,e0,a1,a2,a3⟩:=trod_node (y:=y0) (by simpa using g0);obtain ⟨x,y,z,e1,b1,b2,b3⟩:=trod_node (y:=y1) (by simpa using g1);simp at e0 e1;obtain ⟨rfl,rfl,rfl⟩:=e0;obtain ⟨rfl,rfl,rfl⟩:=e1;exact ⟨a,b,c,x,y,z,rfl,a1,a2,a3,b1,b2,b3⟩
end
end Go.Proofs.YtahegpfdbgbioaaGreat
