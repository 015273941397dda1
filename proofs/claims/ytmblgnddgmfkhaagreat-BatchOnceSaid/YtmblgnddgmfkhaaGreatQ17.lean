import Derived.Test.YtmblgnddgmfkhaaGreatQ16
set_option maxRecDepth 100000
set_option maxHeartbeats 4000000
namespace Go.Proofs.YtmblgnddgmfkhaaGreat
section
open Go.RowKit
open Go.RowKit
def ixP (ps:List Path) (q:Path):Nat:=(zar ps q).getD 0
abbrev OpT:=Int × Int × ByteArray
def zch (ps:List Path) (tn:ByteArray) (o:OpI):OpT:=(o.1,if o.1=2∨o.1=3 then (ixP ps (tn,o.2.1):Nat) else 0,o.2.2)
structure RelT where
 tn:ByteArray
 rn:ByteArray
 view:Int
 edit:Int
 check:Int
 level:Int
 subs:List Path
 ops:List OpT
def zem (ps:List Path) (lv:Int) (x:TypI × RelI):RelT:=⟨x.1.name,x.2.name,(ixP ps (x.1.name,x.2.view):Nat),(ixP ps (x.1.name,x.2.edit):Nat),(ixP ps (x.1.name,x.2.check):Nat),lv,x.2.subs,x.2.ops.map (zch ps x.1.name)⟩
def zc5 (o:OpT):List Value:=[.int .i64 o.1,.int .i64 o.2.1,.string o.2.2]
def zbm (l:List OpT):List Value:=l.flatMap zc5
structure TabR where
 r:RelT
 As:Option Addr
 cs:Nat
 Ao:Option Addr
 co:Nat
def TabR.cells (x:TabR):List Value:=[.string x.r.tn,.string x.r.rn,.int .i64 x.r.view,.int .i64 x.r.edit,.int .i64 x.r.check,.int .i64 x.r.level,.slice x.As x.r.subs.length x.cs,.slice x.Ao x.r.ops.length x.co]
structure TabR.ok (w:World) (x:TabR):Prop where
 subs:Rd w w.heap.size 2 x.As x.r.subs.length x.cs (x.r.subs.flatMap zoH)
 ops:Rd w w.heap.size 3 x.Ao x.r.ops.length x.co (zbm x.r.ops)
 few:x.r.ops.length≤100000
theorem TabR.ok.up {w w':World} {x:TabR} (h:x.ok w) (hb:Below w.heap.size w w'):x.ok w':=⟨h.subs.up hb,h.ops.up hb,h.few⟩
def noRT:RelT:=⟨⟨#[]⟩,⟨#[]⟩,0,0,0,0,[],[]⟩
def noTR:TabR:=⟨noRT,none,0,none,0⟩
theorem zqi (w:World):noTR.ok w:=⟨Rd.none_ _ _ _,Rd.none_ _ _ _,yap _⟩
def atK (K:List TabR) (id:Int):TabR:=if 0≤id then K.getD id.toNat noTR else noTR
theorem atK_in {K:List TabR} {i:Nat} {x:TabR} (h:K[i]? = some x):atK K i=x:=by
 unfold atK;rw [yan yab,ybk,ya5,h];rfl
theorem atK_neg {K:List TabR} {id:Int} (h:id<0):atK K id=noTR:=yak yab
theorem atK_out {K:List TabR} {id:Int} (h:(K.length:Int)≤id):atK K id=noTR:=by
 unfold atK;rw [yan yab,ya5,ycD (by omega)];rfl
structure TabK (w:World) (Ar:Option Addr) (cr:Nat) (K:List TabR):Prop where
 rows:Rd w w.heap.size 8 Ar K.length cr (K.flatMap TabR.cells)
 each:∀x ∈ K,x.ok w
theorem TabK.up {w w':World} {Ar:Option Addr} {cr:Nat} {K:List TabR} (h:TabK w Ar cr K) (hb:Below w.heap.size w w'):TabK w' Ar cr K:=⟨h.rows.up hb,fun x b=>(h.each x b).up hb⟩
theorem TabK.at_ok {w:World} {Ar:Option Addr} {cr:Nat} {K:List TabR} (h:TabK w Ar cr K) (id:Int):(atK K id).ok w:=by
 unfold atK;split
 · rw [ya5];cases e:K[id.toNat]? with
   | none=>exact zqi w
   | some x=>exact h.each x (yar e)
 · exact zqi w
theorem TabK.get {w:World} {Ar:Option Addr} {cr:Nat} {K:List TabR} (h:TabK w Ar cr K) {i:Nat} {x:TabR} (hi:K[i]? = some x) :
 ∃b o,Ar=some ⟨b,o,none⟩∧b<w.heap.size∧w.cell? ⟨b,o + i * 8,none⟩=some (.string x.r.tn)∧w.cell? ⟨b,o + i * 8 + 1,none⟩=some (.string x.r.rn)∧w.cell? ⟨b,o + i * 8 + 2,none⟩=some (.int .i64 x.r.view)∧w.cell? ⟨b,o + i * 8 + 3,none⟩=some (.int .i64 x.r.edit) ∧
  w.cell? ⟨b,o + i * 8 + 4,none⟩=some (.int .i64 x.r.check)∧w.cell? ⟨b,o + i * 8 + 5,none⟩=some (.int .i64 x.r.level)∧w.cell? ⟨b,o + i * 8 + 6,none⟩=some (.slice x.As x.r.subs.length x.cs)∧w.cell? ⟨b,o + i * 8 + 7,none⟩=some (.slice x.Ao x.r.ops.length x.co):=by
 obtain ⟨b,o,e,hb,j⟩:=h.rows.at_ (zdI hi);have g:=fun k (hk:k<8)=>za6 TabR.cells (sz:=8) (fun _=>rfl) hi (k:=k) hk;have d:=fun k (hk:k<8)=>show w.cell? ⟨b,o + i * 8 + k,none⟩=x.cells[k]? by
  have:=g k hk;cases f:x.cells[k]? with
  | none=>exact absurd (ycK.1 f) (by show ¬8≤k;omega)
  | some u=>rw [f] at this;rw [ya4];exact j _ _ this
 exact ⟨b,o,e,hb,d 0 yab,d 1 yab,d 2 yab,d 3 yab,d 4 yab,d 5 yab,d 6 yab,d 7 yab⟩
theorem Bk.c8 {w:World} {b:Nat} {t:TypeId} {x0 x1 x2 x3 x4 x5 x6 x7:Value} (h:Bk w b #[x0,x1,x2,x3,x4,x5,x6,x7] t):w.cell? ⟨b,0,none⟩=some x0∧w.cell? ⟨b,1,none⟩=some x1∧w.cell? ⟨b,2,none⟩=some x2∧w.cell? ⟨b,3,none⟩=some x3∧w.cell? ⟨b,4,none⟩=some x4∧w.cell? ⟨b,5,none⟩=some x5∧w.cell? ⟨b,6,none⟩=some x6∧w.cell? ⟨b,7,none⟩=some x7:=⟨h.cell 0,h.cell 1,h.cell 2,h.cell 3,h.cell 4,h.cell 5,h.cell 6,h.cell 7⟩
theorem set8 {w w0:World} {B b:Nat} {t:TypeId} {x0 x1 x2 x3 x4 x5 x6 x7:Value} (h:Bk w0 b #[x0,x1,x2,x3,x4,x5,x6,x7] t) (hb:Below B w w0) (hB:B≤b) (v0 v1 v2 v3 v4 v5 v6 v7:Value) :
 Bk ((((((((w0.setCell ⟨b,0,none⟩ v0).setCell ⟨b,1,none⟩ v1).setCell ⟨b,2,none⟩ v2).setCell ⟨b,3,none⟩ v3).setCell ⟨b,4,none⟩ v4).setCell ⟨b,5,none⟩ v5).setCell ⟨b,6,none⟩ v6).setCell ⟨b,7,none⟩ v7) b #[v0,v1,v2,v3,v4,v5,v6,v7] t ∧
 Below B w ((((((((w0.setCell ⟨b,0,none⟩ v0).setCell ⟨b,1,none⟩ v1).setCell ⟨b,2,none⟩ v2).setCell ⟨b,3,none⟩ v3).setCell ⟨b,4,none⟩ v4).setCell ⟨b,5,none⟩ v5).setCell ⟨b,6,none⟩ v6).setCell ⟨b,7,none⟩ v7) :=
 ⟨by
  have d:=(((((((h.set 0 v0).set 1 v1).set 2 v2).set 3 v3).set 4 v4).set 5 v5).set 6 v6).set 7 v7;simp only [yaE,yaU,yaV] at d;exact d,(((((((hb.setCell hB _).setCell hB _).setCell hB _).setCell hB _).setCell hB _).setCell hB _).setCell hB _).setCell hB _⟩
section
variable {w:World} {tx:ByteArray} {Ay:Option Addr} {ny cy:Nat} {mb:Option Nat} {Ar:Option Addr} {cr:Nat} {K:List TabR}
theorem ttext_any {nr:Nat}:Calls Tryz.prog 27 #[.agg #[.string tx,.slice Ay ny cy,.map mb,.slice Ar nr cr]] w fun e w'=>e = .returned (.string tx)∧Below w.heap.size w w':=by
 go_enter Tryz.func27,Tryz.ntmps27
 go_wp2_with fail
 go_ret
 exact ⟨rfl,zdy w _⟩
def TabR.val (x:TabR):Value:=.agg #[.string x.r.tn,.string x.r.rn,.int .i64 x.r.view,.int .i64 x.r.edit,.int .i64 x.r.check,.int .i64 x.r.level,.slice x.As x.r.subs.length x.cs,.slice x.Ao x.r.ops.length x.co]
theorem at_any (h:TabK w Ar cr K) (id:Int) (hid:(Lit.int .i64 id).wf=true):Calls Tryz.prog 135 #[.agg #[.string tx,.slice Ay ny cy,.map mb,.slice Ar K.length cr],.int .i64 id] w fun e w'=>e = .returned (atK K id).val∧Below w.heap.size w w':=by
 have R:(K.length:Int)≤9223372036854775807:=by have:=h.rows.cap;have:=h.rows.capm;simp only [maxLen] at this;omega
 have A:=Bk.new w #[.string tx,.slice Ay ny cy,.map mb,.slice Ar K.length cr] 61;have d:=Bk.new2 w (.cells #[.string tx,.slice Ay ny cy,.map mb,.slice Ar K.length cr] 61) #[.string ⟨#[]⟩,.string ⟨#[]⟩,.int .i64 0,.int .i64 0,.int .i64 0,.int .i64 0,.slice none 0 0,.slice none 0 0] 242;have f:Below w.heap.size w ((w.alloc (.cells #[.string tx,.slice Ay ny cy,.map mb,.slice Ar K.length cr] 61)).alloc (.cells #[.string ⟨#[]⟩,.string ⟨#[]⟩,.int .i64 0,.int .i64 0,.int .i64 0,.int .i64 0,.slice none 0 0,.slice none 0 0] 242)):=((Below.refl _ w).alloc (yaj _) _).alloc (size_alloc (yaj _)) _;have E:=A.alloc (.cells #[.string ⟨#[]⟩,.string ⟨#[]⟩,.int .i64 0,.int .i64 0,.int .i64 0,.int .i64 0,.slice none 0 0,.slice none 0 0] 242);have L:=h.up f;go_enter Tryz.func135,Tryz.ntmps135
 go_upto_region 1 with (fail)
 generalize (w.alloc (.cells #[.string tx,.slice Ay ny cy,.map mb,.slice Ar K.length cr] 61)).alloc (.cells #[.string ⟨#[]⟩,.string ⟨#[]⟩,.int .i64 0,.int .i64 0,.int .i64 0,.int .i64 0,.slice none 0 0,.slice none 0 0] 242)=M at *
 have t3:M.cell? ⟨w.heap.size,3,none⟩=some (.slice Ar K.length cr):=E.cell 3;have T:=E.lt;have U:=d.lt;have V:=d.fz;obtain ⟨z0,X,Y,z3,z4,z5,Z,z7⟩:=d.c8;by_cases j:id<0
 · have g:=atK_neg (K:=K) j;have F:decide (id<0)=true:=yaD j;go_wp2_with fail
   obtain ⟨k,hb⟩:=set8 d f (ya8 _) (.string ⟨#[]⟩) (.string ⟨#[]⟩) (.int .i64 0) (.int .i64 0) (.int .i64 0) (.int .i64 0) (.slice none 0 0) (.slice none 0 0);obtain ⟨m,n,p,q,s,u,y,z⟩:=k.c8;refine bodyPost_ret (v:=noTR.val) (by simp [results,Tryz.results135,go_sem,m,n,p,q,s,u,y,z,TabR.val,noTR,noRT];try rfl) rfl ?_;rw [g];exact ⟨rfl,hb⟩
 · obtain ⟨i,rfl⟩:∃i:Nat,id=i:=⟨id.toNat,by omega⟩;by_cases G:i<K.length
   · obtain ⟨x,H⟩:∃x,K[i]? = some x:=⟨_,yal G⟩;have g:=atK_in H;obtain ⟨b,o,rfl,N,k0,k1,k2,k3,k4,k5,k6,k7⟩:=L.get H;have F:¬(i:Int)<0:=j;have O:¬(i:Int) ≥ (K.length:Int):=by omega
     have g3:(i:Int)<(K.length:Int):=by omega
     replace g:=Lib.hid g;clear j;obtain ⟨b',o',B,P,_⟩:=h.rows.at_ yab;injection B with B
     injection B with C D _
     subst C;subst D;have Q:¬w.heap.size + 1=b:=by omega
     have I:¬b=w.heap.size + 1:=by omega
     have J:¬b=w.heap.size:=by omega
     go_wp2_with fail
     obtain ⟨k,hb⟩:=set8 d f (ya8 _) (.string x.r.tn) (.string x.r.rn) (.int .i64 x.r.view) (.int .i64 x.r.edit) (.int .i64 x.r.check) (.int .i64 x.r.level) (.slice x.As x.r.subs.length x.cs) (.slice x.Ao x.r.ops.length x.co);obtain ⟨m,n,p,q,s,u,y,z⟩:=k.c8;refine bodyPost_ret (v:=x.val) (by simp [results,Tryz.results135,go_sem,m,n,p,q,s,u,y,z,TabR.val];try rfl) rfl ?_;rw [g.out];exact ⟨rfl,hb⟩
   · have g:=atK_out (K:=K) (id:=(i:Int)) yab;have F:¬(i:Int)<0:=j;have O:(i:Int) ≥ (K.length:Int):=by omega
     replace g:=Lib.hid g;clear j G;go_wp2_with fail
     obtain ⟨k,hb⟩:=set8 d f (ya8 _) (.string ⟨#[]⟩) (.string ⟨#[]⟩) (.int .i64 0) (.int .i64 0) (.int .i64 0) (.int .i64 0) (.slice none 0 0) (.slice none 0 0);obtain ⟨m,n,p,q,s,u,y,z⟩:=k.c8;refine bodyPost_ret (v:=noTR.val) (by simp [results,Tryz.results135,go_sem,m,n,p,q,s,u,y,z,TabR.val,noTR,noRT];try rfl) rfl ?_;rw [g.out];exact ⟨rfl,hb⟩
end
section
variable {w:World} {tx:ByteArray} {Ay:Option Addr} {ny cy:Nat} {mb:Option Nat} {Ar:Option Addr} {cr:Nat} {K:List TabR}
theorem rel_f3 (x0 x1 x2 x3 x4 x5 x6 x7:Value) (W:World):(Instr.field 242 (.agg #[x0,x1,x2,x3,x4,x5,x6,x7]) 3).run Tryz.prog W = .ok (x6) W:=by kernel_rfl
theorem TabR.val_eq (x:TabR):x.val = .agg #[.string x.r.tn,.string x.r.rn,.int .i64 x.r.view,.int .i64 x.r.edit,.int .i64 x.r.check,.int .i64 x.r.level,.slice x.As x.r.subs.length x.cs,.slice x.Ao x.r.ops.length x.co]:=rfl
theorem tmay_any (h:TabK w Ar cr K) (id:Int) (hid:(Lit.int .i64 id).wf=true) (ty re:ByteArray):Calls Tryz.prog 84 #[.agg #[.string tx,.slice Ay ny cy,.map mb,.slice Ar K.length cr],.int .i64 id,.string ty,.string re] w fun e w'=>e = .returned (.bool ((atK K id).r.subs.any fun y=>decide (y=(ty,re))))∧Below w.heap.size w w':=by
 have b:=zdy w (.cells #[.string tx,.slice Ay ny cy,.map mb,.slice Ar K.length cr] 61);have k:=at_any (tx:=tx) (Ay:=Ay) (ny:=ny) (cy:=cy) (mb:=mb) (h.up b) id hid;have f:=(h.up b).at_ok id;rw [TabR.val_eq] at k;generalize atK K id=x at *
 have m:=@rel_f3;generalize hq:(x.r.subs.any fun y=>decide (y=(ty,re)))=q;go_enter Tryz.func84,Tryz.ntmps84
 go_wp2_with (first
  | (go_at_call 135;refine k.mono ?_;rintro e o ⟨rfl,d⟩;have g:SubsA o x.As x.cs x.r.subs:=⟨f.subs.up d⟩;have n:=contains_any g (ty,re);rw [hq] at n)
  | (go_at_call 134;refine n.mono ?_;rintro e p ⟨rfl,j⟩))
 go_ret
 exact ⟨rfl,zam (zam b b.size d) (zam b b.size d).size j⟩
theorem info_top:(Tryz.prog.info? 304).map (fun i=>(i.zero,i.size,i.bytes))=some (some (.agg #[.int .i64 0,.int .i64 0,.string .empty]),3,32):=by kernel_rfl
theorem znW (a b:ByteArray):(a.toList == b.toList)=decide (a=b):=toList_inj
theorem indexS_any {A:Option Addr} {c:Nat} {l:List ByteArray} (h:Rd w w.heap.size 1 A l.length c (l.map Value.string)) (s:ByteArray) :
 Calls Tryz.prog 232 #[.slice A l.length c,.string s] w fun e w'=>(∃z:Int,e = .returned (.int .i64 z)∧decide (0≤z)=l.any fun y=>decide (y=s))∧Below w.heap.size w w':=by
 have E:(l.length:Int)≤9223372036854775807:=by have:=h.cap;have:=h.capm;simp only [maxLen] at this;omega
 go_enter Tryz.func232,Tryz.ntmps232
 go_wp2_with fail
 go_loopw [8] (fun m C=>∃i:Nat,m = .int .i64 i∧i≤l.length∧(∀y ∈ l.take i,decide (y=s)=false)∧Hid (C=w)) (fun m _=>l.length-(intOf m).toNat)
 case atStart=>exact ⟨0,rfl,yap _,fun t f=>(by simp at f),Lib.hid rfl⟩
 case round =>
  obtain ⟨i,rfl,hi,n,p⟩:=hrel;have g:=p.out;subst g;by_cases j:i<l.length
  · have q:(i:Int)<(l.length:Nat):=by omega
    obtain ⟨t,f⟩:∃t,l[i]? = some t:=⟨l[i],yal j⟩;obtain ⟨b,o,u,rfl,D,B,F⟩:=h.get j;rw [ya0,f] at B;obtain rfl:=yaX B;have x:=znW s t;have d:decide (s=t)=decide (t=s):=by rw [ya6];simp [eq_comm]
    rw [d] at x;cases k:decide (t=s) with
    | true =>
     rw [k] at x;clear d;go_wp2_with fail
     go_ret
     exact ⟨⟨_,rfl,by rw [any_at f k];exact yaD yab⟩,Below.refl _ _⟩
    | false =>
     rw [k] at x;clear d;go_wp2_with fail
     exact ⟨⟨i + 1,by go_num,by omega,zfe f n k,Lib.hid trivial⟩,by simp [intOf];omega⟩
  · have q:¬(i:Int)<(l.length:Nat):=by omega
    obtain rfl:i=l.length:=by omega
    rw [yaA] at n;go_wp2_with fail
    go_ret
    exact ⟨⟨_,rfl,by rw [zk8 n];decide⟩,Below.refl _ _⟩
theorem thas_any {nr:Nat} {l:List ByteArray} (h:Rd w w.heap.size 1 Ay l.length cy (l.map Value.string)) (s:ByteArray) :
 Calls Tryz.prog 133 #[.agg #[.string tx,.slice Ay l.length cy,.map mb,.slice Ar nr cr],.string s] w fun e w'=>e = .returned (.bool (l.any fun y=>decide (y=s)))∧Below w.heap.size w w':=by
 have d:=zdy w (.cells #[.string tx,.slice Ay l.length cy,.map mb,.slice Ar nr cr] 61);have g:∀W:World,Rd W W.heap.size 1 Ay l.length cy (l.map Value.string)→Calls Tryz.prog 183 #[.slice Ay l.length cy,.string s] W fun e w'=>e = .returned (.bool (l.any fun y=>decide (y=s)))∧Below W.heap.size W w':=by
  intro W j;have k:=indexS_any j s;go_enter Tryz.func183,Tryz.ntmps183
  go_wp2_with (go_at_call 232;refine k.mono ?_;rintro e m ⟨⟨z,rfl,f⟩,b⟩)
  by_cases n:0≤z
  · go_wp2
    go_ret
    exact ⟨by rw [←f,yaD n];rfl,b⟩
  · go_wp2
    go_ret
    exact ⟨by rw [←f];rfl,b⟩
 have o:=g _ (h.up d);go_enter Tryz.func133,Tryz.ntmps133
 go_wp2_with (go_at_call 183;refine o.mono ?_;rintro e m ⟨rfl,b⟩)
 go_ret
 exact ⟨rfl,zam d d.size b⟩
end
end
section
open Go.RowKit Go.Maps
theorem zhQ (w:World):(zeroValue 3).run Tryz.prog w = .ok (.int .i64 0) w:=by kernel_rfl
theorem named_any {w:World} {R c b:Nat} {A:Option Addr} {K:List (TypA × RelA)} {t:TypA} {r:RelA} {o:OpI} (hK:Rd w w.heap.size 6 A K.length c (zdM K)) (hM:MapS w b (zaj K)) (hok:∀x ∈ K,x.2.ok w R) (hr:r.ok w R) (ht:t.name.size≤R) (ho:o.2.1.size≤R∧o.2.2.size≤R)
 (hR:R≤140737488351232) (hf:∀x ∈ K,x.2.subs.length≤100000) (hf2:r.subs.length≤100000) :
 Calls Tryz.prog 123 #[.agg #[.slice A K.length c,.map (some b)],.agg #[.string t.name,.slice t.A t.rels.length t.c],.agg #[.string r.name,.string r.view,.string r.edit,.string r.check,.slice r.As r.subs.length r.cs,.slice r.Ao r.ops.length r.co],.agg #[.int .i64 o.1,.string o.2.1,.string o.2.2]] w fun e w' =>
  (∃A2 c2,e = .returned (.slice A2 (zc3 (zaj K) (K.map fun x=>x.2.says) t.name r.subs o).length c2)∧Rd w' w'.heap.size 1 A2 (zc3 (zaj K) (K.map fun x=>x.2.says) t.name r.subs o).length c2 (ints (zc3 (zaj K) (K.map fun x=>x.2.says) t.name r.subs o)))∧Below w.heap.size w w':=by
 obtain ⟨nm,J⟩:∃nm,zc3 (zaj K) (K.map fun x=>x.2.says) t.name r.subs o=nm:=⟨_,rfl⟩;rw [J];replace J:=Lib.hid J;obtain ⟨i0,ao,aq,ar,au⟩:=info_parts zeS;have av:(zaj K).length=K.length:=by simp [zaj]
 replace av:=Lib.hid av;have bf:=hK.cap;have bd:=hK.capm;go_enter Tryz.func123,Tryz.ntmps123
 go_upto_region 2 with (fail)
 have m:Below w.heap.size w ((((w.alloc (.cells #[.slice A K.length c,.map (some b)] 217)).alloc (.cells #[.string t.name,.slice t.A t.rels.length t.c] 199)).alloc (.cells #[.string r.name,.string r.view,.string r.edit,.string r.check,.slice r.As r.subs.length r.cs,.slice r.Ao r.ops.length r.co] 203)).alloc (.cells #[.int .i64 o.1,.string o.2.1,.string o.2.2] 222)):=((((Below.refl _ w).alloc (yaj _) _).alloc yaf _).alloc yag _).alloc yag _;have d0:=((Bk.new w #[.slice A K.length c,.map (some b)] 217).alloc (.cells #[.string t.name,.slice t.A t.rels.length t.c] 199)).alloc (.cells #[.string r.name,.string r.view,.string r.edit,.string r.check,.slice r.As r.subs.length r.cs,.slice r.Ao r.ops.length r.co] 203) |>.alloc (.cells #[.int .i64 o.1,.string o.2.1,.string o.2.2] 222);have d1:=((Bk.new (w.alloc (.cells #[.slice A K.length c,.map (some b)] 217)) #[.string t.name,.slice t.A t.rels.length t.c] 199).alloc (.cells #[.string r.name,.string r.view,.string r.edit,.string r.check,.slice r.As r.subs.length r.cs,.slice r.Ao r.ops.length r.co] 203)).alloc (.cells #[.int .i64 o.1,.string o.2.1,.string o.2.2] 222);have d2:=(Bk.new ((w.alloc (.cells #[.slice A K.length c,.map (some b)] 217)).alloc (.cells #[.string t.name,.slice t.A t.rels.length t.c] 199)) #[.string r.name,.string r.view,.string r.edit,.string r.check,.slice r.As r.subs.length r.cs,.slice r.Ao r.ops.length r.co] 203).alloc (.cells #[.int .i64 o.1,.string o.2.1,.string o.2.2] 222)
 have d3:=Bk.new (((w.alloc (.cells #[.slice A K.length c,.map (some b)] 217)).alloc (.cells #[.string t.name,.slice t.A t.rels.length t.c] 199)).alloc (.cells #[.string r.name,.string r.view,.string r.edit,.string r.check,.slice r.As r.subs.length r.cs,.slice r.Ao r.ops.length r.co] 203)) #[.int .i64 o.1,.string o.2.1,.string o.2.2] 222;simp only [World.size_alloc] at d1 d2 d3;generalize (((w.alloc (.cells #[.slice A K.length c,.map (some b)] 217)).alloc (.cells #[.string t.name,.slice t.A t.rels.length t.c] 199)).alloc (.cells #[.string r.name,.string r.view,.string r.edit,.string r.check,.slice r.As r.subs.length r.cs,.slice r.Ao r.ops.length r.co] 203)).alloc (.cells #[.int .i64 o.1,.string o.2.1,.string o.2.2] 222)=D at *
 have a0:=d0.cell 0;have a1:=d0.cell 1;have b0:=d1.cell 0;have b1:=d1.cell 1;obtain ⟨r0,r1,r2,r3,r4,r5⟩:D.cell? ⟨w.heap.size + 1 + 1,0,none⟩=some (.string r.name)∧D.cell? ⟨w.heap.size + 1 + 1,1,none⟩=some (.string r.view)∧D.cell? ⟨w.heap.size + 1 + 1,2,none⟩=some (.string r.edit)∧D.cell? ⟨w.heap.size + 1 + 1,3,none⟩=some (.string r.check)∧D.cell? ⟨w.heap.size + 1 + 1,4,none⟩=some (.slice r.As r.subs.length r.cs)∧D.cell? ⟨w.heap.size + 1 + 1,5,none⟩=some (.slice r.Ao r.ops.length r.co):=⟨d2.cell 0,d2.cell 1,d2.cell 2,d2.cell 3,d2.cell 4,d2.cell 5⟩;have o0:=d3.cell 0;have o1:=d3.cell 1;have o2:=d3.cell 2;have n:=m;by_cases U:o.1=1
 · have e1:(o.1 == 1)=true:=by simpa using U
   obtain ⟨ps,z⟩:∃ps,zdL (zaj K) (K.map fun x=>x.2.says) t.name r.subs o=ps:=⟨_,rfl⟩;have f:zeC r.subs=ps:=by rw [←z];unfold zdL;rw [yan U]
   have Z:∀p ∈ ps,SmP p:=fun p H=>by
    rw [←f] at H;have:=hr.subz p (ybd.1 H).1;exact ⟨by simp only [maxLen];omega,by simp only [maxLen];omega⟩
   have ak:ps.length≤100000:=by rw [←f];exact yax (ybf _ _) hf2
   have kS:=sets_any (w:=D) (nm:=r.name) (vi:=r.view) (ed:=r.edit) (ch:=r.check) (vo:=.slice r.Ao r.ops.length r.co) ⟨_,_,_,rfl⟩ ((hr.subs.below m).more m.size) hf2;rw [f] at kS;clear f;replace z:=Lib.hid z;go_upto_region 12 with (go_at_call 173;refine kS.mono ?_;rintro e wq ⟨⟨Ap,cp,rfl,a2⟩,aw⟩)
   have hP:Rd wq wq.heap.size 2 Ap ps.length cp (zbU ps):=by obtain ⟨A9,c9,e9,ax⟩:=Rd.own a2;cases e9;exact ax
   have n:=m.trans (aw.mono m.size);have a6:=d0.below aw;clear a0 a1 b0 b1 r0 r1 r2 r3 r4 r5 o0 o1 o2 d0 d1 d2 d3 m kS aw a2;clear U e1;have a7:=n.size;have a1:=a6.cell 1;have b2:(ps.length:Int)≤9223372036854775807:=by omega
   have a8:=hM.below n;go_wp2_with fail
   go_loopw [12,55] (fun v vi Y=>∃j:Nat,vi = .int .i64 j∧j≤ps.length∧Y.ownsRow wq.heap.size 3 1 v ((ps.take j).filterMap (zar (zaj K))).length (ints ((ps.take j).filterMap (zar (zaj K))))∧Below wq.heap.size wq Y) (fun _ vi _=>ps.length-(intOf vi).toNat)
   case atStart=>exact ⟨0,rfl,yap _,World.ownsRow_nil _ _ _ _,Below.refl _ _⟩
   case round =>
    obtain ⟨j,rfl,hj,T,q⟩:=hrel;obtain ⟨A3,c3,rfl,L⟩:=Rd.own T;by_cases aa:j<ps.length
    · have ab:(j:Int)<(ps.length:Int):=by omega
      obtain ⟨p,H⟩:∃p,ps[j]? = some p:=⟨_,yal aa⟩;have u:=Z p (yar H);obtain ⟨bp,op,rfl,b3,q0,q1⟩:=zdw (hP.below q) H rfl;have b4:((ps.take j).filterMap (zar (zaj K))).length≤j:=yax (ycq _ _) (by rw [yaK];omega);have ac:=q.size;have E:=T.alloc (.cells #[.string p.1,.string p.2] 246);have d:=q.alloc ac (.cells #[.string p.1,.string p.2] 246);have x1:=Bk.new wr #[.string p.1,.string p.2] 246;go_upto_region 15 with (fail)
      clear q0 q1 T q;generalize wr.alloc (.cells #[.string p.1,.string p.2] 246)=w1 at *
      have q0:=x1.cell 0;have q1:=x1.cell 1;have b5:=zah a1 d;have M:=(a8.below d).1;have C:=zdF u.1 u.2;obtain ⟨hh,F⟩:=zct hM.2 u;have B:Hid ((ps.take (j + 1)).filterMap (zar (zaj K))=(ps.take j).filterMap (zar (zaj K)) ++ (zar (zaj K) p).toList):=Lib.hid (by
       rw [yaC,H,yaR,List.filterMap_append];cases y:zar (zaj K) p <;> simp [y])
      have F:=Lib.hid F;cases y:zar (zaj K) p with
      | none =>
       rw [y] at hh B;have y:=Lib.hid y;go_wp2_with (at_lookup;refine wpList_lookup_own_ok_int _ rfl _ _ 215 rfl 246 3 .i64 zdG Tryz.underlying215 Tryz.underlying3 (zhQ _) b (zaj K).length _ rfl M _ _ rfl C ?_;intro cc g O)
       refine ⟨⟨j + 1,by go_num,by omega,?_,d⟩,by simp [intOf];omega⟩;rw [B.out,Option.toList_none,yaJ];exact E
      | some i =>
       rw [y] at hh B;have b6:=(yao.1 (zb0 y)).1;have y:=Lib.hid y;go_wp2_with (first
        | (at_lookup;refine wpList_lookup_own_ok_int _ rfl _ _ 215 rfl 246 3 .i64 zdG Tryz.underlying215 Tryz.underlying3 (zhQ _) b (zaj K).length _ rfl M _ _ rfl C ?_;intro cc g O;have P:cc=(i:Int):=by { have h9:=(F.out _).symm.trans g;rw [y.out] at h9;cases h9;rfl };subst P)
        | (at_builtin;go_loud (refine zab _ rfl (.tmp 67) (.tmp 69) 146 146 rfl wq.heap.size 3 i0 (.int .i64 0) 1 8 Tryz.underlying146 ao aq ar au rfl yac (.slice A3 ((ps.take j).filterMap (zar (zaj K))).length c3) _ _ rfl (E.alloc _) _ 1 [.int .i64 (i:Int)] rfl (Src.ofSlice _ Tryz.underlying146 _ 1 1 _ rfl (zbA _ _ _) (zdX [i])) yad yab (size_alloc d.size) ?_;intro v9 w8 G ad al)))
       refine ⟨⟨j + 1,by go_num,by omega,?_,zaf (d.alloc d.size _) ad (E.alloc _) (size_alloc d.size) (yaj _)⟩,by simp [intOf];omega⟩;rw [B.out,yaR,yam,zeU];exact G
    · obtain rfl:j=ps.length:=by omega
      have ab:¬(((ps.length:Nat):Int)<(ps.length:Int)):=by omega
      rw [yaA] at T L;have N:Hid (nm=ps.filterMap (zar (zaj K))):=Lib.hid (by rw [←J.out,zc3,z.out]);go_wp2_with fail
      go_ret
      rw [N.out];exact ⟨⟨A3,c3,rfl,L⟩,n.trans (q.mono a7)⟩
 · by_cases h2:o.1=2
   · have e1:(o.1 == 1)=false:=by simpa using U
     have e2:(o.1 == 2)=true:=by simpa using h2
     obtain ⟨ps,z⟩:∃ps,zdL (zaj K) (K.map fun x=>x.2.says) t.name r.subs o=ps:=⟨_,rfl⟩;have f:ps=[(t.name,o.2.1)]:=by rw [←z];unfold zdL;rw [yak U,yan h2]
     have Z:∀p ∈ ps,SmP p:=fun p H=>by
      rw [f,yas] at H;subst H;exact ⟨by simp only [maxLen];omega,by simp only [maxLen];omega⟩
     have b7:∀W:World,Rd (W.alloc (.cells #[.string t.name,.string o.2.1] 246)) (W.alloc (.cells #[.string t.name,.string o.2.1] 246)).heap.size 2 (some ⟨W.heap.size,0,none⟩) ps.length 1 (zbU ps):=fun W=>by
      rw [f];exact Rd.litX W _ _ 1 2 _ rfl rfl (by simp [maxLen])
     have am:Hid (ps.length=1):=Lib.hid (by rw [f];rfl);have ak:ps.length≤100000:=by have:=am.out;omega
     clear f;replace z:=Lib.hid z;have hP:=b7 D;have n:=m.alloc m.size (.cells #[.string t.name,.string o.2.1] 246);have a6:=d0.alloc (.cells #[.string t.name,.string o.2.1] 246);go_upto_region 11 with (fail)
     clear a0 a1 b0 b1 r0 r1 r2 r3 r4 r5 o0 o1 o2 d0 d1 d2 d3 m b7;generalize D.alloc (.cells #[.string t.name,.string o.2.1] 246)=wq at *
     obtain ⟨Ap,cp,hv,hP⟩:∃Ap cp,(Value.slice (some ⟨D.heap.size,0,none⟩) 1 1) = .slice Ap ps.length cp∧Rd wq wq.heap.size 2 Ap ps.length cp (zbU ps):=⟨_,1,by rw [am.out],hP⟩;rw [hv];clear hv U h2 e1 e2;go_upto_region 12 with (fail)
     have a7:=n.size;have a1:=a6.cell 1;have b2:(ps.length:Int)≤9223372036854775807:=by omega
     have a8:=hM.below n;go_wp2_with fail
     go_loopw [12,55] (fun v vi Y=>∃j:Nat,vi = .int .i64 j∧j≤ps.length∧Y.ownsRow wq.heap.size 3 1 v ((ps.take j).filterMap (zar (zaj K))).length (ints ((ps.take j).filterMap (zar (zaj K))))∧Below wq.heap.size wq Y) (fun _ vi _=>ps.length-(intOf vi).toNat)
     case atStart=>exact ⟨0,rfl,yap _,World.ownsRow_nil _ _ _ _,Below.refl _ _⟩
     case round =>
      obtain ⟨j,rfl,hj,T,q⟩:=hrel;obtain ⟨A3,c3,rfl,L⟩:=Rd.own T;by_cases aa:j<ps.length
      · have ab:(j:Int)<(ps.length:Int):=by omega
        obtain ⟨p,H⟩:∃p,ps[j]? = some p:=⟨_,yal aa⟩;have u:=Z p (yar H);obtain ⟨bp,op,rfl,b3,q0,q1⟩:=zdw (hP.below q) H rfl;have b4:((ps.take j).filterMap (zar (zaj K))).length≤j:=yax (ycq _ _) (by rw [yaK];omega);have ac:=q.size;have E:=T.alloc (.cells #[.string p.1,.string p.2] 246);have d:=q.alloc ac (.cells #[.string p.1,.string p.2] 246);have x1:=Bk.new wr #[.string p.1,.string p.2] 246;go_upto_region 15 with (fail)
        clear q0 q1 T q;generalize wr.alloc (.cells #[.string p.1,.string p.2] 246)=w1 at *
        have q0:=x1.cell 0;have q1:=x1.cell 1;have b5:=zah a1 d;have M:=(a8.below d).1;have C:=zdF u.1 u.2;obtain ⟨hh,F⟩:=zct hM.2 u;have B:Hid ((ps.take (j + 1)).filterMap (zar (zaj K))=(ps.take j).filterMap (zar (zaj K)) ++ (zar (zaj K) p).toList):=Lib.hid (by
         rw [yaC,H,yaR,List.filterMap_append];cases y:zar (zaj K) p <;> simp [y])
        have F:=Lib.hid F;cases y:zar (zaj K) p with
        | none =>
         rw [y] at hh B;have y:=Lib.hid y;go_wp2_with (at_lookup;refine wpList_lookup_own_ok_int _ rfl _ _ 215 rfl 246 3 .i64 zdG Tryz.underlying215 Tryz.underlying3 (zhQ _) b (zaj K).length _ rfl M _ _ rfl C ?_;intro cc g O)
         refine ⟨⟨j + 1,by go_num,by omega,?_,d⟩,by simp [intOf];omega⟩;rw [B.out,Option.toList_none,yaJ];exact E
        | some i =>
         rw [y] at hh B;have b6:=(yao.1 (zb0 y)).1;have y:=Lib.hid y;go_wp2_with (first
          | (at_lookup;refine wpList_lookup_own_ok_int _ rfl _ _ 215 rfl 246 3 .i64 zdG Tryz.underlying215 Tryz.underlying3 (zhQ _) b (zaj K).length _ rfl M _ _ rfl C ?_;intro cc g O;have P:cc=(i:Int):=by { have h9:=(F.out _).symm.trans g;rw [y.out] at h9;cases h9;rfl };subst P)
          | (at_builtin;go_loud (refine zab _ rfl (.tmp 67) (.tmp 69) 146 146 rfl wq.heap.size 3 i0 (.int .i64 0) 1 8 Tryz.underlying146 ao aq ar au rfl yac (.slice A3 ((ps.take j).filterMap (zar (zaj K))).length c3) _ _ rfl (E.alloc _) _ 1 [.int .i64 (i:Int)] rfl (Src.ofSlice _ Tryz.underlying146 _ 1 1 _ rfl (zbA _ _ _) (zdX [i])) yad yab (size_alloc d.size) ?_;intro v9 w8 G ad al)))
         refine ⟨⟨j + 1,by go_num,by omega,?_,zaf (d.alloc d.size _) ad (E.alloc _) (size_alloc d.size) (yaj _)⟩,by simp [intOf];omega⟩;rw [B.out,yaR,yam,zeU];exact G
      · obtain rfl:j=ps.length:=by omega
        have ab:¬(((ps.length:Nat):Int)<(ps.length:Int)):=by omega
        rw [yaA] at T L;have N:Hid (nm=ps.filterMap (zar (zaj K))):=Lib.hid (by rw [←J.out,zc3,z.out]);go_wp2_with fail
        go_ret
        rw [N.out];exact ⟨⟨A3,c3,rfl,L⟩,n.trans (q.mono a7)⟩
   · by_cases h3:o.1=3
     · have e1:(o.1 == 1)=false:=by simpa using U
       have e2:(o.1 == 2)=false:=by simpa using h2
       have e3:(o.1 == 3)=true:=by simpa using h3
       have ay:SmP (t.name,o.2.1):=⟨by simp only [maxLen];omega,by simp only [maxLen];omega⟩;have b8:=(hM.below m).1;have ae:=zdF ay.1 ay.2;obtain ⟨ag,af⟩:=zct hM.2 ay;have af:=Lib.hid af;cases I:zar (zaj K) (t.name,o.2.1) with
       | none =>
        have f:Hid (nm=[]):=Lib.hid (by rw [←J.out,zc3,zdL,yak U,yak h2,yan h3,I];rfl);rw [I] at ag;replace I:=Lib.hid I;go_upto_region 12 with (at_lookup;refine wpList_lookup_own_ok_int _ rfl _ _ 215 rfl 246 3 .i64 zdG Tryz.underlying215 Tryz.underlying3 (zhQ _) b (zaj K).length _ rfl b8 _ _ rfl ae ?_;intro cc g O)
        clear U h2 h3 e1 e2 e3 ag g;go_wp2_with fail
        go_loopw [12,55] (fun v vi Y=>v = .slice none 0 0∧vi = .int .i64 0∧Y=D) (fun _ _ _=>0)
        case atStart=>exact ⟨rfl,rfl,rfl⟩
        case round =>
         obtain ⟨rfl,rfl,Q⟩:=hrel;have Q:=Q.symm;subst Q;go_wp2_with fail
         go_ret
         rw [f.out];exact ⟨⟨none,0,rfl,Rd.none_ _ _ _⟩,m⟩
       | some i =>
        have b9:=(yao.1 (zb0 I)).1;rw [av.out] at b9;obtain ⟨x,hx⟩:∃x,K[i]? = some x:=⟨_,yal b9⟩;have az:=yar hx;obtain ⟨ps,z⟩:∃ps,zdL (zaj K) (K.map fun x=>x.2.says) t.name r.subs o=ps:=⟨_,rfl⟩;have f:zbI x.2.subs o.2.2=ps:=by
         rw [←z];unfold zdL;rw [yak U,yak h2,yan h3,I];simp only [ya0,hx,ybE];rfl
        have an:=hok x az;have Z:∀p ∈ ps,SmP p:=fun p H=>by
         rw [←f] at H;unfold zbI at H;obtain ⟨s,hs,rfl⟩:=yaN.1 H;have:=an.subz s (ybd.1 hs).1;exact ⟨by simp only [maxLen];omega,by simp only [maxLen];omega⟩
        have ak:ps.length≤100000:=by
         rw [←f];unfold zbI;rw [yay];exact yax (ybf _ _) (hf x az)
        obtain ⟨V,X,gA,bg,gc⟩:=hK.at_ yab;have gg:=fun k (hk:k<6)=>za6 (fun x:TypA × RelA=>x.2.cells) (sz:=6) (fun _=>rfl) hx (k:=k) hk;have ah:∀W,Below w.heap.size w W→W.cell? ⟨V,X + i * 6,none⟩=some (.string x.2.name)∧W.cell? ⟨V,X + i * 6 + 1,none⟩=some (.string x.2.view)∧W.cell? ⟨V,X + i * 6 + 2,none⟩=some (.string x.2.edit)∧W.cell? ⟨V,X + i * 6 + 3,none⟩=some (.string x.2.check)∧W.cell? ⟨V,X + i * 6 + 4,none⟩=some (.slice x.2.As x.2.subs.length x.2.cs)∧W.cell? ⟨V,X + i * 6 + 5,none⟩=some (.slice x.2.Ao x.2.ops.length x.2.co):=fun W hW =>
         ⟨zah (gc _ _ (gg 0 yab)) hW,by rw [ya4];exact zah (gc _ _ (gg 1 yab)) hW,by rw [ya4];exact zah (gc _ _ (gg 2 yab)) hW,by rw [ya4];exact zah (gc _ _ (gg 3 yab)) hW,by rw [ya4];exact zah (gc _ _ (gg 4 yab)) hW,by rw [ya4];exact zah (gc _ _ (gg 5 yab)) hW⟩
        have kN:∀W,Below D.heap.size D W→Calls Tryz.prog 174 #[.agg #[.string x.2.name,.string x.2.view,.string x.2.edit,.string x.2.check,.slice x.2.As x.2.subs.length x.2.cs,.slice x.2.Ao x.2.ops.length x.2.co],.string o.2.2] W fun e w'=>(∃A' c',e = .returned (.slice A' ps.length c')∧w'.ownsRow W.heap.size 246 2 (.slice A' ps.length c') ps.length (zbU ps))∧Below W.heap.size W w':=fun W hW=>by
         have ba:=m.trans (hW.mono m.size);have:=nexts_any (w:=W) (nm:=x.2.name) (vi:=x.2.view) (ed:=x.2.edit) (ch:=x.2.check) (vo:=.slice x.2.Ao x.2.ops.length x.2.co) o.2.2 ⟨_,_,_,rfl⟩ ((an.subs.below ba).more ba.size) (hf x az);rw [f] at this;exact this
        have bh:(i:Int)<(K.length:Int):=by omega
        rw [I] at ag;replace I:=Lib.hid I;replace hx:=Lib.hid hx;clear f gg;replace z:=Lib.hid z;replace kN:=Lib.hid kN;replace ah:=Lib.hid ah;subst gA;go_upto_region 10 with (at_lookup;refine wpList_lookup_own_ok_int _ rfl _ _ 215 rfl 246 3 .i64 zdG Tryz.underlying215 Tryz.underlying3 (zhQ _) b (zaj K).length _ rfl b8 _ _ rfl ae ?_;intro cc g O;have P:cc=(i:Int):=by { have h9:=(af.out _).symm.trans g;rw [I.out] at h9;cases h9;rfl };subst P)
        have hSc:∀W:World,Below D.heap.size D W→W.cell? ⟨w.heap.size,0,none⟩=some (.slice (some ⟨V,X,none⟩) K.length c)∧W.cell? ⟨w.heap.size + 1 + 1 + 1,2,none⟩=some (.string o.2.2)∧W.cell? ⟨V,X + i * 6,none⟩=some (.string x.2.name)∧W.cell? ⟨V,X + i * 6 + 1,none⟩=some (.string x.2.view)∧W.cell? ⟨V,X + i * 6 + 2,none⟩=some (.string x.2.edit)∧W.cell? ⟨V,X + i * 6 + 3,none⟩=some (.string x.2.check)∧W.cell? ⟨V,X + i * 6 + 4,none⟩=some (.slice x.2.As x.2.subs.length x.2.cs)∧W.cell? ⟨V,X + i * 6 + 5,none⟩=some (.slice x.2.Ao x.2.ops.length x.2.co):=fun W h=>⟨zah a0 h,zah o2 h,ah.out W (m.trans (h.mono m.size))⟩;clear U h2 h3 e1 e2 e3 ag g;have ai:Below D.heap.size D D.drew:=(Below.refl _ _).drew;refine wp_region_any yaa ?_;change wpAny _ _ _ _ _ _ _ (World.drew _);refine wpAny_of_held (S:=fun W=>Below D.heap.size D W) _ _ _ _ ?_;refine zaa 0 (some 45) yai ?_ (hy:=zu8);refine zaa 1 (some 46) yai ?_ (hy:=zu8);refine zaa 2 (some 47) yai ?_ (hy:=zu8);refine zaa 3 (some 48) yai ?_ (hy:=zu8);refine zaa 4 (some 49) yai ?_ (hy:=zu8);refine zaa 5 (some 50) yai ?_ (hy:=zu8);refine zaa 6 (some 51) yai ?_ (hy:=zu8);refine zaP 7 rfl yaa ?_;intro K9 bb;go_simp;refine (kN.out _ ai).mono ?_;rintro e4 wq ⟨⟨Ap,cp,rfl,a2⟩,bc⟩;have aj:Below D.heap.size D wq:=ai.trans (bc.mono ai.size);refine bb _ _ aj ?_
        clear bb K9 bc;refine zaa 8 (some 9) yai ?_;refine wpAnyH_done yaa ?_ _;go_upto_region 12 with (fail)
        have hP:Rd wq wq.heap.size 2 Ap ps.length cp (zbU ps):=by obtain ⟨A9,c9,e9,ax⟩:=Rd.own a2;cases e9;exact ax
        have n:=m.trans (aj.mono m.size);have a6:=d0.below aj;clear a0 a1 b0 b1 r0 r1 r2 r3 r4 r5 o0 o1 o2 d0 d1 d2 d3 m a2 hSc ai aj ah;have a7:=n.size;have a1:=a6.cell 1;have b2:(ps.length:Int)≤9223372036854775807:=by omega
        have a8:=hM.below n;go_wp2_with fail
        go_loopw [12,55] (fun v vi Y=>∃j:Nat,vi = .int .i64 j∧j≤ps.length∧Y.ownsRow wq.heap.size 3 1 v ((ps.take j).filterMap (zar (zaj K))).length (ints ((ps.take j).filterMap (zar (zaj K))))∧Below wq.heap.size wq Y) (fun _ vi _=>ps.length-(intOf vi).toNat)
        case atStart=>exact ⟨0,rfl,yap _,World.ownsRow_nil _ _ _ _,Below.refl _ _⟩
        case round =>
         obtain ⟨j,rfl,hj,T,q⟩:=hrel;obtain ⟨A3,c3,rfl,L⟩:=Rd.own T;by_cases aa:j<ps.length
         · have ab:(j:Int)<(ps.length:Int):=by omega
           obtain ⟨p,H⟩:∃p,ps[j]? = some p:=⟨_,yal aa⟩;have u:=Z p (yar H);obtain ⟨bp,op,rfl,b3,q0,q1⟩:=zdw (hP.below q) H rfl;have b4:((ps.take j).filterMap (zar (zaj K))).length≤j:=yax (ycq _ _) (by rw [yaK];omega);have ac:=q.size;have E:=T.alloc (.cells #[.string p.1,.string p.2] 246);have d:=q.alloc ac (.cells #[.string p.1,.string p.2] 246);have x1:=Bk.new wr #[.string p.1,.string p.2] 246;go_upto_region 15 with (fail)
           clear q0 q1 T q;generalize wr.alloc (.cells #[.string p.1,.string p.2] 246)=w1 at *
           have q0:=x1.cell 0;have q1:=x1.cell 1;have b5:=zah a1 d;have M:=(a8.below d).1;have C:=zdF u.1 u.2;obtain ⟨hh,F⟩:=zct hM.2 u;have B:Hid ((ps.take (j + 1)).filterMap (zar (zaj K))=(ps.take j).filterMap (zar (zaj K)) ++ (zar (zaj K) p).toList):=Lib.hid (by
            rw [yaC,H,yaR,List.filterMap_append];cases y:zar (zaj K) p <;> simp [y])
           have F:=Lib.hid F;cases y:zar (zaj K) p with
           | none =>
            rw [y] at hh B;have y:=Lib.hid y;go_wp2_with (at_lookup;refine wpList_lookup_own_ok_int _ rfl _ _ 215 rfl 246 3 .i64 zdG Tryz.underlying215 Tryz.underlying3 (zhQ _) b (zaj K).length _ rfl M _ _ rfl C ?_;intro cc g O)
            refine ⟨⟨j + 1,by go_num,by omega,?_,d⟩,by simp [intOf];omega⟩;rw [B.out,Option.toList_none,yaJ];exact E
           | some i =>
            rw [y] at hh B;have b6:=(yao.1 (zb0 y)).1;have y:=Lib.hid y;go_wp2_with (first
             | (at_lookup;refine wpList_lookup_own_ok_int _ rfl _ _ 215 rfl 246 3 .i64 zdG Tryz.underlying215 Tryz.underlying3 (zhQ _) b (zaj K).length _ rfl M _ _ rfl C ?_;intro cc g O;have P:cc=(i:Int):=by { have h9:=(F.out _).symm.trans g;rw [y.out] at h9;cases h9;rfl };subst P)
             | (at_builtin;go_loud (refine zab _ rfl (.tmp 67) (.tmp 69) 146 146 rfl wq.heap.size 3 i0 (.int .i64 0) 1 8 Tryz.underlying146 ao aq ar au rfl yac (.slice A3 ((ps.take j).filterMap (zar (zaj K))).length c3) _ _ rfl (E.alloc _) _ 1 [.int .i64 (i:Int)] rfl (Src.ofSlice _ Tryz.underlying146 _ 1 1 _ rfl (zbA _ _ _) (zdX [i])) yad yab (size_alloc d.size) ?_;intro v9 w8 G ad al)))
            refine ⟨⟨j + 1,by go_num,by omega,?_,zaf (d.alloc d.size _) ad (E.alloc _) (size_alloc d.size) (yaj _)⟩,by simp [intOf];omega⟩;rw [B.out,yaR,yam,zeU];exact G
         · obtain rfl:j=ps.length:=by omega
           have ab:¬(((ps.length:Nat):Int)<(ps.length:Int)):=by omega
           rw [yaA] at T L;have N:Hid (nm=ps.filterMap (zar (zaj K))):=Lib.hid (by rw [←J.out,zc3,z.out]);go_wp2_with fail
           go_ret
           rw [N.out];exact ⟨⟨A3,c3,rfl,L⟩,n.trans (q.mono a7)⟩
     · have e1:(o.1 == 1)=false:=by simpa using U
       have e2:(o.1 == 2)=false:=by simpa using h2
       have e3:(o.1 == 3)=false:=by simpa using h3
       have f:Hid (nm=[]):=Lib.hid (by rw [←J.out,zc3,zdL,yak U,yak h2,yak h3];rfl);go_wp2_with fail
       go_loopw [12,55] (fun v vi Y=>v = .slice none 0 0∧vi = .int .i64 0∧Y=D) (fun _ _ _=>0)
       case atStart=>exact ⟨rfl,rfl,rfl⟩
       case round =>
        obtain ⟨rfl,rfl,Q⟩:=hrel;have Q:=Q.symm;subst Q;go_wp2_with fail
        go_ret
        rw [f.out];exact ⟨⟨none,0,rfl,Rd.none_ _ _ _⟩,m⟩
end
end Go.Proofs.YtmblgnddgmfkhaaGreat
