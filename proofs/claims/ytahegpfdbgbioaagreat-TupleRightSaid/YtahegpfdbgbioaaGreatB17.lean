import Derived.Test.YtahegpfdbgbioaaGreatB16
set_option maxRecDepth 100000
set_option maxHeartbeats 4000000
namespace Go.Proofs.YtahegpfdbgbioaaGreat
def opZ (o:OpP):OpI:=((o.1:Int),o.2.1,o.2.2)
def Ex.len (t:Ex):Nat:=t.ops.length
theorem Ex.len_bin (k:Nat) (a b:Ex):(Ex.bin k a b).len=a.len + b.len + 1:=by simp [Ex.len,Ex.ops];omega
theorem Ex.len_pos (t:Ex):0<t.len:=by cases t <;> simp [Ex.len,Ex.ops] <;> omega
def Ex.cnt:Ex→Nat→Nat
 | .bin k a b,p=>if p<a.len then a.cnt p else if p<a.len + b.len then b.cnt (p-a.len) + (if k=6 then 1 else 0) else 0
 | _,_=>0
def Ex.bgn:Ex→Nat→Nat
 | .bin _ a b,i=>if i<a.len then a.bgn i else if i<a.len + b.len then a.len + b.bgn (i-a.len) else a.len
 | _,_=>0
def Ex.kd (t:Ex) (i:Nat):Nat:=(t.ops.getD i (0,⟨#[]⟩,⟨#[]⟩)).1
theorem Ex.kd_l {k:Nat} {a b:Ex} {i:Nat} (h:i<a.len):(Ex.bin k a b).kd i=a.kd i:=by
 unfold Ex.kd;rw [Ex.ops,List.getD_eq_getElem?_getD,List.getD_eq_getElem?_getD,List.append_assoc,List.getElem?_append_left h]
theorem Ex.kd_r {k:Nat} {a b:Ex} {i:Nat} (h:a.len≤i) (h2:i<a.len + b.len):(Ex.bin k a b).kd i=b.kd (i-a.len):=by
 unfold Ex.kd Ex.len at *
 rw [Ex.ops,List.getD_eq_getElem?_getD,List.getD_eq_getElem?_getD,List.append_assoc,List.getElem?_append_right h,List.getElem?_append_left (by omega)]
theorem Ex.kd_o {k:Nat} {a b:Ex}:(Ex.bin k a b).kd (a.len + b.len)=k:=by
 unfold Ex.kd Ex.len at *
 rw [Ex.ops,List.getD_eq_getElem?_getD,List.getElem?_append_right (by simp)];simp [opK]
theorem Ex.cnt_has:∀(t:Ex) (p:Nat),0<t.cnt p↔∃i,p<i∧i<t.len∧t.kd i=6∧t.bgn i≤p
 | .this,p=>⟨fun h=>by simp [Ex.cnt] at h,fun ⟨i,h1,h2,_⟩=>by simp [Ex.len,Ex.ops] at h2;omega⟩
 | .same n,p=>⟨fun h=>by simp [Ex.cnt] at h,fun ⟨i,h1,h2,_⟩=>by simp [Ex.len,Ex.ops] at h2;omega⟩
 | .via n m,p=>⟨fun h=>by simp [Ex.cnt] at h,fun ⟨i,h1,h2,_⟩=>by simp [Ex.len,Ex.ops] at h2;omega⟩
 | .bin k a b,p=>by
  have iha:=Ex.cnt_has a p;have ihb:=Ex.cnt_has b (p-a.len);have hl:=Ex.len_bin k a b;constructor
  · intro h;rw [Ex.cnt] at h;by_cases h1:p<a.len
    · rw [if_pos h1] at h;obtain ⟨i,i1,i2,i3,i4⟩:=iha.1 h;exact ⟨i,i1,by omega,by rw [Ex.kd_l i2];exact i3,by rw [Ex.bgn,if_pos i2];exact i4⟩
    · rw [if_neg h1] at h;by_cases h2:p<a.len + b.len
      · rw [if_pos h2] at h;by_cases h3:k=6
        · exact ⟨a.len + b.len,h2,by omega,by rw [Ex.kd_o];exact h3,by rw [Ex.bgn,if_neg (by omega),if_neg (by omega)];omega⟩
        · rw [if_neg h3] at h;obtain ⟨i,i1,i2,i3,i4⟩:=ihb.1 h;refine ⟨a.len + i,by omega,by omega,?_,?_⟩
          · rw [Ex.kd_r (by omega) (by omega),Nat.add_sub_cancel_left];exact i3
          · rw [Ex.bgn,if_neg (by omega),if_pos (by omega),Nat.add_sub_cancel_left];omega
      · rw [if_neg h2] at h;omega
  · rintro ⟨i,i1,i2,i3,i4⟩;rw [Ex.cnt];rw [Ex.bgn] at i4;by_cases h1:i<a.len
    · rw [if_pos h1] at i4;rw [if_pos (by omega)];exact iha.2 ⟨i,i1,h1,by rw [←Ex.kd_l h1];exact i3,i4⟩
    · rw [if_neg h1] at i4;by_cases h2:i<a.len + b.len
      · rw [if_pos h2] at i4;rw [if_neg (by omega),if_pos (by omega)];have:=ihb.2 ⟨i-a.len,by omega,by omega,by rw [←Ex.kd_r (by omega) h2];exact i3,by omega⟩;omega
      · rw [if_neg h2] at i4;obtain rfl:i=a.len + b.len:=by omega
        rw [Ex.kd_o] at i3;rw [if_neg (by omega),if_pos (by omega),if_pos i3];omega
theorem Ex.sub_at:∀(t:Ex),t.good→∀i,i<t.len→4≤t.kd i→∃(pre:List OpP) (b:Ex) (post:List OpP),t.ops=pre ++ b.ops ++ post∧b.good∧pre.length=t.bgn i∧pre.length + b.len=i
 | .this,_,i,hi,h=>by simp [Ex.len,Ex.ops] at hi;subst hi;simp [Ex.kd,Ex.ops] at h
 | .same n,_,i,hi,h=>by simp [Ex.len,Ex.ops] at hi;subst hi;simp [Ex.kd,Ex.ops] at h
 | .via n m,_,i,hi,h=>by simp [Ex.len,Ex.ops] at hi;subst hi;simp [Ex.kd,Ex.ops] at h
 | .bin k a b,hg,i,hi,h=>by
  obtain ⟨_,ga,gb⟩:=hg;rw [Ex.len_bin] at hi;rw [Ex.bgn];by_cases h1:i<a.len
  · rw [Ex.kd_l h1] at h;obtain ⟨pre,c,post,e,g,h2,h3⟩:=Ex.sub_at a ga i h1 h;refine ⟨pre,c,post ++ (b.ops ++ [opK k]),by rw [Ex.ops,e];simp,g,by rw [if_pos h1];exact h2,h3⟩
  · by_cases h2:i<a.len + b.len
    · rw [Ex.kd_r (by omega) h2] at h;obtain ⟨pre,c,post,e,g,h4,h3⟩:=Ex.sub_at b gb (i-a.len) (by omega) h;refine ⟨a.ops ++ pre,c,post ++ [opK k],by rw [Ex.ops,e];simp,g,?_,?_⟩
      · rw [if_neg h1,if_pos h2,List.length_append,h4];rfl
      · rw [List.length_append];unfold Ex.len at *;omega
    · obtain rfl:i=a.len + b.len:=by omega
      exact ⟨a.ops,b,[opK k],by rw [Ex.ops],gb,by rw [if_neg h1,if_neg h2];rfl,rfl⟩
def zfy (m:List Int) (p:Nat):Int:=(m.take p).sum
theorem ziY {m:List Int} {q:Nat} {d:Int}:∀{p:Nat},q<m.length→zfy (zed m q d) p=zfy m p + if q<p then d else 0:=by
 unfold zfy zed;induction m generalizing q with
 | nil=>intro p h;simp at h
 | cons x t ih =>
  intro p h;cases p with
  | zero=>simp
  | succ p =>
   cases q with
   | zero=>simp;omega
   | succ q =>
    have:=ih (q:=q) (p:=p) (by simpa using h);simp only [List.set_cons_succ,List.take_succ_cons,List.sum_cons,List.getD_cons_succ,this];by_cases e:q<p
    · rw [if_pos e,if_pos (by omega)];omega
    · rw [if_neg e,if_neg (by omega)];omega
theorem zhe {m:List Int} {p:Nat} (h:p<m.length):zfy m (p + 1)=zfy m p + m.getD p 0:=by
 unfold zfy;rw [List.take_add_one,List.sum_append,List.getD_eq_getElem?_getD,List.getElem?_eq_getElem h];simp
theorem zhO (m:List Int):∀(j i:Nat),j<m.length→(zeK m j).getD i 0=if i≤j then zfy m (i + 1) else m.getD i 0
 | 0,i,h=>by
  by_cases e:i≤0
  · obtain rfl:i=0:=by omega
    rw [if_pos e,zhe h,zeK];simp [zfy]
  · rw [if_neg e,zeK]
 | j + 1,i,h=>by
  have h1:=zhO m j (j + 1) (by omega);have h2:=zhO m j j (by omega);have h3:=zhO m j i (by omega);rw [if_neg (by omega)] at h1;rw [if_pos (Nat.le_refl _)] at h2;rw [zeK,List.getD_eq_getElem?_getD];by_cases e:j + 1=i
  · subst e;rw [List.getElem?_set_self (by rw [zhP];exact h),if_pos (Nat.le_refl _),Option.getD_some,h1,h2,zhe h];omega
  · rw [List.getElem?_set_ne e,←List.getD_eq_getElem?_getD,h3];by_cases e2:i≤j
    · rw [if_pos e2,if_pos (by omega)]
    · rw [if_neg e2,if_neg (by omega)]
theorem zkj (s:List Int × List Nat) (i:Nat) (a b:List OpI):ze8 s i (a ++ b)=ze8 (ze8 s i a) (i + a.length) b:=by
 induction a generalizing s i with
 | nil=>rfl
 | cons x t ih=>rw [List.cons_append,ze8,ih,ze8,List.length_cons,Nat.add_right_comm,←Nat.add_assoc]
theorem zfK (t:Ex):(t.ops.map opZ).length=t.len:=List.length_map _
theorem zgf:∀(t:Ex) (m:List Int) (bg:List Nat) (i0:Nat),t.good→i0 + t.len≤m.length →
 ∃m',ze8 (m,bg) i0 (t.ops.map opZ)=(m',bg ++ [i0])∧m'.length=m.length∧∀p,zfy m' (p + 1)=zfy m (p + 1) + if i0≤p∧p<i0 + t.len then (t.cnt (p-i0):Int) else 0
 | .this,m,bg,i0,_,_=>⟨m,rfl,rfl,fun p=>by simp [Ex.cnt]⟩
 | .same n,m,bg,i0,_,_=>⟨m,rfl,rfl,fun p=>by simp [Ex.cnt]⟩
 | .via n n2,m,bg,i0,_,_=>⟨m,rfl,rfl,fun p=>by simp [Ex.cnt]⟩
 | .bin k a b,m,bg,i0,hg,hl=>by
  obtain ⟨hk,ga,gb⟩:=hg;rw [Ex.len_bin] at hl;obtain ⟨m1,r1,l1,s1⟩:=zgf a m bg i0 ga (by omega);obtain ⟨m2,r2,l2,s2⟩:=zgf b m1 (bg ++ [i0]) (i0 + a.len) gb (by omega);have hops:(Ex.bin k a b).ops.map opZ=a.ops.map opZ ++ (b.ops.map opZ ++ [opZ (opK k)]):=by rw [Ex.ops];simp
  have hst:ze8 (m,bg) i0 ((Ex.bin k a b).ops.map opZ)=zcd (m2,bg ++ [i0] ++ [i0 + a.len]) (i0 + a.len + b.len) (k:Int):=by
   rw [hops,zkj,r1,zfK,zkj,r2,zfK];rfl
  have hlen:(bg ++ [i0] ++ [i0 + a.len]).length=bg.length + 2:=by simp
  have hlast:(bg ++ [i0] ++ [i0 + a.len]).getD ((bg ++ [i0] ++ [i0 + a.len]).length-1) 0=i0 + a.len:=by
   rw [hlen,List.getD_eq_getElem?_getD,List.getElem?_append_right (by simp)];simp
  have htake:(bg ++ [i0] ++ [i0 + a.len]).take ((bg ++ [i0] ++ [i0 + a.len]).length-1)=bg ++ [i0]:=by
   rw [hlen,List.take_append_of_le_length (by simp)];exact List.take_of_length_le (by simp)
  have hcnt:∀p,i0≤p→(Ex.bin k a b).cnt (p-i0)=if p<i0 + a.len then a.cnt (p-i0) else if p<i0 + a.len + b.len then b.cnt (p-(i0 + a.len)) + (if k=6 then 1 else 0) else 0:=fun p hp=>by
   rw [Ex.cnt];by_cases h1:p<i0 + a.len
   · rw [if_pos h1,if_pos (by omega)]
   · rw [if_neg h1,if_neg (by omega)];by_cases h2:p<i0 + a.len + b.len
     · rw [if_pos h2,if_pos (by omega),show p-i0-a.len=p-(i0 + a.len) by omega]
     · rw [if_neg h2,if_neg (by omega)]
  rw [hst];unfold zcd;dsimp only;rw [if_neg (by omega),if_pos (by omega),if_neg (by rw [hlen];omega),hlast,htake,Ex.len_bin];by_cases h6:k=6
  · subst h6;rw [if_pos (by rfl)];refine ⟨_,rfl,by rw [zcL,zcL];omega,fun p=>?_⟩;rw [ziY (by rw [zcL];omega),ziY (by omega),s2,s1];by_cases c0:i0≤p
    · have hc:=hcnt p c0;by_cases c1:p<i0 + a.len
      · rw [if_pos c1] at hc;rw [hc,if_pos ⟨c0,c1⟩,if_neg (by omega),if_neg (by omega),if_neg (by omega),if_pos ⟨c0,by omega⟩];omega
      · rw [if_neg c1] at hc;by_cases c2:p<i0 + a.len + b.len
        · rw [if_pos c2,if_pos rfl] at hc;rw [hc,if_neg (by omega),if_pos ⟨by omega,c2⟩,if_pos (by omega),if_neg (by omega),if_pos ⟨c0,by omega⟩];omega
        · rw [if_neg c2] at hc;rw [hc,if_neg (by omega),if_neg (by omega),if_pos (by omega),if_pos (by omega)];by_cases c3:p<i0 + (a.len + b.len + 1)
          · rw [if_pos ⟨c0,c3⟩];omega
          · rw [if_neg (by omega)];omega
    · rw [if_neg (by omega),if_neg (by omega),if_neg (by omega),if_neg (by omega),if_neg (by omega)];omega
  · rw [if_neg (by omega)];refine ⟨_,rfl,by omega,fun p=>?_⟩;rw [s2,s1];by_cases c0:i0≤p
    · have hc:=hcnt p c0;by_cases c1:p<i0 + a.len
      · rw [if_pos c1] at hc;rw [hc,if_pos ⟨c0,c1⟩,if_neg (by omega),if_pos ⟨c0,by omega⟩];omega
      · rw [if_neg c1] at hc;by_cases c2:p<i0 + a.len + b.len
        · rw [if_pos c2,if_neg h6] at hc;rw [hc,if_neg (by omega),if_pos ⟨by omega,c2⟩,if_pos ⟨c0,by omega⟩];omega
        · rw [if_neg c2] at hc;rw [hc,if_neg (by omega),if_neg (by omega)];by_cases c3:p<i0 + (a.len + b.len + 1)
          · rw [if_pos ⟨c0,c3⟩];omega
          · rw [if_neg (by omega)];omega
    · rw [if_neg (by omega),if_neg (by omega),if_neg (by omega)];omega
theorem zjS (n p:Nat):zfy (List.replicate n 0) p=0:=by
 unfold zfy;rw [List.take_replicate,List.sum_replicate_int];simp
theorem zfS {t:Ex} (hg:t.good) {p:Nat} (hp:p<t.len):zaT (t.ops.map opZ) p=decide (0<t.cnt p):=by
 unfold zaT zhF;rw [zfK];obtain ⟨m',h1,h2,h3⟩:=zgf t (List.replicate (t.len + 1) 0) [] 0 hg (by simp);rw [h1];have hl:t.len<m'.length:=by rw [h2];simp
 dsimp only;rw [zhO m' t.len p hl,if_pos (by omega),h3,zjS,if_pos ⟨by omega,by omega⟩];simp
def zdk (ps:List Path) (q:Path):Int:=match zao ps q with
 | some i=>(i:Int)
 | none=>-1
theorem zeG {ps:List Path} {q:Path} {i:Nat} (h:zao ps q=some i):zdk ps q=i:=by unfold zdk;rw [h]
theorem zgj {ps:List Path} {q:Path} (h:q ∉ ps):zdk ps q = -1:=by
 unfold zdk;cases e:zao ps q with
 | none=>rfl
 | some i=>exact absurd (List.mem_of_getElem? (zaX e)) h
theorem ziQ (t:TypI) (b:List TypI):zap (t::b)=(t.rels.map fun r=>(t.name,r.name)) ++ zap b:=by
 unfold zap zaA;rw [List.flatMap_cons,List.map_append,List.map_map];rfl
theorem zeD {l:List TypI} {a b:ByteArray}:(a,b) ∈ zap l↔∃t ∈ l,∃r ∈ t.rels,t.name=a∧r.name=b:=by
 unfold zap zaA;simp only [List.mem_map,List.mem_flatMap];constructor
 · rintro ⟨_,⟨t,ht,r,hr,rfl⟩,e⟩;simp only [Prod.mk.injEq] at e;exact ⟨t,ht,r,hr,e.1,e.2⟩
 · rintro ⟨t,ht,r,hr,rfl,rfl⟩;exact ⟨_,⟨t,ht,r,hr,rfl⟩,rfl⟩
theorem zgo:∀(l:List TypI),(l.map (·.name)).Nodup→(∀t ∈ l,(t.rels.map (·.name)).Nodup)→(zap l).Nodup
 | [],_,_=>List.nodup_nil
 | t::q,h,hr=>by
  rw [ziQ,List.nodup_append];rw [List.map_cons,List.nodup_cons] at h;refine ⟨?_,zgo q h.2 fun t ht=>hr t (List.mem_cons_of_mem _ ht),fun x hx y hy=>?_⟩
  · have:=hr t List.mem_cons_self;unfold List.Nodup at this ⊢;rw [List.pairwise_map] at this ⊢;exact this.imp fun h e=>h (Prod.ext_iff.1 e).2
  · obtain ⟨r,_,rfl⟩:=List.mem_map.1 hx;rintro rfl;obtain ⟨u,hu,s,_,e,_⟩:=zeD.1 hy;exact h.1 (List.mem_map.2 ⟨u,hu,e⟩)
theorem Right.paths {l:List TypI} (h:Right l):(zap l).Nodup:=zgo l h.names fun t ht=>(h.rels t ht).names
theorem split_at {α:Type} {l:List α} {i:Nat} {t:α} (h:l[i]? = some t):l=l.take i ++ t::l.drop (i + 1):=by
 obtain ⟨hi,rfl⟩:=List.getElem?_eq_some_iff.1 h;rw [←List.drop_eq_getElem_cons hi,List.take_append_drop]
theorem zne {l:List TypI} {i k:Nat} {t:TypI} {r:RelI} (ht:l[i]? = some t) (hr:t.rels[k]? = some r):(zaA l)[(zaA (l.take i)).length + k]? = some (t,r):=by
 have e:zaA l=zaA (l.take i) ++ ((t.rels.map fun r=>(t,r)) ++ zaA (l.drop (i + 1))):=by
  conv=>lhs;rw [split_at ht]
  unfold zaA;rw [List.flatMap_append,List.flatMap_cons]
 rw [e,List.getElem?_append_right (Nat.le_add_right _ _),Nat.add_sub_cancel_left,List.getElem?_append_left (by rw [List.length_map];exact (List.getElem?_eq_some_iff.1 hr).1),List.getElem?_map,hr];rfl
theorem zmY {l:List TypI} (h:Right l) {i k:Nat} {t:TypI} {r:RelI} (ht:l[i]? = some t) (hr:t.rels[k]? = some r):zao (zap l) (t.name,r.name)=some ((zaA (l.take i)).length + k):=by
 refine zjq h.paths ?_;unfold zap;rw [List.getElem?_map,zne ht hr];rfl
theorem num_rel {l:List TypI} (h:Right l) {t:TypI} (ht:t ∈ l) {n:ByteArray} (hn:∀r ∈ t.rels,r.name≠n):zdk (zap l) (t.name,n) = -1:=zgj fun m=>by
 obtain ⟨u,hu,r,hr,e1,e2⟩:=zeD.1 m;have h1:=h.names;have:u=t:=by
  obtain ⟨a,ha,rfl⟩:=List.getElem_of_mem hu;obtain ⟨b,hb,rfl⟩:=List.getElem_of_mem ht;have H:=List.pairwise_iff_getElem.1 h1;simp only [List.length_map,List.getElem_map] at H;rcases Nat.lt_trichotomy a b with hl | rfl | hl
  · exact absurd e1 (H a b ha hb hl)
  · rfl
  · exact absurd e1.symm (H b a hb ha hl)
 subst this;exact hn r hr e2
theorem num_typ {l:List TypI} {a b:ByteArray} (hn:∀t ∈ l,t.name≠a):zdk (zap l) (a,b) = -1:=zgj fun m=>by
 obtain ⟨u,hu,_,_,e1,_⟩:=zeD.1 m;exact hn u hu e1
theorem zm5 {l:List TypI} (h:Right l) {i k:Nat} {t:TypI} {x:RelI} (ht:l[i]? = some t) (hx:t.rels[k]? = some x) (subs:List Path) (m:ByteArray) :
 zbk (zap l) ((zaA l).map (·.2)) t.name subs (3,x.name,m)=zbc x.subs m:=by
 unfold zbk;rw [if_neg (by intro h;cases h),if_neg (by intro h;cases h),if_pos rfl];dsimp only;rw [zmY h ht hx];dsimp only;rw [List.getElem?_map,zne ht hx];rfl
def zjJ (ps:List Path) (qs:List Path) (f:Nat) (b:Bool):List Ed:=qs.map fun p=>((f:Int),zdk ps p,b)
theorem raw_mem {ps qs:List Path} {f:Nat} {b:Bool} (e:Ed):e ∈ (qs.filterMap (zao ps)).map (fun q2=>((f:Int),((q2:Nat):Int),b))↔e ∈ zjJ ps qs f b∧0≤e.2.1:=by
 simp only [List.mem_map,List.mem_filterMap,zjJ];constructor
 · rintro ⟨q2,⟨p,hp,e1⟩,rfl⟩;exact ⟨⟨p,hp,by rw [zeG e1]⟩,by simp⟩
 · rintro ⟨⟨p,hp,rfl⟩,h⟩;cases e:zao ps p with
   | none=>unfold zdk at h;rw [e] at h;simp at h
   | some i=>exact ⟨i,⟨p,hp,e⟩,by rw [zeG e]⟩
structure IsE (Z S:List Ed):Prop where
 up:zes Z
 mem:∀e,e ∈ Z↔e ∈ S∧0≤e.2.1
theorem IsE.nil:IsE [] []:=⟨List.Pairwise.nil,fun e=>by simp⟩
theorem cfE_gt {a b:Ed} (h:a≠b) (h2:¬cfE b a<0):cfE a b<0:=by
 rw [zdx] at *
 have h3:¬(a.1=b.1∧a.2.1=b.2.1∧riI a=riI b):=fun ⟨e1,e2,e3⟩=>h (by
  refine Prod.ext e1 (Prod.ext e2 ?_);unfold riI at e3;cases ha:a.2.2 <;> cases hb:b.2.2 <;> simp [ha,hb] at e3 ⊢)
 omega
theorem zl2 {a b c:Ed} (h:cfE a b<0) (k:cfE b c<0):cfE a c<0:=by rw [zdx] at *;omega
theorem IsE.same {Z S:List Ed} {x:Ed} (h:IsE Z S) (hx:x.2.1<0∨x ∈ Z):IsE Z (S ++ [x]):=⟨h.up,fun e=>by
 rw [h.mem,List.mem_append,List.mem_singleton];constructor
 · rintro ⟨a,b⟩;exact ⟨.inl a,b⟩
 · rintro ⟨a | rfl,b⟩
   · exact ⟨a,b⟩
   · rcases hx with hx | hx
     · omega
     · exact (h.mem _).1 hx⟩
theorem IsE.put {Z S:List Ed} {x:Ed} {at_:Nat} (h:IsE Z S) (h0:0≤x.2.1) (hb:∀y ∈ Z.take at_,cfE y x<0) (hs:∀y,Z[at_]? = some y→¬cfE y x<0∧y≠x):IsE (Z.take at_ ++ x::Z.drop at_) (S ++ [x]):=by
 have hz:=h.up;rw [←List.take_append_drop at_ Z] at hz;unfold zes at hz;rw [List.pairwise_append] at hz;obtain ⟨p1,p2,p3⟩:=hz;refine ⟨?_,fun e=>?_⟩
 · unfold zes;rw [List.pairwise_append,List.pairwise_cons];have hd:∀z ∈ Z.drop at_,cfE x z<0:=by
    cases e:Z.drop at_ with
    | nil=>intro z hz;cases hz
    | cons y q =>
     have hy:Z[at_]? = some y:=by
      have:=congrArg List.head? e;rw [List.head?_drop] at this;simpa using this
     obtain ⟨s1,s2⟩:=hs y hy;have hxy:cfE x y<0:=cfE_gt (fun e=>s2 e.symm) s1;rw [e,List.pairwise_cons] at p2;intro z hz;rcases List.mem_cons.1 hz with rfl | hz
     · exact hxy
     · exact zl2 hxy (p2.1 z hz)
   refine ⟨p1,⟨hd,p2⟩,fun y hy z hz=>?_⟩;rcases List.mem_cons.1 hz with rfl | hz
   · exact hb y hy
   · exact p3 y hy z hz
 · have:=h.mem e;rw [←List.take_append_drop at_ Z,List.mem_append] at this;rw [List.mem_append,List.mem_cons,List.mem_append,List.mem_singleton];constructor
   · rintro (a | rfl | a)
     · have:=this.1 (.inl a);exact ⟨.inl this.1,this.2⟩
     · exact ⟨.inr rfl,h0⟩
     · have:=this.1 (.inr a);exact ⟨.inl this.1,this.2⟩
   · rintro ⟨a | rfl,b⟩
     · rcases this.2 ⟨a,b⟩ with c | c
       · exact .inl c
       · exact .inr (.inr c)
     · exact .inr (.inl rfl)
theorem Right.rels_le {l:List TypI} (h:Right l):(zaA l).length≤96:=by
 have H:∀q:List TypI,(∀t ∈ q,t.rels.length≤12)→(zaA q).length≤q.length * 12:=fun q=>by
  induction q with
  | nil=>intro _;simp [zaA]
  | cons t q ih =>
   intro hq;have h1:=ih fun t ht=>hq t (List.mem_cons_of_mem _ ht);have h2:=hq t List.mem_cons_self;unfold zaA at *
   rw [List.flatMap_cons,List.length_append,List.length_map,List.length_cons];omega
 have h1:=H l fun t ht=>(h.rels t ht).few;have h2:=h.few;omega
theorem few10 (s:ByteArray):Few 2049 (zah s).1:=by
 by_cases h0:(zbQ s).2.1=0
 · have hz:=zfB h0;obtain ⟨v,e0,eA⟩:=zfC hz h0;refine ziK ?_;rw [eA];have:=zh4 _ s 0 (Nat.le_refl _);omega
 · unfold zah;rw [if_neg h0];exact ⟨Nat.zero_le _,fun t ht=>by cases ht⟩
theorem NmW.size10 {n:ByteArray} (h:NmW n):n.size≤140737488351232:=Nat.le_trans (zgg h.1) (by decide)
theorem zgl:∀t:Ex,t.good→t.nm→∀o ∈ t.ops,(Lit.int .i64 (o.1:Nat)).wf=true∧o.2.1.size≤140737488351232∧o.2.2.size≤140737488351232
 | .this,_,_=>fun o ho=>by rw [List.mem_singleton.1 ho];exact ⟨by decide,Nat.zero_le _,Nat.zero_le _⟩
 | .same n,_,h=>fun o ho=>by
  have h2:NmW n:=h;rw [List.mem_singleton.1 ho];exact ⟨by rfl,h2.size10,Nat.zero_le _⟩
 | .via n m,_,h=>fun o ho=>by
  have h2:NmW n∧NmW m:=h;rw [List.mem_singleton.1 ho];exact ⟨by rfl,h2.1.size10,h2.2.size10⟩
 | .bin k a b,g,h=>fun o ho=>by
  rcases List.mem_append.1 ho with ho | ho
  · rcases List.mem_append.1 ho with ho | ho
    · exact zgl a g.2.1 h.1 o ho
    · exact zgl b g.2.2 h.2 o ho
  · rw [List.mem_singleton.1 ho];refine ⟨?_,Nat.zero_le _,Nat.zero_le _⟩;rcases g.1 with rfl | rfl | rfl <;> rfl
theorem zfg (s:ByteArray):∀t ∈ (zah s).1,t.name.size≤140737488351232∧t.rels.length * 112≤140737488351232∧∀x ∈ t.rels,SmI 140737488351232 x:=fun t ht=>by
 have g:=zda s t ht;have f:=(few10 s).2 t ht;refine ⟨g.name.size10,by have:=f.1;omega,fun x hx=>?_⟩;have gx:=g.rels x hx;have fx:=f.2 x hx;obtain ⟨e,he,h1,h2,_⟩:=gx.ops;exact ⟨gx.name.size10,gx.view.size10,gx.edit.size10,gx.check.size10,by have:=fx.1;omega,fun q hq=>⟨(gx.subs q hq).1.size10,by
  rcases (gx.subs q hq).2 with e | e
  · rw [e];exact Nat.zero_le _
  · exact e.size10⟩,by have:=fx.2;omega,fun o ho=>zgl e h1 h2 o (he ▸ ho)⟩
theorem zh2 (s:ByteArray):(zah s).1.length * 40≤140737488351232:=by have:=(few10 s).1;omega
theorem zgx {s:ByteArray} {t:TypI} (ht:t ∈ (zah s).1.map zbf) {r:RelI} (hr:r ∈ t.rels):∃e:Ex,r.ops=e.ops.map opZ∧e.good∧r.ops.length≤2049∧r.subs.length≤2049:=by
 obtain ⟨t0,h0,rfl⟩:=List.mem_map.1 ht;obtain ⟨r0,h1,rfl⟩:=List.mem_map.1 hr;obtain ⟨e,he,h2,_⟩:=((zda s t0 h0).rels r0 h1).ops;have f:=((few10 s).2 t0 h0).2 r0 h1;exact ⟨e,by show r0.ops.map opI=_;rw [he];rfl,h2,by show (r0.ops.map opI).length≤_;rw [List.length_map];exact f.2,f.1⟩
def NoM (l:List Tk):Prop:=∀t ∈ l,t.2.1≠sg 45
theorem NoM.tail {l:List Tk} (h:NoM l):NoM l.tail:=fun t ht=>h t (List.mem_of_mem_tail ht)
theorem NoM.name {l r:List Tk} {n:ByteArray} (h:NoM l) (e:zaS l = .ok (n,r)):NoM r:=by
 unfold zaS at e;split at e
 · cases e;exact h.tail
 · cases e
theorem NoM.need {l r:List Tk} {s:ByteArray} {u:Unit} (h:NoM l) (e:zaG s l = .ok (u,r)):NoM r:=by
 unfold zaG at e;split at e
 · cases e;exact h.tail
 · cases e
theorem NoM.op {l:List Tk} (h:NoM l):opT l≠6:=by
 unfold opT;split
 · decide
 · split
   · decide
   · split
     · rename_i hc
       unfold isT at hc;have:=(of_decide_eq_true hc).1;cases l with
       | nil=>exact absurd this (by decide)
       | cons a t=>exact absurd this (h a List.mem_cons_self)
     · decide
end Go.Proofs.YtahegpfdbgbioaaGreat
namespace Go.Proofs.YtahegpfdbgbioaaGreat
open Go.RowKit
open Go.RowKit
def ixP (ps:List Path) (q:Path):Nat:=(zao ps q).getD 0
abbrev OpT:=Int × Int × ByteArray
def zbK (ps:List Path) (tn:ByteArray) (o:OpI):OpT:=(o.1,if o.1=2∨o.1=3 then (ixP ps (tn,o.2.1):Nat) else 0,o.2.2)
structure RelT where
 tn:ByteArray
 rn:ByteArray
 view:Int
 edit:Int
 check:Int
 level:Int
 subs:List Path
 ops:List OpT
def zcY (ps:List Path) (lv:Int) (x:TypI × RelI):RelT:=⟨x.1.name,x.2.name,(ixP ps (x.1.name,x.2.view):Nat),(ixP ps (x.1.name,x.2.edit):Nat),(ixP ps (x.1.name,x.2.check):Nat),lv,x.2.subs,x.2.ops.map (zbK ps x.1.name)⟩
def zcW (o:OpT):List Value:=[.int .i64 o.1,.int .i64 o.2.1,.string o.2.2]
def zbu (l:List OpT):List Value:=l.flatMap zcW
structure TabR where
 r:RelT
 As:Option Addr
 cs:Nat
 Ao:Option Addr
 co:Nat
def TabR.cells (x:TabR):List Value:=[.string x.r.tn,.string x.r.rn,.int .i64 x.r.view,.int .i64 x.r.edit,.int .i64 x.r.check,.int .i64 x.r.level,.slice x.As x.r.subs.length x.cs,.slice x.Ao x.r.ops.length x.co]
structure TabR.ok (w:World) (x:TabR):Prop where
 subs:Rd w w.heap.size 2 x.As x.r.subs.length x.cs (x.r.subs.flatMap zjU)
 ops:Rd w w.heap.size 3 x.Ao x.r.ops.length x.co (zbu x.r.ops)
 few:x.r.ops.length≤100000
theorem TabR.ok.up {w w':World} {x:TabR} (h:x.ok w) (hb:Below w.heap.size w w'):x.ok w':=⟨h.subs.up hb,h.ops.up hb,h.few⟩
def noRT:RelT:=⟨⟨#[]⟩,⟨#[]⟩,0,0,0,0,[],[]⟩
def noTR:TabR:=⟨noRT,none,0,none,0⟩
theorem zmU (w:World):noTR.ok w:=⟨Rd.none_ _ _ _,Rd.none_ _ _ _,Nat.zero_le _⟩
def atK (K:List TabR) (id:Int):TabR:=if 0≤id then K.getD id.toNat noTR else noTR
theorem zlU {K:List TabR} {i:Nat} {x:TabR} (h:K[i]? = some x):atK K i=x:=by
 unfold atK;rw [if_pos (by omega),Int.toNat_natCast,List.getD_eq_getElem?_getD,h];rfl
theorem zlV {K:List TabR} {id:Int} (h:id<0):atK K id=noTR:=if_neg (by omega)
theorem zjb {K:List TabR} {id:Int} (h:(K.length:Int)≤id):atK K id=noTR:=by
 unfold atK;rw [if_pos (by omega),List.getD_eq_getElem?_getD,List.getElem?_eq_none (by omega)];rfl
structure TabK (w:World) (Ar:Option Addr) (cr:Nat) (K:List TabR):Prop where
 rows:Rd w w.heap.size 8 Ar K.length cr (K.flatMap TabR.cells)
 each:∀x ∈ K,x.ok w
theorem TabK.up {w w':World} {Ar:Option Addr} {cr:Nat} {K:List TabR} (h:TabK w Ar cr K) (hb:Below w.heap.size w w'):TabK w' Ar cr K:=⟨h.rows.up hb,fun x hx=>(h.each x hx).up hb⟩
theorem TabK.at_ok {w:World} {Ar:Option Addr} {cr:Nat} {K:List TabR} (h:TabK w Ar cr K) (id:Int):(atK K id).ok w:=by
 unfold atK;split
 · rw [List.getD_eq_getElem?_getD];cases e:K[id.toNat]? with
   | none=>exact zmU w
   | some x=>exact h.each x (List.mem_of_getElem? e)
 · exact zmU w
theorem TabK.get {w:World} {Ar:Option Addr} {cr:Nat} {K:List TabR} (h:TabK w Ar cr K) {i:Nat} {x:TabR} (hi:K[i]? = some x) :
 ∃b o,Ar=some ⟨b,o,none⟩∧b<w.heap.size∧w.cell? ⟨b,o + i * 8,none⟩=some (.string x.r.tn)∧w.cell? ⟨b,o + i * 8 + 1,none⟩=some (.string x.r.rn)∧w.cell? ⟨b,o + i * 8 + 2,none⟩=some (.int .i64 x.r.view)∧w.cell? ⟨b,o + i * 8 + 3,none⟩=some (.int .i64 x.r.edit) ∧
  w.cell? ⟨b,o + i * 8 + 4,none⟩=some (.int .i64 x.r.check)∧w.cell? ⟨b,o + i * 8 + 5,none⟩=some (.int .i64 x.r.level)∧w.cell? ⟨b,o + i * 8 + 6,none⟩=some (.slice x.As x.r.subs.length x.cs)∧w.cell? ⟨b,o + i * 8 + 7,none⟩=some (.slice x.Ao x.r.ops.length x.co):=by
 obtain ⟨b,o,e,hb,hc⟩:=h.rows.at_ (zd9 hi);have g:=fun k (hk:k<8)=>zbs TabR.cells (sz:=8) (fun _=>rfl) hi (k:=k) hk;have g':=fun k (hk:k<8)=>show w.cell? ⟨b,o + i * 8 + k,none⟩=x.cells[k]? by
  have:=g k hk;cases hq:x.cells[k]? with
  | none=>exact absurd (List.getElem?_eq_none_iff.1 hq) (by show ¬8≤k;omega)
  | some u=>rw [hq] at this;rw [Nat.add_assoc];exact hc _ _ this
 exact ⟨b,o,e,hb,g' 0 (by omega),g' 1 (by omega),g' 2 (by omega),g' 3 (by omega),g' 4 (by omega),g' 5 (by omega),g' 6 (by omega),g' 7 (by omega)⟩
theorem Bk.c8 {w:World} {b:Nat} {t:TypeId} {x0 x1 x2 x3 x4 x5 x6 x7:Value} (h:Bk w b #[x0,x1,x2,x3,x4,x5,x6,x7] t):w.cell? ⟨b,0,none⟩=some x0∧w.cell? ⟨b,1,none⟩=some x1∧w.cell? ⟨b,2,none⟩=some x2∧w.cell? ⟨b,3,none⟩=some x3∧w.cell? ⟨b,4,none⟩=some x4∧w.cell? ⟨b,5,none⟩=some x5∧w.cell? ⟨b,6,none⟩=some x6∧w.cell? ⟨b,7,none⟩=some x7:=⟨h.cell 0,h.cell 1,h.cell 2,h.cell 3,h.cell 4,h.cell 5,h.cell 6,h.cell 7⟩
theorem set8 {w w0:World} {B b:Nat} {t:TypeId} {x0 x1 x2 x3 x4 x5 x6 x7:Value} (h:Bk w0 b #[x0,x1,x2,x3,x4,x5,x6,x7] t) (hb:Below B w w0) (hB:B≤b) (v0 v1 v2 v3 v4 v5 v6 v7:Value) :
 Bk ((((((((w0.setCell ⟨b,0,none⟩ v0).setCell ⟨b,1,none⟩ v1).setCell ⟨b,2,none⟩ v2).setCell ⟨b,3,none⟩ v3).setCell ⟨b,4,none⟩ v4).setCell ⟨b,5,none⟩ v5).setCell ⟨b,6,none⟩ v6).setCell ⟨b,7,none⟩ v7) b #[v0,v1,v2,v3,v4,v5,v6,v7] t ∧
 Below B w ((((((((w0.setCell ⟨b,0,none⟩ v0).setCell ⟨b,1,none⟩ v1).setCell ⟨b,2,none⟩ v2).setCell ⟨b,3,none⟩ v3).setCell ⟨b,4,none⟩ v4).setCell ⟨b,5,none⟩ v5).setCell ⟨b,6,none⟩ v6).setCell ⟨b,7,none⟩ v7) :=
 ⟨by
  have hw:=(((((((h.set 0 v0).set 1 v1).set 2 v2).set 3 v3).set 4 v4).set 5 v5).set 6 v6).set 7 v7;simp only [List.setIfInBounds_toArray,List.set_cons_zero,List.set_cons_succ] at hw;exact hw,(((((((hb.setCell hB _).setCell hB _).setCell hB _).setCell hB _).setCell hB _).setCell hB _).setCell hB _).setCell hB _⟩
section
variable {w:World} {tx:ByteArray} {Ay:Option Addr} {ny cy:Nat} {mb:Option Nat} {Ar:Option Addr} {cr:Nat} {K:List TabR}
def TabR.val (x:TabR):Value:=.agg #[.string x.r.tn,.string x.r.rn,.int .i64 x.r.view,.int .i64 x.r.edit,.int .i64 x.r.check,.int .i64 x.r.level,.slice x.As x.r.subs.length x.cs,.slice x.Ao x.r.ops.length x.co]
theorem at_any (h:TabK w Ar cr K) (id:Int) (hid:(Lit.int .i64 id).wf=true):Calls Tryz.prog 62 #[.agg #[.string tx,.slice Ay ny cy,.map mb,.slice Ar K.length cr],.int .i64 id] w fun e w'=>e = .returned (atK K id).val∧Below w.heap.size w w':=by
 have hl:(K.length:Int)≤9223372036854775807:=by have:=h.rows.cap;have:=h.rows.capm;simp only [maxLen] at this;omega
 have hb0:=Bk.new w #[.string tx,.slice Ay ny cy,.map mb,.slice Ar K.length cr] 27;have hz0:=Bk.new2 w (.cells #[.string tx,.slice Ay ny cy,.map mb,.slice Ar K.length cr] 27) #[.string ⟨#[]⟩,.string ⟨#[]⟩,.int .i64 0,.int .i64 0,.int .i64 0,.int .i64 0,.slice none 0 0,.slice none 0 0] 122;have hB0:Below w.heap.size w ((w.alloc (.cells #[.string tx,.slice Ay ny cy,.map mb,.slice Ar K.length cr] 27)).alloc (.cells #[.string ⟨#[]⟩,.string ⟨#[]⟩,.int .i64 0,.int .i64 0,.int .i64 0,.int .i64 0,.slice none 0 0,.slice none 0 0] 122)):=((Below.refl _ w).alloc (Nat.le_refl _) _).alloc (size_alloc (Nat.le_refl _)) _;have hT:=hb0.alloc (.cells #[.string ⟨#[]⟩,.string ⟨#[]⟩,.int .i64 0,.int .i64 0,.int .i64 0,.int .i64 0,.slice none 0 0,.slice none 0 0] 122);have h0:=h.up hB0;go_enter Tryz.func62,Tryz.ntmps62
 go_upto_region 1 with (fail)
 generalize (w.alloc (.cells #[.string tx,.slice Ay ny cy,.map mb,.slice Ar K.length cr] 27)).alloc (.cells #[.string ⟨#[]⟩,.string ⟨#[]⟩,.int .i64 0,.int .i64 0,.int .i64 0,.int .i64 0,.slice none 0 0,.slice none 0 0] 122)=w0 at *
 have t3:w0.cell? ⟨w.heap.size,3,none⟩=some (.slice Ar K.length cr):=hT.cell 3;have tl:=hT.lt;have zl:=hz0.lt;have zf:=hz0.fz;obtain ⟨z0,z1,z2,z3,z4,z5,z6,z7⟩:=hz0.c8;by_cases h1:id<0
 · have e1:=zlV (K:=K) h1;have g1:decide (id<0)=true:=decide_eq_true h1;go_wp2_with fail
   obtain ⟨hw,hb⟩:=set8 hz0 hB0 (Nat.le_succ _) (.string ⟨#[]⟩) (.string ⟨#[]⟩) (.int .i64 0) (.int .i64 0) (.int .i64 0) (.int .i64 0) (.slice none 0 0) (.slice none 0 0);obtain ⟨y0,y1,y2,y3,y4,y5,y6,y7⟩:=hw.c8;refine bodyPost_ret (v:=noTR.val) (by simp [results,Tryz.results62,go_sem,y0,y1,y2,y3,y4,y5,y6,y7,TabR.val,noTR,noRT];try rfl) rfl ?_;rw [e1];exact ⟨rfl,hb⟩
 · obtain ⟨i,rfl⟩:∃i:Nat,id=i:=⟨id.toNat,by omega⟩;by_cases h2:i<K.length
   · obtain ⟨x,hx⟩:∃x,K[i]? = some x:=⟨_,List.getElem?_eq_getElem h2⟩;have e1:=zlU hx;obtain ⟨b,o,rfl,hbl,k0,k1,k2,k3,k4,k5,k6,k7⟩:=h0.get hx;have g1:¬(i:Int)<0:=h1;have g2:¬(i:Int) ≥ (K.length:Int):=by omega
     have g3:(i:Int)<(K.length:Int):=by omega
     replace e1:=Lib.hid e1;clear h1;obtain ⟨b',o',e',hlt,_⟩:=h.rows.at_ (by omega);injection e' with e'
     injection e' with e1' e2' _
     subst e1';subst e2';have hne:¬w.heap.size + 1=b:=by omega
     have hne2:¬b=w.heap.size + 1:=by omega
     have hne3:¬b=w.heap.size:=by omega
     go_wp2_with fail
     obtain ⟨hw,hb⟩:=set8 hz0 hB0 (Nat.le_succ _) (.string x.r.tn) (.string x.r.rn) (.int .i64 x.r.view) (.int .i64 x.r.edit) (.int .i64 x.r.check) (.int .i64 x.r.level) (.slice x.As x.r.subs.length x.cs) (.slice x.Ao x.r.ops.length x.co);obtain ⟨y0,y1,y2,y3,y4,y5,y6,y7⟩:=hw.c8;refine bodyPost_ret (v:=x.val) (by simp [results,Tryz.results62,go_sem,y0,y1,y2,y3,y4,y5,y6,y7,TabR.val];try rfl) rfl ?_;rw [e1.out];exact ⟨rfl,hb⟩
   · have e1:=zjb (K:=K) (id:=(i:Int)) (by omega);have g1:¬(i:Int)<0:=h1;have g2:(i:Int) ≥ (K.length:Int):=by omega
     replace e1:=Lib.hid e1;clear h1 h2;go_wp2_with fail
     obtain ⟨hw,hb⟩:=set8 hz0 hB0 (Nat.le_succ _) (.string ⟨#[]⟩) (.string ⟨#[]⟩) (.int .i64 0) (.int .i64 0) (.int .i64 0) (.int .i64 0) (.slice none 0 0) (.slice none 0 0);obtain ⟨y0,y1,y2,y3,y4,y5,y6,y7⟩:=hw.c8;refine bodyPost_ret (v:=noTR.val) (by simp [results,Tryz.results62,go_sem,y0,y1,y2,y3,y4,y5,y6,y7,TabR.val,noTR,noRT];try rfl) rfl ?_;rw [e1.out];exact ⟨rfl,hb⟩
end
section
variable {w:World} {tx:ByteArray} {Ay:Option Addr} {ny cy:Nat} {mb:Option Nat} {Ar:Option Addr} {cr:Nat} {K:List TabR}
theorem rel_f3 (x0 x1 x2 x3 x4 x5 x6 x7:Value) (W:World):(Instr.field 122 (.agg #[x0,x1,x2,x3,x4,x5,x6,x7]) 3).run Tryz.prog W = .ok (x6) W:=by kernel_rfl
theorem TabR.val_eq (x:TabR):x.val = .agg #[.string x.r.tn,.string x.r.rn,.int .i64 x.r.view,.int .i64 x.r.edit,.int .i64 x.r.check,.int .i64 x.r.level,.slice x.As x.r.subs.length x.cs,.slice x.Ao x.r.ops.length x.co]:=rfl
theorem tmay_any (h:TabK w Ar cr K) (id:Int) (hid:(Lit.int .i64 id).wf=true) (ty re:ByteArray):Calls Tryz.prog 23 #[.agg #[.string tx,.slice Ay ny cy,.map mb,.slice Ar K.length cr],.int .i64 id,.string ty,.string re] w fun e w'=>e = .returned (.bool ((atK K id).r.subs.any fun y=>decide (y=(ty,re))))∧Below w.heap.size w w':=by
 have hb0:=zb0 w (.cells #[.string tx,.slice Ay ny cy,.map mb,.slice Ar K.length cr] 27);have ka:=at_any (tx:=tx) (Ay:=Ay) (ny:=ny) (cy:=cy) (mb:=mb) (h.up hb0) id hid;have hok:=(h.up hb0).at_ok id;rw [TabR.val_eq] at ka;generalize atK K id=x at *
 have hfld:=@rel_f3;generalize hq:(x.r.subs.any fun y=>decide (y=(ty,re)))=q;go_enter Tryz.func23,Tryz.ntmps23
 go_wp2_with (first
  | (go_at_call 62;refine ka.mono ?_;rintro e w1 ⟨rfl,hb1⟩;have hs1:SubsA w1 x.As x.cs x.r.subs:=⟨hok.subs.up hb1⟩;have kc:=contains_any hs1 (ty,re);rw [hq] at kc)
  | (go_at_call 64;refine kc.mono ?_;rintro e w2 ⟨rfl,hb2⟩))
 go_ret
 exact ⟨rfl,zad (zad hb0 hb0.size hb1) (zad hb0 hb0.size hb1).size hb2⟩
theorem info_top:(Tryz.prog.info? 62).map (fun i=>(i.zero,i.size,i.bytes))=some (some (.agg #[.int .i64 0,.int .i64 0,.string .empty]),3,32):=by kernel_rfl
theorem zlg (a b:ByteArray):(a.toList == b.toList)=decide (a=b):=toList_inj
theorem indexS_any {A:Option Addr} {c:Nat} {l:List ByteArray} (h:Rd w w.heap.size 1 A l.length c (l.map Value.string)) (s:ByteArray) :
 Calls Tryz.prog 110 #[.slice A l.length c,.string s] w fun e w'=>(∃z:Int,e = .returned (.int .i64 z)∧decide (0≤z)=l.any fun y=>decide (y=s))∧Below w.heap.size w w':=by
 have hl:(l.length:Int)≤9223372036854775807:=by have:=h.cap;have:=h.capm;simp only [maxLen] at this;omega
 go_enter Tryz.func110,Tryz.ntmps110
 go_wp2_with fail
 go_loopw [8] (fun vi wx=>∃i:Nat,vi = .int .i64 i∧i≤l.length∧(∀y ∈ l.take i,decide (y=s)=false)∧Hid (wx=w)) (fun vi _=>l.length-(intOf vi).toNat)
 case atStart=>exact ⟨0,rfl,Nat.zero_le _,fun t ht=>(by simp at ht),Lib.hid rfl⟩
 case round =>
  obtain ⟨i,rfl,hi,hn,hwx⟩:=hrel;have hwx2:=hwx.out;subst hwx2;by_cases hil:i<l.length
  · have hdi:(i:Int)<(l.length:Nat):=by omega
    obtain ⟨t,ht⟩:∃t,l[i]? = some t:=⟨l[i],List.getElem?_eq_getElem hil⟩;obtain ⟨b,o,u,rfl,hbl,hu,hc⟩:=h.get hil;rw [List.getElem?_map,ht] at hu;obtain rfl:=Option.some.inj hu;have hq:=zlg s t;have hst:decide (s=t)=decide (t=s):=by rw [Bool.eq_iff_iff];simp [eq_comm]
    rw [hst] at hq;cases hd:decide (t=s) with
    | true =>
     rw [hd] at hq;clear hst;go_wp2_with fail
     go_ret
     exact ⟨⟨_,rfl,by rw [any_at ht hd];exact decide_eq_true (by omega)⟩,Below.refl _ _⟩
    | false =>
     rw [hd] at hq;clear hst;go_wp2_with fail
     exact ⟨⟨i + 1,by go_num,by omega,zb1 ht hn hd,Lib.hid trivial⟩,by simp [intOf];omega⟩
  · have hdi:¬(i:Int)<(l.length:Nat):=by omega
    obtain rfl:i=l.length:=by omega
    rw [List.take_length] at hn;go_wp2_with fail
    go_ret
    exact ⟨⟨_,rfl,by rw [zeV hn];decide⟩,Below.refl _ _⟩
theorem thas_any {nr:Nat} {l:List ByteArray} (h:Rd w w.heap.size 1 Ay l.length cy (l.map Value.string)) (s:ByteArray) :
 Calls Tryz.prog 17 #[.agg #[.string tx,.slice Ay l.length cy,.map mb,.slice Ar nr cr],.string s] w fun e w'=>e = .returned (.bool (l.any fun y=>decide (y=s)))∧Below w.heap.size w w':=by
 have hb0:=zb0 w (.cells #[.string tx,.slice Ay l.length cy,.map mb,.slice Ar nr cr] 27);have kC:∀W:World,Rd W W.heap.size 1 Ay l.length cy (l.map Value.string)→Calls Tryz.prog 61 #[.slice Ay l.length cy,.string s] W fun e w'=>e = .returned (.bool (l.any fun y=>decide (y=s)))∧Below W.heap.size W w':=by
  intro W hW;have ki:=indexS_any hW s;go_enter Tryz.func61,Tryz.ntmps61
  go_wp2_with (go_at_call 110;refine ki.mono ?_;rintro e w1 ⟨⟨z,rfl,hz⟩,hb1⟩)
  by_cases h0:0≤z
  · go_wp2
    go_ret
    exact ⟨by rw [←hz,decide_eq_true h0];rfl,hb1⟩
  · go_wp2
    go_ret
    exact ⟨by rw [←hz];rfl,hb1⟩
 have kc:=kC _ (h.up hb0);go_enter Tryz.func17,Tryz.ntmps17
 go_wp2_with (go_at_call 61;refine kc.mono ?_;rintro e w1 ⟨rfl,hb1⟩)
 go_ret
 exact ⟨rfl,zad hb0 hb0.size hb1⟩
end
end Go.Proofs.YtahegpfdbgbioaaGreat
