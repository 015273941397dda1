import Derived.Test.YtahegpfdbgbioaaGreatB25
set_option maxRecDepth 100000
set_option maxHeartbeats 4000000
namespace Go.Proofs.YtahegpfdbgbioaaGreat
open Go.RowKit
open Go.RowKit
theorem may_cutB {s:ByteArray} {k:Nat} (h:plc s k<s.size):zcg (cutB s k) 0=zcg s (plc s k):=by
 have hz:=zax s k;have hd:=zcQ hz (zcp s k) (i:=0) (by omega);unfold zcg brk rn wd;rw [hd,Nat.add_zero]
theorem zgd {s:ByteArray} {k j:Nat} (h:plc s (k + j)<s.size):zcg (cutB s k) (plc (cutB s k) j)=zcg s (plc s (k + j)):=by
 have hz:=zax s k;have hp:=zbN s k j;have hd:=zcQ hz (zcp s k) (i:=plc (cutB s k) j) (by omega);unfold zcg brk rn wd;rw [hd,hp]
theorem wrN_at {s:ByteArray} {k n:Nat} (h1:∀j,j<n→plc s (k + j)<s.size∧zcg s (plc s (k + j))=true) (h2:plc s (k + n)<s.size→zcg s (plc s (k + n))=false):wrN (cutB s k)=n:=by
 refine zel (fun j hj=>?_) fun h=>?_
 · obtain ⟨a,b⟩:=h1 j hj;have hp:=zbN s k j;have hz:=zax s k;exact ⟨by omega,by rw [zgd a];exact b⟩
 · have hp:=zbN s k n;have hz:=zax s k;rw [zgd (by omega)];exact h2 (by omega)
theorem ntN_at {s:ByteArray} {k d:Nat} (hd:d≤(cutB s k).size) (h1:∀j,j<d→bt s (plc s k + j)≠10) (h2:plc s k + d<s.size→bt s (plc s k + d)=10):plc s (k + ntN (cutB s k))=plc s k + d:=by
 have hz:=zax s k;have hp:=zbN s k (ntN (cutB s k));have hle:=zaM (cutB s k) (ntN (cutB s k));rcases Nat.lt_trichotomy (plc (cutB s k) (ntN (cutB s k))) d with h | h | h
 · have e:=nt_end (u:=cutB s k) (by omega);rw [zbT (by omega)] at e;exact absurd e (h1 _ h)
 · omega
 · have e:=zjz (u:=cutB s k) h;rw [zbT (by omega)] at e;exact absurd (h2 (by omega)) e
structure Left (s:ByteArray) (k:Nat) (l:List Tk):Prop where
 kc:k≤cnt s
 toks:l ++ (zch (cutB s k) (plc s k)).1=(zch s 0).1
 code:(zch (cutB s k) (plc s k)).2=(zch s 0).2
 few:l.length≤k
section
variable {s:ByteArray} {k:Nat} {l:List Tk}
theorem Left.start (s:ByteArray):Left s 0 []:=⟨Nat.zero_le _,by rw [zeu];rfl,by rw [zeu];rfl,Nat.le_refl _⟩
theorem Left.err (h:Left s k l) (hk:plc s k<s.size) (h3:3≤kd (cutB s k)):(zch s 0).2=(kd (cutB s k),plc s k):=by
 have e:=Go.Proofs.YtahegpfdbgbioaaGreat.scan_err (off:=plc s k) (zfD hk) h3;have hc:=h.code;rw [e] at hc;exact hc.symm
theorem Left.step (h:Left s k l) (hk:plc s k<s.size) (h3:kd (cutB s k)<3):Left s (k + ln (cutB s k)) (l ++ zcK (cutB s k) (plc s k))∧0<ln (cutB s k):=by
 have hz:=zfD hk;have h1:=zmz hz h3;have h2:=ln_le hz;rw [zhn] at h2;have hE:=zh5 (off:=plc s k) hz h3;have h4:=zbN s k (ln (cutB s k));rw [zij,h4] at hE;have ht:=h.toks;have hc:=h.code;obtain ⟨r,hr⟩:∃r,zch (cutB s (k + ln (cutB s k))) (plc s (k + ln (cutB s k)))=r:=⟨_,rfl⟩;rw [hr] at hE;generalize zch (cutB s k) (plc s k)=r0 at *
 subst hE;dsimp only at ht hc;refine ⟨⟨by have:=h.kc;omega,?_,by rw [hr];exact hc,?_⟩,h1⟩
 · rw [hr,List.append_assoc];exact ht
 · rw [List.length_append];have:=h.few;have:(zcK (cutB s k) (plc s k)).length≤1:=by unfold zcK;split <;> simp
   omega
theorem Left.fin (h:Left s k l) (hk:¬plc s k<s.size):plc s k=s.size∧(zch s 0).2=(0,0)∧(zch s 0).1=l ++ [(3,⟨#[]⟩,s.size)]:=by
 have h1:=zaM s k;have hz:=zax s k;have e:=zd2 (u:=cutB s k) (off:=plc s k) (by omega);have ht:=h.toks;have hc:=h.code;rw [e] at ht hc;have hj:plc s k=s.size:=by omega
 rw [hj] at ht;exact ⟨hj,hc.symm,ht.symm⟩
theorem Left.blank (h:Left s k l) (hk:plc s k<s.size) (hb:za0 (bt s (plc s k))=true):Left s (k + 1) l∧plc s (k + 1)=plc s k + 1:=by
 have h0:bt (cutB s k) 0=bt s (plc s k):=zbT (j:=0) (by omega);have hkd:kd (cutB s k)=0:=by unfold kd;rw [h0,if_pos hb]
 have hln:ln (cutB s k)=1:=by unfold ln;rw [h0,if_pos hb]
 have h10:=zaW.1 hb;have:=(h.step hk (by omega)).1;unfold zcK at this;rw [hln,if_pos hkd,List.append_nil] at this;exact ⟨this,zhM hk (by omega)⟩
theorem Left.sign (h:Left s k l) (hk:plc s k<s.size) (hb:za8 (bt s (plc s k))=true):Left s (k + 1) (l ++ [(2,s.extract (plc s k) (plc s k + 1),plc s k)])∧plc s (k + 1)=plc s k + 1:=by
 have h0:bt (cutB s k) 0=bt s (plc s k):=zbT (j:=0) (by omega);have h10:=zb9.1 hb;have hnb:¬za0 (bt s (plc s k))=true:=by rw [zaW];omega
 have hkd:kd (cutB s k)=2:=by unfold kd;rw [h0,if_neg hnb,if_pos hb]
 have hln:ln (cutB s k)=1:=by unfold ln;rw [h0,if_neg hnb,if_pos hb]
 have hpl:=zhM hk (by omega);have hx:s.extract (plc s k) (plc s k + 1)=cutA (cutB s k) 1:=by rw [zc6,hpl]
 have:=(h.step hk (by omega)).1;unfold zcK at this;rw [hln,if_neg (by omega),hkd,←hx] at this;exact ⟨this,hpl⟩
theorem Left.note (h:Left s k l) (hk:plc s k<s.size) (h47:bt s (plc s k)=47) (h1:plc s k + 1<s.size) (h2:bt s (plc s k + 1)=47):Left s (k + ntN (cutB s k)) l∧0<ntN (cutB s k):=by
 have h0:bt (cutB s k) 0=bt s (plc s k):=zbT (j:=0) (by omega);have hb1:bt (cutB s k) 1=bt s (plc s k + 1):=zbT (j:=1) h1;have hz:=zax s k;have hkd:kd (cutB s k)=0:=by
  conv=>lhs;unfold kd
  rw [h0,h47,show za0 47=false from rfl,show za8 47=false from rfl,if_neg (by decide),if_neg (by decide),if_pos rfl,if_pos ⟨by omega,hb1.trans h2⟩]
 have hln:ln (cutB s k)=ntN (cutB s k):=by
  conv=>lhs;unfold ln
  rw [h0,h47,show za0 47=false from rfl,show za8 47=false from rfl,if_neg (by decide),if_neg (by decide),if_pos rfl]
 have:=h.step hk (by omega);unfold zcK at this;rw [hln,if_pos hkd,List.append_nil] at this;exact this
theorem zhy {s:ByteArray} {k:Nat} (hk:plc s k<s.size) (hnb:za0 (bt s (plc s k))=false) (hns:za8 (bt s (plc s k))=false) (h47:bt s (plc s k)≠47) :
 kd (cutB s k)=(if zcg s (plc s k)=true then (if wrN (cutB s k)≤24 then 1 else 31) else 30)∧ln (cutB s k)=wrN (cutB s k):=by
 have h0:bt (cutB s k) 0=bt s (plc s k):=zbT (j:=0) (by omega);constructor
 · conv=>lhs;unfold kd
   rw [h0,hnb,hns,if_neg (by decide),if_neg (by decide),if_neg h47,may_cutB hk]
 · conv=>lhs;unfold ln
   rw [h0,hnb,hns,if_neg (by decide),if_neg (by decide),if_neg h47]
theorem zke {s:ByteArray} {k:Nat} (hk:plc s k<s.size) (h47:bt s (plc s k)=47) (h1:¬(plc s k + 1<s.size∧bt s (plc s k + 1)=47)):kd (cutB s k)=30:=by
 have h0:bt (cutB s k) 0=bt s (plc s k):=zbT (j:=0) (by omega);have hz:=zax s k;conv=>lhs;unfold kd
 rw [h0,h47,show za0 47=false from rfl,show za8 47=false from rfl,if_neg (by decide),if_neg (by decide),if_pos rfl,if_neg];rintro ⟨a,b⟩;have hb1:bt (cutB s k) 1=bt s (plc s k + 1):=zbT (j:=1) (by omega);exact h1 ⟨by omega,hb1 ▸ b⟩
theorem Left.word (h:Left s k l) (hk:plc s k<s.size) (hnb:za0 (bt s (plc s k))=false) (hns:za8 (bt s (plc s k))=false) (h47:bt s (plc s k)≠47) (hm:zcg s (plc s k)=true) (h24:wrN (cutB s k)≤24) :
 Left s (k + wrN (cutB s k)) (l ++ [(1,s.extract (plc s k) (plc s (k + wrN (cutB s k))),plc s k)])∧0<wrN (cutB s k):=by
 obtain ⟨hkd,hln⟩:=zhy hk hnb hns h47;rw [if_pos hm,if_pos h24] at hkd;have:=h.step hk (by omega);unfold zcK at this;rw [hln,if_neg (by omega),hkd,zc6] at this;exact this
theorem Left.slash (h:Left s k l) (hk:plc s k<s.size) (h47:bt s (plc s k)=47) (h1:¬(plc s k + 1<s.size∧bt s (plc s k + 1)=47)):(zch s 0).2=(30,plc s k):=by
 have:=h.err hk (by rw [zke hk h47 h1];omega);rwa [zke hk h47 h1] at this
theorem Left.other (h:Left s k l) (hk:plc s k<s.size) (hnb:za0 (bt s (plc s k))=false) (hns:za8 (bt s (plc s k))=false) (h47:bt s (plc s k)≠47) (hm:zcg s (plc s k)=false):(zch s 0).2=(30,plc s k):=by
 obtain ⟨hkd,_⟩:=zhy hk hnb hns h47;rw [hm,if_neg (by decide)] at hkd;have:=h.err hk (by omega);rwa [hkd] at this
theorem Left.long (h:Left s k l) (hk:plc s k<s.size) (hnb:za0 (bt s (plc s k))=false) (hns:za8 (bt s (plc s k))=false) (h47:bt s (plc s k)≠47) (hm:zcg s (plc s k)=true) (h24:¬wrN (cutB s k)≤24):(zch s 0).2=(31,plc s k):=by
 obtain ⟨hkd,_⟩:=zhy hk hnb hns h47;rw [if_pos hm,if_neg h24] at hkd;have:=h.err hk (by omega);rwa [hkd] at this
end
theorem zmn:(Tryz.prog.info? 194).map (fun i=>(i.zero,i.size,i.bytes))=some (some (.agg #[.int .i64 0,.string .empty,.int .i64 0]),3,32):=by kernel_rfl
theorem zd1 {w w1:World} {B:Nat} {e:TypeId} {v v1:Value} {o:Obj} {l:List Tk} {t:Tk} {w0:World} (hb:Below B w0 w) (_:w.ownsRow B e 3 v l.length (tcells l)) (hB:B≤w.heap.size) (hg:(w.alloc o).grownBy w1 v.ownBlock) (h:w.ownsRow B e 3 v l.length (tcells l)) (h1:w1.ownsRow B e 3 v1 (l.length + 1) (tcells l ++ tcell t)) :
 Below B w0 w1∧w1.ownsRow B e 3 v1 (l ++ [t]).length (tcells (l ++ [t])) :=
 ⟨zaj (hb.alloc hB o) hg (h.alloc o) (size_alloc hB) (Nat.le_refl _),by rw [zen,List.length_append];exact h1⟩
theorem rall_any (s:ByteArray) (w:World) (f0:s.size≤maxLen) :
 Calls Tryz.prog 98 #[.string s] w (AllPost s w):=by
 unfold maxLen at f0;by_cases hlong:2048<s.size
 · have hA:zbQ s=([],13,0):=by unfold zbQ;rw [if_pos hlong]
   have HX:Hid (AllPost s w (.returned (.tuple #[.slice none 0 0,.int .i64 13,.int .i64 0])) w):=Lib.hid (AllPost.empty hA (Below.refl _ _));clear hA;go_enter Tryz.func98,Tryz.ntmps98
   go_wp2
   go_ret3
   exact HX.out
 have hs:s.size≤2048:=by omega
 have hs6:s.size≤1000000:=by omega
 clear f0;have HA:Hid (zbQ s=if plc s (zgB s)<s.size then ([],11,plc s (zgB s)) else if (zch s 0).2.1=0 then zch s 0 else ([],(zch s 0).2)):=Lib.hid (by unfold zbQ;rw [if_neg hlong]);clear hlong;obtain ⟨i0,hi0,hz0,hz1,hz2⟩:=info_parts zmn;go_enter Tryz.func98,Tryz.ntmps98
 go_wp2
 go_loopw [5] (fun vi wr=>∃k:Nat,k≤cnt s∧vi = .int .i64 (plc s k:Nat)∧w=wr∧∀j,j<k→brk s (plc s j)=false) (fun vi _=>s.size-(intOf vi).toNat)
 case atStart=>exact ⟨0,Nat.zero_le _,rfl,rfl,fun j hj=>by omega⟩
 case round =>
  obtain ⟨k,hk,rfl,rfl,hall⟩:=hrel;have Hall:=Lib.hid hall;clear hall;have hl:=zaM s k;have hc:=zcD s;by_cases h:plc s k<s.size
  · have hd:(plc s k:Int)<(s.size:Nat):=by omega
    have hk2:=zaR.2 h;have hw:=zcF h;have HS:=Lib.hid (zaC h);have hlg:=brk_lng h;have klo:∀W,_:=fun W=>long_any s (plc s k) W hs6 h;have kst:∀W,_:=fun W=>step_any s (plc s k:Nat) (plc s k) W rfl hs6 h;cases hm:brk s (plc s k) with
    | true =>
     rw [hm] at hlg;have h0:lng s (plc s k)=0:=by simpa using hlg.symm
     rw [h0] at klo;have HE:Hid (zgB s=k):=Lib.hid (zel (fun j hj=>⟨zaR.1 (by omega),by have:=Hall.out j hj;simp [this]⟩) fun _=>by simp [hm]);clear h0 hlg;go_wp2_with ((with_reducible refine (klo _).mono ?_);rintro e w' ⟨rfl,rfl⟩)
     go_ret3
     have hA:=HA.out;rw [HE.out,if_pos h] at hA;exact AllPost.empty hA (Below.refl _ _)
    | false =>
     rw [hm] at hlg;have hn:¬lng s (plc s k)=0:=by simpa using hlg.symm
     have h0:(((lng s (plc s k):Nat):Int) == 0)=false:=by simp [hn]
     clear hlg hn;go_wp2_with (first
      | ((with_reducible refine (klo _).mono ?_);rintro e w' ⟨rfl,rfl⟩)
      | ((with_reducible refine (kst _).mono ?_);rintro e w' ⟨rfl,rfl⟩))
     go_roundw
     case rel=>exact ⟨k + 1,by omega,by rw [HS.out];go_num,by first | rfl | trivial,fun j hj=>by
      by_cases e:j=k
      · subst e;exact hm
      · exact Hall.out j (by omega)⟩
     case measure=>simp [intOf];omega
  · have hd:¬((plc s k:Int)<(s.size:Nat)):=by omega
    have e:=zdh h fun j hj=>zaR.1 (by omega);have hv:¬plc s (zgB s)<s.size:=zcN.1 (zbY.2 (by rw [e];exact Hall.out));have hA:=HA.out;rw [if_neg hv] at hA;have HA2:=Lib.hid hA;clear HA hA e hv hk Hall;go_wp2
    clear hl h hd;go_loopw [6,7] (fun vo vi wq=>∃(k:Nat) (l:List Tk),vi = .int .i64 (plc s k:Nat)∧Left s k l∧wq.ownsRow w.heap.size 194 3 vo l.length (tcells l)∧Below w.heap.size w wq) (fun _ vi _=>s.size-(intOf vi).toNat)
    case atStart=>exact ⟨0,[],rfl,Left.start s,World.ownsRow_nil _ _ _ _,Below.refl _ _⟩
    case round =>
     clear hc;obtain ⟨k,l,rfl,hL,hrow,hbw⟩:=hrel;have hlk:=zaM s k;have hll:l.length<1000000:=by have:=hL.few;have:=hL.kc;have:=zcD s;omega
     have hbs:=hbw.size;have HL:=Lib.hid hL;have Hb:=Lib.hid hbw;have Hrow:=Lib.hid hrow;clear hbw;obtain ⟨A,c,rfl,_⟩:=Rd.own hrow;by_cases h:plc s k<s.size
     · have hd:(plc s k:Int)<(s.size:Nat):=by omega
       have hx:(s[plc s k]'h).toNat=bt s (plc s k):=(zdp s (plc s k) h).symm;have krs:∀W,Calls Tryz.prog 148 #[.int .u8 (bt s (plc s k):Nat)] W fun e w'=>e = .returned (.bool (za8 (bt s (plc s k))))∧W=w':=fun W=>(rsign_any (bt s (plc s k):Nat) (bt s (plc s k)) W rfl).mono fun _ _ hh=>⟨hh.1,hh.2.symm⟩;have krm:∀W,_:=fun W=>rmay_any s (plc s k) W hs6 h;have hbl:=zeW s (plc s k);by_cases cB:za0 (bt s (plc s k))=true
       · obtain ⟨hN,hpn⟩:=hL.blank h cB;have HN:=Lib.hid hN;have HP:=Lib.hid hpn;clear hL hN hpn;have cB3:=zaW.1 cB;generalize bt s (plc s k)=q at *
         generalize za8 q=sg at *
         generalize zcg s (plc s k)=my at *
         have hd3:(((q:Nat):Int) == 32)=true∨((((q:Nat):Int) == 32)=false∧(((q:Nat):Int) == 9)=true)∨((((q:Nat):Int) == 32)=false∧(((q:Nat):Int) == 9)=false∧(((q:Nat):Int) == 10)=true):=by
          simp only [beq_iff_eq,beq_eq_false_iff_ne];omega
         rcases hd3 with d1 | ⟨d1,d2⟩ | ⟨d1,d2,d3⟩;all_goals
          clear cB cB3;go_wp2_with (first
           | ((with_reducible refine (krs _).mono ?_);rintro e w' ⟨rfl,rfl⟩)
           | ((with_reducible refine (krm _).mono ?_);rintro e w' ⟨rfl,rfl⟩))
          go_roundw
          case rel=>exact ⟨k + 1,l,by rw [HP.out];rfl,HN.out,Hrow.out,Hb.out⟩
          case measure=>simp [intOf];omega
       rw [Bool.not_eq_true] at cB;have d32:(((bt s (plc s k):Nat):Int) == 32)=false:=by
        rw [beq_eq_false_iff_ne];intro e;have:=zaW (c:=bt s (plc s k)) |>.2 (.inl (by omega)) ;rw [cB] at this;cases this
       have d9:(((bt s (plc s k):Nat):Int) == 9)=false:=by
        rw [beq_eq_false_iff_ne];intro e;have:=zaW (c:=bt s (plc s k)) |>.2 (.inr (.inl (by omega))) ;rw [cB] at this;cases this
       have d10:(((bt s (plc s k):Nat):Int) == 10)=false:=by
        rw [beq_eq_false_iff_ne];intro e;have:=zaW (c:=bt s (plc s k)) |>.2 (.inr (.inr (by omega))) ;rw [cB] at this;cases this
       cases cS:za8 (bt s (plc s k)) with
       | true =>
        obtain ⟨hN,hpn⟩:=hL.sign h cS;have HN:=Lib.hid hN;have HP:=Lib.hid hpn;clear hL hN hpn;rw [cS] at krs;clear cS cB;generalize bt s (plc s k)=q at *
        generalize zcg s (plc s k)=my at *
        have hb1:plc s k + 1≤s.size:=h;go_wp2_with (first
         | ((with_reducible refine (krs _).mono ?_);rintro e w' ⟨rfl,rfl⟩)
         | ((with_reducible refine (krm _).mono ?_);rintro e w' ⟨rfl,rfl⟩)
         | (at_builtin;refine zaa _ rfl (.tmp 56) (.tmp 64) 185 185 rfl w.heap.size 194 i0 (.agg #[.int .i64 0,.string .empty,.int .i64 0]) 3 32 Tryz.underlying185 hi0 hz0 hz1 hz2 rfl (by decide) _ l.length (tcells l) rfl (Hrow.out.alloc _) _ 1 [.int .i64 2,.string (s.extract (plc s k) (plc s k + 1)),.int .i64 (plc s k:Nat)] rfl (Src.ofSlice _ Tryz.underlying185 _ 1 1 _ rfl (za1 _ _ _ _ _) (tcell_one (2,s.extract (plc s k) (plc s k + 1),plc s k))) (by simp only [maxLen];omega) (by omega) (size_alloc hbs) ?_;intro v1 w1 hown1 hg1 hat1;obtain ⟨A1,c1,rfl,_⟩:=Rd.own hown1;obtain ⟨hb1',hr1⟩:=zd1 (t:=(2,s.extract (plc s k) (plc s k + 1),plc s k)) Hb.out Hrow.out hbs hg1 Hrow.out hown1;have HB1:=Lib.hid hb1';have HR1:=Lib.hid hr1;clear hown1 hg1 hat1 hb1' hr1))
        go_roundw
        case rel=>exact ⟨k + 1,_,by rw [HP.out];rfl,HN.out,by simpa using HR1.out,HB1.out⟩
        case measure=>simp [intOf];omega
       | false =>
        rw [cS] at krs;by_cases c47:bt s (plc s k)=47
        · have hmy:zcg s (plc s k)=false:=by rw [zhE h (by omega),c47];rfl
          rw [hmy] at krm;have d47:(((bt s (plc s k):Nat):Int) == 47)=true:=by rw [beq_iff_eq];omega
          by_cases c1:plc s k + 1<s.size
          · have hd1:(plc s k:Int) + 1<(s.size:Nat):=by omega
            have hx1:(s[plc s k + 1]'c1).toNat=bt s (plc s k + 1):=(zdp s (plc s k + 1) c1).symm;by_cases c2:bt s (plc s k + 1)=47
            · obtain ⟨hN,hpn⟩:=hL.note h c47 c1 c2;have HN:=Lib.hid hN;have HPN:=Lib.hid hpn;have d2:(((bt s (plc s k + 1):Nat):Int) == 47)=true:=by rw [beq_iff_eq];omega
              have H1:=Lib.hid c47;have H2:=Lib.hid c2;clear hL hN hpn cB cS c47 c2 hmy hbl;go_wp2_with (first
               | ((with_reducible refine (krs _).mono ?_);rintro e w' ⟨rfl,rfl⟩)
               | ((with_reducible refine (krm _).mono ?_);rintro e w' ⟨rfl,rfl⟩))
              go_loopw [7] (fun vi wz=>∃d:Nat,vi = .int .i64 (plc s k + d:Nat)∧wr=wz∧d≤(cutB s k).size∧∀j,j<d→bt s (plc s k + j)≠10) (fun vi _=>s.size-(intOf vi).toNat)
              case atStart=>exact ⟨0,rfl,by first | rfl | trivial,Nat.zero_le _,fun j hj=>by omega⟩
              case round =>
               obtain ⟨d,rfl,rfl,hdl,hall⟩:=hrel;have Hall:=Lib.hid hall;clear hall hd hx hd1 hx1 d32 d9 d10 d47 d2 krs krm;have hzz:=zax s k;by_cases hm:plc s k + d<s.size
               · have hd4:(plc s k:Int) + (d:Int)<(s.size:Nat):=by omega
                 have hx4:(s[plc s k + d]'hm).toNat=bt s (plc s k + d):=(zdp s (plc s k + d) hm).symm;by_cases h10:bt s (plc s k + d)=10
                 · have d10:(((bt s (plc s k + d):Nat):Int) == 10)=true:=by rw [beq_iff_eq];omega
                   have HE:=Lib.hid (ntN_at hdl Hall.out fun _=>h10);clear h10;go_wp2
                   go_roundw
                   case rel=>exact ⟨k + ntN (cutB s k),l,by rw [HE.out];go_num,HN.out,Hrow.out,Hb.out⟩
                   case measure =>
                    have h1:=HE.out;have h2:=zaZ s (show k + 1≤k + ntN (cutB s k) by have:=HPN.out;omega);have h3:=zaQ h;simp [intOf];omega
                 · have d10:(((bt s (plc s k + d):Nat):Int) == 10)=false:=by rw [beq_eq_false_iff_ne];omega
                   have H10:=Lib.hid h10;clear h10;go_wp2
                   go_roundw
                   case rel=>exact ⟨d + 1,by go_num,by first | rfl | trivial,by omega,fun j hj=>by
                    by_cases e:j=d
                    · subst e;exact H10.out
                    · exact Hall.out j (by omega)⟩
                   case measure=>simp [intOf];omega
               · have hd4:¬((plc s k:Int) + (d:Int)<(s.size:Nat)):=by omega
                 have HE:=Lib.hid (ntN_at hdl Hall.out fun hh=>absurd hh hm);go_wp2
                 go_roundw
                 case rel=>exact ⟨k + ntN (cutB s k),l,by rw [HE.out],HN.out,Hrow.out,Hb.out⟩
                 case measure =>
                  have h1:=HE.out;have h2:=zaZ s (show k + 1≤k + ntN (cutB s k) by have:=HPN.out;omega);have h3:=zaQ h;simp [intOf];omega
            · have hE:=hL.slash h c47 (fun hh=>c2 hh.2);have HE:=Lib.hid hE;have d2:(((bt s (plc s k + 1):Nat):Int) == 47)=false:=by rw [beq_eq_false_iff_ne];omega
              clear hL hE cB cS c47 c2 hmy hbl;go_wp2_with (first
               | ((with_reducible refine (krs _).mono ?_);rintro e w' ⟨rfl,rfl⟩)
               | ((with_reducible refine (krm _).mono ?_);rintro e w' ⟨rfl,rfl⟩))
              go_ret3
              have hA:=HA2.out;rw [HE.out] at hA;exact AllPost.empty hA Hb.out
          · have hE:=hL.slash h c47 (fun hh=>c1 hh.1);have HE:=Lib.hid hE;have hd1:¬((plc s k:Int) + 1<(s.size:Nat)):=by omega
            clear hL hE cB cS c47 hmy hbl;go_wp2_with (first
             | ((with_reducible refine (krs _).mono ?_);rintro e w' ⟨rfl,rfl⟩)
             | ((with_reducible refine (krm _).mono ?_);rintro e w' ⟨rfl,rfl⟩))
            go_ret3
            have hA:=HA2.out;rw [HE.out] at hA;exact AllPost.empty hA Hb.out
        · have d47:(((bt s (plc s k):Nat):Int) == 47)=false:=by rw [beq_eq_false_iff_ne];omega
          cases hmy:zcg s (plc s k) with
          | false =>
           have hE:=hL.other h cB cS c47 hmy;have HE:=Lib.hid hE;rw [hmy] at krm;clear hL hE cB cS c47 hmy;generalize bt s (plc s k)=q at *
           go_wp2_with (first
            | ((with_reducible refine (krs _).mono ?_);rintro e w' ⟨rfl,rfl⟩)
            | ((with_reducible refine (krm _).mono ?_);rintro e w' ⟨rfl,rfl⟩))
           go_ret3
           have hA:=HA2.out;rw [HE.out] at hA;exact AllPost.empty hA Hb.out
          | true =>
           have HC:=Lib.hid (And.intro cB (And.intro cS (And.intro c47 hmy)));rw [hmy] at krm;clear hL cB cS c47 hmy;have Hx:=Lib.hid h;go_wp2_with (first
            | ((with_reducible refine (krs _).mono ?_);rintro e w' ⟨rfl,rfl⟩)
            | ((with_reducible refine (krm _).mono ?_);rintro e w' ⟨rfl,rfl⟩))
           go_loopw [11,12] (fun vk vn wz=>∃n:Nat,vk = .int .i64 (plc s (k + n):Nat)∧vn = .int .i64 n∧wr=wz∧∀j,j<n→plc s (k + j)<s.size∧zcg s (plc s (k + j))=true) (fun vk _ _=>s.size-(intOf vk).toNat)
           case atStart=>exact ⟨0,rfl,rfl,by first | rfl | trivial,fun j hj=>by omega⟩
           case round =>
            obtain ⟨n,rfl,rfl,rfl,hall⟩:=hrel;have Hall:=Lib.hid hall;clear hall hd hx d32 d9 d10 d47 krs krm hbl;have hlkn:=zaM s (k + n);by_cases hm:plc s (k + n)<s.size
            · have hd4:(plc s (k + n):Int)<(s.size:Nat):=by omega
              have hge:=zkv hm;have kmn:∀W,_:=fun W=>rmay_any s (plc s (k + n)) W hs6 hm;have ksn:∀W,_:=fun W=>step_any s (plc s (k + n):Nat) (plc s (k + n)) W rfl hs6 hm;cases hmn:zcg s (plc s (k + n)) with
              | true =>
               rw [hmn] at kmn;have HP:=Lib.hid (zaC hm);have hw2:=zcF hm;have HM:=Lib.hid (And.intro hm hmn);clear hmn;go_wp2_with (first
                | ((with_reducible refine (kmn _).mono ?_);rintro e w' ⟨rfl,rfl⟩)
                | ((with_reducible refine (ksn _).mono ?_);rintro e w' ⟨rfl,rfl⟩))
               go_roundw
               case rel=>exact ⟨n + 1,by rw [←Nat.add_assoc,HP.out];go_num,by go_num,by first | rfl | trivial,fun j hj=>by
                by_cases e:j=n
                · subst e;exact HM.out
                · exact Hall.out j (by omega)⟩
               case measure=>simp [intOf];omega
              | false =>
               rw [hmn] at kmn;have hwn:=wrN_at Hall.out fun _=>hmn;clear hmn;by_cases h24:n≤24
               · obtain ⟨hN,hpo⟩:=HL.out.word Hx.out HC.out.1 HC.out.2.1 HC.out.2.2.1 HC.out.2.2.2 (by rw [hwn];exact h24);rw [hwn] at hN hpo;have HN:=Lib.hid hN;have hd6:¬((24:Int)<(n:Nat)):=by omega
                 have hlt6:=zaQ Hx.out;have hmo6:=zaZ s (show k + 1≤k + n by omega);have hle6:=zaM s (k + n);clear hN hwn;go_wp2_with (first
                  | ((with_reducible refine (kmn _).mono ?_);rintro e w' ⟨rfl,rfl⟩)
                  | (at_builtin;refine zaa _ rfl (.tmp 117) (.tmp 124) 185 185 rfl w.heap.size 194 i0 (.agg #[.int .i64 0,.string .empty,.int .i64 0]) 3 32 Tryz.underlying185 hi0 hz0 hz1 hz2 rfl (by decide) _ l.length (tcells l) rfl (Hrow.out.alloc _) _ 1 [.int .i64 1,.string (s.extract (plc s k) (plc s (k + n))),.int .i64 (plc s k:Nat)] rfl (Src.ofSlice _ Tryz.underlying185 _ 1 1 _ rfl (za1 _ _ _ _ _) (tcell_one (1,s.extract (plc s k) (plc s (k + n)),plc s k))) (by simp only [maxLen];omega) (by omega) (size_alloc hbs) ?_;intro v1 w1 hown1 hg1 hat1;obtain ⟨A1,c1,rfl,_⟩:=Rd.own hown1;obtain ⟨hb1',hr1⟩:=zd1 (t:=(1,s.extract (plc s k) (plc s (k + n)),plc s k)) Hb.out Hrow.out hbs hg1 Hrow.out hown1;have HB1:=Lib.hid hb1';have HR1:=Lib.hid hr1;clear hown1 hg1 hat1 hb1' hr1))
                 go_roundw
                 case rel=>exact ⟨k + n,_,rfl,HN.out,by simpa using HR1.out,HB1.out⟩
                 case measure=>simp [intOf];omega
               · have hE:=HL.out.long Hx.out HC.out.1 HC.out.2.1 HC.out.2.2.1 HC.out.2.2.2 (by rw [hwn];exact h24);have HE:=Lib.hid hE;have hd6:(24:Int)<(n:Nat):=by omega
                 clear hE hwn;go_wp2_with (first
                  | ((with_reducible refine (kmn _).mono ?_);rintro e w' ⟨rfl,rfl⟩)
                  | (at_builtin;refine zaa _ rfl (.tmp 117) (.tmp 124) 185 185 rfl w.heap.size 194 i0 (.agg #[.int .i64 0,.string .empty,.int .i64 0]) 3 32 Tryz.underlying185 hi0 hz0 hz1 hz2 rfl (by decide) _ l.length (tcells l) rfl (Hrow.out.alloc _) _ 1 [.int .i64 1,.string (s.extract (plc s k) (plc s (k + n))),.int .i64 (plc s k:Nat)] rfl (Src.ofSlice _ Tryz.underlying185 _ 1 1 _ rfl (za1 _ _ _ _ _) (tcell_one (1,s.extract (plc s k) (plc s (k + n)),plc s k))) (by simp only [maxLen];omega) (by omega) (size_alloc hbs) ?_;intro v1 w1 hown1 hg1 hat1;obtain ⟨A1,c1,rfl,_⟩:=Rd.own hown1;obtain ⟨hb1',hr1⟩:=zd1 (t:=(1,s.extract (plc s k) (plc s (k + n)),plc s k)) Hb.out Hrow.out hbs hg1 Hrow.out hown1;have HB1:=Lib.hid hb1';have HR1:=Lib.hid hr1;clear hown1 hg1 hat1 hb1' hr1))
                 go_ret3
                 have hA:=HA2.out;rw [HE.out] at hA;exact AllPost.empty hA Hb.out
            · have hd4:¬((plc s (k + n):Int)<(s.size:Nat)):=by omega
              have hwn:=wrN_at Hall.out fun hh=>absurd hh hm;have hge:n≤2048:=by
               rcases Nat.eq_zero_or_pos n with e | e
               · omega
               · have h1:=(Hall.out (n-1) (by omega)).1;have h2:=zkv h1;omega
              by_cases h24:n≤24
              · obtain ⟨hN,hpo⟩:=HL.out.word Hx.out HC.out.1 HC.out.2.1 HC.out.2.2.1 HC.out.2.2.2 (by rw [hwn];exact h24);rw [hwn] at hN hpo;have HN:=Lib.hid hN;have hd6:¬((24:Int)<(n:Nat)):=by omega
                have hlt6:=zaQ Hx.out;have hmo6:=zaZ s (show k + 1≤k + n by omega);have hle6:=zaM s (k + n);clear hN hwn;go_wp2_with (at_builtin;refine zaa _ rfl (.tmp 117) (.tmp 124) 185 185 rfl w.heap.size 194 i0 (.agg #[.int .i64 0,.string .empty,.int .i64 0]) 3 32 Tryz.underlying185 hi0 hz0 hz1 hz2 rfl (by decide) _ l.length (tcells l) rfl (Hrow.out.alloc _) _ 1 [.int .i64 1,.string (s.extract (plc s k) (plc s (k + n))),.int .i64 (plc s k:Nat)] rfl (Src.ofSlice _ Tryz.underlying185 _ 1 1 _ rfl (za1 _ _ _ _ _) (tcell_one (1,s.extract (plc s k) (plc s (k + n)),plc s k))) (by simp only [maxLen];omega) (by omega) (size_alloc hbs) ?_;intro v1 w1 hown1 hg1 hat1;obtain ⟨A1,c1,rfl,_⟩:=Rd.own hown1;obtain ⟨hb1',hr1⟩:=zd1 (t:=(1,s.extract (plc s k) (plc s (k + n)),plc s k)) Hb.out Hrow.out hbs hg1 Hrow.out hown1;have HB1:=Lib.hid hb1';have HR1:=Lib.hid hr1;clear hown1 hg1 hat1 hb1' hr1)
                go_roundw
                case rel=>exact ⟨k + n,_,rfl,HN.out,by simpa using HR1.out,HB1.out⟩
                case measure=>simp [intOf];omega
              · have hE:=HL.out.long Hx.out HC.out.1 HC.out.2.1 HC.out.2.2.1 HC.out.2.2.2 (by rw [hwn];exact h24);have HE:=Lib.hid hE;have hd6:(24:Int)<(n:Nat):=by omega
                clear hE hwn;go_wp2_with (at_builtin;refine zaa _ rfl (.tmp 117) (.tmp 124) 185 185 rfl w.heap.size 194 i0 (.agg #[.int .i64 0,.string .empty,.int .i64 0]) 3 32 Tryz.underlying185 hi0 hz0 hz1 hz2 rfl (by decide) _ l.length (tcells l) rfl (Hrow.out.alloc _) _ 1 [.int .i64 1,.string (s.extract (plc s k) (plc s (k + n))),.int .i64 (plc s k:Nat)] rfl (Src.ofSlice _ Tryz.underlying185 _ 1 1 _ rfl (za1 _ _ _ _ _) (tcell_one (1,s.extract (plc s k) (plc s (k + n)),plc s k))) (by simp only [maxLen];omega) (by omega) (size_alloc hbs) ?_;intro v1 w1 hown1 hg1 hat1;obtain ⟨A1,c1,rfl,_⟩:=Rd.own hown1;obtain ⟨hb1',hr1⟩:=zd1 (t:=(1,s.extract (plc s k) (plc s (k + n)),plc s k)) Hb.out Hrow.out hbs hg1 Hrow.out hown1;have HB1:=Lib.hid hb1';have HR1:=Lib.hid hr1;clear hown1 hg1 hat1 hb1' hr1)
                go_ret3
                have hA:=HA2.out;rw [HE.out] at hA;exact AllPost.empty hA Hb.out
     · have hd:¬((plc s k:Int)<(s.size:Nat)):=by omega
       obtain ⟨hpj,hcode,htoks⟩:=hL.fin h;have HC:=Lib.hid hcode;have HT:=Lib.hid htoks;clear hL hpj hcode htoks;go_wp2_with (at_builtin;refine zaa _ rfl (.tmp 127) (.tmp 131) 185 185 rfl w.heap.size 194 i0 (.agg #[.int .i64 0,.string .empty,.int .i64 0]) 3 32 Tryz.underlying185 hi0 hz0 hz1 hz2 rfl (by decide) _ l.length (tcells l) rfl (Hrow.out.alloc _) _ 1 [.int .i64 3,.string ⟨#[]⟩,.int .i64 (s.size:Nat)] rfl (Src.ofSlice _ Tryz.underlying185 _ 1 1 _ rfl (za1 _ _ _ _ _) (tcell_one (3,⟨#[]⟩,s.size))) (by simp only [maxLen];omega) (by omega) (size_alloc hbs) ?_;intro v1 w1 hown1 hg1 hat1;obtain ⟨A1,c1,rfl,hrd⟩:=Rd.own hown1;obtain ⟨hb1',hr1⟩:=zd1 (t:=(3,⟨#[]⟩,s.size)) Hb.out Hrow.out hbs hg1 Hrow.out hown1;have HB1:=Lib.hid hb1';have HRD:=Lib.hid hrd;clear hown1 hg1 hat1 hb1' hr1 hrd)
       go_ret3
       have hA:=HA2.out;rw [if_pos (by rw [HC.out])] at hA;refine ⟨⟨A1,c1,?_,?_⟩,HB1.out⟩
       · rw [hA,HC.out,HT.out,List.length_append];rfl
       · unfold Toks;rw [hA,HT.out,List.length_append,zen];exact HRD.out
end Go.Proofs.YtahegpfdbgbioaaGreat
namespace Go.Proofs.YtahegpfdbgbioaaGreat
open Go.RowKit
theorem zjt:∀(f:Nat) (acc:List zcb) (q:St),zbt (zi4 f acc q).2≤zbt q
 | 0,acc,q=>by unfold zi4;exact zdV
 | f + 1,acc,q=>by
  unfold zi4;have a:=@za7 q;have b:=@zfq (zaF q).2;have c:=@za7 (upU (zaF q).2);by_cases h:isU (sg 35) (zaF q).2=true
  · simp only [zef,if_pos h];split
    · refine Nat.le_trans (zjt f _ _) ?_;have:=@zfq (zaF (upU (zaF q).2)).2;omega
    · show zbt (zaF (upU (zaF q).2)).2≤_;omega
  · simp only [zef,if_neg h];split
    · refine Nat.le_trans (zjt f _ _) ?_;omega
    · exact a
theorem len_rew {f d:Nat} {q:St}:zbt (zjM f d q).2≤zbt q:=by
 have a:=((zbV f).1 d q).2;have b:=((zbV f).2 d (partU f d q).1 (partU f d q).2).2;show zbt (moreU f d (partU f d q).1 (partU f d q).2).2≤_;omega
theorem len_tail (f:Nat) (n v e c:ByteArray) (q:St):zbt (zlF f n v e c q).2≤zbt q:=by
 show zbt (zaD (sg 59) (if isU sIs (if zgH q && !isU sIs q && !isU (sg 59) q then zi4 f [] q else ([],q)).2=true then zjM f 0 (upU (if zgH q && !isU sIs q && !isU (sg 59) q then zi4 f [] q else ([],q)).2) else ([(1,⟨#[]⟩,⟨#[]⟩)],(if zgH q && !isU sIs q && !isU (sg 59) q then zi4 f [] q else ([],q)).2)).2)≤_;refine Nat.le_trans zbi ?_;have h1:zbt (if zgH q && !isU sIs q && !isU (sg 59) q then zi4 f [] q else ([],q)).2≤zbt q:=by
  split
  · exact zjt f _ _
  · exact Nat.le_refl _
 generalize (if zgH q && !isU sIs q && !isU (sg 59) q then zi4 f [] q else ([],q)).2=m at *
 split
 · refine Nat.le_trans len_rew ?_;have:=@zfq m;omega
 · exact h1
theorem len_rel {f:Nat} {q:St}:zbt (zlM f q).2≤zbt q:=by
 have a1:=@za7 q;have a2:=@zbi (sg 40) (zaF q).2;generalize hv:zaF (zaD (sg 40) (zaF q).2)=nv;have a3:=@za7 (zaD (sg 40) (zaF q).2);rw [hv] at a3;have a4:=@zbi (sg 44) nv.2;generalize he:zaF (zaD (sg 44) nv.2)=ne;have a5:=@za7 (zaD (sg 44) nv.2);rw [he] at a5;have a6:=@zbi (sg 44) ne.2;generalize hc:zaF (zaD (sg 44) ne.2)=nc;have a7:=@za7 (zaD (sg 44) ne.2);rw [hc] at a7;have a8:=@zbi (sg 41) nc.2;have a9:=@zbi (sg 58) (zaD (sg 41) nc.2);have h:zlM f q=zlF f (zaF q).1 nv.1 ne.1 nc.1 (zaD (sg 58) (zaD (sg 41) nc.2)):=by
  unfold zlM;simp only [zef,hv,he,hc];rfl
 rw [h];have:=len_tail f (zaF q).1 nv.1 ne.1 nc.1 (zaD (sg 58) (zaD (sg 41) nc.2));omega
def zkU (o:List TypP × Nat × Nat) (w:World) (e:Ending) (w':World):Prop :=
 ∃v,e = .returned (.tuple #[v,.int .i64 o.2.1,.int .i64 o.2.2])∧NDVTyps w.heap.size w' v o.1∧Below w.heap.size w w'
theorem zbr (B:Nat) (w:World):NDVTyps B w (.slice none 0 0) []:=⟨[],World.ownsRow_nil _ _ _ _,rfl⟩
theorem rparse_any (s:ByteArray) (w:World) (f0:s.size≤maxLen):Calls Tryz.prog 55 #[.string s] w (zkU (zah s) w):=by
 have ka:=rall_any s w f0;unfold AllPost at ka;by_cases h0:(zbQ s).2.1=0
 · have hp:zah s=zgM (zbP (2 * (zbQ s).1.length + 2) (2 * (zbQ s).1.length + 2) [] (.ok (zbQ s).1)):=by unfold zah;rw [if_pos h0];exact ziW
   have hf:=zjV (zfB h0) h0;rw [hp];rw [h0] at ka;clear h0 hp f0;generalize (zbQ s).1=T at *
   generalize (zbQ s).2.2=p0 at *
   have hT:=hf.1;obtain ⟨F,hF⟩:∃F,2 * T.length + 2=F:=⟨_,rfl⟩;rw [hF];obtain ⟨R,hR⟩:∃R,zbP F F [] (.ok T)=R:=⟨_,rfl⟩;rw [hR];go_enter Tryz.func55,Tryz.ntmps55
   go_wp2_with fail
   refine ka.mono ?_;rintro e W1 ⟨⟨A,c,rfl,ht⟩,hB⟩;clear ka;go_wp2_with fail
   have hS:PSt (W1.alloc (.cells #[.slice A T.length c,.int .i64 0,.int .i64 0,.int .i64 0] 190)) W1.heap.size (.ok T) :=
    ⟨A,c,T,0,0,0,⟨Bk.new W1 _ _,Rd.below ht ((Below.refl _ W1).alloc (Nat.le_refl _) _),hf,hT⟩,rfl,rfl⟩
   have hK:Kp W1.heap.size w.heap.size w (W1.alloc (.cells #[.slice A T.length c,.int .i64 0,.int .i64 0,.int .i64 0] 190)):=Kp.of_below (hB.alloc hB.size _) _;have hgB:w.heap.size≤W1.heap.size:=hB.size;clear ht hB;generalize W1.alloc (.cells #[.slice A T.length c,.int .i64 0,.int .i64 0,.int .i64 0] 190)=W2 at *
   generalize W1.heap.size=g at *
   go_loopw [9] (fun vo wr=>∃acc q n,PSt wr g q∧Kp g w.heap.size w wr∧NDVTyps (g + 1) wr vo acc∧zbt q<n∧zbP F n acc q=R∧acc.length + zbt q≤1000000∧zbt q<F) (fun _ wr=>zfx wr g)
   case atStart=>exact ⟨[],.ok T,F,hS,hK,zbr _ _,(show T.length<F by omega),hR,(by show 0 + T.length≤_;omega),(show T.length<F by omega)⟩
   case round =>
    clear hS hK hR;obtain ⟨acc,q,n,hS,hK,hv,hn,hM,hl,hlF⟩:=hrel;obtain ⟨n,rfl⟩:∃m,n=m + 1:=⟨n-1,by omega⟩;unfold zbP at hM;have hlf:=hS.left;have k:=ris_any hS zcv;obtain ⟨xs,hv1,hv2⟩:=hv;obtain ⟨Ao,co,rfl,_⟩:=Rd.own hv1;cases hi:isU zcv q with
    | true =>
     rw [hi] at k;rw [if_pos hi] at hM;go_wp2_with fail
     refine k.mono ?_;rintro e X0 ⟨rfl,hx⟩;obtain ⟨l,rfl,he⟩:=zcT hi;have hl1:=zgc (show 0<zcv.size by decide) hi;replace hS:=hS.below hx;replace hv1:=zag hv1 hx;replace hv2:=hv2.keep (zbZ hx);replace hK:=hK.trans ((Kp.of_below hx g).more hK.size);clear k hx;obtain ⟨A2,c2,T2,i,e,p,hP,rfl,rfl⟩:=hS;have hf2:=hP.fine.next (show 0<zcv.size by decide) he;obtain ⟨_,_,_,hiT,_⟩:=hP.get;have hmT:=hP.few;have u1:X0.cell? ⟨g,1,none⟩=some (.int .i64 i):=hP.cells.cell 1;have z1:=hP.cells.fz 1;have lt1:=hP.cells.lt;go_wp2_with fail
     have hS:=hP.up hf2;replace hK:=hK.trans (zdE g w.heap.size X0 1 (.int .i64 ((i:Int) + 1)));replace hv2:=hv2.keep (zdv (a:=⟨g,1,none⟩) (show g<g + 1 by omega) (.int .i64 ((i:Int) + 1)));replace hv1:=zai (a:=⟨g,1,none⟩) hv1 (show g<g + 1 by omega) (.int .i64 ((i:Int) + 1));clear hP u1 z1 lt1;generalize X0.setCell ⟨g,1,none⟩ (.int .i64 ((i:Int) + 1))=X1 at *
     generalize hq1:upU (.ok (T2.drop i))=q1 at *
     obtain ⟨na,hna⟩:∃r,zaF q1=r:=⟨_,rfl⟩;have hl2:=@za7 q1;rw [hna] at hl2;refine (pname_any hS).mono ?_;rw [hna];rintro e X2 ⟨hk,⟨v,rfl,hvs⟩,hS2⟩;obtain rfl:v = .string na.1:=hvs;replace hv1:=zaL hv1 hk (by omega);replace hv2:=hv2.keep (zfR hk (by omega));replace hK:=hK.trans (hk.more hK.size);clear hS hk;go_wp2_with fail
     have hgX:=hS2.size;have hBT:w.heap.size≤X2.heap.size:=hK.size;have hb:=Bk.new X2 #[.string na.1,.slice none 0 0] 115;have hS:=hS2.alloc (.cells #[.string na.1,.slice none 0 0] 115);have hX:Kp g X2.heap.size X2 (X2.alloc (.cells #[.string na.1,.slice none 0 0] 115)):=(Kp.refl g X2.heap.size X2).alloc (Nat.le_refl _) _;clear hS2;obtain ⟨BT,hBTe⟩:∃b,X2.heap.size=b:=⟨_,rfl⟩;rw [hBTe] at hgX hBT hb hX ⊢;generalize X2.alloc (.cells #[.string na.1,.slice none 0 0] 115)=X3 at *
     refine (rneed_any hS (zal 123)).mono ?_;rintro e X4 ⟨hk,⟨v,rfl,rfl⟩,hS2⟩;have hl3:=@zbi (sg 123) na.2;replace hX:=hX.trans (hk.more (by have:=hX.size;omega));replace hb:=hb.kp hk (by omega);clear hS hk;obtain ⟨q2,hq2⟩:∃r,zaD (sg 123) na.2=r:=⟨_,rfl⟩;rw [hq2] at hS2 hl3;obtain ⟨R2,hR2⟩:∃r,zej F F [] q2=r:=⟨_,rfl⟩;have hM2:zbP F n (acc ++ [⟨na.1,R2.1⟩]) (zaD (sg 125) R2.2)=R:=by
      rw [←hM];simp only [zef,hna,hq2,hR2]
     have HM:=Lib.hid hM2;clear hM hM2 hna hq2 hi he hq1;have hS:=hS2;clear hS2;go_wp2_with fail
     go_loopw [] (fun wx=>∃acc2 q3 vr n2,Bk wx BT #[.string na.1,vr] 115∧NDVRels (BT + 1) wx vr acc2∧PSt wx g q3∧Kp g BT X2 wx∧zbt q3<n2∧zej F n2 acc2 q3=R2∧acc2.length + zbt q3≤1000000∧zbt q3≤zbt q2) (fun wx=>zfx wx g)
     case atStart=>exact ⟨[],q2,_,F,hb,⟨[],World.ownsRow_nil _ _ _ _,rfl⟩,hS,hX,by omega,hR2,by have:=hS.few;simp only [List.length_nil];omega,Nat.le_refl _⟩
     case round =>
      clear hb hS hX hR2;obtain ⟨acc2,q3,vr,n2,hb,hvr,hS,hX,hn2,hM2,hl4,hl5⟩:=hrel;obtain ⟨n2,rfl⟩:∃m,n2=m + 1:=⟨n2-1,by omega⟩;unfold zej at hM2;have hlf2:=hS.left;have k:=ris_any hS zgD;obtain ⟨ys,hr1,hr2⟩:=hvr;obtain ⟨Ar,cr,rfl,_⟩:=Rd.own hr1;cases hi:isU zgD q3 with
      | true =>
       rw [hi] at k;rw [if_pos hi] at hM2;go_wp2_with fail
       refine k.mono ?_;rintro e Y0 ⟨rfl,hx⟩;clear HM;obtain ⟨l3,rfl,he⟩:=zcT hi;have hl6:=zgc (show 0<zgD.size by decide) hi;replace hS:=hS.below hx;replace hr1:=zag hr1 hx;replace hr2:=hr2.keep ⟨fun _ _ _ h=>zag h hx,fun _ _ _ h=>zag h hx⟩;replace hb:=hb.below hx;have hXz:BT≤wr.heap.size:=by have:=hX.size;omega
       replace hX:=hX.trans ((Kp.of_below hx g).more hXz);clear k hx hXz;obtain ⟨A3,c3,T3,i3,e3,p3,hP,rfl,rfl⟩:=hS;have hf3:=hP.fine.next (show 0<zgD.size by decide) he;obtain ⟨_,_,_,hiT3,_⟩:=hP.get;have hmT3:=hP.few;have u1:Y0.cell? ⟨g,1,none⟩=some (.int .i64 i3):=hP.cells.cell 1;have z1:=hP.cells.fz 1;have lt1:=hP.cells.lt;go_wp2_with fail
       have hS:=(hP.up hf3).drew;replace hX:=(hX.trans (zdE g BT Y0 1 (.int .i64 ((i3:Int) + 1)))).drew;replace hb:Bk _ BT #[.string na.1,.slice Ar acc2.length cr] 115:=hb.other (a:=⟨g,1,none⟩) (by dsimp only;omega) (.int .i64 ((i3:Int) + 1));replace hr2:=(hr2.keep (zeb (a:=⟨g,1,none⟩) (show g<BT + 1 by omega) (.int .i64 ((i3:Int) + 1)))).keep (zia _ (BT + 1));replace hr1:=zbM (zai (a:=⟨g,1,none⟩) hr1 (show g<BT + 1 by omega) (.int .i64 ((i3:Int) + 1)));replace hb:Bk (Y0.setCell ⟨g,1,none⟩ (.int .i64 ((i3:Int) + 1))).drew BT #[.string na.1,.slice Ar acc2.length cr] 115:=hb;clear hP u1 z1 lt1;refine wp_region_any (by kernel_rfl) ?_;change wpAny _ _ _ _ _ _ _ (World.drew _);generalize (Y0.setCell ⟨g,1,none⟩ (.int .i64 ((i3:Int) + 1))).drew=W6 at *
       generalize hq4:upU (.ok (T3.drop i3))=q4 at *
       refine zdd 0 (some 47) (v:=?v0) rfl rfl (by kernel_rfl) (by kernel_rfl) (by kernel_rfl) (fun _ _ _ h=>h) (by rfl) ?y0 ?r0;case y0=>(intro w;go_simp;try with_reducible rfl)
       simp only [Act.put,List.setIfInBounds_toArray,List.set_cons_zero,List.set_cons_succ];refine zdd 2 (some 49) (v:=?v2) rfl rfl (by kernel_rfl) (by kernel_rfl) (by kernel_rfl) (fun _ _ _ h=>h) (by rfl) ?y2 ?r2;case y2=>(intro w;go_simp;try with_reducible rfl)
       simp only [Act.put,List.setIfInBounds_toArray,List.set_cons_zero,List.set_cons_succ];refine zh0 1 3 4 (some 48) (fun W=>W.cell? ⟨BT,1,none⟩=some (.slice Ar acc2.length cr)) (v:=?v1) rfl rfl rfl rfl (by kernel_rfl) (by kernel_rfl) (by kernel_rfl) (by decide) (by decide) (by decide) (by kernel_rfl) (by kernel_rfl) (by kernel_rfl) (by kernel_rfl) (by kernel_rfl) (by kernel_rfl) (by kernel_rfl) (by kernel_rfl) (by kernel_rfl) (by kernel_rfl) (fun _ _ _ h=>h) (by rfl) ?y1 (hb.cell 1) ?r1;case y1=>(intro w hS;(try dsimp only at hS);go_simp;try with_reducible rfl)
       simp only [Act.put,List.setIfInBounds_toArray,List.set_cons_zero,List.set_cons_succ];intro K hK';go_simp;obtain ⟨xr,hxr⟩:∃r,zlM F q4=r:=⟨_,rfl⟩;have hl8:zbt xr.2≤zbt q4:=by rw [←hxr];exact len_rel
       refine (rrel_any (f:=F) hS (by omega)).mono ?_;rw [hxr];rintro e W7 ⟨hk,⟨v,rfl,vs,vo,rfl,hs1,hs2⟩,hS7⟩;have hlt:=hb.lt;have hM3:zej F n2 (acc2 ++ [xr.1]) xr.2=R2:=by rw [←hM2];simp only [zef,hxr]
       clear hM2 hxr hi he hq4;replace hX:=hX.trans (hk.more (by have:=hX.size;omega));replace hb:=hb.kp hk (by omega);replace hr2:=hr2.keep (zeU hk (by omega));replace hr1:=zaL hr1 hk (by omega);have hs1':NDVSubs (BT + 1) W7 vs xr.1.subs:=zav hs1 (by omega);have hs2':NDVOps (BT + 1) W7 vo xr.1.ops:=zav hs2 (by omega);obtain ⟨As,cS,rfl,_⟩:=Rd.own hs1';obtain ⟨Ap,cP,rfl,_⟩:=Rd.own hs2';clear hs1 hs2 hk hS;refine hK' _ _ (hb.cell 1) ?_;clear hK' K;refine wpOp_step rfl fun K2 hK2=>?_;go_simp;refine hK2 _ _ ⟨zar (hb.cell 1) _,?_⟩;clear hK2 K2;have hz7:BT + 1≤W7.heap.size:=hb.lt;obtain ⟨i0,hi0,hz0,hz1,hz2⟩:=info_parts zkS;refine wpAny_ready (rs:=[5]) (by kernel_rfl) (by simp) ?_;refine AllReady.cons rfl (fun K hK'=>?_) AllReady.nil;rw [if_pos (by rfl)];refine zbL _ (some 52) rfl (.tmp 48) (.tmp 51) 113 113 rfl (BT + 1) 48 i0 (.agg #[.string .empty,.string .empty,.string .empty,.string .empty,.slice none 0 0,.slice none 0 0]) 6 112 Tryz.underlying113 hi0 hz0 hz1 hz2 rfl (by decide) (.slice Ar acc2.length cr) acc2.length ys rfl (World.ownsRow.alloc hr1 _) _ 1 [.string xr.1.name,.string xr.1.view,.string xr.1.edit,.string xr.1.check,.slice As xr.1.subs.length cS,.slice Ap xr.1.ops.length cP] rfl (Src.ofSlice _ Tryz.underlying113 _ 1 1 _ rfl (zeY _ _ _ _ _ _ _ _) (zgq _ _ _ _ _ _ _ _ _ _)) (by simp only [maxLen];omega) (by omega) (size_alloc hz7) ?_;intro v8 W8 hown8 hg8;refine hK' _ _ ?_;clear hK' K;simp only [Act.put,List.setIfInBounds_toArray,List.set_cons_zero,List.set_cons_succ]
       have hS8:=hS7.grown (v:=.slice Ar acc2.length cr) hg8 hr1 (by omega);have hX8:=za6 (v:=.slice Ar acc2.length cr) hX hg8 hr1 (by omega) (by omega);have hb8:=hb.grown (v:=.slice Ar acc2.length cr) hg8 hr1 (by omega);have hkp:=zeq (B:=BT + 1) (u:=.slice Ar acc2.length cr) hr1 (by decide) (by decide) hg8;have hr8:=NDRelsC.snoc (y:=xr.1) ⟨_,_,rfl,hkp.1 _ _ _ hs1',hkp.2 _ _ _ hs2'⟩ (hr2.keep hkp);clear hg8 hkp hr2 hr1 hs1' hs2' hb hX hS7;obtain ⟨A8,c8,rfl,_⟩:=Rd.own hown8;refine zdd 6 (some 53) (v:=?v6) rfl rfl (by kernel_rfl) (by kernel_rfl) (by kernel_rfl) (fun _ _ _ h=>h) (by rfl) ?y6 ?r6;case y6=>(intro w;go_simp;try with_reducible rfl)
       simp only [Act.put,List.setIfInBounds_toArray,List.set_cons_zero,List.set_cons_succ];obtain ⟨x0,x1⟩:=hb8.c2;have fx:=hb8.fz;refine wpAny_ready (rs:=[7]) (by kernel_rfl) (by simp) ?_;refine AllReady.cons rfl (fun K hK'=>?_) AllReady.nil;go_simp;refine hK' _ _ ?_;clear hK' K;refine wpAny_done (by kernel_rfl) ?_ _;have hS9:=hS8.set (a:=⟨BT,1,none⟩) (show g<BT by omega) (.slice A8 (acc2.length + 1) c8);have hX9:=hX8.set (a:=⟨BT,1,none⟩) (show BT≤BT by omega) (.slice A8 (acc2.length + 1) c8);have hb9:Bk _ BT #[.string na.1,.slice A8 (acc2.length + 1) c8] 115:=hb8.set 1 (.slice A8 (acc2.length + 1) c8);have hr9:=hr8.keep (zeb (a:=⟨BT,1,none⟩) (show BT<BT + 1 by omega) (.slice A8 (acc2.length + 1) c8));have ho9:=zai (a:=⟨BT,1,none⟩) hown8 (show BT<BT + 1 by omega) (.slice A8 (acc2.length + 1) c8);clear hS8 hX8 hb8 hr8 hown8 x0 x1 fx;generalize W8.setCell ⟨BT,1,none⟩ (.slice A8 (acc2.length + 1) c8)=W9 at *
       go_wp2_with fail
       refine ⟨⟨acc2 ++ [xr.1],xr.2,_,n2,hb9,⟨_,?_,hr9⟩,hS9,hX9,by omega,hM3,?_,by omega⟩,?_⟩
       · rw [List.length_append];exact ho9
       · rw [List.length_append,List.length_singleton];omega
       · rw [hS9.left,hlf2];omega
      | false =>
       rw [hi] at k;rw [if_neg (by rw [hi];decide)] at hM2;subst hM2;have hM3:zbP F n (acc ++ [⟨na.1,acc2⟩]) (zaD (sg 125) q3)=R:=HM.out;go_wp2_with fail
       refine k.mono ?_;rintro e Y0 ⟨rfl,hx⟩;replace hS:=hS.below hx;replace hr1:=zag hr1 hx;replace hr2:=hr2.keep ⟨fun _ _ _ h=>zag h hx,fun _ _ _ h=>zag h hx⟩;replace hb:=hb.below hx;have hXz:BT≤wr.heap.size:=by have:=hX.size;omega
       replace hX:=hX.trans ((Kp.of_below hx g).more hXz);clear k hx hXz HM hi;go_wp2_with fail
       refine (rneed_any hS (zal 125)).mono ?_;rintro e Y1 ⟨hk,⟨v,rfl,rfl⟩,hS2⟩;have hl7:=@zbi (sg 125) q3;replace hb:=hb.kp hk (by omega);replace hr1:=zaL hr1 hk (by omega);replace hr2:=hr2.keep (zeU hk (by omega));replace hX:=hX.trans (hk.more (by have:=hX.size;omega));clear hS hk;have hX':Kp g X2.heap.size X2 Y1:=by rw [hBTe];exact hX
       replace hv1:=zaL hv1 hX' (by omega);replace hv2:=hv2.keep (zfR hX' (by omega));replace hK:=hK.trans (hX.more hBT);have b0:Y1.cell? ⟨BT,0,none⟩=some (.string na.1):=hb.cell 0;have b1:Y1.cell? ⟨BT,1,none⟩=some (.slice Ar acc2.length cr):=hb.cell 1;have lb:=hb.lt;have hgz:g + 1≤Y1.heap.size:=by omega
       obtain ⟨i0,hi0,hz0,hz1,hz2⟩:=info_parts zkT;have hlT:T2.length≤1000000:=hmT;have hacc:acc.length + 1≤1000001:=by omega
       go_wp2_with (at_builtin;refine zaa _ rfl (.tmp 56) (.tmp 58) 31 31 rfl (g + 1) 115 i0 (.agg #[.string .empty,.slice none 0 0]) 2 40 Tryz.underlying31 hi0 hz0 hz1 hz2 rfl (by decide) _ acc.length xs rfl (World.ownsRow.alloc hv1 _) _ 1 [.string na.1,.slice Ar acc2.length cr] rfl (Src.ofSlice _ Tryz.underlying31 _ 1 1 _ rfl (zbq _ _ _ _) (zi9 _ _ _ _)) (by simp only [maxLen];omega) (by omega) (size_alloc hgz) ?_;intro v8 W8 hown8 hg8 hat8;obtain ⟨A8,c8,rfl,_⟩:=Rd.own hown8)
       have hS8:=hS2.grown (v:=.slice Ao acc.length co) hg8 hv1 (by omega);have hK8:=za6 (v:=.slice Ao acc.length co) hK hg8 hv1 hK.size (by omega);have hkp:=zgE (B:=g + 1) (u:=.slice Ao acc.length co) hv1 (by decide) (by decide) (by decide) hg8;have hvr8:NDVRels (g + 1) W8 (.slice Ar acc2.length cr) acc2:=NDVRels.keep hkp (NDVRels.base (show g + 1≤BT + 1 by omega) ⟨ys,hr1,hr2⟩);have hv8:=NDTypsC.snoc (y:=⟨na.1,acc2⟩) ⟨_,rfl,hvr8⟩ (hv2.keep hkp);refine ⟨⟨acc ++ [⟨na.1,acc2⟩],zaD (sg 125) q3,n,hS8,hK8,⟨_,?_,hv8⟩,by omega,hM3,?_,by omega⟩,?_⟩
       · rw [List.length_append];exact hown8
       · rw [List.length_append,List.length_singleton];omega
       · rw [hS8.left,hlf];omega
    | false =>
     rw [hi] at k;rw [if_neg (by rw [hi];decide)] at hM;subst hM;go_wp2_with fail
     refine k.mono ?_;rintro e X0 ⟨rfl,hx⟩;replace hS:=hS.below hx;replace hv1:=zag hv1 hx;replace hv2:=hv2.keep (zbZ hx);replace hK:=hK.trans ((Kp.of_below hx g).more hK.size);clear k hx hi;have hq:=hS;obtain ⟨A2,c2,T2,i,e,p,hP,hs⟩:=hS;obtain ⟨b,o,rfl,hiT,hbg,s0,_,_⟩:=hP.get;have hmT:=hP.few;have u0:X0.cell? ⟨g,0,none⟩=some (.slice (some ⟨b,o,none⟩) T2.length c2):=hP.cells.cell 0;have u1:X0.cell? ⟨g,1,none⟩=some (.int .i64 i):=hP.cells.cell 1;have hi2:(i:Int)<(T2.length:Nat):=by omega
     go_wp2
     go_quiet (fail)
     have hbq:Below X0.heap.size X0 (X0.drewN nq):=⟨rfl,rfl,rfl,Nat.le_refl _,fun _ _=>rfl⟩;replace hq:=hq.below hbq;replace hP:=hP.below hbq;replace hv1:=zag hv1 hbq;replace hv2:=hv2.keep (zbZ hbq);replace hK:=hK.trans ((Kp.of_below hbq g).more hK.size);clear hbq s0 u0 u1;generalize X0.drewN nq=X1 at *
     have u2:X1.cell? ⟨g,2,none⟩=some (.int .i64 e):=hP.cells.cell 2;have u3:X1.cell? ⟨g,3,none⟩=some (.int .i64 p):=hP.cells.cell 3;obtain ⟨kk,hkk⟩:∃k,(hdT (T2.drop i)).1=k:=⟨_,rfl⟩;rw [hkk];cases q with
     | error x =>
      obtain ⟨rfl,hx,rfl⟩:=hs;have d0:(((x.1:Nat):Int) == 0)=false:=by rw [beq_eq_false_iff_ne];omega
      have HR:Hid (zgM (acc,.error x)=([],x)):=Lib.hid rfl;by_cases h3:kk=3
      · subst h3;go_wp2
        go_quiet (fail)
        have hbq:Below X1.heap.size X1 (X1.drewN nq):=⟨rfl,rfl,rfl,Nat.le_refl _,fun _ _=>rfl⟩;go_wp2_with fail
        go_returns
        unfold zkU;rw [HR.out];exact ⟨_,rfl,zbr _ _,(hK.trans ((Kp.of_below hbq g).more hK.size)).belowG hgB⟩
      · have d3:(((kk:Nat):Int) == 3)=false:=by rw [beq_eq_false_iff_ne];omega
        go_wp2_with fail
        refine (zhX hq).mono ?_;rintro e5 X2 ⟨hk,⟨v,rfl,hvu⟩,hS2⟩;obtain rfl:=hvu;have hK2:=hK.trans (hk.more hK.size);clear hk hq hP u2 u3;obtain ⟨A5,c5,T5,i5,e5,p5,hP,hs5⟩:=hS2;obtain ⟨rfl,hx5,rfl⟩:=hs5;have u2:X2.cell? ⟨g,2,none⟩=some (.int .i64 _):=hP.cells.cell 2;have u3:X2.cell? ⟨g,3,none⟩=some (.int .i64 _):=hP.cells.cell 3;go_wp2
        go_quiet (fail)
        have hbq:Below X2.heap.size X2 (X2.drewN nq):=⟨rfl,rfl,rfl,Nat.le_refl _,fun _ _=>rfl⟩;go_wp2_with fail
        go_returns
        unfold zkU;rw [HR.out];exact ⟨_,rfl,zbr _ _,(hK2.trans ((Kp.of_below hbq g).more hK2.size)).belowG hgB⟩
     | ok l =>
      obtain ⟨rfl,rfl⟩:=hs;by_cases h3:kk=3
      · subst h3;have hR:zgM (acc,.ok (T2.drop i))=(acc,0,0):=by unfold zgM endU;dsimp only;rw [if_pos hkk]
        have HR:=Lib.hid hR;clear hR;go_wp2_with fail
        go_returns
        unfold zkU;rw [HR.out];exact ⟨_,rfl,⟨xs,zav hv1 (by omega),NDTypsC.base (show w.heap.size≤g + 1 by omega) hv2⟩,hK.belowG hgB⟩
      · have d3:(((kk:Nat):Int) == 3)=false:=by rw [beq_eq_false_iff_ne];omega
        have hR:zgM (acc,.ok (T2.drop i))=([],30,(hdT (T2.drop i)).2.2):=by unfold zgM endU;dsimp only;rw [if_neg (by rw [hkk];exact h3)];rfl
        have HR:=Lib.hid hR;clear hR;go_wp2_with fail
        refine (zhX hq).mono ?_;rintro e5 X2 ⟨hk,⟨v,rfl,hvu⟩,hS2⟩;obtain rfl:=hvu;have hK2:=hK.trans (hk.more hK.size);clear hk hq hP u2 u3;obtain ⟨A5,c5,T5,i5,e5,p5,hP,hs5⟩:=hS2;obtain ⟨rfl,hx5,rfl⟩:=hs5;have u2:X2.cell? ⟨g,2,none⟩=some (.int .i64 _):=hP.cells.cell 2;have u3:X2.cell? ⟨g,3,none⟩=some (.int .i64 _):=hP.cells.cell 3;go_wp2
        go_quiet (fail)
        have hbq:Below X2.heap.size X2 (X2.drewN nq):=⟨rfl,rfl,rfl,Nat.le_refl _,fun _ _=>rfl⟩;go_wp2_with fail
        go_returns
        unfold zkU;rw [HR.out];exact ⟨_,rfl,zbr _ _,(hK2.trans ((Kp.of_below hbq g).more hK2.size)).belowG hgB⟩
 · have hp:zah s=([],(zbQ s).2):=by unfold zah;rw [if_neg h0]
   rw [hp];have d0:((((zbQ s).2.1:Nat):Int) == 0)=false:=by rw [beq_eq_false_iff_ne];omega
   clear h0 hp f0;generalize (zbQ s).2=q at *
   generalize (zbQ s).1=l at *
   go_enter Tryz.func55,Tryz.ntmps55
   go_wp2_with fail
   refine ka.mono ?_;rintro e W1 ⟨⟨A,c,rfl,ht⟩,hbw⟩;go_wp2_with fail
   go_returns
   exact ⟨_,rfl,zbr _ _,hbw⟩
theorem type9_any {w:World} {R:Nat} {A:Option Addr} {c:Nat} {l:List TypA} (h:SchA w R A c l) (n:ByteArray) :
 Calls Tryz.prog 18 #[.slice A l.length c,.string n] w fun e w'=>(∃z:Int,e = .returned (.int .i64 z)∧AtZ (fun t:TypA=>decide (t.name=n)) l z)∧Below w.heap.size w w':=by
 have hl:(l.length:Int)≤9223372036854775807:=by have:=h.rows.cap;have:=h.rows.capm;simp only [maxLen] at this;omega
 go_enter Tryz.func18,Tryz.ntmps18
 go_wp2_with fail
 go_loopw [5] (fun vi wx=>∃i:Nat,vi = .int .i64 i∧i≤l.length∧(∀t ∈ l.take i,decide (t.name=n)=false)∧Below w.heap.size w wx) (fun vi _=>l.length-(intOf vi).toNat)
 case atStart=>exact ⟨0,rfl,Nat.zero_le _,fun t ht=>(by simp at ht),Below.refl _ _⟩
 case round =>
  obtain ⟨i,rfl,hi,hn,hbx⟩:=hrel;by_cases hil:i<l.length
  · have hdi:(i:Int)<(l.length:Nat):=by omega
    obtain ⟨t,ht⟩:∃t,l[i]? = some t:=⟨l[i],List.getElem?_eq_getElem hil⟩;obtain ⟨g,o,rfl,g0,g1,hk⟩:=(h.up hbx).get ht;have lg:=World.block_lt_of_cell? _ _ g0;dsimp only at lg;have hq:=zaE t.name n;cases hd:decide (t.name=n) with
    | false =>
     rw [hd] at hq;go_wp2
     refine ⟨⟨i + 1,by go_num,by omega,zb1 ht hn hd,hbx⟩,?_⟩;simp [intOf];omega
    | true =>
     rw [hd] at hq;go_wp2
     go_ret
     exact ⟨⟨_,rfl,Or.inr ⟨i,t,rfl,ht,zfZ ht hn hd,hn⟩⟩,hbx⟩
  · have hdi:¬((i:Int)<(l.length:Nat)):=by omega
    obtain rfl:i=l.length:=by omega
    rw [List.take_length] at hn;go_wp2
    go_ret
    exact ⟨⟨_,rfl,Or.inl ⟨rfl,zex hn⟩⟩,hbx⟩
theorem has9_any {w:World} {R:Nat} {A:Option Addr} {c:Nat} {l:List TypA} (h:SchA w R A c l) (ty re:ByteArray) :
 Calls Tryz.prog 151 #[.slice A l.length c,.string ty,.string re] w fun e w'=>e = .returned (.bool (hasI (l.map TypA.says) ty re))∧Below w.heap.size w w':=by
 obtain ⟨b,hB⟩:∃b,hasI (l.map TypA.says) ty re=b:=⟨_,rfl⟩;rw [hB];rw [zf4] at hB;replace hB:=Lib.hid hB;go_enter Tryz.func151,Tryz.ntmps151
 go_wp2_with fail
 refine (type9_any h ty).mono ?_;rintro e w1 ⟨⟨z,rfl,hz⟩,hb1⟩;rcases hz with ⟨rfl,hf⟩ | ⟨i,t,rfl,ht,hf,_⟩
 · have hB':=hB.out;rw [show zbw l ty=none from hf] at hB';subst hB';go_wp2
   go_ret
   exact ⟨rfl,hb1⟩
 · have hB':=hB.out;rw [show zbw l ty=some t from hf] at hB';replace hB:=Lib.hid hB';clear hB' hf;have hi:(0:Int)≤(i:Nat):=by omega
   have hil:i<l.length:=(List.getElem?_eq_some_iff.1 ht).1;have hdi:(i:Int)<(l.length:Nat):=by omega
   obtain ⟨g,o,rfl,g0,g1,hk⟩:=(h.up hb1).get ht;have lg:=World.block_lt_of_cell? _ _ g0;dsimp only at lg;go_wp2_with fail
   refine (rel9_any hk re).mono ?_;rintro e w2 ⟨⟨z,rfl,hz⟩,hb2⟩;have hp:=hz.pos;rw [show (t.rels.find? fun t=>decide (t.name=re)).isSome=b by rw [←hB.out,zf5];rfl] at hp;clear hz;cases b with
   | true =>
    have hp:=of_decide_eq_true hp;go_wp2
    go_ret
    exact ⟨rfl,zad hb1 hb1.size hb2⟩
   | false =>
    have hp:=of_decide_eq_false hp;go_wp2
    go_ret
    exact ⟨rfl,zad hb1 hb1.size hb2⟩
end Go.Proofs.YtahegpfdbgbioaaGreat
