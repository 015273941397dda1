import Derived.Test.YtiepddmagfmllaaGreatT27
set_option maxRecDepth 100000
set_option maxHeartbeats 4000000
namespace Go.Proofs.YtiepddmagfmllaaGreat
open Go.RowKit
open Go.RowKit
theorem may_cutB {s:ByteArray} {k:Nat} (h:plc s k<s.size):zci (cutB s k) 0=zci s (plc s k):=by
 have hz:=zax s k;have hd:=zcL hz (zcl s k) (i:=0) (by omega);unfold zci brk rn wd;rw [hd,Nat.add_zero]
theorem zfP {s:ByteArray} {k j:Nat} (h:plc s (k + j)<s.size):zci (cutB s k) (plc (cutB s k) j)=zci s (plc s (k + j)):=by
 have hz:=zax s k;have hp:=zbK s k j;have hd:=zcL hz (zcl s k) (i:=plc (cutB s k) j) (by omega);unfold zci brk rn wd;rw [hd,hp]
theorem wrN_at {s:ByteArray} {k n:Nat} (h1:∀j,j<n→plc s (k + j)<s.size∧zci s (plc s (k + j))=true) (h2:plc s (k + n)<s.size→zci s (plc s (k + n))=false):wrN (cutB s k)=n:=by
 refine zd6 (fun j hj=>?_) fun h=>?_
 · obtain ⟨a,b⟩:=h1 j hj;have hp:=zbK s k j;have hz:=zax s k;exact ⟨by omega,by rw [zfP a];exact b⟩
 · have hp:=zbK s k n;have hz:=zax s k;rw [zfP (by omega)];exact h2 (by omega)
theorem ntN_at {s:ByteArray} {k d:Nat} (hd:d≤(cutB s k).size) (h1:∀j,j<d→bt s (plc s k + j)≠10) (h2:plc s k + d<s.size→bt s (plc s k + d)=10):plc s (k + ntN (cutB s k))=plc s k + d:=by
 have hz:=zax s k;have hp:=zbK s k (ntN (cutB s k));have hle:=zaU (cutB s k) (ntN (cutB s k));rcases Nat.lt_trichotomy (plc (cutB s k) (ntN (cutB s k))) d with h | h | h
 · have e:=nt_end (u:=cutB s k) (by omega);rw [zbT (by omega)] at e;exact absurd e (h1 _ h)
 · omega
 · have e:=ziX (u:=cutB s k) h;rw [zbT (by omega)] at e;exact absurd (h2 (by omega)) e
structure Left (s:ByteArray) (k:Nat) (l:List Tk):Prop where
 kc:k≤cnt s
 toks:l ++ (zcc (cutB s k) (plc s k)).1=(zcc s 0).1
 code:(zcc (cutB s k) (plc s k)).2=(zcc s 0).2
 few:l.length≤k
section
variable {s:ByteArray} {k:Nat} {l:List Tk}
theorem Left.start (s:ByteArray):Left s 0 []:=⟨Nat.zero_le _,by rw [zee];rfl,by rw [zee];rfl,Nat.le_refl _⟩
theorem Left.err (h:Left s k l) (hk:plc s k<s.size) (h3:3≤kd (cutB s k)):(zcc s 0).2=(kd (cutB s k),plc s k):=by
 have e:=Go.Proofs.YtiepddmagfmllaaGreat.scan_err (off:=plc s k) (zfk hk) h3;have hc:=h.code;rw [e] at hc;exact hc.symm
theorem Left.step (h:Left s k l) (hk:plc s k<s.size) (h3:kd (cutB s k)<3):Left s (k + ln (cutB s k)) (l ++ zcF (cutB s k) (plc s k))∧0<ln (cutB s k):=by
 have hz:=zfk hk;have h1:=zlP hz h3;have h2:=ln_le hz;rw [zgQ] at h2;have hE:=zhy (off:=plc s k) hz h3;have h4:=zbK s k (ln (cutB s k));rw [zhI,h4] at hE;have ht:=h.toks;have hc:=h.code;obtain ⟨r,hr⟩:∃r,zcc (cutB s (k + ln (cutB s k))) (plc s (k + ln (cutB s k)))=r:=⟨_,rfl⟩;rw [hr] at hE;generalize zcc (cutB s k) (plc s k)=r0 at *
 subst hE;dsimp only at ht hc;refine ⟨⟨by have:=h.kc;omega,?_,by rw [hr];exact hc,?_⟩,h1⟩
 · rw [hr,List.append_assoc];exact ht
 · rw [List.length_append];have:=h.few;have:(zcF (cutB s k) (plc s k)).length≤1:=by unfold zcF;split <;> simp
   omega
theorem Left.fin (h:Left s k l) (hk:¬plc s k<s.size):plc s k=s.size∧(zcc s 0).2=(0,0)∧(zcc s 0).1=l ++ [(3,⟨#[]⟩,s.size)]:=by
 have h1:=zaU s k;have hz:=zax s k;have e:=zdR (u:=cutB s k) (off:=plc s k) (by omega);have ht:=h.toks;have hc:=h.code;rw [e] at ht hc;have hj:plc s k=s.size:=by omega
 rw [hj] at ht;exact ⟨hj,hc.symm,ht.symm⟩
theorem Left.blank (h:Left s k l) (hk:plc s k<s.size) (hb:zaY (bt s (plc s k))=true):Left s (k + 1) l∧plc s (k + 1)=plc s k + 1:=by
 have h0:bt (cutB s k) 0=bt s (plc s k):=zbT (j:=0) (by omega);have hkd:kd (cutB s k)=0:=by unfold kd;rw [h0,if_pos hb]
 have hln:ln (cutB s k)=1:=by unfold ln;rw [h0,if_pos hb]
 have h10:=zaV.1 hb;have:=(h.step hk (by omega)).1;unfold zcF at this;rw [hln,if_pos hkd,List.append_nil] at this;exact ⟨this,zhg hk (by omega)⟩
theorem Left.sign (h:Left s k l) (hk:plc s k<s.size) (hb:za9 (bt s (plc s k))=true):Left s (k + 1) (l ++ [(2,s.extract (plc s k) (plc s k + 1),plc s k)])∧plc s (k + 1)=plc s k + 1:=by
 have h0:bt (cutB s k) 0=bt s (plc s k):=zbT (j:=0) (by omega);have h10:=zb5.1 hb;have hnb:¬zaY (bt s (plc s k))=true:=by rw [zaV];omega
 have hkd:kd (cutB s k)=2:=by unfold kd;rw [h0,if_neg hnb,if_pos hb]
 have hln:ln (cutB s k)=1:=by unfold ln;rw [h0,if_neg hnb,if_pos hb]
 have hpl:=zhg hk (by omega);have hx:s.extract (plc s k) (plc s k + 1)=cutA (cutB s k) 1:=by rw [zcX,hpl]
 have:=(h.step hk (by omega)).1;unfold zcF at this;rw [hln,if_neg (by omega),hkd,←hx] at this;exact ⟨this,hpl⟩
theorem Left.note (h:Left s k l) (hk:plc s k<s.size) (h47:bt s (plc s k)=47) (h1:plc s k + 1<s.size) (h2:bt s (plc s k + 1)=47):Left s (k + ntN (cutB s k)) l∧0<ntN (cutB s k):=by
 have h0:bt (cutB s k) 0=bt s (plc s k):=zbT (j:=0) (by omega);have hb1:bt (cutB s k) 1=bt s (plc s k + 1):=zbT (j:=1) h1;have hz:=zax s k;have hkd:kd (cutB s k)=0:=by
  conv=>lhs;unfold kd
  rw [h0,h47,show zaY 47=false from rfl,show za9 47=false from rfl,if_neg (by decide),if_neg (by decide),if_pos rfl,if_pos ⟨by omega,hb1.trans h2⟩]
 have hln:ln (cutB s k)=ntN (cutB s k):=by
  conv=>lhs;unfold ln
  rw [h0,h47,show zaY 47=false from rfl,show za9 47=false from rfl,if_neg (by decide),if_neg (by decide),if_pos rfl]
 have:=h.step hk (by omega);unfold zcF at this;rw [hln,if_pos hkd,List.append_nil] at this;exact this
theorem zg0 {s:ByteArray} {k:Nat} (hk:plc s k<s.size) (hnb:zaY (bt s (plc s k))=false) (hns:za9 (bt s (plc s k))=false) (h47:bt s (plc s k)≠47) :
 kd (cutB s k)=(if zci s (plc s k)=true then (if wrN (cutB s k)≤24 then 1 else 31) else 30)∧ln (cutB s k)=wrN (cutB s k):=by
 have h0:bt (cutB s k) 0=bt s (plc s k):=zbT (j:=0) (by omega);constructor
 · conv=>lhs;unfold kd
   rw [h0,hnb,hns,if_neg (by decide),if_neg (by decide),if_neg h47,may_cutB hk]
 · conv=>lhs;unfold ln
   rw [h0,hnb,hns,if_neg (by decide),if_neg (by decide),if_neg h47]
theorem zjA {s:ByteArray} {k:Nat} (hk:plc s k<s.size) (h47:bt s (plc s k)=47) (h1:¬(plc s k + 1<s.size∧bt s (plc s k + 1)=47)):kd (cutB s k)=30:=by
 have h0:bt (cutB s k) 0=bt s (plc s k):=zbT (j:=0) (by omega);have hz:=zax s k;conv=>lhs;unfold kd
 rw [h0,h47,show zaY 47=false from rfl,show za9 47=false from rfl,if_neg (by decide),if_neg (by decide),if_pos rfl,if_neg];rintro ⟨a,b⟩;have hb1:bt (cutB s k) 1=bt s (plc s k + 1):=zbT (j:=1) (by omega);exact h1 ⟨by omega,hb1 ▸ b⟩
theorem Left.word (h:Left s k l) (hk:plc s k<s.size) (hnb:zaY (bt s (plc s k))=false) (hns:za9 (bt s (plc s k))=false) (h47:bt s (plc s k)≠47) (hm:zci s (plc s k)=true) (h24:wrN (cutB s k)≤24) :
 Left s (k + wrN (cutB s k)) (l ++ [(1,s.extract (plc s k) (plc s (k + wrN (cutB s k))),plc s k)])∧0<wrN (cutB s k):=by
 obtain ⟨hkd,hln⟩:=zg0 hk hnb hns h47;rw [if_pos hm,if_pos h24] at hkd;have:=h.step hk (by omega);unfold zcF at this;rw [hln,if_neg (by omega),hkd,zcX] at this;exact this
theorem Left.slash (h:Left s k l) (hk:plc s k<s.size) (h47:bt s (plc s k)=47) (h1:¬(plc s k + 1<s.size∧bt s (plc s k + 1)=47)):(zcc s 0).2=(30,plc s k):=by
 have:=h.err hk (by rw [zjA hk h47 h1];omega);rwa [zjA hk h47 h1] at this
theorem Left.other (h:Left s k l) (hk:plc s k<s.size) (hnb:zaY (bt s (plc s k))=false) (hns:za9 (bt s (plc s k))=false) (h47:bt s (plc s k)≠47) (hm:zci s (plc s k)=false):(zcc s 0).2=(30,plc s k):=by
 obtain ⟨hkd,_⟩:=zg0 hk hnb hns h47;rw [hm,if_neg (by decide)] at hkd;have:=h.err hk (by omega);rwa [hkd] at this
theorem Left.long (h:Left s k l) (hk:plc s k<s.size) (hnb:zaY (bt s (plc s k))=false) (hns:za9 (bt s (plc s k))=false) (h47:bt s (plc s k)≠47) (hm:zci s (plc s k)=true) (h24:¬wrN (cutB s k)≤24):(zcc s 0).2=(31,plc s k):=by
 obtain ⟨hkd,_⟩:=zg0 hk hnb hns h47;rw [if_pos hm,if_neg h24] at hkd;have:=h.err hk (by omega);rwa [hkd] at this
end
theorem zlD:(Tryz.prog.info? 160).map (fun i=>(i.zero,i.size,i.bytes))=some (some (.agg #[.int .i64 0,.string .empty,.int .i64 0]),3,32):=by kernel_rfl
theorem zdQ {w w1:World} {B:Nat} {e:TypeId} {v v1:Value} {o:Obj} {l:List Tk} {t:Tk} {w0:World} (hb:Below B w0 w) (_:w.ownsRow B e 3 v l.length (tcells l)) (hB:B≤w.heap.size) (hg:(w.alloc o).grownBy w1 v.ownBlock) (h:w.ownsRow B e 3 v l.length (tcells l)) (h1:w1.ownsRow B e 3 v1 (l.length + 1) (tcells l ++ tcell t)) :
 Below B w0 w1∧w1.ownsRow B e 3 v1 (l ++ [t]).length (tcells (l ++ [t])) :=
 ⟨zak (hb.alloc hB o) hg (h.alloc o) (size_alloc hB) (Nat.le_refl _),by rw [zd7,List.length_append];exact h1⟩
theorem rall_any (s:ByteArray) (w:World) (f0:s.size≤maxLen) :
 Calls Tryz.prog 61 #[.string s] w (AllPost s w):=by
 unfold maxLen at f0;by_cases hlong:2048<s.size
 · have hA:zbP s=([],13,0):=by unfold zbP;rw [if_pos hlong]
   have HX:Hid (AllPost s w (.returned (.tuple #[.slice none 0 0,.int .i64 13,.int .i64 0])) w):=Lib.hid (AllPost.empty hA (Below.refl _ _));clear hA;go_enter Tryz.func61,Tryz.ntmps61
   go_wp2
   go_ret3
   exact HX.out
 have hs:s.size≤2048:=by omega
 have hs6:s.size≤1000000:=by omega
 clear f0;have HA:Hid (zbP s=if plc s (zgb s)<s.size then ([],11,plc s (zgb s)) else if (zcc s 0).2.1=0 then zcc s 0 else ([],(zcc s 0).2)):=Lib.hid (by unfold zbP;rw [if_neg hlong]);clear hlong;obtain ⟨i0,hi0,hz0,hz1,hz2⟩:=info_parts zlD;go_enter Tryz.func61,Tryz.ntmps61
 go_wp2
 go_loopw [5] (fun vi wr=>∃k:Nat,k≤cnt s∧vi = .int .i64 (plc s k:Nat)∧w=wr∧∀j,j<k→brk s (plc s j)=false) (fun vi _=>s.size-(intOf vi).toNat)
 case atStart=>exact ⟨0,Nat.zero_le _,rfl,rfl,fun j hj=>by omega⟩
 case round =>
  obtain ⟨k,hk,rfl,rfl,hall⟩:=hrel;have Hall:=Lib.hid hall;clear hall;have hl:=zaU s k;have hc:=zc8 s;by_cases h:plc s k<s.size
  · have hd:(plc s k:Int)<(s.size:Nat):=by omega
    have hk2:=za1.2 h;have hw:=zde h;have HS:=Lib.hid (zaJ h);have hlg:=brk_lng h;have klo:∀W,_:=fun W=>long_any s (plc s k) W hs6 h;have kst:∀W,_:=fun W=>step_any s (plc s k:Nat) (plc s k) W rfl hs6 h;cases hm:brk s (plc s k) with
    | true =>
     rw [hm] at hlg;have h0:lng s (plc s k)=0:=by simpa using hlg.symm
     rw [h0] at klo;have HE:Hid (zgb s=k):=Lib.hid (zd6 (fun j hj=>⟨za1.1 (by omega),by have:=Hall.out j hj;simp [this]⟩) fun _=>by simp [hm]);clear h0 hlg;go_wp2_with ((with_reducible refine (klo _).mono ?_);rintro e w' ⟨rfl,rfl⟩)
     go_ret3
     have hA:=HA.out;rw [HE.out,if_pos h] at hA;exact AllPost.empty hA (Below.refl _ _)
    | false =>
     rw [hm] at hlg;have hn:¬lng s (plc s k)=0:=by simpa using hlg.symm
     have h0:(((lng s (plc s k):Nat):Int) == 0)=false:=by simp [hn]
     clear hlg hn;go_wp2_with (first
      | ((with_reducible refine (klo _).mono ?_);rintro e w' ⟨rfl,rfl⟩)
      | ((with_reducible refine (kst _).mono ?_);rintro e w' ⟨rfl,rfl⟩))
     go_roundw
     case rel=>exact ⟨k + 1,by omega,by rw [HS.out];go_num,by first | rfl | trivial,fun j hj=>by
      by_cases e:j=k
      · subst e;exact hm
      · exact Hall.out j (by omega)⟩
     case measure=>simp [intOf];omega
  · have hd:¬((plc s k:Int)<(s.size:Nat)):=by omega
    have e:=zdX h fun j hj=>za1.1 (by omega);have hv:¬plc s (zgb s)<s.size:=zcI.1 (zbX.2 (by rw [e];exact Hall.out));have hA:=HA.out;rw [if_neg hv] at hA;have HA2:=Lib.hid hA;clear HA hA e hv hk Hall;go_wp2
    clear hl h hd;go_loopw [6,7] (fun vo vi wq=>∃(k:Nat) (l:List Tk),vi = .int .i64 (plc s k:Nat)∧Left s k l∧wq.ownsRow w.heap.size 160 3 vo l.length (tcells l)∧Below w.heap.size w wq) (fun _ vi _=>s.size-(intOf vi).toNat)
    case atStart=>exact ⟨0,[],rfl,Left.start s,World.ownsRow_nil _ _ _ _,Below.refl _ _⟩
    case round =>
     clear hc;obtain ⟨k,l,rfl,hL,hrow,hbw⟩:=hrel;have hlk:=zaU s k;have hll:l.length<1000000:=by have:=hL.few;have:=hL.kc;have:=zc8 s;omega
     have hbs:=hbw.size;have HL:=Lib.hid hL;have Hb:=Lib.hid hbw;have Hrow:=Lib.hid hrow;clear hbw;obtain ⟨A,c,rfl,_⟩:=Rd.own hrow;by_cases h:plc s k<s.size
     · have hd:(plc s k:Int)<(s.size:Nat):=by omega
       have hx:(s[plc s k]'h).toNat=bt s (plc s k):=(zdm s (plc s k) h).symm;have krs:∀W,Calls Tryz.prog 105 #[.int .u8 (bt s (plc s k):Nat)] W fun e w'=>e = .returned (.bool (za9 (bt s (plc s k))))∧W=w':=fun W=>(rsign_any (bt s (plc s k):Nat) (bt s (plc s k)) W rfl).mono fun _ _ hh=>⟨hh.1,hh.2.symm⟩;have krm:∀W,_:=fun W=>rmay_any s (plc s k) W hs6 h;have hbl:=zfc s (plc s k);by_cases cB:zaY (bt s (plc s k))=true
       · obtain ⟨hN,hpn⟩:=hL.blank h cB;have HN:=Lib.hid hN;have HP:=Lib.hid hpn;clear hL hN hpn;have cB3:=zaV.1 cB;generalize bt s (plc s k)=q at *
         generalize za9 q=sg at *
         generalize zci s (plc s k)=my at *
         have hd3:(((q:Nat):Int) == 32)=true∨((((q:Nat):Int) == 32)=false∧(((q:Nat):Int) == 9)=true)∨((((q:Nat):Int) == 32)=false∧(((q:Nat):Int) == 9)=false∧(((q:Nat):Int) == 10)=true):=by
          simp only [beq_iff_eq,beq_eq_false_iff_ne];omega
         rcases hd3 with d1 | ⟨d1,d2⟩ | ⟨d1,d2,d3⟩;all_goals
          clear cB cB3;go_wp2_with (first
           | ((with_reducible refine (krs _).mono ?_);rintro e w' ⟨rfl,rfl⟩)
           | ((with_reducible refine (krm _).mono ?_);rintro e w' ⟨rfl,rfl⟩))
          go_roundw
          case rel=>exact ⟨k + 1,l,by rw [HP.out];rfl,HN.out,Hrow.out,Hb.out⟩
          case measure=>simp [intOf];omega
       rw [Bool.not_eq_true] at cB;have d32:(((bt s (plc s k):Nat):Int) == 32)=false:=by
        rw [beq_eq_false_iff_ne];intro e;have:=zaV (c:=bt s (plc s k)) |>.2 (.inl (by omega)) ;rw [cB] at this;cases this
       have d9:(((bt s (plc s k):Nat):Int) == 9)=false:=by
        rw [beq_eq_false_iff_ne];intro e;have:=zaV (c:=bt s (plc s k)) |>.2 (.inr (.inl (by omega))) ;rw [cB] at this;cases this
       have d10:(((bt s (plc s k):Nat):Int) == 10)=false:=by
        rw [beq_eq_false_iff_ne];intro e;have:=zaV (c:=bt s (plc s k)) |>.2 (.inr (.inr (by omega))) ;rw [cB] at this;cases this
       cases cS:za9 (bt s (plc s k)) with
       | true =>
        obtain ⟨hN,hpn⟩:=hL.sign h cS;have HN:=Lib.hid hN;have HP:=Lib.hid hpn;clear hL hN hpn;rw [cS] at krs;clear cS cB;generalize bt s (plc s k)=q at *
        generalize zci s (plc s k)=my at *
        have hb1:plc s k + 1≤s.size:=h;go_wp2_with (first
         | ((with_reducible refine (krs _).mono ?_);rintro e w' ⟨rfl,rfl⟩)
         | ((with_reducible refine (krm _).mono ?_);rintro e w' ⟨rfl,rfl⟩)
         | (at_builtin;refine zab _ rfl (.tmp 56) (.tmp 64) 151 151 rfl w.heap.size 160 i0 (.agg #[.int .i64 0,.string .empty,.int .i64 0]) 3 32 Tryz.underlying151 hi0 hz0 hz1 hz2 rfl (by decide) _ l.length (tcells l) rfl (Hrow.out.alloc _) _ 1 [.int .i64 2,.string (s.extract (plc s k) (plc s k + 1)),.int .i64 (plc s k:Nat)] rfl (Src.ofSlice _ Tryz.underlying151 _ 1 1 _ rfl (zaZ _ _ _ _ _) (tcell_one (2,s.extract (plc s k) (plc s k + 1),plc s k))) (by simp only [maxLen];omega) (by omega) (size_alloc hbs) ?_;intro v1 w1 hown1 hg1 hat1;obtain ⟨A1,c1,rfl,_⟩:=Rd.own hown1;obtain ⟨hb1',hr1⟩:=zdQ (t:=(2,s.extract (plc s k) (plc s k + 1),plc s k)) Hb.out Hrow.out hbs hg1 Hrow.out hown1;have HB1:=Lib.hid hb1';have HR1:=Lib.hid hr1;clear hown1 hg1 hat1 hb1' hr1))
        go_roundw
        case rel=>exact ⟨k + 1,_,by rw [HP.out];rfl,HN.out,by simpa using HR1.out,HB1.out⟩
        case measure=>simp [intOf];omega
       | false =>
        rw [cS] at krs;by_cases c47:bt s (plc s k)=47
        · have hmy:zci s (plc s k)=false:=by rw [ziU h (by omega),c47];rfl
          rw [hmy] at krm;have d47:(((bt s (plc s k):Nat):Int) == 47)=true:=by rw [beq_iff_eq];omega
          by_cases c1:plc s k + 1<s.size
          · have hd1:(plc s k:Int) + 1<(s.size:Nat):=by omega
            have hx1:(s[plc s k + 1]'c1).toNat=bt s (plc s k + 1):=(zdm s (plc s k + 1) c1).symm;by_cases c2:bt s (plc s k + 1)=47
            · obtain ⟨hN,hpn⟩:=hL.note h c47 c1 c2;have HN:=Lib.hid hN;have HPN:=Lib.hid hpn;have d2:(((bt s (plc s k + 1):Nat):Int) == 47)=true:=by rw [beq_iff_eq];omega
              have H1:=Lib.hid c47;have H2:=Lib.hid c2;clear hL hN hpn cB cS c47 c2 hmy hbl;go_wp2_with (first
               | ((with_reducible refine (krs _).mono ?_);rintro e w' ⟨rfl,rfl⟩)
               | ((with_reducible refine (krm _).mono ?_);rintro e w' ⟨rfl,rfl⟩))
              go_loopw [7] (fun vi wz=>∃d:Nat,vi = .int .i64 (plc s k + d:Nat)∧wr=wz∧d≤(cutB s k).size∧∀j,j<d→bt s (plc s k + j)≠10) (fun vi _=>s.size-(intOf vi).toNat)
              case atStart=>exact ⟨0,rfl,by first | rfl | trivial,Nat.zero_le _,fun j hj=>by omega⟩
              case round =>
               obtain ⟨d,rfl,rfl,hdl,hall⟩:=hrel;have Hall:=Lib.hid hall;clear hall hd hx hd1 hx1 d32 d9 d10 d47 d2 krs krm;have hzz:=zax s k;by_cases hm:plc s k + d<s.size
               · have hd4:(plc s k:Int) + (d:Int)<(s.size:Nat):=by omega
                 have hx4:(s[plc s k + d]'hm).toNat=bt s (plc s k + d):=(zdm s (plc s k + d) hm).symm;by_cases h10:bt s (plc s k + d)=10
                 · have d10:(((bt s (plc s k + d):Nat):Int) == 10)=true:=by rw [beq_iff_eq];omega
                   have HE:=Lib.hid (ntN_at hdl Hall.out fun _=>h10);clear h10;go_wp2
                   go_roundw
                   case rel=>exact ⟨k + ntN (cutB s k),l,by rw [HE.out];go_num,HN.out,Hrow.out,Hb.out⟩
                   case measure =>
                    have h1:=HE.out;have h2:=zaX s (show k + 1≤k + ntN (cutB s k) by have:=HPN.out;omega);have h3:=zaQ h;simp [intOf];omega
                 · have d10:(((bt s (plc s k + d):Nat):Int) == 10)=false:=by rw [beq_eq_false_iff_ne];omega
                   have H10:=Lib.hid h10;clear h10;go_wp2
                   go_roundw
                   case rel=>exact ⟨d + 1,by go_num,by first | rfl | trivial,by omega,fun j hj=>by
                    by_cases e:j=d
                    · subst e;exact H10.out
                    · exact Hall.out j (by omega)⟩
                   case measure=>simp [intOf];omega
               · have hd4:¬((plc s k:Int) + (d:Int)<(s.size:Nat)):=by omega
                 have HE:=Lib.hid (ntN_at hdl Hall.out fun hh=>absurd hh hm);go_wp2
                 go_roundw
                 case rel=>exact ⟨k + ntN (cutB s k),l,by rw [HE.out],HN.out,Hrow.out,Hb.out⟩
                 case measure =>
                  have h1:=HE.out;have h2:=zaX s (show k + 1≤k + ntN (cutB s k) by have:=HPN.out;omega);have h3:=zaQ h;simp [intOf];omega
            · have hE:=hL.slash h c47 (fun hh=>c2 hh.2);have HE:=Lib.hid hE;have d2:(((bt s (plc s k + 1):Nat):Int) == 47)=false:=by rw [beq_eq_false_iff_ne];omega
              clear hL hE cB cS c47 c2 hmy hbl;go_wp2_with (first
               | ((with_reducible refine (krs _).mono ?_);rintro e w' ⟨rfl,rfl⟩)
               | ((with_reducible refine (krm _).mono ?_);rintro e w' ⟨rfl,rfl⟩))
              go_ret3
              have hA:=HA2.out;rw [HE.out] at hA;exact AllPost.empty hA Hb.out
          · have hE:=hL.slash h c47 (fun hh=>c1 hh.1);have HE:=Lib.hid hE;have hd1:¬((plc s k:Int) + 1<(s.size:Nat)):=by omega
            clear hL hE cB cS c47 hmy hbl;go_wp2_with (first
             | ((with_reducible refine (krs _).mono ?_);rintro e w' ⟨rfl,rfl⟩)
             | ((with_reducible refine (krm _).mono ?_);rintro e w' ⟨rfl,rfl⟩))
            go_ret3
            have hA:=HA2.out;rw [HE.out] at hA;exact AllPost.empty hA Hb.out
        · have d47:(((bt s (plc s k):Nat):Int) == 47)=false:=by rw [beq_eq_false_iff_ne];omega
          cases hmy:zci s (plc s k) with
          | false =>
           have hE:=hL.other h cB cS c47 hmy;have HE:=Lib.hid hE;rw [hmy] at krm;clear hL hE cB cS c47 hmy;generalize bt s (plc s k)=q at *
           go_wp2_with (first
            | ((with_reducible refine (krs _).mono ?_);rintro e w' ⟨rfl,rfl⟩)
            | ((with_reducible refine (krm _).mono ?_);rintro e w' ⟨rfl,rfl⟩))
           go_ret3
           have hA:=HA2.out;rw [HE.out] at hA;exact AllPost.empty hA Hb.out
          | true =>
           have HC:=Lib.hid (And.intro cB (And.intro cS (And.intro c47 hmy)));rw [hmy] at krm;clear hL cB cS c47 hmy;have Hx:=Lib.hid h;go_wp2_with (first
            | ((with_reducible refine (krs _).mono ?_);rintro e w' ⟨rfl,rfl⟩)
            | ((with_reducible refine (krm _).mono ?_);rintro e w' ⟨rfl,rfl⟩))
           go_loopw [11,12] (fun vk vn wz=>∃n:Nat,vk = .int .i64 (plc s (k + n):Nat)∧vn = .int .i64 n∧wr=wz∧∀j,j<n→plc s (k + j)<s.size∧zci s (plc s (k + j))=true) (fun vk _ _=>s.size-(intOf vk).toNat)
           case atStart=>exact ⟨0,rfl,rfl,by first | rfl | trivial,fun j hj=>by omega⟩
           case round =>
            obtain ⟨n,rfl,rfl,rfl,hall⟩:=hrel;have Hall:=Lib.hid hall;clear hall hd hx d32 d9 d10 d47 krs krm hbl;have hlkn:=zaU s (k + n);by_cases hm:plc s (k + n)<s.size
            · have hd4:(plc s (k + n):Int)<(s.size:Nat):=by omega
              have hge:=zjQ hm;have kmn:∀W,_:=fun W=>rmay_any s (plc s (k + n)) W hs6 hm;have ksn:∀W,_:=fun W=>step_any s (plc s (k + n):Nat) (plc s (k + n)) W rfl hs6 hm;cases hmn:zci s (plc s (k + n)) with
              | true =>
               rw [hmn] at kmn;have HP:=Lib.hid (zaJ hm);have hw2:=zde hm;have HM:=Lib.hid (And.intro hm hmn);clear hmn;go_wp2_with (first
                | ((with_reducible refine (kmn _).mono ?_);rintro e w' ⟨rfl,rfl⟩)
                | ((with_reducible refine (ksn _).mono ?_);rintro e w' ⟨rfl,rfl⟩))
               go_roundw
               case rel=>exact ⟨n + 1,by rw [←Nat.add_assoc,HP.out];go_num,by go_num,by first | rfl | trivial,fun j hj=>by
                by_cases e:j=n
                · subst e;exact HM.out
                · exact Hall.out j (by omega)⟩
               case measure=>simp [intOf];omega
              | false =>
               rw [hmn] at kmn;have hwn:=wrN_at Hall.out fun _=>hmn;clear hmn;by_cases h24:n≤24
               · obtain ⟨hN,hpo⟩:=HL.out.word Hx.out HC.out.1 HC.out.2.1 HC.out.2.2.1 HC.out.2.2.2 (by rw [hwn];exact h24);rw [hwn] at hN hpo;have HN:=Lib.hid hN;have hd6:¬((24:Int)<(n:Nat)):=by omega
                 have hlt6:=zaQ Hx.out;have hmo6:=zaX s (show k + 1≤k + n by omega);have hle6:=zaU s (k + n);clear hN hwn;go_wp2_with (first
                  | ((with_reducible refine (kmn _).mono ?_);rintro e w' ⟨rfl,rfl⟩)
                  | (at_builtin;refine zab _ rfl (.tmp 117) (.tmp 124) 151 151 rfl w.heap.size 160 i0 (.agg #[.int .i64 0,.string .empty,.int .i64 0]) 3 32 Tryz.underlying151 hi0 hz0 hz1 hz2 rfl (by decide) _ l.length (tcells l) rfl (Hrow.out.alloc _) _ 1 [.int .i64 1,.string (s.extract (plc s k) (plc s (k + n))),.int .i64 (plc s k:Nat)] rfl (Src.ofSlice _ Tryz.underlying151 _ 1 1 _ rfl (zaZ _ _ _ _ _) (tcell_one (1,s.extract (plc s k) (plc s (k + n)),plc s k))) (by simp only [maxLen];omega) (by omega) (size_alloc hbs) ?_;intro v1 w1 hown1 hg1 hat1;obtain ⟨A1,c1,rfl,_⟩:=Rd.own hown1;obtain ⟨hb1',hr1⟩:=zdQ (t:=(1,s.extract (plc s k) (plc s (k + n)),plc s k)) Hb.out Hrow.out hbs hg1 Hrow.out hown1;have HB1:=Lib.hid hb1';have HR1:=Lib.hid hr1;clear hown1 hg1 hat1 hb1' hr1))
                 go_roundw
                 case rel=>exact ⟨k + n,_,rfl,HN.out,by simpa using HR1.out,HB1.out⟩
                 case measure=>simp [intOf];omega
               · have hE:=HL.out.long Hx.out HC.out.1 HC.out.2.1 HC.out.2.2.1 HC.out.2.2.2 (by rw [hwn];exact h24);have HE:=Lib.hid hE;have hd6:(24:Int)<(n:Nat):=by omega
                 clear hE hwn;go_wp2_with (first
                  | ((with_reducible refine (kmn _).mono ?_);rintro e w' ⟨rfl,rfl⟩)
                  | (at_builtin;refine zab _ rfl (.tmp 117) (.tmp 124) 151 151 rfl w.heap.size 160 i0 (.agg #[.int .i64 0,.string .empty,.int .i64 0]) 3 32 Tryz.underlying151 hi0 hz0 hz1 hz2 rfl (by decide) _ l.length (tcells l) rfl (Hrow.out.alloc _) _ 1 [.int .i64 1,.string (s.extract (plc s k) (plc s (k + n))),.int .i64 (plc s k:Nat)] rfl (Src.ofSlice _ Tryz.underlying151 _ 1 1 _ rfl (zaZ _ _ _ _ _) (tcell_one (1,s.extract (plc s k) (plc s (k + n)),plc s k))) (by simp only [maxLen];omega) (by omega) (size_alloc hbs) ?_;intro v1 w1 hown1 hg1 hat1;obtain ⟨A1,c1,rfl,_⟩:=Rd.own hown1;obtain ⟨hb1',hr1⟩:=zdQ (t:=(1,s.extract (plc s k) (plc s (k + n)),plc s k)) Hb.out Hrow.out hbs hg1 Hrow.out hown1;have HB1:=Lib.hid hb1';have HR1:=Lib.hid hr1;clear hown1 hg1 hat1 hb1' hr1))
                 go_ret3
                 have hA:=HA2.out;rw [HE.out] at hA;exact AllPost.empty hA Hb.out
            · have hd4:¬((plc s (k + n):Int)<(s.size:Nat)):=by omega
              have hwn:=wrN_at Hall.out fun hh=>absurd hh hm;have hge:n≤2048:=by
               rcases Nat.eq_zero_or_pos n with e | e
               · omega
               · have h1:=(Hall.out (n-1) (by omega)).1;have h2:=zjQ h1;omega
              by_cases h24:n≤24
              · obtain ⟨hN,hpo⟩:=HL.out.word Hx.out HC.out.1 HC.out.2.1 HC.out.2.2.1 HC.out.2.2.2 (by rw [hwn];exact h24);rw [hwn] at hN hpo;have HN:=Lib.hid hN;have hd6:¬((24:Int)<(n:Nat)):=by omega
                have hlt6:=zaQ Hx.out;have hmo6:=zaX s (show k + 1≤k + n by omega);have hle6:=zaU s (k + n);clear hN hwn;go_wp2_with (at_builtin;refine zab _ rfl (.tmp 117) (.tmp 124) 151 151 rfl w.heap.size 160 i0 (.agg #[.int .i64 0,.string .empty,.int .i64 0]) 3 32 Tryz.underlying151 hi0 hz0 hz1 hz2 rfl (by decide) _ l.length (tcells l) rfl (Hrow.out.alloc _) _ 1 [.int .i64 1,.string (s.extract (plc s k) (plc s (k + n))),.int .i64 (plc s k:Nat)] rfl (Src.ofSlice _ Tryz.underlying151 _ 1 1 _ rfl (zaZ _ _ _ _ _) (tcell_one (1,s.extract (plc s k) (plc s (k + n)),plc s k))) (by simp only [maxLen];omega) (by omega) (size_alloc hbs) ?_;intro v1 w1 hown1 hg1 hat1;obtain ⟨A1,c1,rfl,_⟩:=Rd.own hown1;obtain ⟨hb1',hr1⟩:=zdQ (t:=(1,s.extract (plc s k) (plc s (k + n)),plc s k)) Hb.out Hrow.out hbs hg1 Hrow.out hown1;have HB1:=Lib.hid hb1';have HR1:=Lib.hid hr1;clear hown1 hg1 hat1 hb1' hr1)
                go_roundw
                case rel=>exact ⟨k + n,_,rfl,HN.out,by simpa using HR1.out,HB1.out⟩
                case measure=>simp [intOf];omega
              · have hE:=HL.out.long Hx.out HC.out.1 HC.out.2.1 HC.out.2.2.1 HC.out.2.2.2 (by rw [hwn];exact h24);have HE:=Lib.hid hE;have hd6:(24:Int)<(n:Nat):=by omega
                clear hE hwn;go_wp2_with (at_builtin;refine zab _ rfl (.tmp 117) (.tmp 124) 151 151 rfl w.heap.size 160 i0 (.agg #[.int .i64 0,.string .empty,.int .i64 0]) 3 32 Tryz.underlying151 hi0 hz0 hz1 hz2 rfl (by decide) _ l.length (tcells l) rfl (Hrow.out.alloc _) _ 1 [.int .i64 1,.string (s.extract (plc s k) (plc s (k + n))),.int .i64 (plc s k:Nat)] rfl (Src.ofSlice _ Tryz.underlying151 _ 1 1 _ rfl (zaZ _ _ _ _ _) (tcell_one (1,s.extract (plc s k) (plc s (k + n)),plc s k))) (by simp only [maxLen];omega) (by omega) (size_alloc hbs) ?_;intro v1 w1 hown1 hg1 hat1;obtain ⟨A1,c1,rfl,_⟩:=Rd.own hown1;obtain ⟨hb1',hr1⟩:=zdQ (t:=(1,s.extract (plc s k) (plc s (k + n)),plc s k)) Hb.out Hrow.out hbs hg1 Hrow.out hown1;have HB1:=Lib.hid hb1';have HR1:=Lib.hid hr1;clear hown1 hg1 hat1 hb1' hr1)
                go_ret3
                have hA:=HA2.out;rw [HE.out] at hA;exact AllPost.empty hA Hb.out
     · have hd:¬((plc s k:Int)<(s.size:Nat)):=by omega
       obtain ⟨hpj,hcode,htoks⟩:=hL.fin h;have HC:=Lib.hid hcode;have HT:=Lib.hid htoks;clear hL hpj hcode htoks;go_wp2_with (at_builtin;refine zab _ rfl (.tmp 127) (.tmp 131) 151 151 rfl w.heap.size 160 i0 (.agg #[.int .i64 0,.string .empty,.int .i64 0]) 3 32 Tryz.underlying151 hi0 hz0 hz1 hz2 rfl (by decide) _ l.length (tcells l) rfl (Hrow.out.alloc _) _ 1 [.int .i64 3,.string ⟨#[]⟩,.int .i64 (s.size:Nat)] rfl (Src.ofSlice _ Tryz.underlying151 _ 1 1 _ rfl (zaZ _ _ _ _ _) (tcell_one (3,⟨#[]⟩,s.size))) (by simp only [maxLen];omega) (by omega) (size_alloc hbs) ?_;intro v1 w1 hown1 hg1 hat1;obtain ⟨A1,c1,rfl,hrd⟩:=Rd.own hown1;obtain ⟨hb1',hr1⟩:=zdQ (t:=(3,⟨#[]⟩,s.size)) Hb.out Hrow.out hbs hg1 Hrow.out hown1;have HB1:=Lib.hid hb1';have HRD:=Lib.hid hrd;clear hown1 hg1 hat1 hb1' hr1 hrd)
       go_ret3
       have hA:=HA2.out;rw [if_pos (by rw [HC.out])] at hA;refine ⟨⟨A1,c1,?_,?_⟩,HB1.out⟩
       · rw [hA,HC.out,HT.out,List.length_append];rfl
       · unfold Toks;rw [hA,HT.out,List.length_append,zd7];exact HRD.out
end Go.Proofs.YtiepddmagfmllaaGreat
