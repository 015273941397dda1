import Derived.OrdersHeld
import Derived.RegionTactic
import Derived.Deep.RegionWith
import Derived.Test.YtiepddmagfmllaaGreatT05
set_option maxRecDepth 100000
set_option maxHeartbeats 4000000
namespace Go.Proofs.YtiepddmagfmllaaGreat
open Go.RowKit
open Go.RowKit
open Go.RowKit
open Go.RowKit
theorem zh8 {d:Nat} {l r:List Tk} {o:List OpP} (h:zes d l = .ok (o,r)):r.length<l.length:=(eats _).1 _ _ _ _ h
theorem few:∀f:Nat,(∀d l o r,partF f d l = .ok (o,r)→o.length + r.length≤l.length)∧(∀d acc l o r,moreF f d acc l = .ok (o,r)→o.length + r.length≤acc.length + l.length)
 | 0=>⟨fun d l o r h=>(by unfold partF at h;cases h),fun d acc l o r h=>(by unfold moreF at h;cases h)⟩
 | f + 1=>by
  obtain ⟨ih1,ih2⟩:=few f;constructor
  · intro d l o r h;unfold partF at h;split at h
    · rename_i hc
      cases h;have:=zay (by show 0<4;omega) hc;rw [List.length_singleton];omega
    · split at h
      · rename_i hc
        have h1:=zay (zam _) hc;split at h
        · cases h
        · obtain ⟨a,m,e1,h⟩:=zae h;obtain ⟨a2,m2,e2,h⟩:=zae h;obtain ⟨a3,m3,e3,h⟩:=zae h;cases h;have:=ih1 _ _ _ _ e1;have:=ih2 _ _ _ _ _ e2;have:=zat (zam _) e3;omega
      · obtain ⟨a,m,e1,h⟩:=zae h;have h1:=zau e1;split at h
        · rename_i hc
          have h2:=zay (zam _) hc;obtain ⟨a2,m2,e2,h⟩:=zae h;have:=zau e2;cases h;rw [List.length_singleton];omega
        · cases h;rw [List.length_singleton];omega
  · intro d acc l o r h;unfold moreF at h;split at h
    · cases h;omega
    · rename_i hc
      have h1:=zd4 hc;obtain ⟨a,m,e1,h⟩:=zae h;have:=ih1 _ _ _ _ e1;have:=ih2 _ _ _ _ _ h;rw [List.length_append,List.length_append,List.length_singleton] at this;omega
theorem zh7 {d:Nat} {l r:List Tk} {o:List OpP} (h:zes d l = .ok (o,r)):o.length + r.length≤l.length:=(few _).1 _ _ _ _ h
theorem opT_text {l:List Tk} (hf:Fine l) (h:¬opT l=0):Fine l.tail:=by
 rw [←zgZ hf] at h;unfold zfd at h;by_cases e1:(hdT l).2.1=⟨#[124]⟩
 · exact hf.next (by decide) e1
 by_cases e2:(hdT l).2.1=⟨#[38]⟩
 · exact hf.next (by decide) e2
 by_cases e3:(hdT l).2.1=⟨#[45]⟩
 · exact hf.next (by decide) e3
 rw [if_neg e1,if_neg e2,if_neg e3] at h;exact absurd rfl h
section
variable {w:World} {g:Nat} {l:List Tk}
theorem rew_upto {N:Nat} (H:zeb N):zgK N:=by
 intro d l w g hN hd h;suffices HH:∀R,To (Post (VOps w.heap.size) w.heap.size w g (ziw d l)) R→Calls Tryz.prog 188 #[.pointer (some ⟨g,0,none⟩),.int .i64 d] w R from HH _ fun _ _ h=>h
 intro R HP;have hg:=h.size;have kp:=H d l w g hN hd h;have hmaxl:=h.few;unfold ziw at HP;go_enter Tryz.func188,Tryz.ntmps188
 go_wp2_with fail
 refine kp.mono ?_;intro e w1 hp;obtain ⟨k1,hc⟩:=hp.cases_;clear hp kp h;rcases hc with ⟨c,p,hr,rfl⟩ | ⟨o,l1,v,hr,rfl,hv,h1⟩
 · go_wp2_with fail
   exact ⟨rfl,HP.bad hr k1⟩
 replace HP:=HP.bind hr;have hlen:=zh8 hr;have hfew:=zh7 hr;clear hr;have hfl:=h1.few;go_wp2_with fail
 go_loopw [5] (fun vi wr=>∃acc l3,VOps w.heap.size wr vi acc∧Rdr wr g l3∧Kp g w.heap.size w wr∧To (Post (VOps w.heap.size) w.heap.size w g (ziV d acc l3)) R∧acc.length + l3.length≤l.length∧l3.length<l.length) (fun _ wr=>left wr g)
 case atStart=>exact ⟨o,l1,hv,h1,k1,HP,hfew,hlen⟩
 case round =>
  clear HP hv h1 k1 hlen hfew hfl;obtain ⟨acc,l3,hv,h3,k3,HP,hl,hl3⟩:=hrel;obtain ⟨A,c,rfl,_⟩:=Rd.own hv;have hlf:=h3.left;have f1:=zin;have hfine:=h3.fine;rw [moreT_eq,←zgZ hfine] at HP;have hop:=fun h=>opT_text hfine (by rw [←zgZ hfine];exact h);have hol:=fun h=>zd4 (l:=l3) (by rw [←zgZ hfine];exact h);have kj:∀W,_:=fun W=>joins_any (hdT l3).2.1 W;have kf:=zb3 h3;generalize (hdT l3).2.1=x at *
  by_cases hz:zfd x=0
  · rw [if_pos hz] at HP;rw [hz] at kj;go_wp2_with fail
    refine kf.mono ?_;rintro e w3 ⟨rfl,hb⟩;have h4:=h3.below hb;have k4:=k3.trans ((Kp.of_below hb g).more k3.size);have hv4:=zag hv hb;clear hb h3 k3 hv kf;go_wp2_with ((with_reducible refine (kj _).mono ?_);rintro e w' ⟨rfl,rfl⟩)
    exact HP.ret rfl k4 hv4 h4
  · rw [if_neg hz] at HP;rw [decide_eq_false hz] at kj;have hf:=hop hz;have hol:=hol hz;go_wp2_with fail
    refine kf.mono ?_;rintro e w3 ⟨rfl,hb⟩;have h4:=h3.below hb;have k4:=k3.trans ((Kp.of_below hb g).more k3.size);have hv4:=zag hv hb;clear hb h3 k3 hv kf;go_wp2_with (first
     | ((with_reducible refine (kj _).mono ?_);rintro e w' ⟨rfl,rfl⟩)
     | ((with_reducible refine (pass_any h4 hf).mono ?_);rintro e w4 ⟨rfl,h5,hk⟩))
    have k5:=k4.trans (hk.more k4.size);have hv5:=zaM hv4 hk hg;clear hk k4 hv4 h4 kj;refine (H d l3.tail _ g (by omega) hd h5).mono ?_;intro e w5 hp;obtain ⟨hk,hc⟩:=hp.cases_;have k6:=k5.trans (hk.more k5.size);have hz5:=k5.size;have hv6:=zaM hv5 hk hg;clear hp hk k5 hv5 h5;rcases hc with ⟨c,p,hr,rfl⟩ | ⟨o5,l5,v5,hr,rfl,hv7,h6⟩
    · go_wp2_with fail
      exact ⟨rfl,HP.bad hr k6⟩
    replace HP:=HP.bind hr;have hlen:=zh8 hr;have hfew:=zh7 hr;clear hr;have hlf6:=h6.few;have hz6:=k6.size;have hmax:l.length≤1000000:=hmaxl;obtain ⟨i0,hi0,hz0,hz1,hz2⟩:=info_parts info_op;obtain ⟨A5,c5,rfl,hrd5⟩:=Rd.own hv7;have hsrc:=hrd5.src Tryz.underlying113 (zcO o5);clear hrd5;go_wp2_with (first
     | (at_builtin;refine zab _ rfl (.tmp 23) (.tmp 26) 113 113 rfl w.heap.size 132 i0 (.agg #[.int .i64 0,.string .empty,.string .empty]) 3 40 Tryz.underlying113 hi0 hz0 hz1 hz2 rfl (by decide) _ acc.length (ocells acc) rfl hv6 _ o5.length (ocells o5) rfl hsrc (by simp only [maxLen];omega) (by omega) hz6 ?_;intro v1 w6 hown1 hg1 hat1;obtain ⟨A1,c1,rfl,_⟩:=Rd.own hown1;have k7:=zdv (v:=.slice A acc.length c) k6 hg1 hv6 hz6 (Nat.le_refl _);have h7:=zkK (v:=.slice A acc.length c) h6 hg1 hv6 hg;have hz7:=k7.size)
     | (at_builtin;refine zab _ rfl (.tmp 28) (.tmp 31) 113 113 rfl w.heap.size 132 i0 (.agg #[.int .i64 0,.string .empty,.string .empty]) 3 40 Tryz.underlying113 hi0 hz0 hz1 hz2 rfl (by decide) _ (acc.length + o5.length) (ocells acc ++ ocells o5) rfl (World.ownsRow.alloc hown1 _) _ 1 [.int .i64 (zfd x),.string ⟨#[]⟩,.string ⟨#[]⟩] rfl (Src.ofSlice _ Tryz.underlying113 _ 1 1 _ rfl (zaZ _ _ _ _ _) (zdy (zfd x,⟨#[]⟩,⟨#[]⟩))) (by simp only [maxLen];omega) (by omega) (size_alloc hz7) ?_;intro v2 w7 hown2 hg2 hat2;obtain ⟨A2,c2,rfl,_⟩:=Rd.own hown2;have k8:=za7 (v:=.slice A1 (acc.length + o5.length) c1) k7 hg2 hown1 hz7 (Nat.le_refl _);have h8:=zev (v:=.slice A1 (acc.length + o5.length) c1) h7 hg2 hown1 hg))
    refine ⟨⟨acc ++ o5 ++ [(zfd x,⟨#[]⟩,⟨#[]⟩)],l5,?_,h8,k8,HP,?_,by omega⟩,?_⟩
    · unfold VOps;rw [List.length_append,List.length_append,zbz,zbz];exact hown2
    · rw [List.length_append,List.length_append,List.length_singleton];omega
    · rw [h8.left,hlf];omega
theorem zjO:∀N,zeb N∧zgK N
 | 0=>by
  have h:zeb 0:=fun d l w g hl _ h=>by
   obtain ⟨t,r,rfl⟩:=h.fine.cons;simp at hl
  exact ⟨h,rew_upto h⟩
 | N + 1=>by
  have h:zeb (N + 1):=part_upto (zjO N).2;exact ⟨h,rew_upto h⟩
theorem rew_any (d:Nat) (hd:d≤8) (h:Rdr w g l):Calls Tryz.prog 188 #[.pointer (some ⟨g,0,none⟩),.int .i64 d] w (Post (VOps w.heap.size) w.heap.size w g (ziw d l)) :=
 (zjO l.length).2 d l w g (Nat.le_refl _) hd h
end
def subT (l:List Tk):Rs zb7:=zaH (zaR l) fun n r=>zaH (if isT (sg 35) r=true then zaR r.tail else .ok (⟨#[]⟩,r)) fun m r=>.ok ((n,m),r)
def whoM (acc:List zb7) (l:List Tk):Rs (List zb7):=if isT (sg 44) l=true then whoT acc l.tail else .ok (acc,l)
theorem zkc (acc:List zb7) (l:List Tk):whoT acc l=zaH (subT l) fun s r=>whoM (acc ++ [s]) r:=by
 rw [zmQ];unfold subT;rw [zch];congr 1
 funext n r
 rw [zch];rfl
theorem subT_len {l r:List Tk} {s:zb7} (h:subT l = .ok (s,r)):r.length<l.length:=by
 obtain ⟨n,m,h1,h2⟩:=zae h;obtain ⟨a,m2,h3,h4⟩:=zae h2;have:=zau h1;have:=zhB h3;cases h4;omega
def atN (l:List Tk):Bool:=decide ((hdT l).1=1) && !keyB (hdT l).2.1
def zkX (l:List Tk):Rs (List zb7):=if atN l=true then whoT [] l else .ok ([],l)
section
variable {w:World} {g:Nat} {l:List Tk}
theorem subs_any (h:Rdr w g l):Calls Tryz.prog 175 #[.pointer (some ⟨g,0,none⟩)] w (Post (VSubs w.heap.size) w.heap.size w g (zkX l)):=by
 suffices H:∀R,To (Post (VSubs w.heap.size) w.heap.size w g (zkX l)) R→Calls Tryz.prog 175 #[.pointer (some ⟨g,0,none⟩)] w R from H _ fun _ _ h=>h
 intro R HP;have hg:=h.size;have ka:=atName_any h;rw [show (decide ((hdT l).1=1) && !keyB (hdT l).2.1)=atN l from rfl] at ka;unfold zkX at HP;cases hn:atN l with
 | false =>
  rw [hn] at ka;rw [hn,if_neg (by decide)] at HP;go_enter Tryz.func175,Tryz.ntmps175
  go_wp2_with ((with_reducible refine ka.mono ?_);rintro e w1 ⟨rfl,hb⟩)
  exact HP.ret rfl (Kp.of_below hb g) (World.ownsRow_nil _ _ _ _) (h.below hb)
 | true =>
  rw [hn] at ka;rw [hn,if_pos rfl,zkc] at HP;go_enter Tryz.func175,Tryz.ntmps175
  go_wp2_with ((with_reducible refine ka.mono ?_);rintro e w1 ⟨rfl,hb⟩)
  have h1:=h.below hb;have k1:=Kp.of_below hb g;clear h hb ka;refine (sub_any h1).mono ?_;intro e w2 hp;obtain ⟨hk,hc⟩:=hp.cases_;clear hp;have k2:=k1.trans (hk.more k1.size);clear hk k1 h1;rcases hc with ⟨c,p,hr,rfl⟩ | ⟨s,l2,v,hr,rfl,rfl,h2⟩
  · go_wp2_with fail
    exact ⟨rfl,HP.bad hr k2⟩
  replace HP:=HP.bind hr;clear hr;go_wp2_with fail
  have hk0:Kp g w.heap.size w _:=k2.alloc k2.size (.cells #[.string s.1,.string s.2] 104);have ho0:VSubs w.heap.size _ _ ([] ++ [s]):=zhc w2 #[.string s.1,.string s.2] 104 1 2 w.heap.size rfl (by decide) k2.size;have hr0:=h2.alloc (.cells #[.string s.1,.string s.2] 104);clear k2 h2;go_loopw [3] (fun vi wr=>∃acc l3,VSubs w.heap.size wr vi acc∧Rdr wr g l3∧Kp g w.heap.size w wr∧To (Post (VSubs w.heap.size) w.heap.size w g (whoM acc l3)) R∧acc.length + l3.length≤2000000) (fun _ wr=>left wr g)
  case atStart=>exact ⟨[] ++ [s],l2,ho0,hr0,hk0,HP,by have:=hr0.few;simp;omega⟩
  case round =>
   clear HP ho0 hr0 hk0;obtain ⟨acc,l3,hv,h3,k3,HP,hl⟩:=hrel;obtain ⟨A,c,rfl,_⟩:=Rd.own hv;have km:=may_any h3 (zcH 44 (by decide));have hlf:=h3.left;cases hi:isT (sg 44) l3 with
   | false =>
    rw [hi,if_neg (by decide)] at km;unfold whoM at HP;rw [hi,if_neg (by decide)] at HP;go_wp2_with fail
    refine km.mono ?_;rintro e w3 ⟨rfl,h4,hk⟩;have k4:=k3.trans (hk.more k3.size);have hv4:=zaM hv hk hg;clear km hk k3 hv h3;go_wp2_with fail
    exact HP.ret rfl k4 hv4 h4
   | true =>
    rw [hi,if_pos rfl] at km;unfold whoM at HP;rw [hi,if_pos rfl,zkc] at HP;go_wp2_with fail
    refine km.mono ?_;rintro e w3 ⟨rfl,h4,hk⟩;have k4:=k3.trans (hk.more k3.size);have hv4:=zaM hv hk hg;clear km hk k3 hv h3;go_wp2_with fail
    refine (sub_any h4).mono ?_;intro e w4 hp;obtain ⟨hk,hc⟩:=hp.cases_;clear hp;have k5:=k4.trans (hk.more k4.size);have hv5:=zaM hv4 hk hg;clear hk k4 hv4 h4;rcases hc with ⟨c,p,hr,rfl⟩ | ⟨s4,l5,v,hr,rfl,rfl,h5⟩
    · go_wp2_with fail
      exact ⟨rfl,HP.bad hr k5⟩
    have hlen:=subT_len hr;replace HP:=HP.bind hr;obtain ⟨i0,hi0,hz0,hz1,hz2⟩:=info_parts info_sub;have hz5:=k5.size;have hll:l3.tail.length≤l3.length:=by rw [List.length_tail];omega
    clear hr;go_wp2_with (at_builtin;refine zab _ rfl (.tmp 12) (.tmp 15) 98 98 rfl w.heap.size 104 i0 (.agg #[.string .empty,.string .empty]) 2 32 Tryz.underlying98 hi0 hz0 hz1 hz2 rfl (by decide) _ acc.length (zbR acc) rfl (World.ownsRow.alloc hv5 _) _ 1 [.string s4.1,.string s4.2] rfl (Src.ofSlice _ Tryz.underlying98 _ 1 1 _ rfl (zbo _ _ _ _) (zdB s4)) (by simp only [maxLen];omega) (by omega) (size_alloc hz5) ?_;intro v1 w5 hown1 hg1 hat1;obtain ⟨A1,c1,rfl,_⟩:=Rd.own hown1)
    have hr5:=zev (v:=.slice A acc.length c) h5 hg1 hv5 hg;refine ⟨⟨acc ++ [s4],l5,?_,hr5,za7 (v:=.slice A acc.length c) k5 hg1 hv5 hz5 (Nat.le_refl _),HP,?_⟩,?_⟩
    · unfold VSubs;rw [List.length_append,zeX];exact hown1
    · rw [List.length_append,List.length_singleton];omega
    · rw [hr5.left,hlf];omega
end
def opsT (l:List Tk):Rs (List OpP):=if isT sIs l=true then ziw 0 l.tail else .ok ([(1,⟨#[]⟩,⟨#[]⟩)],l)
theorem ask_is:Ask sIs:=zgM rfl (by decide)
theorem ask_rel:Ask zgd:=zgM rfl (by decide)
theorem zjk:Ask zcr:=zgM rfl (by decide)
section
variable {w:World} {g:Nat} {l:List Tk}
theorem ops_any (h:Rdr w g l):Calls Tryz.prog 176 #[.pointer (some ⟨g,0,none⟩)] w (Post (VOps w.heap.size) w.heap.size w g (opsT l)):=by
 suffices HH:∀R,To (Post (VOps w.heap.size) w.heap.size w g (opsT l)) R→Calls Tryz.prog 176 #[.pointer (some ⟨g,0,none⟩)] w R from HH _ fun _ _ h=>h
 intro R HP;have hg:=h.size;have km:=may_any h ask_is;unfold opsT at HP;cases hi:isT sIs l with
 | false =>
  rw [hi,if_neg (by decide)] at km;rw [hi,if_neg (by decide)] at HP;go_enter Tryz.func176,Tryz.ntmps176
  go_wp2_with fail
  refine km.mono ?_;rintro e w1 ⟨rfl,h1,hk⟩;go_wp2_with fail
  exact HP.ret rfl (hk.alloc hk.size _) (zfq _ _ _ _ _ hk.size) (h1.alloc _)
 | true =>
  rw [hi,if_pos rfl] at km;rw [hi,if_pos rfl] at HP;go_enter Tryz.func176,Tryz.ntmps176
  go_wp2_with fail
  refine km.mono ?_;rintro e w1 ⟨rfl,h1,k1⟩;go_wp2_with fail
  refine (rew_any 0 (by omega) h1).mono ?_;intro e w2 hp;obtain ⟨hk,hc⟩:=hp.cases_;have k2:=k1.trans (hk.more k1.size);clear hp hk;rcases hc with ⟨c,p,hr,rfl⟩ | ⟨o,l2,v,hr,rfl,hv,h2⟩
  · go_wp2_with fail
    exact ⟨rfl,HP.fail hr k2⟩
  go_wp2_with fail
  exact HP.ret hr k2 (zav hv k1.size) h2
end
theorem zmK (l:List Tk) (K:List zb7→List OpP→List Tk→Rs RelP) :
 (zaH (if isT sIs l=true∨isT (sg 59) l=true then .ok ([],l) else whoT [] l) fun w r=>zaH (opsT r) fun o r=>zaH (zaG (sg 59) r) fun _ r=>K w o r) =
 zaH (zkX l) fun w r=>zaH (opsT r) fun o r=>zaH (zaG (sg 59) r) fun _ r=>K w o r:=by
 unfold zkX;cases hn:atN l with
 | true =>
  have hn':=hn;unfold atN at hn';simp only [Bool.and_eq_true,decide_eq_true_eq,Bool.not_eq_true'] at hn';rw [if_pos rfl,if_neg];rintro (h | h)
  · unfold isT at h;have:=(of_decide_eq_true h).1;rw [this] at hn';exact absurd hn'.2 (by decide)
  · unfold isT at h;rcases (of_decide_eq_true h).2 with h2 | h2
    · omega
    · exact absurd h2 (by decide)
 | false =>
  rw [if_neg (show ¬(false=true) by decide)];by_cases h:isT sIs l=true∨isT (sg 59) l=true
  · rw [if_pos h]
  · rw [if_neg h,zmQ,zl3 hn];have h1:isT sIs l=false:=by cases hh:isT sIs l with | true=>exact absurd (.inl hh) h | false=>rfl
    have h2:isT (sg 59) l=false:=by cases hh:isT (sg 59) l with | true=>exact absurd (.inr hh) h | false=>rfl
    rw [andT_err,zb8];unfold opsT;rw [h1,if_neg (by decide),zb8];unfold zaG;rw [h2,if_neg (by decide)];rfl
def relR (l:List Tk):Rs RelP :=
 zaH (zaG zgd l) fun _ r=>zaH (zaR r) fun n r=>zaH (zaG (sg 40) r) fun _ r=>zaH (zaR r) fun v r=>zaH (zaG (sg 44) r) fun _ r =>
 zaH (zaR r) fun e r=>zaH (zaG (sg 44) r) fun _ r=>zaH (zaR r) fun c r=>zaH (zaG (sg 41) r) fun _ r =>
 zaH (zaG (sg 58) r) fun _ r=>zaH (zkX r) fun w r=>zaH (opsT r) fun o r=>zaH (zaG (sg 59) r) fun _ r=>.ok (⟨n,v,e,c,w,o⟩,r)
theorem zmm (l:List Tk):relR l=zaH (zaG zgd l) fun _ r=>zmn r:=by
 unfold relR zmn;refine zal rfl fun _ r _=>?_;refine zal rfl fun n r _=>?_;refine zal rfl fun _ r _=>?_;refine zal rfl fun v r _=>?_;refine zal rfl fun _ r _=>?_;refine zal rfl fun e r _=>?_;refine zal rfl fun _ r _=>?_;refine zal rfl fun c r _=>?_;refine zal rfl fun _ r _=>?_;refine zal rfl fun _ r _=>?_;exact (zmK r fun w o r=>.ok (⟨n,v,e,c,w,o⟩,r)).symm
def VRel (B:Nat) (w:World) (v:Value) (x:RelP):Prop:=∃vs vo,v = .agg #[.string x.name,.string x.view,.string x.edit,.string x.check,vs,vo]∧VSubs B w vs x.subs∧VOps B w vo x.ops
section
variable {w:World} {g:Nat} {l:List Tk}
theorem Bk.set {w:World} {b:Nat} {cs:Array Value} {t:TypeId} (h:Bk w b cs t) (i:Nat) (v:Value):Bk (w.setCell ⟨b,i,none⟩ v) b (cs.setIfInBounds i v) t:=by
 unfold Bk at *
 simp [World.setCell,Array.getElem?_modify,h]
theorem Bk.other {w:World} {b:Nat} {cs:Array Value} {t:TypeId} (h:Bk w b cs t) {a:Addr} (ha:b≠a.block) (v:Value):Bk (w.setCell a v) b cs t:=(Below.heap_setCell _ _ _ _ ha).trans h
theorem zai {w:World} {base:Nat} {e:TypeId} {size n:Nat} {v:Value} {xs:List Value} (h:w.ownsRow base e size v n xs) {a:Addr} (ha:a.block<base) (u:Value):(w.setCell a u).ownsRow base e size v n xs :=
 zaI h fun k hk=>Below.heap_setCell _ _ _ _ (by have:=(h.lt k hk).1;omega)
theorem relation_any (h:Rdr w g l):Calls Tryz.prog 149 #[.pointer (some ⟨g,0,none⟩)] w (Post (VRel w.heap.size) w.heap.size w g (relR l)):=by
 suffices HH:∀R,To (Post (VRel w.heap.size) w.heap.size w g (relR l)) R→Calls Tryz.prog 149 #[.pointer (some ⟨g,0,none⟩)] w R from HH _ fun _ _ h=>h
 intro R HP;have hg:=h.size;unfold relR at HP;go_enter Tryz.func149,Tryz.ntmps149
 go_wp2_with fail
 have hb0:=(Bk.new w #[.string ⟨#[]⟩,.string ⟨#[]⟩,.string ⟨#[]⟩,.string ⟨#[]⟩,.slice none 0 0,.slice none 0 0] 115).alloc (.cells #[.string ⟨#[]⟩,.string ⟨#[]⟩,.string ⟨#[]⟩,.string ⟨#[]⟩,.slice none 0 0,.slice none 0 0] 115);have hb1:Bk ((w.alloc (.cells #[.string ⟨#[]⟩,.string ⟨#[]⟩,.string ⟨#[]⟩,.string ⟨#[]⟩,.slice none 0 0,.slice none 0 0] 115)).alloc (.cells #[.string ⟨#[]⟩,.string ⟨#[]⟩,.string ⟨#[]⟩,.string ⟨#[]⟩,.slice none 0 0,.slice none 0 0] 115)) (w.heap.size + 1) #[.string ⟨#[]⟩,.string ⟨#[]⟩,.string ⟨#[]⟩,.string ⟨#[]⟩,.slice none 0 0,.slice none 0 0] 115:=by have:=Bk.new (w.alloc (.cells #[.string ⟨#[]⟩,.string ⟨#[]⟩,.string ⟨#[]⟩,.string ⟨#[]⟩,.slice none 0 0,.slice none 0 0] 115)) #[.string ⟨#[]⟩,.string ⟨#[]⟩,.string ⟨#[]⟩,.string ⟨#[]⟩,.slice none 0 0,.slice none 0 0] 115;rwa [World.size_alloc] at this
 have hR:=(h.alloc (.cells #[.string ⟨#[]⟩,.string ⟨#[]⟩,.string ⟨#[]⟩,.string ⟨#[]⟩,.slice none 0 0,.slice none 0 0] 115)).alloc (.cells #[.string ⟨#[]⟩,.string ⟨#[]⟩,.string ⟨#[]⟩,.string ⟨#[]⟩,.slice none 0 0,.slice none 0 0] 115);have hK:Kp g w.heap.size w _:=((Kp.refl g _ w).alloc (Nat.le_refl _) (.cells #[.string ⟨#[]⟩,.string ⟨#[]⟩,.string ⟨#[]⟩,.string ⟨#[]⟩,.slice none 0 0,.slice none 0 0] 115)).alloc (size_alloc (Nat.le_refl _)) (.cells #[.string ⟨#[]⟩,.string ⟨#[]⟩,.string ⟨#[]⟩,.string ⟨#[]⟩,.slice none 0 0,.slice none 0 0] 115);clear h;generalize (w.alloc (.cells #[.string ⟨#[]⟩,.string ⟨#[]⟩,.string ⟨#[]⟩,.string ⟨#[]⟩,.slice none 0 0,.slice none 0 0] 115)).alloc (.cells #[.string ⟨#[]⟩,.string ⟨#[]⟩,.string ⟨#[]⟩,.string ⟨#[]⟩,.slice none 0 0,.slice none 0 0] 115)=W at *
 generalize w.heap.size=B at *
 refine (must_any hR ask_rel).mono ?_;intro e W1 hp;obtain ⟨hk,hc⟩:=hp.cases_;have hz:=Nat.le_of_lt hb0.lt;have hlt:=hb1.lt;replace hK:=hK.trans (hk.more hz);replace hb0:=hb0.kp hk (by omega);replace hb1:=hb1.kp hk (by omega);clear hp hk hR;rcases hc with ⟨c,p,hr,rfl⟩ | ⟨_,l1,v,hr,rfl,hv,hR⟩
 · go_wp2_with fail
   exact ⟨rfl,HP.bad hr hK⟩
 replace HP:=HP.bind hr;clear hr;obtain rfl:=hv;clear hz hlt;go_wp2_with fail
 refine (rname_any hR).mono ?_;intro e W1 hp;obtain ⟨hk,hc⟩:=hp.cases_;have hz:=Nat.le_of_lt hb0.lt;have hlt:=hb1.lt;replace hK:=hK.trans (hk.more hz);replace hb0:=hb0.kp hk (by omega);replace hb1:=hb1.kp hk (by omega);clear hp hk hR;rcases hc with ⟨c,p,hr,rfl⟩ | ⟨n,l1,v,hr,rfl,hv,hR⟩
 · go_wp2_with fail
   exact ⟨rfl,HP.bad hr hK⟩
 replace HP:=HP.bind hr;clear hr;obtain rfl:=hv;have hx:W1.cell? ⟨B + 1,0,none⟩=some (.string ⟨#[]⟩):=hb1.cell 0;have fx:=hb1.fz;go_wp2_with fail
 replace hR:=hR.set (a:=⟨B + 1,0,none⟩) (by show g<B + 1;omega) (.string n);replace hK:=hK.set (a:=⟨B + 1,0,none⟩) (by show B≤B + 1;omega) (.string n);replace hb0:=hb0.other (a:=⟨B + 1,0,none⟩) (by show B≠B + 1;omega) (.string n);replace hb1:Bk _ (B + 1) #[.string n,.string ⟨#[]⟩,.string ⟨#[]⟩,.string ⟨#[]⟩,.slice none 0 0,.slice none 0 0] 115:=hb1.set 0 (.string n);clear hx fx hlt hz;generalize W1.setCell ⟨B + 1,0,none⟩ (.string n)=W2 at *
 refine (must_any hR (zcH 40 (by decide))).mono ?_;intro e W1 hp;obtain ⟨hk,hc⟩:=hp.cases_;have hz:=Nat.le_of_lt hb0.lt;have hlt:=hb1.lt;replace hK:=hK.trans (hk.more hz);replace hb0:=hb0.kp hk (by omega);replace hb1:=hb1.kp hk (by omega);clear hp hk hR;rcases hc with ⟨c,p,hr,rfl⟩ | ⟨_,l1,v,hr,rfl,hv,hR⟩
 · go_wp2_with fail
   exact ⟨rfl,HP.bad hr hK⟩
 replace HP:=HP.bind hr;clear hr;obtain rfl:=hv;clear hz hlt;go_wp2_with fail
 refine (rname_any hR).mono ?_;intro e W1 hp;obtain ⟨hk,hc⟩:=hp.cases_;have hz:=Nat.le_of_lt hb0.lt;have hlt:=hb1.lt;replace hK:=hK.trans (hk.more hz);replace hb0:=hb0.kp hk (by omega);replace hb1:=hb1.kp hk (by omega);clear hp hk hR;rcases hc with ⟨c,p,hr,rfl⟩ | ⟨vi,l1,v,hr,rfl,hv,hR⟩
 · go_wp2_with fail
   exact ⟨rfl,HP.bad hr hK⟩
 replace HP:=HP.bind hr;clear hr;obtain rfl:=hv;have hx:W1.cell? ⟨B + 1,1,none⟩=some (.string ⟨#[]⟩):=hb1.cell 1;have fx:=hb1.fz;go_wp2_with fail
 replace hR:=hR.set (a:=⟨B + 1,1,none⟩) (by show g<B + 1;omega) (.string vi);replace hK:=hK.set (a:=⟨B + 1,1,none⟩) (by show B≤B + 1;omega) (.string vi);replace hb0:=hb0.other (a:=⟨B + 1,1,none⟩) (by show B≠B + 1;omega) (.string vi);replace hb1:Bk _ (B + 1) #[.string n,.string vi,.string ⟨#[]⟩,.string ⟨#[]⟩,.slice none 0 0,.slice none 0 0] 115:=hb1.set 1 (.string vi);clear hx fx hlt hz;generalize W1.setCell ⟨B + 1,1,none⟩ (.string vi)=W2 at *
 refine (must_any hR (zcH 44 (by decide))).mono ?_;intro e W1 hp;obtain ⟨hk,hc⟩:=hp.cases_;have hz:=Nat.le_of_lt hb0.lt;have hlt:=hb1.lt;replace hK:=hK.trans (hk.more hz);replace hb0:=hb0.kp hk (by omega);replace hb1:=hb1.kp hk (by omega);clear hp hk hR;rcases hc with ⟨c,p,hr,rfl⟩ | ⟨_,l1,v,hr,rfl,hv,hR⟩
 · go_wp2_with fail
   exact ⟨rfl,HP.bad hr hK⟩
 replace HP:=HP.bind hr;clear hr;obtain rfl:=hv;clear hz hlt;go_wp2_with fail
 refine (rname_any hR).mono ?_;intro e W1 hp;obtain ⟨hk,hc⟩:=hp.cases_;have hz:=Nat.le_of_lt hb0.lt;have hlt:=hb1.lt;replace hK:=hK.trans (hk.more hz);replace hb0:=hb0.kp hk (by omega);replace hb1:=hb1.kp hk (by omega);clear hp hk hR;rcases hc with ⟨c,p,hr,rfl⟩ | ⟨ed,l1,v,hr,rfl,hv,hR⟩
 · go_wp2_with fail
   exact ⟨rfl,HP.bad hr hK⟩
 replace HP:=HP.bind hr;clear hr;obtain rfl:=hv;have hx:W1.cell? ⟨B + 1,2,none⟩=some (.string ⟨#[]⟩):=hb1.cell 2;have fx:=hb1.fz;go_wp2_with fail
 replace hR:=hR.set (a:=⟨B + 1,2,none⟩) (by show g<B + 1;omega) (.string ed);replace hK:=hK.set (a:=⟨B + 1,2,none⟩) (by show B≤B + 1;omega) (.string ed);replace hb0:=hb0.other (a:=⟨B + 1,2,none⟩) (by show B≠B + 1;omega) (.string ed);replace hb1:Bk _ (B + 1) #[.string n,.string vi,.string ed,.string ⟨#[]⟩,.slice none 0 0,.slice none 0 0] 115:=hb1.set 2 (.string ed);clear hx fx hlt hz;generalize W1.setCell ⟨B + 1,2,none⟩ (.string ed)=W2 at *
 refine (must_any hR (zcH 44 (by decide))).mono ?_;intro e W1 hp;obtain ⟨hk,hc⟩:=hp.cases_;have hz:=Nat.le_of_lt hb0.lt;have hlt:=hb1.lt;replace hK:=hK.trans (hk.more hz);replace hb0:=hb0.kp hk (by omega);replace hb1:=hb1.kp hk (by omega);clear hp hk hR;rcases hc with ⟨c,p,hr,rfl⟩ | ⟨_,l1,v,hr,rfl,hv,hR⟩
 · go_wp2_with fail
   exact ⟨rfl,HP.bad hr hK⟩
 replace HP:=HP.bind hr;clear hr;obtain rfl:=hv;clear hz hlt;go_wp2_with fail
 refine (rname_any hR).mono ?_;intro e W1 hp;obtain ⟨hk,hc⟩:=hp.cases_;have hz:=Nat.le_of_lt hb0.lt;have hlt:=hb1.lt;replace hK:=hK.trans (hk.more hz);replace hb0:=hb0.kp hk (by omega);replace hb1:=hb1.kp hk (by omega);clear hp hk hR;rcases hc with ⟨c,p,hr,rfl⟩ | ⟨ck,l1,v,hr,rfl,hv,hR⟩
 · go_wp2_with fail
   exact ⟨rfl,HP.bad hr hK⟩
 replace HP:=HP.bind hr;clear hr;obtain rfl:=hv;have hx:W1.cell? ⟨B + 1,3,none⟩=some (.string ⟨#[]⟩):=hb1.cell 3;have fx:=hb1.fz;go_wp2_with fail
 replace hR:=hR.set (a:=⟨B + 1,3,none⟩) (by show g<B + 1;omega) (.string ck);replace hK:=hK.set (a:=⟨B + 1,3,none⟩) (by show B≤B + 1;omega) (.string ck);replace hb0:=hb0.other (a:=⟨B + 1,3,none⟩) (by show B≠B + 1;omega) (.string ck);replace hb1:Bk _ (B + 1) #[.string n,.string vi,.string ed,.string ck,.slice none 0 0,.slice none 0 0] 115:=hb1.set 3 (.string ck);clear hx fx hlt hz;generalize W1.setCell ⟨B + 1,3,none⟩ (.string ck)=W2 at *
 refine (must_any hR (zcH 41 (by decide))).mono ?_;intro e W1 hp;obtain ⟨hk,hc⟩:=hp.cases_;have hz:=Nat.le_of_lt hb0.lt;have hlt:=hb1.lt;replace hK:=hK.trans (hk.more hz);replace hb0:=hb0.kp hk (by omega);replace hb1:=hb1.kp hk (by omega);clear hp hk hR;rcases hc with ⟨c,p,hr,rfl⟩ | ⟨_,l1,v,hr,rfl,hv,hR⟩
 · go_wp2_with fail
   exact ⟨rfl,HP.bad hr hK⟩
 replace HP:=HP.bind hr;clear hr;obtain rfl:=hv;clear hz hlt;go_wp2_with fail
 refine (must_any hR (zcH 58 (by decide))).mono ?_;intro e W1 hp;obtain ⟨hk,hc⟩:=hp.cases_;have hz:=Nat.le_of_lt hb0.lt;have hlt:=hb1.lt;replace hK:=hK.trans (hk.more hz);replace hb0:=hb0.kp hk (by omega);replace hb1:=hb1.kp hk (by omega);clear hp hk hR;rcases hc with ⟨c,p,hr,rfl⟩ | ⟨_,l1,v,hr,rfl,hv,hR⟩
 · go_wp2_with fail
   exact ⟨rfl,HP.bad hr hK⟩
 replace HP:=HP.bind hr;clear hr;obtain rfl:=hv;clear hz hlt;go_wp2_with fail
 refine (subs_any hR).mono ?_;intro e W1 hp;obtain ⟨hk,hc⟩:=hp.cases_;have hz:=Nat.le_of_lt hb0.lt;have hlt:=hb1.lt;replace hK:=hK.trans (hk.more hz);replace hb0:=hb0.kp hk (by omega);replace hb1:=hb1.kp hk (by omega);clear hp hk hR;rcases hc with ⟨c,p,hr,rfl⟩ | ⟨ws,l1,v,hr,rfl,hv,hR⟩
 · go_wp2_with fail
   exact ⟨rfl,HP.bad hr hK⟩
 replace HP:=HP.bind hr;clear hr;have hvs:VSubs (B + 2) _ v ws:=zav hv (by omega);obtain ⟨As,cS,rfl,_⟩:=Rd.own hvs;clear hv;have hx:W1.cell? ⟨B + 1,4,none⟩=some (.slice none 0 0):=hb1.cell 4;have fx:=hb1.fz;go_wp2_with fail
 replace hR:=hR.set (a:=⟨B + 1,4,none⟩) (by show g<B + 1;omega) (.slice As ws.length cS);replace hK:=hK.set (a:=⟨B + 1,4,none⟩) (by show B≤B + 1;omega) (.slice As ws.length cS);replace hb0:=hb0.other (a:=⟨B + 1,4,none⟩) (by show B≠B + 1;omega) (.slice As ws.length cS);replace hb1:Bk _ (B + 1) #[.string n,.string vi,.string ed,.string ck,.slice As ws.length cS,.slice none 0 0] 115:=hb1.set 4 (.slice As ws.length cS);replace hvs:=zai hvs (a:=⟨B + 1,4,none⟩) (by show B + 1<B + 2;omega) (.slice As ws.length cS);clear hx fx hlt hz;generalize W1.setCell ⟨B + 1,4,none⟩ (.slice As ws.length cS)=W2 at *
 refine (ops_any hR).mono ?_;intro e W1 hp;obtain ⟨hk,hc⟩:=hp.cases_;have hz:=Nat.le_of_lt hb0.lt;have hlt:=hb1.lt;replace hK:=hK.trans (hk.more hz);replace hb0:=hb0.kp hk (by omega);replace hb1:=hb1.kp hk (by omega);replace hvs:=zaM hvs hk (by omega);clear hp hk hR;rcases hc with ⟨c,p,hr,rfl⟩ | ⟨os,l1,v,hr,rfl,hv,hR⟩
 · go_wp2_with fail
   exact ⟨rfl,HP.bad hr hK⟩
 replace HP:=HP.bind hr;clear hr;have hvo:VOps (B + 2) _ v os:=zav hv (by omega);obtain ⟨Ao,cO,rfl,_⟩:=Rd.own hvo;clear hv;have hx:W1.cell? ⟨B + 1,5,none⟩=some (.slice none 0 0):=hb1.cell 5;have fx:=hb1.fz;go_wp2_with fail
 replace hR:=hR.set (a:=⟨B + 1,5,none⟩) (by show g<B + 1;omega) (.slice Ao os.length cO);replace hK:=hK.set (a:=⟨B + 1,5,none⟩) (by show B≤B + 1;omega) (.slice Ao os.length cO);replace hb0:=hb0.other (a:=⟨B + 1,5,none⟩) (by show B≠B + 1;omega) (.slice Ao os.length cO);replace hb1:Bk _ (B + 1) #[.string n,.string vi,.string ed,.string ck,.slice As ws.length cS,.slice Ao os.length cO] 115:=hb1.set 5 (.slice Ao os.length cO);replace hvs:=zai hvs (a:=⟨B + 1,5,none⟩) (by show B + 1<B + 2;omega) (.slice Ao os.length cO);replace hvo:=zai hvo (a:=⟨B + 1,5,none⟩) (by show B + 1<B + 2;omega) (.slice Ao os.length cO);clear hx fx hlt hz;generalize W1.setCell ⟨B + 1,5,none⟩ (.slice Ao os.length cO)=W2 at *
 refine (must_any hR (zcH 59 (by decide))).mono ?_;intro e W1 hp;obtain ⟨hk,hc⟩:=hp.cases_;have hz:=Nat.le_of_lt hb0.lt;have hlt:=hb1.lt;replace hK:=hK.trans (hk.more hz);replace hb0:=hb0.kp hk (by omega);replace hb1:=hb1.kp hk (by omega);replace hvs:=zaM hvs hk (by omega);replace hvo:=zaM hvo hk (by omega);clear hp hk hR;rcases hc with ⟨c,p,hr,rfl⟩ | ⟨_,l1,v,hr,rfl,hv,hR⟩
 · go_wp2_with fail
   exact ⟨rfl,HP.bad hr hK⟩
 replace HP:=HP.bind hr;clear hr;obtain rfl:=hv;have x0:W1.cell? ⟨B + 1,0,none⟩=some (.string n):=hb1.cell 0;have y0:W1.cell? ⟨B,0,none⟩=some (.string ⟨#[]⟩):=hb0.cell 0;have x1:W1.cell? ⟨B + 1,1,none⟩=some (.string vi):=hb1.cell 1;have y1:W1.cell? ⟨B,1,none⟩=some (.string ⟨#[]⟩):=hb0.cell 1;have x2:W1.cell? ⟨B + 1,2,none⟩=some (.string ed):=hb1.cell 2;have y2:W1.cell? ⟨B,2,none⟩=some (.string ⟨#[]⟩):=hb0.cell 2;have x3:W1.cell? ⟨B + 1,3,none⟩=some (.string ck):=hb1.cell 3;have y3:W1.cell? ⟨B,3,none⟩=some (.string ⟨#[]⟩):=hb0.cell 3;have x4:W1.cell? ⟨B + 1,4,none⟩=some (.slice As ws.length cS):=hb1.cell 4;have y4:W1.cell? ⟨B,4,none⟩=some (.slice none 0 0):=hb0.cell 4;have x5:W1.cell? ⟨B + 1,5,none⟩=some (.slice Ao os.length cO):=hb1.cell 5;have y5:W1.cell? ⟨B,5,none⟩=some (.slice none 0 0):=hb0.cell 5;have fy:=hb0.fz;have hne:¬B + 1=B:=by omega
 have hne2:¬B=B + 1:=by omega
 go_wp2_with fail
 refine bodyPost_ret (v:=.agg #[.string n,.string vi,.string ed,.string ck,.slice As ws.length cS,.slice Ao os.length cO]) (by simp [results,Tryz.results149,go_sem,y0,y1,y2,y3,y4,y5];try rfl) rfl ?_;refine HP.ret rfl ?_ ⟨_,_,rfl,?_,?_⟩ ?_
 · refine Kp.set (Kp.set (Kp.set (Kp.set (Kp.set (Kp.set hK ?_ _) ?_ _) ?_ _) ?_ _) ?_ _) ?_ _ <;> exact Nat.le_refl _
 · refine zav (zai (zai (zai (zai (zai (zai hvs ?_ _) ?_ _) ?_ _) ?_ _) ?_ _) ?_ _) (show B≤B + 2 by omega) <;> (show B<B + 2;omega)
 · refine zav (zai (zai (zai (zai (zai (zai hvo ?_ _) ?_ _) ?_ _) ?_ _) ?_ _) ?_ _) (show B≤B + 2 by omega) <;> (show B<B + 2;omega)
 · refine Rdr.set (Rdr.set (Rdr.set (Rdr.set (Rdr.set (Rdr.set hR ?_ _) ?_ _) ?_ _) ?_ _) ?_ _) ?_ _ <;> exact hg
end
end Go.Proofs.YtiepddmagfmllaaGreat
namespace Go.Proofs.YtiepddmagfmllaaGreat
open Go.RowKit
section
variable {P:Program} {ops:Array Oper} {Q:Exit→Act→World→Prop} {md:Region.Mode}
theorem zc4 (i:Nat) (d:Option Tmp) {oi:Oper} {v:Value} {fuel:Nat} {listed:Array Bool} {a:Act} {w:World} (hi:ops[i]? = some oi) (hd:oi.dst=d)
 (hs:Region.noSelect ops=true) (hf:Region.free md ops listed i=true) (hr:(Region.ready md ops listed).contains i=true)
 (hQ:∀c a w,Q (.panic c) (a.put oi.dst v) w→Q (.panic c) a w) (hw:Region.wanted oi (yielded ops a.tmps)=true) (hy:∀w,(execOp a.eval oi).run P w = .ok (.value v) w)
 (h:wpAny P md ops Q fuel (listed.setIfInBounds i true) (a.put d v) w):wpAny P md ops Q (fuel + 1) listed a w:=by
 subst hd;exact wpAny_take hi hs hf hr hQ (.inl ⟨hw,hy⟩) h
theorem zaa (i:Nat) (d:Option Tmp) {S:World→Prop} {oi:Oper} {v:Value} {fuel:Nat} {listed:Array Bool} {a:Act} {w:World} (hi:ops[i]? = some oi) (hd:oi.dst=d)
 (hs:Region.noSelect ops=true) (hf:Region.free md ops listed i=true) (hr:(Region.ready md ops listed).contains i=true)
 (hQ:∀c a w,Q (.panic c) (a.put oi.dst v) w→Q (.panic c) a w) (hw:Region.wanted oi (yielded ops a.tmps)=true) (hy:∀w,S w→(execOp a.eval oi).run P w = .ok (.value v) w) (hS:S w)
 (h:wpAnyH P md ops Q S fuel (listed.setIfInBounds i true) (a.put d v) w):wpAnyH P md ops Q S (fuel + 1) listed a w:=by
 subst hd;exact wpAnyH_take hi hs hf hr hQ (.inl ⟨hw,hy⟩) hS h
theorem zaB (i:Nat) {S:World→Prop} {oi:Oper} {fuel:Nat} {listed:Array Bool} {a:Act} {w:World} (hi:ops[i]? = some oi) (hr:Region.ready md ops listed=[i])
 (h:∀K':Act→World→Prop,(∀a w,S w→wpAnyH P md ops Q S fuel (listed.setIfInBounds i true) a w→K' a w)→if Region.wanted oi (yielded ops a.tmps)=true then Oper.wp P oi a w K' Q else K' (a.put oi.dst undef) w) :
 wpAnyH P md ops Q S (fuel + 1) listed a w :=
 wpAnyH_all hr (by simp) fun k hk=>by
  simp at hk;subst hk;exact wpOp_step hi fun K' hK'=>h K' fun a w s x=>hK' a w ⟨s,x⟩
end
end Go.Proofs.YtiepddmagfmllaaGreat
namespace Go.Proofs.YtiepddmagfmllaaGreat
open Go.RowKit
section
variable {P:Program} {ops:Array Oper} {Q:Exit→Act→World→Prop} {md:Region.Mode}
theorem zhs (i j k:Nat) (d:Option Tmp) (S:World→Prop) {oi oj ok:Oper} {v:Value} {fuel:Nat} {listed:Array Bool} {a:Act} {w:World} (hi:ops[i]? = some oi) (hj:ops[j]? = some oj) (hk:ops[k]? = some ok) (hd:oi.dst=d)
 (hs:Region.noSelect ops=true) (hap:oi.apart ops oj=true) (hap2:oi.apart ops ok=true) (hij:(i == j)=false) (hik:(i == k)=false) (hjk:(j == k)=false)
 (h0:(Region.ready md ops listed).all (fun m=>m == i || m == j)=true) (h0':(Region.ready md ops listed).contains i=true)
 (h1:(Region.ready md ops (listed.setIfInBounds i true)).all (· == j)=true) (h1':(Region.ready md ops (listed.setIfInBounds i true)).contains j=true)
 (h2:(Region.ready md ops (listed.setIfInBounds j true)).all (fun m=>m == i || m == k)=true) (h2':(Region.ready md ops (listed.setIfInBounds j true)).contains i=true)
 (h3:(Region.ready md ops ((listed.setIfInBounds i true).setIfInBounds j true)).all (· == k)=true) (h3':(Region.ready md ops ((listed.setIfInBounds i true).setIfInBounds j true)).contains k=true)
 (h4:(Region.ready md ops ((listed.setIfInBounds j true).setIfInBounds k true)).all (· == i)=true) (h4':(Region.ready md ops ((listed.setIfInBounds j true).setIfInBounds k true)).contains i=true)
 (hQ:∀c a w,Q (.panic c) (a.put oi.dst v) w→Q (.panic c) a w) (hw:Region.wanted oi (yielded ops a.tmps)=true) (hy:∀w,S w→(execOp a.eval oi).run P w = .ok (.value v) w) (hS:S w)
 (h:∀K':Act→World→Prop,(∀a w,S w→wpOp P ops Q k (fun a w=>S w∧wpAny P md ops Q fuel (((listed.setIfInBounds i true).setIfInBounds j true).setIfInBounds k true) a w) a w→K' a w) →
  if Region.wanted oj (yielded ops (a.put d v).tmps)=true then Oper.wp P oj (a.put d v) w K' Q else K' ((a.put d v).put oj.dst undef) w):wpAny P md ops Q (fuel + 3) listed a w:=by
 subst hd;have hY:YieldsIf P ops S oi v a:=.inl ⟨hw,hy⟩;have H:wpOp P ops Q j (fun a' w'=>S w'∧wpOp P ops Q k (fun a w=>S w∧wpAny P md ops Q fuel (((listed.setIfInBounds i true).setIfInBounds j true).setIfInBounds k true) a w) a' w') (a.put oi.dst v) w :=
  wpOp_step hj fun K' hK'=>h K' fun a w s x=>hK' a w ⟨s,x⟩
 have hsel:=Region.noSelect_spec hs;have ne:∀{l:Array Bool} {k:Nat},(Region.ready md ops l).contains k=true→Region.ready md ops l≠[]:=fun hc e=>by rw [e] at hc;simp at hc
 have hne:i≠j:=by simpa using hij
 have hne2:i≠k:=by simpa using hik
 have hne3:j≠k:=by simpa using hjk
 refine ⟨fun e=>absurd e (ne h0'),fun m hm=>?_⟩;have hm':=List.all_eq_true.1 h0 m hm;simp at hm';rcases hm' with rfl | rfl
 · refine hY.wpOp hi hS ⟨fun e=>absurd e (ne h1'),fun n hn=>?_⟩;have hn':=List.all_eq_true.1 h1 n hn;simp at hn';subst hn';refine wpOp_mono (fun a' w' x=>?_) H;refine ⟨fun e=>absurd e (ne h3'),fun q hq=>?_⟩;have hq':=List.all_eq_true.1 h3 q hq;simp at hq';subst hq';exact wpOp_mono (fun _ _ y=>y.2) x.2
 · refine wpOp_mono ?_ (wpOp_putIf hj hap (fun cs b=>hsel i oi cs b hi) (fun cs b=>hsel m oj cs b hj) hQ hY H);rintro a' w' ⟨hy',hS',h'⟩;refine ⟨fun e=>absurd e (ne h2'),fun n hn=>?_⟩;have hn':=List.all_eq_true.1 h2 n hn;simp at hn';rcases hn' with rfl | rfl
   · refine hy'.wpOp hi hS' ?_;rw [Array.setIfInBounds_comm _ _ (Ne.symm hne)];refine ⟨fun e=>absurd e (ne h3'),fun q hq=>?_⟩;have hq':=List.all_eq_true.1 h3 q hq;simp at hq';subst hq';exact wpOp_mono (fun _ _ y=>y.2) h'
   · refine wpOp_mono ?_ (wpOp_putIf hk hap2 (fun cs b=>hsel i oi cs b hi) (fun cs b=>hsel n ok cs b hk) hQ hy' h');rintro a2 w2 ⟨hy2,hS2,h2x⟩;refine ⟨fun e=>absurd e (ne h4'),fun q hq=>?_⟩;have hq':=List.all_eq_true.1 h4 q hq;simp at hq';subst hq';refine hy2.wpOp hi hS2 ?_;rw [Array.setIfInBounds_comm (i:=n) (j:=q) _ _ (Ne.symm hne2),Array.setIfInBounds_comm (i:=m) (j:=q) _ _ (Ne.symm hne)];exact h2x
def zbs (P:Program) (md:Region.Mode) (ops:Array Oper) (Q:Exit→Act→World→Prop) (S:World→Prop) (z:Nat):Nat→Array Bool→Act→World→Prop
 | 0,l,a,w=>Region.ready md ops l=[]∧Q .normal a w
 | n + 1,l,a,w=>(Region.ready md ops l=[]→Q .normal a w)∧∀i ∈ Region.ready md ops l,wpOp P ops Q i (fun b u=>(i≠z→S u)∧zbs P md ops Q S z n (l.setIfInBounds i true) b u) a w
variable {S:World→Prop} {z:Nat}
theorem zgJ:∀(n:Nat) (l:Array Bool) (a:Act) (w:World),zbs P md ops Q S z n l a w→wpAny P md ops Q n l a w
 | 0,_,_,_,h=>h
 | n + 1,_,_,_,h=>⟨h.1,fun i hi=>wpOp_mono (fun b u k=>zgJ n _ b u k.2) (h.2 i hi)⟩
def zio (md:Region.Mode) (ops:Array Oper) (z i:Nat):Bool:=match ops[z]? with
 | some o=>o.after.any fun e=>Region.binds md e && e.on == i
 | none=>false
theorem ziq {i j:Nat} {l:Array Bool} (h:zio md ops j i=true) (hi:i ∈ Region.ready md ops l):j ∉ Region.ready md ops l:=by
 intro hj;obtain ⟨_,oj,hoj,hall⟩:=mem_ready.1 hj;unfold zio at h;rw [hoj] at h;obtain ⟨k,hk,he⟩:=Array.any_eq_true.1 h;simp only [Bool.and_eq_true,beq_iff_eq] at he;have h1:=hall _ (Array.getElem_mem hk) he.1;have h0:=(mem_ready.1 hi).1;rw [he.2] at h1;rcases Nat.lt_or_ge i l.size with h' | h'
 · simp [h'] at h0 h1;rw [h0] at h1;cases h1
 · simp [Array.getElem?_eq_none h'] at h1
theorem zl9 {i j:Nat} {oj:Oper} {l:Array Bool} (hoj:ops[j]? = some oj) (hi:i ∈ Region.ready md ops l) (hj:j ∈ Region.ready md ops l):∀e ∈ oj.after,Region.binds md e=true→e.on≠i:=by
 intro e he hb heq;refine ziq (i:=i) (j:=j) ?_ hi hj;unfold zio;rw [hoj];obtain ⟨k,hk,hke⟩:=Array.getElem_of_mem he;exact Array.any_eq_true.2 ⟨k,hk,by rw [hke,hb,heq];simp⟩
theorem zis {i:Nat} {oi:Oper} {v:Value} (hi:ops[i]? = some oi) (hz:zio md ops z i=true) (hiz:i≠z) (hs:Region.noSelect ops=true) (hQ:∀c a w,Q (.panic c) (a.put oi.dst v) w→Q (.panic c) a w) :
 ∀(n:Nat) (l:Array Bool) (a:Act) (w:World),(∀j oj,ops[j]? = some oj→j≠i→l.getD j true=false→(∀e ∈ oj.after,Region.binds md e=true→e.on≠i)→oi.apart ops oj=true) →
  i ∈ Region.ready md ops l→YieldsIf P ops S oi v a→S w→zbs P md ops Q S z n (l.setIfInBounds i true) (a.put oi.dst v) w→zbs P md ops Q S z (n + 1) l a w:=by
 have hsel:=Region.noSelect_spec hs;intro n;induction n with
 | zero =>
  intro l a w _ hr hy hS H;refine ⟨fun e=>(by rw [e] at hr;cases hr),fun j hj=>?_⟩;by_cases hji:j=i
  · subst hji;exact hy.wpOp hi hS ⟨fun _=>hS,H⟩
  · have h1:=ready_mono hj hji;rw [H.1] at h1;cases h1
 | succ n ih =>
  intro l a w hfree hr hy hS H;refine ⟨fun e=>(by rw [e] at hr;cases hr),fun j hj=>?_⟩;by_cases hji:j=i
  · subst hji;exact hy.wpOp hi hS ⟨fun _=>hS,H⟩
  · have hjz:j≠z:=fun e=>ziq (e ▸ hz) hr hj;obtain ⟨hjun,oj,hoj,_⟩:=mem_ready.1 hj;have h2:=wpOp_putIf hoj (hfree j oj hoj hji hjun (zl9 hoj hr hj)) (fun cs b=>hsel i oi cs b hi) (fun cs b=>hsel j oj cs b hoj) hQ hy (H.2 j (ready_mono hj hji));refine wpOp_mono (fun b u h3=>⟨fun _=>h3.2.1 hjz,ih (l.setIfInBounds j true) b u (fun k ok hk hki hun hno=>hfree k ok hk hki ?_ hno) (ready_mono hr (Ne.symm hji)) h3.1 (h3.2.1 hjz) ?_⟩) h2
    · by_cases hjk:j=k
      · subst hjk;exact hjun
      · rw [getD_set_ne true hjk] at hun;exact hun
    · rw [Array.setIfInBounds_comm _ _ hji];exact h3.2.2
theorem zbL (S:World→Prop) (z:Nat) {id:Nat} {a:Act} {w:World} (hm:P.follows .mixedOrders=true) (h:zbs P .any ops Q S z ops.size (Array.replicate ops.size false) a (World.drew w)):(Code.region id ops true).wp P Q a w :=
 wp_region_any hm (zgJ _ _ _ _ h)
theorem zad (i:Nat) (d:Option Tmp) {oi:Oper} {v:Value} {n:Nat} {l:Array Bool} {a:Act} {w:World} (hi:ops[i]? = some oi) (hd:oi.dst=d)
 (hz:zio md ops z i=true) (hiz:(i == z)=false) (hs:Region.noSelect ops=true) (hf:Region.free md ops l i=true) (hr:(Region.ready md ops l).contains i=true)
 (hQ:∀c a w,Q (.panic c) (a.put oi.dst v) w→Q (.panic c) a w) (hw:Region.wanted oi (yielded ops a.tmps)=true) (hy:∀w,S w→(execOp a.eval oi).run P w = .ok (.value v) w) (hS:S w)
 (h:zbs P md ops Q S z n (l.setIfInBounds i true) (a.put d v) w):zbs P md ops Q S z (n + 1) l a w:=by
 subst hd;exact zis hi hz (by simpa using hiz) hs hQ n l a w (Region.free_spec hi hf) (by simpa using hr) (.inl ⟨hw,hy⟩) hS h
theorem zaD (i:Nat) {oi:Oper} {n:Nat} {l:Array Bool} {a:Act} {w:World} (hi:ops[i]? = some oi) (hr:Region.ready md ops l=[i])
 (h:∀K':Act→World→Prop,(∀a w,(i≠z→S w)→zbs P md ops Q S z n (l.setIfInBounds i true) a w→K' a w)→if Region.wanted oi (yielded ops a.tmps)=true then Oper.wp P oi a w K' Q else K' (a.put oi.dst undef) w) :
 zbs P md ops Q S z (n + 1) l a w :=
 ⟨fun e=>(by rw [hr] at e;cases e),fun k hk=>by
  rw [hr] at hk;simp at hk;subst hk;exact wpOp_step hi fun K' hK'=>h K' fun a w s x=>hK' a w ⟨s,x⟩⟩
theorem zbq {l:Array Bool} {a:Act} {w:World} (hr:Region.ready md ops l=[]) (h:Q .normal a w):∀n,zbs P md ops Q S z n l a w
 | 0=>⟨hr,h⟩
 | _ + 1=>⟨fun _=>h,by rw [hr];simp⟩
theorem zbI (w:World) {o:Oper} {a:Act} {K:Act→World→Prop} (d:Option Tmp) (hd:o.dst=d) (s x:Operand) (t tx:TypeId)
 (ho:o.op = .call { callee:=.builtin .append,args:=#[s,x],argTypes:=#[t,tx] })
 (base:Nat) (e:TypeId) (i:TypeInfo) (z:Value) (size bytes:Nat) (ht:P.underlying t=some (.slice e)) (hi:P.info? e=some i) (hz:i.zero=some z)
 (hsize:i.size=size) (hby:i.bytes=bytes) (hzs:z.cells.size=size) (hsz:0<size)
 (v:Value) (n:Nat) (xs:List Value) (hv:a.eval s=v) (hown:w.ownsRow base e size v n xs) (y:Value) (m:Nat) (news:List Value) (hx:a.eval x=y) (hs:Src P size tx y m news w)
 (h63:n + m≤maxLen) (hbytes:(n + m) * bytes≤140737488355328) (hbase:base≤w.heap.size)
 (h:∀v' w',w'.ownsRow base e size v' (n + m) (xs ++ news)→w.grownBy w' v.ownBlock→K (a.put d v') w') :
 Oper.wp P o a w K Q:=by
 subst hd;obtain ⟨v',w',hr,h2,h3,h4⟩:=zcD (P:=P) w base t tx o.type e i z size bytes ht hi hz hsize hby hzs hsz v n xs hown y m news hs h63 hbytes hbase;unfold Oper.wp execOp;simp only [ho,resolve,invoke,builtin,Sem.run_bind,Sem.run_pure,Result.andThen_ok,List.map_toArray,List.map_cons,List.map_nil,hv,hx,hr];exact h v' w' h2 h3
end
end Go.Proofs.YtiepddmagfmllaaGreat
