import Derived.Test.YtahegpfdbgbioaaGreatA06
set_option maxRecDepth 100000
set_option maxHeartbeats 4000000
namespace Go.Proofs.YtahegpfdbgbioaaGreat
open Go.RowKit
open Go.RowKit
open Go.RowKit
open Go.RowKit
theorem partT_len {d : Nat} {l r : List Tk} {o : List OpP} (h : partT d l = .ok (o, r)) : r.length < l.length := (eats _).1 _ _ _ _ h
theorem few : ∀ f : Nat, (∀ d l o r, partF f d l = .ok (o, r) → o.length + r.length ≤ l.length) ∧ (∀ d acc l o r, moreF f d acc l = .ok (o, r) → o.length + r.length ≤ acc.length + l.length)
 | 0 => ⟨fun d l o r h => (by unfold partF at h; cases h), fun d acc l o r h => (by unfold moreF at h; cases h)⟩
 | f + 1 => by
  obtain ⟨ih1, ih2⟩ := few f
  constructor
  · intro d l o r h
    unfold partF at h
    split at h
    · rename_i hc
      cases h
      have := isT_len (by show 0 < 4; omega) hc
      rw [List.length_singleton]
      omega
    · split at h
      · rename_i hc
        have h1 := isT_len (sg_size _) hc
        split at h
        · cases h
        · obtain ⟨a, m, e1, h⟩ := andT_inv h
          obtain ⟨a2, m2, e2, h⟩ := andT_inv h
          obtain ⟨a3, m3, e3, h⟩ := andT_inv h
          cases h
          have := ih1 _ _ _ _ e1
          have := ih2 _ _ _ _ _ e2
          have := needT_len (sg_size _) e3
          omega
      · obtain ⟨a, m, e1, h⟩ := andT_inv h
        have h1 := nameT_len e1
        split at h
        · rename_i hc
          have h2 := isT_len (sg_size _) hc
          obtain ⟨a2, m2, e2, h⟩ := andT_inv h
          have := nameT_len e2
          cases h
          rw [List.length_singleton]
          omega
        · cases h
          rw [List.length_singleton]
          omega
  · intro d acc l o r h
    unfold moreF at h
    split at h
    · cases h
      omega
    · rename_i hc
      have h1 := opT_len hc
      obtain ⟨a, m, e1, h⟩ := andT_inv h
      have := ih1 _ _ _ _ e1
      have := ih2 _ _ _ _ _ h
      rw [List.length_append, List.length_append, List.length_singleton] at this
      omega
theorem partT_few {d : Nat} {l r : List Tk} {o : List OpP} (h : partT d l = .ok (o, r)) : o.length + r.length ≤ l.length := (few _).1 _ _ _ _ h
theorem opT_text {l : List Tk} (hf : Fine l) (h : ¬ opT l = 0) : Fine l.tail := by
 rw [← join_op hf] at h
 unfold joinS at h
 by_cases e1 : (hdT l).2.1 = ⟨#[124]⟩
 · exact hf.next (by decide) e1
 by_cases e2 : (hdT l).2.1 = ⟨#[38]⟩
 · exact hf.next (by decide) e2
 by_cases e3 : (hdT l).2.1 = ⟨#[45]⟩
 · exact hf.next (by decide) e3
 rw [if_neg e1, if_neg e2, if_neg e3] at h
 exact absurd rfl h
section
variable {w : World} {g : Nat} {l : List Tk}
theorem rew_upto {N : Nat} (H : PartUpto N) : RewUpto N := by
 intro d l w g hN hd h
 suffices HH : ∀ R, To (Post (VOps w.heap.size) w.heap.size w g (rewT d l)) R → Calls Tryz.prog 233 #[.pointer (some ⟨g, 0, none⟩), .int .i64 d] w R from HH _ fun _ _ h => h
 intro R HP
 have hg := h.size
 have kp := H d l w g hN hd h
 have hmaxl := h.few
 unfold rewT at HP
 go_enter Tryz.func233, Tryz.ntmps233
 go_wp2_with fail
 refine kp.mono ?_
 intro e w1 hp
 obtain ⟨k1, hc⟩ := hp.cases_
 clear hp kp h
 rcases hc with ⟨c, p, hr, rfl⟩ | ⟨o, l1, v, hr, rfl, hv, h1⟩
 · go_wp2_with fail
   exact ⟨rfl, HP.bad hr k1⟩
 replace HP := HP.bind hr
 have hlen := partT_len hr
 have hfew := partT_few hr
 clear hr
 have hfl := h1.few
 go_wp2_with fail
 go_loopw [5] (fun vi wr => ∃ acc l3, VOps w.heap.size wr vi acc ∧ Rdr wr g l3 ∧ Kp g w.heap.size w wr ∧ To (Post (VOps w.heap.size) w.heap.size w g (moreT d acc l3)) R ∧ acc.length + l3.length ≤ l.length ∧ l3.length < l.length) (fun _ wr => left wr g)
 case atStart => exact ⟨o, l1, hv, h1, k1, HP, hfew, hlen⟩
 case round =>
  clear HP hv h1 k1 hlen hfew hfl
  obtain ⟨acc, l3, hv, h3, k3, HP, hl, hl3⟩ := hrel
  obtain ⟨A, c, rfl, _⟩ := Rd.own hv
  have hlf := h3.left
  have f1 := tok_f1
  have hfine := h3.fine
  rw [moreT_eq, ← join_op hfine] at HP
  have hop := fun h => opT_text hfine (by rw [← join_op hfine]; exact h)
  have hol := fun h => opT_len (l := l3) (by rw [← join_op hfine]; exact h)
  have kj : ∀ W, _ := fun W => joins_any (hdT l3).2.1 W
  have kf := first_any h3
  generalize (hdT l3).2.1 = x at *
  by_cases hz : joinS x = 0
  · rw [if_pos hz] at HP
    rw [hz] at kj
    go_wp2_with fail
    refine kf.mono ?_
    rintro e w3 ⟨rfl, hb⟩
    have h4 := h3.below hb
    have k4 := k3.trans ((Kp.of_below hb g).more k3.size)
    have hv4 := own_below hv hb
    clear hb h3 k3 hv kf
    go_wp2_with ((with_reducible refine (kj _).mono ?_); rintro e w' ⟨rfl, rfl⟩)
    exact HP.ret rfl k4 hv4 h4
  · rw [if_neg hz] at HP
    rw [decide_eq_false hz] at kj
    have hf := hop hz
    have hol := hol hz
    go_wp2_with fail
    refine kf.mono ?_
    rintro e w3 ⟨rfl, hb⟩
    have h4 := h3.below hb
    have k4 := k3.trans ((Kp.of_below hb g).more k3.size)
    have hv4 := own_below hv hb
    clear hb h3 k3 hv kf
    go_wp2_with (first
     | ((with_reducible refine (kj _).mono ?_); rintro e w' ⟨rfl, rfl⟩)
     | ((with_reducible refine (pass_any h4 hf).mono ?_); rintro e w4 ⟨rfl, h5, hk⟩))
    have k5 := k4.trans (hk.more k4.size)
    have hv5 := own_kp hv4 hk hg
    clear hk k4 hv4 h4 kj
    refine (H d l3.tail _ g (by omega) hd h5).mono ?_
    intro e w5 hp
    obtain ⟨hk, hc⟩ := hp.cases_
    have k6 := k5.trans (hk.more k5.size)
    have hz5 := k5.size
    have hv6 := own_kp hv5 hk hg
    clear hp hk k5 hv5 h5
    rcases hc with ⟨c, p, hr, rfl⟩ | ⟨o5, l5, v5, hr, rfl, hv7, h6⟩
    · go_wp2_with fail
      exact ⟨rfl, HP.bad hr k6⟩
    replace HP := HP.bind hr
    have hlen := partT_len hr
    have hfew := partT_few hr
    clear hr
    have hlf6 := h6.few
    have hz6 := k6.size
    have hmax : l.length ≤ 1000000 := hmaxl
    obtain ⟨i0, hi0, hz0, hz1, hz2⟩ := info_parts info_op
    obtain ⟨A5, c5, rfl, hrd5⟩ := Rd.own hv7
    have hsrc := hrd5.src Tryz.underlying147 (ocells_one o5)
    clear hrd5
    go_wp2_with (first
     | (at_builtin; refine wpList_append_src _ rfl (.tmp 23) (.tmp 26) 147 147 rfl w.heap.size 166 i0 (.agg #[.int .i64 0, .string .empty, .string .empty]) 3 40 Tryz.underlying147 hi0 hz0 hz1 hz2 rfl (by decide) _ acc.length (ocells acc) rfl hv6 _ o5.length (ocells o5) rfl hsrc (by simp only [maxLen]; omega) (by omega) hz6 ?_; intro v1 w6 hown1 hg1 hat1; obtain ⟨A1, c1, rfl, _⟩ := Rd.own hown1; have k7 := kp_grown0 (v := .slice A acc.length c) k6 hg1 hv6 hz6 (Nat.le_refl _); have h7 := rdr_grown0 (v := .slice A acc.length c) h6 hg1 hv6 hg; have hz7 := k7.size)
     | (at_builtin; refine wpList_append_src _ rfl (.tmp 28) (.tmp 31) 147 147 rfl w.heap.size 166 i0 (.agg #[.int .i64 0, .string .empty, .string .empty]) 3 40 Tryz.underlying147 hi0 hz0 hz1 hz2 rfl (by decide) _ (acc.length + o5.length) (ocells acc ++ ocells o5) rfl (World.ownsRow.alloc hown1 _) _ 1 [.int .i64 (joinS x), .string ⟨#[]⟩, .string ⟨#[]⟩] rfl (Src.ofSlice _ Tryz.underlying147 _ 1 1 _ rfl (cells_new _ _ _ _ _) (ocell_one (joinS x, ⟨#[]⟩, ⟨#[]⟩))) (by simp only [maxLen]; omega) (by omega) (size_alloc hz7) ?_; intro v2 w7 hown2 hg2 hat2; obtain ⟨A2, c2, rfl, _⟩ := Rd.own hown2; have k8 := kp_grown (v := .slice A1 (acc.length + o5.length) c1) k7 hg2 hown1 hz7 (Nat.le_refl _); have h8 := rdr_grown (v := .slice A1 (acc.length + o5.length) c1) h7 hg2 hown1 hg))
    refine ⟨⟨acc ++ o5 ++ [(joinS x, ⟨#[]⟩, ⟨#[]⟩)], l5, ?_, h8, k8, HP, ?_, by omega⟩, ?_⟩
    · unfold VOps
      rw [List.length_append, List.length_append, ocells_app, ocells_app]
      exact hown2
    · rw [List.length_append, List.length_append, List.length_singleton]
      omega
    · rw [h8.left, hlf]
      omega
theorem part_all : ∀ N, PartUpto N ∧ RewUpto N
 | 0 => by
  have h : PartUpto 0 := fun d l w g hl _ h => by
   obtain ⟨t, r, rfl⟩ := h.fine.cons
   simp at hl
  exact ⟨h, rew_upto h⟩
 | N + 1 => by
  have h : PartUpto (N + 1) := part_upto (part_all N).2
  exact ⟨h, rew_upto h⟩
theorem rew_any (d : Nat) (hd : d ≤ 8) (h : Rdr w g l) : Calls Tryz.prog 233 #[.pointer (some ⟨g, 0, none⟩), .int .i64 d] w (Post (VOps w.heap.size) w.heap.size w g (rewT d l)) :=
 (part_all l.length).2 d l w g (Nat.le_refl _) hd h
end
def subT (l : List Tk) : Rs SubP := andT (nameT l) fun n r => andT (if isT (sg 35) r = true then nameT r.tail else .ok (⟨#[]⟩, r)) fun m r => .ok ((n, m), r)
def whoM (acc : List SubP) (l : List Tk) : Rs (List SubP) := if isT (sg 44) l = true then whoT acc l.tail else .ok (acc, l)
theorem whoT_sub (acc : List SubP) (l : List Tk) : whoT acc l = andT (subT l) fun s r => whoM (acc ++ [s]) r := by
 rw [whoT_eq]
 unfold subT
 rw [andT_assoc]
 congr 1
 funext n r
 rw [andT_assoc]
 rfl
theorem subT_len {l r : List Tk} {s : SubP} (h : subT l = .ok (s, r)) : r.length < l.length := by
 obtain ⟨n, m, h1, h2⟩ := andT_inv h
 obtain ⟨a, m2, h3, h4⟩ := andT_inv h2
 have := nameT_len h1
 have := who_len h3
 cases h4
 omega
def atN (l : List Tk) : Bool := decide ((hdT l).1 = 1) && !keyB (hdT l).2.1
def subsT (l : List Tk) : Rs (List SubP) := if atN l = true then whoT [] l else .ok ([], l)
section
variable {w : World} {g : Nat} {l : List Tk}
theorem subs_any (h : Rdr w g l) : Calls Tryz.prog 222 #[.pointer (some ⟨g, 0, none⟩)] w (Post (VSubs w.heap.size) w.heap.size w g (subsT l)) := by
 suffices H : ∀ R, To (Post (VSubs w.heap.size) w.heap.size w g (subsT l)) R → Calls Tryz.prog 222 #[.pointer (some ⟨g, 0, none⟩)] w R from H _ fun _ _ h => h
 intro R HP
 have hg := h.size
 have ka := atName_any h
 rw [show (decide ((hdT l).1 = 1) && !keyB (hdT l).2.1) = atN l from rfl] at ka
 unfold subsT at HP
 cases hn : atN l with
 | false =>
  rw [hn] at ka
  rw [hn, if_neg (by decide)] at HP
  go_enter Tryz.func222, Tryz.ntmps222
  go_wp2_with ((with_reducible refine ka.mono ?_); rintro e w1 ⟨rfl, hb⟩)
  exact HP.ret rfl (Kp.of_below hb g) (World.ownsRow_nil _ _ _ _) (h.below hb)
 | true =>
  rw [hn] at ka
  rw [hn, if_pos rfl, whoT_sub] at HP
  go_enter Tryz.func222, Tryz.ntmps222
  go_wp2_with ((with_reducible refine ka.mono ?_); rintro e w1 ⟨rfl, hb⟩)
  have h1 := h.below hb
  have k1 := Kp.of_below hb g
  clear h hb ka
  refine (sub_any h1).mono ?_
  intro e w2 hp
  obtain ⟨hk, hc⟩ := hp.cases_
  clear hp
  have k2 := k1.trans (hk.more k1.size)
  clear hk k1 h1
  rcases hc with ⟨c, p, hr, rfl⟩ | ⟨s, l2, v, hr, rfl, rfl, h2⟩
  · go_wp2_with fail
    exact ⟨rfl, HP.bad hr k2⟩
  replace HP := HP.bind hr
  clear hr
  go_wp2_with fail
  have hk0 : Kp g w.heap.size w _ := k2.alloc k2.size (.cells #[.string s.1, .string s.2] 126)
  have ho0 : VSubs w.heap.size _ _ ([] ++ [s]) := own_lit w2 #[.string s.1, .string s.2] 126 1 2 w.heap.size rfl (by decide) k2.size
  have hr0 := h2.alloc (.cells #[.string s.1, .string s.2] 126)
  clear k2 h2
  go_loopw [3] (fun vi wr => ∃ acc l3, VSubs w.heap.size wr vi acc ∧ Rdr wr g l3 ∧ Kp g w.heap.size w wr ∧ To (Post (VSubs w.heap.size) w.heap.size w g (whoM acc l3)) R ∧ acc.length + l3.length ≤ 2000000) (fun _ wr => left wr g)
  case atStart => exact ⟨[] ++ [s], l2, ho0, hr0, hk0, HP, by have := hr0.few; simp; omega⟩
  case round =>
   clear HP ho0 hr0 hk0
   obtain ⟨acc, l3, hv, h3, k3, HP, hl⟩ := hrel
   obtain ⟨A, c, rfl, _⟩ := Rd.own hv
   have km := may_any h3 (ask_sg 44 (by decide))
   have hlf := h3.left
   cases hi : isT (sg 44) l3 with
   | false =>
    rw [hi, if_neg (by decide)] at km
    unfold whoM at HP
    rw [hi, if_neg (by decide)] at HP
    go_wp2_with fail
    refine km.mono ?_
    rintro e w3 ⟨rfl, h4, hk⟩
    have k4 := k3.trans (hk.more k3.size)
    have hv4 := own_kp hv hk hg
    clear km hk k3 hv h3
    go_wp2_with fail
    exact HP.ret rfl k4 hv4 h4
   | true =>
    rw [hi, if_pos rfl] at km
    unfold whoM at HP
    rw [hi, if_pos rfl, whoT_sub] at HP
    go_wp2_with fail
    refine km.mono ?_
    rintro e w3 ⟨rfl, h4, hk⟩
    have k4 := k3.trans (hk.more k3.size)
    have hv4 := own_kp hv hk hg
    clear km hk k3 hv h3
    go_wp2_with fail
    refine (sub_any h4).mono ?_
    intro e w4 hp
    obtain ⟨hk, hc⟩ := hp.cases_
    clear hp
    have k5 := k4.trans (hk.more k4.size)
    have hv5 := own_kp hv4 hk hg
    clear hk k4 hv4 h4
    rcases hc with ⟨c, p, hr, rfl⟩ | ⟨s4, l5, v, hr, rfl, rfl, h5⟩
    · go_wp2_with fail
      exact ⟨rfl, HP.bad hr k5⟩
    have hlen := subT_len hr
    replace HP := HP.bind hr
    obtain ⟨i0, hi0, hz0, hz1, hz2⟩ := info_parts info_sub
    have hz5 := k5.size
    have hll : l3.tail.length ≤ l3.length := by rw [List.length_tail]; omega
    clear hr
    go_wp2_with (at_builtin; refine wpList_append_src _ rfl (.tmp 12) (.tmp 15) 120 120 rfl w.heap.size 126 i0 (.agg #[.string .empty, .string .empty]) 2 32 Tryz.underlying120 hi0 hz0 hz1 hz2 rfl (by decide) _ acc.length (scells acc) rfl (World.ownsRow.alloc hv5 _) _ 1 [.string s4.1, .string s4.2] rfl (Src.ofSlice _ Tryz.underlying120 _ 1 1 _ rfl (cells_new2 _ _ _ _) (scell_one s4)) (by simp only [maxLen]; omega) (by omega) (size_alloc hz5) ?_; intro v1 w5 hown1 hg1 hat1; obtain ⟨A1, c1, rfl, _⟩ := Rd.own hown1)
    have hr5 := rdr_grown (v := .slice A acc.length c) h5 hg1 hv5 hg
    refine ⟨⟨acc ++ [s4], l5, ?_, hr5, kp_grown (v := .slice A acc.length c) k5 hg1 hv5 hz5 (Nat.le_refl _), HP, ?_⟩, ?_⟩
    · unfold VSubs
      rw [List.length_append, scells_app]
      exact hown1
    · rw [List.length_append, List.length_singleton]
      omega
    · rw [hr5.left, hlf]
      omega
end
def opsT (l : List Tk) : Rs (List OpP) := if isT sIs l = true then rewT 0 l.tail else .ok ([(1, ⟨#[]⟩, ⟨#[]⟩)], l)
theorem ask_is : Ask sIs := ask_key rfl (by decide)
theorem ask_rel : Ask sRel := ask_key rfl (by decide)
theorem ask_type : Ask sType := ask_key rfl (by decide)
section
variable {w : World} {g : Nat} {l : List Tk}
theorem ops_any (h : Rdr w g l) : Calls Tryz.prog 223 #[.pointer (some ⟨g, 0, none⟩)] w (Post (VOps w.heap.size) w.heap.size w g (opsT l)) := by
 suffices HH : ∀ R, To (Post (VOps w.heap.size) w.heap.size w g (opsT l)) R → Calls Tryz.prog 223 #[.pointer (some ⟨g, 0, none⟩)] w R from HH _ fun _ _ h => h
 intro R HP
 have hg := h.size
 have km := may_any h ask_is
 unfold opsT at HP
 cases hi : isT sIs l with
 | false =>
  rw [hi, if_neg (by decide)] at km
  rw [hi, if_neg (by decide)] at HP
  go_enter Tryz.func223, Tryz.ntmps223
  go_wp2_with fail
  refine km.mono ?_
  rintro e w1 ⟨rfl, h1, hk⟩
  go_wp2_with fail
  exact HP.ret rfl (hk.alloc hk.size _) (own_ops1 _ _ _ _ _ hk.size) (h1.alloc _)
 | true =>
  rw [hi, if_pos rfl] at km
  rw [hi, if_pos rfl] at HP
  go_enter Tryz.func223, Tryz.ntmps223
  go_wp2_with fail
  refine km.mono ?_
  rintro e w1 ⟨rfl, h1, k1⟩
  go_wp2_with fail
  refine (rew_any 0 (by omega) h1).mono ?_
  intro e w2 hp
  obtain ⟨hk, hc⟩ := hp.cases_
  have k2 := k1.trans (hk.more k1.size)
  clear hp hk
  rcases hc with ⟨c, p, hr, rfl⟩ | ⟨o, l2, v, hr, rfl, hv, h2⟩
  · go_wp2_with fail
    exact ⟨rfl, HP.fail hr k2⟩
  go_wp2_with fail
  exact HP.ret hr k2 (own_base hv k1.size) h2
end
theorem subs_same (l : List Tk) (K : List SubP → List OpP → List Tk → Rs RelP) :
 (andT (if isT sIs l = true ∨ isT (sg 59) l = true then .ok ([], l) else whoT [] l) fun w r => andT (opsT r) fun o r => andT (needT (sg 59) r) fun _ r => K w o r) =
 andT (subsT l) fun w r => andT (opsT r) fun o r => andT (needT (sg 59) r) fun _ r => K w o r := by
 unfold subsT
 cases hn : atN l with
 | true =>
  have hn' := hn
  unfold atN at hn'
  simp only [Bool.and_eq_true, decide_eq_true_eq, Bool.not_eq_true'] at hn'
  rw [if_pos rfl, if_neg]
  rintro (h | h)
  · unfold isT at h
    have := (of_decide_eq_true h).1
    rw [this] at hn'
    exact absurd hn'.2 (by decide)
  · unfold isT at h
    rcases (of_decide_eq_true h).2 with h2 | h2
    · omega
    · exact absurd h2 (by decide)
 | false =>
  rw [if_neg (show ¬ (false = true) by decide)]
  by_cases h : isT sIs l = true ∨ isT (sg 59) l = true
  · rw [if_pos h]
  · rw [if_neg h, whoT_eq, name_no hn]
    have h1 : isT sIs l = false := by cases hh : isT sIs l with | true => exact absurd (.inl hh) h | false => rfl
    have h2 : isT (sg 59) l = false := by cases hh : isT (sg 59) l with | true => exact absurd (.inr hh) h | false => rfl
    rw [andT_err, andT_ok]
    unfold opsT
    rw [h1, if_neg (by decide), andT_ok]
    unfold needT
    rw [h2, if_neg (by decide)]
    rfl
def relR (l : List Tk) : Rs RelP :=
 andT (needT sRel l) fun _ r => andT (nameT r) fun n r => andT (needT (sg 40) r) fun _ r => andT (nameT r) fun v r => andT (needT (sg 44) r) fun _ r =>
 andT (nameT r) fun e r => andT (needT (sg 44) r) fun _ r => andT (nameT r) fun c r => andT (needT (sg 41) r) fun _ r =>
 andT (needT (sg 58) r) fun _ r => andT (subsT r) fun w r => andT (opsT r) fun o r => andT (needT (sg 59) r) fun _ r => .ok (⟨n, v, e, c, w, o⟩, r)
theorem relR_eq (l : List Tk) : relR l = andT (needT sRel l) fun _ r => relT r := by
 unfold relR relT
 refine andT_congr rfl fun _ r _ => ?_
 refine andT_congr rfl fun n r _ => ?_
 refine andT_congr rfl fun _ r _ => ?_
 refine andT_congr rfl fun v r _ => ?_
 refine andT_congr rfl fun _ r _ => ?_
 refine andT_congr rfl fun e r _ => ?_
 refine andT_congr rfl fun _ r _ => ?_
 refine andT_congr rfl fun c r _ => ?_
 refine andT_congr rfl fun _ r _ => ?_
 refine andT_congr rfl fun _ r _ => ?_
 exact (subs_same r fun w o r => .ok (⟨n, v, e, c, w, o⟩, r)).symm
def VRel (B : Nat) (w : World) (v : Value) (x : RelP) : Prop := ∃ vs vo, v = .agg #[.string x.name, .string x.view, .string x.edit, .string x.check, vs, vo] ∧ VSubs B w vs x.subs ∧ VOps B w vo x.ops
section
variable {w : World} {g : Nat} {l : List Tk}
theorem Bk.set {w : World} {b : Nat} {cs : Array Value} {t : TypeId} (h : Bk w b cs t) (i : Nat) (v : Value) : Bk (w.setCell ⟨b, i, none⟩ v) b (cs.setIfInBounds i v) t := by
 unfold Bk at *
 simp [World.setCell, Array.getElem?_modify, h]
theorem Bk.other {w : World} {b : Nat} {cs : Array Value} {t : TypeId} (h : Bk w b cs t) {a : Addr} (ha : b ≠ a.block) (v : Value) : Bk (w.setCell a v) b cs t := (Below.heap_setCell _ _ _ _ ha).trans h
theorem own_set {w : World} {base : Nat} {e : TypeId} {size n : Nat} {v : Value} {xs : List Value} (h : w.ownsRow base e size v n xs) {a : Addr} (ha : a.block < base) (u : Value) : (w.setCell a u).ownsRow base e size v n xs :=
 own_same h fun k hk => Below.heap_setCell _ _ _ _ (by have := (h.lt k hk).1; omega)
theorem relation_any (h : Rdr w g l) : Calls Tryz.prog 197 #[.pointer (some ⟨g, 0, none⟩)] w (Post (VRel w.heap.size) w.heap.size w g (relR l)) := by
 suffices HH : ∀ R, To (Post (VRel w.heap.size) w.heap.size w g (relR l)) R → Calls Tryz.prog 197 #[.pointer (some ⟨g, 0, none⟩)] w R from HH _ fun _ _ h => h
 intro R HP
 have hg := h.size
 unfold relR at HP
 go_enter Tryz.func197, Tryz.ntmps197
 go_wp2_with fail
 have hb0 := (Bk.new w #[.string ⟨#[]⟩, .string ⟨#[]⟩, .string ⟨#[]⟩, .string ⟨#[]⟩, .slice none 0 0, .slice none 0 0] 149).alloc (.cells #[.string ⟨#[]⟩, .string ⟨#[]⟩, .string ⟨#[]⟩, .string ⟨#[]⟩, .slice none 0 0, .slice none 0 0] 149)
 have hb1 : Bk ((w.alloc (.cells #[.string ⟨#[]⟩, .string ⟨#[]⟩, .string ⟨#[]⟩, .string ⟨#[]⟩, .slice none 0 0, .slice none 0 0] 149)).alloc (.cells #[.string ⟨#[]⟩, .string ⟨#[]⟩, .string ⟨#[]⟩, .string ⟨#[]⟩, .slice none 0 0, .slice none 0 0] 149)) (w.heap.size + 1) #[.string ⟨#[]⟩, .string ⟨#[]⟩, .string ⟨#[]⟩, .string ⟨#[]⟩, .slice none 0 0, .slice none 0 0] 149 := by have := Bk.new (w.alloc (.cells #[.string ⟨#[]⟩, .string ⟨#[]⟩, .string ⟨#[]⟩, .string ⟨#[]⟩, .slice none 0 0, .slice none 0 0] 149)) #[.string ⟨#[]⟩, .string ⟨#[]⟩, .string ⟨#[]⟩, .string ⟨#[]⟩, .slice none 0 0, .slice none 0 0] 149; rwa [World.size_alloc] at this
 have hR := (h.alloc (.cells #[.string ⟨#[]⟩, .string ⟨#[]⟩, .string ⟨#[]⟩, .string ⟨#[]⟩, .slice none 0 0, .slice none 0 0] 149)).alloc (.cells #[.string ⟨#[]⟩, .string ⟨#[]⟩, .string ⟨#[]⟩, .string ⟨#[]⟩, .slice none 0 0, .slice none 0 0] 149)
 have hK : Kp g w.heap.size w _ := ((Kp.refl g _ w).alloc (Nat.le_refl _) (.cells #[.string ⟨#[]⟩, .string ⟨#[]⟩, .string ⟨#[]⟩, .string ⟨#[]⟩, .slice none 0 0, .slice none 0 0] 149)).alloc (size_alloc (Nat.le_refl _)) (.cells #[.string ⟨#[]⟩, .string ⟨#[]⟩, .string ⟨#[]⟩, .string ⟨#[]⟩, .slice none 0 0, .slice none 0 0] 149)
 clear h
 generalize (w.alloc (.cells #[.string ⟨#[]⟩, .string ⟨#[]⟩, .string ⟨#[]⟩, .string ⟨#[]⟩, .slice none 0 0, .slice none 0 0] 149)).alloc (.cells #[.string ⟨#[]⟩, .string ⟨#[]⟩, .string ⟨#[]⟩, .string ⟨#[]⟩, .slice none 0 0, .slice none 0 0] 149) = W at *
 generalize w.heap.size = B at *
 refine (must_any hR ask_rel).mono ?_
 intro e W1 hp
 obtain ⟨hk, hc⟩ := hp.cases_
 have hz := Nat.le_of_lt hb0.lt
 have hlt := hb1.lt
 replace hK := hK.trans (hk.more hz)
 replace hb0 := hb0.kp hk (by omega)
 replace hb1 := hb1.kp hk (by omega)
 clear hp hk hR
 rcases hc with ⟨c, p, hr, rfl⟩ | ⟨_, l1, v, hr, rfl, hv, hR⟩
 · go_wp2_with fail
   exact ⟨rfl, HP.bad hr hK⟩
 replace HP := HP.bind hr
 clear hr
 obtain rfl := hv
 clear hz hlt
 go_wp2_with fail
 refine (rname_any hR).mono ?_
 intro e W1 hp
 obtain ⟨hk, hc⟩ := hp.cases_
 have hz := Nat.le_of_lt hb0.lt
 have hlt := hb1.lt
 replace hK := hK.trans (hk.more hz)
 replace hb0 := hb0.kp hk (by omega)
 replace hb1 := hb1.kp hk (by omega)
 clear hp hk hR
 rcases hc with ⟨c, p, hr, rfl⟩ | ⟨n, l1, v, hr, rfl, hv, hR⟩
 · go_wp2_with fail
   exact ⟨rfl, HP.bad hr hK⟩
 replace HP := HP.bind hr
 clear hr
 obtain rfl := hv
 have hx : W1.cell? ⟨B + 1, 0, none⟩ = some (.string ⟨#[]⟩) := hb1.cell 0
 have fx := hb1.fz
 go_wp2_with fail
 replace hR := hR.set (a := ⟨B + 1, 0, none⟩) (by show g < B + 1; omega) (.string n)
 replace hK := hK.set (a := ⟨B + 1, 0, none⟩) (by show B ≤ B + 1; omega) (.string n)
 replace hb0 := hb0.other (a := ⟨B + 1, 0, none⟩) (by show B ≠ B + 1; omega) (.string n)
 replace hb1 : Bk _ (B + 1) #[.string n, .string ⟨#[]⟩, .string ⟨#[]⟩, .string ⟨#[]⟩, .slice none 0 0, .slice none 0 0] 149 := hb1.set 0 (.string n)
 clear hx fx hlt hz
 generalize W1.setCell ⟨B + 1, 0, none⟩ (.string n) = W2 at *
 refine (must_any hR (ask_sg 40 (by decide))).mono ?_
 intro e W1 hp
 obtain ⟨hk, hc⟩ := hp.cases_
 have hz := Nat.le_of_lt hb0.lt
 have hlt := hb1.lt
 replace hK := hK.trans (hk.more hz)
 replace hb0 := hb0.kp hk (by omega)
 replace hb1 := hb1.kp hk (by omega)
 clear hp hk hR
 rcases hc with ⟨c, p, hr, rfl⟩ | ⟨_, l1, v, hr, rfl, hv, hR⟩
 · go_wp2_with fail
   exact ⟨rfl, HP.bad hr hK⟩
 replace HP := HP.bind hr
 clear hr
 obtain rfl := hv
 clear hz hlt
 go_wp2_with fail
 refine (rname_any hR).mono ?_
 intro e W1 hp
 obtain ⟨hk, hc⟩ := hp.cases_
 have hz := Nat.le_of_lt hb0.lt
 have hlt := hb1.lt
 replace hK := hK.trans (hk.more hz)
 replace hb0 := hb0.kp hk (by omega)
 replace hb1 := hb1.kp hk (by omega)
 clear hp hk hR
 rcases hc with ⟨c, p, hr, rfl⟩ | ⟨vi, l1, v, hr, rfl, hv, hR⟩
 · go_wp2_with fail
   exact ⟨rfl, HP.bad hr hK⟩
 replace HP := HP.bind hr
 clear hr
 obtain rfl := hv
 have hx : W1.cell? ⟨B + 1, 1, none⟩ = some (.string ⟨#[]⟩) := hb1.cell 1
 have fx := hb1.fz
 go_wp2_with fail
 replace hR := hR.set (a := ⟨B + 1, 1, none⟩) (by show g < B + 1; omega) (.string vi)
 replace hK := hK.set (a := ⟨B + 1, 1, none⟩) (by show B ≤ B + 1; omega) (.string vi)
 replace hb0 := hb0.other (a := ⟨B + 1, 1, none⟩) (by show B ≠ B + 1; omega) (.string vi)
 replace hb1 : Bk _ (B + 1) #[.string n, .string vi, .string ⟨#[]⟩, .string ⟨#[]⟩, .slice none 0 0, .slice none 0 0] 149 := hb1.set 1 (.string vi)
 clear hx fx hlt hz
 generalize W1.setCell ⟨B + 1, 1, none⟩ (.string vi) = W2 at *
 refine (must_any hR (ask_sg 44 (by decide))).mono ?_
 intro e W1 hp
 obtain ⟨hk, hc⟩ := hp.cases_
 have hz := Nat.le_of_lt hb0.lt
 have hlt := hb1.lt
 replace hK := hK.trans (hk.more hz)
 replace hb0 := hb0.kp hk (by omega)
 replace hb1 := hb1.kp hk (by omega)
 clear hp hk hR
 rcases hc with ⟨c, p, hr, rfl⟩ | ⟨_, l1, v, hr, rfl, hv, hR⟩
 · go_wp2_with fail
   exact ⟨rfl, HP.bad hr hK⟩
 replace HP := HP.bind hr
 clear hr
 obtain rfl := hv
 clear hz hlt
 go_wp2_with fail
 refine (rname_any hR).mono ?_
 intro e W1 hp
 obtain ⟨hk, hc⟩ := hp.cases_
 have hz := Nat.le_of_lt hb0.lt
 have hlt := hb1.lt
 replace hK := hK.trans (hk.more hz)
 replace hb0 := hb0.kp hk (by omega)
 replace hb1 := hb1.kp hk (by omega)
 clear hp hk hR
 rcases hc with ⟨c, p, hr, rfl⟩ | ⟨ed, l1, v, hr, rfl, hv, hR⟩
 · go_wp2_with fail
   exact ⟨rfl, HP.bad hr hK⟩
 replace HP := HP.bind hr
 clear hr
 obtain rfl := hv
 have hx : W1.cell? ⟨B + 1, 2, none⟩ = some (.string ⟨#[]⟩) := hb1.cell 2
 have fx := hb1.fz
 go_wp2_with fail
 replace hR := hR.set (a := ⟨B + 1, 2, none⟩) (by show g < B + 1; omega) (.string ed)
 replace hK := hK.set (a := ⟨B + 1, 2, none⟩) (by show B ≤ B + 1; omega) (.string ed)
 replace hb0 := hb0.other (a := ⟨B + 1, 2, none⟩) (by show B ≠ B + 1; omega) (.string ed)
 replace hb1 : Bk _ (B + 1) #[.string n, .string vi, .string ed, .string ⟨#[]⟩, .slice none 0 0, .slice none 0 0] 149 := hb1.set 2 (.string ed)
 clear hx fx hlt hz
 generalize W1.setCell ⟨B + 1, 2, none⟩ (.string ed) = W2 at *
 refine (must_any hR (ask_sg 44 (by decide))).mono ?_
 intro e W1 hp
 obtain ⟨hk, hc⟩ := hp.cases_
 have hz := Nat.le_of_lt hb0.lt
 have hlt := hb1.lt
 replace hK := hK.trans (hk.more hz)
 replace hb0 := hb0.kp hk (by omega)
 replace hb1 := hb1.kp hk (by omega)
 clear hp hk hR
 rcases hc with ⟨c, p, hr, rfl⟩ | ⟨_, l1, v, hr, rfl, hv, hR⟩
 · go_wp2_with fail
   exact ⟨rfl, HP.bad hr hK⟩
 replace HP := HP.bind hr
 clear hr
 obtain rfl := hv
 clear hz hlt
 go_wp2_with fail
 refine (rname_any hR).mono ?_
 intro e W1 hp
 obtain ⟨hk, hc⟩ := hp.cases_
 have hz := Nat.le_of_lt hb0.lt
 have hlt := hb1.lt
 replace hK := hK.trans (hk.more hz)
 replace hb0 := hb0.kp hk (by omega)
 replace hb1 := hb1.kp hk (by omega)
 clear hp hk hR
 rcases hc with ⟨c, p, hr, rfl⟩ | ⟨ck, l1, v, hr, rfl, hv, hR⟩
 · go_wp2_with fail
   exact ⟨rfl, HP.bad hr hK⟩
 replace HP := HP.bind hr
 clear hr
 obtain rfl := hv
 have hx : W1.cell? ⟨B + 1, 3, none⟩ = some (.string ⟨#[]⟩) := hb1.cell 3
 have fx := hb1.fz
 go_wp2_with fail
 replace hR := hR.set (a := ⟨B + 1, 3, none⟩) (by show g < B + 1; omega) (.string ck)
 replace hK := hK.set (a := ⟨B + 1, 3, none⟩) (by show B ≤ B + 1; omega) (.string ck)
 replace hb0 := hb0.other (a := ⟨B + 1, 3, none⟩) (by show B ≠ B + 1; omega) (.string ck)
 replace hb1 : Bk _ (B + 1) #[.string n, .string vi, .string ed, .string ck, .slice none 0 0, .slice none 0 0] 149 := hb1.set 3 (.string ck)
 clear hx fx hlt hz
 generalize W1.setCell ⟨B + 1, 3, none⟩ (.string ck) = W2 at *
 refine (must_any hR (ask_sg 41 (by decide))).mono ?_
 intro e W1 hp
 obtain ⟨hk, hc⟩ := hp.cases_
 have hz := Nat.le_of_lt hb0.lt
 have hlt := hb1.lt
 replace hK := hK.trans (hk.more hz)
 replace hb0 := hb0.kp hk (by omega)
 replace hb1 := hb1.kp hk (by omega)
 clear hp hk hR
 rcases hc with ⟨c, p, hr, rfl⟩ | ⟨_, l1, v, hr, rfl, hv, hR⟩
 · go_wp2_with fail
   exact ⟨rfl, HP.bad hr hK⟩
 replace HP := HP.bind hr
 clear hr
 obtain rfl := hv
 clear hz hlt
 go_wp2_with fail
 refine (must_any hR (ask_sg 58 (by decide))).mono ?_
 intro e W1 hp
 obtain ⟨hk, hc⟩ := hp.cases_
 have hz := Nat.le_of_lt hb0.lt
 have hlt := hb1.lt
 replace hK := hK.trans (hk.more hz)
 replace hb0 := hb0.kp hk (by omega)
 replace hb1 := hb1.kp hk (by omega)
 clear hp hk hR
 rcases hc with ⟨c, p, hr, rfl⟩ | ⟨_, l1, v, hr, rfl, hv, hR⟩
 · go_wp2_with fail
   exact ⟨rfl, HP.bad hr hK⟩
 replace HP := HP.bind hr
 clear hr
 obtain rfl := hv
 clear hz hlt
 go_wp2_with fail
 refine (subs_any hR).mono ?_
 intro e W1 hp
 obtain ⟨hk, hc⟩ := hp.cases_
 have hz := Nat.le_of_lt hb0.lt
 have hlt := hb1.lt
 replace hK := hK.trans (hk.more hz)
 replace hb0 := hb0.kp hk (by omega)
 replace hb1 := hb1.kp hk (by omega)
 clear hp hk hR
 rcases hc with ⟨c, p, hr, rfl⟩ | ⟨ws, l1, v, hr, rfl, hv, hR⟩
 · go_wp2_with fail
   exact ⟨rfl, HP.bad hr hK⟩
 replace HP := HP.bind hr
 clear hr
 have hvs : VSubs (B + 2) _ v ws := own_base hv (by omega)
 obtain ⟨As, cS, rfl, _⟩ := Rd.own hvs
 clear hv
 have hx : W1.cell? ⟨B + 1, 4, none⟩ = some (.slice none 0 0) := hb1.cell 4
 have fx := hb1.fz
 go_wp2_with fail
 replace hR := hR.set (a := ⟨B + 1, 4, none⟩) (by show g < B + 1; omega) (.slice As ws.length cS)
 replace hK := hK.set (a := ⟨B + 1, 4, none⟩) (by show B ≤ B + 1; omega) (.slice As ws.length cS)
 replace hb0 := hb0.other (a := ⟨B + 1, 4, none⟩) (by show B ≠ B + 1; omega) (.slice As ws.length cS)
 replace hb1 : Bk _ (B + 1) #[.string n, .string vi, .string ed, .string ck, .slice As ws.length cS, .slice none 0 0] 149 := hb1.set 4 (.slice As ws.length cS)
 replace hvs := own_set hvs (a := ⟨B + 1, 4, none⟩) (by show B + 1 < B + 2; omega) (.slice As ws.length cS)
 clear hx fx hlt hz
 generalize W1.setCell ⟨B + 1, 4, none⟩ (.slice As ws.length cS) = W2 at *
 refine (ops_any hR).mono ?_
 intro e W1 hp
 obtain ⟨hk, hc⟩ := hp.cases_
 have hz := Nat.le_of_lt hb0.lt
 have hlt := hb1.lt
 replace hK := hK.trans (hk.more hz)
 replace hb0 := hb0.kp hk (by omega)
 replace hb1 := hb1.kp hk (by omega)
 replace hvs := own_kp hvs hk (by omega)
 clear hp hk hR
 rcases hc with ⟨c, p, hr, rfl⟩ | ⟨os, l1, v, hr, rfl, hv, hR⟩
 · go_wp2_with fail
   exact ⟨rfl, HP.bad hr hK⟩
 replace HP := HP.bind hr
 clear hr
 have hvo : VOps (B + 2) _ v os := own_base hv (by omega)
 obtain ⟨Ao, cO, rfl, _⟩ := Rd.own hvo
 clear hv
 have hx : W1.cell? ⟨B + 1, 5, none⟩ = some (.slice none 0 0) := hb1.cell 5
 have fx := hb1.fz
 go_wp2_with fail
 replace hR := hR.set (a := ⟨B + 1, 5, none⟩) (by show g < B + 1; omega) (.slice Ao os.length cO)
 replace hK := hK.set (a := ⟨B + 1, 5, none⟩) (by show B ≤ B + 1; omega) (.slice Ao os.length cO)
 replace hb0 := hb0.other (a := ⟨B + 1, 5, none⟩) (by show B ≠ B + 1; omega) (.slice Ao os.length cO)
 replace hb1 : Bk _ (B + 1) #[.string n, .string vi, .string ed, .string ck, .slice As ws.length cS, .slice Ao os.length cO] 149 := hb1.set 5 (.slice Ao os.length cO)
 replace hvs := own_set hvs (a := ⟨B + 1, 5, none⟩) (by show B + 1 < B + 2; omega) (.slice Ao os.length cO)
 replace hvo := own_set hvo (a := ⟨B + 1, 5, none⟩) (by show B + 1 < B + 2; omega) (.slice Ao os.length cO)
 clear hx fx hlt hz
 generalize W1.setCell ⟨B + 1, 5, none⟩ (.slice Ao os.length cO) = W2 at *
 refine (must_any hR (ask_sg 59 (by decide))).mono ?_
 intro e W1 hp
 obtain ⟨hk, hc⟩ := hp.cases_
 have hz := Nat.le_of_lt hb0.lt
 have hlt := hb1.lt
 replace hK := hK.trans (hk.more hz)
 replace hb0 := hb0.kp hk (by omega)
 replace hb1 := hb1.kp hk (by omega)
 replace hvs := own_kp hvs hk (by omega)
 replace hvo := own_kp hvo hk (by omega)
 clear hp hk hR
 rcases hc with ⟨c, p, hr, rfl⟩ | ⟨_, l1, v, hr, rfl, hv, hR⟩
 · go_wp2_with fail
   exact ⟨rfl, HP.bad hr hK⟩
 replace HP := HP.bind hr
 clear hr
 obtain rfl := hv
 have x0 : W1.cell? ⟨B + 1, 0, none⟩ = some (.string n) := hb1.cell 0
 have y0 : W1.cell? ⟨B, 0, none⟩ = some (.string ⟨#[]⟩) := hb0.cell 0
 have x1 : W1.cell? ⟨B + 1, 1, none⟩ = some (.string vi) := hb1.cell 1
 have y1 : W1.cell? ⟨B, 1, none⟩ = some (.string ⟨#[]⟩) := hb0.cell 1
 have x2 : W1.cell? ⟨B + 1, 2, none⟩ = some (.string ed) := hb1.cell 2
 have y2 : W1.cell? ⟨B, 2, none⟩ = some (.string ⟨#[]⟩) := hb0.cell 2
 have x3 : W1.cell? ⟨B + 1, 3, none⟩ = some (.string ck) := hb1.cell 3
 have y3 : W1.cell? ⟨B, 3, none⟩ = some (.string ⟨#[]⟩) := hb0.cell 3
 have x4 : W1.cell? ⟨B + 1, 4, none⟩ = some (.slice As ws.length cS) := hb1.cell 4
 have y4 : W1.cell? ⟨B, 4, none⟩ = some (.slice none 0 0) := hb0.cell 4
 have x5 : W1.cell? ⟨B + 1, 5, none⟩ = some (.slice Ao os.length cO) := hb1.cell 5
 have y5 : W1.cell? ⟨B, 5, none⟩ = some (.slice none 0 0) := hb0.cell 5
 have fy := hb0.fz
 have hne : ¬ B + 1 = B := by omega
 have hne2 : ¬ B = B + 1 := by omega
 go_wp2_with fail
 refine bodyPost_ret (v := .agg #[.string n, .string vi, .string ed, .string ck, .slice As ws.length cS, .slice Ao os.length cO]) (by simp [results, Tryz.results197, go_sem, y0, y1, y2, y3, y4, y5]; try rfl) rfl ?_
 refine HP.ret rfl ?_ ⟨_, _, rfl, ?_, ?_⟩ ?_
 · refine Kp.set (Kp.set (Kp.set (Kp.set (Kp.set (Kp.set hK ?_ _) ?_ _) ?_ _) ?_ _) ?_ _) ?_ _ <;> exact Nat.le_refl _
 · refine own_base (own_set (own_set (own_set (own_set (own_set (own_set hvs ?_ _) ?_ _) ?_ _) ?_ _) ?_ _) ?_ _) (show B ≤ B + 2 by omega) <;> (show B < B + 2; omega)
 · refine own_base (own_set (own_set (own_set (own_set (own_set (own_set hvo ?_ _) ?_ _) ?_ _) ?_ _) ?_ _) ?_ _) (show B ≤ B + 2 by omega) <;> (show B < B + 2; omega)
 · refine Rdr.set (Rdr.set (Rdr.set (Rdr.set (Rdr.set (Rdr.set hR ?_ _) ?_ _) ?_ _) ?_ _) ?_ _) ?_ _ <;> exact hg
end
end Go.Proofs.YtahegpfdbgbioaaGreat
namespace Go.Proofs.YtahegpfdbgbioaaGreat
open Go.RowKit
def RelC (w : World) (B : Nat) (ys : List Value) (x : RelP) : Prop := ∃ vs vo, ys = [.string x.name, .string x.view, .string x.edit, .string x.check, vs, vo] ∧ VSubs B w vs x.subs ∧ VOps B w vo x.ops
def RelsC (w : World) (B : Nat) : List RelP → List Value → Prop
 | [], xs => xs = []
 | x :: r, xs => ∃ ys zs, xs = ys ++ zs ∧ RelC w B ys x ∧ RelsC w B r zs
def Keeps (w w' : World) (B : Nat) : Prop := (∀ v n xs, w.ownsRow B 126 2 v n xs → w'.ownsRow B 126 2 v n xs) ∧ (∀ v n xs, w.ownsRow B 166 3 v n xs → w'.ownsRow B 166 3 v n xs)
theorem RelC.keep {w w' : World} {B : Nat} {ys : List Value} {x : RelP} (h : RelC w B ys x) (hk : Keeps w w' B) : RelC w' B ys x := by
 obtain ⟨vs, vo, e, h1, h2⟩ := h
 exact ⟨vs, vo, e, hk.1 _ _ _ h1, hk.2 _ _ _ h2⟩
theorem RelsC.keep {w w' : World} {B : Nat} (hk : Keeps w w' B) : ∀ {l : List RelP} {xs : List Value}, RelsC w B l xs → RelsC w' B l xs
 | [], _, h => h
 | _ :: _, _, h => by
  obtain ⟨ys, zs, e, h1, h2⟩ := h
  exact ⟨ys, zs, e, h1.keep hk, RelsC.keep hk h2⟩
theorem RelsC.snoc {w : World} {B : Nat} {y : RelP} {ws : List Value} (hy : RelC w B ws y) : ∀ {l : List RelP} {xs : List Value}, RelsC w B l xs → RelsC w B (l ++ [y]) (xs ++ ws)
 | [], xs, h => by
  have : xs = [] := h
  subst this
  exact ⟨ws, [], by simp, hy, rfl⟩
 | x :: r, xs, h => by
  obtain ⟨ys, zs, e, h1, h2⟩ := h
  exact ⟨ys, zs ++ ws, by rw [e, List.append_assoc], h1, RelsC.snoc hy h2⟩
def VRels (B : Nat) (w : World) (v : Value) (l : List RelP) : Prop := ∃ xs, w.ownsRow B 149 6 v l.length xs ∧ RelsC w B l xs
def VTyp (B : Nat) (w : World) (v : Value) (t : TypP) : Prop := ∃ vr, v = .agg #[.string t.name, vr] ∧ VRels B w vr t.rels
theorem own_grown {w w' : World} {B B2 : Nat} {e e2 : TypeId} {s s2 n n2 : Nat} {u v : Value} {xs ys : List Value} (h : w.ownsRow B e s v n xs) (hu : w.ownsRow B2 e2 s2 u n2 ys) (hne : e ≠ e2) (hg : w.grownBy w' u.ownBlock) : w'.ownsRow B e s v n xs := by
 refine own_same h fun k hk => hg.block k (h.lt k hk).2 fun hk2 => ?_
 rcases h.2 with ⟨rfl, _⟩ | ⟨g, cap, cur, rfl, _, hh, _⟩
 · simp [Value.ownBlock] at hk
 rcases hu.2 with ⟨rfl, _⟩ | ⟨g2, cap2, cur2, rfl, _, hh2, _⟩
 · simp [Value.ownBlock] at hk2
 simp only [Value.ownBlock, Option.some.injEq] at hk hk2
 subst hk
 subst hk2
 rw [hh] at hh2
 injection hh2 with hh2
 injection hh2 with _ h3 _
 exact hne h3
theorem keeps_kp {g B : Nat} {w w' : World} (hk : Kp g w.heap.size w w') (hg : g < B) : Keeps w w' B := ⟨fun _ _ _ h => own_kp h hk hg, fun _ _ _ h => own_kp h hk hg⟩
theorem keeps_set {B : Nat} {w : World} {a : Addr} (ha : a.block < B) (u : Value) : Keeps w (w.setCell a u) B := ⟨fun _ _ _ h => own_set h ha u, fun _ _ _ h => own_set h ha u⟩
theorem keeps_grown {w w' : World} {B B2 : Nat} {e2 : TypeId} {s2 n2 : Nat} {u : Value} {ys : List Value} {o : Obj} (hu : w.ownsRow B2 e2 s2 u n2 ys) (h1 : 126 ≠ e2) (h2 : 166 ≠ e2) (hg : (w.alloc o).grownBy w' u.ownBlock) : Keeps w w' B :=
 ⟨fun _ _ _ h => own_grown (World.ownsRow.alloc h o) (World.ownsRow.alloc hu o) h1 hg, fun _ _ _ h => own_grown (World.ownsRow.alloc h o) (World.ownsRow.alloc hu o) h2 hg⟩
theorem Keeps.base {w : World} {B B' : Nat} (h : B' ≤ B) {l : List RelP} {xs : List Value} : RelsC w B l xs → RelsC w B' l xs := by
 intro hr
 induction l generalizing xs with
 | nil => exact hr
 | cons x r ih =>
  obtain ⟨ys, zs, e, ⟨vs, vo, e2, h1, h2⟩, h3⟩ := hr
  exact ⟨ys, zs, e, ⟨vs, vo, e2, own_base h1 h, own_base h2 h⟩, ih h3⟩
theorem Kp.drew {g B : Nat} {w w' : World} (h : Kp g B w w') : Kp g B w w'.drew := h.trans ⟨rfl, rfl, rfl, Nat.le_refl _, fun _ _ _ => rfl⟩
theorem own_drew {w : World} {B : Nat} {e : TypeId} {s n : Nat} {v : Value} {xs : List Value} (h : w.ownsRow B e s v n xs) : w.drew.ownsRow B e s v n xs := own_same h fun _ _ => rfl
theorem keeps_drew (w : World) (B : Nat) : Keeps w w.drew B := ⟨fun _ _ _ h => own_drew h, fun _ _ _ h => own_drew h⟩
theorem rcell_one (a b c d : ByteArray) (p q : Option Addr) (m n r s : Nat) : ∀ u ∈ [Value.string a, .string b, .string c, .string d, .slice p m r, .slice q n s], u.oneCell' = true := by
 intro u hu
 simp only [List.mem_cons, List.not_mem_nil, or_false] at hu
 rcases hu with rfl | rfl | rfl | rfl | rfl | rfl <;> rfl
theorem Bk.grown {w w' : World} {b base : Nat} {cs : Array Value} {t : TypeId} {e : TypeId} {size n : Nat} {v : Value} {xs : List Value} {o : Obj} (h : Bk w b cs t) (hg : (w.alloc o).grownBy w' v.ownBlock) (hown : w.ownsRow base e size v n xs) (hle : b < base) : Bk w' b cs t := by
 have := h.lt
 refine (hg.block b (by simp; omega) fun e => ?_).trans (h.alloc o)
 have := (hown.lt b e.symm).1
 omega
theorem info_rel : (Tryz.prog.info? 149).map (fun i => (i.zero, i.size, i.bytes)) = some (some (.agg #[.string .empty, .string .empty, .string .empty, .string .empty, .slice none 0 0, .slice none 0 0]), 6, 112) := by kernel_rfl
theorem info_typ : (Tryz.prog.info? 146).map (fun i => (i.zero, i.size, i.bytes)) = some (some (.agg #[.string .empty, .slice none 0 0]), 2, 40) := by kernel_rfl
theorem cells_new6 (w : World) (a b c d e f : Value) (t : TypeId) : ∀ j u, [a, b, c, d, e, f][j]? = some u → (w.alloc (.cells #[a, b, c, d, e, f] t)).cell? ((⟨w.heap.size, 0, none⟩ : Addr).add j) = some u := by
 intro j u hj
 rw [Addr.add_lit, cell_of_row _ _ _ _ _ _ (heap_alloc_new w _), Nat.zero_add]
 simpa using hj
def relsX (acc : List RelP) (l : List Tk) : Rs (List RelP) := andT (relsT acc l) fun rs r => andT (needT (sg 125) r) fun _ r => .ok (rs, r)
theorem isT_text {s : ByteArray} {l : List Tk} (h : isT s l = true) : (hdT l).2.1 = s := (of_decide_eq_true h).1
theorem isT_two {s s' : ByteArray} {l : List Tk} (h : isT s l = true) (hne : s ≠ s') : isT s' l = false := by
 cases h2 : isT s' l with
 | false => rfl
 | true => exact absurd ((isT_text h).symm.trans (isT_text h2)) hne
theorem relsX_end {acc : List RelP} {l : List Tk} (h : isT (sg 125) l = true) : relsX acc l = .ok (acc, l.tail) := by
 unfold relsX
 rw [relsT_eq, isT_two h (by decide), if_neg (by decide), andT_ok]
 unfold needT
 rw [if_pos h]
 rfl
theorem relsX_more {acc : List RelP} {l : List Tk} (h : isT (sg 125) l = false) : relsX acc l = andT (relR l) fun x r => relsX (acc ++ [x]) r := by
 rw [relR_eq]
 unfold relsX
 rw [relsT_eq]
 cases hr : isT sRel l with
 | true =>
  rw [if_pos rfl]
  unfold needT
  rw [hr, if_pos rfl, andT_ok, andT_assoc]
 | false =>
  rw [if_neg (by decide), andT_ok]
  unfold needT
  rw [h, hr, if_neg (by decide)]
  rfl
theorem relR_len {l r : List Tk} {x : RelP} (h : relR l = .ok (x, r)) : r.length < l.length := by
 rw [relR_eq] at h
 obtain ⟨a, m, h1, h2⟩ := andT_inv h
 have := needT_len sRel_size h1
 have := (relF_fuel (f := m.length + 1) (l := m) (by omega)).2 _ _ h2
 omega
def typT (l : List Tk) : Rs TypP := andT (needT sType l) fun _ r => andT (nameT r) fun n r => andT (needT (sg 123) r) fun _ r => andT (relsX [] r) fun rs r => .ok (⟨n, rs⟩, r)
section
variable {w : World} {g : Nat} {l : List Tk}
theorem typ_any (h : Rdr w g l) : Calls Tryz.prog 169 #[.pointer (some ⟨g, 0, none⟩)] w (Post (VTyp w.heap.size) w.heap.size w g (typT l)) := by
 suffices HH : ∀ R, To (Post (VTyp w.heap.size) w.heap.size w g (typT l)) R → Calls Tryz.prog 169 #[.pointer (some ⟨g, 0, none⟩)] w R from HH _ fun _ _ h => h
 intro R HP
 have hg := h.size
 unfold typT at HP
 go_enter Tryz.func169, Tryz.ntmps169
 go_wp2_with fail
 have hb0 := Bk.new w #[.string ⟨#[]⟩, .slice none 0 0] 146
 have hR := h.alloc (.cells #[.string ⟨#[]⟩, .slice none 0 0] 146)
 have hK : Kp g w.heap.size w _ := (Kp.refl g _ w).alloc (Nat.le_refl _) (.cells #[.string ⟨#[]⟩, .slice none 0 0] 146)
 clear h
 generalize w.alloc (.cells #[.string ⟨#[]⟩, .slice none 0 0] 146) = W at *
 generalize w.heap.size = B at *
 refine (must_any hR ask_type).mono ?_
 intro e W1 hp
 obtain ⟨hk, hc⟩ := hp.cases_
 have hz := Nat.le_of_lt hb0.lt
 replace hK := hK.trans (hk.more hz)
 replace hb0 := hb0.kp hk (by omega)
 clear hp hk hR hz
 rcases hc with ⟨c, p, hr, rfl⟩ | ⟨_, l1, v, hr, rfl, rfl, hR⟩
 · go_wp2_with fail
   exact ⟨rfl, HP.bad hr hK⟩
 replace HP := HP.bind hr
 clear hr
 go_wp2_with fail
 refine (rname_any hR).mono ?_
 intro e W2 hp
 obtain ⟨hk, hc⟩ := hp.cases_
 have hz := Nat.le_of_lt hb0.lt
 replace hK := hK.trans (hk.more hz)
 replace hb0 := hb0.kp hk (by omega)
 clear hp hk hR hz
 rcases hc with ⟨c, p, hr, rfl⟩ | ⟨n, l2, v, hr, rfl, rfl, hR⟩
 · go_wp2_with fail
   exact ⟨rfl, HP.bad hr hK⟩
 replace HP := HP.bind hr
 clear hr
 go_wp2_with fail
 have hBT := hb0.lt
 have hz := Nat.le_of_lt hBT
 have hb1 := Bk.new W2 #[.string n, .slice none 0 0] 146
 replace hb0 := hb0.alloc (.cells #[.string n, .slice none 0 0] 146)
 replace hR := hR.alloc (.cells #[.string n, .slice none 0 0] 146)
 replace hK := hK.alloc hz (.cells #[.string n, .slice none 0 0] 146)
 clear hz
 generalize W2.alloc (.cells #[.string n, .slice none 0 0] 146) = W3 at *
 generalize W2.heap.size = BT at *
 refine (must_any hR (ask_sg 123 (by decide))).mono ?_
 intro e W4 hp
 obtain ⟨hk, hc⟩ := hp.cases_
 have hz := Nat.le_of_lt hb0.lt
 replace hK := hK.trans (hk.more hz)
 replace hb0 := hb0.kp hk (by omega)
 replace hb1 := hb1.kp hk (by omega)
 clear hp hk hR hz
 rcases hc with ⟨c, p, hr, rfl⟩ | ⟨_, l3, v, hr, rfl, rfl, hR⟩
 · go_wp2_with fail
   exact ⟨rfl, HP.bad hr hK⟩
 replace HP := HP.bind hr
 clear hr
 go_wp2_with fail
 go_loopw [] (fun wr => ∃ acc l4 vr, Bk wr BT #[.string n, vr] 146 ∧ VRels (BT + 1) wr vr acc ∧ Rdr wr g l4 ∧ Kp g B w wr ∧ Bk wr B #[.string ⟨#[]⟩, .slice none 0 0] 146 ∧ To (Post (VTyp B) B w g (andT (relsX acc l4) fun rs r => .ok (⟨n, rs⟩, r))) R ∧ acc.length + l4.length ≤ 2000000) (fun wr => left wr g)
 case atStart => exact ⟨[], l3, _, hb1, ⟨[], World.ownsRow_nil _ _ _ _, rfl⟩, hR, hK, hb0, HP, by have := hR.few; simp; omega⟩
 case round =>
  clear HP hb0 hb1 hR hK
  obtain ⟨acc, l4, vr, hb1, hv, hR, hK, hb0, HP, hl⟩ := hrel
  have hlf := hR.left
  have km := may_any hR (ask_sg 125 (by decide))
  cases hi : isT (sg 125) l4 with
  | true =>
   rw [hi, if_pos rfl] at km
   rw [relsX_end hi, andT_ok] at HP
   go_wp2_with fail
   refine km.mono ?_
   rintro e W5 ⟨rfl, hR5, hk⟩
   have hz := Nat.le_of_lt hb0.lt
   replace hK := hK.trans (hk.more hz)
   replace hb0 := hb0.kp hk (by omega)
   replace hb1 := hb1.kp hk (by omega)
   obtain ⟨xs, hv1, hv2⟩ := hv
   replace hv2 := hv2.keep (keeps_kp hk (by omega))
   replace hv1 := own_kp hv1 hk (by omega)
   clear hk hR km hz
   obtain ⟨A, c, rfl, _⟩ := Rd.own hv1
   obtain ⟨x0, x1⟩ := hb1.c2
   obtain ⟨y0, y1⟩ := hb0.c2
   have fy := hb0.fz
   have hne : ¬ BT = B := by omega
   have hne2 : ¬ B = BT := by omega
   go_wp2_with fail
   refine bodyPost_ret (v := .agg #[.string n, .slice A acc.length c]) (by simp [results, Tryz.results169, go_sem, y0, y1]; try rfl) rfl ?_
   refine HP.ret rfl ?_ ⟨_, rfl, xs, ?_, ?_⟩ ?_
   · refine Kp.set (Kp.set hK ?_ _) ?_ _ <;> exact Nat.le_refl _
   · exact own_base (own_set (own_set hv1 (show B < BT + 1 by omega) _) (show B < BT + 1 by omega) _) (show B ≤ BT + 1 by omega)
   · exact Keeps.base (show B ≤ BT + 1 by omega) ((hv2.keep (keeps_set (show B < BT + 1 by omega) _)).keep (keeps_set (show B < BT + 1 by omega) _))
   · refine Rdr.set (Rdr.set hR5 ?_ _) ?_ _ <;> exact hg
  | false =>
   rw [hi, if_neg (by decide)] at km
   rw [relsX_more hi, andT_assoc] at HP
   go_wp2_with fail
   refine km.mono ?_
   rintro e W5 ⟨rfl, hR5, hk⟩
   have hz := Nat.le_of_lt hb0.lt
   replace hK := hK.trans (hk.more hz)
   replace hb0 := hb0.kp hk (by omega)
   replace hb1 := hb1.kp hk (by omega)
   obtain ⟨xs, hv1, hv2⟩ := hv
   replace hv2 := hv2.keep (keeps_kp hk (by omega))
   replace hv1 := own_kp hv1 hk (by omega)
   clear hk hR km hz
   obtain ⟨A, c, rfl, _⟩ := Rd.own hv1
   go_wp2_with fail
   replace hR5 := hR5.drew
   replace hK := hK.drew
   replace hb0 : Bk W5.drew _ _ _ := hb0
   replace hb1 : Bk W5.drew _ _ _ := hb1
   replace hv2 := hv2.keep (keeps_drew W5 (BT + 1))
   replace hv1 := own_drew hv1
   refine wp_region_any (by kernel_rfl) ?_
   change wpAny _ _ _ _ _ _ _ (World.drew _)
   generalize W5.drew = W6 at *
   refine ro_take 0 (some 14) (v := ?v0) rfl rfl (by kernel_rfl) (by kernel_rfl) (by kernel_rfl) (fun _ _ _ h => h) (by rfl) ?y0 ?r0
   case y0 => (intro w; go_simp; try with_reducible rfl)
   simp only [Act.put, List.setIfInBounds_toArray, List.set_cons_zero, List.set_cons_succ]
   refine ro_take 2 (some 16) (v := ?v2) rfl rfl (by kernel_rfl) (by kernel_rfl) (by kernel_rfl) (fun _ _ _ h => h) (by rfl) ?y2 ?r2
   case y2 => (intro w; go_simp; try with_reducible rfl)
   simp only [Act.put, List.setIfInBounds_toArray, List.set_cons_zero, List.set_cons_succ]
   refine ro_swap3 1 3 4 (some 15) (fun W => W.cell? ⟨BT, 1, none⟩ = some (.slice A acc.length c)) (v := ?v1) rfl rfl rfl rfl (by kernel_rfl) (by kernel_rfl) (by kernel_rfl) (by decide) (by decide) (by decide) (by kernel_rfl) (by kernel_rfl) (by kernel_rfl) (by kernel_rfl) (by kernel_rfl) (by kernel_rfl) (by kernel_rfl) (by kernel_rfl) (by kernel_rfl) (by kernel_rfl) (fun _ _ _ h => h) (by rfl) ?y1 (hb1.cell 1) ?r1
   case y1 => (intro w hS; (try dsimp only at hS); go_simp; try with_reducible rfl)
   simp only [Act.put, List.setIfInBounds_toArray, List.set_cons_zero, List.set_cons_succ]
   intro K hK'
   go_simp
   refine (relation_any hR5).mono ?_
   intro e W7 hp
   obtain ⟨hk, hc⟩ := hp.cases_
   have hz := Nat.le_of_lt hb0.lt
   have hlt := hb1.lt
   replace hK := hK.trans (hk.more hz)
   replace hb0 := hb0.kp hk (by omega)
   replace hb1 := hb1.kp hk (by omega)
   replace hv2 := hv2.keep (keeps_kp hk (by omega))
   replace hv1 := own_kp hv1 hk (by omega)
   clear hp hk hR5 hz
   rcases hc with ⟨c, p, hr, rfl⟩ | ⟨x, l5, v, hr, rfl, ⟨vs, vo, rfl, hs1, hs2⟩, hR⟩
   · go_wp2_with fail
     exact ⟨rfl, HP.bad hr hK⟩
   replace HP := HP.bind hr
   have hlen := relR_len hr
   clear hr
   have hs1' : VSubs (BT + 1) W7 vs x.subs := own_base hs1 (by omega)
   have hs2' : VOps (BT + 1) W7 vo x.ops := own_base hs2 (by omega)
   obtain ⟨As, cS, rfl, _⟩ := Rd.own hs1'
   obtain ⟨Ao, cO, rfl, _⟩ := Rd.own hs2'
   clear hs1 hs2
   refine hK' _ _ (hb1.cell 1) ?_
   clear hK' K
   refine wpOp_step rfl fun K2 hK2 => ?_
   go_simp
   refine hK2 _ _ ⟨cell_alloc (hb1.cell 1) _, ?_⟩
   clear hK2 K2
   have hz7 : BT + 1 ≤ W7.heap.size := hb1.lt
   obtain ⟨i0, hi0, hz0, hz1, hz2⟩ := info_parts info_rel
   have hlf6 := hR.few
   refine wpAny_ready (rs := [5]) (by kernel_rfl) (by simp) ?_
   refine AllReady.cons rfl (fun K hK' => ?_) AllReady.nil
   rw [if_pos (by rfl)]
   refine op_append_src _ (some 19) rfl (.tmp 15) (.tmp 18) 144 144 rfl (BT + 1) 149 i0 (.agg #[.string .empty, .string .empty, .string .empty, .string .empty, .slice none 0 0, .slice none 0 0]) 6 112 Tryz.underlying144 hi0 hz0 hz1 hz2 rfl (by decide) (.slice A acc.length c) acc.length xs rfl (World.ownsRow.alloc hv1 _) _ 1 [.string x.name, .string x.view, .string x.edit, .string x.check, .slice As x.subs.length cS, .slice Ao x.ops.length cO] rfl (Src.ofSlice _ Tryz.underlying144 _ 1 1 _ rfl (cells_new6 _ _ _ _ _ _ _ _) (rcell_one _ _ _ _ _ _ _ _ _ _)) (by simp only [maxLen]; omega) (by omega) (size_alloc hz7) ?_
   intro v8 W8 hown8 hg8
   refine hK' _ _ ?_
   clear hK' K
   simp only [Act.put, List.setIfInBounds_toArray, List.set_cons_zero, List.set_cons_succ]
   have hR8 := rdr_grown (v := .slice A acc.length c) hR hg8 hv1 (by omega)
   have hK8 := kp_grown (v := .slice A acc.length c) hK hg8 hv1 (Nat.le_of_lt hb0.lt) (by omega)
   have hb08 := hb0.grown (v := .slice A acc.length c) hg8 hv1 (by omega)
   have hb18 := hb1.grown (v := .slice A acc.length c) hg8 hv1 (by omega)
   have hkp := keeps_grown (B := BT + 1) (u := .slice A acc.length c) hv1 (by decide) (by decide) hg8
   have hv28 := RelsC.snoc (y := x) ⟨_, _, rfl, hkp.1 _ _ _ hs1', hkp.2 _ _ _ hs2'⟩ (hv2.keep hkp)
   clear hg8 hkp hv2 hv1 hs1' hs2' hb0 hb1 hK hR
   obtain ⟨A8, c8, rfl, _⟩ := Rd.own hown8
   refine ro_take 6 (some 20) (v := ?v6) rfl rfl (by kernel_rfl) (by kernel_rfl) (by kernel_rfl) (fun _ _ _ h => h) (by rfl) ?y6 ?r6
   case y6 => (intro w; go_simp; try with_reducible rfl)
   simp only [Act.put, List.setIfInBounds_toArray, List.set_cons_zero, List.set_cons_succ]
   obtain ⟨x0, x1⟩ := hb18.c2
   have fx := hb18.fz
   refine wpAny_ready (rs := [7]) (by kernel_rfl) (by simp) ?_
   refine AllReady.cons rfl (fun K hK' => ?_) AllReady.nil
   go_simp
   refine hK' _ _ ?_
   clear hK' K
   refine wpAny_done (by kernel_rfl) ?_ _
   have hR9 := hR8.set (a := ⟨BT, 1, none⟩) (show g < BT by omega) (.slice A8 (acc.length + 1) c8)
   have hK9 := hK8.set (a := ⟨BT, 1, none⟩) (show B ≤ BT by omega) (.slice A8 (acc.length + 1) c8)
   have hb09 := hb08.other (a := ⟨BT, 1, none⟩) (show B ≠ BT by omega) (.slice A8 (acc.length + 1) c8)
   have hb19 : Bk _ BT #[.string n, .slice A8 (acc.length + 1) c8] 146 := hb18.set 1 (.slice A8 (acc.length + 1) c8)
   have hv29 := hv28.keep (keeps_set (a := ⟨BT, 1, none⟩) (show BT < BT + 1 by omega) (.slice A8 (acc.length + 1) c8))
   have hv19 := own_set (a := ⟨BT, 1, none⟩) hown8 (show BT < BT + 1 by omega) (.slice A8 (acc.length + 1) c8)
   clear hR8 hK8 hb08 hb18 hv28 hown8 x0 x1 fx
   generalize W8.setCell ⟨BT, 1, none⟩ (.slice A8 (acc.length + 1) c8) = W9 at *
   go_wp2_with fail
   refine ⟨⟨acc ++ [x], l5, _, hb19, ⟨_, ?_, hv29⟩, hR9, hK9, hb09, HP, ?_⟩, ?_⟩
   · rw [List.length_append]
     exact hv19
   · rw [List.length_append, List.length_singleton]
     omega
   · rw [hR9.left, hlf]
     exact hlen
end
end Go.Proofs.YtahegpfdbgbioaaGreat
