/- Layer 7: a rewrite, read, whatever stands there. Conditions: none. -/
import Derived.Test.YtinfbimfiaegdaaPart
namespace Go.Proofs.Ytinfbimfiaegdaa
open Go.RowKit

theorem partT_len {d : Nat} {l r : List Tk} {o : List OpP} (h : partT d l = .ok (o, r)) : r.length < l.length := (eats _).1 _ _ _ _ h
/-- No more operations than tokens that were passed. -/
theorem few : ∀ f : Nat, (∀ d l o r, partF f d l = .ok (o, r) → o.length + r.length ≤ l.length) ∧ (∀ d acc l o r, moreF f d acc l = .ok (o, r) → o.length + r.length ≤ acc.length + l.length)
  | 0 => ⟨fun d l o r h => (by unfold partF at h; cases h), fun d acc l o r h => (by unfold moreF at h; cases h)⟩
  | f + 1 => by
    obtain ⟨ih1, ih2⟩ := few f
    constructor
    · intro d l o r h
      unfold partF at h
      split at h
      · rename_i hc
        cases h
        have := isT_len (by show 0 < 4; omega) hc
        rw [List.length_singleton]
        omega
      · split at h
        · rename_i hc
          have h1 := isT_len (sg_size _) hc
          split at h
          · cases h
          · obtain ⟨a, m, e1, h⟩ := andT_inv h
            obtain ⟨a2, m2, e2, h⟩ := andT_inv h
            obtain ⟨a3, m3, e3, h⟩ := andT_inv h
            cases h
            have := ih1 _ _ _ _ e1
            have := ih2 _ _ _ _ _ e2
            have := needT_len (sg_size _) e3
            omega
        · obtain ⟨a, m, e1, h⟩ := andT_inv h
          have h1 := nameT_len e1
          split at h
          · rename_i hc
            have h2 := isT_len (sg_size _) hc
            obtain ⟨a2, m2, e2, h⟩ := andT_inv h
            have := nameT_len e2
            cases h
            rw [List.length_singleton]
            omega
          · cases h
            rw [List.length_singleton]
            omega
    · intro d acc l o r h
      unfold moreF at h
      split at h
      · cases h
        omega
      · rename_i hc
        have h1 := opT_len hc
        obtain ⟨a, m, e1, h⟩ := andT_inv h
        have := ih1 _ _ _ _ e1
        have := ih2 _ _ _ _ _ h
        rw [List.length_append, List.length_append, List.length_singleton] at this
        omega
theorem partT_few {d : Nat} {l r : List Tk} {o : List OpP} (h : partT d l = .ok (o, r)) : o.length + r.length ≤ l.length := (few _).1 _ _ _ _ h
theorem opT_text {l : List Tk} (hf : Fine l) (h : ¬ opT l = 0) : Fine l.tail := by
  rw [← join_op hf] at h
  unfold joinS at h
  by_cases e1 : (hdT l).2.1 = ⟨#[124]⟩
  · exact hf.next (by decide) e1
  by_cases e2 : (hdT l).2.1 = ⟨#[38]⟩
  · exact hf.next (by decide) e2
  by_cases e3 : (hdT l).2.1 = ⟨#[45]⟩
  · exact hf.next (by decide) e3
  rw [if_neg e1, if_neg e2, if_neg e3] at h
  exact absurd rfl h
section
variable {w : World} {g : Nat} {l : List Tk}
set_option maxRecDepth 100000 in
set_option maxHeartbeats 1000000 in
theorem rew_upto {N : Nat} (H : PartUpto N) : RewUpto N := by
  intro d l w g hN hd h
  suffices HH : ∀ R, To (Post (VOps w.heap.size) w.heap.size w g (rewT d l)) R → Calls Try.prog 94 #[.pointer (some ⟨g, 0, none⟩), .int .i64 d] w R from HH _ fun _ _ h => h
  intro R HP
  have hg := h.size
  have kp := H d l w g hN hd h
  have hmaxl := h.few
  unfold rewT at HP
  go_enter Try.func94, Try.ntmps94
  go_wp2_with fail
  refine kp.mono ?_
  intro e w1 hp
  obtain ⟨k1, hc⟩ := hp.cases_
  clear hp kp h
  rcases hc with ⟨c, p, hr, rfl⟩ | ⟨o, l1, v, hr, rfl, hv, h1⟩
  · go_wp2_with fail
    exact ⟨rfl, HP.bad hr k1⟩
  replace HP := HP.bind hr
  have hlen := partT_len hr
  have hfew := partT_few hr
  clear hr
  have hfl := h1.few
  go_wp2_with fail
  go_loopw [5] (fun vi wr => ∃ acc l3, VOps w.heap.size wr vi acc ∧ Rdr wr g l3 ∧ Kp g w.heap.size w wr ∧ To (Post (VOps w.heap.size) w.heap.size w g (moreT d acc l3)) R ∧ acc.length + l3.length ≤ l.length ∧ l3.length < l.length) (fun _ wr => left wr g)
  case atStart => exact ⟨o, l1, hv, h1, k1, HP, hfew, hlen⟩
  case round =>
    clear HP hv h1 k1 hlen hfew hfl
    obtain ⟨acc, l3, hv, h3, k3, HP, hl, hl3⟩ := hrel
    obtain ⟨A, c, rfl, _⟩ := Rd.own hv
    have hlf := h3.left
    have f1 := tok_f1
    have hfine := h3.fine
    rw [moreT_eq, ← join_op hfine] at HP
    have hop := fun h => opT_text hfine (by rw [← join_op hfine]; exact h)
    have hol := fun h => opT_len (l := l3) (by rw [← join_op hfine]; exact h)
    have kj : ∀ W, _ := fun W => joins_any (hdT l3).2.1 W
    have kf := first_any h3
    generalize (hdT l3).2.1 = x at *
    by_cases hz : joinS x = 0
    · rw [if_pos hz] at HP
      rw [hz] at kj
      go_wp2_with fail
      refine kf.mono ?_
      rintro e w3 ⟨rfl, hb⟩
      have h4 := h3.below hb
      have k4 := k3.trans ((Kp.of_below hb g).more k3.size)
      have hv4 := own_below hv hb
      clear hb h3 k3 hv kf
      go_wp2_with ((with_reducible refine (kj _).mono ?_); rintro e w' ⟨rfl, rfl⟩)
      exact HP.ret rfl k4 hv4 h4
    · rw [if_neg hz] at HP
      rw [decide_eq_false hz] at kj
      have hf := hop hz
      have hol := hol hz
      go_wp2_with fail
      refine kf.mono ?_
      rintro e w3 ⟨rfl, hb⟩
      have h4 := h3.below hb
      have k4 := k3.trans ((Kp.of_below hb g).more k3.size)
      have hv4 := own_below hv hb
      clear hb h3 k3 hv kf
      go_wp2_with (first
        | ((with_reducible refine (kj _).mono ?_); rintro e w' ⟨rfl, rfl⟩)
        | ((with_reducible refine (pass_any h4 hf).mono ?_); rintro e w4 ⟨rfl, h5, hk⟩))
      have k5 := k4.trans (hk.more k4.size)
      have hv5 := own_kp hv4 hk hg
      clear hk k4 hv4 h4 kj
      refine (H d l3.tail _ g (by omega) hd h5).mono ?_
      intro e w5 hp
      obtain ⟨hk, hc⟩ := hp.cases_
      have k6 := k5.trans (hk.more k5.size)
      have hz5 := k5.size
      have hv6 := own_kp hv5 hk hg
      clear hp hk k5 hv5 h5
      rcases hc with ⟨c, p, hr, rfl⟩ | ⟨o5, l5, v5, hr, rfl, hv7, h6⟩
      · go_wp2_with fail
        exact ⟨rfl, HP.bad hr k6⟩
      replace HP := HP.bind hr
      have hlen := partT_len hr
      have hfew := partT_few hr
      clear hr
      have hlf6 := h6.few
      have hz6 := k6.size
      have hmax : l.length ≤ 1000000 := hmaxl
      obtain ⟨i0, hi0, hz0, hz1, hz2⟩ := info_parts info_op
      obtain ⟨A5, c5, rfl, hrd5⟩ := Rd.own hv7
      have hsrc := hrd5.src Try.underlying61 (ocells_one o5)
      clear hrd5
      go_wp2_with (first
        | (at_builtin; refine wpList_append_src _ rfl (.tmp 23) (.tmp 26) 61 61 rfl w.heap.size 67 i0 (.agg #[.int .i64 0, .string .empty, .string .empty]) 3 40 Try.underlying61 hi0 hz0 hz1 hz2 rfl (by decide) _ acc.length (ocells acc) rfl hv6 _ o5.length (ocells o5) rfl hsrc (by simp only [maxLen]; omega) (by omega) hz6 ?_; intro v1 w6 hown1 hg1 hat1; obtain ⟨A1, c1, rfl, _⟩ := Rd.own hown1; have k7 := kp_grown0 (v := .slice A acc.length c) k6 hg1 hv6 hz6 (Nat.le_refl _); have h7 := rdr_grown0 (v := .slice A acc.length c) h6 hg1 hv6 hg; have hz7 := k7.size)
        | (at_builtin; refine wpList_append_src _ rfl (.tmp 28) (.tmp 31) 61 61 rfl w.heap.size 67 i0 (.agg #[.int .i64 0, .string .empty, .string .empty]) 3 40 Try.underlying61 hi0 hz0 hz1 hz2 rfl (by decide) _ (acc.length + o5.length) (ocells acc ++ ocells o5) rfl (World.ownsRow.alloc hown1 _) _ 1 [.int .i64 (joinS x), .string ⟨#[]⟩, .string ⟨#[]⟩] rfl (Src.ofSlice _ Try.underlying61 _ 1 1 _ rfl (cells_new _ _ _ _ _) (ocell_one (joinS x, ⟨#[]⟩, ⟨#[]⟩))) (by simp only [maxLen]; omega) (by omega) (size_alloc hz7) ?_; intro v2 w7 hown2 hg2 hat2; obtain ⟨A2, c2, rfl, _⟩ := Rd.own hown2; have k8 := kp_grown (v := .slice A1 (acc.length + o5.length) c1) k7 hg2 hown1 hz7 (Nat.le_refl _); have h8 := rdr_grown (v := .slice A1 (acc.length + o5.length) c1) h7 hg2 hown1 hg))
      refine ⟨⟨acc ++ o5 ++ [(joinS x, ⟨#[]⟩, ⟨#[]⟩)], l5, ?_, h8, k8, HP, ?_, by omega⟩, ?_⟩
      · unfold VOps
        rw [List.length_append, List.length_append, ocells_app, ocells_app]
        exact hown2
      · rw [List.length_append, List.length_append, List.length_singleton]
        omega
      · rw [h8.left, hlf]
        omega
theorem part_all : ∀ N, PartUpto N ∧ RewUpto N
  | 0 => by
    have h : PartUpto 0 := fun d l w g hl _ h => by
      obtain ⟨t, r, rfl⟩ := h.fine.cons
      simp at hl
    exact ⟨h, rew_upto h⟩
  | N + 1 => by
    have h : PartUpto (N + 1) := part_upto (part_all N).2
    exact ⟨h, rew_upto h⟩
theorem rew_any (d : Nat) (hd : d ≤ 8) (h : Rdr w g l) : Calls Try.prog 94 #[.pointer (some ⟨g, 0, none⟩), .int .i64 d] w (Post (VOps w.heap.size) w.heap.size w g (rewT d l)) :=
  (part_all l.length).2 d l w g (Nat.le_refl _) hd h
end
end Go.Proofs.Ytinfbimfiaegdaa
