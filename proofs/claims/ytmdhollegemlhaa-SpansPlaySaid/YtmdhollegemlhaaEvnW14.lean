/- Layer 14: Events: gathered in a range over all spans, then sorted. Conditions: no more than 100 spans. -/
import Derived.Test.YtmdhollegemlhaaCntW14
import Derived.Test.YtmdhollegemlhaaSrtW14
namespace Go.Proofs.Ytmdhollegemlhaa
open Go.RowKit Go.Shelf
attribute [local go_sem] Oper.semAt_some

theorem info_event : (Try.prog.info? 49).map (fun i => (i.zero, i.size, i.bytes)) = some (some (.agg #[.int .i64 0, .string ⟨#[]⟩, .bool false]), 3, 32) := by kernel_rfl
theorem evsP_len (l : List Sp) (a b : Int) : (l.flatMap fun x => evsP x a b).length ≤ 2 * l.length := by
  induction l with
  | nil => exact Nat.le_refl _
  | cons x l ih =>
    rw [List.flatMap_cons, List.length_append, List.length_cons]
    have : (evsP x a b).length ≤ 2 := by
      unfold evsP
      rw [List.length_append]
      split <;> split <;> simp
    omega
/-- What the rounds of Events keep: E is what was gathered. -/
structure EvI (w : World) (a b : Int) (E : List Ev) (W : World) : Prop where
  lo : Rk W w.heap.size #[.int .i64 a] 3
  hi : Rk W (w.heap.size + 1) #[.int .i64 b] 3
  out : ∃ v, Rk W (w.heap.size + 1 + 1) #[v] 44 ∧ W.ownsRow w.heap.size 49 3 v E.length (ecs E)
  below : Below w.heap.size w W
theorem own_stay14 {X Y : World} {B : Nat} {e : TypeId} {s n : Nat} {v : Value} {xs : List Value} {row : Option Nat} (h : X.ownsRow B e s v n xs) (hg : X.grownBy Y row) (hr : ∀ r, row = some r → ∃ o : Obj, X.heap[r]? = some o ∧ o.isCells = false) : Y.ownsRow B e s v n xs :=
  own_keep h fun g hg2 => hg.block g (h.lt g hg2).2 fun e' => by
    obtain ⟨o, ho, hc⟩ := hr g e'.symm
    rcases h.2 with ⟨rfl, _⟩ | ⟨g2, cap2, cur2, rfl, _, hh2, _⟩
    · simp [Value.ownBlock] at hg2
    simp only [Value.ownBlock, Option.some.injEq] at hg2
    subst hg2
    rw [hh2] at ho
    cases ho
    cases hc
theorem EvI.stay {w X Y : World} {a b : Int} {E : List Ev} {row : Option Nat} (h : EvI w a b E X) (hg : X.grownBy Y row) (hr : ∀ j, row = some j → w.heap.size ≤ j ∧ ∃ o : Obj, X.heap[j]? = some o ∧ o.isCells = false) : EvI w a b E Y := by
  have hs := fun j e => (hr j e).2
  obtain ⟨v, h1, h2⟩ := h.out
  exact ⟨h.lo.stay hg hs, h.hi.stay hg hs, ⟨v, h1.stay hg hs, own_stay14 h2 hg hs⟩, h.below.grown hg h.below.size fun j e => (hr j e).1⟩
theorem own_isCells {w : World} {B e s n : Nat} {v : Value} {xs : List Value} (h : w.ownsRow B e s v n xs) {j : Nat} (hj : v.ownBlock = some j) : ∃ o : Obj, w.heap[j]? = some o ∧ o.isCells = true := by
  rcases h.2 with ⟨rfl, _⟩ | ⟨g2, cap2, cur2, rfl, _, hh2, _⟩
  · simp [Value.ownBlock] at hj
  simp only [Value.ownBlock, Option.some.injEq] at hj
  subst hj
  exact ⟨_, hh2, rfl⟩
/-- One event more: appended, and the row's head stored. -/
theorem EvI.push {w W w5 : World} {a b : Int} {E : List Ev} {v v9 : Value} {e : Ev} {o : Obj} {M : Nat} {F X : Nat → Prop} (h : EvI w a b E W) (h1 : Rk W (w.heap.size + 1 + 1) #[v] 44) (h2 : W.ownsRow w.heap.size 49 3 v E.length (ecs E))
    (hg : (W.alloc o).grownBy w5 v.ownBlock) (h5 : w5.ownsRow w.heap.size 49 3 v9 (E.length + 1) (ecs E ++ ecl e)) (hF : ∀ j, F j → j < w.heap.size) :
    EvI w a b (E ++ [e]) (w5.setCell ⟨w.heap.size + 1 + 1, 0, none⟩ v9) ∧ Kz M F X W (w5.setCell ⟨w.heap.size + 1 + 1, 0, none⟩ v9) ∧ (∀ (gx : Nat) (cs : Array Value) (t : TypeId), Rk W gx cs t → t ≠ 49 → gx ≠ w.heap.size + 1 + 1 → Rk (w5.setCell ⟨w.heap.size + 1 + 1, 0, none⟩ v9) gx cs t) ∧ Rk w5 (w.heap.size + 1 + 1) #[v] 44 ∧ Rk (w5.setCell ⟨w.heap.size + 1 + 1, 0, none⟩ v9) (w.heap.size + 1 + 1) #[v9] 44 ∧ (w5.setCell ⟨w.heap.size + 1 + 1, 0, none⟩ v9).ownsRow w.heap.size 49 3 v9 (E ++ [e]).length (ecs (E ++ [e])) := by
  have h2a := h2.alloc o
  have hk : ∀ (gx : Nat) (cs : Array Value) (t : TypeId), Rk W gx cs t → t ≠ 49 → Rk w5 gx cs t := fun gx cs t hx ht => (hx.alloc o).same (hg.block gx (hx.alloc o).lt fun e => (hx.alloc o).apart h2a ht e.symm)
  have hk2 : ∀ (gx : Nat) (cs : Array Value) (t : TypeId), Rk W gx cs t → t ≠ 49 → gx ≠ w.heap.size + 1 + 1 → Rk (w5.setCell ⟨w.heap.size + 1 + 1, 0, none⟩ v9) gx cs t := fun gx cs t hx ht hne => (hk gx cs t hx ht).other hne _
  have hb5 := hk _ _ _ h1 (by decide)
  have hFW : ∀ j, F j → j < W.heap.size := fun j hj => Nat.lt_of_lt_of_le (hF j hj) h.below.size
  have hFA : ∀ j, F j → j < (W.alloc o).heap.size := fun j hj => by have := hFW j hj; simp; omega
  have hF5 : ∀ j, F j → j < w5.heap.size := fun j hj => Nat.lt_of_lt_of_le (hFA j hj) hg.size
  have hz : Kz M F X W w5 := ((Kz.refl M F X W).new (grown_new W o) hFW).step hg hFA fun r e => ⟨fun hf => by have := (own_lt h2a e).1; have := hF r hf; omega, .inl (own_isCells h2a e)⟩
  have r1 : Rk (w5.setCell ⟨w.heap.size + 1 + 1, 0, none⟩ v9) (w.heap.size + 1 + 1) #[v9] 44 := by
    have := hb5.set 0 v9
    simpa using this
  have r2 : (w5.setCell ⟨w.heap.size + 1 + 1, 0, none⟩ v9).ownsRow w.heap.size 49 3 v9 (E ++ [e]).length (ecs (E ++ [e])) := by
    rw [List.length_append]
    have e2 : ecs (E ++ [e]) = ecs E ++ ecl e := by simp [ecs]
    rw [e2]
    exact own_keep h5 fun g hg2 => Below.heap_setCell _ _ _ _ fun q => hb5.apart h5 (by decide) (by rw [hg2]; exact congrArg some q)
  refine ⟨⟨hk2 _ _ _ h.lo (by decide) (by omega), hk2 _ _ _ h.hi (by decide) (by omega), ⟨v9, r1, r2⟩, ?_⟩, hz.set hF5 hb5 (fun hf => by have := hF _ hf; omega) v9, hk2, hb5, r1, r2⟩
  exact ((h.below.alloc h.below.size o).grown hg (size_alloc h.below.size) fun k hk => (own_lt h2a hk).1).setCell (by show w.heap.size ≤ w.heap.size + 1 + 1; omega) _

set_option maxRecDepth 100000 in
set_option maxHeartbeats 4000000 in
theorem events_in (m : Nat) (hm : 6 ≤ m) {w : World} {F : Nat → Prop} {g : Nat} {L : List Sp} {last : Int} (a b : Int) (h : Sk w F g L last) (hf : FineS L last) (hL : L.length ≤ 100) :
    CallsIn Fence.wide m Try.prog 23 #[.pointer (some ⟨g, 0, none⟩), .int .i64 a, .int .i64 b] w fun e w' => ∃ A c, e = .returned (.slice A (eventsP L a b).length c) ∧ Rd w' w'.heap.size 3 A (eventsP L a b).length c (ecs (eventsP L a b)) ∧ Below w.heap.size w w' := by
  obtain ⟨i0, hi0, hz0, hz1, hz2⟩ := info_parts info_event
  have hFl := h.lt
  have ka := fun W => all_any (some ⟨g, 0, none⟩) W
  refine callsIn_of_wp_marks Try.func23 rfl trivial ?_ rfl
  simp only [Try.ntmps23, List.size_toArray, List.length_cons, List.length_nil, Nat.reduceAdd, Nat.reduceSub, Array.replicate_succ, Array.replicate_zero, List.push_toArray, List.append_toArray, List.nil_append, List.cons_append]
  obtain ⟨w1, hw1⟩ : ∃ w1, ((w.alloc (.cells #[.int .i64 a] 3)).alloc (.cells #[.int .i64 b] 3)).alloc (.cells #[.slice none 0 0] 44) = w1 := ⟨_, rfl⟩
  have hI0 : EvI w a b [] w1 := by
    rw [← hw1]
    have e1 := Rk.new w #[.int .i64 a] 3
    have e2 := Rk.new (w.alloc (.cells #[.int .i64 a] 3)) #[.int .i64 b] 3
    have e3 := Rk.new ((w.alloc (.cells #[.int .i64 a] 3)).alloc (.cells #[.int .i64 b] 3)) #[.slice none 0 0] 44
    simp only [World.size_alloc] at e2 e3
    have b1 := bnew w (.cells #[.int .i64 a] 3)
    have b2 := b1.alloc b1.size (.cells #[.int .i64 b] 3)
    exact ⟨(e1.alloc _).alloc _, e2.alloc _, ⟨_, e3, World.ownsRow_nil _ _ _ _⟩, b2.alloc b2.size _⟩
  have hs1 : w1.heap.size = w.heap.size + 3 := by rw [← hw1]; simp
  replace hw1 := Lib.hid hw1
  gi_wp2_with (refine ⟨trivial, fun e => (by cases e), ?_⟩; (with_reducible refine (callsIn_wide.2 (ka _)).mono ?_); rintro e w2 ⟨rfl, hw2⟩)
  rw [hw1.out]
  clear hw2 ka hw1
  obtain ⟨w3, hw3⟩ : ∃ w3, w1.alloc (.cells #[.pointer (some ⟨g, 0, none⟩)] 26) = w3 := ⟨_, rfl⟩
  have hI3 : EvI w a b [] w3 := hw3 ▸ hI0.stay (grown_new _ _) fun j e => by cases e
  have z3 : Rk w3 (w.heap.size + 1 + 1 + 1) #[.pointer (some ⟨g, 0, none⟩)] 26 := by
    have := Rk.new w1 #[.pointer (some ⟨g, 0, none⟩)] 26
    rw [hw3, hs1] at this
    exact this
  have h3 : Sk w3 F g L last := h.keep fun b hb => hI3.below.block b (hFl b hb)
  rw [hw3]
  clear hw3 hI0
  have hF3 := h3.lt
  have hsz3 := hI3.below.size
  have hFw : ∀ j, w.heap.size ≤ j → ¬ F j := fun j hj hf => by have := hFl j hf; omega
  have hseq := all_stop (X := fun _ => False) (m - 1) (by omega) h3 (fun _ h => h.elim) (by omega) z3.one
  refine wpIn_rangeFunc_ownH (w0 := w3) rfl (by omega) (gf := 37) (lb := #[.pointer (some ⟨w.heap.size + 1 + 1 + 1, 0, none⟩)]) rfl trivial (enters_of Try.func37 (by kernel_rfl) rfl)
    hseq (fun h k => h.trans k) (fun W l o o' hl ho _ hw => Kx.putObj hF3 W l o o' hl ho hw) (Below.refl _ _) (fun _ => rfl)
    (fun pre W => EvI w a b (pre.flatMap fun x => evsP x a b) W)
    (fun _ _ _ => False)
    (fun pre X Y row hI hg hr => hI.stay hg fun j e => ⟨by have := (hr j e).1; omega, (hr j e).2⟩)
    (fun _ _ _ _ _ hs _ _ => hs)
    hI3
    (fun x a' W => ∃ gx, ¬ F gx ∧ w.heap.size + 1 + 1 < gx ∧ Rk W gx #[.int .i64 x.2.1, .int .i64 x.2.2] 64 ∧ a' = { tmps := #[.pointer (some ⟨g, 0, none⟩), .int .i64 a, .int .i64 b, undef, .pointer (some ⟨w.heap.size, 0, none⟩), .pointer (some ⟨w.heap.size + 1, 0, none⟩), .slice none 0 0, .pointer (some ⟨w.heap.size + 1 + 1, 0, none⟩),
      .string x.1, .pointer (some ⟨gx, 0, none⟩), .pointer (some ⟨g, 0, none⟩), .func (.func 37) #[] #[.pointer (some ⟨w.heap.size + 1 + 1 + 1, 0, none⟩)], .string x.1, .agg #[.int .i64 x.2.1, .int .i64 x.2.2],
      undef, undef, undef, undef, undef, undef, undef, undef, undef, undef, undef, undef, undef, undef, undef, undef, undef, undef, undef, undef, undef, undef, undef, undef, undef, undef, undef, undef, undef, undef, undef, undef, undef, undef, undef, undef, undef, undef, undef, undef, undef, undef], defers := [] })
    (fun x a' _ X Y row hs hg hr => by
      obtain ⟨gx, h0, hl, h1, h2⟩ := hs
      exact ⟨gx, h0, hl, h1.stay hg fun j e => (hr j e).2, h2⟩)
    ?assign ?body ?done ?stop
  case assign =>
    intro l2 pre x W K hI hK2
    obtain ⟨k, x1, x2⟩ := x
    have hFW : ∀ j, F j → j < W.heap.size := fun j hj => Nat.lt_of_lt_of_le (hFl j hj) hI.below.size
    have hz := (Kz.refl w3.heap.size F (fun _ => False) W).new (grown_new W (.cells #[.int .i64 x1, .int .i64 x2] 64)) hFW
    obtain ⟨_, hout, _⟩ := hI.out
    have hlt2 := hout.lt
    simp only [spEnc] at *
    gi_wp2
    exact hK2 _ _ hz.frm hz.kx (hI.stay (grown_new _ _) fun j e => by cases e) ⟨W.heap.size, fun h => by have := hFW _ h; omega, hlt2, Rk.new W _ _, rfl⟩
  case body =>
    rintro l2 pre x a' W hl2 ⟨rr, hrr⟩ hI ⟨gx, hgx, hgl, hx, rfl⟩ hlt
    obtain ⟨k, x1, x2⟩ := x
    dsimp only at hx
    have hEl : (pre.flatMap fun x => evsP x a b).length ≤ 2 * pre.length := evsP_len pre a b
    have hEe : (pre ++ [(k, x1, x2)]).flatMap (fun x => evsP x a b) = (pre.flatMap fun x => evsP x a b) ++ (if a < x1 ∧ x1 ≤ b then [(x1, k, true)] else []) ++ (if x2 ≠ 0 ∧ a < x2 ∧ x2 ≤ b then [(x2, k, false)] else []) := by
      rw [List.flatMap_append, List.flatMap_cons, List.flatMap_nil, List.append_nil, List.append_assoc]
      rfl
    have hzz := Kz.refl w3.heap.size F (fun _ => False) W
    have hfin : ∀ (W5 : World) (E5 : List Ev), (pre ++ [(k, x1, x2)]).flatMap (fun x => evsP x a b) = E5 → EvI w a b E5 W5 → Kz w3.heap.size F (fun _ => False) W W5 → KeepsFrom w3.heap.size W W5 ∧ Kx F (fun _ => False) W W5 ∧ EvI w a b ((pre ++ [(k, x1, x2)]).flatMap fun x => evsP x a b) W5 := fun W5 E5 e hI5 hz5 => ⟨hz5.frm, hz5.kx, by rw [e]; exact hI5⟩
    have hpl : pre.length < 100 := by omega
    clear hrr hgx hlt
    generalize hEq : (pre.flatMap fun x => evsP x a b) = E at hI hEl hEe
    clear hEq
    by_cases s1 : a < x1
    · by_cases s2 : x1 ≤ b
      · rw [if_pos ⟨s1, s2⟩] at hEe
        obtain ⟨c0, c1⟩ := hx.two
        have ca := hI.lo.one
        have cb := hI.hi.one
        obtain ⟨v, q1, q2⟩ := hI.out
        have cl := q1.one
        have hpu := fun v9 w5 o => @EvI.push w W w5 a b E v v9 (x1, k, true) o w3.heap.size F (fun _ => False) hI q1 q2
        obtain ⟨A, c, rfl, _⟩ := Rd.own q2
        have hbs := hI.below.size
        have hne : ∀ j u, (ecl (x1, k, true))[j]? = some u → (W.alloc (.cells #[.int .i64 x1, .string k, .bool true] 49)).cell? ((⟨W.heap.size, 0, none⟩ : Addr).add j) = some u := cells_new W #[.int .i64 x1, .string k, .bool true] _
        have hone := ecl_one (x1, k, true)
        by_cases t1 : x2 = 0
        · rw [if_neg (by rintro ⟨z, _⟩; exact z t1), List.append_nil] at hEe
          subst t1
          gi_wp2_with (gi_at_builtin; (refine wpListIn_append_own _ rfl (.tmp 24) (.tmp 29) 44 rfl w.heap.size 49 i0 (.agg #[.int .i64 0, .string ⟨#[]⟩, .bool false]) 3 32 Try.underlying44 hi0 hz0 hz1 hz2 rfl (by decide) _ E.length (ecs E) rfl (q2.alloc _) ⟨W.heap.size, 0, none⟩ 1 1 (ecl (x1, k, true)) rfl rfl hne hone (by simp only [maxLen]; omega) (by omega) (size_alloc hbs) ?_; intro v9 w5 hown5 hg5 _; obtain ⟨hI9, hz9, hk9, q9, r9, o9⟩ := hpu v9 w5 _ hg5 hown5 hFl; have f9 := q9.fz 0; have c9 := q9.one; have hx9 := hk9 _ _ _ hx (by decide) (by omega); obtain ⟨c09, c19⟩ := hx9.two; have ca9 := hI9.lo.one; have cb9 := hI9.hi.one; have cl9 := r9.one; obtain ⟨A9, d9, rfl, _⟩ := Rd.own hown5))
          exact hfin _ _ hEe hI9 hz9
        · have n1 : (x2 != 0) = true := by simpa using t1
          by_cases t2 : a < x2
          · by_cases t3 : x2 ≤ b
            · rw [if_pos ⟨t1, t2, t3⟩] at hEe
              clear t1
              gi_wp2_with (first | (gi_at_builtin; (refine wpListIn_append_own _ rfl (.tmp 24) (.tmp 29) 44 rfl w.heap.size 49 i0 (.agg #[.int .i64 0, .string ⟨#[]⟩, .bool false]) 3 32 Try.underlying44 hi0 hz0 hz1 hz2 rfl (by decide) _ E.length (ecs E) rfl (q2.alloc _) ⟨W.heap.size, 0, none⟩ 1 1 (ecl (x1, k, true)) rfl rfl hne hone (by simp only [maxLen]; omega) (by omega) (size_alloc hbs) ?_; intro v9 w5 hown5 hg5 _; obtain ⟨hI9, hz9, hk9, q9, r9, o9⟩ := hpu v9 w5 _ hg5 hown5 hFl; have f9 := q9.fz 0; have c9 := q9.one; have hx9 := hk9 _ _ _ hx (by decide) (by omega); obtain ⟨c09, c19⟩ := hx9.two; have ca9 := hI9.lo.one; have cb9 := hI9.hi.one; have cl9 := r9.one; rw [show (E ++ [((x1, k, true) : Ev)]).length = E.length + 1 by simp] at o9; have hbs9 := hI9.below.size; have hpu9 := fun v19 w15 o h1 h2 => (EvI.push (v := v9) (v9 := v19) (w5 := w15) (e := (x2, k, false)) (o := o) (M := w3.heap.size) (F := F) (X := fun _ => False) hI9 r9 (by rw [List.length_append]; exact o9) h1 (by rw [List.length_append]; exact h2) hFl); have hne9 : ∀ j u, (ecl (x2, k, false))[j]? = some u → ((w5.setCell ⟨w.heap.size + 1 + 1, 0, none⟩ v9).alloc (.cells #[.int .i64 x2, .string k, .bool false] 49)).cell? ((⟨w5.heap.size, 0, none⟩ : Addr).add j) = some u := cells_at _ #[.int .i64 x2, .string k, .bool false] _ w5.heap.size (by simp [World.setCell]); have hone9 := ecl_one (x2, k, false); obtain ⟨A9, d9, rfl, _⟩ := Rd.own hown5)) | (gi_at_builtin; (refine wpListIn_append_own _ rfl (.tmp 46) (.tmp 51) 44 rfl w.heap.size 49 i0 (.agg #[.int .i64 0, .string ⟨#[]⟩, .bool false]) 3 32 Try.underlying44 hi0 hz0 hz1 hz2 rfl (by decide) _ (E.length + 1) (ecs (E ++ [(x1, k, true)])) rfl (o9.alloc _) _ 1 1 (ecl (x2, k, false)) rfl rfl hne9 hone9 (by simp only [maxLen]; omega) (by omega) (size_alloc hbs9) ?_; intro v19 w15 hown15 hg15 _; obtain ⟨hI19, hz19, _, q19, _⟩ := hpu9 v19 w15 _ hg15 hown15; have f19 := q19.fz 0; have c29 := q19.one; obtain ⟨A19, d19, rfl, _⟩ := Rd.own hown15)))
              exact hfin _ _ hEe hI19 (hz9.trans hz19)
            · rw [if_neg (by rintro ⟨_, _, z⟩; exact t3 z), List.append_nil] at hEe
              clear t1
              gi_wp2_with (gi_at_builtin; (refine wpListIn_append_own _ rfl (.tmp 24) (.tmp 29) 44 rfl w.heap.size 49 i0 (.agg #[.int .i64 0, .string ⟨#[]⟩, .bool false]) 3 32 Try.underlying44 hi0 hz0 hz1 hz2 rfl (by decide) _ E.length (ecs E) rfl (q2.alloc _) ⟨W.heap.size, 0, none⟩ 1 1 (ecl (x1, k, true)) rfl rfl hne hone (by simp only [maxLen]; omega) (by omega) (size_alloc hbs) ?_; intro v9 w5 hown5 hg5 _; obtain ⟨hI9, hz9, hk9, q9, r9, o9⟩ := hpu v9 w5 _ hg5 hown5 hFl; have f9 := q9.fz 0; have c9 := q9.one; have hx9 := hk9 _ _ _ hx (by decide) (by omega); obtain ⟨c09, c19⟩ := hx9.two; have ca9 := hI9.lo.one; have cb9 := hI9.hi.one; have cl9 := r9.one; obtain ⟨A9, d9, rfl, _⟩ := Rd.own hown5))
              exact hfin _ _ hEe hI9 hz9
          · rw [if_neg (by rintro ⟨_, z, _⟩; exact t2 z), List.append_nil] at hEe
            clear t1
            gi_wp2_with (gi_at_builtin; (refine wpListIn_append_own _ rfl (.tmp 24) (.tmp 29) 44 rfl w.heap.size 49 i0 (.agg #[.int .i64 0, .string ⟨#[]⟩, .bool false]) 3 32 Try.underlying44 hi0 hz0 hz1 hz2 rfl (by decide) _ E.length (ecs E) rfl (q2.alloc _) ⟨W.heap.size, 0, none⟩ 1 1 (ecl (x1, k, true)) rfl rfl hne hone (by simp only [maxLen]; omega) (by omega) (size_alloc hbs) ?_; intro v9 w5 hown5 hg5 _; obtain ⟨hI9, hz9, hk9, q9, r9, o9⟩ := hpu v9 w5 _ hg5 hown5 hFl; have f9 := q9.fz 0; have c9 := q9.one; have hx9 := hk9 _ _ _ hx (by decide) (by omega); obtain ⟨c09, c19⟩ := hx9.two; have ca9 := hI9.lo.one; have cb9 := hI9.hi.one; have cl9 := r9.one; obtain ⟨A9, d9, rfl, _⟩ := Rd.own hown5))
            exact hfin _ _ hEe hI9 hz9
      · rw [if_neg (by rintro ⟨_, z⟩; exact s2 z), List.append_nil] at hEe
        have ca := hI.lo.one
        have cb := hI.hi.one
        obtain ⟨c0, c1⟩ := hx.two
        by_cases t1 : x2 = 0
        · rw [if_neg (by rintro ⟨z, _⟩; exact z t1), List.append_nil] at hEe
          have hfin := hfin _ _ hEe hI hzz
          subst t1
          clear hEe
          gi_wp2
          exact hfin
        · have n1 : (x2 != 0) = true := by simpa using t1
          by_cases t2 : a < x2
          · by_cases t3 : x2 ≤ b
            · rw [if_pos ⟨t1, t2, t3⟩] at hEe
              have ca := hI.lo.one
              have cb := hI.hi.one
              obtain ⟨v, q1, q2⟩ := hI.out
              have cl := q1.one
              have hpu := fun v9 w5 o => @EvI.push w W w5 a b E v v9 (x2, k, false) o w3.heap.size F (fun _ => False) hI q1 q2
              obtain ⟨A, c, rfl, _⟩ := Rd.own q2
              have hbs := hI.below.size
              have hne : ∀ j u, (ecl (x2, k, false))[j]? = some u → (W.alloc (.cells #[.int .i64 x2, .string k, .bool false] 49)).cell? ((⟨W.heap.size, 0, none⟩ : Addr).add j) = some u := cells_new W #[.int .i64 x2, .string k, .bool false] _
              have hone := ecl_one (x2, k, false)
              clear t1
              gi_wp2_with (gi_at_builtin; (refine wpListIn_append_own _ rfl (.tmp 46) (.tmp 51) 44 rfl w.heap.size 49 i0 (.agg #[.int .i64 0, .string ⟨#[]⟩, .bool false]) 3 32 Try.underlying44 hi0 hz0 hz1 hz2 rfl (by decide) _ E.length (ecs E) rfl (q2.alloc _) ⟨W.heap.size, 0, none⟩ 1 1 (ecl (x2, k, false)) rfl rfl hne hone (by simp only [maxLen]; omega) (by omega) (size_alloc hbs) ?_; intro v9 w5 hown5 hg5 _; obtain ⟨hI9, hz9, hk9, q9, _⟩ := hpu v9 w5 _ hg5 hown5 hFl; have f9 := q9.fz 0; have c9 := q9.one; obtain ⟨A9, d9, rfl, _⟩ := Rd.own hown5))
              exact hfin _ _ hEe hI9 (hzz.trans hz9)
            · rw [if_neg (by rintro ⟨_, _, z⟩; exact t3 z), List.append_nil] at hEe
              have hfin := hfin _ _ hEe hI hzz
              have ca := hI.lo.one
              have cb := hI.hi.one
              clear hEe t1
              gi_wp2
              exact hfin
          · rw [if_neg (by rintro ⟨_, z, _⟩; exact t2 z), List.append_nil] at hEe
            have hfin := hfin _ _ hEe hI hzz
            have ca := hI.lo.one
            clear hEe t1
            gi_wp2
            exact hfin
    · rw [if_neg (by rintro ⟨z, _⟩; exact s1 z), List.append_nil] at hEe
      have ca := hI.lo.one
      obtain ⟨c0, c1⟩ := hx.two
      by_cases t1 : x2 = 0
      · rw [if_neg (by rintro ⟨z, _⟩; exact z t1), List.append_nil] at hEe
        have hfin := hfin _ _ hEe hI hzz
        subst t1
        clear hEe
        gi_wp2
        exact hfin
      · have n1 : (x2 != 0) = true := by simpa using t1
        by_cases t2 : a < x2
        · by_cases t3 : x2 ≤ b
          · rw [if_pos ⟨t1, t2, t3⟩] at hEe
            have ca := hI.lo.one
            have cb := hI.hi.one
            obtain ⟨v, q1, q2⟩ := hI.out
            have cl := q1.one
            have hpu := fun v9 w5 o => @EvI.push w W w5 a b E v v9 (x2, k, false) o w3.heap.size F (fun _ => False) hI q1 q2
            obtain ⟨A, c, rfl, _⟩ := Rd.own q2
            have hbs := hI.below.size
            have hne : ∀ j u, (ecl (x2, k, false))[j]? = some u → (W.alloc (.cells #[.int .i64 x2, .string k, .bool false] 49)).cell? ((⟨W.heap.size, 0, none⟩ : Addr).add j) = some u := cells_new W #[.int .i64 x2, .string k, .bool false] _
            have hone := ecl_one (x2, k, false)
            clear t1
            gi_wp2_with (gi_at_builtin; (refine wpListIn_append_own _ rfl (.tmp 46) (.tmp 51) 44 rfl w.heap.size 49 i0 (.agg #[.int .i64 0, .string ⟨#[]⟩, .bool false]) 3 32 Try.underlying44 hi0 hz0 hz1 hz2 rfl (by decide) _ E.length (ecs E) rfl (q2.alloc _) ⟨W.heap.size, 0, none⟩ 1 1 (ecl (x2, k, false)) rfl rfl hne hone (by simp only [maxLen]; omega) (by omega) (size_alloc hbs) ?_; intro v9 w5 hown5 hg5 _; obtain ⟨hI9, hz9, hk9, q9, _⟩ := hpu v9 w5 _ hg5 hown5 hFl; have f9 := q9.fz 0; have c9 := q9.one; obtain ⟨A9, d9, rfl, _⟩ := Rd.own hown5))
            exact hfin _ _ hEe hI9 (hzz.trans hz9)
          · rw [if_neg (by rintro ⟨_, _, z⟩; exact t3 z), List.append_nil] at hEe
            have hfin := hfin _ _ hEe hI hzz
            have ca := hI.lo.one
            have cb := hI.hi.one
            clear hEe t1
            gi_wp2
            exact hfin
        · rw [if_neg (by rintro ⟨_, z, _⟩; exact t2 z), List.append_nil] at hEe
          have hfin := hfin _ _ hEe hI hzz
          have ca := hI.lo.one
          clear hEe t1
          gi_wp2
          exact hfin
  case done =>
    rintro D ys W hD hT hI hK3
    have hpost : ∀ (W4 : World) (A : Option Addr) (c : Nat) (zs : List Ev), zs.Perm (ys.flatMap fun x => evsP x a b) → RiseE zs → Rd W4 W4.heap.size 3 A (ys.flatMap fun x => evsP x a b).length c (ecs zs) → Below w.heap.size w W4 → W4.heap[D]? = some (.deferred (some [])) →
        ∃ A' c', (Ending.returned (.slice A (ys.flatMap fun x => evsP x a b).length c) : Ending) = .returned (.slice A' (eventsP L a b).length c') ∧ Rd (W4.putObj D (.deferred none)) (W4.putObj D (.deferred none)).heap.size 3 A' (eventsP L a b).length c' (ecs (eventsP L a b)) ∧ Below w.heap.size w (W4.putObj D (.deferred none)) := fun W4 A c zs hp hr hR hb hD4 => by
      have hzs := eventsP_told hf hT.perm hp hr
      have hln := hp.length_eq
      rw [hzs] at hln hR
      rw [← hln] at hR ⊢
      refine ⟨A, c, rfl, ?_, hb.grown (grownBy_putObj' W4 D (.deferred none)) hb.size fun r e => by cases e; omega⟩
      rw [World.putObj_size]
      exact hR.keep fun p _ => by
        by_cases e : p.block = D
        · have h1 : (W4.putObj D (.deferred none)).heap[p.block]? = some (.deferred none) := by rw [e]; exact World.putObj_heap_same (Array.getElem?_eq_some_iff.1 hD4).1
          rw [← e] at hD4
          simp [World.cell?, h1, hD4]
        · exact World.cell?_of_block (World.putObj_heap_other e)
    have hEl := evsP_len ys a b
    have hyl := hT.perm.length_eq
    generalize hEq : (ys.flatMap fun x => evsP x a b) = E at hI hpost hEl
    obtain ⟨v, q1, q2⟩ := hI.out
    have cl := q1.one
    rcases Nat.eq_zero_or_pos E.length with h0 | h0
    · obtain ⟨A, c, rfl, hR⟩ := Rd.own q2
      obtain rfl : E = [] := List.eq_nil_of_length_eq_zero h0
      have ks := fun W' => sort_none14 A c (.func (.func 35) #[] #[]) W'
      gi_wp2_with (refine ⟨trivial, fun e => (by cases e), ?_⟩; (with_reducible refine (callsIn_wide.2 (ks _)).mono ?_); rintro e w4 ⟨rfl, rfl⟩)
      have hfin := hpost w4 A c [] (List.Perm.refl _) List.Pairwise.nil hR hI.below hK3
      refine ⟨by simp, .inl ⟨_, _, rfl, run_takeDeferred hK3, ?_⟩⟩
      obtain ⟨A', c', e1, e2, e3⟩ := hfin
      refine ⟨_, results_tmp rfl _ _ _, ?_⟩
      exact ⟨A', c', e1, e2, e3⟩
    · obtain ⟨gg, c, rfl, hgg, hgl⟩ := q2.form h0
      have ks := sort_any14 q2 h0 (by omega)
      have hown : (Value.slice (some ⟨gg, 0, none⟩) E.length c).ownBlock = some gg := rfl
      have hne : gg ≠ w.heap.size + 1 + 1 := fun e => q1.apart q2 (by decide) (by rw [hown, e])
      have hDg : D ≠ gg := fun e => by
        obtain ⟨o, h1, h2⟩ := own_isCells q2 hown
        rw [← e, hK3] at h1
        cases h1
        cases h2
      have q4 : ∀ w4, W.grownBy w4 (some gg) → w4.cell? ⟨w.heap.size + 1 + 1, 0, none⟩ = some (.slice (some ⟨gg, 0, none⟩) E.length c) ∧ w4.heap[D]? = some (.deferred (some [])) ∧ Below w.heap.size w w4 := fun w4 hg4 =>
        ⟨(q1.same (hg4.block _ q1.lt fun e => hne (by cases e; rfl))).one, (hg4.block D (Array.getElem?_eq_some_iff.1 hK3).1 fun e => hDg (by cases e; rfl)).trans hK3, hI.below.grown hg4 hI.below.size fun k e => by cases e; exact hgg⟩
      clear hown hne hDg
      generalize hn : E.length = n at *
      gi_wp2_with (refine ⟨trivial, fun e => (by cases e), ?_⟩; (with_reducible refine (callsIn_wide.2 ks).mono ?_); rintro e w4 ⟨rfl, zs, hp4, hr4, hR4, hg4⟩; obtain ⟨c4, hD4, hb4⟩ := q4 w4 hg4)
      obtain ⟨A', c', e1, e2, e3⟩ := hpost w4 _ c zs hp4 hr4 hR4 hb4 hD4
      refine ⟨by simp, .inl ⟨_, _, rfl, run_takeDeferred hD4, ?_⟩⟩
      refine ⟨_, results_tmp rfl _ _ _, ?_⟩
      exact ⟨A', c', e1, e2, e3⟩
  case stop =>
    rintro D c pre W _ _ h _
    exact h.elim
theorem events14_any {w : World} {F : Nat → Prop} {g : Nat} {L : List Sp} {last : Int} (a b : Int) (h : Sk w F g L last) (hf : FineS L last) (hL : L.length ≤ 100) :
    Calls Try.prog 23 #[.pointer (some ⟨g, 0, none⟩), .int .i64 a, .int .i64 b] w fun e w' => ∃ A c, e = .returned (.slice A (eventsP L a b).length c) ∧ Rd w' w'.heap.size 3 A (eventsP L a b).length c (ecs (eventsP L a b)) ∧ Below w.heap.size w w' := callsIn_wide.1 (events_in 6 (Nat.le_refl _) a b h hf hL)
end Go.Proofs.Ytmdhollegemlhaa
