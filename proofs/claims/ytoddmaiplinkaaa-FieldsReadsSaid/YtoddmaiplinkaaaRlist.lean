/- The contract of the reader's List. -/
import Derived.Test.YtoddmaiplinkaaaRnum
namespace Go.Proofs.Ytoddmaiplinkaaa
open Go.RowKit

/-- So many texts, one behind the other. -/
def steps : Nat → RSt → List (List UInt8) × RSt
  | 0, st => ([], st)
  | k + 1, st => ((steps k st).1 ++ [(rtext (steps k st).2).1], (rtext (steps k st).2).2)
/-- List. -/
def rlist (st : RSt) (most : Nat) : List (List UInt8) × RSt :=
  if (rnum st).2.2 ≠ 0 then ([], (rnum st).2) else if most < (rnum st).1 then ([], ((rnum st).2.1, 13))
  else if (steps (rnum st).1 (rnum st).2).2.2 ≠ 0 then ([], (steps (rnum st).1 (rnum st).2).2) else steps (rnum st).1 (rnum st).2
theorem rtext_err {st : RSt} (h : st.2 ≠ 0) : rtext st = ([], st) := by simp [rtext, rnum, h]
theorem steps_err {st : RSt} {j k : Nat} (hjk : j ≤ k) (h : (steps j st).2.2 ≠ 0) : (steps k st).2 = (steps j st).2 := by
  induction k with
  | zero => rw [show j = 0 from by omega]
  | succ k ih =>
    by_cases e : j = k + 1
    · rw [e]
    · have := ih (by omega)
      show (rtext (steps k st).2).2 = _
      rw [this, rtext_err h]
theorem steps_len (k : Nat) (st : RSt) : (steps k st).1.length = k := by
  induction k with
  | zero => rfl
  | succ k ih => simp [steps, ih]
/-- Texts as cells. -/
def tv (l : List (List UInt8)) : List Value := l.map fun s => Value.string (strOf s)
theorem tv_snoc (l : List (List UInt8)) (s : List UInt8) : tv (l ++ [s]) = tv l ++ [.string (strOf s)] := by simp [tv]
theorem IsR.grown {w w' : World} {g : Nat} {st : RSt} {r : Option Nat} (h : IsR w g st) (hg : w.grownBy w' r) (hr : ∀ k, r = some k → g < k) : IsR w' g st := by
  have hlt := h.lt
  have hb : ∀ k, k ≤ g → w'.heap[k]? = w.heap[k]? := fun k hk => hg.block k (by omega) (fun e => by have := hr k e.symm; omega)
  obtain ⟨A, n, c, h1, h2⟩ := h
  exact ⟨A, n, c, by rw [hb g (Nat.le_refl _)]; exact h1, h2.keep fun p hp => World.cell?_of_block (w := w) (hb p.block (by omega))⟩
theorem own_far {w w' : World} {base g : Nat} {e : TypeId} {size n : Nat} {v : Value} {xs : List Value} (h : w.ownsRow base e size v n xs) (hg : w.grownBy w' (some g)) (hlt : g < base) : w'.ownsRow base e size v n xs := by
  refine h.kept hg ?_
  cases hv : v.ownBlock with
  | none => exact .inl rfl
  | some k => exact .inr fun e => by have := (h.lt k hv).1; simp at e; omega
theorem grown_own {w0 w w' : World} {base g : Nat} {e : TypeId} {size n : Nat} {v : Value} {xs : List Value} (h0 : w0.grownBy w (some g)) (h : w.ownsRow base e size v n xs) (hg : w.grownBy w' v.ownBlock) (hb : w0.heap.size ≤ base) : w0.grownBy w' (some g) :=
  ⟨hg.os.trans h0.os, hg.tape.trans h0.tape, hg.output.trans h0.output, Nat.le_trans h0.size hg.size, fun i hi hne => (hg.block i (Nat.lt_of_lt_of_le hi h0.size) (fun e => by have := (h.lt i e.symm).1; omega)).trans (h0.block i hi hne)⟩
theorem info_str : (Try.prog.info? 9).map (fun i => (i.zero, i.size, i.bytes)) = some (some (.string .empty), 1, 16) := by kernel_rfl

set_option maxRecDepth 100000 in
set_option maxHeartbeats 1000000 in
theorem list_any (g : Nat) (st : RSt) (most : Int) (hm0 : -1000000000 ≤ most) (hm1 : most ≤ 1000000000) (w : World) (h : IsR w g st) :
    Calls Try.prog 22 #[.pointer (some ⟨g, 0, none⟩), .int .i64 most] w fun e w' => ∃ v, e = .returned v ∧
      w'.ownsRow w.heap.size 9 1 v (rlist st most.toNat).1.length (tv (rlist st most.toNat).1) ∧ IsR w' g (rlist st most.toNat).2 ∧ w.grownBy w' (some g) := by
  obtain ⟨i0, hi, hz0, hz1, hz2⟩ := info_parts info_str
  have hglt := h.lt
  obtain ⟨q, ⟨l, x⟩, hN⟩ : ∃ q st1, rnum st = (q, st1) := ⟨_, _, rfl⟩
  have HN := Lib.hid hN
  by_cases hx : x = 0
  · subst hx
    by_cases hq : most.toNat < q
    · have E : Hid (rlist st most.toNat = ([], (l, 13))) := Lib.hid (by simp [rlist, hN, hq])
      clear hN
      by_cases hneg : most < 0
      all_goals
        go_enter Try.func22, Try.ntmps22
        go_wp2_with fail
        refine (num_any g _ _ h).mono ?_
        rintro e w1 ⟨rfl, hr1, hg1⟩
        rw [HN.out] at hr1 ⊢
        have H := Lib.hid hr1
        have G := Lib.hid hg1
        obtain ⟨A, n, c, h0, h1, hf, hr⟩ := hr1.cells
        clear hr1 hg1 hr
        go_wp2_with fail
        refine (err_any g _ _ H.out).mono ?_
        rintro e w' ⟨rfl, rfl⟩
        go_wp2
        go_ret
        rw [E.out]
        exact ⟨_, rfl, World.ownsRow_nil _ _ _ _, H.out.set1 13, grown_set G.out _ _⟩
    · have E : Hid (rlist st most.toNat = if (steps q (l, 0)).2.2 ≠ 0 then ([], (steps q (l, 0)).2) else steps q (l, 0)) := Lib.hid (by simp [rlist, hN, hq])
      have hq9 : q ≤ 1000000000 := by omega
      clear hN
      by_cases hneg : most < 0
      · obtain rfl : q = 0 := by omega
        go_enter Try.func22, Try.ntmps22
        go_wp2_with fail
        refine (num_any g _ _ h).mono ?_
        rintro e w1 ⟨rfl, hr1, hg1⟩
        rw [HN.out] at hr1 ⊢
        have H := Lib.hid hr1
        have G := Lib.hid hg1
        clear hr1 hg1
        go_wp2_with fail
        refine (err_any g _ _ H.out).mono ?_
        rintro e w' ⟨rfl, rfl⟩
        go_wp2_with fail
        refine wp_loop_rounds 1 ?_
        rw [rounds_succ]
        go_wp2
        go_ret
        rw [E.out]
        exact ⟨_, rfl, World.ownsRow_nil _ _ _ _, H.out, G.out⟩
      · go_enter Try.func22, Try.ntmps22
        go_wp2_with fail
        refine (num_any g _ _ h).mono ?_
        rintro e w1 ⟨rfl, hr1, hg1⟩
        rw [HN.out] at hr1 ⊢
        have H := Lib.hid hr1
        have G := Lib.hid hg1
        clear hr1 hg1
        go_wp2_with fail
        refine (err_any g _ _ H.out).mono ?_
        rintro e w' ⟨rfl, rfl⟩
        go_wp2_with fail
        go_loopw [6, 22] (fun v i wr => ∃ k : Nat, k ≤ q ∧ i = .int .u64 k ∧ wr.ownsRow w.heap.size 9 1 v k (tv (steps k (l, 0)).1) ∧ IsR wr g (steps k (l, 0)).2 ∧ (steps k (l, 0)).2.2 = 0 ∧ w.grownBy wr (some g)) (fun _ i _ => q - (intOf i).toNat)
        case atStart => exact ⟨0, Nat.zero_le _, rfl, World.ownsRow_nil _ _ _ _, H.out, rfl, G.out⟩
        case round =>
          obtain ⟨k, hk, rfl, hown, hrd, hek, hgk⟩ := hrel
          have Ho := Lib.hid hown
          have Hr := Lib.hid hrd
          have Hg := Lib.hid hgk
          have Hk := Lib.hid hek
          have hws := hgk.size
          clear hown hrd hgk hek
          by_cases hlt : k < q
          · obtain ⟨a, ⟨s', y⟩, hT⟩ : ∃ a r, rtext (steps k (l, 0)).2 = (a, r) := ⟨_, _, rfl⟩
            have hn1 : (steps (k + 1) (l, 0)).1 = (steps k (l, 0)).1 ++ [a] := by simp [steps, hT]
            have hn2 : (steps (k + 1) (l, 0)).2 = (s', y) := by simp [steps, hT]
            have HT := Lib.hid hT
            have Hn1 := Lib.hid hn1
            have Hn2 := Lib.hid hn2
            clear hT hn1 hn2
            by_cases hy : y = 0
            · subst hy
              go_wp2_with fail
              refine (text_any g _ _ Hr.out).mono ?_
              rintro e w2 ⟨rfl, hr2, hg2⟩
              rw [HT.out] at hr2 ⊢
              have Hr2 := Lib.hid hr2
              have Hg2 := Lib.hid (Hg.out.trans hg2)
              have Ho2 := Lib.hid (own_far Ho.out hg2 hglt)
              have hws2 := hg2.size
              clear hr2 hg2
              go_wp2_with fail
              refine (err_any g _ _ Hr2.out).mono ?_
              rintro e w' ⟨rfl, rfl⟩
              go_wp2_with (at_builtin; go_must (refine wpList_append_src _ rfl (.tmp 29) (.tmp 31) 23 23 rfl w.heap.size 9 i0 (.string .empty) 1 16 Try.underlying23 hi hz0 hz1 hz2 rfl (by decide) _ k _ rfl (Ho2.out.alloc _) _ 1 [_] rfl (Src.ofSlice _ Try.underlying23 _ 1 1 _ rfl (cell_one_new _ _ _) (fun u hu => by simp at hu; subst hu; rfl)) (by simp only [maxLen]; omega) (by omega) (by simp; omega) ?_); intro v3 w3 hown3 hg3 hat3)
              refine ⟨⟨k + 1, by omega, by go_num, ?_, ?_, ?_, ?_⟩, by simp [intOf]; omega⟩
              · rw [Hn1.out, tv_snoc]
                exact hown3
              · rw [Hn2.out]
                refine IsR.grown (Hr2.out.below ((Below.refl _ _).alloc (Nat.le_refl _) _) Hr2.out.lt) hg3 fun j hj => ?_
                have := (Ho2.out.lt j hj).1
                omega
              · rw [Hn2.out]
              · exact grown_own (grown_alloc Hg2.out _) (Ho2.out.alloc _) hg3 (Nat.le_refl _)
            · have hy1 : ((y : Int) != 0) = true := by simp [hy]
              go_wp2_with fail
              refine (text_any g _ _ Hr.out).mono ?_
              rintro e w2 ⟨rfl, hr2, hg2⟩
              rw [HT.out] at hr2 ⊢
              have Hr2 := Lib.hid hr2
              have Hg2 := Lib.hid (Hg.out.trans hg2)
              clear hr2 hg2
              go_wp2_with fail
              refine (err_any g _ _ Hr2.out).mono ?_
              rintro e w' ⟨rfl, rfl⟩
              go_wp2
              go_ret
              have hn : (steps (k + 1) (l, 0)).2.2 ≠ 0 := by rw [Hn2.out]; exact hy
              have hall := steps_err (show k + 1 ≤ q by omega) hn
              rw [E.out, if_pos (by rw [hall]; exact hn), hall, Hn2.out]
              exact ⟨_, rfl, World.ownsRow_nil _ _ _ _, Hr2.out, Hg2.out⟩
          · have e3 : k = q := by omega
            subst e3
            go_wp2
            go_ret
            rw [E.out, if_neg (by rw [Hk.out]; simp), steps_len]
            exact ⟨_, rfl, Ho.out, Hr.out, Hg.out⟩
  · have hx1 : ((x : Int) != 0) = true := by simp [hx]
    have E : Hid (rlist st most.toNat = ([], (l, x))) := Lib.hid (by simp [rlist, hN, hx])
    clear hN
    go_enter Try.func22, Try.ntmps22
    go_wp2_with fail
    refine (num_any g _ _ h).mono ?_
    rintro e w1 ⟨rfl, hr1, hg1⟩
    rw [HN.out] at hr1 ⊢
    have G := Lib.hid hg1
    clear hg1
    go_wp2_with fail
    refine (err_any g _ _ hr1).mono ?_
    rintro e w' ⟨rfl, rfl⟩
    go_wp2
    go_ret
    rw [E.out]
    exact ⟨_, rfl, World.ownsRow_nil _ _ _ _, hr1, G.out⟩
end Go.Proofs.Ytoddmaiplinkaaa
