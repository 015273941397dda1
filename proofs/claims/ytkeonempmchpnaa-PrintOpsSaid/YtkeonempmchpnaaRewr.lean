/- Layer 8: Rewrite: a rewrite's operations as a text, for whatever operations. Conditions: not too many, and their kinds aren't negative. -/
import Derived.Test.YtkeonempmchpnaaDoes
import Derived.Test.YtkeonempmchpnaaShelf
namespace Go.Proofs.Ytkeonempmchpnaa
open Go.RowKit

theorem sgn_size (k : Nat) : (sgnS k).size ≤ 100 := by
  unfold sgnS
  split
  · show 3 ≤ 100; omega
  · split <;> (show 3 ≤ 100; omega)
section
variable {w : World} {B g m bx t4 t5 t6 : Nat} {gs : List Gp}
set_option maxRecDepth 100000 in
theorem act_this (hm : Mp B g m w bx t4 t5 t6) (h : Ln B w g gs) (hg : g < B) (hB : B ≤ w.heap.size) (hn : gs.length ≤ 1000000) (hp : (flatG gs).length ≤ 1000000) (o : OpP) :
    Calls Try.prog 50 #[.agg #[.int .i64 (o.1 : Nat), .string o.2.1, .string o.2.2], .pointer (some ⟨bx, 0, none⟩)] w (LPost B w g (putG sThis gs)) := by
  have hal : Below w.heap.size w (w.alloc (.cells #[.int .i64 (o.1 : Nat), .string o.2.1, .string o.2.2] 56)) := (Below.refl _ w).alloc (Nat.le_refl _) _
  have k := put_any sThis (h.below hal) hg (Nat.le_trans hB hal.size) hn hp
  have b0 := (hm.box.below hal).cell 0
  have lb := (hm.box.below hal).lt
  have hK : Kp g B w _ := Kp.of_below (hal.mono hB) g
  clear h hal
  go_enter Try.func50, Try.ntmps50
  go_wp2_with fail
  generalize w.alloc (.cells #[.int .i64 (o.1 : Nat), .string o.2.1, .string o.2.2] 56) = W at *
  refine k.mono ?_
  rintro e W1 ⟨rfl, hl, hk⟩
  go_wp2_with fail
  go_returns
  exact ⟨rfl, hl, hK.trans hk⟩
set_option maxRecDepth 100000 in
theorem act_same (hm : Mp B g m w bx t4 t5 t6) (h : Ln B w g gs) (hg : g < B) (hB : B ≤ w.heap.size) (hn : gs.length ≤ 1000000) (hp : (flatG gs).length ≤ 1000000) (o : OpP) :
    Calls Try.prog 52 #[.agg #[.int .i64 (o.1 : Nat), .string o.2.1, .string o.2.2], .pointer (some ⟨bx, 0, none⟩)] w (LPost B w g (putG o.2.1 gs)) := by
  have hal : Below w.heap.size w (w.alloc (.cells #[.int .i64 (o.1 : Nat), .string o.2.1, .string o.2.2] 56)) := (Below.refl _ w).alloc (Nat.le_refl _) _
  have k := put_any o.2.1 (h.below hal) hg (Nat.le_trans hB hal.size) hn hp
  have b0 := (hm.box.below hal).cell 0
  have lb := (hm.box.below hal).lt
  have ho := Bk.new w #[.int .i64 (o.1 : Nat), .string o.2.1, .string o.2.2] 56
  have o1 := ho.cell 1
  have lo := ho.lt
  have hK : Kp g B w _ := Kp.of_below (hal.mono hB) g
  clear h hal ho
  go_enter Try.func52, Try.ntmps52
  go_wp2_with fail
  generalize w.alloc (.cells #[.int .i64 (o.1 : Nat), .string o.2.1, .string o.2.2] 56) = W at *
  refine k.mono ?_
  rintro e W1 ⟨rfl, hl, hk⟩
  go_wp2_with fail
  go_returns
  exact ⟨rfl, hl, hK.trans hk⟩
set_option maxRecDepth 100000 in
theorem act_via (hm : Mp B g m w bx t4 t5 t6) (h : Ln B w g gs) (hg : g < B) (hB : B ≤ w.heap.size) (hn : gs.length ≤ 1000000) (hp : (flatG gs).length ≤ 1000000) (o : OpP) (h1 : o.2.1.size ≤ 1000000) (h2 : o.2.2.size ≤ 1000000) :
    Calls Try.prog 53 #[.agg #[.int .i64 (o.1 : Nat), .string o.2.1, .string o.2.2], .pointer (some ⟨bx, 0, none⟩)] w (LPost B w g (putG (o.2.1 ++ ⟨#[46]⟩ ++ o.2.2) gs)) := by
  have hal : Below w.heap.size w (w.alloc (.cells #[.int .i64 (o.1 : Nat), .string o.2.1, .string o.2.2] 56)) := (Below.refl _ w).alloc (Nat.le_refl _) _
  have k := put_any (o.2.1 ++ ⟨#[46]⟩ ++ o.2.2) (h.below hal) hg (Nat.le_trans hB hal.size) hn hp
  have b0 := (hm.box.below hal).cell 0
  have lb := (hm.box.below hal).lt
  have ho := Bk.new w #[.int .i64 (o.1 : Nat), .string o.2.1, .string o.2.2] 56
  have o1 := ho.cell 1
  have o2 := ho.cell 2
  have lo := ho.lt
  have n1 : ¬ 9223372036854775807 < o.2.1.size + 1 := by omega
  have n2 : ¬ 9223372036854775807 < o.2.1.size + 1 + o.2.2.size := by omega
  have hK : Kp g B w _ := Kp.of_below (hal.mono hB) g
  clear h hal ho
  go_enter Try.func53, Try.ntmps53
  go_wp2_with fail
  generalize w.alloc (.cells #[.int .i64 (o.1 : Nat), .string o.2.1, .string o.2.2] 56) = W at *
  refine k.mono ?_
  rintro e W1 ⟨rfl, hl, hk⟩
  go_wp2_with fail
  go_returns
  exact ⟨rfl, hl, hK.trans hk⟩
set_option maxRecDepth 100000 in
theorem act_sign8 {ts : Nat} {s : ByteArray} (hm : Mp B g m w bx t4 t5 t6) (hs : Bk w ts #[.string s] 9) (hz : s.size ≤ 100) (h : Ln B w g gs) (hg : g < B) (hB : B ≤ w.heap.size) (hn : gs.length ≤ 1000000) (hp : (flatG gs).length ≤ 1000000) (o : OpP) :
    Calls Try.prog 48 #[.agg #[.int .i64 (o.1 : Nat), .string o.2.1, .string o.2.2], .pointer (some ⟨bx, 0, none⟩), .pointer (some ⟨ts, 0, none⟩)] w (LPost B w g (joinG s gs)) := by
  have hal : Below w.heap.size w (w.alloc (.cells #[.int .i64 (o.1 : Nat), .string o.2.1, .string o.2.2] 56)) := (Below.refl _ w).alloc (Nat.le_refl _) _
  have k := join_any s (h.below hal) hg (Nat.le_trans hB hal.size) hn hp hz
  have b0 := (hm.box.below hal).cell 0
  have lb := (hm.box.below hal).lt
  have s0 := (hs.below hal).cell 0
  have ls := (hs.below hal).lt
  have hK : Kp g B w _ := Kp.of_below (hal.mono hB) g
  clear h hal
  go_enter Try.func48, Try.ntmps48
  go_wp2_with fail
  generalize w.alloc (.cells #[.int .i64 (o.1 : Nat), .string o.2.1, .string o.2.2] 56) = W at *
  refine k.mono ?_
  rintro e W1 ⟨rfl, hl, hk⟩
  go_wp2_with fail
  go_returns
  exact ⟨rfl, hl, hK.trans hk⟩
end
theorem catL_size_app (a b : List ByteArray) : (catL (a ++ b)).size = (catL a).size + (catL b).size := by rw [catL_app, size_app]
theorem step_len (gs : List Gp) (o : OpP) (h1 : o.2.1.size ≤ 1000) (h2 : o.2.2.size ≤ 1000) :
    (stepG gs o).length ≤ gs.length + 1 ∧ (flatG (stepG gs o)).length ≤ (flatG gs).length + 2 ∧ (catL (flatG (stepG gs o))).size ≤ (catL (flatG gs)).size + 3000 := by
  unfold stepG
  split
  · have ht : (textG o).size ≤ 2001 := by
      unfold textG
      split
      · show 4 ≤ 2001; omega
      · split
        · omega
        · rw [size_app, size_app]; show o.2.1.size + 1 + o.2.2.size ≤ 2001; omega
    unfold putG
    rw [flat_app, List.length_append, List.length_append, catL_size_app]
    refine ⟨Nat.le_refl _, Nat.le_refl _, ?_⟩
    show _ + (⟨#[]⟩ ++ (textG o ++ ⟨#[]⟩) : ByteArray).size ≤ _
    rw [size_app, size_app]
    show _ + (0 + ((textG o).size + 0)) ≤ _
    omega
  · split
    · have hs := sgn_size o.1
      rcases List.eq_nil_or_concat gs with rfl | ⟨l1, b, rfl⟩
      · exact ⟨Nat.zero_le _, Nat.zero_le _, Nat.zero_le _⟩
      · rcases List.eq_nil_or_concat l1 with rfl | ⟨l, a, rfl⟩
        · refine ⟨?_, ?_, ?_⟩ <;> (simp only [List.concat_eq_append, List.nil_append]; show _ ≤ _ + _; exact Nat.le_add_right _ _)
        · simp only [List.concat_eq_append, List.append_assoc, List.singleton_append]
          rw [joinG_two, flat_merge, flat_two]
          refine ⟨by simp, ?_, ?_⟩
          · split <;> (simp only [List.length_append, List.length_cons, List.length_nil]; omega)
          · rw [catL_size_app, catL_size_app]
            show _ + ((if b.2 = true then sgnS o.1 ++ ⟨#[40]⟩ else sgnS o.1) ++ catL (b.1 ++ if b.2 = true then [⟨#[41]⟩] else [])).size ≤ _ + (⟨#[]⟩ ++ catL b.1 : ByteArray).size + 3000
            rw [size_app, catL_size_app, size_app]
            have e1 : (if b.2 = true then sgnS o.1 ++ ⟨#[40]⟩ else sgnS o.1).size ≤ 101 := by
              split
              · rw [size_app]; show _ + 1 ≤ _; omega
              · omega
            have e2 : (catL (if b.2 = true then [⟨#[41]⟩] else [])).size ≤ 1 := by split <;> decide
            show _ ≤ _ + (0 + _) + 3000
            omega
    · omega
theorem fold_len : ∀ (l : List OpP) (gs : List Gp), (∀ o ∈ l, o.2.1.size ≤ 1000 ∧ o.2.2.size ≤ 1000) →
    (foldG gs l).length ≤ gs.length + l.length ∧ (flatG (foldG gs l)).length ≤ (flatG gs).length + 2 * l.length ∧ (catL (flatG (foldG gs l))).size ≤ (catL (flatG gs)).size + 3000 * l.length
  | [], gs, _ => by
    show gs.length ≤ gs.length + 0 ∧ (flatG gs).length ≤ _ + 2 * 0 ∧ (catL (flatG gs)).size ≤ _ + 3000 * 0
    omega
  | o :: r, gs, h => by
    obtain ⟨a1, a2, a3⟩ := step_len gs o (h o List.mem_cons_self).1 (h o List.mem_cons_self).2
    obtain ⟨b1, b2, b3⟩ := fold_len r (stepG gs o) fun x hx => h x (List.mem_cons_of_mem _ hx)
    show (foldG (stepG gs o) r).length ≤ _ ∧ (flatG (foldG (stepG gs o) r)).length ≤ _ ∧ (catL (flatG (foldG (stepG gs o) r))).size ≤ _
    rw [List.length_cons]
    omega
theorem tail_cat : ∀ xs : List ByteArray, Lib.joinTail [] (xs.map (·.data.toList)) = (catL xs).data.toList
  | [] => rfl
  | x :: r => by
    have ih := tail_cat r
    unfold Lib.joinTail at *
    rw [List.map_cons, List.map_cons, List.flatten_cons, ih, List.nil_append]
    show _ = (x ++ catL r).data.toList
    rw [ByteArray.data_append, Array.toList_append]
theorem join_cat (xs : List ByteArray) : Lib.join (xs.map (·.data.toList)) [] = (catL xs).data.toList := by
  cases xs with
  | nil => rfl
  | cons x r =>
    rw [List.map_cons, Lib.join_cons, tail_cat]
    show _ = (x ++ catL r).data.toList
    rw [ByteArray.data_append, Array.toList_append]
/-- strings.Join with nothing between. -/
theorem join_any8 {w : World} {B : Nat} {A : Option Addr} {c : Nat} {xs : List ByteArray} (h : w.ownsRow B 9 1 (.slice A xs.length c) xs.length (xs.map .string)) (hz : (catL xs).size ≤ 1000000000) (hn : xs.length ≤ 1000000) :
    Calls Try.prog 30 #[.slice A xs.length c, .string ⟨#[]⟩] w fun e w' => e = .returned (.string (catL xs)) ∧ Below w.heap.size w w' := by
  rcases Nat.eq_zero_or_pos xs.length with h0 | h0
  · have hx := List.eq_nil_of_length_eq_zero h0
    subst hx
    exact (join_none A c ⟨#[]⟩ w).mono fun e w' ⟨h1, h2⟩ => ⟨h1, by subst h2; exact Below.refl _ _⟩
  · obtain ⟨g, rfl, _, hl, hc⟩ := own_sz h h0
    refine (join_some g 0 c xs ⟨#[]⟩ w (fun j x hj => ?_) hl (by omega) hc ?_).mono fun e w' ⟨h1, h2⟩ => ⟨?_, h2⟩
    · rw [Nat.zero_add, h.cellAt j (by have := (List.getElem?_eq_some_iff.1 hj).1; omega), List.getElem?_map, hj]
      rfl
    · rw [show (⟨#[]⟩ : ByteArray).data.toList = [] from rfl, join_cat, Array.length_toList]
      exact Nat.le_trans hz (by omega)
    · rw [h1, show (⟨#[]⟩ : ByteArray).data.toList = [] from rfl, join_cat]
theorem take_snoc8 {α : Type} {l : List α} {i : Nat} {x : α} (h : l[i]? = some x) : l.take (i + 1) = l.take i ++ [x] := by
  rw [List.take_add_one, h]
  rfl
theorem foldG_snoc (gs : List Gp) (l : List OpP) (o : OpP) : foldG gs (l ++ [o]) = stepG (foldG gs l) o := by unfold foldG; rw [List.foldl_append]; rfl
theorem run_enter {f : FuncId} {fn : Func} (hf : Try.prog.funcs[f]? = some fn) (hname : (fn.name == "runtime.NumGoroutine") = false) (hb : fn.body.isNone = false) (args : Array Value) (W : World) : (callFunc f args).run Try.prog W = .ok (.enter f args) W := by
  have h1 : ¬ fn.name = "runtime.NumGoroutine" := by
    intro e
    rw [e] at hname
    exact absurd hname (by decide)
  have h2 : ¬ fn.body = none := by
    intro e
    rw [e] at hb
    cases hb
  simp [callFunc, hf, h1, h2, Result.andThen]
/-- How an operation ends. -/
theorem act_k {w : World} {B g m bx t4 t5 t6 : Nat} {gs : List Gp} {o : OpP} (hm : Mp B g m w bx t4 t5 t6) (h : Ln B w g gs) (hg : g < B) (hB : B ≤ w.heap.size) (hn : gs.length ≤ 1000000) (hp : (flatG gs).length ≤ 1000000) (h1 : o.2.1.size ≤ 1000) (h2 : o.2.2.size ≤ 1000) :
    (¬ (1 ≤ o.1 ∧ o.1 ≤ 6) ∧ stepG gs o = gs) ∨ ∃ f caps i, ((actL bx t4 t5 t6).zipIdx 0).find? (fun q => decide ((q.1.1 : Int) = (o.1 : Int))) = some ((o.1, fnV f caps), i) ∧ (∀ args W, (callFunc f args).run Try.prog W = .ok (.enter f args) W) ∧ Calls Try.prog f (#[.agg #[.int .i64 (o.1 : Nat), .string o.2.1, .string o.2.2]] ++ caps) w (LPost B w g (stepG gs o)) := by
  by_cases hk : 1 ≤ o.1 ∧ o.1 ≤ 6
  · refine .inr ?_
    have hc : o.1 = 1 ∨ o.1 = 2 ∨ o.1 = 3 ∨ o.1 = 4 ∨ o.1 = 5 ∨ o.1 = 6 := by omega
    obtain ⟨k, n, q⟩ := o
    dsimp only at *
    rcases hc with rfl | rfl | rfl | rfl | rfl | rfl
    · exact ⟨_, _, _, rfl, run_enter Try.func50 (by kernel_rfl) (by kernel_rfl), act_this hm h hg hB hn hp (1, n, q)⟩
    · exact ⟨_, _, _, rfl, run_enter Try.func52 (by kernel_rfl) (by kernel_rfl), act_same hm h hg hB hn hp (2, n, q)⟩
    · exact ⟨_, _, _, rfl, run_enter Try.func53 (by kernel_rfl) (by kernel_rfl), act_via hm h hg hB hn hp (3, n, q) (by dsimp only; omega) (by dsimp only; omega)⟩
    · exact ⟨_, _, _, rfl, run_enter Try.func48 (by kernel_rfl) (by kernel_rfl), act_sign8 hm hm.s4 (sgn_size 4) h hg hB hn hp (4, n, q)⟩
    · exact ⟨_, _, _, rfl, run_enter Try.func48 (by kernel_rfl) (by kernel_rfl), act_sign8 hm hm.s5 (sgn_size 5) h hg hB hn hp (5, n, q)⟩
    · exact ⟨_, _, _, rfl, run_enter Try.func48 (by kernel_rfl) (by kernel_rfl), act_sign8 hm hm.s6 (sgn_size 6) h hg hB hn hp (6, n, q)⟩
  · refine .inl ⟨hk, ?_⟩
    unfold stepG
    rw [if_neg (by omega), if_neg (by omega)]
theorem ln_new (B : Nat) (w : World) : Ln B (w.alloc (.cells #[.slice none 0 0, .slice none 0 0] 84)) w.heap.size [] := ⟨none, 0, none, 0, Bk.new w _ _, World.ownsRow_nil _ _ _ _, World.ownsRow_nil _ _ _ _⟩
set_option maxRecDepth 100000 in
set_option maxHeartbeats 2000000 in
theorem rewrite_any {w : World} {A : Option Addr} {c : Nat} {l : List OpP} (hr : Rd w w.heap.size 3 A l.length c (ocells l)) (hn : l.length ≤ 100000) (hs : ∀ o ∈ l, o.2.1.size ≤ 1000 ∧ o.2.2.size ≤ 1000) :
    Calls Try.prog 15 #[.slice A l.length c] w fun e w' => e = .returned (.string (rewS l)) ∧ Below w.heap.size w w' := by
  have HS := Lib.hid hs
  go_enter Try.func15, Try.ntmps15
  go_wp2_with fail
  have hal : Below w.heap.size w (w.alloc (.cells #[.slice none 0 0, .slice none 0 0] 84)) := (Below.refl _ w).alloc (Nat.le_refl _) _
  have hl0 := fun B => ln_new B w
  have hz0 : w.heap.size < (w.alloc (.cells #[.slice none 0 0, .slice none 0 0] 84)).heap.size := by simp
  have k := does_any _ w.heap.size hz0
  generalize w.alloc (.cells #[.slice none 0 0, .slice none 0 0] 84) = W0 at *
  refine k.mono ?_
  rintro e W1 ⟨⟨m, bx, t4, t5, t6, rfl, hm⟩, hb1⟩
  have hl1 := (hl0 W1.heap.size).below hb1
  have hB1 := hal.trans (hb1.mono hal.size)
  have hgz : w.heap.size < W1.heap.size := Nat.lt_of_lt_of_le hz0 hb1.size
  have hr1 := hr.below hB1
  clear k hl0 hal hz0 hb1
  go_wp2_with fail
  go_loopw [15] (fun vi wr => ∃ i : Nat, vi = .int .i64 i ∧ i ≤ l.length ∧ Ln W1.heap.size wr w.heap.size (foldG [] (l.take i)) ∧ Kp w.heap.size W1.heap.size W1 wr) (fun vi _ => l.length - (intOf vi).toNat)
  case atStart => exact ⟨0, rfl, Nat.zero_le _, hl1, Kp.refl _ _ _⟩
  case round =>
    clear hl1
    obtain ⟨i, rfl, hi, hL, hK⟩ := hrel
    obtain ⟨b1, b2, b3⟩ := fold_len (l.take i) [] fun o ho => HS.out o (List.mem_of_mem_take ho)
    have hti : (l.take i).length = i := by rw [List.length_take]; omega
    rw [hti] at b1 b2 b3
    replace b1 : (foldG [] (l.take i)).length ≤ 0 + i := b1
    replace b2 : (flatG (foldG [] (l.take i))).length ≤ 0 + 2 * i := b2
    replace b3 : (catL (flatG (foldG [] (l.take i)))).size ≤ 0 + 3000 * i := b3
    by_cases hil : i < l.length
    · obtain ⟨o, ho⟩ : ∃ o, l[i]? = some o := ⟨l[i], List.getElem?_eq_getElem hil⟩
      have hso := HS.out o (List.mem_of_getElem? ho)
      have hts : foldG [] (l.take (i + 1)) = stepG (foldG [] (l.take i)) o := by rw [take_snoc8 ho, foldG_snoc]
      have hrr := hr1.keep fun p hp => (by unfold World.cell?; rw [hK.block p.block (by omega) (by omega)])
      obtain ⟨b, f, rfl, hbb, hc⟩ := hrr.at_ (by omega)
      obtain ⟨e0, e1, e2⟩ := ocells_at l i o ho
      have q0 := hc _ _ e0
      have q1 : wr.cell? ⟨b, f + i * 3 + 1, none⟩ = _ := hc _ _ e1
      have q2 : wr.cell? ⟨b, f + i * 3 + 2, none⟩ = _ := hc _ _ e2
      have hdi : (i : Int) < (l.length : Nat) := by omega
      have hal : Below wr.heap.size wr (wr.alloc (.cells #[.int .i64 (o.1 : Nat), .string o.2.1, .string o.2.2] 56)) := (Below.refl _ wr).alloc (Nat.le_refl _) _
      have hz := hK.size
      have hbo := Bk.new wr #[.int .i64 (o.1 : Nat), .string o.2.1, .string o.2.2] 56
      have hm2 := (hm.kp hK).kp (Kp.of_below (hal.mono hz) w.heap.size)
      have hstep := act_k (o := o) hm2 (hL.below hal) hgz (Nat.le_trans hz hal.size) (by omega) (by omega) hso.1 hso.2
      have hK2 := hK.trans (Kp.of_below (hal.mono hz) w.heap.size)
      have z0 : World.cell? _ ⟨wr.heap.size, 0, none⟩ = some (.int .i64 (o.1 : Nat)) := hbo.cell 0
      have z1 : World.cell? _ ⟨wr.heap.size, 1, none⟩ = some (.string o.2.1) := hbo.cell 1
      have z2 : World.cell? _ ⟨wr.heap.size, 2, none⟩ = some (.string o.2.2) := hbo.cell 2
      rcases hstep with ⟨hk, he⟩ | ⟨fn, caps, j, hf, hen, hcall⟩
      · have hlk := look_no hm2 hk
        clear hm hm2 hr hr1 hrr hs
        go_wp2_with fail
        refine ⟨⟨i + 1, by go_num, by omega, ?_, hK2⟩, ?_⟩
        · rw [hts, he]
          exact hL.below hal
        · simp only [intOf]; omega
      · have hlk := look_some hm2 o.1 j fn caps hf
        clear hm hm2 hr hr1 hrr hs
        go_wp2_with fail
        refine hcall.mono ?_
        rintro e W2 ⟨rfl, hL2, hk2⟩
        go_wp2_with fail
        refine ⟨⟨i + 1, by go_num, by omega, ?_, hK2.trans hk2⟩, ?_⟩
        · rw [hts]
          exact hL2
        · simp only [intOf]; omega
    · obtain rfl : i = l.length := by omega
      have hdi : ¬ (l.length : Int) < (l.length : Nat) := by omega
      rw [List.take_length] at hL b2 b3
      have hrw : catL (flatG (foldG [] l)) = rewS l := rfl
      obtain ⟨Ap, cp, Aq, cq, hL⟩ := hL
      have x0 : wr.cell? ⟨w.heap.size, 0, none⟩ = some (.slice Ap (flatG (foldG [] l)).length cp) := hL.cells.cell 0
      have lg := hL.cells.lt
      have kj := join_any8 hL.ps (by omega) (by omega)
      rw [hrw] at kj
      clear hL hm hr1
      go_wp2_with fail
      refine kj.mono ?_
      rintro e W2 ⟨rfl, hb2⟩
      go_wp2_with fail
      go_returns
      exact ⟨rfl, (hB1.trans (Kp.below hK (Nat.le_of_lt hgz) (Nat.le_refl _))).trans (hb2.mono (Nat.le_of_lt lg))⟩
end Go.Proofs.Ytkeonempmchpnaa
