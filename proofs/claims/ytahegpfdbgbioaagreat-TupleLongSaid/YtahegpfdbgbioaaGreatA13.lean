import Derived.Deep.DeepCutAuto
import Derived.Test.YtahegpfdbgbioaaGreatA12
set_option maxRecDepth 100000
set_option maxHeartbeats 4000000
namespace Go.Proofs.YtahegpfdbgbioaaGreat
open Go.RowKit
open Go.RowKit
open Go.RowKit
theorem sgn_size (k : Nat) : (sgnS k).size ≤ 100 := by
 unfold sgnS
 split
 · show 3 ≤ 100; omega
 · split <;> (show 3 ≤ 100; omega)
section
variable {w : World} {B g m bx t4 t5 t6 : Nat} {gs : List Gp}
theorem act_this (hm : Mp B g m w bx t4 t5 t6) (h : Ln B w g gs) (hg : g < B) (hB : B ≤ w.heap.size) (hn : gs.length ≤ 1000000) (hp : (flatG gs).length ≤ 1000000) (o : OpP) :
 Calls Tryz.prog 212 #[.agg #[.int .i64 (o.1 : Nat), .string o.2.1, .string o.2.2], .pointer (some ⟨bx, 0, none⟩)] w (LPost B w g (putG sThis gs)) := by
 have hal : Below w.heap.size w (w.alloc (.cells #[.int .i64 (o.1 : Nat), .string o.2.1, .string o.2.2] 166)) := (Below.refl _ w).alloc (Nat.le_refl _) _
 have k := put_any sThis (h.below hal) hg (Nat.le_trans hB hal.size) hn hp
 have b0 := (hm.box.below hal).cell 0
 have lb := (hm.box.below hal).lt
 have hK : Kp g B w _ := Kp.of_below (hal.mono hB) g
 clear h hal
 go_enter Tryz.func212, Tryz.ntmps212
 go_wp2_with fail
 generalize w.alloc (.cells #[.int .i64 (o.1 : Nat), .string o.2.1, .string o.2.2] 166) = W at *
 refine k.mono ?_
 rintro e W1 ⟨rfl, hl, hk⟩
 go_wp2_with fail
 go_returns
 exact ⟨rfl, hl, hK.trans hk⟩
theorem act_same (hm : Mp B g m w bx t4 t5 t6) (h : Ln B w g gs) (hg : g < B) (hB : B ≤ w.heap.size) (hn : gs.length ≤ 1000000) (hp : (flatG gs).length ≤ 1000000) (o : OpP) :
 Calls Tryz.prog 214 #[.agg #[.int .i64 (o.1 : Nat), .string o.2.1, .string o.2.2], .pointer (some ⟨bx, 0, none⟩)] w (LPost B w g (putG o.2.1 gs)) := by
 have hal : Below w.heap.size w (w.alloc (.cells #[.int .i64 (o.1 : Nat), .string o.2.1, .string o.2.2] 166)) := (Below.refl _ w).alloc (Nat.le_refl _) _
 have k := put_any o.2.1 (h.below hal) hg (Nat.le_trans hB hal.size) hn hp
 have b0 := (hm.box.below hal).cell 0
 have lb := (hm.box.below hal).lt
 have ho := Bk.new w #[.int .i64 (o.1 : Nat), .string o.2.1, .string o.2.2] 166
 have o1 := ho.cell 1
 have lo := ho.lt
 have hK : Kp g B w _ := Kp.of_below (hal.mono hB) g
 clear h hal ho
 go_enter Tryz.func214, Tryz.ntmps214
 go_wp2_with fail
 generalize w.alloc (.cells #[.int .i64 (o.1 : Nat), .string o.2.1, .string o.2.2] 166) = W at *
 refine k.mono ?_
 rintro e W1 ⟨rfl, hl, hk⟩
 go_wp2_with fail
 go_returns
 exact ⟨rfl, hl, hK.trans hk⟩
theorem act_via (hm : Mp B g m w bx t4 t5 t6) (h : Ln B w g gs) (hg : g < B) (hB : B ≤ w.heap.size) (hn : gs.length ≤ 1000000) (hp : (flatG gs).length ≤ 1000000) (o : OpP) (h1 : o.2.1.size ≤ 1000000) (h2 : o.2.2.size ≤ 1000000) :
 Calls Tryz.prog 215 #[.agg #[.int .i64 (o.1 : Nat), .string o.2.1, .string o.2.2], .pointer (some ⟨bx, 0, none⟩)] w (LPost B w g (putG (o.2.1 ++ ⟨#[46]⟩ ++ o.2.2) gs)) := by
 have hal : Below w.heap.size w (w.alloc (.cells #[.int .i64 (o.1 : Nat), .string o.2.1, .string o.2.2] 166)) := (Below.refl _ w).alloc (Nat.le_refl _) _
 have k := put_any (o.2.1 ++ ⟨#[46]⟩ ++ o.2.2) (h.below hal) hg (Nat.le_trans hB hal.size) hn hp
 have b0 := (hm.box.below hal).cell 0
 have lb := (hm.box.below hal).lt
 have ho := Bk.new w #[.int .i64 (o.1 : Nat), .string o.2.1, .string o.2.2] 166
 have o1 := ho.cell 1
 have o2 := ho.cell 2
 have lo := ho.lt
 have n1 : ¬ 9223372036854775807 < o.2.1.size + 1 := by omega
 have n2 : ¬ 9223372036854775807 < o.2.1.size + 1 + o.2.2.size := by omega
 have hK : Kp g B w _ := Kp.of_below (hal.mono hB) g
 clear h hal ho
 go_enter Tryz.func215, Tryz.ntmps215
 go_wp2_with fail
 generalize w.alloc (.cells #[.int .i64 (o.1 : Nat), .string o.2.1, .string o.2.2] 166) = W at *
 refine k.mono ?_
 rintro e W1 ⟨rfl, hl, hk⟩
 go_wp2_with fail
 go_returns
 exact ⟨rfl, hl, hK.trans hk⟩
theorem act_sign8 {ts : Nat} {s : ByteArray} (hm : Mp B g m w bx t4 t5 t6) (hs : Bk w ts #[.string s] 9) (hz : s.size ≤ 100) (h : Ln B w g gs) (hg : g < B) (hB : B ≤ w.heap.size) (hn : gs.length ≤ 1000000) (hp : (flatG gs).length ≤ 1000000) (o : OpP) :
 Calls Tryz.prog 210 #[.agg #[.int .i64 (o.1 : Nat), .string o.2.1, .string o.2.2], .pointer (some ⟨bx, 0, none⟩), .pointer (some ⟨ts, 0, none⟩)] w (LPost B w g (joinG s gs)) := by
 have hal : Below w.heap.size w (w.alloc (.cells #[.int .i64 (o.1 : Nat), .string o.2.1, .string o.2.2] 166)) := (Below.refl _ w).alloc (Nat.le_refl _) _
 have k := join_any s (h.below hal) hg (Nat.le_trans hB hal.size) hn hp hz
 have b0 := (hm.box.below hal).cell 0
 have lb := (hm.box.below hal).lt
 have s0 := (hs.below hal).cell 0
 have ls := (hs.below hal).lt
 have hK : Kp g B w _ := Kp.of_below (hal.mono hB) g
 clear h hal
 go_enter Tryz.func210, Tryz.ntmps210
 go_wp2_with fail
 generalize w.alloc (.cells #[.int .i64 (o.1 : Nat), .string o.2.1, .string o.2.2] 166) = W at *
 refine k.mono ?_
 rintro e W1 ⟨rfl, hl, hk⟩
 go_wp2_with fail
 go_returns
 exact ⟨rfl, hl, hK.trans hk⟩
end
theorem catL_size_app (a b : List ByteArray) : (catL (a ++ b)).size = (catL a).size + (catL b).size := by rw [catL_app, size_app]
theorem step_len (gs : List Gp) (o : OpP) (h1 : o.2.1.size ≤ 1000) (h2 : o.2.2.size ≤ 1000) :
 (stepG gs o).length ≤ gs.length + 1 ∧ (flatG (stepG gs o)).length ≤ (flatG gs).length + 2 ∧ (catL (flatG (stepG gs o))).size ≤ (catL (flatG gs)).size + 3000 := by
 unfold stepG
 split
 · have ht : (textG o).size ≤ 2001 := by
    unfold textG
    split
    · show 4 ≤ 2001; omega
    · split
      · omega
      · rw [size_app, size_app]; show o.2.1.size + 1 + o.2.2.size ≤ 2001; omega
   unfold putG
   rw [flat_app, List.length_append, List.length_append, catL_size_app]
   refine ⟨Nat.le_refl _, Nat.le_refl _, ?_⟩
   show _ + (⟨#[]⟩ ++ (textG o ++ ⟨#[]⟩) : ByteArray).size ≤ _
   rw [size_app, size_app]
   show _ + (0 + ((textG o).size + 0)) ≤ _
   omega
 · split
   · have hs := sgn_size o.1
     rcases List.eq_nil_or_concat gs with rfl | ⟨l1, b, rfl⟩
     · exact ⟨Nat.zero_le _, Nat.zero_le _, Nat.zero_le _⟩
     · rcases List.eq_nil_or_concat l1 with rfl | ⟨l, a, rfl⟩
       · refine ⟨?_, ?_, ?_⟩ <;> (simp only [List.concat_eq_append, List.nil_append]; show _ ≤ _ + _; exact Nat.le_add_right _ _)
       · simp only [List.concat_eq_append, List.append_assoc, List.singleton_append]
         rw [joinG_two, flat_merge, flat_two]
         refine ⟨by simp, ?_, ?_⟩
         · split <;> (simp only [List.length_append, List.length_cons, List.length_nil]; omega)
         · rw [catL_size_app, catL_size_app]
           show _ + ((if b.2 = true then sgnS o.1 ++ ⟨#[40]⟩ else sgnS o.1) ++ catL (b.1 ++ if b.2 = true then [⟨#[41]⟩] else [])).size ≤ _ + (⟨#[]⟩ ++ catL b.1 : ByteArray).size + 3000
           rw [size_app, catL_size_app, size_app]
           have e1 : (if b.2 = true then sgnS o.1 ++ ⟨#[40]⟩ else sgnS o.1).size ≤ 101 := by
            split
            · rw [size_app]; show _ + 1 ≤ _; omega
            · omega
           have e2 : (catL (if b.2 = true then [⟨#[41]⟩] else [])).size ≤ 1 := by split <;> decide
           show _ ≤ _ + (0 + _) + 3000
           omega
   · omega
theorem fold_len : ∀ (l : List OpP) (gs : List Gp), (∀ o ∈ l, o.2.1.size ≤ 1000 ∧ o.2.2.size ≤ 1000) →
 (foldG gs l).length ≤ gs.length + l.length ∧ (flatG (foldG gs l)).length ≤ (flatG gs).length + 2 * l.length ∧ (catL (flatG (foldG gs l))).size ≤ (catL (flatG gs)).size + 3000 * l.length
 | [], gs, _ => by
  show gs.length ≤ gs.length + 0 ∧ (flatG gs).length ≤ _ + 2 * 0 ∧ (catL (flatG gs)).size ≤ _ + 3000 * 0
  omega
 | o :: r, gs, h => by
  obtain ⟨a1, a2, a3⟩ := step_len gs o (h o List.mem_cons_self).1 (h o List.mem_cons_self).2
  obtain ⟨b1, b2, b3⟩ := fold_len r (stepG gs o) fun x hx => h x (List.mem_cons_of_mem _ hx)
  show (foldG (stepG gs o) r).length ≤ _ ∧ (flatG (foldG (stepG gs o) r)).length ≤ _ ∧ (catL (flatG (foldG (stepG gs o) r))).size ≤ _
  rw [List.length_cons]
  omega
theorem tail_cat : ∀ xs : List ByteArray, Lib.joinTail [] (xs.map (·.data.toList)) = (catL xs).data.toList
 | [] => rfl
 | x :: r => by
  have ih := tail_cat r
  unfold Lib.joinTail at *
  rw [List.map_cons, List.map_cons, List.flatten_cons, ih, List.nil_append]
  show _ = (x ++ catL r).data.toList
  rw [ByteArray.data_append, Array.toList_append]
theorem join_cat (xs : List ByteArray) : Lib.join (xs.map (·.data.toList)) [] = (catL xs).data.toList := by
 cases xs with
 | nil => rfl
 | cons x r =>
  rw [List.map_cons, Lib.join_cons, tail_cat]
  show _ = (x ++ catL r).data.toList
  rw [ByteArray.data_append, Array.toList_append]
theorem join_any8 {w : World} {B : Nat} {A : Option Addr} {c : Nat} {xs : List ByteArray} (h : w.ownsRow B 9 1 (.slice A xs.length c) xs.length (xs.map .string)) (hz : (catL xs).size ≤ 1000000000) (hn : xs.length ≤ 1000000) :
 Calls Tryz.prog 73 #[.slice A xs.length c, .string ⟨#[]⟩] w fun e w' => e = .returned (.string (catL xs)) ∧ Below w.heap.size w w' := by
 rcases Nat.eq_zero_or_pos xs.length with h0 | h0
 · have hx := List.eq_nil_of_length_eq_zero h0
   subst hx
   exact (join_none A c ⟨#[]⟩ w).mono fun e w' ⟨h1, h2⟩ => ⟨h1, by subst h2; exact Below.refl _ _⟩
 · obtain ⟨g, rfl, _, hl, hc⟩ := own_sz h h0
   refine (join_some g 0 c xs ⟨#[]⟩ w (fun j x hj => ?_) hl (by omega) hc ?_).mono fun e w' ⟨h1, h2⟩ => ⟨?_, h2⟩
   · rw [Nat.zero_add, h.cellAt j (by have := (List.getElem?_eq_some_iff.1 hj).1; omega), List.getElem?_map, hj]
     rfl
   · rw [show (⟨#[]⟩ : ByteArray).data.toList = [] from rfl, join_cat, Array.length_toList]
     exact Nat.le_trans hz (by omega)
   · rw [h1, show (⟨#[]⟩ : ByteArray).data.toList = [] from rfl, join_cat]
theorem take_snoc8 {α : Type} {l : List α} {i : Nat} {x : α} (h : l[i]? = some x) : l.take (i + 1) = l.take i ++ [x] := by
 rw [List.take_add_one, h]
 rfl
theorem foldG_snoc (gs : List Gp) (l : List OpP) (o : OpP) : foldG gs (l ++ [o]) = stepG (foldG gs l) o := by unfold foldG; rw [List.foldl_append]; rfl
theorem run_enter {f : FuncId} {fn : Func} (hf : Tryz.prog.funcs[f]? = some fn) (hname : (fn.name == "runtime.NumGoroutine") = false) (hb : fn.body.isNone = false) (args : Array Value) (W : World) : (callFunc f args).run Tryz.prog W = .ok (.enter f args) W := by
 have h1 : ¬ fn.name = "runtime.NumGoroutine" := by
  intro e
  rw [e] at hname
  exact absurd hname (by decide)
 have h2 : ¬ fn.body = none := by
  intro e
  rw [e] at hb
  cases hb
 simp [callFunc, hf, h1, h2, Result.andThen]
theorem act_k {w : World} {B g m bx t4 t5 t6 : Nat} {gs : List Gp} {o : OpP} (hm : Mp B g m w bx t4 t5 t6) (h : Ln B w g gs) (hg : g < B) (hB : B ≤ w.heap.size) (hn : gs.length ≤ 1000000) (hp : (flatG gs).length ≤ 1000000) (h1 : o.2.1.size ≤ 1000) (h2 : o.2.2.size ≤ 1000) :
 (¬ (1 ≤ o.1 ∧ o.1 ≤ 6) ∧ stepG gs o = gs) ∨ ∃ f caps i, ((actL bx t4 t5 t6).zipIdx 0).find? (fun q => decide ((q.1.1 : Int) = (o.1 : Int))) = some ((o.1, fnV f caps), i) ∧ (∀ args W, (callFunc f args).run Tryz.prog W = .ok (.enter f args) W) ∧ Calls Tryz.prog f (#[.agg #[.int .i64 (o.1 : Nat), .string o.2.1, .string o.2.2]] ++ caps) w (LPost B w g (stepG gs o)) := by
 by_cases hk : 1 ≤ o.1 ∧ o.1 ≤ 6
 · refine .inr ?_
   have hc : o.1 = 1 ∨ o.1 = 2 ∨ o.1 = 3 ∨ o.1 = 4 ∨ o.1 = 5 ∨ o.1 = 6 := by omega
   obtain ⟨k, n, q⟩ := o
   dsimp only at *
   rcases hc with rfl | rfl | rfl | rfl | rfl | rfl
   · exact ⟨_, _, _, rfl, run_enter Tryz.func212 (by kernel_rfl) (by kernel_rfl), act_this hm h hg hB hn hp (1, n, q)⟩
   · exact ⟨_, _, _, rfl, run_enter Tryz.func214 (by kernel_rfl) (by kernel_rfl), act_same hm h hg hB hn hp (2, n, q)⟩
   · exact ⟨_, _, _, rfl, run_enter Tryz.func215 (by kernel_rfl) (by kernel_rfl), act_via hm h hg hB hn hp (3, n, q) (by dsimp only; omega) (by dsimp only; omega)⟩
   · exact ⟨_, _, _, rfl, run_enter Tryz.func210 (by kernel_rfl) (by kernel_rfl), act_sign8 hm hm.s4 (sgn_size 4) h hg hB hn hp (4, n, q)⟩
   · exact ⟨_, _, _, rfl, run_enter Tryz.func210 (by kernel_rfl) (by kernel_rfl), act_sign8 hm hm.s5 (sgn_size 5) h hg hB hn hp (5, n, q)⟩
   · exact ⟨_, _, _, rfl, run_enter Tryz.func210 (by kernel_rfl) (by kernel_rfl), act_sign8 hm hm.s6 (sgn_size 6) h hg hB hn hp (6, n, q)⟩
 · refine .inl ⟨hk, ?_⟩
   unfold stepG
   rw [if_neg (by omega), if_neg (by omega)]
theorem ln_new (B : Nat) (w : World) : Ln B (w.alloc (.cells #[.slice none 0 0, .slice none 0 0] 284)) w.heap.size [] := ⟨none, 0, none, 0, Bk.new w _ _, World.ownsRow_nil _ _ _ _, World.ownsRow_nil _ _ _ _⟩
theorem rewrite_any {w : World} {A : Option Addr} {c : Nat} {l : List OpP} (hr : Rd w w.heap.size 3 A l.length c (ocells l)) (hn : l.length ≤ 100000) (hs : ∀ o ∈ l, o.2.1.size ≤ 1000 ∧ o.2.2.size ≤ 1000) :
 Calls Tryz.prog 146 #[.slice A l.length c] w fun e w' => e = .returned (.string (rewS l)) ∧ Below w.heap.size w w' := by
 have HS := Lib.hid hs
 go_enter Tryz.func146, Tryz.ntmps146
 go_wp2_with fail
 have hal : Below w.heap.size w (w.alloc (.cells #[.slice none 0 0, .slice none 0 0] 284)) := (Below.refl _ w).alloc (Nat.le_refl _) _
 have hl0 := fun B => ln_new B w
 have hz0 : w.heap.size < (w.alloc (.cells #[.slice none 0 0, .slice none 0 0] 284)).heap.size := by simp
 have k := does_any _ w.heap.size hz0
 generalize w.alloc (.cells #[.slice none 0 0, .slice none 0 0] 284) = W0 at *
 refine k.mono ?_
 rintro e W1 ⟨⟨m, bx, t4, t5, t6, rfl, hm⟩, hb1⟩
 have hl1 := (hl0 W1.heap.size).below hb1
 have hB1 := hal.trans (hb1.mono hal.size)
 have hgz : w.heap.size < W1.heap.size := Nat.lt_of_lt_of_le hz0 hb1.size
 have hr1 := hr.below hB1
 clear k hl0 hal hz0 hb1
 go_wp2_with fail
 go_loopw [15] (fun vi wr => ∃ i : Nat, vi = .int .i64 i ∧ i ≤ l.length ∧ Ln W1.heap.size wr w.heap.size (foldG [] (l.take i)) ∧ Kp w.heap.size W1.heap.size W1 wr) (fun vi _ => l.length - (intOf vi).toNat)
 case atStart => exact ⟨0, rfl, Nat.zero_le _, hl1, Kp.refl _ _ _⟩
 case round =>
  clear hl1
  obtain ⟨i, rfl, hi, hL, hK⟩ := hrel
  obtain ⟨b1, b2, b3⟩ := fold_len (l.take i) [] fun o ho => HS.out o (List.mem_of_mem_take ho)
  have hti : (l.take i).length = i := by rw [List.length_take]; omega
  rw [hti] at b1 b2 b3
  replace b1 : (foldG [] (l.take i)).length ≤ 0 + i := b1
  replace b2 : (flatG (foldG [] (l.take i))).length ≤ 0 + 2 * i := b2
  replace b3 : (catL (flatG (foldG [] (l.take i)))).size ≤ 0 + 3000 * i := b3
  by_cases hil : i < l.length
  · obtain ⟨o, ho⟩ : ∃ o, l[i]? = some o := ⟨l[i], List.getElem?_eq_getElem hil⟩
    have hso := HS.out o (List.mem_of_getElem? ho)
    have hts : foldG [] (l.take (i + 1)) = stepG (foldG [] (l.take i)) o := by rw [take_snoc8 ho, foldG_snoc]
    have hrr := hr1.keep fun p hp => (by unfold World.cell?; rw [hK.block p.block (by omega) (by omega)])
    obtain ⟨b, f, rfl, hbb, hc⟩ := hrr.at_ (by omega)
    obtain ⟨e0, e1, e2⟩ := ocells_at l i o ho
    have q0 := hc _ _ e0
    have q1 : wr.cell? ⟨b, f + i * 3 + 1, none⟩ = _ := hc _ _ e1
    have q2 : wr.cell? ⟨b, f + i * 3 + 2, none⟩ = _ := hc _ _ e2
    have hdi : (i : Int) < (l.length : Nat) := by omega
    have hal : Below wr.heap.size wr (wr.alloc (.cells #[.int .i64 (o.1 : Nat), .string o.2.1, .string o.2.2] 166)) := (Below.refl _ wr).alloc (Nat.le_refl _) _
    have hz := hK.size
    have hbo := Bk.new wr #[.int .i64 (o.1 : Nat), .string o.2.1, .string o.2.2] 166
    have hm2 := (hm.kp hK).kp (Kp.of_below (hal.mono hz) w.heap.size)
    have hstep := act_k (o := o) hm2 (hL.below hal) hgz (Nat.le_trans hz hal.size) (by omega) (by omega) hso.1 hso.2
    have hK2 := hK.trans (Kp.of_below (hal.mono hz) w.heap.size)
    have z0 : World.cell? _ ⟨wr.heap.size, 0, none⟩ = some (.int .i64 (o.1 : Nat)) := hbo.cell 0
    have z1 : World.cell? _ ⟨wr.heap.size, 1, none⟩ = some (.string o.2.1) := hbo.cell 1
    have z2 : World.cell? _ ⟨wr.heap.size, 2, none⟩ = some (.string o.2.2) := hbo.cell 2
    rcases hstep with ⟨hk, he⟩ | ⟨fn, caps, j, hf, hen, hcall⟩
    · have hlk := look_no hm2 hk
      clear hm hm2 hr hr1 hrr hs
      go_wp2_with fail
      refine ⟨⟨i + 1, by go_num, by omega, ?_, hK2⟩, ?_⟩
      · rw [hts, he]
        exact hL.below hal
      · simp only [intOf]; omega
    · have hlk := look_some hm2 o.1 j fn caps hf
      clear hm hm2 hr hr1 hrr hs
      go_wp2_with fail
      refine hcall.mono ?_
      rintro e W2 ⟨rfl, hL2, hk2⟩
      go_wp2_with fail
      refine ⟨⟨i + 1, by go_num, by omega, ?_, hK2.trans hk2⟩, ?_⟩
      · rw [hts]
        exact hL2
      · simp only [intOf]; omega
  · obtain rfl : i = l.length := by omega
    have hdi : ¬ (l.length : Int) < (l.length : Nat) := by omega
    rw [List.take_length] at hL b2 b3
    have hrw : catL (flatG (foldG [] l)) = rewS l := rfl
    obtain ⟨Ap, cp, Aq, cq, hL⟩ := hL
    have x0 : wr.cell? ⟨w.heap.size, 0, none⟩ = some (.slice Ap (flatG (foldG [] l)).length cp) := hL.cells.cell 0
    have lg := hL.cells.lt
    have kj := join_any8 hL.ps (by omega) (by omega)
    rw [hrw] at kj
    clear hL hm hr1
    go_wp2_with fail
    refine kj.mono ?_
    rintro e W2 ⟨rfl, hb2⟩
    go_wp2_with fail
    go_returns
    exact ⟨rfl, (hB1.trans (Kp.below hK (Nat.le_of_lt hgz) (Nat.le_refl _))).trans (hb2.mono (Nat.le_of_lt lg))⟩
def subS (s : SubP) : ByteArray := if s.2 = ⟨#[]⟩ then s.1 else s.1 ++ ⟨#[35]⟩ ++ s.2
def tailJ (sep : ByteArray) : List ByteArray → ByteArray
 | [] => ⟨#[]⟩
 | x :: r => sep ++ x ++ tailJ sep r
def joinJ (sep : ByteArray) : List ByteArray → ByteArray
 | [] => ⟨#[]⟩
 | x :: r => x ++ tailJ sep r
def subsS (l : List SubP) : ByteArray := joinJ ⟨#[44, 32]⟩ (l.map subS)
def aloneB (l : List OpP) : Bool := match l with
 | [o] => o.1 == 1
 | _ => false
def headS (x : RelP) : ByteArray := (⟨#[114, 101, 108, 32]⟩ : ByteArray) ++ x.name ++ ⟨#[32, 40]⟩ ++ x.view ++ ⟨#[44, 32]⟩ ++ x.edit ++ ⟨#[44, 32]⟩ ++ x.check ++ ⟨#[41, 58]⟩
def whoS (x : RelP) : ByteArray := if x.subs.length = 0 then headS x else headS x ++ (⟨#[32]⟩ ++ subsS x.subs)
def relS (x : RelP) : ByteArray := (if aloneB x.ops = true then whoS x else whoS x ++ (⟨#[32, 105, 115, 32]⟩ ++ rewS x.ops)) ++ ⟨#[59]⟩
structure Sml (x : RelP) : Prop where
 name : x.name.size ≤ 1000
 view : x.view.size ≤ 1000
 edit : x.edit.size ≤ 1000
 check : x.check.size ≤ 1000
 subs : x.subs.length ≤ 100000 ∧ ∀ s ∈ x.subs, s.1.size ≤ 1000 ∧ s.2.size ≤ 1000
 ops : x.ops.length ≤ 100000 ∧ ∀ o ∈ x.ops, o.2.1.size ≤ 1000 ∧ o.2.2.size ≤ 1000
theorem sub_size {s : SubP} (h1 : s.1.size ≤ 1000) (h2 : s.2.size ≤ 1000) : (subS s).size ≤ 2001 := by
 unfold subS
 split
 · omega
 · rw [size_app, size_app]
   show s.1.size + 1 + s.2.size ≤ 2001
   omega
theorem tail_size (sep : ByteArray) (hs : sep.size ≤ 2) : ∀ l : List ByteArray, (∀ x ∈ l, x.size ≤ 2001) → (tailJ sep l).size ≤ 2003 * l.length
 | [], _ => Nat.le_refl _
 | x :: r, h => by
  show (sep ++ x ++ tailJ sep r).size ≤ _
  have := tail_size sep hs r fun y hy => h y (List.mem_cons_of_mem _ hy)
  have := h x List.mem_cons_self
  rw [size_app, size_app, List.length_cons]
  omega
theorem subs_size {l : List SubP} (h : ∀ s ∈ l, s.1.size ≤ 1000 ∧ s.2.size ≤ 1000) : (subsS l).size ≤ 2003 * l.length := by
 cases l with
 | nil => exact Nat.le_refl _
 | cons s r =>
  show (subS s ++ tailJ _ (r.map subS)).size ≤ _
  have h1 := sub_size (h s List.mem_cons_self).1 (h s List.mem_cons_self).2
  have h2 := tail_size ⟨#[44, 32]⟩ (by decide) (r.map subS) fun x hx => by
   obtain ⟨y, hy, rfl⟩ := List.mem_map.1 hx
   exact sub_size (h y (List.mem_cons_of_mem _ hy)).1 (h y (List.mem_cons_of_mem _ hy)).2
  rw [List.length_map] at h2
  rw [size_app, List.length_cons]
  omega
theorem rew_size {l : List OpP} (h : ∀ o ∈ l, o.2.1.size ≤ 1000 ∧ o.2.2.size ≤ 1000) : (rewS l).size ≤ 3000 * l.length := by
 have := (fold_len l [] h).2.2
 have e : (catL (flatG [])).size = 0 := rfl
 rw [e] at this
 unfold rewS
 omega
theorem who_size {x : RelP} (h : Sml x) : (headS x).size ≤ 4100 ∧ (whoS x).size ≤ 4101 + 2003 * x.subs.length := by
 have h1 := h.name
 have h2 := h.view
 have h3 := h.edit
 have h4 := h.check
 have hh : (headS x).size ≤ 4100 := by
  unfold headS
  simp only [size_app]
  show 4 + _ + 2 + _ + 2 + _ + 2 + _ + 2 ≤ _
  omega
 refine ⟨hh, ?_⟩
 unfold whoS
 split
 · omega
 · have := subs_size h.subs.2
   rw [size_app, size_app]
   show _ + (1 + _) ≤ _
   omega
theorem tailJ_eq (sep : ByteArray) : ∀ xs : List ByteArray, Lib.joinTail sep.data.toList (xs.map (·.data.toList)) = (tailJ sep xs).data.toList
 | [] => rfl
 | x :: r => by
  have ih := tailJ_eq sep r
  unfold Lib.joinTail at *
  rw [List.map_cons, List.map_cons, List.flatten_cons, ih]
  show _ = (sep ++ x ++ tailJ sep r).data.toList
  rw [ByteArray.data_append, ByteArray.data_append, Array.toList_append, Array.toList_append]
theorem joinJ_eq (sep : ByteArray) (xs : List ByteArray) : Lib.join (xs.map (·.data.toList)) sep.data.toList = (joinJ sep xs).data.toList := by
 cases xs with
 | nil => rfl
 | cons x r =>
  rw [List.map_cons, Lib.join_cons, tailJ_eq]
  show _ = (x ++ tailJ sep r).data.toList
  rw [ByteArray.data_append, Array.toList_append]
theorem joinJ_any {w : World} {B : Nat} {A : Option Addr} {c : Nat} {xs : List ByteArray} (sep : ByteArray) (h : w.ownsRow B 9 1 (.slice A xs.length c) xs.length (xs.map .string)) (hz : (joinJ sep xs).size ≤ 1000000000) (hn : xs.length ≤ 1000000) :
 Calls Tryz.prog 73 #[.slice A xs.length c, .string sep] w fun e w' => e = .returned (.string (joinJ sep xs)) ∧ Below w.heap.size w w' := by
 rcases Nat.eq_zero_or_pos xs.length with h0 | h0
 · have hx := List.eq_nil_of_length_eq_zero h0
   subst hx
   exact (join_none A c sep w).mono fun e w' ⟨h1, h2⟩ => ⟨h1, by subst h2; exact Below.refl _ _⟩
 · obtain ⟨g, rfl, _, hl, hc⟩ := own_sz h h0
   refine (join_some g 0 c xs sep w (fun j x hj => ?_) hl (by omega) hc ?_).mono fun e w' ⟨h1, h2⟩ => ⟨?_, h2⟩
   · rw [Nat.zero_add, h.cellAt j (by have := (List.getElem?_eq_some_iff.1 hj).1; omega), List.getElem?_map, hj]
     rfl
   · rw [joinJ_eq, Array.length_toList]
     exact Nat.le_trans hz (by omega)
   · rw [h1, joinJ_eq]
section
variable {w : World}
theorem sub_any8 (s : SubP) (h1 : s.1.size ≤ 1000) (h2 : s.2.size ≤ 1000) : Calls Tryz.prog 183 #[.agg #[.string s.1, .string s.2]] w fun e w' => e = .returned (.string (subS s)) ∧ Below w.heap.size w w' := by
 have hb := Bk.new w #[.string s.1, .string s.2] 126
 have b0 := hb.cell 0
 have b1 := hb.cell 1
 have lb := hb.lt
 have hB : Below w.heap.size w (w.alloc (.cells #[.string s.1, .string s.2] 126)) := (Below.refl _ w).alloc (Nat.le_refl _) _
 clear hb
 unfold subS
 by_cases he : s.2 = ⟨#[]⟩
 · rw [if_pos he]
   have d : s.2.toList.isEmpty = true := by rw [he]; decide +kernel
   clear he
   go_enter Tryz.func183, Tryz.ntmps183
   go_wp2_with fail
   go_returns
   exact ⟨rfl, hB⟩
 · rw [if_neg he]
   have d : s.2.toList.isEmpty = false := list_ne2 (by
    rcases Nat.eq_zero_or_pos s.2.size with h | h
    · exact absurd (nil_size h) he
    · exact h)
   go_enter Tryz.func183, Tryz.ntmps183
   go_wp2_with fail
   go_returns
   exact ⟨rfl, hB⟩
theorem subs_any8 {A : Option Addr} {c : Nat} {l : List SubP} (hr : Rd w w.heap.size 2 A l.length c (scells l)) (hn : l.length ≤ 100000) (hs : ∀ s ∈ l, s.1.size ≤ 1000 ∧ s.2.size ≤ 1000) :
 Calls Tryz.prog 144 #[.slice A l.length c] w fun e w' => e = .returned (.string (subsS l)) ∧ Below w.heap.size w w' := by
 have HS := Lib.hid hs
 go_enter Tryz.func144, Tryz.ntmps144
 go_wp2_with fail
 go_loopw [3, 8] (fun vt vi wr => ∃ i : Nat, vi = .int .i64 i ∧ i ≤ l.length ∧ wr.ownsRow w.heap.size 9 1 vt i (((l.take i).map subS).map .string) ∧ Below w.heap.size w wr) (fun _ vi _ => l.length - (intOf vi).toNat)
 case atStart => exact ⟨0, rfl, Nat.zero_le _, World.ownsRow_nil _ _ _ _, Below.refl _ _⟩
 case round =>
  obtain ⟨i, rfl, hi, ho, hb⟩ := hrel
  obtain ⟨A1, c1, rfl, _⟩ := Rd.own ho
  by_cases hil : i < l.length
  · obtain ⟨s, hsi⟩ : ∃ s, l[i]? = some s := ⟨l[i], List.getElem?_eq_getElem hil⟩
    obtain ⟨s1, s2⟩ := HS.out s (List.mem_of_getElem? hsi)
    have hrr := hr.below hb
    obtain ⟨b, f, rfl, hbb, hc⟩ := hrr.at_ (by omega)
    obtain ⟨e0, e1⟩ := scells_at l i s hsi
    have q0 := hc _ _ e0
    have q1 : wr.cell? ⟨b, f + i * 2 + 1, none⟩ = _ := hc _ _ e1
    have hdi : (i : Int) < (l.length : Nat) := by omega
    have hz := hb.size
    have hbs := Bk.new wr #[.string s.1, .string s.2] 126
    have x0 : World.cell? _ ⟨wr.heap.size, 0, none⟩ = some (.string s.1) := hbs.cell 0
    have x1 : World.cell? _ ⟨wr.heap.size, 1, none⟩ = some (.string s.2) := hbs.cell 1
    have lb := hbs.lt
    have hb2 := hb.alloc hz (.cells #[.string s.1, .string s.2] 126)
    have ho2 := own_below ho ((Below.refl _ wr).alloc (Nat.le_refl _) (.cells #[.string s.1, .string s.2] 126))
    have ht : (l.take (i + 1)).map subS = (l.take i).map subS ++ [subS s] := by rw [take_snoc8 hsi, List.map_append]; rfl
    clear hr hrr hs hbs ho hb
    go_wp2_with fail
    generalize wr.alloc (.cells #[.string s.1, .string s.2] 126) = W at *
    refine (sub_any8 s s1 s2).mono ?_
    rintro e W2 ⟨rfl, hb3⟩
    have hb4 := hb2.trans (hb3.mono hb2.size)
    have ho4 := own_below ho2 hb3
    have hz4 := hb4.size
    obtain ⟨i0, hi0, hz0, hz1, hz2⟩ := info_parts info_str
    clear hb2 hb3 ho2 x0 x1 q0 q1
    go_wp2_with (at_builtin; refine wpList_append_src _ rfl (.tmp 12) (.tmp 15) 23 23 rfl w.heap.size 9 i0 (.string .empty) 1 16 Tryz.underlying23 hi0 hz0 hz1 hz2 rfl (by decide) _ i (((l.take i).map subS).map .string) rfl (World.ownsRow.alloc ho4 _) _ 1 [.string (subS s)] rfl (Src.ofSlice _ Tryz.underlying23 _ 1 1 _ rfl (cells_new1P _ _ _) (str_one [subS s])) (by simp only [maxLen]; omega) (by omega) (size_alloc hz4) ?_; intro v1 W5 hown1 hg1 hat1; obtain ⟨A5, c5, rfl, _⟩ := Rd.own hown1)
    refine ⟨⟨i + 1, by go_num, by omega, ?_, ?_⟩, ?_⟩
    · rw [ht, List.map_append]
      exact hown1
    · exact below_of_own (v := .slice A1 i c1) (hb4.alloc hz4 _) hg1 (World.ownsRow.alloc ho4 _) (size_alloc hz4) (Nat.le_refl _)
    · simp only [intOf]; omega
  · obtain rfl : i = l.length := by omega
    have hdi : ¬ (l.length : Int) < (l.length : Nat) := by omega
    rw [List.take_length] at ho
    have hl : (l.map subS).length = l.length := List.length_map ..
    have hsz := subs_size HS.out
    have kj := joinJ_any (w := wr) (B := w.heap.size) (A := A1) (c := c1) (xs := l.map subS) ⟨#[44, 32]⟩ (by rw [hl]; exact ho) (by show (subsS l).size ≤ _; omega) (by omega)
    rw [hl, show joinJ ⟨#[44, 32]⟩ (l.map subS) = subsS l from rfl] at kj
    have hz := hb.size
    clear ho hr hs hl
    go_wp2_with fail
    refine kj.mono ?_
    rintro e W2 ⟨rfl, hb2⟩
    go_wp2_with fail
    go_returns
    exact ⟨rfl, hb.trans (hb2.mono hz)⟩
theorem alone_any8 {A : Option Addr} {c : Nat} {l : List OpP} (hr : Rd w w.heap.size 3 A l.length c (ocells l)) :
 Calls Tryz.prog 145 #[.slice A l.length c] w fun e w' => e = .returned (.bool (aloneB l)) ∧ Below w.heap.size w w' := by
 rcases l with _ | ⟨o, _ | ⟨o2, r⟩⟩
 · go_enter Tryz.func145, Tryz.ntmps145
   go_wp2_with fail
   go_returns
   exact ⟨rfl, Below.refl _ _⟩
 · obtain ⟨b, f, rfl, hbb, hc⟩ := hr.at_ (show 0 < 1 by omega)
   have q0 : w.cell? ⟨b, f, none⟩ = some (.int .i64 (o.1 : Nat)) := hc 0 _ rfl
   have hv : aloneB [o] = (((o.1 : Nat) : Int) == 1) := by
    show (o.1 == 1) = _
    rw [Bool.eq_iff_iff]
    simp only [beq_iff_eq]
    omega
   rw [hv]
   clear hr hc hv
   obtain ⟨k, hk⟩ : ∃ k : Int, ((o.1 : Nat) : Int) = k := ⟨_, rfl⟩
   rw [hk] at q0 ⊢
   go_enter Tryz.func145, Tryz.ntmps145
   go_wp2_with fail
   go_returns
   exact ⟨rfl, Below.refl _ _⟩
 · have d : ((((o :: o2 :: r).length : Nat) : Int) == 1) = false := by
    rw [beq_eq_false_iff_ne]
    simp only [List.length_cons]
    omega
   obtain ⟨n, hn⟩ : ∃ n, (o :: o2 :: r).length = n := ⟨_, rfl⟩
   rw [hn] at d ⊢
   clear hr hn
   go_enter Tryz.func145, Tryz.ntmps145
   go_wp2_with fail
   go_returns
   exact ⟨rfl, Below.refl _ _⟩
def relV (As : Option Addr) (cS : Nat) (Ao : Option Addr) (cO : Nat) (x : RelP) : Value := .agg #[.string x.name, .string x.view, .string x.edit, .string x.check, .slice As x.subs.length cS, .slice Ao x.ops.length cO]
theorem relation_any8 {As Ao : Option Addr} {cS cO : Nat} {x : RelP} (hs : Rd w w.heap.size 2 As x.subs.length cS (scells x.subs)) (ho : Rd w w.heap.size 3 Ao x.ops.length cO (ocells x.ops)) (hx : Sml x) :
 Calls Tryz.prog 94 #[relV As cS Ao cO x] w fun e w' => e = .returned (.string (relS x)) ∧ Below w.heap.size w w' := by
 have h1 := hx.name
 have h2 := hx.view
 have h3 := hx.edit
 have h4 := hx.check
 have h5 := (who_size hx).1
 have h6 := (who_size hx).2
 have h7 := hx.subs.1
 have h8 := hx.ops.1
 have h9 := subs_size hx.subs.2
 have h10 := rew_size hx.ops.2
 unfold relV
 have hb := Bk.new w #[.string x.name, .string x.view, .string x.edit, .string x.check, .slice As x.subs.length cS, .slice Ao x.ops.length cO] 149
 have hB : Below w.heap.size w (w.alloc (.cells #[.string x.name, .string x.view, .string x.edit, .string x.check, .slice As x.subs.length cS, .slice Ao x.ops.length cO] 149)) := (Below.refl _ w).alloc (Nat.le_refl _) _
 have HH : Hid (headS x = (⟨#[114, 101, 108, 32]⟩ : ByteArray) ++ x.name ++ ⟨#[32, 40]⟩ ++ x.view ++ ⟨#[44, 32]⟩ ++ x.edit ++ ⟨#[44, 32]⟩ ++ x.check ++ ⟨#[41, 58]⟩) := Lib.hid rfl
 have b0 := hb.cell 0
 have b1 := hb.cell 1
 have b2 := hb.cell 2
 have b3 := hb.cell 3
 have b4 := hb.cell 4
 have b5 := hb.cell 5
 have lb := hb.lt
 have hs' := hs.below hB
 have ho' := ho.below hB
 have hN := hx.subs.2
 have hO := hx.ops.2
 have hsz := hB.size
 clear hs ho hx hb
 obtain ⟨RS, hRS⟩ : ∃ r, relS x = r := ⟨_, rfl⟩
 rw [hRS]
 have hR1 : ∀ b, aloneB x.ops = b → (if b = true then whoS x else whoS x ++ (⟨#[32, 105, 115, 32]⟩ ++ rewS x.ops)) ++ ⟨#[59]⟩ = RS := fun b hb => by rw [← hRS, ← hb]; rfl
 clear hRS
 generalize hw : whoS x = WS at *
 unfold whoS at hw
 go_enter Tryz.func94, Tryz.ntmps94
 by_cases hz : x.subs.length = 0
 · rw [if_pos hz] at hw
   have d : ¬ (0 : Int) < (x.subs.length : Nat) := by omega
   clear hz
   go_wp2_with fail
   rw [← HH.out, hw]
   generalize (w.alloc (.cells #[.string x.name, .string x.view, .string x.edit, .string x.check, .slice As x.subs.length cS, .slice Ao x.ops.length cO] 149)) = W at *
   refine (alone_any8 (ho'.more hsz)).mono ?_
   rintro e V ⟨rfl, hV⟩
   have b5' := (hV.cell (p := ⟨w.heap.size, 5, none⟩) lb).trans b5
   have lb' : w.heap.size < V.heap.size := Nat.lt_of_lt_of_le lb hV.size
   have hoV := ((ho'.more hsz).below hV).more hV.size
   have hBV := hB.trans (hV.mono hsz)
   cases hal : aloneB x.ops with
   | true =>
    have hR2 := hR1 _ hal
    simp only [↓reduceIte] at hR2
    subst hR2
    clear hR1
    go_wp2_with fail
    go_returns
    exact ⟨rfl, hBV⟩
   | false =>
    have hR2 := hR1 _ hal
    simp only [Bool.false_eq_true, ↓reduceIte] at hR2
    subst hR2
    clear hR1
    go_wp2_with fail
    refine (rewrite_any hoV h8 hO).mono ?_
    rintro e V2 ⟨rfl, hV2⟩
    go_wp2_with fail
    go_returns
    exact ⟨rfl, hBV.trans (hV2.mono hBV.size)⟩
 · rw [if_neg hz] at hw
   have d : (0 : Int) < (x.subs.length : Nat) := by omega
   clear hz
   go_wp2_with fail
   rw [← HH.out]
   have h5' := h5
   generalize headS x = HD at *
   generalize (w.alloc (.cells #[.string x.name, .string x.view, .string x.edit, .string x.check, .slice As x.subs.length cS, .slice Ao x.ops.length cO] 149)) = W at *
   refine (subs_any8 (hs'.more hsz) h7 hN).mono ?_
   rintro e U ⟨rfl, hU⟩
   have b5u := (hU.cell (p := ⟨w.heap.size, 5, none⟩) lb).trans b5
   have lbu : w.heap.size < U.heap.size := Nat.lt_of_lt_of_le lb hU.size
   have hoU := ((ho'.more hsz).below hU).more hU.size
   have hBU := hB.trans (hU.mono hsz)
   go_wp2_with fail
   refine (alone_any8 hoU).mono ?_
   rintro e V ⟨rfl, hV⟩
   have b5' := (hV.cell (p := ⟨w.heap.size, 5, none⟩) lbu).trans b5u
   have lb' : w.heap.size < V.heap.size := Nat.lt_of_lt_of_le lbu hV.size
   have hoV := (hoU.below hV).more hV.size
   have hBV := hBU.trans (hV.mono hBU.size)
   cases hal : aloneB x.ops with
   | true =>
    have hR2 := hR1 _ hal
    simp only [↓reduceIte] at hR2
    subst hR2
    clear hR1
    go_wp2_with fail
    go_returns
    exact ⟨rfl, hBV⟩
   | false =>
    have hR2 := hR1 _ hal
    simp only [Bool.false_eq_true, ↓reduceIte] at hR2
    subst hR2
    clear hR1
    go_wp2_with fail
    refine (rewrite_any hoV h8 hO).mono ?_
    rintro e V2 ⟨rfl, hV2⟩
    go_wp2_with fail
    go_returns
    exact ⟨rfl, hBV.trans (hV2.mono hBV.size)⟩
end
def lineS (x : RelP) : ByteArray := (⟨#[9]⟩ : ByteArray) ++ relS x ++ ⟨#[10]⟩
def topS (t : TypP) : ByteArray := (⟨#[116, 121, 112, 101, 32]⟩ : ByteArray) ++ t.name ++ ⟨#[32, 123, 10]⟩
def typS (t : TypP) : ByteArray := topS t ++ catL (t.rels.map lineS) ++ ⟨#[125, 10]⟩
def showS (T : List TypP) : ByteArray := catL (T.map typS)
theorem cat_at {α : Type} (f : α → ByteArray) {l : List α} {i : Nat} {x : α} (h : l[i]? = some x) : catL ((l.take (i + 1)).map f) = catL ((l.take i).map f) ++ f x ∧ (catL ((l.take i).map f)).size + (f x).size ≤ (catL (l.map f)).size := by
 have e : catL ((l.take (i + 1)).map f) = catL ((l.take i).map f) ++ f x := by
  rw [take_snoc8 h, List.map_append, catL_app]
  show _ ++ (f x ++ ⟨#[]⟩) = _
  rw [app_nil]
 refine ⟨e, ?_⟩
 have h2 : catL (l.map f) = catL ((l.take (i + 1)).map f) ++ catL ((l.drop (i + 1)).map f) := by rw [← catL_app, ← List.map_append, List.take_append_drop]
 rw [h2, e, size_app, size_app]
 omega
def Bld (b : Nat) (txt : ByteArray) (w : World) : Prop := Lib.IsBuilderF 177 5 b b (Lib.byteCells txt.data.toList) w
theorem Bld.below {b : Nat} {txt : ByteArray} {w w' : World} (h : Bld b txt w) (hb : Below w.heap.size w w') : Bld b txt w' := by
 have key : ∀ p, Lib.BuilderAtF 177 5 b b p (Lib.byteCells txt.data.toList) w → Lib.BuilderAtF 177 5 b b p (Lib.byteCells txt.data.toList) w' := by
  rintro p ⟨h1, v, h2, h3, h4⟩
  have hlt : b < w.heap.size := (Array.getElem?_eq_some_iff.1 h2).1
  refine ⟨h1, v, (hb.block b hlt).trans h2, ?_, h4⟩
  obtain ⟨a1, a2⟩ := h3
  refine ⟨a1, ?_⟩
  rcases a2 with a2 | ⟨g, cap, cur, fz, a3, a4, a5, a6⟩
  · exact .inl a2
  · exact .inr ⟨g, cap, cur, fz, a3, a4, (hb.block g (Array.getElem?_eq_some_iff.1 a5).1).trans a5, a6⟩
 exact h.imp (key _) (key _)
theorem bwrite8 {b : Nat} {txt : ByteArray} {w : World} (s : ByteArray) (h : Bld b txt w) (hz : txt.size + s.size ≤ 100000000000000) (hb : b ≤ w.heap.size) :
 Calls Tryz.prog 93 #[.pointer (some ⟨b, 0, none⟩), .string s] w fun e w' => e = .returned (.tuple #[.int .i64 s.size, .nilIface]) ∧ Bld b (txt ++ s) w' ∧ Below b w w' ∧ Lib.OthersKept 5 (some b) w w' := by
 refine (bwrite_any b b _ s w h (by rw [Lib.byteCells_length, Array.length_toList]; show txt.size + s.size ≤ _; omega) hb).mono ?_
 rintro e w' ⟨rfl, h2, h3, h4⟩
 refine ⟨rfl, .inr ?_, h3, h4⟩
 have : Lib.byteCells (txt ++ s).data.toList = Lib.byteCells txt.data.toList ++ Lib.strCells s := by
  unfold Lib.byteCells Lib.strCells
  rw [ByteArray.data_append, Array.toList_append, List.map_append]
 rw [this]
 exact h2
theorem bstring8 {b : Nat} {txt : ByteArray} {w : World} (h : Bld b txt w) (hb : b ≤ w.heap.size) :
 Calls Tryz.prog 95 #[.pointer (some ⟨b, 0, none⟩)] w fun e w' => e = .returned (.string txt) ∧ Below b w w' := by
 refine (bstring_any b b _ w h hb).mono ?_
 rintro e w' ⟨rfl, h2, h3, h4⟩
 exact ⟨rfl, h3⟩
theorem kept_bk {b k : Nat} {w w' : World} {cs : Array Value} {t : TypeId} (h : Lib.OthersKept 5 (some b) w w') (hk : Bk w k cs t) (hne : k ≠ b) (ht : t ≠ 5) : Bk w' k cs t :=
 h k _ hk (fun e => hne (by injection e)) fun c fz e => ht (by injection e)
structure SmlT (t : TypP) : Prop where
 name : t.name.size ≤ 1000
 rels : t.rels.length ≤ 1000000 ∧ ∀ x ∈ t.rels, Sml x
theorem show_any8 {w : World} {B : Nat} {A : Option Addr} {c : Nat} {T : List TypP} (hv : VTyps B w (.slice A T.length c) T) (hT : T.length ≤ 1000000) (hs : ∀ t ∈ T, SmlT t) (hz : (showS T).size ≤ 90000000000000) :
 Calls Tryz.prog 52 #[.agg #[.slice A T.length c]] w fun e w' => e = .returned (.string (showS T)) ∧ Below w.heap.size w w' := by
 have HS := Lib.hid hs
 clear hs
 have hbx := (Bk.new w #[.slice A T.length c] 92).alloc (.cells #[.pointer none, .slice none 0 0] 177)
 have hbb : Bld (w.heap.size + 1) ⟨#[]⟩ ((w.alloc (.cells #[.slice A T.length c] 92)).alloc (.cells #[.pointer none, .slice none 0 0] 177)) := by
  have h := Lib.fresh_isBuilder 177 5 (w.alloc (.cells #[.slice A T.length c] 92))
  rw [show (w.alloc (.cells #[.slice A T.length c] 92)).heap.size = w.heap.size + 1 by simp] at h
  exact Lib.IsBuilderF.of h
 have hB0 : Below w.heap.size w ((w.alloc (.cells #[.slice A T.length c] 92)).alloc (.cells #[.pointer none, .slice none 0 0] 177)) := ((Below.refl _ w).alloc (Nat.le_refl _) _).alloc (by simp) _
 have hs0 : ((w.alloc (.cells #[.slice A T.length c] 92)).alloc (.cells #[.pointer none, .slice none 0 0] 177)).heap.size = w.heap.size + 2 := by simp
 have hv0 := hv.below hB0
 have hvz : ∀ t i, T[i]? = some t → ∃ g vr, A = some ⟨g, 0, none⟩ ∧ g < w.heap.size ∧ VRels B w vr t.rels ∧ w.cell? ⟨g, i * 2, none⟩ = some (.string t.name) ∧ w.cell? ⟨g, i * 2 + 1, none⟩ = some vr := by
  intro t i hi
  obtain ⟨g, c2, vr, e1, hr, g0, g1⟩ := hv.get hi
  cases e1
  exact ⟨g, vr, rfl, World.block_lt_of_cell? _ _ g0, hr, g0, g1⟩
 have HV := Lib.hid hvz
 clear hv hv0 hvz
 go_enter Tryz.func52, Tryz.ntmps52
 go_wp2_with fail
 generalize (w.alloc (.cells #[.slice A T.length c] 92)).alloc (.cells #[.pointer none, .slice none 0 0] 177) = W0 at *
 go_loopw [11] (fun vi wr => ∃ i : Nat, vi = .int .i64 i ∧ i ≤ T.length ∧ Bld (w.heap.size + 1) (catL ((T.take i).map typS)) wr ∧ Below (w.heap.size + 1) W0 wr) (fun vi _ => T.length - (intOf vi).toNat)
 case atStart => exact ⟨0, rfl, Nat.zero_le _, hbb, Below.refl _ _⟩
 case round =>
  clear hbb
  obtain ⟨i, rfl, hi, hL, hb⟩ := hrel
  have hz1 := hb.size
  by_cases hil : i < T.length
  · obtain ⟨t, ht⟩ : ∃ t, T[i]? = some t := ⟨T[i], List.getElem?_eq_getElem hil⟩
    obtain ⟨hn, hr1, hr2⟩ := HS.out t (List.mem_of_getElem? ht)
    obtain ⟨hc1, hc2⟩ := cat_at typS ht
    obtain ⟨g, vr, rfl, hg, hr, g0, g1⟩ := HV.out t i ht
    obtain ⟨Ar, cr, rfl, _⟩ := Rd.own hr.choose_spec.1
    have hbw : Below w.heap.size w wr := hB0.trans (hb.mono (by omega))
    have q0 := (hbw.cell (p := ⟨g, i * 2, none⟩) hg).trans g0
    have q1 := (hbw.cell (p := ⟨g, i * 2 + 1, none⟩) hg).trans g1
    have hdi : (i : Int) < (T.length : Nat) := by omega
    have htz : (topS t).size ≤ 1010 ∧ (topS t).size ≤ (typS t).size := by
     constructor
     · unfold topS; rw [size_app, size_app]; show 5 + _ + 3 ≤ _; omega
     · unfold typS; rw [size_app, size_app]; omega
    have hzt : (showS T).size = (catL (T.map typS)).size := rfl
    have HT : Hid (topS t = (⟨#[116, 121, 112, 101, 32]⟩ : ByteArray) ++ t.name ++ ⟨#[32, 123, 10]⟩) := Lib.hid rfl
    have hal : Below wr.heap.size wr (wr.alloc (.cells #[.string t.name, .slice Ar t.rels.length cr] 146)) := (Below.refl _ wr).alloc (Nat.le_refl _) _
    have hL2 := hL.below hal
    have hb2 := hb.trans (hal.mono (by omega))
    have hbt := Bk.new wr #[.string t.name, .slice Ar t.rels.length cr] 146
    have x0 : World.cell? _ ⟨wr.heap.size, 0, none⟩ = some (.string t.name) := hbt.cell 0
    have lx := hbt.lt
    have kw := bwrite8 (topS t) hL2 (by omega) (by omega)
    rw [HT.out] at kw
    clear hL hal hbw g0 g1
    go_wp2_with fail
    generalize wr.alloc (.cells #[.string t.name, .slice Ar t.rels.length cr] 146) = W1 at *
    refine kw.mono ?_
    rintro e W2 ⟨rfl, hL3, hb3, hk3⟩
    rw [← HT.out] at hL3
    have hb4 := hb2.trans hb3
    have hbt2 := kept_bk hk3 hbt (by omega) (by decide)
    have y1 : W2.cell? ⟨wr.heap.size, 1, none⟩ = some (.slice Ar t.rels.length cr) := hbt2.cell 1
    have ly := hbt2.lt
    clear kw hL2 hb2 hb3 hk3 hbt x0 lx hbt2 q0 q1
    obtain ⟨P, hP⟩ : ∃ p, catL ((T.take i).map typS) ++ topS t = p := ⟨_, rfl⟩
    rw [hP] at hL3
    have hPz : P.size + (catL (t.rels.map lineS)).size + 2 ≤ (showS T).size := by
     rw [← hP, size_app, hzt]
     have : (typS t).size = (topS t).size + (catL (t.rels.map lineS)).size + 2 := by unfold typS; rw [size_app, size_app]; rfl
     omega
    have hty : P ++ catL (t.rels.map lineS) ++ ⟨#[125, 10]⟩ = catL ((T.take (i + 1)).map typS) := by
     rw [hc1, ← hP]
     unfold typS
     simp only [app_assoc]
    have HTY := Lib.hid hty
    clear hty
    go_wp2_with fail
    go_loopw [23] (fun vk wy => ∃ k : Nat, vk = .int .i64 k ∧ k ≤ t.rels.length ∧ Bld (w.heap.size + 1) (P ++ catL ((t.rels.take k).map lineS)) wy ∧ Below (w.heap.size + 1) W0 wy) (fun vk _ => t.rels.length - (intOf vk).toNat)
    case atStart => exact ⟨0, rfl, Nat.zero_le _, (by rw [show catL ((t.rels.take 0).map lineS) = ⟨#[]⟩ from rfl, app_nil]; exact hL3), hb4⟩
    case round =>
     clear hL3 hb4 y1 ly
     obtain ⟨k, rfl, hk, hL, hb⟩ := hrel
     have hz2 := hb.size
     by_cases hkl : k < t.rels.length
     · obtain ⟨x, hx⟩ : ∃ x, t.rels[k]? = some x := ⟨t.rels[k], List.getElem?_eq_getElem hkl⟩
       have hsx := hr2 x (List.mem_of_getElem? hx)
       obtain ⟨hd1, hd2⟩ := cat_at lineS hx
       obtain ⟨gr, c3, vs, vo, e1, hs, ho, r0, r1, r2, r3, r4, r5⟩ := hr.get hx
       cases e1
       obtain ⟨As, cS, rfl, rs⟩ := Rd.own hs
       obtain ⟨Ao, cO, rfl, ro⟩ := Rd.own ho
       have hgr := World.block_lt_of_cell? _ _ r0
       dsimp only at hgr
       have hbw : Below w.heap.size w wr := hB0.trans (hb.mono (by omega))
       have s0 := (hbw.cell (p := ⟨gr, k * 6, none⟩) hgr).trans r0
       have s1 := (hbw.cell (p := ⟨gr, k * 6 + 1, none⟩) hgr).trans r1
       have s2 := (hbw.cell (p := ⟨gr, k * 6 + 2, none⟩) hgr).trans r2
       have s3 := (hbw.cell (p := ⟨gr, k * 6 + 3, none⟩) hgr).trans r3
       have s4 := (hbw.cell (p := ⟨gr, k * 6 + 4, none⟩) hgr).trans r4
       have s5 := (hbw.cell (p := ⟨gr, k * 6 + 5, none⟩) hgr).trans r5
       have hdk : (k : Int) < (t.rels.length : Nat) := by omega
       have hal : Below wr.heap.size wr (wr.alloc (.cells #[.string x.name, .string x.view, .string x.edit, .string x.check, .slice As x.subs.length cS, .slice Ao x.ops.length cO] 149)) := (Below.refl _ wr).alloc (Nat.le_refl _) _
       have hL2 := hL.below hal
       have hb2 := hb.trans (hal.mono (by omega))
       have hbx := Bk.new wr #[.string x.name, .string x.view, .string x.edit, .string x.check, .slice As x.subs.length cS, .slice Ao x.ops.length cO] 149
       have z0 := hbx.cell 0
       have z1 := hbx.cell 1
       have z2 := hbx.cell 2
       have z3 := hbx.cell 3
       have z4 := hbx.cell 4
       have z5 := hbx.cell 5
       have lz := hbx.lt
       have hzw : w.heap.size ≤ wr.heap.size := by omega
       have hbw2 := hbw.trans (hal.mono hzw)
       have hrs := (rs.below hbw2).more hbw2.size
       have hro := (ro.below hbw2).more hbw2.size
       have hlz : (lineS x).size = 1 + (relS x).size + 1 := by unfold lineS; rw [size_app, size_app]; rfl
       have HLN : Hid (lineS x = (⟨#[9]⟩ : ByteArray) ++ relS x ++ ⟨#[10]⟩) := Lib.hid rfl
       clear hs ho rs ro r0 r1 r2 r3 r4 r5 hL hal hbw hbx
       go_wp2_with fail
       generalize wr.alloc (.cells #[.string x.name, .string x.view, .string x.edit, .string x.check, .slice As x.subs.length cS, .slice Ao x.ops.length cO] 149) = W3 at *
       refine (relation_any8 hrs hro hsx).mono ?_
       rintro e W4 ⟨rfl, hb5⟩
       have hL4 := hL2.below hb5
       have hb6 := hb2.trans (hb5.mono (by omega))
       have hz6 := hb6.size
       have kw := bwrite8 (lineS x) hL4 (by rw [size_app]; omega) (by omega)
       rw [app_assoc, ← hd1, HLN.out] at kw
       have hrz : (relS x).size ≤ 90000000000000 := by omega
       clear hL2 hb2 hL4 hb5 s0 s1 s2 s3 s4 s5 z0 z1 z2 z3 z4 z5 hrs hro
       go_wp2_with fail
       refine kw.mono ?_
       rintro e W5 ⟨rfl, hL5, hb7, _⟩
       go_wp2_with fail
       refine ⟨⟨k + 1, by go_num, by omega, hL5, hb6.trans (hb7.mono (by omega))⟩, ?_⟩
       simp only [intOf]; omega
     · obtain rfl : k = t.rels.length := by omega
       have hdk : ¬ (t.rels.length : Int) < (t.rels.length : Nat) := by omega
       rw [List.take_length] at hL
       have kw := bwrite8 ⟨#[125, 10]⟩ hL (by rw [size_app]; show _ + 2 ≤ _; omega) (by omega)
       rw [HTY.out] at kw
       clear hL
       go_wp2_with fail
       refine kw.mono ?_
       rintro e W5 ⟨rfl, hL5, hb7, _⟩
       go_wp2_with fail
       refine ⟨⟨i + 1, by go_num, by omega, hL5, hb.trans (hb7.mono (by omega))⟩, ?_⟩
       simp only [intOf]; omega
  · obtain rfl : i = T.length := by omega
    have hdi : ¬ (T.length : Int) < (T.length : Nat) := by omega
    rw [List.take_length] at hL
    have ks := bstring8 hL (by omega)
    rw [show catL (T.map typS) = showS T from rfl] at ks
    clear hL
    go_wp2_with fail
    refine ks.mono ?_
    rintro e W5 ⟨rfl, hb5⟩
    go_wp2_with fail
    go_returns
    exact ⟨rfl, hB0.trans ((hb.trans (hb5.mono (Nat.le_refl _))).mono (by omega))⟩
end Go.Proofs.YtahegpfdbgbioaaGreat
namespace Go.Proofs.YtahegpfdbgbioaaGreat
open Go.RowKit
theorem read_none12 {s : ByteArray} (h : readN s = none) (hs : s.size ≤ 100000) (w : World) : Calls Tryz.prog 30 #[.string s] w fun e w' => e = .returned (.tuple #[.agg #[.string ⟨#[]⟩, .string ⟨#[]⟩, .string ⟨#[]⟩], .int .i64 11]) ∧ Below w.heap.size w w' := by
 have k := read_any12 (w := w) s hs
 rw [h] at k
 exact k
theorem read_some12 {s : ByteArray} {a b c : ByteArray} (h : readN s = some (a, b, c)) (hs : s.size ≤ 100000) (w : World) : Calls Tryz.prog 30 #[.string s] w fun e w' => e = .returned (.tuple #[.agg #[.string a, .string b, .string c], .int .i64 0]) ∧ Below w.heap.size w w' := by
 have k := read_any12 (w := w) s hs
 rw [h] at k
 exact k
theorem read_sizes {s a b c : ByteArray} (h : readN s = some (a, b, c)) : a.size ≤ s.size ∧ b.size ≤ s.size ∧ c.size ≤ s.size := by
 have h2 := (read_some h).2
 unfold showN objN at h2
 dsimp only at h2
 by_cases he : c = ⟨#[]⟩
 · rw [if_pos he] at h2
   have := congrArg ByteArray.size h2
   rw [size_app, size_app] at this
   subst he
   have h0 : (⟨#[]⟩ : ByteArray).size = 0 := rfl
   omega
 · rw [if_neg he] at h2
   have := congrArg ByteArray.size h2
   rw [size_app, size_app, size_app, size_app] at this
   omega
section
variable {w : World}
theorem fmd_is {a b c x y z : ByteArray} {q : Bool} (h : fmdT ((a, b, c), (x, y, z)) = q) (ha : a.size ≤ 100000) (hb : b.size ≤ 100000) (hc : c.size ≤ 100000) (hx : x.size ≤ 100000) (hy : y.size ≤ 100000) (hz : z.size ≤ 100000) (W : World) :
 Calls Tryz.prog 70 #[.agg #[.string a, .string b, .string c, .string x, .string y, .string z]] W fun e w' => e = .returned (.bool q) ∧ Below W.heap.size W w' := by
 rw [← h]
 exact fmd_any a b c x y z ha hb hc hx hy hz
theorem parse_any12 (s : ByteArray) (hs : s.size ≤ 100000) :
 Calls Tryz.prog 32 #[.string s] w fun e w' => e = .returned (.tuple #[.agg #[.string (tupO (parseT s)).1.1, .string (tupO (parseT s)).1.2.1, .string (tupO (parseT s)).1.2.2, .string (tupO (parseT s)).2.1, .string (tupO (parseT s)).2.2.1, .string (tupO (parseT s)).2.2.2], .int .i64 (errO (parseT s))]) ∧ Below w.heap.size w w' := by
 have hml : s.size ≤ maxLen := by simp only [maxLen]; omega
 obtain ⟨R, hRd⟩ : ∃ R, Hid (parseT s = R) := ⟨_, Lib.hid rfl⟩
 rw [hRd.out]
 unfold parseT at hRd
 have zo : (cutC s 64).1.size ≤ 100000 := by have h1 := cutC_size s 64; have h2 := (fstC_spec s 64).1; omega
 have zr : (cutC s 64).2.size ≤ 100000 := by have h1 := cutC_size2 s 64; omega
 have k1 := fun W => cut64 s W hml
 generalize (cutC s 64).1 = o at *
 generalize (cutC s 64).2 = r at *
 generalize decide (fstC s 64 < s.size) = g1 at k1
 have hR := Bk.new w #[.string ⟨#[]⟩, .string ⟨#[]⟩, .string ⟨#[]⟩, .string ⟨#[]⟩, .string ⟨#[]⟩, .string ⟨#[]⟩] 71
 have hB := bnew w (.cells #[.string ⟨#[]⟩, .string ⟨#[]⟩, .string ⟨#[]⟩, .string ⟨#[]⟩, .string ⟨#[]⟩, .string ⟨#[]⟩] 71)
 go_enter Tryz.func32, Tryz.ntmps32
 go_upto_region 1 with (fail)
 generalize w.alloc (.cells #[.string ⟨#[]⟩, .string ⟨#[]⟩, .string ⟨#[]⟩, .string ⟨#[]⟩, .string ⟨#[]⟩, .string ⟨#[]⟩] 71) = w1 at *
 go_upto_region 2 with (go_at_call 67; refine (k1 _).mono ?_; rintro e w2 ⟨rfl, hb⟩)
 replace hR := hR.below hb
 replace hB := bthen hB hB.size hb
 clear hb k1
 cases hA : readN o with
 | none =>
  obtain rfl : R = none := by have q := hRd.out; rw [hA] at q; exact q.symm
  have kr := read_none12 hA zo w2
  clear hRd
  go_wp2_with (go_at_call 30; refine kr.mono ?_; rintro e w3 ⟨rfl, hb⟩; have hR3 := (hR.below hb).alloc (.cells #[.string ⟨#[]⟩, .string ⟨#[]⟩, .string ⟨#[]⟩] 69); have hB3 := (bthen hB hB.size hb).alloc (bthen hB hB.size hb).size (.cells #[.string ⟨#[]⟩, .string ⟨#[]⟩, .string ⟨#[]⟩] 69); obtain ⟨r0, r1, r2, r3, r4, r5⟩ := hR3.c6; have rl := hR3.lt; have rf := hR3.fz)
  obtain ⟨hw, hb6⟩ := set6 hR3 hB3 (Nat.le_refl _) (.string ⟨#[]⟩) (.string ⟨#[]⟩) (.string ⟨#[]⟩) (.string ⟨#[]⟩) (.string ⟨#[]⟩) (.string ⟨#[]⟩)
  obtain ⟨y0, y1, y2, y3, y4, y5⟩ := hw.c6
  refine bodyPost_ret (v := .tuple #[.agg #[.string ⟨#[]⟩, .string ⟨#[]⟩, .string ⟨#[]⟩, .string ⟨#[]⟩, .string ⟨#[]⟩, .string ⟨#[]⟩], .int .i64 11]) (by simp [results, Tryz.results32, go_sem, y0, y1, y2, y3, y4, y5]; try rfl) rfl ?_
  exact ⟨rfl, hb6⟩
 | some n =>
  obtain ⟨a, b, c⟩ := n
  have kr := read_some12 hA zo w2
  obtain ⟨za, zb, zc⟩ := read_sizes hA
  have fA := (read_some hA).1
  go_upto_region 5 with (go_at_call 30; refine kr.mono ?_; rintro e w3 ⟨rfl, hb⟩)
  have hN := Bk.new w3 #[.string a, .string b, .string c] 69
  replace hR := (hR.below hb).alloc (.cells #[.string a, .string b, .string c] 69)
  replace hB := (bthen hB hB.size hb).alloc (bthen hB hB.size hb).size (.cells #[.string a, .string b, .string c] 69)
  clear hb kr
  generalize w3.alloc (.cells #[.string a, .string b, .string c] 69) = w4 at *
  generalize w3.heap.size = gn at *
  cases hA2 : readN r with
  | none =>
   obtain rfl : R = none := by have q := hRd.out; rw [hA, hA2] at q; exact q.symm
   have kr := read_none12 hA2 zr w4
   clear hRd
   go_wp2_with (go_at_call 30; refine kr.mono ?_; rintro e w5 ⟨rfl, hb⟩; have hR3 := (hR.below hb).alloc (.cells #[.string ⟨#[]⟩, .string ⟨#[]⟩, .string ⟨#[]⟩] 69); have hB3 := (bthen hB hB.size hb).alloc (bthen hB hB.size hb).size (.cells #[.string ⟨#[]⟩, .string ⟨#[]⟩, .string ⟨#[]⟩] 69); obtain ⟨r0, r1, r2, r3, r4, r5⟩ := hR3.c6; have rl := hR3.lt; have rf := hR3.fz)
   obtain ⟨hw, hb6⟩ := set6 hR3 hB3 (Nat.le_refl _) (.string ⟨#[]⟩) (.string ⟨#[]⟩) (.string ⟨#[]⟩) (.string ⟨#[]⟩) (.string ⟨#[]⟩) (.string ⟨#[]⟩)
   obtain ⟨y0, y1, y2, y3, y4, y5⟩ := hw.c6
   refine bodyPost_ret (v := .tuple #[.agg #[.string ⟨#[]⟩, .string ⟨#[]⟩, .string ⟨#[]⟩, .string ⟨#[]⟩, .string ⟨#[]⟩, .string ⟨#[]⟩], .int .i64 11]) (by simp [results, Tryz.results32, go_sem, y0, y1, y2, y3, y4, y5]; try rfl) rfl ?_
   exact ⟨rfl, hb6⟩
  | some m =>
   obtain ⟨x, y, z⟩ := m
   have kr := read_some12 hA2 zr w4
   obtain ⟨zx, zy, zz⟩ := read_sizes hA2
   have fB := (read_some hA2).1
   go_upto_region 8 with (go_at_call 30; refine kr.mono ?_; rintro e w5 ⟨rfl, hb⟩)
   have hM := Bk.new w5 #[.string x, .string y, .string z] 69
   replace hN := (hN.below hb).alloc (.cells #[.string x, .string y, .string z] 69)
   replace hR := (hR.below hb).alloc (.cells #[.string x, .string y, .string z] 69)
   replace hB := (bthen hB hB.size hb).alloc (bthen hB hB.size hb).size (.cells #[.string x, .string y, .string z] 69)
   clear hb kr
   generalize w5.alloc (.cells #[.string x, .string y, .string z] 69) = w6 at *
   generalize w5.heap.size = gm at *
   obtain ⟨n0, n1, n2⟩ := hN.c3
   obtain ⟨m0, m1, m2⟩ := hM.c3
   have nl := hN.lt
   have ml := hM.lt
   have hT := Bk.new w6 #[.string a, .string b, .string c, .string x, .string y, .string z] 71
   go_upto_region 9 with (fail)
   replace hR := hR.alloc (.cells #[.string a, .string b, .string c, .string x, .string y, .string z] 71)
   replace hB := hB.alloc hB.size (.cells #[.string a, .string b, .string c, .string x, .string y, .string z] 71)
   clear n0 n1 n2 m0 m1 m2 nl ml hN hM
   generalize w6.alloc (.cells #[.string a, .string b, .string c, .string x, .string y, .string z] 71) = w7 at *
   generalize w6.heap.size = gt at *
   obtain ⟨t0, t1, t2, t3, t4, t5⟩ := hT.c6
   have tl := hT.lt
   by_cases he : c = ⟨#[]⟩
   · obtain rfl : R = none := by have q := hRd.out; rw [hA, hA2] at q; dsimp only at q; rw [if_pos he] at q; exact q.symm
     have kf := fmd_is (a := a) (b := b) (c := c) (x := x) (y := y) (z := z) (q := false) (by unfold fmdT; rw [fA, fB]; simp [he]) (by omega) (by omega) (by omega) (by omega) (by omega) (by omega) w7
     clear hRd he
     go_wp2_with (go_at_call 70; refine kf.mono ?_; rintro e w8 ⟨rfl, hb⟩; have hR3 := hR.below hb; have hB3 := bthen hB hB.size hb; obtain ⟨r0, r1, r2, r3, r4, r5⟩ := hR3.c6; have rl := hR3.lt; have rf := hR3.fz)
     obtain ⟨hw, hb6⟩ := set6 hR3 hB3 (Nat.le_refl _) (.string ⟨#[]⟩) (.string ⟨#[]⟩) (.string ⟨#[]⟩) (.string ⟨#[]⟩) (.string ⟨#[]⟩) (.string ⟨#[]⟩)
     obtain ⟨y0, y1, y2, y3, y4, y5⟩ := hw.c6
     refine bodyPost_ret (v := .tuple #[.agg #[.string ⟨#[]⟩, .string ⟨#[]⟩, .string ⟨#[]⟩, .string ⟨#[]⟩, .string ⟨#[]⟩, .string ⟨#[]⟩], .int .i64 11]) (by simp [results, Tryz.results32, go_sem, y0, y1, y2, y3, y4, y5]; try rfl) rfl ?_
     exact ⟨rfl, hb6⟩
   · obtain rfl : R = some ((a, b, c), (x, y, z)) := by have q := hRd.out; rw [hA, hA2] at q; dsimp only at q; rw [if_neg he] at q; exact q.symm
     have kf := fmd_is (a := a) (b := b) (c := c) (x := x) (y := y) (z := z) (q := true) (by unfold fmdT; rw [fA, fB]; simp [he]) (by omega) (by omega) (by omega) (by omega) (by omega) (by omega) w7
     clear hRd he
     go_wp2_with (go_at_call 70; refine kf.mono ?_; rintro e w8 ⟨rfl, hb⟩; have hT8 := hT.below hb; obtain ⟨s0, s1, s2, s3, s4, s5⟩ := hT8.c6; have hR3 := hR.below hb; have hB3 := bthen hB hB.size hb; obtain ⟨r0, r1, r2, r3, r4, r5⟩ := hR3.c6; have rl := hR3.lt; have rf := hR3.fz)
     obtain ⟨hw, hb6⟩ := set6 hR3 hB3 (Nat.le_refl _) (.string a) (.string b) (.string c) (.string x) (.string y) (.string z)
     obtain ⟨y0, y1, y2, y3, y4, y5⟩ := hw.c6
     refine bodyPost_ret (v := .tuple #[.agg #[.string a, .string b, .string c, .string x, .string y, .string z], .int .i64 0]) (by simp [results, Tryz.results32, go_sem, y0, y1, y2, y3, y4, y5]; try rfl) rfl ?_
     exact ⟨rfl, hb6⟩
end
end Go.Proofs.YtahegpfdbgbioaaGreat
