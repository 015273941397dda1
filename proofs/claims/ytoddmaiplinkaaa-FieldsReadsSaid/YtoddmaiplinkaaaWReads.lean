/- FieldsReads walked: it answers true. -/
import Derived.Test.YtoddmaiplinkaaaAwake
import Derived.Test.YtoddmaiplinkaaaRefLs
import Derived.Test.YtoddmaiplinkaaaNil
import Derived.Test.YtoddmaiplinkaaaRegion
import Derived.Deep.Cut
import Derived.Deep.RegionHeld3
import Derived.Deep.DeepCutAuto
import Derived.Deep.QuietTactic
import Derived.BigQuiet
namespace Go.Proofs.Ytoddmaiplinkaaa
open Go.RowKit

theorem wf_i8r {z : Int} (h : (Lit.int .i8 z).wf = true) : -128 ≤ z ∧ z ≤ 127 := by
  simpa [Lit.wf, IntKind.min, IntKind.max, IntKind.signed, IntKind.bits] using h

theorem steps_lenC (k : Nat) (st : RSt) : (steps k st).2.1.length ≤ st.1.length := by
  induction k with
  | zero => exact Nat.le_refl _
  | succ k ih => exact Nat.le_trans (rtext_len _) ih
theorem rlist_len (st : RSt) (m : Nat) : (rlist st m).2.1.length ≤ st.1.length := by
  have h := rnum_len st
  have h2 := steps_lenC (rnum st).1 (rnum st).2
  unfold rlist
  split
  · exact h
  · split
    · exact h
    · split
      · simp only; omega
      · omega
theorem rlist_cnt (st : RSt) (m : Nat) : (rlist st m).1.length ≤ m := by
  unfold rlist
  split
  · simp
  · split
    · simp
    · split
      · simp
      · rw [steps_len]; omega
theorem Two.drewN {w : World} {h : Nat} {u v : Value} (ht : Two w h u v) (n : Nat) : Two (w.drewN n) h u v := ⟨ht.c0, ht.c1, ht.f0, ht.f1⟩
theorem below_drewN' {B : Nat} {a w : World} (h : Below B a w) (n : Nat) : Below B a (w.drewN n) := ⟨h.os, h.tape, h.output, h.size, h.block⟩
theorem Two.grown1 {w w' : World} {g h : Nat} {u v : Value} (ht : Two w h u v) (hg : w.grownBy w' (some g)) (hne : h ≠ g) : Two w' h u v := by
  have hh : w'.heap[h]? = w.heap[h]? := hg.block h ht.lt (by simp; omega)
  exact ⟨(World.cell?_of_block (w := w) (a := ⟨h, 0, none⟩) hh).trans ht.c0, (World.cell?_of_block (w := w) (a := ⟨h, 1, none⟩) hh).trans ht.c1, (World.frozen?_of_block (w := w) (a := ⟨h, 0, none⟩) hh).trans ht.f0, (World.frozen?_of_block (w := w) (a := ⟨h, 1, none⟩) hh).trans ht.f1⟩
theorem IsR.set2 {w : World} {g h : Nat} {st : RSt} (hr : IsR w g st) (hlt : g < h) (u v : Value) (o : Obj) : IsR (((w.setCell ⟨h, 0, none⟩ u).setCell ⟨h, 1, none⟩ v).alloc o) g st :=
  hr.below (B := g + 1) ((((Below.refl _ _).setCell hlt u).setCell hlt v).alloc (by have := hr.lt; simp [World.setCell]; omega) o) (Nat.lt_succ_self _)

theorem own_rd {w : World} {base : Nat} {e : TypeId} {size n c m : Nat} {A : Option Addr} {xs : List Value} (h : w.ownsRow base e size (.slice A n c) m xs) : Rd w w.heap.size size A n c xs := by
  obtain ⟨A', c', he, hr⟩ := Rd.own h
  injection he with e1 e2 e3
  subst e1 e2 e3
  exact hr
theorem own_set2 {w : World} {base k : Nat} {e : TypeId} {size n c : Nat} {A : Option Addr} {xs : List Value} (h : w.ownsRow base e size (.slice A n c) n xs) (hk : k < base) (u v : Value) :
    Rd ((w.setCell ⟨k, 0, none⟩ u).setCell ⟨k, 1, none⟩ v) ((w.setCell ⟨k, 0, none⟩ u).setCell ⟨k, 1, none⟩ v).heap.size size A n c xs :=
  own_rd (ownsRow_setCell_below (ownsRow_setCell_below h (a := ⟨k, 0, none⟩) hk u) (a := ⟨k, 1, none⟩) hk v)
theorem tv_at {l : List (List UInt8)} {j : Nat} {u : Value} (h : (tv l)[j]? = some u) : ∃ s, u = .string (strOf s) := by
  simp [tv] at h
  obtain ⟨a, _, rfl⟩ := h
  exact ⟨a, rfl⟩

set_option maxRecDepth 100000 in
set_option maxHeartbeats 2000000 in
theorem fieldsReads_walk (A0 : Option Addr) (n0 c0 : Nat) (l0 : List UInt8) (A1 : Option Addr) (n1 c1 : Nat) (z1 : List Int) (w : World) (r0 : Rd w w.heap.size 1 A0 n0 c0 (bv l0)) (r1 : Rd w w.heap.size 1 A1 n1 c1 (z1.map (Value.int .i8))) (f1 : ∀ z ∈ z1, (Lit.int .i8 z).wf = true) :
    Calls Try.prog 4 #[.slice A0 n0 c0, .slice A1 n1 c1] w fun e w' => e = .returned (.bool true) ∧ Below w.heap.size w w' := by
  have R0 := Lib.hid r0
  have R1 := Lib.hid r1
  have F1 : Hid (∀ z ∈ z1, -128 ≤ z ∧ z ≤ 127) := Lib.hid fun z hz => wf_i8r (f1 z hz)
  have hn0 : n0 ≤ 9223372036854775807 := by have := r0.cap; have := r0.capm; unfold maxLen at this; omega
  have hn1 : n1 ≤ 9223372036854775807 := by have := r1.cap; have := r1.capm; unfold maxLen at this; omega
  have L0 : Hid (n0 = l0.length) := Lib.hid r0.lenB
  clear r0 r1 f1
  by_cases h0 : 600 < n0
  · go_enter Try.func4, Try.ntmps4
    go_wp2_with fail
    refine (awake_any w).mono ?_
    rintro e w1 ⟨rfl, hb1⟩
    have Hb1 := Lib.hid hb1
    clear hb1
    go_wp2
    go_ret
    exact ⟨rfl, Hb1.out⟩
  by_cases h1 : 60 < n1
  · go_enter Try.func4, Try.ntmps4
    go_wp2_with fail
    refine (awake_any w).mono ?_
    rintro e w1 ⟨rfl, hb1⟩
    have Hb1 := Lib.hid hb1
    clear hb1
    go_wp2
    go_ret
    exact ⟨rfl, Hb1.out⟩
  go_enter Try.func4, Try.ntmps4
  go_wp2_with fail
  refine (awake_any w).mono ?_
  rintro e w1 ⟨rfl, hb1⟩
  have Hb1 := Lib.hid hb1
  have hs1 := hb1.size
  clear hb1
  go_wp2_with fail
  refine (open_any A0 n0 c0 l0 _ ((R0.out.below Hb1.out).more hs1) (by omega)).mono ?_
  rintro e w2 ⟨g, rfl, hg2, hr2, hb2⟩
  have Hr2 := Lib.hid hr2
  have Hb2 : Hid (Below w.heap.size w w2) := Lib.hid (Hb1.out.trans (hb2.mono hs1))
  have hs2 := Hb2.out.size
  have hgh := hr2.lt
  have hcv : (convert 24 9 (.slice A0 n0 c0)).run Try.prog w2 = .ok (.string (strOf l0)) w2 := (R0.out.below Hb2.out).conv (P := Try.prog) 24 9 5 Try.underlying24 Try.underlying5 Try.underlying9
  clear hr2 hb2
  go_wp2_with fail
  clear hcv
  go_loopw [8] (fun i wr => ∃ (k : Nat) (st : RSt), k ≤ n1 ∧ i = .int .i64 k ∧ IsR wr g st ∧ Two wr w2.heap.size (.string (strOf st.1)) (.int .i64 st.2) ∧ st.1.length ≤ 600 ∧ Below w.heap.size w wr) (fun i _ => n1 - (intOf i).toNat)
  case atStart => exact ⟨0, (l0, 0), Nat.zero_le _, rfl, Hr2.out.below ((Below.refl _ _).alloc (Nat.le_refl _) _) hgh, Two.new _ _ _ _, by have := L0.out; simp only; omega, Hb2.out.alloc hs2 _⟩
  case round =>
    obtain ⟨k, st, hk, rfl, hrd, htw, hln, hb⟩ := hrel
    have Hrd := Lib.hid hrd
    have Htw := Lib.hid htw
    have Hb := Lib.hid hb
    have hhr := htw.lt
    have hbs := hb.size
    obtain ⟨c0', c1', d0, d1⟩ := htw
    clear hrd hb
    by_cases hlt : k < n1
    · obtain ⟨b, o, z, rfl, hbl, hx, hc⟩ := (R1.out.below Hb.out).getInt hlt
      obtain ⟨hz0, hz1⟩ := F1.out z (List.mem_of_getElem? hx)
      clear hx
      by_cases hz : z = 0
      · subst hz
        obtain ⟨q, ⟨l', e'⟩, hN⟩ : ∃ q st', rnum st = (q, st') := ⟨_, _, rfl⟩
        have HN := Lib.hid hN
        have hln5 : l'.length ≤ 600 := by have := rnum_len st; rw [hN] at this; simp only at this; omega
        clear hN
        have HE : ∃ E : Nat, Hid (rend (l', e') = E) ∧ ((e' = 0 ∧ l' = [] ∧ E = 0) ∨ (e' = 0 ∧ (∃ lb lr, l' = lb :: lr) ∧ E = 12) ∨ (((e' : Int) == 0) = false ∧ E = e')) := by
          by_cases he : e' = 0
          · subst he
            cases l' with
            | nil => exact ⟨0, Lib.hid rfl, .inl ⟨rfl, rfl, rfl⟩⟩
            | cons lb lr => exact ⟨12, Lib.hid rfl, .inr (.inl ⟨rfl, ⟨lb, lr, rfl⟩, rfl⟩)⟩
          · exact ⟨e', Lib.hid (by simp [rend, he]), .inr (.inr ⟨by simp [he], rfl⟩)⟩
        obtain ⟨E, HE, hcases⟩ := HE
        have HEND : Hid (∀ W, IsR W g (l', e') → Calls Try.prog 26 #[.pointer (some ⟨g, 0, none⟩)] W fun e w' => e = .returned (.int .i64 E) ∧ w' = W) := Lib.hid fun W h => (end_any g _ W h).mono fun e w' x => ⟨by rw [x.1, HE.out], x.2.symm⟩
        have htl := strOf_toList
        have hsz := strOf_size
        rcases hcases with ⟨rfl, rfl, rfl⟩ | ⟨rfl, ⟨lb, lr, rfl⟩, rfl⟩ | ⟨he1, rfl⟩
        all_goals
          go_wp2_with fail
          refine (num_any g st wr Hrd.out).mono ?_
          rintro e w3 ⟨rfl, hr3, hg3⟩
          rw [HN.out] at hr3 ⊢
          have htw3 := Htw.out.grown1 hg3 (by omega)
          have hb3 : Below w.heap.size w w3 := Hb.out.grown hg3 hbs fun j hj => by simp at hj; omega
          have Hr3 := Lib.hid hr3
          have Htw3 := Lib.hid htw3
          have Hb3 := Lib.hid hb3
          obtain ⟨e0, e1, e2, e3⟩ := htw3
          have hs3 := hb3.size
          clear hr3 hg3 hb3 c0' c1' d0 d1
          go_wp2_with fail
          refine (refRead_any st (by omega) w3).mono ?_
          rintro e w4 ⟨rfl, hb4⟩
          rw [HN.out]
          have htw4 := Htw3.out.below hb4 Htw3.out.lt
          have hr4 := Hr3.out.below hb4 Hr3.out.lt
          have Hb4 : Hid (Below w.heap.size w w4) := Lib.hid (Hb3.out.trans (hb4.mono hs3))
          have hs4 := Hb4.out.size
          have Hr5 : Hid (∀ (u v : Value) (o : Obj), IsR (((w4.setCell ⟨w2.heap.size, 0, none⟩ u).setCell ⟨w2.heap.size, 1, none⟩ v).alloc o) g _) := Lib.hid fun u v o => hr4.set2 hgh u v o
          have hhr4 := htw4.lt
          have Ht4 := Lib.hid htw4
          obtain ⟨e0, e1, e2, e3⟩ := htw4
          clear hb4 hr4 Hr3 Htw3
          go_wp2_with fail
          go_quiet (first | (go_at_call 24; exact Calls.quiet_of_same (same_of (left_any g _ _ ((Hr5.out _ _ _).drewN _)))) | (go_at_call 25; exact Calls.quiet_of_same (same_of (err_any g _ _ ((Hr5.out _ _ _).drewN _)))) | (go_at_call 26; exact Calls.quiet_of_same (HEND.out _ ((Hr5.out _ _ _).drewN _))))
          go_wp2
          exact ⟨⟨k + 1, (_, _), by omega, by go_num, (Hr5.out _ _ _).drewN _, ((Ht4.out.set _ _).alloc _).drewN _, hln5, below_drewN' (((Hb4.out.setCell hs2 _).setCell hs2 _).alloc (by simp [World.setCell]; omega) _) _⟩, by simp [intOf]; omega⟩
      · by_cases hz1' : z = 1
        · subst hz1'
          obtain ⟨q, ⟨l', e'⟩, hN⟩ : ∃ q st', rtext st = (q, st') := ⟨_, _, rfl⟩
          have HN := Lib.hid hN
          have hln5 : l'.length ≤ 600 := by have := rtext_len st; rw [hN] at this; simp only at this; omega
          clear hN
          have HE : ∃ E : Nat, Hid (rend (l', e') = E) ∧ ((e' = 0 ∧ l' = [] ∧ E = 0) ∨ (e' = 0 ∧ (∃ lb lr, l' = lb :: lr) ∧ E = 12) ∨ (((e' : Int) == 0) = false ∧ E = e')) := by
            by_cases he : e' = 0
            · subst he
              cases l' with
              | nil => exact ⟨0, Lib.hid rfl, .inl ⟨rfl, rfl, rfl⟩⟩
              | cons lb lr => exact ⟨12, Lib.hid rfl, .inr (.inl ⟨rfl, ⟨lb, lr, rfl⟩, rfl⟩)⟩
            · exact ⟨e', Lib.hid (by simp [rend, he]), .inr (.inr ⟨by simp [he], rfl⟩)⟩
          obtain ⟨E, HE, hcases⟩ := HE
          have HEND : Hid (∀ W, IsR W g (l', e') → Calls Try.prog 26 #[.pointer (some ⟨g, 0, none⟩)] W fun e w' => e = .returned (.int .i64 E) ∧ w' = W) := Lib.hid fun W h => (end_any g _ W h).mono fun e w' x => ⟨by rw [x.1, HE.out], x.2.symm⟩
          have htl := strOf_toList
          have hsz := strOf_size
          rcases hcases with ⟨rfl, rfl, rfl⟩ | ⟨rfl, ⟨lb, lr, rfl⟩, rfl⟩ | ⟨he1, rfl⟩
          all_goals
            go_wp2_with fail
            refine (text_any g st wr Hrd.out).mono ?_
            rintro e w3 ⟨rfl, hr3, hg3⟩
            rw [HN.out] at hr3 ⊢
            have htw3 := Htw.out.grown1 hg3 (by omega)
            have hb3 : Below w.heap.size w w3 := Hb.out.grown hg3 hbs fun j hj => by simp at hj; omega
            have Hr3 := Lib.hid hr3
            have Htw3 := Lib.hid htw3
            have Hb3 := Lib.hid hb3
            obtain ⟨e0, e1, e2, e3⟩ := htw3
            have hs3 := hb3.size
            clear hr3 hg3 hb3 c0' c1' d0 d1
            go_wp2_with fail
            refine (refText_rd st (by omega) w3).mono ?_
            rintro e w4 ⟨rfl, hb4⟩
            rw [HN.out]
            have htw4 := Htw3.out.below hb4 Htw3.out.lt
            have hr4 := Hr3.out.below hb4 Hr3.out.lt
            have Hb4 : Hid (Below w.heap.size w w4) := Lib.hid (Hb3.out.trans (hb4.mono hs3))
            have hs4 := Hb4.out.size
            have Hr5 : Hid (∀ (u v : Value) (o : Obj), IsR (((w4.setCell ⟨w2.heap.size, 0, none⟩ u).setCell ⟨w2.heap.size, 1, none⟩ v).alloc o) g _) := Lib.hid fun u v o => hr4.set2 hgh u v o
            have hhr4 := htw4.lt
            have Ht4 := Lib.hid htw4
            obtain ⟨e0, e1, e2, e3⟩ := htw4
            clear hb4 hr4 Hr3 Htw3
            go_wp2_with fail
            go_quiet (first | (go_at_call 24; exact Calls.quiet_of_same (same_of (left_any g _ _ ((Hr5.out _ _ _).drewN _)))) | (go_at_call 25; exact Calls.quiet_of_same (same_of (err_any g _ _ ((Hr5.out _ _ _).drewN _)))) | (go_at_call 26; exact Calls.quiet_of_same (HEND.out _ ((Hr5.out _ _ _).drewN _))))
            go_wp2
            exact ⟨⟨k + 1, (_, _), by omega, by go_num, (Hr5.out _ _ _).drewN _, ((Ht4.out.set _ _).alloc _).drewN _, hln5, below_drewN' (((Hb4.out.setCell hs2 _).setCell hs2 _).alloc (by simp [World.setCell]; omega) _) _⟩, by simp [intOf]; omega⟩
        · have hzb0 : ((z : Int) == 0) = false := by simp [hz]
          have hzb1 : ((z : Int) == 1) = false := by simp [hz1']
          obtain ⟨acc, ⟨l', e'⟩, hN⟩ : ∃ q st', rlist st (z - 3).toNat = (q, st') := ⟨_, _, rfl⟩
          have HN := Lib.hid hN
          have hln5 : l'.length ≤ 600 := by have := rlist_len st (z - 3).toNat; rw [hN] at this; simp only at this; omega
          have hacc : acc.length ≤ 1000 := by have := rlist_cnt st (z - 3).toNat; rw [hN] at this; simp only at this; omega
          clear hN
          have HE : ∃ E : Nat, Hid (rend (l', e') = E) ∧ ((e' = 0 ∧ l' = [] ∧ E = 0) ∨ (e' = 0 ∧ (∃ lb lr, l' = lb :: lr) ∧ E = 12) ∨ (((e' : Int) == 0) = false ∧ E = e')) := by
            by_cases he : e' = 0
            · subst he
              cases l' with
              | nil => exact ⟨0, Lib.hid rfl, .inl ⟨rfl, rfl, rfl⟩⟩
              | cons lb lr => exact ⟨12, Lib.hid rfl, .inr (.inl ⟨rfl, ⟨lb, lr, rfl⟩, rfl⟩)⟩
            · exact ⟨e', Lib.hid (by simp [rend, he]), .inr (.inr ⟨by simp [he], rfl⟩)⟩
          obtain ⟨E, HE, hcases⟩ := HE
          have HEND : Hid (∀ W, IsR W g (l', e') → Calls Try.prog 26 #[.pointer (some ⟨g, 0, none⟩)] W fun e w' => e = .returned (.int .i64 E) ∧ w' = W) := Lib.hid fun W h => (end_any g _ W h).mono fun e w' x => ⟨by rw [x.1, HE.out], x.2.symm⟩
          have htl := strOf_toList
          have hsz := strOf_size
          rcases hcases with ⟨rfl, rfl, rfl⟩ | ⟨rfl, ⟨lb, lr, rfl⟩, rfl⟩ | ⟨he1, rfl⟩
          · go_wp2_with fail
            refine (list_any g st (z - 3) (by omega) (by omega) wr Hrd.out).mono ?_
            rintro e w3 ⟨v3, rfl, hown3, hr3, hg3⟩
            rw [HN.out] at hown3 hr3
            obtain ⟨A3, c3, rfl, hl3⟩ := Rd.own hown3
            have htw3 := Htw.out.grown1 hg3 (by omega)
            have hb3 : Below w.heap.size w w3 := Hb.out.grown hg3 hbs fun j hj => by simp at hj; omega
            have hc3 : w3.cell? ⟨b, o + k, none⟩ = some (.int .i8 z) := (World.cell?_of_block (w := wr) (a := ⟨b, o + k, none⟩) (hg3.block b (World.block_lt_of_cell? wr _ hc) (by simp; omega))).trans hc
            have Ho3 := Lib.hid hown3
            have Hr3 := Lib.hid hr3
            have Htw3 := Lib.hid htw3
            have Hb3 := Lib.hid hb3
            have hs3 := hb3.size
            have hwz : IntKind.i64.wrap z = z := IntWalk.i64_in _ (by omega)
            have hwz3 : IntKind.i64.wrap (z - 3) = z - 3 := IntWalk.i64_in _ (by omega)
            have hk0 : (0 : Int) ≤ (k : Int) := by omega
            have hk1 : (k : Int) < (n1 : Int) := by omega
            obtain ⟨e0, e1, e2, e3⟩ := htw3
            clear hown3 hr3 hg3 hl3 hb3 c0' c1' d0 d1 hc
            go_wp2_with fail
            have hh3 : w2.heap.size < w3.heap.size := Htw3.out.lt
            have hb3' : b < w3.heap.size := World.block_lt_of_cell? w3 _ hc3
            go_cut [16, 17] (fun y p wc => ∃ A c pg, y = .slice A acc.length c ∧ p = .pointer (some ⟨pg, 0, none⟩) ∧ wc.ownsRow w3.heap.size 9 1 (.slice A acc.length c) acc.length (tv acc) ∧ Two wc pg (.string (strOf [])) (.int .i64 (0 : Nat)) ∧ Below w3.heap.size w3 wc)
            case first =>
              have hSc : ∀ W, Below w3.heap.size w3 W → W.cell? ⟨w2.heap.size, 0, none⟩ = some (.string (strOf st.1)) ∧ W.cell? ⟨w2.heap.size, 1, none⟩ = some (.int .i64 st.2) ∧ W.cell? ⟨b, o + k, none⟩ = some (.int .i8 z) := fun W h => ⟨(h.cell (p := ⟨w2.heap.size, 0, none⟩) hh3).trans e0, (h.cell (p := ⟨w2.heap.size, 1, none⟩) hh3).trans e1, (h.cell (p := ⟨b, o + k, none⟩) hb3').trans hc3⟩
              have hS0 : Below w3.heap.size w3 w3.drew := (Below.refl _ _).drew
              have Hal : Hid (∀ o : Obj, Below w3.heap.size w3 (w3.alloc o).drew) := Lib.hid fun o => ((Below.refl _ _).alloc (Nat.le_refl _) o).drew
              refine wp_region_any (by kernel_rfl) ?_
              change wpAny _ _ _ _ _ _ _ (World.drew _)
              refine wpAny_of_held (S := fun W => Below w3.heap.size w3 W) _ _ _ _ ?_
              refine roH_take 1 (some 53) (v := ?v1a) rfl rfl (by kernel_rfl) (by kernel_rfl) (by kernel_rfl) (fun _ _ _ h => h) (by rfl) ?y1a (by assumption) ?r1a
              case y1a => (intro W hS; go_simp; try with_reducible rfl)
              simp only [Act.put, List.setIfInBounds_toArray, List.set_cons_zero, List.set_cons_succ]
              refine roH_take 2 (some 54) (v := ?v2a) rfl rfl (by kernel_rfl) (by kernel_rfl) (by kernel_rfl) (fun _ _ _ h => h) (by rfl) ?y2a (by assumption) ?r2a
              case y2a => (intro W hS; go_simp; try with_reducible rfl)
              simp only [Act.put, List.setIfInBounds_toArray, List.set_cons_zero, List.set_cons_succ]
              refine roH_take 3 (some 55) (v := ?v3a) rfl rfl (by kernel_rfl) (by kernel_rfl) (by kernel_rfl) (fun _ _ _ h => h) (by rfl) ?y3a (by assumption) ?r3a
              case y3a => (intro W hS; go_simp; try with_reducible rfl)
              simp only [Act.put, List.setIfInBounds_toArray, List.set_cons_zero, List.set_cons_succ]
              refine roH_take 0 (some 52) (v := ?v0a) rfl rfl (by kernel_rfl) (by kernel_rfl) (by kernel_rfl) (fun _ _ _ h => h) (by rfl) ?y0a (by assumption) ?r0a
              case y0a => (intro W hS; obtain ⟨s0, s1, s2⟩ := hSc W hS; go_simp; try with_reducible rfl)
              simp only [Act.put, List.setIfInBounds_toArray, List.set_cons_zero, List.set_cons_succ]
              refine roH_take 4 (some 56) (v := ?v4a) rfl rfl (by kernel_rfl) (by kernel_rfl) (by kernel_rfl) (fun _ _ _ h => h) (by rfl) ?y4a (by assumption) ?r4a
              case y4a => (intro W hS; obtain ⟨s0, s1, s2⟩ := hSc W hS; go_simp; try with_reducible rfl)
              simp only [Act.put, List.setIfInBounds_toArray, List.set_cons_zero, List.set_cons_succ]
              refine roH_take 5 (some 57) (v := ?v5a) rfl rfl (by kernel_rfl) (by kernel_rfl) (by kernel_rfl) (fun _ _ _ h => h) (by rfl) ?y5a (by assumption) ?r5a
              case y5a => (intro W hS; go_simp; try with_reducible rfl)
              simp only [Act.put, List.setIfInBounds_toArray, List.set_cons_zero, List.set_cons_succ]
              refine roH_take 6 (some 58) (v := ?v6a) rfl rfl (by kernel_rfl) (by kernel_rfl) (by kernel_rfl) (fun _ _ _ h => h) (by rfl) ?y6a (by assumption) ?r6a
              case y6a => (intro W hS; go_simp; try with_reducible rfl)
              simp only [Act.put, List.setIfInBounds_toArray, List.set_cons_zero, List.set_cons_succ]
              refine roH_two 7 11 rfl rfl (by kernel_rfl) ?_ ?_
              · intro K hK
                go_simp
                refine (refList_rd st (by omega) (z - 3) (by omega) (by omega) _).mono ?_
                rintro e w4 ⟨v4, rfl, hown4, hb4⟩
                rw [HN.out] at hown4 ⊢
                obtain ⟨A4, c4, rfl, hl4⟩ := Rd.own hown4
                have Hl4 := Lib.hid hown4
                clear hown4 hl4
                have hS4 : Below w3.heap.size w3 w4 := hS0.trans hb4
                have hs34 := hS4.size
                refine hK _ _ hS4 ?_
                clear hK K
                refine roH_take 8 (some 51) (v := ?v8a) rfl rfl (by kernel_rfl) (by kernel_rfl) (by kernel_rfl) (fun _ _ _ h => h) (by rfl) ?y8a (by assumption) ?r8a
                case y8a => (intro W hS; go_simp; try with_reducible rfl)
                simp only [Act.put, List.setIfInBounds_toArray, List.set_cons_zero, List.set_cons_succ]
                refine roH_take 9 (some 60) (v := ?v9a) rfl rfl (by kernel_rfl) (by kernel_rfl) (by kernel_rfl) (fun _ _ _ h => h) (by rfl) ?y9a (by assumption) ?r9a
                case y9a => (intro W hS; go_simp; try with_reducible rfl)
                simp only [Act.put, List.setIfInBounds_toArray, List.set_cons_zero, List.set_cons_succ]
                refine roH_take 10 (some 61) (v := ?v10a) rfl rfl (by kernel_rfl) (by kernel_rfl) (by kernel_rfl) (fun _ _ _ h => h) (by rfl) ?y10a (by assumption) ?r10a
                case y10a => (intro W hS; go_simp; try with_reducible rfl)
                simp only [Act.put, List.setIfInBounds_toArray, List.set_cons_zero, List.set_cons_succ]
                have hSa : Below w3.heap.size w3 (w4.alloc (.cells #[.string ⟨#[]⟩, .int .i64 0] 41)) := hS4.alloc hs34 _
                refine roH_one 11 rfl (by kernel_rfl) ?_
                intro K hK
                go_simp
                refine hK _ _ hSa ?_
                clear hK K
                refine roH_take 12 (some 16) (v := ?v12a) rfl rfl (by kernel_rfl) (by kernel_rfl) (by kernel_rfl) (fun _ _ _ h => h) (by rfl) ?y12a (by assumption) ?r12a
                case y12a => (intro W hS; go_simp; try with_reducible rfl)
                simp only [Act.put, List.setIfInBounds_toArray, List.set_cons_zero, List.set_cons_succ]
                refine roH_one 13 rfl (by kernel_rfl) ?_
                intro K hK
                go_simp
                refine hK _ _ (hS4.alloc hs34 _) ?_
                clear hK K
                refine wpAnyH_done (by kernel_rfl) ?_ _
                go_wp2_with fail
                go_meet
                exact ⟨A4, c4, w4.heap.size, rfl, rfl, own_below' Hl4.out ((Below.refl _ _).alloc (Nat.le_refl _) _), Two.new _ _ _ _, hS4.alloc hs34 _⟩
              · intro K hK
                go_simp
                have hSb := Hal.out (.cells #[.string ⟨#[]⟩, .int .i64 0] 41)
                refine hK _ _ hSb ?_
                clear hK K
                refine roH_one 7 rfl (by kernel_rfl) ?_
                intro K hK
                go_simp
                refine (refList_rd st (by omega) (z - 3) (by omega) (by omega) _).mono ?_
                rintro e w4 ⟨v4, rfl, hown4, hb4⟩
                rw [HN.out] at hown4 ⊢
                have Ho4 := Lib.hid hown4
                clear hown4
                have hS4 : Below w3.heap.size w3 w4 := hSb.trans (hb4.mono (by simp))
                have hs34 : w3.heap.size < w4.heap.size := by have := hb4.size; simp at this; omega
                have hT0 := Two.new w3 (.string ⟨#[]⟩) (.int .i64 0) 41
                have hT4 : Two w4 w3.heap.size (.string ⟨#[]⟩) (.int .i64 0) := (hT0.drewN 1).below hb4 (by simp)
                have HT4 := Lib.hid hT4
                obtain ⟨x0, x1, x2, x3⟩ := hT4
                refine hK _ _ hS4 ?_
                clear hK K hb4 hT0
                refine roH_take 8 (some 51) (v := ?v8ba) rfl rfl (by kernel_rfl) (by kernel_rfl) (by kernel_rfl) (fun _ _ _ h => h) (by rfl) ?y8ba (by assumption) ?r8ba
                case y8ba => (intro W hS; go_simp; try with_reducible rfl)
                simp only [Act.put, List.setIfInBounds_toArray, List.set_cons_zero, List.set_cons_succ]
                refine roH_take 9 (some 60) (v := ?v9ba) rfl rfl (by kernel_rfl) (by kernel_rfl) (by kernel_rfl) (fun _ _ _ h => h) (by rfl) ?y9ba (by assumption) ?r9ba
                case y9ba => (intro W hS; go_simp; try with_reducible rfl)
                simp only [Act.put, List.setIfInBounds_toArray, List.set_cons_zero, List.set_cons_succ]
                refine roH_take 10 (some 61) (v := ?v10ba) rfl rfl (by kernel_rfl) (by kernel_rfl) (by kernel_rfl) (fun _ _ _ h => h) (by rfl) ?y10ba (by assumption) ?r10ba
                case y10ba => (intro W hS; go_simp; try with_reducible rfl)
                simp only [Act.put, List.setIfInBounds_toArray, List.set_cons_zero, List.set_cons_succ]
                refine roH_take 12 (some 16) (v := ?v12ba) rfl rfl (by kernel_rfl) (by kernel_rfl) (by kernel_rfl) (fun _ _ _ h => h) (by rfl) ?y12ba (by assumption) ?r12ba
                case y12ba => (intro W hS; go_simp; try with_reducible rfl)
                simp only [Act.put, List.setIfInBounds_toArray, List.set_cons_zero, List.set_cons_succ]
                refine roH_one 13 rfl (by kernel_rfl) ?_
                intro K hK
                go_simp
                refine hK _ _ ((hS4.setCell (Nat.le_refl _) _).setCell (Nat.le_refl _) _) ?_
                clear hK K
                refine wpAnyH_done (by kernel_rfl) ?_ _
                go_wp2_with fail
                go_meet
                have hown5 := ownsRow_setCell_below (ownsRow_setCell_below (a := ⟨w3.heap.size, 0, none⟩) Ho4.out (by simp) (.string (strOf []))) (a := ⟨w3.heap.size, 1, none⟩) (by simp) (.int .i64 (0 : Nat))
                obtain ⟨A4, c4, rfl, hl5⟩ := Rd.own hown5
                exact ⟨A4, c4, w3.heap.size, rfl, rfl, own_base hown5 (by simp), HT4.out.set _ _, (hS4.setCell (Nat.le_refl _) _).setCell (Nat.le_refl _) _⟩
            case rest =>
              obtain ⟨A4, c4, pg, rfl, rfl, hown4, ht4, hb4⟩ := hcut
              have htw4 := Htw3.out.below hb4 Htw3.out.lt
              have hhr4 := htw4.lt
              have hrd4 := Hr3.out.below hb4 Hr3.out.lt
              have hb4w : Below w.heap.size w wc := Hb3.out.trans (hb4.mono hs3)
              have hs4 := hb4w.size
              have hb43 := hb4.size
              have hk3 : w2.heap.size < wr.heap.size := hhr
              have hown3' := own_below' Ho3.out hb4
              have H5 : Hid (∀ (u v : Value) (W : World), (wc.setCell ⟨w2.heap.size, 0, none⟩ u).setCell ⟨w2.heap.size, 1, none⟩ v = W → IsR W g ([], 0) ∧ Two W w2.heap.size u v ∧ Below w.heap.size w W ∧ Rd W W.heap.size 1 A3 acc.length c3 (tv acc) ∧ Rd W W.heap.size 1 A4 acc.length c4 (tv acc)) := Lib.hid (by
                rintro u v W rfl
                exact ⟨hrd4.below (B := g + 1) (((Below.refl _ _).setCell hgh u).setCell hgh v) (Nat.lt_succ_self _), htw4.set u v, (hb4w.setCell hs2 _).setCell hs2 _, own_set2 hown3' hk3 u v, own_set2 hown4 hh3 u v⟩)
              obtain ⟨e0, e1, e2, e3⟩ := htw4
              obtain ⟨p0, p1, p2, p3⟩ := ht4
              clear hown4 hown3' hrd4 hb4w hb4 Ho3 hc3 Hr3 Htw3 Hb3
              go_wp2_with fail
              generalize hW5 : World.setCell (World.setCell _ _ _) _ _ = W5
              obtain ⟨hr5, ht5, hb5, hx3, hx4⟩ := H5.out _ _ _ hW5
              have Hr5 := Lib.hid hr5
              have Ht5 := Lib.hid ht5
              have Hb5 := Lib.hid hb5
              have Hx3 := Lib.hid hx3
              have Hx4 := Lib.hid hx4
              have hs5 := hb5.size
              have hg5 := hr5.lt
              have hh5 := ht5.lt
              clear hr5 ht5 hb5 hx3 hx4 H5 hW5 e0 e1 e2 e3 p0 p1 p2 p3
              go_loopw [18] (fun i W => ∃ j : Nat, j ≤ acc.length ∧ i = .int .i64 j ∧ Below W5.heap.size W5 W) (fun i _ => acc.length - (intOf i).toNat)
              case atStart => exact ⟨0, Nat.zero_le _, rfl, Below.refl _ _⟩
              case round =>
                obtain ⟨j, hj, rfl, hbj⟩ := hrel
                have Hbj := Lib.hid hbj
                clear hbj
                by_cases hltj : j < acc.length
                · obtain ⟨b2, o2, sa, rfl, _, hxa, hca⟩ := (Hx3.out.below Hbj.out).get hltj
                  obtain ⟨b3, o3, sb, rfl, _, hxb, hcb⟩ := (Hx4.out.below Hbj.out).get hltj
                  rw [hxa] at hxb
                  simp at hxb
                  subst hxb
                  obtain ⟨ls, rfl⟩ := tv_at hxa
                  have hj0 : (0 : Int) ≤ (j : Int) := by omega
                  have hj1 : (j : Int) < (acc.length : Int) := by omega
                  clear hxa
                  go_wp2_with fail
                  go_quiet (fail)
                  go_wp2
                  exact ⟨⟨j + 1, by omega, by go_num, below_drewN' Hbj.out _⟩, by simp [intOf]; omega⟩
                · clear hj
                  have Hr6 := Lib.hid (Hr5.out.below Hbj.out Hr5.out.lt)
                  have ht6 := Ht5.out.below Hbj.out Ht5.out.lt
                  have Hb6 : Hid (Below w.heap.size w _) := Lib.hid (Hb5.out.trans (Hbj.out.mono hs5))
                  have Ht6 := Lib.hid ht6
                  obtain ⟨e0, e1, e2, e3⟩ := ht6
                  go_wp2_with fail
                  go_quiet (first | (go_at_call 24; exact Calls.quiet_of_same (same_of (left_any g _ _ (Hr6.out.drewN _)))) | (go_at_call 25; exact Calls.quiet_of_same (same_of (err_any g _ _ (Hr6.out.drewN _)))) | (go_at_call 26; exact Calls.quiet_of_same (HEND.out _ (Hr6.out.drewN _))))
                  go_wp2
                  exact ⟨⟨k + 1, (_, _), by omega, by go_num, Hr6.out.drewN _, Ht6.out.drewN _, hln5, below_drewN' Hb6.out _⟩, by simp [intOf]; omega⟩
          · go_wp2_with fail
            refine (list_any g st (z - 3) (by omega) (by omega) wr Hrd.out).mono ?_
            rintro e w3 ⟨v3, rfl, hown3, hr3, hg3⟩
            rw [HN.out] at hown3 hr3
            obtain ⟨A3, c3, rfl, hl3⟩ := Rd.own hown3
            have htw3 := Htw.out.grown1 hg3 (by omega)
            have hb3 : Below w.heap.size w w3 := Hb.out.grown hg3 hbs fun j hj => by simp at hj; omega
            have hc3 : w3.cell? ⟨b, o + k, none⟩ = some (.int .i8 z) := (World.cell?_of_block (w := wr) (a := ⟨b, o + k, none⟩) (hg3.block b (World.block_lt_of_cell? wr _ hc) (by simp; omega))).trans hc
            have Ho3 := Lib.hid hown3
            have Hr3 := Lib.hid hr3
            have Htw3 := Lib.hid htw3
            have Hb3 := Lib.hid hb3
            have hs3 := hb3.size
            have hwz : IntKind.i64.wrap z = z := IntWalk.i64_in _ (by omega)
            have hwz3 : IntKind.i64.wrap (z - 3) = z - 3 := IntWalk.i64_in _ (by omega)
            have hk0 : (0 : Int) ≤ (k : Int) := by omega
            have hk1 : (k : Int) < (n1 : Int) := by omega
            obtain ⟨e0, e1, e2, e3⟩ := htw3
            clear hown3 hr3 hg3 hl3 hb3 c0' c1' d0 d1 hc
            go_wp2_with fail
            have hh3 : w2.heap.size < w3.heap.size := Htw3.out.lt
            have hb3' : b < w3.heap.size := World.block_lt_of_cell? w3 _ hc3
            go_cut [16, 17] (fun y p wc => ∃ A c pg, y = .slice A acc.length c ∧ p = .pointer (some ⟨pg, 0, none⟩) ∧ wc.ownsRow w3.heap.size 9 1 (.slice A acc.length c) acc.length (tv acc) ∧ Two wc pg (.string (strOf (lb :: lr))) (.int .i64 (0 : Nat)) ∧ Below w3.heap.size w3 wc)
            case first =>
              have hSc : ∀ W, Below w3.heap.size w3 W → W.cell? ⟨w2.heap.size, 0, none⟩ = some (.string (strOf st.1)) ∧ W.cell? ⟨w2.heap.size, 1, none⟩ = some (.int .i64 st.2) ∧ W.cell? ⟨b, o + k, none⟩ = some (.int .i8 z) := fun W h => ⟨(h.cell (p := ⟨w2.heap.size, 0, none⟩) hh3).trans e0, (h.cell (p := ⟨w2.heap.size, 1, none⟩) hh3).trans e1, (h.cell (p := ⟨b, o + k, none⟩) hb3').trans hc3⟩
              have hS0 : Below w3.heap.size w3 w3.drew := (Below.refl _ _).drew
              have Hal : Hid (∀ o : Obj, Below w3.heap.size w3 (w3.alloc o).drew) := Lib.hid fun o => ((Below.refl _ _).alloc (Nat.le_refl _) o).drew
              refine wp_region_any (by kernel_rfl) ?_
              change wpAny _ _ _ _ _ _ _ (World.drew _)
              refine wpAny_of_held (S := fun W => Below w3.heap.size w3 W) _ _ _ _ ?_
              refine roH_take 1 (some 53) (v := ?v1b) rfl rfl (by kernel_rfl) (by kernel_rfl) (by kernel_rfl) (fun _ _ _ h => h) (by rfl) ?y1b (by assumption) ?r1b
              case y1b => (intro W hS; go_simp; try with_reducible rfl)
              simp only [Act.put, List.setIfInBounds_toArray, List.set_cons_zero, List.set_cons_succ]
              refine roH_take 2 (some 54) (v := ?v2b) rfl rfl (by kernel_rfl) (by kernel_rfl) (by kernel_rfl) (fun _ _ _ h => h) (by rfl) ?y2b (by assumption) ?r2b
              case y2b => (intro W hS; go_simp; try with_reducible rfl)
              simp only [Act.put, List.setIfInBounds_toArray, List.set_cons_zero, List.set_cons_succ]
              refine roH_take 3 (some 55) (v := ?v3b) rfl rfl (by kernel_rfl) (by kernel_rfl) (by kernel_rfl) (fun _ _ _ h => h) (by rfl) ?y3b (by assumption) ?r3b
              case y3b => (intro W hS; go_simp; try with_reducible rfl)
              simp only [Act.put, List.setIfInBounds_toArray, List.set_cons_zero, List.set_cons_succ]
              refine roH_take 0 (some 52) (v := ?v0b) rfl rfl (by kernel_rfl) (by kernel_rfl) (by kernel_rfl) (fun _ _ _ h => h) (by rfl) ?y0b (by assumption) ?r0b
              case y0b => (intro W hS; obtain ⟨s0, s1, s2⟩ := hSc W hS; go_simp; try with_reducible rfl)
              simp only [Act.put, List.setIfInBounds_toArray, List.set_cons_zero, List.set_cons_succ]
              refine roH_take 4 (some 56) (v := ?v4b) rfl rfl (by kernel_rfl) (by kernel_rfl) (by kernel_rfl) (fun _ _ _ h => h) (by rfl) ?y4b (by assumption) ?r4b
              case y4b => (intro W hS; obtain ⟨s0, s1, s2⟩ := hSc W hS; go_simp; try with_reducible rfl)
              simp only [Act.put, List.setIfInBounds_toArray, List.set_cons_zero, List.set_cons_succ]
              refine roH_take 5 (some 57) (v := ?v5b) rfl rfl (by kernel_rfl) (by kernel_rfl) (by kernel_rfl) (fun _ _ _ h => h) (by rfl) ?y5b (by assumption) ?r5b
              case y5b => (intro W hS; go_simp; try with_reducible rfl)
              simp only [Act.put, List.setIfInBounds_toArray, List.set_cons_zero, List.set_cons_succ]
              refine roH_take 6 (some 58) (v := ?v6b) rfl rfl (by kernel_rfl) (by kernel_rfl) (by kernel_rfl) (fun _ _ _ h => h) (by rfl) ?y6b (by assumption) ?r6b
              case y6b => (intro W hS; go_simp; try with_reducible rfl)
              simp only [Act.put, List.setIfInBounds_toArray, List.set_cons_zero, List.set_cons_succ]
              refine roH_two 7 11 rfl rfl (by kernel_rfl) ?_ ?_
              · intro K hK
                go_simp
                refine (refList_rd st (by omega) (z - 3) (by omega) (by omega) _).mono ?_
                rintro e w4 ⟨v4, rfl, hown4, hb4⟩
                rw [HN.out] at hown4 ⊢
                obtain ⟨A4, c4, rfl, hl4⟩ := Rd.own hown4
                have Hl4 := Lib.hid hown4
                clear hown4 hl4
                have hS4 : Below w3.heap.size w3 w4 := hS0.trans hb4
                have hs34 := hS4.size
                refine hK _ _ hS4 ?_
                clear hK K
                refine roH_take 8 (some 51) (v := ?v8b) rfl rfl (by kernel_rfl) (by kernel_rfl) (by kernel_rfl) (fun _ _ _ h => h) (by rfl) ?y8b (by assumption) ?r8b
                case y8b => (intro W hS; go_simp; try with_reducible rfl)
                simp only [Act.put, List.setIfInBounds_toArray, List.set_cons_zero, List.set_cons_succ]
                refine roH_take 9 (some 60) (v := ?v9b) rfl rfl (by kernel_rfl) (by kernel_rfl) (by kernel_rfl) (fun _ _ _ h => h) (by rfl) ?y9b (by assumption) ?r9b
                case y9b => (intro W hS; go_simp; try with_reducible rfl)
                simp only [Act.put, List.setIfInBounds_toArray, List.set_cons_zero, List.set_cons_succ]
                refine roH_take 10 (some 61) (v := ?v10b) rfl rfl (by kernel_rfl) (by kernel_rfl) (by kernel_rfl) (fun _ _ _ h => h) (by rfl) ?y10b (by assumption) ?r10b
                case y10b => (intro W hS; go_simp; try with_reducible rfl)
                simp only [Act.put, List.setIfInBounds_toArray, List.set_cons_zero, List.set_cons_succ]
                have hSa : Below w3.heap.size w3 (w4.alloc (.cells #[.string ⟨#[]⟩, .int .i64 0] 41)) := hS4.alloc hs34 _
                refine roH_one 11 rfl (by kernel_rfl) ?_
                intro K hK
                go_simp
                refine hK _ _ hSa ?_
                clear hK K
                refine roH_take 12 (some 16) (v := ?v12b) rfl rfl (by kernel_rfl) (by kernel_rfl) (by kernel_rfl) (fun _ _ _ h => h) (by rfl) ?y12b (by assumption) ?r12b
                case y12b => (intro W hS; go_simp; try with_reducible rfl)
                simp only [Act.put, List.setIfInBounds_toArray, List.set_cons_zero, List.set_cons_succ]
                refine roH_one 13 rfl (by kernel_rfl) ?_
                intro K hK
                go_simp
                refine hK _ _ (hS4.alloc hs34 _) ?_
                clear hK K
                refine wpAnyH_done (by kernel_rfl) ?_ _
                go_wp2_with fail
                go_meet
                exact ⟨A4, c4, w4.heap.size, rfl, rfl, own_below' Hl4.out ((Below.refl _ _).alloc (Nat.le_refl _) _), Two.new _ _ _ _, hS4.alloc hs34 _⟩
              · intro K hK
                go_simp
                have hSb := Hal.out (.cells #[.string ⟨#[]⟩, .int .i64 0] 41)
                refine hK _ _ hSb ?_
                clear hK K
                refine roH_one 7 rfl (by kernel_rfl) ?_
                intro K hK
                go_simp
                refine (refList_rd st (by omega) (z - 3) (by omega) (by omega) _).mono ?_
                rintro e w4 ⟨v4, rfl, hown4, hb4⟩
                rw [HN.out] at hown4 ⊢
                have Ho4 := Lib.hid hown4
                clear hown4
                have hS4 : Below w3.heap.size w3 w4 := hSb.trans (hb4.mono (by simp))
                have hs34 : w3.heap.size < w4.heap.size := by have := hb4.size; simp at this; omega
                have hT0 := Two.new w3 (.string ⟨#[]⟩) (.int .i64 0) 41
                have hT4 : Two w4 w3.heap.size (.string ⟨#[]⟩) (.int .i64 0) := (hT0.drewN 1).below hb4 (by simp)
                have HT4 := Lib.hid hT4
                obtain ⟨x0, x1, x2, x3⟩ := hT4
                refine hK _ _ hS4 ?_
                clear hK K hb4 hT0
                refine roH_take 8 (some 51) (v := ?v8bb) rfl rfl (by kernel_rfl) (by kernel_rfl) (by kernel_rfl) (fun _ _ _ h => h) (by rfl) ?y8bb (by assumption) ?r8bb
                case y8bb => (intro W hS; go_simp; try with_reducible rfl)
                simp only [Act.put, List.setIfInBounds_toArray, List.set_cons_zero, List.set_cons_succ]
                refine roH_take 9 (some 60) (v := ?v9bb) rfl rfl (by kernel_rfl) (by kernel_rfl) (by kernel_rfl) (fun _ _ _ h => h) (by rfl) ?y9bb (by assumption) ?r9bb
                case y9bb => (intro W hS; go_simp; try with_reducible rfl)
                simp only [Act.put, List.setIfInBounds_toArray, List.set_cons_zero, List.set_cons_succ]
                refine roH_take 10 (some 61) (v := ?v10bb) rfl rfl (by kernel_rfl) (by kernel_rfl) (by kernel_rfl) (fun _ _ _ h => h) (by rfl) ?y10bb (by assumption) ?r10bb
                case y10bb => (intro W hS; go_simp; try with_reducible rfl)
                simp only [Act.put, List.setIfInBounds_toArray, List.set_cons_zero, List.set_cons_succ]
                refine roH_take 12 (some 16) (v := ?v12bb) rfl rfl (by kernel_rfl) (by kernel_rfl) (by kernel_rfl) (fun _ _ _ h => h) (by rfl) ?y12bb (by assumption) ?r12bb
                case y12bb => (intro W hS; go_simp; try with_reducible rfl)
                simp only [Act.put, List.setIfInBounds_toArray, List.set_cons_zero, List.set_cons_succ]
                refine roH_one 13 rfl (by kernel_rfl) ?_
                intro K hK
                go_simp
                refine hK _ _ ((hS4.setCell (Nat.le_refl _) _).setCell (Nat.le_refl _) _) ?_
                clear hK K
                refine wpAnyH_done (by kernel_rfl) ?_ _
                go_wp2_with fail
                go_meet
                have hown5 := ownsRow_setCell_below (ownsRow_setCell_below (a := ⟨w3.heap.size, 0, none⟩) Ho4.out (by simp) (.string (strOf (lb :: lr)))) (a := ⟨w3.heap.size, 1, none⟩) (by simp) (.int .i64 (0 : Nat))
                obtain ⟨A4, c4, rfl, hl5⟩ := Rd.own hown5
                exact ⟨A4, c4, w3.heap.size, rfl, rfl, own_base hown5 (by simp), HT4.out.set _ _, (hS4.setCell (Nat.le_refl _) _).setCell (Nat.le_refl _) _⟩
            case rest =>
              obtain ⟨A4, c4, pg, rfl, rfl, hown4, ht4, hb4⟩ := hcut
              have htw4 := Htw3.out.below hb4 Htw3.out.lt
              have hhr4 := htw4.lt
              have hrd4 := Hr3.out.below hb4 Hr3.out.lt
              have hb4w : Below w.heap.size w wc := Hb3.out.trans (hb4.mono hs3)
              have hs4 := hb4w.size
              have hb43 := hb4.size
              have hk3 : w2.heap.size < wr.heap.size := hhr
              have hown3' := own_below' Ho3.out hb4
              have H5 : Hid (∀ (u v : Value) (W : World), (wc.setCell ⟨w2.heap.size, 0, none⟩ u).setCell ⟨w2.heap.size, 1, none⟩ v = W → IsR W g ((lb :: lr), 0) ∧ Two W w2.heap.size u v ∧ Below w.heap.size w W ∧ Rd W W.heap.size 1 A3 acc.length c3 (tv acc) ∧ Rd W W.heap.size 1 A4 acc.length c4 (tv acc)) := Lib.hid (by
                rintro u v W rfl
                exact ⟨hrd4.below (B := g + 1) (((Below.refl _ _).setCell hgh u).setCell hgh v) (Nat.lt_succ_self _), htw4.set u v, (hb4w.setCell hs2 _).setCell hs2 _, own_set2 hown3' hk3 u v, own_set2 hown4 hh3 u v⟩)
              obtain ⟨e0, e1, e2, e3⟩ := htw4
              obtain ⟨p0, p1, p2, p3⟩ := ht4
              clear hown4 hown3' hrd4 hb4w hb4 Ho3 hc3 Hr3 Htw3 Hb3
              go_wp2_with fail
              generalize hW5 : World.setCell (World.setCell _ _ _) _ _ = W5
              obtain ⟨hr5, ht5, hb5, hx3, hx4⟩ := H5.out _ _ _ hW5
              have Hr5 := Lib.hid hr5
              have Ht5 := Lib.hid ht5
              have Hb5 := Lib.hid hb5
              have Hx3 := Lib.hid hx3
              have Hx4 := Lib.hid hx4
              have hs5 := hb5.size
              have hg5 := hr5.lt
              have hh5 := ht5.lt
              clear hr5 ht5 hb5 hx3 hx4 H5 hW5 e0 e1 e2 e3 p0 p1 p2 p3
              go_loopw [18] (fun i W => ∃ j : Nat, j ≤ acc.length ∧ i = .int .i64 j ∧ Below W5.heap.size W5 W) (fun i _ => acc.length - (intOf i).toNat)
              case atStart => exact ⟨0, Nat.zero_le _, rfl, Below.refl _ _⟩
              case round =>
                obtain ⟨j, hj, rfl, hbj⟩ := hrel
                have Hbj := Lib.hid hbj
                clear hbj
                by_cases hltj : j < acc.length
                · obtain ⟨b2, o2, sa, rfl, _, hxa, hca⟩ := (Hx3.out.below Hbj.out).get hltj
                  obtain ⟨b3, o3, sb, rfl, _, hxb, hcb⟩ := (Hx4.out.below Hbj.out).get hltj
                  rw [hxa] at hxb
                  simp at hxb
                  subst hxb
                  obtain ⟨ls, rfl⟩ := tv_at hxa
                  have hj0 : (0 : Int) ≤ (j : Int) := by omega
                  have hj1 : (j : Int) < (acc.length : Int) := by omega
                  clear hxa
                  go_wp2_with fail
                  go_quiet (fail)
                  go_wp2
                  exact ⟨⟨j + 1, by omega, by go_num, below_drewN' Hbj.out _⟩, by simp [intOf]; omega⟩
                · clear hj
                  have Hr6 := Lib.hid (Hr5.out.below Hbj.out Hr5.out.lt)
                  have ht6 := Ht5.out.below Hbj.out Ht5.out.lt
                  have Hb6 : Hid (Below w.heap.size w _) := Lib.hid (Hb5.out.trans (Hbj.out.mono hs5))
                  have Ht6 := Lib.hid ht6
                  obtain ⟨e0, e1, e2, e3⟩ := ht6
                  go_wp2_with fail
                  go_quiet (first | (go_at_call 24; exact Calls.quiet_of_same (same_of (left_any g _ _ (Hr6.out.drewN _)))) | (go_at_call 25; exact Calls.quiet_of_same (same_of (err_any g _ _ (Hr6.out.drewN _)))) | (go_at_call 26; exact Calls.quiet_of_same (HEND.out _ (Hr6.out.drewN _))))
                  go_wp2
                  exact ⟨⟨k + 1, (_, _), by omega, by go_num, Hr6.out.drewN _, Ht6.out.drewN _, hln5, below_drewN' Hb6.out _⟩, by simp [intOf]; omega⟩
          · go_wp2_with fail
            refine (list_any g st (z - 3) (by omega) (by omega) wr Hrd.out).mono ?_
            rintro e w3 ⟨v3, rfl, hown3, hr3, hg3⟩
            rw [HN.out] at hown3 hr3
            obtain ⟨A3, c3, rfl, hl3⟩ := Rd.own hown3
            have htw3 := Htw.out.grown1 hg3 (by omega)
            have hb3 : Below w.heap.size w w3 := Hb.out.grown hg3 hbs fun j hj => by simp at hj; omega
            have hc3 : w3.cell? ⟨b, o + k, none⟩ = some (.int .i8 z) := (World.cell?_of_block (w := wr) (a := ⟨b, o + k, none⟩) (hg3.block b (World.block_lt_of_cell? wr _ hc) (by simp; omega))).trans hc
            have Ho3 := Lib.hid hown3
            have Hr3 := Lib.hid hr3
            have Htw3 := Lib.hid htw3
            have Hb3 := Lib.hid hb3
            have hs3 := hb3.size
            have hwz : IntKind.i64.wrap z = z := IntWalk.i64_in _ (by omega)
            have hwz3 : IntKind.i64.wrap (z - 3) = z - 3 := IntWalk.i64_in _ (by omega)
            have hk0 : (0 : Int) ≤ (k : Int) := by omega
            have hk1 : (k : Int) < (n1 : Int) := by omega
            obtain ⟨e0, e1, e2, e3⟩ := htw3
            clear hown3 hr3 hg3 hl3 hb3 c0' c1' d0 d1 hc
            go_wp2_with fail
            have hh3 : w2.heap.size < w3.heap.size := Htw3.out.lt
            have hb3' : b < w3.heap.size := World.block_lt_of_cell? w3 _ hc3
            go_cut [16, 17] (fun y p wc => ∃ A c pg, y = .slice A acc.length c ∧ p = .pointer (some ⟨pg, 0, none⟩) ∧ wc.ownsRow w3.heap.size 9 1 (.slice A acc.length c) acc.length (tv acc) ∧ Two wc pg (.string (strOf l')) (.int .i64 (E : Nat)) ∧ Below w3.heap.size w3 wc)
            case first =>
              have hSc : ∀ W, Below w3.heap.size w3 W → W.cell? ⟨w2.heap.size, 0, none⟩ = some (.string (strOf st.1)) ∧ W.cell? ⟨w2.heap.size, 1, none⟩ = some (.int .i64 st.2) ∧ W.cell? ⟨b, o + k, none⟩ = some (.int .i8 z) := fun W h => ⟨(h.cell (p := ⟨w2.heap.size, 0, none⟩) hh3).trans e0, (h.cell (p := ⟨w2.heap.size, 1, none⟩) hh3).trans e1, (h.cell (p := ⟨b, o + k, none⟩) hb3').trans hc3⟩
              have hS0 : Below w3.heap.size w3 w3.drew := (Below.refl _ _).drew
              have Hal : Hid (∀ o : Obj, Below w3.heap.size w3 (w3.alloc o).drew) := Lib.hid fun o => ((Below.refl _ _).alloc (Nat.le_refl _) o).drew
              refine wp_region_any (by kernel_rfl) ?_
              change wpAny _ _ _ _ _ _ _ (World.drew _)
              refine wpAny_of_held (S := fun W => Below w3.heap.size w3 W) _ _ _ _ ?_
              refine roH_take 1 (some 53) (v := ?v1c) rfl rfl (by kernel_rfl) (by kernel_rfl) (by kernel_rfl) (fun _ _ _ h => h) (by rfl) ?y1c (by assumption) ?r1c
              case y1c => (intro W hS; go_simp; try with_reducible rfl)
              simp only [Act.put, List.setIfInBounds_toArray, List.set_cons_zero, List.set_cons_succ]
              refine roH_take 2 (some 54) (v := ?v2c) rfl rfl (by kernel_rfl) (by kernel_rfl) (by kernel_rfl) (fun _ _ _ h => h) (by rfl) ?y2c (by assumption) ?r2c
              case y2c => (intro W hS; go_simp; try with_reducible rfl)
              simp only [Act.put, List.setIfInBounds_toArray, List.set_cons_zero, List.set_cons_succ]
              refine roH_take 3 (some 55) (v := ?v3c) rfl rfl (by kernel_rfl) (by kernel_rfl) (by kernel_rfl) (fun _ _ _ h => h) (by rfl) ?y3c (by assumption) ?r3c
              case y3c => (intro W hS; go_simp; try with_reducible rfl)
              simp only [Act.put, List.setIfInBounds_toArray, List.set_cons_zero, List.set_cons_succ]
              refine roH_take 0 (some 52) (v := ?v0c) rfl rfl (by kernel_rfl) (by kernel_rfl) (by kernel_rfl) (fun _ _ _ h => h) (by rfl) ?y0c (by assumption) ?r0c
              case y0c => (intro W hS; obtain ⟨s0, s1, s2⟩ := hSc W hS; go_simp; try with_reducible rfl)
              simp only [Act.put, List.setIfInBounds_toArray, List.set_cons_zero, List.set_cons_succ]
              refine roH_take 4 (some 56) (v := ?v4c) rfl rfl (by kernel_rfl) (by kernel_rfl) (by kernel_rfl) (fun _ _ _ h => h) (by rfl) ?y4c (by assumption) ?r4c
              case y4c => (intro W hS; obtain ⟨s0, s1, s2⟩ := hSc W hS; go_simp; try with_reducible rfl)
              simp only [Act.put, List.setIfInBounds_toArray, List.set_cons_zero, List.set_cons_succ]
              refine roH_take 5 (some 57) (v := ?v5c) rfl rfl (by kernel_rfl) (by kernel_rfl) (by kernel_rfl) (fun _ _ _ h => h) (by rfl) ?y5c (by assumption) ?r5c
              case y5c => (intro W hS; go_simp; try with_reducible rfl)
              simp only [Act.put, List.setIfInBounds_toArray, List.set_cons_zero, List.set_cons_succ]
              refine roH_take 6 (some 58) (v := ?v6c) rfl rfl (by kernel_rfl) (by kernel_rfl) (by kernel_rfl) (fun _ _ _ h => h) (by rfl) ?y6c (by assumption) ?r6c
              case y6c => (intro W hS; go_simp; try with_reducible rfl)
              simp only [Act.put, List.setIfInBounds_toArray, List.set_cons_zero, List.set_cons_succ]
              refine roH_two 7 11 rfl rfl (by kernel_rfl) ?_ ?_
              · intro K hK
                go_simp
                refine (refList_rd st (by omega) (z - 3) (by omega) (by omega) _).mono ?_
                rintro e w4 ⟨v4, rfl, hown4, hb4⟩
                rw [HN.out] at hown4 ⊢
                obtain ⟨A4, c4, rfl, hl4⟩ := Rd.own hown4
                have Hl4 := Lib.hid hown4
                clear hown4 hl4
                have hS4 : Below w3.heap.size w3 w4 := hS0.trans hb4
                have hs34 := hS4.size
                refine hK _ _ hS4 ?_
                clear hK K
                refine roH_take 8 (some 51) (v := ?v8c) rfl rfl (by kernel_rfl) (by kernel_rfl) (by kernel_rfl) (fun _ _ _ h => h) (by rfl) ?y8c (by assumption) ?r8c
                case y8c => (intro W hS; go_simp; try with_reducible rfl)
                simp only [Act.put, List.setIfInBounds_toArray, List.set_cons_zero, List.set_cons_succ]
                refine roH_take 9 (some 60) (v := ?v9c) rfl rfl (by kernel_rfl) (by kernel_rfl) (by kernel_rfl) (fun _ _ _ h => h) (by rfl) ?y9c (by assumption) ?r9c
                case y9c => (intro W hS; go_simp; try with_reducible rfl)
                simp only [Act.put, List.setIfInBounds_toArray, List.set_cons_zero, List.set_cons_succ]
                refine roH_take 10 (some 61) (v := ?v10c) rfl rfl (by kernel_rfl) (by kernel_rfl) (by kernel_rfl) (fun _ _ _ h => h) (by rfl) ?y10c (by assumption) ?r10c
                case y10c => (intro W hS; go_simp; try with_reducible rfl)
                simp only [Act.put, List.setIfInBounds_toArray, List.set_cons_zero, List.set_cons_succ]
                have hSa : Below w3.heap.size w3 (w4.alloc (.cells #[.string ⟨#[]⟩, .int .i64 0] 41)) := hS4.alloc hs34 _
                refine roH_one 11 rfl (by kernel_rfl) ?_
                intro K hK
                go_simp
                refine hK _ _ hSa ?_
                clear hK K
                refine roH_take 12 (some 16) (v := ?v12c) rfl rfl (by kernel_rfl) (by kernel_rfl) (by kernel_rfl) (fun _ _ _ h => h) (by rfl) ?y12c (by assumption) ?r12c
                case y12c => (intro W hS; go_simp; try with_reducible rfl)
                simp only [Act.put, List.setIfInBounds_toArray, List.set_cons_zero, List.set_cons_succ]
                refine roH_one 13 rfl (by kernel_rfl) ?_
                intro K hK
                go_simp
                refine hK _ _ (hS4.alloc hs34 _) ?_
                clear hK K
                refine wpAnyH_done (by kernel_rfl) ?_ _
                go_wp2_with fail
                go_meet
                exact ⟨A4, c4, w4.heap.size, rfl, rfl, own_below' Hl4.out ((Below.refl _ _).alloc (Nat.le_refl _) _), Two.new _ _ _ _, hS4.alloc hs34 _⟩
              · intro K hK
                go_simp
                have hSb := Hal.out (.cells #[.string ⟨#[]⟩, .int .i64 0] 41)
                refine hK _ _ hSb ?_
                clear hK K
                refine roH_one 7 rfl (by kernel_rfl) ?_
                intro K hK
                go_simp
                refine (refList_rd st (by omega) (z - 3) (by omega) (by omega) _).mono ?_
                rintro e w4 ⟨v4, rfl, hown4, hb4⟩
                rw [HN.out] at hown4 ⊢
                have Ho4 := Lib.hid hown4
                clear hown4
                have hS4 : Below w3.heap.size w3 w4 := hSb.trans (hb4.mono (by simp))
                have hs34 : w3.heap.size < w4.heap.size := by have := hb4.size; simp at this; omega
                have hT0 := Two.new w3 (.string ⟨#[]⟩) (.int .i64 0) 41
                have hT4 : Two w4 w3.heap.size (.string ⟨#[]⟩) (.int .i64 0) := (hT0.drewN 1).below hb4 (by simp)
                have HT4 := Lib.hid hT4
                obtain ⟨x0, x1, x2, x3⟩ := hT4
                refine hK _ _ hS4 ?_
                clear hK K hb4 hT0
                refine roH_take 8 (some 51) (v := ?v8bc) rfl rfl (by kernel_rfl) (by kernel_rfl) (by kernel_rfl) (fun _ _ _ h => h) (by rfl) ?y8bc (by assumption) ?r8bc
                case y8bc => (intro W hS; go_simp; try with_reducible rfl)
                simp only [Act.put, List.setIfInBounds_toArray, List.set_cons_zero, List.set_cons_succ]
                refine roH_take 9 (some 60) (v := ?v9bc) rfl rfl (by kernel_rfl) (by kernel_rfl) (by kernel_rfl) (fun _ _ _ h => h) (by rfl) ?y9bc (by assumption) ?r9bc
                case y9bc => (intro W hS; go_simp; try with_reducible rfl)
                simp only [Act.put, List.setIfInBounds_toArray, List.set_cons_zero, List.set_cons_succ]
                refine roH_take 10 (some 61) (v := ?v10bc) rfl rfl (by kernel_rfl) (by kernel_rfl) (by kernel_rfl) (fun _ _ _ h => h) (by rfl) ?y10bc (by assumption) ?r10bc
                case y10bc => (intro W hS; go_simp; try with_reducible rfl)
                simp only [Act.put, List.setIfInBounds_toArray, List.set_cons_zero, List.set_cons_succ]
                refine roH_take 12 (some 16) (v := ?v12bc) rfl rfl (by kernel_rfl) (by kernel_rfl) (by kernel_rfl) (fun _ _ _ h => h) (by rfl) ?y12bc (by assumption) ?r12bc
                case y12bc => (intro W hS; go_simp; try with_reducible rfl)
                simp only [Act.put, List.setIfInBounds_toArray, List.set_cons_zero, List.set_cons_succ]
                refine roH_one 13 rfl (by kernel_rfl) ?_
                intro K hK
                go_simp
                refine hK _ _ ((hS4.setCell (Nat.le_refl _) _).setCell (Nat.le_refl _) _) ?_
                clear hK K
                refine wpAnyH_done (by kernel_rfl) ?_ _
                go_wp2_with fail
                go_meet
                have hown5 := ownsRow_setCell_below (ownsRow_setCell_below (a := ⟨w3.heap.size, 0, none⟩) Ho4.out (by simp) (.string (strOf l'))) (a := ⟨w3.heap.size, 1, none⟩) (by simp) (.int .i64 (E : Nat))
                obtain ⟨A4, c4, rfl, hl5⟩ := Rd.own hown5
                exact ⟨A4, c4, w3.heap.size, rfl, rfl, own_base hown5 (by simp), HT4.out.set _ _, (hS4.setCell (Nat.le_refl _) _).setCell (Nat.le_refl _) _⟩
            case rest =>
              obtain ⟨A4, c4, pg, rfl, rfl, hown4, ht4, hb4⟩ := hcut
              have htw4 := Htw3.out.below hb4 Htw3.out.lt
              have hhr4 := htw4.lt
              have hrd4 := Hr3.out.below hb4 Hr3.out.lt
              have hb4w : Below w.heap.size w wc := Hb3.out.trans (hb4.mono hs3)
              have hs4 := hb4w.size
              have hb43 := hb4.size
              have hk3 : w2.heap.size < wr.heap.size := hhr
              have hown3' := own_below' Ho3.out hb4
              have H5 : Hid (∀ (u v : Value) (W : World), (wc.setCell ⟨w2.heap.size, 0, none⟩ u).setCell ⟨w2.heap.size, 1, none⟩ v = W → IsR W g (l', E) ∧ Two W w2.heap.size u v ∧ Below w.heap.size w W ∧ Rd W W.heap.size 1 A3 acc.length c3 (tv acc) ∧ Rd W W.heap.size 1 A4 acc.length c4 (tv acc)) := Lib.hid (by
                rintro u v W rfl
                exact ⟨hrd4.below (B := g + 1) (((Below.refl _ _).setCell hgh u).setCell hgh v) (Nat.lt_succ_self _), htw4.set u v, (hb4w.setCell hs2 _).setCell hs2 _, own_set2 hown3' hk3 u v, own_set2 hown4 hh3 u v⟩)
              obtain ⟨e0, e1, e2, e3⟩ := htw4
              obtain ⟨p0, p1, p2, p3⟩ := ht4
              clear hown4 hown3' hrd4 hb4w hb4 Ho3 hc3 Hr3 Htw3 Hb3
              go_wp2_with fail
              generalize hW5 : World.setCell (World.setCell _ _ _) _ _ = W5
              obtain ⟨hr5, ht5, hb5, hx3, hx4⟩ := H5.out _ _ _ hW5
              have Hr5 := Lib.hid hr5
              have Ht5 := Lib.hid ht5
              have Hb5 := Lib.hid hb5
              have Hx3 := Lib.hid hx3
              have Hx4 := Lib.hid hx4
              have hs5 := hb5.size
              have hg5 := hr5.lt
              have hh5 := ht5.lt
              clear hr5 ht5 hb5 hx3 hx4 H5 hW5 e0 e1 e2 e3 p0 p1 p2 p3
              go_loopw [18] (fun i W => ∃ j : Nat, j ≤ acc.length ∧ i = .int .i64 j ∧ Below W5.heap.size W5 W) (fun i _ => acc.length - (intOf i).toNat)
              case atStart => exact ⟨0, Nat.zero_le _, rfl, Below.refl _ _⟩
              case round =>
                obtain ⟨j, hj, rfl, hbj⟩ := hrel
                have Hbj := Lib.hid hbj
                clear hbj
                by_cases hltj : j < acc.length
                · obtain ⟨b2, o2, sa, rfl, _, hxa, hca⟩ := (Hx3.out.below Hbj.out).get hltj
                  obtain ⟨b3, o3, sb, rfl, _, hxb, hcb⟩ := (Hx4.out.below Hbj.out).get hltj
                  rw [hxa] at hxb
                  simp at hxb
                  subst hxb
                  obtain ⟨ls, rfl⟩ := tv_at hxa
                  have hj0 : (0 : Int) ≤ (j : Int) := by omega
                  have hj1 : (j : Int) < (acc.length : Int) := by omega
                  clear hxa
                  go_wp2_with fail
                  go_quiet (fail)
                  go_wp2
                  exact ⟨⟨j + 1, by omega, by go_num, below_drewN' Hbj.out _⟩, by simp [intOf]; omega⟩
                · clear hj
                  have Hr6 := Lib.hid (Hr5.out.below Hbj.out Hr5.out.lt)
                  have ht6 := Ht5.out.below Hbj.out Ht5.out.lt
                  have Hb6 : Hid (Below w.heap.size w _) := Lib.hid (Hb5.out.trans (Hbj.out.mono hs5))
                  have Ht6 := Lib.hid ht6
                  obtain ⟨e0, e1, e2, e3⟩ := ht6
                  go_wp2_with fail
                  go_quiet (first | (go_at_call 24; exact Calls.quiet_of_same (same_of (left_any g _ _ (Hr6.out.drewN _)))) | (go_at_call 25; exact Calls.quiet_of_same (same_of (err_any g _ _ (Hr6.out.drewN _)))) | (go_at_call 26; exact Calls.quiet_of_same (HEND.out _ (Hr6.out.drewN _))))
                  go_wp2
                  exact ⟨⟨k + 1, (_, _), by omega, by go_num, Hr6.out.drewN _, Ht6.out.drewN _, hln5, below_drewN' Hb6.out _⟩, by simp [intOf]; omega⟩
    · have e1 : k = n1 := by omega
      subst e1
      go_wp2_with (first
        | (go_at_call 18; refine (num_nil _).mono ?_; rintro e w' ⟨rfl, rfl⟩)
        | (go_at_call 20; refine (text_nil _).mono ?_; rintro e w' ⟨rfl, rfl⟩)
        | (go_at_call 22; refine (list_nil _ _).mono ?_; rintro e w' ⟨rfl, rfl⟩)
        | (go_at_call 24; refine (left_nil _).mono ?_; rintro e w' ⟨rfl, rfl⟩)
        | (go_at_call 25; refine (err_nil _).mono ?_; rintro e w' ⟨rfl, rfl⟩)
        | (go_at_call 26; refine (end_nil _).mono ?_; rintro e w' ⟨rfl, rfl⟩))
      go_ret
      exact ⟨rfl, Hb.out⟩
end Go.Proofs.Ytoddmaiplinkaaa
