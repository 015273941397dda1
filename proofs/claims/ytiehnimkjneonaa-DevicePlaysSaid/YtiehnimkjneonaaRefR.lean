/- The document's own New and Read. Conditions: none. -/
import Derived.Test.YtiehnimkjneonaaRefP
import Derived.Test.YtiehnimkjneonaaFrame
namespace Go.Proofs.Ytiehnimkjneonaa
open Go.RowKit
def wsC (p : Nat × Sec) : List Value := [.int .i64 p.1, .string (strOf p.2)]
def wsCs (l : List (Nat × Sec)) : List Value := l.flatMap wsC
theorem wsCs_snoc (l : List (Nat × Sec)) (p : Nat × Sec) : wsCs (l ++ [p]) = wsCs l ++ [.int .i64 p.1, .string (strOf p.2)] := by simp [wsCs, wsC]
theorem wsCs_one (l : List (Nat × Sec)) : ∀ u ∈ wsCs l, u.oneCell' = true := fun u hu => by
  obtain ⟨p, _, hp⟩ := List.mem_flatMap.1 hu
  simp [wsC] at hp
  rcases hp with rfl | rfl <;> rfl
theorem ws_cells {w : World} {B c : Nat} {A : Option Addr} {l : List (Nat × Sec)} (h : Rd w B 2 A l.length c (wsCs l)) {k : Nat} {a : Nat × Sec} (hk : l[k]? = some a) :
    ∃ b o, A = some ⟨b, o, none⟩ ∧ b < B ∧ w.cell? ⟨b, o + k * 2, none⟩ = some (.int .i64 a.1) ∧ w.cell? ⟨b, o + k * 2 + 1, none⟩ = some (.string (strOf a.2)) := by
  have hlt := (List.getElem?_eq_some_iff.1 hk).1
  obtain ⟨b, o, rfl, hb, hc⟩ := h.at_ (by omega)
  have hf : ∀ r, r < 2 → (wsCs l)[k * 2 + r]? = (wsC a)[r]? := fun r hr => by
    rw [wsCs, List.flatMap_def]
    exact flatten_at (fun x hx => by obtain ⟨y, _, rfl⟩ := List.mem_map.1 hx; rfl) (by rw [List.getElem?_map, hk]; rfl) hr
  refine ⟨b, o, rfl, hb, ?_, ?_⟩
  · exact hc (k * 2) _ ((hf 0 (by omega)).trans rfl)
  · rw [Nat.add_assoc]; exact hc _ _ ((hf 1 (by omega)).trans rfl)

def zs : Sec := List.replicate 64 0
theorem pad_nil : pad [] = zs := rfl
set_option maxRecDepth 100000 in
set_option maxHeartbeats 1000000 in
theorem refNew_any (w : World) (n : Nat) (hn : n ≤ 65536) :
    Calls Try.prog 11 #[.int .i64 n] w fun e w' => ∃ A c, e = .returned (.agg #[.slice A n c, .slice none 0 0, .int .i64 0, .bool false]) ∧ w'.ownsRow w.heap.size 9 1 (.slice A n c) n (kcs (List.replicate n zs)) ∧ Below w.heap.size w w' := by
  obtain ⟨i0, hi, hz0, hz1, hz2⟩ := info_parts info_str
  have kp := fun W => pad_any W [] (by simp)
  have hse : strOf [] = (⟨#[]⟩ : ByteArray) := rfl
  rw [hse, pad_nil] at kp
  go_enter Try.func11, Try.ntmps11
  go_upto_region 2 with (fail)
  obtain ⟨V, hV, r0, x0, b0, hs⟩ := two_laid w (.slice none 0 0) (.slice none 0 0) 0 false (.slice none 0 0) (.slice none 0 0) 0 false
  rw [hV]
  clear hV
  go_wp2_with ((with_reducible refine (kp _).mono ?_); rintro e w2 ⟨rfl, rfl⟩)
  go_loopw [5] (fun vi wr => ∃ (k : Nat) (A : Option Addr) (c : Nat), vi = .int .i64 k ∧ k ≤ n ∧ wr.ownsRow (w.heap.size + 2) 9 1 (.slice A k c) k (kcs (List.replicate k zs)) ∧ D4 wr (w.heap.size + 1) (.slice A k c) (.slice none 0 0) 0 false ∧ D4 wr w.heap.size (.slice none 0 0) (.slice none 0 0) 0 false ∧ Below w.heap.size w wr ∧ w.heap.size + 2 ≤ wr.heap.size) (fun vi _ => n - (intOf vi).toNat)
  case atStart => exact ⟨0, none, 0, rfl, by omega, World.ownsRow_nil _ _ _ _, x0, r0, b0, by omega⟩
  case round =>
    obtain ⟨k, A, c, rfl, hkn, hown, hx, hr, hb, hsz⟩ := hrel
    have f0 := hx.c0
    have f1 := hx.c1
    have f2 := hx.c2
    have f3 := hx.c3
    by_cases hlt : k < n
    · have hlz : (k : Int) < (n : Int) := by omega
      have hs1 : (wr.alloc (.cells #[.string (strOf zs)] 9)).heap.size = wr.heap.size + 1 := by simp
      go_wp2_with (at_builtin; refine wpList_append_src _ rfl (.tmp 14) (.tmp 16) 29 29 rfl (w.heap.size + 2) 9 i0 (.string .empty) 1 16 Try.underlying29 hi hz0 hz1 hz2 rfl (by decide) _ k _ rfl (hown.alloc _) _ 1 [_] rfl (Src.ofSlice _ Try.underlying29 _ 1 1 _ rfl (cell_one_new _ _ _) (fun u hu => by simp at hu; subst hu; rfl)) (by simp only [maxLen]; omega) (by omega) (by simp; omega) ?_; intro v2 w3 hown3 hg3 hat3; have x4 := (hx.alloc (.cells #[.string (strOf zs)] 9)).same (hg3.block _ (hx.alloc _).lt (fun e => (by have := (hown.lt _ e.symm).1; omega))); have r4 := (hr.alloc (.cells #[.string (strOf zs)] 9)).same (hg3.block _ (hr.alloc _).lt (fun e => (by have := (hown.lt _ e.symm).1; omega))); have b4 := (hb.alloc (by omega) (.cells #[.string (strOf zs)] 9)).grown hg3 (by omega) (fun q e => (by have := (hown.lt _ e).1; omega)); obtain ⟨A2, c2, rfl, hrd⟩ := Rd.own hown3; have hs5 := hg3.size; clear f0 f1 f2 f3; have f0 := x4.c0; have ff := x4.fz)
      refine ⟨⟨k + 1, A2, c2, rfl, by omega, ?_, x4.s0 _, r4.far (by show w.heap.size ≠ w.heap.size + 1; omega) _, b4.setCell (Nat.le_succ _) _, by simp [World.setCell]; omega⟩, by simp [intOf]; omega⟩
      have hk1 : kcs (List.replicate (k + 1) zs) = kcs (List.replicate k zs) ++ [.string (strOf zs)] := by rw [List.replicate_succ']; simp [kcs]
      rw [hk1]
      exact own_same hown3 fun g e => Below.heap_setCell _ _ _ _ (by have := (hown3.lt g e).1; show g ≠ w.heap.size + 1; omega)
    · obtain rfl : k = n := by omega
      have g0 := hr.c0
      have g1 := hr.c1
      have g2 := hr.c2
      have g3 := hr.c3
      have gf := hr.fz
      go_wp2_with fail
      have o6 : ((((wr.setCell ⟨w.heap.size, 0, none⟩ (.slice A k c)).setCell ⟨w.heap.size, 1, none⟩ (.slice none 0 0)).setCell ⟨w.heap.size, 2, none⟩ (.int .i64 0)).setCell ⟨w.heap.size, 3, none⟩ (.bool false)).ownsRow (w.heap.size + 2) 9 1 (.slice A k c) k (kcs (List.replicate k zs)) := own_same hown fun g e => by
        have hne : g ≠ w.heap.size := by have := (hown.lt g e).1; omega
        rw [Below.heap_setCell _ _ _ _ hne, Below.heap_setCell _ _ _ _ hne, Below.heap_setCell _ _ _ _ hne, Below.heap_setCell _ _ _ _ hne]
      obtain ⟨V3, hV3, r6, x6, b6, hs6⟩ := four_set hr hx (by omega) hb (Nat.le_refl _) (.slice A k c) (.slice none 0 0) 0 false
      rw [hV3] at o6 ⊢
      have k0 := r6.c0
      have k1 := r6.c1
      have k2 := r6.c2
      have k3 := r6.c3
      refine bodyPost_ret (v := .agg #[.slice A k c, .slice none 0 0, .int .i64 0, .bool false]) (by simp [results, Try.results11, go_sem, k0, k1, k2, k3]; try rfl) rfl ?_
      exact ⟨A, c, rfl, own_base o6 (by omega), b6⟩

/-- What is read of a sector behind some writes. -/
def atS (l : List Sec) (ps : List (Nat × Sec)) (i : Nat) : Sec := (puts l ps)[i]?.getD []
theorem atS_snoc {l : List Sec} {ps : List (Nat × Sec)} {p : Nat × Sec} {i : Nat} (hi : i < l.length) : atS l (ps ++ [p]) i = if p.1 = i then p.2 else atS l ps i := by
  unfold atS
  rw [puts_snoc]
  split
  · rename_i h
    rw [h, List.getElem?_set_self (by rw [puts_length]; exact hi)]
    rfl
  · rename_i h
    rw [List.getElem?_set_ne h]
set_option maxRecDepth 100000 in
theorem refRead_bad (w : World) {KA WA : Option Addr} {n kc m wc : Nat} (a i : Int) (d : Bool) (_hn : n ≤ 65536) (hi : i < 0 ∨ (n : Int) ≤ i) :
    Calls Try.prog 22 #[.agg #[.slice KA n kc, .slice WA m wc, .int .i64 a, .bool d], .int .i64 i] w fun e w' => e = .returned (.tuple #[.string ⟨#[]⟩, .int .i64 1]) ∧ Below w.heap.size w w' := by
  go_enter Try.func22, Try.ntmps22
  by_cases h1 : i < 0
  · go_wp2_with fail
    go_ret2
    exact ⟨rfl, (Below.refl _ _).alloc (Nat.le_refl _) _⟩
  · have h2 : (n : Int) ≤ i := by omega
    go_wp2_with fail
    go_ret2
    exact ⟨rfl, (Below.refl _ _).alloc (Nat.le_refl _) _⟩
set_option maxRecDepth 100000 in
theorem refRead_dead (w : World) {KA WA : Option Addr} {n kc m wc : Nat} (a i : Int) (_hn : n ≤ 65536) (hi0 : 0 ≤ i) (hi1 : i < n) :
    Calls Try.prog 22 #[.agg #[.slice KA n kc, .slice WA m wc, .int .i64 a, .bool true], .int .i64 i] w fun e w' => e = .returned (.tuple #[.string ⟨#[]⟩, .int .i64 20]) ∧ Below w.heap.size w w' := by
  have h1 : ¬ i < 0 := by omega
  go_enter Try.func22, Try.ntmps22
  go_wp2_with fail
  go_ret2
  exact ⟨rfl, (Below.refl _ _).alloc (Nat.le_refl _) _⟩
set_option maxRecDepth 100000 in
theorem refRead_ok (w : World) {KA WA : Option Addr} {kc wc : Nat} (a : Int) (i : Nat) (l : List Sec) (ps : List (Nat × Sec)) (hi : i < l.length) (hr : Rd w w.heap.size 1 KA l.length kc (kcs l)) (hw : Rd w w.heap.size 2 WA ps.length wc (wsCs ps)) (_hl : l.length ≤ 65536) (hm : ps.length ≤ 1000000) :
    Calls Try.prog 22 #[.agg #[.slice KA l.length kc, .slice WA ps.length wc, .int .i64 a, .bool false], .int .i64 i] w fun e w' => e = .returned (.tuple #[.string (strOf (atS l ps i)), .int .i64 0]) ∧ Below w.heap.size w w' := by
  have hiz : (i : Int) < (l.length : Int) := by omega
  obtain ⟨b, o, u, rfl, hbb, hu, cu⟩ := hr.get hi
  rw [kcs_get, List.getElem?_eq_getElem hi] at hu
  simp at hu
  subst hu
  have hb := (Below.refl w.heap.size w).alloc (Nat.le_refl _) (.cells #[.slice (some ⟨b, o, none⟩) l.length kc, .slice WA ps.length wc, .int .i64 a, .bool false] 32)
  have c0 := (hb.cell (p := ⟨b, _, none⟩) hbb).trans cu
  clear cu
  go_enter Try.func22, Try.ntmps22
  go_upto_region 6 with (fail)
  have x0 := D4.new w (.slice (some ⟨b, o, none⟩) l.length kc) (.slice WA ps.length wc) a false
  have hw1 := hw.below hb
  generalize w.alloc (.cells #[.slice (some ⟨b, o, none⟩) l.length kc, .slice WA ps.length wc, .int .i64 a, .bool false] 32) = V at *
  have e0 := x0.c0
  have e1 := x0.c1
  have e2 := x0.c2
  have e3 := x0.c3
  go_wp2_with fail
  go_loop [6, 7] (fun vs vk => ∃ k : Nat, vk = .int .i64 k ∧ k ≤ ps.length ∧ vs = .string (strOf (atS l (ps.take k) i))) (fun _ vk => ps.length - (intOf vk).toNat)
  case atStart => exact ⟨0, rfl, by omega, by rw [List.take_zero]; unfold atS; rw [puts_nil, List.getElem?_eq_getElem hi]; rfl⟩
  case round =>
    obtain ⟨k, rfl, hkl, rfl⟩ := hrel
    by_cases hlt : k < ps.length
    · have hlz : (k : Int) < (ps.length : Int) := by omega
      obtain ⟨p, hkp⟩ : ∃ p, ps[k]? = some p := ⟨ps[k], List.getElem?_eq_getElem hlt⟩
      obtain ⟨b2, o2, rfl, hb2, d0, d1⟩ := ws_cells hw1 hkp
      have hst : atS l (ps.take (k + 1)) i = if p.1 = i then p.2 else atS l (ps.take k) i := by rw [List.take_add_one, hkp]; exact atS_snoc hi
      by_cases hpi : p.1 = i
      · rw [if_pos hpi] at hst
        rw [hpi] at d0
        go_wp2_with fail
        exact ⟨⟨k + 1, rfl, by omega, by rw [hst]⟩, by simp [intOf]; omega⟩
      · rw [if_neg hpi] at hst
        have hpz : ¬ (p.1 : Int) = (i : Int) := by omega
        go_wp2_with fail
        exact ⟨⟨k + 1, rfl, by omega, by rw [hst]⟩, by simp [intOf]; omega⟩
    · obtain rfl : k = ps.length := by omega
      rw [List.take_of_length_le (Nat.le_refl _)]
      go_wp2_with fail
      go_ret2
      exact ⟨rfl, hb⟩
end Go.Proofs.Ytiehnimkjneonaa
