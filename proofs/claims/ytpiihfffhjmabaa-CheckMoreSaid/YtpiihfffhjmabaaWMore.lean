/- CheckMore walked. Conditions: none. -/
import Derived.BigQuiet
import Derived.Deep.QuietTactic
import Derived.Deep.Cut
import Derived.Deep.DeepCutAuto
import Derived.IntWalk
import Derived.Test.YtpiihfffhjmabaaAwake9
import Derived.Test.YtpiihfffhjmabaaFew9
import Derived.Test.YtpiihfffhjmabaaChkL
namespace Go.Proofs.Ytpiihfffhjmabaa
open Go.RowKit

theorem tAcells_one (l : List TypA) : ∀ u ∈ l.flatMap TypA.cells, u.oneCell' = true := by
  intro u hu
  obtain ⟨t, _, ht⟩ := List.mem_flatMap.1 hu
  simp only [TypA.cells, List.mem_cons, List.not_mem_nil, or_false] at ht
  rcases ht with rfl | rfl <;> rfl
theorem rAcells_one (l : List RelA) : ∀ u ∈ l.flatMap RelA.cells, u.oneCell' = true := by
  intro u hu
  obtain ⟨t, _, ht⟩ := List.mem_flatMap.1 hu
  simp only [RelA.cells, List.mem_cons, List.not_mem_nil, or_false] at ht
  rcases ht with rfl | rfl | rfl | rfl | rfl | rfl <;> rfl
/-- A cell of a row is set. -/
theorem Rd.put {w : World} {B sz n c g : Nat} {xs : List Value} (h : Rd w B sz (some ⟨g, 0, none⟩) n c xs) {k : Nat} (hk : k < xs.length) (u : Value) : Rd (w.setCell ⟨g, k, none⟩ u) B sz (some ⟨g, 0, none⟩) n c (xs.set k u) := by
  refine ⟨by rw [List.length_set]; exact h.len, h.cap, h.capm, fun e => (by cases e), fun hp => ?_⟩
  obtain ⟨b, o, e, hb, hc⟩ := h.at_ hp
  injection e with e
  injection e with e1 e2 e3
  subst e1; subst e2
  refine ⟨g, 0, rfl, hb, fun j v hj => ?_⟩
  rw [Nat.zero_add]
  have hcj := fun j v hj => hc j v hj
  simp only [Nat.zero_add] at hcj
  by_cases hjk : j = k
  · subst hjk
    rw [List.getElem?_set_self hk] at hj
    injection hj with hj
    subst hj
    exact World.cell?_setCell_same' _ _ _ (by rw [hcj j _ (List.getElem?_eq_getElem hk)]; rfl)
  · rw [List.getElem?_set_ne (fun e => hjk e.symm)] at hj
    exact (World.cell?_setCell_other w ⟨g, k, none⟩ ⟨g, j, none⟩ u (by intro e; injection e with _ e _; exact hjk e.symm)).trans (hcj j v hj)
theorem tcells_set (u : TypA) : ∀ (l : List TypA) (k : Nat), (l.set k u).flatMap TypA.cells = ((l.flatMap TypA.cells).set (k * 2) (.string u.name)).set (k * 2 + 1) (.slice u.A u.rels.length u.c)
  | [], k => by simp
  | x :: r, 0 => by
    rw [List.set_cons_zero, List.flatMap_cons, List.flatMap_cons]
    rfl
  | x :: r, k + 1 => by
    rw [List.set_cons_succ, List.flatMap_cons, tcells_set u r k, List.flatMap_cons, show (k + 1) * 2 = k * 2 + 1 + 1 by omega]
    rfl
theorem tcellsA_at {l : List TypA} {k : Nat} {t : TypA} (h : l[k]? = some t) : (l.flatMap TypA.cells)[k * 2]? = some (.string t.name) ∧ (l.flatMap TypA.cells)[k * 2 + 1]? = some (.slice t.A t.rels.length t.c) := ⟨flat_get TypA.cells (sz := 2) (fun _ => rfl) h (k := 0) (by omega), flat_get TypA.cells (sz := 2) (fun _ => rfl) h (k := 1) (by omega)⟩
theorem cells_new6b (w : World) (o : Obj) (a b c d e f : Value) (t : TypeId) : ∀ j u, [a, b, c, d, e, f][j]? = some u → ((w.alloc o).alloc (.cells #[a, b, c, d, e, f] t)).cell? ((⟨w.heap.size + 1, 0, none⟩ : Addr).add j) = some u := by
  have k := cells_new6 (w.alloc o) a b c d e f t
  rw [show (w.alloc o).heap.size = w.heap.size + 1 by simp] at k
  exact k
/-- A schema with another type in a type's place. -/
theorem set9 {w : World} {R g n : Nat} {A : Option Addr} {c c' : Nat} {l : List TypA} {t : TypA} {k : Nat} (h : SchA w R A c l) (hk : k < l.length) (hn : t.rels.length = n) (hr : Rd w w.heap.size 2 (some ⟨g, 0, none⟩) l.length c' (l.flatMap TypA.cells)) (ht : t.ok ((w.setCell ⟨g, k * 2, none⟩ (.string t.name)).setCell ⟨g, k * 2 + 1, none⟩ (.slice t.A n t.c)) R)
    (hS : SchA ((w.setCell ⟨g, k * 2, none⟩ (.string t.name)).setCell ⟨g, k * 2 + 1, none⟩ (.slice t.A n t.c)) R A c l) :
    SchA ((w.setCell ⟨g, k * 2, none⟩ (.string t.name)).setCell ⟨g, k * 2 + 1, none⟩ (.slice t.A n t.c)) R (some ⟨g, 0, none⟩) c' (l.set k t) := by
  subst hn
  have hl := hr.len
  have h1 := hr.put (k := k * 2) (by omega) (.string t.name)
  have h2 := h1.put (k := k * 2 + 1) (by rw [List.length_set]; omega) (.slice t.A t.rels.length t.c)
  refine ⟨?_, ?_, fun a ha => ?_⟩
  · rw [List.length_set, tcells_set]
    simpa using h2
  · rw [List.length_set]
    exact h.few
  · rcases List.mem_or_eq_of_mem_set ha with ha | rfl
    · exact hS.each a ha
    · exact ht
theorem ops3_rd {w : World} {b : Nat} {t : TypeId} {n : ByteArray} (h : Bk w b #[.int .i64 1, .string ⟨#[]⟩, .string ⟨#[]⟩, .int .i64 2, .string n, .string ⟨#[]⟩, .int .i64 4, .string ⟨#[]⟩, .string ⟨#[]⟩] t) :
    Rd w w.heap.size 3 (some ⟨b, 0, none⟩) 3 3 (([(1, ⟨#[]⟩, ⟨#[]⟩), (2, n, ⟨#[]⟩), (4, ⟨#[]⟩, ⟨#[]⟩)] : List OpI).flatMap aOp) := by
  refine ⟨rfl, Nat.le_refl _, by simp [maxLen], fun e => (by cases e), fun _ => ⟨b, 0, rfl, h.lt, fun j u hj => ?_⟩⟩
  rw [Nat.zero_add, h.cell, ← hj, ← Array.getElem?_toList]
  rfl
/-- The relation that is added. -/
def selfA (n : ByteArray) (b : Nat) : RelA := ⟨n, n, n, n, none, 0, [], some ⟨b, 0, none⟩, 3, [(1, ⟨#[]⟩, ⟨#[]⟩), (2, n, ⟨#[]⟩), (4, ⟨#[]⟩, ⟨#[]⟩)]⟩
theorem selfA_ok {w : World} {b R : Nat} {t : TypeId} {n : ByteArray} (hn : n.size ≤ R) (hR : 120 ≤ R) (h : Bk w b #[.int .i64 1, .string ⟨#[]⟩, .string ⟨#[]⟩, .int .i64 2, .string n, .string ⟨#[]⟩, .int .i64 4, .string ⟨#[]⟩, .string ⟨#[]⟩] t) : (selfA n b).ok w R := by
  refine ⟨hn, hn, hn, hn, Rd.none_ _ _ _, Nat.zero_le _, fun _ h => (by cases h), ops3_rd h, hR, fun o ho => ?_⟩
  simp only [selfA, List.mem_cons, List.not_mem_nil, or_false] at ho
  rcases ho with rfl | rfl | rfl
  · exact ⟨rfl, Nat.zero_le _, Nat.zero_le _⟩
  · exact ⟨rfl, hn, Nat.zero_le _⟩
  · exact ⟨rfl, Nat.zero_le _, Nat.zero_le _⟩
theorem plusA_ok {w : World} {R : Nat} {A : Option Addr} {c b : Nat} {t : TypA} {n : ByteArray} (h : t.ok w R) (hs : (selfA n b).ok w R) (hr : Rd w w.heap.size 6 A (t.rels.length + 1) c (t.rels.flatMap RelA.cells ++ (selfA n b).cells)) (hl : (t.rels.length + 1) * 112 ≤ R) :
    (TypA.mk t.name A c (t.rels ++ [selfA n b])).ok w R := by
  refine ⟨h.name, ?_, ?_, fun a ha => ?_⟩
  · show Rd w w.heap.size 6 A (t.rels ++ [selfA n b]).length c _
    rw [List.length_append, List.length_singleton, List.flatMap_append, List.flatMap_singleton]
    exact hr
  · show (t.rels ++ [selfA n b]).length * 112 ≤ R
    rw [List.length_append, List.length_singleton]
    exact hl
  · rcases List.mem_append.1 ha with ha | ha
    · exact h.relz a ha
    · rw [List.mem_singleton.1 ha]
      exact hs
/-- What Check says of a right schema whose k-th type has got one more relation. -/
theorem check_plus {l : List TypA} (h : Right (l.map TypA.says)) {k : Nat} {t u : TypA} (hk : l[k]? = some t) {n : ByteArray} (hu : u.says = plusT t.says n) (hn : ∀ r ∈ t.rels, decide (r.name = n) = false) :
    checkE ((l.set k u).map TypA.says) = if 12 < t.rels.length + 1 then (13, t.name) else (0, ⟨#[]⟩) := by
  have hkl := (List.getElem?_eq_some_iff.1 hk).1
  have e1 : l.map TypA.says = (l.take k).map TypA.says ++ t.says :: (l.drop (k + 1)).map TypA.says := by
    have hd : l.drop k = t :: l.drop (k + 1) := by
      rw [List.drop_eq_getElem_cons hkl]
      congr 1
      exact (List.getElem?_eq_some_iff.1 hk).2
    conv => lhs; rw [← List.take_append_drop k l, hd]
    rw [List.map_append, List.map_cons]
  have e2 : (l.set k u).map TypA.says = (l.take k).map TypA.says ++ plusT t.says n :: (l.drop (k + 1)).map TypA.says := by
    rw [List.set_eq_take_append_cons_drop, if_pos hkl, List.map_append, List.map_cons, hu]
  rw [e1] at h
  rw [e2]
  have hl : t.says.rels.length = t.rels.length := List.length_map _
  by_cases h12 : 12 < t.rels.length + 1
  · rw [if_pos h12]
    exact h.plusLong (by rw [hl]; omega)
  · rw [if_neg h12]
    refine (checkE_ok _).2 ((checkE_ok _).1.2 (h.plus (fun r hr => ?_) (by rw [hl]; omega)))
    obtain ⟨a, ha, rfl⟩ := List.mem_map.1 hr
    exact of_decide_eq_false (hn a ha)
set_option maxRecDepth 100000 in
set_option maxHeartbeats 2000000 in
theorem checkMore_walk (A : Option Addr) (c : Nat) (l : List TypA) (x1 : Int) (s2 : ByteArray) (w : World) (h : SchA w 140737488351232 A c l) (f1 : (Lit.int .u8 x1).wf = true) (f2 : s2.size ≤ 140737488351232) :
    Calls Try.prog 6 #[.agg #[.slice A l.length c], .int .u8 x1, .string s2] w fun e w' => e = .returned (.bool true) ∧ Below w.heap.size w w' := by
  have hll : (l.length : Int) ≤ 9223372036854775807 := by have := h.rows.cap; have := h.rows.capm; simp only [maxLen] at this; omega
  have hb := bnew w (.cells #[.slice A l.length c] 24)
  have d0 := Bk.new w #[.slice A l.length c] 24
  replace h := h.up hb
  go_enter Try.func6, Try.ntmps6
  go_upto_region 1 with (fail)
  generalize w.alloc (.cells #[.slice A l.length c] 24) = w1 at *
  go_wp2_with fail
  refine (awake9_any w1).mono ?_
  rintro e w2 ⟨rfl, hb1⟩
  replace hb := bthen hb hb.size hb1
  replace h := h.up hb1
  replace d0 := d0.below hb1
  clear hb1
  have x0 := d0.c1
  have xl := d0.lt
  go_wp2_with fail
  refine (few9_any h).mono ?_
  rintro e w3 ⟨⟨bf, rfl⟩, hb1⟩
  replace hb := bthen hb hb.size hb1
  replace h := h.up hb1
  replace d0 := d0.below hb1
  clear hb1 x0 xl
  have x0 := d0.c1
  have xl := d0.lt
  go_wp2_with fail
  refine (check_any h (Nat.le_refl _)).mono ?_
  rintro e w4 ⟨rfl, hb1⟩
  replace hb := bthen hb hb.size hb1
  replace h := h.up hb1
  replace d0 := d0.below hb1
  clear hb1 x0 xl
  cases bf with
  | false =>
    go_wp2
    go_ret
    exact ⟨rfl, hb⟩
  | true =>
    by_cases hE : (checkE (l.map TypA.says)).1 = 0
    · have hRt := Lib.hid ((checkE_ok (l.map TypA.says)).1.1 hE)
      have h8 : ¬ (8 : Int) < (l.length : Nat) := by
        have := hRt.out.few
        rw [List.length_map] at this
        omega
      generalize checkE (l.map TypA.says) = E at *
      obtain ⟨E1, E2⟩ := E
      obtain rfl : E1 = 0 := hE
      simp only [show ((0 : Nat) : Int) = 0 from rfl]
      have x0 := d0.c1
      have xl := d0.lt
      by_cases hl0 : l.length = 0
      · obtain rfl : l = [] := List.eq_nil_of_length_eq_zero hl0
        go_wp2
        go_ret
        exact ⟨rfl, hb⟩
      · have hl1 : 0 < l.length := Nat.pos_of_ne_zero hl0
        have hli : ¬ ((l.length : Nat) : Int) = 0 := by omega
        have f1' := wf_u8 f1
        obtain ⟨m, rfl⟩ : ∃ m : Nat, x1 = m := ⟨x1.toNat, by omega⟩
        have hm : m ≤ 255 := by omega
        have hwm : IntKind.i64.wrap (m : Int) = (m : Int) := IntWalk.i64_in _ (by omega)
        obtain ⟨k, hk⟩ : ∃ k, m % l.length = k := ⟨_, rfl⟩
        have hkl : k < l.length := by rw [← hk]; exact Nat.mod_lt _ hl1
        have hkt : Int.tmod (m : Int) (l.length : Int) = (k : Int) := by rw [← hk]; rfl
        have hkI : (k : Int) < (l.length : Nat) := by omega
        obtain ⟨t, ht⟩ : ∃ t, l[k]? = some t := ⟨l[k], List.getElem?_eq_getElem hkl⟩
        obtain ⟨g, o, rfl, t0, t1, hkt2⟩ := h.get ht
        have tl := World.block_lt_of_cell? _ _ t0
        dsimp only at tl
        go_upto_region 9 with (fail)
        have hbz := bnew w4 (.cells #[.string t.name, .slice t.A t.rels.length t.c] 46)
        have hX := Bk.new w4 #[.string t.name, .slice t.A t.rels.length t.c] 46
        go_upto_region 10 with (fail)
        replace hb := bthen hb hb.size hbz
        replace h := h.up hbz
        replace d0 := d0.below hbz
        replace hkt2 := hkt2.up hbz
        clear hbz x0 xl t0 t1 tl hkt hwm hkI hm hk
        generalize w4.alloc (.cells #[.string t.name, .slice t.A t.rels.length t.c] 46) = w5 at *
        generalize w4.heap.size = pg at *
        obtain ⟨tA, htA⟩ : ∃ tA, t.A = tA := ⟨_, rfl⟩
        rw [htA] at hX
        have x0 := d0.c1
        have xl := d0.lt
        obtain ⟨t0, t1⟩ := hX.c2
        have tl := hX.lt
        have hlr : (t.rels.length : Int) ≤ 9223372036854775807 := by have := hkt2.rels.cap; have := hkt2.rels.capm; simp only [maxLen] at this; omega
        go_wp2_with fail
        go_loopw [13] (fun vi wx => ∃ i : Nat, vi = .int .i64 i ∧ i ≤ t.rels.length ∧ (∀ r ∈ t.rels.take i, decide (r.name = s2) = false) ∧ Below w5.heap.size w5 wx) (fun vi _ => t.rels.length - (intOf vi).toNat)
        case atStart => exact ⟨0, rfl, Nat.zero_le _, fun t ht => (by simp at ht), Below.refl _ _⟩
        case round =>
          clear x0 xl t0 t1 tl
          obtain ⟨i, rfl, hi, hn, hbx⟩ := hrel
          replace hb := bthen hb hb.size hbx
          replace d0 := d0.below hbx
          replace hX := hX.below hbx
          replace h := h.up hbx
          replace hkt2 := hkt2.up hbx
          obtain ⟨t0, t1⟩ := hX.c2
          have tl := hX.lt
          by_cases hil : i < t.rels.length
          · have hdi : (i : Int) < (t.rels.length : Nat) := by omega
            obtain ⟨u, hu⟩ : ∃ u, t.rels[i]? = some u := ⟨t.rels[i], List.getElem?_eq_getElem hil⟩
            obtain ⟨g2, o2, eA, u0, u1, u2, u3, u4, u5, hku⟩ := hkt2.get hu
            rw [htA] at eA
            subst eA
            have lg := World.block_lt_of_cell? _ _ u0
            dsimp only at lg
            have hq := list_dec u.name s2
            cases hd : decide (u.name = s2) with
            | false =>
              rw [hd] at hq
              go_wp2
              refine ⟨⟨i + 1, by go_num, by omega, take_all hu hn hd, hbx⟩, ?_⟩
              simp [intOf]; omega
            | true =>
              rw [hd] at hq
              go_wp2
              go_ret
              exact ⟨rfl, hb⟩
          · have hdi : ¬ ((i : Int) < (t.rels.length : Nat)) := by omega
            obtain rfl : i = t.rels.length := by omega
            rw [List.take_length] at hn
            have hcp := fun (u : TypA) (e : u.says = plusT t.says s2) => check_plus hRt.out ht e hn
            have hRr := (hRt.out.rels t.says (List.mem_map_of_mem (List.mem_of_getElem? ht))).few
            have hr12 : t.rels.length ≤ 12 := by have e : t.says.rels.length = t.rels.length := List.length_map _; rwa [e] at hRr
            clear hRr hbx
            generalize wr = w6 at *
            obtain ⟨i0, hi0, hz0, hz1, hz2⟩ := info_parts info_rel
            have hrr := hkt2.rels
            rw [htA] at hrr
            have hsrc := fun W (hW : Below w6.heap.size w6 W) => Rd.src (P := Try.prog) Try.underlying44 (hrr.up hW) (rAcells_one t.rels)
            go_upto_region 16 with (fail)
            go_upto_region 17 with (at_builtin; refine wpList_append_src _ rfl (.tmp 66) (.tmp 68) 44 44 rfl w6.heap.size 36 i0 (.agg #[.string .empty, .string .empty, .string .empty, .string .empty, .slice none 0 0, .slice none 0 0]) 6 112 Try.underlying44 hi0 hz0 hz1 hz2 rfl (by decide) (.slice none 0 0) 0 [] rfl (World.ownsRow_nil _ _ _ _) _ t.rels.length (t.rels.flatMap RelA.cells) rfl (hsrc _ (Below.refl _ _)) (by simp only [maxLen]; omega) (by omega) (Nat.le_refl _) ?_; intro v1 w7 hown1 hg1 hat1; rw [Nat.zero_add, List.nil_append] at hown1; obtain ⟨A7, c7, rfl, _⟩ := Rd.own hown1; have hb7 : Below w6.heap.size w6 w7 := below_of_own (v := .slice none 0 0) (Below.refl _ _) hg1 (World.ownsRow_nil _ _ _ _ : w6.ownsRow w6.heap.size 36 6 (.slice none 0 0) 0 []) (Nat.le_refl _) (Nat.le_refl _))
            clear hg1 hat1 hsrc t0 t1 tl hrr
            have h67 := hb7.size
            have hO := (Bk.new w7 #[.int .i64 1, .string ⟨#[]⟩, .string ⟨#[]⟩, .int .i64 2, .string s2, .string ⟨#[]⟩, .int .i64 4, .string ⟨#[]⟩, .string ⟨#[]⟩] 56).alloc (.cells #[.string s2, .string s2, .string s2, .string s2, .slice none 0 0, .slice (some ⟨w7.heap.size, 0, none⟩) 3 3] 36)
            have hown1' := World.ownsRow.alloc (World.ownsRow.alloc hown1 (.cells #[.int .i64 1, .string ⟨#[]⟩, .string ⟨#[]⟩, .int .i64 2, .string s2, .string ⟨#[]⟩, .int .i64 4, .string ⟨#[]⟩, .string ⟨#[]⟩] 56)) (.cells #[.string s2, .string s2, .string s2, .string s2, .slice none 0 0, .slice (some ⟨w7.heap.size, 0, none⟩) 3 3] 36)
            have hsz2 : w6.heap.size ≤ ((w7.alloc (.cells #[.int .i64 1, .string ⟨#[]⟩, .string ⟨#[]⟩, .int .i64 2, .string s2, .string ⟨#[]⟩, .int .i64 4, .string ⟨#[]⟩, .string ⟨#[]⟩] 56)).alloc (.cells #[.string s2, .string s2, .string s2, .string s2, .slice none 0 0, .slice (some ⟨w7.heap.size, 0, none⟩) 3 3] 36)).heap.size := size_alloc (size_alloc h67)
            go_upto_region 18 with (at_builtin; go_loud (refine wpList_append_src _ rfl (.tmp 70) (.tmp 81) 44 44 rfl w6.heap.size 36 i0 (.agg #[.string .empty, .string .empty, .string .empty, .string .empty, .slice none 0 0, .slice none 0 0]) 6 112 Try.underlying44 hi0 hz0 hz1 hz2 rfl (by decide) _ t.rels.length (t.rels.flatMap RelA.cells) rfl hown1' _ 1 [.string s2, .string s2, .string s2, .string s2, .slice none 0 0, .slice (some ⟨w7.heap.size, 0, none⟩) 3 3] rfl (Src.ofSlice _ Try.underlying44 _ 1 1 _ rfl (cells_new6b _ _ _ _ _ _ _ _ _) (rcell_one _ _ _ _ _ _ _ _ _ _)) (by simp only [maxLen]; omega) (by omega) hsz2 ?_; intro v1 w8 hown2 hg2 hat2; obtain ⟨A8, c8, rfl, _⟩ := Rd.own hown2))
            have hb8 : Below w6.heap.size w6 w8 := below_of_own (v := .slice A7 t.rels.length c7) ((hb7.alloc h67 _).alloc (size_alloc h67) _) hg2 hown1' hsz2 (Nat.le_refl _)
            have hO8 : Bk w8 w7.heap.size #[.int .i64 1, .string ⟨#[]⟩, .string ⟨#[]⟩, .int .i64 2, .string s2, .string ⟨#[]⟩, .int .i64 4, .string ⟨#[]⟩, .string ⟨#[]⟩] 56 := (hg2.block w7.heap.size (by simp; omega) (fun e => by have := (hown1.lt _ e.symm).2; omega)).trans hO
            clear hO hown1' hsz2 hg2 hat2 hown1 hb7
            replace h := h.up hb8
            have hnt := plusA_ok (hkt2.up hb8) (selfA_ok f2 (by decide) hO8) (own_rd9 hown2) (by omega)
            replace d0 := d0.below hb8
            replace hX := hX.below hb8
            replace hb := bthen hb hb.size hb8
            have hnl : (t.rels ++ [selfA s2 w7.heap.size]).length = t.rels.length + 1 := by rw [List.length_append, List.length_singleton]
            have hns : (TypA.mk t.name A8 c8 (t.rels ++ [selfA s2 w7.heap.size])).says = plusT t.says s2 := by
              show TypI.mk t.name _ = TypI.mk t.name _
              rw [List.map_append]
              rfl
            have hne : (TypA.mk t.name A8 c8 (t.rels ++ [selfA s2 w7.heap.size])).name = t.name ∧ (TypA.mk t.name A8 c8 (t.rels ++ [selfA s2 w7.heap.size])).A = A8 ∧ (TypA.mk t.name A8 c8 (t.rels ++ [selfA s2 w7.heap.size])).c = c8 := ⟨rfl, rfl, rfl⟩
            replace hnl : (TypA.mk t.name A8 c8 (t.rels ++ [selfA s2 w7.heap.size])).rels.length = t.rels.length + 1 := hnl
            generalize TypA.mk t.name A8 c8 (t.rels ++ [selfA s2 w7.heap.size]) = nt at *
            obtain ⟨en, eA8, ec8⟩ := hne
            clear hn hO8 hkt2
            replace hcp := Lib.hid (hcp nt hns)
            have hNew := Lib.hid (fun (w9 : World) (gT cT : Nat) (hb9 : Below w8.heap.size w8 w9) (hgT : w8.heap.size ≤ gT) (hr : Rd w9 w9.heap.size 2 (some ⟨gT, 0, none⟩) l.length cT (l.flatMap TypA.cells)) => show Below w8.heap.size w8 ((w9.setCell ⟨gT, k * 2, none⟩ (.string t.name)).setCell ⟨gT, k * 2 + 1, none⟩ (.slice A8 (t.rels.length + 1) c8)) ∧ SchA ((w9.setCell ⟨gT, k * 2, none⟩ (.string t.name)).setCell ⟨gT, k * 2 + 1, none⟩ (.slice A8 (t.rels.length + 1) c8)) 140737488351232 (some ⟨gT, 0, none⟩) cT (l.set k nt) by
              have hb10 : Below w8.heap.size w8 ((w9.setCell ⟨gT, k * 2, none⟩ (.string t.name)).setCell ⟨gT, k * 2 + 1, none⟩ (.slice A8 (t.rels.length + 1) c8)) := Below.setCell (Below.setCell hb9 hgT _) hgT _
              refine ⟨hb10, ?_⟩
              have hN := set9 (t := nt) (k := k) (h.up hb9) hkl hnl hr
              rw [en, eA8, ec8] at hN
              exact hN (hnt.up hb10) (h.up hb10))
            have hkI : (k : Int) < (l.length : Nat) := by omega
            have hsrcT := fun W (hW : Below w8.heap.size w8 W) => Rd.src (P := Try.prog) Try.underlying22 (h.up hW).rows (tAcells_one l)
            obtain ⟨i1, hi1, hy0, hy1, hy2⟩ := info_parts info_typ
            have x0 := d0.c1
            have xl := d0.lt
            obtain ⟨t0, t1⟩ := hX.c2
            have tl := hX.lt
            clear hnt hns en eA8 ec8 hnl
            go_upto_region 20 with (at_builtin; refine wpList_append_src _ rfl (.tmp 83) (.tmp 85) 22 22 rfl w8.heap.size 46 i1 (.agg #[.string .empty, .slice none 0 0]) 2 40 Try.underlying22 hi1 hy0 hy1 hy2 rfl (by decide) (.slice none 0 0) 0 [] rfl (World.ownsRow_nil _ _ _ _) _ l.length (l.flatMap TypA.cells) rfl (hsrcT _ (Below.refl _ _)) (by simp only [maxLen]; omega) (by omega) (Nat.le_refl _) ?_; intro v1 w9 hown3 hg3 hat3; rw [Nat.zero_add, List.nil_append] at hown3; have hb9 : Below w8.heap.size w8 w9 := below_of_own (v := .slice none 0 0) (Below.refl _ _) hg3 (World.ownsRow_nil _ _ _ _ : w8.ownsRow w8.heap.size 46 2 (.slice none 0 0) 0 []) (Nat.le_refl _) (Nat.le_refl _); obtain ⟨gT, cT, rfl, _, hgT', hcT⟩ := own_at hown3 (by omega); have hgT := (hown3.lt _ rfl).1)
            have fzT := fun j => hown3.frozenAt j
            have hlc := tcellsA_at ht
            have y0 := hcT _ _ hlc.1
            have y1 := hcT _ _ hlc.2
            have hNN := hNew.out w9 gT cT hb9 hgT (own_rd9 hown3)
            have d9 := d0.below hb9
            have hX9 := hX.below hb9
            have hpl : pg < w8.heap.size := hX.lt
            clear hg3 hat3 hsrcT hlc hcT hown3 hb9 x0 xl t0 t1 tl h d0 hX hNew
            obtain ⟨t0, t1⟩ := hX9.c2
            have tl := hX9.lt
            have hpg : w8.heap.size ≤ gT := hgT
            have hX10 : Bk ((w9.setCell ⟨gT, k * 2, none⟩ (.string t.name)).setCell ⟨gT, k * 2 + 1, none⟩ (.slice A8 (t.rels.length + 1) c8)) pg #[.string t.name, .slice tA t.rels.length t.c] 46 := (hX9.other (a := ⟨gT, k * 2, none⟩) (by dsimp only; omega) _).other (a := ⟨gT, k * 2 + 1, none⟩) (by dsimp only; omega) _
            go_upto_region 21 with (fail)
            obtain ⟨hb10, hN⟩ := hNN
            replace hb := bthen hb hb.size hb10
            clear hb10 y0 y1 fzT t0 t1 tl d9 hX9 hgT hgT' hpg hpl
            generalize (w9.setCell ⟨gT, k * 2, none⟩ (.string t.name)).setCell ⟨gT, k * 2 + 1, none⟩ (.slice A8 (t.rels.length + 1) c8) = w10 at *
            have kC := check_any hN (Nat.le_refl _)
            rw [List.length_set, hcp.out] at kC
            clear hN hcp
            by_cases h12 : 12 < t.rels.length + 1
            · have h12i : (12 : Int) < (t.rels.length : Int) + 1 := by omega
              rw [if_pos h12] at kC
              change Calls _ _ _ _ (fun e w' => e = .returned (.tuple #[.int .i64 13, .string t.name]) ∧ Below w10.heap.size w10 w') at kC
              go_wp2_with fail
              refine kC.mono ?_
              rintro e w11 ⟨rfl, hb11⟩
              have hX11 := hX10.below hb11
              obtain ⟨t0, t1⟩ := hX11.c2
              have tl := hX11.lt
              go_wp2
              go_ret
              exact ⟨rfl, bthen hb hb.size hb11⟩
            · have h12i : ¬ (12 : Int) < (t.rels.length : Int) + 1 := by omega
              rw [if_neg h12] at kC
              change Calls _ _ _ _ (fun e w' => e = .returned (.tuple #[.int .i64 0, .string ⟨#[]⟩]) ∧ Below w10.heap.size w10 w') at kC
              go_wp2_with fail
              refine kC.mono ?_
              rintro e w11 ⟨rfl, hb11⟩
              go_wp2
              go_ret
              exact ⟨rfl, bthen hb hb.size hb11⟩
    · have hki : ¬ (((checkE (l.map TypA.says)).1 : Nat) : Int) = 0 := by omega
      go_wp2
      go_ret
      exact ⟨rfl, hb⟩
end Go.Proofs.Ytpiihfffhjmabaa
