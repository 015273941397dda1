/- Layer 13: what Diff answers. Conditions: no more than a million keys. -/
import Derived.BigQuiet
import Derived.Deep.QuietTactic
import Derived.Deep.Cut
import Derived.Deep.DeepCutAuto
import Derived.RegionTactic
import Derived.Great.BuildSlice
import Derived.Test.YtampggkjlpbbmaaSetW
namespace Go.Proofs.Ytampggkjlpbbmaa
open Go.RowKit

/-- What is asked or changed, as cells. -/
def pcell (p : ByteArray × Bool) : List Value := [.string p.1, .bool p.2]
def pcs (l : List (ByteArray × Bool)) : List Value := l.flatMap pcell
theorem pcell_one (p : ByteArray × Bool) : ∀ u ∈ pcell p, u.oneCell' = true := by
  intro u hu
  simp only [pcell, List.mem_cons, List.not_mem_nil, or_false] at hu
  rcases hu with rfl | rfl <;> rfl
theorem pcs_one (l : List (ByteArray × Bool)) : ∀ u ∈ pcs l, u.oneCell' = true := by
  intro u hu
  obtain ⟨p, _, hp⟩ := List.mem_flatMap.1 hu
  exact pcell_one p u hp
theorem pcs_len (l : List (ByteArray × Bool)) : (pcs l).length = l.length * 2 := by
  induction l with
  | nil => rfl
  | cons a t ih => rw [pcs, List.flatMap_cons, List.length_append, ← pcs, ih]; simp [pcell]; omega
theorem pcs_app (a b : List (ByteArray × Bool)) : pcs (a ++ b) = pcs a ++ pcs b := List.flatMap_append
theorem pcs_snoc (l : List (ByteArray × Bool)) (k : ByteArray) (b : Bool) : pcs (l ++ [(k, b)]) = pcs l ++ [.string k, .bool b] := by rw [pcs_app]; simp [pcs, pcell]
theorem pcs_get {l : List (ByteArray × Bool)} {i : Nat} {p : ByteArray × Bool} (h : l[i]? = some p) : (pcs l)[i * 2]? = some (.string p.1) ∧ (pcs l)[i * 2 + 1]? = some (.bool p.2) := by
  induction l generalizing i with
  | nil => simp at h
  | cons a t ih =>
    rw [pcs, List.flatMap_cons, ← pcs]
    cases i with
    | zero =>
      simp at h
      subst h
      exact ⟨rfl, rfl⟩
    | succ i =>
      obtain ⟨h1, h2⟩ := ih (by simpa using h)
      rw [List.getElem?_append_right (by simp [pcell]; omega), List.getElem?_append_right (by simp [pcell]; omega)]
      simp only [pcell, List.length_cons, List.length_nil]
      rw [show (i + 1) * 2 - (0 + 1 + 1) = i * 2 by omega, show (i + 1) * 2 + 1 - (0 + 1 + 1) = i * 2 + 1 by omega]
      exact ⟨h1, h2⟩
theorem rd_pair {w : World} {B n c : Nat} {A : Option Addr} {l : List (ByteArray × Bool)} (h : Rd w B 2 A n c (pcs l)) {i : Nat} {p : ByteArray × Bool} (hi : l[i]? = some p) :
    ∃ b o, A = some ⟨b, o, none⟩ ∧ b < B ∧ w.cell? ⟨b, o + i * 2, none⟩ = some (.string p.1) ∧ w.cell? ⟨b, o + i * 2 + 1, none⟩ = some (.bool p.2) := by
  have hn : 0 < n := by
    have h1 := h.len
    have h2 := pcs_len l
    have h3 := lt_at hi
    omega
  obtain ⟨b, o, e, hb, hc⟩ := h.at_ hn
  obtain ⟨h1, h2⟩ := pcs_get hi
  exact ⟨b, o, e, hb, hc _ _ h1, by rw [Nat.add_assoc]; exact hc _ _ h2⟩
theorem rd_key {w : World} {B n c : Nat} {A : Option Addr} {l : List ByteArray} (h : Rd w B 1 A n c (ks l)) {i : Nat} {k : ByteArray} (hi : l[i]? = some k) :
    ∃ b o, A = some ⟨b, o, none⟩ ∧ b < B ∧ w.cell? ⟨b, o + i, none⟩ = some (.string k) := by
  have hn : 0 < n := by
    have h1 := h.len
    have h2 := ks_len l
    have h3 := lt_at hi
    omega
  obtain ⟨b, o, e, hb, hc⟩ := h.at_ hn
  exact ⟨b, o, e, hb, hc _ _ (ks_get hi)⟩
theorem cells_new (w : World) (cs : Array Value) (t : TypeId) (j : Nat) (u : Value) (h : cs.toList[j]? = some u) : (w.alloc (.cells cs t)).cell? ((⟨w.heap.size, 0, none⟩ : Addr).add j) = some u := by
  rw [Addr.add_lit, cell_of_row _ _ _ _ _ _ (heap_alloc_new w _), Nat.zero_add]
  simpa using h
theorem cells_at (w : World) (cs : Array Value) (t : TypeId) (bb : Nat) (hb : bb = w.heap.size) (j : Nat) (u : Value) (h : cs.toList[j]? = some u) : (w.alloc (.cells cs t)).cell? ((⟨bb, 0, none⟩ : Addr).add j) = some u := by
  subst hb
  exact cells_new w cs t j u h
theorem size_alloc {w : World} {B : Nat} {o : Obj} (h : B ≤ w.heap.size) : B ≤ (w.alloc o).heap.size := by simp; omega
theorem info_change : (Try.prog.info? 40).map (fun i => (i.zero, i.size, i.bytes)) = some (some (.agg #[.string ⟨#[]⟩, .bool false]), 2, 24) := by kernel_rfl
theorem info_string : (Try.prog.info? 9).map (fun i => (i.zero, i.size, i.bytes)) = some (some (.string ⟨#[]⟩), 1, 16) := by kernel_rfl
theorem drop_at {α : Type} {l : List α} {i : Nat} {x : α} (h : l[i]? = some x) : l.drop i = x :: l.drop (i + 1) := by
  obtain ⟨h1, h2⟩ := List.getElem?_eq_some_iff.1 h
  rw [List.drop_eq_getElem_cons h1, h2]

set_option maxRecDepth 100000 in
set_option maxHeartbeats 2000000 in
theorem diff_any {w : World} {A1 A2 : Option Addr} {c1 c2 : Nat} {s t : List ByteArray} (h1 : Rd w w.heap.size 1 A1 s.length c1 (ks s)) (h2 : Rd w w.heap.size 1 A2 t.length c2 (ks t)) (hs : s.length ≤ 1000000) (ht : t.length ≤ 1000000) :
    Calls Try.prog 17 #[.slice A1 s.length c1, .slice A2 t.length c2] w fun e w' => ∃ A c, e = .returned (.slice A (difS s t).length c) ∧ Rd w' w'.heap.size 2 A (difS s t).length c (pcs (difS s t)) ∧ Below w.heap.size w w' := by
  obtain ⟨i0, hi0, hz0, hz1, hz2⟩ := info_parts info_change
  have hdl := difS_len s t
  obtain ⟨d, hd⟩ : ∃ d, difS s t = d := ⟨_, rfl⟩
  rw [hd] at hdl ⊢
  have hd := Lib.hid hd
  go_enter Try.func17, Try.ntmps17
  go_wp2_with fail
  go_loopw [5, 6, 7] (fun vm vi vk wx => ∃ (i k : Nat) (m : List (ByteArray × Bool)), vi = .int .i64 i ∧ vk = .int .i64 k ∧ i ≤ s.length ∧ k ≤ t.length ∧ wx.ownsRow w.heap.size 40 2 vm m.length (pcs m) ∧ Below w.heap.size w wx ∧ Hid (m ++ difS (s.drop i) (t.drop k) = d)) (fun _ vi vk _ => s.length + t.length - (intOf vi).toNat - (intOf vk).toNat)
  case atStart => exact ⟨0, 0, [], rfl, rfl, Nat.zero_le _, Nat.zero_le _, World.ownsRow_nil _ _ _ _, Below.refl _ _, Lib.hid (by simpa using hd.out)⟩
  case round =>
    obtain ⟨i, k, m, rfl, rfl, hi, hk, hO, hb, hm⟩ := hrel
    have hml : m.length ≤ 2000000 := by
      have := congrArg List.length hm.out
      rw [List.length_append] at this
      omega
    obtain ⟨A3, c3, rfl, hR3⟩ := Rd.own hO
    have hws := hb.size
    have h1x := (h1.below hb)
    have h2x := (h2.below hb)
    by_cases hil : i < s.length
    · have di : (i : Int) < (s.length : Int) := by omega
      have ei : ((i : Int) == (s.length : Int)) = false := beq_eq_false_iff_ne.2 (by omega)
      obtain ⟨a, ha⟩ : ∃ a, s[i]? = some a := ⟨_, List.getElem?_eq_getElem hil⟩
      obtain ⟨b1, o1, rfl, hb1, g1⟩ := rd_key h1x ha
      by_cases hkl : k < t.length
      · have dk : (k : Int) < (t.length : Int) := by omega
        have ek : ((k : Int) == (t.length : Int)) = false := beq_eq_false_iff_ne.2 (by omega)
        obtain ⟨x, hx⟩ : ∃ x, t[k]? = some x := ⟨_, List.getElem?_eq_getElem hkl⟩
        obtain ⟨b2, o2, rfl, hb2, g2⟩ := rd_key h2x hx
        cases hkl1 : kl a x
        · cases hkl2 : kl x a
          · have hm2 : Hid (m ++ difS (s.drop (i + 1)) (t.drop (k + 1)) = d) := Lib.hid (by rw [← hm.out, drop_at ha, drop_at hx, difS_both hkl1 hkl2])
            have l1 : Op.bytesLess a.toList x.toList = false := hkl1
            have l2 : Op.bytesLess x.toList a.toList = false := hkl2
            clear hm hkl1 hkl2 h1x h2x
            clear ha
            clear hx
            go_wp2_with fail
            go_quiet (fail)
            obtain ⟨W, hW⟩ : ∃ W, wr.drewN nq = W := ⟨_, rfl⟩
            have hO1 : W.ownsRow w.heap.size 40 2 (.slice A3 m.length c3) m.length (pcs m) := by rw [← hW]; exact hO
            have hbW : Below w.heap.size w W := by rw [← hW]; exact hb.trans (drewN_below _ _ nq)
            have g1W : W.cell? ⟨b1, o1 + i, none⟩ = some (.string a) := by rw [← hW]; exact g1
            have g2W : W.cell? ⟨b2, o2 + k, none⟩ = some (.string x) := by rw [← hW]; exact g2
            have hwsW := hbW.size
            rw [hW]
            clear hW hO hb hR3 hws g1 g2
            go_wp2_with fail
            go_quiet (fail)
            obtain ⟨W2, hW2⟩ : ∃ W2, W.drewN nq = W2 := ⟨_, rfl⟩
            have hO2 : W2.ownsRow w.heap.size 40 2 (.slice A3 m.length c3) m.length (pcs m) := by rw [← hW2]; exact hO1
            have hbW2 : Below w.heap.size w W2 := by rw [← hW2]; exact hbW.trans (drewN_below _ _ nq)
            have hwsW2 := hbW2.size
            rw [hW2]
            clear hW2 hO1 hbW hwsW g1W g2W
            go_wp2_with fail
            exact ⟨⟨i + 1, k + 1, m, by go_num, by go_num, by omega, by omega, hO2, hbW2, hm2⟩, by simp [intOf]; omega⟩
          · have hm2 : Hid ((m ++ [(x, true)]) ++ difS (s.drop i) (t.drop (k + 1)) = d) := Lib.hid (by rw [← hm.out, drop_at hx, difS_right (by exact fun z hz => by rw [List.head?_drop, ha] at hz; cases hz; exact ⟨hkl1, hkl2⟩), List.append_assoc]; rfl)
            have l1 : Op.bytesLess a.toList x.toList = false := hkl1
            have l2 : Op.bytesLess x.toList a.toList = true := hkl2
            clear hm hkl1 hkl2 h1x h2x
            clear ha
            clear hx
            go_wp2_with fail
            go_quiet (fail)
            obtain ⟨W, hW⟩ : ∃ W, wr.drewN nq = W := ⟨_, rfl⟩
            have hO1 : W.ownsRow w.heap.size 40 2 (.slice A3 m.length c3) m.length (pcs m) := by rw [← hW]; exact hO
            have hbW : Below w.heap.size w W := by rw [← hW]; exact hb.trans (drewN_below _ _ nq)
            have g1W : W.cell? ⟨b1, o1 + i, none⟩ = some (.string a) := by rw [← hW]; exact g1
            have g2W : W.cell? ⟨b2, o2 + k, none⟩ = some (.string x) := by rw [← hW]; exact g2
            have hwsW := hbW.size
            rw [hW]
            clear hW hO hb hR3 hws g1 g2
            go_wp2_with fail
            go_quiet (fail)
            obtain ⟨W2, hW2⟩ : ∃ W2, W.drewN nq = W2 := ⟨_, rfl⟩
            have hO2 : W2.ownsRow w.heap.size 40 2 (.slice A3 m.length c3) m.length (pcs m) := by rw [← hW2]; exact hO1
            have hbW2 : Below w.heap.size w W2 := by rw [← hW2]; exact hbW.trans (drewN_below _ _ nq)
            have g2W2 : W2.cell? ⟨b2, o2 + k, none⟩ = some (.string x) := by rw [← hW2]; exact g2W
            have hwsW2 := hbW2.size
            rw [hW2]
            clear hW2 hO1 hbW hwsW g1W g2W
            go_wp2_with (at_builtin; go_loud (refine wpList_append_src _ rfl (.tmp 70) (.tmp 76) 24 24 rfl w.heap.size 40 i0 (.agg #[.string ⟨#[]⟩, .bool false]) 2 24 Try.underlying24 hi0 hz0 hz1 hz2 rfl (by decide) (.slice A3 m.length c3) m.length (pcs m) rfl (hO2.alloc _) _ 1 [.string x, .bool true] rfl (Src.ofSlice _ Try.underlying24 _ 1 1 _ rfl (cells_new _ _ _) (pcell_one (x, true))) (by simp only [maxLen]; omega) (by omega) (size_alloc hwsW2) ?_; intro v9 w8 hown8 hg8 hat8))
            have hO9 : w8.ownsRow w.heap.size 40 2 v9 (m ++ [(x, true)]).length (pcs (m ++ [(x, true)])) := by rw [pcs_snoc, List.length_append]; exact hown8
            have hb9 := below_of_own (hbW2.alloc hwsW2 _) hg8 (hO2.alloc _) (size_alloc hwsW2) (Nat.le_refl _)
            exact ⟨⟨i, k + 1, m ++ [(x, true)], by go_num, by go_num, by omega, by omega, hO9, hb9, hm2⟩, by simp [intOf]; omega⟩
        · have hkl2 : True := trivial
          have hm2 : Hid ((m ++ [(a, false)]) ++ difS (s.drop (i + 1)) (t.drop k) = d) := Lib.hid (by rw [← hm.out, drop_at ha, difS_left (by exact fun z hz => by rw [List.head?_drop, hx] at hz; cases hz; exact hkl1), List.append_assoc]; rfl)
          have l1 : Op.bytesLess a.toList x.toList = true := hkl1
          clear hm hkl1 hkl2 h1x h2x
          clear ha
          clear hx
          go_wp2_with fail
          go_quiet (fail)
          obtain ⟨W, hW⟩ : ∃ W, wr.drewN nq = W := ⟨_, rfl⟩
          have hO1 : W.ownsRow w.heap.size 40 2 (.slice A3 m.length c3) m.length (pcs m) := by rw [← hW]; exact hO
          have hbW : Below w.heap.size w W := by rw [← hW]; exact hb.trans (drewN_below _ _ nq)
          have g1W : W.cell? ⟨b1, o1 + i, none⟩ = some (.string a) := by rw [← hW]; exact g1
          have g2W : W.cell? ⟨b2, o2 + k, none⟩ = some (.string x) := by rw [← hW]; exact g2
          have hwsW := hbW.size
          rw [hW]
          clear hW hO hb hR3 hws g1 g2
          go_wp2_with (at_builtin; go_loud (refine wpList_append_src _ rfl (.tmp 44) (.tmp 50) 24 24 rfl w.heap.size 40 i0 (.agg #[.string ⟨#[]⟩, .bool false]) 2 24 Try.underlying24 hi0 hz0 hz1 hz2 rfl (by decide) (.slice A3 m.length c3) m.length (pcs m) rfl (hO1.alloc _) _ 1 [.string a, .bool false] rfl (Src.ofSlice _ Try.underlying24 _ 1 1 _ rfl (cells_new _ _ _) (pcell_one (a, false))) (by simp only [maxLen]; omega) (by omega) (size_alloc hwsW) ?_; intro v9 w8 hown8 hg8 hat8))
          have hO9 : w8.ownsRow w.heap.size 40 2 v9 (m ++ [(a, false)]).length (pcs (m ++ [(a, false)])) := by rw [pcs_snoc, List.length_append]; exact hown8
          have hb9 := below_of_own (hbW.alloc hwsW _) hg8 (hO1.alloc _) (size_alloc hwsW) (Nat.le_refl _)
          exact ⟨⟨i + 1, k, m ++ [(a, false)], by go_num, by go_num, by omega, by omega, hO9, hb9, hm2⟩, by simp [intOf]; omega⟩
      · have ek : ((k : Int) == (t.length : Int)) = true := beq_iff_eq.2 (by omega)
        have dk : ¬ (k : Int) < (t.length : Int) := by omega
        have hm2 : Hid ((m ++ [(a, false)]) ++ difS (s.drop (i + 1)) (t.drop k) = d) := Lib.hid (by rw [← hm.out, drop_at ha, difS_left (by exact fun z hz => by rw [List.head?_drop, List.getElem?_eq_none (by omega)] at hz; cases hz), List.append_assoc]; rfl)
        clear hm h1x h2x
        clear ha
        go_wp2_with fail
        go_quiet (fail)
        obtain ⟨W, hW⟩ : ∃ W, wr.drewN nq = W := ⟨_, rfl⟩
        have hO1 : W.ownsRow w.heap.size 40 2 (.slice A3 m.length c3) m.length (pcs m) := by rw [← hW]; exact hO
        have hbW : Below w.heap.size w W := by rw [← hW]; exact hb.trans (drewN_below _ _ nq)
        have g1W : W.cell? ⟨b1, o1 + i, none⟩ = some (.string a) := by rw [← hW]; exact g1
        have hwsW := hbW.size
        rw [hW]
        clear hW hO hb hR3 hws g1
        go_wp2_with (at_builtin; go_loud (refine wpList_append_src _ rfl (.tmp 44) (.tmp 50) 24 24 rfl w.heap.size 40 i0 (.agg #[.string ⟨#[]⟩, .bool false]) 2 24 Try.underlying24 hi0 hz0 hz1 hz2 rfl (by decide) (.slice A3 m.length c3) m.length (pcs m) rfl (hO1.alloc _) _ 1 [.string a, .bool false] rfl (Src.ofSlice _ Try.underlying24 _ 1 1 _ rfl (cells_new _ _ _) (pcell_one (a, false))) (by simp only [maxLen]; omega) (by omega) (size_alloc hwsW) ?_; intro v9 w8 hown8 hg8 hat8))
        have hO9 : w8.ownsRow w.heap.size 40 2 v9 (m ++ [(a, false)]).length (pcs (m ++ [(a, false)])) := by rw [pcs_snoc, List.length_append]; exact hown8
        have hb9 := below_of_own (hbW.alloc hwsW _) hg8 (hO1.alloc _) (size_alloc hwsW) (Nat.le_refl _)
        exact ⟨⟨i + 1, k, m ++ [(a, false)], by go_num, by go_num, by omega, by omega, hO9, hb9, hm2⟩, by simp [intOf]; omega⟩
    · have di : ¬ (i : Int) < (s.length : Int) := by omega
      have ei : ((i : Int) == (s.length : Int)) = true := beq_iff_eq.2 (by omega)
      by_cases hkl : k < t.length
      · have dk : (k : Int) < (t.length : Int) := by omega
        have ek : ((k : Int) == (t.length : Int)) = false := beq_eq_false_iff_ne.2 (by omega)
        obtain ⟨x, hx⟩ : ∃ x, t[k]? = some x := ⟨_, List.getElem?_eq_getElem hkl⟩
        obtain ⟨b2, o2, rfl, hb2, g2⟩ := rd_key h2x hx
        have hm2 : Hid ((m ++ [(x, true)]) ++ difS (s.drop i) (t.drop (k + 1)) = d) := Lib.hid (by rw [← hm.out, drop_at hx, difS_right (by exact fun z hz => by rw [List.head?_drop, List.getElem?_eq_none (by omega)] at hz; cases hz), List.append_assoc]; rfl)
        clear hm h1x h2x
        clear hx
        go_wp2_with fail
        go_quiet (fail)
        obtain ⟨W, hW⟩ : ∃ W, wr.drewN nq = W := ⟨_, rfl⟩
        have hO1 : W.ownsRow w.heap.size 40 2 (.slice A3 m.length c3) m.length (pcs m) := by rw [← hW]; exact hO
        have hbW : Below w.heap.size w W := by rw [← hW]; exact hb.trans (drewN_below _ _ nq)
        have g2W : W.cell? ⟨b2, o2 + k, none⟩ = some (.string x) := by rw [← hW]; exact g2
        have hwsW := hbW.size
        rw [hW]
        clear hW hO hb hR3 hws g2
        go_wp2_with fail
        go_quiet (fail)
        obtain ⟨W2, hW2⟩ : ∃ W2, W.drewN nq = W2 := ⟨_, rfl⟩
        have hO2 : W2.ownsRow w.heap.size 40 2 (.slice A3 m.length c3) m.length (pcs m) := by rw [← hW2]; exact hO1
        have hbW2 : Below w.heap.size w W2 := by rw [← hW2]; exact hbW.trans (drewN_below _ _ nq)
        have g2W2 : W2.cell? ⟨b2, o2 + k, none⟩ = some (.string x) := by rw [← hW2]; exact g2W
        have hwsW2 := hbW2.size
        rw [hW2]
        clear hW2 hO1 hbW hwsW g2W
        go_wp2_with (at_builtin; go_loud (refine wpList_append_src _ rfl (.tmp 70) (.tmp 76) 24 24 rfl w.heap.size 40 i0 (.agg #[.string ⟨#[]⟩, .bool false]) 2 24 Try.underlying24 hi0 hz0 hz1 hz2 rfl (by decide) (.slice A3 m.length c3) m.length (pcs m) rfl (hO2.alloc _) _ 1 [.string x, .bool true] rfl (Src.ofSlice _ Try.underlying24 _ 1 1 _ rfl (cells_new _ _ _) (pcell_one (x, true))) (by simp only [maxLen]; omega) (by omega) (size_alloc hwsW2) ?_; intro v9 w8 hown8 hg8 hat8))
        have hO9 : w8.ownsRow w.heap.size 40 2 v9 (m ++ [(x, true)]).length (pcs (m ++ [(x, true)])) := by rw [pcs_snoc, List.length_append]; exact hown8
        have hb9 := below_of_own (hbW2.alloc hwsW2 _) hg8 (hO2.alloc _) (size_alloc hwsW2) (Nat.le_refl _)
        exact ⟨⟨i, k + 1, m ++ [(x, true)], by go_num, by go_num, by omega, by omega, hO9, hb9, hm2⟩, by simp [intOf]; omega⟩
      · have dk : ¬ (k : Int) < (t.length : Int) := by omega
        have hmd : m = d := by
          have := hm.out
          rwa [List.drop_eq_nil_of_le (by omega), List.drop_eq_nil_of_le (by omega), difS_nil, List.append_nil] at this
        subst hmd
        clear hm hd h1x h2x hO h1 h2
        go_wp2_with fail
        go_ret
        exact ⟨A3, c3, rfl, hR3, hb⟩
end Go.Proofs.Ytampggkjlpbbmaa
