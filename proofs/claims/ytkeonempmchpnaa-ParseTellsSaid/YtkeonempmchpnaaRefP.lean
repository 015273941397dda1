/- Layer 7: the document's own parser: a part of a rewrite. Conditions: a rewrite within it goes as it should. -/
import Derived.Test.YtkeonempmchpnaaRefC
import Derived.Test.YtkeonempmchpnaaRefV
import Derived.Test.YtkeonempmchpnaaPart
namespace Go.Proofs.Ytkeonempmchpnaa
open Go.RowKit

def lenU : St → Nat
  | .ok l => l.length
  | .error _ => 0
theorem len_up {q : St} : lenU (upU q) ≤ lenU q - 1 := by
  cases q with
  | error x => exact Nat.zero_le _
  | ok l => show l.tail.length ≤ l.length - 1; rw [List.length_tail]; exact Nat.le_refl _
theorem len_fail {c : Nat} {q : St} : lenU (failU c q) ≤ lenU q := by
  cases q <;> exact Nat.zero_le _
theorem len_is {s : ByteArray} {q : St} (hs : 0 < s.size) (h : isU s q = true) : lenU (upU q) + 1 = lenU q := by
  cases q with
  | error x => cases h
  | ok l => exact isT_len hs h
theorem size_set (w : World) (a : Addr) (v : Value) : (w.setCell a v).heap.size = w.heap.size := by simp [World.setCell]
def RewUp (f : Nat) : Prop := ∀ (w : World) (g : Nat) (q : St) (d : Nat), PSt w g q → lenU q < f → d ≤ 8 → Calls Try.prog 46 #[.pointer (some ⟨g, 0, none⟩), .int .i64 d] w (UPost (DVOps w.heap.size) w g (rewU f d q))
def PartUp (f : Nat) : Prop := ∀ (w : World) (g : Nat) (q : St) (d : Nat), PSt w g q → lenU q < f → d ≤ 8 → Calls Try.prog 70 #[.pointer (some ⟨g, 0, none⟩), .int .i64 d] w (UPost (DVOps w.heap.size) w g (partU f d q))
theorem downs1 (w : World) (k : Nat) (a b : ByteArray) (B : Nat) (hB : B ≤ w.heap.size) : DVOps B (w.alloc (.cells #[.int .i64 k, .string a, .string b] 80)) (.slice (some ⟨w.heap.size, 0, none⟩) 1 1) [(k, a, b)] :=
  own_lit w #[.int .i64 k, .string a, .string b] 80 1 3 B rfl (by decide) hB
section
variable {w : World} {g d : Nat} {q : St}
set_option maxRecDepth 100000 in
set_option maxHeartbeats 1000000 in
theorem rpart_any {f : Nat} (H : RewUp f) : PartUp (f + 1) := by
  intro w g q d h hl hd
  have hlt := h.size
  have k := ris_any h sThis
  cases hb : isU sThis q with
  | true =>
    have hU : partU (f + 1) d q = ([(1, ⟨#[]⟩, ⟨#[]⟩)], upU q) := by unfold partU; rw [if_pos hb]
    have HU := Lib.hid hU
    rw [hb] at k
    obtain ⟨l, rfl, he⟩ := isU_ok hb
    obtain ⟨A, c, T, i, e, p, h, rfl, rfl⟩ := h
    have hf := h.fine.next (by decide) he
    obtain ⟨_, _, _, hi, _⟩ := h.get
    have hm := h.few
    clear hU hb he
    go_enter Try.func70, Try.ntmps70
    go_wp2_with fail
    refine k.mono ?_
    rintro e1 w1 ⟨rfl, hb1⟩
    have h1 := h.below hb1
    have u1 : w1.cell? ⟨g, 1, none⟩ = some (.int .i64 i) := h1.cells.cell 1
    have z1 := h1.cells.fz 1
    have lt1 := h1.cells.lt
    go_wp2_with fail
    go_returns
    have k2 := (Kp.of_below hb1 g).trans (kp_at g w.heap.size w1 1 (.int .i64 ((i : Int) + 1)))
    refine ⟨k2.alloc k2.size _, ⟨_, rfl, ?_⟩, ?_⟩
    · rw [HU.out]
      have o1 := downs1 (w1.setCell ⟨g, 1, none⟩ (.int .i64 ((i : Int) + 1))) 1 ⟨#[]⟩ ⟨#[]⟩ w.heap.size k2.size
      rw [size_set] at o1
      exact o1
    · rw [HU.out]
      exact (h1.up hf).alloc _
  | false =>
    rw [hb] at k
    have hb' : ¬ isU sThis q = true := by rw [hb]; decide
    cases hc : isU (sg 40) q with
    | true =>
      have hlen := len_is (sg_size 40) hc
      obtain ⟨l, rfl, he⟩ := isU_ok hc
      have hq := h
      obtain ⟨A, c, T, i, e, p, h, rfl, rfl⟩ := h
      have hf := h.fine.next (sg_size 40) he
      obtain ⟨_, _, _, hi, _⟩ := h.get
      have hm := h.few
      by_cases h8 : d = 8
      · have hU : partU (f + 1) d (.ok (T.drop i)) = ([], failU 13 (.ok (T.drop i))) := by unfold partU; rw [if_neg hb', if_pos hc, if_pos h8]
        have HU := Lib.hid hU
        have d8 : (d : Int) = 8 := by omega
        clear hU hb hb' he
        go_enter Try.func70, Try.ntmps70
        go_wp2_with fail
        refine k.mono ?_
        rintro e1 w1 ⟨rfl, hb1⟩
        have h1 := hq.below hb1
        have k2 := ris_any h1 (sg 40)
        rw [hc] at k2
        go_wp2_with fail
        refine k2.mono ?_
        rintro e2 w2 ⟨rfl, hb2⟩
        have h2 := h1.below hb2
        have kb := (Kp.of_below hb1 g).trans ((Kp.of_below hb2 g).more hb1.size)
        clear hc
        go_wp2_with fail
        refine (rfail13 h2).mono ?_
        rintro e3 w3 ⟨hk, ⟨v, rfl, rfl⟩, h3⟩
        go_wp2_with fail
        go_returns
        refine ⟨kb.trans (hk.more kb.size), ⟨_, rfl, ?_⟩, ?_⟩
        · rw [HU.out]
          exact World.ownsRow_nil _ _ _ _
        · rw [HU.out]
          exact h3
      · have hU : partU (f + 1) d (.ok (T.drop i)) = ((rewU f (d + 1) (upU (.ok (T.drop i)))).1, needU (sg 41) (rewU f (d + 1) (upU (.ok (T.drop i)))).2) := by unfold partU; rw [if_neg hb', if_pos hc, if_neg h8]; rfl
        have HU := Lib.hid hU
        have d8 : ¬ (d : Int) = 8 := by omega
        have hd2 : (d : Int) ≤ 8 := by omega
        clear hU hb hb' he
        go_enter Try.func70, Try.ntmps70
        go_wp2_with fail
        refine k.mono ?_
        rintro e1 w1 ⟨rfl, hb1⟩
        have h1 := hq.below hb1
        have k2 := ris_any h1 (sg 40)
        rw [hc] at k2
        go_wp2_with fail
        refine k2.mono ?_
        rintro e2 w2 ⟨rfl, hb2⟩
        have h2 := (h.below hb1).below hb2
        have kb := (Kp.of_below hb1 g).trans ((Kp.of_below hb2 g).more hb1.size)
        clear hc
        have u1 : w2.cell? ⟨g, 1, none⟩ = some (.int .i64 i) := h2.cells.cell 1
        have z1 := h2.cells.fz 1
        have lt2 := h2.cells.lt
        go_wp2_with fail
        have h3 := h2.up hf
        have k3 := kb.trans (kp_at g w.heap.size w2 1 (.int .i64 ((i : Int) + 1)))
        generalize w2.setCell ⟨g, 1, none⟩ (.int .i64 ((i : Int) + 1)) = W at *
        refine (H W g _ (d + 1) h3 (by omega) (by omega)).mono ?_
        generalize rewU f (d + 1) (upU (.ok (T.drop i))) = r at *
        rintro e3 w3 ⟨hk, ⟨v, rfl, hv⟩, h4⟩
        have k4 := k3.trans (hk.more k3.size)
        have hv4 : DVOps w.heap.size w3 v r.1 := own_base hv k3.size
        obtain ⟨Av, cv, rfl, _⟩ := Rd.own hv4
        go_wp2_with fail
        refine (rneed_any h4 (sg_size 41)).mono ?_
        rintro e5 w5 ⟨hk5, ⟨v, rfl, rfl⟩, h5⟩
        go_wp2_with fail
        go_returns
        refine ⟨k4.trans (hk5.more k4.size), ⟨_, rfl, ?_⟩, ?_⟩
        · rw [HU.out]
          exact own_kp hv4 hk5 hlt
        · rw [HU.out]
          exact h5
    | false =>
      have hc' : ¬ isU (sg 40) q = true := by rw [hc]; decide
      have k0 := fun W H => ris_any (w := W) (g := g) (q := q) H (sg 40)
      rw [hc] at k0
      obtain ⟨r, hr⟩ : ∃ r, nameU q = r := ⟨_, rfl⟩
      have kn := pname_any (w := w) (g := g) (q := q)
      go_enter Try.func70, Try.ntmps70
      go_wp2_with fail
      refine k.mono ?_
      rintro e1 w1 ⟨rfl, hb1⟩
      have h1 := h.below hb1
      go_wp2_with fail
      refine (k0 _ h1).mono ?_
      rintro e2 w2 ⟨rfl, hb2⟩
      have h2 := h1.below hb2
      have kb := (Kp.of_below hb1 g).trans ((Kp.of_below hb2 g).more hb1.size)
      clear k0 kn h1 hb1 hb2 k
      go_wp2_with fail
      refine (pname_any h2).mono ?_
      rw [hr]
      rintro e3 w3 ⟨hk, ⟨v, rfl, hvs⟩, h3⟩
      obtain rfl : v = .string r.1 := hvs
      have k3 := kb.trans (hk.more kb.size)
      clear kb hk h2
      have hz3 := k3.size
      have hg3 := h3.size
      have h4 := h3.alloc (.cells #[.int .i64 2, .string r.1, .string ⟨#[]⟩] 80)
      have b4 := Bk.new w3 #[.int .i64 2, .string r.1, .string ⟨#[]⟩] 80
      have k4 := k3.alloc hz3 (.cells #[.int .i64 2, .string r.1, .string ⟨#[]⟩] 80)
      have kd := ris_any h4 (sg 46)
      cases hdot : isU (sg 46) r.2 with
      | false =>
        have hU : partU (f + 1) d q = ([(2, r.1, ⟨#[]⟩)], r.2) := by
          unfold partU
          rw [if_neg hb', if_neg hc', hr]
          show (if isU (sg 46) r.2 = true then _ else _) = _
          rw [if_neg (by rw [hdot]; decide)]
        have HU := Lib.hid hU
        rw [hdot] at kd
        clear hU hr
        go_wp2_with fail
        refine kd.mono ?_
        rintro e5 w5 ⟨rfl, hb5⟩
        have k5 := k4.trans ((Kp.of_below hb5 g).more k4.size)
        have h5 := h4.below hb5
        have b5 := b4.below hb5
        have c0 : w5.cell? ⟨w3.heap.size, 0, none⟩ = some (.int .i64 2) := b5.cell 0
        have c1 : w5.cell? ⟨w3.heap.size, 1, none⟩ = some (.string r.1) := b5.cell 1
        have c2 : w5.cell? ⟨w3.heap.size, 2, none⟩ = some (.string ⟨#[]⟩) := b5.cell 2
        go_wp2_with fail
        go_returns
        refine ⟨k5.alloc k5.size _, ⟨_, rfl, ?_⟩, ?_⟩
        · rw [HU.out]
          exact downs1 w5 2 r.1 ⟨#[]⟩ w.heap.size k5.size
        · rw [HU.out]
          exact h5.alloc _
      | true =>
        obtain ⟨m, hm⟩ : ∃ m, nameU (upU r.2) = m := ⟨_, rfl⟩
        have hU : partU (f + 1) d q = ([(3, r.1, m.1)], m.2) := by
          unfold partU
          rw [if_neg hb', if_neg hc', hr]
          show (if isU (sg 46) r.2 = true then _ else _) = _
          rw [if_pos hdot]
          show ([(3, r.1, (nameU (upU r.2)).1)], (nameU (upU r.2)).2) = _
          rw [hm]
        have HU := Lib.hid hU
        rw [hdot] at kd
        obtain ⟨l, hl2, he⟩ := isU_ok hdot
        generalize r.2 = q2 at *
        subst hl2
        clear hU hr hdot
        go_wp2_with fail
        refine kd.mono ?_
        rintro e5 w5 ⟨rfl, hb5⟩
        have k5 := k4.trans ((Kp.of_below hb5 g).more k4.size)
        have b5 := b4.below hb5
        obtain ⟨A, c, T, i, e, p, h5, rfl, rfl⟩ := h4.below hb5
        have hf := h5.fine.next (sg_size 46) he
        obtain ⟨_, _, _, hi, _⟩ := h5.get
        have hmT := h5.few
        have u1 : w5.cell? ⟨g, 1, none⟩ = some (.int .i64 i) := h5.cells.cell 1
        have z1 := h5.cells.fz 1
        have lt5 := h5.cells.lt
        have c0 : w5.cell? ⟨w3.heap.size, 0, none⟩ = some (.int .i64 2) := b5.cell 0
        have zo := b5.fz 0
        have hne : w3.heap.size ≠ g := by omega
        have hgo : (w3.heap.size = g) = False := eq_false hne
        have hgo2 : (g = w3.heap.size) = False := eq_false (Ne.symm hne)
        go_wp2_with fail
        have h6 := (h5.up hf).set (a := ⟨w3.heap.size, 0, none⟩) (by dsimp only; omega) (.int .i64 3)
        have k6 : Kp g w.heap.size w ((w5.setCell ⟨g, 1, none⟩ (.int .i64 ((i : Int) + 1))).setCell ⟨w3.heap.size, 0, none⟩ (.int .i64 3)) := (k5.trans (kp_at g w.heap.size w5 1 (.int .i64 ((i : Int) + 1)))).set (by dsimp only; omega) _
        have b6 : Bk ((w5.setCell ⟨g, 1, none⟩ (.int .i64 ((i : Int) + 1))).setCell ⟨w3.heap.size, 0, none⟩ (.int .i64 3)) w3.heap.size #[.int .i64 3, .string r.1, .string ⟨#[]⟩] 80 := (b5.other (a := ⟨g, 1, none⟩) (by dsimp only; omega) (.int .i64 ((i : Int) + 1))).set 0 (.int .i64 3)
        clear h5 b5 k5 u1 z1 lt5 c0 zo kd h4 b4 k4 h3
        generalize (w5.setCell ⟨g, 1, none⟩ (.int .i64 ((i : Int) + 1))).setCell ⟨w3.heap.size, 0, none⟩ (.int .i64 3) = w6 at *
        generalize w3.heap.size = bo at *
        refine (pname_any h6).mono ?_
        rw [hm]
        rintro e7 w7 ⟨hk, ⟨v, rfl, hvs⟩, h7⟩
        obtain rfl : v = .string m.1 := hvs
        have k7 := k6.trans (hk.more k6.size)
        have b7 := b6.kp hk hne
        have c0 : w7.cell? ⟨bo, 0, none⟩ = some (.int .i64 3) := b7.cell 0
        have c1 : w7.cell? ⟨bo, 1, none⟩ = some (.string r.1) := b7.cell 1
        have c2 : w7.cell? ⟨bo, 2, none⟩ = some (.string ⟨#[]⟩) := b7.cell 2
        have zo := b7.fz 2
        have lt7 := b7.lt
        go_wp2_with fail
        go_returns
        have h8 := h7.set (a := ⟨bo, 2, none⟩) (by dsimp only; omega) (.string m.1)
        have k8 := k7.set (a := ⟨bo, 2, none⟩) (by dsimp only; omega) (.string m.1)
        refine ⟨k8.alloc k8.size _, ⟨_, rfl, ?_⟩, ?_⟩
        · rw [HU.out]
          have o1 := downs1 (w7.setCell ⟨bo, 2, none⟩ (.string m.1)) 3 r.1 m.1 w.heap.size k8.size
          rw [size_set] at o1
          exact o1
        · rw [HU.out]
          exact h8.alloc _
end
end Go.Proofs.Ytkeonempmchpnaa
/- Layer 7: the document's own parser never goes back, and its lists are no longer than twice the tokens and one. Conditions: none; nothing of the program is named here but the struct. -/
namespace Go.Proofs.Ytkeonempmchpnaa
open Go.RowKit

theorem len_need {s : ByteArray} {q : St} : lenU (needU s q) ≤ lenU q := by
  unfold needU
  split
  · have := @len_up q; omega
  · exact len_fail
theorem len_name {q : St} : lenU (nameU q).2 ≤ lenU q := by
  unfold nameU
  split
  · have := @len_up q
    show lenU (upU q) ≤ _
    omega
  · exact len_fail
theorem op_len {q : St} (h : ¬ opU q = 0) : lenU (upU q) + 1 = lenU q := by
  cases q with
  | error x => exact absurd rfl h
  | ok l => exact opT_len h
theorem lens_parts : ∀ f : Nat, (∀ d q, (partU f d q).1.length + 2 * lenU (partU f d q).2 ≤ 2 * lenU q + 1 ∧ lenU (partU f d q).2 ≤ lenU q) ∧ (∀ d acc q, (moreU f d acc q).1.length + 2 * lenU (moreU f d acc q).2 ≤ acc.length + 2 * lenU q ∧ lenU (moreU f d acc q).2 ≤ lenU q)
  | 0 => by
    refine ⟨fun d q => ?_, fun d acc q => ?_⟩
    · unfold partU
      have := @len_fail 30 q
      simp only [List.length_nil]
      omega
    · unfold moreU
      have := @len_fail 30 q
      simp only
      omega
  | f + 1 => by
    obtain ⟨ih1, ih2⟩ := lens_parts f
    constructor
    · intro d q
      unfold partU
      split
      · rename_i h
        have := len_is (show 0 < sThis.size by decide) h
        simp only [List.length_cons, List.length_nil]
        omega
      · split
        · rename_i h
          have h1 := len_is (sg_size 40) h
          split
          · have := @len_fail 13 q
            simp only [List.length_nil]
            omega
          · show (moreU f (d + 1) (partU f (d + 1) (upU q)).1 (partU f (d + 1) (upU q)).2).1.length + 2 * lenU (needU (sg 41) (moreU f (d + 1) (partU f (d + 1) (upU q)).1 (partU f (d + 1) (upU q)).2).2) ≤ _ ∧ lenU (needU (sg 41) (moreU f (d + 1) (partU f (d + 1) (upU q)).1 (partU f (d + 1) (upU q)).2).2) ≤ _
            have a := ih1 (d + 1) (upU q)
            have b := ih2 (d + 1) (partU f (d + 1) (upU q)).1 (partU f (d + 1) (upU q)).2
            have c := @len_need (sg 41) (moreU f (d + 1) (partU f (d + 1) (upU q)).1 (partU f (d + 1) (upU q)).2).2
            omega
        · show (if isU (sg 46) (nameU q).2 = true then _ else _ : List OpP × St).1.length + 2 * lenU (if isU (sg 46) (nameU q).2 = true then _ else _ : List OpP × St).2 ≤ _ ∧ lenU (if isU (sg 46) (nameU q).2 = true then _ else _ : List OpP × St).2 ≤ _
          have a := @len_name q
          split
          · show [(3, (nameU q).1, (nameU (upU (nameU q).2)).1)].length + 2 * lenU (nameU (upU (nameU q).2)).2 ≤ _ ∧ lenU (nameU (upU (nameU q).2)).2 ≤ _
            have b := @len_name (upU (nameU q).2)
            have c := @len_up (nameU q).2
            simp only [List.length_cons, List.length_nil]
            omega
          · simp only [List.length_cons, List.length_nil]
            omega
    · intro d acc q
      unfold moreU
      split
      · exact ⟨Nat.le_refl _, Nat.le_refl _⟩
      · rename_i h
        have h1 := op_len h
        show (moreU f d (acc ++ (partU f d (upU q)).1 ++ [(opU q, ⟨#[]⟩, ⟨#[]⟩)]) (partU f d (upU q)).2).1.length + 2 * lenU (moreU f d (acc ++ (partU f d (upU q)).1 ++ [(opU q, ⟨#[]⟩, ⟨#[]⟩)]) (partU f d (upU q)).2).2 ≤ _ ∧ lenU (moreU f d (acc ++ (partU f d (upU q)).1 ++ [(opU q, ⟨#[]⟩, ⟨#[]⟩)]) (partU f d (upU q)).2).2 ≤ _
        have a := ih1 d (upU q)
        have b := ih2 d (acc ++ (partU f d (upU q)).1 ++ [(opU q, ⟨#[]⟩, ⟨#[]⟩)]) (partU f d (upU q)).2
        simp only [List.length_append, List.length_cons, List.length_nil] at b
        omega
/-- How many tokens are left, as memory tells it; none behind an error. -/
def leftU (w : World) (g : Nat) : Nat := match w.cell? ⟨g, 0, none⟩, w.cell? ⟨g, 1, none⟩, w.cell? ⟨g, 2, none⟩ with
  | some (.slice _ n _), some (.int _ i), some (.int _ e) => if e = 0 then n - i.toNat else 0
  | _, _, _ => 0
theorem PSt.left {w : World} {g : Nat} {q : St} (h : PSt w g q) : leftU w g = lenU q := by
  obtain ⟨A, c, T, i, e, p, h, hs⟩ := h
  have u0 : w.cell? ⟨g, 0, none⟩ = some (.slice A T.length c) := h.cells.cell 0
  have u1 : w.cell? ⟨g, 1, none⟩ = some (.int .i64 i) := h.cells.cell 1
  have u2 : w.cell? ⟨g, 2, none⟩ = some (.int .i64 e) := h.cells.cell 2
  unfold leftU
  rw [u0, u1, u2]
  cases q with
  | error x =>
    obtain ⟨rfl, hx, rfl⟩ := hs
    exact if_neg (by omega)
  | ok l =>
    obtain ⟨rfl, rfl⟩ := hs
    show _ = (T.drop i).length
    rw [List.length_drop]
    exact if_pos rfl
theorem PSt.few {w : World} {g : Nat} {q : St} (h : PSt w g q) : lenU q ≤ 1000000 := by
  obtain ⟨A, c, T, i, e, p, h, hs⟩ := h
  cases q with
  | error x => exact Nat.zero_le _
  | ok l =>
    obtain ⟨rfl, rfl⟩ := hs
    have := h.few
    show (T.drop i).length ≤ _
    rw [List.length_drop]
    omega
end Go.Proofs.Ytkeonempmchpnaa
