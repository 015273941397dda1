/- TokenNotes walked: it answers true. -/
import Derived.BigQuiet
import Derived.Deep.QuietTactic
import Derived.Test.YtdblkghombemiaaNotesF
import Derived.Test.YtdblkghombemiaaAwake
import Derived.Test.YtdblkghombemiaaFrame
namespace Go.Proofs.Ytdblkghombemiaa
open Go.RowKit

theorem map_get {α β : Type} {f : α → β} {l l' : List α} (h : l'.map f = l.map f) {k : Nat} {t : α} (hk : l[k]? = some t) : ∃ t', l'[k]? = some t' ∧ f t' = f t := by
  have h1 := congrArg (fun x => x[k]?) h
  simp only [List.getElem?_map, hk, Option.map_some] at h1
  cases h2 : l'[k]? with
  | none => rw [h2] at h1; simp at h1
  | some t' => rw [h2] at h1; exact ⟨t', rfl, by simpa using h1⟩
/-- All as a contract for the walks: its answers by name. -/
theorem all_named (s : ByteArray) (hz : s.size ≤ 1000000) {l : List Tk} {e p : Nat} (h : allS s = (l, e, p)) (W : World) :
    Calls Try.prog 10 #[.string s] W fun r w' => (∃ A c, r = .returned (.tuple #[.slice A l.length c, .int .i64 e, .int .i64 p]) ∧ Toks w' A c l) ∧ Below W.heap.size W w' := by
  have k := all_any s W (by unfold maxLen; omega)
  unfold AllPost at k
  rw [h] at k
  exact k
set_option maxRecDepth 100000 in
set_option maxHeartbeats 8000000 in
theorem tokenNotes_walk (s0 : ByteArray) (s1 : ByteArray) (w : World) (f0 : s0.size ≤ maxLen) (f1 : s1.size ≤ maxLen) :
    Calls Try.prog 8 #[.string s0, .string s1] w fun e w' => e = .returned (.bool true) ∧ Below w.heap.size w w' := by
  have Hb := Lib.hid (Below.refl w.heap.size w)
  have hB : w.heap.size ≤ w.heap.size := Nat.le_refl _
  unfold maxLen at f0 f1
  by_cases h300 : 300 < s0.size
  · go_enter Try.func8, Try.ntmps8
    go_wp2_with ((with_reducible refine (awake_any _).mono ?_); rintro e w1 ⟨rfl, hb⟩; obtain ⟨Hb, hB⟩ := chain Hb hB hb; clear hb)
    go_ret
    exact ⟨rfl, Hb.out⟩
  by_cases h60 : 60 < s1.size
  · go_enter Try.func8, Try.ntmps8
    go_wp2_with ((with_reducible refine (awake_any _).mono ?_); rintro e w1 ⟨rfl, hb⟩; obtain ⟨Hb, hB⟩ := chain Hb hB hb; clear hb)
    go_ret
    exact ⟨rfl, Hb.out⟩
  have kv : ∀ W, _ := fun W => valid_any s1 W (by omega)
  clear f0 f1
  cases hv : validS s1 with
  | false =>
    rw [hv] at kv
    go_enter Try.func8, Try.ntmps8
    go_wp2_with (first
      | ((with_reducible refine (awake_any _).mono ?_); rintro e w1 ⟨rfl, hb⟩; obtain ⟨Hb, hB⟩ := chain Hb hB hb; clear hb)
      | ((with_reducible refine (kv _).mono ?_); rintro e w2 ⟨rfl, hb⟩; obtain ⟨Hb, hB⟩ := chain Hb hB hb; clear hb))
    go_ret
    exact ⟨rfl, Hb.out⟩
  | true =>
  rw [hv] at kv
  go_enter Try.func8, Try.ntmps8
  go_wp2_with (first
    | ((with_reducible refine (awake_any _).mono ?_); rintro e w1 ⟨rfl, hb⟩; obtain ⟨Hb, hB⟩ := chain Hb hB hb; clear hb)
    | ((with_reducible refine (kv _).mono ?_); rintro e w2 ⟨rfl, hb⟩; obtain ⟨Hb, hB⟩ := chain Hb hB hb; clear hb))
  go_loopw [6] (fun vi wr => ∃ k : Nat, vi = .int .i64 k ∧ k ≤ s1.size ∧ w2 = wr ∧ ∀ j, j < k → bt s1 j ≠ 10) (fun vi _ => s1.size - (intOf vi).toNat)
  case atStart => exact ⟨0, rfl, Nat.zero_le _, by first | rfl | trivial, fun j hj => by omega⟩
  case round =>
    obtain ⟨k, rfl, hk, rfl, hall⟩ := hrel
    have Hall := Lib.hid hall
    clear hall
    by_cases h : k < s1.size
    · have hd : (k : Int) < (s1.size : Nat) := by omega
      have hx : (s1[k]'h).toNat = bt s1 k := (bt_eq s1 k h).symm
      by_cases h10 : bt s1 k = 10
      · have d10 : (((bt s1 k : Nat) : Int) == 10) = true := by rw [beq_iff_eq]; omega
        clear h10
        go_wp2
        go_ret
        exact ⟨rfl, Hb.out⟩
      · have d10 : (((bt s1 k : Nat) : Int) == 10) = false := by rw [beq_eq_false_iff_ne]; omega
        have H10 := Lib.hid h10
        clear h10
        go_wp2
        go_roundw
        case rel => exact ⟨k + 1, by go_num, by omega, by first | rfl | trivial, fun j hj => by
          by_cases e : j = k
          · subst e; exact H10.out
          · exact Hall.out j (by omega)⟩
        case measure => simp [intOf]; omega
    · have hd : ¬ ((k : Int) < (s1.size : Nat)) := by omega
      have hall : ∀ i, i < s1.size → bt s1 i ≠ 10 := fun i hi => Hall.out i (by omega)
      have hz : s0.size + s1.size + 3 ≤ 2048 := by omega
      obtain ⟨a1, a2⟩ := notes_a (s := s0) hv hall hz
      obtain ⟨b1, b2⟩ := notes_b (s := s0) hv hall hz
      have c1 := notes_c (s := s0) hv hz
      have z1 : (s0 ++ ⟨#[10, 47, 47]⟩ ++ s1).size ≤ 1000000 := by rw [size_app, size_app, show (⟨#[10, 47, 47]⟩ : ByteArray).size = 3 from rfl]; omega
      have z2 : (⟨#[47, 47]⟩ ++ s1 ++ ⟨#[10]⟩ ++ s0 : ByteArray).size ≤ 1000000 := by rw [size_app, size_app, size_app, show (⟨#[47, 47]⟩ : ByteArray).size = 2 from rfl, show (⟨#[10]⟩ : ByteArray).size = 1 from rfl]; omega
      have z3 : (s0 ++ ⟨#[10, 47, 32]⟩ ++ s1).size ≤ 1000000 := by rw [size_app, size_app, show (⟨#[10, 47, 32]⟩ : ByteArray).size = 3 from rfl]; omega
      have k1 := fun l e p h => all_named s0 (by omega) (l := l) (e := e) (p := p) h
      have k2 := fun l e p h => all_named _ z1 (l := l) (e := e) (p := p) h
      have k3 := fun l e p h => all_named _ z2 (l := l) (e := e) (p := p) h
      have k4 := fun l e p h => all_named _ z3 (l := l) (e := e) (p := p) h
      clear z1 z2 z3 hv hall
      obtain ⟨l1, e1, p1, h1⟩ : ∃ l e p, allS s0 = (l, e, p) := ⟨_, _, _, rfl⟩
      obtain ⟨l2, e2, p2, h2⟩ : ∃ l e p, allS (s0 ++ ⟨#[10, 47, 47]⟩ ++ s1) = (l, e, p) := ⟨_, _, _, rfl⟩
      obtain ⟨l3, e3, p3, h3⟩ : ∃ l e p, allS (⟨#[47, 47]⟩ ++ s1 ++ ⟨#[10]⟩ ++ s0) = (l, e, p) := ⟨_, _, _, rfl⟩
      obtain ⟨l4, e4, p4, h4⟩ : ∃ l e p, allS (s0 ++ ⟨#[10, 47, 32]⟩ ++ s1) = (l, e, p) := ⟨_, _, _, rfl⟩
      rw [h1] at a1 a2 b1 b2 c1
      rw [h2] at a1 a2
      rw [h3] at b1 b2
      rw [h4] at c1
      dsimp only at a1 a2 b1 b2 c1
      replace k1 := k1 _ _ _ h1
      replace k2 := k2 _ _ _ h2
      replace k3 := k3 _ _ _ h3
      replace k4 := k4 _ _ _ h4
      have HAt : Hid (∀ t ∈ l1, t.2.2 ≤ s0.size) := Lib.hid (by have := all_at s0; rw [h1] at this; exact this)
      clear h1 h2 h3 h4
      by_cases h0 : e1 = 0
      · have ha2 := a2 h0
        obtain ⟨hp2, hm2⟩ := ha2
        have hm3 := b2 h0
        have hp4 := c1 h0
        clear a1 a2 b2 c1
        obtain ⟨rfl, rfl⟩ : e2 = 0 ∧ p2 = 0 := by simpa using hp2
        obtain ⟨rfl, rfl⟩ : e4 = 30 ∧ p4 = s0.size + 1 := by simpa using hp4
        subst h0
        subst b1
        have hl2 : l2.length = l1.length := by simpa using congrArg List.length hm2
        have hl3 : l3.length = l1.length := by simpa using congrArg List.length hm3
        rw [hl2] at k2
        rw [hl3] at k3
        have HM2 := Lib.hid hm2
        have HM3 := Lib.hid hm3
        clear hp2 hp4 hm2 hm3
        go_wp2_with (first
          | ((with_reducible refine (k1 _).mono ?_); rintro e v1 ⟨⟨A1, c1, rfl, ht1⟩, hb⟩; obtain ⟨Hb, hB⟩ := chain Hb hB hb; clear hb)
          | ((with_reducible refine (k2 _).mono ?_); rintro e v2 ⟨⟨A2, c2, rfl, ht2⟩, hb⟩; replace ht1 := ht1.below hb; obtain ⟨Hb, hB⟩ := chain Hb hB hb; clear hb)
          | ((with_reducible refine (k3 _).mono ?_); rintro e v3 ⟨⟨A3, c3, rfl, ht3⟩, hb⟩; replace ht1 := ht1.below hb; replace ht2 := ht2.below hb; obtain ⟨Hb, hB⟩ := chain Hb hB hb; clear hb)
          | ((with_reducible refine (k4 _).mono ?_); rintro e v4 ⟨⟨A4, c4, rfl, ht4⟩, hb⟩; replace ht1 := ht1.below hb; replace ht2 := ht2.below hb; replace ht3 := ht3.below hb; obtain ⟨Hb, hB⟩ := chain Hb hB hb; clear hb))
        have hB4 := Hb.out.size
        have hlm : l1.length ≤ maxLen := by have h1 := Rd.cap ht1; have h2 := Rd.capm ht1; omega
        unfold maxLen at hlm
        clear k1 k2 k3 k4 hd Hall
        go_loopw [19] (fun vi wr => ∃ q : Nat, vi = .int .i64 q ∧ q ≤ l1.length ∧ Below v4.heap.size v4 wr) (fun vi _ => l1.length - (intOf vi).toNat)
        case atStart => exact ⟨0, rfl, Nat.zero_le _, Below.refl _ _⟩
        case round =>
          obtain ⟨q, rfl, hq, hbw⟩ := hrel
          by_cases hql : q < l1.length
          · have hdq : (q : Int) < (l1.length : Nat) := by omega
            obtain ⟨t, ht⟩ : ∃ t, l1[q]? = some t := ⟨l1[q], List.getElem?_eq_getElem hql⟩
            obtain ⟨t2, hg2, hk2⟩ := map_get HM2.out ht
            have hg3 : l3[q]? = some (shT (s1.size + 3) t) := by rw [HM3.out, List.getElem?_map, ht]; rfl
            obtain ⟨b1, o1, rfl, hb1, x0, x1, x2⟩ := (ht1.below hbw).get ht
            obtain ⟨b2, o2, e', hb2, y0, y1, y2⟩ := (ht2.below hbw).get hg2
            subst e'
            obtain ⟨b3, o3, e', hb3, z0, z1, z2⟩ := (ht3.below hbw).get hg3
            subst e'
            have hkk : t2.1 = t.1 ∧ t2.2.1 = t.2.1 := by simpa [ktT] using hk2
            rw [hkk.1] at y0
            rw [hkk.2] at y1
            have z2' : v4.heap.size ≤ wr.heap.size := hbw.size
            dsimp only [shT] at z0 z1 z2
            have Hbw := Lib.hid hbw
            have hkn : (((t.2.2 + (s1.size + 3) : Nat)) : Int) = (t.2.2 : Int) + (s1.size : Int) + 3 := by omega
            rw [hkn] at z2
            have hat : t.2.2 ≤ 10000 := by have := HAt.out t (List.mem_of_getElem? ht); omega
            clear ht hg2 hk2 hg3 hbw hkk hkn
            generalize t.1 = q0 at *
            generalize t.2.1 = q1 at *
            generalize t.2.2 = q2 at *
            go_wp2
            go_quiet (fail)
            go_wp2
            go_roundw
            case rel => exact ⟨q + 1, by go_num, by omega, Hbw.out.trans ⟨rfl, rfl, rfl, Nat.le_refl _, fun _ _ => rfl⟩⟩
            case measure => simp [intOf]; omega
          · have hdq : ¬ ((q : Int) < (l1.length : Nat)) := by omega
            go_wp2
            go_ret
            exact ⟨rfl, Hb.out.trans (hbw.mono hB)⟩
      · have d0 : (((e1 : Nat) : Int) == 0) = false := by rw [beq_eq_false_iff_ne]; omega
        have ha := a1 h0
        obtain ⟨rfl, rfl⟩ : e2 = e1 ∧ p2 = p1 := by simpa using ha
        subst b1
        clear a1 a2 b2 c1 ha
        go_wp2_with (first
          | ((with_reducible refine (k1 _).mono ?_); rintro e v1 ⟨⟨A1, c1, rfl, _⟩, hb⟩; obtain ⟨Hb, hB⟩ := chain Hb hB hb; clear hb)
          | ((with_reducible refine (k2 _).mono ?_); rintro e v2 ⟨⟨A2, c2, rfl, _⟩, hb⟩; obtain ⟨Hb, hB⟩ := chain Hb hB hb; clear hb)
          | ((with_reducible refine (k3 _).mono ?_); rintro e v3 ⟨⟨A3, c3, rfl, _⟩, hb⟩; obtain ⟨Hb, hB⟩ := chain Hb hB hb; clear hb)
          | ((with_reducible refine (k4 _).mono ?_); rintro e v4 ⟨⟨A4, c4, rfl, _⟩, hb⟩; obtain ⟨Hb, hB⟩ := chain Hb hB hb; clear hb))
        go_ret
        exact ⟨rfl, Hb.out⟩
end Go.Proofs.Ytdblkghombemiaa
