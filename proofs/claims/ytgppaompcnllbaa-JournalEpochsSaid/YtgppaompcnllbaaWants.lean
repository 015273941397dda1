/- Layer 4, for the laws: texts that a law gathers beside a log and its disk. Conditions: none. -/
import Derived.Test.YtgppaompcnllbaaWSizes
namespace Go.Proofs.Ytgppaompcnllbaa
open Go.RowKit

theorem info_str : (Try.prog.info? 9).map (fun i => (i.zero, i.size, i.bytes)) = some (some (.string .empty), 1, 16) := by kernel_rfl
/-- Texts that lie beside T, from M on. -/
structure Beside (M : Nat) (T : Nat → Prop) (w : World) (v : Value) (xs : List (List UInt8)) : Prop where
  lo : M ≤ w.heap.size
  above : ∀ k, T k → M ≤ k
  size : ∀ k, T k → k < w.heap.size
  row : w.ownsRow M 9 1 v xs.length (tcs xs)
  far : ∀ q, v.ownBlock = some q → ¬ T q
section
variable {M : Nat} {T : Nat → Prop} {w w' : World} {v : Value} {xs : List (List UInt8)}
theorem Beside.nil (h0 : M ≤ w.heap.size) (h1 : ∀ k, T k → M ≤ k) (h2 : ∀ k, T k → k < w.heap.size) : Beside M T w (.slice none 0 0) [] := ⟨h0, h1, h2, World.ownsRow_nil _ _ _ _, fun _ e => (by cases e)⟩
theorem Beside.below (h : Beside M T w v xs) (hb : Below w.heap.size w w') : Beside M T w' v xs := ⟨Nat.le_trans h.lo hb.size, h.above, fun k e => Nat.lt_of_lt_of_le (h.size k e) hb.size, own_below h.row hb, h.far⟩
theorem Beside.ks (h : Beside M T w v xs) (hk : Ks T w w') : Beside M (Grow T w w') w' v xs :=
  ⟨Nat.le_trans h.lo hk.size, fun k e => by
    rcases e with e | e
    · exact h.above k e
    · exact Nat.le_trans h.lo e.1, fun k e => by
    rcases e with e | e
    · exact Nat.lt_of_lt_of_le (h.size k e) hk.size
    · exact e.2, own_same h.row fun g e => hk.block g (h.row.lt g e).2 (h.far g e), fun q e e2 => by
    rcases e2 with e2 | e2
    · exact h.far q e e2
    · have := (h.row.lt q e).2
      omega⟩
theorem Beside.put (h : Beside M T w v xs) {o : Obj} {v' : Value} {w3 : World} {a : List UInt8} {n : Nat} (hn : xs.length = n) (hown : w3.ownsRow M 9 1 v' (n + 1) (tcs xs ++ [.string (strOf a)])) (hg : (w.alloc o).grownBy w3 v.ownBlock) (hat : v'.ownBlock = v.ownBlock ∨ v'.ownBlock = some (w.alloc o).heap.size) :
    Beside M T w3 v' (xs ++ [a]) ∧ Ks (fun k => v.ownBlock = some k) w w3 ∧ Below M w w3 := by
  subst hn
  have hs := hg.size
  have hs2 : (w.alloc o).heap.size = w.heap.size + 1 := by simp
  have hk : Ks (fun k => v.ownBlock = some k) w w3 := ((Ks.refl _ w).alloc o).grown hg fun k e => .inl e
  refine ⟨⟨?_, h.above, fun k e => ?_, ?_, fun q e e2 => ?_⟩, hk, hk.below (fun k e => (h.row.lt k e).1) h.lo⟩
  · have := h.lo; omega
  · have := h.size k e; omega
  · rw [List.length_append, List.length_singleton, tcs_append]; exact hown
  · rcases hat with hat | hat
    · exact h.far q (hat.symm.trans e) e2
    · rw [hat] at e
      cases e
      have := h.size _ e2
      omega
theorem Beside.rdN (h : Beside M T w v xs) {n : Nat} (hn : xs.length = n) : ∃ A c, v = .slice A n c ∧ Rd w w.heap.size 1 A n c (tcs xs) := by
  subst hn
  exact Rd.own h.row
theorem Beside.rowN (h : Beside M T w v xs) {n : Nat} (hn : xs.length = n) : w.ownsRow M 9 1 v n (tcs xs) := by
  subst hn
  exact h.row
theorem Beside.rd (h : Beside M T w v xs) : ∃ A c, v = .slice A xs.length c ∧ Rd w w.heap.size 1 A xs.length c (tcs xs) := Rd.own h.row
/-- What Append makes of a log and the texts beside it. -/
theorem live_appendW {g b p : Nat} {K : List Sec} {t : LSt} (h : Live T w g b p K t) (hB : Beside M T w v xs) {w0 : World} {a : Rw} (hr : RwOk w0 a) (hM : w0.heap.size = M) (hb : Below w0.heap.size w0 w) (hl : a.b.length ≤ 4096) (hf : t.next + szN a.b.length ≤ t.to) :
    Calls Try.prog 14 #[.pointer (some ⟨g, 0, none⟩), .slice a.A a.b.length a.c] w fun e w' => e = .returned (.int .i64 0) ∧ Live (Grow T w w') w' g b p (laidK K t a.b) (t.add a.b) ∧ Beside M (Grow T w w') w' v xs ∧ Below M w w' := by
  subst hM
  refine (live_append h (hr.below hb) (fun hn q o e e2 => ?_) hl hf).mono fun e w' ⟨he, hL, hk⟩ => ⟨he, hL, hB.ks hk, hk.below hB.above hB.lo⟩
  have hr' : Rd w0 w0.heap.size 1 a.A a.b.length a.c (bv a.b) := hr
  obtain ⟨q', o', e', hq, _⟩ := hr'.at_ hn
  rw [e] at e'
  cases e'
  have := hB.above q e2
  omega
end
theorem LiveL.less {lo lo' : Nat} {w : World} {g b p : Nat} {K : List Sec} {t : LSt} (h : LiveL lo w g b p K t) (hl : lo' ≤ lo) : LiveL lo' w g b p K t := by obtain ⟨h0, T, h1, h2⟩ := h; exact ⟨Nat.le_trans hl h0, T, h1, fun k e => Nat.le_trans hl (h2 k e)⟩
theorem RestL.less {lo lo' : Nat} {w : World} {b : Nat} {K : List Sec} (h : RestL lo w b K) (hl : lo' ≤ lo) : RestL lo' w b K := by obtain ⟨h0, T, h1, h2⟩ := h; exact ⟨Nat.le_trans hl h0, T, h1, fun k e => Nat.le_trans hl (h2 k e)⟩
theorem LiveL.out {lo : Nat} {w : World} {g b p : Nat} {K : List Sec} {t : LSt} (h : LiveL lo w g b p K t) : ∃ T, Live T w g b p K t ∧ Beside lo T w (.slice none 0 0) [] := by
  obtain ⟨h0, T, h1, h2⟩ := h
  exact ⟨T, h1, Beside.nil h0 h2 h1.size⟩
theorem Live.restL {M : Nat} {T : Nat → Prop} {w : World} {v : Value} {xs : List (List UInt8)} {g b p : Nat} {K : List Sec} {t : LSt} (h : Live T w g b p K t) (hB : Beside M T w v xs) : RestL M w b K := ⟨hB.lo, T, h.rest, hB.above⟩
theorem Live.put {M : Nat} {T : Nat → Prop} {w w3 : World} {v : Value} {xs : List (List UInt8)} {g b p : Nat} {K : List Sec} {t : LSt} (h : Live T w g b p K t) (hB : Beside M T w v xs) (hk : Ks (fun k => v.ownBlock = some k) w w3) : Live T w3 g b p K t := h.keep hk fun k e e2 => hB.far k e2 e
/-- A row of rows, as an argument bears it. -/
theorem rows_at {w : World} {A : Option Addr} {c : Nat} {l : List Rw} (h : Rd w w.heap.size 1 A l.length c (l.map rwCell)) {k : Nat} {a : Rw} (hk : l[k]? = some a) :
    ∃ q o, A = some ⟨q, o, none⟩ ∧ q < w.heap.size ∧ w.cell? ⟨q, o + k, none⟩ = some (.slice a.A a.b.length a.c) := by
  obtain ⟨hlt, hx⟩ := List.getElem?_eq_some_iff.1 hk
  obtain ⟨b, o, u, e, hb, hu, hc⟩ := h.get hlt
  rw [List.getElem?_map, hk] at hu
  simp at hu
  subst hu
  exact ⟨b, o, e, hb, hc⟩
theorem rows_capm {w : World} {A : Option Addr} {c : Nat} {l : List Rw} (h : Rd w w.heap.size 1 A l.length c (l.map rwCell)) : l.length ≤ 9223372036854775807 := by
  have := h.cap; have := h.capm; simp only [maxLen] at this; omega
theorem szN_300 {n : Nat} (h : n ≤ 300) : szN n ≤ 6 := by unfold szN pn; omega
theorem recs_take {l : List Rw} {k : Nat} {a : Rw} (h : l[k]? = some a) : (l.map Rw.b).take (k + 1) = (l.map Rw.b).take k ++ [a.b] := by
  rw [List.take_add_one, List.getElem?_map, h]; rfl
theorem recs_len {l : List Rw} {k : Nat} (h : k ≤ l.length) : ((l.map Rw.b).take k).length = k := by
  rw [List.length_take, List.length_map]; omega
/-- Records held against the same texts. -/
theorem same_self {w : World} {A B : Option Addr} {c d : Nat} {xs : List (List UInt8)} (ha : RRs w A c xs) (hb : Rd w w.heap.size 1 B xs.length d (tcs xs)) :
    Calls Try.prog 15 #[.slice A xs.length c, .slice B xs.length d] w fun e w' => e = .returned (.bool true) ∧ Below w.heap.size w w' := by
  have := same_any ha hb
  rw [sameB_self] at this
  exact this
theorem same_selfN {w : World} {A B : Option Addr} {c d n : Nat} {xs : List (List UInt8)} (hn : xs.length = n) (ha : RRs w A c xs) (hb : Rd w w.heap.size 1 B n d (tcs xs)) :
    Calls Try.prog 15 #[.slice A n c, .slice B n d] w fun e w' => e = .returned (.bool true) ∧ Below w.heap.size w w' := by
  subst hn
  exact same_self ha hb
theorem same_N {w : World} {A B : Option Addr} {c d n m : Nat} {xs ys : List (List UInt8)} {r : Bool} (hn : xs.length = n) (hm : ys.length = m) (hr : sameB xs ys = r) (ha : RRs w A c xs) (hb : Rd w w.heap.size 1 B m d (tcs ys)) :
    Calls Try.prog 15 #[.slice A n c, .slice B m d] w fun e w' => e = .returned (.bool r) ∧ Below w.heap.size w w' := by
  subst hn hm hr
  exact same_any ha hb
theorem Beside.fresh {M : Nat} {T U : Nat → Prop} {w w' : World} {v : Value} {xs : List (List UInt8)} (h : Beside M T w v xs) (hb : Below w.heap.size w w') (hU : ∀ k, U k → w.heap.size ≤ k ∧ k < w'.heap.size) : Beside M U w' v xs :=
  ⟨Nat.le_trans h.lo hb.size, fun k e => Nat.le_trans h.lo (hU k e).1, fun k e => (hU k e).2, own_below h.row hb, fun q e e2 => by
    have h1 := (h.row.lt q e).2
    have h2 := (hU q e2).1
    omega⟩
theorem Jr.put {M : Nat} {T : Nat → Prop} {w w3 : World} {v : Value} {xs : List (List UInt8)} {g b : Nat} {s : St} {t : LSt} (h : Jr T w g b s t) (hB : Beside M T w v xs) (hk : Ks (fun k => v.ownBlock = some k) w w3) : Jr T w3 g b s t := h.keep hk fun k e e2 => hB.far k e2 e
theorem Lg.put {M : Nat} {T : Nat → Prop} {w w3 : World} {v : Value} {xs : List (List UInt8)} {g b : Nat} {t : LSt} (h : Lg T w g b t) (hB : Beside M T w v xs) (hk : Ks (fun k => v.ownBlock = some k) w w3) : Lg T w3 g b t := h.keep hk fun k e e2 => hB.far k e2 e
theorem Live.jr {T : Nat → Prop} {w : World} {g b p : Nat} {K : List Sec} {t : LSt} (h : Live T w g b p K t) : ∃ s, Jr T w g b s t ∧ s.kept = K ∧ Calm s := by obtain ⟨s, h1, h2, h3, _⟩ := h; exact ⟨s, h1, h2, h3⟩
theorem jr_arm {T : Nat → Prop} {w : World} {g b : Nat} {s : St} {t : LSt} (h : Jr T w g b s t) (n : Int) (h1 : -9223372036854775808 ≤ n) (h2 : n ≤ 9223372036854775807) :
    Calls Try.prog 23 #[.pointer (some ⟨b, 0, none⟩), .int .i64 n] w fun e w' => (∃ v, e = .returned v) ∧ Jr T w' g b (s.arm n) t ∧ Ks T w w' := by
  obtain ⟨S, L, hD, hL, h3, h4, h5, h6⟩ := h
  exact (arm_s hD n h1 h2).mono fun e w' ⟨he, hd, hk⟩ => ⟨he, ⟨S, L, hd, hL.keep hk (fun k e e2 => h3 k e2 e), h3, h4, h5, fun k e => Nat.lt_of_lt_of_le (h6 k e) hk.size⟩, hk.more h4⟩
theorem rec_N {L : Nat → Prop} {w : World} {g b n : Nat} {t : LSt} {R : List (List UInt8)} (h : Lg L w g b t) (hr : t.recs = R) (hn : R.length = n) : Calls Try.prog 16 #[.pointer (some ⟨g, 0, none⟩)] w fun e w' => ∃ A c, e = .returned (.slice A n c) ∧ RRs w' A c R ∧ Below w.heap.size w w' := by
  subst hr hn
  exact records_any h
end Go.Proofs.Ytgppaompcnllbaa
