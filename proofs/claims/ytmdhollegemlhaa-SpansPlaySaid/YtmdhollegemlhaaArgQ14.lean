/- Layer 14: what comes in, opened: acts, numbers; 'few' of the law. Conditions: none. -/
import Derived.Test.YtmdhollegemlhaaArgG
import Derived.Test.YtmdhollegemlhaaRefS14
namespace Go.Proofs.Ytmdhollegemlhaa
open Go.ChangeShapes Go.WideShapes Go.ChangeAt Go.RowKit

/-- Something that is done: its kind, a key, a revision. -/
abbrev Ac := Int × ByteArray × Int
def acell (x : Ac) : List Value := [.int .u8 x.1, .string x.2.1, .int .i64 x.2.2]
def acs (l : List Ac) : List Value := l.flatMap acell
def i64s (l : List Int) : List Value := l.map fun n => .int .i64 n
theorem acs_len (l : List Ac) : (acs l).length = l.length * 3 := by
  induction l with
  | nil => rfl
  | cons a t ih => rw [acs, List.flatMap_cons, List.length_append, ← acs, ih]; simp [acell]; omega
theorem acs_get {l : List Ac} {i : Nat} {x : Ac} (h : l[i]? = some x) : (acs l)[i * 3]? = some (.int .u8 x.1) ∧ (acs l)[i * 3 + 1]? = some (.string x.2.1) ∧ (acs l)[i * 3 + 2]? = some (.int .i64 x.2.2) := by
  induction l generalizing i with
  | nil => simp at h
  | cons a t ih =>
    rw [acs, List.flatMap_cons, ← acs]
    cases i with
    | zero =>
      simp at h
      subst h
      exact ⟨rfl, rfl, rfl⟩
    | succ i =>
      obtain ⟨h1, h2, h3⟩ := ih (by simpa using h)
      rw [List.getElem?_append_right (by simp [acell]; omega), List.getElem?_append_right (by simp [acell]; omega), List.getElem?_append_right (by simp [acell]; omega)]
      simp only [acell, List.length_cons, List.length_nil]
      rw [show (i + 1) * 3 - (0 + 1 + 1 + 1) = i * 3 by omega, show (i + 1) * 3 + 1 - (0 + 1 + 1 + 1) = i * 3 + 1 by omega, show (i + 1) * 3 + 2 - (0 + 1 + 1 + 1) = i * 3 + 2 by omega]
      exact ⟨h1, h2, h3⟩
theorem rd_act {w : World} {B n c : Nat} {A : Option Addr} {l : List Ac} (h : Rd w B 3 A n c (acs l)) {i : Nat} {x : Ac} (hi : l[i]? = some x) :
    ∃ b o, A = some ⟨b, o, none⟩ ∧ b < B ∧ w.cell? ⟨b, o + i * 3, none⟩ = some (.int .u8 x.1) ∧ w.cell? ⟨b, o + i * 3 + 1, none⟩ = some (.string x.2.1) ∧ w.cell? ⟨b, o + i * 3 + 2, none⟩ = some (.int .i64 x.2.2) := by
  have hn : 0 < n := by
    have h1 := h.len
    have h2 := acs_len l
    have h3 := lt_at hi
    omega
  obtain ⟨b, o, e, hb, hc⟩ := h.at_ hn
  obtain ⟨h1, h2, h3⟩ := acs_get hi
  exact ⟨b, o, e, hb, hc _ _ h1, by rw [Nat.add_assoc]; exact hc _ _ h2, by rw [Nat.add_assoc]; exact hc _ _ h3⟩
theorem rd_num {w : World} {B n c : Nat} {A : Option Addr} {l : List Int} (h : Rd w B 1 A n c (i64s l)) {i : Nat} {x : Int} (hi : l[i]? = some x) : ∃ b o, A = some ⟨b, o, none⟩ ∧ b < B ∧ w.cell? ⟨b, o + i, none⟩ = some (.int .i64 x) := by
  have hn : 0 < n := by
    have h1 := h.len
    have h3 := lt_at hi
    rw [i64s, List.length_map] at h1
    omega
  obtain ⟨b, o, e, hb, hc⟩ := h.at_ hn
  exact ⟨b, o, e, hb, hc _ _ (by rw [i64s, List.getElem?_map, hi]; rfl)⟩

section
variable {H : Type} {enc : TypeId × Value → H} {P : Program} {W : World} {base : Nat} {spare : Nat → Bool} {held : Bool}
theorem rd_actsW {R : Nat} {t e t0 t1 t2 : TypeId} {f0 f1 f2 : Field} {fuel : Nat} {v : Value} {x : DataW H × List MemPlace} (ht : P.underlying t = some (.slice e)) (he : P.underlying e = some (.struct #[f0, f1, f2])) (hone : Go.Deep.oneCellFields P #[f0, f1, f2] = true) (hc : P.cellsOf e = 3)
    (e0 : f0.type = t0) (e1 : f1.type = t1) (e2 : f2.type = t2) (h0 : P.underlying t0 = some (.int .u8)) (h1 : P.underlying t1 = some .string) (h2 : P.underlying t2 = some (.int .i64)) (h : DataW.trod enc P W base spare held fuel t [v] = some x) (hS : Sz P R t x.1) :
    ∃ (A : Option Addr) (c : Nat) (l : List Ac), v = .slice A l.length c ∧ Rd W W.heap.size 3 A l.length c (acs l) ∧ ∀ s ∈ l, s.2.1.size ≤ R ∧ (Lit.int .u8 s.1).wf = true ∧ (Lit.int .i64 s.2.2).wf = true := by
  subst e0; subst e1; subst e2
  obtain ⟨A, c, E, rfl, hB, hr, hE⟩ := rd_sliceW ht hc (by omega) h hS
  obtain ⟨k, rfl, hk⟩ := map_of_allA (g := acell) (Q := fun s => s.2.1.size ≤ R ∧ (Lit.int .u8 s.1).wf = true ∧ (Lit.int .i64 s.2.2).wf = true) fun l hl => by
    obtain ⟨hl1, f', y, hy, hy2⟩ := hE l hl
    have hg := rd_structW he hone hy hy2
    match l, hl1 with
    | [u0, u1, u2], _ =>
      obtain ⟨_, z0, g0, k0⟩ := hg 0 f0 rfl
      obtain ⟨_, z1, g1, k1⟩ := hg 1 f1 rfl
      obtain ⟨_, z2, g2, k2⟩ := hg 2 f2 rfl
      obtain ⟨n0, q0, _, b0⟩ := DataW.trod_int h0 (by simpa using g0)
      obtain ⟨s1, q1, b1⟩ := rd_stringW h1 (by simpa using g1) k1
      obtain ⟨n2, q2, _, b2⟩ := DataW.trod_int h2 (by simpa using g2)
      simp at q0 q1 q2
      subst q0; subst q1; subst q2
      exact ⟨(n0, s1, n2), rfl, b1, b0, b2⟩
  simp only [List.length_map] at hr hB ⊢
  exact ⟨A, c, k, rfl, by unfold acs; rw [List.flatMap_def]; exact hr, hk⟩
set_option maxRecDepth 100000 in
theorem rd_acts {v : Value} {d : DataW H} {p : List MemPlace} {r : Go.Reach} {b0 : Nat} (hv : Value.okWide Try.prog W r b0 22 v) (h : DataW.Trod enc Try.prog W base spare held 22 v d p) (hS : Sz Try.prog 140737488351232 22 d) :
    ∃ (A : Option Addr) (c : Nat) (l : List Ac), v = .slice A l.length c ∧ Rd W W.heap.size 3 A l.length c (acs l) ∧ ∀ s ∈ l, s.2.1.size ≤ maxLen ∧ (Lit.int .u8 s.1).wf = true ∧ (Lit.int .i64 s.2.2).wf = true := by
  obtain ⟨a, n, c, rfl⟩ := okWide_slice Try.underlying22 hv
  obtain ⟨fuel, hf⟩ := h
  obtain ⟨A, c, l, e, h1, h2⟩ := rd_actsW (x := (d, p)) Try.underlying22 Try.underlying32 (by kernel_rfl) (by kernel_rfl) rfl rfl rfl Try.underlying5 Try.underlying9 Try.underlying3 (by simpa [Value.cells] using hf) hS
  exact ⟨A, c, l, e, h1, fun s hs => by obtain ⟨a1, a2, a3⟩ := h2 s hs; exact ⟨by unfold maxLen; omega, a2, a3⟩⟩
end

/-! few -/
def fewA (l : List Ac) : Bool := (l.all fun x => decide (x.2.1.size ≤ 40) && decide (x.2.2 ≤ 1000000)) && decide (l.length ≤ 60)
set_option maxRecDepth 100000 in
set_option maxHeartbeats 2000000 in
theorem few_any {w : World} {A : Option Addr} {c : Nat} {l : List Ac} (h : Rd w w.heap.size 3 A l.length c (acs l)) (hs : ∀ s ∈ l, s.2.1.size ≤ maxLen) :
    Calls Try.prog 9 #[.slice A l.length c] w fun e w' => e = .returned (.bool (fewA l)) ∧ w' = w := by
  obtain ⟨F, hF⟩ : ∃ F, fewA l = F := ⟨_, rfl⟩
  rw [hF]
  replace hF := Lib.hid hF
  have hll : l.length ≤ 9223372036854775807 := by
    have h1 := h.cap
    have h2 := h.capm
    simp only [maxLen] at h2
    omega
  go_enter Try.func9, Try.ntmps9
  go_wp2_with fail
  go_loopw [3] (fun vi wx => ∃ i : Nat, vi = .int .i64 i ∧ i ≤ l.length ∧ wx = w ∧ Hid (∀ x ∈ l.take i, x.2.1.size ≤ 40 ∧ x.2.2 ≤ 1000000)) (fun vi _ => l.length - (intOf vi).toNat)
  case atStart => exact ⟨0, rfl, Nat.zero_le _, rfl, Lib.hid fun x hx => by cases hx⟩
  case round =>
    obtain ⟨i, rfl, hi, rfl, hall⟩ := hrel
    by_cases hil : i < l.length
    · have di : (i : Int) < (l.length : Int) := by omega
      obtain ⟨x, hx⟩ : ∃ x, l[i]? = some x := ⟨_, List.getElem?_eq_getElem hil⟩
      obtain ⟨b, o, rfl, hlb, g0, g1, g2⟩ := rd_act h hx
      have hsx := hs x (List.mem_of_getElem? hx)
      have hno : ¬ (x.2.1.size ≤ 40 ∧ x.2.2 ≤ 1000000) → F = false := fun q => by
        rw [← hF.out]
        unfold fewA
        rw [Bool.and_eq_false_iff]
        refine Or.inl ?_
        rw [List.all_eq_false]
        exact ⟨x, List.mem_of_getElem? hx, by rw [Bool.and_eq_true, decide_eq_true_eq, decide_eq_true_eq]; exact q⟩
      have hyes : x.2.1.size ≤ 40 ∧ x.2.2 ≤ 1000000 → Hid (∀ x ∈ l.take (i + 1), x.2.1.size ≤ 40 ∧ x.2.2 ≤ 1000000) := fun q => Lib.hid fun y hy => by
        rw [List.take_add_one, hx, Option.toList_some] at hy
        rcases List.mem_append.1 hy with hy | hy
        · exact hall.out y hy
        · rw [List.mem_singleton] at hy
          subst hy
          exact q
      obtain ⟨kd, s, r⟩ := x
      dsimp only at g0 g1 g2 hno hyes hsx
      clear hall hx
      by_cases c1 : 40 < s.size
      · have hF2 := hno (by omega)
        subst hF2
        clear hno hyes hF
        go_wp2_with fail
        go_ret
        exact ⟨rfl, rfl⟩
      · by_cases c2 : 1000000 < r
        · have hF2 := hno (by omega)
          subst hF2
          clear hno hyes hF
          go_wp2_with fail
          go_ret
          exact ⟨rfl, rfl⟩
        · have hy2 := hyes (by omega)
          clear hno hyes
          go_wp2_with fail
          exact ⟨⟨i + 1, by go_num, by omega, by trivial, hy2⟩, by simp [intOf]; omega⟩
    · obtain rfl : i = l.length := by omega
      have di : ¬ (((l.length : Nat) : Int) < (l.length : Int)) := by omega
      have hF2 : decide ((l.length : Int) ≤ 60) = F := by
        rw [← hF.out]
        unfold fewA
        have ha := hall.out
        rw [List.take_length] at ha
        rw [List.all_eq_true.2 fun x hx => by rw [decide_eq_true (ha x hx).1, decide_eq_true (ha x hx).2]; rfl, Bool.true_and]
        exact decide_eq_decide.2 (by omega)
      clear hall hF
      go_wp2_with fail
      go_ret
      exact ⟨rfl, rfl⟩
end Go.Proofs.Ytmdhollegemlhaa
