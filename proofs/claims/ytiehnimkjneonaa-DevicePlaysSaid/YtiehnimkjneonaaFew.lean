/- Whether things are few; what is told of each. Conditions: none. -/
import Derived.Test.YtiehnimkjneonaaAwake
import Derived.Test.YtiehnimkjneonaaFrame
namespace Go.Proofs.Ytiehnimkjneonaa
open Go.RowKit

theorem Rd.beside {w : World} {B size n c lo hi : Nat} {A : Option Addr} {xs : List Value} (h : Rd w B size A n c xs) (hB : B ≤ lo) : 0 < n → ∀ b o, A = some ⟨b, o, none⟩ → b < lo ∨ hi ≤ b := fun hn b o e => by
  obtain ⟨b', o', e', hb, _⟩ := h.at_ hn
  rw [e] at e'
  cases e'
  exact .inl (by omega)
/-- The cells of one of the things that are done. -/
theorem act_cells {w : World} {B c : Nat} {A : Option Addr} {l : List Ac} (h : Rd w B 4 A l.length c (l.flatMap acCells)) {k : Nat} {a : Ac} (hk : l[k]? = some a) :
    ∃ b o, A = some ⟨b, o, none⟩ ∧ b < B ∧ w.cell? ⟨b, o + k * 4, none⟩ = some (.int .u8 a.kind) ∧ w.cell? ⟨b, o + k * 4 + 1, none⟩ = some (.int .i64 a.at_) ∧
      w.cell? ⟨b, o + k * 4 + 2, none⟩ = some (.slice a.A a.b.length a.c) ∧ w.cell? ⟨b, o + k * 4 + 3, none⟩ = some (.slice a.K a.k.length a.e) := by
  have hlt := (List.getElem?_eq_some_iff.1 hk).1
  obtain ⟨b, o, rfl, hb, hc⟩ := h.at_ (by omega)
  have hf : ∀ r, r < 4 → (l.flatMap acCells)[k * 4 + r]? = (acCells a)[r]? := fun r hr => by
    rw [List.flatMap_def]
    exact flatten_at (fun x hx => by obtain ⟨y, _, rfl⟩ := List.mem_map.1 hx; rfl) (by rw [List.getElem?_map, hk]; rfl) hr
  refine ⟨b, o, rfl, hb, ?_, ?_, ?_, ?_⟩
  · exact hc (k * 4) _ ((hf 0 (by omega)).trans rfl)
  · rw [Nat.add_assoc]; exact hc _ _ ((hf 1 (by omega)).trans rfl)
  · rw [Nat.add_assoc]; exact hc _ _ ((hf 2 (by omega)).trans rfl)
  · rw [Nat.add_assoc]; exact hc _ _ ((hf 3 (by omega)).trans rfl)
def smallB (a : Ac) : Bool := decide (a.b.length ≤ 80) && decide (a.k.length ≤ 60)
def fewB (l : List Ac) : Bool := l.all smallB && decide (l.length ≤ 60)
theorem fewB_iff {l : List Ac} : fewB l = true ↔ (∀ a ∈ l, a.b.length ≤ 80 ∧ a.k.length ≤ 60) ∧ l.length ≤ 60 := by
  simp [fewB, smallB]
set_option maxRecDepth 100000 in
set_option maxHeartbeats 2000000 in
theorem few_any (w : World) {B c : Nat} {A : Option Addr} {l : List Ac} (h : Rd w B 4 A l.length c (l.flatMap acCells)) :
    Calls Try.prog 9 #[.slice A l.length c] w fun e w' => e = .returned (.bool (fewB l)) ∧ w' = w := by
  have hcm := h.capm
  have hcc := h.cap
  have hlm : l.length ≤ 9223372036854775807 := by simp only [maxLen] at hcm; omega
  go_enter Try.func9, Try.ntmps9
  go_wp2
  go_loop [3] (fun i => ∃ k : Nat, k ≤ l.length ∧ i = .int .i64 k ∧ (l.take k).all smallB = true) (fun i => l.length - (intOf i).toNat)
  case atStart => exact ⟨0, Nat.zero_le _, rfl, rfl⟩
  case round =>
    obtain ⟨k, hk, rfl, ha⟩ := hrel
    by_cases hlt : k < l.length
    · obtain ⟨a, hka⟩ : ∃ a, l[k]? = some a := ⟨l[k], List.getElem?_eq_getElem hlt⟩
      obtain ⟨b, o, rfl, _, c0, c1, c2, c3⟩ := act_cells h hka
      have hlz : (k : Int) < (l.length : Int) := by omega
      have hmem : a ∈ l := List.mem_of_getElem? hka
      have htk : (l.take (k + 1)).all smallB = ((l.take k).all smallB && smallB a) := by rw [List.take_add_one, hka, List.all_append]; simp
      have hno : smallB a = false → fewB l = false := fun hs => by
        cases hf : fewB l with
        | false => rfl
        | true => have := (fewB_iff.1 hf).1 a hmem; simp [smallB] at hs; omega
      clear c0 c1
      by_cases h1 : a.b.length ≤ 80
      · by_cases h2 : a.k.length ≤ 60
        · go_wp2
          go_round
          case rel => exact ⟨k + 1, by omega, by simp, by rw [htk, ha]; simp [smallB, h1, h2]⟩
          case measure => simp [intOf]; omega
        · go_wp2
          go_ret
          exact ⟨by rw [hno (by simp [smallB]; omega)]; rfl, rfl⟩
      · go_wp2
        go_ret
        exact ⟨by rw [hno (by simp [smallB]; omega)]; rfl, rfl⟩
    · obtain rfl : k = l.length := by omega
      rw [List.take_length] at ha
      go_wp2
      go_ret
      refine ⟨?_, rfl⟩
      rw [fewB, ha]
      simp
      omega
end Go.Proofs.Ytiehnimkjneonaa
