/- The contract of fields.Put: the bytes of any numbers, one behind the other, in a row of the call's own. -/
import Derived.Test.YtgppaompcnllbaaAdd
namespace Go.Proofs.Ytgppaompcnllbaa
open Go.RowKit

/-- Numbers' bytes, one behind the other. -/
def nums (us : List Int) : List UInt8 := us.flatMap fun u => num u.toNat
theorem nums_snoc (us : List Int) (k : Nat) (u : Int) (h : us[k]? = some u) : nums (us.take (k + 1)) = nums (us.take k) ++ num u.toNat := by
  obtain ⟨hl, hx⟩ := List.getElem?_eq_some_iff.1 h
  rw [nums, List.take_succ_eq_append_getElem hl, List.flatMap_append, hx]; simp [nums]
theorem nums_le (us : List Int) (h : ∀ u ∈ us, 0 ≤ u ∧ u < 2 ^ 64) : (nums us).length ≤ 9 * us.length := by
  induction us with
  | nil => simp [nums]
  | cons u r ih =>
    have h1 := ih fun x hx => h x (List.mem_cons_of_mem _ hx)
    have h2 := h u (List.mem_cons_self ..)
    have h3 := nb_le8 (n := u.toNat) (by omega)
    simp only [nums, List.flatMap_cons, List.length_append, num_length, List.length_cons] at h1 ⊢
    omega
theorem nums_take_le (us : List Int) (h : ∀ u ∈ us, 0 ≤ u ∧ u < 2 ^ 64) (k : Nat) : (nums (us.take k)).length ≤ 9 * k := by
  have := nums_le (us.take k) fun u hu => h u (List.mem_of_mem_take hu)
  have h2 : (us.take k).length ≤ k := List.length_take_le _ _
  omega
/-- Element k of a slice that reads as numbers. -/
theorem Rd.getInt {w : World} {B n c : Nat} {A : Option Addr} {kd : IntKind} {us : List Int} (h : Rd w B 1 A n c (us.map (Value.int kd))) {k : Nat} (hk : k < n) :
    ∃ b o u, A = some ⟨b, o, none⟩ ∧ b < B ∧ us[k]? = some u ∧ w.cell? ⟨b, o + k, none⟩ = some (.int kd u) := by
  obtain ⟨b, o, v, e, hb, hx, hc⟩ := h.get hk
  rw [List.getElem?_map] at hx
  cases hu : us[k]? with
  | none => rw [hu] at hx; cases hx
  | some u => rw [hu] at hx; simp at hx; subst hx; exact ⟨b, o, u, e, hb, rfl, hc⟩

set_option maxRecDepth 100000 in
set_option maxHeartbeats 400000 in
theorem fput_any (A : Option Addr) (n c : Nat) (us : List Int) (w : World) (hr : Rd w w.heap.size 1 A n c (us.map (Value.int .u64))) (hu : ∀ u ∈ us, 0 ≤ u ∧ u < 2 ^ 64) (hn : n ≤ 1000000000) :
    Calls Try.prog 48 #[.slice A n c] w fun e w' => ∃ v', e = .returned v' ∧ w'.ownsRow w.heap.size 5 1 v' (nums us).length (bv (nums us)) ∧ Below w.heap.size w w' := by
  have Hr := Lib.hid hr
  have Hu := Lib.hid hu
  clear hr hu
  go_enter Try.func48, Try.ntmps48
  go_wp2
  go_loopw [3, 8] (fun v i wr => ∃ k : Nat, k ≤ n ∧ i = .int .i64 k ∧ wr.ownsRow w.heap.size 5 1 v (nums (us.take k)).length (bv (nums (us.take k))) ∧ Below w.heap.size w wr) (fun _ i _ => n - (intOf i).toNat)
  case atStart => exact ⟨0, Nat.zero_le _, rfl, World.ownsRow_nil _ _ _ _, Below.refl _ _⟩
  case round =>
    obtain ⟨k, hk, rfl, hown, hb⟩ := hrel
    have Ho := Lib.hid hown
    have Hb := Lib.hid hb
    have hbs := hb.size
    clear hown hb
    by_cases hlt : k < n
    · obtain ⟨b, o, u, rfl, _, hx, hc⟩ := (Hr.out.below Hb.out).getInt hlt
      have Hx := Lib.hid hx
      clear hx
      have hu1 := Hu.out u (List.mem_of_getElem? Hx.out)
      have Hu1 := Lib.hid hu1
      clear hu1
      go_wp2_with fail
      refine (addNumber_any w.heap.size _ _ _ u Hu1.out.1 Hu1.out.2 wr Ho.out hbs (by have := nums_take_le us Hu.out k; omega)).mono ?_
      rintro e w' ⟨v', rfl, hown', hb'⟩
      go_wp2
      refine ⟨⟨k + 1, by omega, by go_num, ?_, Hb.out.trans hb'⟩, by simp [intOf]; omega⟩
      rw [nums_snoc us k u Hx.out, bv_append, List.length_append, num_length]
      exact hown'
    · have e : k = n := by omega
      subst e
      go_wp2
      go_ret
      have h := Ho.out
      rw [List.take_of_length_le (by have := Hr.out.len; simp at this; omega)] at h
      exact ⟨_, rfl, h, Hb.out⟩
end Go.Proofs.Ytgppaompcnllbaa
