/- The statement PrintOps, proved: for every input the call returns true and each argument reads behind it as it read before; no condition (the form's own reach holds each string under 2^47 bytes). -/
import Derived.SizedLaws
import Derived.Test.YtkeonempmchpnaaFrame
import Derived.Test.YtkeonempmchpnaaWOps8
namespace Go.Proofs.Ytkeonempmchpnaa
open Go.ChangeShapes Go.WideShapes Go.ChangeAt Go.RowKit
open Go.ChangeMaps (open_string shut_string)

theorem strs_weights {H : Type} {P : Program} {e : TypeId} {l : List ByteArray} {s : ByteArray} (h : s ∈ l) : s.size ∈ DataW.weightsAll P e (strs (H := H) l) := by
  induction l with
  | nil => cases h
  | cons x r ih =>
    show s.size ∈ DataW.weights P e (.lit (.string x.data.toList)) ++ DataW.weightsAll P e (strs r)
    rcases List.mem_cons.1 h with rfl | h
    · exact List.mem_append_left _ (by simp [DataW.weights])
    · exact List.mem_append_right _ (ih h)
/-- A slice of strings, and how long each is told to be. -/
theorem rd_strings_at {H : Type} {enc : TypeId × Value → H} {P : Program} {W : World} {base : Nat} {spare : Nat → Bool} {held : Bool} {t e : TypeId} {v : Value} {d : DataW H} {p : List MemPlace} {r : Reach} {b0 : Nat} (ht : P.underlying t = some (.slice e)) (he : P.underlying e = some .string) (hc : P.cellsOf e = 1)
    (hv : Value.okWide P W r b0 t v) (h : DataW.Trod enc P W base spare held t v d p) :
    ∃ (A : Option Addr) (n c : Nat) (ss : List ByteArray), v = .slice A n c ∧ Rd W W.heap.size 1 A n c (ss.map Value.string) ∧ ∀ s ∈ ss, s.size ∈ DataW.weights P t d := by
  obtain ⟨a, n, c, rfl⟩ := okWide_slice ht hv
  obtain ⟨fuel, hf⟩ := h
  rcases open_strings ht he hc hf with ⟨hcs, _⟩ | ⟨x, l, c', ss, hcs, _, hl, hm, hz, hx, hcell, hwz⟩
  · simp [Value.cells] at hcs
    obtain ⟨rfl, rfl, rfl⟩ := hcs
    exact ⟨none, 0, 0, [], rfl, Rd.none_ _ _ _, fun _ h => (by cases h)⟩
  · simp [Value.cells] at hcs
    obtain ⟨rfl, rfl, rfl⟩ := hcs
    have hlz : n ≤ ss.length := by rw [hz]; split <;> omega
    have hd : d = .slice (strs (ss.take n)) (strs (ss.drop n)) := congrArg Prod.fst hx
    refine ⟨_, _, _, ss.take n, rfl, ?_, fun s hs => ?_⟩
    · rcases Nat.eq_zero_or_pos n with h0 | h0
      · subst h0
        exact ⟨by simp, Nat.zero_le _, hm, fun e => (by cases e), fun h => absurd h (by omega)⟩
      · have hb : x.block < W.heap.size := by have := World.block_lt_of_cell? W (x.add 0) (hcell 0 (by omega)); simpa [Addr.add] using this
        refine Rd.of_cells (by simp; omega) (by omega) hl hm hb fun j u hj => ?_
        rw [List.getElem?_map, List.getElem?_take] at hj
        split at hj
        · rename_i hjn
          rw [List.getElem?_eq_getElem (show j < ss.length by omega)] at hj
          simp at hj
          rw [hcell j (by omega), List.getD_eq_getElem?_getD, List.getElem?_eq_getElem (show j < ss.length by omega)]
          simp [hj]
        · cases hj
    · rw [hd, DataW.weights, ht]
      exact List.mem_cons_of_mem _ (List.mem_append_left _ (strs_weights hs))
set_option maxRecDepth 100000 in
theorem printOps_lifted (os : Os) (started : os.Started) (H : Type) (enc : TypeId × Value → H) :
    ReturnsInHanded {} Try.checked os 7 .any (Rows.printOpsSpec.pre6 enc Try.prog Try.f7 Rows.printOpsRow.domain false) (Rows.printOpsSpec.post enc Try.prog Try.f7 false true false false) := by
  refine returnsInHanded_of_change_sized (C := Try.checked) own_ started (by kernel_rfl) Try.func7
    (ChangeSpec.witness6 (enc := enc) (C := Try.checked) false ⟨#[], #[.slice none 0 0, .slice none 0 0], []⟩ 8 (by kernel_rfl) (by kernel_rfl) (by kernel_rfl) (by kernel_rfl)) ?_
  intro W base args ds gs before hval0 hW hcnd hsz _
  have hval : ∀ (j : Nat) t v, Try.f7.params[j]? = some t → args[j]? = some v → Value.okWide Try.prog W .any base t v := hval0
  have hW' := hW
  obtain ⟨p, q, hA0, hV, rfl, hfz, hnd⟩ := hW
  have hA : DataW.TrodAll enc Try.prog W 0 (fun _ => true) true Try.f7.params.toList args.toList ds p := hA0
  rw [Try.params7] at hA hval hsz
  obtain ⟨v0, vs0, d0, ds0, p0, q0, hargs, rfl, rfl, h0, t0⟩ := trodAll_cons hA
  obtain ⟨v1, vs1, d1, ds1, p1, q1, rfl, rfl, rfl, h1, t1⟩ := trodAll_cons t0
  obtain ⟨rfl, rfl, rfl⟩ := trodAll_nil t1
  obtain rfl : args = #[v0, v1] := by cases args; simp_all
  obtain ⟨rfl, rfl⟩ := trodVars_none hV
  have k0 := h0
  have lt0 : ∀ x ∈ p0, x.block < W.heap.size := by obtain ⟨m, hm⟩ := k0; exact DataW.trod_lt m _ _ _ hm
  obtain ⟨A0, n0, c0, l0, rfl, r0⟩ := rd_bytes Try.underlying53 Try.underlying5 (by kernel_rfl) (hval 0 53 v0 rfl rfl) h0
  have k1 := h1
  have lt1 : ∀ x ∈ p1, x.block < W.heap.size := by obtain ⟨m, hm⟩ := k1; exact DataW.trod_lt m _ _ _ hm
  obtain ⟨A1, n1, c1, s1, rfl, r1, g1⟩ := rd_strings_at Try.underlying58 Try.underlying9 (by kernel_rfl) (hval 1 58 v1 rfl rfl) h1
  have f1 : ∀ s ∈ s1, s.size ≤ 140737488355327 := fun s hs => by
    have h1 := List.all_eq_true.1 hsz _ (DataW.weights_mem_each (j := 1) (t := 58) (d := d1) rfl rfl _ (g1 s hs))
    have h2 : s.size ≤ reachBytes := of_decide_eq_true h1
    have := reachBytes_lt
    omega
  clear hA0 hval0
  refine (printOps_walk A0 n0 c0 l0 A1 n1 c1 s1 W r0 r1 f1).mono fun e W' ⟨he, bel⟩ => ?_
  subst he
  exact ⟨_, rfl, _, _, _, [], _, [], hW', trodAll_mk1 (shut_bool Try.underlying4 _), (trodAll_cons_mk (Below.trod laidOut_ (by kernel_rfl) (of_decide_eq_true (by kernel_rfl)) k0 bel lt0) (trodAll_cons_mk (Below.trod laidOut_ (by kernel_rfl) (of_decide_eq_true (by kernel_rfl)) k1 bel lt1) trodAll_mk0)), rfl, bel.frame _, fun h => by cases h⟩

theorem printOps_holds : Rows.PrintOpsSaid :=
  OpenClaim.holds_of_wide 7 Try.f7 rfl rfl rfl rfl rfl rfl rfl ⟨rfl, rfl, rfl, rfl, rfl⟩ rfl rfl rfl rfl rfl (by kernel_rfl) Try.func7 (by kernel_rfl)
    (of_decide_eq_true (by kernel_rfl)) (by unfold Func.isWrapper; first | (rw [if_pos (by decide +kernel)]; kernel_rfl) | (rw [if_neg (by decide +kernel)]; exact ⟨rfl, rfl⟩))
    (fun os started H enc _ => printOps_lifted os started H enc)
#print axioms printOps_holds
end Go.Proofs.Ytkeonempmchpnaa
