/- Layer 13: Of and Apply as the statements call them. Conditions: no more than a million keys. -/
import Derived.Test.YtampggkjlpbbmaaLawP13
import Derived.Test.YtampggkjlpbbmaaAwake13
namespace Go.Proofs.Ytampggkjlpbbmaa
open Go.RowKit

theorem of_set {w : World} {A : Option Addr} {c : Nat} {l : List ByteArray} (h : Rd w w.heap.size 1 A l.length c (ks l)) (hl : l.length ≤ 1000000) :
    Calls Try.prog 9 #[.slice A l.length c] w fun e w' => ∃ A' c', e = .returned (.slice A' (setS l).length c') ∧ Rd w' w'.heap.size 1 A' (setS l).length c' (ks (setS l)) ∧ Below w.heap.size w w' := of_is h hl (setS_rises l) fun _ => setS_mem
theorem hasK_snoc {l : List ByteArray} {i : Nat} {a : ByteArray} (k : ByteArray) (h : l[i]? = some a) : hasK (l.take (i + 1)) k = (hasK (l.take i) k || (a.toList == k.toList)) := by
  rw [tl_eq, List.take_add_one, h, Option.toList_some]
  unfold hasK
  rw [List.any_append, List.any_cons, List.any_nil, Bool.or_false]
  congr 1
  by_cases e : k = a
  · rw [decide_eq_true e, decide_eq_true e.symm]
  · rw [decide_eq_false e, decide_eq_false (Ne.symm e)]

theorem app_nil {w : World} {A A2 : Option Addr} {c c2 : Nat} {s : List ByteArray} {ch : List (ByteArray × Bool)} {r : List ByteArray} {e i : Nat} (h : Rd w w.heap.size 1 A s.length c (ks s)) (hs : Rises s) (hsk : ∀ k ∈ s, k.size ≤ maxLen) (hl : s.length ≤ 500000)
    (h2 : Rd w w.heap.size 2 A2 ch.length c2 (pcs ch)) (hc : ch.length ≤ 100000) (hck : ∀ x ∈ ch, x.1.size ≤ maxLen) (hr : appS s [] ch = (r, e, i)) :
    Calls Try.prog 12 #[.slice A s.length c, .slice none 0 0, .slice A2 ch.length c2] w fun x w' => ∃ A' c', x = .returned (.tuple #[.slice A' r.length c', .int .i64 (e : Nat), .int .i64 (i : Nat)]) ∧ Rd w' w'.heap.size 1 A' r.length c' (ks r) ∧ Below w.heap.size w w' := by
  refine (apply_any (p := []) h hs hsk hl (Rd.none_ _ _ _) (by decide) h2 hc hck).mono ?_
  rintro x w' ⟨A', c', he, hR, hb⟩
  rw [hr] at he hR
  exact ⟨A', c', he, hR, hb⟩
theorem setS_small {l : List ByteArray} (h : ∀ x ∈ l, x.size ≤ maxLen) : ∀ x ∈ setS l, x.size ≤ maxLen := fun x hx => h x (setS_mem.1 hx)
theorem difS_small {s t : List ByteArray} (h : ∀ x ∈ s, x.size ≤ maxLen) (k : ∀ x ∈ t, x.size ≤ maxLen) : ∀ x ∈ difS s t, x.1.size ≤ maxLen := fun _ hx => (difS_keys hx).elim (h _) (k _)
end Go.Proofs.Ytampggkjlpbbmaa
