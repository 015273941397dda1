/- Layer 7: a relation's operations, read; a relation as its calls read it. Conditions: none. -/
import Derived.Test.YtinfbimfiaegdaaRew
import Derived.Test.YtinfbimfiaegdaaSubs
namespace Go.Proofs.Ytinfbimfiaegdaa
open Go.RowKit

def opsT (l : List Tk) : Rs (List OpP) := if isT sIs l = true then rewT 0 l.tail else .ok ([(1, ⟨#[]⟩, ⟨#[]⟩)], l)
theorem ask_is : Ask sIs := ask_key rfl (by decide)
theorem ask_rel : Ask sRel := ask_key rfl (by decide)
theorem ask_type : Ask sType := ask_key rfl (by decide)
section
variable {w : World} {g : Nat} {l : List Tk}
set_option maxRecDepth 100000 in
theorem ops_any (h : Rdr w g l) : Calls Try.prog 85 #[.pointer (some ⟨g, 0, none⟩)] w (Post (VOps w.heap.size) w.heap.size w g (opsT l)) := by
  suffices HH : ∀ R, To (Post (VOps w.heap.size) w.heap.size w g (opsT l)) R → Calls Try.prog 85 #[.pointer (some ⟨g, 0, none⟩)] w R from HH _ fun _ _ h => h
  intro R HP
  have hg := h.size
  have km := may_any h ask_is
  unfold opsT at HP
  cases hi : isT sIs l with
  | false =>
    rw [hi, if_neg (by decide)] at km
    rw [hi, if_neg (by decide)] at HP
    go_enter Try.func85, Try.ntmps85
    go_wp2_with fail
    refine km.mono ?_
    rintro e w1 ⟨rfl, h1, hk⟩
    go_wp2_with fail
    exact HP.ret rfl (hk.alloc hk.size _) (own_ops1 _ _ _ _ _ hk.size) (h1.alloc _)
  | true =>
    rw [hi, if_pos rfl] at km
    rw [hi, if_pos rfl] at HP
    go_enter Try.func85, Try.ntmps85
    go_wp2_with fail
    refine km.mono ?_
    rintro e w1 ⟨rfl, h1, k1⟩
    go_wp2_with fail
    refine (rew_any 0 (by omega) h1).mono ?_
    intro e w2 hp
    obtain ⟨hk, hc⟩ := hp.cases_
    have k2 := k1.trans (hk.more k1.size)
    clear hp hk
    rcases hc with ⟨c, p, hr, rfl⟩ | ⟨o, l2, v, hr, rfl, hv, h2⟩
    · go_wp2_with fail
      exact ⟨rfl, HP.fail hr k2⟩
    go_wp2_with fail
    exact HP.ret hr k2 (own_base hv k1.size) h2
end
/-- What stands behind a relation's colon. -/
theorem subs_same (l : List Tk) (K : List SubP → List OpP → List Tk → Rs RelP) :
    (andT (if isT sIs l = true ∨ isT (sg 59) l = true then .ok ([], l) else whoT [] l) fun w r => andT (opsT r) fun o r => andT (needT (sg 59) r) fun _ r => K w o r) =
    andT (subsT l) fun w r => andT (opsT r) fun o r => andT (needT (sg 59) r) fun _ r => K w o r := by
  unfold subsT
  cases hn : atN l with
  | true =>
    have hn' := hn
    unfold atN at hn'
    simp only [Bool.and_eq_true, decide_eq_true_eq, Bool.not_eq_true'] at hn'
    rw [if_pos rfl, if_neg]
    rintro (h | h)
    · unfold isT at h
      have := (of_decide_eq_true h).1
      rw [this] at hn'
      exact absurd hn'.2 (by decide)
    · unfold isT at h
      rcases (of_decide_eq_true h).2 with h2 | h2
      · omega
      · exact absurd h2 (by decide)
  | false =>
    rw [if_neg (show ¬ (false = true) by decide)]
    by_cases h : isT sIs l = true ∨ isT (sg 59) l = true
    · rw [if_pos h]
    · rw [if_neg h, whoT_eq, name_no hn]
      have h1 : isT sIs l = false := by cases hh : isT sIs l with | true => exact absurd (.inl hh) h | false => rfl
      have h2 : isT (sg 59) l = false := by cases hh : isT (sg 59) l with | true => exact absurd (.inr hh) h | false => rfl
      rw [andT_err, andT_ok]
      unfold opsT
      rw [h1, if_neg (by decide), andT_ok]
      unfold needT
      rw [h2, if_neg (by decide)]
      rfl
def relR (l : List Tk) : Rs RelP :=
  andT (needT sRel l) fun _ r => andT (nameT r) fun n r => andT (needT (sg 40) r) fun _ r => andT (nameT r) fun v r => andT (needT (sg 44) r) fun _ r =>
  andT (nameT r) fun e r => andT (needT (sg 44) r) fun _ r => andT (nameT r) fun c r => andT (needT (sg 41) r) fun _ r =>
  andT (needT (sg 58) r) fun _ r => andT (subsT r) fun w r => andT (opsT r) fun o r => andT (needT (sg 59) r) fun _ r => .ok (⟨n, v, e, c, w, o⟩, r)
theorem relR_eq (l : List Tk) : relR l = andT (needT sRel l) fun _ r => relT r := by
  unfold relR relT
  refine andT_congr rfl fun _ r _ => ?_
  refine andT_congr rfl fun n r _ => ?_
  refine andT_congr rfl fun _ r _ => ?_
  refine andT_congr rfl fun v r _ => ?_
  refine andT_congr rfl fun _ r _ => ?_
  refine andT_congr rfl fun e r _ => ?_
  refine andT_congr rfl fun _ r _ => ?_
  refine andT_congr rfl fun c r _ => ?_
  refine andT_congr rfl fun _ r _ => ?_
  refine andT_congr rfl fun _ r _ => ?_
  exact (subs_same r fun w o r => .ok (⟨n, v, e, c, w, o⟩, r)).symm
end Go.Proofs.Ytinfbimfiaegdaa
