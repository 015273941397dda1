/- Layer 9: what is there, asked by name; a relation's path. Conditions: none. -/
import Derived.BigQuiet
import Derived.Deep.QuietTactic
import Derived.Test.YtpiihfffhjmabaaFindW
namespace Go.Proofs.Ytpiihfffhjmabaa
open Go.RowKit

theorem firstRA_says (q : TypA) (n : ByteArray) : firstR q.says n = (firstRA q n).map RelA.says := by
  show (q.rels.map RelA.says).find? _ = _
  rw [List.find?_map]
  rfl
theorem firstA_says (l : List TypA) (n : ByteArray) : firstT (l.map TypA.says) n = (firstA l n).map TypA.says := by
  show (l.map TypA.says).find? _ = _
  rw [List.find?_map]
  rfl
theorem hasR_says (q : TypA) (n : ByteArray) : hasR q.says n = (firstRA q n).isSome := by unfold hasR; rw [firstRA_says, Option.isSome_map]
theorem hasT_says (l : List TypA) (n : ByteArray) : hasT (l.map TypA.says) n = (firstA l n).isSome := by unfold hasT; rw [firstA_says, Option.isSome_map]
theorem hasI_says (l : List TypA) (ty re : ByteArray) : hasI (l.map TypA.says) ty re = (match firstA l ty with
  | none => false
  | some t => hasR t.says re) := by
  unfold hasI findI hasR
  rw [firstA_says]
  cases firstA l ty <;> rfl
theorem firstA_mem {l : List TypA} {n : ByteArray} {t : TypA} (h : firstA l n = some t) : t ∈ l := List.mem_of_find?_eq_some h
theorem firstRA_mem {q : TypA} {n : ByteArray} {r : RelA} (h : firstRA q n = some r) : r ∈ q.rels := List.mem_of_find?_eq_some h

theorem bthen {B : Nat} {w w1 w2 : World} (h : Below B w w1) (hB : B ≤ w1.heap.size) (k : Below w1.heap.size w1 w2) : Below B w w2 := h.trans (k.mono hB)
theorem bnew (w : World) (o : Obj) : Below w.heap.size w (w.alloc o) := (Below.refl _ w).alloc (Nat.le_refl _) o
theorem empty_dec (x : ByteArray) : x.toList.isEmpty = decide (x = ⟨#[]⟩) := by
  have h := list_dec x ⟨#[]⟩
  rw [← h, show (⟨#[]⟩ : ByteArray).toList = [] by decide +kernel]
  cases x.toList <;> rfl

set_option maxRecDepth 100000 in
set_option maxHeartbeats 400000 in
theorem hasRel_any {w : World} {R : Nat} {q : TypA} (h : q.ok w R) (n : ByteArray) :
    Calls Try.prog 39 #[.agg #[.string q.name, .slice q.A q.rels.length q.c], .string n] w fun e w' => e = .returned (.bool (hasR q.says n)) ∧ Below w.heap.size w w' := by
  rw [hasR_says]
  cases hf : firstRA q n with
  | none =>
    go_enter Try.func39, Try.ntmps39
    go_wp2_with (refine (relOf_none (h.up (bnew w _)) hf).mono ?_; rintro e w1 ⟨rfl, hb1⟩)
    go_ret
    have hb := bthen (bnew w _) (size_alloc (Nat.le_refl _)) hb1
    exact ⟨rfl, hb.alloc hb.size _⟩
  | some r =>
    go_enter Try.func39, Try.ntmps39
    go_wp2_with (refine (relOf_some (h.up (bnew w _)) hf).mono ?_; rintro e w1 ⟨rfl, hb1⟩)
    go_ret
    have hb := bthen (bnew w _) (size_alloc (Nat.le_refl _)) hb1
    exact ⟨rfl, hb.alloc hb.size _⟩
set_option maxRecDepth 100000 in
set_option maxHeartbeats 400000 in
theorem isThere_any {w : World} {R : Nat} {A : Option Addr} {c : Nat} {l : List TypA} (h : SchA w R A c l) (s : ByteArray × ByteArray) :
    Calls Try.prog 40 #[.agg #[.slice A l.length c], .agg #[.string s.1, .string s.2]] w fun e w' => e = .returned (.bool (subOk (l.map TypA.says) s)) ∧ Below w.heap.size w w' := by
  have hb0 : Below w.heap.size w ((w.alloc (.cells #[.slice A l.length c] 24)).alloc (.cells #[.string s.1, .string s.2] 54)) := (bnew w _).alloc (size_alloc (Nat.le_refl _)) _
  unfold subOk
  rw [hasT_says, hasI_says]
  cases hf : firstA l s.1 with
  | none =>
    go_enter Try.func40, Try.ntmps40
    go_wp2_with (with_reducible refine (typeOf_none (h.up hb0) hf).mono ?_; rintro e w1 ⟨rfl, hb1⟩)
    go_ret
    have hb := bthen hb0 hb0.size hb1
    exact ⟨rfl, hb.alloc hb.size _⟩
  | some t =>
    have he := empty_dec s.2
    have hs0 := Bk.new2 w (.cells #[.slice A l.length c] 24) #[.string s.1, .string s.2] 54
    cases hd : decide (s.2 = ⟨#[]⟩) with
    | true =>
      rw [hd] at he
      go_enter Try.func40, Try.ntmps40
      go_wp2_with (with_reducible refine (typeOf_some (h.up hb0) hf).mono ?_; rintro e w1 ⟨rfl, hb1⟩; have hs1 := hs0.below hb1; have l1 := hs1.lt; have y1 := hs1.c2.2)
      go_ret
      have hb := bthen hb0 hb0.size hb1
      exact ⟨rfl, hb.alloc hb.size _⟩
    | false =>
      rw [hd] at he
      go_enter Try.func40, Try.ntmps40
      go_wp2_with (with_reducible refine (typeOf_some (h.up hb0) hf).mono ?_; rintro e w1 ⟨rfl, hb1⟩; have hs1 := hs0.below hb1; have l1 := hs1.lt; have y1 := hs1.c2.2)
      have hb := bthen hb0 hb0.size hb1
      have hk := (h.each t (firstA_mem hf)).up (hb.alloc hb.size (.cells #[.string t.name, .slice t.A t.rels.length t.c] 46))
      go_wp2_with (with_reducible refine (hasRel_any hk _).mono ?_; rintro e w2 ⟨rfl, hb2⟩)
      go_ret
      have hb' := hb.alloc hb.size (.cells #[.string t.name, .slice t.A t.rels.length t.c] 46)
      exact ⟨rfl, bthen hb' hb'.size hb2⟩
set_option maxRecDepth 100000 in
set_option maxHeartbeats 400000 in
theorem path_any {w : World} {q : TypA} {r : RelA} (h1 : q.name.size ≤ 140737488351232) (h2 : r.name.size ≤ 140737488351232) :
    Calls Try.prog 30 #[.agg #[.string q.name, .slice q.A q.rels.length q.c], .agg #[.string r.name, .string r.view, .string r.edit, .string r.check, .slice r.As r.subs.length r.cs, .slice r.Ao r.ops.length r.co]] w fun e w' =>
      e = .returned (.string (pathS q.says r.says)) ∧ Below w.heap.size w w' := by
  have e1 : pathS q.says r.says = q.name ++ ⟨#[46]⟩ ++ r.name := rfl
  rw [e1]
  have n1 : ¬ 9223372036854775807 < q.name.size + 1 := by omega
  have n2 : ¬ 9223372036854775807 < q.name.size + 1 + r.name.size := by omega
  go_enter Try.func30, Try.ntmps30
  go_wp2
  go_ret
  exact ⟨rfl, (bnew w _).alloc (size_alloc (Nat.le_refl _)) _⟩
/-- What is wrong with a type behind those ahead of it, but for its relations. -/
def tyE (l : List TypA) (t : TypA) : Nat := if (firstA l t.name).isSome = true then 32 else if 12 < t.rels.length then 13 else 0
def reE (q : TypA) (r : RelA) : Nat := if (firstRA q r.name).isSome = true then 32 else if 16 < r.ops.length then 13 else 0
set_option maxRecDepth 100000 in
set_option maxHeartbeats 400000 in
theorem typeFault_any {w : World} {R : Nat} {A : Option Addr} {c : Nat} {l : List TypA} {t : TypA} (h : SchA w R A c l) :
    Calls Try.prog 28 #[.slice A l.length c, .agg #[.string t.name, .slice t.A t.rels.length t.c]] w fun e w' =>
      e = .returned (.int .i64 (tyE l t : Nat)) ∧ Below w.heap.size w w' := by
  have hb0 := bnew w (.cells #[.string t.name, .slice t.A t.rels.length t.c] 46)
  have hs0 := Bk.new w #[.string t.name, .slice t.A t.rels.length t.c] 46
  cases hf : firstA l t.name with
  | some x =>
    have hE : tyE l t = 32 := by unfold tyE; rw [hf]; rfl
    rw [hE]
    go_enter Try.func28, Try.ntmps28
    go_wp2_with (with_reducible refine (typeOf_some (h.up hb0) hf).mono ?_; rintro e w1 ⟨rfl, hb1⟩)
    go_ret
    have hb := bthen hb0 hb0.size hb1
    exact ⟨rfl, hb.alloc hb.size _⟩
  | none =>
    by_cases hd : 12 < t.rels.length
    · have hE : tyE l t = 13 := by unfold tyE; rw [hf, if_neg (by decide), if_pos hd]
      rw [hE]
      have hdi : (12 : Int) < (t.rels.length : Nat) := by omega
      go_enter Try.func28, Try.ntmps28
      go_wp2_with (with_reducible refine (typeOf_none (h.up hb0) hf).mono ?_; rintro e w1 ⟨rfl, hb1⟩; have hs1 := hs0.below hb1; have l1 := hs1.lt; have y1 := hs1.c2.2)
      go_ret
      have hb := bthen hb0 hb0.size hb1
      exact ⟨rfl, hb.alloc hb.size _⟩
    · have hE : tyE l t = 0 := by unfold tyE; rw [hf, if_neg (by decide), if_neg hd]
      rw [hE]
      have hdi : ¬ (12 : Int) < (t.rels.length : Nat) := by omega
      go_enter Try.func28, Try.ntmps28
      go_wp2_with (with_reducible refine (typeOf_none (h.up hb0) hf).mono ?_; rintro e w1 ⟨rfl, hb1⟩; have hs1 := hs0.below hb1; have l1 := hs1.lt; have y1 := hs1.c2.2)
      go_ret
      have hb := bthen hb0 hb0.size hb1
      exact ⟨rfl, hb.alloc hb.size _⟩
set_option maxRecDepth 100000 in
set_option maxHeartbeats 400000 in
theorem relFault_any {w : World} {R : Nat} {A : Option Addr} {c : Nat} {l : List RelA} {t : RelA} (h : TypA.ok w R ⟨⟨#[]⟩, A, c, l⟩) :
    Calls Try.prog 29 #[.slice A l.length c, .agg #[.string t.name, .string t.view, .string t.edit, .string t.check, .slice t.As t.subs.length t.cs, .slice t.Ao t.ops.length t.co]] w fun e w' =>
      e = .returned (.int .i64 (reE ⟨⟨#[]⟩, A, c, l⟩ t : Nat)) ∧ Below w.heap.size w w' := by
  have hb0 := bnew w (.cells #[.string t.name, .string t.view, .string t.edit, .string t.check, .slice t.As t.subs.length t.cs, .slice t.Ao t.ops.length t.co] 36)
  have hs0 := Bk.new w #[.string t.name, .string t.view, .string t.edit, .string t.check, .slice t.As t.subs.length t.cs, .slice t.Ao t.ops.length t.co] 36
  cases hf : firstRA ⟨⟨#[]⟩, A, c, l⟩ t.name with
  | some x =>
    have hE : reE ⟨⟨#[]⟩, A, c, l⟩ t = 32 := by unfold reE; rw [hf]; rfl
    rw [hE]
    go_enter Try.func29, Try.ntmps29
    go_wp2_with (with_reducible refine (relOf_some (h.up hb0) hf).mono ?_; rintro e w1 ⟨rfl, hb1⟩)
    go_ret
    have hb := bthen hb0 hb0.size hb1
    exact ⟨rfl, hb.alloc hb.size _⟩
  | none =>
    by_cases hd : 16 < t.ops.length
    · have hE : reE ⟨⟨#[]⟩, A, c, l⟩ t = 13 := by unfold reE; rw [hf, if_neg (by decide), if_pos hd]
      rw [hE]
      have hdi : (16 : Int) < (t.ops.length : Nat) := by omega
      go_enter Try.func29, Try.ntmps29
      go_wp2_with (with_reducible refine (relOf_none (h.up hb0) hf).mono ?_; rintro e w1 ⟨rfl, hb1⟩; have hs1 := hs0.below hb1; have l1 := hs1.lt; have y1 := hs1.c6.2.2.2.2.2)
      go_ret
      have hb := bthen hb0 hb0.size hb1
      exact ⟨rfl, hb.alloc hb.size _⟩
    · have hE : reE ⟨⟨#[]⟩, A, c, l⟩ t = 0 := by unfold reE; rw [hf, if_neg (by decide), if_neg hd]
      rw [hE]
      have hdi : ¬ (16 : Int) < (t.ops.length : Nat) := by omega
      go_enter Try.func29, Try.ntmps29
      go_wp2_with (with_reducible refine (relOf_none (h.up hb0) hf).mono ?_; rintro e w1 ⟨rfl, hb1⟩; have hs1 := hs0.below hb1; have l1 := hs1.lt; have y1 := hs1.c6.2.2.2.2.2)
      go_ret
      have hb := bthen hb0 hb0.size hb1
      exact ⟨rfl, hb.alloc hb.size _⟩
end Go.Proofs.Ytpiihfffhjmabaa
