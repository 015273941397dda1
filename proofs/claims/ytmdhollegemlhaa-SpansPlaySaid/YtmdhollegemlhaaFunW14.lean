/- Layer 14: whether a span has ended, holds a revision, is open; whether one of a row holds. Conditions: none. -/
import Derived.Test.YtmdhollegemlhaaMapW14
namespace Go.Proofs.Ytmdhollegemlhaa
open Go.RowKit

def icv (y : Iv) : Value := .agg #[.int .i64 y.1, .int .i64 y.2]
theorem grown_new (w : World) (o : Obj) : w.grownBy (w.alloc o) none := World.grownBy_alloc w o none
theorem _root_.Go.World.grownBy.upto {w w' : World} (h : w.grownBy w' none) : Below w.heap.size w w' := ⟨h.os, h.tape, h.output, h.size, fun k hk => h.block k hk (by simp)⟩

/-! steps of a region that draws, by what an operation is known to run to -/
section
variable {P : Program} {w w' : World} {ops : Array Oper} {o : Oper} {a : Act} {K : Act → World → Prop} {Q : Exit → Act → World → Prop} {E : Prop}
theorem step_append_run (hgd : o.guard = none) (s x : Operand) (t : TypeId) (ho : o.op = .call { callee := .builtin .append, args := #[s, x], argTypes := #[t, t] }) (u y v : Value) (hs : a.eval s = u) (hx : a.eval x = y)
    (hr : (Builtin.append_ #[t, t] o.type #[u, y]).run P w = .ok v w') (h : K (a.put o.dst v) w') : if Region.wanted o (yielded ops a.tmps) = true then Oper.wp P o a w K Q else E := by
  have hw : Region.wanted o (yielded ops a.tmps) = true := by simp [Region.wanted, hgd]
  rw [if_pos hw]
  unfold Oper.wp execOp
  simp only [ho, resolve, invoke, builtin, Sem.run_bind, Sem.run_pure, Result.andThen_ok, List.map_toArray, List.map_cons, List.map_nil, hs, hx, hr]
  exact h
theorem step_update_run (hgd : o.guard = none) (m k x : Operand) (t : TypeId) (ho : o.op = .mapUpdate t m k x) (vm vk vx : Value) (hm : a.eval m = vm) (hk : a.eval k = vk) (hx : a.eval x = vx)
    (hr : (Instr.mapUpdate t vm vk vx).run P w = .ok () w') (h : K (a.put o.dst undef) w') : if Region.wanted o (yielded ops a.tmps) = true then Oper.wp P o a w K Q else E := by
  have hw : Region.wanted o (yielded ops a.tmps) = true := by simp [Region.wanted, hgd]
  rw [if_pos hw]
  unfold Oper.wp
  simp [execOp, ho, hm, hk, hx, hr, Result.andThen]
  exact h
end

set_option maxRecDepth 100000 in
theorem ended_any (f t r : Int) (w : World) : Calls Try.prog 29 #[.agg #[.int .i64 f, .int .i64 t], .int .i64 r] w fun e w' => e = .returned (.bool (!(decide (t = 0) || decide (r < t)))) ∧ w.grownBy w' none := by
  by_cases h0 : t = 0
  · subst h0
    go_enter Try.func29, Try.ntmps29
    go_wp2
    go_ret
    exact ⟨by simp, grown_new _ _⟩
  · have h1 : (t != 0) = true := by simpa using h0
    go_enter Try.func29, Try.ntmps29
    go_wp2
    go_ret
    refine ⟨?_, grown_new _ _⟩
    by_cases h2 : r < t
    · simp [h0, h2]
    · simp [h0, h2]; omega
set_option maxRecDepth 100000 in
theorem holds14_any (f t r : Int) (w : World) : Calls Try.prog 30 #[.agg #[.int .i64 f, .int .i64 t], .int .i64 r] w fun e w' => e = .returned (.bool (decide (f ≤ r) && (decide (t = 0) || decide (r < t)))) ∧ w.grownBy w' none := by
  have ke := ended_any f t r (w.alloc (.cells #[.int .i64 f, .int .i64 t] 64))
  obtain ⟨q, hq⟩ : ∃ q, (decide (t = 0) || decide (r < t)) = q := ⟨_, rfl⟩
  rw [hq] at ke ⊢
  clear hq
  have hn := grown_new w (.cells #[.int .i64 f, .int .i64 t] 64)
  by_cases h0 : f ≤ r
  · go_enter Try.func30, Try.ntmps30
    go_wp2_with (go_at_call 29; refine ke.mono ?_; rintro e w1 ⟨rfl, hg⟩)
    go_ret
    exact ⟨by simp [h0], hn.trans hg⟩
  · go_enter Try.func30, Try.ntmps30
    go_wp2_with fail
    go_ret
    exact ⟨by rw [decide_eq_false (show ¬ f ≤ r by omega), Bool.false_and]; rfl, hn⟩

set_option maxRecDepth 100000 in
theorem isOpen_any {w : World} {B c : Nat} {A : Option Addr} {l : List Iv} (h : Rd w B 2 A l.length c (ics l)) (hl : l.length ≤ 1000000) : Calls Try.prog 26 #[.slice A l.length c] w fun e w' => e = .returned (.bool (openR l)) ∧ w' = w := by
  rcases l.eq_nil_or_concat with rfl | ⟨m, y, rfl⟩
  · clear h
    go_enter Try.func26, Try.ntmps26
    go_wp2
    go_ret
    exact ⟨rfl, rfl⟩
  · simp only [List.concat_eq_append] at *
    rw [openR_snoc]
    obtain ⟨n, hn⟩ : ∃ n, (m ++ [y]).length = n := ⟨_, rfl⟩
    have hn1 : m.length + 1 = n := by rw [← hn]; simp
    obtain ⟨b, o, rfl, _, c0, c1⟩ := rd_iv h (i := m.length) (y := y) (by simp)
    rw [hn] at hl ⊢
    have hm : (n : Int) - 1 = (m.length : Int) := by omega
    have hp : (n : Int) > 0 := by omega
    have hlt : m.length < n := by omega
    obtain ⟨y1, y2⟩ := y
    dsimp only at c0 c1 ⊢
    generalize m.length = j at *
    clear hn1 hn h
    go_enter Try.func26, Try.ntmps26
    go_wp2
    go_ret
    exact ⟨rfl, rfl⟩

def holdsI (y : Iv) (r : Int) : Bool := decide (y.1 ≤ r) && (decide (y.2 = 0) || decide (r < y.2))
theorem holdsI_eq (k : ByteArray) (y : Iv) (r : Int) : holdsP (k, y) r = holdsI y r := rfl
set_option maxRecDepth 100000 in
theorem has1_any {w : World} {Br : Nat} (f t r : Int) (h : w.cell? ⟨Br, 0, none⟩ = some (.int .i64 r)) : Calls Try.prog 33 #[.agg #[.int .i64 f, .int .i64 t], .pointer (some ⟨Br, 0, none⟩)] w fun e w' => e = .returned (.bool (holdsI (f, t) r)) ∧ w.grownBy w' none := by
  have hn := grown_new w (.cells #[.int .i64 f, .int .i64 t] 64)
  have h2 : (w.alloc (.cells #[.int .i64 f, .int .i64 t] 64)).cell? ⟨Br, 0, none⟩ = some (.int .i64 r) := hn.cell h (by simp)
  have kh := holds14_any f t r (w.alloc (.cells #[.int .i64 f, .int .i64 t] 64))
  have hq : holdsI (f, t) r = (decide (f ≤ r) && (decide (t = 0) || decide (r < t))) := rfl
  rw [← hq] at kh
  generalize holdsI (f, t) r = q at *
  clear hq
  go_enter Try.func33, Try.ntmps33
  go_wp2_with (go_at_call 30; refine kh.mono ?_; rintro e w1 ⟨rfl, hg⟩)
  go_ret
  exact ⟨rfl, hn.trans hg⟩

set_option maxRecDepth 100000 in
set_option maxHeartbeats 1000000 in
theorem index_any {w : World} {B c Br : Nat} {A : Option Addr} {l : List Iv} (r : Int) (h : Rd w B 2 A l.length c (ics l)) (hB : B ≤ w.heap.size) (hl : l.length ≤ 1000000) (hr : w.cell? ⟨Br, 0, none⟩ = some (.int .i64 r)) :
    Calls Try.prog 38 #[.slice A l.length c, .func (.func 33) #[] #[.pointer (some ⟨Br, 0, none⟩)]] w fun e w' => ∃ z : Int, e = .returned (.int .i64 z) ∧ decide (0 ≤ z) = (l.any fun y => holdsI y r) ∧ w.grownBy w' none := by
  obtain ⟨q, hq⟩ : ∃ q, (l.any fun y => holdsI y r) = q := ⟨_, rfl⟩
  rw [hq]
  replace hq := Lib.hid hq
  have hkc : ∀ W : World, w.grownBy W none → W.cell? ⟨Br, 0, none⟩ = some (.int .i64 r) := fun W hW => hW.cell hr (by simp)
  have hrd : ∀ W : World, w.grownBy W none → Rd W B 2 A l.length c (ics l) := fun W hW => h.below (hW.upto.mono hB)
  have hen : ∀ args W, (callFunc 33 args).run Try.prog W = .ok (.enter 33 args) W := enters_of Try.func33 (by kernel_rfl) rfl
  clear h hB hr
  go_enter Try.func38, Try.ntmps38
  go_wp2_with fail
  go_loopw [8] (fun vi wx => ∃ i : Nat, vi = .int .i64 i ∧ i ≤ l.length ∧ w.grownBy wx none ∧ Hid (∀ y ∈ l.take i, holdsI y r = false)) (fun vi _ => l.length - (intOf vi).toNat)
  case atStart => exact ⟨0, rfl, Nat.zero_le _, ⟨rfl, rfl, rfl, Nat.le_refl _, fun _ _ _ => rfl⟩, Lib.hid fun y hy => by simp at hy⟩
  case round =>
    obtain ⟨i, rfl, hi, hg, hall⟩ := hrel
    by_cases hil : i < l.length
    · have di : (i : Int) < (l.length : Int) := by omega
      obtain ⟨y, hy⟩ : ∃ y, l[i]? = some y := ⟨_, List.getElem?_eq_getElem hil⟩
      obtain ⟨b, o, rfl, _, c0, c1⟩ := rd_iv (hrd wr hg) hy
      have kh := has1_any y.1 y.2 r (hkc wr hg)
      have hst : ∀ Q, holdsI y r = Q → (Q = true → q = true) ∧ (Q = false → Hid (∀ y ∈ l.take (i + 1), holdsI y r = false)) := fun Q hQ => ⟨fun e => by
        rw [← hq.out, List.any_eq_true]
        exact ⟨y, List.mem_of_getElem? hy, by rw [hQ, e]⟩, fun e => Lib.hid fun z hz => by
        rw [List.take_add_one, hy, Option.toList_some] at hz
        rcases List.mem_append.1 hz with hz | hz
        · exact hall.out z hz
        · rw [List.mem_singleton] at hz
          rw [hz, hQ, e]⟩
      obtain ⟨y1, y2⟩ := y
      dsimp only at c0 c1 kh
      obtain ⟨Q, hQ⟩ : ∃ Q, holdsI (y1, y2) r = Q := ⟨_, rfl⟩
      obtain ⟨h1, h2⟩ := hst Q hQ
      rw [hQ] at kh
      clear hst hQ hy hall hkc hrd
      cases Q with
      | true =>
        have hqt := h1 rfl
        subst hqt
        clear h1 h2 hq
        go_wp2_with (go_at_call 33; refine kh.mono ?_; rintro e w1 ⟨rfl, hg1⟩)
        go_ret
        exact ⟨i, rfl, by simp, hg.trans hg1⟩
      | false =>
        have h3 := h2 rfl
        clear h1 h2
        go_wp2_with (go_at_call 33; refine kh.mono ?_; rintro e w1 ⟨rfl, hg1⟩)
        exact ⟨⟨i + 1, by go_num, by omega, hg.trans hg1, h3⟩, by simp [intOf]; omega⟩
    · obtain rfl : i = l.length := by omega
      have di : ¬ (((l.length : Nat) : Int) < (l.length : Int)) := by omega
      have hqf : q = false := by
        have ha := hall.out
        rw [List.take_length] at ha
        rw [← hq.out, List.any_eq_false]
        exact fun y hy => by rw [ha y hy]; decide
      subst hqf
      clear hq hall
      go_wp2_with fail
      go_ret
      exact ⟨-1, rfl, by decide, hg⟩
set_option maxRecDepth 100000 in
theorem contains_any {w : World} {B c Br : Nat} {A : Option Addr} {l : List Iv} (r : Int) (h : Rd w B 2 A l.length c (ics l)) (hB : B ≤ w.heap.size) (hl : l.length ≤ 1000000) (hr : w.cell? ⟨Br, 0, none⟩ = some (.int .i64 r)) :
    Calls Try.prog 32 #[.slice A l.length c, .func (.func 33) #[] #[.pointer (some ⟨Br, 0, none⟩)]] w fun e w' => e = .returned (.bool (l.any fun y => holdsI y r)) ∧ w.grownBy w' none := by
  have ki := index_any r h hB hl hr
  obtain ⟨q, hq⟩ : ∃ q, (l.any fun y => holdsI y r) = q := ⟨_, rfl⟩
  rw [hq]
  simp only [hq] at ki
  clear hq hr h hl
  generalize l.length = n at *
  go_enter Try.func32, Try.ntmps32
  go_wp2_with (go_at_call 38; refine ki.mono ?_; rintro e w1 ⟨z, rfl, hz, hg⟩)
  go_ret
  exact ⟨by rw [← hz]; rfl, hg⟩
end Go.Proofs.Ytmdhollegemlhaa
