/- Layer 7: a part of a rewrite, read: the calls of its parentheses by a hypothesis. Conditions: none. -/
import Derived.Test.YtinfbimfiaegdaaParts
namespace Go.Proofs.Ytinfbimfiaegdaa
open Go.RowKit

theorem andT_assoc {α β γ : Type} (r : Rs α) (k : α → List Tk → Rs β) (k2 : β → List Tk → Rs γ) : andT (andT r k) k2 = andT r fun a l => andT (k a l) k2 := by
  cases r with
  | error e => rfl
  | ok a => rfl
theorem ask_this : Ask sThis := ask_key rfl (by decide)
theorem own_ops1 (w : World) (k : Nat) (a b : ByteArray) (B : Nat) (hB : B ≤ w.heap.size) : VOps B (w.alloc (.cells #[.int .i64 k, .string a, .string b] 67)) (.slice (some ⟨w.heap.size, 0, none⟩) 1 1) [(k, a, b)] :=
  own_lit w #[.int .i64 k, .string a, .string b] 67 1 3 B rfl (by decide) hB
/-- What a rewrite's call does, up to a number of tokens. -/
def RewUpto (N : Nat) : Prop := ∀ (d : Nat) (l : List Tk) (w : World) (g : Nat), l.length ≤ N → d ≤ 8 → Rdr w g l →
  Calls Try.prog 94 #[.pointer (some ⟨g, 0, none⟩), .int .i64 d] w (Post (VOps w.heap.size) w.heap.size w g (rewT d l))
def PartUpto (N : Nat) : Prop := ∀ (d : Nat) (l : List Tk) (w : World) (g : Nat), l.length ≤ N → d ≤ 8 → Rdr w g l →
  Calls Try.prog 100 #[.pointer (some ⟨g, 0, none⟩), .int .i64 d] w (Post (VOps w.heap.size) w.heap.size w g (partT d l))
def innerT (d p : Nat) (l : List Tk) : Rs (List OpP) := if d = 8 then .error (13, p) else andT (rewT (d + 1) l) fun o r => andT (needT (sg 41) r) fun _ r => .ok (o, r)

section
variable {w : World} {g : Nat} {l : List Tk}
set_option maxRecDepth 100000 in
theorem inner_any {N d p : Nat} (H : RewUpto N) (hN : l.length ≤ N) (hd : d ≤ 8) (h : Rdr w g l) :
    Calls Try.prog 104 #[.pointer (some ⟨g, 0, none⟩), .int .i64 d, .int .i64 p] w (Post (VOps w.heap.size) w.heap.size w g (innerT d p l)) := by
  suffices HH : ∀ R, To (Post (VOps w.heap.size) w.heap.size w g (innerT d p l)) R → Calls Try.prog 104 #[.pointer (some ⟨g, 0, none⟩), .int .i64 d, .int .i64 p] w R from HH _ fun _ _ h => h
  intro R HP
  have hg := h.size
  unfold innerT at HP
  by_cases h8 : d = 8
  · subst h8
    rw [if_pos rfl] at HP
    go_enter Try.func104, Try.ntmps104
    go_wp2_with fail
    exact ⟨rfl, HP.fail rfl (Kp.refl _ _ _)⟩
  · rw [if_neg h8] at HP
    have hd8 : ¬ ((8 : Int) ≤ (d : Int)) := by omega
    have kr := H (d + 1) l w g hN (by omega) h
    have hcast : (((d + 1 : Nat)) : Int) = (d : Int) + 1 := by omega
    rw [hcast] at kr
    go_enter Try.func104, Try.ntmps104
    go_wp2_with fail
    refine kr.mono ?_
    intro e w1 hp
    obtain ⟨hk, hc⟩ := hp.cases_
    clear hp kr h
    rcases hc with ⟨c, p, hr, rfl⟩ | ⟨o, l1, v, hr, rfl, hv, h1⟩
    · go_wp2_with fail
      exact ⟨rfl, HP.bad hr hk⟩
    replace HP := HP.bind hr
    clear hr
    go_wp2_with fail
    refine (must_any h1 (ask_sg 41 (by decide))).mono ?_
    intro e w2 hp
    obtain ⟨hk2, hc⟩ := hp.cases_
    have k2 := hk.trans (hk2.more hk.size)
    have hv2 := own_kp hv hk2 hg
    clear hp hk hk2 hv h1
    rcases hc with ⟨c, p, hr, rfl⟩ | ⟨o2, l2, v2, hr, rfl, rfl, h2⟩
    · go_wp2_with fail
      exact ⟨rfl, HP.bad hr k2⟩
    replace HP := HP.bind hr
    go_wp2_with fail
    exact HP.ret rfl k2 hv2 h2
theorem partT_in {d : Nat} {l : List Tk} (h1 : isT sThis l = false) (h2 : isT (sg 40) l = true) : partT d l = innerT d (hdT l).2.2 l.tail := by
  rw [partT_eq, h1, h2, if_neg (by decide), if_pos rfl]
  unfold innerT rewT
  by_cases h8 : d = 8
  · rw [if_pos h8, if_pos h8]; rfl
  · rw [if_neg h8, if_neg h8, andT_assoc]
theorem partT_name {d : Nat} {l : List Tk} (h1 : isT sThis l = false) (h2 : isT (sg 40) l = false) : partT d l = andT (nameT l) fun n r => if isT (sg 46) r = true then andT (nameT r.tail) fun m r => .ok ([(3, n, m)], r) else .ok ([(2, n, ⟨#[]⟩)], r) := by
  rw [partT_eq, h1, h2, if_neg (by decide), if_neg (by decide)]
theorem partT_this {d : Nat} {l : List Tk} (h1 : isT sThis l = true) : partT d l = .ok ([(1, ⟨#[]⟩, ⟨#[]⟩)], l.tail) := by
  rw [partT_eq, h1, if_pos rfl]
set_option maxRecDepth 100000 in
set_option maxHeartbeats 1000000 in
theorem part_upto {N : Nat} (H : RewUpto (N - 1)) : PartUpto N := by
  intro d l w g hN hd h
  suffices HH : ∀ R, To (Post (VOps w.heap.size) w.heap.size w g (partT d l)) R → Calls Try.prog 100 #[.pointer (some ⟨g, 0, none⟩), .int .i64 d] w R from HH _ fun _ _ h => h
  intro R HP
  have hg := h.size
  have km := may_any h ask_this
  have htl : l.tail.length = l.length - 1 := List.length_tail
  cases hi : isT sThis l with
  | true =>
    rw [partT_this hi] at HP
    rw [hi, if_pos rfl] at km
    go_enter Try.func100, Try.ntmps100
    go_wp2_with fail
    refine km.mono ?_
    rintro e w1 ⟨rfl, h1, hk⟩
    go_wp2_with fail
    exact HP.ret rfl (hk.alloc hk.size _) (own_ops1 _ _ _ _ _ hk.size) (h1.alloc _)
  | false =>
    rw [hi, if_neg (by decide)] at km
    go_enter Try.func100, Try.ntmps100
    go_wp2_with fail
    refine km.mono ?_
    rintro e w1 ⟨rfl, h1, k1⟩
    have f2 := tok_f2
    go_wp2_with fail
    refine (first_any h1).mono ?_
    rintro e w2 ⟨rfl, hb⟩
    have h2 := h1.below hb
    have k2 := k1.trans ((Kp.of_below hb g).more k1.size)
    clear hb h1 k1 km
    have km := may_any h2 (ask_sg 40 (by decide))
    cases hj : isT (sg 40) l with
    | true =>
      rw [partT_in hi hj] at HP
      rw [hj, if_pos rfl] at km
      go_wp2_with fail
      refine km.mono ?_
      rintro e w3 ⟨rfl, h3, hk⟩
      have k3 := k2.trans (hk.more k2.size)
      clear hk k2 km
      go_wp2_with fail
      refine (inner_any (p := (hdT l).2.2) H (by omega) hd h3).mono ?_
      intro e w4 hp
      obtain ⟨hk, hc⟩ := hp.cases_
      have k4 := k3.trans (hk.more k3.size)
      clear hp hk 
      rcases hc with ⟨c, p, hr, rfl⟩ | ⟨o, l1, v, hr, rfl, hv, h4⟩
      · go_wp2_with fail
        exact ⟨rfl, HP.fail hr k4⟩
      go_wp2_with fail
      exact HP.ret hr k4 (own_base hv k3.size) h4
    | false =>
      rw [partT_name hi hj] at HP
      rw [hj, if_neg (by decide)] at km
      go_wp2_with fail
      refine km.mono ?_
      rintro e w3 ⟨rfl, h3, hk⟩
      have k3 := k2.trans (hk.more k2.size)
      clear hk k2 km h2
      go_wp2_with fail
      refine (rname_any h3).mono ?_
      intro e w4 hp
      obtain ⟨hk, hc⟩ := hp.cases_
      have k4 := k3.trans (hk.more k3.size)
      clear hp hk k3
      rcases hc with ⟨c, p, hr, rfl⟩ | ⟨n, l4, v, hr, rfl, rfl, h4⟩
      · go_wp2_with fail
        exact ⟨rfl, HP.bad hr k4⟩
      replace HP := HP.bind hr
      clear hr
      have km := may_any h4 (ask_sg 46 (by decide))
      cases hq : isT (sg 46) l4 with
      | false =>
        rw [hq, if_neg (by decide)] at HP
        rw [hq, if_neg (by decide)] at km
        go_wp2_with fail
        refine km.mono ?_
        rintro e w5 ⟨rfl, h5, hk⟩
        have k5 := k4.trans (hk.more k4.size)
        clear hk k4 km
        go_wp2_with fail
        exact HP.ret rfl (k5.alloc k5.size _) (own_ops1 _ _ _ _ _ k5.size) (h5.alloc _)
      | true =>
        rw [hq, if_pos rfl] at HP
        rw [hq, if_pos rfl] at km
        go_wp2_with fail
        refine km.mono ?_
        rintro e w5 ⟨rfl, h5, hk⟩
        have k5 := k4.trans (hk.more k4.size)
        clear hk k4 km
        go_wp2_with fail
        refine (rname_any h5).mono ?_
        intro e w6 hp
        obtain ⟨hk, hc⟩ := hp.cases_
        have k6 := k5.trans (hk.more k5.size)
        clear hp hk k5
        rcases hc with ⟨c, p, hr, rfl⟩ | ⟨m, l6, v, hr, rfl, rfl, h6⟩
        · go_wp2_with fail
          exact ⟨rfl, HP.bad hr k6⟩
        replace HP := HP.bind hr
        clear hr
        go_wp2_with fail
        exact HP.ret rfl (k6.alloc k6.size _) (own_ops1 _ _ _ _ _ k6.size) (h6.alloc _)
end
end Go.Proofs.Ytinfbimfiaegdaa
