/- Layer 4: what memory holds of a log; Size and Room, called. Conditions: none but for sizes of up to a million. -/
import Derived.Test.YtgppaompcnllbaaKit
import Derived.Test.YtgppaompcnllbaaPlan
import Derived.Test.YtgppaompcnllbaaOpen
import Derived.Deep.QuietTactic
import Derived.BigQuiet
namespace Go.Proofs.Ytgppaompcnllbaa
open Go.RowKit

/-- A log: where the next head is to be, the first sector behind, the epoch, the records. -/
structure LSt where
  next : Nat
  to : Nat
  epoch : Nat
  recs : List (List UInt8)
structure LSt.Ok (t : LSt) : Prop where
  le : t.next ≤ t.to
  most : t.to ≤ 65536
  epoch : t.epoch < 2 ^ 64
  few : t.recs.length ≤ t.next
  sz : ∀ r ∈ t.recs, r.length ≤ 4096
/-- Block g is a log of the disk b in state t; its row of records is rv. -/
structure LgAt (L : Nat → Prop) (w : World) (g b : Nat) (t : LSt) (rv : Value) (rows : List Rw) : Prop where
  ok : t.Ok
  size : ∀ k, L k → k < w.heap.size
  hg : L g
  hr : ∀ q, rv.ownBlock = some q → L q
  rg : rv.ownBlock ≠ some g
  cells : w.heap[g]? = some (.cells #[.pointer (some ⟨b, 0, none⟩), .int .i64 t.next, .int .i64 t.to, .int .u64 t.epoch, rv] 71 (0, 0))
  row : w.ownsRow 0 36 1 rv t.recs.length (rows.map rwCell)
  recs : rows.map Rw.b = t.recs
  rd : ∀ r ∈ rows, Rd w w.heap.size 1 r.A r.b.length r.c (bv r.b)
  in_ : ∀ r ∈ rows, 0 < r.b.length → ∀ q o, r.A = some ⟨q, o, none⟩ → L q ∧ q ≠ g ∧ rv.ownBlock ≠ some q
def Lg (L : Nat → Prop) (w : World) (g b : Nat) (t : LSt) : Prop := ∃ rv rows, LgAt L w g b t rv rows
section
variable {L M : Nat → Prop} {w w' : World} {g b : Nat} {t : LSt} {rv : Value} {rows : List Rw}
theorem LgAt.out (h : LgAt L w g b t rv rows) : Lg L w g b t := ⟨rv, rows, h⟩
theorem Lg.ok (h : Lg L w g b t) : t.Ok := by obtain ⟨_, _, h⟩ := h; exact h.ok
theorem Lg.size (h : Lg L w g b t) : ∀ k, L k → k < w.heap.size := by obtain ⟨_, _, h⟩ := h; exact h.size
theorem Lg.hg (h : Lg L w g b t) : L g := by obtain ⟨_, _, h⟩ := h; exact h.hg
theorem rd_same {w w' : World} {n c : Nat} {A : Option Addr} {xs : List Value} (h : Rd w w.heap.size 1 A n c xs) (hs : w.heap.size ≤ w'.heap.size) (hk : 0 < n → ∀ q o, A = some ⟨q, o, none⟩ → w'.heap[q]? = w.heap[q]?) : Rd w' w'.heap.size 1 A n c xs :=
  ⟨h.len, h.cap, h.capm, h.nil, fun hn => by
    obtain ⟨q, o, e, hb, hc⟩ := h.at_ hn
    exact ⟨q, o, e, Nat.lt_of_lt_of_le hb hs, fun j u hj => (World.cell?_of_block (a := ⟨q, _, none⟩) (hk hn q o e)).trans (hc j u hj)⟩⟩
theorem LgAt.same (h : LgAt L w g b t rv rows) (hs : w.heap.size ≤ w'.heap.size) (hk : ∀ k, L k → w'.heap[k]? = w.heap[k]?) : LgAt L w' g b t rv rows :=
  ⟨h.ok, fun k e => Nat.lt_of_lt_of_le (h.size k e) hs, h.hg, h.hr, h.rg, (hk g h.hg).trans h.cells, own_same h.row fun q e => hk q (h.hr q e), h.recs,
    fun r hr => rd_same (h.rd r hr) hs fun hn q o e => hk q (h.in_ r hr hn q o e).1, h.in_⟩
theorem LgAt.wide (h : LgAt L w g b t rv rows) (hS : ∀ k, L k → M k) (hT : ∀ k, M k → k < w.heap.size) : LgAt M w g b t rv rows :=
  ⟨h.ok, hT, hS _ h.hg, fun q e => hS _ (h.hr q e), h.rg, h.cells, h.row, h.recs, h.rd, fun r hr hn q o e => ⟨hS _ (h.in_ r hr hn q o e).1, (h.in_ r hr hn q o e).2⟩⟩
theorem Lg.same (h : Lg L w g b t) (hs : w.heap.size ≤ w'.heap.size) (hk : ∀ k, L k → w'.heap[k]? = w.heap[k]?) : Lg L w' g b t := by
  obtain ⟨_, _, h⟩ := h; exact (h.same hs hk).out
theorem Lg.wide (h : Lg L w g b t) (hS : ∀ k, L k → M k) (hT : ∀ k, M k → k < w.heap.size) : Lg M w g b t := by
  obtain ⟨_, _, h⟩ := h; exact (h.wide hS hT).out
theorem Lg.below (h : Lg L w g b t) (hb : Below w.heap.size w w') : Lg L w' g b t := h.same hb.size fun k hk => hb.block k (h.size k hk)
theorem Lg.keep (h : Lg L w g b t) (hb : Ks M w w') (ha : ∀ k, L k → ¬ M k) : Lg L w' g b t := h.same hb.size fun k hk => hb.block k (h.size k hk) (ha k hk)
theorem Lg.alloc (h : Lg L w g b t) (o : Obj) : Lg L (w.alloc o) g b t := h.below ((Below.refl _ _).alloc (Nat.le_refl _) o)
theorem Lg.drew (h : Lg L w g b t) : Lg L w.drew g b t := h.same (Nat.le_refl _) fun _ _ => rfl
theorem Lg.drewN (h : Lg L w g b t) (n : Nat) : Lg L (w.drewN n) g b t := h.below (below_drewN (Below.refl _ _) n)
theorem LgAt.c0 (h : LgAt L w g b t rv rows) : w.cell? ⟨g, 0, none⟩ = some (.pointer (some ⟨b, 0, none⟩)) := by rw [cell_of_row _ _ _ _ _ _ h.cells]; rfl
theorem LgAt.c1 (h : LgAt L w g b t rv rows) : w.cell? ⟨g, 1, none⟩ = some (.int .i64 t.next) := by rw [cell_of_row _ _ _ _ _ _ h.cells]; rfl
theorem LgAt.c2 (h : LgAt L w g b t rv rows) : w.cell? ⟨g, 2, none⟩ = some (.int .i64 t.to) := by rw [cell_of_row _ _ _ _ _ _ h.cells]; rfl
theorem LgAt.c3 (h : LgAt L w g b t rv rows) : w.cell? ⟨g, 3, none⟩ = some (.int .u64 t.epoch) := by rw [cell_of_row _ _ _ _ _ _ h.cells]; rfl
theorem LgAt.c4 (h : LgAt L w g b t rv rows) : w.cell? ⟨g, 4, none⟩ = some rv := by rw [cell_of_row _ _ _ _ _ _ h.cells]; rfl
theorem LgAt.fz (h : LgAt L w g b t rv rows) (i : Nat) : w.frozen? ⟨g, i, none⟩ = false := frozen_of_row _ _ _ _ _ h.cells
end

theorem szN_gt {n : Nat} (h : 0 < (n : Int) % 63) : ((1 + (n : Int) / 63 + 1 : Int)) = (szN n : Int) := by unfold szN pn; omega
theorem szN_eq {n : Nat} (h : ¬ 0 < (n : Int) % 63) : ((1 + (n : Int) / 63 : Int)) = (szN n : Int) := by unfold szN pn; omega
set_option maxRecDepth 100000 in
set_option maxHeartbeats 400000 in
theorem size_any (w : World) (n : Nat) (hn : n ≤ 1000000) : Calls Try.prog 18 #[.int .i64 n] w fun e w' => e = .returned (.int .i64 (szN n)) ∧ w' = w := by
  have hz : (n : Int) ≤ 1000000 := by omega
  go_enter Try.func18, Try.ntmps18
  by_cases h : 0 < (n : Int) % 63
  · have e := Lib.hid (szN_gt h)
    go_wp2
    go_ret
    rw [e.out]
    exact ⟨rfl, rfl⟩
  · have e := Lib.hid (szN_eq h)
    go_wp2
    go_ret
    rw [e.out]
    exact ⟨rfl, rfl⟩
set_option maxRecDepth 100000 in
set_option maxHeartbeats 400000 in
theorem size_neg (w : World) : Calls Try.prog 18 #[.int .i64 (-1)] w fun e w' => e = .returned (.int .i64 1) ∧ w' = w := by
  go_enter Try.func18, Try.ntmps18
  go_wp2
  go_ret
  exact ⟨rfl, rfl⟩
theorem room_nil (w : World) : Calls Try.prog 17 #[.pointer none] w fun e w' => e = .returned (.int .i64 0) ∧ w' = w := by
  go_enter Try.func17, Try.ntmps17
  go_wp2
  go_ret
  exact ⟨rfl, rfl⟩
set_option maxRecDepth 100000 in
set_option maxHeartbeats 400000 in
theorem room_q {L : Nat → Prop} {w : World} {g b : Nat} {t : LSt} (h : Lg L w g b t) : Calls Try.prog 17 #[.pointer (some ⟨g, 0, none⟩)] w fun e w' => e = .returned (.int .i64 (t.to - t.next : Nat)) ∧ ∃ n, w' = w.drewN n := by
  obtain ⟨rv, rows, h⟩ := h
  have c1 := h.c1
  have c2 := h.c2
  have h1 := h.ok.le
  have h2 := h.ok.most
  have e : ((t.to : Int) - (t.next : Int)) = ((t.to - t.next : Nat) : Int) := by omega
  go_enter Try.func17, Try.ntmps17
  go_wp2
  go_quiet (fail)
  go_wp2
  go_ret
  exact ⟨rfl, _, rfl⟩
theorem room_any {L : Nat → Prop} {w : World} {g b : Nat} {t : LSt} (h : Lg L w g b t) : Calls Try.prog 17 #[.pointer (some ⟨g, 0, none⟩)] w fun e w' => e = .returned (.int .i64 (t.to - t.next : Nat)) ∧ Below w.heap.size w w' :=
  (room_q h).mono fun _ _ ⟨he, n, hw⟩ => ⟨he, by rw [hw]; exact below_drewN (Below.refl _ _) n⟩
end Go.Proofs.Ytgppaompcnllbaa
