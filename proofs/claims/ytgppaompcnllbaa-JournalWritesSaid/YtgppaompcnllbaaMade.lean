/- Layer 3: New; a slice's clone (of sectors, of bytes); Read. Conditions: none. -/
import Derived.Test.YtgppaompcnllbaaDisk
namespace Go.Proofs.Ytgppaompcnllbaa
open Go.RowKit

theorem info_sector : (Try.prog.info? 75).map (fun i => (i.zero, i.size, i.bytes)) = some (some (.agg (Array.replicate 64 (.int .u8 0))), 64, 64) := by kernel_rfl
theorem info_write : (Try.prog.info? 77).map (fun i => (i.zero, i.size, i.bytes)) = some (some (.agg (#[.int .i64 0] ++ Array.replicate 64 (.int .u8 0))), 65, 72) := by kernel_rfl
theorem info_u8 : (Try.prog.info? 5).map (fun i => (i.zero, i.size, i.bytes)) = some (some (.int .u8 0), 1, 1) := by kernel_rfl

theorem own_empty (w : World) (t : TypeId) (size : Nat) : (w.alloc (.cells #[] t)).ownsRow w.heap.size t size (.slice (some ⟨w.heap.size, 0, none⟩) 0 0) 0 [] :=
  World.ownsRow_made w #[] 0 (Nat.le_refl _) (by simp [maxLen]) (by simp)

set_option maxHeartbeats 1000000 in
theorem clone_bytes (w : World) {B n c : Nat} {A : Option Addr} {l : List UInt8} (hB : B ≤ w.heap.size) (hr : Rd w B 1 A n c (bv l)) (hA : A ≠ none) (hl : n ≤ 100000000) :
    Calls Try.prog 34 #[.slice A n c] w fun e w' => ∃ v, e = .returned v ∧ w'.ownsRow w.heap.size 5 1 v n (bv l) ∧ Below w.heap.size w w' := by
  obtain ⟨i0, hi, hz0, hz1, hz2⟩ := info_parts info_u8
  obtain ⟨a, rfl⟩ : ∃ a, A = some a := by cases A with | none => exact absurd rfl hA | some a => exact ⟨a, rfl⟩
  have hcm := hr.capm
  have hcp := hr.cap
  have hnil := fun (w : World) => Lib.run_eql_slice_nil (P := Try.prog) w 36 5 (some a) n c 0 0 Try.underlying36
  go_enter Try.func34, Try.ntmps34
  go_wp2_with (at_builtin; go_must (refine wpList_append_src _ rfl (.tmp 5) (.tmp 6) 36 36 rfl w.heap.size 5 i0 (.int .u8 0) 1 1 Try.underlying36 hi hz0 hz1 hz2 rfl (by decide) (.slice (some ⟨w.heap.size, 0, none⟩) 0 0) 0 [] rfl (own_empty w _ _) _ n (bv l) rfl (Rd.src Try.underlying36 (hr.alloc hB _) (bv_one l)) (by simp only [maxLen]; omega) (by omega) (by simp) ?_); intro v1 w1 hown1 hg1 hat1)
  go_ret
  exact ⟨v1, rfl, by simpa using hown1, below_of_own ((Below.refl _ _).alloc (Nat.le_refl _) _) hg1 (own_empty w _ 1) (by simp) (Nat.le_refl _)⟩

set_option maxHeartbeats 1000000 in
theorem clone_rows (w : World) {B n c : Nat} {A : Option Addr} {xs : List Value} (hB : B ≤ w.heap.size) (hr : Rd w B 64 A n c xs) (hA : A ≠ none) (hx : ∀ u ∈ xs, u.oneCell' = true) (hl : n ≤ 100000) :
    Calls Try.prog 40 #[.slice A n c] w fun e w' => ∃ v, e = .returned v ∧ w'.ownsRow w.heap.size 75 64 v n xs ∧ Below w.heap.size w w' := by
  obtain ⟨i0, hi, hz0, hz1, hz2⟩ := info_parts info_sector
  obtain ⟨a, rfl⟩ : ∃ a, A = some a := by cases A with | none => exact absurd rfl hA | some a => exact ⟨a, rfl⟩
  have hcm := hr.capm
  have hcp := hr.cap
  have hnil := fun (w : World) => Lib.run_eql_slice_nil (P := Try.prog) w 58 75 (some a) n c 0 0 Try.underlying58
  go_enter Try.func40, Try.ntmps40
  go_wp2_with (at_builtin; go_must (refine wpList_append_src _ rfl (.tmp 5) (.tmp 6) 58 58 rfl w.heap.size 75 i0 (.agg (Array.replicate 64 (.int .u8 0))) 64 64 Try.underlying58 hi hz0 hz1 hz2 rfl (by decide) (.slice (some ⟨w.heap.size, 0, none⟩) 0 0) 0 [] rfl (own_empty w _ _) _ n xs rfl (Rd.src Try.underlying58 (hr.alloc hB _) hx) (by simp only [maxLen]; omega) (by omega) (by simp) ?_); intro v1 w1 hown1 hg1 hat1)
  go_ret
  exact ⟨v1, rfl, by simpa using hown1, below_of_own ((Below.refl _ _).alloc (Nat.le_refl _) _) hg1 (own_empty w _ 64) (by simp) (Nat.le_refl _)⟩

theorem made_zero (n : Nat) : (madeCells (Array.replicate 64 (.int .u8 0)) (n * 64)).toList = scells (St.fresh n).kept := by
  have e : scells (St.fresh n).kept = List.replicate (n * 64) (.int .u8 0) := by
    simp only [scells, St.fresh, bv, List.flatten_replicate_replicate, List.map_replicate]
    rfl
  rw [e]
  apply List.ext_getElem
  · simp [madeCells]
  · intro i h1 h2
    simp [madeCells]
    rw [Array.getElem!_eq_getD, Array.getD]
    have : i % 64 < 64 := Nat.mod_lt _ (by omega)
    simp [this]
theorem fresh_dk (w : World) (n : Nat) (h1 : 1 ≤ n) (h2 : n ≤ 65536) (M : Array Value) (hM : madeCells (Array.replicate 64 (.int .u8 0)) (n * 64) = M) (x y : Nat) (hx : x = w.heap.size ∨ x = w.heap.size + 1) (hy : y = w.heap.size ∨ y = w.heap.size + 1) (hxy : x ≠ y) :
    Dk w.heap.size (((w.alloc (.cells M 75)).alloc (.cells M 75)).alloc (.cells #[.slice (some ⟨x, 0, none⟩) n n, .slice (some ⟨y, 0, none⟩) n n, .slice none 0 0, .int .i64 0, .bool false] 61)).drew.heap.size
      (((w.alloc (.cells M 75)).alloc (.cells M 75)).alloc (.cells #[.slice (some ⟨x, 0, none⟩) n n, .slice (some ⟨y, 0, none⟩) n n, .slice none 0 0, .int .i64 0, .bool false] 61)).drew (w.heap.size + 1 + 1) (St.fresh n) := by
  have hok := St.Ok.fresh (n := n) (by omega) h2
  have hlen : (St.fresh n).kept.length = n := by simp [St.fresh]
  have hMs : M.size = n * 64 := by rw [← hM]; exact size_madeCells _ _
  have hMl : M.toList = scells (St.fresh n).kept := by rw [← hM]; exact made_zero n
  have hrow : ∀ k, (k = w.heap.size ∨ k = w.heap.size + 1) → ∀ o, (((w.alloc (.cells M 75)).alloc (.cells M 75)).alloc o).ownsRow 0 75 64 (.slice (some ⟨k, 0, none⟩) n n) n (scells (St.fresh n).kept) := by
    intro k hk o
    refine ⟨by rw [scells_length hok.sec, hlen], .inr ⟨k, n, M, rfl, by omega, ?_, Nat.le_refl _, by simp only [maxLen]; omega, hMs, by rw [← hMl]; exact List.take_of_length_le (by simp [hMs])⟩⟩
    rw [heap_alloc_old _ _ (by simp; omega)]
    rcases hk with rfl | rfl
    · exact heap_alloc2_old _ _ _
    · exact heap_alloc2_new _ _ _
  refine ⟨⟨x, n, y, n, .slice none 0 0, ?_⟩, Nat.le_refl _⟩
  refine ⟨hok, fun k e => e.2, ⟨by omega, by simp [World.drew]⟩, ⟨by omega, by simp; omega⟩, ⟨by omega, by simp; omega⟩, fun g e => (by cases e), by omega, by omega, hxy, by simp [Value.ownBlock], by simp [Value.ownBlock], by simp [Value.ownBlock], ?_, ?_, ?_, World.ownsRow_nil _ _ _ _⟩
  · rw [hlen]
    have := heap_alloc_new ((w.alloc (.cells M 75)).alloc (.cells M 75)) (.cells #[.slice (some ⟨x, 0, none⟩) n n, .slice (some ⟨y, 0, none⟩) n n, .slice none 0 0, .int .i64 0, .bool false] 61)
    simp only [World.size_alloc] at this
    exact this
  · rw [hlen]; exact hrow x hx _
  · rw [hlen]; exact hrow y hy _

set_option maxRecDepth 100000 in
set_option maxHeartbeats 1000000 in
theorem new_any (w : World) (n : Nat) (h1 : 1 ≤ n) (h2 : n ≤ 65536) : Calls Try.prog 10 #[.int .i64 n] w fun e w' => ∃ b, e = .returned (.tuple #[.pointer (some ⟨b, 0, none⟩), .int .i64 0]) ∧ Dk w.heap.size w'.heap.size w' b (St.fresh n) ∧ Below w.heap.size w w' := by
  go_enter Try.func10, Try.ntmps10
  obtain ⟨i0, hi, hz0, hz1, hz2⟩ := info_parts info_sector
  have hmk : ∀ W : World, (Instr.makeSlice 58 (.int .i64 (n : Int)) (.int .i64 (n : Int))).run Try.prog W = .ok (.slice (some ⟨W.heap.size, 0, none⟩) n n) (W.alloc (.cells (madeCells (Array.replicate 64 (.int .u8 0)) (n * 64)) 75)) := fun W => by
    have := run_make (P := Try.prog) W 58 75 i0 _ Try.underlying58 hi hz0 .i64 .i64 n n (by omega) (Int.le_refl _) (by rw [hz2]; omega) (by omega)
    rw [Int.toNat_natCast, hz1] at this
    exact this
  generalize hM : madeCells (Array.replicate 64 (.int .u8 0)) (n * 64) = M at hmk
  go_wp2
  go_region
  all_goals go_wp2
  all_goals go_ret2
  all_goals refine ⟨_, rfl, fresh_dk w n h1 h2 M hM _ _ (by omega) (by omega) (by omega), ?_⟩
  all_goals exact (((((Below.refl _ _).alloc (Nat.le_refl _) _).alloc (by simp) _).alloc (by simp; omega) _)).drew

/-- A sector that is there is told in new memory. -/
def St.sect (s : St) (i : Int) : Sec := s.now[i.toNat]?.getD []
theorem St.sect_get {s : St} {i : Int} (h : s.has i = true) : s.now[i.toNat]? = some (s.sect i) := by
  have h' := St.has_iff.1 h
  have : i.toNat < s.now.length := by rw [St.nowLen]; omega
  rw [St.sect, List.getElem?_eq_getElem this]; rfl
theorem St.sect_len {s : St} (hok : s.Ok) {i : Int} (h : s.has i = true) : (s.sect i).length = 64 := hok.nowSec _ (List.mem_of_getElem? (St.sect_get h))
set_option maxHeartbeats 1000000 in
theorem read_s {S : Nat → Prop} {w : World} {b : Nat} {s : St} (h : Ds S w b s) (i : Int) (hi1 : s.has i = true) (hd : s.dead = false) :
    Calls Try.prog 30 #[.pointer (some ⟨b, 0, none⟩), .int .i64 i] w fun e w' => ∃ v, e = .returned (.tuple #[v, .int .i64 0]) ∧ w'.ownsRow w.heap.size 5 1 v 64 (bv (s.sect i)) ∧ Below w.heap.size w w' := by
  have kh := has_s h i
  rw [hi1] at kh
  have h' := St.has_iff.1 hi1
  have hg := St.sect_get hi1
  obtain ⟨k, rfl⟩ : ∃ k : Nat, i = (k : Int) := ⟨i.toNat, by omega⟩
  have hkl : k < s.kept.length := by omega
  obtain ⟨kb, ck, nb, cn, wv, h⟩ := h
  have hl := St.sect_len h.ok hi1
  have hms := h.ok.most
  have c4 := h.c4
  have c1 := h.c1
  rw [hd] at c4
  have hrow : Rd w w.heap.size 1 (some ⟨nb, k * 64, none⟩) 64 64 (bv (s.sect (k : Int))) := by
    refine Rd.of_cells (by rw [bv_length, hl]) (by omega) (Nat.le_refl _) (by simp [maxLen]) h.ns fun j u hj => ?_
    have hj64 : j < 64 := by have := (List.getElem?_eq_some_iff.1 hj).1; rw [bv_length, hl] at this; exact this
    rw [Addr.add_mid, h.now.cellAt _ (by omega), scells_at h.ok.nowSec (by simpa using hg) hj64]
    exact hj
  have kc := clone_bytes w (Nat.le_refl _) hrow (by simp) (by omega)
  go_enter Try.func30, Try.ntmps30
  go_wp2_with (first
    | ((with_reducible refine kh.mono ?_); rintro e w1 ⟨rfl, rfl⟩)
    | ((with_reducible refine kc.mono ?_); rintro e w2 ⟨v2, rfl, ho2, hb2⟩))
  go_ret2
  exact ⟨v2, rfl, ho2, hb2⟩
theorem read_bad_s {S : Nat → Prop} {w : World} {b : Nat} {s : St} (h : Ds S w b s) (i : Int) (hi1 : s.has i = false) :
    Calls Try.prog 30 #[.pointer (some ⟨b, 0, none⟩), .int .i64 i] w fun e w' => e = .returned (.tuple #[.slice none 0 0, .int .i64 1]) ∧ w' = w := by
  have kh := has_s h i
  rw [hi1] at kh
  go_enter Try.func30, Try.ntmps30
  go_wp2_with ((with_reducible refine kh.mono ?_); rintro e w1 ⟨rfl, rfl⟩)
  go_ret2
  exact ⟨rfl, rfl⟩
theorem read_dead_s {S : Nat → Prop} {w : World} {b : Nat} {s : St} (h : Ds S w b s) (i : Int) (hi1 : s.has i = true) (hd : s.dead = true) :
    Calls Try.prog 30 #[.pointer (some ⟨b, 0, none⟩), .int .i64 i] w fun e w' => e = .returned (.tuple #[.slice none 0 0, .int .i64 20]) ∧ w' = w := by
  have kh := has_s h i
  rw [hi1] at kh
  obtain ⟨kb, ck, nb, cn, wv, h⟩ := h
  have c4 := h.c4
  rw [hd] at c4
  go_enter Try.func30, Try.ntmps30
  go_wp2_with ((with_reducible refine kh.mono ?_); rintro e w1 ⟨rfl, rfl⟩)
  go_ret2
  exact ⟨rfl, rfl⟩
theorem read_nil (w : World) (i : Int) :
    Calls Try.prog 30 #[.pointer none, .int .i64 i] w fun e w' => e = .returned (.tuple #[.slice none 0 0, .int .i64 1]) ∧ w' = w := by
  go_enter Try.func30, Try.ntmps30
  go_wp2_with ((with_reducible refine (has_nil _ _).mono ?_); rintro e w1 ⟨rfl, rfl⟩)
  go_ret2
  exact ⟨rfl, rfl⟩
theorem read_any {lo hi : Nat} {w : World} {b : Nat} {s : St} (h : Dk lo hi w b s) (i : Int) (hi1 : s.has i = true) (hd : s.dead = false) :
    Calls Try.prog 30 #[.pointer (some ⟨b, 0, none⟩), .int .i64 i] w fun e w' => ∃ v, e = .returned (.tuple #[v, .int .i64 0]) ∧ w'.ownsRow w.heap.size 5 1 v 64 (bv (s.sect i)) ∧ Below w.heap.size w w' := read_s h.1 i hi1 hd
theorem read_dead {lo hi : Nat} {w : World} {b : Nat} {s : St} (h : Dk lo hi w b s) (i : Int) (hi1 : s.has i = true) (hd : s.dead = true) :
    Calls Try.prog 30 #[.pointer (some ⟨b, 0, none⟩), .int .i64 i] w fun e w' => e = .returned (.tuple #[.slice none 0 0, .int .i64 20]) ∧ w' = w := read_dead_s h.1 i hi1 hd
end Go.Proofs.Ytgppaompcnllbaa
