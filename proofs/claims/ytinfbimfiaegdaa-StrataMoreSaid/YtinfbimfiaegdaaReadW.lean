/- Layer 7: tokens, read: what they say, or the error and its place; it never panics. Conditions: the tokens end with the end, alone. -/
import Derived.Test.YtinfbimfiaegdaaCatch
namespace Go.Proofs.Ytinfbimfiaegdaa
open Go.RowKit

/-- What is answered: a schema, an error, a place. -/
def SPost (o : List TypP × Nat × Nat) (w : World) (e : Ending) (w' : World) : Prop :=
  ∃ vt, e = .returned (.tuple #[.agg #[vt], .int .i64 o.2.1, .int .i64 o.2.2]) ∧ VTyps w.heap.size w' vt o.1 ∧ Below w.heap.size w w'
theorem Kp.belowG {g B : Nat} {w w' : World} (h : Kp g B w w') (hg : B ≤ g) : Below B w w' := ⟨h.os, h.tape, h.output, h.size, fun k hk => h.block k hk (by omega)⟩
set_option maxRecDepth 100000 in
set_option maxHeartbeats 1000000 in
theorem read_any {w : World} {A : Option Addr} {c : Nat} {l : List Tk} (hr : Rd w w.heap.size 3 A l.length c (tcells l)) (hf : Fine l) :
    Calls Try.prog 16 #[.slice A l.length c] w (SPost (outS (schemaF l)) w) := by
  have hmf : ∀ (fn : Fn) (first cap : Array Value) (w : World), (Instr.makeFunc fn first cap).run Try.prog w = .ok (.func fn first cap) w := fun _ _ _ _ => rfl
  rw [schemaF_eq]
  change Calls _ _ _ _ (SPost (outS (typesX [] l)) w)
  go_enter_defers Try.func16, Try.ntmps16
  go_wp2_with fail
  have hA1 := (Bk.new w #[.slice none 0 0] 36)
  have hA2 := (Bk.new (w.alloc (.cells #[.slice none 0 0] 36)) #[.int .i64 0] 25)
  have hA3 := (Bk.new ((w.alloc (.cells #[.slice none 0 0] 36)).alloc (.cells #[.int .i64 0] 25)) #[.int .i64 0] 3)
  have hA4 := (Bk.new (((w.alloc (.cells #[.slice none 0 0] 36)).alloc (.cells #[.int .i64 0] 25)).alloc (.cells #[.int .i64 0] 3)) #[.slice A l.length c] 98)
  simp only [World.size_alloc] at hA2 hA3 hA4
  have hb0 := ((hA1.alloc (.cells #[.int .i64 0] 25)).alloc (.cells #[.int .i64 0] 3)).alloc (.cells #[.slice A l.length c] 98)
  have hb1 := (hA2.alloc (.cells #[.int .i64 0] 3)).alloc (.cells #[.slice A l.length c] 98)
  have hb2 := hA3.alloc (.cells #[.slice A l.length c] 98)
  have hB : Below w.heap.size w ((((w.alloc (.cells #[.slice none 0 0] 36)).alloc (.cells #[.int .i64 0] 25)).alloc (.cells #[.int .i64 0] 3)).alloc (.cells #[.slice A l.length c] 98)) := by
    refine Below.alloc (Below.alloc (Below.alloc (Below.alloc (Below.refl _ w) (Nat.le_refl _) _) ?_ _) ?_ _) ?_ _ <;> (simp only [World.size_alloc]; omega)
  have hR : Rdr ((((w.alloc (.cells #[.slice none 0 0] 36)).alloc (.cells #[.int .i64 0] 25)).alloc (.cells #[.int .i64 0] 3)).alloc (.cells #[.slice A l.length c] 98)) (w.heap.size + 1 + 1 + 1) l := ⟨A, c, hA4, (hr.below hB).more (by omega), hf⟩
  clear hA1 hA2 hA3 hA4
  generalize (((w.alloc (.cells #[.slice none 0 0] 36)).alloc (.cells #[.int .i64 0] 25)).alloc (.cells #[.int .i64 0] 3)).alloc (.cells #[.slice A l.length c] 98) = W at *
  refine (schema_any hR).mono ?_
  intro e W1 hp
  obtain ⟨hk, hc⟩ := hp.cases_
  have hlt := hR.size
  replace hb0 := hb0.kp hk (by omega)
  replace hb1 := hb1.kp hk (by omega)
  replace hb2 := hb2.kp hk (by omega)
  replace hB := hB.trans (Kp.below hk (B' := w.heap.size) (by omega) (by omega))
  clear hp hk hR
  rcases hc with ⟨k, p, hr, rfl⟩ | ⟨o, l1, v, hr, rfl, ⟨vt, rfl, hv⟩, hR⟩
  · rw [hr]
    have kc := catch_fault k p _ _ _ _ _ _ W1 hb0 hb1 hb2 (by omega) (by omega)
    clear hb0 hb1 hb2
    go_wp2_with fail
    refine leaves_cons (f := 33) (args := #[.pointer (some ⟨w.heap.size, 0, none⟩), .pointer (some ⟨w.heap.size + 1, 0, none⟩), .pointer (some ⟨w.heap.size + 1 + 1, 0, none⟩)]) (by simp) (by simp [go_sem]) ?_
    refine kc.mono ?_
    rintro e u' w'' ⟨rfl, rfl, g0, g1, g2, hb⟩
    have q0 := g0.c1
    have q1 := g1.c1
    have q2 := g2.c1
    simp [Leaves, settle, results, Try.results16, go_sem, q0, q1, q2]
    exact ⟨.slice none 0 0, rfl, ⟨[], World.ownsRow_nil _ _ _ _, rfl⟩, hB.trans hb⟩
  · rw [hr]
    have q0 := hb0.c1
    have q1 := hb1.c1
    have q2 := hb2.c1
    have z0 := hb0.fz
    have z1 := hb1.fz
    have z2 := hb2.fz
    have n1 : ¬ w.heap.size = w.heap.size + 1 := by omega
    obtain ⟨A2, c2, rfl, _⟩ := Rd.own hv.choose_spec.1
    go_wp2_with fail
    rw [hr]
    refine leaves_cons (f := 33) (args := #[.pointer (some ⟨w.heap.size, 0, none⟩), .pointer (some ⟨w.heap.size + 1, 0, none⟩), .pointer (some ⟨w.heap.size + 1 + 1, 0, none⟩)]) (by simp) (by simp [go_sem]) ?_
    refine (catch_idle _ _ _ _).mono ?_
    rintro e u' w'' ⟨rfl, rfl, rfl⟩
    simp [Leaves, settle, results, Try.results16, go_sem, q0, q1, q2]
    obtain ⟨xs, h1, h2⟩ := hv
    refine ⟨.slice A2 o.length c2, rfl, ⟨xs, ?_, ?_⟩, ?_⟩
    · refine own_base (own_set (own_set (own_set h1 ?_ _) ?_ _) ?_ _) (show w.heap.size ≤ W.heap.size by omega) <;> (dsimp only; omega)
    · exact TypsC.base (show w.heap.size ≤ W.heap.size by omega) (((h2.keep (keeps3_set (a := ⟨w.heap.size, 0, none⟩) (by dsimp only; omega) _)).keep (keeps3_set (a := ⟨w.heap.size + 1, 0, none⟩) (by dsimp only; omega) _)).keep (keeps3_set (a := ⟨w.heap.size + 1 + 1, 0, none⟩) (by dsimp only; omega) _))
    · refine Below.setCell (Below.setCell (Below.setCell hB ?_ _) ?_ _) ?_ _ <;> (dsimp only; omega)
end Go.Proofs.Ytinfbimfiaegdaa
