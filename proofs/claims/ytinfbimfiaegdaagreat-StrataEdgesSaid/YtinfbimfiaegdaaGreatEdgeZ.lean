/- Layer 10: edges as the document has them. Conditions: no more than a million. -/
import Derived.BigQuiet
import Derived.Deep.QuietTactic
import Derived.Deep.Cut
import Derived.Deep.RegionHeld3
import Derived.Deep.AppendLies
import Derived.Test.YtinfbimfiaegdaaGreatLeavW
namespace Go.Proofs.YtinfbimfiaegdaaGreat
open Go.RowKit

theorem info_E : (Tryz.prog.info? 39).map (fun i => (i.zero, i.size, i.bytes)) = some (some (.agg #[.int .i64 0, .int .i64 0, .bool false]), 3, 24) := by kernel_rfl
set_option maxRecDepth 100000 in
set_option maxHeartbeats 2000000 in
theorem edgesZ_any {w : World} {c : Nat} {A : Option Addr} {l : List Ed} (h : Rd w w.heap.size 3 A l.length c (ecells l)) (hl : l.length ≤ 1000000) :
    Calls Tryz.prog 9 #[.slice A l.length c] w fun e w' => (∃ A' c', e = .returned (.slice A' l.length c') ∧ Rd w' w'.heap.size 3 A' l.length c' (ecells l)) ∧ Below w.heap.size w w' := by
  obtain ⟨i0, hi0, hz0, hz1, hz2⟩ := info_parts info_E
  go_enter Tryz.func9, Tryz.ntmps9
  go_wp2_with fail
  go_loopw [3, 4] (fun v vi wx => ∃ j : Nat, vi = .int .i64 j ∧ j ≤ l.length ∧ wx.ownsRow w.heap.size 39 3 v j (ecells (l.take j)) ∧ Below w.heap.size w wx) (fun _ vi _ => l.length - (intOf vi).toNat)
  case atStart => exact ⟨0, rfl, Nat.zero_le _, World.ownsRow_nil _ _ _ _, Below.refl _ _⟩
  case round =>
    obtain ⟨j, rfl, hj, hO, hbx⟩ := hrel
    by_cases hjl : j < l.length
    · have hdj : (j : Int) < (l.length : Int) := by omega
      obtain ⟨⟨e1, e2, e3⟩, he⟩ : ∃ e, l[j]? = some e := ⟨_, List.getElem?_eq_getElem hjl⟩
      obtain ⟨b, o, rfl, hb, c0, c1, c2⟩ := rd_edge (h.below hbx) he
      obtain ⟨A3, c3, rfl, _⟩ := Rd.own hO
      have hws := hbx.size
      simp only at c0 c1 c2
      have ag : (Value.slice A3 j c3).ownBlock ≠ some b := fun e => by have := (hO.lt b e).1; omega
      have he := Lib.hid he
      go_upto_region 5 with (fail)
      go_region_held3 (fun w' => w'.cell? ⟨b, o + j * 3, none⟩ = some (.int .i64 e1) ∧ w'.cell? ⟨b, o + j * 3 + 1, none⟩ = some (.int .i64 e2) ∧ w'.cell? ⟨b, o + j * 3 + 2, none⟩ = some (.bool e3))
        (first
          | go_keep
          | (go_split_ands
             refine ⟨?_, ?_, ?_⟩ <;> (rw [hgrow.cell_far _ (by simp; omega) (Ne.symm ag)]; assumption))
          | fail)
        ((refine step_append_lies _ (by rfl) _ _ _ (by rfl) w.heap.size 39 i0 _ 3 24 Tryz.underlying31 hi0 hz0 hz1 hz2 rfl (by omega) (.slice A3 j c3) j (ecells (l.take j)) (by rfl) ((hO.alloc _).drew)
              ⟨wr.heap.size, 0, none⟩ 1 1 [.int .i64 e1, .int .i64 e2, .bool e3] (by rfl) (by rfl) (World.news_of_block (cs := #[.int .i64 e1, .int .i64 e2, .bool e3]) (t := 39) (fr := (0, 0)) (heap_alloc_new wr _)) (by simp [Value.oneCell'])
              (by omega) (by simp only [maxLen]; omega) (by omega) (by simp; omega) (wr.heap.size + 1) (by simp) ?_; intro gg cap w8 hown8 hgrow hat hlt))
      go_wp2_with fail
      have hO9 : w8.ownsRow w.heap.size 39 3 (.slice (some ⟨gg, 0, none⟩) (j + 1) cap) (j + 1) (ecells (l.take (j + 1))) := by
        rw [List.take_add_one, he.out, Option.toList_some, ecells_app]
        have : ecells [(e1, e2, e3)] = [.int .i64 e1, .int .i64 e2, .bool e3] := by simp [ecells, ecell]
        rw [this]
        exact hown8
      have hb9 := below_of_own ((hbx.alloc hws (.cells #[.int .i64 e1, .int .i64 e2, .bool e3] 39)).drew) hgrow ((hO.alloc _).drew) (by simp; omega) (Nat.le_refl _)
      exact ⟨⟨j + 1, by go_num, by omega, hO9, hb9⟩, by simp [intOf]; omega⟩
    · obtain rfl : j = l.length := by omega
      have hdj : ¬ (((l.length : Nat) : Int) < (l.length : Int)) := by omega
      rw [List.take_length] at hO
      obtain ⟨A3, c3, rfl, hR⟩ := Rd.own hO
      go_wp2_with fail
      go_ret
      exact ⟨⟨A3, c3, rfl, hR⟩, hbx⟩
end Go.Proofs.YtinfbimfiaegdaaGreat
