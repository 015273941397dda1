/- Layer 7: a reader's calls for who may stand in a tuple. Conditions: none. -/
import Derived.Test.YtinfbimfiaegdaaPart
namespace Go.Proofs.Ytinfbimfiaegdaa
open Go.RowKit

def subT (l : List Tk) : Rs SubP := andT (nameT l) fun n r => andT (if isT (sg 35) r = true then nameT r.tail else .ok (⟨#[]⟩, r)) fun m r => .ok ((n, m), r)
/-- What follows behind one who may stand in a tuple. -/
def whoM (acc : List SubP) (l : List Tk) : Rs (List SubP) := if isT (sg 44) l = true then whoT acc l.tail else .ok (acc, l)
theorem whoT_sub (acc : List SubP) (l : List Tk) : whoT acc l = andT (subT l) fun s r => whoM (acc ++ [s]) r := by
  rw [whoT_eq]
  unfold subT
  rw [andT_assoc]
  congr 1
  funext n r
  rw [andT_assoc]
  rfl
theorem subT_len {l r : List Tk} {s : SubP} (h : subT l = .ok (s, r)) : r.length < l.length := by
  obtain ⟨n, m, h1, h2⟩ := andT_inv h
  obtain ⟨a, m2, h3, h4⟩ := andT_inv h2
  have := nameT_len h1
  have := who_len h3
  cases h4
  omega
/-- Whether a name is next. -/
def atN (l : List Tk) : Bool := decide ((hdT l).1 = 1) && !keyB (hdT l).2.1
def subsT (l : List Tk) : Rs (List SubP) := if atN l = true then whoT [] l else .ok ([], l)

section
variable {w : World} {g : Nat} {l : List Tk}
set_option maxRecDepth 100000 in
theorem subs_any (h : Rdr w g l) : Calls Try.prog 84 #[.pointer (some ⟨g, 0, none⟩)] w (Post (VSubs w.heap.size) w.heap.size w g (subsT l)) := by
  suffices H : ∀ R, To (Post (VSubs w.heap.size) w.heap.size w g (subsT l)) R → Calls Try.prog 84 #[.pointer (some ⟨g, 0, none⟩)] w R from H _ fun _ _ h => h
  intro R HP
  have hg := h.size
  have ka := atName_any h
  rw [show (decide ((hdT l).1 = 1) && !keyB (hdT l).2.1) = atN l from rfl] at ka
  unfold subsT at HP
  cases hn : atN l with
  | false =>
    rw [hn] at ka
    rw [hn, if_neg (by decide)] at HP
    go_enter Try.func84, Try.ntmps84
    go_wp2_with ((with_reducible refine ka.mono ?_); rintro e w1 ⟨rfl, hb⟩)
    exact HP.ret rfl (Kp.of_below hb g) (World.ownsRow_nil _ _ _ _) (h.below hb)
  | true =>
    rw [hn] at ka
    rw [hn, if_pos rfl, whoT_sub] at HP
    go_enter Try.func84, Try.ntmps84
    go_wp2_with ((with_reducible refine ka.mono ?_); rintro e w1 ⟨rfl, hb⟩)
    have h1 := h.below hb
    have k1 := Kp.of_below hb g
    clear h hb ka
    refine (sub_any h1).mono ?_
    intro e w2 hp
    obtain ⟨hk, hc⟩ := hp.cases_
    clear hp
    have k2 := k1.trans (hk.more k1.size)
    clear hk k1 h1
    rcases hc with ⟨c, p, hr, rfl⟩ | ⟨s, l2, v, hr, rfl, rfl, h2⟩
    · go_wp2_with fail
      exact ⟨rfl, HP.bad hr k2⟩
    replace HP := HP.bind hr
    clear hr
    go_wp2_with fail
    have hk0 : Kp g w.heap.size w _ := k2.alloc k2.size (.cells #[.string s.1, .string s.2] 101)
    have ho0 : VSubs w.heap.size _ _ ([] ++ [s]) := own_lit w2 #[.string s.1, .string s.2] 101 1 2 w.heap.size rfl (by decide) k2.size
    have hr0 := h2.alloc (.cells #[.string s.1, .string s.2] 101)
    clear k2 h2
    go_loopw [3] (fun vi wr => ∃ acc l3, VSubs w.heap.size wr vi acc ∧ Rdr wr g l3 ∧ Kp g w.heap.size w wr ∧ To (Post (VSubs w.heap.size) w.heap.size w g (whoM acc l3)) R ∧ acc.length + l3.length ≤ 2000000) (fun _ wr => left wr g)
    case atStart => exact ⟨[] ++ [s], l2, ho0, hr0, hk0, HP, by have := hr0.few; simp; omega⟩
    case round =>
      clear HP ho0 hr0 hk0
      obtain ⟨acc, l3, hv, h3, k3, HP, hl⟩ := hrel
      obtain ⟨A, c, rfl, _⟩ := Rd.own hv
      have km := may_any h3 (ask_sg 44 (by decide))
      have hlf := h3.left
      cases hi : isT (sg 44) l3 with
      | false =>
        rw [hi, if_neg (by decide)] at km
        unfold whoM at HP
        rw [hi, if_neg (by decide)] at HP
        go_wp2_with fail
        refine km.mono ?_
        rintro e w3 ⟨rfl, h4, hk⟩
        have k4 := k3.trans (hk.more k3.size)
        have hv4 := own_kp hv hk hg
        clear km hk k3 hv h3
        go_wp2_with fail
        exact HP.ret rfl k4 hv4 h4
      | true =>
        rw [hi, if_pos rfl] at km
        unfold whoM at HP
        rw [hi, if_pos rfl, whoT_sub] at HP
        go_wp2_with fail
        refine km.mono ?_
        rintro e w3 ⟨rfl, h4, hk⟩
        have k4 := k3.trans (hk.more k3.size)
        have hv4 := own_kp hv hk hg
        clear km hk k3 hv h3
        go_wp2_with fail
        refine (sub_any h4).mono ?_
        intro e w4 hp
        obtain ⟨hk, hc⟩ := hp.cases_
        clear hp
        have k5 := k4.trans (hk.more k4.size)
        have hv5 := own_kp hv4 hk hg
        clear hk k4 hv4 h4
        rcases hc with ⟨c, p, hr, rfl⟩ | ⟨s4, l5, v, hr, rfl, rfl, h5⟩
        · go_wp2_with fail
          exact ⟨rfl, HP.bad hr k5⟩
        have hlen := subT_len hr
        replace HP := HP.bind hr
        obtain ⟨i0, hi0, hz0, hz1, hz2⟩ := info_parts info_sub
        have hz5 := k5.size
        have hll : l3.tail.length ≤ l3.length := by rw [List.length_tail]; omega
        clear hr
        go_wp2_with (at_builtin; refine wpList_append_src _ rfl (.tmp 12) (.tmp 15) 60 60 rfl w.heap.size 101 i0 (.agg #[.string .empty, .string .empty]) 2 32 Try.underlying60 hi0 hz0 hz1 hz2 rfl (by decide) _ acc.length (scells acc) rfl (World.ownsRow.alloc hv5 _) _ 1 [.string s4.1, .string s4.2] rfl (Src.ofSlice _ Try.underlying60 _ 1 1 _ rfl (cells_new2 _ _ _ _) (scell_one s4)) (by simp only [maxLen]; omega) (by omega) (size_alloc hz5) ?_; intro v1 w5 hown1 hg1 hat1; obtain ⟨A1, c1, rfl, _⟩ := Rd.own hown1)
        have hr5 := rdr_grown (v := .slice A acc.length c) h5 hg1 hv5 hg
        refine ⟨⟨acc ++ [s4], l5, ?_, hr5, kp_grown (v := .slice A acc.length c) k5 hg1 hv5 hz5 (Nat.le_refl _), HP, ?_⟩, ?_⟩
        · unfold VSubs
          rw [List.length_append, scells_app]
          exact hown1
        · rw [List.length_append, List.length_singleton]
          omega
        · rw [hr5.left, hlf]
          omega
end
end Go.Proofs.Ytinfbimfiaegdaa
