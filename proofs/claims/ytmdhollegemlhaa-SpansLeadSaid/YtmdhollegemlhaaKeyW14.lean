/- Layer 14: the law's keys: all keys of a revision, told one by one. Conditions: no more than 100 spans, keys of up to 40 bytes. -/
import Derived.Deep.RegionHeld3
import Derived.Test.YtmdhollegemlhaaSpL14
import Derived.Test.YtmdhollegemlhaaLeadP14
namespace Go.Proofs.Ytmdhollegemlhaa
open Go.RowKit

theorem info_str14 : (Try.prog.info? 9).map (fun i => (i.zero, i.size, i.bytes)) = some (some (.string ⟨#[]⟩), 1, 16) := by kernel_rfl
theorem keysP_size {L : List Sp} {last : Int} (hf : FineS L last) {r : Int} (h40 : ∀ x ∈ L, x.1.size ≤ 40) {k : ByteArray} (hk : k ∈ keysP L r) : k.size ≤ 40 := by
  have h := ((keysP_all hf r).2.2 k).1 hk
  unfold hasP at h
  rw [List.any_eq_true] at h
  obtain ⟨x, hx, h⟩ := h
  rw [Bool.and_eq_true, decide_eq_true_eq] at h
  rw [← h.2]
  exact h40 x hx
def lenV : Value → Nat
  | .slice _ n _ => n
  | _ => 0
theorem zero_toList (k : ByteArray) : (k ++ (⟨#[0]⟩ : ByteArray)).toList = k.toList ++ [0] := by
  rw [ByteArray.toList_eq, ByteArray.toList_eq]
  simp

theorem own_keep14 {w w' : World} {B e s n : Nat} {v : Value} {xs : List Value} (h : w.ownsRow B e s v n xs) (hb : Below w.heap.size w w') : w'.ownsRow B e s v n xs := by
  refine ⟨h.1, ?_⟩
  rcases h.2 with h2 | ⟨g, cap, cur, rfl, hg, hh, r⟩
  · exact .inl h2
  · exact .inr ⟨g, cap, cur, rfl, hg, (hb.block g (Array.getElem?_eq_some_iff.1 hh).1).trans hh, r⟩

set_option maxRecDepth 100000 in
set_option maxHeartbeats 4000000 in
theorem keys14_any {S : World → (Nat → Prop) → Nat → List Sp → Int → Prop} (K : SpK S) {w0 w : World} {g : Nat} {L : List Sp} {last : Int} (r : Int) (h : Sx S w0 w g L last) (hL : L.length ≤ 100) (h40 : ∀ x ∈ L, x.1.size ≤ 40) :
    Calls Try.prog 25 #[.pointer (some ⟨g, 0, none⟩), .int .i64 r] w fun e w' => ∃ A c, e = .returned (.slice A (keysP L r).length c) ∧ Rd w' w'.heap.size 1 A (keysP L r).length c (ks (keysP L r)) ∧ Sx S w0 w' g L last ∧ Below w.heap.size w w' := by
  obtain ⟨i0, hi0, hz0, hz1, hz2⟩ := info_parts info_str14
  have hf := h.fine
  obtain ⟨hris, hlen, hmem⟩ := keysP_all hf r
  have hcl : countP L r ≤ 100 := Nat.le_trans (List.length_filter_le _ _) hL
  have hsz : ∀ k ∈ keysP L r, k.size ≤ 40 := fun k hk => keysP_size hf h40 hk
  have k1 := h.next K r ⟨#[]⟩ ⟨#[]⟩ hL
  rw [nextP_keys hf, find_first] at k1
  have hnx : ∀ j k, (keysP L r)[j]? = some k → nextP L r (k ++ ⟨#[0]⟩) ⟨#[]⟩ = (keysP L r)[j + 1]? := fun j k hk => by rw [nextP_keys hf, find_next hris hk (zero_toList k)]
  generalize keysP L r = Q at *
  have hQl : Q.length ≤ 100 := by omega
  clear hlen hcl
  obtain ⟨q0, hq0⟩ : ∃ q, Q[0]? = q := ⟨_, rfl⟩
  rw [hq0] at k1
  replace hq0 := Lib.hid hq0
  clear hf hmem hris
  go_enter Try.func25, Try.ntmps25
  go_upto_region 3 with (go_at_call 17; refine k1.mono ?_; rintro e1 w1 ⟨rfl, hS1, hb1⟩)
  clear k1
  go_loopw [5, 6, 7] (fun vo vk vi wx => ∃ (j : Nat) (q : Option ByteArray), vk = .string (q.getD ⟨#[]⟩) ∧ vi = .bool q.isSome ∧ Hid (Q[j]? = q) ∧ j ≤ Q.length ∧ wx.ownsRow w.heap.size 9 1 vo j (ks (Q.take j)) ∧ Below w.heap.size w wx) (fun vo _ _ _ => Q.length - lenV vo)
  case atStart => exact ⟨0, q0, rfl, rfl, hq0, Nat.zero_le _, World.ownsRow_nil _ _ _ _, hb1⟩
  case round =>
    obtain ⟨j, q, rfl, rfl, hq, hj, hO, hbx⟩ := hrel
    have hws := hbx.size
    obtain ⟨A4, c4, rfl, hR4⟩ := Rd.own hO
    cases q with
    | none =>
      have hje : j = Q.length := by
        have := hq.out
        rw [List.getElem?_eq_none_iff] at this
        omega
      subst hje
      rw [List.take_length] at hR4
      go_wp2_with fail
      go_ret
      exact ⟨A4, c4, rfl, hR4, h.up K hbx, hbx⟩
    | some k =>
      have hk := hq.out
      have hjl : j < Q.length := lt_at hk
      have hk40 := hsz k (List.mem_of_getElem? hk)
      have hj200 : (j : Int) < 200 := by omega
      have hn := hnx j k hk
      have htk : ks (Q.take (j + 1)) = ks (Q.take j) ++ [.string k] := by rw [List.take_add_one, hk, Option.toList_some, ks_app]; rfl
      obtain ⟨q', hq'⟩ : ∃ q', Q[j + 1]? = q' := ⟨_, rfl⟩
      rw [hq'] at hn
      replace hq' := Lib.hid hq'
      have kx := fun W (hb : Below w.heap.size w W) => (h.up K hb).next K r (k ++ ⟨#[0]⟩) ⟨#[]⟩ hL
      simp only [hn] at kx
      clear hn hk hnx hR4
      have hO1 := hO.alloc (.cells #[.string k] 9)
      go_wp2_with (first
        | (at_builtin; (refine wpList_append_src _ rfl (.tmp 20) (.tmp 22) 52 52 rfl w.heap.size 9 i0 (.string ⟨#[]⟩) 1 16 Try.underlying52 hi0 hz0 hz1 hz2 rfl (by decide) (.slice A4 j c4) j _ rfl hO1 _ 1 [.string k] rfl (Src.ofSlice _ Try.underlying52 _ 1 1 _ rfl (cells_at _ #[.string k] _ _ (by simp)) (ks_one [k])) (by simp only [maxLen]; omega) (by omega) (size_alloc hws) ?_; intro v9 w8 hown8 hg8 hat8; have hb8 := below_of_own (hbx.alloc hws (.cells #[.string k] 9)) hg8 hO1 (size_alloc hws) (Nat.le_refl _)))
        | (go_at_call 17; refine (kx _ hb8).mono ?_; rintro e9 w9 ⟨rfl, _, hb9⟩)
        | fail)
      obtain ⟨A9, c9, rfl, _⟩ := Rd.own hown8
      exact ⟨⟨j + 1, q', rfl, rfl, hq', hjl, by rw [htk]; exact own_keep14 hown8 hb9, hb8.trans (hb9.mono hb8.size)⟩, by simp [lenV]; omega⟩
end Go.Proofs.Ytmdhollegemlhaa
