/- Layer 13: what Of and Has answer. Conditions: no more than a million keys. -/
import Derived.BigQuiet
import Derived.Deep.QuietTactic
import Derived.LoopN
import Derived.Laws.Shifts
import Derived.Shelf.RegionOpenPlain
import Derived.Lib.Walk
import Derived.LoopTactic
import Derived.Deep.Draws
import Derived.Lib.OwnBridge
import Derived.Lib.RowBridge
import Derived.Test.YtampggkjlpbbmaaBase
import Derived.Test.YtampggkjlpbbmaaMatP
import Derived.Test.YtampggkjlpbbmaaShelf13
namespace Go.Proofs.Ytampggkjlpbbmaa
open Go.RowKit Go.Shelf Go.Sort Go.Lib

/-- Keys as cells. -/
def ks (s : List ByteArray) : List Value := s.map Value.string
theorem ks_len (s : List ByteArray) : (ks s).length = s.length := by simp [ks]
theorem ks_one (s : List ByteArray) : ∀ u ∈ ks s, u.oneCell' = true := by
  intro u hu
  obtain ⟨_, _, rfl⟩ := List.mem_map.1 hu
  rfl
theorem ks_get {s : List ByteArray} {i : Nat} {k : ByteArray} (h : s[i]? = some k) : (ks s)[i]? = some (.string k) := by simp [ks, h]
theorem ks_app (a b : List ByteArray) : ks (a ++ b) = ks a ++ ks b := by simp [ks]
theorem lt_at {α : Type} {l : List α} {i : Nat} {x : α} (h : l[i]? = some x) : i < l.length := (List.getElem?_eq_some_iff.1 h).1
theorem ks_enc (l : List (List UInt8)) : l.map encStr = ks (l.map keyB) := by simp [ks, keyB, Function.comp_def]
theorem enc_ks (l : List ByteArray) : ks l = (l.map fun s => s.data.toList).map encStr := by
  simp only [ks, List.map_map]
  refine List.map_congr_left fun s _ => ?_
  show Value.string s = Value.string ⟨s.data.toList.toArray⟩
  rw [Array.toArray_toList]
theorem keyB_back (l : List ByteArray) : (l.map fun s => s.data.toList).map keyB = l := by
  rw [List.map_map]
  conv => rhs; rw [← List.map_id l]
  exact List.map_congr_left fun s _ => keyB_of s

theorem Rd.up {w w' : World} {size n c : Nat} {A : Option Addr} {xs : List Value} (h : Rd w w.heap.size size A n c xs) (hb : Below w.heap.size w w') : Rd w' w'.heap.size size A n c xs := (h.below hb).more hb.size
theorem bthen {B : Nat} {w w1 w2 : World} (h : Below B w w1) (hB : B ≤ w1.heap.size) (k : Below w1.heap.size w1 w2) : Below B w w2 := h.trans (k.mono hB)
theorem drewN_below (w : World) (B q : Nat) : Below B w (w.drewN q) := ⟨rfl, rfl, rfl, Nat.le_refl _, fun _ _ => rfl⟩
theorem bnew (w : World) (o : Obj) : Below w.heap.size w (w.alloc o) := (Below.refl _ w).alloc (Nat.le_refl _) o

theorem clone_some {w : World} {b o n c : Nat} {l : List ByteArray} (hn : n = l.length) (hl : l.length ≤ 1000000) (hc : ∀ (j : Nat) u, (ks l)[j]? = some u → w.cell? ⟨b, o + j, none⟩ = some u) :
    Calls Try.prog 18 #[.slice (some ⟨b, o, none⟩) n c] w fun e w' => ∃ v', e = .returned v' ∧ w'.ownsRow w.heap.size 9 1 v' n (ks l) ∧ v' ≠ .slice none 0 0 ∧ Below w.heap.size w w' := by
  have h := AnyG.slices_Clone_string laysClone b o n c l w (by omega) (by omega) fun j hj => hc j _ (by
    simp [ks, List.getD_eq_getElem?_getD, List.getElem?_eq_getElem hj])
  subst hn
  rw [List.take_length] at h
  exact h
theorem clone_nil (n c : Nat) (w : World) : Calls Try.prog 18 #[.slice none n c] w fun e w' => e = .returned (.slice none 0 0) ∧ w' = w := AnyG.slices_Clone_string_nil laysClone n c w
theorem clone_zero (a : Addr) (c : Nat) (w : World) : Calls Try.prog 18 #[.slice (some a) 0 c] w fun e w' => ∃ v', e = .returned v' ∧ w'.ownsRow w.heap.size 9 1 v' 0 [] ∧ v' ≠ .slice none 0 0 ∧ Below w.heap.size w w' := AnyG.slices_Clone_string_zero laysClone a c w
theorem sort_some {w : World} {g n c : Nat} {ss : List (List UInt8)} (hn : n = ss.length) (hH : Holds encStr w g 0 ss.toArray) (hg : g < w.heap.size) (hl : ss.length ≤ 1000000) :
    Calls Try.prog 19 #[.slice (some ⟨g, 0, none⟩) n c] w fun e w' => e = .returned (.tuple #[]) ∧ ∃ q os, w' = grow (putRow encStr (Sort.ahead w q) g 0 (ss.mergeSort fun x y => decide (x ≤ y)).toArray) os := by
  subst hn
  exact AnyM.slices_Sort_string laysSort g 0 c ss w hH hg (by omega)
theorem sort_none (p : Option Addr) (c : Nat) (w : World) : Calls Try.prog 19 #[.slice p 0 c] w fun e w' => e = .returned (.tuple #[]) ∧ w' = w := AnyM.slices_Sort_string_none laysSort p c w
theorem comp_some {w : World} {g n c : Nat} {ss : List (List UInt8)} (hn : n = ss.length) (hH : Holds encStr w g 0 ss.toArray) (hc : n ≤ c) (hl : ss.length ≤ 1000000) :
    Calls Try.prog 20 #[.slice (some ⟨g, 0, none⟩) n c] w fun e w' => e = .returned (.slice (some ⟨g, 0, none⟩) (Lib.compact ss).length c) ∧ ∃ q, w' = putRow encStr (Sort.ahead w q) g 0 (Lib.compact ss ++ List.replicate (ss.length - (Lib.compact ss).length) []).toArray := by
  subst hn
  exact AnyG.slices_Compact_string laysComp g 0 c ss w hH (by omega) hc
theorem comp_none (p : Option Addr) (c : Nat) (w : World) : Calls Try.prog 20 #[.slice p 0 c] w fun e w' => e = .returned (.slice p 0 c) ∧ w' = w := AnyG.slices_Compact_string_empty laysComp p c w

/-- The same, said of a row of the call's own. -/
theorem sort_own {w : World} {B g n c : Nat} {ss : List (List UInt8)} (hO : w.ownsRow B 9 1 (.slice (some ⟨g, 0, none⟩) n c) n (ss.map encStr)) (hl : ss.length ≤ 1000000) :
    Calls Try.prog 19 #[.slice (some ⟨g, 0, none⟩) n c] w fun e w' => e = .returned (.tuple #[]) ∧
      w'.ownsRow B 9 1 (.slice (some ⟨g, 0, none⟩) n c) n ((ss.mergeSort fun x y => decide (x ≤ y)).map encStr) ∧ w.grownBy w' (some g) := by
  obtain ⟨g2, cap, e2, hbg, hg, hncap, hcm, hlen, hH⟩ := holds_of_ownsRow hO (by simp)
  injection e2 with e1 _ e3
  injection e1 with e1
  injection e1 with e1
  subst e1; subst e3
  refine (sort_some hlen.symm hH hg hl).mono ?_
  rintro e w' ⟨rfl, q, os, rfl⟩
  refine ⟨rfl, ?_, grownBy_sorted _⟩
  rcases hO.2 with ⟨e0, _⟩ | ⟨g2, cap2, cur, e0, hb2, hg2, hn2, hm2, hs2, ht2⟩
  · cases e0
  · injection e0 with e1 _ e3
    injection e1 with e1
    injection e1 with e1
    subst e1; subst e3
    have := ownsRow_sorted (n := q) (os := os) (ss := ss) (ts := ss.mergeSort fun x y => decide (x ≤ y)) (List.length_mergeSort _) hb2 hg2 (by omega) hm2 hs2
    rw [hlen] at this
    exact this
theorem comp_own {w : World} {B g n c : Nat} {ss : List (List UInt8)} (hO : w.ownsRow B 9 1 (.slice (some ⟨g, 0, none⟩) n c) n (ss.map encStr)) (hl : ss.length ≤ 1000000) :
    Calls Try.prog 20 #[.slice (some ⟨g, 0, none⟩) n c] w fun e w' => e = .returned (.slice (some ⟨g, 0, none⟩) (Lib.compact ss).length c) ∧
      w'.ownsRow B 9 1 (.slice (some ⟨g, 0, none⟩) (Lib.compact ss).length c) (Lib.compact ss).length ((Lib.compact ss).map encStr) ∧ w.grownBy w' (some g) := by
  obtain ⟨g2, cap, e2, hbg, hg, hncap, hcm, hlen, hH⟩ := holds_of_ownsRow hO (by simp)
  injection e2 with e1 _ e3
  injection e1 with e1
  injection e1 with e1
  subst e1; subst e3
  have hcl : (Lib.compact ss).length ≤ ss.length := compact_length_le ss
  refine (comp_some hlen.symm hH hncap hl).mono ?_
  rintro e w' ⟨rfl, q, rfl⟩
  refine ⟨rfl, ?_, ?_⟩
  · have hO3 := ownsRow_putRow (q := q) (ys := Lib.compact ss ++ List.replicate (ss.length - (Lib.compact ss).length) []) (k := (Lib.compact ss).length) hO (by simp; omega) (by omega)
    rwa [List.take_left] at hO3
  · have := grownBy_sorted (w := w) (g := g) (n := q) (os := #[]) (Lib.compact ss ++ List.replicate (ss.length - (Lib.compact ss).length) []).toArray
    rwa [grow_empty] at this

/-- What Of answers: the set of the keys. -/
def SetIs (w w' : World) (l : List ByteArray) (e : Ending) : Prop := ∃ A c s, e = .returned (.slice A s.length c) ∧ Rises s ∧ (∀ k, k ∈ s ↔ k ∈ l) ∧ Rd w' w'.heap.size 1 A s.length c (ks s) ∧ Below w.heap.size w w'

set_option maxRecDepth 100000 in
set_option maxHeartbeats 1000000 in
theorem of_any {w : World} {A : Option Addr} {c : Nat} {l : List ByteArray} (h : Rd w w.heap.size 1 A l.length c (ks l)) (hl : l.length ≤ 1000000) :
    Calls Try.prog 9 #[.slice A l.length c] w fun e w' => SetIs w w' l e := by
  rcases Nat.eq_zero_or_pos l.length with h0 | h0
  · obtain rfl : l = [] := List.eq_nil_of_length_eq_zero h0
    rcases A with _ | a
    · go_enter Try.func9, Try.ntmps9
      go_wp2_with (first
        | (go_at_call 18; refine (clone_nil _ _ _).mono ?_; rintro e w1 ⟨rfl, rfl⟩)
        | (go_at_call 19; refine (sort_none _ _ _).mono ?_; rintro e w1 ⟨rfl, rfl⟩)
        | (go_at_call 20; refine (comp_none _ _ _).mono ?_; rintro e w1 ⟨rfl, rfl⟩)
        | fail)
      go_ret
      exact ⟨none, 0, [], rfl, List.Pairwise.nil, fun _ => Iff.rfl, Rd.none_ _ _ _, Below.refl _ _⟩
    · go_enter Try.func9, Try.ntmps9
      go_wp2_with (first
        | (go_at_call 18; refine (clone_zero _ _ _).mono ?_; rintro e w1 ⟨v, rfl, hO, _, hb⟩; obtain ⟨A1, c1, rfl, hr⟩ := Rd.own hO)
        | (go_at_call 19; refine (sort_none _ _ _).mono ?_; rintro e w2 ⟨rfl, rfl⟩)
        | (go_at_call 20; refine (comp_none _ _ _).mono ?_; rintro e w3 ⟨rfl, rfl⟩)
        | fail)
      go_ret
      exact ⟨A1, c1, [], rfl, List.Pairwise.nil, fun _ => Iff.rfl, hr, hb⟩
  · obtain ⟨b, o, rfl, _, hc⟩ := h.at_ h0
    have kc := clone_some (c := c) rfl hl hc
    go_enter Try.func9, Try.ntmps9
    go_wp2_with (go_at_call 18; refine kc.mono ?_; rintro e w1 ⟨v, rfl, hO, hne, hb⟩)
    rw [enc_ks] at hO
    obtain ⟨g, cap, rfl, hbg, _, _, _, hlen, _⟩ := holds_of_ownsRow hO hne
    obtain ⟨ss, hss⟩ : ∃ ss, (l.map fun s => s.data.toList) = ss := ⟨_, rfl⟩
    have hset := sorted_set ss
    have hback : ss.map keyB = l := by rw [← hss, keyB_back]
    rw [hback] at hset
    rw [hss] at hO hlen
    obtain ⟨ts, hts⟩ : ∃ ts, (ss.mergeSort fun x y => decide (x ≤ y)) = ts := ⟨_, rfl⟩
    have htl : ts.length ≤ 1000000 := by rw [← hts, List.length_mergeSort]; omega
    have k1 := sort_own hO (by omega)
    rw [hts] at k1 hset
    have k2 := fun (W : World) (h : W.ownsRow w.heap.size 9 1 (.slice (some ⟨g, 0, none⟩) l.length cap) l.length (ts.map encStr)) => comp_own h htl
    obtain ⟨us, hus⟩ : ∃ us, Lib.compact ts = us := ⟨_, rfl⟩
    rw [hus] at hset
    simp only [hus] at k2
    clear hss hc kc h hts hback hlen htl hus
    go_wp2_with (first
      | (go_at_call 19; refine k1.mono ?_; rintro e w2 ⟨rfl, hO2, hg2⟩)
      | (go_at_call 20; refine (k2 _ hO2).mono ?_; rintro e w3 ⟨rfl, hO3, hg3⟩)
      | fail)
    go_ret
    have hb2 := hb.grown hg2 hb.size fun k hk => (by cases hk; exact hbg)
    have hb3 := hb2.grown hg3 hb2.size fun k hk => (by cases hk; exact hbg)
    rw [ks_enc] at hO3
    obtain ⟨A4, c4, e4, hr4⟩ := Rd.own hO3
    injection e4 with e4 _ e6
    subst e4; subst e6
    have hlk : us.length = (us.map keyB).length := by simp
    exact ⟨_, cap, us.map keyB, (by rw [← hlk]; rfl), hset.1, hset.2, by rw [← hlk]; exact hr4, hb3⟩

/-! Has -/
theorem has_split {s : List ByteArray} {k : ByteArray} (hs : Rises s) {i : Nat} (h1 : ∀ (j : Nat) a, j < i → s[j]? = some a → kl a k = true) (h2 : ∀ a, s[i]? = some a → kl a k = false) : hasK s k = (match s[i]? with | some a => decide (a = k) | none => false) := by
  rw [Bool.eq_iff_iff, hasK_iff]
  constructor
  · intro h
    obtain ⟨j, hj, e⟩ := List.getElem_of_mem h
    have hj' : s[j]? = some k := by rw [List.getElem?_eq_getElem hj, e]
    rcases Nat.lt_trichotomy j i with q | q | q
    · have := h1 j k q hj'
      rw [kl_irr] at this
      cases this
    · subst q
      rw [hj']
      simp
    · have hi : i < s.length := by omega
      have h3 := hs.at_ (List.getElem?_eq_getElem hi) hj' q
      rw [h2 _ (List.getElem?_eq_getElem hi)] at h3
      cases h3
  · intro h
    cases q : s[i]? with
    | none => rw [q] at h; cases h
    | some a =>
      rw [q] at h
      have := of_decide_eq_true h
      subst this
      exact List.mem_of_getElem? q
theorem less_any (x y : ByteArray) (w : World) : Calls Try.prog 32 #[.string x, .string y] w fun e w' => e = .returned (.bool (kl x y)) ∧ w' = w := by
  have hn : ∀ (z : ByteArray) (W : World), Calls Try.prog 48 #[.string z] W fun e w' => e = .returned (.bool false) ∧ w' = W := fun z W => by
    go_enter Try.func48, Try.ntmps48
    go_wp2_with fail
    go_ret
    exact ⟨by simp, rfl⟩
  go_enter Try.func32, Try.ntmps32
  go_wp2_with (go_at_call 48; refine (hn _ _).mono ?_; rintro e w' ⟨rfl, rfl⟩)
  go_ret
  exact ⟨rfl, rfl⟩
theorem nan_any (z : ByteArray) (W : World) : Calls Try.prog 33 #[.string z] W fun e w' => e = .returned (.bool false) ∧ w' = W := by
  go_enter Try.func33, Try.ntmps33
  go_wp2_with fail
  go_ret
  exact ⟨by simp, rfl⟩

set_option maxRecDepth 100000 in
set_option maxHeartbeats 2000000 in
theorem search_any {w : World} {A : Option Addr} {n c B : Nat} {s : List ByteArray} (h : Rd w B 1 A n c (ks s)) (hn : n = s.length) (hs : Rises s) (hl : n ≤ 1000000) (k : ByteArray) :
    Calls Try.prog 25 #[.slice A n c, .string k] w fun e w' => ∃ z, e = .returned (.tuple #[.int .i64 z, .bool (hasK s k)]) ∧ ∃ q, w' = w.drewN q := by
  have hc : ∀ (i : Nat) a, s[i]? = some a → ∃ b o, A = some ⟨b, o, none⟩ ∧ w.cell? ⟨b, o + i, none⟩ = some (.string a) := fun i a ha => by
    have := lt_at ha
    obtain ⟨b, o, e, _, hc⟩ := h.at_ (by omega)
    exact ⟨b, o, e, hc i _ (ks_get ha)⟩
  clear h
  subst hn
  obtain ⟨H, hH⟩ : ∃ H, hasK s k = H := ⟨_, rfl⟩
  rw [hH]
  have hH := Lib.hid hH
  go_enter Try.func25, Try.ntmps25
  go_wp2_with fail
  go_loopw [7, 8] (fun s7 s8 wr => ∃ lo hi q : Nat, s7 = .int .i64 lo ∧ s8 = .int .i64 hi ∧ lo ≤ hi ∧ hi ≤ s.length ∧ wr = w.drewN q ∧ (∀ (j : Nat) a, j < lo → s[j]? = some a → kl a k = true) ∧ (∀ (j : Nat) a, hi ≤ j → s[j]? = some a → kl a k = false)) (fun s7 s8 _ => (intOf s8 - intOf s7).toNat)
  case atStart => exact ⟨0, s.length, 0, rfl, rfl, Nat.zero_le _, Nat.le_refl _, rfl, fun j a hj => (by omega), fun j a hj ha => by have := lt_at ha; omega⟩
  case round =>
    obtain ⟨lo, hi, q, rfl, rfl, hlh, hin, rfl, h1, h2⟩ := hrel
    by_cases hlt : lo < hi
    · obtain ⟨m, hm⟩ : ∃ m, (lo + hi) / 2 = m := ⟨_, rfl⟩
      have hm2 : lo ≤ m ∧ m < hi := by omega
      obtain ⟨a, ha⟩ : ∃ a, s[m]? = some a := ⟨_, List.getElem?_eq_getElem (by omega)⟩
      obtain ⟨b, o, rfl, cm⟩ := hc m a ha
      have hmi : Hid (((lo : Int) + (hi : Int)) / 2 = (m : Int)) := Lib.hid (by omega)
      subst hm
      cases hka : kl a k
      · have h3 : ∀ (j : Nat) x, (lo + hi) / 2 ≤ j → s[j]? = some x → kl x k = false := fun j x hj hx => by
          by_cases e : (lo + hi) / 2 = j
          · subst e
            rw [ha] at hx
            cases hx
            exact hka
          · cases e2 : kl x k
            · rfl
            · have := kl_trans (hs.at_ ha hx (by omega)) e2
              rw [hka] at this
              cases this
        have L : ∀ W, Calls Try.prog 32 #[.string a, .string k] W fun e w' => e = .returned (.bool false) ∧ w' = W := fun W => by rw [← hka]; exact less_any a k W
        clear hc ha hka h2
        go_wp2_with (go_at_call 32; refine (L _).mono ?_; rintro e w' ⟨rfl, rfl⟩)
        exact ⟨⟨lo, (lo + hi) / 2, q, rfl, by rw [hmi.out], by omega, by omega, rfl, h1, h3⟩, by simp [intOf]; omega⟩
      · have h3 : ∀ (j : Nat) x, j < (lo + hi) / 2 + 1 → s[j]? = some x → kl x k = true := fun j x hj hx => by
          by_cases e : (lo + hi) / 2 = j
          · subst e
            rw [ha] at hx
            cases hx
            exact hka
          · exact kl_trans (hs.at_ hx ha (by omega)) hka
        have L : ∀ W, Calls Try.prog 32 #[.string a, .string k] W fun e w' => e = .returned (.bool true) ∧ w' = W := fun W => by rw [← hka]; exact less_any a k W
        clear hc ha hka h1
        go_wp2_with (go_at_call 32; refine (L _).mono ?_; rintro e w' ⟨rfl, rfl⟩)
        exact ⟨⟨(lo + hi) / 2 + 1, hi, q, by rw [hmi.out]; rfl, rfl, by omega, by omega, rfl, h3, h2⟩, by simp [intOf]; omega⟩
    · obtain rfl : lo = hi := by omega
      have hk := has_split hs h1 fun a ha => h2 lo a (Nat.le_refl _) ha
      by_cases hlo : lo < s.length
      · obtain ⟨a, ha⟩ : ∃ a, s[lo]? = some a := ⟨_, List.getElem?_eq_getElem (by omega)⟩
        obtain ⟨b, o, rfl, cm⟩ := hc lo a ha
        rw [ha] at hk
        have hd : (a.toList == k.toList) = H := by rw [tl_eq, ← hH.out, hk]
        clear hc ha hk h1 h2 hH
        cases H
        · go_wp2_with (go_at_call 33; refine (nan_any _ _).mono ?_; rintro e w' ⟨rfl, rfl⟩)
          go_ret2
          refine ⟨(lo : Int), ?_, _, rfl⟩
          first | rfl | simp [*]
        · go_wp2_with (go_at_call 33; refine (nan_any _ _).mono ?_; rintro e w' ⟨rfl, rfl⟩)
          go_ret2
          refine ⟨(lo : Int), ?_, _, rfl⟩
          first | rfl | simp [*]
      · have hq : H = false := by rw [← hH.out, hk, List.getElem?_eq_none (by omega)]
        subst hq
        clear hc hk h1 h2 hH
        go_wp2_with (go_at_call 33; refine (nan_any _ _).mono ?_; rintro e w' ⟨rfl, rfl⟩)
        go_ret2
        exact ⟨_, rfl, _, rfl⟩
set_option maxHeartbeats 1000000 in
theorem has_any {w : World} {A : Option Addr} {n c B : Nat} {s : List ByteArray} (h : Rd w B 1 A n c (ks s)) (hn : n = s.length) (hs : Rises s) (hl : n ≤ 1000000) (k : ByteArray) :
    Calls Try.prog 15 #[.slice A n c, .string k] w fun e w' => e = .returned (.bool (hasK s k)) ∧ ∃ q, w' = w.drewN q := by
  have kb := search_any h hn hs hl k
  clear hn h hl
  go_enter Try.func15, Try.ntmps15
  go_wp2_with (go_at_call 25; refine kb.mono ?_; rintro e w' ⟨z, rfl, hw⟩)
  go_ret
  exact ⟨rfl, hw⟩
end Go.Proofs.Ytampggkjlpbbmaa
