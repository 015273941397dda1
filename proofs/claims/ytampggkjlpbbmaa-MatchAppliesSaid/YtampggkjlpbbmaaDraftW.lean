/- Layer 13: a draft's calls: has, turn, put, drop, set. Conditions: no more than a million keys. -/
import Derived.Maps.OwnSet
import Derived.Maps.Views
import Derived.Shelf.AbstractIn
import Derived.Test.YtampggkjlpbbmaaDifW
namespace Go.Proofs.Ytampggkjlpbbmaa
open Go.RowKit

theorem keyedStr : Maps.Keyed Try.prog 9 := Maps.string_keyed Try.underlying9
/-- A key as the map has it. -/
def kB (k : ByteArray) : Lit := .string k.data.toList
theorem key_str {k : ByteArray} (h : k.size ≤ maxLen) : keyOf Try.prog 9 (.string k) = some (kB k) := by
  simp [keyOf, Try.underlying9, mapKey, h, kB]
theorem kB_inj {a b : ByteArray} (h : kB a = kB b) : a = b := by
  have h := Lit.string.inj h
  exact ByteArray.ext (Array.toList_inj.1 h)
/-- A map that holds just the keys that T tells. -/
def MapT (w : World) (b n : Nat) (T : ByteArray → Bool) : Prop := ∃ (D : DataW Unit) (m : Nat), m ≤ n ∧ w.ownsMap Try.prog 9 unitElem b m D ∧ Maps.size D ≤ n ∧ ∀ k : ByteArray, k.size ≤ maxLen → Maps.has D (kB k) = T k
theorem MapT.kept {w w' : World} {b n : Nat} {T : ByteArray → Bool} {row : Option Nat} (h : MapT w b n T) (hg : w.grownBy w' row) (hne : some b ≠ row) : MapT w' b n T := by
  obtain ⟨D, m, h1, h2, h3⟩ := h
  exact ⟨D, m, h1, h2.kept hg hne, h3⟩
theorem MapT.alloc {w : World} {b n : Nat} {T : ByteArray → Bool} (h : MapT w b n T) (o : Obj) : MapT (w.alloc o) b n T := h.kept (World.grownBy_alloc w o none) (by simp)
theorem MapT.drewN {w : World} {b n : Nat} {T : ByteArray → Bool} (h : MapT w b n T) (q : Nat) : MapT (w.drewN q) b n T := h
theorem MapT.lt {w : World} {b n : Nat} {T : ByteArray → Bool} (h : MapT w b n T) : b < w.heap.size := by
  obtain ⟨D, m, h1, h2, h3⟩ := h
  exact h2.lt
/-- One key turned. -/
def flipT (T : ByteArray → Bool) (k : ByteArray) : ByteArray → Bool := fun x => if x = k then !T k else T x
theorem MapT.put {w w' : World} {b m n : Nat} {T : ByteArray → Bool} {D : DataW Unit} {k : ByteArray} (hT : T k = false) (hm : m ≤ n) (h : w.ownsMap Try.prog 9 unitElem b m D) (hs : Maps.size D ≤ n) (hh : ∀ k : ByteArray, k.size ≤ maxLen → Maps.has D (kB k) = T k)
    (h' : w'.ownsMap Try.prog 9 unitElem b (m + 1) (D.put (kB k) (.agg []))) : MapT w' b (n + 1) (flipT T k) := by
  refine ⟨_, m + 1, by omega, h', ?_, fun x hx => ?_⟩
  · rw [Maps.size_put (h.tidy keyedStr)]
    split <;> omega
  · unfold flipT
    by_cases e : x = k
    · subst e
      rw [if_pos rfl, hT, Maps.has_put_same h.isMap (by trivial)]
      rfl
    · rw [if_neg e, Maps.has_put_other fun e2 => e (kB_inj e2), hh x hx]
theorem MapT.del {w w' : World} {b m n : Nat} {T : ByteArray → Bool} {D : DataW Unit} {k : ByteArray} (hT : T k = true) (hm : m ≤ n) (h : w.ownsMap Try.prog 9 unitElem b m D) (hs : Maps.size D ≤ n) (hh : ∀ k : ByteArray, k.size ≤ maxLen → Maps.has D (kB k) = T k)
    (h' : w'.ownsMap Try.prog 9 unitElem b m (D.del (kB k))) : MapT w' b (n + 1) (flipT T k) := by
  refine ⟨_, m, by omega, h', ?_, fun x hx => ?_⟩
  · have := Maps.size_del (k := kB k) (h.tidy keyedStr)
    omega
  · unfold flipT
    by_cases e : x = k
    · subst e
      rw [if_pos rfl, hT, Maps.has_del_same]
      rfl
    · rw [if_neg e, Maps.has_del_other fun e2 => e (kB_inj e2), hh x hx]

/-- A draft. -/
def drf (A : Option Addr) (n c b : Nat) : Value := .agg #[.slice A n c, .map (some b)]
theorem zero_unit (w : World) : (zeroValue 66).run Try.prog w = .ok (.agg #[]) w := Try.zeroValue66 w

set_option maxRecDepth 100000 in
set_option maxHeartbeats 1000000 in
theorem dhas_any {w : World} {A : Option Addr} {n c b mm B : Nat} {s : List ByteArray} {T : ByteArray → Bool} {k : ByteArray} (h : Rd w B 1 A n c (ks s)) (hB : B ≤ w.heap.size) (hn : n = s.length) (hs : Rises s) (hl : n ≤ 1000000) (hM : MapT w b mm T) (hk : k.size ≤ maxLen) :
    Calls Try.prog 44 #[.agg #[.slice A n c, .map (some b)], .string k] w fun e w' => e = .returned (.bool (hasK s k != T k)) ∧ w.grownBy w' none := by
  obtain ⟨D, m, hm, hown, hsz, hh⟩ := hM
  have hT := hh k hk
  have hkey := key_str hk
  have kh := fun (W : World) (hW : Below B w W) => has_any (h.below hW) hn hs hl k
  obtain ⟨H, hH⟩ : ∃ H, hasK s k = H := ⟨_, rfl⟩
  rw [hH]
  simp only [hH] at kh
  rw [← hT]
  have hown1 := hown.alloc (.cells #[.slice A n c, .map (some b)] 52)
  have hz := zero_unit
  clear hT hh hm hsz hn hl h
  go_enter Try.func44, Try.ntmps44
  go_wp2_with (first
    | (at_lookup; go_loud (refine wpList_lookup_own_unit _ rfl _ _ 50 rfl 9 66 keyedStr Try.underlying50 (hz _) b m D rfl hown1 _ _ rfl hkey ?_))
    | (go_at_call 15; go_loud (refine (kh _ (((Below.refl B w).alloc hB _).alloc (size_alloc hB) _)).mono ?_; rintro e w' ⟨rfl, q, rfl⟩)))
  go_ret
  refine ⟨?_, ?_⟩
  · obtain ⟨y, hy⟩ : ∃ y, Maps.has D (kB k) = y := ⟨_, rfl⟩
    rw [hy]
    cases H <;> cases y <;> rfl
  · exact ((World.grownBy_alloc w _ none).trans (World.grownBy_alloc _ _ none)).trans ⟨rfl, rfl, rfl, Nat.le_refl _, fun _ _ _ => rfl⟩

set_option maxRecDepth 100000 in
set_option maxHeartbeats 1000000 in
theorem dturn_any {w : World} {A : Option Addr} {n c b mm : Nat} {T : ByteArray → Bool} {k : ByteArray} (hM : MapT w b mm T) (hmm : mm < 1000000) (hk : k.size ≤ maxLen) :
    Calls Try.prog 45 #[.agg #[.slice A n c, .map (some b)], .string k] w fun e w' => e = .returned (.tuple #[]) ∧ MapT w' b (mm + 1) (flipT T k) ∧ w.grownBy w' (some b) := by
  obtain ⟨D, m, hm, hown, hsz, hh⟩ := hM
  have hT := hh k hk
  have hkey := key_str hk
  have hown1 := hown.alloc (.cells #[.slice A n c, .map (some b)] 52)
  have hown2 := hown1.alloc (.cells #[] 66)
  have hz := zero_unit
  have hg2 : w.grownBy ((w.alloc (.cells #[.slice A n c, .map (some b)] 52)).alloc (.cells #[] 66)) (some b) := (World.grownBy_alloc w _ _).trans (World.grownBy_alloc _ _ _)
  cases hTk : T k
  · rw [hTk] at hT
    have fin : ∀ W, W.ownsMap Try.prog 9 unitElem b (m + 1) (D.put (kB k) (.agg [])) → MapT W b (mm + 1) (flipT T k) := fun W h => MapT.put hTk hm hown hsz hh h
    have hm1 : m < maxLen := by simp only [maxLen]; omega
    clear hh hm hsz hTk hmm hown
    go_enter Try.func45, Try.ntmps45
    go_wp2_with (first
      | (at_lookup; refine wpList_lookup_own_unit _ rfl _ _ 50 rfl 9 66 keyedStr Try.underlying50 (hz _) b m D rfl hown1 _ _ rfl hkey ?_)
      | (at_mapUpdate; go_loud (refine wpList_mapUpdate_own _ rfl _ _ _ 50 rfl 9 66 keyedStr Try.underlying50 _ b m _ rfl hown2 hm1 _ _ _ rfl rfl hkey _ [] unitElem_mk ?_; intro w3 hm3 hg3)))
    go_end0
    exact ⟨rfl, fin _ hm3, hg2.trans hg3⟩
  · rw [hTk] at hT
    have fin : ∀ W, W.ownsMap Try.prog 9 unitElem b m (D.del (kB k)) → MapT W b (mm + 1) (flipT T k) := fun W h => MapT.del hTk hm hown hsz hh h
    clear hh hm hsz hTk hmm hown
    go_enter Try.func45, Try.ntmps45
    go_wp2_with (first
      | (at_lookup; refine wpList_lookup_own_unit _ rfl _ _ 50 rfl 9 66 keyedStr Try.underlying50 (hz _) b m D rfl hown1 _ _ rfl hkey ?_)
      | (at_delete; go_loud (refine wpList_delete_own _ rfl _ _ 50 9 rfl 66 keyedStr Try.underlying50 _ b m D rfl hown2 _ _ rfl hkey ?_; intro w3 hm3 hg3)))
    (try simp only [Exit.inBlock, Exit.then])
    refine bodyPost_ret (results_none rfl _ _ _) rfl ?_
    exact ⟨rfl, fin _ hm3, hg2.trans hg3.grown⟩

/-- What a change does: it is done, and the key turned, or it is refused. -/
inductive Step (w w' : World) (b mm : Nat) (T : ByteArray → Bool) (k : ByteArray) (is add : Bool) : Int → Prop
  | done (h : is = !add) (hM : MapT w' b (mm + 1) (flipT T k)) (hg : w.grownBy w' (some b)) : Step w w' b mm T k is add 0
  | not (h : is = add) : Step w w' b mm T k is add (if add then 32 else 41)

theorem _root_.Go.World.grownBy.weak {w w' : World} (h : w.grownBy w' none) (row : Option Nat) : w.grownBy w' row := by
  obtain ⟨q1, q2, q3, q4, q5⟩ := h
  exact ⟨q1, q2, q3, q4, fun k hk _ => q5 k hk (by simp)⟩
theorem box2 (w : World) (x y : Value) (t : TypeId) : (w.alloc (.cells #[x, y] t)).cell? ⟨w.heap.size, 0, none⟩ = some x ∧ (w.alloc (.cells #[x, y] t)).cell? ⟨w.heap.size, 1, none⟩ = some y := by
  constructor
  · rw [cell_of_row _ _ _ _ _ _ (heap_alloc_new w _)]; rfl
  · rw [cell_of_row _ _ _ _ _ _ (heap_alloc_new w _)]; rfl
theorem box2_grown {w W : World} {x y : Value} {t : TypeId} (h : (w.alloc (.cells #[x, y] t)).grownBy W none) : W.cell? ⟨w.heap.size, 0, none⟩ = some x ∧ W.cell? ⟨w.heap.size, 1, none⟩ = some y := by
  obtain ⟨h1, h2⟩ := box2 w x y t
  exact ⟨h.cell h1 (by simp), h.cell h2 (by simp)⟩

set_option maxRecDepth 100000 in
set_option maxHeartbeats 1000000 in
theorem dput_any {w : World} {A : Option Addr} {n c b mm B : Nat} {s : List ByteArray} {T : ByteArray → Bool} {k : ByteArray} (h : Rd w B 1 A n c (ks s)) (hB : B ≤ w.heap.size) (hn : n = s.length) (hs : Rises s) (hl : n ≤ 1000000) (hM : MapT w b mm T) (hmm : mm < 1000000) (hk : k.size ≤ maxLen) :
    Calls Try.prog 28 #[.agg #[.slice A n c, .map (some b)], .string k] w fun e w' => ∃ z, e = .returned (.int .i64 z) ∧ Step w w' b mm T k (hasK s k != T k) true z ∧ w.grownBy w' (some b) := by
  have g1 := World.grownBy_alloc w (.cells #[.slice A n c, .map (some b)] 52) (some b)
  have kh := dhas_any (w := w.alloc (.cells #[.slice A n c, .map (some b)] 52)) (c := c) (b := b) (k := k) (h.below ((Below.refl B w).alloc hB _)) (size_alloc hB) hn hs hl (hM.alloc _) hk
  have kt := fun (W : World) (hW : (w.alloc (.cells #[.slice A n c, .map (some b)] 52)).grownBy W none) => dturn_any (A := A) (n := n) (c := c) ((hM.alloc (.cells #[.slice A n c, .map (some b)] 52)).kept hW (by simp)) hmm hk
  have kc := fun (W : World) (hW : (w.alloc (.cells #[.slice A n c, .map (some b)] 52)).grownBy W none) => box2_grown hW
  obtain ⟨I, hI⟩ : ∃ I, (hasK s k != T k) = I := ⟨_, rfl⟩
  rw [hI] at kh ⊢
  clear hI h hM hmm hl hn
  cases I
  · go_enter Try.func28, Try.ntmps28
    go_wp2_with (first
      | (go_at_call 44; refine kh.mono ?_; rintro e w1 ⟨rfl, hg1⟩; obtain ⟨p0, p1⟩ := kc _ hg1)
      | (go_at_call 45; refine (kt _ hg1).mono ?_; rintro e w2 ⟨rfl, hM2, hg2⟩)
      | fail)
    go_ret
    exact ⟨0, rfl, .done rfl hM2 (g1.trans ((hg1.weak _).trans hg2)), g1.trans ((hg1.weak _).trans hg2)⟩
  · go_enter Try.func28, Try.ntmps28
    go_wp2_with (first
      | (go_at_call 44; refine kh.mono ?_; rintro e w1 ⟨rfl, hg1⟩; obtain ⟨p0, p1⟩ := kc _ hg1)
      | (go_at_call 45; refine (kt _ hg1).mono ?_; rintro e w2 ⟨rfl, hM2, hg2⟩)
      | fail)
    go_ret
    exact ⟨32, rfl, .not rfl, g1.trans (hg1.weak _)⟩

set_option maxRecDepth 100000 in
set_option maxHeartbeats 1000000 in
theorem ddrop_any {w : World} {A : Option Addr} {n c b mm B : Nat} {s : List ByteArray} {T : ByteArray → Bool} {k : ByteArray} (h : Rd w B 1 A n c (ks s)) (hB : B ≤ w.heap.size) (hn : n = s.length) (hs : Rises s) (hl : n ≤ 1000000) (hM : MapT w b mm T) (hmm : mm < 1000000) (hk : k.size ≤ maxLen) :
    Calls Try.prog 29 #[.agg #[.slice A n c, .map (some b)], .string k] w fun e w' => ∃ z, e = .returned (.int .i64 z) ∧ Step w w' b mm T k (hasK s k != T k) false z ∧ w.grownBy w' (some b) := by
  have g1 := World.grownBy_alloc w (.cells #[.slice A n c, .map (some b)] 52) (some b)
  have kh := dhas_any (w := w.alloc (.cells #[.slice A n c, .map (some b)] 52)) (c := c) (b := b) (k := k) (h.below ((Below.refl B w).alloc hB _)) (size_alloc hB) hn hs hl (hM.alloc _) hk
  have kt := fun (W : World) (hW : (w.alloc (.cells #[.slice A n c, .map (some b)] 52)).grownBy W none) => dturn_any (A := A) (n := n) (c := c) ((hM.alloc (.cells #[.slice A n c, .map (some b)] 52)).kept hW (by simp)) hmm hk
  have kc := fun (W : World) (hW : (w.alloc (.cells #[.slice A n c, .map (some b)] 52)).grownBy W none) => box2_grown hW
  obtain ⟨I, hI⟩ : ∃ I, (hasK s k != T k) = I := ⟨_, rfl⟩
  rw [hI] at kh ⊢
  clear hI h hM hmm hl hn
  cases I
  · go_enter Try.func29, Try.ntmps29
    go_wp2_with (first
      | (go_at_call 44; refine kh.mono ?_; rintro e w1 ⟨rfl, hg1⟩; obtain ⟨p0, p1⟩ := kc _ hg1)
      | (go_at_call 45; refine (kt _ hg1).mono ?_; rintro e w2 ⟨rfl, hM2, hg2⟩)
      | fail)
    go_ret
    exact ⟨41, rfl, .not rfl, g1.trans (hg1.weak _)⟩
  · go_enter Try.func29, Try.ntmps29
    go_wp2_with (first
      | (go_at_call 44; refine kh.mono ?_; rintro e w1 ⟨rfl, hg1⟩; obtain ⟨p0, p1⟩ := kc _ hg1)
      | (go_at_call 45; refine (kt _ hg1).mono ?_; rintro e w2 ⟨rfl, hM2, hg2⟩)
      | fail)
    go_ret
    exact ⟨0, rfl, .done rfl hM2 (g1.trans ((hg1.weak _).trans hg2)), g1.trans ((hg1.weak _).trans hg2)⟩


/-! set -/
theorem mem_strKeys {D : DataW Unit} {w : World} {b n : Nat} (h : w.ownsMap Try.prog 9 unitElem b n D) (x : List UInt8) : x ∈ strKeys D ↔ Maps.has D (.string x) = true := by
  obtain ⟨es, rfl, hk⟩ := h.keysOf
  rw [Maps.has_eq, List.any_eq_true]
  show x ∈ es.map (fun p => _root_.Go.strOf p.1) ↔ _
  rw [List.mem_map]
  constructor
  · rintro ⟨p, hp, rfl⟩
    obtain ⟨v, hv⟩ := hk p hp
    obtain ⟨y, _, hy, _⟩ := Maps.keyOf_str Try.underlying9 hv
    exact ⟨p, hp, by rw [hy]; simp [Lit.sameKey, _root_.Go.strOf]⟩
  · rintro ⟨p, hp, hs⟩
    obtain ⟨v, hv⟩ := hk p hp
    obtain ⟨y, _, hy, _⟩ := Maps.keyOf_str Try.underlying9 hv
    rw [hy] at hs
    simp only [Lit.sameKey, beq_iff_eq] at hs
    exact ⟨p, hp, by rw [hy]; exact hs⟩
theorem keys_any (b : Nat) (w : World) : Calls Try.prog 31 #[.map (some b)] w fun e w' => e = .returned (.func (.func 47) #[] #[.pointer (some ⟨w.heap.size, 0, none⟩)]) ∧ w' = w.alloc (.cells #[.map (some b)] 50) :=
  callsIn_wide.1 (AnyZ.keys_in laysKeys Fence.wide 5 trivial rfl (some b) w)
theorem sorts_in (m : Nat) : AnyZ.SortsIn Try.prog laysSorted_ren Fence.wide m :=
  ⟨fun blk off cap ss W hH hblk hsz => callsIn_wide.2 (AnyM.slices_Sort_string laysSort blk off cap ss W hH hblk hsz),
   fun p cap W => callsIn_wide.2 (AnyM.slices_Sort_string_none laysSort p cap W)⟩
set_option maxHeartbeats 1000000 in
theorem sorted_any {w : World} {b mm : Nat} {T : ByteArray → Bool} (hM : MapT w b mm T) (hmm : mm < 1000000) :
    Calls Try.prog 30 #[.func (.func 47) #[] #[.pointer (some ⟨w.heap.size, 0, none⟩)]] (w.alloc (.cells #[.map (some b)] 50)) fun e w' =>
      ∃ A c t, e = .returned (.slice A t.length c) ∧ Rises t ∧ t.length ≤ mm ∧ (∀ k : ByteArray, k ∈ t ↔ k.size ≤ maxLen ∧ T k = true) ∧ Rd w' w'.heap.size 1 A t.length c (ks t) ∧ Below w.heap.size w w' := by
  obtain ⟨D, m, hm, hown, hsz, hh⟩ := hM
  have hbl := hown.lt
  have hseq : SeqGives Fence.wide 2 Try.prog 47 #[.pointer (some ⟨w.heap.size, 0, none⟩)] encStr (fun ss => ss.Perm (strKeys D)) (Maps.size D) (w.alloc (.cells #[.map (some b)] 50)) :=
    AnyZ.keys_gives (ρ := laysKeys_ren) { laysKeys with } Fence.wide _ trivial rfl (by omega) w.heap.size b m D _ (by simp) (by simp) (hown.alloc _)
  have cS := AnyZ.sorted_in laysSorted Fence.wide 5 trivial trivial trivial trivial rfl (by omega) (sorts_in _) (enters_of Try.func19 (by kernel_rfl) rfl) 47 #[.pointer (some ⟨w.heap.size, 0, none⟩)] trivial (enters_of Try.func47 (by kernel_rfl) rfl) _ _ (by simp only [maxLen]; omega) (by omega) _ hseq
  refine (callsIn_wide.1 cS).mono ?_
  rintro e w' ⟨v, ss, rfl, hp, hrow, _, hb⟩
  have hnd : (strKeys D).Nodup := by
    obtain ⟨es, hD, hpw, _⟩ := hown.entries keyedStr
    obtain ⟨es', hD', hko⟩ := hown.keysOf
    obtain rfl : es = es' := by rw [hD] at hD'; simpa using hD'
    subst hD
    show (es.map fun p => _root_.Go.strOf p.1).Nodup
    refine List.pairwise_map.2 (hpw.imp_of_mem fun {p q} hp' hq' hne e => hne ?_)
    obtain ⟨v1, hv1⟩ := hko p hp'
    obtain ⟨v2, hv2⟩ := hko q hq'
    obtain ⟨y1, _, hy1, _⟩ := Maps.keyOf_str Try.underlying9 hv1
    obtain ⟨y2, _, hy2, _⟩ := Maps.keyOf_str Try.underlying9 hv2
    rw [hy1, hy2] at e ⊢
    exact congrArg _ e
  obtain ⟨h1, h2⟩ := sorted_nodup (hp.nodup_iff.2 hnd)
  obtain ⟨ms, hms⟩ : ∃ ms, (ss.mergeSort fun x y => decide (x ≤ y)) = ms := ⟨_, rfl⟩
  have hlen : ss.length = (ms.map keyB).length := by rw [List.length_map, ← hms, List.length_mergeSort]
  rw [hms] at hrow h1 h2
  rw [hlen, ks_enc] at hrow
  obtain ⟨A, c, rfl, hr⟩ := Rd.own hrow
  have hsk : (strKeys D).length = Maps.size D := by
    obtain ⟨es, rfl, _⟩ := hown.keysOf
    exact List.length_map _
  refine ⟨A, c, ms.map keyB, rfl, h1, by rw [← hlen, hp.length_eq, hsk]; exact hsz, fun k => ?_, hr, bthen (bnew w _) (by simp) hb⟩
  rw [h2 k, hp.mem_iff, mem_strKeys hown]
  constructor
  · intro hk
    have hkl : k.size ≤ maxLen := by
      have := strKeys_le hown Try.underlying9 k.data.toList ((mem_strKeys hown _).2 hk)
      rw [Array.length_toList] at this
      exact this
    exact ⟨hkl, by rw [← hh k hkl]; exact hk⟩
  · rintro ⟨hkl, hk⟩
    rw [← hh k hkl] at hk
    exact hk

set_option maxRecDepth 100000 in
set_option maxHeartbeats 2000000 in
theorem set_any {w : World} {A : Option Addr} {c b mm : Nat} {s : List ByteArray} {T : ByteArray → Bool} (h : Rd w w.heap.size 1 A s.length c (ks s)) (hs : Rises s) (hl : s.length ≤ 1000000) (hM : MapT w b mm T) (hmm : mm < 1000000) :
    Calls Try.prog 23 #[.agg #[.slice A s.length c, .map (some b)]] w fun e w' => ∃ A' c' r, e = .returned (.slice A' r.length c') ∧ Rises r ∧ (∀ k : ByteArray, hasK r k = (hasK s k != (decide (k.size ≤ maxLen) && T k))) ∧ r.length ≤ s.length + mm ∧ Rd w' w'.heap.size 1 A' r.length c' (ks r) ∧ Below w.heap.size w w' := by
  obtain ⟨i0, hi0, hz0, hz1, hz2⟩ := info_parts info_string
  obtain ⟨w1, hw1⟩ : ∃ w1, w.alloc (.cells #[.slice A s.length c, .map (some b)] 52) = w1 := ⟨_, rfl⟩
  have hb1 : Below w.heap.size w w1 := hw1 ▸ bnew w _
  have hM1 : MapT w1 b mm T := hw1 ▸ hM.alloc _
  obtain ⟨p0, p1⟩ := box2 w (.slice A s.length c) (.map (some b)) 52
  rw [hw1] at p0 p1
  have hlt1 : w.heap.size < w1.heap.size := by rw [← hw1]; simp
  have kk := keys_any b w1
  have ksr := sorted_any hM1 hmm
  have h1 := h.up hb1
  clear hM hM1 h
  go_enter Try.func23, Try.ntmps23
  go_upto_region 1 with (fail)
  clear hw1
  go_upto_region 2 with (first
    | (go_at_call 31; refine kk.mono ?_; rintro e w' ⟨rfl, rfl⟩)
    | (go_at_call 30; refine ksr.mono ?_; rintro e w2 ⟨A2, c2, t, rfl, ht, htl, hmem, hR2, hb2⟩)
    | fail)
  have q0 : w2.cell? ⟨w.heap.size, 0, none⟩ = some (.slice A s.length c) := (hb2.cell hlt1).trans p0
  have h2 := h1.up hb2
  have hb02 := bthen hb1 hb1.size hb2
  have kd := diff_any h2 hR2 hl (by omega)
  obtain ⟨hr1, hr2⟩ := dif_fst hs ht
  have hdl := difS_len s t
  obtain ⟨d, hd⟩ : ∃ d, difS s t = d := ⟨_, rfl⟩
  rw [hd] at kd hr1 hr2 hdl
  clear kk ksr p0 p1 h1 h2 hR2 hb1 hb2 hd
  go_upto_region 4 with (go_at_call 17; refine kd.mono ?_; rintro e w3 ⟨A3, c3, rfl, hR3, hb3⟩)
  have hb03 := bthen hb02 hb02.size hb3
  clear kd q0 hb02 hb3 hlt1
  go_wp2_with fail
  go_loopw [4, 16] (fun vm vi wx => ∃ i : Nat, vi = .int .i64 i ∧ i ≤ d.length ∧ wx.ownsRow w3.heap.size 9 1 vm i (ks ((d.take i).map Prod.fst)) ∧ Below w3.heap.size w3 wx) (fun _ vi _ => d.length - (intOf vi).toNat)
  case atStart => exact ⟨0, rfl, Nat.zero_le _, World.ownsRow_nil _ _ _ _, Below.refl _ _⟩
  case round =>
    obtain ⟨i, rfl, hi, hO, hb⟩ := hrel
    have hws := hb.size
    by_cases hil : i < d.length
    · have di : (i : Int) < (d.length : Int) := by omega
      obtain ⟨p, hp⟩ : ∃ p, d[i]? = some p := ⟨_, List.getElem?_eq_getElem hil⟩
      obtain ⟨b3, o3, rfl, hlb, g0, g1⟩ := rd_pair (hR3.below hb) hp
      obtain ⟨A4, c4, rfl, _⟩ := Rd.own hO
      obtain ⟨k, e⟩ := p
      dsimp only at g0 g1
      have htk : (d.take (i + 1)).map Prod.fst = (d.take i).map Prod.fst ++ [k] := by rw [List.take_add_one, hp]; simp
      have hO1 := hO.alloc (.cells #[.string k, .bool e] 40)
      have hb4 := hb.alloc hws (.cells #[.string k, .bool e] 40)
      go_wp2_with (at_builtin; go_loud (refine wpList_append_src _ rfl (.tmp 20) (.tmp 23) 26 26 rfl w3.heap.size 9 i0 (.string ⟨#[]⟩) 1 16 Try.underlying26 hi0 hz0 hz1 hz2 rfl (by decide) (.slice A4 i c4) i _ rfl (hO1.alloc _) _ 1 [.string k] rfl (Src.ofSlice _ Try.underlying26 _ 1 1 _ rfl (cells_at _ #[.string k] _ _ (by simp)) (ks_one [k])) (by simp only [maxLen]; omega) (by omega) (size_alloc (size_alloc hws)) ?_; intro v9 w8 hown8 hg8 hat8))
      have hO9 : w8.ownsRow w3.heap.size 9 1 v9 (i + 1) (ks ((d.take (i + 1)).map Prod.fst)) := by rw [htk, ks_app]; exact hown8
      have hb9 := below_of_own (hb4.alloc (size_alloc hws) _) hg8 (hO1.alloc _) (size_alloc (size_alloc hws)) (Nat.le_refl _)
      exact ⟨⟨i + 1, by go_num, by omega, hO9, hb9⟩, by simp [intOf]; omega⟩
    · obtain rfl : i = d.length := by omega
      have di : ¬ (((d.length : Nat) : Int) < (d.length : Int)) := by omega
      rw [List.take_length] at hO
      obtain ⟨A4, c4, rfl, hR4⟩ := Rd.own hO
      go_wp2_with fail
      go_ret
      have hlm : d.length = (d.map Prod.fst).length := by simp
      refine ⟨A4, c4, d.map Prod.fst, by rw [← hlm]; rfl, hr1, fun k => ?_, by rw [← hlm]; omega, by rw [← hlm]; exact hR4, bthen hb03 hb03.size hb⟩
      rw [hr2 k]
      congr 1
      rw [Bool.eq_iff_iff, hasK_iff, hmem k, Bool.and_eq_true, decide_eq_true_eq]
end Go.Proofs.Ytampggkjlpbbmaa
