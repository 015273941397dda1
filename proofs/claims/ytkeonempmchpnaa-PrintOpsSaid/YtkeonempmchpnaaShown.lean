/- Layer 8: a relation as a text: who, and the rest. Conditions: names and lists aren't too long. -/
import Derived.Deep.DeepCutAuto
import Derived.Test.YtkeonempmchpnaaRewr
namespace Go.Proofs.Ytkeonempmchpnaa
open Go.RowKit

def subS (s : SubP) : ByteArray := if s.2 = ⟨#[]⟩ then s.1 else s.1 ++ ⟨#[35]⟩ ++ s.2
def tailJ (sep : ByteArray) : List ByteArray → ByteArray
  | [] => ⟨#[]⟩
  | x :: r => sep ++ x ++ tailJ sep r
def joinJ (sep : ByteArray) : List ByteArray → ByteArray
  | [] => ⟨#[]⟩
  | x :: r => x ++ tailJ sep r
def subsS (l : List SubP) : ByteArray := joinJ ⟨#[44, 32]⟩ (l.map subS)
def aloneB (l : List OpP) : Bool := match l with
  | [o] => o.1 == 1
  | _ => false
def headS (x : RelP) : ByteArray := (⟨#[114, 101, 108, 32]⟩ : ByteArray) ++ x.name ++ ⟨#[32, 40]⟩ ++ x.view ++ ⟨#[44, 32]⟩ ++ x.edit ++ ⟨#[44, 32]⟩ ++ x.check ++ ⟨#[41, 58]⟩
def whoS (x : RelP) : ByteArray := if x.subs.length = 0 then headS x else headS x ++ (⟨#[32]⟩ ++ subsS x.subs)
def relS (x : RelP) : ByteArray := (if aloneB x.ops = true then whoS x else whoS x ++ (⟨#[32, 105, 115, 32]⟩ ++ rewS x.ops)) ++ ⟨#[59]⟩
/-- Names and lists that aren't too long. -/
structure Sml (x : RelP) : Prop where
  name : x.name.size ≤ 1000
  view : x.view.size ≤ 1000
  edit : x.edit.size ≤ 1000
  check : x.check.size ≤ 1000
  subs : x.subs.length ≤ 100000 ∧ ∀ s ∈ x.subs, s.1.size ≤ 1000 ∧ s.2.size ≤ 1000
  ops : x.ops.length ≤ 100000 ∧ ∀ o ∈ x.ops, o.2.1.size ≤ 1000 ∧ o.2.2.size ≤ 1000
theorem sub_size {s : SubP} (h1 : s.1.size ≤ 1000) (h2 : s.2.size ≤ 1000) : (subS s).size ≤ 2001 := by
  unfold subS
  split
  · omega
  · rw [size_app, size_app]
    show s.1.size + 1 + s.2.size ≤ 2001
    omega
theorem tail_size (sep : ByteArray) (hs : sep.size ≤ 2) : ∀ l : List ByteArray, (∀ x ∈ l, x.size ≤ 2001) → (tailJ sep l).size ≤ 2003 * l.length
  | [], _ => Nat.le_refl _
  | x :: r, h => by
    show (sep ++ x ++ tailJ sep r).size ≤ _
    have := tail_size sep hs r fun y hy => h y (List.mem_cons_of_mem _ hy)
    have := h x List.mem_cons_self
    rw [size_app, size_app, List.length_cons]
    omega
theorem subs_size {l : List SubP} (h : ∀ s ∈ l, s.1.size ≤ 1000 ∧ s.2.size ≤ 1000) : (subsS l).size ≤ 2003 * l.length := by
  cases l with
  | nil => exact Nat.le_refl _
  | cons s r =>
    show (subS s ++ tailJ _ (r.map subS)).size ≤ _
    have h1 := sub_size (h s List.mem_cons_self).1 (h s List.mem_cons_self).2
    have h2 := tail_size ⟨#[44, 32]⟩ (by decide) (r.map subS) fun x hx => by
      obtain ⟨y, hy, rfl⟩ := List.mem_map.1 hx
      exact sub_size (h y (List.mem_cons_of_mem _ hy)).1 (h y (List.mem_cons_of_mem _ hy)).2
    rw [List.length_map] at h2
    rw [size_app, List.length_cons]
    omega
theorem rew_size {l : List OpP} (h : ∀ o ∈ l, o.2.1.size ≤ 1000 ∧ o.2.2.size ≤ 1000) : (rewS l).size ≤ 3000 * l.length := by
  have := (fold_len l [] h).2.2
  have e : (catL (flatG [])).size = 0 := rfl
  rw [e] at this
  unfold rewS
  omega
theorem who_size {x : RelP} (h : Sml x) : (headS x).size ≤ 4100 ∧ (whoS x).size ≤ 4101 + 2003 * x.subs.length := by
  have h1 := h.name
  have h2 := h.view
  have h3 := h.edit
  have h4 := h.check
  have hh : (headS x).size ≤ 4100 := by
    unfold headS
    simp only [size_app]
    show 4 + _ + 2 + _ + 2 + _ + 2 + _ + 2 ≤ _
    omega
  refine ⟨hh, ?_⟩
  unfold whoS
  split
  · omega
  · have := subs_size h.subs.2
    rw [size_app, size_app]
    show _ + (1 + _) ≤ _
    omega
theorem tailJ_eq (sep : ByteArray) : ∀ xs : List ByteArray, Lib.joinTail sep.data.toList (xs.map (·.data.toList)) = (tailJ sep xs).data.toList
  | [] => rfl
  | x :: r => by
    have ih := tailJ_eq sep r
    unfold Lib.joinTail at *
    rw [List.map_cons, List.map_cons, List.flatten_cons, ih]
    show _ = (sep ++ x ++ tailJ sep r).data.toList
    rw [ByteArray.data_append, ByteArray.data_append, Array.toList_append, Array.toList_append]
theorem joinJ_eq (sep : ByteArray) (xs : List ByteArray) : Lib.join (xs.map (·.data.toList)) sep.data.toList = (joinJ sep xs).data.toList := by
  cases xs with
  | nil => rfl
  | cons x r =>
    rw [List.map_cons, Lib.join_cons, tailJ_eq]
    show _ = (x ++ tailJ sep r).data.toList
    rw [ByteArray.data_append, Array.toList_append]
theorem joinJ_any {w : World} {B : Nat} {A : Option Addr} {c : Nat} {xs : List ByteArray} (sep : ByteArray) (h : w.ownsRow B 9 1 (.slice A xs.length c) xs.length (xs.map .string)) (hz : (joinJ sep xs).size ≤ 1000000000) (hn : xs.length ≤ 1000000) :
    Calls Try.prog 30 #[.slice A xs.length c, .string sep] w fun e w' => e = .returned (.string (joinJ sep xs)) ∧ Below w.heap.size w w' := by
  rcases Nat.eq_zero_or_pos xs.length with h0 | h0
  · have hx := List.eq_nil_of_length_eq_zero h0
    subst hx
    exact (join_none A c sep w).mono fun e w' ⟨h1, h2⟩ => ⟨h1, by subst h2; exact Below.refl _ _⟩
  · obtain ⟨g, rfl, _, hl, hc⟩ := own_sz h h0
    refine (join_some g 0 c xs sep w (fun j x hj => ?_) hl (by omega) hc ?_).mono fun e w' ⟨h1, h2⟩ => ⟨?_, h2⟩
    · rw [Nat.zero_add, h.cellAt j (by have := (List.getElem?_eq_some_iff.1 hj).1; omega), List.getElem?_map, hj]
      rfl
    · rw [joinJ_eq, Array.length_toList]
      exact Nat.le_trans hz (by omega)
    · rw [h1, joinJ_eq]
section
variable {w : World}
set_option maxRecDepth 100000 in
theorem sub_any8 (s : SubP) (h1 : s.1.size ≤ 1000) (h2 : s.2.size ≤ 1000) : Calls Try.prog 73 #[.agg #[.string s.1, .string s.2]] w fun e w' => e = .returned (.string (subS s)) ∧ Below w.heap.size w w' := by
  have hb := Bk.new w #[.string s.1, .string s.2] 61
  have b0 := hb.cell 0
  have b1 := hb.cell 1
  have lb := hb.lt
  have hB : Below w.heap.size w (w.alloc (.cells #[.string s.1, .string s.2] 61)) := (Below.refl _ w).alloc (Nat.le_refl _) _
  clear hb
  unfold subS
  by_cases he : s.2 = ⟨#[]⟩
  · rw [if_pos he]
    have d : s.2.toList.isEmpty = true := by rw [he]; decide +kernel
    clear he
    go_enter Try.func73, Try.ntmps73
    go_wp2_with fail
    go_returns
    exact ⟨rfl, hB⟩
  · rw [if_neg he]
    have d : s.2.toList.isEmpty = false := list_ne2 (by
      rcases Nat.eq_zero_or_pos s.2.size with h | h
      · exact absurd (nil_size h) he
      · exact h)
    go_enter Try.func73, Try.ntmps73
    go_wp2_with fail
    go_returns
    exact ⟨rfl, hB⟩
set_option maxRecDepth 100000 in
set_option maxHeartbeats 1000000 in
theorem subs_any8 {A : Option Addr} {c : Nat} {l : List SubP} (hr : Rd w w.heap.size 2 A l.length c (scells l)) (hn : l.length ≤ 100000) (hs : ∀ s ∈ l, s.1.size ≤ 1000 ∧ s.2.size ≤ 1000) :
    Calls Try.prog 57 #[.slice A l.length c] w fun e w' => e = .returned (.string (subsS l)) ∧ Below w.heap.size w w' := by
  have HS := Lib.hid hs
  go_enter Try.func57, Try.ntmps57
  go_wp2_with fail
  go_loopw [3, 8] (fun vt vi wr => ∃ i : Nat, vi = .int .i64 i ∧ i ≤ l.length ∧ wr.ownsRow w.heap.size 9 1 vt i (((l.take i).map subS).map .string) ∧ Below w.heap.size w wr) (fun _ vi _ => l.length - (intOf vi).toNat)
  case atStart => exact ⟨0, rfl, Nat.zero_le _, World.ownsRow_nil _ _ _ _, Below.refl _ _⟩
  case round =>
    obtain ⟨i, rfl, hi, ho, hb⟩ := hrel
    obtain ⟨A1, c1, rfl, _⟩ := Rd.own ho
    by_cases hil : i < l.length
    · obtain ⟨s, hsi⟩ : ∃ s, l[i]? = some s := ⟨l[i], List.getElem?_eq_getElem hil⟩
      obtain ⟨s1, s2⟩ := HS.out s (List.mem_of_getElem? hsi)
      have hrr := hr.below hb
      obtain ⟨b, f, rfl, hbb, hc⟩ := hrr.at_ (by omega)
      obtain ⟨e0, e1⟩ := scells_at l i s hsi
      have q0 := hc _ _ e0
      have q1 : wr.cell? ⟨b, f + i * 2 + 1, none⟩ = _ := hc _ _ e1
      have hdi : (i : Int) < (l.length : Nat) := by omega
      have hz := hb.size
      have hbs := Bk.new wr #[.string s.1, .string s.2] 61
      have x0 : World.cell? _ ⟨wr.heap.size, 0, none⟩ = some (.string s.1) := hbs.cell 0
      have x1 : World.cell? _ ⟨wr.heap.size, 1, none⟩ = some (.string s.2) := hbs.cell 1
      have lb := hbs.lt
      have hb2 := hb.alloc hz (.cells #[.string s.1, .string s.2] 61)
      have ho2 := own_below ho ((Below.refl _ wr).alloc (Nat.le_refl _) (.cells #[.string s.1, .string s.2] 61))
      have ht : (l.take (i + 1)).map subS = (l.take i).map subS ++ [subS s] := by rw [take_snoc8 hsi, List.map_append]; rfl
      clear hr hrr hs hbs ho hb
      go_wp2_with fail
      generalize wr.alloc (.cells #[.string s.1, .string s.2] 61) = W at *
      refine (sub_any8 s s1 s2).mono ?_
      rintro e W2 ⟨rfl, hb3⟩
      have hb4 := hb2.trans (hb3.mono hb2.size)
      have ho4 := own_below ho2 hb3
      have hz4 := hb4.size
      obtain ⟨i0, hi0, hz0, hz1, hz2⟩ := info_parts info_str
      clear hb2 hb3 ho2 x0 x1 q0 q1
      go_wp2_with (at_builtin; refine wpList_append_src _ rfl (.tmp 12) (.tmp 15) 58 58 rfl w.heap.size 9 i0 (.string .empty) 1 16 Try.underlying58 hi0 hz0 hz1 hz2 rfl (by decide) _ i (((l.take i).map subS).map .string) rfl (World.ownsRow.alloc ho4 _) _ 1 [.string (subS s)] rfl (Src.ofSlice _ Try.underlying58 _ 1 1 _ rfl (cells_new1 _ _ _) (str_one [subS s])) (by simp only [maxLen]; omega) (by omega) (size_alloc hz4) ?_; intro v1 W5 hown1 hg1 hat1; obtain ⟨A5, c5, rfl, _⟩ := Rd.own hown1)
      refine ⟨⟨i + 1, by go_num, by omega, ?_, ?_⟩, ?_⟩
      · rw [ht, List.map_append]
        exact hown1
      · exact below_of_own (v := .slice A1 i c1) (hb4.alloc hz4 _) hg1 (World.ownsRow.alloc ho4 _) (size_alloc hz4) (Nat.le_refl _)
      · simp only [intOf]; omega
    · obtain rfl : i = l.length := by omega
      have hdi : ¬ (l.length : Int) < (l.length : Nat) := by omega
      rw [List.take_length] at ho
      have hl : (l.map subS).length = l.length := List.length_map ..
      have hsz := subs_size HS.out
      have kj := joinJ_any (w := wr) (B := w.heap.size) (A := A1) (c := c1) (xs := l.map subS) ⟨#[44, 32]⟩ (by rw [hl]; exact ho) (by show (subsS l).size ≤ _; omega) (by omega)
      rw [hl, show joinJ ⟨#[44, 32]⟩ (l.map subS) = subsS l from rfl] at kj
      have hz := hb.size
      clear ho hr hs hl
      go_wp2_with fail
      refine kj.mono ?_
      rintro e W2 ⟨rfl, hb2⟩
      go_wp2_with fail
      go_returns
      exact ⟨rfl, hb.trans (hb2.mono hz)⟩
set_option maxRecDepth 100000 in
theorem alone_any8 {A : Option Addr} {c : Nat} {l : List OpP} (hr : Rd w w.heap.size 3 A l.length c (ocells l)) :
    Calls Try.prog 58 #[.slice A l.length c] w fun e w' => e = .returned (.bool (aloneB l)) ∧ Below w.heap.size w w' := by
  rcases l with _ | ⟨o, _ | ⟨o2, r⟩⟩
  · go_enter Try.func58, Try.ntmps58
    go_wp2_with fail
    go_returns
    exact ⟨rfl, Below.refl _ _⟩
  · obtain ⟨b, f, rfl, hbb, hc⟩ := hr.at_ (show 0 < 1 by omega)
    have q0 : w.cell? ⟨b, f, none⟩ = some (.int .i64 (o.1 : Nat)) := hc 0 _ rfl
    have hv : aloneB [o] = (((o.1 : Nat) : Int) == 1) := by
      show (o.1 == 1) = _
      rw [Bool.eq_iff_iff]
      simp only [beq_iff_eq]
      omega
    rw [hv]
    clear hr hc hv
    obtain ⟨k, hk⟩ : ∃ k : Int, ((o.1 : Nat) : Int) = k := ⟨_, rfl⟩
    rw [hk] at q0 ⊢
    go_enter Try.func58, Try.ntmps58
    go_wp2_with fail
    go_returns
    exact ⟨rfl, Below.refl _ _⟩
  · have d : ((((o :: o2 :: r).length : Nat) : Int) == 1) = false := by
      rw [beq_eq_false_iff_ne]
      simp only [List.length_cons]
      omega
    obtain ⟨n, hn⟩ : ∃ n, (o :: o2 :: r).length = n := ⟨_, rfl⟩
    rw [hn] at d ⊢
    clear hr hn
    go_enter Try.func58, Try.ntmps58
    go_wp2_with fail
    go_returns
    exact ⟨rfl, Below.refl _ _⟩
/-- A relation's value. -/
def relV (As : Option Addr) (cS : Nat) (Ao : Option Addr) (cO : Nat) (x : RelP) : Value := .agg #[.string x.name, .string x.view, .string x.edit, .string x.check, .slice As x.subs.length cS, .slice Ao x.ops.length cO]
set_option maxRecDepth 100000 in
set_option maxHeartbeats 1000000 in
theorem relation_any8 {As Ao : Option Addr} {cS cO : Nat} {x : RelP} (hs : Rd w w.heap.size 2 As x.subs.length cS (scells x.subs)) (ho : Rd w w.heap.size 3 Ao x.ops.length cO (ocells x.ops)) (hx : Sml x) :
    Calls Try.prog 33 #[relV As cS Ao cO x] w fun e w' => e = .returned (.string (relS x)) ∧ Below w.heap.size w w' := by
  have h1 := hx.name
  have h2 := hx.view
  have h3 := hx.edit
  have h4 := hx.check
  have h5 := (who_size hx).1
  have h6 := (who_size hx).2
  have h7 := hx.subs.1
  have h8 := hx.ops.1
  have h9 := subs_size hx.subs.2
  have h10 := rew_size hx.ops.2
  unfold relV
  have hb := Bk.new w #[.string x.name, .string x.view, .string x.edit, .string x.check, .slice As x.subs.length cS, .slice Ao x.ops.length cO] 42
  have hB : Below w.heap.size w (w.alloc (.cells #[.string x.name, .string x.view, .string x.edit, .string x.check, .slice As x.subs.length cS, .slice Ao x.ops.length cO] 42)) := (Below.refl _ w).alloc (Nat.le_refl _) _
  have HH : Hid (headS x = (⟨#[114, 101, 108, 32]⟩ : ByteArray) ++ x.name ++ ⟨#[32, 40]⟩ ++ x.view ++ ⟨#[44, 32]⟩ ++ x.edit ++ ⟨#[44, 32]⟩ ++ x.check ++ ⟨#[41, 58]⟩) := Lib.hid rfl
  have b0 := hb.cell 0
  have b1 := hb.cell 1
  have b2 := hb.cell 2
  have b3 := hb.cell 3
  have b4 := hb.cell 4
  have b5 := hb.cell 5
  have lb := hb.lt
  have hs' := hs.below hB
  have ho' := ho.below hB
  have hN := hx.subs.2
  have hO := hx.ops.2
  have hsz := hB.size
  clear hs ho hx hb
  obtain ⟨RS, hRS⟩ : ∃ r, relS x = r := ⟨_, rfl⟩
  rw [hRS]
  have hR1 : ∀ b, aloneB x.ops = b → (if b = true then whoS x else whoS x ++ (⟨#[32, 105, 115, 32]⟩ ++ rewS x.ops)) ++ ⟨#[59]⟩ = RS := fun b hb => by rw [← hRS, ← hb]; rfl
  clear hRS
  generalize hw : whoS x = WS at *
  unfold whoS at hw
  go_enter Try.func33, Try.ntmps33
  by_cases hz : x.subs.length = 0
  · rw [if_pos hz] at hw
    have d : ¬ (0 : Int) < (x.subs.length : Nat) := by omega
    clear hz
    go_wp2_with fail
    rw [← HH.out, hw]
    generalize (w.alloc (.cells #[.string x.name, .string x.view, .string x.edit, .string x.check, .slice As x.subs.length cS, .slice Ao x.ops.length cO] 42)) = W at *
    refine (alone_any8 (ho'.more hsz)).mono ?_
    rintro e V ⟨rfl, hV⟩
    have b5' := (hV.cell (p := ⟨w.heap.size, 5, none⟩) lb).trans b5
    have lb' : w.heap.size < V.heap.size := Nat.lt_of_lt_of_le lb hV.size
    have hoV := ((ho'.more hsz).below hV).more hV.size
    have hBV := hB.trans (hV.mono hsz)
    cases hal : aloneB x.ops with
    | true =>
      have hR2 := hR1 _ hal
      simp only [↓reduceIte] at hR2
      subst hR2
      clear hR1
      go_wp2_with fail
      go_returns
      exact ⟨rfl, hBV⟩
    | false =>
      have hR2 := hR1 _ hal
      simp only [Bool.false_eq_true, ↓reduceIte] at hR2
      subst hR2
      clear hR1
      go_wp2_with fail
      refine (rewrite_any hoV h8 hO).mono ?_
      rintro e V2 ⟨rfl, hV2⟩
      go_wp2_with fail
      go_returns
      exact ⟨rfl, hBV.trans (hV2.mono hBV.size)⟩
  · rw [if_neg hz] at hw
    have d : (0 : Int) < (x.subs.length : Nat) := by omega
    clear hz
    go_wp2_with fail
    rw [← HH.out]
    have h5' := h5
    generalize headS x = HD at *
    generalize (w.alloc (.cells #[.string x.name, .string x.view, .string x.edit, .string x.check, .slice As x.subs.length cS, .slice Ao x.ops.length cO] 42)) = W at *
    refine (subs_any8 (hs'.more hsz) h7 hN).mono ?_
    rintro e U ⟨rfl, hU⟩
    have b5u := (hU.cell (p := ⟨w.heap.size, 5, none⟩) lb).trans b5
    have lbu : w.heap.size < U.heap.size := Nat.lt_of_lt_of_le lb hU.size
    have hoU := ((ho'.more hsz).below hU).more hU.size
    have hBU := hB.trans (hU.mono hsz)
    go_wp2_with fail
    refine (alone_any8 hoU).mono ?_
    rintro e V ⟨rfl, hV⟩
    have b5' := (hV.cell (p := ⟨w.heap.size, 5, none⟩) lbu).trans b5u
    have lb' : w.heap.size < V.heap.size := Nat.lt_of_lt_of_le lbu hV.size
    have hoV := (hoU.below hV).more hV.size
    have hBV := hBU.trans (hV.mono hBU.size)
    cases hal : aloneB x.ops with
    | true =>
      have hR2 := hR1 _ hal
      simp only [↓reduceIte] at hR2
      subst hR2
      clear hR1
      go_wp2_with fail
      go_returns
      exact ⟨rfl, hBV⟩
    | false =>
      have hR2 := hR1 _ hal
      simp only [Bool.false_eq_true, ↓reduceIte] at hR2
      subst hR2
      clear hR1
      go_wp2_with fail
      refine (rewrite_any hoV h8 hO).mono ?_
      rintro e V2 ⟨rfl, hV2⟩
      go_wp2_with fail
      go_returns
      exact ⟨rfl, hBV.trans (hV2.mono hBV.size)⟩
end
end Go.Proofs.Ytkeonempmchpnaa
