/- JournalEpochs, walked. Conditions: none. -/
import Derived.Test.YtgppaompcnllbaaWants
namespace Go.Proofs.Ytgppaompcnllbaa
open Go.RowKit

theorem laid_nil {l : List Sec} {e p : Nat} {acc : List (List UInt8)} {pos : Nat} (h : Laid l e p acc pos) : acc = [] → pos = p := by
  induction h with
  | nil => intro _; rfl
  | snoc _ _ _ => intro h; simp at h
theorem laid_first {l : List Sec} {e p : Nat} {acc : List (List UInt8)} {pos : Nat} (h : Laid l e p acc pos) (hb : ∀ b ∈ acc, b.length ≤ 4096) : acc ≠ [] → ∃ n, n ≤ 4096 ∧ l[p]? = some (headS e 0 n) := by
  induction h with
  | nil => intro h; exact absurd rfl h
  | @snoc acc pos b h hs ih =>
    intro _
    by_cases ha : acc = []
    · subst ha
      have := laid_nil h rfl
      subst this
      exact ⟨b.length, hb b (by simp), hs.head⟩
    · exact ih (fun c hc => hb c (by simp [hc])) ha
/-- Open, of whatever lies there. -/
theorem openR {lo : Nat} {w : World} {b : Nat} {K : List Sec} (h : RestL lo w b K) (p to e : Nat) (h1 : p ≤ to) (h2 : to ≤ K.length) (h3 : e < 2 ^ 64) :
    Calls Try.prog 11 #[.pointer (some ⟨b, 0, none⟩), .int .i64 p, .int .i64 to, .int .u64 e] w fun en w' => ∃ g acc pos, en = .returned (.tuple #[.pointer (some ⟨g, 0, none⟩), .int .i64 0]) ∧ Reads K e to p acc pos ∧ Lg (In w.heap.size w'.heap.size) w' g b ⟨pos, to, e, acc⟩ ∧ Below w.heap.size w w' := by
  obtain ⟨h0, T, ⟨s, hD, rfl, hc⟩, hT⟩ := h
  refine (jopen_any hD hc.dead p to e h1 h2 h3).mono fun en w' h => ?_
  obtain ⟨g, acc, pos, he, hr, hL, hb⟩ := h
  rw [hc.now] at hr
  exact ⟨g, acc, pos, he, hr, hL, hb⟩

theorem new150 (w : World) : Calls Try.prog 10 #[.int .i64 150] w fun e w' => ∃ b, e = .returned (.tuple #[.pointer (some ⟨b, 0, none⟩), .int .i64 0]) ∧ RestL w.heap.size w' b (St.fresh 150).kept ∧ Below w.heap.size w w' := restL_new w 150 (by omega) (by omega)
theorem open150 {lo : Nat} {w : World} {b e : Nat} {K : List Sec} (h : RestL lo w b K) {acc : List (List UInt8)} {pos : Nat} (hg : Good K e 0 acc pos 150) (hK : K.length = 150) (h3 : e < 2 ^ 64) :
    Calls Try.prog 11 #[.pointer (some ⟨b, 0, none⟩), .int .i64 0, .int .i64 150, .int .u64 e] w fun en w' => ∃ g, en = .returned (.tuple #[.pointer (some ⟨g, 0, none⟩), .int .i64 0]) ∧ LiveL lo w' g b 0 K ⟨pos, 150, e, acc⟩ ∧ RestL lo w' b K ∧ Lg (In w.heap.size w'.heap.size) w' g b ⟨pos, 150, e, acc⟩ ∧ Below w.heap.size w w' := openL h hg (Nat.zero_le _) (by rw [hK]; exact Nat.le_refl _) h3
theorem openR150 {lo : Nat} {w : World} {b e : Nat} {K : List Sec} (h : RestL lo w b K) (hK : K.length = 150) (h3 : e < 2 ^ 64) :
    Calls Try.prog 11 #[.pointer (some ⟨b, 0, none⟩), .int .i64 0, .int .i64 150, .int .u64 e] w fun en w' => ∃ g acc pos, en = .returned (.tuple #[.pointer (some ⟨g, 0, none⟩), .int .i64 0]) ∧ Reads K e 150 0 acc pos ∧ Lg (In w.heap.size w'.heap.size) w' g b ⟨pos, 150, e, acc⟩ ∧ Below w.heap.size w w' := openR h 0 150 e (Nat.zero_le _) (by rw [hK]; exact Nat.le_refl _) h3

/-- How the first loop's log stands. -/
structure E1 (x y n : Nat) (K : List Sec) (t : LSt) : Prop where
  epoch : t.epoch = x
  to : t.to = 150
  next : t.next ≤ 6 * n
  clean : Clean K y 0 150
  len : K.length = 150
theorem E1.add {x y n : Nat} {K : List Sec} {t : LSt} (h : E1 x y n K t) (ht : t.Ok) (hxy : x ≠ y) {l : List UInt8} (hl : l.length ≤ 300) (hn : n < 12) : E1 x y (n + 1) (laidK K t l) (t.add l) := by
  have hz := szN_300 hl
  have h1 := h.next
  have h2 := h.len
  exact ⟨h.epoch, h.to, by show t.next + szN l.length ≤ _; omega, clean_add h.clean ht (by rw [h.epoch]; exact hxy) (by omega) (by omega), by rw [laidK_len]; exact h2⟩
structure E2 (y n : Nat) (K : List Sec) (t : LSt) (R : List (List UInt8)) : Prop where
  epoch : t.epoch = y
  to : t.to = 150
  next : t.next ≤ 6 * n
  recs : t.recs = R
  len : K.length = 150
theorem E2.add {y n : Nat} {K : List Sec} {t : LSt} {R : List (List UInt8)} (h : E2 y n K t R) {l : List UInt8} (hl : l.length ≤ 300) : E2 y (n + 1) (laidK K t l) (t.add l) (R ++ [l]) := by
  have hz := szN_300 hl
  have h1 := h.next
  exact ⟨h.epoch, h.to, by show t.next + szN l.length ≤ _; omega, by show t.recs ++ [l] = _; rw [h.recs], by rw [laidK_len]; exact h.len⟩
theorem no_other {K : List Sec} {x y next : Nat} {recs : List (List UInt8)} (h : Good K y 0 recs next 150) (hy : y < 2 ^ 64) (hxy : x ≠ y) (hne : recs ≠ []) {acc : List (List UInt8)} {pos : Nat} (hr : Reads K x 150 0 acc pos) : acc = [] := by
  obtain ⟨n, hn, hh⟩ := laid_first h.laid h.sz hne
  have h0 : recAt K x 0 0 150 = none := recAt_head (by rw [List.getD_eq_getElem?_getD, hh]; exact headIs_other hy (by decide) (by omega) (fun e => hxy e.symm) 0)
  exact (hr.one (show Reads K x 150 0 [] 0 from ⟨.nil, h0⟩)).1.symm
theorem openO {lo : Nat} {w : World} {b x y : Nat} {K : List Sec} (h : RestL lo w b K) (hK : K.length = 150) (hx : x < 2 ^ 64) {recs : List (List UInt8)} {next : Nat} (hg : Good K y 0 recs next 150) (hy : y < 2 ^ 64) (hxy : x ≠ y) (hne : recs ≠ []) :
    Calls Try.prog 11 #[.pointer (some ⟨b, 0, none⟩), .int .i64 0, .int .i64 150, .int .u64 x] w fun en w' => ∃ g pos, en = .returned (.tuple #[.pointer (some ⟨g, 0, none⟩), .int .i64 0]) ∧ Lg (In w.heap.size w'.heap.size) w' g b ⟨pos, 150, x, []⟩ ∧ Below w.heap.size w w' :=
  (openR150 h hK hx).mono fun en w' ⟨g, acc, pos, he, hr, hL, hb⟩ => ⟨g, pos, he, by rw [no_other hg hy hxy hne hr] at hL; exact hL, hb⟩
theorem rec_none {L : Nat → Prop} {w : World} {g b pos e : Nat} (h : Lg L w g b ⟨pos, 150, e, []⟩) : Calls Try.prog 16 #[.pointer (some ⟨g, 0, none⟩)] w fun e w' => ∃ A c, e = .returned (.slice A 0 c) ∧ Below w.heap.size w w' :=
  (records_any h).mono fun _ _ ⟨A, c, he, _, hb⟩ => ⟨A, c, he, hb⟩
theorem room150 {L : Nat → Prop} {w : World} {g b e : Nat} (h : Lg L w g b ⟨0, 150, e, []⟩) : Calls Try.prog 17 #[.pointer (some ⟨g, 0, none⟩)] w fun e w' => e = .returned (.int .i64 150) ∧ Below w.heap.size w w' := room_any h
theorem rec_some {L : Nat → Prop} {w : World} {g b n : Nat} {t : LSt} (h : Lg L w g b t) (hn : t.recs.length = n) : Calls Try.prog 16 #[.pointer (some ⟨g, 0, none⟩)] w fun e w' => ∃ A c, e = .returned (.slice A n c) ∧ RRs w' A c t.recs ∧ Below w.heap.size w w' := by
  subst hn
  exact records_any h
theorem append_nil0 (w : World) : Calls Try.prog 14 #[.pointer none, .slice none 0 0] w fun e w' => e = .returned (.int .i64 1) ∧ w' = w := append_nil w none 0 0

set_option maxRecDepth 100000 in
set_option maxHeartbeats 16000000 in
theorem epochs_walk (w : World) (A0 : Option Addr) (c0 : Nat) (l0 : List Rw) (A1 : Option Addr) (c1 : Nat) (l1 : List Rw) (x y : Nat) (r0 : Rd w w.heap.size 1 A0 l0.length c0 (l0.map rwCell)) (f0 : ∀ a ∈ l0, RwOk w a) (r1 : Rd w w.heap.size 1 A1 l1.length c1 (l1.map rwCell)) (f1 : ∀ a ∈ l1, RwOk w a) (hx : x < 2 ^ 64) (hy : y < 2 ^ 64) :
    Calls Try.prog 6 #[.slice A0 l0.length c0, .slice A1 l1.length c1, .int .u64 x, .int .u64 y] w fun en w' => en = .returned (.bool true) ∧ Below w.heap.size w w' := by
  have Hb := Lib.hid (Below.refl w.heap.size w)
  have hB : w.heap.size ≤ w.heap.size := Nat.le_refl _
  have kF := fun W (hb : Below w.heap.size w W) => few_any W (r0.below hb)
  have kG := fun W (hb : Below w.heap.size w W) => few_any W (r1.below hb)
  have hm0 := rows_capm r0
  have hm1 := rows_capm r1
  have Hx := Lib.hid hx
  have Hy := Lib.hid hy
  clear hx hy
  cases hfew : fewR l0 with
  | false =>
    rw [hfew] at kF
    go_enter Try.func6, Try.ntmps6
    go_wp2_with (first
      | ((with_reducible refine (awake_any _).mono ?_); rintro en w1 ⟨rfl, hb⟩; obtain ⟨Hb, hB⟩ := chain Hb hB hb; clear hb)
      | ((with_reducible refine (kF _ Hb.out).mono ?_); rintro en w2 ⟨rfl, rfl⟩)
      | ((with_reducible refine (kG _ Hb.out).mono ?_); rintro en w3 ⟨rfl, rfl⟩))
    go_ret
    exact ⟨rfl, Hb.out⟩
  | true =>
  rw [hfew] at kF
  cases hfew2 : fewR l1 with
  | false =>
    rw [hfew2] at kG
    go_enter Try.func6, Try.ntmps6
    go_wp2_with (first
      | ((with_reducible refine (awake_any _).mono ?_); rintro en w1 ⟨rfl, hb⟩; obtain ⟨Hb, hB⟩ := chain Hb hB hb; clear hb)
      | ((with_reducible refine (kF _ Hb.out).mono ?_); rintro en w2 ⟨rfl, rfl⟩)
      | ((with_reducible refine (kG _ Hb.out).mono ?_); rintro en w3 ⟨rfl, rfl⟩))
    go_ret
    exact ⟨rfl, Hb.out⟩
  | true =>
  rw [hfew2] at kG
  by_cases hxy : x = y
  · subst hxy
    go_enter Try.func6, Try.ntmps6
    go_wp2_with (first
      | ((with_reducible refine (awake_any _).mono ?_); rintro en w1 ⟨rfl, hb⟩; obtain ⟨Hb, hB⟩ := chain Hb hB hb; clear hb)
      | ((with_reducible refine (kF _ Hb.out).mono ?_); rintro en w2 ⟨rfl, rfl⟩)
      | ((with_reducible refine (kG _ Hb.out).mono ?_); rintro en w3 ⟨rfl, rfl⟩))
    go_ret
    exact ⟨rfl, Hb.out⟩
  obtain ⟨hs0, hl0⟩ := fewR_iff.1 hfew
  obtain ⟨hs1, hl1⟩ := fewR_iff.1 hfew2
  have Hs0 := Lib.hid hs0
  have Hs1 := Lib.hid hs1
  have hxyb : ((x : Int) == (y : Int)) = false := by simp; omega
  have k0 : (St.fresh 150).kept.length = 150 := by simp [St.fresh]
  have kO := fun (lo : Nat) (W : World) (b : Nat) (h : RestL lo W b (St.fresh 150).kept) => open150 h (e := x) (Good.new (clean_fresh 150 x 0 150) (by omega)) k0 Hx.out
  clear hs0 hs1 hfew hfew2
  go_enter Try.func6, Try.ntmps6
  go_wp2_with (first
    | ((with_reducible refine (awake_any _).mono ?_); rintro en w1 ⟨rfl, hb⟩; obtain ⟨Hb, hB⟩ := chain Hb hB hb; clear hb)
    | ((with_reducible refine (kF _ Hb.out).mono ?_); rintro en w2 ⟨rfl, rfl⟩)
    | ((with_reducible refine (kG _ Hb.out).mono ?_); rintro en w3 ⟨rfl, rfl⟩)
    | ((with_reducible refine (new150 _).mono ?_); rintro en w4 ⟨b, rfl, d4, hb⟩; have hlo := hB; obtain ⟨Hb, hB⟩ := chain Hb hB hb; clear hb)
    | ((with_reducible refine (kO _ _ _ d4).mono ?_); rintro en w5 ⟨g, rfl, l5, _, _, hb⟩; obtain ⟨Hb, hB⟩ := chain Hb hB hb; clear hb))
  have e0 : E1 x y 0 (St.fresh 150).kept ⟨0, 150, x, []⟩ := ⟨rfl, rfl, Nat.le_refl _, clean_fresh 150 y 0 150, k0⟩
  have L0 := l5.less hlo
  clear l5 kO kF kG d4
  go_loopw [16] (fun vi wr => ∃ (k : Nat) (K : List Sec) (t : LSt), vi = .int .i64 k ∧ k ≤ l0.length ∧ LiveL w.heap.size wr g b 0 K t ∧ E1 x y k K t ∧ Below w.heap.size w wr) (fun vi _ => l0.length - (intOf vi).toNat)
  case atStart => exact ⟨0, _, _, rfl, Nat.zero_le _, L0, e0, Hb.out⟩
  case round =>
    obtain ⟨k, K, t, rfl, hk, hL, hE, hb⟩ := hrel
    by_cases hlt : k < l0.length
    · have hlz : (k : Int) < (l0.length : Int) := by omega
      obtain ⟨a, ha⟩ : ∃ a, l0[k]? = some a := ⟨l0[k], List.getElem?_eq_getElem hlt⟩
      obtain ⟨q, o, rfl, hq, cq⟩ := rows_at r0 ha
      have cq' := (hb.cell (p := ⟨q, o + k, none⟩) hq).trans cq
      have hal := Hs0.out a (List.mem_of_getElem? ha)
      have ka := appendL (w0 := w) hL (f0 a (List.mem_of_getElem? ha)) hb (by omega) (by have := szN_300 hal; have := hE.next; have := hE.to; omega)
      have HE := Lib.hid (hE.add hL.tok (fun e => hxy e) hal (by omega))
      have Hb2 := Lib.hid hb
      clear hE hb ha cq
      go_wp2_with (first
        | ((with_reducible refine ka.mono ?_); rintro en w6 ⟨rfl, hL2, hb2⟩))
      go_roundw
      case rel => exact ⟨k + 1, _, _, by simp, by omega, hL2, HE.out, Hb2.out.trans hb2⟩
      case measure => simp [intOf]; omega
    · obtain rfl : k = l0.length := by omega
      have hlz : decide (l0.length < l0.length) = false := by simp
      have hKl := hE.len
      have kO := fun (W : World) (h : RestL w.heap.size W b K) => open150 h (e := y) (Good.new hE.clean (by omega)) hKl Hy.out
      have Hb := Lib.hid hb
      have hB := hb.size
      have R0 := hL.rest
      clear hE hL hb Hs0
      go_wp2_with (first
        | ((with_reducible refine (kO _ R0).mono ?_); rintro en w6 ⟨g2, rfl, l6, _, n6, hb⟩; obtain ⟨Hb, hB⟩ := chain Hb hB hb; clear hb R0)
        | ((with_reducible refine (rec_none n6).mono ?_); rintro en w7 ⟨A3, c3, rfl, hb⟩; have l7 := l6.below hb; have n7 := n6.below hb; obtain ⟨Hb, hB⟩ := chain Hb hB hb; clear hb l6 n6)
        | ((with_reducible refine (room150 n7).mono ?_); rintro en w8 ⟨rfl, hb⟩; have l8 := l7.below hb; obtain ⟨Hb, hB⟩ := chain Hb hB hb; clear hb l7 n7))
      obtain ⟨T8, L8, B8⟩ := l8.out
      have e2 : E2 y 0 K ⟨0, 150, y, []⟩ ((l1.map Rw.b).take 0) := ⟨rfl, rfl, Nat.le_refl _, rfl, hKl⟩
      clear kO l8
      obtain ⟨i0, hi, hz0, hz1, hz2⟩ := info_parts info_str
      go_loopw [19, 20] (fun vw vi wr => ∃ (k : Nat) (K : List Sec) (t : LSt) (T : Nat → Prop), vi = .int .i64 k ∧ k ≤ l1.length ∧ Live T wr g2 b 0 K t ∧ Beside w.heap.size T wr vw ((l1.map Rw.b).take k) ∧ E2 y k K t ((l1.map Rw.b).take k) ∧ Below w.heap.size w wr) (fun _ vi _ => l1.length - (intOf vi).toNat)
      case atStart => exact ⟨0, _, _, _, rfl, Nat.zero_le _, L8, B8, e2, Hb.out⟩
      case round =>
        obtain ⟨k, K, t, T, rfl, hk, hL, hS, hE, hb⟩ := hrel
        by_cases hlt : k < l1.length
        · have hlz : (k : Int) < (l1.length : Int) := by omega
          obtain ⟨a, ha⟩ : ∃ a, l1[k]? = some a := ⟨l1[k], List.getElem?_eq_getElem hlt⟩
          obtain ⟨q, o, rfl, hq, cq⟩ := rows_at r1 ha
          have hal := Hs1.out a (List.mem_of_getElem? ha)
          have fa := f1 a (List.mem_of_getElem? ha)
          have kc := fun W (h : Below w.heap.size w W) => (h.cell (p := ⟨q, o + k, none⟩) hq).trans cq
          have kv := fun W (h : Below w.heap.size w W) => (RwOk.below fa h).conv (P := Try.prog) 36 9 5 Try.underlying36 Try.underlying5 Try.underlying9
          have c0 := kc _ hb
          have hrl := recs_len hk
          obtain ⟨A3, c3, rfl, _⟩ := hS.rdN hrl
          have ka := live_appendW hL hS fa rfl hb (by omega) (by have := szN_300 hal; have := hE.next; have := hE.to; omega)
          have HE := Lib.hid (hE.add hal)
          have hrt := recs_take ha
          have Hb2 := Lib.hid hb
          have Hrt := Lib.hid hrt
          have Hrl := Lib.hid hrl
          have hLe : k ≤ 9223372036854775807 := by omega
          clear hE hb ha cq hrt hrl
          go_wp2_with (first
            | ((with_reducible refine ka.mono ?_); rintro en w9 ⟨rfl, hL2, hS2, hb2⟩; have hb3 := Hb2.out.trans hb2; have c9 := kc _ hb3; have v9 := kv _ hb3; replace hb3 := Lib.hid hb3; replace hb2 := Lib.hid hb2; have ho := hS2.rowN Hrl.out; clear c0 ka)
            | (at_builtin; refine wpList_append_src _ rfl (.tmp 103) (.tmp 109) 33 33 rfl w.heap.size 9 i0 (.string .empty) 1 16 Try.underlying33 hi hz0 hz1 hz2 rfl (by decide) _ _ _ rfl (ho.alloc _) _ 1 [_] rfl (Src.ofSlice _ Try.underlying33 _ 1 1 _ rfl (cell_one_new _ _ _) (fun u hu => by simp at hu; subst hu; rfl)) (by simp only [maxLen]; omega) (by omega) (by simp; have := hS2.lo; omega) ?_; intro v4 w10 hown hg hat))
          obtain ⟨hS3, hk3, hb4⟩ := hS2.put Hrl.out hown hg hat
          have hL3 := hL2.put hS2 hk3
          rw [← Hrt.out] at hS3 HE
          go_roundw
          case rel => exact ⟨k + 1, _, _, _, by simp, by omega, hL3, hS3, HE.out, hb3.out.trans hb4⟩
          case measure => simp [intOf]; omega
        · obtain rfl : k = l1.length := by omega
          have htk : (l1.map Rw.b).take l1.length = l1.map Rw.b := List.take_of_length_le (by simp)
          have hlm : (l1.map Rw.b).length = l1.length := by simp
          have hlz : decide (l1.length < l1.length) = false := by simp
          rw [htk] at hS hE
          have hG := hL.good
          rw [hE.epoch, hE.recs, hE.to] at hG
          have hKl := hE.len
          generalize t.next = nx at hG
          have R0 := hL.restL hS
          have Hb := Lib.hid hb
          have hB := hb.size
          obtain ⟨A3, c3, rfl, hrd⟩ := hS.rdN hlm
          have kn := fun (W : World) (h : RestL w.heap.size W b K) => open150 h (e := y) hG hKl Hy.out
          have ko := fun (W : World) (h : RestL w.heap.size W b K) (hne : l1.map Rw.b ≠ []) => openO h hKl Hx.out hG Hy.out hxy hne
          have ko2 := fun (W : World) (h : RestL w.heap.size W b K) => openR150 h (e := x) hKl Hx.out
          have Hlm := Lib.hid hlm
          clear hE hL hb hS htk hlm Hs1 hi hz0 hz1 hz2 i0
          by_cases hz : l1.length = 0
          · have hlp : ((l1.length : Int) == 0) = true := by rw [hz]; rfl
            go_wp2_with (first
              | ((with_reducible refine (kn _ R0).mono ?_); rintro en w9 ⟨g3, rfl, _, R9, n9, hb⟩; have d9 := (hrd.below hb).more hb.size; obtain ⟨Hb, hB⟩ := chain Hb hB hb; clear hb R0 hrd)
              | ((with_reducible refine (ko2 _ R9).mono ?_); rintro en w10 ⟨g4, acc4, ps, rfl, _, o10, hb⟩; have d10 := (d9.below hb).more hb.size; have n10 := n9.below hb; obtain ⟨Hb, hB⟩ := chain Hb hB hb; clear hb R9 d9 n9)
              | ((with_reducible refine (jopen_nil _ _ _ _).mono ?_); rintro en w11 ⟨rfl, rfl⟩)
              | ((with_reducible refine (rec_some n10 (Hlm.out.trans hz)).mono ?_); rintro en w12 ⟨A4, c4, rfl, rr12, hb⟩; have o12 := o10.below hb; have d12 := (d10.below hb).more hb.size; rw [hz] at d12; obtain ⟨Hb, hB⟩ := chain Hb hB hb; clear hb o10 n10 d10)
              | ((with_reducible refine (same_selfN (Hlm.out.trans hz) rr12 d12).mono ?_); rintro en w13 ⟨rfl, hb⟩; have o13 := o12.below hb; obtain ⟨Hb, hB⟩ := chain Hb hB hb; clear hb o12 d12 rr12)
              | ((with_reducible refine (records_nil _).mono ?_); rintro en w15 ⟨rfl, rfl⟩)
              | ((with_reducible refine (room_nil _).mono ?_); rintro en w16 ⟨rfl, rfl⟩)
              | ((with_reducible refine (append_nil0 _).mono ?_); rintro en w17 ⟨rfl, rfl⟩))
            go_ret
            exact ⟨rfl, Hb.out⟩
          · have hne : l1.map Rw.b ≠ [] := fun e => hz (by rw [← Hlm.out, e]; rfl)
            have hlp : ((l1.length : Int) == 0) = false := beq_eq_false_iff_ne.2 (by omega)
            go_wp2_with (first
              | ((with_reducible refine (kn _ R0).mono ?_); rintro en w9 ⟨g3, rfl, _, R9, n9, hb⟩; have d9 := (hrd.below hb).more hb.size; obtain ⟨Hb, hB⟩ := chain Hb hB hb; clear hb R0 hrd)
              | ((with_reducible refine (ko _ R9 hne).mono ?_); rintro en w10 ⟨g4, ps, rfl, o10, hb⟩; have d10 := (d9.below hb).more hb.size; have n10 := n9.below hb; obtain ⟨Hb, hB⟩ := chain Hb hB hb; clear hb R9 d9 n9)
              | ((with_reducible refine (jopen_nil _ _ _ _).mono ?_); rintro en w11 ⟨rfl, rfl⟩)
              | ((with_reducible refine (rec_some n10 Hlm.out).mono ?_); rintro en w12 ⟨A4, c4, rfl, rr12, hb⟩; have o12 := o10.below hb; have d12 := (d10.below hb).more hb.size; obtain ⟨Hb, hB⟩ := chain Hb hB hb; clear hb o10 n10 d10)
              | ((with_reducible refine (same_selfN Hlm.out rr12 d12).mono ?_); rintro en w13 ⟨rfl, hb⟩; have o13 := o12.below hb; obtain ⟨Hb, hB⟩ := chain Hb hB hb; clear hb o12 d12 rr12)
              | ((with_reducible refine (rec_none o13).mono ?_); rintro en w14 ⟨A5, c5, rfl, hb⟩; obtain ⟨Hb, hB⟩ := chain Hb hB hb; clear hb o13)
              | ((with_reducible refine (records_nil _).mono ?_); rintro en w15 ⟨rfl, rfl⟩)
              | ((with_reducible refine (room_nil _).mono ?_); rintro en w16 ⟨rfl, rfl⟩)
              | ((with_reducible refine (append_nil0 _).mono ?_); rintro en w17 ⟨rfl, rfl⟩))
            go_ret
            exact ⟨rfl, Hb.out⟩

theorem journalEpochs_walk (A0 : Option Addr) (c0 : Nat) (l0 : List Rw) (A1 : Option Addr) (c1 : Nat) (l1 : List Rw) (x2 : Int) (x3 : Int) (w : World) (r0 : Rd w w.heap.size 1 A0 l0.length c0 (l0.map rwCell)) (f0 : ∀ a ∈ l0, RwOk w a) (r1 : Rd w w.heap.size 1 A1 l1.length c1 (l1.map rwCell)) (f1 : ∀ a ∈ l1, RwOk w a) (f2 : (Lit.int .u64 x2).wf = true) (f3 : (Lit.int .u64 x3).wf = true) :
    Calls Try.prog 6 #[.slice A0 l0.length c0, .slice A1 l1.length c1, .int .u64 x2, .int .u64 x3] w fun e w' => e = .returned (.bool true) ∧ Below w.heap.size w w' := by
  obtain ⟨x, rfl, hx⟩ := wf_u64 f2
  obtain ⟨y, rfl, hy⟩ := wf_u64 f3
  exact epochs_walk w A0 c0 l0 A1 c1 l1 x y r0 f0 r1 f1 hx hy
end Go.Proofs.Ytgppaompcnllbaa
